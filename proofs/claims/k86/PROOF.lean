import PyProof.Rows.All
import Wide.All
import OpenK.AllK
import Wide.FinOn
import KE.GoesMore
import HandS.ForMost
import HandS.IsInst
import HandS.TupAny
import HandS.Zip
import HandS.Strs
import HandS.Style
import HandS.Walk
import HandS.Defaults
import KE.KExcIs
import HandS.ExcInit
import HandS.ExcIs
import HandS.ExcField
import HandS.HeadHook1
import HandS.HeadHook4
import HandS.Head2
import KE.KStateDown
import HandS.Head0
import HandS.Head1
import HandS.HeadEnd
import KE.GoesEnum
import PyProof.DictUpdate
import PyProof.EnumMake
import HandS.TupSets
import PyProof.Rows.SortShellAny
import PyProof.Rows.SortStr
import HandS.Text
import HandS.Codes
import KE.GoesZip
import HandS.CallLocal
import HandS.FStr
import HandS.Steps
import HandS.RaiseMore
import HandS.Evl
import HandS.Deep
import HandS.Star
import HandS.SlotsOwn
import HandS.DictTup
import PyProof.Rows.TupDisplay
import KE.KDictDisplayH
import HandS.ExcValue
import HandS.ExcOwn
import PySem.Challenge.RW_kinsignals_k86_numbers_of_many_figures
set_option Elab.async false
set_option linter.all false
set_option maxRecDepth 100000
set_option maxHeartbeats 4000000
/-! Own layer: a def as its caller sees it, data told as a whole, heaps. -/
namespace Kin
open PySem PySem.Spec PyProof.Rows L2

/-! ### a def as its caller sees it -/
structure Cal (P : Program) (w : World) (K : PySem.W.Frag) (mg : Str → Option Value) (base : Heap) (x : Str) (ps : List Str) (k : Nat) (sp : Sp) : Prop where
  ex : ∃ (f : Addr) (fd : FuncData), FnOk P w K mg base CX0 k f fd ps sp ∧ mg x = some (.ref f) ∧ PySem.W.keepIn K (.ref f) = true ∧ Binds K fd ps []
section
variable {X : Cx} {x : Str} {ps : List Str} {k : Nat} {sp : Sp} {e : Expr} {es : List Expr} {t : TA} {p pos : Pos}
theorem pe_cal (c : Cal X.prog X.w X.K X.mg X.base x ps k sp) (hr : Room k X.A) (hg : Gl X x) (hx : Passes CX0 X E0) (ha : PA X (e :: es) t) (hdb : (x == ("__debug__" : Str)) = false := by decide)
    (he : starEach (e :: es) X.env = (false, eval e X.env) :: starEach es X.env := by rfl) (hpl : (backTo pos (starEach es X.env)).any (·.1) = false := by rfl) :
    PE X (.Call (.Name x p) (e :: es) [] pos) (tCall sp [] E0 t) := by
  obtain ⟨f, fd, F, hm, hk, hb⟩ := c.ex
  exact pe_call F hr hg hm hk hb .nil hx ha hdb he hpl
theorem pe_cal0 (c : Cal X.prog X.w X.K X.mg X.base x ps k sp) (hr : Room k X.A) (hg : Gl X x) (hx : Passes CX0 X E0) (hdb : (x == ("__debug__" : Str)) = false := by decide) :
    PE X (.Call (.Name x p) [] [] pos) (tCall sp [] E0 tNil) := by
  obtain ⟨f, fd, F, hm, hk, hb⟩ := c.ex
  exact pe_call0 F hr hg hm hk hb .nil hx hdb
end

/-! ### heaps -/
theorem same_upd {H : Hp} {p : Addr} {o : HO} (h : H p = none) : Same H (upd H p o) := fun b x e => by
  rw [upd_ne (ne_of_none e h)]
  exact e
theorem Same.tup {K : PySem.W.Frag} {H H' : Hp} {a : Addr} {xs : List V} (e : Same H H') (h : SqT K H a xs) : SqT K H' a xs := by
  rcases h with (h | ⟨o, h⟩) | h
  · exact .inl (.inl (e _ _ h))
  · exact .inl (.inr ⟨o, e _ _ h⟩)
  · exact .inr h
theorem sqT_new {K : PySem.W.Frag} {H : Hp} {p : Addr} {xs : List V} : SqT K (upd H p (.tup xs)) p xs := .inl (.inl upd_same)
theorem sqL_new {K : PySem.W.Frag} {H : Hp} {p : Addr} {xs : List V} : SqL K (upd H p (.lst xs)) p xs := .inl (.inl upd_same)

/-! ### data: those of the library, and {} -/
mutual
/-- v stands for d in H -/
inductive Dp (K : PySem.W.Frag) (H : Hp) : V → PyData → Prop where
  | non : Dp K H .non .none
  | bl (t : Bool) : Dp K H (V.bl t) (PyData.bool t)
  | int (n : Int) : Dp K H (V.int n) (PyData.int n)
  | str (z : Str) : Dp K H (V.str z) (PyData.str z)
  | lst {p : Addr} {us : List V} {es : List PyData} (at_ : SqL K H p us) (each : DpAll K H us es) : Dp K H (V.ref p) (PyData.list es)
  | tup {p : Addr} {us : List V} {es : List PyData} (at_ : SqT K H p us) (each : DpAll K H us es) : Dp K H (V.ref p) (PyData.tuple es)
  | dct {p : Addr} (at_ : H p = some (.dK [])) : Dp K H (V.ref p) (PyData.dict [])
/-- one by one -/
inductive DpAll (K : PySem.W.Frag) (H : Hp) : List V → List PyData → Prop where
  | nil : DpAll K H [] []
  | cons {u : V} {us : List V} {e : PyData} {es : List PyData} (one : Dp K H u e) (rest : DpAll K H us es) : DpAll K H (u :: us) (e :: es)
end
section
variable {K : PySem.W.Frag} {H H' : Hp}
mutual
theorem dp_L2 : ∀ {d : PyData} {v : V}, d.canLay0 = true → Dp K H v d → L2.Dp K H v d
  | _, _, _, .non => .non
  | _, _, _, .bl b => .bl b
  | _, _, _, .int i => .int i
  | _, _, _, .str z => .str z
  | _, _, e, .lst h a => .lst h (dpA_L2 (by rw [PyData.canLay0] at e; exact e) a)
  | _, _, e, .tup h a => .tup h (dpA_L2 (by rw [PyData.canLay0] at e; exact e) a)
  | _, _, e, .dct _ => by rw [PyData.canLay0] at e; cases e
theorem dpA_L2 : ∀ {ds : List PyData} {vs : List V}, PyData.canLayAll0 ds = true → DpAll K H vs ds → L2.DpAll K H vs ds
  | _, _, _, .nil => .nil
  | _, _, e, .cons h t => by
    rw [PyData.canLayAll0] at e
    obtain ⟨e1, e2⟩ := Bool.and_eq_true_iff.mp e
    exact .cons (dp_L2 e1 h) (dpA_L2 e2 t)
end
end
section
variable {X : Cx}
def rEqD (K : PySem.W.Frag) : R2 := fun u v H Q => ∃ a b, Dp K H u a ∧ Dp K H v b ∧ SeqAt.shaped a = true ∧ SeqAt.shaped b = true ∧ Q (.bl (a.eqv b)) H
def rNeD (K : PySem.W.Frag) : R2 := fun u v H Q => ∃ a b, Dp K H u a ∧ Dp K H v b ∧ SeqAt.shaped a = true ∧ SeqAt.shaped b = true ∧ Q (.bl (!a.eqv b)) H
theorem op_eqD (hu : X.A.units + 64 < cLine) : OpR X (compareOp .Eq) (rEqD X.K) := fun pins s σ H x y v u Q I rx ry h => by
  obtain ⟨d, e, hd, he, sd, se, q⟩ := h
  exact L2.op_eqD hu pins s σ H x y v u Q I rx ry ⟨d, e, dp_L2 (SeqAt.canLay_of_shaped sd) hd, dp_L2 (SeqAt.canLay_of_shaped se) he, sd, se, q⟩
theorem op_neD (hu : X.A.units + 64 < cLine) : OpR X (compareOp .NotEq) (rNeD X.K) := fun pins s σ H x y v u Q I rx ry h => by
  obtain ⟨d, e, hd, he, sd, se, q⟩ := h
  exact L2.op_neD hu pins s σ H x y v u Q I rx ry ⟨d, e, dp_L2 (SeqAt.canLay_of_shaped sd) hd, dp_L2 (SeqAt.canLay_of_shaped se) he, sd, se, q⟩
end
section
variable {K : PySem.W.Frag} {H H' : Hp}
mutual
theorem dp_mono (e : Same H H') : ∀ {d : PyData} {v : V}, Dp K H v d → Dp K H' v d
  | _, _, .non => .non
  | _, _, .bl b => .bl b
  | _, _, .int i => .int i
  | _, _, .str x => .str x
  | _, _, .lst h a => .lst (e.seq h) (dpA_mono e a)
  | _, _, .tup h a => .tup (Same.tup e h) (dpA_mono e a)
  | _, _, .dct h => .dct (e _ _ h)
theorem dpA_mono (e : Same H H') : ∀ {ds : List PyData} {vs : List V}, DpAll K H vs ds → DpAll K H' vs ds
  | _, _, .nil => .nil
  | _, _, .cons h t => .cons (dp_mono e h) (dpA_mono e t)
end
theorem dpA_len : ∀ {ds : List PyData} {vs : List V}, DpAll K H vs ds → vs.length = ds.length
  | _, _, .nil => rfl
  | _, _, .cons _ t => by rw [List.length_cons, List.length_cons, dpA_len t]
theorem dpA_get : ∀ {ds : List PyData} {vs : List V} {i : Nat} {v : V}, DpAll K H vs ds → vs[i]? = some v → ∃ d, ds[i]? = some d ∧ Dp K H v d
  | _, _, 0, _, .cons h _, e => ⟨_, rfl, by cases e; exact h⟩
  | _, _, i + 1, _, .cons _ t, e => by
    obtain ⟨d, h1, h2⟩ := dpA_get (i := i) t (by simpa using e)
    exact ⟨d, by simpa using h1, h2⟩
  | _, _, _, _, .nil, e => by simp at e
theorem dpA_app : ∀ {ds es : List PyData} {vs ws : List V}, DpAll K H vs ds → DpAll K H ws es → DpAll K H (vs ++ ws) (ds ++ es)
  | _, _, _, _, .nil, h => h
  | _, _, _, _, .cons h t, h' => .cons h (dpA_app t h')
theorem dpA_drop : ∀ {ds : List PyData} {vs : List V} (n : Nat), DpAll K H vs ds → DpAll K H (vs.drop n) (ds.drop n)
  | _, _, 0, h => h
  | _, _, n + 1, .nil => .nil
  | _, _, n + 1, .cons _ t => dpA_drop n t
theorem dpA_take : ∀ {ds : List PyData} {vs : List V} (n : Nat), DpAll K H vs ds → DpAll K H (vs.take n) (ds.take n)
  | _, _, 0, _ => .nil
  | _, _, n + 1, .nil => .nil
  | _, _, n + 1, .cons h t => .cons h (dpA_take n t)
theorem dpA_rev {ds : List PyData} {vs : List V} (h : DpAll K H vs ds) : DpAll K H vs.reverse ds.reverse := by
  induction vs generalizing ds with
  | nil =>
    cases h
    exact .nil
  | cons v r ih =>
    cases h with
    | cons h t =>
      rw [List.reverse_cons, List.reverse_cons]
      exact dpA_app (ih t) (.cons h .nil)
theorem dpA_strs (ws : List Str) : DpAll K H (ws.map V.str) (ws.map PyData.str) := by
  induction ws with
  | nil => exact .nil
  | cons w r ih => exact .cons (.str w) ih

/-- a datum's type, and what isinstance says of it -/
def tyD : PyData → String
  | .none => "NoneType"
  | .bool _ => "bool"
  | .int _ => "int"
  | .str _ => "str"
  | .list _ => "list"
  | .tuple _ => "tuple"
  | .dict _ => "dict"
theorem tyx_of {v : V} {d : PyData} (h : Dp K H v d) : TyX K H v (.type (tyD d)) := by
  cases h with
  | non => exact .base .non
  | bl b => exact .base (.bl b)
  | int i => exact .base (.int i)
  | str x => exact .base (.str x)
  | lst h a =>
    rcases h with (h | ⟨o, h⟩) | ⟨o, its, n, h, hc, _⟩
    · exact .base (.lst h)
    · exact .base (.frz h)
    · exact .kList h hc
  | tup h a =>
    rcases h with (h | ⟨o, h⟩) | ⟨o, its, n, h, hc, _⟩
    · exact .base (.tup h)
    · exact .fTuple h
    · exact .kTuple h hc
  | dct h => exact .base (.dK h)
def isaInt : PyData → Bool
  | .int _ => true
  | .bool _ => true
  | _ => false
def isaBool : PyData → Bool
  | .bool _ => true
  | _ => false
def isaStr : PyData → Bool
  | .str _ => true
  | _ => false
def isaTup : PyData → Bool
  | .tuple _ => true
  | _ => false
def nodict : PyData → Bool := fun _ => true
theorem nd_of {v : V} {d : PyData} (h : Dp K H v d) : nodict d = true := rfl
theorem kit_int : ∀ {d : PyData}, nodict d = true → PySem.W.kitOne K (.type (tyD d)) (.type "int") = some (isaInt d)
  | .none, _ => kit_ty (a := "NoneType") (r := false) (by decide +kernel)
  | .bool _, _ => kit_ty (a := "bool") (r := true) (by decide +kernel)
  | .int _, _ => kit_ty (a := "int") (r := true) (by decide +kernel)
  | .str _, _ => kit_ty (a := "str") (r := false) (by decide +kernel)
  | .list _, _ => kit_ty (a := "list") (r := false) (by decide +kernel)
  | .tuple _, _ => kit_ty (a := "tuple") (r := false) (by decide +kernel)
  | .dict _, _ => kit_ty (a := "dict") (r := false) (by decide +kernel)
theorem kit_bool : ∀ {d : PyData}, nodict d = true → PySem.W.kitOne K (.type (tyD d)) (.type "bool") = some (isaBool d)
  | .none, _ => kit_ty (a := "NoneType") (r := false) (by decide +kernel)
  | .bool _, _ => kit_ty (a := "bool") (r := true) (by decide +kernel)
  | .int _, _ => kit_ty (a := "int") (r := false) (by decide +kernel)
  | .str _, _ => kit_ty (a := "str") (r := false) (by decide +kernel)
  | .list _, _ => kit_ty (a := "list") (r := false) (by decide +kernel)
  | .tuple _, _ => kit_ty (a := "tuple") (r := false) (by decide +kernel)
  | .dict _, _ => kit_ty (a := "dict") (r := false) (by decide +kernel)
theorem kit_str : ∀ {d : PyData}, nodict d = true → PySem.W.kitOne K (.type (tyD d)) (.type "str") = some (isaStr d)
  | .none, _ => kit_ty (a := "NoneType") (r := false) (by decide +kernel)
  | .bool _, _ => kit_ty (a := "bool") (r := false) (by decide +kernel)
  | .int _, _ => kit_ty (a := "int") (r := false) (by decide +kernel)
  | .str _, _ => kit_ty (a := "str") (r := true) (by decide +kernel)
  | .list _, _ => kit_ty (a := "list") (r := false) (by decide +kernel)
  | .tuple _, _ => kit_ty (a := "tuple") (r := false) (by decide +kernel)
  | .dict _, _ => kit_ty (a := "dict") (r := false) (by decide +kernel)
theorem kit_tup : ∀ {d : PyData}, nodict d = true → PySem.W.kitOne K (.type (tyD d)) (.type "tuple") = some (isaTup d)
  | .none, _ => kit_ty (a := "NoneType") (r := false) (by decide +kernel)
  | .bool _, _ => kit_ty (a := "bool") (r := false) (by decide +kernel)
  | .int _, _ => kit_ty (a := "int") (r := false) (by decide +kernel)
  | .str _, _ => kit_ty (a := "str") (r := false) (by decide +kernel)
  | .list _, _ => kit_ty (a := "list") (r := false) (by decide +kernel)
  | .tuple _, _ => kit_ty (a := "tuple") (r := true) (by decide +kernel)
  | .dict _, _ => kit_ty (a := "dict") (r := false) (by decide +kernel)
end

/-! ### words in tables -/
theorem inV_strs (z : Str) (ws : List Str) : inV (.str z) (ws.map V.str) = decide (z ∈ ws) := by
  unfold inV
  induction ws with
  | nil => simp
  | cons w r ih =>
    rw [List.map_cons, List.any_cons, ih]
    show ((w == z) || decide (z ∈ r)) = decide (z ∈ w :: r)
    by_cases h : w = z
    · subst h
      simp
    · have h2 : ¬ z = w := fun q => h q.symm
      simp [h, h2]
theorem flat_strs (ws : List Str) : (ws.map V.str).all flatV = true := by
  induction ws with
  | nil => rfl
  | cons w r ih =>
    rw [List.map_cons, List.all_cons, ih]
    rfl
theorem in_k {H : Hp} {z : Str} {ws : List Str} {Q : VK} (q : Q (.bl (decide (z ∈ ws))) H) : Q (.bl (inV (.str z) (ws.map V.str))) H := by
  rw [inV_strs]
  exact q
theorem notin_k {H : Hp} {z : Str} {ws : List Str} {Q : VK} (q : Q (.bl (!decide (z ∈ ws))) H) : Q (.bl (!inV (.str z) (ws.map V.str))) H := by
  rw [inV_strs]
  exact q

theorem iteLen {n : Nat} {m : Int} {A B : Prop} (h1 : (n : Int) ≠ m → A) (h2 : (n : Int) = m → B) : if (!decide (V.int (n : Int) = V.int m)) = true then A else B := by
  by_cases h : (n : Int) = m
  · have e : (!decide (V.int (n : Int) = V.int m)) = false := by rw [h]; simp
    rw [e]
    exact iteF (h2 h)
  · have e : (!decide (V.int (n : Int) = V.int m)) = true := by
      have : ¬ V.int (n : Int) = V.int m := fun q => h (V.int.inj q)
      simp [this]
    rw [e]
    exact iteT (h1 h)
theorem iteLenE {n : Nat} {m : Int} {A B : Prop} (h1 : (n : Int) = m → A) (h2 : (n : Int) ≠ m → B) : if decide (V.int (n : Int) = V.int m) = true then A else B := by
  by_cases h : (n : Int) = m
  · have e : decide (V.int (n : Int) = V.int m) = true := by rw [h]; simp
    rw [e]
    exact iteT (h1 h)
  · have e : decide (V.int (n : Int) = V.int m) = false := by
      have : ¬ V.int (n : Int) = V.int m := fun q => h (V.int.inj q)
      simp [this]
    rw [e]
    exact iteF (h2 h)
theorem dec_int' {a b : Int} : decide (V.int a = V.int b) = decide (a = b) := by
  by_cases h : a = b
  · subst h
    simp
  · have : ¬ V.int a = V.int b := fun q => h (V.int.inj q)
    simp [h, this]
theorem dec_str {a b : Str} : decide (V.str a = V.str b) = decide (a = b) := by
  by_cases h : a = b
  · subst h
    simp
  · have : ¬ V.str a = V.str b := fun q => h (V.str.inj q)
    simp [h, this]
theorem same_mut {H H' : Hp} {p : Addr} {o : HO} (e : Same H H') (h : H p = none) : Same H (upd H' p o) := fun b x hb => by
  rw [upd_ne (ne_of_none hb h)]
  exact e b x hb
theorem cut1 (xs : List V) : cutV xs (some 1) none = xs.drop 1 := by
  unfold cutV
  rw [show HT.sIx xs.length 0 (some 1) = min 1 xs.length from HT.sIx_nat xs.length 0 1, HT.sIx_none]
  cases xs with
  | nil => rfl
  | cons x r =>
    rw [show min 1 (x :: r).length = 1 by
      rw [List.length_cons]
      omega]
    show (List.take ((x :: r).length - 1) r) = r
    rw [List.length_cons, Nat.add_sub_cancel]
    exact List.take_length
theorem sIx1 {x : V} {xs : List V} {b : Nat} : ¬ (HT.sIx (x :: xs).length 0 (some 1) = 0 ∧ b = (x :: xs).length) := by
  rw [show HT.sIx (x :: xs).length 0 (some 1) = min 1 (x :: xs).length from HT.sIx_nat (x :: xs).length 0 1, List.length_cons]
  omega
theorem sqT_cut1 {K : PySem.W.Frag} {H : Hp} {p : Addr} {x : V} {xs : List V} : SqT K (upd H p (.tup (cutV (x :: xs) (some 1) none))) p xs := by
  rw [cut1]
  exact sqT_new
theorem idx_min {w : Str} {l : List Str} {m : Nat} (hm : m < l.idxOf w) : l[m]? ≠ some w := fun q => by
  obtain ⟨hl, e⟩ := List.getElem?_eq_some_iff.mp q
  have h := List.not_of_lt_findIdx (p := (· == w)) (xs := l) (i := m) hm
  rw [e] at h
  simp at h
theorem map_range_eq {α β : Type} {l : List α} {b : Nat → β} {p : α → β} (h : ∀ i x, l[i]? = some x → b i = p x) : (List.range l.length).map b = l.map p := by
  apply List.ext_getElem
  · simp
  · intro i h1 h2
    have hi : i < l.length := by simpa using h2
    rw [List.getElem_map, List.getElem_map, List.getElem_range]
    exact h i _ (List.getElem?_eq_getElem hi)
theorem all_id {α : Type} {l : List α} {p : α → Bool} : (l.map p).all id = l.all p := by
  induction l with
  | nil => rfl
  | cons x r ih => rw [List.map_cons, List.all_cons, List.all_cons, ih]; rfl
/-! ### comprehensions of truths -/
theorem walk_zipT {K : PySem.W.Frag} {a b : Addr} {xs ys : List V} {n : Nat} (hn : n = min xs.length ys.length) : Walk (RZ.ItzT K a b) n (fun H => SqT K H a xs ∧ SqT K H b ys) (YPair (fun i => xs[i]?) (fun i => ys[i]?)) := by
  subst hn
  refine ⟨fun i _ hi q => ?_, fun _ q => ⟨xs, ys, q.1, q.2, by omega⟩, fun i H v H' _ q y => ?_⟩
  · have h1 : i < xs.length := by omega
    have h2 : i < ys.length := by omega
    exact ⟨xs, ys, xs[i], ys[i], q.1, q.2, by simp [h1], by simp [h2]⟩
  · obtain ⟨T, x, z, h1, h2, h3, h4, h5⟩ := y
    exact ⟨T, x, z, h1, h2, h3, h4 xs q.1, h5 ys q.2⟩
theorem lc_vals {J : It} {n : Nat} {G : Hp → Prop} {Y : Nat → Hp → V → Hp → Prop} (wk : Walk J n G Y) {g : TG} {te : TE} {vs : List Nat} {σ : L2.St} {H1 : Hp} {D : Addr} {Qd : Hp → Prop} (b : Nat → V) (hD : H1 D = none) (hn : n ≤ 1000000)
    (hG : ∀ H', Same H1 H' → G H')
    (hs : ∀ (i : Nat) (x : V) (H' H'' : Hp) (Qe : VK), i < n → Same H1 H' → Y i H' x H'' → (∀ H4, Same H' H4 → Qe (b i) H4) → g x (wipe σ vs) H'' fun σ2 H2 => wipe σ2 vs = wipe σ vs ∧ te σ2 H2 Qe)
    (q : ∀ H', Same H1 H' → H' D = some (.lst ((List.range n).map b)) → Qd H') :
    ∃ W : Nat → Nat → Hp → Prop, (∃ m, W 0 m (upd H1 D (.lst []))) ∧ ∀ i m H, W i m H →
      (J.stop i H ∧ Qd H) ∨ (J.go i H ∧ ∃ Nx : Hp → Prop, (∀ H', Nx H' → ∃ m', m' < m ∧ W (i + 1) m' H') ∧ ∀ x H', J.yld i H x H' → g x (wipe σ vs) H' fun σ2 H2 => wipe σ2 vs = wipe σ vs ∧ tYes σ2 H2 fun b H3 =>
        if b = true then te σ2 H3 fun y H4 => ∃ acc, H4 D = some (.lst acc) ∧ acc.length < sizeLine ∧ Nx (upd H4 D (.lst (acc ++ [y]))) else Nx H3) := by
  refine lc_it wk (tt := tYes) (fun i H' => Same H1 H' ∧ H' D = some (.lst ((List.range i).map b))) ⟨same_upd hD, upd_same⟩ (fun i H' _ p => hG H' p.1) (fun i x H' H'' hi p y => ?_) (fun H' p => q H' p.1 p.2)
  refine hs i x H' H'' _ hi p.1 y fun H4 s4 => ?_
  refine ⟨_, s4 _ _ p.2, ?_, ?_, ?_⟩
  · rw [List.length_map, List.length_range]
    exact Nat.lt_of_lt_of_le (Nat.lt_of_lt_of_le hi hn) (by decide)
  · intro c o e
    rw [upd_ne (ne_of_none e hD)]
    exact s4 _ _ (p.1 _ _ e)
  · rw [upd_same, List.range_succ, List.map_append]
    rfl
theorem lt1 (a b : Nat) : decide (([a] : List Nat) < [b]) = decide (a < b) := by
  by_cases h : a < b
  · rw [decide_eq_true h, decide_eq_true]
    exact List.cons_lt_cons_iff.mpr (.inl h)
  · rw [decide_eq_false h, decide_eq_false]
    intro q
    rcases List.cons_lt_cons_iff.mp q with z | ⟨_, z⟩
    · exact h z
    · exact absurd z (List.not_lt_nil _)
theorem at0 {α : Type} (x : α) (r : List α) : atI (x :: r) 0 = some x := by
  unfold atI ixN
  rw [if_pos (by decide), if_pos (by rw [List.length_cons]; omega)]
  rfl
end Kin
/-! An own exception as a value: it is made by its class, its __init__ walked as a def that calls the __init__ of an own base; its fields are read, isinstance is asked of it. -/
namespace Kin
open L2 PySem PySem.Spec PyProof.Rows
/-- B.__init__(self, ..), B an own class above that has none of its own -/
def tBiI (K : PySem.W.Frag) (ta : TA) : TE := tVeI K ta
/-- C(e, ..) as a value -/
def tMkE (C : Addr) (sp : Sp) (dvs : List V) (ta : TA) : TE := fun σ H Q => ta σ H fun vs H1 => vs.length ≤ 1000 ∧ ∀ a, H1 a = none →
  sp (.ref a :: (vs ++ dvs)) (upd H1 a (exo a C none)) (fun v H2 => v = .non ∧ Q (.ref a) H2) (fun _ _ _ => False)
/-- e.f of an exception with a dict -/
def tExF (K : PySem.W.Frag) (f : Str) (te : TE) : TE := fun σ H Q => te σ H fun x H1 => ∃ (a C d : Addr) (fs : List (Str × V)) (v : V), x = .ref a ∧ H1 a = some (exo a C (some d)) ∧ H1 d = some (exd d fs) ∧
  XfC K C ∧ PySem.W.findIn K (.ref C) f = some none ∧ fs.lookup f = some v ∧ Q v H1
/-- isinstance(e, c) of an exception, with a dict or without -/
def rIsX (K : PySem.W.Frag) : List V → Hp → VK → Prop := fun xs H Q => ∃ (a C : Addr) (d : Option Addr) (c : V) (u : Value) (b : Bool), xs = [.ref a, c] ∧ H a = some (exo a C d) ∧ (∀ e, d = some e → ∃ fs, H e = some (exd e fs)) ∧
  ExcC K C ∧ ClsV c u ∧ PySem.W.kitOne K (.ref C) u = some b ∧ Q (.bl b) H
section
variable {X : Cx} {e : Expr} {es : List Expr} {te : TE} {ta : TA} {f : Str} {p p1 p2 pos : Pos}
theorem pe_biinit {x : Str} {B : Addr} {pl : Sem Bool} (hg : Gl X x) (hm : X.mg x = some (.ref B)) (hga : PySem.W.specialIn X.K (.ref B) "__getattribute__" = some (some (.builtin "type.__getattribute__")))
    (hty : PySem.W.typeIn X.K (.ref B) = some (.type "type")) (hrd : PySem.W.readsIn X.K B (.type "type") = true) (vV : PySem.W.findCls X.K (.ref B) (.type "type") "__init__" = some (.val (.builtin "ValueError.__init__"))) (ha : PA X (e :: es) ta)
    (hdb : (x == ("__debug__" : Str)) = false := by decide)
    (hc : eval (.Call (.Attribute (.Name x p1) "__init__" p2) (e :: es) [] pos) X.env = (do
      let ov ← eval (.Name x p1) X.env
      standAt p2.atName
      let (f, first) ← holding [ov] (getMethod ov "__init__" pl)
      callWith pos f first (backTo pos (starEach (e :: es) X.env)) (backToKw pos (keywordEach [] X.env))) := by rfl)
    (he : starEach (e :: es) X.env = (false, eval e X.env) :: starEach es X.env := by rfl) (hpl : (backTo pos (starEach es X.env)).any (·.1) = false := by rfl) :
    PE X (.Call (.Attribute (.Name x p1) "__init__" p2) (e :: es) [] pos) (tBiI X.K ta) := by
  refine ⟨fun pins s σ H Q I h => ?_⟩
  refine PySem.W.methodCall_KW (ld_glob I hg hm ?_ hdb) hc
  obtain ⟨m, fr⟩ := I.fr
  refine PySem.W.method_of_cls fr I.ok.mod.kin hga (PySem.W.cls_val fr I.ok.mod.kin hty hrd vV (by decide +kernel) ?_)
  refine PyProof.Rows.callWith_method1 (thn (ha.run pos pins _ σ H _ (I.tok _) h) fun us s1 ⟨vs, H1, I1, r1, a, C, ws, ev, hl, T, ea, q⟩ => ?_) he hpl
  subst ev
  cases r1 with
  | @cons _ u0 _ ur ra rw' =>
    obtain rfl : u0 = Value.ref a := ra
    have hlen : ur.length ≤ sizeLine := by
      rw [← Paired.length rw', sizeLine_eq]
      omega
    exact oinit_ok T I1 ea hlen fun s' J => ⟨.non, H1, J, rfl, q⟩
section
variable {CX : CXT} {C fI : Addr} {k : Nat} {fd : FuncData} {ps : List Str} {sp : Sp} {ds : List Value} {dvs : List V}
theorem run_mkE {pins : List (Addr × Obj)} {σ : L2.St} {H1 : Hp} {s1 : Shared} {us : List Value} {vs : List V} {Q : VK} (T : OexC X.K C) (iC : PySem.W.findIn X.K (.ref C) "__init__" = some (some (.ref fI))) (tI : PySem.W.typeIn X.K (.ref fI) = some (.type "function"))
    (F1 : FnOk X.prog X.w X.K X.mg X.base CX k fI fd ps sp) (hr : Room (k + 1) X.A) (hb : Binds X.K fd ps ds) (hd : Vals dvs ds) (hx : Passes CX X (fun _ _ _ => False)) (I1 : Inv X pins σ H1 s1) (r1 : Vals vs us) (hz : vs.length ≤ 1000)
    (q1 : ∀ a, H1 a = none → sp (.ref a :: (vs ++ dvs)) (upd H1 a (exo a C none)) (fun v H2 => v = .non ∧ Q (.ref a) H2) (fun _ _ _ => False)) :
    wpAny (model X.prog X.w) X.A (call (.ref C) us) (EP X pins σ Q) X.xe s1 := by
  obtain ⟨nm, q, N, bs, bm, sn, sub, ab, col, dd, k0, k1, k2, k3, k5, hC, hbm⟩ := T.cls
  obtain ⟨hp, g, dr, tk, os⟩ := s1
  let top := hp.objs.size + 1
  let hq2 : Heap := (hp.push (PySem.W.kdv_tup us)).push (PySem.HandSPX.excO C hp.objs.size)
  have grown : ∀ b o, hp.get? b = some o → hq2.get? b = some o := fun b o z => Heap.get?_push_of_some _ (Heap.get?_push_of_some _ z)
  have there : hq2.get? top = some (PySem.HandSPX.excO C hp.objs.size) := by
    have z := Heap.get?_push_size (hp.push (PySem.W.kdv_tup us)) (o := PySem.HandSPX.excO C hp.objs.size) rfl
    rwa [Heap.size_push] at z
  have I2 : Inv X pins σ (upd H1 top (exo top C none)) ⟨hq2, g, dr, tk, os⟩ := I1.laid (t' := tk) (a := top) (o := exo top C none) (h' := hq2) grown (Nat.le_succ _) (exo_ok there)
  have want := q1 top (I1.hok.fresh (Nat.le_succ _))
  have all : Vals (V.ref top :: (vs ++ dvs)) (Value.ref top :: (us ++ ds)) := .cons rfl (r1.append hd)
  have many : (Value.ref top :: us ++ ds).length = ps.length := all.length.symm.trans (F1.len _ _ _ _ want)
  have few : us.length ≤ sizeLine := by
    rw [← Paired.length r1, sizeLine_eq]
    omega
  have body := F1.run _ X.stack _ _ ⟨Value.ref top :: us, []⟩ (Value.ref top :: (us ++ ds)) _ _ (fun _ _ _ => False) (hr.make C us []) (I2.env0.make C us []) (hb _ (Value.ref top :: us) I2.kIn many) all want
  refine wpAny_call (PySem.HandSPX.call_own F.excBase_ValueError (fun Y => PySem.HandSPX.refsVE_contains Y bm hbm) (I1.kIn _ _ hC) (PySem.W.looks_findIn I1.kIn iC) (fun self => PySem.W.bind_fn I1.kIn self tI) few (codeAny_mono body fun r s' hr' => ?_))
  cases r with
  | error er => exact hx pins σ _ _ er s' I2 hr'
  | ok fl =>
    cases fl with
    | ret u =>
      obtain ⟨v, H', J, rv, rfl, q3⟩ := I2.after hr'
      exact ⟨rv, ⟨V.ref top, H', J, rfl, q3⟩⟩
    | next => exact False.elim hr'
    | brk => exact False.elim hr'
    | cont => exact False.elim hr'
theorem pe_mkE {x : Str} (T : OexC X.K C) (iC : PySem.W.findIn X.K (.ref C) "__init__" = some (some (.ref fI))) (tI : PySem.W.typeIn X.K (.ref fI) = some (.type "function"))
    (F1 : FnOk X.prog X.w X.K X.mg X.base CX k fI fd ps sp) (hr : Room (k + 1) X.A) (hb : Binds X.K fd ps ds) (hd : Vals dvs ds) (hx : Passes CX X (fun _ _ _ => False)) (hg : Gl X x) (hm : X.mg x = some (.ref C)) (ha : PA X (e :: es) ta)
    (hdb : (x == ("__debug__" : Str)) = false := by decide) (he : starEach (e :: es) X.env = (false, eval e X.env) :: starEach es X.env := by rfl) (hpl : (backTo pos (starEach es X.env)).any (·.1) = false := by rfl) :
    PE X (.Call (.Name x p) (e :: es) [] pos) (tMkE C sp dvs ta) := by
  refine ⟨fun pins s σ H Q I h => ?_⟩
  refine wpAny_Call_Name_kw (ld_glob I hg hm ?_ hdb)
  exact PySem.W.callWith_K (h₀ := X.base) I.ok.mod.kin T.kC (thn (ha.run pos pins s σ H _ I h) fun us s1 ⟨vs, H1, I1, r1, hz, q1⟩ => ⟨I1.kIn, run_mkE T iC tI F1 hr hb hd hx I1 r1 hz q1⟩) he hpl
theorem pe_mkE0 {x : Str} (T : OexC X.K C) (iC : PySem.W.findIn X.K (.ref C) "__init__" = some (some (.ref fI))) (tI : PySem.W.typeIn X.K (.ref fI) = some (.type "function"))
    (F1 : FnOk X.prog X.w X.K X.mg X.base CX k fI fd ps sp) (hr : Room (k + 1) X.A) (hb : Binds X.K fd ps ds) (hd : Vals dvs ds) (hx : Passes CX X (fun _ _ _ => False)) (hg : Gl X x) (hm : X.mg x = some (.ref C))
    (hdb : (x == ("__debug__" : Str)) = false := by decide) : PE X (.Call (.Name x p) [] [] pos) (tMkE C sp dvs tNil) := by
  refine ⟨fun pins s σ H Q I h => ?_⟩
  refine wpAny_Call_Name_kw (ld_glob I hg hm ?_ hdb)
  exact PySem.W.callWith_K0 I.kIn T.kC (run_mkE (us := []) T iC tI F1 hr hb hd hx I .nil h.1 h.2)
end
theorem pe_exf (he : PE X e te) (hb : attributeBase e f X.env (eval e X.env) = eval e X.env := by rfl) : PE X (.Attribute e f pos) (tExF X.K f te) := by
  refine ⟨fun pins s σ H Q I h => ?_⟩
  refine attr_of hb (thn (he.run pins s σ H _ I h) fun u s1 hh => ?_)
  obtain ⟨x, H1, I1, rx, a, C, d, fs, v, rfl, ea, ed, T, hno, l, q⟩ := hh
  obtain rfl : u = Value.ref a := rx
  obtain ⟨t1, ho⟩ := exo_at I1.hok ea
  obtain ⟨mA, hns, hr⟩ := exd_at I1.hok ed
  obtain ⟨od, hod, hl⟩ := lookIn_ns hns
  obtain ⟨u, hu, ru⟩ := RelO.some_of (v := v) (o := mA f) (by rw [← l]; exact hr f)
  have J : PySem.W.InstAt s1.heap a _ C (some od) := ⟨ho, rfl, rfl, hod⟩
  exact HandSPX.exc_get I1.kIn J T.ga T.gg T.exC (PySem.W.findObj_own T.hdC hno rfl (by rw [hl, hu])) (handed_of ru) ⟨v, H1, I1.tok _, ru, q⟩
theorem call_isX : CallR X (.builtin "isinstance") (rIsX X.K) := by
  intro pins s σ H xs us Q I r h
  obtain ⟨a, C, d, c, u, b, rfl, ea, ed, T, k, ek, q⟩ := h
  obtain ⟨u1, u2, rfl, r1, r2⟩ := vals2 r
  obtain rfl : u1 = Value.ref a := r1
  have e2 := k.eq r2
  subst e2
  have hcl : (PySem.W.clsIn X.K C).isSome = true := by
    obtain ⟨cd, hc, _⟩ := PySem.W.any_some T.hd
    rw [hc]
    rfl
  obtain ⟨t1, ho⟩ := exo_at I.hok ea
  cases d with
  | none => exact PySem.W.kia_one (PySem.W.kitx_exc (ox := _) (od := none) hcl T.hg T.hk T.hs T.ha T.hn T.ht T.hm) I.kIn ⟨ho, rfl, rfl, trivial⟩ ek (fun z => nomatch z) fun tk => ⟨.bl b, H, I.tok tk, rfl, q⟩
  | some dx =>
    obtain ⟨fs, efs⟩ := ed dx rfl
    obtain ⟨mA, hns, _⟩ := exd_at I.hok efs
    obtain ⟨od, _, _, hod, _⟩ := hns
    exact PySem.W.kia_one (PySem.W.kitx_exc (ox := _) (od := some od) hcl T.hg T.hk T.hs T.ha T.hn T.ht T.hm) I.kIn ⟨ho, rfl, rfl, hod⟩ ek (fun z => nomatch z) fun tk => ⟨.bl b, H, I.tok tk, rfl, q⟩
end
end Kin
/-! What the head of a run has to look up of own exception classes over ValueError, as one truth. -/
namespace Kin
open L2 PySem PySem.Spec PyProof.Rows
/-- the class object itself -/
def clsB (K : PySem.W.Frag) (C : Addr) : Bool := match K.lookup C with
  | some o => (match o.cls, o.data, o.slots.toList with
    | .type t, .cls cd, [_, _, _, _, some (.builtin n), _] => decide (t = "type") && (decide (n = "ValueError.__new__") && (cd.hasDict && (!cd.hasDel && decide (cd.mro.head? = some (.ref C)) && PySem.HandSPX.refsVE cd.mro.tail)))
    | _, _, _ => false)
  | none => false
theorem clsB_ok {K : PySem.W.Frag} {C : Addr} (h : clsB K C = true) : ∃ nm q N bs bm sn sub ab col dd k0 k1 k2 k3 k5, K.lookup C = some (excClassObj nm q C N bs bm true sn sub ab col dd k0 k1 k2 k3 k5 "ValueError.__new__") ∧ PySem.HandSPX.refsVE bm = true := by
  unfold clsB at h
  split at h
  · rename_i o ho
    obtain ⟨oc, od, dt, sl⟩ := o
    dsimp only at h
    split at h
    · rename_i t cd k0 k1 k2 k3 n k5 e3
      obtain ⟨h1, h⟩ := Bool.and_eq_true_iff.mp h
      obtain ⟨h2, h⟩ := Bool.and_eq_true_iff.mp h
      obtain ⟨h3, h⟩ := Bool.and_eq_true_iff.mp h
      obtain ⟨h45, h6⟩ := Bool.and_eq_true_iff.mp h
      obtain ⟨h4, h5⟩ := Bool.and_eq_true_iff.mp h45
      have g1 := of_decide_eq_true h1
      have g2 := of_decide_eq_true h2
      have g5 := of_decide_eq_true h5
      clear h1 h2 h5 h45
      obtain ⟨nm, bs, mro, ns, qn, hd, sn, sub, ab, col, del⟩ := cd
      have g3 : hd = true := h3
      have g4 : del = false := by
        cases del with
        | true => cases h4
        | false => rfl
      cases mro with
      | nil => cases g5
      | cons c0 bm =>
        have g6 : c0 = .ref C := Option.some.inj g5
        obtain ⟨sl⟩ := sl
        have g7 : sl = [k0, k1, k2, k3, some (.builtin n), k5] := e3
        subst g1 g2 g3 g4 g6 g7
        exact ⟨nm, qn, ns, bs, bm, sn, sub, ab, col, od, k0, k1, k2, k3, k5, ho, h6⟩
    · cases h
  · cases h
def eqB (a b : Option Bool) : Bool := decide (a = b)
def eqV (a b : Option Value) : Bool := decide (a = b)
/-- all that the rules for exceptions want of the class at C -/
def oexB (K : PySem.W.Frag) (C : Addr) : Bool := clsB K C && (He.eqO (PySem.W.findIn K (.ref C) "__setattr__") (some (some (.builtin "object.__setattr__"))) && (eqB (PySem.W.subIn K (.ref C) (.type "BaseException")) (some true) && (eqV (PySem.W.typeIn K (.ref C)) (some (.type "type")) && PySem.W.keepIn K (.ref C))))
theorem oexB_ok {K : PySem.W.Frag} {C : Addr} (h : oexB K C = true) : OexC K C := by
  obtain ⟨h1, h⟩ := Bool.and_eq_true_iff.mp h
  obtain ⟨h2, h⟩ := Bool.and_eq_true_iff.mp h
  obtain ⟨h3, h⟩ := Bool.and_eq_true_iff.mp h
  obtain ⟨h4, h5⟩ := Bool.and_eq_true_iff.mp h
  exact ⟨clsB_ok h1, He.eqO_ok h2, of_decide_eq_true h3, of_decide_eq_true h4, h5⟩
def excB (K : PySem.W.Frag) (C : Addr) : Bool := xfB K C && (He.eqO (PySem.W.findIn K (.ref C) "__class__") (some (some (.builtin "object.__class__"))) && (He.eqO (PySem.W.specialIn K (.builtin "object.__class__") "__get__") (some (some (.builtin "getset_descriptor.__get__"))) &&
  (eqB (PySem.W.takesIn K (.builtin "object.__class__")) (some true) && eqB (PySem.W.mroIn K C (.type "object")) (some true))))
theorem excB_ok {K : PySem.W.Frag} {C : Addr} (h : excB K C = true) : XfC K C ∧ L2.ExcC K C := by
  obtain ⟨h1, h⟩ := Bool.and_eq_true_iff.mp h
  obtain ⟨h2, h⟩ := Bool.and_eq_true_iff.mp h
  obtain ⟨h3, h⟩ := Bool.and_eq_true_iff.mp h
  obtain ⟨h4, h5⟩ := Bool.and_eq_true_iff.mp h
  have T := xfB_ok h1
  exact ⟨T, ⟨T.ga, T.gg, T.exC, T.hdC, He.eqO_ok h2, He.eqO_ok h3, of_decide_eq_true h4, of_decide_eq_true h5⟩⟩
/-- the own base at B, whose __init__ is ValueError's -/
def baseB (K : PySem.W.Frag) (B : Addr) : Bool := He.eqO (PySem.W.specialIn K (.ref B) "__getattribute__") (some (some (.builtin "type.__getattribute__"))) && (eqV (PySem.W.typeIn K (.ref B)) (some (.type "type")) && (PySem.W.readsIn K B (.type "type") &&
  (match PySem.W.findCls K (.ref B) (.type "type") "__init__" with
    | some (.val (.builtin n)) => decide (n = "ValueError.__init__")
    | _ => false)))
structure BaseC (K : PySem.W.Frag) (B : Addr) : Prop where
  ga : PySem.W.specialIn K (.ref B) "__getattribute__" = some (some (.builtin "type.__getattribute__"))
  ty : PySem.W.typeIn K (.ref B) = some (.type "type")
  rd : PySem.W.readsIn K B (.type "type") = true
  ini : PySem.W.findCls K (.ref B) (.type "type") "__init__" = some (.val (.builtin "ValueError.__init__"))
theorem baseB_ok {K : PySem.W.Frag} {B : Addr} (h : baseB K B = true) : BaseC K B := by
  obtain ⟨h1, h⟩ := Bool.and_eq_true_iff.mp h
  obtain ⟨h2, h⟩ := Bool.and_eq_true_iff.mp h
  obtain ⟨h3, h⟩ := Bool.and_eq_true_iff.mp h
  refine ⟨He.eqO_ok h1, of_decide_eq_true h2, h3, ?_⟩
  split at h
  · rename_i n e
    rw [e, of_decide_eq_true h]
  · cases h
end Kin
namespace Kin
open PySem PySem.Spec PyProof.Rows L2
def errs : List Str := ["NoTitle", "NoOne", "NoSession", "NoText", "NoBook", "NoTyped", "NoEntry", "NoScript", "TooMany", "NoLine", "NoHouse"]
/-- the i-th class of refusals -/
def cl (K : PySem.W.Frag) (i : Nat) : Addr := He.ga K (errs.getD i "")
end Kin
/-! A hook whose part of the heap holds the interpreter's own statics too: reading a name of an own class looks there. -/
namespace Kin
open PySem PySem.Spec PyProof.Rows L2
def partS (g : Addr → Option Obj) (n : Nat) : PySem.W.Frag := He.frT g (He.asD g n ++ [cStatics])
def obsS (n : Nat) (fa : List He.Fa) (fn : List He.DefD) (ts : List He.Tab) (ex : PySem.W.Frag → Bool) (g : Addr → Option Obj) : He.AlX := (He.obsT fa fn ts (partS g n), ex (partS g n))
theorem saysS {n : Nat} {fa : List He.Fa} {fn : List He.DefD} {ts : List He.Tab} {ex : PySem.W.Frag → Bool} {w : World} {h : Heap} (e : obsS n fa fn ts ex h.get? = He.valX fn ts w) : He.SaysX fa fn ts [] ex w h (partS h.get? n) where
  t := congrArg (fun z : He.AlX => z.1) e
  more := congrArg (fun z : He.AlX => z.2) e
  hd := fun _ q => nomatch q
  out := fun _ q => nomatch q
  empty := fun _ q => nomatch q
def hookS (n : Nat) (fa : List He.Fa) (fn : List He.DefD) (ts : List He.Tab) (ex : PySem.W.Frag → Bool) : PySem.W.Hook where
  α := He.AlX
  obs := fun s => obsS n fa fn ts ex s.heap.get?
  val := fun w => He.valX fn ts w
  says := fun w h => ∃ K : PySem.W.Frag, K.In h ∧ He.SaysX fa fn ts [] ex w h K
  of := fun _ _ e => ⟨_, He.frT_in, saysS e⟩
  keeps := fun _ _ _ ⟨K, hK, c⟩ k => ⟨K, PySem.W.Frag.In.keeps hK k, ⟨c.t, c.more, c.hd, c.out, fun _ q => nomatch q⟩⟩
theorem obsS_eq {n : Nat} {fa : List He.Fa} {fn : List He.DefD} {ts : List He.Tab} {ex : PySem.W.Frag → Bool} {g : Addr → Option Obj} {s : Shared} (h : ∀ a, g a = s.heap.get? a) : obsS n fa fn ts ex g = (hookS n fa fn ts ex).obs s := by
  rw [show g = s.heap.get? from funext h]
  rfl
end Kin
/-! What the program's looks tell, and what the law's own looks tell, as plain functions over data; that they tell the same. -/
namespace Kin
open PySem
def sig9 : List Str := ["kill", "halt", "on", "hang", "quit", "call", "kin", "rest", "reads"]
def sig7 : List Str := ["on", "hang", "quit", "call", "kin", "rest", "reads"]
def sure : List Str := ["kill", "halt"]
/-! ### the program's looks -/
def pWhole : PyData → Bool
  | .int _ => true
  | _ => false
def pNat : PyData → Bool
  | .int i => decide (0 ≤ i)
  | _ => false
def pSmall : PyData → Bool
  | .int i => decide (0 ≤ i) && decide (i ≤ 99)
  | _ => false
def pOne (d : PyData) (ws : List Str) : Bool := match d with
  | .str z => decide (z ∈ ws)
  | _ => false
def pLoose : PyData → Bool
  | .str z => decide (z ∈ sig9) && !decide (z ∈ sure)
  | _ => false
def pLoop : Nat → List PyData → Bool
  | _, [] => true
  | least, .str z :: r => if pLoose (.str z) then (if sig9.idxOf z < least then false else pLoop (sig9.idxOf z + 1) r) else false
  | _, _ :: _ => false
def pAre : PyData → Bool
  | .tuple ds => pLoop 0 ds
  | _ => false
def azAll (z : Str) : Bool := z.cps.toList.all fun c => decide (97 ≤ c) && decide (c ≤ 122)
def pTitle : PyData → Bool
  | .str z => decide (1 ≤ z.length) && decide (z.length ≤ 8) && azAll z
  | _ => false
def pRowNo (d : PyData) (n : Int) : Bool := match d with
  | .int i => decide (0 ≤ i) && decide (i < n)
  | _ => false
def pHandler (d : PyData) (n : Int) : Bool := match d with
  | .tuple [a, b] => pRowNo a n && pAre b
  | _ => false
def isNone : PyData → Bool
  | .none => true
  | _ => false
def isBool : PyData → Bool
  | .bool _ => true
  | _ => false
def pChild (kind : Str) (d : PyData) : Bool :=
  if pNat d = true then true else if kind = "which" then isNone d else if kind = "who" then pOne d ["self"] else pOne d ["self", "parent", "group"]
def pPart (kind : Str) (d : PyData) (n : Int) : Bool :=
  if kind = "title" then pTitle d else if kind = "small" then pSmall d else if kind = "whole" then pWhole d else if kind = "truth" then isBool d else
  if kind = "row" then pRowNo d n else if kind = "signal" then pOne d sig9 else if kind = "loose" then pLoose d else if kind = "signals" then pAre d else
  if kind = "how" then (pOne d ["plain", "ignore"] || pHandler d n) else if kind = "where" then pOne d ["new", "mine"] else pChild kind d
def forms : List (Str × List Str) := [("fork", []), ("exec", ["title"]), ("end", ["small"]), ("wait", ["which", "truth"]), ("pause", []), ("read", []), ("send", ["signal", "to"]), ("mask", ["signals"]), ("unmask", ["signals"]),
  ("handle", ["loose", "how"]), ("return", []), ("session", []), ("group", ["who", "where"]), ("front", ["who"]), ("taker", []), ("say", ["small"]), ("goto", ["row"]), ("if", ["whole", "row"])]
def pParts (n : Int) : List Str → List PyData → Bool
  | k :: ks, d :: ds => pPart k d n && pParts n ks ds
  | _, _ => true
def pRow (d : PyData) (n : Int) : Bool := match d with
  | .tuple (.str w :: ps) => (match forms.lookup w with
    | some ks => decide (ps.length = ks.length) && pParts n ks ps
    | none => false)
  | _ => false
/-! ### the law's looks -/
def lWhole (d : PyData) (lo hi : Int) : Bool := match d with
  | .int i => decide (lo ≤ i) && decide (i < hi)
  | _ => false
def lAll7 : List PyData → Bool
  | [] => true
  | d :: r => pOne d sig7 && lAll7 r
def ix7 : PyData → Nat
  | .str z => sig7.idxOf z
  | _ => 7
def lUp : List Nat → Bool
  | a :: b :: r => decide (a < b) && lUp (b :: r)
  | _ => true
def lAre : PyData → Bool
  | .tuple ds => lAll7 ds && lUp (ds.map ix7)
  | _ => false
def great : Int := 1000000000000
def lTitle : PyData → Bool
  | .str z => decide (0 < z.length) && decide (z.length < 9) && azAll z
  | _ => false
def lHandler (d : PyData) (n : Int) : Bool := match d with
  | .tuple [a, b] => lWhole a 0 n && lAre b
  | _ => false
def isTup : PyData → Bool
  | .tuple _ => true
  | _ => false
def lPart (w : Str) (at_ : Nat) (d : PyData) (n : Int) : Bool :=
  if w = "exec" then lTitle d else if w ∈ (["end", "say"] : List Str) then lWhole d 0 100 else
  if w = "wait" then (if at_ = 1 then isBool d else isNone d || lWhole d 0 great) else
  if w = "send" then (if at_ = 0 then pOne d (sure ++ sig7) else lWhole d 0 great || pOne d ["self", "parent", "group"]) else
  if w ∈ (["mask", "unmask"] : List Str) then lAre d else
  if w = "handle" ∧ at_ = 0 then pOne d sig7 else
  if w = "handle" then (if isTup d = true then lHandler d n else pOne d ["plain", "ignore"]) else
  if w ∈ (["group", "front"] : List Str) ∧ at_ = 0 then (lWhole d 0 great || pOne d ["self"]) else
  if w = "group" then pOne d ["new", "mine"] else
  if w = "if" ∧ at_ = 0 then lWhole d (0 - great) great else lWhole d 0 n
def many : List (Str × Int) := [("exec", 1), ("end", 1), ("wait", 2), ("send", 2), ("mask", 1), ("unmask", 1), ("handle", 2), ("group", 2), ("front", 1),
  ("say", 1), ("goto", 1), ("if", 2), ("fork", 0), ("pause", 0), ("read", 0), ("return", 0), ("session", 0), ("taker", 0)]
def lParts (w : Str) (n : Int) : Nat → List PyData → Bool
  | _, [] => true
  | i, d :: ds => lPart w i d n && lParts w n (i + 1) ds
def lRow (d : PyData) (n : Int) : Bool := match d with
  | .tuple (.str w :: ps) => (match many.lookup w with
    | some m => decide ((ps.length : Int) + 1 = 1 + m) && lParts w n 0 ps
    | none => false)
  | _ => false
/-! ### they tell the same -/
def bnd : PyData → Bool
  | .int i => decide (0 - great ≤ i) && decide (i < great)
  | _ => true
def bndAll : PyData → Bool
  | .tuple ps => ps.all bnd
  | _ => true
theorem loose_sig7 (z : Str) : (decide (z ∈ sig9) && !decide (z ∈ sure)) = decide (z ∈ sig7) := by
  by_cases h : z ∈ sig9
  · have hz : z = "kill" ∨ z = "halt" ∨ z = "on" ∨ z = "hang" ∨ z = "quit" ∨ z = "call" ∨ z = "kin" ∨ z = "rest" ∨ z = "reads" := by
      simpa [sig9] using h
    rcases hz with rfl | rfl | rfl | rfl | rfl | rfl | rfl | rfl | rfl <;> decide +kernel
  · have h7 : ¬ z ∈ sig7 := fun q => h (by
      have hz : z = "on" ∨ z = "hang" ∨ z = "quit" ∨ z = "call" ∨ z = "kin" ∨ z = "rest" ∨ z = "reads" := by simpa [sig7] using q
      rcases hz with rfl | rfl | rfl | rfl | rfl | rfl | rfl <;> decide +kernel)
    simp [h, h7]
theorem pLoose_eq (d : PyData) : pLoose d = pOne d sig7 := by
  cases d <;> first | rfl | exact loose_sig7 _
theorem idx_shift {z : Str} (h : z ∈ sig7) : sig9.idxOf z = sig7.idxOf z + 2 := by
  have hz : z = "on" ∨ z = "hang" ∨ z = "quit" ∨ z = "call" ∨ z = "kin" ∨ z = "rest" ∨ z = "reads" := by simpa [sig7] using h
  rcases hz with rfl | rfl | rfl | rfl | rfl | rfl | rfl <;> decide +kernel
theorem pLoop_nil (k : Nat) : pLoop k [] = true := by unfold pLoop; rfl
theorem pLoop_str (k : Nat) (z : Str) (r : List PyData) : pLoop k (.str z :: r) = if pLoose (.str z) = true then (if sig9.idxOf z < k then false else pLoop (sig9.idxOf z + 1) r) else false := by
  conv => lhs; unfold pLoop
theorem pLoop_eq : ∀ (ds : List PyData) (k : Nat), pLoop k ds = (lAll7 ds && lUp (ds.map ix7) && (match ds with | [] => true | d :: _ => decide (k ≤ ix7 d + 2)))
  | [], k => by rw [pLoop_nil]; rfl
  | d :: r, k => by
    cases d with
    | str z =>
      rw [pLoop_str, pLoose_eq]
      show (if decide (z ∈ sig7) = true then _ else false) = ((decide (z ∈ sig7) && lAll7 r) && lUp (sig7.idxOf z :: r.map ix7) && decide (k ≤ sig7.idxOf z + 2))
      by_cases h : z ∈ sig7
      · rw [if_pos (decide_eq_true h), idx_shift h, pLoop_eq r, decide_eq_true h, Bool.true_and]
        cases r with
        | nil =>
          by_cases hk : sig7.idxOf z + 2 < k
          · rw [if_pos hk]
            have : ¬ k ≤ sig7.idxOf z + 2 := by omega
            simp [this]
          · rw [if_neg hk]
            have : k ≤ sig7.idxOf z + 2 := by omega
            simp [this, lAll7, lUp]
        | cons d2 r2 =>
          show _ = (lAll7 (d2 :: r2) && lUp (sig7.idxOf z :: ix7 d2 :: r2.map ix7) && _)
          have e : lUp (sig7.idxOf z :: ix7 d2 :: r2.map ix7) = (decide (sig7.idxOf z < ix7 d2) && lUp (ix7 d2 :: r2.map ix7)) := by
            conv => lhs; unfold lUp
          rw [e]
          show (if _ then false else (lAll7 (d2 :: r2) && lUp (ix7 d2 :: r2.map ix7) && decide (sig7.idxOf z + 2 + 1 ≤ ix7 d2 + 2))) = _
          by_cases hk : sig7.idxOf z + 2 < k
          · rw [if_pos hk]
            have : ¬ k ≤ sig7.idxOf z + 2 := by omega
            simp [this]
          · rw [if_neg hk]
            have h1 : k ≤ sig7.idxOf z + 2 := by omega
            have h2 : decide (sig7.idxOf z + 2 + 1 ≤ ix7 d2 + 2) = decide (sig7.idxOf z < ix7 d2) := by
              by_cases q : sig7.idxOf z < ix7 d2
              · rw [decide_eq_true q, decide_eq_true (by omega)]
              · rw [decide_eq_false q, decide_eq_false (by omega)]
            rw [h2, decide_eq_true h1, Bool.and_true]
            cases lAll7 (d2 :: r2) <;> cases lUp (ix7 d2 :: r2.map ix7) <;> cases decide (sig7.idxOf z < ix7 d2) <;> rfl
      · rw [if_neg (by simpa using h), decide_eq_false h]
        rfl
    | none => rfl
    | bool b => rfl
    | int i => rfl
    | list x => rfl
    | tuple x => rfl
    | dict x => rfl
theorem are_eq (d : PyData) : pAre d = lAre d := by
  cases d with
  | tuple ds =>
    show pLoop 0 ds = (lAll7 ds && lUp (ds.map ix7))
    rw [pLoop_eq]
    cases ds with
    | nil => rfl
    | cons a r =>
      show (_ && decide (0 ≤ ix7 a + 2)) = _
      rw [decide_eq_true (Nat.zero_le _), Bool.and_true]
  | none => rfl
  | bool b => rfl
  | int i => rfl
  | list x => rfl
  | str x => rfl
  | dict x => rfl
theorem title_eq (d : PyData) : pTitle d = lTitle d := by
  cases d with
  | str z =>
    show (decide (1 ≤ z.length) && decide (z.length ≤ 8) && azAll z) = (decide (0 < z.length) && decide (z.length < 9) && azAll z)
    rw [show decide (z.length ≤ 8) = decide (z.length < 9) by
      by_cases h : z.length ≤ 8
      · rw [decide_eq_true h, decide_eq_true (by omega)]
      · rw [decide_eq_false h, decide_eq_false (by omega)]]
    rfl
  | _ => rfl
theorem rowno_eq (d : PyData) (n : Int) : pRowNo d n = lWhole d 0 n := by cases d <;> rfl
theorem small_eq (d : PyData) : pSmall d = lWhole d 0 100 := by
  cases d with
  | int i =>
    show (decide (0 ≤ i) && decide (i ≤ 99)) = (decide (0 ≤ i) && decide (i < 100))
    rw [show decide (i ≤ 99) = decide (i < 100) by
      by_cases h : i ≤ 99
      · rw [decide_eq_true h, decide_eq_true (by omega)]
      · rw [decide_eq_false h, decide_eq_false (by omega)]]
  | _ => rfl
theorem nat_eq {d : PyData} (h : bnd d = true) : pNat d = lWhole d 0 great := by
  cases d with
  | int i =>
    have h2 : i < great := by
      have := h
      simp only [bnd, Bool.and_eq_true, decide_eq_true_eq] at this
      exact this.2
    show decide (0 ≤ i) = (decide (0 ≤ i) && decide (i < great))
    rw [decide_eq_true h2, Bool.and_true]
  | _ => rfl
theorem whole_eq {d : PyData} (h : bnd d = true) : pWhole d = lWhole d (0 - great) great := by
  cases d with
  | int i =>
    show true = (decide (0 - great ≤ i) && decide (i < great))
    exact h.symm
  | _ => rfl
theorem handler_eq (d : PyData) (n : Int) : pHandler d n = lHandler d n := by
  cases d with
  | tuple ds =>
    match ds with
    | [] => rfl
    | [_] => rfl
    | [a, b] =>
      show (pRowNo a n && pAre b) = (lWhole a 0 n && lAre b)
      rw [rowno_eq, are_eq]
    | _ :: _ :: _ :: _ => rfl
  | _ => rfl
theorem how_eq (d : PyData) (n : Int) : (pOne d ["plain", "ignore"] || pHandler d n) = (if isTup d = true then lHandler d n else pOne d ["plain", "ignore"]) := by
  cases d with
  | tuple ds =>
    rw [handler_eq]
    rfl
  | str z =>
    show (pOne (.str z) ["plain", "ignore"] || false) = _
    rw [Bool.or_false]
    rfl
  | _ => rfl
theorem parts1 {n : Int} {k w : Str} {ps : List PyData} (h : ∀ d, bnd d = true → pPart k d n = lPart w 0 d n) (hb : ps.all bnd = true) (hl : ps.length = 1) : pParts n [k] ps = lParts w n 0 ps := by
  match ps, hl with
  | [a], _ =>
    have ha : bnd a = true := by simpa using hb
    show (pPart k a n && true) = (lPart w 0 a n && true)
    rw [h a ha]
theorem parts2 {n : Int} {k k2 w : Str} {ps : List PyData} (h : ∀ d, bnd d = true → pPart k d n = lPart w 0 d n) (h2 : ∀ d, bnd d = true → pPart k2 d n = lPart w 1 d n) (hb : ps.all bnd = true) (hl : ps.length = 2) : pParts n [k, k2] ps = lParts w n 0 ps := by
  match ps, hl with
  | [a, b], _ =>
    have hab : bnd a = true ∧ bnd b = true := by simpa using hb
    show (pPart k a n && (pPart k2 b n && true)) = (lPart w 0 a n && (lPart w 1 b n && true))
    rw [h a hab.1, h2 b hab.2]
theorem row_of {n : Int} {w : Str} {ks : List Str} {m : Nat} (hf : forms.lookup w = some ks) (hm : many.lookup w = some (m : Int)) (hk : ks.length = m) {ps : List PyData} (h : ps.length = m → pParts n ks ps = lParts w n 0 ps) :
    pRow (.tuple (.str w :: ps)) n = lRow (.tuple (.str w :: ps)) n := by
  show (match forms.lookup w with | some ks => decide (ps.length = ks.length) && pParts n ks ps | none => false) = (match many.lookup w with | some m => decide ((ps.length : Int) + 1 = 1 + m) && lParts w n 0 ps | none => false)
  rw [hf, hm]
  show (decide (ps.length = ks.length) && pParts n ks ps) = (decide ((ps.length : Int) + 1 = 1 + (m : Int)) && lParts w n 0 ps)
  by_cases hl : ps.length = m
  · rw [h hl, decide_eq_true (show ps.length = ks.length by omega), decide_eq_true (show (ps.length : Int) + 1 = 1 + (m : Int) by omega)]
  · rw [decide_eq_false (show ¬ ps.length = ks.length by omega), decide_eq_false (show ¬ (ps.length : Int) + 1 = 1 + (m : Int) by omega)]
    rfl
theorem lookup_none {α : Type} {z : Str} : ∀ {l : List (Str × α)}, ¬ z ∈ l.map (·.1) → l.lookup z = none
  | [], _ => rfl
  | (a, b) :: r, h => by
    have h1 : ¬ z = a := fun q => h (by simp [q])
    rw [List.lookup_cons]
    have : (z == a) = false := by simpa using h1
    rw [this]
    exact lookup_none fun q => h (by simp at q ⊢; exact .inr q)
def words18 : List Str := ["fork", "exec", "end", "wait", "pause", "read", "send", "mask", "unmask", "handle", "return", "session", "group", "front", "taker", "say", "goto", "if"]
theorem ite_t {α : Type} {c : Prop} [Decidable c] {a b : α} (h : decide c = true) : (if c then a else b) = a := if_pos (of_decide_eq_true h)
theorem ite_f {α : Type} {c : Prop} [Decidable c] {a b : α} (h : decide c = false) : (if c then a else b) = b := if_neg (of_decide_eq_false h)
theorem or_comm_b (a b : Bool) : (a || b) = (b || a) := by cases a <;> cases b <;> rfl
/-! ### texts and tuples that are not too long -/
mutual
def lenOk : PyData → Bool
  | .str z => decide (z.length ≤ 1000000)
  | .list xs => decide (xs.length ≤ 1000000) && lenAll xs
  | .tuple xs => decide (xs.length ≤ 1000000) && lenAll xs
  | .none | .bool _ | .int _ | .dict _ => true
def lenAll : List PyData → Bool
  | [] => true
  | x :: xs => lenOk x && lenAll xs
end
end Kin
namespace Kin
open PySem PySem.Spec PyProof.Rows L2
def topE (i : Nat) : Stmt := PySem.Challenge.pw_kinsignals_k86_numbers_of_many_figures.main.body.getD i (.Pass ⟨0, 0, 0, 0⟩)
def mkD (x : Str) (i : Nat) : He.DefD := ⟨(x, none), x, x, defArgs (topE i), defBody (topE i), defScope (topE i), [], []⟩
def clsE (i : Nat) : Stmt := match topE i with
  | .ClassDef _ _ _ b _ _ _ _ _ _ _ => b.getD 0 (.Pass ⟨0, 0, 0, 0⟩)
  | _ => .Pass ⟨0, 0, 0, 0⟩
def mkI (x : Str) (q : Str) (i : Nat) : He.DefD := ⟨(x, some "__init__"), "__init__", q, defArgs (clsE i), defBody (clsE i), defScope (clsE i), [], []⟩
def fn : List He.DefD := ([mkD "is_whole" 14, mkD "is_natural" 15, mkD "is_small" 16, mkD "is_one_of" 17, mkD "is_signal" 21, mkD "is_loose" 22, mkD "are_loose" 23, mkD "is_title" 27, mkD "is_row_number" 28, mkD "is_handler" 29, mkD "is_child_part" 30, mkD "is_part" 31, mkD "is_row" 32, mkD "is_program" 33, mkD "is_book" 34, mkD "is_number" 39, mkD "is_signed_number" 40, mkD "read_number" 41, mkD "read_whole" 42, mkD "read_letters" 43, mkD "read_name" 44, mkD "read_signal" 45, mkD "read_signals" 46, mkD "read_choice" 47, mkD "read_word" 49, mkD "read_words" 50, mkD "read_wait" 52, mkD "read_handle" 53, mkD "read_row" 54, mkD "lacks_rows" 55] : List He.DefD) ++ ([mkD "add_program" 56, mkD "add_row" 57, mkD "read_programs" 58, mkD "read_book" 59, mkD "_law_hand" 61, mkD "_law_pick" 62, mkD "_law_of" 63, mkD "_law_class" 64, mkD "_law_told" 65, mkD "_law_great" 66, mkD "_law_lines" 67, mkD "law" 68, mkI "NoText" "NoText.__init__" 5, mkI "NoBook" "NoBook.__init__" 6] : List He.DefD)
def fa : List He.Fa := ([.free "isinstance", .free "int", .free "bool", .free "str", .free "tuple", .free "list", .free "len", .free "all", .free "zip", .free "enumerate", .free "range", .free "sorted", .free "set", .free "repr", .glo "SIGNALS", .glo "SURE", .glo "FORMS", .int "LONGEST_TITLE" 8, .str "FIGURES" "0123456789", .int "MOST_FIGURES" 9, .glo "CHOICES", .glo "READERS", .glo "is_whole", .glo "is_natural", .glo "is_small", .glo "is_one_of", .glo "is_signal", .glo "is_loose", .glo "are_loose", .glo "is_title"] : List He.Fa) ++ ([.glo "is_row_number", .glo "is_handler", .glo "is_child_part", .glo "is_part", .glo "is_row", .glo "is_program", .glo "is_book", .glo "is_number", .glo "is_signed_number", .glo "read_number", .glo "read_whole", .glo "read_letters", .glo "read_name", .glo "read_signal", .glo "read_signals", .glo "read_choice", .glo "read_word", .glo "read_words", .glo "read_wait", .glo "read_handle", .glo "read_row", .glo "lacks_rows", .glo "add_program", .glo "add_row", .glo "read_programs", .glo "read_book", .glo "_law_hand", .glo "_law_pick", .glo "_law_of", .glo "_law_class"] : List He.Fa) ++ ([.glo "_law_told", .glo "_law_great", .glo "_law_lines", .glo "law", .glo "KinError", .glo "NoTitle", .glo "NoOne", .glo "NoSession", .glo "NoText", .glo "NoBook", .glo "NoTyped", .glo "NoEntry", .glo "NoScript", .glo "TooMany", .glo "NoLine", .glo "NoHouse", .meth "NoText" "__init__", .meth "NoBook" "__init__", .free "ValueError"] : List He.Fa)
def formsB (K : PySem.W.Frag) : Bool := forms.all fun q => match PySem.W.nsIn K (He.ga K "FORMS") q.1 with
  | some (some (.ref a)) => (match K.lookup a with
    | some ⟨.type c, _, .seq its _, _⟩ => decide (c = "tuple") && (decide (its.size ≤ sizeLine) && He.relAll (q.2.map V.str) its.toList)
    | _ => false)
  | _ => false
def choicesH : List (Str × List Str) := [("who", ["self"]), ("to", ["self", "parent", "group"]), ("where", ["new", "mine"])]
def readersH : List (Str × Str) := [("title", "read_letters"), ("small", "read_number"), ("row", "read_number"), ("whole", "read_whole"), ("signal", "read_signal"), ("signals", "read_signals")]
def choicesB (K : PySem.W.Frag) : Bool := choicesH.all fun q => match PySem.W.nsIn K (He.ga K "CHOICES") q.1 with
  | some (some (.ref a)) => (match K.lookup a with
    | some ⟨.type c, _, .seq its _, _⟩ => decide (c = "tuple") && (decide (its.size ≤ sizeLine) && He.relAll (q.2.map V.str) its.toList)
    | _ => false)
  | _ => false
def readersB (K : PySem.W.Frag) : Bool := readersH.all fun q => He.eqO (PySem.W.nsIn K (He.ga K "READERS") q.1) (some (some (.ref (He.ga K q.2))))
def plainB (K : PySem.W.Frag) : Bool := match K.lookup (He.ga K "SIGNALS") with
  | some ⟨.type c, none, _, _⟩ => decide (c = "tuple")
  | _ => false
def kitsB (K : PySem.W.Frag) : Bool := (List.range 11).all fun i => (List.range 11).all fun j => eqB (PySem.W.kitOne K (.ref (cl K i)) (.ref (cl K j))) (some (i == j))
def topsB (K : PySem.W.Frag) : Bool := (List.range 11).all fun i => eqB (PySem.W.kitOne K (.ref (cl K i)) (.ref (He.ga K "KinError"))) (some true) && eqB (PySem.W.kitOne K (.ref (cl K i)) (.type "ValueError")) (some true)
def namesB (K : PySem.W.Frag) : Bool := ([(3, "row")] : List (Nat × Str)).all fun p => He.eqO (PySem.W.findIn K (.ref (cl K p.1)) p.2) (some none)
def exmB (K : PySem.W.Frag) : Bool := (List.range 11).all fun i => eqB (PySem.W.exmOne K (.ref (cl K i)) (.ref (He.ga K "KinError"))) (some true)
def errB (K : PySem.W.Frag) : Bool := baseB K (He.ga K "KinError") && (((List.range 11).all fun i => oexB K (cl K i) && excB K (cl K i)) && (kitsB K && (topsB K && (namesB K && exmB K))))
def ex (K : PySem.W.Frag) : Bool := errB K && He.tupB K "SIGNALS" (sig9.map He.Dv.str) && (He.tupB K "SURE" (sure.map He.Dv.str) && (formsB K && (plainB K && (choicesB K && readersB K))))
def ts : List He.Tab := [(fun K => He.ga K "FORMS", forms.map (·.1)), (fun K => He.ga K "CHOICES", choicesH.map (·.1)), (fun K => He.ga K "READERS", ["title", "small", "row", "whole", "name", "signal", "signals"])]
abbrev R : PySem.W.OpenRow := PySem.W.OpenLaw.row PySem.Challenge.rw_kinsignals_k86_numbers_of_many_figures
abbrev hk : PySem.W.Hook := hookS 4 fa fn ts ex
def ob (s : PySem.W.SharedT) : He.AlX := obsS 4 fa fn ts ex (HandSHeadRun.getT s)
theorem ob_eq (s : PySem.W.SharedT) : ob s = hk.obs s.abs := obsS_eq (HandSHeadRun.getT_eq s)
def loose : List Str := (["KinError", "NoTitle", "NoOne", "NoSession", "NoText", "NoBook", "NoTyped", "NoEntry", "NoScript", "TooMany", "NoLine", "NoHouse", "is_whole", "is_natural", "is_small", "is_one_of", "SIGNALS", "SURE", "is_signal", "is_loose", "are_loose", "LONGEST_TITLE", "FORMS", "is_title", "is_row_number", "is_handler", "is_child_part", "is_part", "is_row", "is_program"] : List Str) ++ (["is_book", "FIGURES", "MOST_FIGURES", "CHOICES", "is_number", "is_signed_number", "read_number", "read_whole", "read_letters", "read_name", "read_signal", "read_signals", "read_choice", "READERS", "read_word", "read_words", "read_wait", "read_handle", "read_row", "lacks_rows", "add_program", "add_row", "read_programs", "read_book", "_law_hand", "_law_pick", "_law_of", "_law_class", "_law_told", "_law_great"] : List Str) ++ (["_law_lines"] : List Str)
theorem run (w : World) : HandSHeadRun.RunEq R (PySem.W.view R.prog [68]) hk ob 6000 loose w :=
  PySem.W.byRow2 "special-get-raises" (P := fun w => HandSHeadRun.RunEq R (PySem.W.view R.prog [68]) hk ob 6000 loose w) (fun w os => by kernel_rfl) (fun w os => by kernel_rfl) w
end Kin
/-! Own rules: enumerate(tuple) walked; d.update(d2) of dicts with text and number keys. -/
namespace Kin
open PySem PySem.Spec PyProof.Rows L2
theorem meets_enumT (l : Addr) (items : Array Value) :
    Meets (Builtin.«enumerate.__new__» ⟨[.type "enumerate", .ref l], []⟩) (fun _ R s => s.heap.IsTuple l items ∧
      R (.ok (.ret (.ref (s.heap.push { cls := .type "tuple_iterator", data := .fields #[.ref l, .int 0 0] }).objs.size)))
        { s with heap := (s.heap.push { cls := .type "tuple_iterator", data := .fields #[.ref l, .int 0 0] }).push { cls := .type "enumerate", data := .fields #[.none, .bool false, .ref s.heap.objs.size, rawInt 0, .none, .none] } }) :=
  .of_wp fun prog w A R s h => by
    obtain ⟨hp, g, d, tk, os⟩ := s; obtain ⟨h1, h⟩ := h
    have hsub := sub_enumerate
    have q1 : ∀ {A' : Around} {E : Value → Shared → Prop} {Q : Value → Shared → Prop}, Q (.ref hp.objs.size) ⟨hp.push { cls := .type "tuple_iterator", data := .fields #[.ref l, .int 0 0] }, g, d, tk, os⟩ → wpAny (model prog w) A' (pyIter (.ref l)) Q E ⟨hp, g, d, tk, os⟩ :=
      fun q => (begins_tuple l items).iter prog w _ _ ⟨hp, g, d, tk, os⟩ _ h1 q
    wp_walk using q1
    refine wpAny_stack_any fun st => wpAny_pure ?_
    split
    · rename_i c _ _ _ _ _
      cases (c == Value.type "enumerate")
      · wp_walk using q1
        exact ⟨_, rfl, h⟩
      · wp_walk using q1
        exact ⟨_, rfl, h⟩
    · wp_walk using q1
      exact ⟨_, rfl, h⟩
theorem call_enumT {prog : Program} {w : World} {A : Around} {E : Value → Shared → Prop} {s : Shared} {l : Addr} {items : Array Value} {Q : Value → Shared → Prop} (hL : s.heap.IsTuple l items)
    (h : ∀ h', IsEnum h' (s.heap.objs.size + 1) s.heap.objs.size 0 .none → h'.IsTupleIter s.heap.objs.size l 0 → h'.objs.size = s.heap.objs.size + 2 →
      (∀ b o, s.heap.get? b = some o → h'.get? b = some o) → Q (.ref (s.heap.objs.size + 1)) { s with heap := h' }) :
    wpAny (model prog w) A (call (.type "enumerate") [.ref l]) Q E s := by
  refine callType_new F.called_enumerate (by decide) (F.typeCall_enumerate_1 _) (F.newCall_enumerate_1 _) (fun obj => F.args_object_init_2 obj _) F.entry_enumerate_new
    (meets_enumT l items) ⟨hL, ?_⟩
  have hz : (s.heap.push { cls := .type "tuple_iterator", data := .fields #[.ref l, .int 0 0] }).objs.size = s.heap.objs.size + 1 := Heap.size_push ..
  show _ ∧ _
  rw [hz]
  have he : IsEnum ((s.heap.push { cls := .type "tuple_iterator", data := .fields #[.ref l, .int 0 0] }).push
      { cls := .type "enumerate", data := .fields #[.none, .bool false, .ref s.heap.objs.size, rawInt 0, .none, .none] }) (s.heap.objs.size + 1) s.heap.objs.size 0 .none := by
    have := Heap.get?_push_size (s.heap.push { cls := .type "tuple_iterator", data := .fields #[.ref l, .int 0 0] })
      (o := { cls := .type "enumerate", data := .fields #[.none, .bool false, .ref s.heap.objs.size, rawInt 0, .none, .none] }) rfl
    rw [hz] at this; exact this
  refine ⟨⟨_, he, rfl⟩, h _ he ⟨_, Heap.get?_push_of_some _ (Heap.get?_push_size _ rfl), rfl, rfl⟩ (by rw [Heap.size_push, hz]) fun b o x => Heap.get?_push_of_some _ (Heap.get?_push_of_some _ x)⟩
end Kin
namespace Kin
open PySem PySem.Spec PyProof.Rows L2
/-- the tuple at a as it stands at each turn, each item in a new pair -/
def ItT (K : PySem.W.Frag) (a : Addr) : It :=
  ⟨fun i H => ∃ (xs : List V) (x : V), SqT K H a xs ∧ xs[i]? = some x, fun i H v H' => ∃ T x, v = .ref T ∧ H T = none ∧ H' = upd H T (.tup [.int (i : Nat), x]) ∧ ∀ xs, SqT K H a xs → xs[i]? = some x, fun i H => ∃ xs : List V, SqT K H a xs ∧ xs.length = i⟩
theorem turn_enumT {P : Program} {w : World} {K : PySem.W.Frag} {elts : List Expr} {kk : Nat} {tpos : Pos} (a e it : Addr) (hai : a ≠ it) (hea : e ≠ a) (hei : e ≠ it) :
    Turn P w K (.Tuple elts kk tpos) (ItT K a) [e, it] e (fun i h => (∃ old, IsEnum h e it ((i : Nat) : Int) old) ∧ h.IsTupleIter it a i) where
  mem := by simp
  obj := fun i h st b hb => by
    obtain ⟨⟨old, he⟩, ⟨o, ho, hc, hd⟩⟩ := st
    have e' : b = e ∨ b = it := by simpa using hb
    rcases e' with z | z
    · rw [z]; exact ⟨_, he, fun v q => nomatch q⟩
    · rw [z]; exact ⟨o, ho, fun v q => by rw [hd] at q; cases q⟩
  keep := fun i h h' st k => let ⟨⟨old, he⟩, hi⟩ := st; ⟨⟨old, k e (by simp) _ he⟩, hi.at fun o q => k it (by simp) o q⟩
  item := by
    intro X hP hw hK hc i pins s σ H E I hf st hg
    subst hP hw hK
    obtain ⟨⟨old, he⟩, hit⟩ := st
    obtain ⟨xs, x, hq, hx⟩ := hg
    obtain ⟨its, rv, p, hz⟩ := I.tuple hq
    obtain ⟨u, hu, ru⟩ := rv.get hx
    have hel : e < s.heap.objs.size := Heap.lt_size he
    have hil : it < s.heap.objs.size := by obtain ⟨_, q, _⟩ := hit; exact Heap.lt_size q
    have hlt : i < its.toArray.size := by
      have := (List.getElem?_eq_some_iff.mp hu).1
      simpa using this
    have D := Draws.tuple (prog := X.prog) (w := X.w) (A := X.A.in1) (I.ok.hd hc) it a hai its.toArray
    refine wpAny_pyNext_enum_itemD D he ⟨hit, p⟩ hlt hei (by simp [hei, hea]) fun x' h' tk hPx ho hit' hT hsz hk => ?_
    have ex' : x' = u := by
      have hPx : its.toArray[i]? = some x' := hPx
      have hu' : its.toArray[i]? = some u := by simpa using hu
      exact Option.some.inj (hPx.symm.trans hu')
    subst ex'
    refine ⟨_, rfl, wpAny_letOwnedTupleGo_enum (s := { s with heap := h', toks := tk + 1 }) ho fun h'' he' sb => ?_⟩
    have hT2 : h''.get? s.heap.objs.size = some { cls := .type "tuple", data := .seq #[.int i tk, x'] } := (sb.2 _ (Nat.ne_of_gt hel)).trans hT
    have new : ObjOk X.prog X.w (upd H s.heap.objs.size (.tup [.int (i : Nat), x])) h'' s.heap.objs.size (.tup [.int (i : Nat), x]) :=
      ⟨by show 2 ≤ sizeLine; decide, [.int i tk, x'], .cons ⟨_, rfl⟩ (.cons ru .nil), ⟨_, hT2, rfl, _, rfl⟩⟩
    have I1 : Inv X pins σ (upd H s.heap.objs.size (.tup [.int (i : Nat), x])) { s with heap := h'', toks := tk + 1 } :=
      I.turnedNew (ch := [e, it]) (fun b ob hb q => (sb.2 b (fun z => hb (by simp [z]))).trans (hk b ob (fun z => hb (by simp [z])) (fun z => hb (by simp [z])) q)) hf (Nat.le_refl _) new
    refine ⟨.ref s.heap.objs.size, _, I1, rfl, ⟨_, x, rfl, I.hok.fresh (Nat.le_refl _), rfl, fun ys hy => by rw [I.tuple_inj hy hq]; exact hx⟩, ⟨⟨x', ?_⟩, hit'.1.at fun o q => (sb.2 it (Ne.symm hei)).trans q⟩, fun b hb => ?_⟩
    · have e1 : ((i + 1 : Nat) : Int) = (i : Int) + 1 := by omega
      rw [e1]; exact he'
    · have hb' : b < s.heap.objs.size := by
        have e' : b = e ∨ b = it := by simpa using hb
        rcases e' with z | z
        · rw [z]; exact hel
        · rw [z]; exact hil
      rw [upd_ne (Nat.ne_of_lt hb')]
      exact (hf b hb).1
  done := by
    intro X hP hw hK hc i pins s σ H E I hf st hg
    subst hP hw hK
    obtain ⟨⟨old, he⟩, hit⟩ := st
    obtain ⟨xs, hq, hx⟩ := hg
    obtain ⟨its, rv, p, hz⟩ := I.tuple hq
    obtain ⟨f0, f1, f2, f3, f4, f5⟩ := hf it (by simp)
    have hl := rv.length
    have D := Draws.tuple (prog := X.prog) (w := X.w) (A := X.A.in1) (I.ok.hd hc) it a hai its.toArray
    have hi : i = its.toArray.size := by simp; omega
    subst hi
    exact wpAny_pyNext_enum_endD D he ⟨hit, p⟩ fun h' eb => ⟨rfl, I.turned (t' := s.toks) (fun b o hb q => eb b o hb q) f0 f1 f3 f4 f5⟩
  self := fun A i s Q E st h => let ⟨⟨_, he⟩, _⟩ := st; wpAny_pyIter_enum he h
def iEnumT (K : PySem.W.Frag) (ta : TA) : TI := fun σ H R => ta σ H fun vs H1 => ∃ a xs, vs = [.ref a] ∧ SqT K H1 a xs ∧ R (ItT K a) H1
theorem pi_enumT {X : Cx} {e : Expr} {ta : TA} {p pos tpos : Pos} {elts : List Expr} {kk : Nat} (hg : Gl X "enumerate") (hm : X.mg "enumerate" = none) (ha : PA X [e] ta) (hs : starEach [e] X.env = [(false, eval e X.env)] := by rfl) :
    PI X (.Tuple elts kk tpos) (.Call (.Name "enumerate" p) [e] [] pos) (iEnumT X.K ta) := by
  refine ⟨fun pins s σ H R I h => ?_⟩
  refine Call_ (ld_blt I hg hm boot_enumerate (PyProof.Rows.callWith_type1 (thn (ha.run pos pins s σ H _ I h) fun us s1 ⟨vs, H1, I1, r1, q1⟩ => ?_) hs rfl))
  obtain ⟨a, xs, ex, hq, q⟩ := q1
  subst ex
  cases r1 with
  | cons r rr =>
    cases rr
    cases r
    obtain ⟨its, rv, p', hz⟩ := I1.tuple hq
    have hal : a < s1.heap.objs.size := by obtain ⟨_, q, _⟩ := id p'; exact Heap.lt_size q
    refine call_enumT (show s1.heap.IsTuple a its.toArray from p') fun h' he hit hsz hk => wpAny_pyIter_enum he ?_
    have I2 : Inv X pins σ H1 { s1 with heap := h' } := I1.kept (t' := s1.toks) hk
    refine ⟨s1.heap.objs.size + 1, [s1.heap.objs.size + 1, s1.heap.objs.size], _, _, H1, rfl, I2, turn_enumT a (s1.heap.objs.size + 1) s1.heap.objs.size (Nat.ne_of_lt hal) (Nat.ne_of_gt (Nat.lt_succ_of_lt hal)) (Nat.succ_ne_self _), ⟨⟨.none, he⟩, hit⟩, fun b hb => ?_, q⟩
    have e' : b = s1.heap.objs.size + 1 ∨ b = s1.heap.objs.size := by simpa using hb
    have hle : s1.heap.objs.size ≤ b := by
      rcases e' with z | z
      · rw [z]; exact Nat.le_add_right _ _
      · rw [z]; exact Nat.le_refl _
    exact I1.fpOk hle (I1.hok.fresh hle)
theorem walk_enumT {K : PySem.W.Frag} {a : Addr} {xs : List V} : Walk (ItT K a) xs.length (fun H => SqT K H a xs) (YPair (fun i => some (.int (i : Nat))) (fun i => xs[i]?)) := by
  refine ⟨fun i _ hi q => ⟨xs, xs[i], q, by simp [hi]⟩, fun _ q => ⟨xs, q, rfl⟩, fun i H v H' _ q y => ?_⟩
  obtain ⟨T, x, h1, h2, h3, h4⟩ := y
  exact ⟨T, .int (i : Nat), x, h1, h2, h3, rfl, h4 xs q⟩
/-! ### d.update(d2) -/
def rUpdate : V → List V → Hp → VK → Prop := fun x vs H Q => ∃ (a b : Addr) (kvs more : List (Key × V)), x = .ref a ∧ vs = [.ref b] ∧ a ≠ b ∧ H a = some (.dK kvs) ∧ H b = some (.dK more) ∧ kvs.length + more.length ≤ 1000000 ∧ Q .non (upd H a (.dK (mergeK kvs more)))
theorem mt_update {X : Cx} : MtR X "dict.update" rUpdate := by
  intro pins s σ H x vs v us Q I rx rv h
  obtain ⟨a, b, kvs, more, ex, ev, hab, ea, eb, hl, q⟩ := h
  subst ex ev
  obtain rfl : v = Value.ref a := rx
  obtain ⟨u, eu, ru⟩ := vals1 rv
  subst eu
  obtain rfl : u = Value.ref b := ru
  obtain ⟨z, hd, ws, rel, dd⟩ := dk_of I.hok ea
  obtain ⟨z2, hd2, ws2, rel2, dd2⟩ := dk_of I.hok eb
  have l1 := rel.length
  have l2 := rel2.length
  have hsz : ws.length + ws2.length ≤ sizeLine := by
    rw [← l1, ← l2]
    exact Nat.le_trans hl (by decide)
  refine call_meetsIn PySem.F.slot_dict_update dd.typeIs PySem.F.entry_dict_update (PySem.F.args_dict_update_2 _ _) (meets_dict_update (mixKind X.prog X.w) a b hab hd2) ⟨ws, ws2, dd, dd2, hsz, fun h' dd' ddo hs => ?_⟩
  have he : ∃ q, h'.get? a = some q := let ⟨q, _, _, hq, _⟩ := dd'; ⟨q, hq⟩
  have hlen : (mergeK kvs more).length ≤ sizeLine := Nat.le_trans (length_mergeK more kvs) (Nat.le_trans hl (by decide))
  exact ⟨.non, _, d_write (t' := s.toks) I (by rw [ea]; exact True.intro) hs he (dk_new hlen hd (KV.merge rel2 rel) dd'), rfl, q⟩
end Kin
namespace Kin
open PySem
theorem lAll7_eq : ∀ ds : List PyData, lAll7 ds = ds.all fun d => pOne d sig7
  | [] => rfl
  | d :: r => by
    show (pOne d sig7 && lAll7 r) = _
    rw [lAll7_eq r]
    rfl
theorem lUp_all : ∀ l : List Nat, ((List.range (l.length - 1)).map fun i => decide (l[i]?.getD 0 < l[i + 1]?.getD 0)).all id = lUp l
  | [] => rfl
  | [_] => rfl
  | a :: b :: r => by
    have ih := lUp_all (b :: r)
    have e : lUp (a :: b :: r) = (decide (a < b) && lUp (b :: r)) := by
      conv => lhs; unfold lUp
    rw [e, ← ih]
    show ((List.range ((b :: r).length - 1 + 1)).map _).all id = _
    rw [List.range_succ_eq_map, List.map_cons, List.all_cons, List.map_map]
    rfl
theorem lParts_all (w : Str) (n : Int) : ∀ (ps : List PyData) (k : Nat), ((List.range ps.length).map fun i => (match ps[i]? with | some p => lPart w (k + i) p n | none => true)).all id = lParts w n k ps
  | [], _ => rfl
  | p :: ps, k => by
    rw [List.length_cons, List.range_succ_eq_map, List.map_cons, List.all_cons, List.map_map]
    have ih := lParts_all w n ps (k + 1)
    show (lPart w k p n && ((List.range ps.length).map fun i => (match ps[i]? with | some p => lPart w (k + (i + 1)) p n | none => true)).all id) = (lPart w k p n && lParts w n (k + 1) ps)
    rw [← ih]
    have e : (fun i => (match ps[i]? with | some p => lPart w (k + (i + 1)) p n | none => true)) = fun i => (match ps[i]? with | some p => lPart w (k + 1 + i) p n | none => true) := by
      funext i
      rw [show k + (i + 1) = k + 1 + i by omega]
    rw [e]
end Kin
namespace Kin
open PySem
theorem pp_title (d : PyData) (n : Int) : pPart "title" d n = pTitle d := by
  unfold pPart
  rw [if_pos rfl]
theorem pp_small (d : PyData) (n : Int) : pPart "small" d n = pSmall d := by
  unfold pPart
  rw [if_neg (by decide +kernel), if_pos rfl]
theorem pp_whole (d : PyData) (n : Int) : pPart "whole" d n = pWhole d := by
  unfold pPart
  rw [if_neg (by decide +kernel), if_neg (by decide +kernel), if_pos rfl]
theorem pp_truth (d : PyData) (n : Int) : pPart "truth" d n = isBool d := by
  unfold pPart
  rw [if_neg (by decide +kernel), if_neg (by decide +kernel), if_neg (by decide +kernel), if_pos rfl]
theorem pp_row (d : PyData) (n : Int) : pPart "row" d n = pRowNo d n := by
  unfold pPart
  rw [if_neg (by decide +kernel), if_neg (by decide +kernel), if_neg (by decide +kernel), if_neg (by decide +kernel), if_pos rfl]
theorem pp_signal (d : PyData) (n : Int) : pPart "signal" d n = pOne d sig9 := by
  unfold pPart
  rw [if_neg (by decide +kernel), if_neg (by decide +kernel), if_neg (by decide +kernel), if_neg (by decide +kernel), if_neg (by decide +kernel), if_pos rfl]
theorem pp_loose (d : PyData) (n : Int) : pPart "loose" d n = pLoose d := by
  unfold pPart
  rw [if_neg (by decide +kernel), if_neg (by decide +kernel), if_neg (by decide +kernel), if_neg (by decide +kernel), if_neg (by decide +kernel), if_neg (by decide +kernel), if_pos rfl]
theorem pp_signals (d : PyData) (n : Int) : pPart "signals" d n = pAre d := by
  unfold pPart
  rw [if_neg (by decide +kernel), if_neg (by decide +kernel), if_neg (by decide +kernel), if_neg (by decide +kernel), if_neg (by decide +kernel), if_neg (by decide +kernel), if_neg (by decide +kernel), if_pos rfl]
theorem pp_how (d : PyData) (n : Int) : pPart "how" d n = (pOne d ["plain", "ignore"] || pHandler d n) := by
  unfold pPart
  rw [if_neg (by decide +kernel), if_neg (by decide +kernel), if_neg (by decide +kernel), if_neg (by decide +kernel), if_neg (by decide +kernel), if_neg (by decide +kernel), if_neg (by decide +kernel), if_neg (by decide +kernel), if_pos rfl]
theorem pp_where (d : PyData) (n : Int) : pPart "where" d n = pOne d ["new", "mine"] := by
  unfold pPart
  rw [if_neg (by decide +kernel), if_neg (by decide +kernel), if_neg (by decide +kernel), if_neg (by decide +kernel), if_neg (by decide +kernel), if_neg (by decide +kernel), if_neg (by decide +kernel), if_neg (by decide +kernel), if_neg (by decide +kernel), if_pos rfl]
theorem pp_which (d : PyData) (n : Int) : pPart "which" d n = if pNat d = true then true else isNone d := by
  unfold pPart
  rw [if_neg (by decide +kernel), if_neg (by decide +kernel), if_neg (by decide +kernel), if_neg (by decide +kernel), if_neg (by decide +kernel), if_neg (by decide +kernel), if_neg (by decide +kernel), if_neg (by decide +kernel), if_neg (by decide +kernel), if_neg (by decide +kernel)]
  unfold pChild
  rw [if_pos (show ("which" : Str) = "which" from rfl)]
theorem pp_who (d : PyData) (n : Int) : pPart "who" d n = if pNat d = true then true else pOne d ["self"] := by
  unfold pPart
  rw [if_neg (by decide +kernel), if_neg (by decide +kernel), if_neg (by decide +kernel), if_neg (by decide +kernel), if_neg (by decide +kernel), if_neg (by decide +kernel), if_neg (by decide +kernel), if_neg (by decide +kernel), if_neg (by decide +kernel), if_neg (by decide +kernel)]
  unfold pChild
  rw [if_neg (show ¬ ("who" : Str) = "which" by decide +kernel), if_pos (show ("who" : Str) = "who" from rfl)]
theorem pp_to (d : PyData) (n : Int) : pPart "to" d n = if pNat d = true then true else pOne d ["self", "parent", "group"] := by
  unfold pPart
  rw [if_neg (by decide +kernel), if_neg (by decide +kernel), if_neg (by decide +kernel), if_neg (by decide +kernel), if_neg (by decide +kernel), if_neg (by decide +kernel), if_neg (by decide +kernel), if_neg (by decide +kernel), if_neg (by decide +kernel), if_neg (by decide +kernel)]
  unfold pChild
  rw [if_neg (show ¬ ("to" : Str) = "which" by decide +kernel), if_neg (show ¬ ("to" : Str) = "who" by decide +kernel)]
theorem lp_exec_0 (d : PyData) (n : Int) : lPart "exec" 0 d n = lTitle d := by
  unfold lPart
  rw [if_pos (by decide +kernel)]
theorem lp_end_0 (d : PyData) (n : Int) : lPart "end" 0 d n = lWhole d 0 100 := by
  unfold lPart
  rw [if_neg (by decide +kernel), if_pos (by decide +kernel)]
theorem lp_wait_0 (d : PyData) (n : Int) : lPart "wait" 0 d n = (isNone d || lWhole d 0 great) := by
  unfold lPart
  rw [if_neg (by decide +kernel), if_neg (by decide +kernel), if_pos (by decide +kernel), if_neg (by decide)]
theorem lp_wait_1 (d : PyData) (n : Int) : lPart "wait" 1 d n = isBool d := by
  unfold lPart
  rw [if_neg (by decide +kernel), if_neg (by decide +kernel), if_pos (by decide +kernel), if_pos rfl]
theorem lp_send_0 (d : PyData) (n : Int) : lPart "send" 0 d n = pOne d (sure ++ sig7) := by
  unfold lPart
  rw [if_neg (by decide +kernel), if_neg (by decide +kernel), if_neg (by decide +kernel), if_pos (by decide +kernel), if_pos rfl]
theorem lp_send_1 (d : PyData) (n : Int) : lPart "send" 1 d n = (lWhole d 0 great || pOne d ["self", "parent", "group"]) := by
  unfold lPart
  rw [if_neg (by decide +kernel), if_neg (by decide +kernel), if_neg (by decide +kernel), if_pos (by decide +kernel), if_neg (by decide)]
theorem lp_mask_0 (d : PyData) (n : Int) : lPart "mask" 0 d n = lAre d := by
  unfold lPart
  rw [if_neg (by decide +kernel), if_neg (by decide +kernel), if_neg (by decide +kernel), if_neg (by decide +kernel), if_pos (by decide +kernel)]
theorem lp_unmask_0 (d : PyData) (n : Int) : lPart "unmask" 0 d n = lAre d := by
  unfold lPart
  rw [if_neg (by decide +kernel), if_neg (by decide +kernel), if_neg (by decide +kernel), if_neg (by decide +kernel), if_pos (by decide +kernel)]
theorem lp_handle_0 (d : PyData) (n : Int) : lPart "handle" 0 d n = pOne d sig7 := by
  unfold lPart
  rw [if_neg (by decide +kernel), if_neg (by decide +kernel), if_neg (by decide +kernel), if_neg (by decide +kernel), if_neg (by decide +kernel), if_pos (by decide +kernel)]
theorem lp_handle_1 (d : PyData) (n : Int) : lPart "handle" 1 d n = (if isTup d = true then lHandler d n else pOne d ["plain", "ignore"]) := by
  unfold lPart
  rw [if_neg (by decide +kernel), if_neg (by decide +kernel), if_neg (by decide +kernel), if_neg (by decide +kernel), if_neg (by decide +kernel), if_neg (by decide +kernel), if_pos (by decide +kernel)]
theorem lp_group_0 (d : PyData) (n : Int) : lPart "group" 0 d n = (lWhole d 0 great || pOne d ["self"]) := by
  unfold lPart
  rw [if_neg (by decide +kernel), if_neg (by decide +kernel), if_neg (by decide +kernel), if_neg (by decide +kernel), if_neg (by decide +kernel), if_neg (by decide +kernel), if_neg (by decide +kernel), if_pos (by decide +kernel)]
theorem lp_group_1 (d : PyData) (n : Int) : lPart "group" 1 d n = pOne d ["new", "mine"] := by
  unfold lPart
  rw [if_neg (by decide +kernel), if_neg (by decide +kernel), if_neg (by decide +kernel), if_neg (by decide +kernel), if_neg (by decide +kernel), if_neg (by decide +kernel), if_neg (by decide +kernel), if_neg (by decide +kernel), if_pos (by decide +kernel)]
theorem lp_front_0 (d : PyData) (n : Int) : lPart "front" 0 d n = (lWhole d 0 great || pOne d ["self"]) := by
  unfold lPart
  rw [if_neg (by decide +kernel), if_neg (by decide +kernel), if_neg (by decide +kernel), if_neg (by decide +kernel), if_neg (by decide +kernel), if_neg (by decide +kernel), if_neg (by decide +kernel), if_pos (by decide +kernel)]
theorem lp_say_0 (d : PyData) (n : Int) : lPart "say" 0 d n = lWhole d 0 100 := by
  unfold lPart
  rw [if_neg (by decide +kernel), if_pos (by decide +kernel)]
theorem lp_goto_0 (d : PyData) (n : Int) : lPart "goto" 0 d n = lWhole d 0 n := by
  unfold lPart
  rw [if_neg (by decide +kernel), if_neg (by decide +kernel), if_neg (by decide +kernel), if_neg (by decide +kernel), if_neg (by decide +kernel), if_neg (by decide +kernel), if_neg (by decide +kernel), if_neg (by decide +kernel), if_neg (by decide +kernel), if_neg (by decide +kernel)]
theorem lp_iff_0 (d : PyData) (n : Int) : lPart "if" 0 d n = lWhole d (0 - great) great := by
  unfold lPart
  rw [if_neg (by decide +kernel), if_neg (by decide +kernel), if_neg (by decide +kernel), if_neg (by decide +kernel), if_neg (by decide +kernel), if_neg (by decide +kernel), if_neg (by decide +kernel), if_neg (by decide +kernel), if_neg (by decide +kernel), if_pos (by decide +kernel)]
theorem lp_iff_1 (d : PyData) (n : Int) : lPart "if" 1 d n = lWhole d 0 n := by
  unfold lPart
  rw [if_neg (by decide +kernel), if_neg (by decide +kernel), if_neg (by decide +kernel), if_neg (by decide +kernel), if_neg (by decide +kernel), if_neg (by decide +kernel), if_neg (by decide +kernel), if_neg (by decide +kernel), if_neg (by decide +kernel), if_neg (by decide +kernel)]
theorem sig_app (d : PyData) : pOne d sig9 = pOne d (sure ++ sig7) := rfl
theorem which_eq {d : PyData} (hb : bnd d = true) : (if pNat d = true then true else isNone d) = (isNone d || lWhole d 0 great) := by
  rw [nat_eq hb]
  cases lWhole d 0 great <;> cases isNone d <;> rfl
theorem to_eq {d : PyData} (hb : bnd d = true) : (if pNat d = true then true else pOne d ["self", "parent", "group"]) = (lWhole d 0 great || pOne d ["self", "parent", "group"]) := by
  rw [nat_eq hb]
  cases lWhole d 0 great <;> rfl
theorem who_eq {d : PyData} (hb : bnd d = true) : (if pNat d = true then true else pOne d ["self"]) = (lWhole d 0 great || pOne d ["self"]) := by
  rw [nat_eq hb]
  cases lWhole d 0 great <;> rfl
theorem e_exec_0 (n : Int) (d : PyData) (hb : bnd d = true) : pPart "title" d n = lPart "exec" 0 d n := by
  rw [pp_title, lp_exec_0]
  exact title_eq d
theorem e_end_0 (n : Int) (d : PyData) (hb : bnd d = true) : pPart "small" d n = lPart "end" 0 d n := by
  rw [pp_small, lp_end_0]
  exact small_eq d
theorem e_wait_0 (n : Int) (d : PyData) (hb : bnd d = true) : pPart "which" d n = lPart "wait" 0 d n := by
  rw [pp_which, lp_wait_0]
  exact which_eq hb
theorem e_wait_1 (n : Int) (d : PyData) (hb : bnd d = true) : pPart "truth" d n = lPart "wait" 1 d n := by
  rw [pp_truth, lp_wait_1]
theorem e_send_0 (n : Int) (d : PyData) (hb : bnd d = true) : pPart "signal" d n = lPart "send" 0 d n := by
  rw [pp_signal, lp_send_0]
  exact sig_app d
theorem e_send_1 (n : Int) (d : PyData) (hb : bnd d = true) : pPart "to" d n = lPart "send" 1 d n := by
  rw [pp_to, lp_send_1]
  exact to_eq hb
theorem e_mask_0 (n : Int) (d : PyData) (hb : bnd d = true) : pPart "signals" d n = lPart "mask" 0 d n := by
  rw [pp_signals, lp_mask_0]
  exact are_eq d
theorem e_unmask_0 (n : Int) (d : PyData) (hb : bnd d = true) : pPart "signals" d n = lPart "unmask" 0 d n := by
  rw [pp_signals, lp_unmask_0]
  exact are_eq d
theorem e_handle_0 (n : Int) (d : PyData) (hb : bnd d = true) : pPart "loose" d n = lPart "handle" 0 d n := by
  rw [pp_loose, lp_handle_0]
  exact pLoose_eq d
theorem e_handle_1 (n : Int) (d : PyData) (hb : bnd d = true) : pPart "how" d n = lPart "handle" 1 d n := by
  rw [pp_how, lp_handle_1]
  exact how_eq d n
theorem e_group_0 (n : Int) (d : PyData) (hb : bnd d = true) : pPart "who" d n = lPart "group" 0 d n := by
  rw [pp_who, lp_group_0]
  exact who_eq hb
theorem e_group_1 (n : Int) (d : PyData) (hb : bnd d = true) : pPart "where" d n = lPart "group" 1 d n := by
  rw [pp_where, lp_group_1]
theorem e_front_0 (n : Int) (d : PyData) (hb : bnd d = true) : pPart "who" d n = lPart "front" 0 d n := by
  rw [pp_who, lp_front_0]
  exact who_eq hb
theorem e_say_0 (n : Int) (d : PyData) (hb : bnd d = true) : pPart "small" d n = lPart "say" 0 d n := by
  rw [pp_small, lp_say_0]
  exact small_eq d
theorem e_goto_0 (n : Int) (d : PyData) (hb : bnd d = true) : pPart "row" d n = lPart "goto" 0 d n := by
  rw [pp_row, lp_goto_0]
  exact rowno_eq d n
theorem e_iff_0 (n : Int) (d : PyData) (hb : bnd d = true) : pPart "whole" d n = lPart "if" 0 d n := by
  rw [pp_whole, lp_iff_0]
  exact whole_eq hb
theorem e_iff_1 (n : Int) (d : PyData) (hb : bnd d = true) : pPart "row" d n = lPart "if" 1 d n := by
  rw [pp_row, lp_iff_1]
  exact rowno_eq d n
theorem row_eq (n : Int) (w : Str) (ps : List PyData) (hb : ps.all bnd = true) : pRow (.tuple (.str w :: ps)) n = lRow (.tuple (.str w :: ps)) n := by
  by_cases hw : w ∈ words18
  · have hz : w = "fork" ∨ w = "exec" ∨ w = "end" ∨ w = "wait" ∨ w = "pause" ∨ w = "read" ∨ w = "send" ∨ w = "mask" ∨ w = "unmask" ∨ w = "handle" ∨ w = "return" ∨ w = "session" ∨ w = "group" ∨ w = "front" ∨ w = "taker" ∨ w = "say" ∨ w = "goto" ∨ w = "if" := by simpa [words18] using hw
    rcases hz with rfl | rfl | rfl | rfl | rfl | rfl | rfl | rfl | rfl | rfl | rfl | rfl | rfl | rfl | rfl | rfl | rfl | rfl
    · exact row_of (ks := []) (m := 0) (by decide +kernel) (by decide +kernel) rfl (fun h => by rw [List.length_eq_zero_iff.mp h]; rfl)
    · exact row_of (ks := ["title"]) (m := 1) (by decide +kernel) (by decide +kernel) rfl (fun h => parts1 (e_exec_0 n) hb h)
    · exact row_of (ks := ["small"]) (m := 1) (by decide +kernel) (by decide +kernel) rfl (fun h => parts1 (e_end_0 n) hb h)
    · exact row_of (ks := ["which", "truth"]) (m := 2) (by decide +kernel) (by decide +kernel) rfl (fun h => parts2 (e_wait_0 n) (e_wait_1 n) hb h)
    · exact row_of (ks := []) (m := 0) (by decide +kernel) (by decide +kernel) rfl (fun h => by rw [List.length_eq_zero_iff.mp h]; rfl)
    · exact row_of (ks := []) (m := 0) (by decide +kernel) (by decide +kernel) rfl (fun h => by rw [List.length_eq_zero_iff.mp h]; rfl)
    · exact row_of (ks := ["signal", "to"]) (m := 2) (by decide +kernel) (by decide +kernel) rfl (fun h => parts2 (e_send_0 n) (e_send_1 n) hb h)
    · exact row_of (ks := ["signals"]) (m := 1) (by decide +kernel) (by decide +kernel) rfl (fun h => parts1 (e_mask_0 n) hb h)
    · exact row_of (ks := ["signals"]) (m := 1) (by decide +kernel) (by decide +kernel) rfl (fun h => parts1 (e_unmask_0 n) hb h)
    · exact row_of (ks := ["loose", "how"]) (m := 2) (by decide +kernel) (by decide +kernel) rfl (fun h => parts2 (e_handle_0 n) (e_handle_1 n) hb h)
    · exact row_of (ks := []) (m := 0) (by decide +kernel) (by decide +kernel) rfl (fun h => by rw [List.length_eq_zero_iff.mp h]; rfl)
    · exact row_of (ks := []) (m := 0) (by decide +kernel) (by decide +kernel) rfl (fun h => by rw [List.length_eq_zero_iff.mp h]; rfl)
    · exact row_of (ks := ["who", "where"]) (m := 2) (by decide +kernel) (by decide +kernel) rfl (fun h => parts2 (e_group_0 n) (e_group_1 n) hb h)
    · exact row_of (ks := ["who"]) (m := 1) (by decide +kernel) (by decide +kernel) rfl (fun h => parts1 (e_front_0 n) hb h)
    · exact row_of (ks := []) (m := 0) (by decide +kernel) (by decide +kernel) rfl (fun h => by rw [List.length_eq_zero_iff.mp h]; rfl)
    · exact row_of (ks := ["small"]) (m := 1) (by decide +kernel) (by decide +kernel) rfl (fun h => parts1 (e_say_0 n) hb h)
    · exact row_of (ks := ["row"]) (m := 1) (by decide +kernel) (by decide +kernel) rfl (fun h => parts1 (e_goto_0 n) hb h)
    · exact row_of (ks := ["whole", "row"]) (m := 2) (by decide +kernel) (by decide +kernel) rfl (fun h => parts2 (e_iff_0 n) (e_iff_1 n) hb h)
  · have h1 : forms.lookup w = none := lookup_none hw
    have h2 : many.lookup w = none := lookup_none fun q => hw (by
      have hs : ∀ z ∈ many.map (·.1), z ∈ words18 := by decide +kernel
      exact hs w q)
    show (match forms.lookup w with | some ks => decide (ps.length = ks.length) && pParts n ks ps | none => false) = (match many.lookup w with | some m => decide ((ps.length : Int) + 1 = 1 + m) && lParts w n 0 ps | none => false)
    rw [h1, h2]
theorem rows_agree (n : Int) (d : PyData) (hb : bndAll d = true) : pRow d n = lRow d n := by
  cases d with
  | tuple ds =>
    cases ds with
    | nil => rfl
    | cons a r =>
      cases a with
      | str w =>
        have hb : (bnd (.str w) && r.all bnd) = true := hb
        exact row_eq n w r (Bool.and_eq_true_iff.mp hb).2
      | _ => rfl
  | _ => rfl
end Kin
/-! Small rules for tests, common to the law's own looks and to what it draws. -/
namespace Kin
open PySem PySem.Spec PyProof.Rows L2
section
variable {K : PySem.W.Frag}
theorem dec_at {i : Nat} {j : Nat} : decide (V.int (i : Int) = V.int (j : Int)) = decide (i = j) := by
  rw [dec_int']
  by_cases h : i = j
  · rw [decide_eq_true h, decide_eq_true (by omega)]
  · rw [decide_eq_false h, decide_eq_false (by omega)]
theorem ite_in {z : Str} {ws : List Str} {A B : Prop} (h1 : z ∈ ws → A) (h2 : ¬ z ∈ ws → B) : if inV (.str z) (ws.map V.str) = true then A else B := by
  rw [inV_strs]
  exact ite2 (fun e => h1 (of_decide_eq_true e)) (fun e => h2 fun q => e (decide_eq_true q))
theorem ite_at {i j : Nat} {A B : Prop} (h1 : i = j → A) (h2 : ¬ i = j → B) : if decide (V.int (i : Int) = V.int (j : Int)) = true then A else B := by
  rw [dec_at]
  exact ite2 (fun e => h1 (of_decide_eq_true e)) (fun e => h2 fun q => e (decide_eq_true q))
theorem non_dec {H : Hp} {x : V} {d : PyData} (h : Dp K H x d) : decide (x = V.non) = isNone d := by cases h <;> rfl
theorem ite_at' {i j : Nat} {A B : Prop} (h : if decide (i = j) = true then A else B) : if decide (V.int (i : Int) = V.int (j : Int)) = true then A else B := by
  rw [dec_at]
  exact h
theorem and_at {c : Bool} {P1 P2 : Prop} [Decidable P1] [Decidable P2] {A B M N : Prop} (hc : c = decide P1) (hN : B → N) (hM : (if decide P2 = true then A else B) → M) (h1 : P1 ∧ P2 → A) (h2 : ¬ (P1 ∧ P2) → B) : if c = true then M else N := by
  subst hc
  by_cases p1 : P1
  · rw [if_pos (decide_eq_true p1)]
    apply hM
    by_cases p2 : P2
    · rw [if_pos (decide_eq_true p2)]
      exact h1 ⟨p1, p2⟩
    · rw [if_neg (fun z => p2 (of_decide_eq_true z))]
      exact h2 fun z => p2 z.2
  · rw [if_neg (fun z => p1 (of_decide_eq_true z))]
    exact hN (h2 fun z => p1 z.1)
theorem isTup_isa (d : PyData) : isaTup d = isTup d := by cases d <;> rfl
theorem sing {H : Hp} {z : Str} (ws : List Str) (hz : z ∈ ws) : True := True.intro
end
end Kin
/-! The hand that a law draws from: a list of a list of cells and a seed. What stands beside it stays. -/
namespace Kin
open PySem PySem.Spec PyProof.Rows L2
def bigM : Int := 2305843009213693951
/-- x: the hand, l: its cells, n of them -/
structure HandN (n : Nat) (x l : Addr) (H : Hp) : Prop where
  ex : ∃ (cells : List Int) (seed : Int), H x = some (.lst [.ref l, .int seed]) ∧ H l = some (.lst (cells.map V.int)) ∧ 0 ≤ seed ∧ seed < bigM ∧ (∀ c ∈ cells, 0 ≤ c) ∧ cells.length = n
  ne : x ≠ l
def Hand (x l : Addr) (H : Hp) : Prop := ∃ n, n ≤ 63 ∧ HandN n x l H
/-- all but the hand is kept -/
def Off (x l : Addr) (H H' : Hp) : Prop := ∀ b o, b ≠ x → b ≠ l → H b = some o → H' b = some o
/-- what stands beside the hand -/
def off (x l : Addr) (H : Hp) : Hp := fun b => if b = x ∨ b = l then none else H b
section
variable {x l : Addr} {H H1 H2 : Hp} {n : Nat}
theorem Off.refl : Off x l H H := fun _ _ _ _ h => h
theorem Off.trans (a : Off x l H H1) (b : Off x l H1 H2) : Off x l H H2 := fun c o h1 h2 e => b c o h1 h2 (a c o h1 h2 e)
theorem Off.of (a : Same H H1) : Off x l H H1 := fun c o _ _ e => a c o e
theorem off_some {b : Addr} {o : HO} : off x l H b = some o ↔ b ≠ x ∧ b ≠ l ∧ H b = some o := by
  unfold off
  by_cases h : b = x ∨ b = l
  · rw [if_pos h]
    constructor
    · intro q
      cases q
    · rintro ⟨h1, h2, _⟩
      rcases h with h | h
      · exact absurd h h1
      · exact absurd h h2
  · rw [if_neg h]
    exact ⟨fun q => ⟨fun z => h (.inl z), fun z => h (.inr z), q⟩, fun q => q.2.2⟩
theorem off_at {b : Addr} {o : HO} (h1 : b ≠ x) (h2 : b ≠ l) (h : H b = some o) : off x l H b = some o := off_some.mpr ⟨h1, h2, h⟩
theorem Off.same (a : Off x l H H1) : Same (off x l H) (off x l H1) := fun b o e => by
  obtain ⟨h1, h2, h3⟩ := off_some.mp e
  exact off_at h1 h2 (a b o h1 h2 h3)
theorem off_sub : Same (off x l H) H := fun b o e => (off_some.mp e).2.2
theorem HandN.cx (h : HandN n x l H) : ∃ o, H x = some o := let ⟨_, _, h1, _⟩ := h.ex; ⟨_, h1⟩
theorem HandN.cl (h : HandN n x l H) : ∃ o, H l = some o := let ⟨_, _, _, h1, _⟩ := h.ex; ⟨_, h1⟩
theorem Hand.nx (h : Hand x l H) {p : Addr} (hp : H p = none) : p ≠ x ∧ p ≠ l := by
  obtain ⟨n, _, hN⟩ := h
  obtain ⟨o, ho⟩ := hN.cx
  obtain ⟨o2, ho2⟩ := hN.cl
  exact ⟨(ne_of_none ho hp).symm, (ne_of_none ho2 hp).symm⟩
theorem HandN.same (h : HandN n x l H) (s : Same H H1) : HandN n x l H1 := by
  obtain ⟨cells, seed, h1, h2, h3⟩ := h.ex
  exact ⟨⟨cells, seed, s _ _ h1, s _ _ h2, h3⟩, h.ne⟩
theorem Hand.same (h : Hand x l H) (s : Same H H1) : Hand x l H1 := let ⟨n, hn, hN⟩ := h; ⟨n, hn, hN.same s⟩
end
theorem dp_off {K : PySem.W.Frag} {x l : Addr} {H : Hp} {v : V} {d : PyData} (h : Dp K (off x l H) v d) : Dp K H v d := dp_mono off_sub h
/-! ### promises of the drawing defs -/
def spHand (K : PySem.W.Frag) : Sp := fun vs H Q _ => ∃ (a : Addr) (ns : List Int), vs = [.ref a] ∧ SqL K H a (ns.map V.int) ∧ ns.length ≤ 63 ∧ ∀ x l H', Same H H' → H x = none → H l = none → Hand x l H' → Q (.ref x) H'
def spPick : Sp := fun vs H Q _ => ∃ (x l : Addr) (many : Int), vs = [.ref x, .int many] ∧ Hand x l H ∧ 0 < many ∧ many ≤ 1000000000 ∧ ∀ k H', 0 ≤ k → k < many → Hand x l H' → Off x l H H' → Q (.int k) H'
/-- of a list or a tuple that stands beside the hand, of a text -/
def spOf (K : PySem.W.Frag) : Sp := fun vs H Q _ => ∃ (x l : Addr) (s : V), vs = [.ref x, s] ∧ Hand x l H ∧
  ((∃ (a : Addr) (xs : List V), s = .ref a ∧ (SqL K (off x l H) a xs ∨ SqT K (off x l H) a xs) ∧ 0 < xs.length ∧ xs.length ≤ 1000 ∧ ∀ v H', v ∈ xs → Hand x l H' → Off x l H H' → Q v H') ∨
   (∃ z : Str, s = .str z ∧ 0 < z.length ∧ z.length ≤ 1000 ∧ ∀ c H', c ∈ z.cps.toList → Hand x l H' → Off x l H H' → Q (.str ⟨#[c]⟩) H'))
def spSignals : Sp := fun vs H Q _ => ∃ x l : Addr, vs = [.ref x] ∧ Hand x l H ∧ ∀ p (ss : List Str) H', ss.Sublist sig7 → H p = none → Hand x l H' → Off x l H H' → H' p = some (.tup (ss.map V.str)) → Q (.ref p) H'
theorem shaped_ints (cells : List Int) : SeqAt.shaped (.list (cells.map PyData.int)) = true := by
  have h1 : PyData.canLayAll0 (cells.map PyData.int) = true := by
    induction cells with
    | nil => rfl
    | cons c r ih =>
      rw [List.map_cons, PyData.canLayAll0, ih]
      rfl
  have h2 : PyData.depthAll (cells.map PyData.int) = 0 := by
    induction cells with
    | nil => rfl
    | cons c r ih =>
      rw [List.map_cons, PyData.depthAll, ih (by
        rw [List.map_cons, PyData.canLayAll0] at h1
        exact (Bool.and_eq_true_iff.mp h1).2)]
      rfl
  unfold SeqAt.shaped
  rw [PyData.canLay0, PyData.depth, h1, h2]
  rfl
theorem dp_ints {K : PySem.W.Frag} {H : Hp} (cells : List Int) : DpAll K H (cells.map V.int) (cells.map PyData.int) := by
  induction cells with
  | nil => exact .nil
  | cons c r ih => exact .cons (.int c) ih
theorem eqv_lnil (ds : List PyData) : PyData.eqv (.list ds) (.list []) = ds.isEmpty := by
  cases ds with
  | nil => simp [PyData.eqv, PyData.eqvAll]
  | cons a r => simp [PyData.eqv, PyData.eqvAll]
end Kin
/-! Data that are nice; rows that are right. -/
namespace Kin
open PySem PySem.Spec PyProof.Rows L2
def near : PyData → Bool
  | .int i => decide (-999999999 ≤ i) && decide (i ≤ 999999999)
  | _ => true
def nearAll : PyData → Bool
  | .tuple ds => ds.all near
  | _ => true
def nice (d : PyData) : Bool := near d && (bnd d && (lenOk d && (d.canLay0 && decide (d.depth ≤ 3))))
theorem nice_of {d : PyData} (h : nice d = true) : bnd d = true ∧ lenOk d = true ∧ d.canLay0 = true ∧ d.depth ≤ 3 := by
  unfold nice at h
  simp only [Bool.and_eq_true, decide_eq_true_eq] at h
  exact h.2
theorem nice_near {ds : List PyData} (h : ds.all nice = true) : ds.all near = true := by
  rw [List.all_eq_true] at h ⊢
  intro d hd
  have := h d hd
  unfold nice at this
  exact (Bool.and_eq_true_iff.mp this).1
theorem nice_all : ∀ {ds : List PyData}, ds.all nice = true → ds.all bnd = true ∧ lenAll ds = true ∧ PyData.canLayAll0 ds = true ∧ PyData.depthAll ds ≤ 3
  | [], _ => ⟨rfl, by rw [lenAll], by rw [PyData.canLayAll0], by rw [PyData.depthAll]; decide⟩
  | d :: r, h => by
    rw [List.all_cons] at h
    obtain ⟨h1, h2⟩ := Bool.and_eq_true_iff.mp h
    obtain ⟨a1, a2, a3, a4⟩ := nice_of h1
    obtain ⟨b1, b2, b3, b4⟩ := nice_all h2
    refine ⟨?_, ?_, ?_, ?_⟩
    · rw [List.all_cons, a1, b1]; rfl
    · rw [lenAll, a2, b2]; rfl
    · rw [PyData.canLayAll0, a3, b3]; rfl
    · rw [PyData.depthAll]
      omega
/-- a tuple (or list) of nice things: fine for both looks -/
def fit (d : PyData) : Prop := bndAll d = true ∧ lenOk d = true ∧ SeqAt.shaped d = true
theorem fit_tup {ds : List PyData} (h : ds.all nice = true) (hl : ds.length ≤ 1000) : fit (.tuple ds) := by
  obtain ⟨b1, b2, b3, b4⟩ := nice_all h
  refine ⟨b1, ?_, ?_⟩
  · rw [lenOk, b2, decide_eq_true (show ds.length ≤ 1000000 by omega)]; rfl
  · unfold SeqAt.shaped
    rw [PyData.canLay0, PyData.depth, b3, decide_eq_true (show PyData.depthAll ds + 1 ≤ 64 by omega)]; rfl
theorem fit_list {ds : List PyData} (h : ds.all nice = true) (hl : ds.length ≤ 1000) : fit (.list ds) := by
  obtain ⟨b1, b2, b3, b4⟩ := nice_all h
  refine ⟨rfl, ?_, ?_⟩
  · rw [lenOk, b2, decide_eq_true (show ds.length ≤ 1000000 by omega)]; rfl
  · unfold SeqAt.shaped
    rw [PyData.canLay0, PyData.depth, b3, decide_eq_true (show PyData.depthAll ds + 1 ≤ 64 by omega)]; rfl
theorem nice_int {i : Int} (h0 : -999999999 ≤ i) (h1 : i ≤ 999999999) : nice (.int i) = true := by
  unfold nice
  rw [show near (.int i) = true by
    show (decide (-999999999 ≤ i) && decide (i ≤ 999999999)) = true
    rw [decide_eq_true h0, decide_eq_true h1]
    rfl, show bnd (.int i) = true by
    show (decide (0 - great ≤ i) && decide (i < great)) = true
    rw [decide_eq_true (show 0 - great ≤ i by unfold great; omega), decide_eq_true (show i < great by unfold great; omega)]
    rfl, lenOk, PyData.canLay0, PyData.depth]
  rfl
theorem nice_bool (b : Bool) : nice (.bool b) = true := by
  unfold nice
  rw [lenOk, PyData.canLay0, PyData.depth]
  rfl
theorem nice_none : nice .none = true := by
  unfold nice
  rw [lenOk, PyData.canLay0, PyData.depth]
  rfl
theorem nice_str {z : Str} (h : z.length ≤ 1000) (hz : PyData.strOk z = true) : nice (.str z) = true := by
  unfold nice
  rw [lenOk, PyData.canLay0, PyData.depth, hz, decide_eq_true (show z.length ≤ 1000000 by omega)]
  rfl
theorem nice_tup {ds : List PyData} (h : ds.all (fun d => nice d && decide (d.depth ≤ 2)) = true) (hl : ds.length ≤ 1000) : nice (.tuple ds) = true := by
  have h1 : ds.all nice = true := by
    rw [List.all_eq_true] at h ⊢
    intro d hd
    exact (Bool.and_eq_true_iff.mp (h d hd)).1
  obtain ⟨b1, b2, b3, b4⟩ := nice_all h1
  have h2 : PyData.depthAll ds ≤ 2 := by
    clear h1 b1 b2 b3 b4 hl
    induction ds with
    | nil => rw [PyData.depthAll]; decide
    | cons d r ih =>
      rw [List.all_cons] at h
      obtain ⟨h3, h4⟩ := Bool.and_eq_true_iff.mp h
      have h5 := of_decide_eq_true (Bool.and_eq_true_iff.mp h3).2
      have h6 := ih h4
      rw [PyData.depthAll]
      omega
  unfold nice
  rw [lenOk, PyData.canLay0, PyData.depth, b2, b3, decide_eq_true (show ds.length ≤ 1000000 by omega), decide_eq_true (show PyData.depthAll ds + 1 ≤ 3 by omega)]
  rfl
theorem nice_list {ds : List PyData} (h : ds.all (fun d => nice d && decide (d.depth ≤ 2)) = true) (hl : ds.length ≤ 1000) : nice (.list ds) = true := by
  have h0 := nice_of (nice_tup h hl)
  have h1 : lenOk (.list ds) = true := by
    have := h0.2.1
    rw [lenOk] at this
    rw [lenOk]
    exact this
  have h2 : PyData.canLay0 (.list ds) = true := by
    have := h0.2.2.1
    rw [PyData.canLay0] at this
    rw [PyData.canLay0]
    exact this
  have h3 : PyData.depth (.list ds) ≤ 3 := by
    have := h0.2.2.2
    rw [PyData.depth] at this
    rw [PyData.depth]
    exact this
  unfold nice
  rw [h1, h2, decide_eq_true h3]
  rfl
theorem row0_true {w : Str} {n : Int} (hf : forms.lookup w = some []) : pRow (.tuple [.str w]) n = true := by
  show (match forms.lookup w with | some ks => decide (([] : List PyData).length = ks.length) && pParts n ks [] | none => false) = true
  rw [hf]
  rfl
theorem row1_true {w k : Str} {n : Int} {d : PyData} (hf : forms.lookup w = some [k]) (h : pPart k d n = true) : pRow (.tuple [.str w, d]) n = true := by
  show (match forms.lookup w with | some ks => decide (([d] : List PyData).length = ks.length) && pParts n ks [d] | none => false) = true
  rw [hf]
  show (true && (pPart k d n && true)) = true
  rw [h]
  rfl
theorem row2_true {w k k2 : Str} {n : Int} {d d2 : PyData} (hf : forms.lookup w = some [k, k2]) (h : pPart k d n = true) (h2 : pPart k2 d2 n = true) : pRow (.tuple [.str w, d, d2]) n = true := by
  show (match forms.lookup w with | some ks => decide (([d, d2] : List PyData).length = ks.length) && pParts n ks [d, d2] | none => false) = true
  rw [hf]
  show (true && (pPart k d n && (pPart k2 d2 n && true))) = true
  rw [h, h2]
  rfl
def subs : List Str → List (List Str)
  | [] => [[]]
  | a :: r => subs r ++ (subs r).map (a :: ·)
theorem mem_subs {ss l : List Str} (h : ss.Sublist l) : ss ∈ subs l := by
  induction h with
  | slnil => exact List.mem_singleton.mpr rfl
  | cons a _ ih => exact List.mem_append_left _ ih
  | cons_cons a _ ih => exact List.mem_append_right _ (List.mem_map.mpr ⟨_, ih, rfl⟩)
theorem sub_up {ss : List Str} (hs : ss.Sublist sig7) : pAre (.tuple (ss.map PyData.str)) = true := by
  have h : ∀ ss ∈ subs sig7, pAre (.tuple (ss.map PyData.str)) = true := by decide +kernel
  exact h ss (mem_subs hs)
theorem sub_nice {ss : List Str} (hs : ss.Sublist sig7) : nice (.tuple (ss.map PyData.str)) = true ∧ PyData.depth (.tuple (ss.map PyData.str)) ≤ 1 := by
  have h : ∀ ss ∈ subs sig7, (nice (.tuple (ss.map PyData.str)) && decide (PyData.depth (.tuple (ss.map PyData.str)) ≤ 1)) = true := by decide +kernel
  have h2 := Bool.and_eq_true_iff.mp (h ss (mem_subs hs))
  exact ⟨h2.1, of_decide_eq_true h2.2⟩
end Kin
namespace HT
open PySem PySem.Spec PyProof.Rows L2
section
variable {prog : Program} {w : World} {A : Around} {E : Value → Shared → Prop} {s : Shared}
theorem places_back (n : Nat) : Builtin.Slice.slicePlaces ((n : Int) - 1) (-1) (-1) = n := by
  unfold Builtin.Slice.slicePlaces
  rw [if_neg (by decide)]
  by_cases h : (n : Int) - 1 > -1
  · rw [if_pos h]
    have e : ((n : Int) - 1 - -1 - 1) / - -1 + 1 = (n : Int) := by
      have : (- -1 : Int) = 1 := by decide
      rw [this, Int.ediv_one]
      omega
    rw [e]
    omega
  · rw [if_neg h]
    omega
theorem fm_congr {α β : Type} {f g : α → Option β} : ∀ {l : List α}, (∀ a ∈ l, f a = g a) → l.filterMap f = l.filterMap g
  | [], _ => rfl
  | a :: r, h => by
    rw [List.filterMap_cons, List.filterMap_cons, h a (by simp), fm_congr fun b hb => h b (by simp [hb])]
theorem pick_back (xs : Array Value) : ((List.range xs.size).filterMap fun (m : Nat) => xs[(((xs.size : Int) - 1) + (m : Int) * -1).toNat]?).toArray = xs.toList.reverse.toArray := by
  congr 1
  have e : (List.range xs.size).filterMap (fun (m : Nat) => xs[(((xs.size : Int) - 1) + (m : Int) * -1).toNat]?) = (List.range xs.size).filterMap (fun m => xs.toList.reverse[m]?) := by
    apply fm_congr
    intro m hm
    have hm : m < xs.size := List.mem_range.mp hm
    have e1 : (((xs.size : Int) - 1) + (m : Int) * -1).toNat = xs.size - 1 - m := by omega
    rw [e1, List.getElem?_reverse (by simpa using hm), ← Array.getElem?_toList, Array.length_toList]
  rw [e]
  have hl : xs.size = xs.toList.reverse.length := by simp
  rw [hl]
  generalize xs.toList.reverse = l
  apply List.ext_getElem?
  intro i
  have h2 : (List.range l.length).filterMap (fun m => l[m]?) = l := by
    induction l with
    | nil => rfl
    | cons a r ih =>
      rw [List.length_cons, List.range_succ_eq_map, List.filterMap_cons, List.filterMap_map]
      show a :: (List.range r.length).filterMap (fun m => r[m]?) = _
      rw [ih]
  rw [h2]
theorem sliceApplied_back {sl : Addr} {t : Tok} {n : Nat} {Q : Int × Int × Nat → Shared → Prop} (hs : s.heap.IsSliceOf sl .none .none (.int (-1) t))
    (h : Q ((n : Int) - 1, -1, n) s) : wpAny (model prog w) A (Builtin.Slice.sliceApplied (.ref sl) (pure (n : Int))) Q E s := by
  obtain ⟨os, hos, hcs, hds⟩ := id hs
  unfold Builtin.Slice.sliceApplied Builtin.Slice.sliceFields
  refine wpAny_bind (wpAny_bind (wpAny_field hos hds (x := .none) rfl (wpAny_bind (wpAny_field hos hds (x := .none) rfl (wpAny_bind (wpAny_field hos hds (x := .int (-1) t) rfl (wpAny_pure ?_)))))))
  refine wpAny_bind (slicePart_int ?_)
  show wpAny _ _ (if ((-1 : Int) == 0) = true then _ else _) _ _ s
  rw [if_neg (by decide)]
  refine wpAny_bind (slicePart_none (wpAny_bind (slicePart_none (wpAny_bind (wpAny_pure ?_)))))
  show wpAny _ _ (pure ((n : Int) - 1, (-1 : Int), Builtin.Slice.slicePlaces ((n : Int) - 1) (-1) (-1))) _ _ s
  rw [places_back]
  exact wpAny_pure h
theorem getItem_tuple_back {a sl : Addr} {items : Array Value} {t : Tok} {Q : Value → Shared → Prop} (ht : IsTup s.heap a items) (hs : s.heap.IsSliceOf sl .none .none (.int (-1) t))
    (h : Q (.ref s.heap.objs.size) { s with heap := s.heap.push { cls := .type "tuple", data := .seq items.toList.reverse.toArray } })
    (hsz : items.size ≤ sizeLine) : wpAny (model prog w) A (getItem (.ref a) (.ref sl)) Q E s := by
  have htake : sizeOk (.seq items.toList.reverse.toArray) := by
    show items.toList.reverse.toArray.size ≤ sizeLine
    rw [List.size_toArray, List.length_reverse, Array.length_toList]
    exact hsz
  obtain ⟨os, hos, hcs, hds⟩ := id hs
  have hTs : s.TypeIs (.ref sl) "slice" := ⟨os, hos, hcs⟩
  unfold getItem
  try with_reducible refine wpAny_holding ?_
  first | refine wpAny_bind (wpAny_pure ?_) | skip
  refine wpAny_bind (wpAny_sequenceKey ht.typeIs (by decide) ?_)
  refine wpAny_bind (wpAny_callSpecial?_slot (name := Str.ofString "__getitem__") ht.typeIs PyProof.Rows.slot_tuple_getitem
    (wpAny_call_entry PyProof.Rows.slot_tuple_getitem ht.typeIs entry_tuple_getitem ?_ (args_tuple_getitem _ _)))
  show wpAny _ _ (Builtin.Tuple.tupleItemsOf (.ref a) >>= _) _ _ s
  refine wpAny_bind (tupleItemsOf_ ht ?_)
  refine wpAny_bind (wpAny_typeOf hTs ?_)
  rw [if_pos (by decide)]
  refine wpAny_bind (sliceApplied_back hs ?_)
  have hno : ¬ ((((items.size : Int) - 1 == 0) && (-1 : Int) == 1 && items.size == items.size) = true) := by
    intro q
    rw [Bool.and_eq_true, Bool.and_eq_true] at q
    exact absurd (eq_of_beq q.1.2) (by decide)
  show wpAny _ _ (if (((items.size : Int) - 1 == 0) && (-1 : Int) == 1 && items.size == items.size) = true then _ else _) _ _ s
  rw [if_neg hno, pick_back]
  first
    | exact wpAny_bind (m := Builtin.Tuple.tupleExact _) (wpAny_newObj_type (wpAny_pure ⟨_, rfl, wpAny_pure h⟩) htake)
    | exact wpAny_bind (m := Builtin.Tuple.tupleExact _) (wpAny_newObj_type (wpAny_bind (wpAny_pure (wpAny_pure ⟨_, rfl, wpAny_pure h⟩))) htake)
    | exact wpAny_bind (wpAny_bind (m := Builtin.Tuple.tupleExact _) (wpAny_newObj_type (wpAny_pure (wpAny_pure ⟨_, rfl, wpAny_pure h⟩)) htake))
    | exact wpAny_bind (wpAny_bind (m := Builtin.Tuple.tupleExact _) (wpAny_newObj_type (wpAny_pure ⟨_, rfl, wpAny_pure h⟩) htake))
end
end HT
namespace Kin
open PySem PySem.Spec PyProof.Rows L2
section
variable {X : Cx}
def tRevT (K : PySem.W.Frag) (te : TE) : TE := fun σ H Q => te σ H fun x H1 => ∃ a xs, x = .ref a ∧ SqT K H1 a xs ∧ ∀ p, H1 p = none → Q (.ref p) (upd H1 p (.tup xs.reverse))
theorem pe_revT {e : Expr} {te : TE} {k : Nat} {p1 p2 p3 pos : Pos} (he : PE X e te) : PE X (.Subscript e (.Slice none none (some (.UnaryOp .USub (.Constant (.int 1) k p1) p2)) p3) pos) (tRevT X.K te) := by
  refine ⟨fun pins s σ H Q I h => ?_⟩
  refine Subscript_ (thn (he.run pins s σ H _ I h) fun v s1 ⟨x, H1, I1, r1, q1⟩ => ?_)
  obtain ⟨a, xs, ex, hx, q⟩ := q1
  subst ex
  cases r1
  have hst : PO X (some (.UnaryOp .USub (.Constant (.int 1) k p1) p2)) (tPart (tUn (rU fun i => .int (-i)) (tC (.int 1)))) := po_some (pe_un un_neg pe_int)
  refine wpAny_Slice (thn (po_none.run pins s1 σ H1 (fun o H2 => o = none ∧ H2 = H1) I1 ⟨rfl, rfl⟩) fun vl s2 ⟨l, H2, I2, pl, el, e2⟩ => ?_)
  subst el e2
  refine thn (po_none.run pins s2 σ H2 (fun o H3 => o = none ∧ H3 = H2) I2 ⟨rfl, rfl⟩) fun vu s3 ⟨u, H3, I3, pu, eu, e3⟩ => ?_
  subst eu e3
  refine thn (hst.run pins s3 σ H3 (fun o H4 => o = some (-1) ∧ H4 = H3) I3 ⟨1, rfl, -1, rfl, rfl, rfl⟩) fun vs s4 ⟨o, H4, I4, ps, eo, e4⟩ => ?_
  subst eo e4
  cases pl
  cases pu
  cases ps with
  | int _ tk =>
  have I5 : Inv X pins σ H4 { s4 with heap := s4.heap.push { cls := .type "slice", data := .fields #[.none, .none, .int (-1) tk] } } := I4.kept (t' := s4.toks) fun b ob q => Heap.get?_push_of_some _ q
  obtain ⟨its, r, ht, hz⟩ := I5.tuple hx
  have hlen := r.length
  show wpAny (model X.prog X.w) X.A (subscriptTail e (.Slice none none (some (.UnaryOp .USub (.Constant (.int 1) k p1) p2)) p3) (.ref a) (.ref s4.heap.objs.size)) (EP X pins σ Q) X.xe { s4 with heap := s4.heap.push { cls := .type "slice", data := .fields #[.none, .none, .int (-1) tk] } }
  refine tail_any (ops := [.ref a, .ref s4.heap.objs.size]) ht.typeIs (PyProof.Rows.slot_tuple_getitem.lookup) ?_ (by with_unfolding_all rfl)
  refine HT.getItem_tuple_back ht (Heap.IsSliceOf.new _ .none .none (.int (-1) tk)) ?_ (by rw [List.size_toArray]; omega)
  refine ⟨.ref _, _, I5.laid (t' := s4.toks) (o := .tup xs.reverse) (fun b ob q => Heap.get?_push_of_some _ q) (Nat.le_refl _) ?_, rfl, q _ (I5.hok.fresh (Nat.le_refl _))⟩
  exact ⟨by rw [List.length_reverse]; exact hz, _, r.reverse, IsTup.new _ _⟩
end
/-! ### comprehensions of data -/
section
variable {D F : Addr}
theorem same_off {H1 H' : Hp} (hD : H1 D = none) (s : Same H1 H') : Same (off F F H1) (off D F H') := fun b o e => by
  obtain ⟨h1, _, h3⟩ := off_some.mp e
  exact off_at (ne_of_none h3 hD) h1 (s b o h3)
theorem off_mut {H : Hp} {o : HO} : Same (off D F H) (off D F (upd H D o)) := fun b u e => by
  obtain ⟨h1, h2, h3⟩ := off_some.mp e
  exact off_at h1 h2 (by rw [upd_ne h1]; exact h3)
theorem off_mutF {H : Hp} {o : HO} : Same (off D F H) (off D F (upd H F o)) := fun b u e => by
  obtain ⟨h1, h2, h3⟩ := off_some.mp e
  exact off_at h1 h2 (by rw [upd_ne h2]; exact h3)
theorem off_same {H H' : Hp} (s : Same H H') : Same (off D F H) (off D F H') := fun b u e => by
  obtain ⟨h1, h2, h3⟩ := off_some.mp e
  exact off_at h1 h2 (s _ _ h3)
theorem off_F {H : Hp} : Same (off D F H) (off F F H) := fun b u e => by
  obtain ⟨h1, h2, h3⟩ := off_some.mp e
  exact off_at h2 h2 h3
theorem off_new {H1 : Hp} (hF : H1 F = none) : Same H1 (off F F H1) := fun b u e => off_at (ne_of_none e hF) (ne_of_none e hF) e
end
theorem lc_data {K : PySem.W.Frag} {J : It} {n : Nat} {G : Hp → Prop} {Y : Nat → Hp → V → Hp → Prop} (wk : Walk J n G Y) {g : TG} {te : TE} {vs : List Nat} {σ : L2.St} {H1 : Hp} {D : Addr} {Qd : Hp → Prop} (F : Addr) (R : PyData → Prop) (hD : H1 D = none) (hn : n ≤ 1000000)
    (hG : ∀ H', Same H1 H' → G H')
    (hs : ∀ (i : Nat) (x : V) (H' H'' : Hp) (Qe : VK), i < n → Same H1 H' → (∃ o, H' D = some o) → Y i H' x H'' → (∀ y d H4, Same H' H4 → Dp K (off D F H4) y d → R d → Qe y H4) → g x (wipe σ vs) H'' fun σ2 H2 => wipe σ2 vs = wipe σ vs ∧ te σ2 H2 Qe)
    (q : ∀ H' acc ds, Same H1 H' → H' D = some (.lst acc) → DpAll K (off D F H') acc ds → (∀ d ∈ ds, R d) → acc.length = n → Qd H') :
    ∃ W : Nat → Nat → Hp → Prop, (∃ m, W 0 m (upd H1 D (.lst []))) ∧ ∀ i m H, W i m H →
      (J.stop i H ∧ Qd H) ∨ (J.go i H ∧ ∃ Nx : Hp → Prop, (∀ H', Nx H' → ∃ m', m' < m ∧ W (i + 1) m' H') ∧ ∀ x H', J.yld i H x H' → g x (wipe σ vs) H' fun σ2 H2 => wipe σ2 vs = wipe σ vs ∧ tYes σ2 H2 fun b H3 =>
        if b = true then te σ2 H3 fun y H4 => ∃ acc, H4 D = some (.lst acc) ∧ acc.length < sizeLine ∧ Nx (upd H4 D (.lst (acc ++ [y]))) else Nx H3) := by
  refine lc_it wk (tt := tYes) (fun i H' => Same H1 H' ∧ ∃ acc ds, H' D = some (.lst acc) ∧ DpAll K (off D F H') acc ds ∧ (∀ d ∈ ds, R d) ∧ acc.length = i) ⟨same_upd hD, [], [], upd_same, .nil, by simp, rfl⟩ (fun i H' _ p => hG H' p.1) (fun i x H' H'' hi p y => ?_) (fun H' ⟨p1, acc, ds, p2, p3, p4, p5⟩ => q H' acc ds p1 p2 p3 p4 p5)
  obtain ⟨p1, acc, ds, p2, p3, p4, p5⟩ := p
  refine hs i x H' H'' _ hi p1 ⟨_, p2⟩ y fun v d H4 s4 hv hR => ?_
  refine ⟨_, s4 _ _ p2, ?_, ?_, acc ++ [v], ds ++ [d], upd_same, ?_, ?_, ?_⟩
  · rw [p5]
    exact Nat.lt_of_lt_of_le (Nat.lt_of_lt_of_le hi hn) (by decide)
  · exact same_mut (p1.trans s4) hD
  · exact dpA_app (dpA_mono ((off_same s4).trans off_mut) p3) (.cons (dp_mono off_mut hv) .nil)
  · intro z hz
    rcases List.mem_append.mp hz with h | h
    · exact p4 z h
    · rw [List.mem_singleton.mp h]
      exact hR
  · rw [List.length_append, p5]
    rfl
theorem dpA_mem {K : PySem.W.Frag} {H : Hp} {R : PyData → Prop} {vs : List V} {ds : List PyData} {i : Nat} {v : V} (h : DpAll K H vs ds) (hR : ∀ d ∈ ds, R d) (e : vs[i]? = some v) : ∃ d, Dp K H v d ∧ R d := by
  obtain ⟨d, h1, h2⟩ := dpA_get h e
  exact ⟨d, h2, hR d (List.mem_of_getElem? h1)⟩
end Kin
/-! Sets of texts: made of a list, sorted. -/
namespace Kin
open PySem PySem.Spec PyProof.Rows L2
def keyS (e : Int × Value) : Str := match e.2 with | .str z _ => z | _ => Str.empty
def TxE (P : Program) (w : World) (e : Int × Value) : Prop := ∃ z u, e.2 = Value.str z u ∧ e.1 = (PySem.strKind P w).hash z
structure TxData (P : Program) (w : World) (es : Array (Int × Value)) (t : SetTable) (zs : List Str) : Prop where
  good : ∀ e ∈ es.toList, TxE P w e
  pm : (es.toList.map keyS).Perm zs
  nd : zs.Nodup
  small : es.size < scanBound
  fits : t.fits es.size = true
  ris : Ris t.place.toList
  led : w.params.followText "set-order" = true ∨ t.led = true
/-- the set of the texts zs at a -/
def TxSet (P : Program) (w : World) (h : Heap) (a : Addr) (zs : List Str) : Prop := ∃ o es ep t, h.get? a = some o ∧ o.ExactSet ∧ o.data = .set es ep t ∧ TxData P w es t zs
section
variable {P : Program} {w : World} {A : Around} {E : Value → Shared → Prop} {s : Shared} {a : Addr} {zs : List Str}
theorem TxSet.keep {h h' : Heap} (R : TxSet P w h a zs) (k : ∀ o, h.get? a = some o → h'.get? a = some o) : TxSet P w h' a zs := by
  obtain ⟨o, es, ep, t, ho, r⟩ := R
  exact ⟨o, es, ep, t, k o ho, r⟩
theorem TxData.elems {es : Array (Int × Value)} {t : SetTable} (D : TxData P w es t zs) : ElemsOf (PySem.strKind P w) es.toList := fun e he => by
  obtain ⟨z, u, q1, q2⟩ := D.good e he
  refine ⟨⟨z, ?_, q2⟩, ?_⟩
  · rw [q1]; exact strKind_is _ _ _ _
  · rw [q1] <;> rfl
theorem tx_is {e : Int × Value} (g : TxE P w e) (z : Str) : (PySem.strKind P w).is z e.2 = true ↔ keyS e = z := by
  obtain ⟨z0, u, q, _⟩ := g
  constructor
  · intro y
    rw [q] at y
    have : keyS e = z0 := by unfold keyS; rw [q]
    rw [this]
    exact (PySem.strKind P w).inj _ _ _ (strKind_is P w z0 u) y
  · intro y
    have : keyS e = z0 := by unfold keyS; rw [q]
    rw [q, ← y, this]
    exact strKind_is _ _ _ _
theorem TxData.size {es : Array (Int × Value)} {t : SetTable} (D : TxData P w es t zs) : es.size = zs.length := by
  have q := D.pm.length_eq
  rw [List.length_map, Array.length_toList] at q
  exact q
theorem tx_tail {g : Bool → Sem Unit} (hg : ∀ (b : Bool) (z : Shared) (Y : Unit → Shared → Prop), Y () z → wpAny (model P w) A (g b) Y E z)
    {o : Obj} {es : Array (Int × Value)} {ep : Nat} {t : SetTable} (ho : s.heap.get? a = some o) (hx : o.ExactSet) (hd : o.data = .set es ep t)
    {e1 : Array (Int × Value)} {t1 : SetTable} (D : TxData P w e1 t1 zs) {dm : Bool} {R : Option Bool → Shared → Prop}
    (k : ∀ h', Heap.SameBut a s.heap h' → TxSet P w h' a zs → R (some true) { s with heap := h' }) :
    wpAny (model P w) A (storeSet a e1 t1 >>= fun _ => if (!dm && t1.tooFull) = true then (g (relayAll t1 e1 (SetTable.grown e1.size)).2.2 >>= fun _ =>
      storeSet a (relayAll t1 e1 (SetTable.grown e1.size)).1 (relayAll t1 e1 (SetTable.grown e1.size)).2.1 >>= fun _ => pure (some true)) else pure (some true)) R E s := by
  refine wpAny_bind (wpAny_storeSet_of ho hd ?_ (fits_of_scanBound D.small))
  have o1 := store_at (es' := e1) (t' := t1) ho hd
  have same1 := Heap.SameBut.update s.heap a (Obj.putSet e1 t1)
  split
  · have pp := relayAll_perm t1 e1 (SetTable.grown e1.size)
    have ff := relayAll_fits t1 e1 (SetTable.grown e1.size)
    have rr := relayAll_ris t1 e1 (SetTable.grown e1.size)
    have ll := relayAll_led t1 e1 (SetTable.grown e1.size)
    generalize relayAll t1 e1 (SetTable.grown e1.size) = Y at pp ff rr ll ⊢
    obtain ⟨e2, t2, gv⟩ := Y
    dsimp only at pp ff rr ll ⊢
    have sz : e2.size = e1.size := by
      have q := pp.length_eq
      rw [Array.length_toList, Array.length_toList] at q
      exact q
    have D2 : TxData P w e2 t2 zs := ⟨fun e he => D.good e (pp.mem_iff.mp he), (pp.map keyS).trans D.pm, D.nd, by rw [sz]; exact D.small, ff, rr, D.led.imp id fun z => by rw [ll]; exact z⟩
    refine wpAny_bind (hg _ _ _ ?_)
    refine wpAny_bind (wpAny_storeSet_of o1 rfl ?_ (fits_of_scanBound D2.small))
    exact wpAny_pure (k _ (same1.trans (Heap.SameBut.update _ a _)) ⟨_, e2, _, t2, store_at (es' := e2) (t' := t2) o1 rfl, hx, rfl, D2⟩)
  · exact wpAny_pure (k _ same1 ⟨_, e1, _, t1, o1, hx, rfl, D⟩)
/-- one text more -/
theorem tx_add {z : Str} {u : Tok} {Q : Bool → Shared → Prop} (R : TxSet P w s.heap a zs) (room : zs.length + 1 < scanBound)
    (k : ∀ h' b, Heap.SameBut a s.heap h' → TxSet P w h' a (if z ∈ zs then zs else z :: zs) → Q b { s with heap := h' }) :
    wpAny (model P w) A (setAddHashed a (.str z u) ((PySem.strKind P w).hash z)) Q E s := by
  obtain ⟨o, es, ep, t, ho, hx, hd, D⟩ := R
  have isz : (PySem.strKind P w).is z (.str z u) = true := strKind_is _ _ _ _
  have sc : (Value.str z u).scannable = true := rfl
  unfold setAddHashed setAddHashedIn
  refine wpAny_holding (wpAny_bind (wpAny_setState_of ho hd D.fits ?_))
  dsimp only
  rw [byScan_of sc D.small D.elems]
  simp only [↓reduceIte]
  unfold setAddByScan
  refine wpAny_bind (wpAny_bind (wpAny_rule (wpAny_bind (wpAny_setScan_of isz ho hd D.fits D.elems ?_))))
  cases hfi : List.findIdx? (fun e => (PySem.strKind P w).is z e.2) es.toList with
  | some j =>
    dsimp only
    obtain ⟨hj, pj, _⟩ := List.findIdx?_eq_some_iff_getElem.mp hfi
    have hz : z ∈ zs := by
      refine D.pm.mem_iff.mp (List.mem_map.mpr ⟨es.toList[j], List.getElem_mem hj, ?_⟩)
      exact (tx_is (D.good _ (List.getElem_mem hj)) z).1 pj
    refine wpAny_pure (wpAny_pure ?_)
    exact k s.heap _ (Heap.SameBut.refl a s.heap) (by rw [if_pos hz]; exact ⟨o, es, ep, t, ho, hx, hd, D⟩)
  | none =>
    dsimp only
    have hz : z ∉ zs := fun y => by
      obtain ⟨e, he, q⟩ := List.mem_map.mp (D.pm.mem_iff.mpr y)
      have c := List.findIdx?_eq_none_iff.mp hfi e he
      rw [(tx_is (D.good e he) z).2 q] at c
      cases c
    rw [if_neg hz] at k
    have way : ∀ (b : Bool) {s1 : Shared} {Y : Unit → Shared → Prop}, Y () s1 → wpAny (model P w) A (match b with | true => rule "set.scan.the-table-gave-way" | false => pure ()) Y E s1 := by
      intro b s1 Y q
      cases b
      · exact wpAny_pure q
      · exact wpAny_rule q
    have pp := layNew_perm t es ((PySem.strKind P w).hash z) (.str z u)
    have ff := layNew_fits t es ((PySem.strKind P w).hash z) (.str z u)
    have rr := layNew_ris t es ((PySem.strKind P w).hash z) (.str z u) D.ris
    have ll := layNew_led t es ((PySem.strKind P w).hash z) (.str z u)
    generalize layNew t es ((PySem.strKind P w).hash z) (.str z u) = Y at pp ff rr ll ⊢
    obtain ⟨e1, t1, dm, gv⟩ := Y
    dsimp only at pp ff rr ll ⊢
    rw [Array.toList_push] at pp
    have pc : e1.toList.Perm (((PySem.strKind P w).hash z, Value.str z u) :: es.toList) := pp.trans (List.perm_append_singleton _ _)
    have D1 : ∀ t' : SetTable, t'.fits e1.size = true → Ris t'.place.toList → (w.params.followText "set-order" = true ∨ t'.led = true) → TxData P w e1 t' (z :: zs) := fun t' f1 f2 f3 => by
      have sz : e1.size = es.size + 1 := by
        have q := pc.length_eq
        rw [Array.length_toList, List.length_cons, Array.length_toList] at q
        exact q
      refine ⟨fun e he => ?_, (pc.map keyS).trans (List.Perm.cons z D.pm), List.nodup_cons.mpr ⟨hz, D.nd⟩, by rw [sz, D.size]; exact room, f1, f2, f3⟩
      rcases List.mem_cons.mp (pc.mem_iff.mp he) with y | y
      · rw [y]; exact ⟨z, u, rfl, rfl⟩
      · exact D.good e y
    have led1 : w.params.followText "set-order" = true ∨ t1.led = true := D.led.imp id fun y => by rw [ll]; exact y
    refine wpAny_bind (way _ ?_)
    split
    · refine wpAny_bind ?_
      rw [hashByValue_scannable 8 sc]
      refine wpAny_pure ?_
      refine tx_tail (zs := z :: zs) ?_ ho hx hd (D1 _ ?_ ?_ ?_) ?_
      · intro b s1 Y q
        cases b
        · exact wpAny_pure q
        · exact wpAny_rule q
      · first | (split <;> first | exact ff | exact SetTable.fits_plain_off ff) | exact ff
      · first | (split <;> exact rr) | exact rr
      · first | (split <;> exact led1) | exact led1
      · intro h' sb r
        dsimp only
        exact wpAny_pure (k h' _ sb r)
    · refine wpAny_bind (wpAny_pure ?_)
      simp only [↓reduceIte]
      refine tx_tail (zs := z :: zs) ?_ ho hx hd (D1 _ ff rr led1) ?_
      · intro b s1 Y q
        cases b
        · exact wpAny_pure q
        · exact wpAny_rule q
      · intro h' sb r
        dsimp only
        exact wpAny_pure (k h' _ sb r)
end
end Kin
namespace Kin
open PySem PySem.Spec PyProof.Rows L2
/-- the texts of a list, each once -/
def once : List Str → List Str
  | [] => []
  | z :: r => if z ∈ once r then once r else z :: once r
theorem mem_once : ∀ {l : List Str} {z : Str}, z ∈ once l ↔ z ∈ l
  | [], z => Iff.rfl
  | y :: r, z => by
    unfold once
    by_cases h : y ∈ once r
    · rw [if_pos h, mem_once (l := r), List.mem_cons]
      constructor
      · exact .inr
      · rintro (e | e)
        · rw [e]; exact mem_once.mp h
        · exact e
    · rw [if_neg h, List.mem_cons, List.mem_cons, mem_once (l := r)]
theorem once_len : ∀ (l : List Str), (once l).length ≤ l.length
  | [] => Nat.le_refl _
  | y :: r => by
    unfold once
    have q := once_len r
    split
    · rw [List.length_cons]; omega
    · rw [List.length_cons, List.length_cons]; omega
section
variable {P : Program} {w : World} {A : Around} {E : Value → Shared → Prop} {s : Shared}
theorem tx_fresh {h : Heap} {a : Addr} (ho : h.get? a = some { cls := .type "set", dict := none, data := .set #[] 0 (.fresh 0 0 (!w.params.followText "set-order")) }) : TxSet P w h a [] :=
  ⟨_, #[], 0, _, ho, ⟨rfl, rfl, rfl⟩, rfl, ⟨(fun e he => by simp at he), List.Perm.refl _, List.nodup_nil, by decide, by rfl, List.Pairwise.nil, by
    show _ ∨ (!w.params.followText "set-order") = true
    cases w.params.followText "set-order" <;> simp⟩⟩
theorem take_rev {l : List Str} {i : Nat} {z : Str} (h : l[i]? = some z) : (l.take (i + 1)).reverse = z :: (l.take i).reverse := by
  rw [take_next h, List.reverse_append]
  rfl
/-- the loop that fills a set -/
theorem tx_loop {I : Addr} {fp wr : List Addr} {G : Array GenState → Array GenState → Prop} {n : Nat} {Pv : Nat → Value → Prop} {St : Nat → Shared → Prop} {R : Result → Shared → Prop}
    (W : WalksS P w A.in1 I fp wr G n Pv St) (S : Addr) (hSf : S ∉ fp) (xs : List Str) (hn : xs.length = n) (few : xs.length < 64) (val : ∀ i v, Pv i v → ∃ u, v = .str (xs.getD i Str.empty) u) :
    ∀ (k i : Nat) (s : Shared), n - i = k → i ≤ n → St i s → TxSet P w s.heap S (once (xs.take i).reverse) →
      (∀ s', Moved (S :: wr) G s s' → TxSet P w s'.heap S (once xs.reverse) → R (.ok (.ret .none)) s') →
      codeAny (model P w) A (.builtin "set.update.loop" ⟨[.ref S, .ref I], []⟩) R s := by
  have nSw : S ∉ wr := fun h => hSf (W.sub _ h)
  have sub : ∀ b ∈ wr, b ∈ S :: wr := fun b hb => List.mem_cons_of_mem _ hb
  intro k
  induction k with
  | zero =>
    intro i s hk hi st hS hR
    have e : i = n := by omega
    subst e
    refine codeAny_builtin PyProof.Rows.F.entry_set_update_loop ?_
    rw [Around.under_plainId PyProof.Rows.F.plain_set_update_loop _]
    show wpAny _ A.in1 (pyNext (.ref I) >>= _) _ _ s
    refine wpAny_bind (W.done s _ _ st fun s1 mv => ?_)
    show wpAny _ A.in1 (ret Value.none) _ _ s1
    refine wpAny_pure (hR s1 (mv.mono sub) ?_)
    rw [← hn, List.take_length] at hS
    exact hS.keep fun o q => mv.heap S o nSw q
  | succ k ih =>
    intro i s hk hi st hS hR
    have lt : i < n := by omega
    refine codeAny_builtin PyProof.Rows.F.entry_set_update_loop ?_
    rw [Around.under_plainId PyProof.Rows.F.plain_set_update_loop _]
    show wpAny _ A.in1 (pyNext (.ref I) >>= _) _ _ s
    refine wpAny_bind (W.item i s _ _ lt st fun v s1 hP st1 mv => ?_)
    obtain ⟨u, rfl⟩ := val i v hP
    have hS1 : TxSet P w s1.heap S (once (xs.take i).reverse) := hS.keep fun o q => mv.heap S o nSw q
    have hx : xs[i]? = some (xs.getD i Str.empty) := by
      have hl : i < xs.length := by omega
      simp [hl]
    have few2 : (once (xs.take i).reverse).length + 1 < scanBound := by
      have q1 := once_len (xs.take i).reverse
      have q2 : ((xs.take i).reverse).length ≤ xs.length := by
        rw [List.length_reverse, List.length_take]; omega
      unfold scanBound
      omega
    show wpAny _ A.in1 (holding [Value.str (xs.getD i Str.empty) u] (setAdd S (.str (xs.getD i Str.empty) u)) >>= _) _ _ s1
    refine wpAny_bind (wpAny_holding ?_)
    unfold setAdd
    refine wpAny_holding ?_
    refine wpAny_bind ((PySem.strKind P w).pyHash (k := xs.getD i Str.empty) (strKind_is _ _ _ _) ?_)
    refine tx_add (s := { s1 with toks := s1.toks + 1 }) hS1 few2 fun h' b sb hS2 => ?_
    have hS3 : TxSet P w h' S (once (xs.take (i + 1)).reverse) := by
      rw [take_rev hx]
      show TxSet P w h' S (if xs.getD i Str.empty ∈ once (xs.take i).reverse then once (xs.take i).reverse else xs.getD i Str.empty :: once (xs.take i).reverse)
      exact hS2
    refine wpAny_pure ⟨plainId_quiet PyProof.Rows.F.plain_set_update_loop _, ih (i + 1) _ (by omega) lt (W.frame _ s1 _ _ st1 (Nat.le_succ _) fun c hc o q => ?_) hS3 fun s2 mv2 hS4 => ?_⟩
    · rw [sb.2 c (fun z : c = S => hSf (by rw [← z]; exact hc))]; exact q
    · refine hR s2 (Moved.trans W.gtrans ((mv.mono sub).then_heap (Nat.le_succ _) fun c o hc q => ?_) mv2) hS4
      rw [sb.2 c (fun z : c = S => hc (by rw [z]; exact List.mem_cons_self))]; exact q
/-- set(xs), xs a list of texts -/
theorem tx_call {l : Addr} {items : Array Value} {xs : List Str} {Q : Value → Shared → Prop} (hh : A.handled = none) (hl : s.heap.IsList l items) (hi : StrsAre items.toList xs) (few : xs.length < 64)
    (k : ∀ (h' : Heap) (tk : Nat), TxSet P w h' s.heap.objs.size (once xs.reverse) → (∀ b o, s.heap.get? b = some o → h'.get? b = some o) → Q (.ref s.heap.objs.size) { s with heap := h', toks := tk }) :
    wpAny (model P w) A (call (.type "set") [.ref l]) Q E s := by
  obtain ⟨c, tl, hmro⟩ := PySem.F.called_set.mro
  have hmade := PySem.F.called_set.made
  have hsub := PySem.F.called_set.sub
  refine wpAny_call (codeAny_of_tree ?_)
  show wpAny _ _ (callAny (.type "set") _) _ _ _
  refine wpAny_pure ⟨Code.quiet_builtin _ (by decide +kernel), codeAny_builtin PySem.F.entry_type_call ?_⟩
  rw [Around.under_plain (weight_type_call_type "set" [.ref l] []) rfl]
  have g1 := PySem.F.called_set.notType
  have g2 := PySem.F.called_set.canCreate
  have g3 := PySem.F.typeCall_set_1 (.ref l)
  repeat (any_goals (first | assumption | wp_step))
  let fo : Obj := { cls := .type "set", dict := none, data := .set #[] 0 (.fresh 0 0 (!w.params.followText "set-order")) }
  refine codeAny_mono (code_set_led1 (.ref l) (E := E) (Q₁ := fun obj s1 => obj = .ref s.heap.objs.size ∧ s1 = { s with heap := s.heap.push fo }) ⟨rfl, rfl⟩) fun r s1 hr => ?_
  cases r with
  | error e => exact hr
  | ok fl =>
    cases fl with
    | ret obj =>
      obtain ⟨rfl, rfl⟩ := hr
      have hS : (s.heap.push fo).get? s.heap.objs.size = some fo := Heap.get?_push_size _ rfl
      have hT : Shared.TypeIs { s with heap := s.heap.push fo } (.ref s.heap.objs.size) "set" := ⟨_, hS, rfl⟩
      have g4 := PySem.F.called_set.init.lookup
      have g5 := PySem.F.called_set.init.bind (.ref s.heap.objs.size)
      repeat (any_goals (first | assumption | wp_step))
      refine codeAny_mono (codeAny_call_builtin (R := wants (fun r s2 => r = .none ∧ ∃ h' tk, s2 = { s with heap := h', toks := tk } ∧ TxSet P w h' s.heap.objs.size (once xs.reverse) ∧
          (∀ b o, s.heap.get? b = some o → h'.get? b = some o)) E) PySem.F.called_set.init.plain PySem.F.entry_set_init (check_set_init_1 hT ?_)) fun r2 s2 hr2 => ?_
      · obtain ⟨ol, hol, hcl, nl, hdl⟩ := hl
        obtain ⟨oc, od, oda, osl⟩ := ol
        simp only at hcl hdl
        subst hcl
        subst hdl
        have hol1 : (s.heap.push fo).get? l = some { cls := .type "list", dict := od, data := .seq items nl, slots := osl } := Heap.get?_push_of_some _ hol
        have g6 := PySem.F.sub_list_set
        have g7 := PySem.F.sub_list_frozenset
        have g8 : (Value.type "list" == Value.type "dict") = false := by decide
        have hl1 : (s.heap.push fo).IsList l items := ⟨_, hol1, rfl, nl, rfl⟩
        unfold Builtin.«set.__init__» noKeywords Builtin.Frozenset.updateFrom
        generalize hPI : pyIter = PI
        wp_walk
        subst hPI
        refine wpAny_pyIter_list hl1 (wpAny_bind (wpAny_runValue ?_))
        have lS : l < s.heap.objs.size := Heap.lt_size hol
        have h3 : A.in1.in1.in1.handled = none := by simp [hh]
        have sz1 : (s.heap.push fo).objs.size = s.heap.objs.size + 1 := Heap.size_push ..
        have neI : l ≠ (s.heap.push fo).objs.size := by
          rw [sz1]
          exact Nat.ne_of_lt (Nat.lt_trans lS (Nat.lt_succ_self _))
        have nS : s.heap.objs.size ∉ [(s.heap.push fo).objs.size, l] := by
          rw [sz1]
          intro z
          rcases List.mem_cons.mp z with z | z
          · exact absurd z (Nat.ne_of_lt (Nat.lt_succ_self _))
          · have z := List.mem_singleton.mp z
            rw [← z] at lS
            exact absurd lS (Nat.lt_irrefl _)
        have sz : xs.length = items.size := by rw [← StrsAre.len_eq hi, Array.length_toList]
        have val : ∀ (i : Nat) (v : Value), items[i]? = some v → ∃ u, v = .str (xs.getD i Str.empty) u := fun i v hv => SS.strs_at hi i v (by rw [Array.getElem?_toList]; exact hv)
        refine tx_loop ((Walks.list h3 _ l neI items).toS) s.heap.objs.size nS xs sz few val (items.size - 0) 0 _ (by omega) (Nat.zero_le _) ⟨⟨_, Heap.get?_push_size _ rfl, rfl, rfl⟩, (hl1.push _)⟩ ?_ ?_
        · exact tx_fresh (Heap.get?_push_of_some _ hS)
        · intro s3 mv hS3
          obtain ⟨h', g', d', tk', os'⟩ := s3
          have e1 : g' = s.gens := mv.gens
          have e2 : d' = s.drawn := mv.drawn
          have e3 : os' = s.os := mv.os
          subst e1
          subst e2
          subst e3
          show wpAny _ _ _ _ _ _
          refine wpAny_pure ?_
          show wpAny _ _ (ret Value.none) _ _ _
          refine wpAny_pure ⟨rfl, h', tk', rfl, hS3, fun b o q => ?_⟩
          have hb := Heap.lt_size q
          refine mv.heap b o ?_ (Heap.get?_push_of_some _ (Heap.get?_push_of_some _ q))
          intro z
          rcases List.mem_cons.mp z with z | z
          · rw [z] at hb
            exact absurd hb (Nat.lt_irrefl _)
          · have z := List.mem_singleton.mp z
            rw [z, sz1] at hb
            exact absurd hb (Nat.not_lt_of_le (Nat.le_succ _))
      · cases r2 with
        | error e => exact hr2
        | ok f2 =>
          cases f2 with
          | ret r =>
            obtain ⟨rfl, h', tk, rfl, hS3, kk⟩ := hr2
            repeat (any_goals (first | assumption | wp_step))
            exact k _ _ hS3 kk
          | _ => exact hr2.elim
    | _ => exact hr.elim
/-- sorted(a), a a set of texts -/
theorem tx_sorted {a : Addr} {zs : List Str} {Q : Value → Shared → Prop} (R : TxSet P w s.heap a zs) (hh : A.handled = none) (few : zs.length < 64)
    (k : ∀ s' p (out : Array Value) (c : Nat) (ys : List Str), (∀ b o, s.heap.get? b = some o → s'.heap.get? b = some o) → s'.gens = s.gens → s'.os = s.os → s.heap.objs.size ≤ p →
      s'.heap.get? p = some (seqObj "list" out c) → StrsAre out.toList ys → ys.Perm zs → sortedS ys = true → Q (.ref p) s') :
    wpAny (model P w) A (call (.builtin "sorted") [.ref a]) Q E s := by
  obtain ⟨o, es, ep, t, ho, hx, hd, D⟩ := R
  refine Calls.call_function_entry kind_sorted plain_sorted entry_sorted (args_sorted1 _) ?_
  unfold Builtin.«sorted»
  refine wpAny_bind (m := checkCount "sorted" 1 1 _) (wpAny_pure ?_)
  refine wpAny_bind (collect_set (A := A.in1) hh ⟨o, ho, hx.1, hd⟩ D.fits D.small D.ris D.led fun s1 vs k1 hz g1 o1 pm => ?_)
  have vl : vs.length < 64 := by
    rw [pm.length_eq, List.length_map, Array.length_toList, D.size]
    exact few
  have hI : StrsAre vs (vs.map strOf) := strsAre_map vs fun v hv => by
    obtain ⟨e, he, q⟩ := List.mem_map.mp (pm.mem_iff.mp hv)
    obtain ⟨z, u, q1, _⟩ := D.good e he
    exact ⟨z, u, by rw [← q]; exact q1⟩
  have pk : (vs.map strOf).Perm zs := by
    have q := pm.map strOf
    rw [List.map_map] at q
    have e : es.toList.map (strOf ∘ fun e => e.2) = es.toList.map keyS := List.map_congr_left fun e he => by
      obtain ⟨z, u, q1, _⟩ := D.good e he
      show strOf e.2 = keyS e
      unfold keyS
      rw [q1]
      rfl
    exact (q.trans (by rw [e])).trans D.pm
  refine wpAny_bind (wpAny_newList ?_ (by rw [sizeLine_eq]; omega))
  have hoL : (s1.heap.push (seqObj "list" vs.toArray 0)).get? s1.heap.objs.size = some (seqObj "list" vs.toArray 0) := Heap.get?_push_size _ rfl
  refine wpAny_bind (wpAny_holding (wpAny_call_entry slot_list_sort ⟨_, hoL, rfl⟩ entry_list_sort (list_sort_treeK strKind_oneLt hoL hI.keysOf (fun v1 v2 r e => keyKind_strs (by rw [← e]; exact hI)) vl fun st hp hs => ⟨_, rfl, ?_⟩) (args_list_sort _)))
  obtain ⟨ys, y1, y2, y3⟩ := sorted_out_str hI hp hs
  obtain ⟨c, hc⟩ := sortedHeap_at (vs := vs) (out := (arrOf st).map (·.2)) hoL
  refine wpAny_pure ⟨_, rfl, k _ s1.heap.objs.size _ c ys (fun b v e => ?_) g1 o1 hz hc y1 (y2.trans pk) y3⟩
  have q := k1 b v e
  have lt := Heap.lt_size q
  show (sortedHeap (s1.heap.push (seqObj "list" vs.toArray 0)) s1.heap.objs.size vs _).get? b = some v
  rw [sortedHeap_old (Nat.ne_of_lt lt) (by rw [size_push']; exact Nat.lt_succ_of_lt lt)]
  exact Heap.get?_push_of_some _ q
end
end Kin
namespace Kin
open PySem PySem.Spec PyProof.Rows L2
def TxO (P : Program) (w : World) (a : Addr) (zs : List Str) : HO := .ext fun h => TxSet P w h a zs
theorem txO_new {P : Program} {w : World} {H : Hp} {h : Heap} {a : Addr} {zs : List Str} (R : TxSet P w h a zs) : ObjOk P w H h a (TxO P w a zs) := by
  have ⟨o, _, _, _, ho, _⟩ := R
  exact ⟨R, ⟨o, ho⟩, fun h1 h2 p k => TxSet.keep p k⟩
theorem vals_of_strs : ∀ {ys : List Str} {us : List Value}, StrsAre us ys → Vals (ys.map V.str) us
  | _, _, .nil => .nil
  | _, _, .cons n t h => .cons ⟨t, rfl⟩ (vals_of_strs h)
section
variable {X : Cx}
/-- set(xs), xs a list of texts -/
def rSetTx (K : PySem.W.Frag) (P : Program) (w : World) : List V → Hp → VK → Prop := fun vs H Q => ∃ (l : Addr) (xs : List Str), vs = [V.ref l] ∧ SqL K H l (xs.map V.str) ∧ xs.length < 64 ∧
  ∀ a, H a = none → Q (.ref a) (upd H a (TxO P w a (once xs.reverse)))
theorem cr_setTx (hc : X.calm = true) : CallR X (.type "set") (rSetTx X.K X.prog X.w) := by
  intro pins s σ H vs us Q I r h
  obtain ⟨l, xs, rfl, hl, few, q⟩ := h
  rw [Vals.ref1 r]
  obtain ⟨its, rv, pl, hz⟩ := I.list hl
  have hn : H s.heap.objs.size = none := I.hok.fresh (Nat.le_refl _)
  refine tx_call (P := X.prog) (w := X.w) (I.ok.hd hc) pl.isList (by simpa using strsAre_of rv) few fun h' tk R k => ?_
  exact ⟨.ref s.heap.objs.size, upd H s.heap.objs.size (TxO X.prog X.w s.heap.objs.size (once xs.reverse)), I.laid (t' := tk) k (Nat.le_refl _) (txO_new R), rfl, q _ hn⟩
/-- sorted(a) -/
def rSortTx (P : Program) (w : World) : List V → Hp → VK → Prop := fun vs H Q => ∃ (a : Addr) (zs : List Str), vs = [V.ref a] ∧ H a = some (TxO P w a zs) ∧ zs.length < 64 ∧
  ∀ (ys : List Str) (p : Addr), ys.Perm zs → zs.Nodup → sortedS ys = true → H p = none → Q (.ref p) (upd H p (.lst (ys.map V.str)))
theorem cr_sortTx (hc : X.calm = true) : CallR X (.builtin "sorted") (rSortTx X.prog X.w) := by
  intro pins s σ H vs us Q I r h
  obtain ⟨a, zs, rfl, ha, few, q⟩ := h
  have R : TxSet X.prog X.w s.heap a zs := (I.hok a _ ha).1
  have nd : zs.Nodup := by
    obtain ⟨_, _, _, _, _, _, _, D⟩ := R
    exact D.nd
  rw [Vals.ref1 r]
  refine tx_sorted R (I.ok.hd hc) few fun s1 p out c ys k g o hp hg hs pm so => ?_
  have hlen : (ys.map V.str).length ≤ sizeLine := by rw [List.length_map, pm.length_eq, sizeLine_eq]; omega
  have hn : H p = none := I.hok.fresh hp
  have J : Inv X pins σ (upd H p (.lst (ys.map V.str))) { s with heap := s1.heap, gens := s1.gens, drawn := s1.drawn, toks := s1.toks } :=
    I.call (ch := []) (Un.laid k hp hn) (I.hok.laid k hp ⟨hlen, out.toList, c, vals_of_strs hs, hg⟩) (by rw [g]; exact I.bare) (fun _ z => nomatch z)
  have e : s1 = { s with heap := s1.heap, gens := s1.gens, drawn := s1.drawn, toks := s1.toks } := by
    cases s1
    cases s
    cases o
    rfl
  rw [e]
  exact ⟨.ref p, _, J, rfl, q ys p pm nd so hn⟩
end
/-! ### rising texts -/
def ltS (a b : Str) : Bool := decide (a.cps.toList < b.cps.toList)
def rise : List Str → Bool
  | a :: b :: r => ltS a b && rise (b :: r)
  | _ => true
theorem str_ext {a b : Str} (h : a.cps.toList = b.cps.toList) : a = b := by
  cases a
  cases b
  simp only [Str.mk.injEq]
  exact Array.toList_inj.mp h
theorem ltS_trans {a b c : Str} (h : ltS a b = true) (k : ltS b c = true) : ltS a c = true := by
  unfold ltS at *
  exact decide_eq_true (List.lt_trans (of_decide_eq_true h) (of_decide_eq_true k))
theorem ltS_irrefl (a : Str) : ltS a a = false := by
  unfold ltS
  exact decide_eq_false (List.lt_irrefl _)
theorem ltS_of {a b : Str} (h : ltS b a = false) (ne : a ≠ b) : ltS a b = true := by
  unfold ltS at *
  refine decide_eq_true ?_
  have h1 : ¬ b.cps.toList < a.cps.toList := of_decide_eq_false h
  have h2 : a.cps.toList ≤ b.cps.toList := List.not_lt.mp h1
  rcases Classical.em (a.cps.toList < b.cps.toList) with q | q
  · exact q
  · exact absurd (str_ext (List.le_antisymm h2 (List.not_lt.mp q))) ne
theorem rise_pw : ∀ {l : List Str}, rise l = true → l.Pairwise (fun a b => ltS a b = true)
  | [], _ => .nil
  | [a], _ => List.pairwise_singleton _ _
  | a :: b :: r, h => by
    unfold rise at h
    obtain ⟨h1, h2⟩ := Bool.and_eq_true_iff.mp h
    have ih := rise_pw h2
    refine List.pairwise_cons.mpr ⟨fun c hc => ?_, ih⟩
    rcases List.mem_cons.mp hc with e | e
    · rw [e]; exact h1
    · exact ltS_trans h1 ((List.pairwise_cons.mp ih).1 c e)
theorem rise_of : ∀ {l : List Str}, l.Pairwise (fun a b => ltS a b = true) → rise l = true
  | [], _ => rfl
  | [a], _ => rfl
  | a :: b :: r, h => by
    unfold rise
    obtain ⟨h1, h2⟩ := List.pairwise_cons.mp h
    rw [h1 b List.mem_cons_self, rise_of h2]
    rfl
theorem rise_eq : ∀ {l m : List Str}, l.Pairwise (fun a b => ltS a b = true) → m.Pairwise (fun a b => ltS a b = true) → (∀ z, z ∈ l ↔ z ∈ m) → l = m
  | [], [], _, _, _ => rfl
  | [], b :: m, _, _, e => absurd ((e b).mpr List.mem_cons_self) (by simp)
  | a :: l, [], _, _, e => absurd ((e a).mp List.mem_cons_self) (by simp)
  | a :: l, b :: m, hl, hm, e => by
    obtain ⟨l1, l2⟩ := List.pairwise_cons.mp hl
    obtain ⟨m1, m2⟩ := List.pairwise_cons.mp hm
    have hab : a = b := by
      rcases List.mem_cons.mp ((e a).mp List.mem_cons_self) with q | q
      · exact q
      · rcases List.mem_cons.mp ((e b).mpr List.mem_cons_self) with y | y
        · exact y.symm
        · have c := ltS_trans (m1 a q) (l1 b y)
          rw [ltS_irrefl] at c
          cases c
    subst hab
    refine congrArg (a :: ·) (rise_eq l2 m2 fun z => ⟨fun hz => ?_, fun hz => ?_⟩)
    · rcases List.mem_cons.mp ((e z).mp (List.mem_cons_of_mem _ hz)) with q | q
      · have c := l1 z hz
        rw [q, ltS_irrefl] at c
        cases c
      · exact q
    · rcases List.mem_cons.mp ((e z).mpr (List.mem_cons_of_mem _ hz)) with q | q
      · have c := m1 z hz
        rw [q, ltS_irrefl] at c
        cases c
      · exact q
theorem sorted_rise : ∀ {l : List Str}, sortedS l = true → l.Nodup → rise l = true
  | [], _, _ => rfl
  | [a], _, _ => rfl
  | a :: b :: r, h, nd => by
    have h : (!ltCps b.cps.toList a.cps.toList && risingS b r) = true := h
    obtain ⟨h1, h2⟩ := Bool.and_eq_true_iff.mp h
    obtain ⟨n1, n2⟩ := List.nodup_cons.mp nd
    have ih := sorted_rise (l := b :: r) h2 n2
    unfold rise
    rw [ih, ltS_of (a := a) (b := b) ?_ ?_]
    · rfl
    · unfold ltS
      rw [← ltCps_eq]
      simpa using h1
    · rintro rfl
      exact n1 List.mem_cons_self
theorem sorted_is {xs ys zs : List Str} (hz : zs = once xs.reverse) (pm : ys.Perm zs) (nd : zs.Nodup) (so : sortedS ys = true) : decide (xs = ys) = rise xs := by
  have mem : ∀ z, z ∈ ys ↔ z ∈ xs := fun z => by
    rw [pm.mem_iff, hz, mem_once, List.mem_reverse]
  have ry := sorted_rise so (pm.nodup_iff.mpr nd)
  by_cases h : xs = ys
  · rw [decide_eq_true h, h, ry]
  · rw [decide_eq_false h]
    cases hr : rise xs with
    | false => rfl
    | true => exact absurd (rise_eq (rise_pw hr) (rise_pw ry) fun z => (mem z).symm) h
end Kin
/-! Books: what both looks tell, as plain functions. -/
namespace Kin
open PySem PySem.Spec PyProof.Rows L2
def rLen (K : PySem.W.Frag) : List V → Hp → VK → Prop := fun xs H Q => ∃ p ys, xs = [V.ref p] ∧ (SqL K H p ys ∨ SqT K H p ys) ∧ Q (.int ys.length) H
def pProg : PyData → Bool
  | .tuple [t, .tuple rows] => pTitle t && (!rows.isEmpty && rows.all fun r => pRow r rows.length)
  | _ => false
def lProg : PyData → Bool
  | .tuple [t, .tuple rows] => lTitle t && (!rows.isEmpty && rows.all fun r => lRow r rows.length)
  | _ => false
def titleOf : PyData → Str
  | .tuple (.str z :: _) => z
  | _ => ""
def pBook : PyData → Bool
  | .tuple ds => !ds.isEmpty && (ds.all pProg && rise (ds.map titleOf))
  | _ => false
def lBook : PyData → Bool
  | .tuple ds => !ds.isEmpty && (ds.all lProg && rise (ds.map titleOf))
  | _ => false
def bndP : PyData → Bool
  | .tuple [_, .tuple rows] => rows.all bndAll
  | _ => true
def bndB : PyData → Bool
  | .tuple ds => ds.all bndP
  | _ => true
theorem all_eq {α : Type} {p q : α → Bool} : ∀ {l : List α}, (∀ x ∈ l, p x = q x) → l.all p = l.all q
  | [], _ => rfl
  | x :: r, h => by
    rw [List.all_cons, List.all_cons, h x List.mem_cons_self, all_eq fun y hy => h y (List.mem_cons_of_mem _ hy)]
theorem progs_agree (d : PyData) (h : bndP d = true) : pProg d = lProg d := by
  unfold pProg lProg
  split
  · rename_i t rows
    have h : rows.all bndAll = true := h
    rw [title_eq, all_eq (p := fun r => pRow r rows.length) (q := fun r => lRow r rows.length) fun r hr => rows_agree _ r (List.all_eq_true.mp h r hr)]
  · rfl
theorem books_agree (d : PyData) (h : bndB d = true) : pBook d = lBook d := by
  cases d with
  | tuple ds =>
    show (!ds.isEmpty && (ds.all pProg && rise (ds.map titleOf))) = (!ds.isEmpty && (ds.all lProg && rise (ds.map titleOf)))
    have h : ds.all bndP = true := h
    rw [all_eq (p := pProg) (q := lProg) fun x hx => progs_agree x (List.all_eq_true.mp h x hx)]
  | _ => rfl
theorem prog_title {d : PyData} (h : pProg d = true) : ∃ z rows, d = .tuple [.str z, .tuple rows] ∧ azAll z = true ∧ z.length ≤ 8 := by
  unfold pProg at h
  split at h
  · rename_i t rows
    have h1 := (Bool.and_eq_true_iff.mp h).1
    cases t with
    | str z =>
      have h1 : (decide (1 ≤ z.length) && decide (z.length ≤ 8) && azAll z) = true := h1
      obtain ⟨h2, h3⟩ := Bool.and_eq_true_iff.mp h1
      exact ⟨z, rows, rfl, h3, of_decide_eq_true (Bool.and_eq_true_iff.mp h2).2⟩
    | _ => cases h1
  · cases h
theorem az_ok {z : Str} (h : azAll z = true) : PyData.strOk z = true := by
  unfold PyData.strOk
  rw [← Array.all_toList, List.all_eq_true]
  intro c hc
  have q := List.all_eq_true.mp h c hc
  have q := of_decide_eq_true (Bool.and_eq_true_iff.mp q).2
  exact decide_eq_true (by omega)
theorem shaped_strs (zs : List Str) (h : ∀ z ∈ zs, PyData.strOk z = true) : SeqAt.shaped (.list (zs.map PyData.str)) = true := by
  have h1 : PyData.canLayAll0 (zs.map PyData.str) = true := by
    induction zs with
    | nil => rw [List.map_nil, PyData.canLayAll0]
    | cons c r ih =>
      rw [List.map_cons, PyData.canLayAll0, ih fun z hz => h z (List.mem_cons_of_mem _ hz), PyData.canLay0, h c List.mem_cons_self]
      rfl
  have h2 : PyData.depthAll (zs.map PyData.str) = 0 := by
    clear h h1
    induction zs with
    | nil => rw [List.map_nil, PyData.depthAll]
    | cons c r ih => rw [List.map_cons, PyData.depthAll, ih, PyData.depth]; rfl
  unfold SeqAt.shaped
  rw [PyData.canLay0, PyData.depth, h1, h2]
  rfl
theorem eqv_strs : ∀ (xs ys : List Str), PyData.eqv (.list (xs.map PyData.str)) (.list (ys.map PyData.str)) = decide (xs = ys)
  | xs, ys => by
    show PyData.eqvAll (xs.map PyData.str) (ys.map PyData.str) = decide (xs = ys)
    induction xs generalizing ys with
    | nil =>
      cases ys with
      | nil => rfl
      | cons b r => simp [PyData.eqvAll]
    | cons a l ih =>
      cases ys with
      | nil => simp [PyData.eqvAll]
      | cons b r =>
        rw [List.map_cons, List.map_cons, PyData.eqvAll, ih]
        by_cases h : a = b
        · subst h
          simp [PyData.eqv]
        · simp [PyData.eqv, h]
theorem shaped_mem {ds : List PyData} {d : PyData} (h : SeqAt.shaped (.tuple ds) = true) (hd : d ∈ ds) : SeqAt.shaped d = true := by
  unfold SeqAt.shaped at *
  rw [PyData.canLay0, PyData.depth] at h
  obtain ⟨h1, h2⟩ := Bool.and_eq_true_iff.mp h
  have h2 := of_decide_eq_true h2
  have key : ∀ (l : List PyData), d ∈ l → PyData.canLayAll0 l = true → d.canLay0 = true ∧ d.depth ≤ PyData.depthAll l := by
    intro l
    induction l with
    | nil => intro q; cases q
    | cons a r ih =>
      intro q c
      rw [PyData.canLayAll0] at c
      obtain ⟨c1, c2⟩ := Bool.and_eq_true_iff.mp c
      rw [PyData.depthAll]
      rcases List.mem_cons.mp q with e | e
      · subst e
        exact ⟨c1, by omega⟩
      · obtain ⟨i1, i2⟩ := ih e c2
        exact ⟨i1, by omega⟩
  obtain ⟨k1, k2⟩ := key ds hd h1
  rw [k1, decide_eq_true (show d.depth ≤ 64 by omega)]
  rfl
def ltAt (xs : List Str) (i : Nat) : Bool := match xs[i]?, xs[i + 1]? with
  | some a, some b => ltS a b
  | _, _ => true
theorem rise_all : ∀ (xs : List Str), ((List.range (xs.length - 1)).map (ltAt xs)).all id = rise xs
  | [] => rfl
  | [a] => rfl
  | a :: b :: r => by
    have ih := rise_all (b :: r)
    rw [show (a :: b :: r).length - 1 = ((b :: r).length - 1) + 1 by simp, List.range_succ_eq_map, List.map_cons, List.all_cons, List.map_map]
    show (ltS a b && ((List.range ((b :: r).length - 1)).map (ltAt (b :: r))).all id) = (ltS a b && rise (b :: r))
    rw [ih]
end Kin
/-! What drawn rows and books are; slices and sums of tuples beside the hand. -/
namespace Kin
open PySem PySem.Spec PyProof.Rows L2
section
variable {K : PySem.W.Frag}
theorem catA_data {H : Hp} {a b : Addr} {xs ys : List V} {Q : VK} (hx : SqT K H a xs) (hy : SqT K H b ys) (hl : xs.length + ys.length ≤ 10000000) (q : ∀ p H', Same H H' → SqT K H' p (xs ++ ys) → Q (.ref p) H') : rCatA K (.ref a) (.ref b) H Q :=
  ⟨a, b, xs, ys, rfl, rfl, hx, hy, Nat.le_trans hl (by decide), fun e => by
    subst e
    exact q b H (Same.refl H) hy, fun _ e => by
    subst e
    exact q a H (Same.refl H) (by rw [List.append_nil]; exact hx), fun _ _ p hp => q p _ (same_upd hp) sqT_new⟩
theorem slA_data {H : Hp} {a : Addr} {xs : List V} {lo hi : Option Int} {Q : VK} (hx : SqT K H a xs) (q : ∀ p H', Same H H' → SqT K H' p (cutV xs lo hi) → Q (.ref p) H') : rSlA K (.ref a) lo hi H Q :=
  ⟨a, xs, rfl, hx, fun ⟨e1, e2⟩ => by
    have e : cutV xs lo hi = xs := by
      unfold cutV
      rw [e1, e2]
      show (xs.drop 0).take (xs.length - 0) = xs
      rw [List.drop_zero, Nat.sub_zero, List.take_length]
    exact q a H (Same.refl H) (by rw [e]; exact hx), fun _ p hp => q p _ (same_upd hp) sqT_new⟩
theorem nice_word {wd : Str} (hw : wd ∈ words18) : nice (.str wd) = true := by
  have h : ∀ z ∈ words18, nice (.str z) = true := by decide +kernel
  exact h wd hw
/-- a row that both looks take alike -/
def rowOk (d : PyData) : Prop := bndAll d = true ∧ lenOk d = true ∧ d.canLay0 = true ∧ d.depth ≤ 4 ∧ nearAll d = true
theorem rowOk_of {ds : List PyData} (h : ds.all nice = true) (hl : ds.length ≤ 1000) : rowOk (.tuple ds) := by
  obtain ⟨b1, b2, b3, b4⟩ := nice_all h
  refine ⟨b1, ?_, ?_, ?_, nice_near h⟩
  · rw [lenOk, b2, decide_eq_true (show ds.length ≤ 1000000 by omega)]; rfl
  · rw [PyData.canLay0, b3]
  · rw [PyData.depth]
    omega
theorem catO {x l a b : Addr} {H : Hp} {xs ys : List V} {Q : VK} (hh : Hand x l H) (hax : a ≠ x) (hal : a ≠ l) (hbx : b ≠ x) (hbl : b ≠ l) (hx : H a = some (.tup xs)) (hy : H b = some (.tup ys)) (hl : xs.length + ys.length ≤ 10000000)
    (q : ∀ p H', Same H H' → p ≠ x → p ≠ l → SqT K (off x l H') p (xs ++ ys) → Q (.ref p) H') : rCatA K (.ref a) (.ref b) H Q :=
  ⟨a, b, xs, ys, rfl, rfl, .inl (.inl hx), .inl (.inl hy), Nat.le_trans hl (by decide), fun e => by
    subst e
    exact q b H (Same.refl H) hbx hbl (.inl (.inl (off_at hbx hbl hy))), fun _ e => by
    subst e
    exact q a H (Same.refl H) hax hal (by rw [List.append_nil]; exact .inl (.inl (off_at hax hal hx))), fun _ _ p hp => by
    obtain ⟨n1, n2⟩ := hh.nx hp
    exact q p _ (same_upd hp) n1 n2 (.inl (.inl (off_at n1 n2 upd_same)))⟩
end
def lets : List Nat := ("acegikmoqsuwybdf" : Str).cps.toList
def titleAt (j : Nat) (z : Str) : Prop := ∃ cs : List Nat, z.cps.toList = lets.getD (5 * j % 16) 0 :: cs ∧ cs.length ≤ 6 ∧ ∀ c ∈ cs, 97 ≤ c ∧ c ≤ 122
theorem titleAt_az {j : Nat} {z : Str} (h : titleAt j z) : 1 ≤ z.length ∧ z.length ≤ 8 ∧ azAll z = true := by
  obtain ⟨cs, e, hl, hc⟩ := h
  have hz : z.length = cs.length + 1 := by
    show z.cps.size = _
    rw [← Array.length_toList, e, List.length_cons]
  have hj : ∀ i, i < 16 → 97 ≤ lets.getD i 0 ∧ lets.getD i 0 ≤ 122 := by decide +kernel
  have h0 := hj (5 * j % 16) (Nat.mod_lt _ (by decide))
  refine ⟨by omega, by omega, ?_⟩
  unfold azAll
  rw [e, List.all_cons, decide_eq_true h0.1, decide_eq_true h0.2, Bool.true_and, Bool.true_and, List.all_eq_true]
  intro c q
  rw [decide_eq_true (hc c q).1, decide_eq_true (hc c q).2]
  rfl
theorem titles_nodup {ts : List Str} (h : ∀ j z, ts[j]? = some z → titleAt j z) (hl : ts.length ≤ 15) : ts.Nodup := by
  refine List.pairwise_iff_getElem.mpr fun i j hi hj hij e => ?_
  obtain ⟨c1, e1, _⟩ := h i _ (List.getElem?_eq_getElem hi)
  obtain ⟨c2, e2, _⟩ := h j _ (List.getElem?_eq_getElem hj)
  rw [e, e2] at e1
  have q := (List.cons.inj e1).1
  have all : ∀ i, i < 15 → ∀ j, j < 15 → i < j → lets.getD (5 * j % 16) 0 ≠ lets.getD (5 * i % 16) 0 := by decide +kernel
  exact all i (by omega) j (by omega) hij q
def progOkN (u : Nat) (p : PyData) : Prop := ∃ (z : Str) (rows : List PyData), p = .tuple [.str z, .tuple rows] ∧ 1 ≤ z.length ∧ z.length ≤ 8 ∧ azAll z = true ∧ 0 < rows.length ∧ rows.length ≤ u ∧ ∀ r ∈ rows, rowOk r ∧ pRow r rows.length = true
abbrev progOk (p : PyData) : Prop := progOkN 40 p
theorem Off.mut {x l p : Addr} {H H' : Hp} {o : HO} (f : Off x l H H') (h : H p = none) : Off x l H (upd H' p o) := fun b u h1 h2 e => by
  rw [upd_ne (ne_of_none e h)]
  exact f b u h1 h2 e
theorem Hand.mut {x l p : Addr} {H : Hp} {o : HO} (h : Hand x l H) (h1 : p ≠ x) (h2 : p ≠ l) : Hand x l (upd H p o) := by
  obtain ⟨m, hm, hN⟩ := h
  obtain ⟨cells, seed, e1, e2, e3⟩ := hN.ex
  exact ⟨m, hm, ⟨cells, seed, by rw [upd_ne h1.symm]; exact e1, by rw [upd_ne h2.symm]; exact e2, e3⟩, hN.ne⟩
mutual
def noL : PyData → Bool
  | .tuple ds => noLAll ds
  | .list _ => false
  | .dict _ => false
  | .none => true
  | .bool _ => true
  | .int _ => true
  | .str _ => true
def noLAll : List PyData → Bool
  | [] => true
  | d :: r => noL d && noLAll r
end
theorem noLAll_of : ∀ {ds : List PyData}, (∀ d ∈ ds, noL d = true) → noLAll ds = true
  | [], _ => by rw [noLAll]
  | d :: r, h => by
    rw [noLAll, h d List.mem_cons_self, noLAll_of fun y hy => h y (List.mem_cons_of_mem _ hy)]
    rfl
mutual
theorem dp_noL {K : PySem.W.Frag} {G G' : Hp} (h : ∀ b xs, SqT K G b xs → SqT K G' b xs) : ∀ {d : PyData} {v : V}, noL d = true → Dp K G v d → Dp K G' v d
  | _, _, _, .non => .non
  | _, _, _, .bl b => .bl b
  | _, _, _, .int i => .int i
  | _, _, _, .str x => .str x
  | _, _, e, .lst _ _ => by rw [noL] at e; cases e
  | _, _, e, .tup hs a => .tup (h _ _ hs) (dpA_noL h (by rw [noL] at e; exact e) a)
  | _, _, e, .dct _ => by rw [noL] at e; cases e
theorem dpA_noL {K : PySem.W.Frag} {G G' : Hp} (h : ∀ b xs, SqT K G b xs → SqT K G' b xs) : ∀ {ds : List PyData} {vs : List V}, noLAll ds = true → DpAll K G vs ds → DpAll K G' vs ds
  | _, _, _, .nil => .nil
  | _, _, e, .cons h1 t => by
    rw [noLAll] at e
    obtain ⟨e1, e2⟩ := Bool.and_eq_true_iff.mp e
    exact .cons (dp_noL h e1 h1) (dpA_noL h e2 t)
end
theorem sqT_mut {K : PySem.W.Frag} {x l D : Addr} {G : Hp} {acc : List V} {o : HO} (hD : G D = some (.lst acc)) (b : Addr) (xs : List V) (h : SqT K (off x l G) b xs) : SqT K (off x l (upd G D o)) b xs := by
  rcases h with (h | ⟨u, h⟩) | h
  · obtain ⟨h1, h2, h3⟩ := off_some.mp h
    have hne : b ≠ D := fun e => by
      rw [e, hD] at h3
      cases h3
    exact .inl (.inl (off_at h1 h2 (by rw [upd_ne hne]; exact h3)))
  · obtain ⟨h1, h2, h3⟩ := off_some.mp h
    have hne : b ≠ D := fun e => by
      rw [e, hD] at h3
      cases h3
    exact .inl (.inr ⟨u, off_at h1 h2 (by rw [upd_ne hne]; exact h3)⟩)
  · exact .inr h
theorem one_noL {d : PyData} {ws : List Str} (h : pOne d ws = true) : noL d = true := by
  cases d with
  | str z => rw [noL]
  | _ => cases h
theorem loop_noL : ∀ {ds : List PyData} {k : Nat}, pLoop k ds = true → noLAll ds = true
  | [], _, _ => by rw [noLAll]
  | d :: r, k, h => by
    cases d with
    | str z =>
      rw [pLoop_str] at h
      split at h
      · split at h
        · cases h
        · rw [noLAll, noL, loop_noL h]
          rfl
      · cases h
    | _ => cases h
theorem are_noL {d : PyData} (h : pAre d = true) : noL d = true := by
  cases d with
  | tuple ds => rw [noL]; exact loop_noL (k := 0) h
  | _ => cases h
theorem int_noL (i : Int) : noL (.int i) = true := by rw [noL]
theorem part_noL {k : Str} {d : PyData} {n : Int} (h : pPart k d n = true) : noL d = true := by
  have hrow : ∀ {e : PyData}, pRowNo e n = true → noL e = true := fun {e} h => by
    cases e with
    | int i => exact int_noL i
    | _ => cases h
  unfold pPart at h
  repeat' split at h
  · cases d with
    | str z => rw [noL]
    | _ => cases h
  · cases d with
    | int i => exact int_noL i
    | _ => cases h
  · cases d with
    | int i => exact int_noL i
    | _ => cases h
  · cases d with
    | bool b => rw [noL]
    | _ => cases h
  · exact hrow h
  · exact one_noL h
  · rw [pLoose_eq] at h
    exact one_noL h
  · exact are_noL h
  · rcases Bool.or_eq_true_iff.mp h with h | h
    · exact one_noL h
    · unfold pHandler at h
      split at h
      · obtain ⟨h1, h2⟩ := Bool.and_eq_true_iff.mp h
        rw [noL, noLAll, noLAll, noLAll, hrow h1, are_noL h2]
        rfl
      · cases h
  · exact one_noL h
  · unfold pChild at h
    repeat' split at h
    · rename_i hn
      cases d with
      | int i => exact int_noL i
      | _ => cases hn
    · cases d with
      | none => rw [noL]
      | _ => cases h
    · exact one_noL h
    · exact one_noL h
theorem parts_noL (n : Int) : ∀ {ks : List Str} {ds : List PyData}, ds.length = ks.length → pParts n ks ds = true → noLAll ds = true
  | [], [], _, _ => by rw [noLAll]
  | k :: ks, d :: ds, hl, h => by
    unfold pParts at h
    obtain ⟨h1, h2⟩ := Bool.and_eq_true_iff.mp h
    rw [noLAll, part_noL h1, parts_noL n (by simpa using hl) h2]
    rfl
  | [], _ :: _, hl, _ => by cases hl
  | _ :: _, [], hl, _ => by cases hl
theorem row_noL {d : PyData} {n : Int} (h : pRow d n = true) : noL d = true := by
  unfold pRow at h
  split at h
  · rename_i w ps
    split at h
    · rename_i ks _
      obtain ⟨h1, h2⟩ := Bool.and_eq_true_iff.mp h
      rw [noL, noLAll, noL, parts_noL n (of_decide_eq_true h1) h2]
      rfl
    · cases h
  · cases h
theorem prog_noL {u : Nat} {p : PyData} (h : progOkN u p) : noL p = true := by
  obtain ⟨z, rows, rfl, _, _, _, _, _, hr⟩ := h
  rw [noL, noLAll, noLAll, noLAll, noL, noL, noLAll_of fun r h => row_noL (hr r h).2]
  rfl
end Kin
/-! Words of texts, and what they are read as. -/
namespace Kin
open PySem PySem.Spec PyProof.Rows L2
abbrev sg (z : Str) : List Nat := z.cps.toList
theorem sg_len (z : Str) : z.length = (sg z).length := TL.len_tl z
def figC : List Nat := ("0123456789" : Str).cps.toList
theorem figC_iff (c : Nat) : c ∈ figC ↔ 48 ≤ c ∧ c ≤ 57 := by
  have e : figC = [48, 49, 50, 51, 52, 53, 54, 55, 56, 57] := by decide +kernel
  rw [e]
  simp only [List.mem_cons, List.not_mem_nil, or_false]
  omega
def isNum (z : Str) : Bool :=
  if (decide (1 ≤ z.length) && decide (z.length ≤ 9)) = true then
    (if (decide (1 < z.length) && decide ((⟨#[(sg z).headD 0]⟩ : Str) = "0")) = true then false else (sg z).all fun c => decide (c ∈ figC))
  else false
theorem isNum_dig {z : Str} (h : isNum z = true) : NumText.AllDigits (sg z) ∧ sg z ≠ [] ∧ z.length ≤ 9 := by
  unfold isNum at h
  split at h
  · rename_i h1
    rw [Bool.and_eq_true] at h1
    have a := of_decide_eq_true h1.1
    have b := of_decide_eq_true h1.2
    split at h
    · cases h
    · refine ⟨fun c hc => (figC_iff c).mp (of_decide_eq_true (List.all_eq_true.mp h c hc)), fun e => ?_, b⟩
      rw [sg_len, e] at a
      exact absurd a (by decide)
  · cases h
def rdNum (z : Str) : Option Int := if isNum z = true then intText? z else none
theorem isNum_int {z : Str} (h : isNum z = true) : ∃ n, intText? z = some n ∧ 0 ≤ n := by
  obtain ⟨a, b, c⟩ := isNum_dig h
  exact ⟨_, intText_digits a b (by omega), by omega⟩
def isSgn (z : Str) : Bool :=
  if Txt.slice z none (some 1) = "-" then (if z = "-0" then false else isNum (Txt.slice z (some 1) none)) else isNum z
theorem slice1 (z : Str) : Txt.slice z none (some 1) = SX.S ((sg z).take 1) := by
  have e := SX.slice_to (a := sg z) (i := 1) (by decide)
  rw [SX.S_tl] at e
  exact e
theorem slice1' (z : Str) : Txt.slice z (some 1) none = SX.S ((sg z).drop 1) := by
  have e := SX.slice_from (a := sg z) (i := 1) (by decide)
  rw [SX.S_tl] at e
  exact e
theorem slice_minus {z : Str} (h : Txt.slice z none (some 1) = "-") : ∃ cs, sg z = 45 :: cs := by
  rw [slice1] at h
  have e : (sg z).take 1 = [45] := by
    have q := congrArg sg h
    exact q.trans (by decide +kernel)
  cases hz : sg z with
  | nil => rw [hz] at e; cases e
  | cons c r =>
    rw [hz] at e
    injection e with e1 e2
    exact ⟨r, by rw [e1]⟩
theorem isSgn_int {z : Str} (h : isSgn z = true) : ∃ n, intText? z = some n ∧ z.length ≤ 10 := by
  unfold isSgn at h
  split at h
  · rename_i h1
    obtain ⟨cs, hz⟩ := slice_minus h1
    split at h
    · cases h
    · obtain ⟨a, b, c⟩ := isNum_dig h
      rw [slice1', hz] at a b c
      have hl : z.length = cs.length + 1 := by rw [sg_len, hz]; rfl
      have hc : cs.length ≤ 9 := by
        have q : (SX.S cs).length ≤ 9 := c
        rw [SX.S_len] at q
        exact q
      exact ⟨_, intText_neg hz a b (by omega), by omega⟩
  · obtain ⟨n, e, _⟩ := isNum_int h
    obtain ⟨_, _, c⟩ := isNum_dig h
    exact ⟨n, e, by omega⟩
def rdWhole (z : Str) : Option Int := if isSgn z = true then intText? z else none
def rdLet (z : Str) : Option Str := if z.length = 0 then none else if azAll z = true then some z else none
def rdSig (z : Str) : Option Str := if z ∈ sig9 then some z else none
def rdSigs (z : Str) : Option (List Str) := if z = "-" then some [] else if (Txt.split z ",").all (fun s => decide (s ∈ sig9)) = true then some (Txt.split z ",") else none
def oI : Option Int → PyData
  | none => .none
  | some i => .int i
def oS : Option Str → PyData
  | none => .none
  | some z => .str z
def strsD (ss : List Str) : PyData := .tuple (ss.map PyData.str)
def oSs : Option (List Str) → PyData
  | none => .none
  | some ss => strsD ss
def choices : List (Str × List Str) := [("who", ["self"]), ("to", ["self", "parent", "group"]), ("where", ["new", "mine"])]
def rdCh (k z : Str) (ws : List Str) : PyData := if z ∈ ws then .str z else if k = "where" then .none else oI (rdNum z)
def rdWord (k z : Str) : PyData := match choices.lookup k with
  | some ws => rdCh k z ws
  | none => if k = "title" then oS (rdLet z) else if k = "small" ∨ k = "row" then oI (rdNum z) else if k = "whole" then oI (rdWhole z) else if k = "signal" then oS (rdSig z) else oSs (rdSigs z)
def rdWords (ks ws : List Str) : Option (List PyData) :=
  if ws.length = ks.length then (if (List.zipWith rdWord ks ws).any isNone = true then none else some (List.zipWith rdWord ks ws)) else none
def oRow (w : Str) : Option (List PyData) → PyData
  | none => .none
  | some ps => .tuple (.str w :: ps)
def rdWait (ws : List Str) : PyData :=
  if decide (ws.drop 1 = (["stops"] : List Str)) = false ∧ ws.length ≠ 1 then .none else
  match ws with
  | [] => .none
  | w :: _ => if w = "any" then .tuple [.str "wait", .none, .bool (decide (ws.drop 1 = (["stops"] : List Str)))] else match rdNum w with
    | none => .none
    | some n => .tuple [.str "wait", .int n, .bool (decide (ws.drop 1 = (["stops"] : List Str)))]
def rdHandle (ws : List Str) : PyData :=
  if ws.length = 2 ∧ ws.getD 1 "" ∈ (["plain", "ignore"] : List Str) then (match rdWords ["signal"] (ws.take 1) with
    | some [s] => .tuple [.str "handle", s, .str (ws.getD 1 "")]
    | _ => .none)
  else match rdWords ["signal", "row", "signals"] ws with
    | some [s, r, ss] => .tuple [.str "handle", s, .tuple [r, ss]]
    | _ => .none
def rdRow (ws : List Str) : PyData := match ws with
  | [] => .none
  | w :: r => match forms.lookup w with
    | none => .none
    | some ks => if w = "wait" then rdWait r else if w = "handle" then rdHandle r else oRow w (rdWords ks r)
/-! ### how they are shown -/
def strOf : PyData → Str
  | .str z => z
  | _ => ""
def shSg (ss : List Str) : Str := if ss.length = 0 then "-" else Txt.join "," ss
def shP : PyData → Str
  | .str z => z
  | .int i => Str.ofString (toString i)
  | .tuple ds => shSg (ds.map strOf)
  | _ => "None"
def shWhich : PyData → Str
  | .none => "any"
  | d => shP d
def rowWords : List PyData → List Str
  | .str w :: ps => if w = "wait" then (match ps with
      | [which, .bool true] => ["wait", shWhich which, "stops"]
      | [which, _] => ["wait", shWhich which]
      | _ => [])
    else if w = "handle" then (match ps with
      | [.str s, .tuple [r, .tuple ss]] => ["handle", s, shP r, shP (.tuple ss)]
      | [.str s, how] => ["handle", s, shP how]
      | _ => [])
    else w :: ps.map shP
  | _ => []
/-- no blank, no line feed -/
def tight (z : Str) : Prop := 32 ∉ sg z ∧ 10 ∉ sg z
theorem az_tight {z : Str} (h : azAll z = true) : tight z := by
  have q : ∀ c ∈ sg z, 97 ≤ c := fun c hc => by
    have := List.all_eq_true.mp h c hc
    rw [Bool.and_eq_true] at this
    exact of_decide_eq_true this.1
  exact ⟨fun h => absurd (q 32 h) (by decide), fun h => absurd (q 10 h) (by decide)⟩
theorem num_sg (n : Nat) : sg (Str.ofString (toString ((n : Nat) : Int))) = TL.numL n := TL.tl_num n
theorem numL_head (n : Nat) : 10 ≤ n → (TL.numL n).head? ≠ some 48 := by
  induction n using Nat.strongRecOn with
  | _ n ih =>
    intro h
    rw [TL.numL_step h]
    by_cases h2 : n / 10 < 10
    · rw [TL.numL_lt h2]
      show some (48 + n / 10) ≠ some 48
      intro e
      injection e with e
      omega
    · have := ih (n / 10) (by omega) (by omega)
      cases e : TL.numL (n / 10) with
      | nil => exact absurd e (TL.numL_ne _)
      | cons c r =>
        rw [e] at this
        exact this
theorem numL_one {n : Nat} (h : 1 < (TL.numL n).length) : 10 ≤ n := by
  by_cases q : n < 10
  · rw [TL.numL_lt q] at h
    exact absurd h (by simp)
  · omega
theorem isNum_of {z : Str} {n : Nat} (hz : sg z = TL.numL n) (h : n ≤ 999999999) : isNum z = true := by
  have hl : z.length ≤ 9 := by
    rw [sg_len, hz]
    exact TL.numL_len (by decide) (by omega)
  have h1 : 1 ≤ z.length := by
    rw [sg_len, hz]
    exact List.length_pos_iff.mpr (TL.numL_ne n)
  unfold isNum
  rw [decide_eq_true hl, decide_eq_true h1, if_pos (by rfl)]
  have hne : (decide (1 < z.length) && decide ((⟨#[(sg z).headD 0]⟩ : Str) = "0")) = false := by
    by_cases q : 1 < z.length
    · rw [decide_eq_true q, Bool.true_and]
      refine decide_eq_false fun e => ?_
      have e2 : [(sg z).headD 0] = [48] := (congrArg sg e).trans (by decide +kernel)
      injection e2 with e3
      rw [sg_len, hz] at q
      have := numL_head n (numL_one q)
      rw [hz] at e3
      cases hc : TL.numL n with
      | nil => exact absurd hc (TL.numL_ne n)
      | cons c r =>
        rw [hc] at this e3
        exact this (congrArg some e3)
    · rw [decide_eq_false q]
      rfl
  rw [hne, if_neg Bool.false_ne_true, hz, List.all_eq_true]
  intro c hc
  exact decide_eq_true ((figC_iff c).mpr (TL.numL_digits n c hc))
theorem rdNum_of {i : Int} (h0 : 0 ≤ i) (h1 : i ≤ 999999999) : rdNum (Str.ofString (toString i)) = some i := by
  obtain ⟨n, rfl⟩ := Int.eq_ofNat_of_zero_le h0
  unfold rdNum
  rw [if_pos (isNum_of (num_sg n) (by omega))]
  exact TL.int_num (Nat.le_trans (TL.numL_len (k := 9) (by decide) (by omega)) (by decide))
theorem neg_sg (n : Nat) (h : 0 < n) : sg (Str.ofString (toString (-(n : Int)))) = 45 :: TL.numL n := by
  obtain ⟨m, rfl⟩ : ∃ m, n = m + 1 := ⟨n - 1, by omega⟩
  have e := TL.tl_ofString (toString (-((m + 1 : Nat) : Int)))
  refine e.trans ?_
  have e2 : toString (-((m + 1 : Nat) : Int)) = "-" ++ toString (m + 1) := rfl
  rw [e2, String.toList_append, List.map_append]
  have e3 := TL.tl_ofString (toString ((m + 1 : Nat) : Int))
  have e4 := num_sg (m + 1)
  have e5 : (toString (m + 1)).toList.map Char.toNat = TL.numL (m + 1) := e3.symm.trans e4
  rw [e5]
  rfl
theorem rdWhole_of {i : Int} (h0 : -999999999 ≤ i) (h1 : i ≤ 999999999) : rdWhole (Str.ofString (toString i)) = some i ∧ tight (Str.ofString (toString i)) := by
  unfold rdWhole isSgn
  by_cases hi : 0 ≤ i
  · obtain ⟨n, rfl⟩ := Int.eq_ofNat_of_zero_le hi
    have hs := num_sg n
    have hd := TL.numL_digits n
    refine ⟨?_, fun h => ?_, fun h => ?_⟩
    · have ne : ¬ Txt.slice (Str.ofString (toString ((n : Nat) : Int))) none (some 1) = "-" := fun e => by
        obtain ⟨cs, hc⟩ := slice_minus e
        rw [hs] at hc
        have := hd 45 (by rw [hc]; exact List.mem_cons_self)
        omega
      rw [if_neg (c := Txt.slice (Str.ofString (toString ((n : Nat) : Int))) none (some 1) = "-") ne]
      have q := rdNum_of hi h1
      unfold rdNum at q
      exact q
    · rw [hs] at h
      have := hd 32 h
      omega
    · rw [hs] at h
      have := hd 10 h
      omega
  · obtain ⟨n, rfl, hn⟩ : ∃ n : Nat, i = -(n : Int) ∧ 0 < n := ⟨i.natAbs, by omega, by omega⟩
    have hs := neg_sg n hn
    have hd := TL.numL_digits n
    refine ⟨?_, fun h => ?_, fun h => ?_⟩
    · have h8 : Txt.slice (Str.ofString (toString (-(n : Int)))) none (some 1) = "-" := by
        rw [slice1, hs]
        show SX.S [45] = "-"
        decide +kernel
      rw [if_pos (c := Txt.slice (Str.ofString (toString (-(n : Int)))) none (some 1) = "-") h8]
      have h9 : Txt.slice (Str.ofString (toString (-(n : Int)))) (some 1) none = SX.S (TL.numL n) := by
        rw [slice1', hs]
        rfl
      have h7 : ¬ Str.ofString (toString (-(n : Int))) = "-0" := fun e => by
        have q := congrArg sg e
        rw [hs] at q
        have q2 : 45 :: TL.numL n = [45, 48] := q.trans (by decide +kernel)
        injection q2 with _ q3
        have v := TL.numL_val n
        rw [q3] at v
        have : n = 0 := v.symm.trans (by decide)
        omega
      rw [if_neg (c := Str.ofString (toString (-(n : Int))) = "-0") h7, h9]
      · rw [if_pos (isNum_of (n := n) rfl (by omega))]
        have q := intText_neg hs (TL.numL_digits n) (TL.numL_ne n) (by
          rw [sg_len, hs]
          have := TL.numL_len (n := n) (k := 9) (by decide) (by omega)
          show (TL.numL n).length + 1 ≤ 4300
          omega)
        rw [TL.numL_val] at q
        exact q
    · rw [hs] at h
      rcases List.mem_cons.mp h with e | e
      · cases e
      · have := hd 32 e
        omega
    · rw [hs] at h
      rcases List.mem_cons.mp h with e | e
      · cases e
      · have := hd 10 e
        omega
end Kin
/-! What is shown of a row is read as the row. -/
namespace Kin
open PySem PySem.Spec PyProof.Rows L2
theorem sig9_az {z : Str} (h : z ∈ sig9) : azAll z = true ∧ 0 < z.length ∧ z ≠ "-" ∧ z.length ≤ 5 := by
  have q : ∀ z ∈ sig9, azAll z = true ∧ 0 < z.length ∧ z ≠ "-" ∧ z.length ≤ 5 := by decide +kernel
  exact q z h
theorem sig7_9 {z : Str} (h : z ∈ sig7) : z ∈ sig9 := by
  have q : ∀ z ∈ sig7, z ∈ sig9 := by decide +kernel
  exact q z h
theorem loop_strs : ∀ {ds : List PyData} {k : Nat}, pLoop k ds = true → ∃ ss : List Str, ds = ss.map PyData.str ∧ ∀ s ∈ ss, s ∈ sig7
  | [], _, _ => ⟨[], rfl, by simp⟩
  | d :: r, k, h => by
    cases d with
    | str z =>
      rw [pLoop_str] at h
      split at h
      · rename_i hl
        split at h
        · cases h
        · obtain ⟨ss, e, q⟩ := loop_strs h
          rw [pLoose_eq] at hl
          refine ⟨z :: ss, by rw [e]; rfl, fun s hs => ?_⟩
          rcases List.mem_cons.mp hs with rfl | hs
          · exact of_decide_eq_true hl
          · exact q s hs
      · cases h
    | _ => cases h
theorem are_strs {d : PyData} (h : pAre d = true) : ∃ ss : List Str, d = strsD ss ∧ ∀ s ∈ ss, s ∈ sig7 := by
  cases d with
  | tuple ds =>
    obtain ⟨ss, e, q⟩ := loop_strs (k := 0) h
    exact ⟨ss, by rw [e]; rfl, q⟩
  | _ => cases h
theorem are_len {ss : List Str} (h : pAre (strsD ss) = true) : ss.length ≤ 7 := by
  rw [are_eq] at h
  have h : (lAll7 (ss.map PyData.str) && lUp ((ss.map PyData.str).map ix7)) = true := h
  obtain ⟨h1, h2⟩ := Bool.and_eq_true_iff.mp h
  have key : ∀ (l : List Nat) (a : Nat), lUp (a :: l) = true → (∀ x ∈ a :: l, x ≤ 6) → a + l.length ≤ 6 := by
    intro l
    induction l with
    | nil => intro a _ hx; exact hx a List.mem_cons_self
    | cons b r ih =>
      intro a hu hx
      have hu : (decide (a < b) && lUp (b :: r)) = true := hu
      obtain ⟨u1, u2⟩ := Bool.and_eq_true_iff.mp hu
      have := ih b u2 fun x q => hx x (List.mem_cons_of_mem _ q)
      have := of_decide_eq_true u1
      rw [List.length_cons]
      omega
  cases ss with
  | nil => decide
  | cons s r =>
    have hx : ∀ x ∈ ((s :: r).map PyData.str).map ix7, x ≤ 6 := by
      rw [lAll7_eq, List.all_eq_true] at h1
      intro x hx
      obtain ⟨d, hd, rfl⟩ := List.mem_map.mp hx
      have q := h1 d hd
      obtain ⟨z, hz, rfl⟩ := List.mem_map.mp hd
      have q : z ∈ sig7 := of_decide_eq_true q
      show sig7.idxOf z ≤ 6
      have := List.idxOf_lt_length_iff.mpr q
      have e : sig7.length = 7 := rfl
      omega
    have := key _ _ h2 hx
    rw [List.length_map, List.length_map] at this
    rw [List.length_cons]
    omega
theorem strOf_map (ss : List Str) : (ss.map PyData.str).map strOf = ss := by
  rw [List.map_map]
  exact List.map_id ss
theorem join_sg (y : Str) (ss : List Str) : sg (Txt.join y ss) = TL.joinL (sg y) (ss.map sg) := by
  have e := TL.tl_join y ss
  exact (congrArg sg (TL.join_eq y ss)).trans e
theorem joinL_mem {S : List Nat} {c : Nat} : ∀ {ps : List (List Nat)}, c ∈ TL.joinL S ps → c ∈ S ∨ ∃ p ∈ ps, c ∈ p
  | [], h => by cases h
  | [p], h => .inr ⟨p, List.mem_singleton.mpr rfl, h⟩
  | p :: q :: r, h => by
    have h : c ∈ p ++ (S ++ TL.joinL S (q :: r)) := h
    rcases List.mem_append.mp h with h | h
    · exact .inr ⟨p, List.mem_cons_self, h⟩
    · rcases List.mem_append.mp h with h | h
      · exact .inl h
      · rcases joinL_mem h with h | ⟨z, hz, h⟩
        · exact .inl h
        · exact .inr ⟨z, List.mem_cons_of_mem _ hz, h⟩
theorem comma : sg ("," : Str) = [44] := by decide +kernel
theorem shSg_tight {ss : List Str} (h : ∀ s ∈ ss, s ∈ sig9) : tight (shSg ss) := by
  unfold shSg
  split
  · exact ⟨by decide +kernel, by decide +kernel⟩
  · have key : ∀ c, (c = 32 ∨ c = 10) → c ∉ sg (Txt.join "," ss) := fun c hc hm => by
      rw [join_sg] at hm
      rcases joinL_mem hm with q | ⟨p, hp, q⟩
      · rw [comma] at q
        have := List.mem_singleton.mp q
        omega
      · obtain ⟨z, hz, rfl⟩ := List.mem_map.mp hp
        have t := az_tight (sig9_az (h z hz)).1
        rcases hc with rfl | rfl
        · exact t.1 q
        · exact t.2 q
    exact ⟨key 32 (.inl rfl), key 10 (.inr rfl)⟩
theorem rdSigs_of {ss : List Str} (h : ∀ s ∈ ss, s ∈ sig9) : rdSigs (shSg ss) = some ss := by
  unfold shSg
  split
  · rename_i e
    rw [List.length_eq_zero_iff.mp e]
    rfl
  · rename_i e
    have hne : ss ≠ [] := fun q => e (by rw [q]; rfl)
    have h44 : ∀ p ∈ ss, 44 ∉ TL.tl p := fun p hp q => by
      have t := (sig9_az (h p hp)).1
      have := List.all_eq_true.mp t 44 q
      simp at this
    have hs := TL.split_join (y := ",") comma (by decide +kernel) hne h44
    have nd : Txt.join "," ss ≠ "-" := fun q => by
      rw [q] at hs
      have e2 : Txt.split "-" "," = (["-"] : List Str) := by decide +kernel
      rw [e2] at hs
      exact (sig9_az (h "-" (by rw [← hs]; exact List.mem_singleton.mpr rfl))).2.2.1 rfl
    unfold rdSigs
    rw [if_neg nd, hs, if_pos (List.all_eq_true.mpr fun s q => decide_eq_true (h s q))]
/-! ### a part -/
theorem near_int {i : Int} (h : near (.int i) = true) : -999999999 ≤ i ∧ i ≤ 999999999 := by
  have h : (decide (-999999999 ≤ i) && decide (i ≤ 999999999)) = true := h
  obtain ⟨a, b⟩ := Bool.and_eq_true_iff.mp h
  exact ⟨of_decide_eq_true a, of_decide_eq_true b⟩
def kinds8 : List Str := ["title", "small", "whole", "row", "signal", "signals", "where", "who", "to"]
theorem one_str {d : PyData} {ws : List Str} (h : pOne d ws = true) : ∃ z, d = .str z ∧ z ∈ ws := by
  cases d with
  | str z => exact ⟨z, rfl, of_decide_eq_true h⟩
  | _ => cases h
theorem int_of_no {d : PyData} {n : Int} (h : pRowNo d n = true) : ∃ i, d = .int i ∧ 0 ≤ i ∧ i < n := by
  cases d with
  | int i =>
    obtain ⟨a, b⟩ := Bool.and_eq_true_iff.mp h
    exact ⟨i, rfl, of_decide_eq_true a, of_decide_eq_true b⟩
  | _ => cases h
theorem nat_tight {i : Int} (h0 : 0 ≤ i) (h1 : i ≤ 999999999) : tight (Str.ofString (toString i)) := (rdWhole_of (by omega) h1).2
theorem rd_part {k : Str} {d : PyData} {n : Int} (hk : k ∈ kinds8) (h : pPart k d n = true) (hd : near d = true) : rdWord k (shP d) = d ∧ tight (shP d) := by
  have chs : ∀ (ws : List Str), (∀ z ∈ ws, azAll z = true) → pOne d ws = true → rdCh k (shP d) ws = d ∧ tight (shP d) := fun ws hw q => by
    obtain ⟨z, rfl, hz⟩ := one_str q
    exact ⟨by unfold rdCh; exact if_pos hz, az_tight (hw z hz)⟩
  have chn : ∀ (ws : List Str), k ≠ "where" → (∀ z ∈ ws, azAll z = true) → pNat d = true → rdCh k (shP d) ws = d ∧ tight (shP d) := fun ws hkw hw q => by
    cases d with
    | int i =>
      have h0 : 0 ≤ i := of_decide_eq_true q
      have ⟨_, h1⟩ := near_int hd
      refine ⟨?_, nat_tight h0 h1⟩
      unfold rdCh
      have hn : ¬ shP (.int i) ∈ ws := fun m => by
        have t := hw _ m
        obtain ⟨a, rfl⟩ := Int.eq_ofNat_of_zero_le h0
        have e : sg (shP (.int (a : Int))) = TL.numL a := num_sg a
        unfold azAll at t
        rw [show (shP (.int (a : Int))).cps.toList = TL.numL a from e] at t
        cases hc : TL.numL a with
        | nil => exact TL.numL_ne a hc
        | cons c r =>
          have hr := TL.numL_digits a c (by rw [hc]; exact List.mem_cons_self)
          rw [hc, List.all_cons] at t
          have := of_decide_eq_true (Bool.and_eq_true_iff.mp (Bool.and_eq_true_iff.mp t).1).1
          omega
      rw [if_neg hn, if_neg hkw]
      show oI (rdNum (Str.ofString (toString i))) = _
      rw [rdNum_of h0 h1]
      rfl
    | _ => cases q
  simp only [kinds8, List.mem_cons, List.not_mem_nil, or_false] at hk
  rcases hk with rfl | rfl | rfl | rfl | rfl | rfl | rfl | rfl | rfl
  · rw [pp_title] at h
    cases d with
    | str z =>
      have h : (decide (1 ≤ z.length) && decide (z.length ≤ 8) && azAll z) = true := h
      obtain ⟨h1, h2⟩ := Bool.and_eq_true_iff.mp h
      have h3 := of_decide_eq_true (Bool.and_eq_true_iff.mp h1).1
      refine ⟨?_, az_tight h2⟩
      show oS (rdLet z) = _
      unfold rdLet
      rw [if_neg (by omega), if_pos h2]
      rfl
    | _ => cases h
  · rw [pp_small] at h
    cases d with
    | int i =>
      obtain ⟨a, b⟩ := Bool.and_eq_true_iff.mp h
      have a := of_decide_eq_true a
      have b := of_decide_eq_true b
      refine ⟨?_, nat_tight a (by omega)⟩
      show oI (rdNum (Str.ofString (toString i))) = _
      rw [rdNum_of a (by omega)]
      rfl
    | _ => cases h
  · rw [pp_whole] at h
    cases d with
    | int i =>
      have ⟨a, b⟩ := near_int hd
      obtain ⟨q1, q2⟩ := rdWhole_of a b
      refine ⟨?_, q2⟩
      show oI (rdWhole (Str.ofString (toString i))) = _
      rw [q1]
      rfl
    | _ => cases h
  · rw [pp_row] at h
    obtain ⟨i, rfl, a, _⟩ := int_of_no h
    have ⟨_, b⟩ := near_int hd
    refine ⟨?_, nat_tight a b⟩
    show oI (rdNum (Str.ofString (toString i))) = _
    rw [rdNum_of a b]
    rfl
  · rw [pp_signal] at h
    obtain ⟨z, rfl, hz⟩ := one_str h
    refine ⟨?_, az_tight (sig9_az hz).1⟩
    show oS (rdSig z) = _
    unfold rdSig
    rw [if_pos hz]
    rfl
  · rw [pp_signals] at h
    obtain ⟨ss, rfl, hz⟩ := are_strs h
    have h9 : ∀ s ∈ ss, s ∈ sig9 := fun s q => sig7_9 (hz s q)
    have e : shP (strsD ss) = shSg ss := by
      show shSg ((ss.map PyData.str).map strOf) = _
      rw [strOf_map]
    rw [e]
    refine ⟨?_, shSg_tight h9⟩
    show oSs (rdSigs (shSg ss)) = _
    rw [rdSigs_of h9]
    rfl
  · rw [pp_where] at h
    exact chs ["new", "mine"] (by decide +kernel) h
  · rw [pp_who] at h
    split at h
    · rename_i q
      exact chn ["self"] (by decide +kernel) (by decide +kernel) q
    · exact chs ["self"] (by decide +kernel) h
  · rw [pp_to] at h
    split at h
    · rename_i q
      exact chn ["self", "parent", "group"] (by decide +kernel) (by decide +kernel) q
    · exact chs ["self", "parent", "group"] (by decide +kernel) h
theorem part_some {k : Str} {d : PyData} {n : Int} (hk : k ∈ kinds8) (h : pPart k d n = true) : isNone d = false := by
  cases d with
  | none =>
    simp only [kinds8, List.mem_cons, List.not_mem_nil, or_false] at hk
    rcases hk with rfl | rfl | rfl | rfl | rfl | rfl | rfl | rfl | rfl <;> first | cases h | (exact absurd h (by decide +kernel))
  | _ => rfl
theorem rd_parts (n : Int) : ∀ {ks : List Str} {ds : List PyData}, (∀ k ∈ ks, k ∈ kinds8) → ds.length = ks.length → pParts n ks ds = true → ds.all near = true →
    List.zipWith rdWord ks (ds.map shP) = ds ∧ (∀ d ∈ ds, tight (shP d)) ∧ ds.any isNone = false
  | [], [], _, _, _, _ => ⟨rfl, by simp, rfl⟩
  | k :: ks, d :: ds, hk, hl, h, hn => by
    unfold pParts at h
    obtain ⟨h1, h2⟩ := Bool.and_eq_true_iff.mp h
    rw [List.all_cons] at hn
    obtain ⟨n1, n2⟩ := Bool.and_eq_true_iff.mp hn
    obtain ⟨a, b⟩ := rd_part (hk k List.mem_cons_self) h1 n1
    obtain ⟨c, e, f⟩ := rd_parts n (fun x q => hk x (List.mem_cons_of_mem _ q)) (by simpa using hl) h2 n2
    refine ⟨?_, fun x hx => ?_, ?_⟩
    · rw [List.map_cons, List.zipWith_cons_cons, a, c]
    · rcases List.mem_cons.mp hx with rfl | hx
      · exact b
      · exact e x hx
    · rw [List.any_cons, f, part_some (hk k List.mem_cons_self) h1]
      rfl
  | [], _ :: _, _, hl, _, _ => by cases hl
  | _ :: _, [], _, hl, _, _ => by cases hl
theorem rd_words {n : Int} {ks : List Str} {ds : List PyData} (hk : ∀ k ∈ ks, k ∈ kinds8) (hl : ds.length = ks.length) (h : pParts n ks ds = true) (hn : ds.all near = true) : rdWords ks (ds.map shP) = some ds := by
  obtain ⟨a, _, c⟩ := rd_parts n hk hl h hn
  unfold rdWords
  rw [if_pos (by rw [List.length_map]; exact hl), a, c]
  rfl
end Kin
namespace Kin
open PySem PySem.Spec PyProof.Rows L2
theorem low18 {w : Str} (h : w ∈ words18) : azAll w = true ∧ w ≠ "program" ∧ w.length ≤ 7 := by
  have q : ∀ w ∈ words18, azAll w = true ∧ w ≠ "program" ∧ w.length ≤ 7 := by decide +kernel
  exact q w h
theorem forms18 {w : Str} {ks : List Str} (h : forms.lookup w = some ks) : w ∈ words18 := by
  have e : words18 = forms.map (·.1) := by decide +kernel
  rw [e]
  refine Classical.byContradiction fun q => ?_
  rw [lookup_none q] at h
  cases h
theorem forms_kinds {w : Str} {ks : List Str} (h : forms.lookup w = some ks) (h1 : w ≠ "wait") (h2 : w ≠ "handle") : ∀ k ∈ ks, k ∈ kinds8 := by
  have q : ∀ w ∈ words18, w ≠ "wait" → w ≠ "handle" → ∀ k ∈ (forms.lookup w).getD [], k ∈ kinds8 := by decide +kernel
  have := q w (forms18 h) h1 h2
  rw [h] at this
  exact this
theorem row_parts {ds : List PyData} {n : Int} (h : pRow (.tuple ds) n = true) : ∃ w ks ps, ds = .str w :: ps ∧ forms.lookup w = some ks ∧ ps.length = ks.length ∧ pParts n ks ps = true := by
  unfold pRow at h
  split at h
  · rename_i w ps e
    injection e with e
    split at h
    · rename_i ks hk
      obtain ⟨h1, h2⟩ := Bool.and_eq_true_iff.mp h
      exact ⟨w, ks, ps, e, hk, of_decide_eq_true h1, h2⟩
    · cases h
  · cases h
/-- the shapes of a wait and a handle -/
theorem wait_parts {ps : List PyData} {n : Int} (hl : ps.length = 2) (h : pParts n ["which", "truth"] ps = true) : ∃ d b, ps = [d, .bool b] ∧ (d = .none ∨ ∃ i, d = .int i ∧ 0 ≤ i) := by
  match ps, hl with
  | [d, e], _ =>
    unfold pParts at h
    obtain ⟨h1, h2⟩ := Bool.and_eq_true_iff.mp h
    unfold pParts at h2
    obtain ⟨h2, _⟩ := Bool.and_eq_true_iff.mp h2
    rw [pp_truth] at h2
    rw [pp_which] at h1
    cases e with
    | bool b =>
      refine ⟨d, b, rfl, ?_⟩
      split at h1
      · rename_i q
        cases d with
        | int i => exact .inr ⟨i, rfl, of_decide_eq_true q⟩
        | _ => cases q
      · cases d with
        | none => exact .inl rfl
        | _ => cases h1
    | _ => cases h2
theorem handle_parts {ps : List PyData} {n : Int} (hl : ps.length = 2) (h : pParts n ["loose", "how"] ps = true) :
    ∃ s, s ∈ sig7 ∧ ((∃ z, z ∈ (["plain", "ignore"] : List Str) ∧ ps = [.str s, .str z]) ∨ ∃ r ss, 0 ≤ r ∧ r < n ∧ (∀ x ∈ ss, x ∈ sig7) ∧ pAre (strsD ss) = true ∧ ps = [.str s, .tuple [.int r, strsD ss]]) := by
  match ps, hl with
  | [d, e], _ =>
    unfold pParts at h
    obtain ⟨h1, h2⟩ := Bool.and_eq_true_iff.mp h
    unfold pParts at h2
    obtain ⟨h2, _⟩ := Bool.and_eq_true_iff.mp h2
    rw [pp_loose, pLoose_eq] at h1
    rw [pp_how] at h2
    obtain ⟨s, rfl, hs⟩ := one_str h1
    refine ⟨s, hs, ?_⟩
    rcases Bool.or_eq_true_iff.mp h2 with q | q
    · obtain ⟨z, rfl, hz⟩ := one_str q
      exact .inl ⟨z, hz, rfl⟩
    · unfold pHandler at q
      split at q
      · rename_i a b
        obtain ⟨q1, q2⟩ := Bool.and_eq_true_iff.mp q
        obtain ⟨i, rfl, i0, i1⟩ := int_of_no q1
        obtain ⟨ss, rfl, hss⟩ := are_strs q2
        exact .inr ⟨i, ss, i0, i1, hss, q2, rfl⟩
      · cases q
theorem shP_strs (ss : List Str) : shP (strsD ss) = shSg ss := by
  show shSg ((ss.map PyData.str).map strOf) = _
  rw [strOf_map]
theorem num_ne_word {i : Int} {z : Str} (h0 : 0 ≤ i) (hz : azAll z = true) : Str.ofString (toString i) ≠ z := fun e => by
  obtain ⟨a, rfl⟩ := Int.eq_ofNat_of_zero_le h0
  have q := num_sg a
  rw [e] at q
  unfold azAll at hz
  rw [show z.cps.toList = TL.numL a from q] at hz
  cases hc : TL.numL a with
  | nil => exact TL.numL_ne a hc
  | cons c r =>
    have hr := TL.numL_digits a c (by rw [hc]; exact List.mem_cons_self)
    rw [hc, List.all_cons] at hz
    have := of_decide_eq_true (Bool.and_eq_true_iff.mp (Bool.and_eq_true_iff.mp hz).1).1
    omega
theorem rd_row {ds : List PyData} {n : Int} (h : pRow (.tuple ds) n = true) (hn : n ≤ 1000) (hb : nearAll (.tuple ds) = true) :
    rdRow (rowWords ds) = .tuple ds ∧ (∀ w ∈ rowWords ds, tight w) ∧ ∃ w r, rowWords ds = w :: r ∧ w ≠ "program" := by
  obtain ⟨w, ks, ps, rfl, hf, hl, hp⟩ := row_parts h
  have hw := forms18 hf
  have hb' : ps.all near = true := (Bool.and_eq_true_iff.mp (show (near (.str w) && ps.all near) = true from hb)).2
  have hne := (low18 hw).2.1
  clear hb
  by_cases h1 : w = "wait"
  · subst h1
    obtain rfl : ks = (["which", "truth"] : List Str) := Option.some.inj (hf.symm.trans (by decide +kernel))
    obtain ⟨d, b, rfl, hd⟩ := wait_parts hl hp
    rw [List.all_cons] at hb'
    have hb1 := (Bool.and_eq_true_iff.mp hb').1
    have t1 : tight "wait" := az_tight (by decide +kernel)
    have t2 : tight "stops" := az_tight (by decide +kernel)
    have key : ∀ c : List Str, ¬ (decide (c = (["stops"] : List Str)) = false ∧ (shWhich d :: c).length ≠ 1) → rdWait (shWhich d :: c) = .tuple [.str "wait", d, .bool (decide (c = (["stops"] : List Str)))] ∧ tight (shWhich d) := by
      intro c hc
      unfold rdWait
      rcases hd with rfl | ⟨i, rfl, i0⟩
      · refine ⟨?_, az_tight (by decide +kernel)⟩
        show (if decide (c = (["stops"] : List Str)) = false ∧ (shWhich .none :: c).length ≠ 1 then _ else _) = _
        rw [if_neg hc]
        exact (if_pos (c := shWhich .none = "any") rfl).trans rfl
      · have ⟨_, i1⟩ := near_int hb1
        refine ⟨?_, nat_tight i0 i1⟩
        show (if decide (c = (["stops"] : List Str)) = false ∧ (shWhich (.int i) :: c).length ≠ 1 then _ else _) = _
        rw [if_neg hc]
        refine (if_neg (c := shWhich (.int i) = "any") (num_ne_word i0 (by decide +kernel))).trans ?_
        show (match rdNum (Str.ofString (toString i)) with | none => PyData.none | some n => _) = _
        rw [rdNum_of i0 i1]
        rfl
    cases b with
    | true =>
      obtain ⟨k1, k2⟩ := key ["stops"] (fun q => by cases q.1)
      refine ⟨?_, fun z hz => ?_, _, _, rfl, hne⟩
      · show rdWait [shWhich d, "stops"] = _
        rw [k1]
        rfl
      · have hz : z ∈ (["wait", shWhich d, "stops"] : List Str) := hz
        simp only [List.mem_cons, List.not_mem_nil, or_false] at hz
        rcases hz with rfl | rfl | rfl
        · exact t1
        · exact k2
        · exact t2
    | false =>
      obtain ⟨k1, k2⟩ := key [] (fun q => q.2 rfl)
      refine ⟨?_, fun z hz => ?_, _, _, rfl, hne⟩
      · show rdWait [shWhich d] = _
        rw [k1]
        rfl
      · have hz : z ∈ (["wait", shWhich d] : List Str) := hz
        simp only [List.mem_cons, List.not_mem_nil, or_false] at hz
        rcases hz with rfl | rfl
        · exact t1
        · exact k2
  by_cases h2 : w = "handle"
  · subst h2
    obtain rfl : ks = (["loose", "how"] : List Str) := Option.some.inj (hf.symm.trans (by decide +kernel))
    obtain ⟨s, hs, q | ⟨r, ss, r0, r1, hss, hare, rfl⟩⟩ := handle_parts hl hp
    · obtain ⟨z, hz, rfl⟩ := q
      have hz2 : azAll z = true := by
        have : ∀ z ∈ (["plain", "ignore"] : List Str), azAll z = true := by decide +kernel
        exact this z hz
      refine ⟨?_, fun x hx => ?_, _, _, rfl, hne⟩
      · show rdHandle [s, z] = _
        unfold rdHandle
        rw [if_pos ⟨rfl, hz⟩]
        have e : rdWords ["signal"] ([s, z].take 1) = some [.str s] := rd_words (n := 0) (ks := ["signal"]) (ds := [.str s]) (by decide) rfl (by
          unfold pParts
          rw [pp_signal]
          exact Bool.and_eq_true_iff.mpr ⟨decide_eq_true (sig7_9 hs), rfl⟩) rfl
        rw [e]
        rfl
      · have hx : x ∈ (["handle", s, z] : List Str) := hx
        simp only [List.mem_cons, List.not_mem_nil, or_false] at hx
        rcases hx with rfl | rfl | rfl
        · exact az_tight (by decide +kernel)
        · exact az_tight (sig9_az (sig7_9 hs)).1
        · exact az_tight hz2
    · have e : rdWords ["signal", "row", "signals"] ([PyData.str s, .int r, strsD ss].map shP) = some [.str s, .int r, strsD ss] := rd_words (n := n) (by decide) rfl (by
        unfold pParts pParts pParts pParts
        rw [pp_signal, pp_row, pp_signals, hare]
        show (decide (s ∈ sig9) && ((decide (0 ≤ r) && decide (r < n)) && (true && true))) = true
        rw [decide_eq_true (sig7_9 hs), decide_eq_true r0, decide_eq_true r1]
        rfl) (by
        show (true && ((decide (-999999999 ≤ r) && decide (r ≤ 999999999)) && (true && true))) = true
        rw [decide_eq_true (show -999999999 ≤ r by omega), decide_eq_true (show r ≤ 999999999 by omega)]
        rfl)
      refine ⟨?_, fun x hx => ?_, _, _, rfl, hne⟩
      · show rdHandle [s, shP (.int r), shP (strsD ss)] = _
        unfold rdHandle
        rw [if_neg fun q => by cases q.1]
        have e : rdWords ["signal", "row", "signals"] [s, shP (.int r), shP (strsD ss)] = _ := e
        rw [e]
      · have hx : x ∈ (["handle", s, shP (.int r), shP (strsD ss)] : List Str) := hx
        simp only [List.mem_cons, List.not_mem_nil, or_false] at hx
        rcases hx with rfl | rfl | rfl | rfl
        · exact az_tight (by decide +kernel)
        · exact az_tight (sig9_az (sig7_9 hs)).1
        · exact nat_tight r0 (by omega)
        · rw [shP_strs]
          exact shSg_tight fun x q => sig7_9 (hss x q)
  · have hk := forms_kinds hf h1 h2
    have e : rowWords (.str w :: ps) = w :: ps.map shP := by
      show (if w = "wait" then _ else if w = "handle" then _ else w :: ps.map shP) = _
      rw [if_neg h1, if_neg h2]
    rw [e]
    obtain ⟨_, t, _⟩ := rd_parts n hk hl hp hb'
    refine ⟨?_, fun x hx => ?_, _, _, rfl, hne⟩
    · show (match forms.lookup w with
        | none => PyData.none
        | some ks => if w = "wait" then rdWait (ps.map shP) else if w = "handle" then rdHandle (ps.map shP) else oRow w (rdWords ks (ps.map shP))) = _
      rw [hf]
      show (if w = "wait" then _ else if w = "handle" then _ else oRow w (rdWords ks (ps.map shP))) = _
      rw [if_neg h1, if_neg h2, rd_words hk hl hp hb']
      rfl
    · rcases List.mem_cons.mp hx with rfl | hx
      · exact az_tight (low18 hw).1
      · obtain ⟨d, hd, rfl⟩ := List.mem_map.mp hx
        exact t d hd
end Kin
/-! Lengths and signs of what is shown; a joined text, built from the left. -/
namespace Kin
open PySem PySem.Spec PyProof.Rows L2
/-- plain signs, not many -/
def small (n : Nat) (z : Str) : Prop := (∀ c ∈ sg z, c < 128) ∧ z.length ≤ n
theorem small.le {n m : Nat} {z : Str} (h : small n z) (hm : n ≤ m) : small m z := ⟨h.1, Nat.le_trans h.2 hm⟩
theorem small.ok {n : Nat} {z : Str} (h : small n z) : PyData.strOk z = true := by
  unfold PyData.strOk
  rw [← Array.all_toList, List.all_eq_true]
  intro c hc
  have := h.1 c hc
  exact decide_eq_true (by omega)
theorem az_small {z : Str} {n : Nat} (h : azAll z = true) (hl : z.length ≤ n) : small n z := ⟨fun c hc => by
  have := List.all_eq_true.mp h c hc
  rw [Bool.and_eq_true] at this
  have := of_decide_eq_true this.2
  omega, hl⟩
theorem num_small {i : Int} (h0 : -999999999 ≤ i) (h1 : i ≤ 999999999) : small 10 (Str.ofString (toString i)) := by
  by_cases hi : 0 ≤ i
  · obtain ⟨n, rfl⟩ := Int.eq_ofNat_of_zero_le hi
    have hs := num_sg n
    refine ⟨fun c hc => ?_, ?_⟩
    · rw [hs] at hc
      have := TL.numL_digits n c hc
      omega
    · rw [sg_len, hs]
      have := TL.numL_len (n := n) (k := 9) (by decide) (by omega)
      omega
  · obtain ⟨n, rfl, hn⟩ : ∃ n : Nat, i = -(n : Int) ∧ 0 < n := ⟨i.natAbs, by omega, by omega⟩
    have hs := neg_sg n hn
    refine ⟨fun c hc => ?_, ?_⟩
    · rw [hs] at hc
      rcases List.mem_cons.mp hc with rfl | hc
      · decide
      · have := TL.numL_digits n c hc
        omega
    · rw [sg_len, hs]
      have := TL.numL_len (n := n) (k := 9) (by decide) (by omega)
      show (TL.numL n).length + 1 ≤ 10
      omega
theorem joinL_len (S : List Nat) : ∀ ps : List (List Nat), (TL.joinL S ps).length ≤ (ps.map (·.length)).sum + ps.length * S.length
  | [] => Nat.zero_le _
  | [p] => by
    show p.length ≤ (p.length + 0) + 1 * S.length
    omega
  | p :: q :: r => by
    have ih := joinL_len S (q :: r)
    show (p ++ (S ++ TL.joinL S (q :: r))).length ≤ (p.length + ((q :: r).map (·.length)).sum) + ((q :: r).length + 1) * S.length
    rw [List.length_append, List.length_append, Nat.succ_mul]
    omega
theorem join_len (y : Str) (ss : List Str) : (Txt.join y ss).length ≤ (ss.map (·.length)).sum + ss.length * y.length := by
  rw [sg_len, join_sg]
  have h := joinL_len (sg y) (ss.map sg)
  rw [List.map_map, List.length_map] at h
  have e : ss.map ((fun x => x.length) ∘ sg) = ss.map (·.length) := List.map_congr_left fun z _ => (sg_len z).symm
  rw [e] at h
  rw [sg_len y]
  exact h
theorem sum_le {n : Nat} : ∀ {ss : List Str}, (∀ s ∈ ss, s.length ≤ n) → (ss.map (·.length)).sum ≤ ss.length * n
  | [], _ => Nat.le_of_eq (by simp)
  | s :: r, h => by
    have a := h s List.mem_cons_self
    have b := sum_le (ss := r) fun x q => h x (List.mem_cons_of_mem _ q)
    rw [List.map_cons, List.sum_cons, List.length_cons, Nat.succ_mul]
    omega
theorem join_small {y : Str} {ss : List Str} {m n l : Nat} (hy : small l y) (h : ∀ s ∈ ss, small n s) (hl : ss.length ≤ m) : small (m * n + m * l) (Txt.join y ss) := by
  refine ⟨fun c hc => ?_, ?_⟩
  · rw [join_sg] at hc
    rcases joinL_mem hc with q | ⟨p, hp, q⟩
    · exact hy.1 c q
    · obtain ⟨z, hz, rfl⟩ := List.mem_map.mp hp
      exact (h z hz).1 c q
  · have a := join_len y ss
    have b := sum_le fun s q => (h s q).2
    have c1 : ss.length * n ≤ m * n := Nat.mul_le_mul_right n hl
    have c2 : ss.length * y.length ≤ m * l := Nat.mul_le_mul hl hy.2
    omega
theorem comma_small : small 1 "," := ⟨by decide +kernel, by decide +kernel⟩
theorem blank_small : small 1 " " := ⟨by decide +kernel, by decide +kernel⟩
theorem feed_small : small 1 "\n" := ⟨by decide +kernel, by decide +kernel⟩
theorem shSg_small {ss : List Str} (h : ∀ s ∈ ss, s ∈ sig9) (hl : ss.length ≤ 7) : small 42 (shSg ss) := by
  unfold shSg
  split
  · exact ⟨by decide +kernel, by decide +kernel⟩
  · exact join_small comma_small (m := 7) (n := 5) (fun s q => az_small (sig9_az (h s q)).1 (sig9_az (h s q)).2.2.2) hl
theorem part_small {k : Str} {d : PyData} {n : Int} (hk : k ∈ kinds8) (h : pPart k d n = true) (hd : near d = true) : small 42 (shP d) := by
  have one : ∀ (ws : List Str), (∀ z ∈ ws, azAll z = true ∧ z.length ≤ 42) → pOne d ws = true → small 42 (shP d) := fun ws hw q => by
    obtain ⟨z, rfl, hz⟩ := one_str q
    exact az_small (hw z hz).1 (hw z hz).2
  have int : (∃ i, d = .int i) → small 42 (shP d) := fun ⟨i, e⟩ => by
    subst e
    have ⟨a, b⟩ := near_int hd
    exact (num_small a b).le (by decide)
  simp only [kinds8, List.mem_cons, List.not_mem_nil, or_false] at hk
  rcases hk with rfl | rfl | rfl | rfl | rfl | rfl | rfl | rfl | rfl
  · rw [pp_title] at h
    cases d with
    | str z =>
      have h : (decide (1 ≤ z.length) && decide (z.length ≤ 8) && azAll z) = true := h
      obtain ⟨h1, h2⟩ := Bool.and_eq_true_iff.mp h
      have h3 := of_decide_eq_true (Bool.and_eq_true_iff.mp h1).2
      exact az_small h2 (show z.length ≤ 42 by omega)
    | _ => cases h
  · rw [pp_small] at h
    cases d with
    | int i => exact int ⟨i, rfl⟩
    | _ => cases h
  · rw [pp_whole] at h
    cases d with
    | int i => exact int ⟨i, rfl⟩
    | _ => cases h
  · rw [pp_row] at h
    obtain ⟨i, rfl, _⟩ := int_of_no h
    exact int ⟨i, rfl⟩
  · rw [pp_signal] at h
    exact one sig9 (by decide +kernel) h
  · rw [pp_signals] at h
    obtain ⟨ss, rfl, hz⟩ := are_strs h
    rw [shP_strs]
    exact shSg_small (fun s q => sig7_9 (hz s q)) (are_len h)
  · rw [pp_where] at h
    exact one ["new", "mine"] (by decide +kernel) h
  · rw [pp_who] at h
    split at h
    · rename_i q
      cases d with
      | int i => exact int ⟨i, rfl⟩
      | _ => cases q
    · exact one ["self"] (by decide +kernel) h
  · rw [pp_to] at h
    split at h
    · rename_i q
      cases d with
      | int i => exact int ⟨i, rfl⟩
      | _ => cases q
    · exact one ["self", "parent", "group"] (by decide +kernel) h
theorem parts_small (n : Int) : ∀ {ks : List Str} {ds : List PyData}, (∀ k ∈ ks, k ∈ kinds8) → ds.length = ks.length → pParts n ks ds = true → ds.all near = true → ∀ d ∈ ds, small 42 (shP d)
  | [], [], _, _, _, _ => by simp
  | k :: ks, d :: ds, hk, hl, h, hn => by
    unfold pParts at h
    obtain ⟨h1, h2⟩ := Bool.and_eq_true_iff.mp h
    rw [List.all_cons] at hn
    obtain ⟨n1, n2⟩ := Bool.and_eq_true_iff.mp hn
    intro x hx
    rcases List.mem_cons.mp hx with rfl | hx
    · exact part_small (hk k List.mem_cons_self) h1 n1
    · exact parts_small n (fun x q => hk x (List.mem_cons_of_mem _ q)) (by simpa using hl) h2 n2 x hx
  | [], _ :: _, _, hl, _, _ => by cases hl
  | _ :: _, [], _, hl, _, _ => by cases hl
theorem row_small {ds : List PyData} {n : Int} (h : pRow (.tuple ds) n = true) (hn : n ≤ 1000) (hb : nearAll (.tuple ds) = true) : (∀ w ∈ rowWords ds, small 42 w) ∧ (rowWords ds).length ≤ 4 := by
  obtain ⟨w, ks, ps, rfl, hf, hl, hp⟩ := row_parts h
  have hw := forms18 hf
  have hb' : ps.all near = true := (Bool.and_eq_true_iff.mp (show (near (.str w) && ps.all near) = true from hb)).2
  clear hb
  have h2 : ks.length ≤ 2 := by
    have hm : ∀ q ∈ words18, ((forms.lookup q).getD []).length ≤ 2 := by decide +kernel
    have := hm w hw
    rw [hf] at this
    exact this
  have sw : small 42 w := az_small (low18 hw).1 (by have := (low18 hw).2.2; omega)
  by_cases h1 : w = "wait"
  · subst h1
    obtain rfl : ks = (["which", "truth"] : List Str) := Option.some.inj (hf.symm.trans (by decide +kernel))
    obtain ⟨d, b, rfl, hd⟩ := wait_parts hl hp
    rw [List.all_cons] at hb'
    have hb1 := (Bool.and_eq_true_iff.mp hb').1
    have t1 : small 42 (shWhich d) := by
      rcases hd with rfl | ⟨i, rfl, i0⟩
      · exact az_small (by decide +kernel) (by decide +kernel)
      · have ⟨a, b⟩ := near_int hb1
        exact (num_small a b).le (by decide)
    have t2 : small 42 "stops" := az_small (by decide +kernel) (by decide +kernel)
    cases b with
    | true =>
      refine ⟨fun z hz => ?_, show 3 ≤ 4 by decide⟩
      have hz : z ∈ (["wait", shWhich d, "stops"] : List Str) := hz
      simp only [List.mem_cons, List.not_mem_nil, or_false] at hz
      rcases hz with rfl | rfl | rfl
      · exact sw
      · exact t1
      · exact t2
    | false =>
      refine ⟨fun z hz => ?_, show 2 ≤ 4 by decide⟩
      have hz : z ∈ (["wait", shWhich d] : List Str) := hz
      simp only [List.mem_cons, List.not_mem_nil, or_false] at hz
      rcases hz with rfl | rfl
      · exact sw
      · exact t1
  by_cases h2 : w = "handle"
  · subst h2
    obtain rfl : ks = (["loose", "how"] : List Str) := Option.some.inj (hf.symm.trans (by decide +kernel))
    obtain ⟨s, hs, q | ⟨r, ss, r0, r1, hss, hare, rfl⟩⟩ := handle_parts hl hp
    · obtain ⟨z, hz, rfl⟩ := q
      have hz2 : azAll z = true ∧ z.length ≤ 42 := by
        have : ∀ z ∈ (["plain", "ignore"] : List Str), azAll z = true ∧ z.length ≤ 42 := by decide +kernel
        exact this z hz
      refine ⟨fun x hx => ?_, show 3 ≤ 4 by decide⟩
      have hx : x ∈ (["handle", s, z] : List Str) := hx
      simp only [List.mem_cons, List.not_mem_nil, or_false] at hx
      rcases hx with rfl | rfl | rfl
      · exact sw
      · exact az_small (sig9_az (sig7_9 hs)).1 (by have := (sig9_az (sig7_9 hs)).2.2.2; omega)
      · exact az_small hz2.1 hz2.2
    · refine ⟨fun x hx => ?_, show 4 ≤ 4 by decide⟩
      have hx : x ∈ (["handle", s, shP (.int r), shP (strsD ss)] : List Str) := hx
      simp only [List.mem_cons, List.not_mem_nil, or_false] at hx
      rcases hx with rfl | rfl | rfl | rfl
      · exact sw
      · exact az_small (sig9_az (sig7_9 hs)).1 (by have := (sig9_az (sig7_9 hs)).2.2.2; omega)
      · exact (num_small (by omega) (by omega)).le (by decide)
      · rw [shP_strs]
        exact shSg_small (fun x q => sig7_9 (hss x q)) (are_len hare)
  · have hk := forms_kinds hf h1 h2
    have e : rowWords (.str w :: ps) = w :: ps.map shP := by
      show (if w = "wait" then _ else if w = "handle" then _ else w :: ps.map shP) = _
      rw [if_neg h1, if_neg h2]
    rw [e]
    refine ⟨fun x hx => ?_, by rw [List.length_cons, List.length_map]; omega⟩
    rcases List.mem_cons.mp hx with rfl | hx
    · exact sw
    · obtain ⟨d, hd, rfl⟩ := List.mem_map.mp hx
      exact parts_small n hk hl hp hb' d hd
/-- parts that are texts or numbers: all but the signals of a mask -/
theorem flat_part {k : Str} {d : PyData} {n : Int} (hk : k ∈ kinds8) (h1 : k ≠ "signals") (h : pPart k d n = true) : (∃ z, d = .str z) ∨ ∃ i, d = .int i := by
  have one : ∀ (ws : List Str), pOne d ws = true → (∃ z, d = .str z) ∨ ∃ i, d = .int i := fun ws q => by
    obtain ⟨z, rfl, _⟩ := one_str q
    exact .inl ⟨z, rfl⟩
  have nat : pNat d = true → (∃ z, d = .str z) ∨ ∃ i, d = .int i := fun q => by
    cases d with
    | int i => exact .inr ⟨i, rfl⟩
    | _ => cases q
  simp only [kinds8, List.mem_cons, List.not_mem_nil, or_false] at hk
  rcases hk with rfl | rfl | rfl | rfl | rfl | rfl | rfl | rfl | rfl
  · rw [pp_title] at h
    cases d with
    | str z => exact .inl ⟨z, rfl⟩
    | _ => cases h
  · rw [pp_small] at h
    cases d with
    | int i => exact .inr ⟨i, rfl⟩
    | _ => cases h
  · rw [pp_whole] at h
    cases d with
    | int i => exact .inr ⟨i, rfl⟩
    | _ => cases h
  · rw [pp_row] at h
    obtain ⟨i, rfl, _⟩ := int_of_no h
    exact .inr ⟨i, rfl⟩
  · rw [pp_signal] at h
    exact one sig9 h
  · exact absurd rfl h1
  · rw [pp_where] at h
    exact one _ h
  · rw [pp_who] at h
    split at h
    · rename_i q
      exact nat q
    · exact one _ h
  · rw [pp_to] at h
    split at h
    · rename_i q
      exact nat q
    · exact one _ h
theorem flat_parts (n : Int) : ∀ {ks : List Str} {ds : List PyData}, (∀ k ∈ ks, k ∈ kinds8 ∧ k ≠ "signals") → ds.length = ks.length → pParts n ks ds = true → ∀ d ∈ ds, (∃ z, d = .str z) ∨ ∃ i, d = .int i
  | [], [], _, _, _ => by simp
  | k :: ks, d :: ds, hk, hl, h => by
    unfold pParts at h
    obtain ⟨h1, h2⟩ := Bool.and_eq_true_iff.mp h
    intro x hx
    rcases List.mem_cons.mp hx with rfl | hx
    · exact flat_part (hk k List.mem_cons_self).1 (hk k List.mem_cons_self).2 h1
    · exact flat_parts n (fun x q => hk x (List.mem_cons_of_mem _ q)) (by simpa using hl) h2 x hx
  | [], _ :: _, _, hl, _ => by cases hl
  | _ :: _, [], _, hl, _ => by cases hl
theorem near_log {i : Int} (h : near (.int i) = true) : i.natAbs.log2 < 1920 := by
  have ⟨a, b⟩ := near_int h
  by_cases z : i.natAbs = 0
  · rw [z]
    decide
  · refine (Nat.log2_lt z).mpr ?_
    have : (2 : Nat) ^ 30 ≤ 2 ^ 1920 := Nat.pow_le_pow_right (by decide) (by decide)
    have : i.natAbs < 2 ^ 30 := by omega
    omega
end Kin
namespace Kin
open PySem PySem.Spec PyProof.Rows L2
def topS (i : Nat) : Stmt := PySem.Challenge.pw_kinsignals_k86_numbers_of_many_figures.main.body.getD i (.Pass ⟨0, 0, 0, 0⟩)
abbrev FnP (K : PySem.W.Frag) (x : Str) (st : Stmt) (f : Addr) (fd : FuncData) : Prop := FunD K x x (defArgs st) (defBody st) (defScope st) [] [] f fd
structure Bi (K : PySem.W.Frag) (w : World) (mg : Str → Option Value) (tL : Tok) (es : Array DictEntry) (nF : Nat) : Prop where
  n_isinstance : mg "isinstance" = none
  n_int : mg "int" = none
  n_bool : mg "bool" = none
  n_str : mg "str" = none
  n_tuple : mg "tuple" = none
  n_list : mg "list" = none
  n_len : mg "len" = none
  n_all : mg "all" = none
  n_zip : mg "zip" = none
  n_enumerate : mg "enumerate" = none
  n_range : mg "range" = none
  n_sorted : mg "sorted" = none
  n_set : mg "set" = none
  n_repr : mg "repr" = none
  g_SIGNALS : mg "SIGNALS" = some (.ref (He.ga K "SIGNALS"))
  g_SURE : mg "SURE" = some (.ref (He.ga K "SURE"))
  g_FORMS : mg "FORMS" = some (.ref (He.ga K "FORMS"))
  g_LONGEST_TITLE : mg "LONGEST_TITLE" = some (.int 8 tL)
  sig : ∀ H, SqT K H (He.ga K "SIGNALS") (sig9.map V.str)
  sigK : ∃ o, K.lookup (He.ga K "SIGNALS") = some o ∧ o.cls = .type "tuple" ∧ o.dict = none
  sur : ∀ H, SqT K H (He.ga K "SURE") (sure.map V.str)
  kd : KDict K w (He.ga K "FORMS") es nF
  fno : ∀ z, forms.lookup z = none → PySem.W.nsIn K (He.ga K "FORMS") z = some none
  fyes : ∀ z ks, forms.lookup z = some ks → ∃ a, PySem.W.nsIn K (He.ga K "FORMS") z = some (some (.ref a)) ∧ ∀ H, SqT K H a (ks.map V.str)
section
variable {P : Program} {w : World} {K : PySem.W.Frag} {mg : Str → Option Value} {base : Heap} {tL : Tok} {es : Array DictEntry} {nF : Nat}
theorem Bi.r_SIGNALS (_ : Bi K w mg tL es nF) : RelV (.ref (He.ga K "SIGNALS")) (.ref (He.ga K "SIGNALS")) := rfl
theorem Bi.r_SURE (_ : Bi K w mg tL es nF) : RelV (.ref (He.ga K "SURE")) (.ref (He.ga K "SURE")) := rfl
theorem Bi.r_FORMS (_ : Bi K w mg tL es nF) : RelV (.ref (He.ga K "FORMS")) (.ref (He.ga K "FORMS")) := rfl
theorem Bi.r_LONGEST_TITLE (_ : Bi K w mg tL es nF) : RelV (.int 8) (.int 8 tL) := ⟨_, rfl⟩
/-- a look of one datum -/
def spD (K : PySem.W.Frag) (f : PyData → Bool) : Sp := fun vs H Q _ => ∃ (x : V) (d : PyData), vs = [x] ∧ Dp K H x d ∧ ∀ H', Same H H' → Q (.bl (f d)) H'
/-- .. and a number -/
def spDI (K : PySem.W.Frag) (f : PyData → Int → Bool) : Sp := fun vs H Q _ => ∃ (x : V) (d : PyData) (n : Int), vs = [x, .int n] ∧ Dp K H x d ∧ ∀ H', Same H H' → Q (.bl (f d n)) H'
theorem lenAll_mem {ds : List PyData} (h : lenAll ds = true) {d : PyData} (hd : d ∈ ds) : lenOk d = true := by
  induction ds with
  | nil => cases hd
  | cons a r ih =>
    have h' : (lenOk a && lenAll r) = true := by rw [← lenAll]; exact h
    have h2 := Bool.and_eq_true_iff.mp h'
    rcases List.mem_cons.mp hd with rfl | q
    · exact h2.1
    · exact ih h2.2 q
theorem lenOk_str {z : Str} (h : lenOk (.str z) = true) : z.length ≤ 1000000 := by
  rw [lenOk] at h
  exact of_decide_eq_true h
theorem lenOk_tup {ds : List PyData} (h : lenOk (.tuple ds) = true) : ds.length ≤ 1000000 ∧ lenAll ds = true := by
  rw [lenOk] at h
  obtain ⟨h1, h2⟩ := Bool.and_eq_true_iff.mp h
  exact ⟨of_decide_eq_true h1, h2⟩
/-- a look of a datum whose texts are not too long -/
def spDL (K : PySem.W.Frag) (f : PyData → Bool) : Sp := fun vs H Q _ => ∃ (x : V) (d : PyData), vs = [x] ∧ Dp K H x d ∧ lenOk d = true ∧ ∀ H', Same H H' → Q (.bl (f d)) H'
def spRow (K : PySem.W.Frag) (f : PyData → Int → Bool) : Sp := fun vs H Q _ => ∃ (x : V) (d : PyData) (n : Int), vs = [x, .int n] ∧ Dp K H x d ∧ lenOk d = true ∧ ∀ H', Same H H' → Q (.bl (f d n)) H'
def spOne (K : PySem.W.Frag) : Sp := fun vs H Q _ => ∃ (x : V) (d : PyData) (a : Addr) (ws : List Str), vs = [x, .ref a] ∧ Dp K H x d ∧ (SqL K H a (ws.map V.str) ∨ SqT K H a (ws.map V.str)) ∧ ∀ H', Same H H' → Q (.bl (pOne d ws)) H'
def spChild (K : PySem.W.Frag) : Sp := fun vs H Q _ => ∃ (x : V) (d : PyData) (k : Str), vs = [.str k, x] ∧ Dp K H x d ∧ ∀ H', Same H H' → Q (.bl (pChild k d)) H'
def spPart (K : PySem.W.Frag) : Sp := fun vs H Q _ => ∃ (x : V) (d : PyData) (k : Str) (n : Int), vs = [.str k, x, .int n] ∧ Dp K H x d ∧ lenOk d = true ∧ ∀ H', Same H H' → Q (.bl (pPart k d n)) H'

abbrev s_is_whole : Stmt := topS 14
theorem sc_is_whole : FnScope [("thing" : Str)] ["thing"] (defScope s_is_whole) := ⟨rfl, rfl, rfl, by decide +kernel, rfl, by decide +kernel, by decide +kernel⟩
theorem ok_is_whole {f : Addr} {fd : FuncData} (F : FnP K "is_whole" s_is_whole f fd) (T : Bi K w mg tL es nF) : FnOk P w K mg base CX0 1 f fd ["thing"] (spD K pWhole) := by
  refine F.ok sc_is_whole (fun vs H Q E h => ?_) (fun cdv A outer s H vs Q E hr h => ?_)
  · obtain ⟨x, d, rfl, _⟩ := h
    rfl
  · obtain ⟨x, d, rfl, hd, k⟩ := h
    refine ⟨_, PSs.nox (pss_one (ps_ret (pe_and (pe_callB call_isi (by rfl) T.n_isinstance boot_isinstance (pa_cons (pv 0) (pa_cons (pe_bltn (v := .ty "int") (by rfl) T.n_int boot_int rfl) pa_nil))) (pe_one (pe_not (pe_callB call_isi (by rfl) T.n_isinstance boot_isinstance (pa_cons (pv 0) (pa_cons (pe_bltn (v := .ty "bool") (by rfl) T.n_bool boot_bool rfl) pa_nil)))))))), ?_⟩
    refine ⟨x, rfl, x, _, _, _, _, rfl, .ty _, tyx_of hd, kit_int (nd_of hd), _, rfl, ?_⟩
    have k := k H (Same.refl H)
    cases hd with
    | int i => exact iteT ⟨_, rfl, _, _, _, _, _, rfl, .ty _, tyx_of (.int i), kit_bool (d := .int i) rfl, _, rfl, k⟩
    | bl b => exact iteT ⟨_, rfl, _, _, _, _, _, rfl, .ty _, tyx_of (.bl b), kit_bool (d := .bool b) rfl, _, rfl, k⟩
    | _ => exact iteF k
abbrev s_is_natural : Stmt := topS 15
theorem sc_is_natural : FnScope [("thing" : Str)] ["thing"] (defScope s_is_natural) := ⟨rfl, rfl, rfl, by decide +kernel, rfl, by decide +kernel, by decide +kernel⟩
theorem ok_is_natural {f : Addr} {fd : FuncData} (F : FnP K "is_natural" s_is_natural f fd) (T : Bi K w mg tL es nF) (c_is_whole : Cal P w K mg base "is_whole" ["thing"] 1 (spD K pWhole)) : FnOk P w K mg base CX0 2 f fd ["thing"] (spD K pNat) := by
  refine F.ok sc_is_natural (fun vs H Q E h => ?_) (fun cdv A outer s H vs Q E hr h => ?_)
  · obtain ⟨x, d, rfl, _⟩ := h
    rfl
  · obtain ⟨x, d, rfl, hd, k⟩ := h
    refine ⟨_, PSs.nox (pss_one (ps_ret (pe_and (pe_cal c_is_whole (hr.mono (by decide)) (by rfl) pass0 (pa_cons (pv 0) pa_nil)) (pe_one (pe_cmpR op_ge (pv 0) pe_int (nomark _)))))), ?_⟩
    refine ⟨x, rfl, x, d, rfl, hd, fun H1 s1 => ⟨_, rfl, ?_⟩⟩
    have k := k H1 s1
    cases hd <;> first | exact iteF k | exact iteT ⟨_, rfl, _, _, rfl, rfl, k⟩
abbrev s_is_small : Stmt := topS 16
theorem sc_is_small : FnScope [("thing" : Str)] ["thing"] (defScope s_is_small) := ⟨rfl, rfl, rfl, by decide +kernel, rfl, by decide +kernel, by decide +kernel⟩
theorem ok_is_small {f : Addr} {fd : FuncData} (F : FnP K "is_small" s_is_small f fd) (T : Bi K w mg tL es nF) (c_is_whole : Cal P w K mg base "is_whole" ["thing"] 1 (spD K pWhole)) : FnOk P w K mg base CX0 2 f fd ["thing"] (spD K pSmall) := by
  refine F.ok sc_is_small (fun vs H Q E h => ?_) (fun cdv A outer s H vs Q E hr h => ?_)
  · obtain ⟨x, d, rfl, _⟩ := h
    rfl
  · obtain ⟨x, d, rfl, hd, k⟩ := h
    refine ⟨_, PSs.nox (pss_one (ps_ret (pe_and (pe_cal c_is_whole (hr.mono (by decide)) (by rfl) pass0 (pa_cons (pv 0) pa_nil)) (pe_one (pe_chain op_le op_le pe_int (pv 0) pe_int))))), ?_⟩
    refine ⟨x, rfl, x, d, rfl, hd, fun H1 s1 => ⟨_, rfl, ?_⟩⟩
    have k := k H1 s1
    cases hd with
    | int i =>
      refine iteT ⟨_, rfl, _, _, rfl, rfl, _, rfl, ?_⟩
      have k : Q (.bl (decide (0 ≤ i) && decide (i ≤ 99))) H1 := k
      cases e : decide (0 ≤ i) with
      | true =>
        rw [e] at k
        exact iteT ⟨_, _, rfl, rfl, k⟩
      | false =>
        rw [e] at k
        exact iteF k
    | _ => exact iteF k
abbrev s_is_one_of : Stmt := topS 17
theorem sc_is_one_of : FnScope [("thing" : Str), ("words" : Str)] ["thing", "words"] (defScope s_is_one_of) := ⟨rfl, rfl, rfl, by decide +kernel, rfl, by decide +kernel, by decide +kernel⟩
theorem ok_is_one_of {f : Addr} {fd : FuncData} (F : FnP K "is_one_of" s_is_one_of f fd) (T : Bi K w mg tL es nF) : FnOk P w K mg base CX0 1 f fd ["thing", "words"] (spOne K) := by
  refine F.ok sc_is_one_of (fun vs H Q E h => ?_) (fun cdv A outer s H vs Q E hr h => ?_)
  · obtain ⟨x, d, a, ws, rfl, _⟩ := h
    rfl
  · obtain ⟨x, d, a, ws, rfl, hd, ha, k⟩ := h
    refine ⟨_, PSs.nox (pss_one (ps_ret (pe_and (pe_callB call_isi (by rfl) T.n_isinstance boot_isinstance (pa_cons (pv 0) (pa_cons (pe_bltn (v := .ty "str") (by rfl) T.n_str boot_str rfl) pa_nil))) (pe_one (pe_cmpR op_in_seq (pv 0) (pv 1) (by rfl)))))), ?_⟩
    refine ⟨x, rfl, x, _, _, _, _, rfl, .ty _, tyx_of hd, kit_str (nd_of hd), _, rfl, ?_⟩
    have k := k H (Same.refl H)
    cases hd with
    | str z => exact iteT ⟨_, rfl, _, rfl, a, _, rfl, ha, rfl, flat_strs ws, in_k k⟩
    | _ => exact iteF k
abbrev s_is_signal : Stmt := topS 21
theorem sc_is_signal : FnScope [("thing" : Str)] ["thing"] (defScope s_is_signal) := ⟨rfl, rfl, rfl, by decide +kernel, rfl, by decide +kernel, by decide +kernel⟩
theorem ok_is_signal {f : Addr} {fd : FuncData} (F : FnP K "is_signal" s_is_signal f fd) (T : Bi K w mg tL es nF) (c_is_one_of : Cal P w K mg base "is_one_of" ["thing", "words"] 1 (spOne K)) : FnOk P w K mg base CX0 2 f fd ["thing"] (spD K fun d => pOne d sig9) := by
  refine F.ok sc_is_signal (fun vs H Q E h => ?_) (fun cdv A outer s H vs Q E hr h => ?_)
  · obtain ⟨x, d, rfl, _⟩ := h
    rfl
  · obtain ⟨x, d, rfl, hd, k⟩ := h
    refine ⟨_, PSs.nox (pss_one (ps_ret (pe_cal c_is_one_of (hr.mono (by decide)) (by rfl) pass0 (pa_cons (pv 0) (pa_cons (pe_glob (by rfl) T.g_SIGNALS T.r_SIGNALS) pa_nil))))), ?_⟩
    exact ⟨x, rfl, x, d, _, sig9, rfl, hd, .inr (T.sig H), k⟩
abbrev s_is_loose : Stmt := topS 22
theorem sc_is_loose : FnScope [("thing" : Str)] ["thing"] (defScope s_is_loose) := ⟨rfl, rfl, rfl, by decide +kernel, rfl, by decide +kernel, by decide +kernel⟩
theorem ok_is_loose {f : Addr} {fd : FuncData} (F : FnP K "is_loose" s_is_loose f fd) (T : Bi K w mg tL es nF) (c_is_signal : Cal P w K mg base "is_signal" ["thing"] 2 (spD K fun d => pOne d sig9)) : FnOk P w K mg base CX0 3 f fd ["thing"] (spD K pLoose) := by
  refine F.ok sc_is_loose (fun vs H Q E h => ?_) (fun cdv A outer s H vs Q E hr h => ?_)
  · obtain ⟨x, d, rfl, _⟩ := h
    rfl
  · obtain ⟨x, d, rfl, hd, k⟩ := h
    refine ⟨_, PSs.nox (pss_one (ps_ret (pe_and (pe_cal c_is_signal (hr.mono (by decide)) (by rfl) pass0 (pa_cons (pv 0) pa_nil)) (pe_one (pe_cmpR op_notIn_seq (pv 0) (pe_glob (by rfl) T.g_SURE T.r_SURE) (by rfl)))))), ?_⟩
    refine ⟨x, rfl, x, d, rfl, hd, fun H1 s1 => ⟨_, rfl, ?_⟩⟩
    have k := k H1 s1
    cases hd with
    | str z =>
      have k : Q (.bl (decide (z ∈ sig9) && !decide (z ∈ sure))) H1 := k
      show if decide (z ∈ sig9) = true then _ else _
      cases e : decide (z ∈ sig9) with
      | true =>
        rw [e] at k
        exact iteT ⟨_, rfl, _, _, rfl, .inr (T.sur H1), rfl, flat_strs sure, notin_k k⟩
      | false =>
        rw [e] at k
        exact iteF k
    | _ => exact iteF k
end
end Kin
/-! zip(tuple, list) walked. -/
namespace Kin
open PySem PySem.Spec PyProof.Rows L2
/-- a tuple at a, a list at b, as they stand at each turn; the two items in a new pair -/
def ItzM (K : PySem.W.Frag) (a b : Addr) : It :=
  ⟨fun i H => ∃ (us vs : List V) (u v : V), SqT K H a us ∧ SqL K H b vs ∧ us[i]? = some u ∧ vs[i]? = some v,
    fun i H r H' => ∃ T u v, r = .ref T ∧ H T = none ∧ H' = upd H T (.tup [u, v]) ∧ (∀ us, SqT K H a us → us[i]? = some u) ∧ ∀ vs, SqL K H b vs → vs[i]? = some v,
    fun i H => ∃ us vs : List V, SqT K H a us ∧ SqL K H b vs ∧ us.length = i ∧ vs.length = i⟩
def cellsM (N : Addr) : List Addr := [N + 4, N + 2, N + 3, N, N + 1]
def stM (N a b : Addr) (i : Nat) (h : Heap) : Prop := IsZip h (N + 4) (N + 2) (N + 3) .none ∧ IsTupOf2 h (N + 2) (.ref N) (.ref (N + 1)) ∧ (∃ x y, IsTupOf2 h (N + 3) x y) ∧ h.IsTupleIter N a i ∧ h.IsListIter (N + 1) b i
theorem cellsM_iff {N c : Addr} : c ∈ cellsM N ↔ c = N + 4 ∨ c = N + 2 ∨ c = N + 3 ∨ c = N ∨ c = N + 1 := by
  unfold cellsM
  simp
theorem turn_zipM {P : Program} {w : World} {K : PySem.W.Frag} {elts : List Expr} {kk : Nat} {tpos : Pos} (N a b : Addr) (ha : a < N) (hb : b < N) : Turn P w K (.Tuple elts kk tpos) (ItzM K a b) (cellsM N) (N + 4) (stM N a b) where
  mem := cellsM_iff.mpr (.inl rfl)
  obj := fun i h st c hc => by
    obtain ⟨g1, g2, ⟨x, y, g3⟩, ⟨o1, e1, _, d1⟩, ⟨o2, e2, _, d2⟩⟩ := st
    rcases cellsM_iff.mp hc with r | r | r | r | r
    · subst r
      exact ⟨_, g1, fun v q => nomatch q⟩
    · subst r
      exact ⟨_, g2, fun v q => nomatch q⟩
    · subst r
      exact ⟨_, g3, fun v q => nomatch q⟩
    · exact ⟨o1, r ▸ e1, fun v q => by rw [d1] at q; cases q⟩
    · exact ⟨o2, r ▸ e2, fun v q => by rw [d2] at q; cases q⟩
  keep := fun i h h' st k => by
    obtain ⟨g1, g2, ⟨x, y, g3⟩, g4, g5⟩ := st
    exact ⟨k _ (cellsM_iff.mpr (.inl rfl)) _ g1, k _ (cellsM_iff.mpr (.inr (.inl rfl))) _ g2, ⟨x, y, k _ (cellsM_iff.mpr (.inr (.inr (.inl rfl)))) _ g3⟩,
      g4.at fun o q => k _ (cellsM_iff.mpr (.inr (.inr (.inr (.inl rfl))))) o q, g5.at fun o q => k _ (cellsM_iff.mpr (.inr (.inr (.inr (.inr rfl))))) o q⟩
  item := by
    intro X hP hw hK hc i pins s σ H E I hf st hg
    subst hP hw hK
    obtain ⟨g1, g2, ⟨x0, y0, g3⟩, g4, g5⟩ := st
    obtain ⟨us, vs, u, v, hu, hv, eu, ev⟩ := hg
    obtain ⟨iu, ru, pu, _⟩ := I.tuple hu
    obtain ⟨iv, rv, pv, _⟩ := I.list hv
    obtain ⟨m, hm, rm⟩ := ru.get eu
    obtain ⟨n, hn, rn⟩ := rv.get ev
    have big : N + 4 < s.heap.objs.size := Heap.lt_size g1
    have hlt : i < iu.toArray.size := by simpa using (List.getElem?_eq_some_iff.mp hm).1
    have hlt2 : i < iv.toArray.size := by simpa using (List.getElem?_eq_some_iff.mp hn).1
    have D1 := Draws.tuple (prog := X.prog) (w := X.w) (A := X.A.in1) (I.ok.hd hc) N a (Nat.ne_of_lt ha) iu.toArray
    have D2 := Draws.list (prog := X.prog) (w := X.w) (A := X.A.in1) (I.ok.hd hc) (N + 1) b (Nat.ne_of_lt (Nat.lt_succ_of_lt hb)) iv.toArray
    have S := zip_sep2 (N := N) (fp1 := [a]) (fp2 := [b]) (fun c q => by rw [List.mem_singleton.mp q]; exact ha) (fun c q => by rw [List.mem_singleton.mp q]; exact hb)
    refine wpAny_pyNext_zipD2_item S D1 D2 g1 g2 g3 ⟨g4, pu⟩ ⟨g5, pv.isList⟩ hlt hlt2 fun z1 z2 h' tk p1 p2 b1 b2 s1 s2 b5 b6 hk => ?_
    have e1 : z1 = m := Option.some.inj ((show iu.toArray[i]? = some z1 from p1).symm.trans (by simpa using hm))
    have e2 : z2 = n := Option.some.inj ((show iv.toArray[i]? = some z2 from p2).symm.trans (by simpa using hn))
    subst e1 e2
    refine ⟨_, rfl, wpAny_letOwnedTupleGo_zip (s := { s with heap := h', toks := tk }) b1 fun h2 c1 sb => ?_⟩
    have nz : s.heap.objs.size ≠ N + 4 := Nat.ne_of_gt big
    have pair : h2.get? s.heap.objs.size = some { cls := .type "tuple", data := .seq #[z1, z2] } := (sb.2 _ nz).trans b5
    have new : ObjOk X.prog X.w (upd H s.heap.objs.size (.tup [u, v])) h2 s.heap.objs.size (.tup [u, v]) := ⟨show 2 ≤ sizeLine by decide, [z1, z2], .cons rm (.cons rn .nil), ⟨_, pair, rfl, _, rfl⟩⟩
    have J : Inv X pins σ (upd H s.heap.objs.size (.tup [u, v])) { s with heap := h2, toks := tk } :=
      I.turnedNew (ch := cellsM N) (fun c o out q => (sb.2 c fun r => out (cellsM_iff.mpr (.inl r))).trans (hk c o (fun r => out (cellsM_iff.mpr (.inl r))) (fun r => out (cellsM_iff.mpr (.inr (.inr (.inl r))))) (fun r => out (cellsM_iff.mpr (.inr (.inr (.inr (.inl r)))))) (fun r => out (cellsM_iff.mpr (.inr (.inr (.inr (.inr r)))))) q)) hf (Nat.le_refl _) new
    have far : ∀ c, c ≠ N + 4 → ∀ o, h'.get? c = some o → h2.get? c = some o := fun c r o q => (sb.2 c r).trans q
    refine ⟨.ref s.heap.objs.size, _, J, rfl, ⟨_, u, v, rfl, I.hok.fresh (Nat.le_refl _), rfl, fun ys q => by rw [I.tuple_inj q hu]; exact eu, fun ys q => by rw [I.list_inj q hv]; exact ev⟩, ⟨c1, ?_, ⟨z1, z2, ?_⟩, ?_, ?_⟩, fun c q => ?_⟩
    · exact far _ S.TIz _ (hk _ _ S.TIz S.TITO S.TIi1 S.TIi2 g2)
    · exact far _ S.TOz _ b2
    · exact s1.1.at fun o q => far _ S.zi1.symm o q
    · exact s2.1.at fun o q => far _ S.zi2.symm o q
    · have lt : c < s.heap.objs.size := by
        have big : (N : Nat) + 4 < s.heap.objs.size := big
        rcases cellsM_iff.mp q with r | r | r | r | r
        · rw [r]; exact big
        · rw [r]; exact Nat.lt_of_le_of_lt (Nat.add_le_add_left (by decide) N) big
        · rw [r]; exact Nat.lt_of_le_of_lt (Nat.add_le_add_left (by decide) N) big
        · rw [r]; exact Nat.lt_of_le_of_lt (Nat.le_add_right N 4) big
        · rw [r]; exact Nat.lt_of_le_of_lt (Nat.add_le_add_left (by decide) N) big
      rw [upd_ne (Nat.ne_of_lt lt)]
      exact (hf c q).1
  done := by
    intro X hP hw hK hc i pins s σ H E I hf st hg
    subst hP hw hK
    obtain ⟨g1, g2, ⟨x0, y0, g3⟩, g4, g5⟩ := st
    obtain ⟨us, vs, hu, hv, eu, ev⟩ := hg
    obtain ⟨iu, ru, pu, _⟩ := I.tuple hu
    obtain ⟨iv, rv, pv, _⟩ := I.list hv
    have l1 := ru.length
    have l2 := rv.length
    have i1 : i = iu.toArray.size := by simp; omega
    have i2 : i = iv.toArray.size := by simp; omega
    have D1 := Draws.tuple (prog := X.prog) (w := X.w) (A := X.A.in1) (I.ok.hd hc) N a (Nat.ne_of_lt ha) iu.toArray
    have D2 := Draws.list (prog := X.prog) (w := X.w) (A := X.A.in1) (I.ok.hd hc) (N + 1) b (Nat.ne_of_lt (Nat.lt_succ_of_lt hb)) iv.toArray
    have S := zip_sep2 (N := N) (fp1 := [a]) (fp2 := [b]) (fun c q => by rw [List.mem_singleton.mp q]; exact ha) (fun c q => by rw [List.mem_singleton.mp q]; exact hb)
    exact wpAny_pyNext_zipD2_end S D1 D2 g1 g2 g3 ⟨g4, pu⟩ ⟨g5, pv.isList⟩ (Nat.le_of_eq i1) (Nat.le_of_eq i2) (.inl i1) fun h' tk hk =>
      ⟨rfl, I.turnedL (ch := cellsM N) (fun c o out q => hk c o (fun r => out (cellsM_iff.mpr (.inl r))) (fun r => out (cellsM_iff.mpr (.inr (.inr (.inl r))))) (fun r => out (cellsM_iff.mpr (.inr (.inr (.inr (.inl r)))))) (fun r => out (cellsM_iff.mpr (.inr (.inr (.inr (.inr r)))))) q) hf⟩
  self := fun A i s Q E st h => wpAny_pyIter_zip st.1 h
def iZipM (K : PySem.W.Frag) (ta : TA) : TI := fun σ H R => ta σ H fun vs H1 => ∃ a b xs ys, vs = [.ref a, .ref b] ∧ SqT K H1 a xs ∧ SqL K H1 b ys ∧ R (ItzM K a b) H1
theorem pi_zipM {X : Cx} {e e2 : Expr} {ta : TA} {p pos tpos : Pos} {elts : List Expr} {kk : Nat} (hg : Gl X "zip") (hm : X.mg "zip" = none) (ha : PA X [e, e2] ta)
    (hs : starEach [e, e2] X.env = (false, eval e X.env) :: starEach [e2] X.env := by rfl) (hpl : (backTo pos (starEach [e2] X.env)).any (·.1) = false := by rfl) : PI X (.Tuple elts kk tpos) (.Call (.Name "zip" p) [e, e2] [] pos) (iZipM X.K ta) := by
  refine ⟨fun pins s σ H R I h => Call_ (ld_blt I hg hm boot_zip (callWith_type1 (thn (ha.run pos pins s σ H _ I h) fun us s1 ⟨vs, H1, I1, r1, q1⟩ => ?_) hs hpl))⟩
  obtain ⟨a, b, xs, ys, rfl, hx, hy, q⟩ := q1
  obtain ⟨_, _, rfl, z1, z2⟩ : ∃ u1 u2, us = [u1, u2] ∧ RelV (.ref a) u1 ∧ RelV (.ref b) u2 := by
    cases r1 with
    | cons r1 rr =>
      cases rr with
      | cons r2 rr =>
        cases rr
        exact ⟨_, _, rfl, r1, r2⟩
  cases z1
  cases z2
  obtain ⟨iu, ru, pu, _⟩ := I1.tuple hx
  obtain ⟨iv, rv, pv, _⟩ := I1.list hy
  have la : a < s1.heap.objs.size := by obtain ⟨_, q, _⟩ := id pu; exact Heap.lt_size q
  refine zip_begins2 (begins_tuple a iu.toArray) (begins_list b iv.toArray) pu pv.isList fun h' c1 c2 c3 c4 c5 c6 hk => wpAny_pyIter_zip c1 ?_
  refine ⟨s1.heap.objs.size + 4, cellsM s1.heap.objs.size, _, _, H1, rfl, I1.kept (t' := s1.toks) hk, turn_zipM s1.heap.objs.size a b la pv.lt, ⟨c1, c2, ⟨_, _, c3⟩, ⟨_, c4, rfl, rfl⟩, ⟨_, c5, rfl, rfl⟩⟩, fun c hc => ?_, q⟩
  have le : s1.heap.objs.size ≤ c := by
    rcases cellsM_iff.mp hc with r | r | r | r | r <;> rw [r] <;> first | exact Nat.le_refl _ | exact Nat.le_add_right _ _
  exact I1.fpOk le (I1.hok.fresh le)
theorem walk_zipM {K : PySem.W.Frag} {a b : Addr} {xs ys : List V} (hl : xs.length = ys.length) : Walk (ItzM K a b) xs.length (fun H => SqT K H a xs ∧ SqL K H b ys) (YPair (fun i => xs[i]?) (fun i => ys[i]?)) := by
  refine ⟨fun i _ hi q => ?_, fun _ q => ⟨xs, ys, q.1, q.2, rfl, hl.symm⟩, fun i H v H' _ q y => ?_⟩
  · exact ⟨xs, ys, xs[i], ys[i], q.1, q.2, by simp [hi], by simp [hl ▸ hi]⟩
  · obtain ⟨T, x, z, h1, h2, h3, h4, h5⟩ := y
    exact ⟨T, x, z, h1, h2, h3, h4 xs q.1, h5 ys q.2⟩
end Kin
/-! A call of what a local name holds; str of texts and numbers. -/
namespace Kin
open PySem PySem.Spec PyProof.Rows L2
def tCalE (P : Program) (w : World) (K : PySem.W.Frag) (mg : Str → Option Value) (base : Heap) (k i : Nat) (t : TA) : TE := fun σ H Q => ∃ f sp j, σ[i]? = some (some (.ref f)) ∧ j ≤ k ∧ Held P w K mg base j f sp ∧ t σ H fun vs H1 => sp vs H1 Q E0
section
variable {X : Cx} {k i : Nat} {x : Str} {e : Expr} {es : List Expr} {t : TA} {p pos : Pos}
theorem pe_calE (hr : Room k X.A) (hN : X.N[i]? = some x) (hv : Vis X.env.scope x) (ha : PA X (e :: es) t)
    (hdb : (x == ("__debug__" : Str)) = false := by decide) (hcd : (x == ("__classdict__" : Str)) = false := by decide)
    (he : starEach (e :: es) X.env = (false, eval e X.env) :: starEach es X.env := by rfl) (hpl : (backTo pos (starEach es X.env)).any (·.1) = false := by rfl) : PE X (.Call (.Name x p) (e :: es) [] pos) (tCalE X.prog X.w X.K X.mg X.base k i t) := by
  refine ⟨fun pins s σ H Q I h => ?_⟩
  obtain ⟨f, sp, j, hs, hj, hS, ht⟩ := h
  obtain ⟨fd, ps, F, hk, hb⟩ := hS.ex
  refine (pe_callL (i := i) (f := f) (sp := sp) (dvs := []) (E := fun _ _ _ => False) F (hr.mono hj) hN hv hk hb .nil (fun _ _ _ _ _ _ _ z => z.elim) ha hdb hcd he hpl).run pins s σ H Q I ⟨hs, ?_⟩
  have e0 : (fun (vs : List V) (H1 : Hp) => sp (vs ++ []) H1 Q (fun _ _ _ => False)) = fun vs H1 => sp vs H1 Q (fun _ _ _ => False) := by
    funext vs H1
    rw [List.append_nil]
  rw [e0]
  exact ht
theorem Cal.held {P : Program} {w : World} {K : PySem.W.Frag} {mg : Str → Option Value} {base : Heap} {x : Str} {ps : List Str} {k : Nat} {sp : Sp} {f : Addr} (c : Cal P w K mg base x ps k sp) (hm : mg x = some (.ref f)) : Held P w K mg base k f sp := by
  obtain ⟨g, fd, F, hg, hk, hb⟩ := c.ex
  rw [hg] at hm
  cases hm
  exact ⟨fd, ps, F, hk, hb⟩
/-- x in a list, by data -/
def rInDD (K : PySem.W.Frag) : R2 := fun x y H Q => ∃ d ds, Dp K H x d ∧ Dp K H y (.list ds) ∧ SeqAt.shaped d = true ∧ SeqAt.shaped (.list ds) = true ∧ Q (.bl (ds.any fun z => PyData.eqv z d)) H
theorem op_inDD {k : Nat} (hr : Room k X.A) : OpR X (compareOp .In) (rInDD X.K) := fun pins s σ H x y v u Q I rx ry h => by
  obtain ⟨d, ds, hd, he, sd, se, q⟩ := h
  have := hr.un
  exact L2.op_inD (by omega) pins s σ H x y v u Q I rx ry ⟨d, ds, dp_L2 (SeqAt.canLay_of_shaped sd) hd, dp_L2 (SeqAt.canLay_of_shaped se) he, sd, se, q⟩
/-- str of a text or a number -/
def rStrSI : List V → Hp → VK → Prop := fun xs H Q => (∃ a, xs = [.str a] ∧ Q (.str a) H) ∨ ∃ i : Int, xs = [.int i] ∧ i.natAbs.log2 < 1920 ∧ Q (.str (toString i)) H
theorem call_strSI : CallR X (.type "str") rStrSI := fun pins s σ H xs us Q I r h => by
  rcases h with h | h
  · exact SkE.call_str_str pins s σ H xs us Q I r h
  · exact call_str_int pins s σ H xs us Q I r h
end
theorem spl_len (S : List Nat) : ∀ (l : List Nat) (k : Nat) (acc : List Nat), (TL.spl S k acc l).length ≤ l.length + 1 ∧ (∀ p ∈ TL.spl S k acc l, p.length ≤ acc.length + l.length) ∧ TL.spl S k acc l ≠ []
  | [], k, acc => by
    rw [TL.spl_nil]
    exact ⟨Nat.le_refl _, fun p hp => by rw [List.mem_singleton.mp hp]; exact Nat.le_refl _, by simp⟩
  | c :: r, 0, acc => by
    cases h : TL.pre S (c :: r) with
    | true =>
      rw [TL.spl_hit h]
      obtain ⟨a, b, _⟩ := spl_len S r (S.length - 1) []
      refine ⟨by rw [List.length_cons, List.length_cons]; omega, fun p hp => ?_, by simp⟩
      rcases List.mem_cons.mp hp with rfl | hp
      · omega
      · have := b p hp
        rw [List.length_nil] at this
        rw [List.length_cons]
        omega
    | false =>
      rw [TL.spl_miss h]
      obtain ⟨a, b, d⟩ := spl_len S r 0 (acc ++ [c])
      refine ⟨by rw [List.length_cons]; omega, fun p hp => ?_, d⟩
      have := b p hp
      rw [List.length_append, List.length_singleton] at this
      rw [List.length_cons]
      omega
  | c :: r, k + 1, acc => by
    obtain ⟨a, b, d⟩ := spl_len S r k acc
    refine ⟨?_, fun p hp => ?_, d⟩
    · show (TL.spl S k acc r).length ≤ _
      rw [List.length_cons]
      omega
    · have := b p hp
      rw [List.length_cons]
      omega
theorem split_len {x y : Str} (hy : sg y ≠ []) (hk : y.cps.all (· < 256) = true) : (Txt.split x y).length ≤ x.length + 1 ∧ (∀ p ∈ Txt.split x y, p.length ≤ x.length) ∧ Txt.split x y ≠ [] := by
  have e := TL.split_spl x y hy (TL.kind_ok hk)
  obtain ⟨a, b, d⟩ := spl_len (sg y) (sg x) 0 []
  have e : (Txt.split x y).map sg = TL.spl (sg y) 0 [] (sg x) := e
  rw [← e] at a b d
  refine ⟨?_, fun p hp => ?_, fun q => d (by rw [q]; rfl)⟩
  · rw [List.length_map] at a
    rw [sg_len]
    exact a
  · have := b (sg p) (List.mem_map.mpr ⟨p, hp, rfl⟩)
    rw [sg_len, sg_len x]
    rw [List.length_nil, Nat.zero_add] at this
    exact this
theorem split1_len (x : Str) (c : Nat) (y : Str) (hy : sg y = [c]) (hc : c < 256) : (Txt.split x y).length ≤ x.length + 1 ∧ (∀ p ∈ Txt.split x y, p.length ≤ x.length) ∧ Txt.split x y ≠ [] :=
  split_len (by rw [hy]; simp) (by rw [← Array.all_toList, show y.cps.toList = [c] from hy]; simp [hc])
end Kin
namespace Kin
open PySem PySem.Spec PyProof.Rows L2
section
variable {P : Program} {w : World} {K : PySem.W.Frag} {mg : Str → Option Value} {base : Heap} {tL : Tok} {es : Array DictEntry} {nF : Nat}
abbrev s_is_title : Stmt := topS 27
theorem sc_is_title : FnScope [("thing" : Str), ("letter" : Str)] ["thing"] (defScope s_is_title) := ⟨rfl, rfl, rfl, by decide +kernel, rfl, by decide +kernel, by decide +kernel⟩
theorem title_le (c : Nat) : ((!decide ((⟨#[c]⟩ : Str).cps.toList < ("a" : Str).cps.toList)) && (!decide (("z" : Str).cps.toList < (⟨#[c]⟩ : Str).cps.toList))) = (decide (97 ≤ c) && decide (c ≤ 122)) := by
  have ea : ("a" : Str).cps.toList = [97] := by decide +kernel
  have ez : ("z" : Str).cps.toList = [122] := by decide +kernel
  rw [ea, ez]
  show ((!decide (([c] : List Nat) < [97])) && (!decide (([122] : List Nat) < [c]))) = _
  rw [lt1, lt1]
  by_cases h1 : c < 97
  · rw [decide_eq_true h1, decide_eq_false (show ¬ 97 ≤ c by omega)]
    rfl
  · rw [decide_eq_false h1, decide_eq_true (show 97 ≤ c by omega)]
    by_cases h2 : 122 < c
    · rw [decide_eq_true h2, decide_eq_false (show ¬ c ≤ 122 by omega)]
      rfl
    · rw [decide_eq_false h2, decide_eq_true (show c ≤ 122 by omega)]
      rfl
theorem ok_is_title {f : Addr} {fd : FuncData} (F : FnP K "is_title" s_is_title f fd) (T : Bi K w mg tL es nF) : FnOk P w K mg base CX0 1 f fd ["thing"] (spDL K pTitle) := by
  refine F.ok sc_is_title (fun vs H Q E h => ?_) (fun cdv A outer s H vs Q E hr h => ?_)
  · obtain ⟨x, d, rfl, _⟩ := h
    rfl
  · obtain ⟨x, d, rfl, hd, hok, k⟩ := h
    refine ⟨_, PSs.nox (pss_cons (ps_if (PW.pt (pw_or (pt_not (pt_val (pe_callB call_isi (by rfl) T.n_isinstance boot_isinstance (pa_cons (pv 0) (pa_cons (pe_bltn (v := .ty "str") (by rfl) T.n_str boot_str rfl) pa_nil))))) (pw_or1 (pt_not (pt_chain op_le op_le pe_int (pe_callB call_len_str (by rfl) T.n_len PySem.boot_len (pa_cons (pv 0) pa_nil)) (pe_glob (by rfl) T.g_LONGEST_TITLE T.r_LONGEST_TITLE)))))) (pss_one (ps_ret pe_bl)) pss_nil) (pss_one (ps_ret (pe_callB (cr_all rfl) (by rfl) T.n_all boot_all (pa_cons (pe_lc (own := [(("letter" : Str), 1)]) (g := gName 1) rfl sc_is_title.nd (pi_str (pv 0)) (blkOk_by (N := [("thing" : Str), ("letter" : Str)]) (sc := defScope s_is_title) (by decide +kernel)) (fun _ _ _ _ _ => by exact (pg_name (i := 1) sc_is_title.nd rfl (by first | exact .inl rfl | exact .inr rfl))) (fun _ _ _ _ _ => pts_nil) (fun _ _ _ _ _ => (pe_chain op_le_str op_le_str pe_str (pv 1) pe_str))) pa_nil))))), ?_⟩
    refine ⟨x, rfl, x, _, _, _, _, rfl, .ty _, tyx_of hd, kit_str (nd_of hd), _, rfl, ?_⟩
    cases hd with
    | str z =>
      have k : ∀ H', Same H H' → Q (.bl (decide (1 ≤ z.length) && decide (z.length ≤ 8) && azAll z)) H' := k
      have hz : z.length ≤ 1000000 := lenOk_str hok
      have hf : Q (.bl (decide (1 ≤ z.length) && decide (z.length ≤ 8) && azAll z)) H := k H (Same.refl H)
      refine iteF ⟨_, rfl, z, rfl, Nat.le_trans hz (by decide), _, _, rfl, rfl, _, rfl, ?_⟩
      refine ite2 (fun e1 => ?_) (fun e1 => ?_)
      · have e1 : (1 : Int) ≤ (z.length : Int) := of_decide_eq_true e1
        refine ⟨_, _, rfl, rfl, _, rfl, ?_⟩
        by_cases e2 : (z.length : Int) ≤ 8
        · rw [decide_eq_true e2]
          refine iteF ⟨_, rfl, z, rfl, fun D hD => ?_⟩
          refine lc_vals (walk_str (z := z)) (fun i => .bl ((z.cps.toList[i]?.map fun c => decide (97 ≤ c) && decide (c ≤ 122)).getD true)) hD ?_ (fun _ _ => True.intro) ?_ ?_
          · exact Nat.le_trans hz (by decide)
          · rintro i v H' H'' Qe hi s1 ⟨rfl, c, hc, rfl⟩ q
            refine ⟨rfl, ?_⟩
            have q := q H'' (Same.refl H'')
            have ec : z.cps.toList[i]? = some c := by rw [Array.getElem?_toList]; exact hc
            rw [ec] at q
            have q : Qe (.bl (decide (97 ≤ c) && decide (c ≤ 122))) H'' := q
            rw [← title_le c] at q
            refine ⟨_, rfl, _, _, rfl, rfl, _, rfl, ?_⟩
            cases e3 : (!decide ((⟨#[c]⟩ : Str).cps.toList < ("a" : Str).cps.toList)) with
            | true =>
              rw [e3] at q
              exact iteT ⟨_, _, rfl, rfl, q⟩
            | false =>
              rw [e3] at q
              exact iteF q
          · intro H' s1 hl
            refine ⟨D, (List.range z.cps.size).map fun i => (z.cps.toList[i]?.map fun c => decide (97 ≤ c) && decide (c ≤ 122)).getD true, rfl, .inl (.inl ?_), ?_⟩
            · rw [hl, List.map_map]
              rfl
            · have em : (List.range z.cps.size).map (fun i => (z.cps.toList[i]?.map fun c => decide (97 ≤ c) && decide (c ≤ 122)).getD true) = z.cps.toList.map fun c => decide (97 ≤ c) && decide (c ≤ 122) := by
                rw [show z.cps.size = z.cps.toList.length by simp]
                exact map_range_eq fun i x hx => by rw [hx]; rfl
              rw [em, all_id]
              have q := k H' s1
              rw [decide_eq_true (show 1 ≤ z.length by omega), decide_eq_true (show z.length ≤ 8 by omega)] at q
              exact q
        · rw [decide_eq_false e2]
          refine iteT ?_
          rw [decide_eq_false (show ¬ z.length ≤ 8 by omega), Bool.and_false] at hf
          exact hf
      · have e1 : ¬ (1 : Int) ≤ (z.length : Int) := fun q => e1 (decide_eq_true q)
        refine ⟨_, rfl, ?_⟩
        refine iteT ?_
        rw [decide_eq_false (show ¬ 1 ≤ z.length by omega)] at hf
        exact hf
    | _ => exact iteT (k H (Same.refl H))
end
end Kin
namespace Kin
open PySem PySem.Spec PyProof.Rows L2
structure Tks where
  tF : Tok
  tM : Tok
  eC : Array DictEntry
  nC : Nat
  eR : Array DictEntry
  nR : Nat
def readers : List (Str × Str) := [("title", "read_letters"), ("small", "read_number"), ("row", "read_number"), ("whole", "read_whole"), ("signal", "read_signal"), ("signals", "read_signals")]
structure Bw (K : PySem.W.Frag) (w : World) (mg : Str → Option Value) (tL : Tok) (es : Array DictEntry) (nF : Nat) (τ : Tks) : Prop extends Bi K w mg tL es nF where
  g_FIGURES : mg "FIGURES" = some (.str "0123456789" τ.tF)
  g_MOST_FIGURES : mg "MOST_FIGURES" = some (.int 9 τ.tM)
  g_CHOICES : mg "CHOICES" = some (.ref (He.ga K "CHOICES"))
  g_READERS : mg "READERS" = some (.ref (He.ga K "READERS"))
  kdC : KDict K w (He.ga K "CHOICES") τ.eC τ.nC
  kdR : KDict K w (He.ga K "READERS") τ.eR τ.nR
  cno : ∀ z, choices.lookup z = none → PySem.W.nsIn K (He.ga K "CHOICES") z = some none
  cyes : ∀ z ks, choices.lookup z = some ks → ∃ a, PySem.W.nsIn K (He.ga K "CHOICES") z = some (some (.ref a)) ∧ ∀ H, SqT K H a (ks.map V.str)
  ryes : ∀ z f, readers.lookup z = some f → PySem.W.nsIn K (He.ga K "READERS") z = some (some (.ref (He.ga K f)))
  rfn : ∀ q ∈ readers, mg q.2 = some (.ref (He.ga K q.2))
theorem op_inK {X : Cx} {K : PySem.W.Frag} (h : X.K = K) : OpR X (compareOp .In) (rIn K false) := by
  subst h
  exact op_in_seq
section
variable {P : Program} {w : World} {K : PySem.W.Frag} {mg : Str → Option Value} {base : Heap} {tL : Tok} {es : Array DictEntry} {nF : Nat} {τ : Tks}
theorem Bw.r_FIGURES (_ : Bw K w mg tL es nF τ) : RelV (.str "0123456789") (.str "0123456789" τ.tF) := ⟨_, rfl⟩
theorem Bw.r_MOST_FIGURES (_ : Bw K w mg tL es nF τ) : RelV (.int 9) (.int 9 τ.tM) := ⟨_, rfl⟩
theorem Bw.r_CHOICES (_ : Bw K w mg tL es nF τ) : RelV (.ref (He.ga K "CHOICES")) (.ref (He.ga K "CHOICES")) := rfl
theorem Bw.r_READERS (_ : Bw K w mg tL es nF τ) : RelV (.ref (He.ga K "READERS")) (.ref (He.ga K "READERS")) := rfl
def spZB (f : Str → Bool) : Sp := fun vs H Q _ => ∃ z : Str, vs = [.str z] ∧ z.length ≤ 900000 ∧ ∀ H', Same H H' → Q (.bl (f z)) H'
def spZ (K : PySem.W.Frag) (f : Str → PyData) : Sp := fun vs H Q _ => ∃ z : Str, vs = [.str z] ∧ z.length ≤ 900000 ∧ ∀ v H', Same H H' → Dp K H' v (f z) → Q v H'
/-- what a comprehension over the signs gives -/
theorem signs_map (z : Str) (f : Nat → Bool) : (List.range z.cps.size).map (fun i => V.bl ((z.cps.toList[i]?.map f).getD true)) = ((sg z).map f).map V.bl := by
  have em : (List.range z.cps.size).map (fun i => (z.cps.toList[i]?.map f).getD true) = (sg z).map f := by
    rw [show z.cps.size = z.cps.toList.length by simp]
    exact map_range_eq fun i x hx => by rw [hx]; rfl
  rw [← em, List.map_map]
  rfl
abbrev s_is_number : Stmt := topS 39
theorem sc_is_number : FnScope [("word" : Str), ("sign" : Str)] ["word"] (defScope s_is_number) := ⟨rfl, rfl, rfl, by decide +kernel, rfl, by decide +kernel, by decide +kernel⟩
theorem ok_is_number {f : Addr} {fd : FuncData} (F : FnP K "is_number" s_is_number f fd) (T : Bw K w mg tL es nF τ) : FnOk P w K mg base CX0 1 f fd ["word"] (spZB isNum) := by
  refine F.ok sc_is_number (fun vs H Q E h => ?_) (fun cdv A outer s H vs Q E hr h => ?_)
  · obtain ⟨z, rfl, _⟩ := h
    rfl
  · obtain ⟨z, rfl, hz, k⟩ := h
    refine ⟨_, PSs.nox (pss_cons (ps_if (pt_not (pt_chain op_le op_le pe_int (pe_callB call_len_str (by rfl) T.n_len PySem.boot_len (pa_cons (pv 0) pa_nil)) (pe_glob (by rfl) T.g_MOST_FIGURES T.r_MOST_FIGURES))) (pss_one (ps_ret pe_bl)) pss_nil) (Evl.pss_cut (ps_if (PW.pt (pw_and (pt_cmpR op_gt (pe_callB call_len_str (by rfl) T.n_len PySem.boot_len (pa_cons (pv 0) pa_nil)) pe_int (nomark _)) (pw_and1 (pt_cmpR op_eq (pe_ix ix_str (pv 0) pe_int (fun _ _ => rfl)) pe_str (nomark _))))) (pss_one (ps_ret pe_bl)) pss_nil) (pss_one (ps_ret (pe_callB (cr_all rfl) (by rfl) T.n_all boot_all (pa_cons (pe_lc (own := [(("sign" : Str), 1)]) (g := gName 1) rfl sc_is_number.nd (pi_str (pv 0)) (blkOk_by (N := [("word" : Str), ("sign" : Str)]) (sc := defScope s_is_number) (by decide +kernel)) (fun _ _ _ _ _ => by exact (pg_name (i := 1) sc_is_number.nd rfl (by first | exact .inl rfl | exact .inr rfl))) (fun _ _ _ _ _ => pts_nil) (fun _ _ _ _ _ => (pe_cmpR op_inS (pv 1) (pe_glob (by rfl) T.g_FIGURES T.r_FIGURES) (by rfl)))) pa_nil)))))), ?_⟩
    have hzs : z.length ≤ sizeLine := Nat.le_trans hz (by decide)
    have hf : Q (.bl (isNum z)) H := k H (Same.refl H)
    unfold isNum at hf
    refine ⟨_, rfl, z, rfl, hzs, _, _, rfl, rfl, _, rfl, ?_⟩
    refine ite2 (fun e1 => ?_) (fun e1 => ?_)
    · have e1 : (1 : Int) ≤ (z.length : Int) := of_decide_eq_true e1
      refine ⟨_, _, rfl, rfl, _, rfl, ?_⟩
      by_cases e2 : (z.length : Int) ≤ 9
      · rw [decide_eq_true e2]
        rw [decide_eq_true (show 1 ≤ z.length by omega), decide_eq_true (show z.length ≤ 9 by omega), if_pos (by rfl)] at hf
        obtain ⟨c, r, hc⟩ : ∃ c r, sg z = c :: r := by
          cases h : sg z with
          | nil => rw [sg_len, h] at e1; exact absurd e1 (by decide)
          | cons c r => exact ⟨c, r, rfl⟩
        refine iteF ⟨fun σ' H' => σ' = [some (.str z), none] ∧ H' = H ∧ (decide (1 < z.length) && decide ((⟨#[(sg z).headD 0]⟩ : Str) = "0")) = false, ?_, ?_⟩
        · refine ⟨_, rfl, z, rfl, hzs, _, _, rfl, rfl, _, rfl, ?_⟩
          refine ite2 (fun e3 => ?_) (fun e3 => ?_)
          · have e3 : 1 < z.length := by
              have : (z.length : Int) > 1 := of_decide_eq_true e3
              omega
            refine ⟨_, rfl, z, 0, c, rfl, rfl, hzs, ?_, rfl, _, rfl, ?_⟩
            · show atI (sg z) 0 = some c
              rw [hc]
              exact at0 _ _
            · rw [dec_str]
              rw [hc] at hf ⊢
              have hf : Q (.bl (if (decide (1 < z.length) && decide ((⟨#[c]⟩ : Str) = "0")) = true then false else (c :: r).all fun c => decide (c ∈ figC))) H := hf
              rw [decide_eq_true e3, Bool.true_and] at hf
              refine ite2 (fun e4 => ?_) (fun e4 => ?_)
              · rw [e4, if_pos rfl] at hf
                exact hf
              · refine ⟨rfl, rfl, ?_⟩
                rw [decide_eq_true e3, Bool.true_and]
                exact Bool.eq_false_iff.mpr e4
          · have e3 : ¬ 1 < z.length := fun q => e3 (decide_eq_true (show (z.length : Int) > 1 by omega))
            exact ⟨rfl, rfl, by rw [decide_eq_false e3]; rfl⟩
        · rintro σ' H' ⟨rfl, rfl, he⟩
          rw [he, if_neg Bool.false_ne_true] at hf
          refine ⟨_, rfl, z, rfl, fun D hD => ?_⟩
          refine lc_vals (walk_str (z := z)) (fun i => .bl ((z.cps.toList[i]?.map fun c => decide (c ∈ figC)).getD true)) hD (Nat.le_trans hz (by decide)) (fun _ _ => True.intro) ?_ ?_
          · rintro i v H' H'' Qe hi s1 ⟨rfl, c, hc, rfl⟩ q
            refine ⟨rfl, ?_⟩
            have q := q H'' (Same.refl H'')
            have ec : z.cps.toList[i]? = some c := by rw [Array.getElem?_toList]; exact hc
            rw [ec] at q
            exact ⟨_, rfl, c, _, rfl, rfl, q⟩
          · intro H' s1 hl
            rw [signs_map] at hl
            refine ⟨D, (sg z).map fun c => decide (c ∈ figC), rfl, .inl (.inl hl), ?_⟩
            rw [all_id]
            have q := k H' s1
            unfold isNum at q
            rw [decide_eq_true (show 1 ≤ z.length by omega), decide_eq_true (show z.length ≤ 9 by omega), if_pos (by rfl), he, if_neg Bool.false_ne_true] at q
            exact q
      · rw [decide_eq_false e2]
        rw [decide_eq_false (show ¬ z.length ≤ 9 by omega), Bool.and_false] at hf
        exact iteT hf
    · have e1 : ¬ (1 : Int) ≤ (z.length : Int) := fun q => e1 (decide_eq_true q)
      refine ⟨_, rfl, ?_⟩
      rw [decide_eq_false (show ¬ 1 ≤ z.length by omega)] at hf
      exact iteT hf
abbrev s_is_signed_number : Stmt := topS 40
theorem sc_is_signed_number : FnScope [("word" : Str)] ["word"] (defScope s_is_signed_number) := ⟨rfl, rfl, rfl, by decide +kernel, rfl, by decide +kernel, by decide +kernel⟩
theorem ok_is_signed_number {f : Addr} {fd : FuncData} (F : FnP K "is_signed_number" s_is_signed_number f fd) (T : Bw K w mg tL es nF τ) (c_is_number : Cal P w K mg base "is_number" ["word"] 1 (spZB isNum)) : FnOk P w K mg base CX0 2 f fd ["word"] (spZB isSgn) := by
  refine F.ok sc_is_signed_number (fun vs H Q E h => ?_) (fun cdv A outer s H vs Q E hr h => ?_)
  · obtain ⟨z, rfl, _⟩ := h
    rfl
  · obtain ⟨z, rfl, hz, k⟩ := h
    refine ⟨_, PSs.nox (pss_cons (ps_if (pt_cmpR op_ne (pe_slice C8.sl_txt (pv 0) po_none (po_some pe_int)) pe_str (nomark _)) (pss_one (ps_ret (pe_cal c_is_number (hr.mono (by decide)) (by rfl) pass0 (pa_cons (pv 0) pa_nil)))) pss_nil) (pss_one (ps_ret (pe_and (pe_cmpR op_ne (pv 0) pe_str (nomark _)) (pe_one (pe_cal c_is_number (hr.mono (by decide)) (by rfl) pass0 (pa_cons (pe_slice C8.sl_txt (pv 0) (po_some pe_int) po_none) pa_nil))))))), ?_⟩
    have hzs : z.length ≤ sizeLine := Nat.le_trans hz (by decide)
    unfold isSgn at k
    refine ⟨_, rfl, _, rfl, z, rfl, hzs, rfl, _, rfl, ?_⟩
    rw [dec_str]
    by_cases h1 : Txt.slice z none (some 1) = "-"
    · rw [decide_eq_true h1]
      refine iteF ⟨_, rfl, rfl, _, rfl, ?_⟩
      rw [dec_str]
      by_cases h2 : z = "-0"
      · rw [decide_eq_true h2]
        have q := k H (Same.refl H)
        rw [if_pos h1, if_pos h2] at q
        exact iteF q
      · rw [decide_eq_false h2]
        refine iteT ⟨_, rfl, _, rfl, z, rfl, hzs, _, rfl, ?_, fun H' s1 => ?_⟩
        · rw [slice1', SX.S_len, List.length_drop, ← sg_len]
          omega
        · have q := k H' s1
          rw [if_pos h1, if_neg h2] at q
          exact q
    · rw [decide_eq_false h1]
      refine iteT ⟨_, rfl, z, rfl, hz, fun H' s1 => ?_⟩
      have q := k H' s1
      rw [if_neg h1] at q
      exact q
abbrev s_read_number : Stmt := topS 41
theorem sc_read_number : FnScope [("word" : Str)] ["word"] (defScope s_read_number) := ⟨rfl, rfl, rfl, by decide +kernel, rfl, by decide +kernel, by decide +kernel⟩
theorem ok_read_number {f : Addr} {fd : FuncData} (F : FnP K "read_number" s_read_number f fd) (T : Bw K w mg tL es nF τ) (c_is_number : Cal P w K mg base "is_number" ["word"] 1 (spZB isNum)) : FnOk P w K mg base CX0 2 f fd ["word"] (spZ K fun z => oI (rdNum z)) := by
  refine F.ok sc_read_number (fun vs H Q E h => ?_) (fun cdv A outer s H vs Q E hr h => ?_)
  · obtain ⟨z, rfl, _⟩ := h
    rfl
  · obtain ⟨z, rfl, hz, k⟩ := h
    refine ⟨_, PSs.nox (pss_one (ps_ret (pe_ifExp (pt_val (pe_cal c_is_number (hr.mono (by decide)) (by rfl) pass0 (pa_cons (pv 0) pa_nil))) (pe_callTy call_int_str (by rfl) T.n_int boot_int (pa_cons (pv 0) pa_nil)) pe_non))), ?_⟩
    refine ⟨_, rfl, z, rfl, hz, fun H' s1 => ⟨_, rfl, ?_⟩⟩
    have k : ∀ v H', Same H H' → Dp K H' v (oI (rdNum z)) → Q v H' := k
    unfold rdNum at k
    refine ite2 (fun e => ?_) (fun e => ?_)
    · rw [if_pos e] at k
      obtain ⟨n, en, _⟩ := isNum_int e
      have := (isNum_dig e).2.2
      refine ⟨_, rfl, z, n, rfl, en, by omega, k _ _ s1 ?_⟩
      rw [en]
      exact .int n
    · rw [if_neg e] at k
      exact k _ _ s1 .non
abbrev s_read_whole : Stmt := topS 42
theorem sc_read_whole : FnScope [("word" : Str)] ["word"] (defScope s_read_whole) := ⟨rfl, rfl, rfl, by decide +kernel, rfl, by decide +kernel, by decide +kernel⟩
theorem ok_read_whole {f : Addr} {fd : FuncData} (F : FnP K "read_whole" s_read_whole f fd) (T : Bw K w mg tL es nF τ) (c_is_signed_number : Cal P w K mg base "is_signed_number" ["word"] 2 (spZB isSgn)) : FnOk P w K mg base CX0 3 f fd ["word"] (spZ K fun z => oI (rdWhole z)) := by
  refine F.ok sc_read_whole (fun vs H Q E h => ?_) (fun cdv A outer s H vs Q E hr h => ?_)
  · obtain ⟨z, rfl, _⟩ := h
    rfl
  · obtain ⟨z, rfl, hz, k⟩ := h
    refine ⟨_, PSs.nox (pss_one (ps_ret (pe_ifExp (pt_val (pe_cal c_is_signed_number (hr.mono (by decide)) (by rfl) pass0 (pa_cons (pv 0) pa_nil))) (pe_callTy call_int_str (by rfl) T.n_int boot_int (pa_cons (pv 0) pa_nil)) pe_non))), ?_⟩
    refine ⟨_, rfl, z, rfl, hz, fun H' s1 => ⟨_, rfl, ?_⟩⟩
    have k : ∀ v H', Same H H' → Dp K H' v (oI (rdWhole z)) → Q v H' := k
    unfold rdWhole at k
    refine ite2 (fun e => ?_) (fun e => ?_)
    · rw [if_pos e] at k
      obtain ⟨n, en, hl⟩ := isSgn_int e
      refine ⟨_, rfl, z, n, rfl, en, by omega, k _ _ s1 ?_⟩
      rw [en]
      exact .int n
    · rw [if_neg e] at k
      exact k _ _ s1 .non
abbrev s_read_signal : Stmt := topS 45
theorem sc_read_signal : FnScope [("word" : Str)] ["word"] (defScope s_read_signal) := ⟨rfl, rfl, rfl, by decide +kernel, rfl, by decide +kernel, by decide +kernel⟩
theorem ok_read_signal {f : Addr} {fd : FuncData} (F : FnP K "read_signal" s_read_signal f fd) (T : Bw K w mg tL es nF τ) : FnOk P w K mg base CX0 1 f fd ["word"] (spZ K fun z => oS (rdSig z)) := by
  refine F.ok sc_read_signal (fun vs H Q E h => ?_) (fun cdv A outer s H vs Q E hr h => ?_)
  · obtain ⟨z, rfl, _⟩ := h
    rfl
  · obtain ⟨z, rfl, hz, k⟩ := h
    refine ⟨_, PSs.nox (pss_one (ps_ret (pe_ifExp (pt_cmpR op_in_seq (pv 0) (pe_glob (by rfl) T.g_SIGNALS T.r_SIGNALS) (by rfl)) (pv 0) pe_non))), ?_⟩
    have k : ∀ v H', Same H H' → Dp K H' v (oS (rdSig z)) → Q v H' := k
    unfold rdSig at k
    refine ⟨_, rfl, _, _, rfl, .inr (T.sig H), rfl, flat_strs sig9, _, rfl, ?_⟩
    refine ite_in (fun e => ?_) (fun e => ?_)
    · rw [if_pos e] at k
      exact ⟨_, rfl, k _ _ (Same.refl H) (.str z)⟩
    · rw [if_neg e] at k
      exact k _ _ (Same.refl H) .non
end
end Kin
namespace Kin
open PySem PySem.Spec PyProof.Rows L2
theorem sqT_lst {K : PySem.W.Frag} {G : Hp} {D : Addr} {acc : List V} {o : HO} (hD : G D = some (.lst acc)) (b : Addr) (xs : List V) (h : SqT K G b xs) : SqT K (upd G D o) b xs := by
  have ne : ∀ u, G b = some u → (∀ ys, u ≠ .lst ys) → b ≠ D := fun u hu hn e => by
    rw [e, hD] at hu
    exact hn acc (Option.some.inj hu).symm
  rcases h with (h | ⟨u, h⟩) | h
  · exact .inl (.inl (by rw [upd_ne (ne _ h fun _ z => nomatch z)]; exact h))
  · exact .inl (.inr ⟨u, by rw [upd_ne (ne _ h fun _ z => nomatch z)]; exact h⟩)
  · exact .inr h
theorem range_succ_map {α : Type} (b : Nat → α) (i : Nat) : (List.range (i + 1)).map b = (List.range i).map b ++ [b i] := by
  rw [List.range_succ, List.map_append]
  rfl
/-- a comprehension whose items are data without lists -/
theorem lc_noL {K : PySem.W.Frag} {J : It} {n : Nat} {G : Hp → Prop} {Y : Nat → Hp → V → Hp → Prop} (wk : Walk J n G Y) {g : TG} {te : TE} {vs : List Nat} {σ : L2.St} {H1 : Hp} {D : Addr} {Qd : Hp → Prop} (b : Nat → PyData) (hD : H1 D = none) (hn : n ≤ 1000000) (hb : ∀ i, i < n → noL (b i) = true)
    (hG : ∀ H', Same H1 H' → G H')
    (hs : ∀ (i : Nat) (x : V) (H' H'' : Hp) (Qe : VK), i < n → Same H1 H' → Y i H' x H'' → (∀ v H4, Same H' H4 → Dp K H4 v (b i) → Qe v H4) → g x (wipe σ vs) H'' fun σ2 H2 => wipe σ2 vs = wipe σ vs ∧ te σ2 H2 Qe)
    (q : ∀ H' ys, Same H1 H' → H' D = some (.lst ys) → DpAll K H' ys ((List.range n).map b) → Qd H') :
    ∃ W : Nat → Nat → Hp → Prop, (∃ m, W 0 m (upd H1 D (.lst []))) ∧ ∀ i m H, W i m H →
      (J.stop i H ∧ Qd H) ∨ (J.go i H ∧ ∃ Nx : Hp → Prop, (∀ H', Nx H' → ∃ m', m' < m ∧ W (i + 1) m' H') ∧ ∀ x H', J.yld i H x H' → g x (wipe σ vs) H' fun σ2 H2 => wipe σ2 vs = wipe σ vs ∧ tYes σ2 H2 fun b H3 =>
        if b = true then te σ2 H3 fun y H4 => ∃ acc, H4 D = some (.lst acc) ∧ acc.length < sizeLine ∧ Nx (upd H4 D (.lst (acc ++ [y]))) else Nx H3) := by
  refine lc_it wk (tt := tYes) (fun i H' => i ≤ n ∧ Same H1 H' ∧ ∃ ys, H' D = some (.lst ys) ∧ DpAll K H' ys ((List.range i).map b)) ⟨Nat.zero_le _, same_upd hD, [], upd_same, .nil⟩ (fun i H' _ p => hG H' p.2.1) (fun i x H' H'' hi p y => ?_) (fun H' p => ?_)
  · obtain ⟨_, p1, ys, p2, p3⟩ := p
    refine hs i x H' H'' _ hi p1 y fun v H4 s4 d4 => ?_
    have len := dpA_len p3
    rw [List.length_map, List.length_range] at len
    refine ⟨ys, s4 _ _ p2, ?_, ?_⟩
    · rw [len]
      exact Nat.lt_of_lt_of_le (Nat.lt_of_lt_of_le hi hn) (by decide)
    · refine ⟨hi, same_mut (p1.trans s4) hD, ys ++ [v], upd_same, ?_⟩
      rw [range_succ_map]
      refine dpA_noL (fun c xs h => sqT_lst (s4 _ _ p2) c xs h) (noLAll_of fun d hd => ?_) (dpA_app (dpA_mono s4 p3) (.cons d4 .nil))
      rcases List.mem_append.mp hd with hd | hd
      · obtain ⟨j, hj, rfl⟩ := List.mem_map.mp hd
        exact hb j (by have := List.mem_range.mp hj; omega)
      · rw [List.mem_singleton.mp hd]
        exact hb i hi
  · obtain ⟨_, p1, ys, p2, p3⟩ := p
    exact q H' ys p1 p2 p3
end Kin
namespace Kin
open PySem PySem.Spec PyProof.Rows L2
section
variable {P : Program} {w : World} {K : PySem.W.Frag} {mg : Str → Option Value} {base : Heap} {tL : Tok} {es : Array DictEntry} {nF : Nat} {τ : Tks}
abbrev s_read_letters : Stmt := topS 43
theorem sc_read_letters : FnScope [("word" : Str), ("sign" : Str)] ["word"] (defScope s_read_letters) := ⟨rfl, rfl, rfl, by decide +kernel, rfl, by decide +kernel, by decide +kernel⟩
theorem ok_read_letters {f : Addr} {fd : FuncData} (F : FnP K "read_letters" s_read_letters f fd) (T : Bw K w mg tL es nF τ) : FnOk P w K mg base CX0 1 f fd ["word"] (spZ K fun z => oS (rdLet z)) := by
  refine F.ok sc_read_letters (fun vs H Q E h => ?_) (fun cdv A outer s H vs Q E hr h => ?_)
  · obtain ⟨z, rfl, _⟩ := h
    rfl
  · obtain ⟨z, rfl, hz, k⟩ := h
    have k : ∀ v H', Same H H' → Dp K H' v (oS (rdLet z)) → Q v H' := k
    refine ⟨_, PSs.nox (pss_cons (ps_if (PW.pt (pw_or (pt_cmpR op_eq (pe_callB call_len_str (by rfl) T.n_len PySem.boot_len (pa_cons (pv 0) pa_nil)) pe_int (nomark _)) (pw_or1 (pt_not (pt_val (pe_callB (cr_all rfl) (by rfl) T.n_all boot_all (pa_cons (pe_lc (own := [(("sign" : Str), 1)]) (g := gName 1) rfl sc_read_letters.nd (pi_str (pv 0)) (blkOk_by (N := [("word" : Str), ("sign" : Str)]) (sc := defScope s_read_letters) (by decide +kernel)) (fun _ _ _ _ _ => by exact (pg_name (i := 1) sc_read_letters.nd rfl (by first | exact .inl rfl | exact .inr rfl))) (fun _ _ _ _ _ => pts_nil) (fun _ _ _ _ _ => (pe_chain op_le_str op_le_str pe_str (pv 1) pe_str))) pa_nil))))))) (pss_one (ps_ret pe_non)) pss_nil) (pss_one (ps_ret (pv 0)))), ?_⟩
    have hzs : z.length ≤ sizeLine := Nat.le_trans hz (by decide)
    unfold rdLet at k
    refine ⟨_, rfl, z, rfl, hzs, rfl, _, rfl, ?_⟩
    refine iteLenE (fun h0 => ?_) (fun h0 => ?_)
    · rw [if_pos (show z.length = 0 by omega)] at k
      exact k _ _ (Same.refl H) .non
    · rw [if_neg (show ¬ z.length = 0 by omega)] at k
      refine ⟨_, rfl, z, rfl, fun D hD => ?_⟩
      refine lc_vals (walk_str (z := z)) (fun i => .bl ((z.cps.toList[i]?.map fun c => decide (97 ≤ c) && decide (c ≤ 122)).getD true)) hD (Nat.le_trans hz (by decide)) (fun _ _ => True.intro) ?_ ?_
      · rintro i v H' H'' Qe hi s1 ⟨rfl, c, hc, rfl⟩ q
        refine ⟨rfl, ?_⟩
        have q := q H'' (Same.refl H'')
        have ec : z.cps.toList[i]? = some c := by rw [Array.getElem?_toList]; exact hc
        rw [ec] at q
        have q : Qe (.bl (decide (97 ≤ c) && decide (c ≤ 122))) H'' := q
        rw [← title_le c] at q
        refine ⟨_, rfl, _, _, rfl, rfl, _, rfl, ?_⟩
        cases e3 : (!decide ((⟨#[c]⟩ : Str).cps.toList < ("a" : Str).cps.toList)) with
        | true =>
          rw [e3] at q
          exact iteT ⟨_, _, rfl, rfl, q⟩
        | false =>
          rw [e3] at q
          exact iteF q
      · intro H' s1 hl
        rw [signs_map] at hl
        refine ⟨D, (sg z).map fun c => decide (97 ≤ c) && decide (c ≤ 122), rfl, .inl (.inl hl), _, rfl, ?_⟩
        rw [all_id]
        by_cases e : azAll z = true
        · rw [if_pos e] at k
          rw [show (sg z).all (fun c => decide (97 ≤ c) && decide (c ≤ 122)) = true from e]
          exact iteF ⟨_, rfl, k _ _ s1 (.str z)⟩
        · rw [if_neg e] at k
          rw [show (sg z).all (fun c => decide (97 ≤ c) && decide (c ≤ 122)) = false from Bool.eq_false_iff.mpr e]
          exact iteT (k _ _ s1 .non)
abbrev s_read_signals : Stmt := topS 46
theorem sc_read_signals : FnScope [("word" : Str), ("signals" : Str), ("signal" : Str)] ["word"] (defScope s_read_signals) := ⟨rfl, rfl, rfl, by decide +kernel, rfl, by decide +kernel, by decide +kernel⟩
theorem ok_read_signals {f : Addr} {fd : FuncData} (F : FnP K "read_signals" s_read_signals f fd) (T : Bw K w mg tL es nF τ) : FnOk P w K mg base CX0 1 f fd ["word"] (spZ K fun z => oSs (rdSigs z)) := by
  refine F.ok sc_read_signals (fun vs H Q E h => ?_) (fun cdv A outer s H vs Q E hr h => ?_)
  · obtain ⟨z, rfl, _⟩ := h
    rfl
  · obtain ⟨z, rfl, hz, k⟩ := h
    have k : ∀ v H', Same H H' → Dp K H' v (oSs (rdSigs z)) → Q v H' := k
    refine ⟨_, PSs.nox (pss_cons (ps_if (pt_cmpR op_eq (pv 0) pe_str (nomark _)) (pss_one (ps_ret (pe_tup pa_nil))) pss_nil) (pss_cons (ps_set (i := 1) sc_read_signals.nd rfl (by first | exact .inl rfl | exact .inr rfl) (pe_callTy call_tuple_of (by rfl) T.n_tuple boot_tuple (pa_cons (pe_split (pv 0) pe_str) pa_nil))) (pss_one (ps_ret (pe_ifExp (pt_val (pe_callB (cr_all rfl) (by rfl) T.n_all boot_all (pa_cons (pe_lc (own := [(("signal" : Str), 2)]) (g := gName 2) rfl sc_read_signals.nd (pi_tup (pv 1)) (blkOk_by (N := [("word" : Str), ("signals" : Str), ("signal" : Str)]) (sc := defScope s_read_signals) (by decide +kernel)) (fun _ _ _ _ _ => by exact (pg_name (i := 2) sc_read_signals.nd rfl (by first | exact .inl rfl | exact .inr rfl))) (fun _ _ _ _ _ => pts_nil) (fun _ _ _ _ _ => (pe_cmpR (op_inK rfl) (pv 2) (pe_glob (by rfl) T.g_SIGNALS T.r_SIGNALS) (by rfl)))) pa_nil))) (pv 1) pe_non))))), ?_⟩
    have hzs : z.length + 2 ≤ sizeLine := Nat.le_trans (Nat.add_le_add_right hz 2) (by decide)
    unfold rdSigs at k
    refine ⟨_, rfl, rfl, _, rfl, ?_⟩
    rw [dec_str]
    refine ite2 (fun e => ?_) (fun e => ?_)
    · rw [if_pos (of_decide_eq_true e)] at k
      refine ⟨Nat.zero_le _, fun p np => k _ _ (same_upd np) (.tup sqT_new .nil)⟩
    · rw [if_neg (fun q => e (decide_eq_true q))] at k
      obtain ⟨b1, b2, b3⟩ := split1_len z 44 "," comma (by decide)
      have hne : ((("," : Str).length == 0) = false) := by decide +kernel
      refine ⟨_, rfl, ⟨z, rfl⟩, z, ",", rfl, rfl, hne, hzs, fun L hL => ⟨L, _, rfl, .inl ⟨sqL_new, fun p np => ?_⟩⟩⟩
      have s0 := (same_upd (o := .lst ((Txt.split z ",").map V.str)) hL).trans (same_upd (o := .tup ((Txt.split z ",").map V.str)) np)
      generalize Txt.split z "," = ss at b1 b2 b3 k s0 np ⊢
      refine ⟨_, rfl, p, rfl, ⟨_, sqT_new⟩, fun D hD => ?_⟩
      refine lc_vals (walk_tup (xs := ss.map V.str)) (fun i => .bl ((ss[i]?.map fun s => decide (s ∈ sig9)).getD true)) hD (by rw [List.length_map]; omega) (fun H' s1 => Same.tup s1 sqT_new) ?_ ?_
      · rintro i v H' H'' Qe hi s1 ⟨rfl, hv⟩ q
        rw [List.getElem?_map] at hv
        obtain ⟨t, ht, rfl⟩ := Option.map_eq_some_iff.mp hv
        have q := q H'' (Same.refl H'')
        rw [ht] at q
        exact ⟨rfl, _, rfl, _, _, rfl, .inr (T.sig H''), rfl, flat_strs sig9, in_k q⟩
      · intro H' s1 hl
        rw [List.length_map] at hl
        refine ⟨D, (List.range ss.length).map fun i => ((ss[i]?.map fun s => decide (s ∈ sig9)).getD true), rfl, .inl (.inl ?_), _, rfl, ?_⟩
        · rw [hl, List.map_map]
          rfl
        · rw [map_range_eq (p := fun s => decide (s ∈ sig9)) (fun i x hx => by rw [hx]; rfl), all_id]
          refine ite2 (fun e => ?_) (fun e => ?_)
          · rw [if_pos e] at k
            exact ⟨_, rfl, k _ _ (s0.trans s1) (.tup (Same.tup s1 sqT_new) (dpA_strs ss))⟩
          · rw [if_neg e] at k
            exact k _ _ (s0.trans s1) .non
abbrev s_read_choice : Stmt := topS 47
theorem sc_read_choice : FnScope [("kind" : Str), ("word" : Str)] ["kind", "word"] (defScope s_read_choice) := ⟨rfl, rfl, rfl, by decide +kernel, rfl, by decide +kernel, by decide +kernel⟩
def spKZ (K : PySem.W.Frag) (ok : Str → Prop) (f : Str → Str → PyData) : Sp := fun vs H Q _ => ∃ k z : Str, vs = [.str k, .str z] ∧ ok k ∧ z.length ≤ 900000 ∧ ∀ v H', Same H H' → Dp K H' v (f k z) → Q v H'
theorem ok_read_choice {f : Addr} {fd : FuncData} (F : FnP K "read_choice" s_read_choice f fd) (T : Bw K w mg tL es nF τ) (c_read_number : Cal P w K mg base "read_number" ["word"] 2 (spZ K fun z => oI (rdNum z))) : FnOk P w K mg base CX0 3 f fd ["kind", "word"] (spKZ K (fun k => (choices.lookup k).isSome = true) rdWord) := by
  refine F.ok sc_read_choice (fun vs H Q E h => ?_) (fun cdv A outer s H vs Q E hr h => ?_)
  · obtain ⟨k0, z, rfl, _⟩ := h
    rfl
  · obtain ⟨k0, z, rfl, hk, hz, k⟩ := h
    refine ⟨_, PSs.nox (pss_cons (ps_if (pt_cmpR op_in_seq (pv 1) (pe_ix ix_kdict (pe_glob (by rfl) T.g_CHOICES T.r_CHOICES) (pv 0) (fun _ _ => rfl)) (by rfl)) (pss_one (ps_ret (pv 1))) pss_nil) (pss_one (ps_ret (pe_ifExp (pt_cmpR op_eq (pv 0) pe_str (nomark _)) pe_non (pe_cal c_read_number (hr.mono (by decide)) (by rfl) pass0 (pa_cons (pv 1) pa_nil)))))), ?_⟩
    obtain ⟨ws, hws⟩ := Option.isSome_iff_exists.mp hk
    obtain ⟨a, ha, hsq⟩ := T.cyes k0 ws hws
    have k : ∀ v H', Same H H' → Dp K H' v (rdCh k0 z ws) → Q v H' := by
      intro v H' s1 d1
      refine k v H' s1 ?_
      unfold rdWord
      rw [hws]
      exact d1
    unfold rdCh at k
    refine ⟨_, rfl, _, rfl, _, _, .ref a, rfl, rfl, ⟨_, _, _, T.kdC.at_, T.kdC.lit, ha, rfl⟩, a, _, rfl, .inr (hsq H), rfl, flat_strs ws, _, rfl, ?_⟩
    refine ite_in (fun e => ?_) (fun e => ?_)
    · rw [if_pos e] at k
      exact ⟨_, rfl, k _ _ (Same.refl H) (.str z)⟩
    · rw [if_neg e] at k
      refine ⟨_, rfl, rfl, _, rfl, ?_⟩
      rw [dec_str]
      refine ite2 (fun e => ?_) (fun e => ?_)
      · rw [if_pos (of_decide_eq_true e)] at k
        exact k _ _ (Same.refl H) .non
      · rw [if_neg (fun q => e (decide_eq_true q))] at k
        exact ⟨_, rfl, z, rfl, hz, fun v H' s1 d1 => k v H' s1 d1⟩
abbrev s_read_word : Stmt := topS 49
theorem sc_read_word : FnScope [("kind" : Str), ("word" : Str), ("doing" : Str)] ["kind", "word"] (defScope s_read_word) := ⟨rfl, rfl, rfl, by decide +kernel, rfl, by decide +kernel, by decide +kernel⟩
theorem ok_read_word {f : Addr} {fd : FuncData} (F : FnP K "read_word" s_read_word f fd) (T : Bw K w mg tL es nF τ) (c_read_choice : Cal P w K mg base "read_choice" ["kind", "word"] 3 (spKZ K (fun k => (choices.lookup k).isSome = true) rdWord)) (c_read_letters : Cal P w K mg base "read_letters" ["word"] 1 (spZ K fun z => oS (rdLet z))) (c_read_number : Cal P w K mg base "read_number" ["word"] 2 (spZ K fun z => oI (rdNum z))) (c_read_whole : Cal P w K mg base "read_whole" ["word"] 3 (spZ K fun z => oI (rdWhole z))) (c_read_signal : Cal P w K mg base "read_signal" ["word"] 1 (spZ K fun z => oS (rdSig z))) (c_read_signals : Cal P w K mg base "read_signals" ["word"] 1 (spZ K fun z => oSs (rdSigs z))) : FnOk P w K mg base CX0 10 f fd ["kind", "word"] (spKZ K (fun k => k ∈ kinds8) rdWord) := by
  refine F.ok sc_read_word (fun vs H Q E h => ?_) (fun cdv A outer s H vs Q E hr h => ?_)
  · obtain ⟨k0, z, rfl, _⟩ := h
    rfl
  · obtain ⟨k0, z, rfl, hk, hz, k⟩ := h
    refine ⟨_, PSs.nox (pss_cons (ps_if (pt_cmpR (op_in_kd T.kdC) (pv 0) (pe_glob (by rfl) T.g_CHOICES T.r_CHOICES) (by rfl)) (pss_one (ps_ret (pe_cal c_read_choice (hr.mono (by decide)) (by rfl) pass0 (pa_cons (pv 0) (pa_cons (pv 1) pa_nil))))) pss_nil) (pss_cons (ps_set (i := 2) sc_read_word.nd rfl (by first | exact .inl rfl | exact .inr rfl) (pe_ix ix_kdict (pe_glob (by rfl) T.g_READERS T.r_READERS) (pv 0) (fun _ _ => rfl))) (pss_one (ps_ret (pe_calE (k := 9) (i := 2) (hr.mono (by decide)) rfl (by first | exact .inl rfl | exact .inr rfl) (pa_cons (pv 1) pa_nil)))))), ?_⟩
    cases hc : choices.lookup k0 with
    | some ws =>
      obtain ⟨a, ha, _⟩ := T.cyes k0 ws hc
      refine ⟨_, rfl, _, _, rfl, rfl, ha, _, rfl, iteT ?_⟩
      exact ⟨_, rfl, _, rfl, k0, z, rfl, (by show (choices.lookup k0).isSome = true; rw [hc]; rfl), hz, k⟩
    | none =>
      refine ⟨_, rfl, _, _, rfl, rfl, T.cno k0 hc, _, rfl, iteF ?_⟩
      have go : ∀ (f : Str) (fz : Str → PyData) (j : Nat), readers.lookup k0 = some f → (k0, f) ∈ readers → j ≤ 9 → (∀ a, mg f = some (.ref a) → Held P w K mg base j a (spZ K fz)) → rdWord k0 z = fz z →
          tSeq (tAsg (tOp (rIxD K w) (tC (.ref (He.ga K "READERS"))) (tVar 0)) (gName 2)) (tRet (tCalE P w K mg base 9 2 (tCons (tVar 1) tNil))) { nx := fun _ H' => Q .non H', rt := Q } [some (.str k0), some (.str z), none] H := by
        intro f fz j h1 h2 h3 h4 h5
        refine ⟨_, rfl, _, _, .ref (He.ga K f), rfl, rfl, ⟨_, _, _, T.kdR.at_, T.kdR.lit, T.ryes k0 f h1, rfl⟩, ?_⟩
        refine ⟨_, _, j, rfl, h3, h4 _ (T.rfn _ h2), ?_⟩
        refine ⟨_, rfl, z, rfl, hz, fun v H' s1 d1 => k v H' s1 ?_⟩
        rw [h5]
        exact d1
      simp only [kinds8, List.mem_cons, List.not_mem_nil, or_false] at hk
      rcases hk with rfl | rfl | rfl | rfl | rfl | rfl | rfl | rfl | rfl
      · exact go "read_letters" (fun z => oS (rdLet z)) _ (by decide +kernel) (by decide +kernel) (by decide) (fun a h => c_read_letters.held h) rfl
      · exact go "read_number" (fun z => oI (rdNum z)) _ (by decide +kernel) (by decide +kernel) (by decide) (fun a h => c_read_number.held h) rfl
      · exact go "read_whole" (fun z => oI (rdWhole z)) _ (by decide +kernel) (by decide +kernel) (by decide) (fun a h => c_read_whole.held h) rfl
      · exact go "read_number" (fun z => oI (rdNum z)) _ (by decide +kernel) (by decide +kernel) (by decide) (fun a h => c_read_number.held h) rfl
      · exact go "read_signal" (fun z => oS (rdSig z)) _ (by decide +kernel) (by decide +kernel) (by decide) (fun a h => c_read_signal.held h) rfl
      · exact go "read_signals" (fun z => oSs (rdSigs z)) _ (by decide +kernel) (by decide +kernel) (by decide) (fun a h => c_read_signals.held h) rfl
      · exact absurd hc (by decide +kernel)
      · exact absurd hc (by decide +kernel)
      · exact absurd hc (by decide +kernel)
end
end Kin
namespace Kin
open PySem PySem.Spec PyProof.Rows L2
theorem canLayAll_of : ∀ {ds : List PyData}, (∀ d ∈ ds, d.canLay0 = true) → PyData.canLayAll0 ds = true
  | [], _ => by rw [PyData.canLayAll0]
  | d :: r, h => by
    rw [PyData.canLayAll0, h d List.mem_cons_self, canLayAll_of fun x q => h x (List.mem_cons_of_mem _ q)]
    rfl
theorem depthAll_le {m : Nat} : ∀ {ds : List PyData}, (∀ d ∈ ds, d.depth ≤ m) → PyData.depthAll ds ≤ m
  | [], _ => by rw [PyData.depthAll]; exact Nat.zero_le _
  | d :: r, h => by
    rw [PyData.depthAll]
    have a := h d List.mem_cons_self
    have b := depthAll_le (ds := r) fun x q => h x (List.mem_cons_of_mem _ q)
    omega
def okD (d : PyData) : Prop := noL d = true ∧ d.canLay0 = true ∧ d.depth ≤ 2
theorem okD_str {z : Str} (h : PyData.strOk z = true) : okD (.str z) := ⟨by rw [noL], by rw [PyData.canLay0, h], by rw [PyData.depth]; decide⟩
theorem okD_int (i : Int) : okD (.int i) := ⟨by rw [noL], by rw [PyData.canLay0], by rw [PyData.depth]; decide⟩
theorem okD_none : okD .none := ⟨by rw [noL], by rw [PyData.canLay0], by rw [PyData.depth]; decide⟩
theorem okD_bool (b : Bool) : okD (.bool b) := ⟨by rw [noL], by rw [PyData.canLay0], by rw [PyData.depth]; decide⟩
theorem okD_oI (o : Option Int) : okD (oI o) := by
  cases o with
  | none => exact okD_none
  | some i => exact okD_int i
theorem okD_strs {ss : List Str} (h : ∀ s ∈ ss, PyData.strOk s = true) : okD (strsD ss) := by
  unfold strsD
  refine ⟨?_, ?_, ?_⟩
  · rw [noL]
    refine noLAll_of fun d hd => ?_
    obtain ⟨z, _, rfl⟩ := List.mem_map.mp hd
    rw [noL]
  · rw [PyData.canLay0]
    refine canLayAll_of fun d hd => ?_
    obtain ⟨z, hz, rfl⟩ := List.mem_map.mp hd
    rw [PyData.canLay0, h z hz]
  · rw [PyData.depth]
    have : PyData.depthAll (ss.map PyData.str) ≤ 0 := depthAll_le fun d hd => by
      obtain ⟨z, _, rfl⟩ := List.mem_map.mp hd
      rw [PyData.depth]
      exact Nat.le_refl _
    omega
theorem ch_az {k : Str} {ws : List Str} (h : choices.lookup k = some ws) : ∀ z ∈ ws, azAll z = true := by
  have q : ∀ p ∈ choices, ∀ z ∈ p.2, azAll z = true := by decide +kernel
  exact q (k, ws) (mem_of_lookup h)
theorem rdWord_ok (k z : Str) : okD (rdWord k z) := by
  unfold rdWord
  split
  · rename_i ws hw
    unfold rdCh
    split
    · rename_i h
      exact okD_str (az_ok (ch_az hw z h))
    · split
      · exact okD_none
      · exact okD_oI _
  · split
    · unfold rdLet
      split
      · exact okD_none
      · split
        · rename_i h
          exact okD_str (az_ok h)
        · exact okD_none
    · split
      · exact okD_oI _
      · split
        · exact okD_oI _
        · split
          · unfold rdSig
            split
            · rename_i h
              exact okD_str (az_ok (sig9_az h).1)
            · exact okD_none
          · unfold rdSigs
            split
            · exact okD_strs (ss := []) (by simp)
            · split
              · rename_i h
                exact okD_strs fun s hs => az_ok (sig9_az (of_decide_eq_true (List.all_eq_true.mp h s hs))).1
              · exact okD_none
theorem eqv_none (d : PyData) : PyData.eqv d .none = isNone d := by
  cases d <;> simp [PyData.eqv, isNone]
theorem shaped_of {ds : List PyData} (h : ∀ d ∈ ds, okD d) : SeqAt.shaped (.list ds) = true := by
  unfold SeqAt.shaped
  rw [PyData.canLay0, PyData.depth, canLayAll_of fun d q => (h d q).2.1]
  have := depthAll_le (m := 2) (ds := ds) fun d q => (h d q).2.2
  rw [decide_eq_true (show PyData.depthAll ds + 1 ≤ 64 by omega)]
  rfl
theorem zip_range (ks ws : List Str) (h : ws.length = ks.length) : (List.range ks.length).map (fun i => rdWord (ks.getD i "") (ws.getD i "")) = List.zipWith rdWord ks ws := by
  refine List.ext_getElem (by simp [h]) fun i h1 h2 => ?_
  have hi : i < ks.length := by simpa using h1
  simp [hi, h]
section
variable {P : Program} {w : World} {K : PySem.W.Frag} {mg : Str → Option Value} {base : Heap} {tL : Tok} {es : Array DictEntry} {nF : Nat} {τ : Tks}
/-- what read_words tells -/
def WsAt (K : PySem.W.Frag) (H H' : Hp) (v : V) : Option (List PyData) → Prop
  | none => v = .non
  | some ds => ∃ p ys, v = .ref p ∧ H p = none ∧ H' p = some (.lst ys) ∧ DpAll K H' ys ds
def spWs (K : PySem.W.Frag) : Sp := fun vs H Q _ => ∃ (a b : Addr) (ks ws : List Str), vs = [.ref a, .ref b] ∧ SqT K H a (ks.map V.str) ∧ SqL K H b (ws.map V.str) ∧ (∀ k ∈ ks, k ∈ kinds8) ∧ ks.length ≤ 10 ∧ (∀ z ∈ ws, z.length ≤ 900000) ∧ ∀ v H', Same H H' → WsAt K H H' v (rdWords ks ws) → Q v H'
abbrev s_read_words : Stmt := topS 50
theorem sc_read_words : FnScope [("kinds" : Str), ("words" : Str), ("parts" : Str), ("kind" : Str), ("word" : Str)] ["kinds", "words"] (defScope s_read_words) := ⟨rfl, rfl, rfl, by decide +kernel, rfl, by decide +kernel, by decide +kernel⟩
theorem ok_read_words {f : Addr} {fd : FuncData} (F : FnP K "read_words" s_read_words f fd) (T : Bw K w mg tL es nF τ) (c_read_word : Cal P w K mg base "read_word" ["kind", "word"] 10 (spKZ K (fun k => k ∈ kinds8) rdWord)) : FnOk P w K mg base CX0 11 f fd ["kinds", "words"] (spWs K) := by
  refine F.ok sc_read_words (fun vs H Q E h => ?_) (fun cdv A outer s H vs Q E hr h => ?_)
  · obtain ⟨a, b, ks, ws, rfl, _⟩ := h
    rfl
  · obtain ⟨a, b, ks, ws, rfl, ha, hb, hk, hkl, hw, k⟩ := h
    refine ⟨_, PSs.nox (pss_cons (ps_if (pt_cmpR op_ne (pe_callB call_len_seq (by rfl) T.n_len PySem.boot_len (pa_cons (pv 1) pa_nil)) (pe_callB call_len_seq (by rfl) T.n_len PySem.boot_len (pa_cons (pv 0) pa_nil)) (nomark _)) (pss_one (ps_ret pe_non)) pss_nil) (pss_cons (ps_setLc (i := 2) (own := [(("kind" : Str), 3), (("word" : Str), 4)]) (g := gTup K 2 (gCons (gName 3) (gCons (gName 4) (gNil)))) (te := tCall (spKZ K (fun k => k ∈ kinds8) rdWord) [] E0 (tCons (tVar 3) (tCons (tVar 4) tNil))) rfl sc_read_words.nd rfl rfl (sw_true rfl rfl rfl (by decide +kernel)) (pi_zipM (by rfl) T.n_zip (pa_cons (pv 0) (pa_cons (pv 1) pa_nil))) (blkOk_by (N := [("kinds" : Str), ("words" : Str), ("parts" : Str), ("kind" : Str), ("word" : Str)]) (sc := defScope s_read_words) (by decide +kernel)) (fun _ _ _ _ _ => by exact (pg_tup rfl (pgs_cons (pg_name (i := 3) sc_read_words.nd rfl (by first | exact .inl rfl | exact .inr rfl)) (pgs_cons (pg_name (i := 4) sc_read_words.nd rfl (by first | exact .inl rfl | exact .inr rfl)) pgs_nil)))) (fun _ _ _ _ _ => pts_nil) (fun _ _ _ _ _ => (pe_cal c_read_word (hr.mono (by decide)) (by rfl) pass0 (pa_cons (pv 3) (pa_cons (pv 4) pa_nil))))) (pss_one (ps_ret (pe_ifExp (pt_cmpR (op_inDD hr) pe_non (pv 2) (by rfl)) pe_non (pv 2)))))), ?_⟩
    unfold rdWords at k
    refine ⟨_, rfl, b, _, rfl, .inl hb, _, rfl, a, _, rfl, .inr ha, rfl, _, rfl, ?_⟩
    rw [List.length_map, List.length_map]
    refine iteLen (fun hne => ?_) (fun heq => ?_)
    · rw [if_neg (show ¬ ws.length = ks.length by omega)] at k
      exact k _ _ (Same.refl H) rfl
    · have hl : ws.length = ks.length := by omega
      rw [if_pos hl] at k
      refine ⟨_, rfl, _, rfl, a, b, _, _, rfl, ha, hb, fun D hD => ?_⟩
      refine lc_noL (K := K) (walk_zipM (xs := ks.map V.str) (ys := ws.map V.str) (by simp [hl])) (fun i => rdWord (ks.getD i "") (ws.getD i "")) hD (by rw [List.length_map]; omega) (fun i _ => (rdWord_ok _ _).1) (fun H' s1 => ⟨Same.tup s1 ha, s1.seq hb⟩) ?_ ?_
      · rintro i v H' H'' Qe hi s1 ⟨tp, y1, y2, rfl, htp, rfl, hk1, hk2⟩ q
        have hi : i < ks.length := by simpa using hi
        have hi2 : i < ws.length := by omega
        have e1 : y1 = .str (ks.getD i "") := by
          have hk1 : (ks.map V.str)[i]? = some y1 := hk1
          rw [List.getElem?_map, List.getElem?_eq_getElem hi] at hk1
          rw [List.getD_eq_getElem?_getD, List.getElem?_eq_getElem hi]
          exact (Option.some.inj hk1).symm
        have e2 : y2 = .str (ws.getD i "") := by
          have hk2 : (ws.map V.str)[i]? = some y2 := hk2
          rw [List.getElem?_map, List.getElem?_eq_getElem hi2] at hk2
          rw [List.getD_eq_getElem?_getD, List.getElem?_eq_getElem hi2]
          exact (Option.some.inj hk2).symm
        subst e1 e2
        have sT := same_upd (o := .tup [.str (ks.getD i ""), .str (ws.getD i "")]) htp
        refine ⟨tp, [_, _], rfl, sqT_new, rfl, _, [_], rfl, _, [], rfl, rfl, rfl, ?_⟩
        refine ⟨_, rfl, _, rfl, _, _, rfl, ?_, ?_, fun v H4 s4 d4 => q v H4 (sT.trans s4) d4⟩
        · rw [List.getD_eq_getElem?_getD, List.getElem?_eq_getElem hi]
          exact hk _ (List.getElem_mem hi)
        · rw [List.getD_eq_getElem?_getD, List.getElem?_eq_getElem hi2]
          exact hw _ (List.getElem_mem hi2)
      · intro H' ys s1 hl1 hd1
        rw [List.length_map, zip_range ks ws hl] at hd1
        have okz : ∀ d ∈ List.zipWith rdWord ks ws, okD d := fun d hd => by
          obtain ⟨i, hi, rfl⟩ := List.getElem_of_mem hd
          rw [List.getElem_zipWith]
          exact rdWord_ok _ _
        refine ⟨_, rfl, .none, _, .non, .lst (.inl (.inl hl1)) hd1, (by decide +kernel), shaped_of okz, _, rfl, ?_⟩
        have e : ((List.zipWith rdWord ks ws).any fun z => PyData.eqv z .none) = (List.zipWith rdWord ks ws).any isNone := by
          congr 1
          funext z
          exact eqv_none z
        rw [e]
        refine ite2 (fun e => ?_) (fun e => ?_)
        · rw [if_pos e] at k
          exact k _ _ s1 rfl
        · rw [if_neg e] at k
          exact ⟨_, rfl, k _ _ s1 ⟨D, ys, rfl, hD, hl1, hd1⟩⟩
end
end Kin
namespace Kin
open PySem PySem.Spec PyProof.Rows L2
def WsOk (ws : List Str) : Prop := ws.length ≤ 900001 ∧ ∀ z ∈ ws, z.length ≤ 900000 ∧ PyData.strOk z = true
theorem shaped_strsL {ss : List Str} (h : ∀ s ∈ ss, PyData.strOk s = true) : SeqAt.shaped (.list (ss.map PyData.str)) = true := shaped_of fun d hd => by
  obtain ⟨z, hz, rfl⟩ := List.mem_map.mp hd
  exact okD_str (h z hz)
theorem atI_map {ws : List Str} {i : Nat} {z : Str} (h : ws[i]? = some z) : atI (ws.map V.str) (i : Int) = some (.str z) := by
  have hi : i < ws.length := (List.getElem?_eq_some_iff.mp h).1
  unfold atI ixN
  rw [if_pos (by omega), if_pos (by rw [List.length_map]; omega)]
  show (ws.map V.str)[((i : Nat) : Int).toNat]? = _
  rw [Int.toNat_natCast, List.getElem?_map, h]
  rfl
section
variable {P : Program} {w : World} {K : PySem.W.Frag} {mg : Str → Option Value} {base : Heap} {tL : Tok} {es : Array DictEntry} {nF : Nat} {τ : Tks}
def spRd (K : PySem.W.Frag) (ok : List Str → Prop) (f : List Str → PyData) : Sp := fun vs H Q _ => ∃ (b : Addr) (ws : List Str), vs = [.ref b] ∧ SqL K H b (ws.map V.str) ∧ WsOk ws ∧ ok ws ∧ ∀ v H', Same H H' → Dp K H' v (f ws) → Q v H'
abbrev s_read_wait : Stmt := topS 52
theorem sc_read_wait : FnScope [("words" : Str), ("stops" : Str), ("child" : Str)] ["words"] (defScope s_read_wait) := ⟨rfl, rfl, rfl, by decide +kernel, rfl, by decide +kernel, by decide +kernel⟩
theorem ok_read_wait {f : Addr} {fd : FuncData} (F : FnP K "read_wait" s_read_wait f fd) (T : Bw K w mg tL es nF τ) (c_read_number : Cal P w K mg base "read_number" ["word"] 2 (spZ K fun z => oI (rdNum z))) : FnOk P w K mg base CX0 3 f fd ["words"] (spRd K (fun _ => True) rdWait) := by
  refine F.ok sc_read_wait (fun vs H Q E h => ?_) (fun cdv A outer s H vs Q E hr h => ?_)
  · obtain ⟨b, ws, rfl, _⟩ := h
    rfl
  · obtain ⟨b, ws, rfl, hb, hw, _, k⟩ := h
    refine ⟨_, PSs.nox (pss_cons (ps_set (i := 1) sc_read_wait.nd rfl (by first | exact .inl rfl | exact .inr rfl) (pe_cmpR (op_eqD hr.units) (pe_slice sl_list (pv 0) (po_some pe_int) po_none) (pe_lst (pa_cons pe_str pa_nil)) (nomark _))) (Evl.pss_cut (ps_if (PW.pt (pw_and (pt_not (pt_val (pv 1))) (pw_and1 (pt_cmpR op_ne (pe_callB call_len_seq (by rfl) T.n_len PySem.boot_len (pa_cons (pv 0) pa_nil)) pe_int (nomark _))))) (pss_one (ps_ret pe_non)) pss_nil) (pss_cons (ps_if (pt_cmpR op_eq (pe_ix ix_list (pv 0) pe_int (fun _ _ => rfl)) pe_str (nomark _)) (pss_one (ps_ret (pe_tup (pa_cons pe_str (pa_cons pe_non (pa_cons (pv 1) pa_nil)))))) pss_nil) (pss_cons (ps_set (i := 2) sc_read_wait.nd rfl (by first | exact .inl rfl | exact .inr rfl) (pe_cal c_read_number (hr.mono (by decide)) (by rfl) pass0 (pa_cons (pe_ix ix_list (pv 0) pe_int (fun _ _ => rfl)) pa_nil))) (pss_one (ps_ret (pe_ifExp (pt_cmpR op_isN (pv 2) pe_non (nomark _)) pe_non (pe_tup (pa_cons pe_str (pa_cons (pv 2) (pa_cons (pv 1) pa_nil))))))))))), ?_⟩
    unfold rdWait at k
    refine ⟨_, rfl, _, rfl, b, _, rfl, hb, fun p np => ?_⟩
    rw [cut1, ← List.map_drop]
    have s1 := same_upd (o := .lst ((ws.drop 1).map V.str)) np
    refine ⟨(by show 1 ≤ sizeLine; decide), fun q nq => ?_⟩
    have s2 := s1.trans (same_upd (o := .lst [.str "stops"]) nq)
    refine ⟨.list ((ws.drop 1).map PyData.str), .list ((["stops"] : List Str).map PyData.str), .lst (.inl (.inl ((same_upd nq) _ _ upd_same))) (dpA_strs _), .lst sqL_new (dpA_strs ["stops"]), shaped_strsL fun z hz => (hw.2 z (List.mem_of_mem_drop hz)).2, shaped_strsL (by decide +kernel), ?_⟩
    rw [eqv_strs]
    generalize hst : decide (ws.drop 1 = (["stops"] : List Str)) = st at k ⊢
    have hb2 := s2.seq hb
    generalize upd (upd H p _) q _ = H2 at s2 hb2 ⊢
    refine ⟨fun σ' H' => σ' = [some (.ref b), some (.bl st), none] ∧ H' = H2 ∧ ¬ (st = false ∧ ws.length ≠ 1), ?_, ?_⟩
    · refine ⟨_, rfl, _, rfl, ?_⟩
      cases st with
      | true => exact iteF ⟨rfl, rfl, fun q => by cases q.1⟩
      | false =>
        refine iteT ⟨_, rfl, b, _, rfl, .inl hb2, rfl, _, rfl, ?_⟩
        rw [List.length_map]
        refine iteLen (fun h => ?_) (fun h => ?_)
        · rw [if_pos ⟨rfl, by omega⟩] at k
          exact k _ _ s2 .non
        · exact ⟨rfl, rfl, fun q => q.2 (by omega)⟩
    · rintro σ' H' ⟨rfl, rfl, hn⟩
      rw [if_neg hn] at k
      cases ws with
      | nil =>
        cases st with
        | true => exact absurd (of_decide_eq_true hst) (by simp)
        | false => exact absurd ⟨rfl, by decide⟩ hn
      | cons z r =>
        have k : ∀ v H', Same H H' → Dp K H' v (if z = "any" then .tuple [.str "wait", .none, .bool st] else match rdNum z with
          | none => .none
          | some n => .tuple [.str "wait", .int n, .bool st]) → Q v H' := k
        refine ⟨_, rfl, b, _, 0, _, rfl, rfl, hb2, at0 _ _, rfl, _, rfl, ?_⟩
        rw [dec_str]
        refine ite2 (fun e => ?_) (fun e => ?_)
        · rw [if_pos (of_decide_eq_true e)] at k
          exact ⟨_, rfl, (by show 3 ≤ sizeLine; decide), fun p np => k _ _ (s2.trans (same_upd np)) (.tup sqT_new (.cons (.str _) (.cons .non (.cons (.bl _) .nil))))⟩
        · rw [if_neg (fun q => e (decide_eq_true q))] at k
          refine ⟨_, rfl, b, _, 0, _, rfl, rfl, hb2, at0 _ _, z, rfl, (hw.2 z List.mem_cons_self).1, fun v H3 s3 d3 => ?_⟩
          have d3 : Dp K H3 v (oI (rdNum z)) := d3
          refine ⟨_, rfl, rfl, _, rfl, ?_⟩
          rw [non_dec d3]
          cases hz : rdNum z with
          | none =>
            rw [hz] at k
            exact iteT (k _ _ (s2.trans s3) .non)
          | some n =>
            rw [hz] at d3 k
            cases d3
            exact iteF ⟨_, rfl, _, rfl, (by show 3 ≤ sizeLine; decide), fun p np => k _ _ ((s2.trans s3).trans (same_upd np)) (.tup sqT_new (.cons (.str _) (.cons (.int _) (.cons (.bl _) .nil))))⟩
abbrev s_read_handle : Stmt := topS 53
theorem sc_read_handle : FnScope [("words" : Str), ("parts" : Str)] ["words"] (defScope s_read_handle) := ⟨rfl, rfl, rfl, by decide +kernel, rfl, by decide +kernel, by decide +kernel⟩
theorem ok_read_handle {f : Addr} {fd : FuncData} (F : FnP K "read_handle" s_read_handle f fd) (T : Bw K w mg tL es nF τ) (c_read_words : Cal P w K mg base "read_words" ["kinds", "words"] 11 (spWs K)) : FnOk P w K mg base CX0 12 f fd ["words"] (spRd K (fun _ => True) rdHandle) := by
  refine F.ok sc_read_handle (fun vs H Q E h => ?_) (fun cdv A outer s H vs Q E hr h => ?_)
  · obtain ⟨b, ws, rfl, _⟩ := h
    rfl
  · obtain ⟨b, ws, rfl, hb, hw, _, k⟩ := h
    refine ⟨_, PSs.nox (Evl.pss_cut (ps_if (PW.pt (pw_and (pt_cmpR op_eq (pe_callB call_len_seq (by rfl) T.n_len PySem.boot_len (pa_cons (pv 0) pa_nil)) pe_int (nomark _)) (pw_and1 (pt_cmpR op_in_seq (pe_ix ix_list (pv 0) pe_int (fun _ _ => rfl)) (pe_tup (pa_cons pe_str (pa_cons pe_str pa_nil))) (by rfl))))) (pss_cons (ps_set (i := 1) sc_read_handle.nd rfl (by first | exact .inl rfl | exact .inr rfl) (pe_cal c_read_words (hr.mono (by decide)) (by rfl) pass0 (pa_cons (pe_tup (pa_cons pe_str pa_nil)) (pa_cons (pe_slice sl_list (pv 0) po_none (po_some pe_int)) pa_nil)))) (pss_one (ps_ret (pe_ifExp (pt_cmpR op_isN (pv 1) pe_non (nomark _)) pe_non (pe_tup (pa_cons pe_str (pa_cons (pe_ix ix_list (pv 1) pe_int (fun _ _ => rfl)) (pa_cons (pe_ix ix_list (pv 0) pe_int (fun _ _ => rfl)) pa_nil)))))))) pss_nil) (pss_cons (ps_set (i := 1) sc_read_handle.nd rfl (by first | exact .inl rfl | exact .inr rfl) (pe_cal c_read_words (hr.mono (by decide)) (by rfl) pass0 (pa_cons (pe_tup (pa_cons pe_str (pa_cons pe_str (pa_cons pe_str pa_nil)))) (pa_cons (pv 0) pa_nil)))) (pss_one (ps_ret (pe_ifExp (pt_cmpR op_isN (pv 1) pe_non (nomark _)) pe_non (pe_tup (pa_cons pe_str (pa_cons (pe_ix ix_list (pv 1) pe_int (fun _ _ => rfl)) (pa_cons (pe_tup (pa_cons (pe_ix ix_list (pv 1) pe_int (fun _ _ => rfl)) (pa_cons (pe_ix ix_list (pv 1) pe_int (fun _ _ => rfl)) pa_nil))) pa_nil))))))))), ?_⟩
    unfold rdHandle at k
    refine ⟨fun σ' H' => σ' = [some (.ref b), none] ∧ Same H H' ∧ ¬ (ws.length = 2 ∧ ws.getD 1 "" ∈ (["plain", "ignore"] : List Str)), ?_, ?_⟩
    · refine ⟨_, rfl, b, _, rfl, .inl hb, rfl, _, rfl, ?_⟩
      rw [List.length_map]
      refine iteLenE (fun h2 => ?_) (fun h2 => ?_)
      · obtain ⟨z0, z1, rfl⟩ : ∃ z0 z1, ws = [z0, z1] := by
          match ws, h2 with
          | [z0, z1], _ => exact ⟨z0, z1, rfl⟩
        refine ⟨_, rfl, b, _, 1, _, rfl, rfl, hb, rfl, (by show 2 ≤ sizeLine; decide), fun p np => ⟨p, (["plain", "ignore"] : List Str).map V.str, rfl, .inr sqT_new, rfl, flat_strs _, _, rfl, ?_⟩⟩
        have s1 := same_upd (o := .tup ((["plain", "ignore"] : List Str).map V.str)) np
        refine ite_in (fun e => ?_) (fun e => ?_)
        · rw [if_pos ⟨rfl, e⟩] at k
          refine ⟨(by show 1 ≤ sizeLine; decide), fun t nt => ?_⟩
          have s2 := s1.trans (same_upd (o := .tup [.str "signal"]) nt)
          refine ⟨_, rfl, _, rfl, b, _, rfl, s2.seq hb, fun c nc => ?_⟩
          have s3 := s2.trans (same_upd (o := .lst (cutV (([z0, z1] : List Str).map V.str) none (some 1))) nc)
          refine ⟨t, c, ["signal"], [z0], rfl, Same.tup (same_upd nc) sqT_new, sqL_new, by decide, by decide, fun z hz => by rw [List.mem_singleton.mp hz]; exact (hw.2 z0 List.mem_cons_self).1, fun v H4 s4 w4 => ?_⟩
          refine ⟨_, rfl, rfl, _, rfl, ?_⟩
          have k : ∀ v H', Same H H' → Dp K H' v (match rdWords ["signal"] [z0] with
            | some [s] => .tuple [.str "handle", s, .str z1]
            | _ => .none) → Q v H' := k
          generalize hrw : rdWords ["signal"] [z0] = o at k w4
          have hlen : ∀ ds, o = some ds → ds.length = 1 := fun ds e => by
            rw [e] at hrw
            unfold rdWords at hrw
            split at hrw
            · split at hrw
              · cases hrw
              · cases hrw
                rfl
            · cases hrw
          cases o with
          | none =>
            cases w4
            exact iteT (k _ _ (s3.trans s4) .non)
          | some ds =>
            obtain ⟨p5, ys, rfl, hp5, hl5, hd5⟩ := w4
            match ds, hlen _ rfl, hd5 with
            | [d], _, .cons h1 .nil =>
              exact iteF ⟨_, rfl, p5, _, 0, _, rfl, rfl, .inl (.inl hl5), at0 _ _, _, rfl, b, _, 1, _, rfl, rfl, (s3.trans s4).seq hb, rfl, (by show 3 ≤ sizeLine; decide), fun p np => k _ _ ((s3.trans s4).trans (same_upd np)) (.tup sqT_new (.cons (.str _) (.cons (dp_mono (same_upd np) h1) (.cons (.str _) .nil))))⟩
        · exact ⟨rfl, s1, fun q => e q.2⟩
      · exact ⟨rfl, Same.refl H, fun q => h2 (by rw [q.1]; rfl)⟩
    · rintro σ' H1 ⟨rfl, s1, hn⟩
      rw [if_neg hn] at k
      refine ⟨(by show 3 ≤ sizeLine; decide), fun t nt => ?_⟩
      have s2 := s1.trans (same_upd (o := .tup [.str "signal", .str "row", .str "signals"]) nt)
      refine ⟨_, rfl, t, b, ["signal", "row", "signals"], ws, rfl, sqT_new, s2.seq hb, by decide, by decide, fun z hz => (hw.2 z hz).1, fun v H4 s4 w4 => ?_⟩
      refine ⟨_, rfl, rfl, _, rfl, ?_⟩
      generalize hrw : rdWords ["signal", "row", "signals"] ws = o at k w4
      have hlen : ∀ ds, o = some ds → ds.length = 3 := fun ds e => by
        rw [e] at hrw
        unfold rdWords at hrw
        split at hrw
        · rename_i hl
          split at hrw
          · cases hrw
          · cases hrw
            rw [List.length_zipWith, hl]
            rfl
        · cases hrw
      cases o with
      | none =>
        cases w4
        exact iteT (k _ _ (s2.trans s4) .non)
      | some ds =>
        obtain ⟨p5, ys, rfl, hp5, hl5, hd5⟩ := w4
        match ds, hlen _ rfl, hd5 with
        | [d0, d1, d2], _, .cons h0 (.cons h1 (.cons h2 .nil)) =>
          refine iteF ⟨_, rfl, p5, _, 0, _, rfl, rfl, .inl (.inl hl5), at0 _ _, _, rfl, p5, _, 1, _, rfl, rfl, .inl (.inl hl5), rfl, _, rfl, p5, _, 2, _, rfl, rfl, .inl (.inl hl5), rfl, (by show 2 ≤ sizeLine; decide), fun p np => ?_⟩
          refine ⟨(by show 3 ≤ sizeLine; decide), fun q nq => k _ _ (((s2.trans s4).trans (same_upd np)).trans (same_upd nq)) ?_⟩
          exact .tup sqT_new (.cons (.str _) (.cons (dp_mono ((same_upd np).trans (same_upd nq)) h0) (.cons (.tup (Same.tup (same_upd nq) sqT_new) (.cons (dp_mono ((same_upd np).trans (same_upd nq)) h1) (.cons (dp_mono ((same_upd np).trans (same_upd nq)) h2) .nil))) .nil)))
end
end Kin
namespace Kin
open PySem PySem.Spec PyProof.Rows L2
section
variable {P : Program} {w : World} {K : PySem.W.Frag} {mg : Str → Option Value} {base : Heap} {tL : Tok} {es : Array DictEntry} {nF : Nat} {τ : Tks}
theorem WsOk.drop {ws : List Str} (h : WsOk ws) (n : Nat) : WsOk (ws.drop n) := ⟨by rw [List.length_drop]; have := h.1; omega, fun z hz => h.2 z (List.mem_of_mem_drop hz)⟩
abbrev s_read_row : Stmt := topS 54
theorem sc_read_row : FnScope [("words" : Str), ("parts" : Str)] ["words"] (defScope s_read_row) := ⟨rfl, rfl, rfl, by decide +kernel, rfl, by decide +kernel, by decide +kernel⟩
theorem ok_read_row {f : Addr} {fd : FuncData} (F : FnP K "read_row" s_read_row f fd) (T : Bw K w mg tL es nF τ) (c_read_wait : Cal P w K mg base "read_wait" ["words"] 3 (spRd K (fun _ => True) rdWait)) (c_read_handle : Cal P w K mg base "read_handle" ["words"] 12 (spRd K (fun _ => True) rdHandle)) (c_read_words : Cal P w K mg base "read_words" ["kinds", "words"] 11 (spWs K)) : FnOk P w K mg base CX0 13 f fd ["words"] (spRd K (fun ws => ws ≠ []) rdRow) := by
  refine F.ok sc_read_row (fun vs H Q E h => ?_) (fun cdv A outer s H vs Q E hr h => ?_)
  · obtain ⟨b, ws, rfl, _⟩ := h
    rfl
  · obtain ⟨b, ws, rfl, hb, hw, hne, k⟩ := h
    refine ⟨_, PSs.nox (pss_cons (ps_if (pt_cmpR (op_notIn_kd T.kd) (pe_ix ix_list (pv 0) pe_int (fun _ _ => rfl)) (pe_glob (by rfl) T.g_FORMS T.r_FORMS) (by rfl)) (pss_one (ps_ret pe_non)) pss_nil) (pss_cons (ps_if (pt_cmpR op_eq (pe_ix ix_list (pv 0) pe_int (fun _ _ => rfl)) pe_str (nomark _)) (pss_one (ps_ret (pe_cal c_read_wait (hr.mono (by decide)) (by rfl) pass0 (pa_cons (pe_slice sl_list (pv 0) (po_some pe_int) po_none) pa_nil)))) pss_nil) (pss_cons (ps_if (pt_cmpR op_eq (pe_ix ix_list (pv 0) pe_int (fun _ _ => rfl)) pe_str (nomark _)) (pss_one (ps_ret (pe_cal c_read_handle (hr.mono (by decide)) (by rfl) pass0 (pa_cons (pe_slice sl_list (pv 0) (po_some pe_int) po_none) pa_nil)))) pss_nil) (pss_cons (ps_set (i := 1) sc_read_row.nd rfl (by first | exact .inl rfl | exact .inr rfl) (pe_cal c_read_words (hr.mono (by decide)) (by rfl) pass0 (pa_cons (pe_ix ix_kdict (pe_glob (by rfl) T.g_FORMS T.r_FORMS) (pe_ix ix_list (pv 0) pe_int (fun _ _ => rfl)) (fun _ _ => rfl)) (pa_cons (pe_slice sl_list (pv 0) (po_some pe_int) po_none) pa_nil)))) (pss_one (ps_ret (pe_ifExp (pt_cmpR op_isN (pv 1) pe_non (nomark _)) pe_non (pe_tup (pa_cons (pe_ix ix_list (pv 0) pe_int (fun _ _ => rfl)) (StX.pa_star (pv 1) pa_nil)))))))))), ?_⟩
    cases ws with
    | nil => exact absurd rfl hne
    | cons z r =>
      have k : ∀ v H', Same H H' → Dp K H' v (match forms.lookup z with
        | none => .none
        | some ks => if z = "wait" then rdWait r else if z = "handle" then rdHandle r else oRow z (rdWords ks r)) → Q v H' := k
      have hdr : WsOk r := hw.drop 1
      cases hf : forms.lookup z with
      | none =>
        rw [hf] at k
        exact ⟨_, rfl, b, _, 0, _, rfl, rfl, hb, at0 _ _, _, _, rfl, rfl, T.fno z hf, _, rfl, iteT (k _ _ (Same.refl H) .non)⟩
      | some ks =>
        rw [hf] at k
        obtain ⟨aF, hF, hT⟩ := T.fyes z ks hf
        refine ⟨_, rfl, b, _, 0, _, rfl, rfl, hb, at0 _ _, _, _, rfl, rfl, hF, _, rfl, iteF ?_⟩
        refine ⟨_, rfl, b, _, 0, _, rfl, rfl, hb, at0 _ _, rfl, _, rfl, ?_⟩
        rw [dec_str]
        refine ite2 (fun e => ?_) (fun e => ?_)
        · have k : ∀ v H', Same H H' → Dp K H' v (rdWait r) → Q v H' := fun v H' s1 d1 => k v H' s1 (by
            show Dp K H' v (if z = "wait" then rdWait r else _)
            rw [if_pos (of_decide_eq_true e)]
            exact d1)
          refine ⟨_, rfl, _, rfl, b, _, rfl, hb, fun p np => ⟨p, r, rfl, ?_, hdr, True.intro, fun v H' s1 d1 => k v H' ((same_upd np).trans s1) d1⟩⟩
          rw [cut1]
          exact sqL_new
        · have e : ¬ z = "wait" := fun q => e (decide_eq_true q)
          refine ⟨_, rfl, b, _, 0, _, rfl, rfl, hb, at0 _ _, rfl, _, rfl, ?_⟩
          rw [dec_str]
          refine ite2 (fun e2 => ?_) (fun e2 => ?_)
          · have k : ∀ v H', Same H H' → Dp K H' v (rdHandle r) → Q v H' := fun v H' s1 d1 => k v H' s1 (by
              show Dp K H' v (if z = "wait" then rdWait r else if z = "handle" then rdHandle r else _)
              rw [if_neg e, if_pos (of_decide_eq_true e2)]
              exact d1)
            refine ⟨_, rfl, _, rfl, b, _, rfl, hb, fun p np => ⟨p, r, rfl, ?_, hdr, True.intro, fun v H' s1 d1 => k v H' ((same_upd np).trans s1) d1⟩⟩
            rw [cut1]
            exact sqL_new
          · have e2 : ¬ z = "handle" := fun q => e2 (decide_eq_true q)
            have k : ∀ v H', Same H H' → Dp K H' v (oRow z (rdWords ks r)) → Q v H' := fun v H' s1 d1 => k v H' s1 (by
              show Dp K H' v (if z = "wait" then rdWait r else if z = "handle" then rdHandle r else oRow z (rdWords ks r))
              rw [if_neg e, if_neg e2]
              exact d1)
            refine ⟨_, rfl, b, _, 0, _, rfl, rfl, hb, at0 _ _, _, _, .ref aF, rfl, rfl, ⟨_, _, _, T.kd.at_, T.kd.lit, hF, rfl⟩, _, rfl, _, rfl, b, _, rfl, hb, fun p np => ?_⟩
            have hkl : ks.length ≤ 2 := by
              have hm : ∀ q ∈ forms, q.2.length ≤ 2 := by decide +kernel
              exact hm (z, ks) (mem_of_lookup hf)
            refine ⟨aF, p, ks, r, rfl, hT _, ?_, forms_kinds hf e e2, by omega, fun z hz => (hdr.2 z hz).1, fun v H4 s4 w4 => ?_⟩
            · rw [cut1]
              exact sqL_new
            have s5 := (same_upd np).trans s4
            refine ⟨_, rfl, rfl, _, rfl, ?_⟩
            generalize hrw : rdWords ks r = o at k w4
            cases o with
            | none =>
              cases w4
              exact iteT (k _ _ s5 .non)
            | some ds =>
              obtain ⟨p5, ys, rfl, hp5, hl5, hd5⟩ := w4
              refine iteF ⟨_, rfl, b, _, 0, _, rfl, rfl, s5.seq hb, at0 _ _, _, rfl, ?_⟩
              have hl9 : ys.length ≤ 2 := by
                rw [dpA_len hd5]
                unfold rdWords at hrw
                split at hrw
                · split at hrw
                  · cases hrw
                  · cases hrw
                    rw [List.length_zipWith]
                    omega
                · cases hrw
              refine ⟨p5, ys, rfl, .inr (.inl (.inl hl5)), ?_, fun q nq => k _ _ (s5.trans (same_upd nq)) (.tup sqT_new (.cons (.str _) ?_))⟩
              · rw [List.append_nil, List.length_cons]
                exact Nat.le_trans (Nat.succ_le_succ hl9) (by decide)
              · rw [List.append_nil]
                exact dpA_mono (same_upd nq) hd5
end
end Kin
namespace Kin
open PySem PySem.Spec PyProof.Rows L2
abbrev Pg := Str × List PyData
/-- a program under way: its title, and its rows in a list of their own -/
def PgAt (K : PySem.W.Frag) (H0 H : Hp) (x : Addr × Addr) (q : Pg) : Prop := H x.1 = some (.tup [.str q.1, .ref x.2]) ∧ H0 x.2 = none ∧ ∃ rv, H x.2 = some (.lst rv) ∧ DpAll K H rv q.2 ∧ ∀ r ∈ q.2, noL r = true
/-- programs under way, all of them made behind H0 -/
structure PgsAt (K : PySem.W.Frag) (H0 H : Hp) (p : Addr) (ps : List Pg) : Prop where
  same : Same H0 H
  new : H0 p = none
  ex : ∃ xs : List (Addr × Addr), H p = some (.lst (xs.map fun x => V.ref x.1)) ∧ Paired (PgAt K H0 H) xs ps ∧ (xs.map (·.2)).Nodup ∧ ∀ x ∈ xs, x.2 ≠ p
theorem PgAt.lift {K : PySem.W.Frag} {H0 H H' : Hp} {x : Addr × Addr} {q : Pg} (h : PgAt K H0 H x q) (s : Same H H') : PgAt K H0 H' x q := by
  obtain ⟨a, b, rv, c, d, e⟩ := h
  exact ⟨s _ _ a, b, rv, s _ _ c, dpA_mono s d, e⟩
theorem PgAt.mut {K : PySem.W.Frag} {H0 H : Hp} {x : Addr × Addr} {q : Pg} {D : Addr} {acc acc' : List V} (h : PgAt K H0 H x q) (hD : H D = some (.lst acc)) (ne : x.2 ≠ D) : PgAt K H0 (upd H D (.lst acc')) x q := by
  obtain ⟨a, b, rv, c, d, e⟩ := h
  have n1 : x.1 ≠ D := fun z => by
    rw [z, hD] at a
    cases a
  exact ⟨by rw [upd_ne n1]; exact a, b, rv, by rw [upd_ne ne]; exact c, dpA_noL (fun b xs h => sqT_lst hD b xs h) (noLAll_of e) d, e⟩
theorem pd_mono {α β : Type} {R R' : α → β → Prop} : ∀ {l : List α} {m : List β}, Paired R l m → (∀ x y, x ∈ l → R x y → R' x y) → Paired R' l m
  | _, _, .nil, _ => .nil
  | _, _, .cons h t, f => .cons (f _ _ List.mem_cons_self h) (pd_mono t fun x y q => f x y (List.mem_cons_of_mem _ q))
theorem pd_snoc {α β : Type} {R : α → β → Prop} {a : α} {b : β} : ∀ {l : List α} {m : List β}, Paired R l m → R a b → Paired R (l ++ [a]) (m ++ [b])
  | _, _, .nil, h => .cons h .nil
  | _, _, .cons h t, h' => .cons h (pd_snoc t h')
theorem PgsAt.lift {K : PySem.W.Frag} {H0 H H' : Hp} {p : Addr} {ps : List Pg} (h : PgsAt K H0 H p ps) (s : Same H H') : PgsAt K H0 H' p ps := by
  obtain ⟨xs, a, b, c, d⟩ := h.ex
  exact ⟨h.same.trans s, h.new, xs, s _ _ a, pd_mono b fun x y _ q => PgAt.lift q s, c, d⟩
theorem pd_unsnoc {α β : Type} {R : α → β → Prop} {b : β} : ∀ {l : List α} {m : List β}, Paired R l (m ++ [b]) → ∃ l' a, l = l' ++ [a] ∧ Paired R l' m ∧ R a b
  | _, [], .cons h .nil => ⟨[], _, rfl, .nil, h⟩
  | _, _ :: m, .cons h t => by
    obtain ⟨l', a, rfl, h1, h2⟩ := pd_unsnoc t
    exact ⟨_ :: l', a, rfl, .cons h h1, h2⟩
theorem atI_last {α : Type} (l : List α) (a : α) : atI (l ++ [a]) (-1) = some a := by
  have e : ixN (l ++ [a]).length (-1) = some l.length := by
    unfold ixN
    rw [List.length_append, List.length_singleton]
    rw [if_neg (by decide), if_pos (by omega)]
    congr 1
    omega
  unfold atI
  rw [e]
  show (l ++ [a])[l.length]? = _
  simp
def lacks (ps : List Pg) : Bool := match ps.getLast? with
  | none => false
  | some q => q.2.isEmpty
section
variable {P : Program} {w : World} {K : PySem.W.Frag} {mg : Str → Option Value} {base : Heap} {tL : Tok} {es : Array DictEntry} {nF : Nat} {τ : Tks}
def spLacks (K : PySem.W.Frag) : Sp := fun vs H Q _ => ∃ (p : Addr) (H0 : Hp) (ps : List Pg), vs = [.ref p] ∧ PgsAt K H0 H p ps ∧ Q (.bl (lacks ps)) H
abbrev s_lacks_rows : Stmt := topS 55
theorem sc_lacks_rows : FnScope [("programs" : Str)] ["programs"] (defScope s_lacks_rows) := ⟨rfl, rfl, rfl, by decide +kernel, rfl, by decide +kernel, by decide +kernel⟩
theorem ok_lacks_rows {f : Addr} {fd : FuncData} (F : FnP K "lacks_rows" s_lacks_rows f fd) (T : Bw K w mg tL es nF τ) : FnOk P w K mg base CX0 1 f fd ["programs"] (spLacks K) := by
  refine F.ok sc_lacks_rows (fun vs H Q E h => ?_) (fun cdv A outer s H vs Q E hr h => ?_)
  · obtain ⟨p, H0, ps, rfl, _⟩ := h
    rfl
  · obtain ⟨p, H0, ps, rfl, hp, k⟩ := h
    refine ⟨_, PSs.nox (pss_one (ps_ret (pe_and (pe_cmpR op_gt (pe_callB call_len_seq (by rfl) T.n_len PySem.boot_len (pa_cons (pv 0) pa_nil)) pe_int (nomark _)) (pe_one (pe_cmpR op_eq (pe_callB call_len_seq (by rfl) T.n_len PySem.boot_len (pa_cons (pe_ix ix_tup (pe_ix ix_list (pv 0) (pe_un un_neg pe_int) (fun _ _ => rfl)) pe_int (fun _ _ => rfl)) pa_nil)) pe_int (nomark _)))))), ?_⟩
    obtain ⟨xs, a, b, c, d⟩ := hp.ex
    refine ⟨_, rfl, p, _, rfl, .inl (.inl (.inl a)), _, _, rfl, rfl, _, rfl, ?_⟩
    rcases List.eq_nil_or_concat ps with rfl | ⟨ps', q, rfl⟩
    · cases b
      exact iteF k
    · rw [List.concat_eq_append] at b k
      obtain ⟨xs', x, rfl, b1, b2, _, rv, b3, b4, b5⟩ := pd_unsnoc b
      have hlen : decide ((((xs' ++ [x]).map fun x => V.ref x.1).length : Int) > 0) = true := decide_eq_true (by simp)
      rw [hlen]
      refine iteT ⟨_, rfl, _, rfl, p, _, _, .ref x.1, rfl, rfl, .inl (.inl a), ?_, x.1, _, 1, _, rfl, rfl, .inl (.inl b2), rfl, x.2, rv, rfl, .inl (.inl (.inl b3)), rfl, ?_⟩
      · rw [List.map_append]
        exact atI_last _ _
      · have e : decide (V.int (rv.length : Int) = V.int 0) = q.2.isEmpty := by
          rw [dpA_len b4]
          cases q.2 with
          | nil => rfl
          | cons _ _ => exact decide_eq_false fun z => by injection z with z; simp at z; omega
        rw [e]
        have k : Q (.bl (match (ps' ++ [q]).getLast? with | none => false | some q => q.2.isEmpty)) H := k
        rw [List.getLast?_append] at k
        exact k
end
end Kin
/-! Dicts with tuple keys: {k: v}, del d[k]; len of an own class; a statement that is never reached. -/
namespace Kin
open PySem PySem.Spec PyProof.Rows L2
section
variable {X : Cx} {pos tpos : Pos}
theorem ps_vac {st : Stmt} : PS X st (fun _ _ _ => False) := ⟨fun _ _ _ _ _ _ h => h.elim⟩
def tDispT1 (tk tv : TE) : TE := fun σ H Q => ∀ p, H p = none → tk σ (upd H p (.dT [])) fun x H1 => tv σ H1 fun y H2 => ∃ b k, x = .ref b ∧ H2 b = some (.tup (k.map kV)) ∧ H2 p = some (.dT []) ∧ Q (.ref p) (upd H2 p (.dT [(k, y)]))
theorem pe_dispT1 {k v : Expr} {tk tv : TE} (hu : X.A.units + 1 < cLine) (hk : PE X k tk) (hv : PE X v tv) : PE X (.Dict [some k] [v] pos) (tDispT1 tk tv) := by
  refine ⟨fun pins s σ H Q I q => ?_⟩
  have hn := I.hok.fresh (Nat.le_refl s.heap.objs.size)
  have I1 := I.laid (a := s.heap.objs.size) (o := .dT []) (h' := s.heap.push { cls := .type "dict", data := .dict #[] }) (t' := s.toks) (fun _ _ q => Heap.get?_push_of_some _ q) (Nat.le_refl _) (dt_empty s.heap I.big)
  refine wpAny_Dict_any rfl rfl (fun z => nomatch z) (show (1 : Nat) ≤ 15 by decide) ?_
  refine pairTrees_cons_walk (thn (hk.run pins _ σ _ _ I1 (q _ hn)) fun u s1 ⟨x, H1, I2, rx, q1⟩ => thn (hv.run pins s1 σ H1 _ I2 q1) fun w2 s2 ⟨y, H2, I3, ry, b, ks, ex, eb, ep, q2⟩ => pairTrees_nil_walk ?_)
  subst ex
  cases (show u = Value.ref b from rx)
  obtain ⟨z, hd, xs, rel, dd⟩ := dt_of I3.hok ep
  have hz : xs.length ≤ sizeLine := by rw [← Paired.length rel]; exact z
  unfold storeAll
  rw [List.forIn_cons]
  refine wpAny_bind (wpAny_bind (wpAny_dictSet_heap (knd := tupleKind (mixKind X.prog X.w)) (hsz := hz) ((show (tupleKind (mixKind X.prog X.w)).room X.A from Nat.lt_of_succ_lt hu)) (key_of I3.hok eb) dd fun h' dd' hs => wpAny_pure ?_))
  show wpAny _ _ (forIn ([] : List (Value × Value)) PUnit.unit _) _ _ _
  rw [List.forIn_nil]
  refine wpAny_pure ⟨.ref s.heap.objs.size, _, ?_, rfl, q2⟩
  obtain ⟨qo, es, ep', hq, h2, h3, h4, _, h5⟩ := dd'
  refine d_write I3 (by rw [ep]; exact True.intro) hs ⟨qo, hq⟩ ⟨by show 1 ≤ sizeLine; decide, hd, _, (rel.put ks eb ry).keeps fun c ys ec => ?_, qo, es, ep', hq, h2, h3, h4, h5⟩
  rw [upd_ne (ne_of ec ep (fun z => nomatch z))]
  exact ec
theorem kt_without {H : Hp} (k : List Key) {kvs : List (List Key × V)} {xs : List (List Key × Addr × Value)} (h : KT H kvs xs) : KT H (dropK kvs k) (withoutH xs k) := DX.KT_drop k h
/-- del d[k] -/
def sDDelT (td ty : TE) : TS := fun D σ H => td σ H fun x H1 => ty σ H1 fun y H2 => ∃ a kvs k b, x = .ref a ∧ H2 a = some (.dT kvs) ∧ y = .ref b ∧ H2 b = some (.tup (k.map kV)) ∧ (valV kvs k).isSome = true ∧ D.nx σ (upd H2 a (.dT (dropK kvs k)))
theorem ps_ddelT {o i : Expr} {td ty : TE} (hu : X.A.units + 1 < cLine) (ho : PE X o td) (hi : PE X i ty) : PS X (.Delete [.Subscript o i tpos] pos) (sDDelT td ty) := by
  refine ⟨fun pins s σ H D I h => ?_⟩
  refine wpAny_Delete (wpAny_deleteEach_cons (wpAny_delete_Subscript (thn (ho.run pins s σ H _ I h) fun u s1 ⟨x, H1, I1, rx, q1⟩ => thn (hi.run pins s1 σ H1 _ I1 q1) fun iv s2 ⟨y, H2, I2, ry, a, kvs, k, b, ex, e, ey, eb, l, q2⟩ => ?_)))
  subst ex ey
  obtain rfl : u = Value.ref a := rx
  cases (show iv = Value.ref b from ry)
  obtain ⟨z, hd, xs, rel, dd⟩ := dt_of I2.hok e
  have hz : xs.length ≤ sizeLine := by rw [← Paired.length rel]; exact z
  obtain ⟨p, hp⟩ : ∃ p, atKey xs k = some p := by
    have r := rel.val k
    cases ev : valV kvs k with
    | none =>
      rw [ev] at l
      cases l
    | some v0 =>
      rw [ev] at r
      cases ea : atKey xs k with
      | none =>
        rw [ea] at r
        exact (show False from r).elim
      | some p => exact ⟨p, rfl⟩
  refine wpAny_delItem_heap (hsz := hz) (knd := tupleKind (mixKind X.prog X.w)) (tupleKind_room_in1 hu) (key_of I2.hok eb) hd dd hp fun h' dd' hs => wpAny_deleteEach_nil ⟨σ, _, ?_, q2⟩
  obtain ⟨qo, es, ep', hq, h2, h3, h4, _, h5⟩ := dd'
  exact d_write I2 (by rw [e]; exact True.intro) hs ⟨qo, hq⟩ ⟨Nat.le_trans (dropK_le kvs k) z, hd, _, (kt_without k rel).keeps (fun c ys ec => (by rw [upd_ne (ne_of ec e (fun z => nomatch z))]; exact ec)), qo, es, ep', hq, h2, h3, h4, h5⟩
/-- len(x), x of an own class whose __len__ is the def at g -/
def rLenI (C : Addr) (sp : Sp) : List V → Hp → VK → Prop := fun xs H Q => ∃ a dx fs, xs = [.ref a] ∧ H a = some (.ins C dx fs) ∧ sp [.ref a] H (fun z H' => ∃ n : Int, z = .int n ∧ 0 ≤ n ∧ n < 2 ^ 63 ∧ Q (.int n) H') E0
theorem call_lenI {C g : Addr} {n : Nat} {fd : FuncData} {ps : List Str} {sp : Sp} (hs : Meth X.K C "__len__" g) (F : FnOk X.prog X.w X.K X.mg X.base CX0 n g fd ps sp) (hb : Binds X.K fd ps []) (hr : Room (n + 1) X.A) (hx : Passes CX0 X E0) : CallR X (.builtin "len") (rLenI C sp) := by
  intro pins s σ H xs us Q I r h
  obtain ⟨a, dx, fs, rfl, ea, q⟩ := h
  obtain ⟨u, rfl, ru⟩ := r.one
  cases (show u = Value.ref a from ru)
  obtain ⟨mA, O, _, _, _, _⟩ := ins_get I.hok ea
  obtain ⟨od, J, _⟩ := O.look
  obtain ⟨m, hF⟩ := I.fr
  have hl : ([Value.ref a] ++ []).length = ps.length := F.len _ _ _ _ q
  have run : codeAny (model X.prog X.w) X.A.in1 (.call (.ref g) ⟨[.ref a], []⟩) (fun r s' => match r with
      | .ok (.ret v) => EP X pins σ (fun z H' => ∃ n : Int, z = .int n ∧ 0 ≤ n ∧ n < 2 ^ 63 ∧ Q (.int n) H') v s'
      | .ok _ => False
      | .error e => X.xe e s') s := by
    refine codeAny_mono (F.run X.A.in1 X.stack s H ⟨[Value.ref a], []⟩ [Value.ref a] [V.ref a] _ E0 hr.in1 I.env0.in1 (hb s [Value.ref a] I.kIn hl) r q) fun r s' hq => ?_
    cases r with
    | error e => exact hx pins σ H s e s' I hq
    | ok fl =>
      cases fl with
      | ret u => exact I.after hq
      | next => exact False.elim hq
      | brk => exact False.elim hq
      | cont => exact False.elim hq
  refine PySem.W.len_K hF I.ok.mod.kin J hs.at_ hs.fn (wpAny_mono (wpAny_call run) (fun w s' z => ?_) fun _ _ x => x)
  · obtain ⟨z', H', I', rz, i, ei, i0, i1, qz⟩ := z
    subst ei
    obtain ⟨t, e⟩ := (show ∃ t, w = Value.int i t from rz)
    cases e
    exact ⟨⟨i0, i1⟩, .int i, H', I'.tok _, ⟨_, rfl⟩, qz⟩
end
end Kin
/-! An exception that is caught and kept: behind the try it is a thing of the heap like others. Defs that let exceptions out, and their calls. -/
namespace Kin
open L2 PySem PySem.Spec PyProof.Rows
/-- a kept exception: its class, its dict; the rest of it may be anything -/
def exk (a : Addr) (cls : Value) (d : Option Addr) : HO := .ext fun h => ∃ (oe : Obj) (vs : Array Value), h.get? a = some oe ∧ Zc cls d oe ∧ oe.data = .fields vs
theorem exk_ok {P : Program} {w : World} {H : Hp} {h : Heap} {a : Addr} {cls : Value} {d : Option Addr} {oe : Obj} {vs : Array Value} (e : h.get? a = some oe) (z : Zc cls d oe) (hd : oe.data = .fields vs) : ObjOk P w H h a (exk a cls d) :=
  ⟨⟨oe, vs, e, z, hd⟩, ⟨oe, e⟩, fun h1 h2 ⟨o, us, e1, e2, e3⟩ k => ⟨o, us, k o e1, e2, e3⟩⟩
theorem exk_at {P : Program} {w : World} {H : Hp} {h : Heap} {a : Addr} {cls : Value} {d : Option Addr} (hok : HOk P w H h) (e : H a = some (exk a cls d)) : ∃ (oe : Obj) (vs : Array Value), h.get? a = some oe ∧ Zc cls d oe ∧ oe.data = .fields vs := (hok a _ e).1
section
variable {X : Cx} {pins : List (Addr × Obj)} {σ : L2.St} {H : Hp} {s : Shared}
/-- an object that came behind the entry may be taken into the book of things -/
theorem track {a : Addr} {oe : Obj} {vs : Array Value} {cls : Value} {d : Option Addr} (I : Inv X pins σ H s) (he : s.heap.get? a = some oe) (hz : Zc cls d oe) (hd : oe.data = .fields vs) (na : H a = none) (nL : a ≠ X.env.locals) (n0 : X.s_0.heap.get? a = none)
    (np : ∀ p ∈ X.pn ++ pins, p.1 ≠ a) : Inv X pins σ (upd H a (exk a cls d)) s where
  ok := I.ok
  os := I.os
  bare := I.bare
  base := {
    keep := I.base.keep
    slot := I.base.slot
    free := fun b o e n hx => by
      rw [upd_ne (fun z => by rw [z, n0] at e; cases e)]
      exact I.base.free b o e n hx
    there := I.base.there
    tups := fun b xs e => by
      have q := I.base.tups b xs e
      rw [upd_ne (ne_of_none q na)]
      exact q
    frzs := fun b o u e => by
      have q := I.base.frzs b o u e
      rw [upd_ne (ne_of_none q na)]
      exact q
    tbls := fun b ps e => by
      obtain ⟨m, q⟩ := I.base.tbls b ps e
      exact ⟨m, by rw [upd_ne (ne_of_none q na)]; exact q⟩ }
  loc := I.loc
  cell := I.cell
  free := by rw [upd_ne nL.symm]; exact I.free
  freeC := fun x c e => by
    have nc : c ≠ a := fun z => by
      obtain ⟨v, o, ho, hc⟩ := I.cell x c e
      rw [z, he] at ho
      cases ho
      rw [hd] at hc
      cases hc
    rw [upd_ne nc]
    exact I.freeC x c e
  pin := fun p hp => by
    obtain ⟨h1, h2, h3, h4, h5⟩ := I.pin p hp
    exact ⟨h1, by rw [upd_ne (np p hp)]; exact h2, h3, h4, h5⟩
  hok := I.hok.laidN (fun _ _ q => q) na (exk_ok he hz hd)
  len := I.len
end
/-- a clause that takes every exception of the body, and keeps it behind its suite: slot i is the clause's name -/
def wKeep (K : PySem.W.Frag) (c : Value) (i : Nat) (ts : Addr → Value → Option Addr → TS) (D : Ends) : WX := fun cls d σ H => PySem.W.exmOne K cls c = some true ∧
  ∀ a, H a = none → ts a cls d { nx := fun σ' H' => D.nx (σ'.set i none) (upd H' a (exk a cls d)), rt := fun _ _ => False, bk := fun _ _ => False, ct := fun _ _ => False } (σ.set i (some (.ref a))) H
section
variable {X : Cx} {pins : List (Addr × Obj)} {σ : L2.St} {H : Hp} {sI s : Shared} {B : Heap} {a : Addr} {cls : Value} {d : Option Addr}
/-- what is known of an exception that has come down: it is here, it is new, it is no frame's -/
structure Down (X : Cx) (pins : List (Addr × Obj)) (σ : L2.St) (H : Hp) (a : Addr) (cls : Value) (d : Option Addr) (s : Shared) : Prop where
  inv : Inv X pins σ H s
  obj : ∃ (o : Obj) (vs : Array Value), s.heap.get? a = some o ∧ Zc cls d o ∧ o.data = .fields vs
  na : H a = none
  loc : a ≠ X.env.locals
  frs : a ∉ X.fs
  new : X.s_0.heap.get? a = none
  pin : ∀ p ∈ X.pn ++ pins, p.1 ≠ a
theorem down (hex : X.ex = []) (hs : X.stack = X.env :: X.outer) (hf : X.env.frame = some X.env.locals) (I : Inv X pins σ H sI) (nb : ∀ b o, sI.heap.get? b = some o → b ∉ L2.frs X.stack → B.get? b = some o) (na : H a = none) (os : s.os = sI.os) (ag : AllBare s.gens)
    {h : Heap} (fl : HandSPX.FlyingZ B (X.env :: X.outer) a (Zc cls d) h) (up : sI.heap.UpToSlots h) : Down X pins σ H a cls d { s with heap := h } := by
  obtain ⟨o, vs, e1, e2, e3⟩ := fl.there
  have far : a ∉ L2.frs (X.env :: X.outer) := fun q => by
    obtain ⟨_, o2, q1, q2⟩ := fl.2.2.1.mem q
    cases e1.symm.trans q1
    exact q2 _ e3
  have gone : ∀ u, sI.heap.get? a ≠ some u := fun u q => by
    have z := (nb a u q (by rw [hs]; exact far)).symm.trans fl.2.1
    cases z
  exact {
    inv := I.landed nb fl.1 up os ag
    obj := ⟨o, vs, e1, e2, e3⟩
    na := na
    loc := fun z => far (List.mem_filterMap.mpr ⟨X.env, List.mem_cons_self, hf.trans (congrArg some z.symm)⟩)
    frs := fun q => far (by
      obtain ⟨v, q1, q2⟩ := List.mem_filterMap.mp q
      exact List.mem_filterMap.mpr ⟨v, .tail _ q1, q2⟩)
    new := Option.eq_none_iff_forall_ne_some.mpr fun u q => by
      obtain ⟨u2, z⟩ := I.base.there a u q (hex ▸ List.not_mem_nil)
      exact gone u2 z
    pin := fun p q z => gone p.2 (z ▸ (I.pin p q).1) }
variable {x n : Str} {c : Value} {i : Nat} {body suite : List Stmt} {b₀ : Stmt} {np pos pos' : Pos} {tb : WX → TS} {ts : Addr → Value → Option Addr → TS}
theorem ps_try_keep (hex : X.ex = []) (hs : X.stack = X.env :: X.outer) (hf : X.env.frame = some X.env.locals) (hN : X.N.Nodup) (hi : X.N[i]? = some n) (hln : X.env.kindOf n = some .local) (hc : Names X x c)
    (hb : ∀ (W : WX) (pn : List (Addr × Obj)) (xe : Value → Shared → Prop), L2.Takes (X.tr pn xe) W → PassesOwn (model X.prog X.w) X.A X.env xe → PSs (X.tr pn xe) body (tb W))
    (hsu : ∀ (a : Addr) (oe : Obj) (cls : Value) (d : Option Addr) (pn : List (Addr × Obj)), Zc cls d oe → (∃ vs, oe.data = .fields vs) → PSs (X.suite a ((a, oe) :: pn)) (b₀ :: suite) (ts a cls d)) :
    PS X (.Try body [.ExceptHandler (some (.Name x np)) (some n) (b₀ :: suite) pos'] [] [] pos) (fun D σ H => tb (wKeep X.K c i ts D) D σ H) := by
  refine ⟨fun ps s0 σ0 H0 D I h => wpAny_Try_except (wpAny_mono ((hb (wKeep X.K c i ts D) (X.pn ++ ps) _ (fun u s1 air => ?_) PassesOwn.looking).run [] s0 σ0 H0 D (I.toTry _) h) (fun fw s1 out => ?_) fun _ _ q => q)⟩
  · obtain ⟨e, G, sG, _, σ1, H1, k, dd, hu, J1, nb, up, sky, na, os, ag, w1, w2⟩ := air
    subst hu
    have J := J1.ofTry I.ok
    refine Sky.land (L := X.env.locals) (outer := X.outer) Zc.steady (I.ok.frames.trans (congrArg some hs)) hf (by rw [← hs]; exact sky) fun hA flA upA => ?_
    have A := down hex hs hf J nb na os ag flA (up.trans upA)
    obtain ⟨oA, vA, a1, a2, a3⟩ := A.obj
    have SA := A.inv.suite a1 a3 na A.loc A.frs
    have kind : PySem.W.Looks (model X.prog X.w) hA (typeOf (.ref e)) k := fun _ _ _ _ kp q => wpAny_typeOf_ref (kp _ _ a1) (a2.1.symm ▸ q)
    have asked := PySem.W.exm_one (M := model X.prog X.w) A.inv.kIn kind w1
    refine wpAny_handleBy_cons (codeAny_handlers_test ?_) fun q => nomatch q
    have name : ∀ {Q : Value → Shared → Prop} {E : Value → Shared → Prop}, Q c { s1 with heap := hA } → wpAny (model X.prog X.w) (X.A.mark (some (.ref e))) (eval (.Name x np) X.env) Q E { s1 with heap := hA } := fun {Q E} q => by
      rcases hc with ⟨c1, c2, c3 | ⟨c3, c4, c5⟩⟩
      · exact ld_glob SA c1 c3 q c2
      · exact ld_blt SA c1 c3 c4 q c5 c2
    refine name (asked.here (codeAny_handlers_suite_as ?_))
    refine HandSPX.lands_againZ flA fun hB flB upB => ?_
    have C := down hex hs hf J nb na os ag flB ((up.trans upA).trans upB)
    obtain ⟨oB, vB, b1, b2, b3⟩ := C.obj
    refine store_ok (X := X.suite e ((e, oB) :: (X.pn ++ ps))) (v := .ref e) (C.inv.suite b1 b3 na C.loc C.frs) hN hi (.inl hln) rfl (fun s2 S2 => ?_) (.inr hln)
    refine wpAny_mono ((hsu e oB k dd (X.pn ++ ps) b2 ⟨vB, b3⟩).run [] s2 _ H1 _ S2 (w2 e na)) (fun fw s3 out => ?_) fun _ _ q => q.elim
    cases fw with
    | next =>
      obtain ⟨σ3, H3, S3, q3⟩ := out
      obtain ⟨p1, p2, _⟩ := S3.pin (e, oB) (List.mem_append_left _ (.head _))
      exact gone_ok (track (S3.unsuite I.ok) p1 b2 b3 p2 C.loc C.new C.pin) hN hi hln fun s4 J4 => ⟨_, _, J4, q3⟩
    | brk => exact let ⟨_, _, _, q⟩ := out; q.elim
    | cont => exact let ⟨_, _, _, q⟩ := out; q.elim
    | ret u => exact let ⟨_, _, _, _, _, q⟩ := out; q.elim
  · cases fw with
    | next => exact let ⟨_, _, J1, q⟩ := out; wpAny_execs_nil ⟨_, _, J1.ofTry I.ok, q⟩
    | brk => exact let ⟨_, _, J1, q⟩ := out; ⟨_, _, J1.ofTry I.ok, q⟩
    | cont => exact let ⟨_, _, J1, q⟩ := out; ⟨_, _, J1.ofTry I.ok, q⟩
    | ret u => exact let ⟨_, _, _, J1, r, q⟩ := out; ⟨_, _, _, J1.ofTry I.ok, r, q⟩
end
/-! ### raised, its object just made -/
section
variable {X : Cx}
theorem pmk_val {e : Expr} {te : TE} (hx : X.ex = []) (he : PE X e te) :
    PMk X e (fun σ H Q => te σ H fun x H1 => ∃ (a C : Addr) (d : Option Addr), x = .ref a ∧ H1 a = some (exo a C d) ∧ X.H_0 a = none ∧ OexC X.K C ∧ Q (.ref C) d (delH H1 a)) := by
  intro pins s σ H Q I h
  refine wpAny_mono (he.run pins s σ H _ I h) (fun u s1 hu => ?_) fun _ _ x => x
  obtain ⟨v, H1, I1, r1, a, C, d, rfl, ha, h0, T, q⟩ := hu
  cases r1
  obtain ⟨t1, ho⟩ := exo_at I1.hok ha
  obtain ⟨G, gs, ga, J⟩ := I1.untrack ha (fr0_none h0) hx
  exact ⟨a, _, _, { s1 with heap := G }, delH H1 a, .ref C, d, rfl, J, gs, ga, ho, ⟨rfl, rfl⟩, rfl, rfl, delH_same, rfl, I1.bare, raises_own T.exC T.tyC, q⟩
end
/-! ### kept: its class, its fields -/
def tKeF (K : PySem.W.Frag) (f : Str) (te : TE) : TE := fun σ H Q => te σ H fun x H1 => ∃ (a C d : Addr) (fs : List (Str × V)) (v : V), x = .ref a ∧ H1 a = some (exk a (.ref C) (some d)) ∧ H1 d = some (exd d fs) ∧
  XfC K C ∧ PySem.W.findIn K (.ref C) f = some none ∧ fs.lookup f = some v ∧ Q v H1
def rIsK (K : PySem.W.Frag) : List V → Hp → VK → Prop := fun xs H Q => ∃ (a C : Addr) (d : Option Addr) (c : V), xs = [.ref a, c] ∧ H a = some (exk a (.ref C) d) ∧ (∀ e, d = some e → ∃ fs, H e = some (exd e fs)) ∧ ExcC K C ∧
  ((∃ (u : Value) (b : Bool), ClsV c u ∧ PySem.W.kitOne K (.ref C) u = some b ∧ Q (.bl b) H) ∨ ∃ (t : Addr) (cs : List V) (us : List Value) (b : Bool), c = .ref t ∧ H t = some (.tup cs) ∧ Paired ClsV cs us ∧ PySem.W.kitAny K (.ref C) us = some b ∧ Q (.bl b) H)
section
variable {X : Cx} {e : Expr} {te : TE} {f : Str} {pos : Pos}
theorem pe_kef (he : PE X e te) (hb : attributeBase e f X.env (eval e X.env) = eval e X.env := by rfl) : PE X (.Attribute e f pos) (tKeF X.K f te) := by
  refine ⟨fun pins s σ H Q I h => ?_⟩
  refine attr_of hb (thn (he.run pins s σ H _ I h) fun u s1 hh => ?_)
  obtain ⟨x, H1, I1, rx, a, C, d, fs, v, rfl, ea, ed, T, hno, l, q⟩ := hh
  obtain rfl : u = Value.ref a := rx
  obtain ⟨oe, vs, ho, hz, hd⟩ := exk_at I1.hok ea
  obtain ⟨mA, hns, hr⟩ := exd_at I1.hok ed
  obtain ⟨od, hod, hl⟩ := lookIn_ns hns
  obtain ⟨u, hu, ru⟩ := RelO.some_of (v := v) (o := mA f) (by rw [← l]; exact hr f)
  have J : PySem.W.InstAt s1.heap a oe C (some od) := ⟨ho, hz.1, by unfold PySem.W.notCls; rw [hd] <;> rfl, by rw [hz.2]; exact hod⟩
  exact HandSPX.exc_get I1.kIn J T.ga T.gg T.exC (PySem.W.findObj_own T.hdC hno rfl (by rw [hl, hu])) (handed_of ru) ⟨v, H1, I1.tok _, ru, q⟩
theorem call_isK : CallR X (.builtin "isinstance") (rIsK X.K) := by
  intro pins s σ H xs us Q I r h
  obtain ⟨a, C, d, c, rfl, ea, ed, T, h⟩ := h
  obtain ⟨u1, u2, rfl, r1, r2⟩ := vals2 r
  obtain rfl : u1 = Value.ref a := r1
  have hcl : (PySem.W.clsIn X.K C).isSome = true := by
    obtain ⟨cd, hc, _⟩ := PySem.W.any_some T.hd
    rw [hc]
    rfl
  obtain ⟨oe, vs, ho, hz, hd⟩ := exk_at I.hok ea
  obtain ⟨od, J⟩ : ∃ od, PySem.W.InstAt s.heap a oe C od := by
    cases d with
    | none => exact ⟨none, ho, hz.1, by unfold PySem.W.notCls; rw [hd] <;> rfl, by rw [hz.2]; trivial⟩
    | some dx =>
      obtain ⟨fs, efs⟩ := ed dx rfl
      obtain ⟨mA, hns, _⟩ := exd_at I.hok efs
      obtain ⟨od, _, _, hod, _⟩ := hns
      exact ⟨some od, ho, hz.1, by unfold PySem.W.notCls; rw [hd] <;> rfl, by rw [hz.2]; exact hod⟩
  rcases h with ⟨u, b, k, ek, q⟩ | ⟨t, cs, us, b, rfl, et, k, ek, q⟩
  · have e2 := k.eq r2
    subst e2
    exact PySem.W.kia_one (PySem.W.kitx_exc (ox := _) (od := od) hcl T.hg T.hk T.hs T.ha T.hn T.ht T.hm) I.kIn J ek (fun z => nomatch z) fun tk => ⟨.bl b, H, I.tok tk, rfl, q⟩
  · obtain rfl : u2 = Value.ref t := r2
    obtain ⟨_, its, rv, o, h1, h2, n, h3⟩ := (show ObjOk X.prog X.w H s.heap t (.tup cs) from I.hok t _ et)
    have e3 := ClsV.all k rv
    subst e3
    obtain ⟨oc, od', dt, sl⟩ := o
    simp only at h2 h3
    subst h2 h3
    exact PySem.W.kia_tup (PySem.W.kitx_exc (ox := _) (od := od) hcl T.hg T.hk T.hs T.ha T.hn T.ht T.hm) I.kIn J h1 ek (fun z => nomatch z) fun tk => ⟨.bl b, H, I.tok tk, rfl, q⟩
end
/-! ### defs that let exceptions out -/
structure CalX (P : Program) (w : World) (K : PySem.W.Frag) (mg : Str → Option Value) (base : Heap) (x : Str) (ps : List Str) (k : Nat) (sp : Sp) : Prop where
  ex : ∃ (f : Addr) (fd : FuncData), FnOk P w K mg base (L2.CX P w) k f fd ps sp ∧ mg x = some (.ref f) ∧ PySem.W.keepIn K (.ref f) = true ∧ Binds K fd ps []
section
variable {X : Cx} {x : Str} {ps : List Str} {k : Nat} {sp : Sp} {e : Expr} {es : List Expr} {t : TA} {p pos : Pos} {W : WX}
theorem pe_calX (c : CalX X.prog X.w X.K X.mg X.base x ps k sp) (hr : Room k X.A) (hg : Gl X x) (tk : L2.Takes X W) (ha : PA X (e :: es) t) (hdb : (x == ("__debug__" : Str)) = false := by decide)
    (he : starEach (e :: es) X.env = (false, eval e X.env) :: starEach es X.env := by rfl) (hpl : (backTo pos (starEach es X.env)).any (·.1) = false := by rfl) : PE X (.Call (.Name x p) (e :: es) [] pos) (tCallS sp (WE W) t) := by
  obtain ⟨f, fd, h1, h2, h3, h4⟩ := c.ex
  exact pe_callS h1 hr hg h2 h3 h4 (fun σ => L2.passAt tk σ) ha hdb he hpl
end
end Kin
namespace Kin
open PySem PySem.Spec PyProof.Rows L2
/-- the j-th def of the class that stands at row i -/
def clsS (i j : Nat) : Stmt := match topS i with
  | .ClassDef _ _ _ b _ _ _ _ _ _ _ => b.getD j (.Pass ⟨0, 0, 0, 0⟩)
  | _ => .Pass ⟨0, 0, 0, 0⟩
abbrev FnM (K : PySem.W.Frag) (q : Str) (st : Stmt) (f : Addr) (fd : FuncData) : Prop := FunD K "__init__" q (defArgs st) (defBody st) (defScope st) [] [] f fd
structure Kb (K : PySem.W.Frag) (mg : Str → Option Value) : Prop where
  g : mg "KinError" = some (.ref (He.ga K "KinError"))
  b : BaseC K (He.ga K "KinError")
/-- an __init__ that keeps one thing -/
def spIni1 (K : PySem.W.Frag) (C : Addr) (f : Str) : Sp := fun vs H Q _ => ∃ (a : Addr) (y : V), vs = [.ref a, y] ∧ OexC K C ∧ PySem.W.findIn K (.ref C) f = some none ∧ H a = some (exo a C none) ∧
  ∀ dx, H dx = none → dx ≠ a → Q .non (upd (upd H dx (exd dx [(f, y)])) a (exo a C (some dx)))
/-- .. that keeps nothing -/
def spIni0 (K : PySem.W.Frag) (C : Addr) : Sp := fun vs H Q _ => ∃ a : Addr, vs = [.ref a] ∧ OexC K C ∧ H a = some (exo a C none) ∧ Q .non H
/-- a class whose __init__ keeps its promise -/
structure Mk (P : Program) (w : World) (K : PySem.W.Frag) (mg : Str → Option Value) (base : Heap) (C : Addr) (ps : List Str) (sp : Sp) : Prop where
  ex : ∃ (fI : Addr) (fd : FuncData), PySem.W.findIn K (.ref C) "__init__" = some (some (.ref fI)) ∧ PySem.W.typeIn K (.ref fI) = some (.type "function") ∧ FnOk P w K mg base CX0 1 fI fd ps sp ∧ Binds K fd ps []
section
variable {X : Cx} {x : Str} {ps : List Str} {sp : Sp} {e : Expr} {es : List Expr} {ta : TA} {p pos : Pos} {C : Addr}
theorem pe_mkC (T : OexC X.K C) (m : Mk X.prog X.w X.K X.mg X.base C ps sp) (hr : Room 2 X.A) (hg : Gl X x) (hm : X.mg x = some (.ref C)) (hx : Passes CX0 X (fun _ _ _ => False)) (ha : PA X (e :: es) ta) (hdb : (x == ("__debug__" : Str)) = false := by decide)
    (he : starEach (e :: es) X.env = (false, eval e X.env) :: starEach es X.env := by rfl) (hpl : (backTo pos (starEach es X.env)).any (·.1) = false := by rfl) : PE X (.Call (.Name x p) (e :: es) [] pos) (tMkE C sp [] ta) := by
  obtain ⟨fI, fd, h1, h2, h3, h4⟩ := m.ex
  exact pe_mkE T h1 h2 h3 hr h4 .nil hx hg hm ha hdb he hpl
theorem pe_mkC0 (T : OexC X.K C) (m : Mk X.prog X.w X.K X.mg X.base C ps sp) (hr : Room 2 X.A) (hg : Gl X x) (hm : X.mg x = some (.ref C)) (hx : Passes CX0 X (fun _ _ _ => False)) (hdb : (x == ("__debug__" : Str)) = false := by decide) :
    PE X (.Call (.Name x p) [] [] pos) (tMkE C sp [] tNil) := by
  obtain ⟨fI, fd, h1, h2, h3, h4⟩ := m.ex
  exact pe_mkE0 T h1 h2 h3 hr h4 .nil hx hg hm hdb
end
section
variable {P : Program} {w : World} {K : PySem.W.Frag} {mg : Str → Option Value} {base : Heap} {tL : Tok} {es : Array DictEntry} {nF : Nat}
abbrev s_NoText : Stmt := clsS 5 0
theorem sc_NoText : FnScope [("self" : Str), ("row" : Str)] ["self", "row"] (defScope s_NoText) := ⟨rfl, rfl, rfl, by decide +kernel, rfl, by decide +kernel, by decide +kernel⟩
theorem ok_NoText {C f : Addr} {fd : FuncData} (F : FnM K "NoText.__init__" s_NoText f fd) (T : Kb K mg) : FnOk P w K mg base CX0 1 f fd ["self", "row"] (spIni1 K C "row") := by
  refine F.ok sc_NoText (fun vs H Q E h => ?_) (fun cdv A outer s H vs Q E hr h => ?_)
  · obtain ⟨a, y, rfl, _⟩ := h
    rfl
  · obtain ⟨a, y, rfl, T0, hno, ea, k⟩ := h
    refine ⟨_, PSs.nox (pss_cons (ps_expr (pe_biinit (by rfl) T.g T.b.ga T.b.ty T.b.rd T.b.ini (pa_cons (pv 0) (pa_cons pe_str pa_nil)))) (pss_one (ps_ost (pv 0) (pv 1)))), ?_⟩
    refine ⟨_, rfl, a, C, _, rfl, by decide, T0, ea, ?_⟩
    refine ⟨y, rfl, _, rfl, a, C, rfl, T0, hno, .inl ⟨ea, fun dx n ne => ?_⟩⟩
    exact k dx n ne
abbrev s_NoBook : Stmt := clsS 6 0
theorem sc_NoBook : FnScope [("self" : Str)] ["self"] (defScope s_NoBook) := ⟨rfl, rfl, rfl, by decide +kernel, rfl, by decide +kernel, by decide +kernel⟩
theorem ok_NoBook {C f : Addr} {fd : FuncData} (F : FnM K "NoBook.__init__" s_NoBook f fd) (T : Kb K mg) : FnOk P w K mg base CX0 1 f fd ["self"] (spIni0 K C) := by
  refine F.ok sc_NoBook (fun vs H Q E h => ?_) (fun cdv A outer s H vs Q E hr h => ?_)
  · obtain ⟨a, rfl, _⟩ := h
    rfl
  · obtain ⟨a, rfl, T0, ea, k⟩ := h
    refine ⟨_, PSs.nox (pss_one (ps_expr (pe_biinit (by rfl) T.g T.b.ga T.b.ty T.b.rd T.b.ini (pa_cons (pv 0) (pa_cons pe_str pa_nil))))), ?_⟩
    exact ⟨_, rfl, a, C, _, rfl, by decide, T0, ea, k⟩
end
/-- the two refusals of texts -/
structure Ez (P : Program) (w : World) (K : PySem.W.Frag) (mg : Str → Option Value) (base : Heap) : Prop where
  g_NoText : mg "NoText" = some (.ref (He.ga K "NoText"))
  t_NoText : OexC K (He.ga K "NoText")
  n_NoText : PySem.W.findIn K (.ref (He.ga K "NoText")) "row" = some none
  m_NoText : Mk P w K mg base (He.ga K "NoText") ["self", "row"] (spIni1 K (He.ga K "NoText") "row")
  g_NoBook : mg "NoBook" = some (.ref (He.ga K "NoBook"))
  t_NoBook : OexC K (He.ga K "NoBook")
  m_NoBook : Mk P w K mg base (He.ga K "NoBook") ["self"] (spIni0 K (He.ga K "NoBook"))
section
variable {K : PySem.W.Frag} {H0 H : Hp} {C : Addr} {f : Str} {y : V} {W : XK} {E : XK}
theorem raise1 (T : OexC K C) (hno : PySem.W.findIn K (.ref C) f = some none) (s : Same H0 H) (k : ∀ H' d, Same H H' → H' d = some (exd d [(f, y)]) → W (.ref C) (some d) H') (a : Addr) (na : H a = none) :
    spIni1 K C f [.ref a, y] (upd H a (exo a C none)) (fun v H2 => v = .non ∧ ∃ (a' C' : Addr) (d : Option Addr), V.ref a = .ref a' ∧ H2 a' = some (exo a' C' d) ∧ H0 a' = none ∧ OexC K C' ∧ W (.ref C') d (delH H2 a')) E := by
  have n0 : H0 a = none := by
    cases e : H0 a with
    | none => rfl
    | some o => rw [s _ _ e] at na; cases na
  refine ⟨a, y, rfl, T, hno, upd_same, fun dx nd ne => ⟨rfl, a, C, some dx, rfl, upd_same, n0, T, k _ dx (fun b o e => ?_) ?_⟩⟩
  · have b1 : b ≠ a := ne_of_none e na
    have b2 : b ≠ dx := fun z => by
      rw [← z, upd_ne b1, e] at nd
      cases nd
    rw [delH_ne b1, upd_ne b1, upd_ne b2, upd_ne b1]
    exact e
  · rw [delH_ne ne, upd_ne ne, upd_same]
theorem raise0 (T : OexC K C) (s : Same H0 H) (k : ∀ H', Same H H' → W (.ref C) none H') (a : Addr) (na : H a = none) :
    spIni0 K C [.ref a] (upd H a (exo a C none)) (fun v H2 => v = .non ∧ ∃ (a' C' : Addr) (d : Option Addr), V.ref a = .ref a' ∧ H2 a' = some (exo a' C' d) ∧ H0 a' = none ∧ OexC K C' ∧ W (.ref C') d (delH H2 a')) E := by
  have n0 : H0 a = none := by
    cases e : H0 a with
    | none => rfl
    | some o => rw [s _ _ e] at na; cases na
  refine ⟨a, rfl, T, upd_same, rfl, a, C, none, rfl, upd_same, n0, T, k _ ?_⟩
  rw [delH_new na]
  exact Same.refl _
end
end Kin
namespace Kin
open PySem PySem.Spec PyProof.Rows L2
/-! ### programs, line by line -/
def addLast : List Pg → PyData → List Pg
  | [], _ => []
  | [q], r => [(q.1, q.2 ++ [r])]
  | q :: q2 :: ps, r => q :: addLast (q2 :: ps) r
theorem addLast_snoc (ps : List Pg) (q : Pg) (r : PyData) : addLast (ps ++ [q]) r = ps ++ [(q.1, q.2 ++ [r])] := by
  induction ps with
  | nil => rfl
  | cons x t ih =>
    cases t with
    | nil => rfl
    | cons y u => 
      show x :: addLast (y :: u ++ [q]) r = _
      rw [ih]
      rfl
def rowOf (ps : List Pg) : PyData → Option (List Pg)
  | .tuple r => if ps = [] ∨ noL (.tuple r) = false then none else some (addLast ps (.tuple r))
  | _ => none
def titOf (ps : List Pg) : Option (List PyData) → Option (List Pg)
  | some [.str t] => if lacks ps = true then none else some (ps ++ [(t, [])])
  | _ => none
def stepW (ps : List Pg) (ws : List Str) : Option (List Pg) := match ws with
  | [] => none
  | z :: r => if z = "program" then titOf ps (rdWords ["title"] r) else rowOf ps (rdRow (z :: r))
def stepL (ps : List Pg) (line : Str) : Option (List Pg) := stepW ps (Txt.split line " ")
def readL : List Pg → List Str → Option (List Pg)
  | ps, [] => some ps
  | ps, l :: r => (stepL ps l).bind fun q => readL q r
def wt (ps : List Pg) : Nat := (ps.map fun q => q.2.length + 1).sum
theorem wt_snoc (ps : List Pg) (q : Pg) : wt (ps ++ [q]) = wt ps + (q.2.length + 1) := by
  unfold wt
  rw [List.map_append, List.sum_append]
  simp
theorem wt_len (ps : List Pg) : ps.length ≤ wt ps := by
  induction ps with
  | nil => exact Nat.le_refl _
  | cons q r ih =>
    show r.length + 1 ≤ (q.2.length + 1) + wt r
    omega
theorem stepL_wt {ps ps' : List Pg} {l : Str} (h : stepL ps l = some ps') : wt ps' = wt ps + 1 := by
  unfold stepL stepW at h
  split at h
  · cases h
  · split at h
    · unfold titOf at h
      split at h
      · split at h
        · cases h
        · cases h
          rw [wt_snoc]
          rfl
      · cases h
    · unfold rowOf at h
      split at h
      · split at h
        · cases h
        · rename_i hn
          cases h
          rcases List.eq_nil_or_concat ps with rfl | ⟨ps0, q, rfl⟩
          · exact absurd (.inl rfl) hn
          · rw [List.concat_eq_append, addLast_snoc, wt_snoc, wt_snoc, List.length_append]
            show _ = wt ps0 + (q.2.length + 1) + 1
            simp
            omega
      · cases h
/-- what a row is read as keeps no list -/
theorem rdRow_noL (ws : List Str) : rdRow ws = .none ∨ ∃ r, rdRow ws = .tuple r ∧ noL (.tuple r) = true := by
  have two : ∀ (ks ws : List Str) (l : List PyData), rdWords ks ws = some l → ∀ d ∈ l, noL d = true := fun ks ws l h d hd => by
    unfold rdWords at h
    split at h
    · split at h
      · cases h
      · cases h
        rw [List.mem_iff_getElem] at hd
        obtain ⟨i, hi, rfl⟩ := hd
        rw [List.getElem_zipWith]
        exact (rdWord_ok _ _).1
    · cases h
  cases ws with
  | nil => exact .inl rfl
  | cons w r =>
    cases hk : forms.lookup w with
    | none => exact .inl (by unfold rdRow; simp only [hk])
    | some ks =>
      have e0 : rdRow (w :: r) = if w = "wait" then rdWait r else if w = "handle" then rdHandle r else oRow w (rdWords ks r) := by
        unfold rdRow
        simp only [hk]
      rw [e0]
      split
      · unfold rdWait
        split
        · exact .inl rfl
        · split
          · exact .inl rfl
          · split
            · exact .inr ⟨_, rfl, by simp [noL, noLAll]⟩
            · split
              · exact .inl rfl
              · exact .inr ⟨_, rfl, by simp [noL, noLAll]⟩
      · split
        · unfold rdHandle
          split
          · split
            · rename_i h
              have := two _ _ _ h
              exact .inr ⟨_, rfl, by simp [noL, noLAll, this]⟩
            · exact .inl rfl
          · split
            · rename_i h
              have := two _ _ _ h
              exact .inr ⟨_, rfl, by simp [noL, noLAll, this]⟩
            · exact .inl rfl
        · cases e : rdWords ks r with
          | none => exact .inl rfl
          | some l =>
            refine .inr ⟨_, rfl, ?_⟩
            rw [noL]
            refine noLAll_of fun d hd => ?_
            rcases List.mem_cons.mp hd with rfl | hd
            · rw [noL]
            · exact two _ _ _ e d hd
theorem rdTitle {ws : List Str} {l : List PyData} (h : rdWords ["title"] ws = some l) : ∃ t, l = [.str t] := by
  unfold rdWords at h
  split at h
  · rename_i hl
    split at h
    · cases h
    · rename_i hn
      cases h
      match ws, hl with
      | [z], _ =>
        have e : List.zipWith rdWord ["title"] [z] = [rdWord "title" z] := rfl
        rw [e] at hn ⊢
        have e2 : rdWord "title" z = oS (rdLet z) := by
          unfold rdWord
          rw [show choices.lookup ("title" : Str) = none by decide +kernel]
          exact if_pos rfl
        rw [e2] at hn ⊢
        cases e3 : rdLet z with
        | none => rw [e3] at hn; exact absurd rfl hn
        | some t => exact ⟨t, rfl⟩
  · cases h
/-- what is let out -/
def outT (K : PySem.W.Frag) (H0 : Hp) (n : Int) (E : XK) : Prop := ∀ H' d, Same H0 H' → H' d = some (exd d [("row", .int n)]) → E (.ref (He.ga K "NoText")) (some d) H'
section
variable {P : Program} {w : World} {K : PySem.W.Frag} {mg : Str → Option Value} {base : Heap} {tL : Tok} {es : Array DictEntry} {nF : Nat} {τ : Tks}
def spAddP (K : PySem.W.Frag) : Sp := fun vs H Q E => ∃ (p b : Addr) (n : Int) (H0 : Hp) (ps : List Pg) (ws : List Str), vs = [.ref p, .ref b, .int n] ∧ PgsAt K H0 H p ps ∧ SqL K H b (ws.map V.str) ∧ WsOk ws ∧ ps.length ≤ 1000000 ∧
  (∀ ps' H', titOf ps (rdWords ["title"] ws) = some ps' → PgsAt K H0 H' p ps' → Q .non H') ∧ (titOf ps (rdWords ["title"] ws) = none → outT K H0 n E)
abbrev s_add_program : Stmt := topS 56
theorem sc_add_program : FnScope [("programs" : Str), ("words" : Str), ("at" : Str), ("parts" : Str)] ["programs", "words", "at"] (defScope s_add_program) := ⟨rfl, rfl, rfl, by decide +kernel, rfl, by decide +kernel, by decide +kernel⟩
theorem ok_add_program {f : Addr} {fd : FuncData} (F : FnP K "add_program" s_add_program f fd) (T : Bw K w mg tL es nF τ) (Z : Ez P w K mg base) (c_read_words : Cal P w K mg base "read_words" ["kinds", "words"] 11 (spWs K)) (c_lacks_rows : Cal P w K mg base "lacks_rows" ["programs"] 1 (spLacks K)) : FnOk P w K mg base (L2.CX P w) 12 f fd ["programs", "words", "at"] (spAddP K) := by
  refine F.ok sc_add_program (fun vs H Q E h => ?_) (fun cdv A outer s H vs Q E hr h => ?_)
  · obtain ⟨p, b, n, H0, ps, ws, rfl, _⟩ := h
    rfl
  · obtain ⟨p, b, n, H0, ps, ws, rfl, hp, hb, hw, hpl, k, kx⟩ := h
    refine ⟨_, (pss_cons (ps_set (i := 3) sc_add_program.nd rfl (by first | exact .inl rfl | exact .inr rfl) (pe_cal c_read_words (hr.mono (by decide)) (by rfl) pass0 (pa_cons (pe_tup (pa_cons pe_str pa_nil)) (pa_cons (pv 1) pa_nil)))) (pss_cons (ps_if (PW.pt (pw_or (pt_cmpR op_isN (pv 3) pe_non (nomark _)) (pw_or1 (pt_val (pe_cal c_lacks_rows (hr.mono (by decide)) (by rfl) pass0 (pa_cons (pv 0) pa_nil)))))) (pss_one (ps_raise rfl (takes_of rfl rfl rfl rfl) (pmk_val rfl (pe_mkC Z.t_NoText Z.m_NoText (hr.mono (by decide)) (by rfl) Z.g_NoText pass0 (pa_cons (pv 2) pa_nil))))) pss_nil) (pss_one (ps_expr (pe_bm PySem.F.plainAttrs_list PySem.F.slot_list_append PySem.F.type_list_append mt_append (pv 0) (pa_cons (pe_tup (pa_cons (pe_ix ix_list (pv 3) pe_int (fun _ _ => rfl)) (pa_cons (pe_lst pa_nil) pa_nil))) pa_nil)))))), ?_⟩
    refine ⟨(by show 1 ≤ sizeLine; decide), fun q nq => ?_⟩
    have s1 := same_upd (o := .tup [.str "title"]) nq
    refine ⟨_, rfl, q, b, ["title"], ws, rfl, sqT_new, s1.seq hb, by decide, by decide, fun z hz => (hw.2 z hz).1, fun v H2 s2 w2 => ?_⟩
    have hp2 := hp.lift (s1.trans s2)
    have s02 : Same H H2 := s1.trans s2
    have out : titOf ps (rdWords ["title"] ws) = none → _ := fun e => raise1 (E := fun _ _ _ => False) (W := E) (y := .int n) Z.t_NoText Z.n_NoText s02 fun H' d s h => kx e H' d (hp2.same.trans s) h
    cases hrd : rdWords ["title"] ws with
    | none =>
      rw [hrd] at w2 out
      cases w2
      refine ⟨_, rfl, rfl, _, rfl, iteT ⟨_, rfl, (show (1 : Nat) ≤ 1000 by decide), out rfl⟩⟩
    | some l =>
    obtain ⟨t, rfl⟩ := rdTitle hrd
    rw [hrd] at w2 out k
    obtain ⟨p5, ys, rfl, hp5, hl5, hd5⟩ := w2
    cases hd5 with
    | @cons v1 ys1 _ _ h1 h2 =>
      cases h2
      cases h1
      refine ⟨_, rfl, rfl, _, rfl, iteF ?_⟩
      refine ⟨_, rfl, p, H0, ps, rfl, hp2, _, rfl, ?_⟩
      cases hlk : lacks ps with
      | true =>
        exact iteT ⟨_, rfl, (show (1 : Nat) ≤ 1000 by decide), out (by show (if lacks ps = true then _ else _) = _; rw [hlk]; rfl)⟩
      | false =>
      refine iteF ?_
      have k : ∀ H', PgsAt K H0 H' p (ps ++ [(t, [])]) → Q .non H' := fun H' h => k _ H' (by show (if lacks ps = true then none else some (ps ++ [(t, [])])) = _; rw [hlk]; rfl) h
      obtain ⟨xs, a, bb, c, d⟩ := hp2.ex
      refine ⟨_, rfl, .inl ⟨rfl, _, .inl (.inl a)⟩, ?_⟩
      refine ⟨_, rfl, p5, _, 0, _, rfl, rfl, .inl (.inl hl5), at0 _ _, Nat.zero_le _, fun l nl => ?_⟩
      refine ⟨(by show 2 ≤ sizeLine; decide), fun u nu => ?_⟩
      have s3 := (same_upd (o := .lst []) nl).trans (same_upd (o := .tup [.str t, .ref l]) nu)
      have a3 := s3 _ _ a
      have hlen := Paired.length bb
      refine ⟨p, _, _, rfl, rfl, a3, ?_, k _ ⟨?_, hp.new, xs ++ [(u, l)], ?_, ?_, ?_, ?_⟩⟩
      · rw [List.length_map, hlen]
        exact Nat.lt_of_le_of_lt hpl (by decide)
      · exact same_mut (hp2.same.trans s3) hp.new
      · rw [upd_same, List.map_append]
        rfl
      · have nl0 : l ≠ p := (ne_of_none a nl).symm
        refine pd_snoc (pd_mono bb fun x y hx q => ?_) ?_
        · exact PgAt.mut (PgAt.lift q s3) a3 (d x hx)
        · have up : u ≠ p := (ne_of_none (same_upd nl _ _ a) nu).symm
          refine ⟨by rw [upd_ne up]; exact upd_same, ?_, [], by rw [upd_ne nl0]; exact same_upd nu _ _ upd_same, .nil, by simp⟩
          cases e : H0 l with
          | none => rfl
          | some o => rw [hp2.same _ _ e] at nl; cases nl
      · rw [List.map_append, List.nodup_append]
        refine ⟨c, by simp, fun x hx y hy => ?_⟩
        have hy : y = l := by simpa using hy
        subst hy
        obtain ⟨z, hz, rfl⟩ := List.mem_map.mp hx
        intro e
        have key : ∀ {l : List (Addr × Addr)} {m : List Pg}, Paired (PgAt K H0 H2) l m → z ∈ l → ∃ rv, H2 z.2 = some (.lst rv) := by
          intro l m q hz
          induction q with
          | nil => cases hz
          | cons h _ ih =>
            rcases List.mem_cons.mp hz with rfl | hz
            · obtain ⟨_, _, rv, e, _⟩ := h
              exact ⟨rv, e⟩
            · exact ih hz
        obtain ⟨rv, e2⟩ := key bb hz
        rw [e, nl] at e2
        cases e2
      · intro x hx
        rcases List.mem_append.mp hx with hx | hx
        · exact d x hx
        · rw [List.mem_singleton.mp hx]
          exact (ne_of_none a nl).symm
def spAddR (K : PySem.W.Frag) : Sp := fun vs H Q E => ∃ (p b : Addr) (n : Int) (H0 : Hp) (ps : List Pg) (ws : List Str), vs = [.ref p, .ref b, .int n] ∧ PgsAt K H0 H p ps ∧ SqL K H b (ws.map V.str) ∧ WsOk ws ∧ ws ≠ [] ∧ wt ps ≤ 1000000 ∧
  (∀ ps' H', rowOf ps (rdRow ws) = some ps' → PgsAt K H0 H' p ps' → Q .non H') ∧ (rowOf ps (rdRow ws) = none → outT K H0 n E)
abbrev s_add_row : Stmt := topS 57
theorem sc_add_row : FnScope [("programs" : Str), ("words" : Str), ("at" : Str), ("row" : Str)] ["programs", "words", "at"] (defScope s_add_row) := ⟨rfl, rfl, rfl, by decide +kernel, rfl, by decide +kernel, by decide +kernel⟩
theorem ok_add_row {f : Addr} {fd : FuncData} (F : FnP K "add_row" s_add_row f fd) (T : Bw K w mg tL es nF τ) (Z : Ez P w K mg base) (c_read_row : Cal P w K mg base "read_row" ["words"] 13 (spRd K (fun ws => ws ≠ []) rdRow)) : FnOk P w K mg base (L2.CX P w) 14 f fd ["programs", "words", "at"] (spAddR K) := by
  refine F.ok sc_add_row (fun vs H Q E h => ?_) (fun cdv A outer s H vs Q E hr h => ?_)
  · obtain ⟨p, b, n, H0, ps, ws, rfl, _⟩ := h
    rfl
  · obtain ⟨p, b, n, H0, ps, ws, rfl, hp, hb, hw, hne, hql, k, kx⟩ := h
    refine ⟨_, (pss_cons (ps_set (i := 3) sc_add_row.nd rfl (by first | exact .inl rfl | exact .inr rfl) (pe_cal c_read_row (hr.mono (by decide)) (by rfl) pass0 (pa_cons (pv 1) pa_nil))) (pss_cons (ps_if (PW.pt (pw_or (pt_cmpR op_isN (pv 3) pe_non (nomark _)) (pw_or1 (pt_cmpR op_eq (pe_callB call_len_seq (by rfl) T.n_len PySem.boot_len (pa_cons (pv 0) pa_nil)) pe_int (nomark _))))) (pss_one (ps_raise rfl (takes_of rfl rfl rfl rfl) (pmk_val rfl (pe_mkC Z.t_NoText Z.m_NoText (hr.mono (by decide)) (by rfl) Z.g_NoText pass0 (pa_cons (pv 2) pa_nil))))) pss_nil) (pss_one (ps_expr (pe_bm PySem.F.plainAttrs_list PySem.F.slot_list_append PySem.F.type_list_append mt_append (pe_ix ix_tup (pe_ix ix_list (pv 0) (pe_un un_neg pe_int) (fun _ _ => rfl)) pe_int (fun _ _ => rfl)) (pa_cons (pv 3) pa_nil)))))), ?_⟩
    refine ⟨_, rfl, b, ws, rfl, hb, hw, hne, fun v H2 s2 d2 => ?_⟩
    have hp2 := hp.lift s2
    have out : rowOf ps (rdRow ws) = none → _ := fun e => raise1 (E := fun _ _ _ => False) (W := E) (y := .int n) Z.t_NoText Z.n_NoText s2 fun H' d s h => kx e H' d (hp2.same.trans s) h
    obtain ⟨xs, a, bb, c, d⟩ := hp2.ex
    refine ⟨_, rfl, rfl, _, rfl, ?_⟩
    rw [non_dec d2]
    rcases rdRow_noL ws with hrd | ⟨r, hrd, hno⟩
    · rw [hrd] at out ⊢
      exact iteT ⟨_, rfl, (show (1 : Nat) ≤ 1000 by decide), out rfl⟩
    rw [hrd] at out d2 k ⊢
    refine iteF ⟨_, rfl, p, _, rfl, .inl (.inl (.inl a)), rfl, _, rfl, ?_⟩
    rcases List.eq_nil_or_concat ps with rfl | ⟨ps0, q, rfl⟩
    · cases bb
      exact iteT ⟨_, rfl, (show (1 : Nat) ≤ 1000 by decide), out (by show (if ([] : List Pg) = [] ∨ noL (.tuple r) = false then none else some (addLast [] (.tuple r))) = _; exact if_pos (.inl rfl))⟩
    rw [List.concat_eq_append] at hp hp2 k bb hql
    rw [wt_snoc] at hql
    have k : ∀ H', PgsAt K H0 H' p (ps0 ++ [(q.1, q.2 ++ [.tuple r])]) → Q .non H' := fun H' h => k _ H' (by
      show (if ps0 ++ [q] = [] ∨ noL (.tuple r) = false then none else some (addLast (ps0 ++ [q]) (.tuple r))) = _
      rw [if_neg (by rw [hno]; simp), addLast_snoc]) h
    obtain ⟨xs', x, rfl, b1, b2, b20, rv, b3, b4, b5⟩ := pd_unsnoc bb
    have e0 : decide (V.int (((xs' ++ [x]).map fun x => V.ref x.1).length : Int) = V.int 0) = false := decide_eq_false fun z => by
      injection z with z
      simp at z
      omega
    rw [e0]
    refine iteF ?_
    refine ⟨_, rfl, _, rfl, p, _, _, .ref x.1, rfl, rfl, .inl (.inl a), ?_, x.1, _, 1, _, rfl, rfl, .inl (.inl b2), rfl, .inl ⟨rfl, _, .inl (.inl b3)⟩, ?_⟩
    · rw [List.map_append]
      exact atI_last _ _
    refine ⟨_, rfl, x.2, _, _, rfl, rfl, b3, ?_, k _ ⟨?_, hp.new, xs' ++ [x], ?_, ?_, c, d⟩⟩
    · rw [dpA_len b4]
      exact Nat.lt_of_le_of_lt (show q.2.length ≤ 1000000 by omega) (by decide)
    · exact same_mut hp2.same b20
    · rw [upd_ne (d x (List.mem_append_right _ (List.mem_singleton.mpr rfl))).symm]
      exact a
    · refine pd_snoc (pd_mono b1 fun y z hy h => PgAt.mut h b3 ?_) ⟨?_, b20, rv ++ [v], upd_same, ?_, ?_⟩
      · intro e
        rw [List.map_append, List.nodup_append] at c
        exact c.2.2 y.2 (List.mem_map.mpr ⟨y, hy, rfl⟩) x.2 (by simp) e
      · have n1 : x.1 ≠ x.2 := fun z => by
          rw [z, b3] at b2
          cases b2
        rw [upd_ne n1]
        exact b2
      · refine dpA_noL (fun b xs h => sqT_lst b3 b xs h) (noLAll_of fun z hz => ?_) (dpA_app b4 (.cons d2 .nil))
        rcases List.mem_append.mp hz with hz | hz
        · exact b5 z hz
        · rw [List.mem_singleton.mp hz]
          exact hno
      · intro z hz
        rcases List.mem_append.mp hz with hz | hz
        · exact b5 z hz
        · rw [List.mem_singleton.mp hz]
          exact hno
end
end Kin
namespace Kin
open PySem PySem.Spec PyProof.Rows L2
section
variable {P : Program} {w : World} {K : PySem.W.Frag} {mg : Str → Option Value} {base : Heap} {tL : Tok} {es : Array DictEntry} {nF : Nat}
abbrev s_is_program : Stmt := topS 33
theorem sc_is_program : FnScope [("thing" : Str), ("rows" : Str), ("row" : Str)] ["thing"] (defScope s_is_program) := ⟨rfl, rfl, rfl, by decide +kernel, rfl, by decide +kernel, by decide +kernel⟩
theorem prog_ne2 {ds : List PyData} (h : (ds.length : Int) ≠ 2) : pProg (.tuple ds) = false := by
  unfold pProg
  split
  · rename_i e
    cases e
    exact absurd rfl h
  · rfl
theorem ok_is_program {f : Addr} {fd : FuncData} (F : FnP K "is_program" s_is_program f fd) (T : Bi K w mg tL es nF) (c_is_title : Cal P w K mg base "is_title" ["thing"] 1 (spDL K pTitle)) (c_is_row : Cal P w K mg base "is_row" ["thing", "size"] 7 (spRow K pRow)) : FnOk P w K mg base CX0 8 f fd ["thing"] (spDL K pProg) := by
  refine F.ok sc_is_program (fun vs H Q E h => ?_) (fun cdv A outer s H vs Q E hr h => ?_)
  · obtain ⟨x, d, rfl, _⟩ := h
    rfl
  · obtain ⟨x, d, rfl, hd, hok, k⟩ := h
    refine ⟨_, PSs.nox (pss_cons (ps_if (PW.pt (pw_or (pt_not (pt_val (pe_callB call_isi (by rfl) T.n_isinstance boot_isinstance (pa_cons (pv 0) (pa_cons (pe_bltn (v := .ty "tuple") (by rfl) T.n_tuple boot_tuple rfl) pa_nil))))) (pw_or (pt_cmpR op_ne (pe_callB call_len_seq (by rfl) T.n_len PySem.boot_len (pa_cons (pv 0) pa_nil)) pe_int (nomark _)) (pw_or1 (pt_not (pt_val (pe_cal c_is_title (hr.mono (by decide)) (by rfl) pass0 (pa_cons (pe_ix ix_tup (pv 0) pe_int (fun _ _ => rfl)) pa_nil)))))))) (pss_one (ps_ret pe_bl)) pss_nil) (pss_cons (ps_set (i := 1) sc_is_program.nd rfl (by first | exact .inl rfl | exact .inr rfl) (pe_ix ix_tup (pv 0) pe_int (fun _ _ => rfl))) (pss_cons (ps_if (PW.pt (pw_or (pt_not (pt_val (pe_callB call_isi (by rfl) T.n_isinstance boot_isinstance (pa_cons (pv 1) (pa_cons (pe_bltn (v := .ty "tuple") (by rfl) T.n_tuple boot_tuple rfl) pa_nil))))) (pw_or1 (pt_cmpR op_eq (pe_callB call_len_seq (by rfl) T.n_len PySem.boot_len (pa_cons (pv 1) pa_nil)) pe_int (nomark _))))) (pss_one (ps_ret pe_bl)) pss_nil) (pss_one (ps_ret (pe_callB (cr_all rfl) (by rfl) T.n_all boot_all (pa_cons (pe_lc (own := [(("row" : Str), 2)]) (g := gName 2) (te := tCall (spRow K pRow) [] E0 (tCons (tVar 2) (tCons (tCB (rLen K) (tCons (tVar 1) tNil)) tNil))) rfl sc_is_program.nd (pi_tup (pv 1)) (blkOk_by (N := [("thing" : Str), ("rows" : Str), ("row" : Str)]) (sc := defScope s_is_program) (by decide +kernel)) (fun _ _ _ _ _ => by exact (pg_name (i := 2) sc_is_program.nd rfl (by first | exact .inl rfl | exact .inr rfl))) (fun _ _ _ _ _ => pts_nil) (fun _ _ _ _ _ => (pe_cal c_is_row (hr.mono (by decide)) (by rfl) pass0 (pa_cons (pv 2) (pa_cons (pe_callB call_len_seq (by rfl) T.n_len PySem.boot_len (pa_cons (pv 1) pa_nil)) pa_nil))))) pa_nil))))))), ?_⟩
    refine ⟨x, rfl, x, _, _, _, _, rfl, .ty _, tyx_of hd, kit_tup (nd_of hd), _, rfl, ?_⟩
    cases hd with
    | @tup a xs ds ha hds =>
      refine iteF ⟨_, rfl, a, xs, rfl, .inr ha, rfl, _, rfl, ?_⟩
      have hl := dpA_len hds
      refine iteLen (fun hne => ?_) (fun heq => ?_)
      · have q := k H (Same.refl H)
        rw [prog_ne2 (by rw [← hl]; exact hne)] at q
        exact q
      · have hl2 : xs.length = 2 := by omega
        obtain ⟨x1, x2, rfl⟩ : ∃ x1 x2, xs = [x1, x2] := by
          match xs, hl2 with
          | [x1, x2], _ => exact ⟨x1, x2, rfl⟩
        cases hds with
        | @cons _ _ d1 _ h1 ht =>
          cases ht with
          | @cons _ _ d2 _ h2 ht2 =>
            cases ht2
            have hok1 := lenAll_mem (lenOk_tup hok).2 (List.mem_cons_self (a := d1) (l := [d2]))
            have hok2 := lenAll_mem (lenOk_tup hok).2 (List.mem_cons_of_mem d1 (List.mem_cons_self (a := d2) (l := [])))
            refine ⟨_, rfl, a, _, 0, x1, rfl, rfl, ha, rfl, x1, d1, rfl, h1, hok1, fun H1 s1 => ⟨_, rfl, ?_⟩⟩
            cases e1 : pTitle d1 with
            | false =>
              refine iteT ?_
              have q := k H1 s1
              have e : pProg (.tuple [d1, d2]) = false := by
                unfold pProg
                split
                · rename_i e
                  cases e
                  rw [e1]
                  rfl
                · rfl
              rw [e] at q
              exact q
            | true =>
              refine iteF ⟨_, rfl, a, _, 1, x2, rfl, rfl, Same.tup s1 ha, rfl, ?_⟩
              refine ⟨x2, rfl, x2, _, _, _, _, rfl, .ty _, tyx_of (dp_mono s1 h2), kit_tup (nd_of h2), _, rfl, ?_⟩
              cases h2 with
              | @tup b ys rs hb hrs =>
                have k : ∀ H', Same H H' → Q (.bl (pTitle d1 && (!rs.isEmpty && rs.all fun r => pRow r rs.length))) H' := k
                rw [e1, Bool.true_and] at k
                have hb1 := Same.tup s1 hb
                have hlr := dpA_len hrs
                refine iteF ⟨_, rfl, b, ys, rfl, .inr hb1, rfl, _, rfl, ?_⟩
                refine iteLenE (fun h0 => ?_) (fun h0 => ?_)
                · have hx : ys = [] := List.length_eq_zero_iff.mp (by omega)
                  subst hx
                  cases hrs
                  exact k H1 s1
                · have hne : rs.isEmpty = false := by
                    cases rs with
                    | nil => exact absurd (by rw [hlr]; rfl) h0
                    | cons _ _ => rfl
                  rw [hne] at k
                  refine ⟨_, rfl, b, rfl, ⟨ys, hb1⟩, fun D hD => ?_⟩
                  refine lc_vals (walk_tup (xs := ys)) (fun i => .bl ((rs[i]?.map fun r => pRow r rs.length).getD true)) hD (by rw [hlr]; exact Nat.le_trans (lenOk_tup hok2).1 (by decide)) (fun H' s2 => Same.tup s2 hb1) ?_ ?_
                  · rintro i v H' H'' Qe hi s2 ⟨rfl, hv⟩ q
                    obtain ⟨r, hr1, hr2⟩ := dpA_get hrs hv
                    refine ⟨rfl, ?_⟩
                    refine ⟨_, rfl, _, rfl, b, ys, rfl, .inr (Same.tup s2 hb1), v, r, (ys.length : Int), rfl, dp_mono (s1.trans s2) hr2, lenAll_mem (lenOk_tup hok2).2 (List.mem_of_getElem? hr1), fun H4 s4 => ?_⟩
                    have q := q H4 s4
                    rw [hr1] at q
                    rw [hlr]
                    exact q
                  · intro H' s2 hlst
                    refine ⟨D, (List.range ys.length).map fun i => ((rs[i]?.map fun r => pRow r rs.length).getD true), rfl, .inl (.inl ?_), ?_⟩
                    · rw [hlst, List.map_map]
                      rfl
                    · rw [hlr, map_range_eq (p := fun r => pRow r rs.length) (fun i x hx => by rw [hx]; rfl), all_id]
                      exact k H' (s1.trans s2)
              | _ =>
                have q := k H1 s1
                first
                | exact iteT q
                | (refine iteT ?_
                   rw [show pProg _ = false from rfl] at q
                   exact q)
    | _ => exact iteT (k H (Same.refl H))
end
end Kin
namespace Kin
open PySem PySem.Spec PyProof.Rows L2
def few (d : PyData) : Prop := ∀ ds, d = .tuple ds → ds.length < 64
def spBook (K : PySem.W.Frag) (f : PyData → Bool) : Sp := fun vs H Q _ => ∃ (x : V) (d : PyData), vs = [x] ∧ Dp K H x d ∧ lenOk d = true ∧ few d ∧ ∀ H', Same H H' → Q (.bl (f d)) H'
theorem prog_at0 {K : PySem.W.Frag} {H : Hp} {v : V} {d : PyData} (h : Dp K H v d) (hp : pProg d = true) : ∃ b ys, v = .ref b ∧ SqT K H b ys ∧ atI ys 0 = some (.str (titleOf d)) := by
  obtain ⟨z, rows, rfl, _, _⟩ := prog_title hp
  cases h with
  | @tup b ys _ hb hy =>
    refine ⟨b, ys, rfl, hb, ?_⟩
    cases hy with
    | cons h1 ht =>
      cases h1
      exact at0 _ _
section
variable {P : Program} {w : World} {K : PySem.W.Frag} {mg : Str → Option Value} {base : Heap} {tL : Tok} {es : Array DictEntry} {nF : Nat}
abbrev s_is_book : Stmt := topS 34
theorem sc_is_book : FnScope [("thing" : Str), ("program" : Str), ("titles" : Str)] ["thing"] (defScope s_is_book) := ⟨rfl, rfl, rfl, by decide +kernel, rfl, by decide +kernel, by decide +kernel⟩
theorem ok_is_book {f : Addr} {fd : FuncData} (F : FnP K "is_book" s_is_book f fd) (T : Bi K w mg tL es nF) (c_is_program : Cal P w K mg base "is_program" ["thing"] 8 (spDL K pProg)) : FnOk P w K mg base CX0 9 f fd ["thing"] (spBook K pBook) := by
  refine F.ok sc_is_book (fun vs H Q E h => ?_) (fun cdv A outer s H vs Q E hr h => ?_)
  · obtain ⟨x, d, rfl, _⟩ := h
    rfl
  · obtain ⟨x, d, rfl, hd, hok, hfew, k⟩ := h
    refine ⟨_, PSs.nox (pss_cons (ps_if (PW.pt (pw_or (pt_not (pt_val (pe_callB call_isi (by rfl) T.n_isinstance boot_isinstance (pa_cons (pv 0) (pa_cons (pe_bltn (v := .ty "tuple") (by rfl) T.n_tuple boot_tuple rfl) pa_nil))))) (pw_or1 (pt_cmpR op_eq (pe_callB call_len_seq (by rfl) T.n_len PySem.boot_len (pa_cons (pv 0) pa_nil)) pe_int (nomark _))))) (pss_one (ps_ret pe_bl)) pss_nil) (pss_cons (ps_if (pt_not (pt_val (pe_callB (cr_all rfl) (by rfl) T.n_all boot_all (pa_cons (pe_lc (own := [(("program" : Str), 1)]) (g := gName 1) rfl sc_is_book.nd (pi_tup (pv 0)) (blkOk_by (N := [("thing" : Str), ("program" : Str), ("titles" : Str)]) (sc := defScope s_is_book) (by decide +kernel)) (fun _ _ _ _ _ => by exact (pg_name (i := 1) sc_is_book.nd rfl (by first | exact .inl rfl | exact .inr rfl))) (fun _ _ _ _ _ => pts_nil) (fun _ _ _ _ _ => (pe_cal c_is_program (hr.mono (by decide)) (by rfl) pass0 (pa_cons (pv 1) pa_nil)))) pa_nil)))) (pss_one (ps_ret pe_bl)) pss_nil) (pss_cons (ps_setLc (i := 2) (own := [(("program" : Str), 1)]) (g := gName 1) (te := tOp (rIxT K) (tVar 1) (tC (.int 0))) rfl sc_is_book.nd rfl rfl (sw_true rfl rfl rfl (by decide +kernel)) (pi_tup (pv 0)) (blkOk_by (N := [("thing" : Str), ("program" : Str), ("titles" : Str)]) (sc := defScope s_is_book) (by decide +kernel)) (fun _ _ _ _ _ => by exact (pg_name (i := 1) sc_is_book.nd rfl (by first | exact .inl rfl | exact .inr rfl))) (fun _ _ _ _ _ => pts_nil) (fun _ _ _ _ _ => (pe_ix ix_tup (pv 1) pe_int (fun _ _ => rfl)))) (pss_one (ps_ret (pe_cmpR (op_eqD hr.units) (pv 2) (pe_callB (cr_sortTx rfl) (by rfl) T.n_sorted boot_sorted (pa_cons (pe_callTy (cr_setTx rfl) (by rfl) T.n_set boot_set (pa_cons (pv 2) pa_nil)) pa_nil)) (nomark _))))))), ?_⟩
    refine ⟨x, rfl, x, _, _, _, _, rfl, .ty _, tyx_of hd, kit_tup (nd_of hd), _, rfl, ?_⟩
    cases hd with
    | @tup a xs ds ha hds =>
      have k : ∀ H', Same H H' → Q (.bl (!ds.isEmpty && (ds.all pProg && rise (ds.map titleOf)))) H' := k
      have hlen := dpA_len hds
      have hf := hfew ds rfl
      refine iteF ⟨_, rfl, a, xs, rfl, .inr ha, rfl, _, rfl, ?_⟩
      refine iteLenE (fun h0 => ?_) (fun h0 => ?_)
      · have hx : xs = [] := List.length_eq_zero_iff.mp (by omega)
        subst hx
        cases hds
        exact k H (Same.refl H)
      · have hne : ds.isEmpty = false := by
          cases ds with
          | nil => exact absurd (by rw [hlen]; rfl) h0
          | cons _ _ => rfl
        rw [hne] at k
        refine ⟨_, rfl, a, rfl, ⟨xs, ha⟩, fun D hD => ?_⟩
        refine lc_vals (walk_tup (xs := xs)) (fun i => .bl ((ds[i]?.map pProg).getD true)) hD (by rw [hlen]; omega) (fun H' s2 => Same.tup s2 ha) ?_ ?_
        · rintro i v H' H'' Qe hi s2 ⟨rfl, hv⟩ q
          obtain ⟨r, hr1, hr2⟩ := dpA_get hds hv
          refine ⟨rfl, _, rfl, v, r, rfl, dp_mono s2 hr2, lenAll_mem (lenOk_tup hok).2 (List.mem_of_getElem? hr1), fun H4 s4 => ?_⟩
          have q := q H4 s4
          rw [hr1] at q
          exact q
        · intro H1 s1 hlst
          refine ⟨D, ds.map pProg, rfl, .inl (.inl ?_), _, rfl, ?_⟩
          · rw [hlst, hlen, show (List.range ds.length).map (fun i => V.bl ((ds[i]?.map pProg).getD true)) = ds.map fun d => V.bl (pProg d) from map_range_eq fun i x hx => by rw [hx]; rfl, List.map_map]
            rfl
          rw [all_id]
          cases ep : ds.all pProg with
          | false =>
            refine iteT ?_
            have q := k H1 s1
            rw [ep] at q
            exact q
          | true =>
            have hp := List.all_eq_true.mp ep
            refine iteF ?_
            have ha1 := Same.tup s1 ha
            refine ⟨_, rfl, a, rfl, ⟨xs, ha1⟩, fun D2 hD2 => ?_⟩
            refine lc_vals (walk_tup (xs := xs)) (fun i => .str ((ds[i]?.map titleOf).getD "")) hD2 (by rw [hlen]; omega) (fun H' s2 => Same.tup s2 ha1) ?_ ?_
            · rintro i v H' H'' Qe hi s2 ⟨rfl, hv⟩ q
              obtain ⟨r, hr1, hr2⟩ := dpA_get hds hv
              obtain ⟨b, ys, rfl, hb, hy⟩ := prog_at0 (dp_mono (s1.trans s2) hr2) (hp r (List.mem_of_getElem? hr1))
              have q := q H'' (Same.refl _)
              rw [hr1] at q
              exact ⟨rfl, _, rfl, b, ys, 0, _, rfl, rfl, hb, hy, q⟩
            · intro H2 s2 hlst2
              have ev : (List.range xs.length).map (fun i => V.str ((ds[i]?.map titleOf).getD "")) = (ds.map titleOf).map V.str := by
                rw [hlen, List.map_map]
                exact map_range_eq fun i x hx => by rw [hx]; rfl
              rw [ev] at hlst2
              have hP : SqL K H2 D2 ((ds.map titleOf).map V.str) := .inl (.inl hlst2)
              have hfl : (ds.map titleOf).length < 64 := by rw [List.length_map]; exact hf
              refine ⟨_, rfl, _, rfl, D2, _, rfl, hP, hfl, fun S hS => ?_⟩
              have s3 := same_upd (o := TxO P w S (once (ds.map titleOf).reverse)) hS
              refine ⟨S, once (ds.map titleOf).reverse, rfl, upd_same, ?_, fun ys p pm nd so hpn => ?_⟩
              · exact Nat.lt_of_le_of_lt (once_len _) (by rw [List.length_reverse]; exact hfl)
              have s4 := same_upd (o := .lst (ys.map V.str)) hpn
              have hstr : ∀ z ∈ ds.map titleOf, PyData.strOk z = true := fun z hz => by
                obtain ⟨d, hd1, rfl⟩ := List.mem_map.mp hz
                obtain ⟨z, rows, rfl, h3, _⟩ := prog_title (hp d hd1)
                exact az_ok h3
              refine ⟨.list ((ds.map titleOf).map PyData.str), .list (ys.map PyData.str), .lst ((s3.trans s4).seq hP) (dpA_strs _), .lst sqL_new (dpA_strs _), shaped_strs _ hstr, shaped_strs _ fun z hz => hstr z ?_, ?_⟩
              · have := pm.mem_iff.mp hz
                rw [mem_once, List.mem_reverse] at this
                exact this
              · rw [eqv_strs, sorted_is rfl pm nd so]
                have q := k _ (((s1.trans s2).trans s3).trans s4)
                rw [ep] at q
                exact q
    | _ => exact iteT (k H (Same.refl H))
end
end Kin
namespace Kin
open PySem PySem.Spec PyProof.Rows L2
theorem spl_mem (S : List Nat) : ∀ (l : List Nat) (k : Nat) (acc : List Nat), ∀ p ∈ TL.spl S k acc l, ∀ c ∈ p, c ∈ acc ∨ c ∈ l
  | [], k, acc, p, hp, c, hc => by
    rw [TL.spl_nil] at hp
    rw [List.mem_singleton.mp hp] at hc
    exact .inl hc
  | d :: r, 0, acc, p, hp, c, hc => by
    cases h : TL.pre S (d :: r) with
    | true =>
      rw [TL.spl_hit h] at hp
      rcases List.mem_cons.mp hp with rfl | hp
      · exact .inl hc
      · rcases spl_mem S r _ [] p hp c hc with q | q
        · cases q
        · exact .inr (List.mem_cons_of_mem _ q)
    | false =>
      rw [TL.spl_miss h] at hp
      rcases spl_mem S r 0 _ p hp c hc with q | q
      · rcases List.mem_append.mp q with q | q
        · exact .inl q
        · rw [List.mem_singleton.mp q]
          exact .inr List.mem_cons_self
      · exact .inr (List.mem_cons_of_mem _ q)
  | d :: r, k + 1, acc, p, hp, c, hc => by
    rcases spl_mem S r k acc p hp c hc with q | q
    · exact .inl q
    · exact .inr (List.mem_cons_of_mem _ q)
theorem split_ok {x y : Str} {c : Nat} (hy : sg y = [c]) (hc : c < 256) (hx : PyData.strOk x = true) : ∀ p ∈ Txt.split x y, PyData.strOk p = true := fun p hp => by
  have e := TL.split_spl x y (by show sg y ≠ []; rw [hy]; simp) (TL.kind_ok (by rw [← Array.all_toList, show y.cps.toList = [c] from hy]; simp [hc]))
  have hm : sg p ∈ TL.spl (sg y) 0 [] (sg x) := by
    rw [← e]
    exact List.mem_map.mpr ⟨p, hp, rfl⟩
  unfold PyData.strOk at hx ⊢
  rw [← Array.all_toList, List.all_eq_true] at hx ⊢
  intro d hd
  rcases spl_mem _ _ _ _ _ hm d hd with q | q
  · cases q
  · exact hx d q
theorem blank : sg (" " : Str) = [32] := by decide +kernel
theorem feed : sg ("\n" : Str) = [10] := by decide +kernel
theorem words_ok {x : Str} (hl : x.length ≤ 900000) (hx : PyData.strOk x = true) : WsOk (Txt.split x " ") ∧ Txt.split x " " ≠ [] := by
  obtain ⟨a, b, c⟩ := split1_len x 32 " " blank (by decide)
  exact ⟨⟨by omega, fun z hz => ⟨Nat.le_trans (b z hz) hl, split_ok blank (by decide) hx z hz⟩⟩, c⟩
/-- lines read: the row that is wrong, or the programs -/
def readF : Nat → List Pg → List Str → Nat ⊕ List Pg
  | i, ps, [] => if lacks ps = true then .inl i else .inr ps
  | i, ps, l :: r => match stepL ps l with
    | none => .inl i
    | some q => readF (i + 1) q r
section
variable {P : Program} {w : World} {K : PySem.W.Frag} {mg : Str → Option Value} {base : Heap} {tL : Tok} {es : Array DictEntry} {nF : Nat} {τ : Tks}
def LsOk (ls : List Str) : Prop := ls.length ≤ 900001 ∧ ∀ z ∈ ls, z.length ≤ 900000 ∧ PyData.strOk z = true
def spRp (K : PySem.W.Frag) : Sp := fun vs H Q E => ∃ (b : Addr) (ls : List Str), vs = [.ref b] ∧ SqL K H b (ls.map V.str) ∧ LsOk ls ∧ (∀ ps p H', readF 0 [] ls = .inr ps → PgsAt K H H' p ps → Q (.ref p) H') ∧ ∀ n : Nat, readF 0 [] ls = .inl n → outT K H (n : Int) E
abbrev s_read_programs : Stmt := topS 58
theorem sc_read_programs : FnScope [("lines" : Str), ("programs" : Str), ("at" : Str), ("line" : Str), ("words" : Str)] ["lines"] (defScope s_read_programs) := ⟨rfl, rfl, rfl, by decide +kernel, rfl, by decide +kernel, by decide +kernel⟩
theorem ok_read_programs {f : Addr} {fd : FuncData} (F : FnP K "read_programs" s_read_programs f fd) (T : Bw K w mg tL es nF τ) (Z : Ez P w K mg base) (c_add_program : CalX P w K mg base "add_program" ["programs", "words", "at"] 12 (spAddP K)) (c_add_row : CalX P w K mg base "add_row" ["programs", "words", "at"] 14 (spAddR K)) (c_lacks_rows : Cal P w K mg base "lacks_rows" ["programs"] 1 (spLacks K)) : FnOk P w K mg base (L2.CX P w) 15 f fd ["lines"] (spRp K) := by
  refine F.ok sc_read_programs (fun vs H Q E h => ?_) (fun cdv A outer s H vs Q E hr h => ?_)
  · obtain ⟨b, ls, rfl, _⟩ := h
    rfl
  · obtain ⟨b, ls, rfl, hb, hls, k, kx⟩ := h
    refine ⟨_, (pss_cons (ps_set (i := 1) sc_read_programs.nd rfl (by first | exact .inl rfl | exact .inr rfl) (pe_lst pa_nil)) (pss_cons (ps_for (passes_of rfl) rfl (pi_enum (by rfl) T.n_enumerate (pa_cons (pv 0) pa_nil)) (pg_tup rfl (pgs_cons (pg_name (i := 2) sc_read_programs.nd rfl (by first | exact .inl rfl | exact .inr rfl)) (pgs_cons (pg_name (i := 3) sc_read_programs.nd rfl (by first | exact .inl rfl | exact .inr rfl)) pgs_nil))) (pss_cons (ps_set (i := 4) sc_read_programs.nd rfl (by first | exact .inl rfl | exact .inr rfl) (pe_split (pv 3) pe_str)) (pss_one (ps_if (pt_cmpR op_eq (pe_ix ix_list (pv 4) pe_int (fun _ _ => rfl)) pe_str (nomark _)) (pss_one (ps_expr (pe_calX c_add_program (hr.mono (by decide)) (by rfl) (takes_of rfl rfl rfl rfl) (pa_cons (pv 1) (pa_cons (pe_slice sl_list (pv 4) (po_some pe_int) po_none) (pa_cons (pv 2) pa_nil)))))) (pss_one (ps_expr (pe_calX c_add_row (hr.mono (by decide)) (by rfl) (takes_of rfl rfl rfl rfl) (pa_cons (pv 1) (pa_cons (pv 4) (pa_cons (pv 2) pa_nil)))))))))) (pss_cons (ps_if (pt_val (pe_cal c_lacks_rows (hr.mono (by decide)) (by rfl) pass0 (pa_cons (pv 1) pa_nil))) (pss_one (ps_raise rfl (takes_of rfl rfl rfl rfl) (pmk_val rfl (pe_mkC Z.t_NoText Z.m_NoText (hr.mono (by decide)) (by rfl) Z.g_NoText pass0 (pa_cons (pe_callB call_len_seq (by rfl) T.n_len PySem.boot_len (pa_cons (pv 0) pa_nil)) pa_nil))))) pss_nil) (pss_one (ps_ret (pv 1)))))), ?_⟩
    refine ⟨Nat.zero_le _, fun p np => ?_⟩
    have s0 := same_upd (o := .lst []) np
    refine ⟨_, rfl, b, _, rfl, s0.seq hb, ?_⟩
    refine for_it (walk_enum (K := K) (a := b) (xs := ls.map V.str)) (fun i σ H' => ∃ y2 y3 y4 psi, σ = [some (.ref b), some (.ref p), y2, y3, y4] ∧ PgsAt K H H' p psi ∧ wt psi = i ∧ readF i psi (ls.drop i) = readF 0 [] ls)
      ⟨none, none, none, [], rfl, ⟨s0, np, [], upd_same, .nil, by simp, by simp⟩, rfl, rfl⟩ (fun i σ H' _ ⟨_, _, _, _, _, hp, _⟩ => hp.same.seq hb) ?_ ?_
    · rintro i v σ H1 H2 hi ⟨y2, y3, y4, psi, rfl, hp, hwt, hrd⟩ ⟨tp, v1, v2, rfl, ntp, rfl, e1, e2⟩
      have hi : i < ls.length := by simpa using hi
      have e1 : v1 = .int (i : Int) := (Option.some.inj e1).symm
      obtain ⟨line, hline, rfl⟩ : ∃ z, ls[i]? = some z ∧ v2 = .str z := by
        have e2 : (ls.map V.str)[i]? = some v2 := e2
        rw [List.getElem?_map] at e2
        obtain ⟨z, hz, rfl⟩ := Option.map_eq_some_iff.mp e2
        exact ⟨z, hz, rfl⟩
      subst e1
      have s1 := same_upd (o := .tup [.int (i : Int), .str line]) ntp
      obtain ⟨hl1, hl2⟩ := hls.2 line (List.mem_of_getElem? hline)
      obtain ⟨wok, wne⟩ := words_ok hl1 hl2
      have hdr : ls.drop i = line :: ls.drop (i + 1) := by
        rw [List.drop_eq_getElem_cons hi]
        rw [List.getElem?_eq_getElem hi] at hline
        rw [Option.some.inj hline]
      rw [hdr] at hrd
      have bad : stepL psi line = none → outT K H (i : Int) E := fun e => kx i (by
        rw [← hrd]
        show (match stepL psi line with | none => Sum.inl i | some q => readF (i + 1) q _) = _
        rw [e])
      have fine : ∀ q, stepL psi line = some q → wt q = i + 1 ∧ readF (i + 1) q (ls.drop (i + 1)) = readF 0 [] ls := fun q e => ⟨by rw [stepL_wt e, hwt], by
        rw [← hrd]
        show _ = (match stepL psi line with | none => Sum.inl i | some q => readF (i + 1) q _)
        rw [e]⟩
      refine ⟨tp, [_, _], rfl, sqT_new, rfl, _, [_], rfl, _, [], rfl, rfl, ?_⟩
      refine ⟨_, rfl, ⟨line, rfl⟩, line, " ", rfl, rfl, by decide +kernel, Nat.le_trans (Nat.add_le_add_right hl1 2) (by decide), fun L hL => ?_⟩
      have s2 := s1.trans (same_upd (o := .lst ((Txt.split line " ").map V.str)) hL)
      have hp2 := hp.lift s2
      have hL2 : SqL K (upd (upd H1 tp (.tup [.int (i : Int), .str line])) L (.lst ((Txt.split line " ").map V.str))) L ((Txt.split line " ").map V.str) := sqL_new
      generalize upd (upd H1 tp (.tup [.int (i : Int), .str line])) L (.lst ((Txt.split line " ").map V.str)) = H2 at hp2 hL2 ⊢
      have bad : stepW psi (Txt.split line " ") = none → outT K H (i : Int) E := bad
      have fine : ∀ q, stepW psi (Txt.split line " ") = some q → wt q = i + 1 ∧ readF (i + 1) q (ls.drop (i + 1)) = readF 0 [] ls := fine
      generalize Txt.split line " " = ws at hL2 wok wne bad fine ⊢
      cases ws with
      | nil => exact absurd rfl wne
      | cons z r =>
        have bad : (if z = "program" then titOf psi (rdWords ["title"] r) else rowOf psi (rdRow (z :: r))) = none → outT K H (i : Int) E := bad
        have fine : ∀ q, (if z = "program" then titOf psi (rdWords ["title"] r) else rowOf psi (rdRow (z :: r))) = some q → wt q = i + 1 ∧ readF (i + 1) q (ls.drop (i + 1)) = readF 0 [] ls := fine
        refine ⟨_, rfl, L, _, 0, _, rfl, rfl, hL2, at0 _ _, rfl, _, rfl, ?_⟩
        rw [dec_str]
        have hpl := wt_len psi
        have := hls.1
        refine ite2 (fun e => ?_) (fun e => ?_)
        · rw [if_pos (of_decide_eq_true e)] at bad fine
          refine ⟨_, rfl, _, rfl, _, rfl, L, _, rfl, hL2, fun c nc => ?_⟩
          rw [cut1]
          refine ⟨_, rfl, p, c, _, H, psi, r, rfl, hp2.lift (same_upd nc), sqL_new, wok.drop 1, by omega, fun q H' e hp' => ?_, bad⟩
          exact ⟨_, _, _, _, rfl, hp', fine q e⟩
        · rw [if_neg (fun q => e (decide_eq_true q))] at bad fine
          refine ⟨_, rfl, _, rfl, _, rfl, p, L, _, H, psi, z :: r, rfl, hp2, hL2, wok, by simp, by omega, fun q H' e hp' => ?_, bad⟩
          exact ⟨_, _, _, _, rfl, hp', fine q e⟩
    · rintro σ H1 ⟨y2, y3, y4, psi, rfl, hp, hwt, hrd⟩
      rw [List.length_map, List.drop_length] at hrd
      refine ⟨_, rfl, p, H, psi, rfl, hp, _, rfl, ?_⟩
      have hrd : (if lacks psi = true then Sum.inl ls.length else Sum.inr psi) = readF 0 [] ls := hrd
      cases hlk : lacks psi with
      | true =>
        rw [if_pos hlk] at hrd
        refine iteT ⟨_, rfl, b, _, rfl, .inl (hp.same.seq hb), ?_⟩
        exact ⟨(show (1 : Nat) ≤ 1000 by decide), raise1 (E := fun _ _ _ => False) (W := E) Z.t_NoText Z.n_NoText hp.same fun H' d s h => kx _ hrd.symm H' d (hp.same.trans s) (by rw [h]; simp)⟩
      | false =>
        rw [if_neg (by rw [hlk]; decide)] at hrd
        exact iteF ⟨_, rfl, k psi p H1 hrd.symm hp⟩
end
end Kin
namespace Kin
open PySem PySem.Spec PyProof.Rows L2
def rTupOf (K : PySem.W.Frag) : List V → Hp → VK → Prop := fun xs H Q => ∃ p ys, xs = [.ref p] ∧ ((SqL K H p ys ∧ ∀ l, H l = none → Q (.ref l) (upd H l (.tup ys))) ∨ (SqT K H p ys ∧ Q (.ref p) H))
theorem call_tupK {X : Cx} {K : PySem.W.Frag} (h : X.K = K) : CallR X (.type "tuple") (rTupOf K) := by
  subst h
  exact call_tuple_of
def pgD (q : Pg) : PyData := .tuple [.str q.1, .tuple q.2]
def bookD (ps : List Pg) : PyData := .tuple (ps.map pgD)
section
variable {P : Program} {w : World} {K : PySem.W.Frag} {mg : Str → Option Value} {base : Heap} {tL : Tok} {es : Array DictEntry} {nF : Nat} {τ : Tks}
theorem pd_get {α β : Type} {R : α → β → Prop} : ∀ {l : List α} {m : List β} {i : Nat} {x : α}, Paired R l m → l[i]? = some x → ∃ y, m[i]? = some y ∧ R x y
  | _, _, 0, _, .cons h _, e => ⟨_, rfl, by cases e; exact h⟩
  | _, _, i + 1, _, .cons _ t, e => by
    obtain ⟨y, h1, h2⟩ := pd_get (i := i) t (by simpa using e)
    exact ⟨y, by simpa using h1, h2⟩
  | _, _, _, _, .nil, e => by simp at e
def spRb (K : PySem.W.Frag) : Sp := fun vs H Q E => ∃ z : Str, vs = [.str z] ∧ z.length ≤ 900000 ∧ PyData.strOk z = true ∧ (∀ n : Nat, readF 0 [] (Txt.split z "\n") = .inl n → outT K H (n : Int) E) ∧
  ∀ ps, readF 0 [] (Txt.split z "\n") = .inr ps → lenOk (bookD ps) = true ∧ ps.length < 64 ∧ (pBook (bookD ps) = true → ∀ v H', Same H H' → Dp K H' v (bookD ps) → Q v H') ∧ (pBook (bookD ps) = false → ∀ H', Same H H' → E (.ref (He.ga K "NoBook")) none H')
abbrev s_read_book : Stmt := topS 59
theorem sc_read_book : FnScope [("text" : Str), ("programs" : Str), ("book" : Str), ("title" : Str), ("rows" : Str)] ["text"] (defScope s_read_book) := ⟨rfl, rfl, rfl, by decide +kernel, rfl, by decide +kernel, by decide +kernel⟩
theorem ok_read_book {f : Addr} {fd : FuncData} (F : FnP K "read_book" s_read_book f fd) (T : Bw K w mg tL es nF τ) (Z : Ez P w K mg base) (c_read_programs : CalX P w K mg base "read_programs" ["lines"] 15 (spRp K)) (c_is_book : Cal P w K mg base "is_book" ["thing"] 9 (spBook K pBook)) : FnOk P w K mg base (L2.CX P w) 16 f fd ["text"] (spRb K) := by
  refine F.ok sc_read_book (fun vs H Q E h => ?_) (fun cdv A outer s H vs Q E hr h => ?_)
  · obtain ⟨z, rfl, _⟩ := h
    rfl
  · obtain ⟨z, rfl, hz, hzo, kx, kk⟩ := h
    refine ⟨_, (pss_cons (ps_if (pt_not (pt_val (pe_callB call_isi (by rfl) T.n_isinstance boot_isinstance (pa_cons (pv 0) (pa_cons (pe_bltn (v := .ty "str") (by rfl) T.n_str boot_str rfl) pa_nil))))) (pss_one (ps_raise rfl (takes_of rfl rfl rfl rfl) (pmk_val rfl (pe_mkC Z.t_NoText Z.m_NoText (hr.mono (by decide)) (by rfl) Z.g_NoText pass0 (pa_cons pe_int pa_nil))))) pss_nil) (pss_cons (ps_set (i := 1) sc_read_book.nd rfl (by first | exact .inl rfl | exact .inr rfl) (pe_calX c_read_programs (hr.mono (by decide)) (by rfl) (takes_of rfl rfl rfl rfl) (pa_cons (pe_split (pv 0) pe_str) pa_nil))) (pss_cons (ps_set (i := 2) sc_read_book.nd rfl (by first | exact .inl rfl | exact .inr rfl) (pe_callTy call_tuple_of (by rfl) T.n_tuple boot_tuple (pa_cons (pe_lc (own := [(("title" : Str), 3), (("rows" : Str), 4)]) (g := gTup K 2 (gCons (gName 3) (gCons (gName 4) (gNil)))) rfl sc_read_book.nd (pi_list (pv 1)) (blkOk_by (N := [("text" : Str), ("programs" : Str), ("book" : Str), ("title" : Str), ("rows" : Str)]) (sc := defScope s_read_book) (by decide +kernel)) (fun _ _ _ _ _ => by exact (pg_tup rfl (pgs_cons (pg_name (i := 3) sc_read_book.nd rfl (by first | exact .inl rfl | exact .inr rfl)) (pgs_cons (pg_name (i := 4) sc_read_book.nd rfl (by first | exact .inl rfl | exact .inr rfl)) pgs_nil)))) (fun _ _ _ _ _ => pts_nil) (fun _ _ _ _ _ => (pe_tup (pa_cons (pv 3) (pa_cons (pe_callTy (call_tupK rfl) (by rfl) T.n_tuple boot_tuple (pa_cons (pv 4) pa_nil)) pa_nil))))) pa_nil))) (pss_cons (ps_if (pt_not (pt_val (pe_cal c_is_book (hr.mono (by decide)) (by rfl) pass0 (pa_cons (pv 2) pa_nil)))) (pss_one (ps_raise rfl (takes_of rfl rfl rfl rfl) (pmk_val rfl (pe_mkC0 Z.t_NoBook Z.m_NoBook (hr.mono (by decide)) (by rfl) Z.g_NoBook pass0)))) pss_nil) (pss_one (ps_ret (pv 2))))))), ?_⟩
    refine ⟨_, rfl, _, _, _, _, _, rfl, .ty _, tyx_of (K := K) (H := H) (.str z), kit_str (d := .str z) rfl, _, rfl, iteF ?_⟩
    obtain ⟨b1, b2, b3⟩ := split1_len z 10 "\n" feed (by decide)
    refine ⟨_, rfl, ⟨z, rfl⟩, z, "\n", rfl, rfl, by decide +kernel, Nat.le_trans (Nat.add_le_add_right hz 2) (by decide), fun L hL => ?_⟩
    have s1 := same_upd (o := .lst ((Txt.split z "\n").map V.str)) hL
    refine ⟨L, _, rfl, sqL_new, ⟨by omega, fun x hx => ⟨Nat.le_trans (b2 x hx) hz, split_ok feed (by decide) hzo x hx⟩⟩, fun ps p H2 hrd hp => ?_, fun n e H' d s h => kx n e H' d (s1.trans s) h⟩
    obtain ⟨hlo, hfew, k, kb⟩ := kk ps hrd
    obtain ⟨xs, a, bb, c, d⟩ := hp.ex
    have hlen := Paired.length bb
    refine ⟨_, rfl, p, rfl, ⟨_, .inl (.inl a)⟩, fun D hD => ?_⟩
    refine lc_noL (K := K) (walk_list (xs := xs.map fun x => V.ref x.1)) (fun i => pgD (ps.getD i ("", []))) hD (by rw [List.length_map, hlen]; omega) (fun i hi => ?_) (fun H' s3 => s3.seq (.inl (.inl a))) ?_ ?_
    · have hi : i < xs.length := by simpa using hi
      obtain ⟨q, hq, _, _, rv, _, _, hno⟩ := pd_get bb (List.getElem?_eq_getElem hi)
      rw [List.getD_eq_getElem?_getD, hq]
      show noL (.tuple [.str q.1, .tuple q.2]) = true
      rw [noL, noLAll, noLAll, noLAll, noL, noL, noLAll_of hno]
      rfl
    · rintro i v H' H'' Qe hi s3 ⟨rfl, hv⟩ qq
      rw [List.getElem?_map] at hv
      obtain ⟨x, hx, rfl⟩ := Option.map_eq_some_iff.mp hv
      obtain ⟨q, hq, g1, g2, rv, g3, g4, g5⟩ := pd_get bb hx
      rw [List.getD_eq_getElem?_getD, hq] at qq
      have qq : ∀ v H4, Same H'' H4 → Dp K H4 v (.tuple [.str q.1, .tuple q.2]) → Qe v H4 := qq
      refine ⟨x.1, [.str q.1, .ref x.2], rfl, .inl (.inl (s3 _ _ g1)), rfl, _, _, rfl, _, [], rfl, rfl, rfl, ?_⟩
      refine ⟨_, rfl, _, rfl, x.2, rv, rfl, .inl ⟨.inl (.inl (s3 _ _ g3)), fun t nt => ?_⟩⟩
      refine ⟨(by show 2 ≤ sizeLine; decide), fun u nu => qq _ _ ((same_upd nt).trans (same_upd nu)) (.tup sqT_new (.cons (.str _) (.cons (.tup (Same.tup (same_upd nu) sqT_new) (dpA_mono ((s3.trans (same_upd nt)).trans (same_upd nu)) g4)) .nil)))⟩
    · intro H3 ys s3 hl3 hd3
      have em : (List.range (xs.map fun x => V.ref x.1).length).map (fun i => pgD (ps.getD i ("", []))) = ps.map pgD := by
        rw [List.length_map, hlen]
        exact map_range_eq fun i x hx => by rw [List.getD_eq_getElem?_getD, hx]; rfl
      rw [em] at hd3
      refine ⟨D, ys, rfl, .inl ⟨.inl (.inl hl3), fun t nt => ?_⟩⟩
      have s4 := (hp.same.trans s3).trans (same_upd (o := .tup ys) nt)
      have hdt : Dp K (upd H3 t (.tup ys)) (.ref t) (bookD ps) := .tup sqT_new (dpA_mono (same_upd nt) hd3)
      refine ⟨_, rfl, _, bookD ps, rfl, hdt, hlo, fun ds e => ?_, fun H5 s5 => ⟨_, rfl, ?_⟩⟩
      · cases e
        rw [List.length_map]
        exact hfew
      · cases hpb : pBook (bookD ps) with
        | true => exact iteF ⟨_, rfl, k hpb _ _ ((s1.trans s4).trans s5) (dp_mono s5 hdt)⟩
        | false => exact iteT ⟨(show (0 : Nat) ≤ 1000 by decide), raise0 (E := fun _ _ _ => False) (W := E) Z.t_NoBook ((s1.trans s4).trans s5) fun H' s => kb hpb H' (((s1.trans s4).trans s5).trans s)⟩
end
end Kin
/-! Rows with a number in each; one number spoilt. -/
namespace Kin
open PySem PySem.Spec PyProof.Rows L2
def rowsW : List (List Str) := [["end", "5"], ["wait", "3"], ["wait", "0", "stops"], ["send", "call", "2"], ["handle", "kin", "1", "-"], ["group", "4", "new"], ["front", "9"], ["say", "0"], ["if", "7", "0"], ["if", "-7", "2"], ["handle", "on", "0", "call,kin"], ["goto", "3"]]
def rowsS : List Str := ["end 5", "wait 3", "wait 0 stops", "send call 2", "handle kin 1 -", "group 4 new", "front 9", "say 0", "if 7 0", "if -7 2", "handle on 0 call,kin", "goto 3"]
def progsS : List Str := ["program a", "program b", "program c"]
theorem rowsS_eq : rowsS = rowsW.map (Txt.join " ") := by decide +kernel
def firsts : List Str := ["0", "1", "2", "3", "4", "5", "7", "9", "-"]
def isN (z : Str) : Bool := decide (Txt.slice z none (some 1) ∈ firsts) && decide (z ≠ "-")
def put (ws : List Str) (k : Nat) (z : Str) : List Str := ws.take k ++ [z] ++ ws.drop (k + 1)
def okR (r : PyData) : Prop := noL r = true ∧ lenOk r = true ∧ r.canLay0 = true ∧ r.depth ≤ 4
def rowG (ws : List Str) : Bool := match rdRow ws with
  | .tuple r => noL (.tuple r) && (lenOk (.tuple r) && ((PyData.tuple r).canLay0 && decide ((PyData.tuple r).depth ≤ 4)))
  | _ => false
theorem rowG_ok {ws : List Str} (h : rowG ws = true) : ∃ r, rdRow ws = .tuple r ∧ okR (.tuple r) := by
  unfold rowG at h
  split at h
  · rename_i r e
    simp only [Bool.and_eq_true] at h
    exact ⟨r, e, h.1, h.2.1, h.2.2.1, of_decide_eq_true h.2.2.2⟩
  · cases h
theorem rows_good : ∀ ws ∈ rowsW, rowG ws = true := by decide +kernel
theorem nines_good : ∀ ws ∈ rowsW, ∀ k, k < 4 → isN (ws.getD k "") = true → rowG (put ws k "999999999") = true := by decide +kernel
theorem rows_shape : ∀ ws ∈ rowsW, ws.length ≤ 4 ∧ ws ≠ [] ∧ ws.headD "" ≠ "program" ∧ isN (ws.headD "") = false ∧ ∀ z ∈ ws, 32 ∉ sg z ∧ 10 ∉ sg z ∧ z.length ≤ 8 ∧ ∀ c ∈ sg z, c < 128 := by decide +kernel
structure Great (z : Str) : Prop where
  num : isNum z = false
  sgn : isSgn z = false
  tig : tight z
  sml : small 5000 z
  nw : ∀ w ∈ (["self", "parent", "group", "any", "plain", "ignore"] : List Str), z ≠ w
section
variable {z : Str}
theorem Great.rn (h : Great z) : rdNum z = none := by
  unfold rdNum
  rw [if_neg (by rw [h.num]; decide)]
theorem Great.rw (h : Great z) : rdWhole z = none := by
  unfold rdWhole
  rw [if_neg (by rw [h.sgn]; decide)]
theorem Great.small (h : Great z) : rdWord "small" z = .none := by
  show oI (rdNum z) = _
  rw [h.rn]; rfl
theorem Great.row (h : Great z) : rdWord "row" z = .none := by
  show oI (rdNum z) = _
  rw [h.rn]; rfl
theorem Great.whole (h : Great z) : rdWord "whole" z = .none := by
  show oI (rdWhole z) = _
  rw [h.rw]; rfl
theorem Great.to (h : Great z) : rdWord "to" z = .none := by
  show (if z ∈ (["self", "parent", "group"] : List Str) then PyData.str z else if ("to" : Str) = "where" then .none else oI (rdNum z)) = _
  rw [if_neg (fun q => by
    simp only [List.mem_cons, List.not_mem_nil, or_false] at q
    rcases q with q | q | q <;> exact h.nw _ (by simp) q), if_neg (by decide), h.rn]
  rfl
theorem Great.who (h : Great z) : rdWord "who" z = .none := by
  show (if z ∈ (["self"] : List Str) then PyData.str z else if ("who" : Str) = "where" then .none else oI (rdNum z)) = _
  rw [if_neg (fun q => by
    simp only [List.mem_cons, List.not_mem_nil, or_false] at q
    exact h.nw _ (by simp) q), if_neg (by decide), h.rn]
  rfl
theorem bad_form {w : Str} {ks r : List Str} (hf : forms.lookup w = some ks) (h1 : w ≠ "wait") (h2 : w ≠ "handle") (h : (List.zipWith rdWord ks r).any isNone = true) : rdRow (w :: r) = .none := by
  have e : rdRow (w :: r) = if w = "wait" then rdWait r else if w = "handle" then rdHandle r else oRow w (rdWords ks r) := by
    unfold rdRow
    simp only [hf]
  rw [e, if_neg h1, if_neg h2]
  unfold rdWords
  rw [if_pos h]
  split <;> rfl
theorem bad_wait {r : List Str} (h : Great z) : rdRow ("wait" :: z :: r) = .none := by
  have e : rdRow ("wait" :: z :: r) = rdWait (z :: r) := rfl
  rw [e]
  unfold rdWait
  split
  · rfl
  · show (if z = "any" then _ else match rdNum z with | none => PyData.none | some n => _) = _
    rw [if_neg (h.nw _ (by simp)), h.rn]
theorem bad_handle {s t : Str} (h : Great z) : rdRow ["handle", s, z, t] = .none := by
  have e : rdRow ["handle", s, z, t] = rdHandle [s, z, t] := rfl
  rw [e]
  unfold rdHandle
  rw [if_neg (fun q => absurd (show 3 = 2 from q.1) (by decide))]
  have e2 : rdWords ["signal", "row", "signals"] [s, z, t] = none := by
    unfold rdWords
    refine (if_pos rfl).trans (if_pos ?_)
    show ([rdWord "signal" s, rdWord "row" z, rdWord "signals" t].any isNone) = true
    rw [h.row]
    simp [isNone]
  rw [e2]
def pairs : List (List Str × Nat) := [(["end", "5"], 1), (["wait", "3"], 1), (["wait", "0", "stops"], 1), (["send", "call", "2"], 2), (["handle", "kin", "1", "-"], 2), (["group", "4", "new"], 1), (["front", "9"], 1), (["say", "0"], 1), (["if", "7", "0"], 1), (["if", "7", "0"], 2), (["if", "-7", "2"], 1), (["if", "-7", "2"], 2), (["handle", "on", "0", "call,kin"], 2), (["goto", "3"], 1)]
theorem pairs_ok : ∀ ws ∈ rowsW, ∀ k, k < 4 → isN (ws.getD k "") = true → (ws, k) ∈ pairs := by decide +kernel
theorem bad_rows (h : Great z) : ∀ ws ∈ rowsW, ∀ k, k < 4 → isN (ws.getD k "") = true → rdRow (put ws k z) = .none := by
  intro ws hws k hk hn
  have one : ∀ {w : Str} {kd : Str}, forms.lookup w = some [kd] → w ≠ "wait" → w ≠ "handle" → rdWord kd z = .none → rdRow [w, z] = .none := fun hf h1 h2 e => bad_form hf h1 h2 (by show ([rdWord _ z].any isNone) = true; rw [e]; rfl)
  have fst : ∀ {w a : Str} {kd ka : Str}, forms.lookup w = some [kd, ka] → w ≠ "wait" → w ≠ "handle" → rdWord kd z = .none → rdRow [w, z, a] = .none := fun hf h1 h2 e => bad_form hf h1 h2 (by show ([rdWord _ z, rdWord _ _].any isNone) = true; rw [e]; rfl)
  have snd : ∀ {w a : Str} {kd ka : Str}, forms.lookup w = some [ka, kd] → w ≠ "wait" → w ≠ "handle" → rdWord kd z = .none → rdRow [w, a, z] = .none := fun hf h1 h2 e => bad_form hf h1 h2 (by show ([rdWord _ _, rdWord _ z].any isNone) = true; rw [e]; simp [isNone])
  have hp := pairs_ok ws hws k hk hn
  unfold pairs at hp
  simp only [List.mem_cons, List.not_mem_nil, or_false, Prod.mk.injEq] at hp
  rcases hp with ⟨rfl, rfl⟩ | ⟨rfl, rfl⟩ | ⟨rfl, rfl⟩ | ⟨rfl, rfl⟩ | ⟨rfl, rfl⟩ | ⟨rfl, rfl⟩ | ⟨rfl, rfl⟩ | ⟨rfl, rfl⟩ | ⟨rfl, rfl⟩ | ⟨rfl, rfl⟩ | ⟨rfl, rfl⟩ | ⟨rfl, rfl⟩ | ⟨rfl, rfl⟩ | ⟨rfl, rfl⟩
  · show rdRow ["end", z] = .none
    exact one (w := "end") (kd := "small") (by decide +kernel) (by decide) (by decide) h.small
  · show rdRow ["wait", z] = .none
    exact bad_wait h
  · show rdRow ["wait", z, "stops"] = .none
    exact bad_wait h
  · show rdRow ["send", "call", z] = .none
    exact snd (w := "send") (ka := "signal") (kd := "to") (by decide +kernel) (by decide) (by decide) h.to
  · show rdRow ["handle", "kin", z, "-"] = .none
    exact bad_handle h
  · show rdRow ["group", z, "new"] = .none
    exact fst (w := "group") (kd := "who") (ka := "where") (by decide +kernel) (by decide) (by decide) h.who
  · show rdRow ["front", z] = .none
    exact one (w := "front") (kd := "who") (by decide +kernel) (by decide) (by decide) h.who
  · show rdRow ["say", z] = .none
    exact one (w := "say") (kd := "small") (by decide +kernel) (by decide) (by decide) h.small
  · show rdRow ["if", z, "0"] = .none
    exact fst (w := "if") (kd := "whole") (ka := "row") (by decide +kernel) (by decide) (by decide) h.whole
  · show rdRow ["if", "7", z] = .none
    exact snd (w := "if") (ka := "whole") (kd := "row") (by decide +kernel) (by decide) (by decide) h.row
  · show rdRow ["if", z, "2"] = .none
    exact fst (w := "if") (kd := "whole") (ka := "row") (by decide +kernel) (by decide) (by decide) h.whole
  · show rdRow ["if", "-7", z] = .none
    exact snd (w := "if") (ka := "whole") (kd := "row") (by decide +kernel) (by decide) (by decide) h.row
  · show rdRow ["handle", "on", z, "call,kin"] = .none
    exact bad_handle h
  · show rdRow ["goto", z] = .none
    exact one (w := "goto") (kd := "row") (by decide +kernel) (by decide) (by decide) h.row
end
/-! ### lines -/
def RowL (s : Str) : Prop := ∃ w t r, Txt.split s " " = w :: t ∧ w ≠ "program" ∧ rdRow (w :: t) = .tuple r ∧ okR (.tuple r)
def BadL (s : Str) : Prop := ∃ w t, Txt.split s " " = w :: t ∧ w ≠ "program" ∧ rdRow (w :: t) = .none
def ProgL (s : Str) : Prop := ∃ t : Str, Txt.split s " " = (["program", t] : List Str) ∧ rdWords ["title"] [t] = some [.str t] ∧ t.length ≤ 8 ∧ PyData.strOk t = true
def okPs (ps : List Pg) : Prop := ∀ q ∈ ps, q.1.length ≤ 8 ∧ PyData.strOk q.1 = true ∧ ∀ r ∈ q.2, okR r
structure I5 (i : Nat) (ps : List Pg) : Prop where
  ne : 0 < i → ps ≠ []
  lk : i % 5 ≠ 1 → lacks ps = false
  ok : okPs ps
  wt : wt ps = i
theorem lacks_snoc' {ps : List Pg} {q : Pg} : lacks (ps ++ [q]) = q.2.isEmpty := by
  unfold lacks
  rw [List.getLast?_append]
  rfl
theorem step_row' {i : Nat} {ps : List Pg} {s : Str} (h : I5 i ps) (hi : 0 < i) (hr : RowL s) : ∃ ps', stepL ps s = some ps' ∧ I5 (i + 1) ps' := by
  obtain ⟨w, t, r, e, hw, hrd, ok⟩ := hr
  rcases List.eq_nil_or_concat ps with rfl | ⟨ps0, q, rfl⟩
  · exact absurd rfl (h.ne hi)
  · rw [List.concat_eq_append] at h ⊢
    have est : stepL (ps0 ++ [q]) s = some (ps0 ++ [(q.1, q.2 ++ [.tuple r])]) := by
      unfold stepL
      rw [e]
      show (if w = "program" then _ else rowOf (ps0 ++ [q]) (rdRow (w :: t))) = _
      rw [if_neg hw, hrd]
      show (if ps0 ++ [q] = [] ∨ noL (.tuple r) = false then none else some (addLast (ps0 ++ [q]) (.tuple r))) = _
      rw [if_neg (by rw [ok.1]; simp), addLast_snoc]
    refine ⟨_, est, ⟨fun _ => by simp, fun _ => ?_, fun p hp => ?_, by rw [stepL_wt est, h.wt]⟩⟩
    · rw [lacks_snoc']
      simp
    · rcases List.mem_append.mp hp with hp | hp
      · exact h.ok p (List.mem_append_left _ hp)
      · rw [List.mem_singleton.mp hp]
        obtain ⟨a, b, c⟩ := h.ok q (by simp)
        refine ⟨a, b, fun x hx => ?_⟩
        rcases List.mem_append.mp hx with hx | hx
        · exact c x hx
        · rw [List.mem_singleton.mp hx]
          exact ok
theorem step_prog' {i : Nat} {ps : List Pg} {s : Str} (h : I5 i ps) (hi : i % 5 = 0) (hr : ProgL s) : ∃ ps', stepL ps s = some ps' ∧ I5 (i + 1) ps' := by
  obtain ⟨t, e, hrd, hl, hs⟩ := hr
  have est : stepL ps s = some (ps ++ [(t, [])]) := by
    unfold stepL
    rw [e]
    show titOf ps (rdWords ["title"] [t]) = _
    rw [hrd]
    show (if lacks ps = true then none else some (ps ++ [(t, [])])) = _
    rw [h.lk (by omega)]
    rfl
  refine ⟨_, est, ⟨fun _ => by simp, fun q => absurd (show (i + 1) % 5 = 1 by omega) q, fun p hp => ?_, by rw [stepL_wt est, h.wt]⟩⟩
  rcases List.mem_append.mp hp with hp | hp
  · exact h.ok p hp
  · rw [List.mem_singleton.mp hp]
    exact ⟨hl, hs, fun _ q => by cases q⟩
theorem step_bad' {ps : List Pg} {s : Str} (h : BadL s) : stepL ps s = none := by
  obtain ⟨w, t, e, hw, hrd⟩ := h
  unfold stepL
  rw [e]
  show (if w = "program" then _ else rowOf ps (rdRow (w :: t))) = _
  rw [if_neg hw, hrd]
  rfl
theorem read_pre : ∀ (pre rest : List Str) (i : Nat) (ps : List Pg), I5 i ps → (∀ j s, pre[j]? = some s → ((i + j) % 5 = 0 → ProgL s) ∧ ((i + j) % 5 ≠ 0 → RowL s)) → ∃ ps', I5 (i + pre.length) ps' ∧ readF i ps (pre ++ rest) = readF (i + pre.length) ps' rest
  | [], rest, i, ps, h, _ => ⟨ps, h, rfl⟩
  | l :: pre, rest, i, ps, h, hs => by
    obtain ⟨ps1, e1, h1⟩ : ∃ ps', stepL ps l = some ps' ∧ I5 (i + 1) ps' := by
      by_cases q : i % 5 = 0
      · exact step_prog' h q ((hs 0 l rfl).1 q)
      · exact step_row' h (by omega) ((hs 0 l rfl).2 q)
    obtain ⟨ps2, h2, e2⟩ := read_pre pre rest (i + 1) ps1 h1 fun j s e => by
      have := hs (j + 1) s (by simpa using e)
      rw [show i + (j + 1) = i + 1 + j by omega] at this
      exact this
    refine ⟨ps2, by rw [List.length_cons, show i + (pre.length + 1) = i + 1 + pre.length by omega]; exact h2, ?_⟩
    show (match stepL ps l with | none => Sum.inl i | some q => readF (i + 1) q (pre ++ rest)) = _
    rw [e1, List.length_cons, show i + (pre.length + 1) = i + 1 + pre.length by omega]
    exact e2
theorem i5_0 : I5 0 [] := ⟨fun h => absurd h (by decide), fun _ => rfl, fun _ h => (by cases h), rfl⟩
/-- the lines of a book, as they are drawn -/
def Lines (ls : List Str) : Prop := ls.length % 5 = 0 ∧ ∀ j s, ls[j]? = some s → (j % 5 = 0 → s ∈ progsS) ∧ (j % 5 ≠ 0 → s ∈ rowsS)
theorem join_row {ws : List Str} (h : ∀ z ∈ ws, 32 ∉ sg z) (hne : ws ≠ []) : Txt.split (Txt.join " " ws) " " = ws := TL.split_join (y := " ") blank (by decide +kernel) hne h
theorem rows_L : ∀ s ∈ rowsS, RowL s := fun s hs => by
  rw [rowsS_eq] at hs
  obtain ⟨ws, hw, rfl⟩ := List.mem_map.mp hs
  obtain ⟨_, h2, h3, _, h5⟩ := rows_shape ws hw
  obtain ⟨r, e, ok⟩ := rowG_ok (rows_good ws hw)
  cases ws with
  | nil => exact absurd rfl h2
  | cons w t => exact ⟨w, t, r, join_row (fun z hz => (h5 z hz).1) (by simp), h3, e, ok⟩
theorem progs_L : ∀ s ∈ progsS, ProgL s := fun s hs => by
  have er : ∀ t : Str, 0 < t.length → azAll t = true → rdWords ["title"] [t] = some [.str t] := fun t h0 haz => by
    have hl : rdWord "title" t = .str t := by
      show oS (rdLet t) = _
      unfold rdLet
      rw [if_neg (by omega), if_pos haz]
      rfl
    unfold rdWords
    show (if [rdWord "title" t].any isNone = true then none else some [rdWord "title" t]) = _
    rw [hl]
    rfl
  have e : ∀ t : Str, 32 ∉ sg t → Txt.split (Txt.join " " (["program", t] : List Str)) " " = (["program", t] : List Str) := fun t ht => join_row (fun z hz => by
    simp only [List.mem_cons, List.not_mem_nil, or_false] at hz
    rcases hz with rfl | rfl
    · decide +kernel
    · exact ht) (by simp)
  unfold progsS at hs
  simp only [List.mem_cons, List.not_mem_nil, or_false] at hs
  rcases hs with rfl | rfl | rfl
  · exact ⟨"a", e "a" (by decide +kernel), er "a" (by decide +kernel) (by decide +kernel), by decide +kernel, by decide +kernel⟩
  · exact ⟨"b", e "b" (by decide +kernel), er "b" (by decide +kernel) (by decide +kernel), by decide +kernel, by decide +kernel⟩
  · exact ⟨"c", e "c" (by decide +kernel), er "c" (by decide +kernel) (by decide +kernel), by decide +kernel, by decide +kernel⟩
theorem put_mem {ws : List Str} {k : Nat} {z x : Str} (h : x ∈ put ws k z) : x = z ∨ x ∈ ws := by
  unfold put at h
  rcases List.mem_append.mp h with h | h
  · rcases List.mem_append.mp h with h | h
    · exact .inr (List.mem_of_mem_take h)
    · exact .inl (List.mem_singleton.mp h)
  · exact .inr (List.mem_of_mem_drop h)
theorem put_head {ws : List Str} {k : Nat} {z : Str} (hk : 0 < k) (hne : ws ≠ []) : ∃ t, put ws k z = ws.headD "" :: t := by
  cases ws with
  | nil => exact absurd rfl hne
  | cons w t =>
    obtain ⟨m, rfl⟩ : ∃ m, k = m + 1 := ⟨k - 1, by omega⟩
    exact ⟨_, rfl⟩
theorem isN_pos {ws : List Str} (hw : ws ∈ rowsW) {k : Nat} (h : isN (ws.getD k "") = true) : 0 < k ∧ k < 4 := by
  obtain ⟨h1, h2, _, h4, _⟩ := rows_shape ws hw
  constructor
  · rcases Nat.eq_zero_or_pos k with rfl | h0
    · cases ws with
      | nil => exact absurd rfl h2
      | cons w t => rw [show (w :: t).getD 0 "" = (w :: t).headD "" from rfl, h4] at h; cases h
    · exact h0
  · refine Nat.lt_of_not_le fun q => ?_
    rw [List.getD_eq_getElem?_getD, List.getElem?_eq_none (by omega)] at h
    exact absurd h (by decide +kernel)
theorem bad_L {ws : List Str} (hw : ws ∈ rowsW) {k : Nat} {z : Str} (hn : isN (ws.getD k "") = true) (g : Great z) : BadL (Txt.join " " (put ws k z)) := by
  obtain ⟨k0, k4⟩ := isN_pos hw hn
  obtain ⟨_, h2, h3, _, h5⟩ := rows_shape ws hw
  obtain ⟨t, et⟩ := put_head (z := z) k0 h2
  have e := bad_rows g ws hw k k4 hn
  refine ⟨_, t, ?_, h3, by rw [← et]; exact e⟩
  rw [← et]
  refine join_row (fun x hx => ?_) (by rw [et]; simp)
  rcases put_mem hx with rfl | hx
  · exact g.tig.1
  · exact (h5 x hx).1
theorem nine_L {ws : List Str} (hw : ws ∈ rowsW) {k : Nat} (hn : isN (ws.getD k "") = true) : RowL (Txt.join " " (put ws k "999999999")) := by
  obtain ⟨k0, k4⟩ := isN_pos hw hn
  obtain ⟨_, h2, h3, _, h5⟩ := rows_shape ws hw
  obtain ⟨t, et⟩ := put_head (z := "999999999") k0 h2
  obtain ⟨r, e, ok⟩ := rowG_ok (nines_good ws hw k k4 hn)
  refine ⟨_, t, r, ?_, h3, by rw [← et]; exact e, ok⟩
  rw [← et]
  refine join_row (fun x hx => ?_) (by rw [et]; simp)
  rcases put_mem hx with rfl | hx
  · decide +kernel
  · exact (h5 x hx).1
end Kin
namespace Kin
open PySem PySem.Spec PyProof.Rows L2
structure Em (K : PySem.W.Frag) (mg : Str → Option Value) : Prop where
  g : ∀ i, i < 11 → mg (errs.getD i "") = some (.ref (cl K i))
  oex : ∀ i, i < 11 → OexC K (cl K i)
  exc : ∀ i, i < 11 → L2.ExcC K (cl K i)
  kit : ∀ i j, i < 11 → j < 11 → PySem.W.kitOne K (.ref (cl K i)) (.ref (cl K j)) = some (i == j)
structure Et (K : PySem.W.Frag) (mg : Str → Option Value) : Prop where
  em : Em K mg
  gk : mg "KinError" = some (.ref (He.ga K "KinError"))
  gv : mg "ValueError" = none
  kv : ∀ i, i < 11 → PySem.W.kitOne K (.ref (cl K i)) (.type "ValueError") = some true
  ex : ∀ i, i < 11 → PySem.W.exmOne K (.ref (cl K i)) (.ref (He.ga K "KinError")) = some true
  xf : XfC K (cl K 3)
  no : PySem.W.findIn K (.ref (cl K 3)) "row" = some none
theorem kit9 {K : PySem.W.Frag} {mg : Str → Option Value} (M : Em K mg) {i : Nat} (hi : i = 3 ∨ i = 4) : PySem.W.kitAny K (.ref (cl K i)) ([6, 10, 9, 1, 7, 2, 0, 5, 8].map fun j => Value.ref (cl K j)) = some false := by
  have one : ∀ j, j < 11 → i ≠ j → PySem.W.kitOne K (.ref (cl K i)) (.ref (cl K j)) = some false := fun j hj ne => by
    rw [M.kit i j (by omega) hj]
    exact congrArg some (beq_eq_false_iff_ne.mpr ne)
  simp only [List.map_cons, List.map_nil, PySem.W.kitAny]
  rw [one 6 (by decide) (by omega), one 10 (by decide) (by omega), one 9 (by decide) (by omega), one 1 (by decide) (by omega), one 7 (by decide) (by omega), one 2 (by decide) (by omega), one 0 (by decide) (by omega), one 5 (by decide) (by omega), one 8 (by decide) (by omega)]
section
variable {P : Program} {w : World} {K : PySem.W.Frag} {mg : Str → Option Value} {base : Heap} {tL : Tok} {es : Array DictEntry} {nF : Nat} {τ : Tks}
def spClass (K : PySem.W.Frag) : Sp := fun vs H Q _ => ∃ (a : Addr) (i : Nat) (d : Option Addr), vs = [.ref a] ∧ (i = 3 ∨ i = 4) ∧ H a = some (exk a (.ref (cl K i)) d) ∧ (∀ e, d = some e → ∃ fs, H e = some (exd e fs)) ∧
  (i = 3 → ∃ (e : Addr) (n : Int), d = some e ∧ H e = some (exd e [("row", .int n)]) ∧ ∀ v H', Same H H' → Dp K H' v (.tuple [.str "text", .int n]) → Q v H') ∧ (i = 4 → ∀ H', Same H H' → Q (.str "book") H')
abbrev s__law_class : Stmt := topS 64
theorem sc__law_class : FnScope [("_law_caught" : Str), ("_law_marks" : Str)] ["_law_caught"] (defScope s__law_class) := ⟨rfl, rfl, rfl, by decide +kernel, rfl, by decide +kernel, by decide +kernel⟩
theorem ok__law_class {f : Addr} {fd : FuncData} (F : FnP K "_law_class" s__law_class f fd) (T : Bw K w mg tL es nF τ) (M : Et K mg) : FnOk P w K mg base CX0 1 f fd ["_law_caught"] (spClass K) := by
  refine F.ok sc__law_class (fun vs H Q E h => ?_) (fun cdv A outer s H vs Q E hr h => ?_)
  · obtain ⟨a, i, d, rfl, _⟩ := h
    rfl
  · obtain ⟨a, i, d, rfl, hi, ha, hd, k3, k4⟩ := h
    refine ⟨_, PSs.nox (pss_cons (ps_if (pt_not (pt_val (pe_callB call_isK (by rfl) T.n_isinstance boot_isinstance (pa_cons (pv 0) (pa_cons (pe_bltn (v := .ty "ValueError") (by rfl) M.gv PyProof.Rows.Boot.«ValueError» rfl) pa_nil))))) (pss_one (ps_ret pe_str)) pss_nil) (pss_cons (ps_if (pt_val (pe_callB call_isK (by rfl) T.n_isinstance boot_isinstance (pa_cons (pv 0) (pa_cons (pe_tup (pa_cons (pe_glob (v := .ref (cl K 6)) (by rfl) (M.em.g 6 (by decide)) rfl) (pa_cons (pe_glob (v := .ref (cl K 10)) (by rfl) (M.em.g 10 (by decide)) rfl) (pa_cons (pe_glob (v := .ref (cl K 9)) (by rfl) (M.em.g 9 (by decide)) rfl) (pa_cons (pe_glob (v := .ref (cl K 1)) (by rfl) (M.em.g 1 (by decide)) rfl) (pa_cons (pe_glob (v := .ref (cl K 7)) (by rfl) (M.em.g 7 (by decide)) rfl) (pa_cons (pe_glob (v := .ref (cl K 2)) (by rfl) (M.em.g 2 (by decide)) rfl) (pa_cons (pe_glob (v := .ref (cl K 0)) (by rfl) (M.em.g 0 (by decide)) rfl) (pa_cons (pe_glob (v := .ref (cl K 5)) (by rfl) (M.em.g 5 (by decide)) rfl) (pa_cons (pe_glob (v := .ref (cl K 8)) (by rfl) (M.em.g 8 (by decide)) rfl) pa_nil)))))))))) pa_nil)))) (pss_one (ps_ret pe_str)) pss_nil) (pss_cons (ps_set (i := 1) sc__law_class.nd rfl (by first | exact .inl rfl | exact .inr rfl) (pe_lst (pa_cons (pe_callB call_isK (by rfl) T.n_isinstance boot_isinstance (pa_cons (pv 0) (pa_cons (pe_glob (v := .ref (cl K 3)) (by rfl) (M.em.g 3 (by decide)) rfl) pa_nil))) (pa_cons (pe_callB call_isK (by rfl) T.n_isinstance boot_isinstance (pa_cons (pv 0) (pa_cons (pe_glob (v := .ref (cl K 4)) (by rfl) (M.em.g 4 (by decide)) rfl) pa_nil))) pa_nil)))) (pss_cons (ps_if (pt_cmpR (op_eqD hr.units) (pv 1) (pe_lst (pa_cons pe_bl (pa_cons pe_bl pa_nil))) (nomark _)) (pss_one (ps_ret (pe_tup (pa_cons pe_str (pa_cons (pe_kef (pv 0)) pa_nil))))) pss_nil) (pss_one (ps_ret (pe_ifExp (pt_cmpR (op_eqD hr.units) (pv 1) (pe_lst (pa_cons pe_bl (pa_cons pe_bl pa_nil))) (nomark _)) pe_str pe_str))))))), ?_⟩
    have hi' : i < 11 := by omega
    refine ⟨_, rfl, a, _, d, _, rfl, ha, hd, M.em.exc i hi', .inl ⟨_, _, .ty _, M.kv i hi', _, rfl, iteF ?_⟩⟩
    refine ⟨_, rfl, (by show 9 ≤ sizeLine; decide), fun t nt => ?_⟩
    have s1 := same_upd (o := .tup ([6, 10, 9, 1, 7, 2, 0, 5, 8].map fun j => V.ref (cl K j))) nt
    have ha1 := s1 _ _ ha
    have hd1 : ∀ e, d = some e → ∃ fs, (upd H t (.tup ([6, 10, 9, 1, 7, 2, 0, 5, 8].map fun j => V.ref (cl K j)))) e = some (exd e fs) := fun e he => by
      obtain ⟨fs, q⟩ := hd e he
      exact ⟨fs, s1 _ _ q⟩
    refine ⟨a, _, d, _, rfl, ha1, hd1, M.em.exc i hi', .inr ⟨t, _, ([6, 10, 9, 1, 7, 2, 0, 5, 8].map fun j => Value.ref (cl K j)), _, rfl, upd_same, ?_, kit9 M.em hi, _, rfl, iteF ?_⟩⟩
    · exact .cons (.own _) (.cons (.own _) (.cons (.own _) (.cons (.own _) (.cons (.own _) (.cons (.own _) (.cons (.own _) (.cons (.own _) (.cons (.own _) .nil))))))))
    refine ⟨_, rfl, a, _, d, _, rfl, ha1, hd1, M.em.exc i hi', .inl ⟨_, _, .own _, M.em.kit i 3 hi' (by decide), ?_⟩⟩
    refine ⟨_, rfl, a, _, d, _, rfl, ha1, hd1, M.em.exc i hi', .inl ⟨_, _, .own _, M.em.kit i 4 hi' (by decide), ?_⟩⟩
    refine ⟨(by show 2 ≤ sizeLine; decide), fun L nL => ?_⟩
    have s2 := s1.trans (same_upd (o := .lst [.bl (i == 3), .bl (i == 4)]) nL)
    have hL : (upd (upd H t (.tup ([6, 10, 9, 1, 7, 2, 0, 5, 8].map fun j => V.ref (cl K j)))) L (.lst [.bl (i == 3), .bl (i == 4)])) L = some (.lst [.bl (i == 3), .bl (i == 4)]) := upd_same
    have gen : ∀ H2 : Hp, Same H H2 → H2 L = some (.lst [.bl (i == 3), .bl (i == 4)]) → Dp K H2 (.ref L) (.list [.bool (i == 3), .bool (i == 4)]) := fun H2 _ h => .lst (.inl (.inl h)) (.cons (.bl _) (.cons (.bl _) .nil))
    refine ⟨_, rfl, (by show 2 ≤ sizeLine; decide), fun L2 nL2 => ?_⟩
    have s3 := s2.trans (same_upd (o := .lst [.bl true, .bl false]) nL2)
    have hL3 := (same_upd (o := .lst [.bl true, .bl false]) nL2) _ _ hL
    rcases hi with rfl | rfl
    · obtain ⟨e, n, rfl, he, k⟩ := k3 rfl
      refine ⟨.list [.bool true, .bool false], .list [.bool true, .bool false], gen _ s3 hL3, .lst sqL_new (.cons (.bl _) (.cons (.bl _) .nil)), by decide +kernel, by decide +kernel, _, rfl, ?_⟩
      rw [show PyData.eqv (.list [.bool true, .bool false]) (.list [.bool true, .bool false]) = true by decide +kernel]
      refine iteT ?_
      refine ⟨_, rfl, a, cl K 3, e, _, _, rfl, s3 _ _ ha, s3 _ _ he, M.xf, M.no, rfl, ?_⟩
      exact ⟨(by show 2 ≤ sizeLine; decide), fun p np => k _ _ (s3.trans (same_upd np)) (.tup sqT_new (.cons (.str _) (.cons (.int _) .nil)))⟩
    · refine ⟨.list [.bool false, .bool true], .list [.bool true, .bool false], gen _ s3 hL3, .lst sqL_new (.cons (.bl _) (.cons (.bl _) .nil)), by decide +kernel, by decide +kernel, _, rfl, ?_⟩
      rw [show PyData.eqv (.list [.bool false, .bool true]) (.list [.bool true, .bool false]) = false by decide +kernel]
      refine iteF ?_
      refine ⟨_, rfl, (by show 2 ≤ sizeLine; decide), fun L4 nL4 => ?_⟩
      have s4 := s3.trans (same_upd (o := .lst [.bl false, .bl true]) nL4)
      have hL4 := (same_upd (o := .lst [.bl false, .bl true]) nL4) _ _ hL3
      refine ⟨.list [.bool false, .bool true], .list [.bool false, .bool true], gen _ s4 hL4, .lst sqL_new (.cons (.bl _) (.cons (.bl _) .nil)), by decide +kernel, by decide +kernel, _, rfl, ?_⟩
      rw [show PyData.eqv (.list [.bool false, .bool true]) (.list [.bool false, .bool true]) = true by decide +kernel]
      exact iteT (k4 rfl _ s4)
/-- what is told of a text -/
def told (z : Str) : PyData := match readF 0 [] (Txt.split z "\n") with
  | .inl n => .tuple [.str "text", .int (n : Int)]
  | .inr ps => if pBook (bookD ps) = true then bookD ps else .str "book"
def spTold (K : PySem.W.Frag) : Sp := fun vs H Q _ => ∃ z : Str, vs = [.str z] ∧ z.length ≤ 900000 ∧ PyData.strOk z = true ∧ (∀ ps, readF 0 [] (Txt.split z "\n") = .inr ps → lenOk (bookD ps) = true ∧ ps.length < 64) ∧ ∀ v H', Same H H' → Dp K H' v (told z) → Q v H'
abbrev s__law_told : Stmt := topS 65
theorem sc__law_told : FnScope [("_law_text" : Str), ("_law_caught" : Str), ("_law_found" : Str), ("e" : Str)] ["_law_text"] (defScope s__law_told) := ⟨rfl, rfl, rfl, by decide +kernel, rfl, by decide +kernel, by decide +kernel⟩
theorem ok__law_told {f : Addr} {fd : FuncData} (F : FnP K "_law_told" s__law_told f fd) (T : Bw K w mg tL es nF τ) (M : Et K mg) (c_read_book : CalX P w K mg base "read_book" ["text"] 16 (spRb K)) (c__law_class : Cal P w K mg base "_law_class" ["_law_caught"] 1 (spClass K)) : FnOk P w K mg base CX0 17 f fd ["_law_text"] (spTold K) := by
  refine F.ok sc__law_told (fun vs H Q E h => ?_) (fun cdv A outer s H vs Q E hr h => ?_)
  · obtain ⟨z, rfl, _⟩ := h
    rfl
  · obtain ⟨z, rfl, hz, hzo, hps, k⟩ := h
    refine ⟨_, PSs.nox (pss_cons (ps_asg (pe_tup (pa_cons pe_non (pa_cons pe_non pa_nil))) (pg_tup rfl (pgs_cons (pg_name (i := 1) sc__law_told.nd rfl (by first | exact .inl rfl | exact .inr rfl)) (pgs_cons (pg_name (i := 2) sc__law_told.nd rfl (by first | exact .inl rfl | exact .inr rfl)) pgs_nil)))) (pss_cons (ps_try_keep (i := 3) rfl rfl rfl sc__law_told.nd rfl rfl (show Names _ "KinError" (.ref (He.ga K "KinError")) from ⟨by rfl, by decide, .inl M.gk⟩) (fun W pn xe tk own => (pss_one (ps_set (i := 2) sc__law_told.nd rfl (by first | exact .inl rfl | exact .inr rfl) (pe_calX c_read_book (hr.mono (by decide)) (by rfl) tk (pa_cons (pv 0) pa_nil))))) (fun a oe cls d pn hz hf => (pss_one (ps_set (i := 1) sc__law_told.nd rfl (by first | exact .inl rfl | exact .inr rfl) (pv 3))))) (pss_one (ps_ret (pe_ifExp (pt_cmpR op_isN (pv 1) pe_non (nomark _)) (pv 2) (pe_cal c__law_class (hr.mono (by decide)) (by rfl) pass0 (pa_cons (pv 1) pa_nil))))))), ?_⟩
    refine ⟨(by show 2 ≤ sizeLine; decide), fun p np => ?_⟩
    have s0 := same_upd (o := .tup [.non, .non]) np
    refine ⟨p, [.non, .non], rfl, sqT_new, rfl, _, [_], rfl, _, [], rfl, rfl, ?_⟩
    refine ⟨_, rfl, z, rfl, hz, hzo, fun n e H' d s h => ?_, fun ps e => ?_⟩
    · have s1 := s0.trans s
      have k : ∀ v H', Same H H' → Dp K H' v (.tuple [.str "text", .int (n : Int)]) → Q v H' := fun v H' s h => k v H' s (by unfold told; rw [e]; exact h)
      refine ⟨M.ex 3 (by decide), fun a na => ?_⟩
      have s2 := same_upd (o := exk a (.ref (cl K 3)) (some d)) na
      refine ⟨_, rfl, _, rfl, rfl, _, rfl, iteF ⟨_, rfl, a, 3, some d, rfl, .inl rfl, upd_same, fun e he => ?_, fun _ => ⟨d, n, rfl, s2 _ _ h, fun v H' s h => k v H' ((s1.trans s2).trans s) h⟩, fun q => absurd q (by decide)⟩⟩
      cases he
      exact ⟨_, s2 _ _ h⟩
    · obtain ⟨h1, h2⟩ := hps ps e
      refine ⟨h1, h2, fun hb v H' s h => ?_, fun hb H' s => ?_⟩
      · have k := k v H' (s0.trans s) (by unfold told; rw [e]; show Dp K H' v (if pBook (bookD ps) = true then _ else _); rw [if_pos hb]; exact h)
        exact ⟨_, rfl, rfl, _, rfl, iteT ⟨_, rfl, k⟩⟩
      · have k : ∀ H', Same H H' → Q (.str "book") H' := fun H' s => k _ H' s (by unfold told; rw [e]; show Dp K H' _ (if pBook (bookD ps) = true then _ else _); rw [if_neg (by rw [hb]; decide)]; exact .str _)
        refine ⟨M.ex 4 (by decide), fun a na => ?_⟩
        have s2 := same_upd (o := exk a (.ref (cl K 4)) none) na
        exact ⟨_, rfl, _, rfl, rfl, _, rfl, iteF ⟨_, rfl, a, 4, none, rfl, .inr rfl, upd_same, (fun e he => nomatch he), fun q => absurd q (by decide), fun _ H' s3 => k H' ((s0.trans s).trans (s2.trans s3))⟩⟩
end
end Kin
namespace Kin
open PySem PySem.Spec PyProof.Rows L2
theorem lines_ok : ∀ s ∈ progsS ++ rowsS, 10 ∉ sg s ∧ s.length ≤ 30 ∧ ∀ c ∈ sg s, c < 128 := by decide +kernel
theorem Lines.mem {ls : List Str} (h : Lines ls) {s : Str} (hs : s ∈ ls) : s ∈ progsS ++ rowsS := by
  obtain ⟨i, hi, rfl⟩ := List.getElem_of_mem hs
  obtain ⟨a, b⟩ := h.2 i ls[i] (List.getElem?_eq_getElem hi)
  by_cases q : i % 5 = 0
  · exact List.mem_append_left _ (a q)
  · exact List.mem_append_right _ (b q)
theorem split_put {ls : List Str} (h : Lines ls) (i : Nat) {l : Str} (nl : 10 ∉ sg l) : Txt.split (Txt.join "\n" (put ls i l)) "\n" = put ls i l :=
  TL.split_join (y := "\n") feed (by decide +kernel) (by unfold put; simp) fun p hp => by
    rcases put_mem hp with rfl | hp
    · exact nl
    · exact (lines_ok p (h.mem hp)).1
theorem put_small {ls : List Str} (h : Lines ls) (hl : ls.length ≤ 15) (i : Nat) {l : Str} (sl : small 26000 l) : small 800000 (Txt.join "\n" (put ls i l)) := by
  refine (join_small (m := 16) (n := 26000) (l := 1) feed_small (fun s hs => ?_) ?_).le (by decide)
  · rcases put_mem hs with rfl | hs
    · exact sl
    · obtain ⟨_, a, b⟩ := lines_ok s (h.mem hs)
      exact ⟨b, by omega⟩
  · unfold put
    rw [List.length_append, List.length_append, List.length_take, List.length_drop, List.length_singleton]
    omega
theorem row_small' {ws : List Str} (hw : ws ∈ rowsW) (k : Nat) {z : Str} (sz : small 5000 z) (tz : 10 ∉ sg z) : small 26000 (Txt.join " " (put ws k z)) ∧ 10 ∉ sg (Txt.join " " (put ws k z)) := by
  obtain ⟨h1, _, _, _, h5⟩ := rows_shape ws hw
  constructor
  · refine (join_small (m := 5) (n := 5000) (l := 1) blank_small (fun s hs => ?_) ?_).le (by decide)
    · rcases put_mem hs with rfl | hs
      · exact sz
      · exact ⟨(h5 s hs).2.2.2, by have := (h5 s hs).2.2.1; omega⟩
    · unfold put
      rw [List.length_append, List.length_append, List.length_take, List.length_drop, List.length_singleton]
      omega
  · intro hm
    rw [join_sg] at hm
    rcases joinL_mem hm with q | ⟨p, hp, q⟩
    · rw [blank] at q
      exact absurd (List.mem_singleton.mp q) (by decide)
    · obtain ⟨y, hy, rfl⟩ := List.mem_map.mp hp
      rcases put_mem hy with rfl | hy
      · exact tz q
      · exact (h5 y hy).2.1 q
theorem put_get {ls : List Str} {i j : Nat} {l s : Str} (hi : i < ls.length) (h : (put ls i l)[j]? = some s) : (j = i ∧ s = l) ∨ (j ≠ i ∧ ls[j]? = some s) := by
  unfold put at h
  have lt : (ls.take i).length = i := by rw [List.length_take]; omega
  rw [List.append_assoc] at h
  rcases Nat.lt_trichotomy j i with q | q | q
  · rw [List.getElem?_append_left (by rw [lt]; exact q), List.getElem?_take] at h
    rw [if_pos q] at h
    exact .inr ⟨by omega, h⟩
  · subst q
    rw [List.getElem?_append_right (by rw [lt]; exact Nat.le_refl _), lt, Nat.sub_self] at h
    exact .inl ⟨rfl, (Option.some.inj h).symm⟩
  · rw [List.getElem?_append_right (by rw [lt]; omega), lt] at h
    obtain ⟨m, hm⟩ : ∃ m, j - i = m + 1 := ⟨j - i - 1, by omega⟩
    rw [hm] at h
    have h : (ls.drop (i + 1))[m]? = some s := by simpa using h
    rw [List.getElem?_drop] at h
    rw [show i + 1 + m = j by omega] at h
    exact .inr ⟨by omega, h⟩
theorem told_bad {ls : List Str} (h : Lines ls) {i : Nat} (hi : i < ls.length) {l : Str} (hb : BadL l) (nl : 10 ∉ sg l) : readF 0 [] (Txt.split (Txt.join "\n" (put ls i l)) "\n") = .inl i := by
  rw [split_put h i nl]
  unfold put
  have lt : (ls.take i).length = i := by rw [List.length_take]; omega
  obtain ⟨ps, h5, e⟩ := read_pre (ls.take i) ([l] ++ ls.drop (i + 1)) 0 [] i5_0 fun j s e => by
    have hj : ls[j]? = some s := by
      rw [List.getElem?_take] at e
      split at e
      · exact e
      · cases e
    obtain ⟨a, b⟩ := h.2 j s hj
    rw [Nat.zero_add]
    exact ⟨fun q => progs_L s (a q), fun q => rows_L s (b q)⟩
  rw [List.append_assoc, e, lt, Nat.zero_add]
  show (match stepL ps l with | none => Sum.inl i | some q => _) = _
  rw [step_bad' hb]
theorem told_good {ls : List Str} (h : Lines ls) {i : Nat} (hi : i < ls.length) (h5 : i % 5 ≠ 0) {l : Str} (hr : RowL l) (nl : 10 ∉ sg l) : ∃ ps, readF 0 [] (Txt.split (Txt.join "\n" (put ls i l)) "\n") = .inr ps ∧ okPs ps ∧ ps ≠ [] ∧ wt ps = ls.length := by
  rw [split_put h i nl]
  have lp : (put ls i l).length = ls.length := by
    unfold put
    rw [List.length_append, List.length_append, List.length_take, List.length_drop, List.length_singleton]
    omega
  obtain ⟨ps, g5, e⟩ := read_pre (put ls i l) [] 0 [] i5_0 fun j s e => by
    rw [Nat.zero_add]
    rcases put_get hi e with ⟨rfl, rfl⟩ | ⟨_, hj⟩
    · exact ⟨fun q => absurd q h5, fun _ => hr⟩
    · obtain ⟨a, b⟩ := h.2 j s hj
      exact ⟨fun q => progs_L s (a q), fun q => rows_L s (b q)⟩
  rw [List.append_nil, Nat.zero_add, lp] at e
  rw [Nat.zero_add, lp] at g5
  refine ⟨ps, ?_, g5.ok, g5.ne (by omega), g5.wt⟩
  rw [e]
  show (if lacks ps = true then Sum.inl _ else Sum.inr ps) = _
  rw [g5.lk (by have := h.1; omega)]
  rfl
theorem lenAll_of : ∀ {ds : List PyData}, (∀ d ∈ ds, lenOk d = true) → lenAll ds = true
  | [], _ => by rw [lenAll]
  | d :: ds, h => by
    rw [lenAll, h d List.mem_cons_self, lenAll_of fun e he => h e (List.mem_cons_of_mem _ he)]
    rfl
theorem wt_mem {ps : List Pg} {q : Pg} (h : q ∈ ps) : q.2.length + 1 ≤ wt ps := by
  induction ps with
  | nil => cases h
  | cons p t ih =>
    show _ ≤ (p.2.length + 1) + wt t
    rcases List.mem_cons.mp h with rfl | h
    · omega
    · have := ih h
      omega
theorem book_ok {ps : List Pg} (h : okPs ps) (hw : wt ps ≤ 15) : lenOk (bookD ps) = true ∧ ps.length < 64 ∧ SeqAt.shaped (bookD ps) = true := by
  have hl := wt_len ps
  have hq : ∀ q ∈ ps, lenOk (pgD q) = true ∧ (pgD q).canLay0 = true ∧ (pgD q).depth ≤ 8 := fun q hq => by
    obtain ⟨a, b, c⟩ := h q hq
    have := wt_mem hq
    refine ⟨?_, ?_, ?_⟩
    · unfold pgD
      rw [lenOk, decide_eq_true (by show 2 ≤ 1000000; decide), lenAll, lenAll, lenAll, lenOk, lenOk, decide_eq_true (by omega), decide_eq_true (by omega), lenAll_of fun r hr => (c r hr).2.1]
      rfl
    · unfold pgD
      rw [PyData.canLay0, PyData.canLayAll0, PyData.canLayAll0, PyData.canLayAll0, PyData.canLay0, PyData.canLay0, b, canLayAll_of fun r hr => (c r hr).2.2.1]
      rfl
    · unfold pgD
      have := depthAll_le (m := 4) (ds := q.2) fun r hr => (c r hr).2.2.2
      rw [PyData.depth, PyData.depthAll, PyData.depthAll, PyData.depthAll, PyData.depth, PyData.depth]
      omega
  refine ⟨?_, by omega, ?_⟩
  · unfold bookD
    rw [lenOk, decide_eq_true (by rw [List.length_map]; omega), lenAll_of fun d hd => by
      obtain ⟨q, hq', rfl⟩ := List.mem_map.mp hd
      exact (hq q hq').1]
    rfl
  · unfold bookD SeqAt.shaped
    have := depthAll_le (m := 8) (ds := ps.map pgD) fun d hd => by
      obtain ⟨q, hq', rfl⟩ := List.mem_map.mp hd
      exact (hq q hq').2.2
    rw [PyData.canLay0, PyData.depth, canLayAll_of fun d hd => by
      obtain ⟨q, hq', rfl⟩ := List.mem_map.mp hd
      exact (hq q hq').2.1, decide_eq_true (show PyData.depthAll (ps.map pgD) + 1 ≤ 64 by omega)]
    rfl
end Kin
namespace Kin
open PySem PySem.Spec PyProof.Rows L2
section
variable {P : Program} {w : World} {K : PySem.W.Frag} {mg : Str → Option Value} {base : Heap} {tL : Tok} {es : Array DictEntry} {nF : Nat}
theorem atI_lt {α : Type} {xs : List α} {k : Int} (h0 : 0 ≤ k) (h1 : k < (xs.length : Int)) : ∃ v, atI xs k = some v ∧ v ∈ xs := by
  unfold atI ixN
  rw [if_pos h0, if_pos h1]
  have hl : k.toNat < xs.length := by omega
  exact ⟨xs[k.toNat], by show xs[k.toNat]? = _; rw [List.getElem?_eq_getElem hl], List.getElem_mem hl⟩
abbrev s__law_of : Stmt := topS 63
theorem sc__law_of : FnScope [("_law_hand_here" : Str), ("_law_some" : Str)] ["_law_hand_here", "_law_some"] (defScope s__law_of) := ⟨rfl, rfl, rfl, by decide +kernel, rfl, by decide +kernel, by decide +kernel⟩
theorem ok__law_of {f : Addr} {fd : FuncData} (F : FnP K "_law_of" s__law_of f fd) (T : Bi K w mg tL es nF) (c__law_pick : Cal P w K mg base "_law_pick" ["_law_hand_here", "_law_many"] 1 spPick) : FnOk P w K mg base CX0 2 f fd ["_law_hand_here", "_law_some"] (spOf K) := by
  refine F.ok sc__law_of (fun vs H Q E h => ?_) (fun cdv A outer s H vs Q E hr h => ?_)
  · obtain ⟨x, l, sv, rfl, _⟩ := h
    rfl
  · obtain ⟨x, l, sv, rfl, hh, h⟩ := h
    refine ⟨_, PSs.nox (pss_one (ps_ret (pe_ix ix_seq (pv 1) (pe_cal c__law_pick (hr.mono (by decide)) (by rfl) pass0 (pa_cons (pv 0) (pa_cons (pe_callB (CallR.or call_len_seq call_len_str) (by rfl) T.n_len PySem.boot_len (pa_cons (pv 1) pa_nil)) pa_nil))) (fun _ _ => rfl)))), ?_⟩
    rcases h with ⟨a, xs, rfl, ha, hx0, hx1, k⟩ | ⟨z, rfl, hz0, hz1, k⟩
    · refine ⟨_, rfl, _, rfl, _, rfl, .inl ⟨a, xs, rfl, ?_, x, l, _, rfl, hh, by omega, by omega, fun i H1 h0 h1 hh1 f1 => ?_⟩⟩
      · rcases ha with ha | ha
        · exact .inl (off_sub.seq ha)
        · exact .inr (Same.tup off_sub ha)
      · obtain ⟨v, hv, hm⟩ := atI_lt h0 h1
        rcases ha with ha | ha
        · exact .inl ⟨a, xs, i, v, rfl, rfl, off_sub.seq (f1.same.seq ha), hv, k v H1 hm hh1 f1⟩
        · exact .inr (.inl ⟨a, xs, i, v, rfl, rfl, Same.tup off_sub (Same.tup f1.same ha), hv, k v H1 hm hh1 f1⟩)
    · refine ⟨_, rfl, _, rfl, _, rfl, .inr ⟨z, rfl, Nat.le_trans hz1 (by decide), x, l, _, rfl, hh, by omega, by omega, fun i H1 h0 h1 hh1 f1 => ?_⟩⟩
      have hl : z.cps.toList.length = z.length := by rw [Array.length_toList]; rfl
      obtain ⟨c, hc, hm⟩ := atI_lt (xs := z.cps.toList) h0 (by rw [hl]; exact h1)
      exact .inr (.inr ⟨z, i, c, rfl, rfl, Nat.le_trans hz1 (by decide), hc, k c H1 hm hh1 f1⟩)
end
end Kin
namespace Kin
open PySem PySem.Spec PyProof.Rows L2
section
variable {P : Program} {w : World} {K : PySem.W.Frag} {mg : Str → Option Value} {base : Heap} {tL : Tok} {es : Array DictEntry} {nF : Nat}
theorem at1 {α : Type} (a b : α) : atI [a, b] 1 = some b := rfl
abbrev s__law_pick : Stmt := topS 62
theorem sc__law_pick : FnScope [("_law_hand_here" : Str), ("_law_many" : Str), ("_law_digit" : Str), ("_law_mixed" : Str)] ["_law_hand_here", "_law_many"] (defScope s__law_pick) := ⟨rfl, rfl, rfl, by decide +kernel, rfl, by decide +kernel, by decide +kernel⟩
theorem ok__law_pick {f : Addr} {fd : FuncData} (F : FnP K "_law_pick" s__law_pick f fd) (T : Bi K w mg tL es nF) : FnOk P w K mg base CX0 1 f fd ["_law_hand_here", "_law_many"] spPick := by
  refine F.ok sc__law_pick (fun vs H Q E h => ?_) (fun cdv A outer s H vs Q E hr h => ?_)
  · obtain ⟨x, l, many, rfl, _⟩ := h
    rfl
  · obtain ⟨x, l, many, rfl, ⟨n0, hn0, hh⟩, hm0, hm1, k⟩ := h
    refine ⟨_, PSs.nox (Evl.pss_cut (ps_while PassesOwn.never (PW.pt (pw_and (pt_cmpR (op_neD hr.units) (pe_ix ix_list (pv 0) pe_int (fun _ _ => rfl)) (pe_lst pa_nil) (nomark _)) (pw_and1 (pt_cmpR op_eq (pe_ix ix_list (pe_ix ix_list (pv 0) pe_int (fun _ _ => rfl)) pe_int (fun _ _ => rfl)) pe_int (nomark _))))) (pss_one (ps_expr (pe_bm PySem.F.plainAttrs_list PySem.F.slot_list_pop PySem.F.type_list_pop mt_popAt (pe_ix ix_list (pv 0) pe_int (fun _ _ => rfl)) (pa_cons pe_int pa_nil))))) (pss_cons (ps_if (pt_cmpR (op_neD hr.units) (pe_ix ix_list (pv 0) pe_int (fun _ _ => rfl)) (pe_lst pa_nil) (nomark _)) (pss_cons (ps_set (i := 2) sc__law_pick.nd rfl (by first | exact .inl rfl | exact .inr rfl) (pe_op op_mod (pe_ix ix_list (pe_ix ix_list (pv 0) pe_int (fun _ _ => rfl)) pe_int (fun _ _ => rfl)) (pv 1))) (pss_cons (ps_asg (pe_op op_fdiv (pe_ix ix_list (pe_ix ix_list (pv 0) pe_int (fun _ _ => rfl)) pe_int (fun _ _ => rfl)) (pv 1)) (pg_sub (pe_ix ix_list (pv 0) pe_int (fun _ _ => rfl)) pe_int set_list)) (pss_one (ps_ret (pv 2))))) pss_nil) (pss_cons (ps_asg (pe_op op_mod (pe_op op_add (pe_op op_mul (pe_ix ix_list (pv 0) pe_int (fun _ _ => rfl)) pe_int) pe_int) pe_int) (pg_sub (pv 0) pe_int set_list)) (pss_cons (ps_set (i := 3) sc__law_pick.nd rfl (by first | exact .inl rfl | exact .inr rfl) (pe_op op_fdiv (pe_ix ix_list (pv 0) pe_int (fun _ _ => rfl)) pe_int)) (pss_one (ps_ret (pe_op op_mod (pe_op op_fdiv (pe_op op_mod (pe_op op_mul (pv 3) (pe_op op_add (pe_op op_mod (pv 3) pe_int) pe_int)) pe_int) pe_int) (pv 1)))))))), ?_⟩
    refine ⟨fun σ H' => ∃ m, m ≤ n0 ∧ σ = [some (.ref x), some (.int many), none, none] ∧ Off x l H H' ∧ HandN m x l H',
      ⟨fun m σ H' => m ≤ n0 ∧ σ = [some (.ref x), some (.int many), none, none] ∧ Off x l H H' ∧ HandN m x l H', ⟨n0, Nat.le_refl _, rfl, Off.refl, hh⟩, ?_⟩, ?_⟩
    · rintro m σ H1 ⟨hm, rfl, f1, h1⟩
      obtain ⟨cells, seed, ex, el, hs0, hs1, hc0, hcn⟩ := h1.ex
      refine ⟨_, rfl, x, _, 0, .ref l, rfl, rfl, .inl (.inl ex), rfl, Nat.zero_le _, fun p hp => ?_⟩
      have s1 := same_upd (o := .lst []) hp
      refine ⟨.list (cells.map .int), .list [], .lst (.inl (.inl (s1 _ _ el))) (dp_ints cells), .lst sqL_new .nil, shaped_ints cells, (by decide +kernel), _, rfl, ?_⟩
      rw [eqv_lnil]
      have hh1 := h1.same s1
      cases cells with
      | nil => exact iteF (iteF ⟨m, hm, rfl, f1.trans (Off.of s1), hh1⟩)
      | cons c0 cr =>
        refine iteT ⟨_, rfl, x, _, 0, .ref l, rfl, rfl, .inl (.inl (s1 _ _ ex)), rfl, l, _, 0, .int c0, rfl, rfl, .inl (.inl (s1 _ _ el)), at0 _ _, rfl, _, rfl, ?_⟩
        refine ite2 (fun e => ?_) (fun e => ?_)
        · refine ⟨fun σ' H' => σ' = [some (.ref x), some (.int many), none, none] ∧ Off x l H H' ∧ HandN cr.length x l H', fun σ' H' h => ⟨cr.length, ?_, ?_, h⟩, ?_⟩
          · rw [← hcn, List.length_cons]
            omega
          · rw [← hcn, List.length_cons] at hm
            omega
          · refine ⟨_, rfl, x, _, 0, .ref l, rfl, rfl, .inl (.inl (s1 _ _ ex)), rfl, .inl ⟨rfl, _, .inl (.inl (s1 _ _ el))⟩, l, _, 0, 0, .int c0, rfl, rfl, s1 _ _ el, by decide, by decide, ?_, rfl, ?_⟩
            · rw [List.map_cons, List.length_cons]
              exact seqIndex_of (by decide) (by omega)
            · refine ⟨rfl, ?_, ⟨cr, seed, ?_, ?_, hs0, hs1, fun c hc => hc0 c (List.mem_cons_of_mem _ hc), rfl⟩, h1.ne⟩
              · intro b o hb1 hb2 hb
                rw [upd_ne hb2]
                exact s1 _ _ (f1 b o hb1 hb2 hb)
              · rw [upd_ne h1.ne]
                exact s1 _ _ ex
              · exact upd_same
        · exact ⟨m, hm, rfl, f1.trans (Off.of s1), hh1⟩
    · rintro σ H1 ⟨m, hm, rfl, f1, h1⟩
      obtain ⟨cells, seed, ex, el, hs0, hs1, hc0, hcn⟩ := h1.ex
      refine ⟨_, rfl, x, _, 0, .ref l, rfl, rfl, .inl (.inl ex), rfl, Nat.zero_le _, fun p hp => ?_⟩
      have s1 := same_upd (o := .lst []) hp
      refine ⟨.list (cells.map .int), .list [], .lst (.inl (.inl (s1 _ _ el))) (dp_ints cells), .lst sqL_new .nil, shaped_ints cells, (by decide +kernel), _, rfl, ?_⟩
      rw [eqv_lnil]
      have ex1 := s1 _ _ ex
      have el1 := s1 _ _ el
      cases cells with
      | cons c0 cr =>
        refine iteT ?_
        have hc : 0 ≤ c0 := hc0 c0 (by simp)
        refine ⟨_, rfl, x, _, 0, .ref l, rfl, rfl, .inl (.inl ex1), rfl, l, _, 0, .int c0, rfl, rfl, .inl (.inl el1), at0 _ _, _, rfl, _, _, rfl, rfl, hm0, ?_⟩
        refine ⟨_, rfl, x, _, 0, .ref l, rfl, rfl, .inl (.inl ex1), rfl, l, _, 0, .int c0, rfl, rfl, .inl (.inl el1), at0 _ _, _, rfl, _, _, rfl, rfl, ⟨hm0, by omega⟩, _, rfl, x, _, 0, .ref l, rfl, rfl, .inl (.inl ex1), rfl, l, _, 0, 0, rfl, rfl, el1, ?_, _, rfl, ?_⟩
        · rw [List.map_cons, List.length_cons]
          unfold ixN
          rw [if_pos (by decide), if_pos (by omega)]
          rfl
        · refine k _ _ (Int.emod_nonneg _ (by omega)) (Int.emod_lt_of_pos _ hm0) ⟨m, by omega, ⟨(c0 / many) :: cr, seed, ?_, ?_, hs0, hs1, ?_, hcn⟩, h1.ne⟩ ?_
          · rw [upd_ne h1.ne]
            exact ex1
          · exact upd_same
          · intro z hz
            rcases List.mem_cons.mp hz with q | q
            · rw [q]
              exact Int.ediv_nonneg hc (by omega)
            · exact hc0 z (List.mem_cons_of_mem _ q)
          · intro b o hb1 hb2 hb
            rw [upd_ne hb2]
            exact s1 _ _ (f1 b o hb1 hb2 hb)
      | nil =>
        refine iteF ?_
        refine ⟨_, rfl, x, _, 1, .int seed, rfl, rfl, .inl (.inl ex1), rfl, _, _, rfl, rfl, .inr ⟨by decide, by decide⟩, _, _, rfl, rfl, _, _, rfl, rfl, (by show (0 : Int) < 2305843009213693951; decide), _, rfl, x, _, 1, 1, rfl, rfl, ex1, rfl, ?_⟩
        have hb0 : ∀ z : Int, 0 ≤ z % 8191 := fun z => Int.emod_nonneg _ (by decide)
        have hb1 : ∀ z : Int, z % 8191 < 8191 := fun z => Int.emod_lt_of_pos _ (by decide)
        have hx1 := upd_same (H := upd H1 p (.lst [])) (a := x) (o := .lst ([V.ref l, V.int seed].set 1 (V.int ((seed * 3935559000370003 + 2691343689449507) % 2305843009213693951))))
        refine ⟨_, rfl, x, _, 1, _, rfl, rfl, .inl (.inl hx1), rfl, _, _, rfl, rfl, ⟨by decide, by decide⟩, ?_⟩
        refine ⟨_, rfl, _, rfl, _, _, rfl, rfl, (by show (0 : Int) < 8191; decide), _, _, rfl, rfl, _, _, rfl, rfl, .inr ⟨?_, ?_⟩, _, _, rfl, rfl, (by show (0 : Int) < 2305843009213693921; decide), _, _, rfl, rfl, ⟨by decide, by decide⟩, _, rfl, _, _, rfl, rfl, hm0, ?_⟩
        · have := hb0 ((seed * 3935559000370003 + 2691343689449507) % 2305843009213693951 / 65537)
          show (-(2 ^ 64) : Int) < (seed * 3935559000370003 + 2691343689449507) % 2305843009213693951 / 65537 % 8191 + 3
          omega
        · have := hb1 ((seed * 3935559000370003 + 2691343689449507) % 2305843009213693951 / 65537)
          show (seed * 3935559000370003 + 2691343689449507) % 2305843009213693951 / 65537 % 8191 + 3 < 2 ^ 64
          omega
        · refine k _ _ (Int.emod_nonneg _ (by omega)) (Int.emod_lt_of_pos _ hm0) ⟨m, by omega, ⟨[], (seed * 3935559000370003 + 2691343689449507) % 2305843009213693951, hx1, ?_, Int.emod_nonneg _ (by decide), Int.emod_lt_of_pos _ (by decide), by simp, hcn⟩, h1.ne⟩ ?_
          · rw [upd_ne h1.ne.symm]
            exact el1
          · intro b o hb1 hb2 hb
            rw [upd_ne hb1]
            exact s1 _ _ (f1 b o hb1 hb2 hb)
end
end Kin
namespace Kin
open PySem PySem.Spec PyProof.Rows L2
/-- a sign, several times -/
theorem op_mulS {X : Cx} : OpR X (binaryOp .Mult) (fun x y H Q => ∃ (c : Nat) (n : Nat), x = .str ⟨#[c]⟩ ∧ y = .int (n : Int) ∧ n ≤ 1000000 ∧ Q (.str ⟨(List.replicate n c).toArray⟩) H) := fun pins s σ H x y v u Q I rx ry h => by
  obtain ⟨c, n, rfl, rfl, hn, q⟩ := h
  obtain ⟨t, rfl⟩ := rx
  obtain ⟨t', rfl⟩ := ry
  refine SB.mul (mulOk_of 1 n (Nat.le_refl 1) (Int.le_refl _) (by omega) (by omega) (by omega)) fun t2 k => ⟨.str _, H, I.tok _, ⟨_, rfl⟩, ?_⟩
  have e : Txt.mul ⟨#[c]⟩ ((n : Nat) : Int) = ⟨(List.replicate n c).toArray⟩ := TL.ext_tl (by
    show (Txt.mul ⟨#[c]⟩ ((n : Nat) : Int)).cps.toList = _
    rw [mul_one_list]
    rfl)
  rw [e]
  exact q
/-- signs alone, and too many of them -/
theorem great_long {z : Str} (h : ∀ c ∈ sg z, c = 45 ∨ (48 ≤ c ∧ c ≤ 57)) (h1 : 11 ≤ z.length) (h2 : z.length ≤ 5000) : Great z := by
  have nn : ∀ {y : Str}, 10 ≤ y.length → isNum y = false := fun {y} hy => by
    cases e : isNum y with
    | false => rfl
    | true =>
      have := (isNum_dig e).2.2
      omega
  refine ⟨nn (by omega), ?_, ⟨fun q => ?_, fun q => ?_⟩, ⟨fun c hc => ?_, h2⟩, fun w hw e => ?_⟩
  · unfold isSgn
    split
    · split
      · rfl
      · refine nn ?_
        rw [slice1', SX.S_len, List.length_drop, ← sg_len]
        omega
    · exact nn (by omega)
  · have := h _ q
    omega
  · have := h _ q
    omega
  · have := h _ hc
    omega
  · have hl : ∀ w ∈ (["self", "parent", "group", "any", "plain", "ignore"] : List Str), w.length ≤ 6 := by decide +kernel
    have := hl w hw
    rw [← e] at this
    omega
theorem great_four : ∀ z ∈ (["1111111111", "0000000000", "-0", "01"] : List Str), Great z := fun z hz => by
  have a : ∀ z ∈ (["1111111111", "0000000000", "-0", "01"] : List Str), isNum z = false ∧ isSgn z = false ∧ 32 ∉ sg z ∧ 10 ∉ sg z ∧ (∀ c ∈ sg z, c < 128) ∧ z.length ≤ 5000 ∧ ∀ w ∈ (["self", "parent", "group", "any", "plain", "ignore"] : List Str), z ≠ w := by decide +kernel
  obtain ⟨h1, h2, h3, h4, h5, h6, h7⟩ := a z hz
  exact ⟨h1, h2, ⟨h3, h4⟩, ⟨h5, h6⟩, h7⟩
theorem sg_rep (n c : Nat) : sg (⟨(List.replicate n c).toArray⟩ : Str) = List.replicate n c := rfl
theorem rep_len (n c : Nat) : (⟨(List.replicate n c).toArray⟩ : Str).length = n := by
  rw [sg_len, sg_rep, List.length_replicate]
theorem great_rep {n c : Nat} (h1 : 11 ≤ n) (h2 : n ≤ 4999) (hc : 48 ≤ c ∧ c ≤ 57) : Great ⟨(List.replicate n c).toArray⟩ := great_long (fun d hd => by
  rw [sg_rep] at hd
  rw [List.eq_of_mem_replicate hd]
  exact .inr hc) (by rw [rep_len]; exact h1) (by rw [rep_len]; omega)
theorem great_pre {n c : Nat} {p : Str} {d : Nat} (hp : sg p = [d]) (hd : d = 45 ∨ (48 ≤ d ∧ d ≤ 57)) (h1 : 11 ≤ n) (h2 : n ≤ 4999) (hc : 48 ≤ c ∧ c ≤ 57) : Great (p ++ ⟨(List.replicate n c).toArray⟩) := by
  have e : sg (p ++ (⟨(List.replicate n c).toArray⟩ : Str)) = d :: List.replicate n c := by
    show TL.tl _ = _
    rw [TL.tl_append]
    show sg p ++ sg _ = _
    rw [hp, sg_rep]
    rfl
  refine great_long (fun x hx => ?_) (by rw [sg_len, e]; simp; omega) (by rw [sg_len, e]; simp; omega)
  rw [e] at hx
  rcases List.mem_cons.mp hx with rfl | hx
  · exact hd
  · rw [List.eq_of_mem_replicate hx]
    exact .inr hc
section
variable {P : Program} {w : World} {K : PySem.W.Frag} {mg : Str → Option Value} {base : Heap} {tL : Tok} {es : Array DictEntry} {nF : Nat} {τ : Tks}
def spGreat : Sp := fun vs H Q _ => ∃ (x l : Addr), vs = [.ref x] ∧ Hand x l H ∧ ∀ z H', Hand x l H' → Off x l H H' → Great z → Q (.str z) H'
abbrev s__law_great : Stmt := topS 66
theorem sc__law_great : FnScope [("_law_hand_here" : Str), ("_law_many" : Str)] ["_law_hand_here"] (defScope s__law_great) := ⟨rfl, rfl, rfl, by decide +kernel, rfl, by decide +kernel, by decide +kernel⟩
theorem ok__law_great {f : Addr} {fd : FuncData} (F : FnP K "_law_great" s__law_great f fd) (T : Bw K w mg tL es nF τ) (c__law_pick : Cal P w K mg base "_law_pick" ["_law_hand_here", "_law_many"] 1 spPick) (c__law_of : Cal P w K mg base "_law_of" ["_law_hand_here", "_law_some"] 2 (spOf K)) : FnOk P w K mg base CX0 3 f fd ["_law_hand_here"] spGreat := by
  refine F.ok sc__law_great (fun vs H Q E h => ?_) (fun cdv A outer s H vs Q E hr h => ?_)
  · obtain ⟨x, l, rfl, _⟩ := h
    rfl
  · obtain ⟨x, l, rfl, hh, k⟩ := h
    refine ⟨_, PSs.nox (pss_cons (ps_set (i := 1) sc__law_great.nd rfl (by first | exact .inl rfl | exact .inr rfl) (pe_op op_add pe_int (pe_cal c__law_pick (hr.mono (by decide)) (by rfl) pass0 (pa_cons (pv 0) (pa_cons pe_int pa_nil))))) (pss_one (ps_ret (pe_cal c__law_of (hr.mono (by decide)) (by rfl) pass0 (pa_cons (pv 0) (pa_cons (pe_lst (pa_cons (pe_op op_mulS pe_str (pv 1)) (pa_cons (pe_op op_mulS pe_str (pv 1)) (pa_cons (pe_op op_add_str pe_str (pe_op op_mulS pe_str (pv 1))) (pa_cons (pe_op op_add_str pe_str (pe_op op_mulS pe_str (pv 1))) (pa_cons (pe_op op_mulS pe_str pe_int) (pa_cons (pe_op op_mulS pe_str pe_int) (pa_cons pe_str (pa_cons pe_str pa_nil))))))))) pa_nil)))))), ?_⟩
    refine ⟨_, rfl, x, l, 600, rfl, hh, by decide, by decide, fun m H1 hm0 hm1 hh1 f1 => ⟨_, _, rfl, rfl, ?_⟩⟩
    obtain ⟨n, hn⟩ : ∃ n : Nat, (4301 : Int) + m = (n : Int) := ⟨(4301 + m).toNat, by omega⟩
    have hn1 : 4301 ≤ n ∧ n ≤ 4900 := by omega
    show gName 1 (V.int (4301 + m)) _ _ _
    rw [hn]
    refine ⟨_, rfl, _, rfl, 56, n, rfl, rfl, by omega, _, rfl, 48, n, rfl, rfl, by omega, _, rfl, 48, n, rfl, rfl, by omega, _, _, rfl, rfl, ?_, _, rfl, 51, n, rfl, rfl, by omega, _, _, rfl, rfl, ?_, 49, 10, rfl, rfl, by decide, 48, 10, rfl, rfl, by decide, (by show 8 ≤ sizeLine; decide), fun N nN => ?_⟩
    · rw [rep_len]
      exact Nat.le_trans (show ("1" : Str).length + n ≤ 5000 by rw [show ("1" : Str).length = 1 from rfl]; omega) (by decide)
    · rw [rep_len]
      exact Nat.le_trans (show ("-" : Str).length + n ≤ 5000 by rw [show ("-" : Str).length = 1 from rfl]; omega) (by decide)
    obtain ⟨nNx, nNl⟩ := hh1.nx nN
    refine ⟨x, l, _, rfl, hh1.same (same_upd nN), .inl ⟨N, _, rfl, .inl (.inl (.inl (off_at nNx nNl upd_same))), by show 0 < 8; decide, by show 8 ≤ 1000; decide, fun v H5 hv hh5 f5 => ?_⟩⟩
    have f15 : Off x l H H5 := f1.trans ((Off.of (same_upd nN)).trans f5)
    simp only [List.mem_cons, List.not_mem_nil, or_false] at hv
    rcases hv with rfl | rfl | rfl | rfl | rfl | rfl | rfl | rfl
    · exact k _ H5 hh5 f15 (great_rep (by omega) (by omega) (by decide))
    · exact k _ H5 hh5 f15 (great_rep (by omega) (by omega) (by decide))
    · exact k _ H5 hh5 f15 (great_pre (d := 49) (by decide +kernel) (by decide) (by omega) (by omega) (by decide))
    · exact k _ H5 hh5 f15 (great_pre (d := 45) (by decide +kernel) (by decide) (by omega) (by omega) (by decide))
    · exact k _ H5 hh5 f15 (great_four _ (by decide +kernel))
    · exact k _ H5 hh5 f15 (great_four _ (by decide +kernel))
    · exact k _ H5 hh5 f15 (great_four _ (by decide +kernel))
    · exact k _ H5 hh5 f15 (great_four _ (by decide +kernel))
def spLines (K : PySem.W.Frag) : Sp := fun vs H Q _ => ∃ (x l : Addr), vs = [.ref x] ∧ Hand x l H ∧ ∀ p (s : Str) (ss : List Str) H', Hand x l H' → Off x l H H' → H p = none → H' p = some (.lst ((s :: ss).map V.str)) → s ∈ progsS → ss.length = 4 → (∀ s ∈ ss, s ∈ rowsS) → Q (.ref p) H'
abbrev s__law_lines : Stmt := topS 67
theorem sc__law_lines : FnScope [("_law_hand_here" : Str), ("_law_some" : Str), ("_law_k" : Str)] ["_law_hand_here"] (defScope s__law_lines) := ⟨rfl, rfl, rfl, by decide +kernel, rfl, by decide +kernel, by decide +kernel⟩
theorem ok__law_lines {f : Addr} {fd : FuncData} (F : FnP K "_law_lines" s__law_lines f fd) (T : Bw K w mg tL es nF τ) (c__law_pick : Cal P w K mg base "_law_pick" ["_law_hand_here", "_law_many"] 1 spPick) (c__law_of : Cal P w K mg base "_law_of" ["_law_hand_here", "_law_some"] 2 (spOf K)) : FnOk P w K mg base CX0 3 f fd ["_law_hand_here"] (spLines K) := by
  refine F.ok sc__law_lines (fun vs H Q E h => ?_) (fun cdv A outer s H vs Q E hr h => ?_)
  · obtain ⟨x, l, rfl, _⟩ := h
    rfl
  · obtain ⟨x, l, rfl, hh, k⟩ := h
    refine ⟨_, PSs.nox (pss_cons (ps_set (i := 1) sc__law_lines.nd rfl (by first | exact .inl rfl | exact .inr rfl) (pe_lst (pa_cons pe_str (pa_cons pe_str (pa_cons pe_str (pa_cons pe_str (pa_cons pe_str (pa_cons pe_str (pa_cons pe_str (pa_cons pe_str pa_nil)))))))))) (pss_cons (ps_set (i := 1) sc__law_lines.nd rfl (by first | exact .inl rfl | exact .inr rfl) (pe_op op_cat (pv 1) (pe_lst (pa_cons pe_str (pa_cons pe_str (pa_cons pe_str (pa_cons pe_str pa_nil))))))) (pss_one (ps_ret (pe_op op_cat (pe_lst (pa_cons (pe_op op_add_str pe_str (pe_ix ix_str pe_str (pe_cal c__law_pick (hr.mono (by decide)) (by rfl) pass0 (pa_cons (pv 0) (pa_cons pe_int pa_nil))) (fun _ _ => rfl))) pa_nil)) (pe_lc (own := [(("_law_k" : Str), 2)]) (g := gName 2) rfl sc__law_lines.nd (pi_range1 (by rfl) T.n_range (pa_cons pe_int pa_nil)) (blkOk_by (N := [("_law_hand_here" : Str), ("_law_some" : Str), ("_law_k" : Str)]) (sc := defScope s__law_lines) (by decide +kernel)) (fun _ _ _ _ _ => by exact (pg_name (i := 2) sc__law_lines.nd rfl (by first | exact .inl rfl | exact .inr rfl))) (fun _ _ _ _ _ => pts_nil) (fun _ _ _ _ _ => (pe_cal c__law_of (hr.mono (by decide)) (by rfl) pass0 (pa_cons (pv 0) (pa_cons (pv 1) pa_nil)))))))))), ?_⟩
    refine ⟨(by show 8 ≤ sizeLine; decide), fun p np => ?_⟩
    refine ⟨_, rfl, (by show 4 ≤ sizeLine; decide), fun q nq => ⟨p, q, _, _, rfl, rfl, (same_upd nq) _ _ upd_same, upd_same, (by show 12 ≤ sizeLine; decide), fun r nr => ?_⟩⟩
    have nrx : r ≠ x ∧ r ≠ l := (hh.same ((same_upd np).trans (same_upd nq))).nx nr
    have s3 : Same H (upd (upd (upd H p (.lst ((rowsS.take 8).map V.str))) q (.lst ((rowsS.drop 8).map V.str))) r (.lst (rowsS.map V.str))) := ((same_upd np).trans (same_upd nq)).trans (same_upd nr)
    have hr3 : (upd (upd (upd H p (.lst ((rowsS.take 8).map V.str))) q (.lst ((rowsS.drop 8).map V.str))) r (.lst (rowsS.map V.str))) r = some (.lst (rowsS.map V.str)) := upd_same
    show gName 1 (V.ref r) _ (upd (upd (upd H p (.lst ((rowsS.take 8).map V.str))) q (.lst ((rowsS.drop 8).map V.str))) r (.lst (rowsS.map V.str))) _
    generalize upd (upd (upd H p (.lst ((rowsS.take 8).map V.str))) q (.lst ((rowsS.drop 8).map V.str))) r (.lst (rowsS.map V.str)) = H1 at s3 hr3 ⊢
    have hh1 := hh.same s3
    refine ⟨_, rfl, x, l, 3, rfl, hh1, by decide, by decide, fun c H2 hc0 hc1 hh2 f2 => ?_⟩
    obtain ⟨ch, hch, hcm⟩ := atI_lt (xs := ("abc" : Str).cps.toList) hc0 hc1
    refine ⟨"abc", c, ch, rfl, rfl, by decide, hch, _, _, rfl, rfl, (show 8 + 1 ≤ sizeLine by decide), (by show 1 ≤ sizeLine; decide), fun L nL => ?_⟩
    obtain ⟨nLx, nLl⟩ := hh2.nx nL
    have sL := same_upd (o := .lst [.str (("program " : Str) ++ ⟨#[ch]⟩)]) nL
    refine ⟨4, rfl, by decide, by decide, fun D hD => ?_⟩
    have hh3 := hh2.same sL
    obtain ⟨nDx, nDl⟩ := hh3.nx hD
    have hr2 := sL _ _ (f2 r _ nrx.1 nrx.2 hr3)
    have hL3 : (upd H2 L (.lst [.str (("program " : Str) ++ ⟨#[ch]⟩)])) L = some (.lst [.str (("program " : Str) ++ ⟨#[ch]⟩)]) := upd_same
    have f03 : Off x l H (upd H2 L (.lst [.str (("program " : Str) ++ ⟨#[ch]⟩)])) := (Off.of s3).trans (f2.trans (Off.of sL))
    generalize upd H2 L (.lst [.str (("program " : Str) ++ ⟨#[ch]⟩)]) = H3 at hh3 hD hr2 hL3 f03 ⊢
    refine lc_it (walk_range (lo := 0) (n := 4)) (fun i H' => Hand x l H' ∧ Off x l H3 H' ∧ ∃ ss : List Str, H' D = some (.lst (ss.map V.str)) ∧ ss.length = i ∧ ∀ s ∈ ss, s ∈ rowsS) ?_ (fun _ _ _ _ => True.intro) ?_ ?_
    · exact ⟨hh3.same (same_upd hD), Off.of (same_upd hD), [], upd_same, rfl, by simp⟩
    · rintro i v H' H'' hi ⟨h1, h2, ss, h3, h4, h5⟩ ⟨rfl, rfl⟩
      refine ⟨rfl, _, rfl, _, rfl, x, l, _, rfl, h1, .inl ⟨r, _, rfl, .inl (.inl (.inl (off_at nrx.1 nrx.2 (h2 r _ nrx.1 nrx.2 hr2)))), by decide, by decide, fun v H4 hv hh4 f4 => ?_⟩⟩
      obtain ⟨z, hz, rfl⟩ := List.mem_map.mp hv
      refine ⟨_, f4 D _ nDx nDl h3, ?_, hh4.mut nDx nDl, (h2.trans f4).mut hD, ss ++ [z], ?_, ?_, ?_⟩
      · rw [List.length_map, h4]
        exact Nat.lt_of_lt_of_le hi (by decide)
      · rw [upd_same, List.map_append]
        rfl
      · rw [List.length_append, h4]
        rfl
      · intro y hy
        rcases List.mem_append.mp hy with q | q
        · exact h5 y q
        · rw [List.mem_singleton.mp q]
          exact hz
    · rintro H4 ⟨hh4, f4, ss, h3, h4, h5⟩
      refine ⟨L, D, _, _, rfl, rfl, f4 L _ nLx nLl hL3, h3, ?_, fun U nU => ?_⟩
      · rw [List.length_map, h4]
        show 1 + 4 ≤ sizeLine
        decide
      obtain ⟨nUx, nUl⟩ := hh4.nx nU
      have hU : H U = none := by
        cases e : H U with
        | none => rfl
        | some o => rw [(f03.trans f4) U o nUx nUl e] at nU; cases nU
      refine k U _ ss _ (hh4.same (same_upd nU)) (f03.trans (f4.trans (Off.of (same_upd nU)))) hU upd_same ?_ h4 h5
      have three : ∀ c ∈ ("abc" : Str).cps.toList, (("program " : Str) ++ ⟨#[c]⟩) ∈ progsS := by decide +kernel
      exact three ch hcm
end
end Kin
namespace Kin
open PySem PySem.Spec PyProof.Rows L2
section
variable {P : Program} {w : World} {K : PySem.W.Frag} {mg : Str → Option Value} {base : Heap} {tL : Tok} {es : Array DictEntry} {nF : Nat}
abbrev s__law_hand : Stmt := topS 61
theorem sc__law_hand : FnScope [("_law_script" : Str), ("_law_seed" : Str), ("_law_cell" : Str)] ["_law_script"] (defScope s__law_hand) := ⟨rfl, rfl, rfl, by decide +kernel, rfl, by decide +kernel, by decide +kernel⟩
theorem ok__law_hand {f : Addr} {fd : FuncData} (F : FnP K "_law_hand" s__law_hand f fd) (T : Bi K w mg tL es nF) : FnOk P w K mg base CX0 1 f fd ["_law_script"] (spHand K) := by
  refine F.ok sc__law_hand (fun vs H Q E h => ?_) (fun cdv A outer s H vs Q E hr h => ?_)
  · obtain ⟨a, ns, rfl, _⟩ := h
    rfl
  · obtain ⟨a, ns, rfl, ha, hlen, k⟩ := h
    refine ⟨_, PSs.nox (pss_cons (ps_set (i := 1) sc__law_hand.nd rfl (by first | exact .inl rfl | exact .inr rfl) pe_int) (pss_cons (ps_for PassesOwn.never rfl (pi_list (pe_slice sl_list (pv 0) po_none (po_some pe_int))) (pg_name (i := 2) sc__law_hand.nd rfl (by first | exact .inl rfl | exact .inr rfl)) (pss_one (ps_set (i := 1) sc__law_hand.nd rfl (by first | exact .inl rfl | exact .inr rfl) (pe_op op_mod (pe_op op_add (pe_op op_add (pe_op op_mul (pv 1) pe_int) (pe_op op_mod (pv 2) pe_int)) pe_int) pe_int)))) (pss_one (ps_ret (pe_lst (pa_cons (pe_lc (own := [(("_law_cell" : Str), 2)]) (g := gName 2) rfl sc__law_hand.nd (pi_list (pe_slice sl_list (pv 0) po_none (po_some pe_int))) (blkOk_by (N := [("_law_script" : Str), ("_law_seed" : Str), ("_law_cell" : Str)]) (sc := defScope s__law_hand) (by decide +kernel)) (fun _ _ _ _ _ => by exact (pg_name (i := 2) sc__law_hand.nd rfl (by first | exact .inl rfl | exact .inr rfl))) (fun _ _ _ _ _ => pts_one (pt_cmpR op_ge (pv 2) (pe_op op_pow pe_int pe_int) (nomark _))) (fun _ _ _ _ _ => (pv 2))) (pa_cons (pv 1) pa_nil))))))), ?_⟩
    refine ⟨_, rfl, _, rfl, a, _, rfl, ha, fun p hp => ?_⟩
    have s1 := same_upd (o := .lst (cutV (ns.map V.int) none (some 63))) hp
    have hcl : (cutV (ns.map V.int) none (some 63)).length ≤ 63 := Nat.le_trans (cutV_length _ _ _) (by rw [List.length_map]; exact hlen)
    obtain ⟨ms, hms⟩ : ∃ ms : List Int, cutV (ns.map V.int) none (some 63) = ms.map V.int := by
      unfold cutV
      rw [List.map_drop.symm, List.map_take.symm]
      exact ⟨_, rfl⟩
    refine ⟨p, rfl, ⟨_, sqL_new⟩, ?_⟩
    refine for_list (K := K) (a := p) (xs := cutV (ns.map V.int) none (some 63)) (fun i σ H' => ∃ (seed : Int) (y : Option V), σ = [some (.ref a), some (.int seed), y] ∧ 0 ≤ seed ∧ seed < bigM ∧ Same H H' ∧ SqL K H' p (cutV (ns.map V.int) none (some 63)))
      ⟨23, none, rfl, by decide, by decide, s1, sqL_new⟩ (fun i σ H' _ ⟨_, _, _, _, _, _, h⟩ => h) ?_ ?_
    · rintro i v σ H' hi ⟨seed, y, rfl, h0, h1, s2, hl⟩
      rw [hms, List.getElem?_map] at hi
      obtain ⟨c, rfl⟩ : ∃ c, v = V.int c := by
        cases e : ms[i]? with
        | none => rw [e] at hi; cases hi
        | some c => rw [e] at hi; exact ⟨c, (Option.some.inj hi).symm⟩
      refine ⟨_, rfl, _, _, rfl, rfl, .inr ⟨by decide, by decide⟩, _, rfl, _, _, rfl, rfl, (by show (0 : Int) < 2305843009213693951; decide), _, _, rfl, rfl, _, _, rfl, rfl, _, _, rfl, rfl, (by show (0 : Int) < 2305843009213693951; decide), ?_⟩
      exact ⟨_, some (.int c), rfl, Int.emod_nonneg _ (by decide), Int.emod_lt_of_pos _ (by decide), s2, hl⟩
    · rintro σ H2 ⟨seed, y, rfl, h0, h1, s2, _⟩
      refine ⟨_, rfl, _, rfl, a, _, rfl, s2.seq ha, fun p2 hp2 => ?_⟩
      have s3 := same_upd (o := .lst (cutV (ns.map V.int) none (some 63))) hp2
      refine ⟨p2, rfl, ⟨_, sqL_new⟩, fun D hD => ?_⟩
      refine lc_it (walk_list (xs := cutV (ns.map V.int) none (some 63))) (fun i H' => Same H2 H' ∧ SqL K H' p2 (cutV (ns.map V.int) none (some 63)) ∧ ∃ cells : List Int, H' D = some (.lst (cells.map V.int)) ∧ cells.length ≤ i ∧ ∀ c ∈ cells, 0 ≤ c) ?_ (fun i H' _ h => h.2.1) ?_ ?_
      · exact ⟨s3.trans (same_upd hD), (same_upd hD).seq sqL_new, [], upd_same, Nat.le_refl _, by simp⟩
      · rintro i v H' H'' hi ⟨s4, h4, cells, hc, hcn, hc0⟩ ⟨rfl, hv⟩
        rw [hms, List.getElem?_map] at hv
        obtain ⟨c, rfl⟩ : ∃ c, v = V.int c := by
          cases e : ms[i]? with
          | none => rw [e] at hv; cases hv
          | some c => rw [e] at hv; exact ⟨c, (Option.some.inj hv).symm⟩
        refine ⟨rfl, _, rfl, _, _, rfl, rfl, ⟨by decide, by decide, by decide⟩, _, _, rfl, rfl, _, rfl, ?_⟩
        have hDp : D ≠ p2 := (ne_of_none upd_same hD).symm
        refine ite2 (fun e => ?_) (fun e => ?_)
        · refine ⟨_, rfl, _, hc, ?_, ?_, ?_, cells ++ [c], ?_, ?_, ?_⟩
          · rw [List.length_map]
            exact Nat.lt_of_le_of_lt hcn (Nat.lt_of_lt_of_le hi (Nat.le_trans hcl (by decide)))
          · exact same_mut s4 (s3.free hD)
          · rcases h4 with (h4 | ⟨o, h4⟩) | h4
            · exact .inl (.inl (by rw [upd_ne hDp.symm]; exact h4))
            · exact .inl (.inr ⟨o, by rw [upd_ne hDp.symm]; exact h4⟩)
            · exact .inr h4
          · rw [upd_same, List.map_append]
            rfl
          · rw [List.length_append, List.length_singleton]
            omega
          · intro z hz
            rcases List.mem_append.mp hz with q | q
            · exact hc0 z q
            · rw [List.mem_singleton.mp q]
              have e : (10 : Int) ^ (18 : Int).toNat ≤ c := of_decide_eq_true e
              have : (0 : Int) ≤ 10 ^ (18 : Int).toNat := by decide
              omega
        · exact ⟨s4, h4, cells, hc, by omega, hc0⟩
      · rintro H3 ⟨s4, h4, cells, hc, hcn, hc0⟩
        refine ⟨_, rfl, (by show 2 ≤ sizeLine; decide), fun x hx => ?_⟩
        have s5 := same_upd (o := .lst [V.ref D, V.int seed]) hx
        refine k x D _ ((s2.trans s4).trans s5) ((s2.trans s4).free hx) (s2.free (s3.free hD)) ⟨cells.length, Nat.le_trans hcn hcl, ⟨cells, seed, upd_same, s5 _ _ hc, h0, h1, hc0, rfl⟩, (ne_of_none hc hx).symm⟩
end
end Kin
namespace Kin
open PySem PySem.Spec PyProof.Rows L2
theorem Lines.app {ls ss : List Str} {s : Str} (h : Lines ls) (hs : s ∈ progsS) (hl : ss.length = 4) (hr : ∀ s ∈ ss, s ∈ rowsS) : Lines (ls ++ s :: ss) := by
  refine ⟨by rw [List.length_append, List.length_cons, hl]; have := h.1; omega, fun j z e => ?_⟩
  have h1 := h.1
  by_cases q : j < ls.length
  · rw [List.getElem?_append_left q] at e
    exact h.2 j z e
  · rw [List.getElem?_append_right (by omega)] at e
    obtain ⟨m, hm⟩ : ∃ m, j = ls.length + m := ⟨j - ls.length, by omega⟩
    rw [hm, Nat.add_sub_cancel_left] at e
    cases m with
    | zero =>
      cases e
      exact ⟨fun _ => hs, fun q => absurd (show j % 5 = 0 by omega) q⟩
    | succ n =>
      have e : ss[n]? = some z := e
      have hn : n < 4 := by
        rw [← hl]
        exact (List.getElem?_eq_some_iff.mp e).1
      exact ⟨fun q => by omega, fun _ => hr z (List.mem_of_getElem? e)⟩
theorem cut_to (ws : List Str) (j : Nat) (h : j < ws.length) : cutV (ws.map V.str) none (some (j : Int)) = (ws.take j).map V.str := by
  unfold cutV
  rw [HT.sIx_nat, HT.sIx_none, List.drop_zero, Nat.sub_zero, List.length_map, Nat.min_eq_left (by omega), List.map_take]
theorem cut_from (ws : List Str) (j : Nat) (h : j < ws.length) : cutV (ws.map V.str) (some ((j : Int) + 1)) none = (ws.drop (j + 1)).map V.str := by
  unfold cutV
  rw [show ((j : Int) + 1) = ((j + 1 : Nat) : Int) from rfl, HT.sIx_nat, HT.sIx_none, List.length_map, Nat.min_eq_left (by omega), List.map_drop, List.take_of_length_le (by rw [List.length_drop, List.length_map]; omega)]
theorem put_V (ws : List Str) (j : Nat) (z : Str) : (ws.take j).map V.str ++ [V.str z] ++ (ws.drop (j + 1)).map V.str = (put ws j z).map V.str := by
  unfold put
  rw [List.map_append, List.map_append]
  rfl
theorem lines_nil : Lines [] := ⟨rfl, fun j z e => by simp at e⟩
/-- the words of a line: a number stands in a row alone -/
theorem words_of {ls : List Str} (h : Lines ls) {i : Nat} {s : Str} (hs : ls[i]? = some s) : (∀ z ∈ Txt.split s " ", z.length ≤ 8) ∧ (Txt.split s " ").length ≤ 4 ∧ ∀ k, isN ((Txt.split s " ").getD k "") = true → i % 5 ≠ 0 ∧ Txt.split s " " ∈ rowsW := by
  obtain ⟨a, b⟩ := h.2 i s hs
  by_cases q : i % 5 = 0
  · obtain ⟨t, e, _, hl, _⟩ := progs_L s (a q)
    have two : ∀ s ∈ progsS, ∀ z ∈ Txt.split s " ", isN z = false := by decide +kernel
    refine ⟨fun z hz => ?_, by rw [e]; show 2 ≤ 4; decide, fun k hk => ?_⟩
    · rw [e] at hz
      simp only [List.mem_cons, List.not_mem_nil, or_false] at hz
      rcases hz with rfl | rfl
      · decide +kernel
      · exact hl
    · exfalso
      by_cases hkl : k < (Txt.split s " ").length
      · rw [List.getD_eq_getElem?_getD, List.getElem?_eq_getElem hkl] at hk
        have := two s (a q) _ (List.getElem_mem hkl)
        rw [show (some (Txt.split s " ")[k]).getD "" = (Txt.split s " ")[k] from rfl, this] at hk
        cases hk
      · rw [List.getD_eq_getElem?_getD, List.getElem?_eq_none (by omega)] at hk
        exact absurd hk (by decide +kernel)
  · have hm := b q
    rw [rowsS_eq] at hm
    obtain ⟨ws, hw, rfl⟩ := List.mem_map.mp hm
    obtain ⟨h1, h2, _, _, h5⟩ := rows_shape ws hw
    rw [join_row (fun z hz => (h5 z hz).1) h2]
    exact ⟨fun z hz => (h5 z hz).2.2.1, h1, fun k _ => ⟨q, hw⟩⟩
theorem put_join {K : PySem.W.Frag} {y : Str} {i j : Nat} {te : TE} {σ : L2.St} {H : Hp} {Q : VK} {L : Addr} {ws : List Str} {n : Nat} (hi : σ[i]? = some (some (.ref L))) (hj : σ[j]? = some (some (.int (n : Int)))) (hn : n < ws.length) (hsz : ws.length ≤ 1000)
    (hL : H L = some (.lst (ws.map V.str))) (mono : ∀ (H : Hp) (Q Q' : VK), (∀ v H, Q v H → Q' v H) → te σ H Q → te σ H Q')
    (h : ∀ p1 H1, Same H H1 → H p1 = none → H1 p1 = some (.lst ((ws.take n).map V.str)) → te σ H1 fun v H2 => ∃ z, v = .str z ∧ H2 p1 = some (.lst ((ws.take n).map V.str)) ∧ H2 L = some (.lst (ws.map V.str)) ∧
      ((put ws n z).map (·.length)).sum + (put ws n z).length * y.length ≤ 16777216 ∧ ∀ H3, Same H2 H3 → Q (.str (Txt.join y (put ws n z))) H3) :
    tM1 (fun x xs H Q => ∃ a p, ∃ ys : List Str, x = .str a ∧ xs = [.ref p] ∧ (SqL K H p (ys.map V.str) ∨ SqT K H p (ys.map V.str)) ∧ (ys.map (·.length)).sum + ys.length * a.length ≤ 16777216 ∧ Q (.str (Txt.join a ys)) H)
      (tC (.str y)) (tOp rCat (tOp rCat (tSl (rSlL K) (tVar i) tNoPart (tPart (tVar j))) (tLst (tCons te tNil))) (tSl (rSlL K) (tVar i) (tPart (tOp (rI0 fun i j => V.int (i + j)) (tVar j) (tC (.int 1)))) tNoPart)) σ H Q := by
  refine ⟨⟨_, rfl⟩, _, hi, _, hj, _, rfl, L, _, rfl, .inl (.inl hL), fun p1 np1 => ?_⟩
  rw [cut_to ws n hn]
  have s1 := same_upd (o := .lst ((ws.take n).map V.str)) np1
  refine mono _ _ _ (fun v H2 ⟨z, ev, g1, g2, g3, g4⟩ => ?_) (h p1 _ s1 np1 upd_same)
  subst ev
  refine ⟨Nat.succ_le_of_lt (by decide), fun p2 np2 => ?_⟩
  have s2 := same_upd (o := .lst [V.str z]) np2
  refine ⟨p1, p2, _, _, rfl, rfl, s2 _ _ g1, upd_same, ?_, fun p3 np3 => ?_⟩
  · rw [List.length_map, List.length_take, List.length_singleton]
    exact Nat.le_trans (show min n ws.length + 1 ≤ 2000 by omega) (by decide)
  have s3 := s2.trans (same_upd (o := .lst ((ws.take n).map V.str ++ [V.str z])) np3)
  refine ⟨_, hi, _, hj, _, _, rfl, rfl, _, rfl, L, _, rfl, .inl (.inl (s3 _ _ g2)), fun p4 np4 => ?_⟩
  rw [cut_from ws n hn]
  have s4 := same_upd (o := .lst ((ws.drop (n + 1)).map V.str)) np4
  refine ⟨p3, p4, _, _, rfl, rfl, s4 _ _ upd_same, upd_same, ?_, fun p5 np5 => ?_⟩
  · rw [List.length_append, List.length_map, List.length_take, List.length_singleton, List.length_map, List.length_drop]
    exact Nat.le_trans (show min n ws.length + 1 + (ws.length - (n + 1)) ≤ 3000 by omega) (by decide)
  rw [put_V]
  exact ⟨y, p5, put ws n z, rfl, rfl, .inl (.inl (.inl upd_same)), g3, g4 _ ((s3.trans s4).trans (same_upd np5))⟩
theorem seq_asg {te : TE} {i : Nat} {u : TS} {D : Ends} {σ : L2.St} {H : Hp} (h : te σ H fun v H1 => u D (σ.set i (some v)) H1) : tSeq (tAsg te (gName i)) u D σ H := h
theorem seq_if {tt : TT} {t e u : TS} {D : Ends} {σ : L2.St} {H : Hp} (h : tt σ H fun b H1 => if b = true then t { D with nx := u D } σ H1 else e { D with nx := u D } σ H1) : tSeq (tIfS tt t e) u D σ H := h
theorem call1 {sp : Sp} {te : TE} {σ : L2.St} {H : Hp} {Q : VK} (h : te σ H fun v H1 => sp [v] H1 Q E0) : tCall sp [] E0 (tCons te tNil) σ H Q := h
theorem test_op {r : R2} {ta tb : TE} {σ : L2.St} {H : Hp} {Q : Bool → Hp → Prop} (h : ta σ H fun x H1 => tb σ H1 fun y H2 => r x y H2 fun v H3 => ∃ b, v = .bl b ∧ Q b H3) : tTest (tOp r ta tb) σ H Q := h
theorem put_sum {ws : List Str} {j : Nat} {z y : Str} (h : ∀ s ∈ ws, s.length ≤ 26000) (hz : z.length ≤ 26000) (hl : ws.length ≤ 15) (hy : y.length = 1) : ((put ws j z).map (·.length)).sum + (put ws j z).length * y.length ≤ 16777216 := by
  have h1 := sum_le (n := 26000) (ss := put ws j z) fun s hs => by
    rcases put_mem hs with rfl | hs
    · exact hz
    · exact h s hs
  have h2 : (put ws j z).length ≤ 16 := by
    unfold put
    rw [List.length_append, List.length_append, List.length_take, List.length_drop, List.length_singleton]
    omega
  rw [hy]
  have h3 := Nat.mul_le_mul_right 26000 h2
  omega
theorem shaped_text (n : Int) : SeqAt.shaped (.tuple [.str "text", .int n]) = true := by
  unfold SeqAt.shaped
  rw [PyData.canLay0, PyData.canLayAll0, PyData.canLayAll0, PyData.canLayAll0, PyData.canLay0, PyData.canLay0, PyData.depth, PyData.depthAll, PyData.depthAll, PyData.depthAll, PyData.depth, PyData.depth]
  decide +kernel
theorem eqv_text (n : Int) : PyData.eqv (.tuple [.str "text", .int n]) (.tuple [.str "text", .int n]) = true := by simp [PyData.eqv, PyData.eqvAll]
theorem eqv_book (ds : List PyData) (z : Str) : PyData.eqv (.tuple ds) (.str z) = false := by rw [PyData.eqv]
theorem eqv_b (z : Str) (ds : List PyData) : PyData.eqv (.str z) (.tuple ds) = false := by rw [PyData.eqv]
theorem eqv_first (q : Pg) : PyData.eqv (.tuple [pgD q]) (.tuple [.str "text"]) = false := by
  unfold pgD
  simp [PyData.eqv, PyData.eqvAll]
theorem tnext {D : Ends} {σ : L2.St} {H : Hp} (h : D.nx σ H) : tNext D σ H := h
end Kin
namespace Kin
open PySem PySem.Spec PyProof.Rows L2
section
variable {P : Program} {w : World} {K : PySem.W.Frag} {mg : Str → Option Value} {base : Heap} {tL : Tok} {es : Array DictEntry} {nF : Nat} {τ : Tks}
def spLaw (K : PySem.W.Frag) : Sp := fun vs H Q _ => ∃ (a : Addr) (ns : List Int), vs = [.ref a] ∧ SqL K H a (ns.map V.int) ∧ ns.length ≤ 63 ∧ ∀ H', Q (.bl true) H'
abbrev s_law : Stmt := topS 68
theorem sc_law : FnScope [("_law_script" : Str), ("_law_hand_here" : Str), ("_law_rows" : Str), ("_law_turn" : Str), ("_law_at" : Str), ("_law_row" : Str), ("_law_words" : Str), ("_law_k" : Str), ("_law_line" : Str), ("_law_noticed" : Str)] ["_law_script"] (defScope s_law) := ⟨rfl, rfl, rfl, by decide +kernel, rfl, by decide +kernel, by decide +kernel⟩
theorem ok_law {f : Addr} {fd : FuncData} (F : FnP K "law" s_law f fd) (T : Bw K w mg tL es nF τ) (c__law_hand : Cal P w K mg base "_law_hand" ["_law_script"] 1 (spHand K)) (c__law_pick : Cal P w K mg base "_law_pick" ["_law_hand_here", "_law_many"] 1 spPick) (c__law_lines : Cal P w K mg base "_law_lines" ["_law_hand_here"] 3 (spLines K)) (c__law_great : Cal P w K mg base "_law_great" ["_law_hand_here"] 3 spGreat) (c__law_told : Cal P w K mg base "_law_told" ["_law_text"] 17 (spTold K)) : FnOk P w K mg base CX0 18 f fd ["_law_script"] (spLaw K) := by
  refine F.ok sc_law (fun vs H Q E h => ?_) (fun cdv A outer s H vs Q E hr h => ?_)
  · obtain ⟨a, ns, rfl, _⟩ := h
    rfl
  · obtain ⟨a, ns, rfl, ha, hns, k⟩ := h
    refine ⟨_, PSs.nox (pss_cons (ps_set (i := 1) sc_law.nd rfl (by first | exact .inl rfl | exact .inr rfl) (pe_cal c__law_hand (hr.mono (by decide)) (by rfl) pass0 (pa_cons (pv 0) pa_nil))) (pss_cons (ps_set (i := 2) sc_law.nd rfl (by first | exact .inl rfl | exact .inr rfl) (pe_cal c__law_lines (hr.mono (by decide)) (by rfl) pass0 (pa_cons (pv 1) pa_nil))) (pss_cons (ps_for PassesOwn.never rfl (pi_range1 (by rfl) T.n_range (pa_cons (pe_cal c__law_pick (hr.mono (by decide)) (by rfl) pass0 (pa_cons (pv 1) (pa_cons pe_int pa_nil))) pa_nil)) (pg_name (i := 3) sc_law.nd rfl (by first | exact .inl rfl | exact .inr rfl)) (pss_one (ps_set (i := 2) sc_law.nd rfl (by first | exact .inl rfl | exact .inr rfl) (pe_op op_cat (pv 2) (pe_cal c__law_lines (hr.mono (by decide)) (by rfl) pass0 (pa_cons (pv 1) pa_nil)))))) (pss_cons (ps_for PassesOwn.never rfl (pi_enum (by rfl) T.n_enumerate (pa_cons (pv 2) pa_nil)) (pg_tup rfl (pgs_cons (pg_name (i := 4) sc_law.nd rfl (by first | exact .inl rfl | exact .inr rfl)) (pgs_cons (pg_name (i := 5) sc_law.nd rfl (by first | exact .inl rfl | exact .inr rfl)) pgs_nil))) (pss_cons (ps_set (i := 6) sc_law.nd rfl (by first | exact .inl rfl | exact .inr rfl) (pe_split (pv 5) pe_str)) (pss_one (ps_for PassesOwn.never rfl (pi_range1 (by rfl) T.n_range (pa_cons (pe_callB call_len_seq (by rfl) T.n_len PySem.boot_len (pa_cons (pv 6) pa_nil)) pa_nil)) (pg_name (i := 7) sc_law.nd rfl (by first | exact .inl rfl | exact .inr rfl)) (pss_one (ps_if (PW.pt (pw_and (pt_cmpR op_in_seq (pe_slice C8.sl_txt (pe_ix ix_list (pv 6) (pv 7) (fun _ _ => rfl)) po_none (po_some pe_int)) (pe_tup (pa_cons pe_str (pa_cons pe_str (pa_cons pe_str (pa_cons pe_str (pa_cons pe_str (pa_cons pe_str (pa_cons pe_str (pa_cons pe_str (pa_cons pe_str pa_nil)))))))))) (by rfl)) (pw_and1 (pt_cmpR op_ne (pe_ix ix_list (pv 6) (pv 7) (fun _ _ => rfl)) pe_str (nomark _))))) (pss_cons (ps_set (i := 8) sc_law.nd rfl (by first | exact .inl rfl | exact .inr rfl) (pe_join pe_str (pe_op op_cat (pe_op op_cat (pe_slice sl_list (pv 6) po_none (po_some (pv 7))) (pe_lst (pa_cons (pe_cal c__law_great (hr.mono (by decide)) (by rfl) pass0 (pa_cons (pv 1) pa_nil)) pa_nil))) (pe_slice sl_list (pv 6) (po_some (pe_op op_add (pv 7) pe_int)) po_none)))) (pss_cons (ps_if (pt_cmpR (op_neD hr.units) (pe_cal c__law_told (hr.mono (by decide)) (by rfl) pass0 (pa_cons (pe_join pe_str (pe_op op_cat (pe_op op_cat (pe_slice sl_list (pv 2) po_none (po_some (pv 4))) (pe_lst (pa_cons (pv 8) pa_nil))) (pe_slice sl_list (pv 2) (po_some (pe_op op_add (pv 4) pe_int)) po_none))) pa_nil)) (pe_tup (pa_cons pe_str (pa_cons (pv 4) pa_nil))) (nomark _)) (pss_one (ps_ret pe_bl)) pss_nil) (pss_cons (ps_set (i := 8) sc_law.nd rfl (by first | exact .inl rfl | exact .inr rfl) (pe_join pe_str (pe_op op_cat (pe_op op_cat (pe_slice sl_list (pv 6) po_none (po_some (pv 7))) (pe_lst (pa_cons pe_str pa_nil))) (pe_slice sl_list (pv 6) (po_some (pe_op op_add (pv 7) pe_int)) po_none)))) (pss_cons (ps_set (i := 9) sc_law.nd rfl (by first | exact .inl rfl | exact .inr rfl) (pe_cal c__law_told (hr.mono (by decide)) (by rfl) pass0 (pa_cons (pe_join pe_str (pe_op op_cat (pe_op op_cat (pe_slice sl_list (pv 2) po_none (po_some (pv 4))) (pe_lst (pa_cons (pv 8) pa_nil))) (pe_slice sl_list (pv 2) (po_some (pe_op op_add (pv 4) pe_int)) po_none))) pa_nil))) (pss_one (ps_if (PW.pt (pw_or (PW.pt (pw_and (pt_cmpR (op_neD hr.units) (pv 9) pe_str (nomark _)) (pw_and1 (pt_not (pt_val (pe_callB call_isi (by rfl) T.n_isinstance boot_isinstance (pa_cons (pv 9) (pa_cons (pe_bltn (v := .ty "tuple") (by rfl) T.n_tuple boot_tuple rfl) pa_nil)))))))) (pw_or1 (pt_cmpR (op_eqD hr.units) (pe_slice (SlR.or C8.sl_txt sl_tupA) (pv 9) po_none (po_some pe_int)) (pe_tup (pa_cons pe_str pa_nil)) (nomark _))))) (pss_one (ps_ret pe_bl)) pss_nil)))))) pss_nil)))))) (pss_one (ps_ret pe_bl)))))), ?_⟩
    refine ⟨_, rfl, a, ns, rfl, ha, hns, fun x l H1 s1 hx0 hl0 hh1 => ?_⟩
    refine ⟨_, rfl, x, l, rfl, hh1, fun R s0 ss0 H2 hh2 f2 nR hR hs0 hss0 hss1 => ?_⟩
    have f02 : Off x l H1 H2 := f2
    obtain ⟨nRx, nRl⟩ : R ≠ x ∧ R ≠ l := hh1.nx nR
    refine ⟨_, rfl, x, l, 3, rfl, hh2, by decide, by decide, fun c H3 hc0 hc1 hh3 f3 => ⟨c, rfl, by omega, by omega, ?_⟩⟩
    refine for_range (lo := 0) (n := c.toNat) (fun i σ H' => ∃ y3 R' ls, σ = [some (.ref a), some (.ref x), some (.ref R'), y3, none, none, none, none, none, none] ∧ Hand x l H' ∧ R' ≠ x ∧ R' ≠ l ∧ H' R' = some (.lst (ls.map V.str)) ∧ Lines ls ∧ ls.length = 5 * (i + 1))
      ⟨none, R, s0 :: ss0, rfl, hh3, nRx, nRl, f3 R _ nRx nRl hR, lines_nil.app hs0 hss0 hss1, by rw [List.length_cons, hss0]⟩ ?_ ?_
    · rintro i σ H4 hi ⟨y3, R', ls, rfl, hh4, n1, n2, hR4, hls, hll⟩
      have hi : i < 2 := by omega
      refine ⟨_, rfl, _, rfl, x, l, rfl, hh4, fun p s ss H5 hh5 f5 np hp hs hsl hss => ?_⟩
      refine ⟨R', p, _, _, rfl, rfl, f5 R' _ n1 n2 hR4, hp, ?_, fun U nU => ?_⟩
      · rw [List.length_map, List.length_map, List.length_cons, hsl, hll]
        exact Nat.le_trans (show 5 * (i + 1) + (4 + 1) ≤ 100 by omega) (by decide)
      obtain ⟨m1, m2⟩ := hh5.nx nU
      exact ⟨_, U, ls ++ s :: ss, rfl, hh5.same (same_upd nU), m1, m2, by rw [upd_same, List.map_append], hls.app hs hsl hss, by rw [List.length_append, List.length_cons, hsl, hll]; omega⟩
    · rintro σ H4 ⟨y3, R', ls, rfl, hh4, n1, n2, hR4, hls, hll⟩
      have hl15 : ls.length ≤ 15 := by omega
      refine ⟨_, rfl, R', _, rfl, .inl (.inl hR4), ?_⟩
      refine for_it (walk_enum (K := K) (a := R') (xs := ls.map V.str)) (fun i σ H' => ∃ z3 z4 z5 z6 z7 z8 z9, σ = [some (.ref a), some (.ref x), some (.ref R'), z3, z4, z5, z6, z7, z8, z9] ∧ Hand x l H' ∧ H' R' = some (.lst (ls.map V.str)))
        ⟨_, _, _, _, _, _, _, rfl, hh4, hR4⟩ (fun i σ H' _ ⟨_, _, _, _, _, _, _, _, _, h⟩ => .inl (.inl h)) ?_ ?_
      · rintro i v σ H5 H6 hi ⟨z3, z4, z5, z6, z7, z8, z9, rfl, hh5, hR5⟩ ⟨tp, v1, v2, rfl, ntp, rfl, e1, e2⟩
        have hi : i < ls.length := by simpa using hi
        have e1 : v1 = .int (i : Int) := (Option.some.inj e1).symm
        obtain ⟨row, hrow, rfl⟩ : ∃ z, ls[i]? = some z ∧ v2 = .str z := by
          have e2 : (ls.map V.str)[i]? = some v2 := e2
          rw [List.getElem?_map] at e2
          obtain ⟨z, hz, rfl⟩ := Option.map_eq_some_iff.mp e2
          exact ⟨z, hz, rfl⟩
        subst e1
        have s1 := same_upd (o := .tup [.int (i : Int), .str row]) ntp
        obtain ⟨w8, w4, wN⟩ := words_of hls hrow
        obtain ⟨_, rl, _⟩ := lines_ok row (hls.mem (List.mem_of_getElem? hrow))
        refine ⟨tp, [_, _], rfl, sqT_new, rfl, _, [_], rfl, _, [], rfl, rfl, ?_⟩
        refine ⟨_, rfl, ⟨row, rfl⟩, row, " ", rfl, rfl, by decide +kernel, Nat.le_trans (Nat.add_le_add_right rl 2) (by decide), fun L nL => ?_⟩
        have hh6 := hh5.same s1
        obtain ⟨nLx, nLl⟩ := hh6.nx nL
        have s2 := same_upd (o := .lst ((Txt.split row " ").map V.str)) nL
        have hh7 := hh6.same s2
        have hR7 := s2 _ _ (s1 _ _ hR5)
        have hL7 : (upd (upd H5 tp (.tup [.int (i : Int), .str row])) L (.lst ((Txt.split row " ").map V.str))) L = some (.lst ((Txt.split row " ").map V.str)) := upd_same
        generalize upd (upd H5 tp (.tup [.int (i : Int), .str row])) L (.lst ((Txt.split row " ").map V.str)) = H7 at hh7 hR7 hL7 ⊢
        generalize Txt.split row " " = ws at w8 w4 wN hL7 ⊢
        refine ⟨_, rfl, L, _, rfl, .inl (.inl (.inl hL7)), ?_⟩
        refine ⟨_, rfl, by omega, by rw [List.length_map]; omega, ?_⟩
        refine for_range (lo := 0) (n := ((ws.map V.str).length : Int).toNat) (fun j σ H' => ∃ y7 y8 y9, σ = [some (.ref a), some (.ref x), some (.ref R'), z3, some (.int (i : Int)), some (.str row), some (.ref L), y7, y8, y9] ∧ Hand x l H' ∧ H' R' = some (.lst (ls.map V.str)) ∧ H' L = some (.lst (ws.map V.str)))
          ⟨z7, z8, z9, rfl, hh7, hR7, hL7⟩ ?_ ?_
        · rintro j σ H8 hj ⟨y7, y8, y9, rfl, hh8, hR8, hL8⟩
          have hj : j < ws.length := by simpa using hj
          obtain ⟨z, hz, hzm⟩ : ∃ z, ws[j]? = some z ∧ z ∈ ws := ⟨ws[j], List.getElem?_eq_getElem hj, List.getElem_mem hj⟩
          have hgd : ws.getD j "" = z := by rw [List.getD_eq_getElem?_getD, hz]; rfl
          have hat := atI_map hz
          rw [Int.zero_add]
          refine ⟨_, rfl, _, rfl, L, _, _, .str z, rfl, rfl, .inl (.inl hL8), hat, _, rfl, z, rfl, Nat.le_trans (w8 z hzm) (by decide), (by show 9 ≤ sizeLine; decide), fun t nt => ⟨t, _, rfl, .inr sqT_new, rfl, flat_strs firsts, ?_⟩⟩
          refine ⟨_, rfl, ?_⟩
          have sT := same_upd (o := .tup (firsts.map V.str)) nt
          have hh9 := hh8.same sT
          have hR9 := sT _ _ hR8
          have hL9 := sT _ _ hL8
          show (if inV (.str (Txt.slice z none (some 1))) (firsts.map V.str) = true then _ else _)
          rw [inV_strs]
          refine ite2 (fun e1 => ?_) (fun e1 => ⟨_, _, _, rfl, hh9, hR9, hL9⟩)
          refine ⟨_, rfl, _, rfl, L, _, _, .str z, rfl, rfl, .inl (.inl hL9), hat, rfl, _, rfl, ?_⟩
          rw [dec_str]
          cases e2 : decide (z = "-") with
          | true => exact iteF ⟨_, _, _, rfl, hh9, hR9, hL9⟩
          | false =>
          refine iteT ?_
          have hN : isN (ws.getD j "") = true := by
            rw [hgd]
            unfold isN
            rw [e1, Bool.true_and]
            exact decide_eq_true (of_decide_eq_false e2)
          obtain ⟨h5, hw⟩ := wN j hN
          -- a great number
          refine seq_asg ?_
          refine put_join (K := K) (L := L) (ws := ws) (n := j) rfl rfl hj (by omega) hL9 (fun H Q Q' hm h => ?_) (fun p1 Ha sa np1 hp1 => ?_)
          · obtain ⟨v, e, x', l', e', hh', h⟩ := h
            exact ⟨v, e, x', l', e', hh', fun z H' a b c => hm _ _ (h z H' a b c)⟩
          have hha := hh9.same sa
          obtain ⟨np1x, np1l⟩ : p1 ≠ x ∧ p1 ≠ l := hh9.nx np1
          refine ⟨_, rfl, x, l, rfl, hha, fun g Hb hhb fb gg => ⟨g, rfl, fb p1 _ np1x np1l hp1, fb L _ nLx nLl (sa _ _ hL9), ?_, fun Hc sc => ?_⟩⟩
          · exact put_sum (fun s hs => Nat.le_trans (w8 s hs) (by decide)) (Nat.le_trans gg.sml.2 (by decide)) (by omega) (by decide +kernel)
          have hhc := hhb.same sc
          have hRc := sc _ _ (fb R' _ n1 n2 (sa _ _ hR9))
          have hLc := sc _ _ (fb L _ nLx nLl (sa _ _ hL9))
          obtain ⟨ls1, nl1⟩ := row_small' hw j gg.sml gg.tig.2
          have hbad := bad_L hw hN gg
          have l30 : ∀ s ∈ ls, s.length ≤ 26000 := fun s hs => Nat.le_trans (lines_ok s (hls.mem hs)).2.1 (by decide)
          refine seq_if ?_
          refine test_op (call1 ?_)
          refine put_join (K := K) (L := R') (ws := ls) (n := i) rfl rfl hi (by omega) hRc (fun H Q Q' hm ⟨v, e, h⟩ => ⟨v, e, hm _ _ h⟩) (fun p2 Hd sd np2 hp2 => ?_)
          refine ⟨_, rfl, _, rfl, hp2, sd _ _ hRc, put_sum l30 ls1.2 hl15 (by decide +kernel), fun He se => ?_⟩
          have rd := told_bad hls hi hbad nl1
          have tsm := put_small hls hl15 i ls1
          refine ⟨_, rfl, Nat.le_trans tsm.2 (by decide), tsm.ok, fun ps e => ?_, fun v Hf sf hd => ?_⟩
          · rw [rd] at e
            cases e
          have hd : Dp K Hf v (.tuple [.str "text", .int (i : Int)]) := by
            unfold told at hd
            rw [rd] at hd
            exact hd
          refine ⟨_, rfl, (by show 2 ≤ sizeLine; decide), fun t2 nt2 => ?_⟩
          have sg' := same_upd (o := .tup [.str "text", .int (i : Int)]) nt2
          refine ⟨_, _, dp_mono sg' hd, .tup sqT_new (.cons (.str _) (.cons (.int _) .nil)), shaped_text _, shaped_text _, _, rfl, ?_⟩
          rw [eqv_text]
          refine iteF ?_
          have sall := ((sd.trans se).trans sf).trans sg'
          have hhg := hhc.same sall
          have hRg := sall _ _ hRc
          have hLg := sall _ _ hLc
          generalize upd Hf t2 (.tup [.str "text", .int (i : Int)]) = Hg at hhg hRg hLg ⊢
          -- nine figures
          refine tnext ?_
          dsimp only
          refine seq_asg ?_
          refine put_join (K := K) (L := L) (ws := ws) (n := j) rfl rfl hj (by omega) hLg (fun H Q Q' hm h => hm _ _ h) (fun p3 Hh sh np3 hp3 => ⟨"999999999", rfl, hp3, sh _ _ hLg, ?_, fun Hi si => ?_⟩)
          · exact put_sum (fun s hs => Nat.le_trans (w8 s hs) (by decide)) (by decide +kernel) (by omega) (by decide +kernel)
          have s89 : small 5000 "999999999" := ⟨by decide +kernel, by decide +kernel⟩
          obtain ⟨ls9, nl9⟩ := row_small' hw j s89 (by decide +kernel)
          have hnine := nine_L hw hN
          obtain ⟨ps, rd9, okp, pne, pwt⟩ := told_good hls hi h5 hnine nl9
          have tsm9 := put_small hls hl15 i ls9
          obtain ⟨bk1, bk2, bk3⟩ := book_ok okp (by omega)
          refine seq_asg ?_
          refine call1 ?_
          refine put_join (K := K) (L := R') (ws := ls) (n := i) rfl rfl hi (by omega) ((sh.trans si) _ _ hRg) (fun H Q Q' hm ⟨v, e, h⟩ => ⟨v, e, hm _ _ h⟩) (fun p4 Hj sj np4 hp4 => ?_)
          refine ⟨_, rfl, _, rfl, hp4, sj _ _ ((sh.trans si) _ _ hRg), put_sum l30 ls9.2 hl15 (by decide +kernel), fun Hk sk => ?_⟩
          refine ⟨_, rfl, Nat.le_trans tsm9.2 (by decide), tsm9.ok, fun ps' e => ?_, fun v Hl sl hd => ?_⟩
          · rw [rd9] at e
            cases e
            exact ⟨bk1, bk2⟩
          have sal2 := ((sh.trans si).trans (sj.trans sk)).trans sl
          have hhl := hhg.same sal2
          have hRl := sal2 _ _ hRg
          have hLl := sal2 _ _ hLg
          unfold told at hd
          rw [rd9] at hd
          have hd : Dp K Hl v (if pBook (bookD ps) = true then bookD ps else .str "book") := hd
          cases hpb : pBook (bookD ps) with
          | false =>
            rw [if_neg (by rw [hpb]; decide)] at hd
            cases hd
            refine ⟨_, rfl, .str "book", .str "book", .str _, .str _, by decide +kernel, by decide +kernel, _, rfl, ?_⟩
            rw [show PyData.eqv (.str "book") (.str "book") = true by decide +kernel]
            refine iteF (iteF ?_)
            refine ⟨_, rfl, _, rfl, .inl ⟨"book", rfl, by decide +kernel, (by show 1 ≤ sizeLine; decide), fun t3 nt3 => ?_⟩⟩
            have s3 := same_upd (o := .tup [.str "text"]) nt3
            refine ⟨.str _, .tuple [.str "text"], .str _, .tup sqT_new (.cons (.str _) .nil), by decide +kernel, by decide +kernel, _, rfl, ?_⟩
            rw [eqv_b]
            exact iteF ⟨_, _, _, rfl, hhl.same s3, s3 _ _ hRl, s3 _ _ hLl⟩
          | true =>
            rw [if_pos hpb] at hd
            obtain ⟨q, qs, rfl⟩ : ∃ q qs, ps = q :: qs := by
              cases ps with
              | nil => exact absurd rfl pne
              | cons q qs => exact ⟨q, qs, rfl⟩
            have hd : Dp K Hl v (.tuple (pgD q :: qs.map pgD)) := hd
            have sh1 : SeqAt.shaped (.tuple [pgD q]) = true := (book_ok (ps := [q]) (fun p hp => okp p (by rw [List.mem_singleton.mp hp]; exact List.mem_cons_self)) (by
              have := wt_mem (List.mem_cons_self (a := q) (l := qs))
              show q.2.length + 1 + 0 ≤ 15
              omega)).2.2
            refine ⟨_, rfl, .tuple (pgD q :: qs.map pgD), .str "book", hd, .str _, bk3, by decide +kernel, _, rfl, ?_⟩
            rw [eqv_book]
            refine iteT ?_
            refine ⟨_, rfl, _, _, _, _, _, rfl, .ty _, tyx_of hd, kit_tup (nd_of hd), _, rfl, ?_⟩
            refine iteF ?_
            cases hd with
            | @tup p xs _ hs hda =>
            cases hda with
            | @cons v1 xs1 _ _ hv1 hv2 =>
            have key : ∀ (r : Addr) (H' : Hp), Same Hl H' → Dp K H' (.ref r) (.tuple [pgD q]) → ∀ (Q' : Bool → Hp → Prop), (∀ H'', Same Hl H'' → Q' false H'') → tTup (tCons (tC (V.str "text")) tNil) ([] : L2.St) H' fun y H2 => rEqD K (.ref r) y H2 fun v H3 => ∃ b, v = .bl b ∧ Q' b H3 := fun r H' s h Q' hq =>
              ⟨(by show 1 ≤ sizeLine; decide), fun t3 nt3 => ⟨_, .tuple [.str "text"], dp_mono (same_upd nt3) h, .tup sqT_new (.cons (.str _) .nil), sh1, by decide +kernel, _, rfl, by rw [eqv_first]; exact hq _ (s.trans (same_upd nt3))⟩⟩
            refine ⟨_, rfl, _, rfl, .inr ⟨p, _, rfl, hs, fun hwh => ?_, fun hwh p' np' => ?_⟩⟩
            · have e1 : xs1 = [] := by
                have h2 := hwh.2
                rw [show (some (1 : Int)) = some ((1 : Nat) : Int) from rfl, HT.sIx_nat] at h2
                cases xs1 with
                | nil => rfl
                | cons _ _ => simp at h2
              subst e1
              exact key p Hl (Same.refl _) (.tup hs (.cons hv1 .nil)) (fun b H3 => if b = true then _ else _) fun H'' s => iteF ⟨_, _, _, rfl, hhl.same s, s _ _ hRl, s _ _ hLl⟩
            · have e1 : cutV (v1 :: xs1) none (some 1) = [v1] := by
                unfold cutV
                rw [show (some (1 : Int)) = some ((1 : Nat) : Int) from rfl, HT.sIx_nat, HT.sIx_none, List.drop_zero, Nat.sub_zero, show min 1 (v1 :: xs1).length = 1 by rw [List.length_cons]; omega]
                rfl
              rw [e1]
              exact key p' _ (same_upd np') (.tup sqT_new (.cons (dp_mono (same_upd np') hv1) .nil)) (fun b H3 => if b = true then _ else _) fun H'' s => iteF ⟨_, _, _, rfl, hhl.same s, s _ _ hRl, s _ _ hLl⟩
        · rintro σ H8 ⟨y7, y8, y9, rfl, hh8, hR8, hL8⟩
          exact ⟨_, _, _, _, _, _, _, rfl, hh8, hR8⟩
      · rintro σ H5 ⟨z3, z4, z5, z6, z7, z8, z9, rfl, hh5, hR5⟩
        exact k H5
end
end Kin
namespace Kin
open PySem PySem.Spec PyProof.Rows L2
section
variable {P : Program} {w : World} {K : PySem.W.Frag} {mg : Str → Option Value} {base : Heap} {tL : Tok} {es : Array DictEntry} {nF : Nat}
abbrev s_is_part : Stmt := topS 31
theorem sc_is_part : FnScope [("kind" : Str), ("part" : Str), ("size" : Str)] ["kind", "part", "size"] (defScope s_is_part) := ⟨rfl, rfl, rfl, by decide +kernel, rfl, by decide +kernel, by decide +kernel⟩
theorem ok_is_part {f : Addr} {fd : FuncData} (F : FnP K "is_part" s_is_part f fd) (T : Bi K w mg tL es nF) (c_is_title : Cal P w K mg base "is_title" ["thing"] 1 (spDL K pTitle)) (c_is_small : Cal P w K mg base "is_small" ["thing"] 2 (spD K pSmall)) (c_is_whole : Cal P w K mg base "is_whole" ["thing"] 1 (spD K pWhole)) (c_is_row_number : Cal P w K mg base "is_row_number" ["thing", "size"] 3 (spDI K pRowNo)) (c_is_signal : Cal P w K mg base "is_signal" ["thing"] 2 (spD K fun d => pOne d sig9))
    (c_is_loose : Cal P w K mg base "is_loose" ["thing"] 3 (spD K pLoose)) (c_are_loose : Cal P w K mg base "are_loose" ["thing"] 4 (spD K pAre)) (c_is_one_of : Cal P w K mg base "is_one_of" ["thing", "words"] 1 (spOne K)) (c_is_handler : Cal P w K mg base "is_handler" ["thing", "size"] 5 (spDI K pHandler)) (c_is_child_part : Cal P w K mg base "is_child_part" ["kind", "part"] 3 (spChild K)) : FnOk P w K mg base CX0 6 f fd ["kind", "part", "size"] (spPart K) := by
  refine F.ok sc_is_part (fun vs H Q E h => ?_) (fun cdv A outer s H vs Q E hr h => ?_)
  · obtain ⟨x, d, kd, n, rfl, _⟩ := h
    rfl
  · obtain ⟨x, d, kd, n, rfl, hd, hok, k⟩ := h
    refine ⟨_, PSs.nox (pss_cons (ps_if (pt_cmpR op_eq (pv 0) pe_str (nomark _)) (pss_one (ps_ret (pe_cal c_is_title (hr.mono (by decide)) (by rfl) pass0 (pa_cons (pv 1) pa_nil)))) pss_nil) (pss_cons (ps_if (pt_cmpR op_eq (pv 0) pe_str (nomark _)) (pss_one (ps_ret (pe_cal c_is_small (hr.mono (by decide)) (by rfl) pass0 (pa_cons (pv 1) pa_nil)))) pss_nil) (pss_cons (ps_if (pt_cmpR op_eq (pv 0) pe_str (nomark _)) (pss_one (ps_ret (pe_cal c_is_whole (hr.mono (by decide)) (by rfl) pass0 (pa_cons (pv 1) pa_nil)))) pss_nil) (pss_cons (ps_if (pt_cmpR op_eq (pv 0) pe_str (nomark _)) (pss_one (ps_ret (pe_callB call_isi (by rfl) T.n_isinstance boot_isinstance (pa_cons (pv 1) (pa_cons (pe_bltn (v := .ty "bool") (by rfl) T.n_bool boot_bool rfl) pa_nil))))) pss_nil) (pss_cons (ps_if (pt_cmpR op_eq (pv 0) pe_str (nomark _)) (pss_one (ps_ret (pe_cal c_is_row_number (hr.mono (by decide)) (by rfl) pass0 (pa_cons (pv 1) (pa_cons (pv 2) pa_nil))))) pss_nil) (pss_cons (ps_if (pt_cmpR op_eq (pv 0) pe_str (nomark _)) (pss_one (ps_ret (pe_cal c_is_signal (hr.mono (by decide)) (by rfl) pass0 (pa_cons (pv 1) pa_nil)))) pss_nil) (pss_cons (ps_if (pt_cmpR op_eq (pv 0) pe_str (nomark _)) (pss_one (ps_ret (pe_cal c_is_loose (hr.mono (by decide)) (by rfl) pass0 (pa_cons (pv 1) pa_nil)))) pss_nil) (pss_cons (ps_if (pt_cmpR op_eq (pv 0) pe_str (nomark _)) (pss_one (ps_ret (pe_cal c_are_loose (hr.mono (by decide)) (by rfl) pass0 (pa_cons (pv 1) pa_nil)))) pss_nil) (pss_cons (ps_if (pt_cmpR op_eq (pv 0) pe_str (nomark _)) (pss_one (ps_ret (pe_or (pe_cal c_is_one_of (hr.mono (by decide)) (by rfl) pass0 (pa_cons (pv 1) (pa_cons (pe_tup (pa_cons pe_str (pa_cons pe_str pa_nil))) pa_nil))) (pe_one (pe_cal c_is_handler (hr.mono (by decide)) (by rfl) pass0 (pa_cons (pv 1) (pa_cons (pv 2) pa_nil))))))) pss_nil) (pss_cons (ps_if (pt_cmpR op_eq (pv 0) pe_str (nomark _)) (pss_one (ps_ret (pe_cal c_is_one_of (hr.mono (by decide)) (by rfl) pass0 (pa_cons (pv 1) (pa_cons (pe_tup (pa_cons pe_str (pa_cons pe_str pa_nil))) pa_nil))))) pss_nil) (pss_one (ps_ret (pe_cal c_is_child_part (hr.mono (by decide)) (by rfl) pass0 (pa_cons (pv 0) (pa_cons (pv 1) pa_nil))))))))))))))), ?_⟩
    unfold pPart at k
    refine ⟨_, rfl, rfl, _, rfl, ?_⟩
    rw [dec_str]
    refine ite2 (fun e => ?_) (fun e => ?_)
    · rw [if_pos (of_decide_eq_true e)] at k
      exact ⟨x, rfl, x, d, rfl, hd, hok, fun H1 s1 => k H1 s1⟩
    rw [if_neg (fun z => e (decide_eq_true z))] at k
    refine ⟨_, rfl, rfl, _, rfl, ?_⟩
    rw [dec_str]
    refine ite2 (fun e => ?_) (fun e => ?_)
    · rw [if_pos (of_decide_eq_true e)] at k
      exact ⟨x, rfl, x, d, rfl, hd, fun H1 s1 => k H1 s1⟩
    rw [if_neg (fun z => e (decide_eq_true z))] at k
    refine ⟨_, rfl, rfl, _, rfl, ?_⟩
    rw [dec_str]
    refine ite2 (fun e => ?_) (fun e => ?_)
    · rw [if_pos (of_decide_eq_true e)] at k
      exact ⟨x, rfl, x, d, rfl, hd, fun H1 s1 => k H1 s1⟩
    rw [if_neg (fun z => e (decide_eq_true z))] at k
    refine ⟨_, rfl, rfl, _, rfl, ?_⟩
    rw [dec_str]
    refine ite2 (fun e => ?_) (fun e => ?_)
    · rw [if_pos (of_decide_eq_true e)] at k
      refine ⟨x, rfl, x, _, _, _, _, rfl, .ty _, tyx_of hd, kit_bool (nd_of hd), ?_⟩
      have q := k H (Same.refl H)
      cases hd <;> exact q
    rw [if_neg (fun z => e (decide_eq_true z))] at k
    refine ⟨_, rfl, rfl, _, rfl, ?_⟩
    rw [dec_str]
    refine ite2 (fun e => ?_) (fun e => ?_)
    · rw [if_pos (of_decide_eq_true e)] at k
      exact ⟨x, rfl, _, rfl, x, d, n, rfl, hd, fun H1 s1 => k H1 s1⟩
    rw [if_neg (fun z => e (decide_eq_true z))] at k
    refine ⟨_, rfl, rfl, _, rfl, ?_⟩
    rw [dec_str]
    refine ite2 (fun e => ?_) (fun e => ?_)
    · rw [if_pos (of_decide_eq_true e)] at k
      exact ⟨x, rfl, x, d, rfl, hd, fun H1 s1 => k H1 s1⟩
    rw [if_neg (fun z => e (decide_eq_true z))] at k
    refine ⟨_, rfl, rfl, _, rfl, ?_⟩
    rw [dec_str]
    refine ite2 (fun e => ?_) (fun e => ?_)
    · rw [if_pos (of_decide_eq_true e)] at k
      exact ⟨x, rfl, x, d, rfl, hd, fun H1 s1 => k H1 s1⟩
    rw [if_neg (fun z => e (decide_eq_true z))] at k
    refine ⟨_, rfl, rfl, _, rfl, ?_⟩
    rw [dec_str]
    refine ite2 (fun e => ?_) (fun e => ?_)
    · rw [if_pos (of_decide_eq_true e)] at k
      exact ⟨x, rfl, x, d, rfl, hd, fun H1 s1 => k H1 s1⟩
    rw [if_neg (fun z => e (decide_eq_true z))] at k
    refine ⟨_, rfl, rfl, _, rfl, ?_⟩
    rw [dec_str]
    refine ite2 (fun e => ?_) (fun e => ?_)
    · rw [if_pos (of_decide_eq_true e)] at k
      refine ⟨x, rfl, (by show 2 ≤ sizeLine; decide), fun p hp => ⟨x, d, p, ["plain", "ignore"], rfl, dp_mono (same_upd hp) hd, .inr sqT_new, fun H2 s2 => ⟨_, rfl, ?_⟩⟩⟩
      cases e1 : pOne d ["plain", "ignore"] with
      | true =>
        rw [e1] at k
        exact iteT (k H2 ((same_upd hp).trans s2))
      | false =>
        rw [e1] at k
        exact iteF ⟨x, rfl, _, rfl, x, d, n, rfl, dp_mono ((same_upd hp).trans s2) hd, fun H3 s3 => k H3 (((same_upd hp).trans s2).trans s3)⟩
    rw [if_neg (fun z => e (decide_eq_true z))] at k
    refine ⟨_, rfl, rfl, _, rfl, ?_⟩
    rw [dec_str]
    refine ite2 (fun e => ?_) (fun e => ?_)
    · rw [if_pos (of_decide_eq_true e)] at k
      exact ⟨x, rfl, (by show 2 ≤ sizeLine; decide), fun p hp => ⟨x, d, p, ["new", "mine"], rfl, dp_mono (same_upd hp) hd, .inr sqT_new, fun H2 s2 => k H2 ((same_upd hp).trans s2)⟩⟩
    rw [if_neg (fun z => e (decide_eq_true z))] at k
    exact ⟨_, rfl, x, rfl, x, d, kd, rfl, hd, k⟩
end
end Kin
namespace Kin
open PySem PySem.Spec PyProof.Rows L2
section
variable {P : Program} {w : World} {K : PySem.W.Frag} {mg : Str → Option Value} {base : Heap} {tL : Tok} {es : Array DictEntry} {nF : Nat}
abbrev s_is_handler : Stmt := topS 29
theorem sc_is_handler : FnScope [("thing" : Str), ("size" : Str)] ["thing", "size"] (defScope s_is_handler) := ⟨rfl, rfl, rfl, by decide +kernel, rfl, by decide +kernel, by decide +kernel⟩
theorem ok_is_handler {f : Addr} {fd : FuncData} (F : FnP K "is_handler" s_is_handler f fd) (T : Bi K w mg tL es nF) (c_is_row_number : Cal P w K mg base "is_row_number" ["thing", "size"] 3 (spDI K pRowNo)) (c_are_loose : Cal P w K mg base "are_loose" ["thing"] 4 (spD K pAre)) : FnOk P w K mg base CX0 5 f fd ["thing", "size"] (spDI K pHandler) := by
  refine F.ok sc_is_handler (fun vs H Q E h => ?_) (fun cdv A outer s H vs Q E hr h => ?_)
  · obtain ⟨x, d, n, rfl, _⟩ := h
    rfl
  · obtain ⟨x, d, n, rfl, hd, k⟩ := h
    refine ⟨_, PSs.nox (pss_cons (ps_if (PW.pt (pw_or (pt_not (pt_val (pe_callB call_isi (by rfl) T.n_isinstance boot_isinstance (pa_cons (pv 0) (pa_cons (pe_bltn (v := .ty "tuple") (by rfl) T.n_tuple boot_tuple rfl) pa_nil))))) (pw_or1 (pt_cmpR op_ne (pe_callB call_len_seq (by rfl) T.n_len PySem.boot_len (pa_cons (pv 0) pa_nil)) pe_int (nomark _))))) (pss_one (ps_ret pe_bl)) pss_nil) (pss_one (ps_ret (pe_and (pe_cal c_is_row_number (hr.mono (by decide)) (by rfl) pass0 (pa_cons (pe_ix ix_tup (pv 0) pe_int (fun _ _ => rfl)) (pa_cons (pv 1) pa_nil))) (pe_one (pe_cal c_are_loose (hr.mono (by decide)) (by rfl) pass0 (pa_cons (pe_ix ix_tup (pv 0) pe_int (fun _ _ => rfl)) pa_nil))))))), ?_⟩
    refine ⟨x, rfl, x, _, _, _, _, rfl, .ty _, tyx_of hd, kit_tup (nd_of hd), _, rfl, ?_⟩
    cases hd with
    | @tup a xs ds ha hds =>
      refine iteF ⟨_, rfl, a, xs, rfl, .inr ha, rfl, _, rfl, ?_⟩
      have hl := dpA_len hds
      refine iteLen (fun hne => ?_) (fun heq => ?_)
      · have e : pHandler (.tuple ds) n = false := by
          match ds, hl with
          | [], _ => rfl
          | [_], _ => rfl
          | [_, _], hl =>
            rw [hl] at hne
            exact absurd rfl hne
          | _ :: _ :: _ :: _, _ => rfl
        have q := k H (Same.refl H)
        rw [e] at q
        exact q
      · have hl2 : xs.length = 2 := by omega
        obtain ⟨x1, x2, rfl⟩ : ∃ x1 x2, xs = [x1, x2] := by
          match xs, hl2 with
          | [x1, x2], _ => exact ⟨x1, x2, rfl⟩
        cases hds with
        | @cons _ _ d1 _ h1 ht =>
          cases ht with
          | @cons _ _ d2 _ h2 ht2 =>
            cases ht2
            refine ⟨_, rfl, a, _, 0, x1, rfl, rfl, ha, rfl, _, rfl, x1, d1, n, rfl, h1, fun H1 s1 => ⟨_, rfl, ?_⟩⟩
            have q0 : ∀ H', Same H H' → Q (.bl (pRowNo d1 n && pAre d2)) H' := k
            cases e : pRowNo d1 n with
            | true =>
              refine iteT ⟨_, rfl, a, _, 1, x2, rfl, rfl, Same.tup s1 ha, rfl, x2, d2, rfl, dp_mono s1 h2, fun H2 s2 => ?_⟩
              have q := q0 H2 (s1.trans s2)
              rw [e] at q
              exact q
            | false =>
              have q := q0 H1 s1
              rw [e] at q
              exact iteF q
    | _ => exact iteT (k H (Same.refl H))
end
end Kin
namespace Kin
open PySem PySem.Spec PyProof.Rows L2
section
variable {P : Program} {w : World} {K : PySem.W.Frag} {mg : Str → Option Value} {base : Heap} {tL : Tok} {es : Array DictEntry} {nF : Nat}
abbrev s_is_child_part : Stmt := topS 30
theorem sc_is_child_part : FnScope [("kind" : Str), ("part" : Str)] ["kind", "part"] (defScope s_is_child_part) := ⟨rfl, rfl, rfl, by decide +kernel, rfl, by decide +kernel, by decide +kernel⟩
theorem ok_is_child_part {f : Addr} {fd : FuncData} (F : FnP K "is_child_part" s_is_child_part f fd) (T : Bi K w mg tL es nF) (c_is_natural : Cal P w K mg base "is_natural" ["thing"] 2 (spD K pNat)) (c_is_one_of : Cal P w K mg base "is_one_of" ["thing", "words"] 1 (spOne K)) : FnOk P w K mg base CX0 3 f fd ["kind", "part"] (spChild K) := by
  refine F.ok sc_is_child_part (fun vs H Q E h => ?_) (fun cdv A outer s H vs Q E hr h => ?_)
  · obtain ⟨x, d, kd, rfl, _⟩ := h
    rfl
  · obtain ⟨x, d, kd, rfl, hd, k⟩ := h
    refine ⟨_, PSs.nox (pss_cons (ps_if (pt_val (pe_cal c_is_natural (hr.mono (by decide)) (by rfl) pass0 (pa_cons (pv 1) pa_nil))) (pss_one (ps_ret pe_bl)) pss_nil) (pss_cons (ps_if (pt_cmpR op_eq (pv 0) pe_str (nomark _)) (pss_one (ps_ret (pe_cmpR op_isN (pv 1) pe_non (nomark _)))) pss_nil) (pss_cons (ps_if (pt_cmpR op_eq (pv 0) pe_str (nomark _)) (pss_one (ps_ret (pe_cal c_is_one_of (hr.mono (by decide)) (by rfl) pass0 (pa_cons (pv 1) (pa_cons (pe_tup (pa_cons pe_str pa_nil)) pa_nil))))) pss_nil) (pss_one (ps_ret (pe_cal c_is_one_of (hr.mono (by decide)) (by rfl) pass0 (pa_cons (pv 1) (pa_cons (pe_tup (pa_cons pe_str (pa_cons pe_str (pa_cons pe_str pa_nil)))) pa_nil)))))))), ?_⟩
    refine ⟨x, rfl, x, d, rfl, hd, fun H1 s1 => ⟨_, rfl, ?_⟩⟩
    unfold pChild at k
    refine ite2 (fun e => ?_) (fun e => ?_)
    · rw [if_pos e] at k
      exact k H1 s1
    · rw [if_neg e] at k
      refine ⟨_, rfl, rfl, _, rfl, ?_⟩
      rw [dec_str]
      refine ite2 (fun e1 => ?_) (fun e1 => ?_)
      · rw [if_pos (of_decide_eq_true e1)] at k
        refine ⟨_, rfl, rfl, ?_⟩
        have q := k H1 s1
        cases hd <;> exact q
      · rw [if_neg (fun z => e1 (decide_eq_true z))] at k
        refine ⟨_, rfl, rfl, _, rfl, ?_⟩
        rw [dec_str]
        refine ite2 (fun e2 => ?_) (fun e2 => ?_)
        · rw [if_pos (of_decide_eq_true e2)] at k
          refine ⟨_, rfl, (by show 1 ≤ sizeLine; decide), fun p hp => ⟨x, d, p, ["self"], rfl, dp_mono (s1.trans (same_upd hp)) hd, .inr sqT_new, fun H2 s2 => k H2 ((s1.trans (same_upd hp)).trans s2)⟩⟩
        · rw [if_neg (fun z => e2 (decide_eq_true z))] at k
          refine ⟨_, rfl, (by show 3 ≤ sizeLine; decide), fun p hp => ⟨x, d, p, ["self", "parent", "group"], rfl, dp_mono (s1.trans (same_upd hp)) hd, .inr sqT_new, fun H2 s2 => k H2 ((s1.trans (same_upd hp)).trans s2)⟩⟩
end
end Kin
namespace Kin
open PySem PySem.Spec PyProof.Rows L2
section
variable {P : Program} {w : World} {K : PySem.W.Frag} {mg : Str → Option Value} {base : Heap} {tL : Tok} {es : Array DictEntry} {nF : Nat}
abbrev s_are_loose : Stmt := topS 23
theorem sc_are_loose : FnScope [("thing" : Str), ("least" : Str), ("signal" : Str), ("place" : Str)] ["thing"] (defScope s_are_loose) := ⟨rfl, rfl, rfl, by decide +kernel, rfl, by decide +kernel, by decide +kernel⟩
theorem ok_are_loose {f : Addr} {fd : FuncData} (F : FnP K "are_loose" s_are_loose f fd) (T : Bi K w mg tL es nF) (c_is_loose : Cal P w K mg base "is_loose" ["thing"] 3 (spD K pLoose)) : FnOk P w K mg base CX0 4 f fd ["thing"] (spD K pAre) := by
  refine F.ok sc_are_loose (fun vs H Q E h => ?_) (fun cdv A outer s H vs Q E hr h => ?_)
  · obtain ⟨x, d, rfl, _⟩ := h
    rfl
  · obtain ⟨x, d, rfl, hd, k⟩ := h
    refine ⟨_, PSs.nox (pss_cons (ps_if (pt_not (pt_val (pe_callB call_isi (by rfl) T.n_isinstance boot_isinstance (pa_cons (pv 0) (pa_cons (pe_bltn (v := .ty "tuple") (by rfl) T.n_tuple boot_tuple rfl) pa_nil))))) (pss_one (ps_ret pe_bl)) pss_nil) (pss_cons (ps_set (i := 1) sc_are_loose.nd rfl (by first | exact .inl rfl | exact .inr rfl) pe_int) (pss_cons (ps_for PassesOwn.never rfl (pi_tup (pv 0)) (pg_name (i := 2) sc_are_loose.nd rfl (by first | exact .inl rfl | exact .inr rfl)) (pss_cons (ps_if (pt_not (pt_val (pe_cal c_is_loose (hr.mono (by decide)) (by rfl) pass0 (pa_cons (pv 2) pa_nil)))) (pss_one (ps_ret pe_bl)) pss_nil) (pss_cons (ps_set (i := 3) sc_are_loose.nd rfl (by first | exact .inl rfl | exact .inr rfl) (pe_bm PySem.F.plainAttrs_tuple PySem.F.slot_tuple_index PySem.F.type_tuple_index mt_tup_index (pe_glob (by rfl) T.g_SIGNALS T.r_SIGNALS) (pa_cons (pv 2) pa_nil))) (pss_cons (ps_if (pt_cmpR op_lt (pv 3) (pv 1) (nomark _)) (pss_one (ps_ret pe_bl)) pss_nil) (pss_one (ps_set (i := 1) sc_are_loose.nd rfl (by first | exact .inl rfl | exact .inr rfl) (pe_op op_add (pv 3) pe_int))))))) (pss_one (ps_ret pe_bl))))), ?_⟩
    refine ⟨x, rfl, x, _, _, _, _, rfl, .ty _, tyx_of hd, kit_tup (nd_of hd), _, rfl, ?_⟩
    cases hd with
    | @tup a xs ds ha hds =>
      refine iteF ⟨_, rfl, a, rfl, ⟨xs, ha⟩, ?_⟩
      refine for_tup (K := K) (a := a) (xs := xs) (fun i σ H' => ∃ (least : Nat) (y z : Option V), σ = [some (.ref a), some (.int (least : Int)), y, z] ∧ Same H H' ∧ pLoop 0 ds = pLoop least (ds.drop i))
        ⟨0, none, none, rfl, Same.refl H, rfl⟩ (fun i σ H' _ ⟨_, _, _, _, s1, _⟩ => Same.tup s1 ha) ?_ ?_
      · rintro i v σ H' hi ⟨least, y, z, rfl, s1, e⟩
        obtain ⟨d, hd1, hd2⟩ := dpA_get hds hi
        have hdd : ds.drop i = d :: ds.drop (i + 1) := by
          have hl : i < ds.length := (List.getElem?_eq_some_iff.mp hd1).1
          rw [List.drop_eq_getElem_cons hl]
          rw [List.getElem?_eq_getElem hl] at hd1
          cases hd1
          rfl
        rw [hdd] at e
        refine ⟨v, rfl, v, d, rfl, dp_mono s1 hd2, fun H2 s2 => ⟨_, rfl, ?_⟩⟩
        cases hL : pLoose d with
        | false =>
          refine iteT ?_
          have e2 : pLoop least (d :: ds.drop (i + 1)) = false := by
            cases d with
            | str z => rw [pLoop_str, hL]; rfl
            | _ => rfl
          have q := k H2 (s1.trans s2)
          rw [show pAre (.tuple ds) = pLoop 0 ds from rfl, e, e2] at q
          exact q
        | true =>
          refine iteF ?_
          cases hd2 with
          | str w =>
            have hw : w ∈ sig9 := by
              have q : (decide (w ∈ sig9) && !decide (w ∈ sure)) = true := hL
              exact of_decide_eq_true (Bool.and_eq_true_iff.mp q).1
            have hlt : sig9.idxOf w < sig9.length := List.idxOf_lt_length_iff.mpr hw
            refine ⟨.inr (.inl ⟨rfl, T.sigK⟩), _, rfl, _, sig9, w, sig9.idxOf w, rfl, rfl, T.sig H2, ?_, ?_, ?_⟩
            · rw [List.getElem?_eq_getElem hlt, List.getElem_idxOf]
            · intro m hm
              exact idx_min hm
            · rw [pLoop_str, hL, if_pos rfl] at e
              refine ⟨_, rfl, _, rfl, _, _, rfl, rfl, _, rfl, ?_⟩
              by_cases hc : ((sig9.idxOf w : Nat) : Int) < (least : Int)
              · rw [decide_eq_true hc]
                refine iteT ?_
                rw [if_pos (by omega)] at e
                have q := k H2 (s1.trans s2)
                rw [show pAre (.tuple ds) = pLoop 0 ds from rfl, e] at q
                exact q
              · rw [decide_eq_false hc]
                refine iteF ?_
                rw [if_neg (by omega)] at e
                exact ⟨_, rfl, _, _, rfl, rfl, sig9.idxOf w + 1, some (.str w), some (.int (sig9.idxOf w : Nat)), rfl, s1.trans s2, e⟩
          | _ => cases hL
      · rintro σ H' ⟨least, y, z, rfl, s1, e⟩
        have hz : ds.drop xs.length = [] := List.drop_eq_nil_of_le (by rw [dpA_len hds]; exact Nat.le_refl _)
        rw [hz, pLoop_nil] at e
        have q := k H' s1
        rw [show pAre (.tuple ds) = pLoop 0 ds from rfl, e] at q
        exact q
    | _ => exact iteT (k H (Same.refl H))
end
end Kin
namespace Kin
open PySem PySem.Spec PyProof.Rows L2
section
variable {P : Program} {w : World} {K : PySem.W.Frag} {mg : Str → Option Value} {base : Heap} {tL : Tok} {es : Array DictEntry} {nF : Nat}
abbrev s_is_row_number : Stmt := topS 28
theorem sc_is_row_number : FnScope [("thing" : Str), ("size" : Str)] ["thing", "size"] (defScope s_is_row_number) := ⟨rfl, rfl, rfl, by decide +kernel, rfl, by decide +kernel, by decide +kernel⟩
theorem ok_is_row_number {f : Addr} {fd : FuncData} (F : FnP K "is_row_number" s_is_row_number f fd) (T : Bi K w mg tL es nF) (c_is_natural : Cal P w K mg base "is_natural" ["thing"] 2 (spD K pNat)) : FnOk P w K mg base CX0 3 f fd ["thing", "size"] (spDI K pRowNo) := by
  refine F.ok sc_is_row_number (fun vs H Q E h => ?_) (fun cdv A outer s H vs Q E hr h => ?_)
  · obtain ⟨x, d, n, rfl, _⟩ := h
    rfl
  · obtain ⟨x, d, n, rfl, hd, k⟩ := h
    refine ⟨_, PSs.nox (pss_one (ps_ret (pe_and (pe_cal c_is_natural (hr.mono (by decide)) (by rfl) pass0 (pa_cons (pv 0) pa_nil)) (pe_one (pe_cmpR op_lt (pv 0) (pv 1) (nomark _)))))), ?_⟩
    refine ⟨x, rfl, x, d, rfl, hd, fun H1 s1 => ⟨_, rfl, ?_⟩⟩
    have k := k H1 s1
    cases hd with
    | int i =>
      have k : Q (.bl (decide (0 ≤ i) && decide (i < n))) H1 := k
      show if decide (0 ≤ i) = true then _ else _
      cases e : decide (0 ≤ i) with
      | true =>
        rw [e] at k
        exact iteT ⟨_, rfl, _, rfl, _, _, rfl, rfl, k⟩
      | false =>
        rw [e] at k
        exact iteF k
    | _ => exact iteF k
end
end Kin
namespace Kin
open PySem PySem.Spec PyProof.Rows L2
section
variable {P : Program} {w : World} {K : PySem.W.Frag} {mg : Str → Option Value} {base : Heap} {tL : Tok} {es : Array DictEntry} {nF : Nat}
abbrev s_is_row : Stmt := topS 32
theorem sc_is_row : FnScope [("thing" : Str), ("size" : Str), ("word" : Str), ("kinds" : Str), ("kind" : Str), ("part" : Str)] ["thing", "size"] (defScope s_is_row) := ⟨rfl, rfl, rfl, by decide +kernel, rfl, by decide +kernel, by decide +kernel⟩
theorem mem_of_lookup {α : Type} {z : Str} {v : α} : ∀ {l : List (Str × α)}, l.lookup z = some v → (z, v) ∈ l
  | [], h => by cases h
  | (a, b) :: r, h => by
    rw [List.lookup_cons] at h
    by_cases e : z = a
    · subst e
      rw [beq_self_eq_true] at h
      cases Option.some.inj h
      exact List.mem_cons_self
    · have : (z == a) = false := by simpa using e
      rw [this] at h
      exact List.mem_cons_of_mem _ (mem_of_lookup h)
theorem pParts_all (n : Int) : ∀ (ks : List Str) (ps : List PyData), ps.length = ks.length → ((List.range ks.length).map fun i => (match ks[i]?, ps[i]? with | some k, some p => pPart k p n | _, _ => true)).all id = pParts n ks ps
  | [], [], _ => rfl
  | k :: ks, p :: ps, h => by
    rw [List.length_cons, List.range_succ_eq_map, List.map_cons, List.all_cons, List.map_map]
    have ih := pParts_all n ks ps (by simpa using h)
    show (pPart k p n && ((List.range ks.length).map fun i => (match ks[i]?, ps[i]? with | some k, some p => pPart k p n | _, _ => true)).all id) = (pPart k p n && pParts n ks ps)
    rw [ih]
  | [], _ :: _, h => by cases h
  | _ :: _, [], h => by cases h
theorem ok_is_row {f : Addr} {fd : FuncData} (F : FnP K "is_row" s_is_row f fd) (T : Bi K w mg tL es nF) (c_is_part : Cal P w K mg base "is_part" ["kind", "part", "size"] 6 (spPart K)) : FnOk P w K mg base CX0 7 f fd ["thing", "size"] (spRow K pRow) := by
  refine F.ok sc_is_row (fun vs H Q E h => ?_) (fun cdv A outer s H vs Q E hr h => ?_)
  · obtain ⟨x, d, n, rfl, _⟩ := h
    rfl
  · obtain ⟨x, d, n, rfl, hd, hok, k⟩ := h
    refine ⟨_, PSs.nox (pss_cons (ps_if (PW.pt (pw_or (pt_not (pt_val (pe_callB call_isi (by rfl) T.n_isinstance boot_isinstance (pa_cons (pv 0) (pa_cons (pe_bltn (v := .ty "tuple") (by rfl) T.n_tuple boot_tuple rfl) pa_nil))))) (pw_or1 (pt_cmpR op_eq (pe_callB call_len_seq (by rfl) T.n_len PySem.boot_len (pa_cons (pv 0) pa_nil)) pe_int (nomark _))))) (pss_one (ps_ret pe_bl)) pss_nil) (pss_cons (ps_set (i := 2) sc_is_row.nd rfl (by first | exact .inl rfl | exact .inr rfl) (pe_ix ix_tup (pv 0) pe_int (fun _ _ => rfl))) (pss_cons (ps_if (PW.pt (pw_or (pt_not (pt_val (pe_callB call_isi (by rfl) T.n_isinstance boot_isinstance (pa_cons (pv 2) (pa_cons (pe_bltn (v := .ty "str") (by rfl) T.n_str boot_str rfl) pa_nil))))) (pw_or1 (pt_cmpR (op_notIn_kd T.kd) (pv 2) (pe_glob (by rfl) T.g_FORMS T.r_FORMS) (by rfl))))) (pss_one (ps_ret pe_bl)) pss_nil) (pss_cons (ps_set (i := 3) sc_is_row.nd rfl (by first | exact .inl rfl | exact .inr rfl) (pe_ix ix_kdict (pe_glob (by rfl) T.g_FORMS T.r_FORMS) (pv 2) (fun _ _ => rfl))) (pss_cons (ps_if (pt_cmpR op_ne (pe_callB call_len_seq (by rfl) T.n_len PySem.boot_len (pa_cons (pv 0) pa_nil)) (pe_op op_add (pe_callB call_len_seq (by rfl) T.n_len PySem.boot_len (pa_cons (pv 3) pa_nil)) pe_int) (nomark _)) (pss_one (ps_ret pe_bl)) pss_nil) (pss_one (ps_ret (pe_callB (cr_all rfl) (by rfl) T.n_all boot_all (pa_cons (pe_lc (own := [(("kind" : Str), 4), (("part" : Str), 5)]) (g := gTup K 2 (gCons (gName 4) (gCons (gName 5) (gNil)))) rfl sc_is_row.nd (RZ.pi_zipA (by rfl) T.n_zip (pa_cons (pv 3) (pa_cons (pe_slice sl_tupA (pv 0) (po_some pe_int) po_none) pa_nil))) (blkOk_by (N := [("thing" : Str), ("size" : Str), ("word" : Str), ("kinds" : Str), ("kind" : Str), ("part" : Str)]) (sc := defScope s_is_row) (by decide +kernel)) (fun _ _ _ _ _ => by exact (pg_tup rfl (pgs_cons (pg_name (i := 4) sc_is_row.nd rfl (by first | exact .inl rfl | exact .inr rfl)) (pgs_cons (pg_name (i := 5) sc_is_row.nd rfl (by first | exact .inl rfl | exact .inr rfl)) pgs_nil)))) (fun _ _ _ _ _ => pts_nil) (fun _ _ _ _ _ => (pe_cal c_is_part (hr.mono (by decide)) (by rfl) pass0 (pa_cons (pv 4) (pa_cons (pv 5) (pa_cons (pv 1) pa_nil)))))) pa_nil))))))))), ?_⟩
    refine ⟨x, rfl, x, _, _, _, _, rfl, .ty _, tyx_of hd, kit_tup (nd_of hd), _, rfl, ?_⟩
    cases hd with
    | @tup a xs ds ha hds =>
      refine iteF ⟨_, rfl, a, xs, rfl, .inr ha, rfl, _, rfl, ?_⟩
      refine iteLenE (fun h0 => ?_) (fun h0 => ?_)
      · have hx : xs = [] := List.length_eq_zero_iff.mp (by omega)
        subst hx
        cases hds
        exact k H (Same.refl H)
      · obtain ⟨x1, xr, rfl⟩ : ∃ x1 xr, xs = x1 :: xr := by
          cases xs with
          | nil => exact absurd rfl h0
          | cons x1 xr => exact ⟨x1, xr, rfl⟩
        cases hds with
        | @cons _ _ d1 dr h1 ht =>
          refine ⟨_, rfl, a, _, 0, x1, rfl, rfl, ha, at0 _ _, ?_⟩
          refine ⟨x1, rfl, x1, _, _, _, _, rfl, .ty _, tyx_of h1, kit_str (nd_of h1), _, rfl, ?_⟩
          cases h1 with
          | str wd =>
            cases hf : forms.lookup wd with
            | none =>
              refine iteF ⟨_, rfl, _, _, rfl, rfl, T.fno wd hf, _, rfl, iteT ?_⟩
              have q := k H (Same.refl H)
              rw [show pRow (.tuple (.str wd :: dr)) n = (match forms.lookup wd with | some ks => decide (dr.length = ks.length) && pParts n ks dr | none => false) from rfl, hf] at q
              exact q
            | some ks =>
              have k : ∀ H', Same H H' → Q (.bl (decide (dr.length = ks.length) && pParts n ks dr)) H' := fun H' s1 => by
                have q := k H' s1
                rw [show pRow (.tuple (.str wd :: dr)) n = (match forms.lookup wd with | some ks => decide (dr.length = ks.length) && pParts n ks dr | none => false) from rfl, hf] at q
                exact q
              obtain ⟨aF, hF, hT⟩ := T.fyes wd ks hf
              refine iteF ⟨_, rfl, _, _, rfl, rfl, hF, _, rfl, iteF ?_⟩
              refine ⟨_, rfl, _, _, .ref aF, rfl, rfl, ⟨_, _, _, T.kd.at_, T.kd.lit, hF, rfl⟩, ?_⟩
              refine ⟨_, rfl, a, _, rfl, .inr ha, _, rfl, aF, _, rfl, .inr (hT H), _, _, rfl, rfl, rfl, _, rfl, ?_⟩
              have hlr := dpA_len ht
              refine iteLen (fun hne => ?_) (fun heq => ?_)
              · have q := k H (Same.refl H)
                rw [decide_eq_false (show ¬ dr.length = ks.length by
                  intro z
                  apply hne
                  rw [List.length_cons, hlr, z, List.length_map]
                  omega)] at q
                exact q
              · have hl : dr.length = ks.length := by
                  rw [List.length_cons, hlr, List.length_map] at heq
                  omega
                refine ⟨_, rfl, _, rfl, _, rfl, a, _, rfl, ha, fun z => absurd z sIx1, fun _ p hp => ?_⟩
                have sp := same_upd (o := .tup (cutV (V.str wd :: xr) (some 1) none)) hp
                refine ⟨aF, p, _, xr, rfl, .inr ⟨hT _, sqT_cut1, fun D hD => ?_⟩⟩
                refine lc_vals (walk_zipT (xs := ks.map V.str) (ys := xr) (n := ks.length) (by rw [List.length_map, hlr, hl]; simp)) (fun i => .bl (match ks[i]?, dr[i]? with | some k, some p => pPart k p n | _, _ => true)) hD ?_ (fun H' s1 => ⟨hT _, Same.tup s1 sqT_cut1⟩) ?_ ?_
                · have : ks.length ≤ 2 := by
                    have hm : ∀ q ∈ forms, q.2.length ≤ 2 := by decide +kernel
                    exact hm (wd, ks) (mem_of_lookup hf)
                  omega
                · rintro i v H' H'' Qe hi s1 ⟨tp, y1, y2, rfl, htp, rfl, hk1, hk2⟩ q
                  have hkl : ks[i]? = some ks[i] := List.getElem?_eq_getElem hi
                  have hk1 : (ks.map V.str)[i]? = some y1 := hk1
                  have hk2 : xr[i]? = some y2 := hk2
                  have e1 : y1 = .str ks[i] := by
                    rw [List.getElem?_map, hkl] at hk1
                    exact (Option.some.inj hk1).symm
                  obtain ⟨dd, hdd, hdp⟩ := dpA_get ht hk2
                  have sT := same_upd (o := .tup [y1, y2]) htp
                  refine ⟨tp, [y1, y2], rfl, sqT_new, rfl, y1, [y2], rfl, y2, [], rfl, rfl, rfl, ?_⟩
                  subst e1
                  have hlo : lenOk dd = true := by
                    exact lenAll_mem (lenOk_tup hok).2 (List.mem_cons_of_mem _ (List.mem_of_getElem? hdd))
                  refine ⟨_, rfl, _, rfl, _, rfl, y2, dd, ks[i], n, rfl, dp_mono ((sp.trans s1).trans sT) hdp, hlo, fun H4 s4 => ?_⟩
                  have q := q H4 (sT.trans s4)
                  rw [hkl, hdd] at q
                  exact q
                · intro H' s1 hlst
                  refine ⟨D, (List.range ks.length).map fun i => (match ks[i]?, dr[i]? with | some k, some p => pPart k p n | _, _ => true), rfl, .inl (.inl ?_), ?_⟩
                  · rw [hlst, List.map_map]
                    rfl
                  · rw [pParts_all n ks dr hl]
                    have q := k H' (sp.trans s1)
                    rw [decide_eq_true hl] at q
                    exact q
          | _ => exact iteT (k H (Same.refl H))
    | _ => exact iteT (k H (Same.refl H))
end
end Kin
namespace Kin
open PySem PySem.Spec PyProof.Rows L2

theorem nsIn_free {K : PySem.W.Frag} {P : Params} {a : Addr} {ks : List Str} (h : He.dicW K a = some (He.keysIn P ks)) {z : Str} (hz : ¬ z ∈ ks) : PySem.W.nsIn K a z = some none := by
  unfold He.dicW at h
  cases q : K.lookup a with
  | none =>
    rw [q] at h
    cases h
  | some o =>
    obtain ⟨oc, od, dt, osl⟩ := o
    rw [q] at h
    cases oc with
    | type c =>
      cases od with
      | none =>
        cases dt with
        | dict es n =>
          have h1 : (match decide (c = "dict") && (osl.isEmpty && !(a == sysModules)) with
            | true => some (es.toList.map He.keyOf)
            | false => none) = some (He.keysIn P ks) := h
          cases zz : decide (c = "dict") && (osl.isEmpty && !(a == sysModules)) with
          | false =>
            rw [zz] at h1
            cases h1
          | true =>
            rw [zz] at h1
            have h2 : es.toList.map He.keyOf = He.keysIn P ks := Option.some.inj h1
            have hk : ∀ e ∈ es.toList, ∃ x t, e.key = .str x t ∧ x ∈ ks := by
              intro e he
              have hm : He.keyOf e ∈ He.keysIn P ks := by
                rw [← h2]
                exact List.mem_map.mpr ⟨e, he, rfl⟩
              obtain ⟨y, hy, ey⟩ := List.mem_map.mp hm
              unfold He.keyOf at ey
              split at ey
              · rename_i x t qk
                have e1 := Option.some.inj ey
                have e2 : y = x := (Prod.mk.inj e1).1
                exact ⟨x, t, qk, e2 ▸ hy⟩
              · cases ey
            unfold PySem.W.nsIn
            rw [q]
            have hf : es.toList.find? (fun e => e.key.isStr z) = none := by
              rw [List.find?_eq_none]
              intro e he hs
              obtain ⟨x, t, ek, hx⟩ := hk e he
              rw [ek] at hs
              have : x = z := eq_of_beq hs
              exact hz (this ▸ hx)
            have hr : es.toList.any (fun e => e.refKey) = false := by
              rw [List.any_eq_false]
              intro e he
              obtain ⟨x, t, ek, hx⟩ := hk e he
              unfold DictEntry.refKey
              rw [ek]
              simp
            show (match es.toList.find? (fun e => e.key.isStr z) with
              | some e => some (some e.val)
              | none => if es.toList.any (fun e => e.refKey) then none else some none) = _
            rw [hf, hr]
            rfl
        | _ => cases h
      | some b => cases dt <;> cases h
    | _ => cases od <;> cases dt <;> cases h
theorem forms_yes {K : PySem.W.Frag} (h : formsB K = true) {z : Str} {ks : List Str} (hz : forms.lookup z = some ks) : ∃ a, PySem.W.nsIn K (He.ga K "FORMS") z = some (some (.ref a)) ∧ ∀ H, SqT K H a (ks.map V.str) := by
  have h1 := (List.all_eq_true.mp h) (z, ks) (mem_of_lookup hz)
  dsimp only at h1
  split at h1
  · rename_i a ha
    split at h1
    · rename_i c od its m osl hl
      obtain ⟨h2, h3⟩ := He.ba h1
      obtain ⟨h4, h5⟩ := He.ba h3
      exact ⟨a, ha, fun H => .inr ⟨_, its, m, hl, congrArg Value.type (of_decide_eq_true h2), rfl, of_decide_eq_true h4, He.relAll_ok h5⟩⟩
    · cases h1
  · cases h1
theorem choices_yes {K : PySem.W.Frag} (h : choicesB K = true) {z : Str} {ks : List Str} (hz : choices.lookup z = some ks) : ∃ a, PySem.W.nsIn K (He.ga K "CHOICES") z = some (some (.ref a)) ∧ ∀ H, SqT K H a (ks.map V.str) := by
  have h1 := (List.all_eq_true.mp h) (z, ks) (mem_of_lookup (l := choicesH) hz)
  dsimp only at h1
  split at h1
  · rename_i a ha
    split at h1
    · rename_i c od its m osl hl
      obtain ⟨h2, h3⟩ := He.ba h1
      obtain ⟨h4, h5⟩ := He.ba h3
      exact ⟨a, ha, fun H => .inr ⟨_, its, m, hl, congrArg Value.type (of_decide_eq_true h2), rfl, of_decide_eq_true h4, He.relAll_ok h5⟩⟩
    · cases h1
  · cases h1
theorem plain_ok {K : PySem.W.Frag} (h : plainB K = true) : ∃ o, K.lookup (He.ga K "SIGNALS") = some o ∧ o.cls = .type "tuple" ∧ o.dict = none := by
  unfold plainB at h
  split at h
  · rename_i c dt osl hl
    exact ⟨_, hl, congrArg Value.type (of_decide_eq_true h), rfl⟩
  · cases h
theorem facts {l : PySem.W.OpenLaw} {w : World} {K : PySem.W.Frag} {h : Heap} {mg : Str → Option Value} {fl : Addr} (X : K.In h) (G : h.Ns mainGlobals mg) (hfl : mg "law" = some (.ref fl)) (c : He.SaysX fa fn ts [] ex w h K) :
    ∃ fd : FuncData, (∀ (s : Shared) (v : Value), BindsTo s fd ⟨[v], []⟩ [("_law_script", v)]) ∧ ∀ base : Heap, K.In base → base.Ns mainGlobals mg → FnOk l.prog w K mg base CX0 18 fl fd ["_law_script"] (spLaw K) := by
  obtain ⟨es, nF, kd⟩ := c.t.tab 0 (t := (fun K => He.ga K "FORMS", forms.map (·.1))) rfl
  obtain ⟨tL, gL⟩ := He.int_ok X G (c.t.d.fact 17 (f := .int "LONGEST_TITLE" 8) rfl)
  have hdw : He.dicW K (He.ga K "FORMS") = some (He.keysIn w.params (forms.map (·.1))) := by
    have e : ts.map (fun t => He.dicW K (t.1 K)) = ts.map fun t => some (He.keysIn w.params t.2) := congrArg (fun z : He.AlT => z.2) c.t
    exact (List.cons.inj e).1
  obtain ⟨hx1, hx2⟩ := He.ba c.more
  obtain ⟨hb0, hx1⟩ := He.ba hx1
  obtain ⟨hb1, hb2⟩ := He.ba hb0
  obtain ⟨hb3, hb4⟩ := He.ba hb2
  obtain ⟨hb4, hb5⟩ := He.ba hb4
  obtain ⟨hb6, hb7⟩ := He.ba hb5
  obtain ⟨hb7, hb8⟩ := He.ba hb7
  obtain ⟨hx3, hx4⟩ := He.ba hx2
  obtain ⟨hx5, hx7⟩ := He.ba hx4
  obtain ⟨hx6, hx8⟩ := He.ba hx7
  obtain ⟨hx9, hx10⟩ := He.ba hx8
  obtain ⟨esC, nC, kdC⟩ := c.t.tab 1 (t := (fun K => He.ga K "CHOICES", choicesH.map (·.1))) rfl
  obtain ⟨esR, nR, kdR⟩ := c.t.tab 2 (t := (fun K => He.ga K "READERS", ["title", "small", "row", "whole", "name", "signal", "signals"])) rfl
  obtain ⟨tF, gF⟩ := He.str_ok X G (c.t.d.fact 18 (f := .str "FIGURES" "0123456789") rfl)
  obtain ⟨tM, gM⟩ := He.int_ok X G (c.t.d.fact 19 (f := .int "MOST_FIGURES" 9) rfl)
  have hdc : He.dicW K (He.ga K "CHOICES") = some (He.keysIn w.params (choicesH.map (·.1))) := by
    have e : ts.map (fun t => He.dicW K (t.1 K)) = ts.map fun t => some (He.keysIn w.params t.2) := congrArg (fun z : He.AlT => z.2) c.t
    exact (List.cons.inj (List.cons.inj e).2).1
  have T : Bi K w mg tL es nF := {
    n_isinstance := He.free_ok X G (c.t.d.fact 0 (f := .free "isinstance") rfl)
    n_int := He.free_ok X G (c.t.d.fact 1 (f := .free "int") rfl)
    n_bool := He.free_ok X G (c.t.d.fact 2 (f := .free "bool") rfl)
    n_str := He.free_ok X G (c.t.d.fact 3 (f := .free "str") rfl)
    n_tuple := He.free_ok X G (c.t.d.fact 4 (f := .free "tuple") rfl)
    n_list := He.free_ok X G (c.t.d.fact 5 (f := .free "list") rfl)
    n_len := He.free_ok X G (c.t.d.fact 6 (f := .free "len") rfl)
    n_all := He.free_ok X G (c.t.d.fact 7 (f := .free "all") rfl)
    n_zip := He.free_ok X G (c.t.d.fact 8 (f := .free "zip") rfl)
    n_enumerate := He.free_ok X G (c.t.d.fact 9 (f := .free "enumerate") rfl)
    n_range := He.free_ok X G (c.t.d.fact 10 (f := .free "range") rfl)
    n_sorted := He.free_ok X G (c.t.d.fact 11 (f := .free "sorted") rfl)
    n_set := He.free_ok X G (c.t.d.fact 12 (f := .free "set") rfl)
    n_repr := He.free_ok X G (c.t.d.fact 13 (f := .free "repr") rfl)
    g_SIGNALS := He.glo_ok X G (c.t.d.fact 14 (f := .glo "SIGNALS") rfl)
    g_SURE := He.glo_ok X G (c.t.d.fact 15 (f := .glo "SURE") rfl)
    g_FORMS := He.glo_ok X G (c.t.d.fact 16 (f := .glo "FORMS") rfl)
    g_LONGEST_TITLE := gL
    sig := fun H => He.tupB_ok hx1 H
    sigK := plain_ok hx6
    sur := fun H => He.tupB_ok hx3 H
    kd := kd
    fno := fun z hz => nsIn_free hdw (fun q => by
      obtain ⟨⟨z', ks⟩, hm, e⟩ := List.mem_map.mp q
      have e : z' = z := e
      subst e
      have hs : ∀ q ∈ forms, (forms.lookup q.1).isSome = true := by decide +kernel
      have := hs _ hm
      rw [hz] at this
      cases this)
    fyes := fun z ks hz => forms_yes hx5 hz }
  have TW : Bw K w mg tL es nF ⟨tF, tM, esC, nC, esR, nR⟩ := {
    toBi := T
    g_FIGURES := gF
    g_MOST_FIGURES := gM
    g_CHOICES := He.glo_ok X G (c.t.d.fact 20 (f := .glo "CHOICES") rfl)
    g_READERS := He.glo_ok X G (c.t.d.fact 21 (f := .glo "READERS") rfl)
    kdC := kdC
    kdR := kdR
    cno := fun z hz => nsIn_free hdc (fun q => by
      obtain ⟨⟨z', ks⟩, hm, e⟩ := List.mem_map.mp q
      have e : z' = z := e
      subst e
      have hs : ∀ q ∈ choicesH, (choices.lookup q.1).isSome = true := by decide +kernel
      have := hs _ hm
      rw [hz] at this
      cases this)
    cyes := fun z ks hz => choices_yes hx9 hz
    ryes := fun z f hz => He.eqO_ok ((List.all_eq_true.mp hx10) (z, f) (mem_of_lookup hz))
    rfn := fun q hq => by
      simp only [readers, List.mem_cons, List.not_mem_nil, or_false] at hq
      rcases hq with rfl | rfl | rfl | rfl | rfl | rfl
      · exact He.glo_ok X G (c.t.d.fact 41 (f := .glo "read_letters") rfl)
      · exact He.glo_ok X G (c.t.d.fact 39 (f := .glo "read_number") rfl)
      · exact He.glo_ok X G (c.t.d.fact 39 (f := .glo "read_number") rfl)
      · exact He.glo_ok X G (c.t.d.fact 40 (f := .glo "read_whole") rfl)
      · exact He.glo_ok X G (c.t.d.fact 43 (f := .glo "read_signal") rfl)
      · exact He.glo_ok X G (c.t.d.fact 44 (f := .glo "read_signals") rfl) }
  have hlaw := hfl.symm.trans (He.glo_ok X G (c.t.d.fact 63 (f := .glo "law") rfl))
  cases hlaw
  obtain ⟨fd_law, F_law⟩ := c.t.d.def_ 41 (d := mkD "law" 68) rfl
  refine ⟨fd_law, fun s v => FunD.bindsA (ps := ["_law_script"]) F_law (fun _ _ _ _ _ _ us hl => match us, hl with | [_], _ => rfl) s [v] rfl, fun base _ _ => ?_⟩
  have B : Kb K mg := ⟨He.glo_ok X G (c.t.d.fact 64 (f := .glo "KinError") rfl), baseB_ok hb1⟩
  obtain ⟨fd_NoText, F_NoText⟩ := c.t.d.def_ 42 (d := mkI "NoText" "NoText.__init__" 5) rfl
  have h_NoText := He.meth_ok (c.t.d.fact 76 (f := .meth "NoText" "__init__") rfl)
  have k_NoText : Mk l.prog w K mg base (He.ga K "NoText") ["self", "row"] (spIni1 K (He.ga K "NoText") "row") := ⟨_, fd_NoText, h_NoText.at_, eq_of_beq h_NoText.fn, ok_NoText F_NoText B, FunD.bindsN (ps := ["self", "row"]) F_NoText (fun _ _ _ _ _ _ us hl => match us, hl with | [_, _], _ => rfl)⟩
  obtain ⟨fd_NoBook, F_NoBook⟩ := c.t.d.def_ 43 (d := mkI "NoBook" "NoBook.__init__" 6) rfl
  have h_NoBook := He.meth_ok (c.t.d.fact 77 (f := .meth "NoBook" "__init__") rfl)
  have k_NoBook : Mk l.prog w K mg base (He.ga K "NoBook") ["self"] (spIni0 K (He.ga K "NoBook")) := ⟨_, fd_NoBook, h_NoBook.at_, eq_of_beq h_NoBook.fn, ok_NoBook F_NoBook B, FunD.bindsN (ps := ["self"]) F_NoBook (fun _ _ _ _ _ _ us hl => match us, hl with | [_], _ => rfl)⟩
  have M : Et K mg := {
    em := {
      g := fun i hi => match i, hi with
        | 0, _ => He.glo_ok X G (c.t.d.fact 65 (f := .glo "NoTitle") rfl)
        | 1, _ => He.glo_ok X G (c.t.d.fact 66 (f := .glo "NoOne") rfl)
        | 2, _ => He.glo_ok X G (c.t.d.fact 67 (f := .glo "NoSession") rfl)
        | 3, _ => He.glo_ok X G (c.t.d.fact 68 (f := .glo "NoText") rfl)
        | 4, _ => He.glo_ok X G (c.t.d.fact 69 (f := .glo "NoBook") rfl)
        | 5, _ => He.glo_ok X G (c.t.d.fact 70 (f := .glo "NoTyped") rfl)
        | 6, _ => He.glo_ok X G (c.t.d.fact 71 (f := .glo "NoEntry") rfl)
        | 7, _ => He.glo_ok X G (c.t.d.fact 72 (f := .glo "NoScript") rfl)
        | 8, _ => He.glo_ok X G (c.t.d.fact 73 (f := .glo "TooMany") rfl)
        | 9, _ => He.glo_ok X G (c.t.d.fact 74 (f := .glo "NoLine") rfl)
        | 10, _ => He.glo_ok X G (c.t.d.fact 75 (f := .glo "NoHouse") rfl)
      oex := fun i hi => oexB_ok (He.ba (List.all_eq_true.mp hb3 i (List.mem_range.mpr hi))).1
      exc := fun i hi => (excB_ok (He.ba (List.all_eq_true.mp hb3 i (List.mem_range.mpr hi))).2).2
      kit := fun i j hi hj => of_decide_eq_true (List.all_eq_true.mp (List.all_eq_true.mp hb4 i (List.mem_range.mpr hi)) j (List.mem_range.mpr hj)) }
    gk := B.g
    gv := He.free_ok X G (c.t.d.fact 78 (f := .free "ValueError") rfl)
    kv := fun i hi => of_decide_eq_true (He.ba (List.all_eq_true.mp hb6 i (List.mem_range.mpr hi))).2
    ex := fun i hi => of_decide_eq_true (List.all_eq_true.mp hb8 i (List.mem_range.mpr hi))
    xf := (excB_ok (He.ba (List.all_eq_true.mp hb3 3 (List.mem_range.mpr (by decide)))).2).1
    no := He.eqO_ok (List.all_eq_true.mp hb7 (3, "row") (by simp)) }
  have Z : Ez l.prog w K mg base := {
    g_NoText := M.em.g 3 (by decide)
    t_NoText := M.em.oex 3 (by decide)
    n_NoText := M.no
    m_NoText := k_NoText
    g_NoBook := M.em.g 4 (by decide)
    t_NoBook := M.em.oex 4 (by decide)
    m_NoBook := k_NoBook }
  obtain ⟨fd_is_whole, F_is_whole⟩ := c.t.d.def_ 0 (d := mkD "is_whole" 14) rfl
  have m_is_whole := He.glo_ok X G (c.t.d.fact 22 (f := .glo "is_whole") rfl)
  have c_is_whole : Cal l.prog w K mg base "is_whole" ["thing"] 1 (spD K pWhole) := ⟨_, _, ok_is_whole F_is_whole T, m_is_whole, F_is_whole.kp, FunD.bindsN (ps := ["thing"]) F_is_whole (fun _ _ _ _ _ _ us hl => match us, hl with | [_], _ => rfl)⟩
  obtain ⟨fd_is_one_of, F_is_one_of⟩ := c.t.d.def_ 3 (d := mkD "is_one_of" 17) rfl
  have m_is_one_of := He.glo_ok X G (c.t.d.fact 25 (f := .glo "is_one_of") rfl)
  have c_is_one_of : Cal l.prog w K mg base "is_one_of" ["thing", "words"] 1 (spOne K) := ⟨_, _, ok_is_one_of F_is_one_of T, m_is_one_of, F_is_one_of.kp, FunD.bindsN (ps := ["thing", "words"]) F_is_one_of (fun _ _ _ _ _ _ us hl => match us, hl with | [_, _], _ => rfl)⟩
  obtain ⟨fd_is_title, F_is_title⟩ := c.t.d.def_ 7 (d := mkD "is_title" 27) rfl
  have m_is_title := He.glo_ok X G (c.t.d.fact 29 (f := .glo "is_title") rfl)
  have c_is_title : Cal l.prog w K mg base "is_title" ["thing"] 1 (spDL K pTitle) := ⟨_, _, ok_is_title F_is_title T, m_is_title, F_is_title.kp, FunD.bindsN (ps := ["thing"]) F_is_title (fun _ _ _ _ _ _ us hl => match us, hl with | [_], _ => rfl)⟩
  obtain ⟨fd_is_number, F_is_number⟩ := c.t.d.def_ 15 (d := mkD "is_number" 39) rfl
  have m_is_number := He.glo_ok X G (c.t.d.fact 37 (f := .glo "is_number") rfl)
  have c_is_number : Cal l.prog w K mg base "is_number" ["word"] 1 (spZB isNum) := ⟨_, _, ok_is_number F_is_number TW, m_is_number, F_is_number.kp, FunD.bindsN (ps := ["word"]) F_is_number (fun _ _ _ _ _ _ us hl => match us, hl with | [_], _ => rfl)⟩
  obtain ⟨fd_read_letters, F_read_letters⟩ := c.t.d.def_ 19 (d := mkD "read_letters" 43) rfl
  have m_read_letters := He.glo_ok X G (c.t.d.fact 41 (f := .glo "read_letters") rfl)
  have c_read_letters : Cal l.prog w K mg base "read_letters" ["word"] 1 (spZ K fun z => oS (rdLet z)) := ⟨_, _, ok_read_letters F_read_letters TW, m_read_letters, F_read_letters.kp, FunD.bindsN (ps := ["word"]) F_read_letters (fun _ _ _ _ _ _ us hl => match us, hl with | [_], _ => rfl)⟩
  obtain ⟨fd_read_signal, F_read_signal⟩ := c.t.d.def_ 21 (d := mkD "read_signal" 45) rfl
  have m_read_signal := He.glo_ok X G (c.t.d.fact 43 (f := .glo "read_signal") rfl)
  have c_read_signal : Cal l.prog w K mg base "read_signal" ["word"] 1 (spZ K fun z => oS (rdSig z)) := ⟨_, _, ok_read_signal F_read_signal TW, m_read_signal, F_read_signal.kp, FunD.bindsN (ps := ["word"]) F_read_signal (fun _ _ _ _ _ _ us hl => match us, hl with | [_], _ => rfl)⟩
  obtain ⟨fd_read_signals, F_read_signals⟩ := c.t.d.def_ 22 (d := mkD "read_signals" 46) rfl
  have m_read_signals := He.glo_ok X G (c.t.d.fact 44 (f := .glo "read_signals") rfl)
  have c_read_signals : Cal l.prog w K mg base "read_signals" ["word"] 1 (spZ K fun z => oSs (rdSigs z)) := ⟨_, _, ok_read_signals F_read_signals TW, m_read_signals, F_read_signals.kp, FunD.bindsN (ps := ["word"]) F_read_signals (fun _ _ _ _ _ _ us hl => match us, hl with | [_], _ => rfl)⟩
  obtain ⟨fd_lacks_rows, F_lacks_rows⟩ := c.t.d.def_ 29 (d := mkD "lacks_rows" 55) rfl
  have m_lacks_rows := He.glo_ok X G (c.t.d.fact 51 (f := .glo "lacks_rows") rfl)
  have c_lacks_rows : Cal l.prog w K mg base "lacks_rows" ["programs"] 1 (spLacks K) := ⟨_, _, ok_lacks_rows F_lacks_rows TW, m_lacks_rows, F_lacks_rows.kp, FunD.bindsN (ps := ["programs"]) F_lacks_rows (fun _ _ _ _ _ _ us hl => match us, hl with | [_], _ => rfl)⟩
  obtain ⟨fd__law_hand, F__law_hand⟩ := c.t.d.def_ 34 (d := mkD "_law_hand" 61) rfl
  have m__law_hand := He.glo_ok X G (c.t.d.fact 56 (f := .glo "_law_hand") rfl)
  have c__law_hand : Cal l.prog w K mg base "_law_hand" ["_law_script"] 1 (spHand K) := ⟨_, _, ok__law_hand F__law_hand T, m__law_hand, F__law_hand.kp, FunD.bindsN (ps := ["_law_script"]) F__law_hand (fun _ _ _ _ _ _ us hl => match us, hl with | [_], _ => rfl)⟩
  obtain ⟨fd__law_pick, F__law_pick⟩ := c.t.d.def_ 35 (d := mkD "_law_pick" 62) rfl
  have m__law_pick := He.glo_ok X G (c.t.d.fact 57 (f := .glo "_law_pick") rfl)
  have c__law_pick : Cal l.prog w K mg base "_law_pick" ["_law_hand_here", "_law_many"] 1 spPick := ⟨_, _, ok__law_pick F__law_pick T, m__law_pick, F__law_pick.kp, FunD.bindsN (ps := ["_law_hand_here", "_law_many"]) F__law_pick (fun _ _ _ _ _ _ us hl => match us, hl with | [_, _], _ => rfl)⟩
  obtain ⟨fd__law_class, F__law_class⟩ := c.t.d.def_ 37 (d := mkD "_law_class" 64) rfl
  have m__law_class := He.glo_ok X G (c.t.d.fact 59 (f := .glo "_law_class") rfl)
  have c__law_class : Cal l.prog w K mg base "_law_class" ["_law_caught"] 1 (spClass K) := ⟨_, _, ok__law_class F__law_class TW M, m__law_class, F__law_class.kp, FunD.bindsN (ps := ["_law_caught"]) F__law_class (fun _ _ _ _ _ _ us hl => match us, hl with | [_], _ => rfl)⟩
  obtain ⟨fd_is_natural, F_is_natural⟩ := c.t.d.def_ 1 (d := mkD "is_natural" 15) rfl
  have m_is_natural := He.glo_ok X G (c.t.d.fact 23 (f := .glo "is_natural") rfl)
  have c_is_natural : Cal l.prog w K mg base "is_natural" ["thing"] 2 (spD K pNat) := ⟨_, _, ok_is_natural F_is_natural T c_is_whole, m_is_natural, F_is_natural.kp, FunD.bindsN (ps := ["thing"]) F_is_natural (fun _ _ _ _ _ _ us hl => match us, hl with | [_], _ => rfl)⟩
  obtain ⟨fd_is_small, F_is_small⟩ := c.t.d.def_ 2 (d := mkD "is_small" 16) rfl
  have m_is_small := He.glo_ok X G (c.t.d.fact 24 (f := .glo "is_small") rfl)
  have c_is_small : Cal l.prog w K mg base "is_small" ["thing"] 2 (spD K pSmall) := ⟨_, _, ok_is_small F_is_small T c_is_whole, m_is_small, F_is_small.kp, FunD.bindsN (ps := ["thing"]) F_is_small (fun _ _ _ _ _ _ us hl => match us, hl with | [_], _ => rfl)⟩
  obtain ⟨fd_is_signal, F_is_signal⟩ := c.t.d.def_ 4 (d := mkD "is_signal" 21) rfl
  have m_is_signal := He.glo_ok X G (c.t.d.fact 26 (f := .glo "is_signal") rfl)
  have c_is_signal : Cal l.prog w K mg base "is_signal" ["thing"] 2 (spD K fun d => pOne d sig9) := ⟨_, _, ok_is_signal F_is_signal T c_is_one_of, m_is_signal, F_is_signal.kp, FunD.bindsN (ps := ["thing"]) F_is_signal (fun _ _ _ _ _ _ us hl => match us, hl with | [_], _ => rfl)⟩
  obtain ⟨fd_is_signed_number, F_is_signed_number⟩ := c.t.d.def_ 16 (d := mkD "is_signed_number" 40) rfl
  have m_is_signed_number := He.glo_ok X G (c.t.d.fact 38 (f := .glo "is_signed_number") rfl)
  have c_is_signed_number : Cal l.prog w K mg base "is_signed_number" ["word"] 2 (spZB isSgn) := ⟨_, _, ok_is_signed_number F_is_signed_number TW c_is_number, m_is_signed_number, F_is_signed_number.kp, FunD.bindsN (ps := ["word"]) F_is_signed_number (fun _ _ _ _ _ _ us hl => match us, hl with | [_], _ => rfl)⟩
  obtain ⟨fd_read_number, F_read_number⟩ := c.t.d.def_ 17 (d := mkD "read_number" 41) rfl
  have m_read_number := He.glo_ok X G (c.t.d.fact 39 (f := .glo "read_number") rfl)
  have c_read_number : Cal l.prog w K mg base "read_number" ["word"] 2 (spZ K fun z => oI (rdNum z)) := ⟨_, _, ok_read_number F_read_number TW c_is_number, m_read_number, F_read_number.kp, FunD.bindsN (ps := ["word"]) F_read_number (fun _ _ _ _ _ _ us hl => match us, hl with | [_], _ => rfl)⟩
  obtain ⟨fd__law_of, F__law_of⟩ := c.t.d.def_ 36 (d := mkD "_law_of" 63) rfl
  have m__law_of := He.glo_ok X G (c.t.d.fact 58 (f := .glo "_law_of") rfl)
  have c__law_of : Cal l.prog w K mg base "_law_of" ["_law_hand_here", "_law_some"] 2 (spOf K) := ⟨_, _, ok__law_of F__law_of T c__law_pick, m__law_of, F__law_of.kp, FunD.bindsN (ps := ["_law_hand_here", "_law_some"]) F__law_of (fun _ _ _ _ _ _ us hl => match us, hl with | [_, _], _ => rfl)⟩
  obtain ⟨fd_is_loose, F_is_loose⟩ := c.t.d.def_ 5 (d := mkD "is_loose" 22) rfl
  have m_is_loose := He.glo_ok X G (c.t.d.fact 27 (f := .glo "is_loose") rfl)
  have c_is_loose : Cal l.prog w K mg base "is_loose" ["thing"] 3 (spD K pLoose) := ⟨_, _, ok_is_loose F_is_loose T c_is_signal, m_is_loose, F_is_loose.kp, FunD.bindsN (ps := ["thing"]) F_is_loose (fun _ _ _ _ _ _ us hl => match us, hl with | [_], _ => rfl)⟩
  obtain ⟨fd_is_row_number, F_is_row_number⟩ := c.t.d.def_ 8 (d := mkD "is_row_number" 28) rfl
  have m_is_row_number := He.glo_ok X G (c.t.d.fact 30 (f := .glo "is_row_number") rfl)
  have c_is_row_number : Cal l.prog w K mg base "is_row_number" ["thing", "size"] 3 (spDI K pRowNo) := ⟨_, _, ok_is_row_number F_is_row_number T c_is_natural, m_is_row_number, F_is_row_number.kp, FunD.bindsN (ps := ["thing", "size"]) F_is_row_number (fun _ _ _ _ _ _ us hl => match us, hl with | [_, _], _ => rfl)⟩
  obtain ⟨fd_is_child_part, F_is_child_part⟩ := c.t.d.def_ 10 (d := mkD "is_child_part" 30) rfl
  have m_is_child_part := He.glo_ok X G (c.t.d.fact 32 (f := .glo "is_child_part") rfl)
  have c_is_child_part : Cal l.prog w K mg base "is_child_part" ["kind", "part"] 3 (spChild K) := ⟨_, _, ok_is_child_part F_is_child_part T c_is_natural c_is_one_of, m_is_child_part, F_is_child_part.kp, FunD.bindsN (ps := ["kind", "part"]) F_is_child_part (fun _ _ _ _ _ _ us hl => match us, hl with | [_, _], _ => rfl)⟩
  obtain ⟨fd_read_whole, F_read_whole⟩ := c.t.d.def_ 18 (d := mkD "read_whole" 42) rfl
  have m_read_whole := He.glo_ok X G (c.t.d.fact 40 (f := .glo "read_whole") rfl)
  have c_read_whole : Cal l.prog w K mg base "read_whole" ["word"] 3 (spZ K fun z => oI (rdWhole z)) := ⟨_, _, ok_read_whole F_read_whole TW c_is_signed_number, m_read_whole, F_read_whole.kp, FunD.bindsN (ps := ["word"]) F_read_whole (fun _ _ _ _ _ _ us hl => match us, hl with | [_], _ => rfl)⟩
  obtain ⟨fd_read_choice, F_read_choice⟩ := c.t.d.def_ 23 (d := mkD "read_choice" 47) rfl
  have m_read_choice := He.glo_ok X G (c.t.d.fact 45 (f := .glo "read_choice") rfl)
  have c_read_choice : Cal l.prog w K mg base "read_choice" ["kind", "word"] 3 (spKZ K (fun k => (choices.lookup k).isSome = true) rdWord) := ⟨_, _, ok_read_choice F_read_choice TW c_read_number, m_read_choice, F_read_choice.kp, FunD.bindsN (ps := ["kind", "word"]) F_read_choice (fun _ _ _ _ _ _ us hl => match us, hl with | [_, _], _ => rfl)⟩
  obtain ⟨fd_read_wait, F_read_wait⟩ := c.t.d.def_ 26 (d := mkD "read_wait" 52) rfl
  have m_read_wait := He.glo_ok X G (c.t.d.fact 48 (f := .glo "read_wait") rfl)
  have c_read_wait : Cal l.prog w K mg base "read_wait" ["words"] 3 (spRd K (fun _ => True) rdWait) := ⟨_, _, ok_read_wait F_read_wait TW c_read_number, m_read_wait, F_read_wait.kp, FunD.bindsN (ps := ["words"]) F_read_wait (fun _ _ _ _ _ _ us hl => match us, hl with | [_], _ => rfl)⟩
  obtain ⟨fd__law_great, F__law_great⟩ := c.t.d.def_ 39 (d := mkD "_law_great" 66) rfl
  have m__law_great := He.glo_ok X G (c.t.d.fact 61 (f := .glo "_law_great") rfl)
  have c__law_great : Cal l.prog w K mg base "_law_great" ["_law_hand_here"] 3 spGreat := ⟨_, _, ok__law_great F__law_great TW c__law_pick c__law_of, m__law_great, F__law_great.kp, FunD.bindsN (ps := ["_law_hand_here"]) F__law_great (fun _ _ _ _ _ _ us hl => match us, hl with | [_], _ => rfl)⟩
  obtain ⟨fd__law_lines, F__law_lines⟩ := c.t.d.def_ 40 (d := mkD "_law_lines" 67) rfl
  have m__law_lines := He.glo_ok X G (c.t.d.fact 62 (f := .glo "_law_lines") rfl)
  have c__law_lines : Cal l.prog w K mg base "_law_lines" ["_law_hand_here"] 3 (spLines K) := ⟨_, _, ok__law_lines F__law_lines TW c__law_pick c__law_of, m__law_lines, F__law_lines.kp, FunD.bindsN (ps := ["_law_hand_here"]) F__law_lines (fun _ _ _ _ _ _ us hl => match us, hl with | [_], _ => rfl)⟩
  obtain ⟨fd_are_loose, F_are_loose⟩ := c.t.d.def_ 6 (d := mkD "are_loose" 23) rfl
  have m_are_loose := He.glo_ok X G (c.t.d.fact 28 (f := .glo "are_loose") rfl)
  have c_are_loose : Cal l.prog w K mg base "are_loose" ["thing"] 4 (spD K pAre) := ⟨_, _, ok_are_loose F_are_loose T c_is_loose, m_are_loose, F_are_loose.kp, FunD.bindsN (ps := ["thing"]) F_are_loose (fun _ _ _ _ _ _ us hl => match us, hl with | [_], _ => rfl)⟩
  obtain ⟨fd_is_handler, F_is_handler⟩ := c.t.d.def_ 9 (d := mkD "is_handler" 29) rfl
  have m_is_handler := He.glo_ok X G (c.t.d.fact 31 (f := .glo "is_handler") rfl)
  have c_is_handler : Cal l.prog w K mg base "is_handler" ["thing", "size"] 5 (spDI K pHandler) := ⟨_, _, ok_is_handler F_is_handler T c_is_row_number c_are_loose, m_is_handler, F_is_handler.kp, FunD.bindsN (ps := ["thing", "size"]) F_is_handler (fun _ _ _ _ _ _ us hl => match us, hl with | [_, _], _ => rfl)⟩
  obtain ⟨fd_is_part, F_is_part⟩ := c.t.d.def_ 11 (d := mkD "is_part" 31) rfl
  have m_is_part := He.glo_ok X G (c.t.d.fact 33 (f := .glo "is_part") rfl)
  have c_is_part : Cal l.prog w K mg base "is_part" ["kind", "part", "size"] 6 (spPart K) := ⟨_, _, ok_is_part F_is_part T c_is_title c_is_small c_is_whole c_is_row_number c_is_signal c_is_loose c_are_loose c_is_one_of c_is_handler c_is_child_part, m_is_part, F_is_part.kp, FunD.bindsN (ps := ["kind", "part", "size"]) F_is_part (fun _ _ _ _ _ _ us hl => match us, hl with | [_, _, _], _ => rfl)⟩
  obtain ⟨fd_is_row, F_is_row⟩ := c.t.d.def_ 12 (d := mkD "is_row" 32) rfl
  have m_is_row := He.glo_ok X G (c.t.d.fact 34 (f := .glo "is_row") rfl)
  have c_is_row : Cal l.prog w K mg base "is_row" ["thing", "size"] 7 (spRow K pRow) := ⟨_, _, ok_is_row F_is_row T c_is_part, m_is_row, F_is_row.kp, FunD.bindsN (ps := ["thing", "size"]) F_is_row (fun _ _ _ _ _ _ us hl => match us, hl with | [_, _], _ => rfl)⟩
  obtain ⟨fd_is_program, F_is_program⟩ := c.t.d.def_ 13 (d := mkD "is_program" 33) rfl
  have m_is_program := He.glo_ok X G (c.t.d.fact 35 (f := .glo "is_program") rfl)
  have c_is_program : Cal l.prog w K mg base "is_program" ["thing"] 8 (spDL K pProg) := ⟨_, _, ok_is_program F_is_program T c_is_title c_is_row, m_is_program, F_is_program.kp, FunD.bindsN (ps := ["thing"]) F_is_program (fun _ _ _ _ _ _ us hl => match us, hl with | [_], _ => rfl)⟩
  obtain ⟨fd_is_book, F_is_book⟩ := c.t.d.def_ 14 (d := mkD "is_book" 34) rfl
  have m_is_book := He.glo_ok X G (c.t.d.fact 36 (f := .glo "is_book") rfl)
  have c_is_book : Cal l.prog w K mg base "is_book" ["thing"] 9 (spBook K pBook) := ⟨_, _, ok_is_book F_is_book T c_is_program, m_is_book, F_is_book.kp, FunD.bindsN (ps := ["thing"]) F_is_book (fun _ _ _ _ _ _ us hl => match us, hl with | [_], _ => rfl)⟩
  obtain ⟨fd_read_word, F_read_word⟩ := c.t.d.def_ 24 (d := mkD "read_word" 49) rfl
  have m_read_word := He.glo_ok X G (c.t.d.fact 46 (f := .glo "read_word") rfl)
  have c_read_word : Cal l.prog w K mg base "read_word" ["kind", "word"] 10 (spKZ K (fun k => k ∈ kinds8) rdWord) := ⟨_, _, ok_read_word F_read_word TW c_read_choice c_read_letters c_read_number c_read_whole c_read_signal c_read_signals, m_read_word, F_read_word.kp, FunD.bindsN (ps := ["kind", "word"]) F_read_word (fun _ _ _ _ _ _ us hl => match us, hl with | [_, _], _ => rfl)⟩
  obtain ⟨fd_read_words, F_read_words⟩ := c.t.d.def_ 25 (d := mkD "read_words" 50) rfl
  have m_read_words := He.glo_ok X G (c.t.d.fact 47 (f := .glo "read_words") rfl)
  have c_read_words : Cal l.prog w K mg base "read_words" ["kinds", "words"] 11 (spWs K) := ⟨_, _, ok_read_words F_read_words TW c_read_word, m_read_words, F_read_words.kp, FunD.bindsN (ps := ["kinds", "words"]) F_read_words (fun _ _ _ _ _ _ us hl => match us, hl with | [_, _], _ => rfl)⟩
  obtain ⟨fd_read_handle, F_read_handle⟩ := c.t.d.def_ 27 (d := mkD "read_handle" 53) rfl
  have m_read_handle := He.glo_ok X G (c.t.d.fact 49 (f := .glo "read_handle") rfl)
  have c_read_handle : Cal l.prog w K mg base "read_handle" ["words"] 12 (spRd K (fun _ => True) rdHandle) := ⟨_, _, ok_read_handle F_read_handle TW c_read_words, m_read_handle, F_read_handle.kp, FunD.bindsN (ps := ["words"]) F_read_handle (fun _ _ _ _ _ _ us hl => match us, hl with | [_], _ => rfl)⟩
  obtain ⟨fd_add_program, F_add_program⟩ := c.t.d.def_ 30 (d := mkD "add_program" 56) rfl
  have m_add_program := He.glo_ok X G (c.t.d.fact 52 (f := .glo "add_program") rfl)
  have c_add_program : CalX l.prog w K mg base "add_program" ["programs", "words", "at"] 12 (spAddP K) := ⟨_, _, ok_add_program F_add_program TW Z c_read_words c_lacks_rows, m_add_program, F_add_program.kp, FunD.bindsN (ps := ["programs", "words", "at"]) F_add_program (fun _ _ _ _ _ _ us hl => match us, hl with | [_, _, _], _ => rfl)⟩
  obtain ⟨fd_read_row, F_read_row⟩ := c.t.d.def_ 28 (d := mkD "read_row" 54) rfl
  have m_read_row := He.glo_ok X G (c.t.d.fact 50 (f := .glo "read_row") rfl)
  have c_read_row : Cal l.prog w K mg base "read_row" ["words"] 13 (spRd K (fun ws => ws ≠ []) rdRow) := ⟨_, _, ok_read_row F_read_row TW c_read_wait c_read_handle c_read_words, m_read_row, F_read_row.kp, FunD.bindsN (ps := ["words"]) F_read_row (fun _ _ _ _ _ _ us hl => match us, hl with | [_], _ => rfl)⟩
  obtain ⟨fd_add_row, F_add_row⟩ := c.t.d.def_ 31 (d := mkD "add_row" 57) rfl
  have m_add_row := He.glo_ok X G (c.t.d.fact 53 (f := .glo "add_row") rfl)
  have c_add_row : CalX l.prog w K mg base "add_row" ["programs", "words", "at"] 14 (spAddR K) := ⟨_, _, ok_add_row F_add_row TW Z c_read_row, m_add_row, F_add_row.kp, FunD.bindsN (ps := ["programs", "words", "at"]) F_add_row (fun _ _ _ _ _ _ us hl => match us, hl with | [_, _, _], _ => rfl)⟩
  obtain ⟨fd_read_programs, F_read_programs⟩ := c.t.d.def_ 32 (d := mkD "read_programs" 58) rfl
  have m_read_programs := He.glo_ok X G (c.t.d.fact 54 (f := .glo "read_programs") rfl)
  have c_read_programs : CalX l.prog w K mg base "read_programs" ["lines"] 15 (spRp K) := ⟨_, _, ok_read_programs F_read_programs TW Z c_add_program c_add_row c_lacks_rows, m_read_programs, F_read_programs.kp, FunD.bindsN (ps := ["lines"]) F_read_programs (fun _ _ _ _ _ _ us hl => match us, hl with | [_], _ => rfl)⟩
  obtain ⟨fd_read_book, F_read_book⟩ := c.t.d.def_ 33 (d := mkD "read_book" 59) rfl
  have m_read_book := He.glo_ok X G (c.t.d.fact 55 (f := .glo "read_book") rfl)
  have c_read_book : CalX l.prog w K mg base "read_book" ["text"] 16 (spRb K) := ⟨_, _, ok_read_book F_read_book TW Z c_read_programs c_is_book, m_read_book, F_read_book.kp, FunD.bindsN (ps := ["text"]) F_read_book (fun _ _ _ _ _ _ us hl => match us, hl with | [_], _ => rfl)⟩
  obtain ⟨fd__law_told, F__law_told⟩ := c.t.d.def_ 38 (d := mkD "_law_told" 65) rfl
  have m__law_told := He.glo_ok X G (c.t.d.fact 60 (f := .glo "_law_told") rfl)
  have c__law_told : Cal l.prog w K mg base "_law_told" ["_law_text"] 17 (spTold K) := ⟨_, _, ok__law_told F__law_told TW M c_read_book c__law_class, m__law_told, F__law_told.kp, FunD.bindsN (ps := ["_law_text"]) F__law_told (fun _ _ _ _ _ _ us hl => match us, hl with | [_], _ => rfl)⟩
  exact ok_law F_law TW c__law_hand c__law_pick c__law_lines c__law_great c__law_told
end Kin
open PySem PySem.W PySem.Calls PyProof.Rows
set_option maxRecDepth 100000 in
set_option maxHeartbeats 0 in
theorem PySem.Challenge.cw_kinsignals_k86_numbers_of_many_figures_holds : PySem.Challenge.rw_kinsignals_k86_numbers_of_many_figures.Holds := by
  w_on; o_law
  refine HandSHeadRun.head_any (r := OpenLaw.row PySem.Challenge.rw_kinsignals_k86_numbers_of_many_figures) (q := view (OpenLaw.row PySem.Challenge.rw_kinsignals_k86_numbers_of_many_figures).prog [68]) (H := Kin.hk) (ob := Kin.ob) (M := 6000) (loose := Kin.loose) (d := HandSHeadRun.topDef (OpenLaw.row PySem.Challenge.rw_kinsignals_k86_numbers_of_many_figures).prog 68) (kwd := []) Kin.ob_eq
    (by kernel_rfl) (fun s => by kernel_rfl) Kin.run (by kernel_rfl) (by kernel_rfl) (by kernel_rfl) (by rfl) (by first | assumption | decide +kernel) (by decide +kernel) ⟨rfl, rfl, rfl, rfl, rfl, by decide +kernel⟩ ?hw ?hc
  case hw => w_witness2
  case hc =>
    refine L2.walk_ofE (l := PySem.Challenge.rw_kinsignals_k86_numbers_of_many_figures) (n := 63) (k := 18) (x := "_law_script") (CX := L2.CX0) rfl (by decide) (by kernel_rfl) ⟨rfl, by decide, by decide⟩ ?F (fun _ _ _ _ z => z)
    intro w mg fl h Y G hmg0
    obtain ⟨K, KX, c⟩ := Y
    have hmg : mg ("law" : PySem.Str) = some (.ref fl) := by
      have e : (HandSHeadRun.topDef (OpenLaw.row PySem.Challenge.rw_kinsignals_k86_numbers_of_many_figures).prog 68).name = ("law" : PySem.Str) := by kernel_rfl
      rw [← e]
      exact hmg0
    obtain ⟨fd, hb, hF⟩ := Kin.facts (l := PySem.Challenge.rw_kinsignals_k86_numbers_of_many_figures) (w := w) KX G hmg c
    exact ⟨K, fd, Kin.spLaw K, KX, hb, fun H a ns hl _ hS => ⟨a, ns, rfl, hS, hl, fun _ => rfl⟩, hF⟩
