import PyProof.Rows.All
import Wide.All
import OpenK.AllK
import Wide.FinOn
import KE.GoesMore
import HandS.ForMost
import HandS.IsInst
import HandS.TupAny
import HandS.Zip
import HandS.Strs
import HandS.Style
import HandS.Walk
import HandS.Defaults
import KE.GoesEnum
import PyProof.DictUpdate
import PyProof.EnumMake
import HandS.HeadHook4
import HandS.Evl
import KE.KStateDown
import HandS.Head0
import HandS.Head1
import HandS.Head2
import HandS.HeadEnd
import PySem.Challenge.RW_kinsignals_k01_rows_of_every_word
set_option Elab.async false
set_option linter.all false
set_option maxRecDepth 100000
set_option maxHeartbeats 4000000
/-! What the program's looks tell, and what the law's own looks tell, as plain functions over data; that they tell the same. -/
namespace Kin
open PySem
def sig9 : List Str := ["kill", "halt", "on", "hang", "quit", "call", "kin", "rest", "reads"]
def sig7 : List Str := ["on", "hang", "quit", "call", "kin", "rest", "reads"]
def sure : List Str := ["kill", "halt"]
/-! ### the program's looks -/
def pWhole : PyData → Bool
  | .int _ => true
  | _ => false
def pNat : PyData → Bool
  | .int i => decide (0 ≤ i)
  | _ => false
def pSmall : PyData → Bool
  | .int i => decide (0 ≤ i) && decide (i ≤ 99)
  | _ => false
def pOne (d : PyData) (ws : List Str) : Bool := match d with
  | .str z => decide (z ∈ ws)
  | _ => false
def pLoose : PyData → Bool
  | .str z => decide (z ∈ sig9) && !decide (z ∈ sure)
  | _ => false
def pLoop : Nat → List PyData → Bool
  | _, [] => true
  | least, .str z :: r => if pLoose (.str z) then (if sig9.idxOf z < least then false else pLoop (sig9.idxOf z + 1) r) else false
  | _, _ :: _ => false
def pAre : PyData → Bool
  | .tuple ds => pLoop 0 ds
  | _ => false
def azAll (z : Str) : Bool := z.cps.toList.all fun c => decide (97 ≤ c) && decide (c ≤ 122)
def pTitle : PyData → Bool
  | .str z => decide (1 ≤ z.length) && decide (z.length ≤ 8) && azAll z
  | _ => false
def pRowNo (d : PyData) (n : Int) : Bool := match d with
  | .int i => decide (0 ≤ i) && decide (i < n)
  | _ => false
def pHandler (d : PyData) (n : Int) : Bool := match d with
  | .tuple [a, b] => pRowNo a n && pAre b
  | _ => false
def isNone : PyData → Bool
  | .none => true
  | _ => false
def isBool : PyData → Bool
  | .bool _ => true
  | _ => false
def pChild (kind : Str) (d : PyData) : Bool :=
  if pNat d = true then true else if kind = "which" then isNone d else if kind = "who" then pOne d ["self"] else pOne d ["self", "parent", "group"]
def pPart (kind : Str) (d : PyData) (n : Int) : Bool :=
  if kind = "title" then pTitle d else if kind = "small" then pSmall d else if kind = "whole" then pWhole d else if kind = "truth" then isBool d else
  if kind = "row" then pRowNo d n else if kind = "signal" then pOne d sig9 else if kind = "loose" then pLoose d else if kind = "signals" then pAre d else
  if kind = "how" then (pOne d ["plain", "ignore"] || pHandler d n) else if kind = "where" then pOne d ["new", "mine"] else pChild kind d
def forms : List (Str × List Str) := [("fork", []), ("exec", ["title"]), ("end", ["small"]), ("wait", ["which", "truth"]), ("pause", []), ("read", []), ("send", ["signal", "to"]), ("mask", ["signals"]), ("unmask", ["signals"]),
  ("handle", ["loose", "how"]), ("return", []), ("session", []), ("group", ["who", "where"]), ("front", ["who"]), ("taker", []), ("say", ["small"]), ("goto", ["row"]), ("if", ["whole", "row"])]
def pParts (n : Int) : List Str → List PyData → Bool
  | k :: ks, d :: ds => pPart k d n && pParts n ks ds
  | _, _ => true
def pRow (d : PyData) (n : Int) : Bool := match d with
  | .tuple (.str w :: ps) => (match forms.lookup w with
    | some ks => decide (ps.length = ks.length) && pParts n ks ps
    | none => false)
  | _ => false
/-! ### the law's looks -/
def lWhole (d : PyData) (lo hi : Int) : Bool := match d with
  | .int i => decide (lo ≤ i) && decide (i < hi)
  | _ => false
def lAll7 : List PyData → Bool
  | [] => true
  | d :: r => pOne d sig7 && lAll7 r
def ix7 : PyData → Nat
  | .str z => sig7.idxOf z
  | _ => 7
def lUp : List Nat → Bool
  | a :: b :: r => decide (a < b) && lUp (b :: r)
  | _ => true
def lAre : PyData → Bool
  | .tuple ds => lAll7 ds && lUp (ds.map ix7)
  | _ => false
def great : Int := 1000000000000
def lTitle : PyData → Bool
  | .str z => decide (0 < z.length) && decide (z.length < 9) && azAll z
  | _ => false
def lHandler (d : PyData) (n : Int) : Bool := match d with
  | .tuple [a, b] => lWhole a 0 n && lAre b
  | _ => false
def isTup : PyData → Bool
  | .tuple _ => true
  | _ => false
def lPart (w : Str) (at_ : Nat) (d : PyData) (n : Int) : Bool :=
  if w = "exec" then lTitle d else if w ∈ (["end", "say"] : List Str) then lWhole d 0 100 else
  if w = "wait" then (if at_ = 1 then isBool d else isNone d || lWhole d 0 great) else
  if w = "send" then (if at_ = 0 then pOne d (sure ++ sig7) else lWhole d 0 great || pOne d ["self", "parent", "group"]) else
  if w ∈ (["mask", "unmask"] : List Str) then lAre d else
  if w = "handle" ∧ at_ = 0 then pOne d sig7 else
  if w = "handle" then (if isTup d = true then lHandler d n else pOne d ["plain", "ignore"]) else
  if w ∈ (["group", "front"] : List Str) ∧ at_ = 0 then (lWhole d 0 great || pOne d ["self"]) else
  if w = "group" then pOne d ["new", "mine"] else
  if w = "if" ∧ at_ = 0 then lWhole d (0 - great) great else lWhole d 0 n
def many : List (Str × Int) := [("exec", 1), ("end", 1), ("wait", 2), ("send", 2), ("mask", 1), ("unmask", 1), ("handle", 2), ("group", 2), ("front", 1),
  ("say", 1), ("goto", 1), ("if", 2), ("fork", 0), ("pause", 0), ("read", 0), ("return", 0), ("session", 0), ("taker", 0)]
def lParts (w : Str) (n : Int) : Nat → List PyData → Bool
  | _, [] => true
  | i, d :: ds => lPart w i d n && lParts w n (i + 1) ds
def lRow (d : PyData) (n : Int) : Bool := match d with
  | .tuple (.str w :: ps) => (match many.lookup w with
    | some m => decide ((ps.length : Int) + 1 = 1 + m) && lParts w n 0 ps
    | none => false)
  | _ => false
/-! ### they tell the same -/
def bnd : PyData → Bool
  | .int i => decide (0 - great ≤ i) && decide (i < great)
  | _ => true
def bndAll : PyData → Bool
  | .tuple ps => ps.all bnd
  | _ => true
theorem loose_sig7 (z : Str) : (decide (z ∈ sig9) && !decide (z ∈ sure)) = decide (z ∈ sig7) := by
  by_cases h : z ∈ sig9
  · have hz : z = "kill" ∨ z = "halt" ∨ z = "on" ∨ z = "hang" ∨ z = "quit" ∨ z = "call" ∨ z = "kin" ∨ z = "rest" ∨ z = "reads" := by
      simpa [sig9] using h
    rcases hz with rfl | rfl | rfl | rfl | rfl | rfl | rfl | rfl | rfl <;> decide +kernel
  · have h7 : ¬ z ∈ sig7 := fun q => h (by
      have hz : z = "on" ∨ z = "hang" ∨ z = "quit" ∨ z = "call" ∨ z = "kin" ∨ z = "rest" ∨ z = "reads" := by simpa [sig7] using q
      rcases hz with rfl | rfl | rfl | rfl | rfl | rfl | rfl <;> decide +kernel)
    simp [h, h7]
theorem pLoose_eq (d : PyData) : pLoose d = pOne d sig7 := by
  cases d <;> first | rfl | exact loose_sig7 _
theorem idx_shift {z : Str} (h : z ∈ sig7) : sig9.idxOf z = sig7.idxOf z + 2 := by
  have hz : z = "on" ∨ z = "hang" ∨ z = "quit" ∨ z = "call" ∨ z = "kin" ∨ z = "rest" ∨ z = "reads" := by simpa [sig7] using h
  rcases hz with rfl | rfl | rfl | rfl | rfl | rfl | rfl <;> decide +kernel
theorem pLoop_nil (k : Nat) : pLoop k [] = true := by unfold pLoop; rfl
theorem pLoop_str (k : Nat) (z : Str) (r : List PyData) : pLoop k (.str z :: r) = if pLoose (.str z) = true then (if sig9.idxOf z < k then false else pLoop (sig9.idxOf z + 1) r) else false := by
  conv => lhs; unfold pLoop
theorem pLoop_eq : ∀ (ds : List PyData) (k : Nat), pLoop k ds = (lAll7 ds && lUp (ds.map ix7) && (match ds with | [] => true | d :: _ => decide (k ≤ ix7 d + 2)))
  | [], k => by rw [pLoop_nil]; rfl
  | d :: r, k => by
    cases d with
    | str z =>
      rw [pLoop_str, pLoose_eq]
      show (if decide (z ∈ sig7) = true then _ else false) = ((decide (z ∈ sig7) && lAll7 r) && lUp (sig7.idxOf z :: r.map ix7) && decide (k ≤ sig7.idxOf z + 2))
      by_cases h : z ∈ sig7
      · rw [if_pos (decide_eq_true h), idx_shift h, pLoop_eq r, decide_eq_true h, Bool.true_and]
        cases r with
        | nil =>
          by_cases hk : sig7.idxOf z + 2 < k
          · rw [if_pos hk]
            have : ¬ k ≤ sig7.idxOf z + 2 := by omega
            simp [this]
          · rw [if_neg hk]
            have : k ≤ sig7.idxOf z + 2 := by omega
            simp [this, lAll7, lUp]
        | cons d2 r2 =>
          show _ = (lAll7 (d2 :: r2) && lUp (sig7.idxOf z :: ix7 d2 :: r2.map ix7) && _)
          have e : lUp (sig7.idxOf z :: ix7 d2 :: r2.map ix7) = (decide (sig7.idxOf z < ix7 d2) && lUp (ix7 d2 :: r2.map ix7)) := by
            conv => lhs; unfold lUp
          rw [e]
          show (if _ then false else (lAll7 (d2 :: r2) && lUp (ix7 d2 :: r2.map ix7) && decide (sig7.idxOf z + 2 + 1 ≤ ix7 d2 + 2))) = _
          by_cases hk : sig7.idxOf z + 2 < k
          · rw [if_pos hk]
            have : ¬ k ≤ sig7.idxOf z + 2 := by omega
            simp [this]
          · rw [if_neg hk]
            have h1 : k ≤ sig7.idxOf z + 2 := by omega
            have h2 : decide (sig7.idxOf z + 2 + 1 ≤ ix7 d2 + 2) = decide (sig7.idxOf z < ix7 d2) := by
              by_cases q : sig7.idxOf z < ix7 d2
              · rw [decide_eq_true q, decide_eq_true (by omega)]
              · rw [decide_eq_false q, decide_eq_false (by omega)]
            rw [h2, decide_eq_true h1, Bool.and_true]
            cases lAll7 (d2 :: r2) <;> cases lUp (ix7 d2 :: r2.map ix7) <;> cases decide (sig7.idxOf z < ix7 d2) <;> rfl
      · rw [if_neg (by simpa using h), decide_eq_false h]
        rfl
    | none => rfl
    | bool b => rfl
    | int i => rfl
    | list x => rfl
    | tuple x => rfl
    | dict x => rfl
theorem are_eq (d : PyData) : pAre d = lAre d := by
  cases d with
  | tuple ds =>
    show pLoop 0 ds = (lAll7 ds && lUp (ds.map ix7))
    rw [pLoop_eq]
    cases ds with
    | nil => rfl
    | cons a r =>
      show (_ && decide (0 ≤ ix7 a + 2)) = _
      rw [decide_eq_true (Nat.zero_le _), Bool.and_true]
  | none => rfl
  | bool b => rfl
  | int i => rfl
  | list x => rfl
  | str x => rfl
  | dict x => rfl
theorem title_eq (d : PyData) : pTitle d = lTitle d := by
  cases d with
  | str z =>
    show (decide (1 ≤ z.length) && decide (z.length ≤ 8) && azAll z) = (decide (0 < z.length) && decide (z.length < 9) && azAll z)
    rw [show decide (z.length ≤ 8) = decide (z.length < 9) by
      by_cases h : z.length ≤ 8
      · rw [decide_eq_true h, decide_eq_true (by omega)]
      · rw [decide_eq_false h, decide_eq_false (by omega)]]
    rfl
  | _ => rfl
theorem rowno_eq (d : PyData) (n : Int) : pRowNo d n = lWhole d 0 n := by cases d <;> rfl
theorem small_eq (d : PyData) : pSmall d = lWhole d 0 100 := by
  cases d with
  | int i =>
    show (decide (0 ≤ i) && decide (i ≤ 99)) = (decide (0 ≤ i) && decide (i < 100))
    rw [show decide (i ≤ 99) = decide (i < 100) by
      by_cases h : i ≤ 99
      · rw [decide_eq_true h, decide_eq_true (by omega)]
      · rw [decide_eq_false h, decide_eq_false (by omega)]]
  | _ => rfl
theorem nat_eq {d : PyData} (h : bnd d = true) : pNat d = lWhole d 0 great := by
  cases d with
  | int i =>
    have h2 : i < great := by
      have := h
      simp only [bnd, Bool.and_eq_true, decide_eq_true_eq] at this
      exact this.2
    show decide (0 ≤ i) = (decide (0 ≤ i) && decide (i < great))
    rw [decide_eq_true h2, Bool.and_true]
  | _ => rfl
theorem whole_eq {d : PyData} (h : bnd d = true) : pWhole d = lWhole d (0 - great) great := by
  cases d with
  | int i =>
    show true = (decide (0 - great ≤ i) && decide (i < great))
    exact h.symm
  | _ => rfl
theorem handler_eq (d : PyData) (n : Int) : pHandler d n = lHandler d n := by
  cases d with
  | tuple ds =>
    match ds with
    | [] => rfl
    | [_] => rfl
    | [a, b] =>
      show (pRowNo a n && pAre b) = (lWhole a 0 n && lAre b)
      rw [rowno_eq, are_eq]
    | _ :: _ :: _ :: _ => rfl
  | _ => rfl
theorem how_eq (d : PyData) (n : Int) : (pOne d ["plain", "ignore"] || pHandler d n) = (if isTup d = true then lHandler d n else pOne d ["plain", "ignore"]) := by
  cases d with
  | tuple ds =>
    rw [handler_eq]
    rfl
  | str z =>
    show (pOne (.str z) ["plain", "ignore"] || false) = _
    rw [Bool.or_false]
    rfl
  | _ => rfl
theorem parts1 {n : Int} {k w : Str} {ps : List PyData} (h : ∀ d, bnd d = true → pPart k d n = lPart w 0 d n) (hb : ps.all bnd = true) (hl : ps.length = 1) : pParts n [k] ps = lParts w n 0 ps := by
  match ps, hl with
  | [a], _ =>
    have ha : bnd a = true := by simpa using hb
    show (pPart k a n && true) = (lPart w 0 a n && true)
    rw [h a ha]
theorem parts2 {n : Int} {k k2 w : Str} {ps : List PyData} (h : ∀ d, bnd d = true → pPart k d n = lPart w 0 d n) (h2 : ∀ d, bnd d = true → pPart k2 d n = lPart w 1 d n) (hb : ps.all bnd = true) (hl : ps.length = 2) : pParts n [k, k2] ps = lParts w n 0 ps := by
  match ps, hl with
  | [a, b], _ =>
    have hab : bnd a = true ∧ bnd b = true := by simpa using hb
    show (pPart k a n && (pPart k2 b n && true)) = (lPart w 0 a n && (lPart w 1 b n && true))
    rw [h a hab.1, h2 b hab.2]
theorem row_of {n : Int} {w : Str} {ks : List Str} {m : Nat} (hf : forms.lookup w = some ks) (hm : many.lookup w = some (m : Int)) (hk : ks.length = m) {ps : List PyData} (h : ps.length = m → pParts n ks ps = lParts w n 0 ps) :
    pRow (.tuple (.str w :: ps)) n = lRow (.tuple (.str w :: ps)) n := by
  show (match forms.lookup w with | some ks => decide (ps.length = ks.length) && pParts n ks ps | none => false) = (match many.lookup w with | some m => decide ((ps.length : Int) + 1 = 1 + m) && lParts w n 0 ps | none => false)
  rw [hf, hm]
  show (decide (ps.length = ks.length) && pParts n ks ps) = (decide ((ps.length : Int) + 1 = 1 + (m : Int)) && lParts w n 0 ps)
  by_cases hl : ps.length = m
  · rw [h hl, decide_eq_true (show ps.length = ks.length by omega), decide_eq_true (show (ps.length : Int) + 1 = 1 + (m : Int) by omega)]
  · rw [decide_eq_false (show ¬ ps.length = ks.length by omega), decide_eq_false (show ¬ (ps.length : Int) + 1 = 1 + (m : Int) by omega)]
    rfl
theorem lookup_none {α : Type} {z : Str} : ∀ {l : List (Str × α)}, ¬ z ∈ l.map (·.1) → l.lookup z = none
  | [], _ => rfl
  | (a, b) :: r, h => by
    have h1 : ¬ z = a := fun q => h (by simp [q])
    rw [List.lookup_cons]
    have : (z == a) = false := by simpa using h1
    rw [this]
    exact lookup_none fun q => h (by simp at q ⊢; exact .inr q)
def words18 : List Str := ["fork", "exec", "end", "wait", "pause", "read", "send", "mask", "unmask", "handle", "return", "session", "group", "front", "taker", "say", "goto", "if"]
theorem ite_t {α : Type} {c : Prop} [Decidable c] {a b : α} (h : decide c = true) : (if c then a else b) = a := if_pos (of_decide_eq_true h)
theorem ite_f {α : Type} {c : Prop} [Decidable c] {a b : α} (h : decide c = false) : (if c then a else b) = b := if_neg (of_decide_eq_false h)
theorem or_comm_b (a b : Bool) : (a || b) = (b || a) := by cases a <;> cases b <;> rfl
/-! ### texts and tuples that are not too long -/
mutual
def lenOk : PyData → Bool
  | .str z => decide (z.length ≤ 100000)
  | .list xs => decide (xs.length ≤ 100000) && lenAll xs
  | .tuple xs => decide (xs.length ≤ 100000) && lenAll xs
  | .none | .bool _ | .int _ | .dict _ => true
def lenAll : List PyData → Bool
  | [] => true
  | x :: xs => lenOk x && lenAll xs
end
end Kin
namespace Kin
open PySem
theorem lAll7_eq : ∀ ds : List PyData, lAll7 ds = ds.all fun d => pOne d sig7
  | [] => rfl
  | d :: r => by
    show (pOne d sig7 && lAll7 r) = _
    rw [lAll7_eq r]
    rfl
theorem lUp_all : ∀ l : List Nat, ((List.range (l.length - 1)).map fun i => decide (l[i]?.getD 0 < l[i + 1]?.getD 0)).all id = lUp l
  | [] => rfl
  | [_] => rfl
  | a :: b :: r => by
    have ih := lUp_all (b :: r)
    have e : lUp (a :: b :: r) = (decide (a < b) && lUp (b :: r)) := by
      conv => lhs; unfold lUp
    rw [e, ← ih]
    show ((List.range ((b :: r).length - 1 + 1)).map _).all id = _
    rw [List.range_succ_eq_map, List.map_cons, List.all_cons, List.map_map]
    rfl
theorem lParts_all (w : Str) (n : Int) : ∀ (ps : List PyData) (k : Nat), ((List.range ps.length).map fun i => (match ps[i]? with | some p => lPart w (k + i) p n | none => true)).all id = lParts w n k ps
  | [], _ => rfl
  | p :: ps, k => by
    rw [List.length_cons, List.range_succ_eq_map, List.map_cons, List.all_cons, List.map_map]
    have ih := lParts_all w n ps (k + 1)
    show (lPart w k p n && ((List.range ps.length).map fun i => (match ps[i]? with | some p => lPart w (k + (i + 1)) p n | none => true)).all id) = (lPart w k p n && lParts w n (k + 1) ps)
    rw [← ih]
    have e : (fun i => (match ps[i]? with | some p => lPart w (k + (i + 1)) p n | none => true)) = fun i => (match ps[i]? with | some p => lPart w (k + 1 + i) p n | none => true) := by
      funext i
      rw [show k + (i + 1) = k + 1 + i by omega]
    rw [e]
end Kin
/-! Own layer: a def as its caller sees it, data told as a whole, heaps. -/
namespace Kin
open PySem PySem.Spec PyProof.Rows L2

/-! ### a def as its caller sees it -/
structure Cal (P : Program) (w : World) (K : PySem.W.Frag) (mg : Str → Option Value) (base : Heap) (x : Str) (ps : List Str) (k : Nat) (sp : Sp) : Prop where
  ex : ∃ (f : Addr) (fd : FuncData), FnOk P w K mg base CX0 k f fd ps sp ∧ mg x = some (.ref f) ∧ PySem.W.keepIn K (.ref f) = true ∧ Binds K fd ps []
section
variable {X : Cx} {x : Str} {ps : List Str} {k : Nat} {sp : Sp} {e : Expr} {es : List Expr} {t : TA} {p pos : Pos}
theorem pe_cal (c : Cal X.prog X.w X.K X.mg X.base x ps k sp) (hr : Room k X.A) (hg : Gl X x) (hx : Passes CX0 X E0) (ha : PA X (e :: es) t) (hdb : (x == ("__debug__" : Str)) = false := by decide)
    (he : starEach (e :: es) X.env = (false, eval e X.env) :: starEach es X.env := by rfl) (hpl : (backTo pos (starEach es X.env)).any (·.1) = false := by rfl) :
    PE X (.Call (.Name x p) (e :: es) [] pos) (tCall sp [] E0 t) := by
  obtain ⟨f, fd, F, hm, hk, hb⟩ := c.ex
  exact pe_call F hr hg hm hk hb .nil hx ha hdb he hpl
theorem pe_cal0 (c : Cal X.prog X.w X.K X.mg X.base x ps k sp) (hr : Room k X.A) (hg : Gl X x) (hx : Passes CX0 X E0) (hdb : (x == ("__debug__" : Str)) = false := by decide) :
    PE X (.Call (.Name x p) [] [] pos) (tCall sp [] E0 tNil) := by
  obtain ⟨f, fd, F, hm, hk, hb⟩ := c.ex
  exact pe_call0 F hr hg hm hk hb .nil hx hdb
end

/-! ### heaps -/
theorem same_upd {H : Hp} {p : Addr} {o : HO} (h : H p = none) : Same H (upd H p o) := fun b x e => by
  rw [upd_ne (ne_of_none e h)]
  exact e
theorem Same.tup {K : PySem.W.Frag} {H H' : Hp} {a : Addr} {xs : List V} (e : Same H H') (h : SqT K H a xs) : SqT K H' a xs := by
  rcases h with (h | ⟨o, h⟩) | h
  · exact .inl (.inl (e _ _ h))
  · exact .inl (.inr ⟨o, e _ _ h⟩)
  · exact .inr h
theorem sqT_new {K : PySem.W.Frag} {H : Hp} {p : Addr} {xs : List V} : SqT K (upd H p (.tup xs)) p xs := .inl (.inl upd_same)
theorem sqL_new {K : PySem.W.Frag} {H : Hp} {p : Addr} {xs : List V} : SqL K (upd H p (.lst xs)) p xs := .inl (.inl upd_same)

/-! ### data -/
section
variable {K : PySem.W.Frag} {H H' : Hp}
mutual
theorem dp_mono (e : Same H H') : ∀ {d : PyData} {v : V}, Dp K H v d → Dp K H' v d
  | _, _, .non => .non
  | _, _, .bl b => .bl b
  | _, _, .int i => .int i
  | _, _, .str x => .str x
  | _, _, .lst h a => .lst (e.seq h) (dpA_mono e a)
  | _, _, .tup h a => .tup (Same.tup e h) (dpA_mono e a)
theorem dpA_mono (e : Same H H') : ∀ {ds : List PyData} {vs : List V}, DpAll K H vs ds → DpAll K H' vs ds
  | _, _, .nil => .nil
  | _, _, .cons h t => .cons (dp_mono e h) (dpA_mono e t)
end
theorem dpA_len : ∀ {ds : List PyData} {vs : List V}, DpAll K H vs ds → vs.length = ds.length
  | _, _, .nil => rfl
  | _, _, .cons _ t => by rw [List.length_cons, List.length_cons, dpA_len t]
theorem dpA_get : ∀ {ds : List PyData} {vs : List V} {i : Nat} {v : V}, DpAll K H vs ds → vs[i]? = some v → ∃ d, ds[i]? = some d ∧ Dp K H v d
  | _, _, 0, _, .cons h _, e => ⟨_, rfl, by cases e; exact h⟩
  | _, _, i + 1, _, .cons _ t, e => by
    obtain ⟨d, h1, h2⟩ := dpA_get (i := i) t (by simpa using e)
    exact ⟨d, by simpa using h1, h2⟩
  | _, _, _, _, .nil, e => by simp at e
theorem dpA_app : ∀ {ds es : List PyData} {vs ws : List V}, DpAll K H vs ds → DpAll K H ws es → DpAll K H (vs ++ ws) (ds ++ es)
  | _, _, _, _, .nil, h => h
  | _, _, _, _, .cons h t, h' => .cons h (dpA_app t h')
theorem dpA_drop : ∀ {ds : List PyData} {vs : List V} (n : Nat), DpAll K H vs ds → DpAll K H (vs.drop n) (ds.drop n)
  | _, _, 0, h => h
  | _, _, n + 1, .nil => .nil
  | _, _, n + 1, .cons _ t => dpA_drop n t
theorem dpA_take : ∀ {ds : List PyData} {vs : List V} (n : Nat), DpAll K H vs ds → DpAll K H (vs.take n) (ds.take n)
  | _, _, 0, _ => .nil
  | _, _, n + 1, .nil => .nil
  | _, _, n + 1, .cons h t => .cons h (dpA_take n t)
theorem dpA_rev {ds : List PyData} {vs : List V} (h : DpAll K H vs ds) : DpAll K H vs.reverse ds.reverse := by
  induction vs generalizing ds with
  | nil =>
    cases h
    exact .nil
  | cons v r ih =>
    cases h with
    | cons h t =>
      rw [List.reverse_cons, List.reverse_cons]
      exact dpA_app (ih t) (.cons h .nil)
theorem dpA_strs (ws : List Str) : DpAll K H (ws.map V.str) (ws.map PyData.str) := by
  induction ws with
  | nil => exact .nil
  | cons w r ih => exact .cons (.str w) ih

/-- a datum's type, and what isinstance says of it -/
def tyD : PyData → String
  | .none => "NoneType"
  | .bool _ => "bool"
  | .int _ => "int"
  | .str _ => "str"
  | .list _ => "list"
  | .tuple _ => "tuple"
  | .dict _ => "dict"
theorem tyx_of {v : V} {d : PyData} (h : Dp K H v d) : TyX K H v (.type (tyD d)) := by
  cases h with
  | non => exact .base .non
  | bl b => exact .base (.bl b)
  | int i => exact .base (.int i)
  | str x => exact .base (.str x)
  | lst h a =>
    rcases h with (h | ⟨o, h⟩) | ⟨o, its, n, h, hc, _⟩
    · exact .base (.lst h)
    · exact .base (.frz h)
    · exact .kList h hc
  | tup h a =>
    rcases h with (h | ⟨o, h⟩) | ⟨o, its, n, h, hc, _⟩
    · exact .base (.tup h)
    · exact .fTuple h
    · exact .kTuple h hc
def isaInt : PyData → Bool
  | .int _ => true
  | .bool _ => true
  | _ => false
def isaBool : PyData → Bool
  | .bool _ => true
  | _ => false
def isaStr : PyData → Bool
  | .str _ => true
  | _ => false
def isaTup : PyData → Bool
  | .tuple _ => true
  | _ => false
def nodict : PyData → Bool
  | .dict _ => false
  | _ => true
theorem nd_of {v : V} {d : PyData} (h : Dp K H v d) : nodict d = true := by cases h <;> rfl
theorem kit_int : ∀ {d : PyData}, nodict d = true → PySem.W.kitOne K (.type (tyD d)) (.type "int") = some (isaInt d)
  | .none, _ => kit_ty (a := "NoneType") (r := false) (by decide +kernel)
  | .bool _, _ => kit_ty (a := "bool") (r := true) (by decide +kernel)
  | .int _, _ => kit_ty (a := "int") (r := true) (by decide +kernel)
  | .str _, _ => kit_ty (a := "str") (r := false) (by decide +kernel)
  | .list _, _ => kit_ty (a := "list") (r := false) (by decide +kernel)
  | .tuple _, _ => kit_ty (a := "tuple") (r := false) (by decide +kernel)
  | .dict _, h => by cases h
theorem kit_bool : ∀ {d : PyData}, nodict d = true → PySem.W.kitOne K (.type (tyD d)) (.type "bool") = some (isaBool d)
  | .none, _ => kit_ty (a := "NoneType") (r := false) (by decide +kernel)
  | .bool _, _ => kit_ty (a := "bool") (r := true) (by decide +kernel)
  | .int _, _ => kit_ty (a := "int") (r := false) (by decide +kernel)
  | .str _, _ => kit_ty (a := "str") (r := false) (by decide +kernel)
  | .list _, _ => kit_ty (a := "list") (r := false) (by decide +kernel)
  | .tuple _, _ => kit_ty (a := "tuple") (r := false) (by decide +kernel)
  | .dict _, h => by cases h
theorem kit_str : ∀ {d : PyData}, nodict d = true → PySem.W.kitOne K (.type (tyD d)) (.type "str") = some (isaStr d)
  | .none, _ => kit_ty (a := "NoneType") (r := false) (by decide +kernel)
  | .bool _, _ => kit_ty (a := "bool") (r := false) (by decide +kernel)
  | .int _, _ => kit_ty (a := "int") (r := false) (by decide +kernel)
  | .str _, _ => kit_ty (a := "str") (r := true) (by decide +kernel)
  | .list _, _ => kit_ty (a := "list") (r := false) (by decide +kernel)
  | .tuple _, _ => kit_ty (a := "tuple") (r := false) (by decide +kernel)
  | .dict _, h => by cases h
theorem kit_tup : ∀ {d : PyData}, nodict d = true → PySem.W.kitOne K (.type (tyD d)) (.type "tuple") = some (isaTup d)
  | .none, _ => kit_ty (a := "NoneType") (r := false) (by decide +kernel)
  | .bool _, _ => kit_ty (a := "bool") (r := false) (by decide +kernel)
  | .int _, _ => kit_ty (a := "int") (r := false) (by decide +kernel)
  | .str _, _ => kit_ty (a := "str") (r := false) (by decide +kernel)
  | .list _, _ => kit_ty (a := "list") (r := false) (by decide +kernel)
  | .tuple _, _ => kit_ty (a := "tuple") (r := true) (by decide +kernel)
  | .dict _, h => by cases h
end

/-! ### words in tables -/
theorem inV_strs (z : Str) (ws : List Str) : inV (.str z) (ws.map V.str) = decide (z ∈ ws) := by
  unfold inV
  induction ws with
  | nil => simp
  | cons w r ih =>
    rw [List.map_cons, List.any_cons, ih]
    show ((w == z) || decide (z ∈ r)) = decide (z ∈ w :: r)
    by_cases h : w = z
    · subst h
      simp
    · have h2 : ¬ z = w := fun q => h q.symm
      simp [h, h2]
theorem flat_strs (ws : List Str) : (ws.map V.str).all flatV = true := by
  induction ws with
  | nil => rfl
  | cons w r ih =>
    rw [List.map_cons, List.all_cons, ih]
    rfl
theorem in_k {H : Hp} {z : Str} {ws : List Str} {Q : VK} (q : Q (.bl (decide (z ∈ ws))) H) : Q (.bl (inV (.str z) (ws.map V.str))) H := by
  rw [inV_strs]
  exact q
theorem notin_k {H : Hp} {z : Str} {ws : List Str} {Q : VK} (q : Q (.bl (!decide (z ∈ ws))) H) : Q (.bl (!inV (.str z) (ws.map V.str))) H := by
  rw [inV_strs]
  exact q

theorem iteLen {n : Nat} {m : Int} {A B : Prop} (h1 : (n : Int) ≠ m → A) (h2 : (n : Int) = m → B) : if (!decide (V.int (n : Int) = V.int m)) = true then A else B := by
  by_cases h : (n : Int) = m
  · have e : (!decide (V.int (n : Int) = V.int m)) = false := by rw [h]; simp
    rw [e]
    exact iteF (h2 h)
  · have e : (!decide (V.int (n : Int) = V.int m)) = true := by
      have : ¬ V.int (n : Int) = V.int m := fun q => h (V.int.inj q)
      simp [this]
    rw [e]
    exact iteT (h1 h)
theorem iteLenE {n : Nat} {m : Int} {A B : Prop} (h1 : (n : Int) = m → A) (h2 : (n : Int) ≠ m → B) : if decide (V.int (n : Int) = V.int m) = true then A else B := by
  by_cases h : (n : Int) = m
  · have e : decide (V.int (n : Int) = V.int m) = true := by rw [h]; simp
    rw [e]
    exact iteT (h1 h)
  · have e : decide (V.int (n : Int) = V.int m) = false := by
      have : ¬ V.int (n : Int) = V.int m := fun q => h (V.int.inj q)
      simp [this]
    rw [e]
    exact iteF (h2 h)
theorem dec_int' {a b : Int} : decide (V.int a = V.int b) = decide (a = b) := by
  by_cases h : a = b
  · subst h
    simp
  · have : ¬ V.int a = V.int b := fun q => h (V.int.inj q)
    simp [h, this]
theorem dec_str {a b : Str} : decide (V.str a = V.str b) = decide (a = b) := by
  by_cases h : a = b
  · subst h
    simp
  · have : ¬ V.str a = V.str b := fun q => h (V.str.inj q)
    simp [h, this]
theorem same_mut {H H' : Hp} {p : Addr} {o : HO} (e : Same H H') (h : H p = none) : Same H (upd H' p o) := fun b x hb => by
  rw [upd_ne (ne_of_none hb h)]
  exact e b x hb
theorem cut1 (xs : List V) : cutV xs (some 1) none = xs.drop 1 := by
  unfold cutV
  rw [show HT.sIx xs.length 0 (some 1) = min 1 xs.length from HT.sIx_nat xs.length 0 1, HT.sIx_none]
  cases xs with
  | nil => rfl
  | cons x r =>
    rw [show min 1 (x :: r).length = 1 by
      rw [List.length_cons]
      omega]
    show (List.take ((x :: r).length - 1) r) = r
    rw [List.length_cons, Nat.add_sub_cancel]
    exact List.take_length
theorem sIx1 {x : V} {xs : List V} {b : Nat} : ¬ (HT.sIx (x :: xs).length 0 (some 1) = 0 ∧ b = (x :: xs).length) := by
  rw [show HT.sIx (x :: xs).length 0 (some 1) = min 1 (x :: xs).length from HT.sIx_nat (x :: xs).length 0 1, List.length_cons]
  omega
theorem sqT_cut1 {K : PySem.W.Frag} {H : Hp} {p : Addr} {x : V} {xs : List V} : SqT K (upd H p (.tup (cutV (x :: xs) (some 1) none))) p xs := by
  rw [cut1]
  exact sqT_new
theorem idx_min {w : Str} {l : List Str} {m : Nat} (hm : m < l.idxOf w) : l[m]? ≠ some w := fun q => by
  obtain ⟨hl, e⟩ := List.getElem?_eq_some_iff.mp q
  have h := List.not_of_lt_findIdx (p := (· == w)) (xs := l) (i := m) hm
  rw [e] at h
  simp at h
theorem map_range_eq {α β : Type} {l : List α} {b : Nat → β} {p : α → β} (h : ∀ i x, l[i]? = some x → b i = p x) : (List.range l.length).map b = l.map p := by
  apply List.ext_getElem
  · simp
  · intro i h1 h2
    have hi : i < l.length := by simpa using h2
    rw [List.getElem_map, List.getElem_map, List.getElem_range]
    exact h i _ (List.getElem?_eq_getElem hi)
theorem all_id {α : Type} {l : List α} {p : α → Bool} : (l.map p).all id = l.all p := by
  induction l with
  | nil => rfl
  | cons x r ih => rw [List.map_cons, List.all_cons, List.all_cons, ih]; rfl
/-! ### comprehensions of truths -/
theorem walk_zipT {K : PySem.W.Frag} {a b : Addr} {xs ys : List V} {n : Nat} (hn : n = min xs.length ys.length) : Walk (RZ.ItzT K a b) n (fun H => SqT K H a xs ∧ SqT K H b ys) (YPair (fun i => xs[i]?) (fun i => ys[i]?)) := by
  subst hn
  refine ⟨fun i _ hi q => ?_, fun _ q => ⟨xs, ys, q.1, q.2, by omega⟩, fun i H v H' _ q y => ?_⟩
  · have h1 : i < xs.length := by omega
    have h2 : i < ys.length := by omega
    exact ⟨xs, ys, xs[i], ys[i], q.1, q.2, by simp [h1], by simp [h2]⟩
  · obtain ⟨T, x, z, h1, h2, h3, h4, h5⟩ := y
    exact ⟨T, x, z, h1, h2, h3, h4 xs q.1, h5 ys q.2⟩
theorem lc_vals {J : It} {n : Nat} {G : Hp → Prop} {Y : Nat → Hp → V → Hp → Prop} (wk : Walk J n G Y) {g : TG} {te : TE} {vs : List Nat} {σ : L2.St} {H1 : Hp} {D : Addr} {Qd : Hp → Prop} (b : Nat → V) (hD : H1 D = none) (hn : n ≤ 1000000)
    (hG : ∀ H', Same H1 H' → G H')
    (hs : ∀ (i : Nat) (x : V) (H' H'' : Hp) (Qe : VK), i < n → Same H1 H' → Y i H' x H'' → (∀ H4, Same H' H4 → Qe (b i) H4) → g x (wipe σ vs) H'' fun σ2 H2 => wipe σ2 vs = wipe σ vs ∧ te σ2 H2 Qe)
    (q : ∀ H', Same H1 H' → H' D = some (.lst ((List.range n).map b)) → Qd H') :
    ∃ W : Nat → Nat → Hp → Prop, (∃ m, W 0 m (upd H1 D (.lst []))) ∧ ∀ i m H, W i m H →
      (J.stop i H ∧ Qd H) ∨ (J.go i H ∧ ∃ Nx : Hp → Prop, (∀ H', Nx H' → ∃ m', m' < m ∧ W (i + 1) m' H') ∧ ∀ x H', J.yld i H x H' → g x (wipe σ vs) H' fun σ2 H2 => wipe σ2 vs = wipe σ vs ∧ tYes σ2 H2 fun b H3 =>
        if b = true then te σ2 H3 fun y H4 => ∃ acc, H4 D = some (.lst acc) ∧ acc.length < sizeLine ∧ Nx (upd H4 D (.lst (acc ++ [y]))) else Nx H3) := by
  refine lc_it wk (tt := tYes) (fun i H' => Same H1 H' ∧ H' D = some (.lst ((List.range i).map b))) ⟨same_upd hD, upd_same⟩ (fun i H' _ p => hG H' p.1) (fun i x H' H'' hi p y => ?_) (fun H' p => q H' p.1 p.2)
  refine hs i x H' H'' _ hi p.1 y fun H4 s4 => ?_
  refine ⟨_, s4 _ _ p.2, ?_, ?_, ?_⟩
  · rw [List.length_map, List.length_range]
    exact Nat.lt_of_lt_of_le (Nat.lt_of_lt_of_le hi hn) (by decide)
  · intro c o e
    rw [upd_ne (ne_of_none e hD)]
    exact s4 _ _ (p.1 _ _ e)
  · rw [upd_same, List.range_succ, List.map_append]
    rfl
theorem lt1 (a b : Nat) : decide (([a] : List Nat) < [b]) = decide (a < b) := by
  by_cases h : a < b
  · rw [decide_eq_true h, decide_eq_true]
    exact List.cons_lt_cons_iff.mpr (.inl h)
  · rw [decide_eq_false h, decide_eq_false]
    intro q
    rcases List.cons_lt_cons_iff.mp q with z | ⟨_, z⟩
    · exact h z
    · exact absurd z (List.not_lt_nil _)
theorem at0 {α : Type} (x : α) (r : List α) : atI (x :: r) 0 = some x := by
  unfold atI ixN
  rw [if_pos (by decide), if_pos (by rw [List.length_cons]; omega)]
  rfl
end Kin
/-! Own rules: enumerate(tuple) walked; d.update(d2) of dicts with text and number keys. -/
namespace Kin
open PySem PySem.Spec PyProof.Rows L2
theorem meets_enumT (l : Addr) (items : Array Value) :
    Meets (Builtin.«enumerate.__new__» ⟨[.type "enumerate", .ref l], []⟩) (fun _ R s => s.heap.IsTuple l items ∧
      R (.ok (.ret (.ref (s.heap.push { cls := .type "tuple_iterator", data := .fields #[.ref l, .int 0 0] }).objs.size)))
        { s with heap := (s.heap.push { cls := .type "tuple_iterator", data := .fields #[.ref l, .int 0 0] }).push { cls := .type "enumerate", data := .fields #[.none, .bool false, .ref s.heap.objs.size, rawInt 0, .none, .none] } }) :=
  .of_wp fun prog w A R s h => by
    obtain ⟨hp, g, d, tk, os⟩ := s; obtain ⟨h1, h⟩ := h
    have hsub := sub_enumerate
    have q1 : ∀ {A' : Around} {E : Value → Shared → Prop} {Q : Value → Shared → Prop}, Q (.ref hp.objs.size) ⟨hp.push { cls := .type "tuple_iterator", data := .fields #[.ref l, .int 0 0] }, g, d, tk, os⟩ → wpAny (model prog w) A' (pyIter (.ref l)) Q E ⟨hp, g, d, tk, os⟩ :=
      fun q => (begins_tuple l items).iter prog w _ _ ⟨hp, g, d, tk, os⟩ _ h1 q
    wp_walk using q1
    refine wpAny_stack_any fun st => wpAny_pure ?_
    split
    · rename_i c _ _ _ _ _
      cases (c == Value.type "enumerate")
      · wp_walk using q1
        exact ⟨_, rfl, h⟩
      · wp_walk using q1
        exact ⟨_, rfl, h⟩
    · wp_walk using q1
      exact ⟨_, rfl, h⟩
theorem call_enumT {prog : Program} {w : World} {A : Around} {E : Value → Shared → Prop} {s : Shared} {l : Addr} {items : Array Value} {Q : Value → Shared → Prop} (hL : s.heap.IsTuple l items)
    (h : ∀ h', IsEnum h' (s.heap.objs.size + 1) s.heap.objs.size 0 .none → h'.IsTupleIter s.heap.objs.size l 0 → h'.objs.size = s.heap.objs.size + 2 →
      (∀ b o, s.heap.get? b = some o → h'.get? b = some o) → Q (.ref (s.heap.objs.size + 1)) { s with heap := h' }) :
    wpAny (model prog w) A (call (.type "enumerate") [.ref l]) Q E s := by
  refine callType_new F.called_enumerate (by decide) (F.typeCall_enumerate_1 _) (F.newCall_enumerate_1 _) (fun obj => F.args_object_init_2 obj _) F.entry_enumerate_new
    (meets_enumT l items) ⟨hL, ?_⟩
  have hz : (s.heap.push { cls := .type "tuple_iterator", data := .fields #[.ref l, .int 0 0] }).objs.size = s.heap.objs.size + 1 := Heap.size_push ..
  show _ ∧ _
  rw [hz]
  have he : IsEnum ((s.heap.push { cls := .type "tuple_iterator", data := .fields #[.ref l, .int 0 0] }).push
      { cls := .type "enumerate", data := .fields #[.none, .bool false, .ref s.heap.objs.size, rawInt 0, .none, .none] }) (s.heap.objs.size + 1) s.heap.objs.size 0 .none := by
    have := Heap.get?_push_size (s.heap.push { cls := .type "tuple_iterator", data := .fields #[.ref l, .int 0 0] })
      (o := { cls := .type "enumerate", data := .fields #[.none, .bool false, .ref s.heap.objs.size, rawInt 0, .none, .none] }) rfl
    rw [hz] at this; exact this
  refine ⟨⟨_, he, rfl⟩, h _ he ⟨_, Heap.get?_push_of_some _ (Heap.get?_push_size _ rfl), rfl, rfl⟩ (by rw [Heap.size_push, hz]) fun b o x => Heap.get?_push_of_some _ (Heap.get?_push_of_some _ x)⟩
end Kin
namespace Kin
open PySem PySem.Spec PyProof.Rows L2
/-- the tuple at a as it stands at each turn, each item in a new pair -/
def ItT (K : PySem.W.Frag) (a : Addr) : It :=
  ⟨fun i H => ∃ (xs : List V) (x : V), SqT K H a xs ∧ xs[i]? = some x, fun i H v H' => ∃ T x, v = .ref T ∧ H T = none ∧ H' = upd H T (.tup [.int (i : Nat), x]) ∧ ∀ xs, SqT K H a xs → xs[i]? = some x, fun i H => ∃ xs : List V, SqT K H a xs ∧ xs.length = i⟩
theorem turn_enumT {P : Program} {w : World} {K : PySem.W.Frag} {elts : List Expr} {kk : Nat} {tpos : Pos} (a e it : Addr) (hai : a ≠ it) (hea : e ≠ a) (hei : e ≠ it) :
    Turn P w K (.Tuple elts kk tpos) (ItT K a) [e, it] e (fun i h => (∃ old, IsEnum h e it ((i : Nat) : Int) old) ∧ h.IsTupleIter it a i) where
  mem := by simp
  obj := fun i h st b hb => by
    obtain ⟨⟨old, he⟩, ⟨o, ho, hc, hd⟩⟩ := st
    have e' : b = e ∨ b = it := by simpa using hb
    rcases e' with z | z
    · rw [z]; exact ⟨_, he, fun v q => nomatch q⟩
    · rw [z]; exact ⟨o, ho, fun v q => by rw [hd] at q; cases q⟩
  keep := fun i h h' st k => let ⟨⟨old, he⟩, hi⟩ := st; ⟨⟨old, k e (by simp) _ he⟩, hi.at fun o q => k it (by simp) o q⟩
  item := by
    intro X hP hw hK hc i pins s σ H E I hf st hg
    subst hP hw hK
    obtain ⟨⟨old, he⟩, hit⟩ := st
    obtain ⟨xs, x, hq, hx⟩ := hg
    obtain ⟨its, rv, p, hz⟩ := I.tuple hq
    obtain ⟨u, hu, ru⟩ := rv.get hx
    have hel : e < s.heap.objs.size := Heap.lt_size he
    have hil : it < s.heap.objs.size := by obtain ⟨_, q, _⟩ := hit; exact Heap.lt_size q
    have hlt : i < its.toArray.size := by
      have := (List.getElem?_eq_some_iff.mp hu).1
      simpa using this
    have D := Draws.tuple (prog := X.prog) (w := X.w) (A := X.A.in1) (I.ok.hd hc) it a hai its.toArray
    refine wpAny_pyNext_enum_itemD D he ⟨hit, p⟩ hlt hei (by simp [hei, hea]) fun x' h' tk hPx ho hit' hT hsz hk => ?_
    have ex' : x' = u := by
      have hPx : its.toArray[i]? = some x' := hPx
      have hu' : its.toArray[i]? = some u := by simpa using hu
      exact Option.some.inj (hPx.symm.trans hu')
    subst ex'
    refine ⟨_, rfl, wpAny_letOwnedTupleGo_enum (s := { s with heap := h', toks := tk + 1 }) ho fun h'' he' sb => ?_⟩
    have hT2 : h''.get? s.heap.objs.size = some { cls := .type "tuple", data := .seq #[.int i tk, x'] } := (sb.2 _ (Nat.ne_of_gt hel)).trans hT
    have new : ObjOk X.prog X.w (upd H s.heap.objs.size (.tup [.int (i : Nat), x])) h'' s.heap.objs.size (.tup [.int (i : Nat), x]) :=
      ⟨by show 2 ≤ sizeLine; decide, [.int i tk, x'], .cons ⟨_, rfl⟩ (.cons ru .nil), ⟨_, hT2, rfl, _, rfl⟩⟩
    have I1 : Inv X pins σ (upd H s.heap.objs.size (.tup [.int (i : Nat), x])) { s with heap := h'', toks := tk + 1 } :=
      I.turnedNew (ch := [e, it]) (fun b ob hb q => (sb.2 b (fun z => hb (by simp [z]))).trans (hk b ob (fun z => hb (by simp [z])) (fun z => hb (by simp [z])) q)) hf (Nat.le_refl _) new
    refine ⟨.ref s.heap.objs.size, _, I1, rfl, ⟨_, x, rfl, I.hok.fresh (Nat.le_refl _), rfl, fun ys hy => by rw [I.tuple_inj hy hq]; exact hx⟩, ⟨⟨x', ?_⟩, hit'.1.at fun o q => (sb.2 it (Ne.symm hei)).trans q⟩, fun b hb => ?_⟩
    · have e1 : ((i + 1 : Nat) : Int) = (i : Int) + 1 := by omega
      rw [e1]; exact he'
    · have hb' : b < s.heap.objs.size := by
        have e' : b = e ∨ b = it := by simpa using hb
        rcases e' with z | z
        · rw [z]; exact hel
        · rw [z]; exact hil
      rw [upd_ne (Nat.ne_of_lt hb')]
      exact (hf b hb).1
  done := by
    intro X hP hw hK hc i pins s σ H E I hf st hg
    subst hP hw hK
    obtain ⟨⟨old, he⟩, hit⟩ := st
    obtain ⟨xs, hq, hx⟩ := hg
    obtain ⟨its, rv, p, hz⟩ := I.tuple hq
    obtain ⟨f0, f1, f2, f3, f4, f5⟩ := hf it (by simp)
    have hl := rv.length
    have D := Draws.tuple (prog := X.prog) (w := X.w) (A := X.A.in1) (I.ok.hd hc) it a hai its.toArray
    have hi : i = its.toArray.size := by simp; omega
    subst hi
    exact wpAny_pyNext_enum_endD D he ⟨hit, p⟩ fun h' eb => ⟨rfl, I.turned (t' := s.toks) (fun b o hb q => eb b o hb q) f0 f1 f3 f4 f5⟩
  self := fun A i s Q E st h => let ⟨⟨_, he⟩, _⟩ := st; wpAny_pyIter_enum he h
def iEnumT (K : PySem.W.Frag) (ta : TA) : TI := fun σ H R => ta σ H fun vs H1 => ∃ a xs, vs = [.ref a] ∧ SqT K H1 a xs ∧ R (ItT K a) H1
theorem pi_enumT {X : Cx} {e : Expr} {ta : TA} {p pos tpos : Pos} {elts : List Expr} {kk : Nat} (hg : Gl X "enumerate") (hm : X.mg "enumerate" = none) (ha : PA X [e] ta) (hs : starEach [e] X.env = [(false, eval e X.env)] := by rfl) :
    PI X (.Tuple elts kk tpos) (.Call (.Name "enumerate" p) [e] [] pos) (iEnumT X.K ta) := by
  refine ⟨fun pins s σ H R I h => ?_⟩
  refine Call_ (ld_blt I hg hm boot_enumerate (PyProof.Rows.callWith_type1 (thn (ha.run pos pins s σ H _ I h) fun us s1 ⟨vs, H1, I1, r1, q1⟩ => ?_) hs rfl))
  obtain ⟨a, xs, ex, hq, q⟩ := q1
  subst ex
  cases r1 with
  | cons r rr =>
    cases rr
    cases r
    obtain ⟨its, rv, p', hz⟩ := I1.tuple hq
    have hal : a < s1.heap.objs.size := by obtain ⟨_, q, _⟩ := id p'; exact Heap.lt_size q
    refine call_enumT (show s1.heap.IsTuple a its.toArray from p') fun h' he hit hsz hk => wpAny_pyIter_enum he ?_
    have I2 : Inv X pins σ H1 { s1 with heap := h' } := I1.kept (t' := s1.toks) hk
    refine ⟨s1.heap.objs.size + 1, [s1.heap.objs.size + 1, s1.heap.objs.size], _, _, H1, rfl, I2, turn_enumT a (s1.heap.objs.size + 1) s1.heap.objs.size (Nat.ne_of_lt hal) (Nat.ne_of_gt (Nat.lt_succ_of_lt hal)) (Nat.succ_ne_self _), ⟨⟨.none, he⟩, hit⟩, fun b hb => ?_, q⟩
    have e' : b = s1.heap.objs.size + 1 ∨ b = s1.heap.objs.size := by simpa using hb
    have hle : s1.heap.objs.size ≤ b := by
      rcases e' with z | z
      · rw [z]; exact Nat.le_add_right _ _
      · rw [z]; exact Nat.le_refl _
    exact I1.fpOk hle (I1.hok.fresh hle)
theorem walk_enumT {K : PySem.W.Frag} {a : Addr} {xs : List V} : Walk (ItT K a) xs.length (fun H => SqT K H a xs) (YPair (fun i => some (.int (i : Nat))) (fun i => xs[i]?)) := by
  refine ⟨fun i _ hi q => ⟨xs, xs[i], q, by simp [hi]⟩, fun _ q => ⟨xs, q, rfl⟩, fun i H v H' _ q y => ?_⟩
  obtain ⟨T, x, h1, h2, h3, h4⟩ := y
  exact ⟨T, .int (i : Nat), x, h1, h2, h3, rfl, h4 xs q⟩
/-! ### d.update(d2) -/
def rUpdate : V → List V → Hp → VK → Prop := fun x vs H Q => ∃ (a b : Addr) (kvs more : List (Key × V)), x = .ref a ∧ vs = [.ref b] ∧ a ≠ b ∧ H a = some (.dK kvs) ∧ H b = some (.dK more) ∧ kvs.length + more.length ≤ 100000 ∧ Q .non (upd H a (.dK (mergeK kvs more)))
theorem mt_update {X : Cx} : MtR X "dict.update" rUpdate := by
  intro pins s σ H x vs v us Q I rx rv h
  obtain ⟨a, b, kvs, more, ex, ev, hab, ea, eb, hl, q⟩ := h
  subst ex ev
  obtain rfl : v = Value.ref a := rx
  obtain ⟨u, eu, ru⟩ := vals1 rv
  subst eu
  obtain rfl : u = Value.ref b := ru
  obtain ⟨z, hd, ws, rel, dd⟩ := dk_of I.hok ea
  obtain ⟨z2, hd2, ws2, rel2, dd2⟩ := dk_of I.hok eb
  have l1 := rel.length
  have l2 := rel2.length
  have hsz : ws.length + ws2.length ≤ sizeLine := by
    rw [← l1, ← l2]
    exact Nat.le_trans hl (by decide)
  refine call_meetsIn PySem.F.slot_dict_update dd.typeIs PySem.F.entry_dict_update (PySem.F.args_dict_update_2 _ _) (meets_dict_update (mixKind X.prog X.w) a b hab hd2) ⟨ws, ws2, dd, dd2, hsz, fun h' dd' ddo hs => ?_⟩
  have he : ∃ q, h'.get? a = some q := let ⟨q, _, _, hq, _⟩ := dd'; ⟨q, hq⟩
  have hlen : (mergeK kvs more).length ≤ sizeLine := Nat.le_trans (length_mergeK more kvs) (Nat.le_trans hl (by decide))
  exact ⟨.non, _, d_write (t' := s.toks) I (by rw [ea]; exact True.intro) hs he (dk_new hlen hd (KV.merge rel2 rel) dd'), rfl, q⟩
end Kin
namespace Kin
open PySem
theorem pp_title (d : PyData) (n : Int) : pPart "title" d n = pTitle d := by
  unfold pPart
  rw [if_pos rfl]
theorem pp_small (d : PyData) (n : Int) : pPart "small" d n = pSmall d := by
  unfold pPart
  rw [if_neg (by decide +kernel), if_pos rfl]
theorem pp_whole (d : PyData) (n : Int) : pPart "whole" d n = pWhole d := by
  unfold pPart
  rw [if_neg (by decide +kernel), if_neg (by decide +kernel), if_pos rfl]
theorem pp_truth (d : PyData) (n : Int) : pPart "truth" d n = isBool d := by
  unfold pPart
  rw [if_neg (by decide +kernel), if_neg (by decide +kernel), if_neg (by decide +kernel), if_pos rfl]
theorem pp_row (d : PyData) (n : Int) : pPart "row" d n = pRowNo d n := by
  unfold pPart
  rw [if_neg (by decide +kernel), if_neg (by decide +kernel), if_neg (by decide +kernel), if_neg (by decide +kernel), if_pos rfl]
theorem pp_signal (d : PyData) (n : Int) : pPart "signal" d n = pOne d sig9 := by
  unfold pPart
  rw [if_neg (by decide +kernel), if_neg (by decide +kernel), if_neg (by decide +kernel), if_neg (by decide +kernel), if_neg (by decide +kernel), if_pos rfl]
theorem pp_loose (d : PyData) (n : Int) : pPart "loose" d n = pLoose d := by
  unfold pPart
  rw [if_neg (by decide +kernel), if_neg (by decide +kernel), if_neg (by decide +kernel), if_neg (by decide +kernel), if_neg (by decide +kernel), if_neg (by decide +kernel), if_pos rfl]
theorem pp_signals (d : PyData) (n : Int) : pPart "signals" d n = pAre d := by
  unfold pPart
  rw [if_neg (by decide +kernel), if_neg (by decide +kernel), if_neg (by decide +kernel), if_neg (by decide +kernel), if_neg (by decide +kernel), if_neg (by decide +kernel), if_neg (by decide +kernel), if_pos rfl]
theorem pp_how (d : PyData) (n : Int) : pPart "how" d n = (pOne d ["plain", "ignore"] || pHandler d n) := by
  unfold pPart
  rw [if_neg (by decide +kernel), if_neg (by decide +kernel), if_neg (by decide +kernel), if_neg (by decide +kernel), if_neg (by decide +kernel), if_neg (by decide +kernel), if_neg (by decide +kernel), if_neg (by decide +kernel), if_pos rfl]
theorem pp_where (d : PyData) (n : Int) : pPart "where" d n = pOne d ["new", "mine"] := by
  unfold pPart
  rw [if_neg (by decide +kernel), if_neg (by decide +kernel), if_neg (by decide +kernel), if_neg (by decide +kernel), if_neg (by decide +kernel), if_neg (by decide +kernel), if_neg (by decide +kernel), if_neg (by decide +kernel), if_neg (by decide +kernel), if_pos rfl]
theorem pp_which (d : PyData) (n : Int) : pPart "which" d n = if pNat d = true then true else isNone d := by
  unfold pPart
  rw [if_neg (by decide +kernel), if_neg (by decide +kernel), if_neg (by decide +kernel), if_neg (by decide +kernel), if_neg (by decide +kernel), if_neg (by decide +kernel), if_neg (by decide +kernel), if_neg (by decide +kernel), if_neg (by decide +kernel), if_neg (by decide +kernel)]
  unfold pChild
  rw [if_pos (show ("which" : Str) = "which" from rfl)]
theorem pp_who (d : PyData) (n : Int) : pPart "who" d n = if pNat d = true then true else pOne d ["self"] := by
  unfold pPart
  rw [if_neg (by decide +kernel), if_neg (by decide +kernel), if_neg (by decide +kernel), if_neg (by decide +kernel), if_neg (by decide +kernel), if_neg (by decide +kernel), if_neg (by decide +kernel), if_neg (by decide +kernel), if_neg (by decide +kernel), if_neg (by decide +kernel)]
  unfold pChild
  rw [if_neg (show ¬ ("who" : Str) = "which" by decide +kernel), if_pos (show ("who" : Str) = "who" from rfl)]
theorem pp_to (d : PyData) (n : Int) : pPart "to" d n = if pNat d = true then true else pOne d ["self", "parent", "group"] := by
  unfold pPart
  rw [if_neg (by decide +kernel), if_neg (by decide +kernel), if_neg (by decide +kernel), if_neg (by decide +kernel), if_neg (by decide +kernel), if_neg (by decide +kernel), if_neg (by decide +kernel), if_neg (by decide +kernel), if_neg (by decide +kernel), if_neg (by decide +kernel)]
  unfold pChild
  rw [if_neg (show ¬ ("to" : Str) = "which" by decide +kernel), if_neg (show ¬ ("to" : Str) = "who" by decide +kernel)]
theorem lp_exec_0 (d : PyData) (n : Int) : lPart "exec" 0 d n = lTitle d := by
  unfold lPart
  rw [if_pos (by decide +kernel)]
theorem lp_end_0 (d : PyData) (n : Int) : lPart "end" 0 d n = lWhole d 0 100 := by
  unfold lPart
  rw [if_neg (by decide +kernel), if_pos (by decide +kernel)]
theorem lp_wait_0 (d : PyData) (n : Int) : lPart "wait" 0 d n = (isNone d || lWhole d 0 great) := by
  unfold lPart
  rw [if_neg (by decide +kernel), if_neg (by decide +kernel), if_pos (by decide +kernel), if_neg (by decide)]
theorem lp_wait_1 (d : PyData) (n : Int) : lPart "wait" 1 d n = isBool d := by
  unfold lPart
  rw [if_neg (by decide +kernel), if_neg (by decide +kernel), if_pos (by decide +kernel), if_pos rfl]
theorem lp_send_0 (d : PyData) (n : Int) : lPart "send" 0 d n = pOne d (sure ++ sig7) := by
  unfold lPart
  rw [if_neg (by decide +kernel), if_neg (by decide +kernel), if_neg (by decide +kernel), if_pos (by decide +kernel), if_pos rfl]
theorem lp_send_1 (d : PyData) (n : Int) : lPart "send" 1 d n = (lWhole d 0 great || pOne d ["self", "parent", "group"]) := by
  unfold lPart
  rw [if_neg (by decide +kernel), if_neg (by decide +kernel), if_neg (by decide +kernel), if_pos (by decide +kernel), if_neg (by decide)]
theorem lp_mask_0 (d : PyData) (n : Int) : lPart "mask" 0 d n = lAre d := by
  unfold lPart
  rw [if_neg (by decide +kernel), if_neg (by decide +kernel), if_neg (by decide +kernel), if_neg (by decide +kernel), if_pos (by decide +kernel)]
theorem lp_unmask_0 (d : PyData) (n : Int) : lPart "unmask" 0 d n = lAre d := by
  unfold lPart
  rw [if_neg (by decide +kernel), if_neg (by decide +kernel), if_neg (by decide +kernel), if_neg (by decide +kernel), if_pos (by decide +kernel)]
theorem lp_handle_0 (d : PyData) (n : Int) : lPart "handle" 0 d n = pOne d sig7 := by
  unfold lPart
  rw [if_neg (by decide +kernel), if_neg (by decide +kernel), if_neg (by decide +kernel), if_neg (by decide +kernel), if_neg (by decide +kernel), if_pos (by decide +kernel)]
theorem lp_handle_1 (d : PyData) (n : Int) : lPart "handle" 1 d n = (if isTup d = true then lHandler d n else pOne d ["plain", "ignore"]) := by
  unfold lPart
  rw [if_neg (by decide +kernel), if_neg (by decide +kernel), if_neg (by decide +kernel), if_neg (by decide +kernel), if_neg (by decide +kernel), if_neg (by decide +kernel), if_pos (by decide +kernel)]
theorem lp_group_0 (d : PyData) (n : Int) : lPart "group" 0 d n = (lWhole d 0 great || pOne d ["self"]) := by
  unfold lPart
  rw [if_neg (by decide +kernel), if_neg (by decide +kernel), if_neg (by decide +kernel), if_neg (by decide +kernel), if_neg (by decide +kernel), if_neg (by decide +kernel), if_neg (by decide +kernel), if_pos (by decide +kernel)]
theorem lp_group_1 (d : PyData) (n : Int) : lPart "group" 1 d n = pOne d ["new", "mine"] := by
  unfold lPart
  rw [if_neg (by decide +kernel), if_neg (by decide +kernel), if_neg (by decide +kernel), if_neg (by decide +kernel), if_neg (by decide +kernel), if_neg (by decide +kernel), if_neg (by decide +kernel), if_neg (by decide +kernel), if_pos (by decide +kernel)]
theorem lp_front_0 (d : PyData) (n : Int) : lPart "front" 0 d n = (lWhole d 0 great || pOne d ["self"]) := by
  unfold lPart
  rw [if_neg (by decide +kernel), if_neg (by decide +kernel), if_neg (by decide +kernel), if_neg (by decide +kernel), if_neg (by decide +kernel), if_neg (by decide +kernel), if_neg (by decide +kernel), if_pos (by decide +kernel)]
theorem lp_say_0 (d : PyData) (n : Int) : lPart "say" 0 d n = lWhole d 0 100 := by
  unfold lPart
  rw [if_neg (by decide +kernel), if_pos (by decide +kernel)]
theorem lp_goto_0 (d : PyData) (n : Int) : lPart "goto" 0 d n = lWhole d 0 n := by
  unfold lPart
  rw [if_neg (by decide +kernel), if_neg (by decide +kernel), if_neg (by decide +kernel), if_neg (by decide +kernel), if_neg (by decide +kernel), if_neg (by decide +kernel), if_neg (by decide +kernel), if_neg (by decide +kernel), if_neg (by decide +kernel), if_neg (by decide +kernel)]
theorem lp_iff_0 (d : PyData) (n : Int) : lPart "if" 0 d n = lWhole d (0 - great) great := by
  unfold lPart
  rw [if_neg (by decide +kernel), if_neg (by decide +kernel), if_neg (by decide +kernel), if_neg (by decide +kernel), if_neg (by decide +kernel), if_neg (by decide +kernel), if_neg (by decide +kernel), if_neg (by decide +kernel), if_neg (by decide +kernel), if_pos (by decide +kernel)]
theorem lp_iff_1 (d : PyData) (n : Int) : lPart "if" 1 d n = lWhole d 0 n := by
  unfold lPart
  rw [if_neg (by decide +kernel), if_neg (by decide +kernel), if_neg (by decide +kernel), if_neg (by decide +kernel), if_neg (by decide +kernel), if_neg (by decide +kernel), if_neg (by decide +kernel), if_neg (by decide +kernel), if_neg (by decide +kernel), if_neg (by decide +kernel)]
theorem sig_app (d : PyData) : pOne d sig9 = pOne d (sure ++ sig7) := rfl
theorem which_eq {d : PyData} (hb : bnd d = true) : (if pNat d = true then true else isNone d) = (isNone d || lWhole d 0 great) := by
  rw [nat_eq hb]
  cases lWhole d 0 great <;> cases isNone d <;> rfl
theorem to_eq {d : PyData} (hb : bnd d = true) : (if pNat d = true then true else pOne d ["self", "parent", "group"]) = (lWhole d 0 great || pOne d ["self", "parent", "group"]) := by
  rw [nat_eq hb]
  cases lWhole d 0 great <;> rfl
theorem who_eq {d : PyData} (hb : bnd d = true) : (if pNat d = true then true else pOne d ["self"]) = (lWhole d 0 great || pOne d ["self"]) := by
  rw [nat_eq hb]
  cases lWhole d 0 great <;> rfl
theorem e_exec_0 (n : Int) (d : PyData) (hb : bnd d = true) : pPart "title" d n = lPart "exec" 0 d n := by
  rw [pp_title, lp_exec_0]
  exact title_eq d
theorem e_end_0 (n : Int) (d : PyData) (hb : bnd d = true) : pPart "small" d n = lPart "end" 0 d n := by
  rw [pp_small, lp_end_0]
  exact small_eq d
theorem e_wait_0 (n : Int) (d : PyData) (hb : bnd d = true) : pPart "which" d n = lPart "wait" 0 d n := by
  rw [pp_which, lp_wait_0]
  exact which_eq hb
theorem e_wait_1 (n : Int) (d : PyData) (hb : bnd d = true) : pPart "truth" d n = lPart "wait" 1 d n := by
  rw [pp_truth, lp_wait_1]
theorem e_send_0 (n : Int) (d : PyData) (hb : bnd d = true) : pPart "signal" d n = lPart "send" 0 d n := by
  rw [pp_signal, lp_send_0]
  exact sig_app d
theorem e_send_1 (n : Int) (d : PyData) (hb : bnd d = true) : pPart "to" d n = lPart "send" 1 d n := by
  rw [pp_to, lp_send_1]
  exact to_eq hb
theorem e_mask_0 (n : Int) (d : PyData) (hb : bnd d = true) : pPart "signals" d n = lPart "mask" 0 d n := by
  rw [pp_signals, lp_mask_0]
  exact are_eq d
theorem e_unmask_0 (n : Int) (d : PyData) (hb : bnd d = true) : pPart "signals" d n = lPart "unmask" 0 d n := by
  rw [pp_signals, lp_unmask_0]
  exact are_eq d
theorem e_handle_0 (n : Int) (d : PyData) (hb : bnd d = true) : pPart "loose" d n = lPart "handle" 0 d n := by
  rw [pp_loose, lp_handle_0]
  exact pLoose_eq d
theorem e_handle_1 (n : Int) (d : PyData) (hb : bnd d = true) : pPart "how" d n = lPart "handle" 1 d n := by
  rw [pp_how, lp_handle_1]
  exact how_eq d n
theorem e_group_0 (n : Int) (d : PyData) (hb : bnd d = true) : pPart "who" d n = lPart "group" 0 d n := by
  rw [pp_who, lp_group_0]
  exact who_eq hb
theorem e_group_1 (n : Int) (d : PyData) (hb : bnd d = true) : pPart "where" d n = lPart "group" 1 d n := by
  rw [pp_where, lp_group_1]
theorem e_front_0 (n : Int) (d : PyData) (hb : bnd d = true) : pPart "who" d n = lPart "front" 0 d n := by
  rw [pp_who, lp_front_0]
  exact who_eq hb
theorem e_say_0 (n : Int) (d : PyData) (hb : bnd d = true) : pPart "small" d n = lPart "say" 0 d n := by
  rw [pp_small, lp_say_0]
  exact small_eq d
theorem e_goto_0 (n : Int) (d : PyData) (hb : bnd d = true) : pPart "row" d n = lPart "goto" 0 d n := by
  rw [pp_row, lp_goto_0]
  exact rowno_eq d n
theorem e_iff_0 (n : Int) (d : PyData) (hb : bnd d = true) : pPart "whole" d n = lPart "if" 0 d n := by
  rw [pp_whole, lp_iff_0]
  exact whole_eq hb
theorem e_iff_1 (n : Int) (d : PyData) (hb : bnd d = true) : pPart "row" d n = lPart "if" 1 d n := by
  rw [pp_row, lp_iff_1]
  exact rowno_eq d n
theorem row_eq (n : Int) (w : Str) (ps : List PyData) (hb : ps.all bnd = true) : pRow (.tuple (.str w :: ps)) n = lRow (.tuple (.str w :: ps)) n := by
  by_cases hw : w ∈ words18
  · have hz : w = "fork" ∨ w = "exec" ∨ w = "end" ∨ w = "wait" ∨ w = "pause" ∨ w = "read" ∨ w = "send" ∨ w = "mask" ∨ w = "unmask" ∨ w = "handle" ∨ w = "return" ∨ w = "session" ∨ w = "group" ∨ w = "front" ∨ w = "taker" ∨ w = "say" ∨ w = "goto" ∨ w = "if" := by simpa [words18] using hw
    rcases hz with rfl | rfl | rfl | rfl | rfl | rfl | rfl | rfl | rfl | rfl | rfl | rfl | rfl | rfl | rfl | rfl | rfl | rfl
    · exact row_of (ks := []) (m := 0) (by decide +kernel) (by decide +kernel) rfl (fun h => by rw [List.length_eq_zero_iff.mp h]; rfl)
    · exact row_of (ks := ["title"]) (m := 1) (by decide +kernel) (by decide +kernel) rfl (fun h => parts1 (e_exec_0 n) hb h)
    · exact row_of (ks := ["small"]) (m := 1) (by decide +kernel) (by decide +kernel) rfl (fun h => parts1 (e_end_0 n) hb h)
    · exact row_of (ks := ["which", "truth"]) (m := 2) (by decide +kernel) (by decide +kernel) rfl (fun h => parts2 (e_wait_0 n) (e_wait_1 n) hb h)
    · exact row_of (ks := []) (m := 0) (by decide +kernel) (by decide +kernel) rfl (fun h => by rw [List.length_eq_zero_iff.mp h]; rfl)
    · exact row_of (ks := []) (m := 0) (by decide +kernel) (by decide +kernel) rfl (fun h => by rw [List.length_eq_zero_iff.mp h]; rfl)
    · exact row_of (ks := ["signal", "to"]) (m := 2) (by decide +kernel) (by decide +kernel) rfl (fun h => parts2 (e_send_0 n) (e_send_1 n) hb h)
    · exact row_of (ks := ["signals"]) (m := 1) (by decide +kernel) (by decide +kernel) rfl (fun h => parts1 (e_mask_0 n) hb h)
    · exact row_of (ks := ["signals"]) (m := 1) (by decide +kernel) (by decide +kernel) rfl (fun h => parts1 (e_unmask_0 n) hb h)
    · exact row_of (ks := ["loose", "how"]) (m := 2) (by decide +kernel) (by decide +kernel) rfl (fun h => parts2 (e_handle_0 n) (e_handle_1 n) hb h)
    · exact row_of (ks := []) (m := 0) (by decide +kernel) (by decide +kernel) rfl (fun h => by rw [List.length_eq_zero_iff.mp h]; rfl)
    · exact row_of (ks := []) (m := 0) (by decide +kernel) (by decide +kernel) rfl (fun h => by rw [List.length_eq_zero_iff.mp h]; rfl)
    · exact row_of (ks := ["who", "where"]) (m := 2) (by decide +kernel) (by decide +kernel) rfl (fun h => parts2 (e_group_0 n) (e_group_1 n) hb h)
    · exact row_of (ks := ["who"]) (m := 1) (by decide +kernel) (by decide +kernel) rfl (fun h => parts1 (e_front_0 n) hb h)
    · exact row_of (ks := []) (m := 0) (by decide +kernel) (by decide +kernel) rfl (fun h => by rw [List.length_eq_zero_iff.mp h]; rfl)
    · exact row_of (ks := ["small"]) (m := 1) (by decide +kernel) (by decide +kernel) rfl (fun h => parts1 (e_say_0 n) hb h)
    · exact row_of (ks := ["row"]) (m := 1) (by decide +kernel) (by decide +kernel) rfl (fun h => parts1 (e_goto_0 n) hb h)
    · exact row_of (ks := ["whole", "row"]) (m := 2) (by decide +kernel) (by decide +kernel) rfl (fun h => parts2 (e_iff_0 n) (e_iff_1 n) hb h)
  · have h1 : forms.lookup w = none := lookup_none hw
    have h2 : many.lookup w = none := lookup_none fun q => hw (by
      have hs : ∀ z ∈ many.map (·.1), z ∈ words18 := by decide +kernel
      exact hs w q)
    show (match forms.lookup w with | some ks => decide (ps.length = ks.length) && pParts n ks ps | none => false) = (match many.lookup w with | some m => decide ((ps.length : Int) + 1 = 1 + m) && lParts w n 0 ps | none => false)
    rw [h1, h2]
theorem rows_agree (n : Int) (d : PyData) (hb : bndAll d = true) : pRow d n = lRow d n := by
  cases d with
  | tuple ds =>
    cases ds with
    | nil => rfl
    | cons a r =>
      cases a with
      | str w =>
        have hb : (bnd (.str w) && r.all bnd) = true := hb
        exact row_eq n w r (Bool.and_eq_true_iff.mp hb).2
      | _ => rfl
  | _ => rfl
end Kin
/-! The hand that a law draws from: a list of a list of cells and a seed. What stands beside it stays. -/
namespace Kin
open PySem PySem.Spec PyProof.Rows L2
def bigM : Int := 2305843009213693951
/-- x: the hand, l: its cells, n of them -/
structure HandN (n : Nat) (x l : Addr) (H : Hp) : Prop where
  ex : ∃ (cells : List Int) (seed : Int), H x = some (.lst [.ref l, .int seed]) ∧ H l = some (.lst (cells.map V.int)) ∧ 0 ≤ seed ∧ seed < bigM ∧ (∀ c ∈ cells, 0 ≤ c) ∧ cells.length = n
  ne : x ≠ l
def Hand (x l : Addr) (H : Hp) : Prop := ∃ n, n ≤ 63 ∧ HandN n x l H
/-- all but the hand is kept -/
def Off (x l : Addr) (H H' : Hp) : Prop := ∀ b o, b ≠ x → b ≠ l → H b = some o → H' b = some o
/-- what stands beside the hand -/
def off (x l : Addr) (H : Hp) : Hp := fun b => if b = x ∨ b = l then none else H b
section
variable {x l : Addr} {H H1 H2 : Hp} {n : Nat}
theorem Off.refl : Off x l H H := fun _ _ _ _ h => h
theorem Off.trans (a : Off x l H H1) (b : Off x l H1 H2) : Off x l H H2 := fun c o h1 h2 e => b c o h1 h2 (a c o h1 h2 e)
theorem Off.of (a : Same H H1) : Off x l H H1 := fun c o _ _ e => a c o e
theorem off_some {b : Addr} {o : HO} : off x l H b = some o ↔ b ≠ x ∧ b ≠ l ∧ H b = some o := by
  unfold off
  by_cases h : b = x ∨ b = l
  · rw [if_pos h]
    constructor
    · intro q
      cases q
    · rintro ⟨h1, h2, _⟩
      rcases h with h | h
      · exact absurd h h1
      · exact absurd h h2
  · rw [if_neg h]
    exact ⟨fun q => ⟨fun z => h (.inl z), fun z => h (.inr z), q⟩, fun q => q.2.2⟩
theorem off_at {b : Addr} {o : HO} (h1 : b ≠ x) (h2 : b ≠ l) (h : H b = some o) : off x l H b = some o := off_some.mpr ⟨h1, h2, h⟩
theorem Off.same (a : Off x l H H1) : Same (off x l H) (off x l H1) := fun b o e => by
  obtain ⟨h1, h2, h3⟩ := off_some.mp e
  exact off_at h1 h2 (a b o h1 h2 h3)
theorem off_sub : Same (off x l H) H := fun b o e => (off_some.mp e).2.2
theorem HandN.cx (h : HandN n x l H) : ∃ o, H x = some o := let ⟨_, _, h1, _⟩ := h.ex; ⟨_, h1⟩
theorem HandN.cl (h : HandN n x l H) : ∃ o, H l = some o := let ⟨_, _, _, h1, _⟩ := h.ex; ⟨_, h1⟩
theorem Hand.nx (h : Hand x l H) {p : Addr} (hp : H p = none) : p ≠ x ∧ p ≠ l := by
  obtain ⟨n, _, hN⟩ := h
  obtain ⟨o, ho⟩ := hN.cx
  obtain ⟨o2, ho2⟩ := hN.cl
  exact ⟨(ne_of_none ho hp).symm, (ne_of_none ho2 hp).symm⟩
theorem HandN.same (h : HandN n x l H) (s : Same H H1) : HandN n x l H1 := by
  obtain ⟨cells, seed, h1, h2, h3⟩ := h.ex
  exact ⟨⟨cells, seed, s _ _ h1, s _ _ h2, h3⟩, h.ne⟩
theorem Hand.same (h : Hand x l H) (s : Same H H1) : Hand x l H1 := let ⟨n, hn, hN⟩ := h; ⟨n, hn, hN.same s⟩
end
theorem dp_off {K : PySem.W.Frag} {x l : Addr} {H : Hp} {v : V} {d : PyData} (h : Dp K (off x l H) v d) : Dp K H v d := dp_mono off_sub h
/-! ### promises of the drawing defs -/
def spHand (K : PySem.W.Frag) : Sp := fun vs H Q _ => ∃ (a : Addr) (ns : List Int), vs = [.ref a] ∧ SqL K H a (ns.map V.int) ∧ ns.length ≤ 63 ∧ ∀ x l H', Same H H' → H x = none → H l = none → Hand x l H' → Q (.ref x) H'
def spPick : Sp := fun vs H Q _ => ∃ (x l : Addr) (many : Int), vs = [.ref x, .int many] ∧ Hand x l H ∧ 0 < many ∧ many ≤ 1000000000 ∧ ∀ k H', 0 ≤ k → k < many → Hand x l H' → Off x l H H' → Q (.int k) H'
/-- of a list or a tuple that stands beside the hand, of a text -/
def spOf (K : PySem.W.Frag) : Sp := fun vs H Q _ => ∃ (x l : Addr) (s : V), vs = [.ref x, s] ∧ Hand x l H ∧
  ((∃ (a : Addr) (xs : List V), s = .ref a ∧ (SqL K (off x l H) a xs ∨ SqT K (off x l H) a xs) ∧ 0 < xs.length ∧ xs.length ≤ 1000 ∧ ∀ v H', v ∈ xs → Hand x l H' → Off x l H H' → Q v H') ∨
   (∃ z : Str, s = .str z ∧ 0 < z.length ∧ z.length ≤ 1000 ∧ ∀ c H', c ∈ z.cps.toList → Hand x l H' → Off x l H H' → Q (.str ⟨#[c]⟩) H'))
def spSignals : Sp := fun vs H Q _ => ∃ x l : Addr, vs = [.ref x] ∧ Hand x l H ∧ ∀ p (ss : List Str) H', ss.Sublist sig7 → H p = none → Hand x l H' → Off x l H H' → H' p = some (.tup (ss.map V.str)) → Q (.ref p) H'
theorem shaped_ints (cells : List Int) : SeqAt.shaped (.list (cells.map PyData.int)) = true := by
  have h1 : PyData.canLayAll0 (cells.map PyData.int) = true := by
    induction cells with
    | nil => rfl
    | cons c r ih =>
      rw [List.map_cons, PyData.canLayAll0, ih]
      rfl
  have h2 : PyData.depthAll (cells.map PyData.int) = 0 := by
    induction cells with
    | nil => rfl
    | cons c r ih =>
      rw [List.map_cons, PyData.depthAll, ih (by
        rw [List.map_cons, PyData.canLayAll0] at h1
        exact (Bool.and_eq_true_iff.mp h1).2)]
      rfl
  unfold SeqAt.shaped
  rw [PyData.canLay0, PyData.depth, h1, h2]
  rfl
theorem dp_ints {K : PySem.W.Frag} {H : Hp} (cells : List Int) : DpAll K H (cells.map V.int) (cells.map PyData.int) := by
  induction cells with
  | nil => exact .nil
  | cons c r ih => exact .cons (.int c) ih
theorem eqv_lnil (ds : List PyData) : PyData.eqv (.list ds) (.list []) = ds.isEmpty := by
  cases ds with
  | nil => simp [PyData.eqv, PyData.eqvAll]
  | cons a r => simp [PyData.eqv, PyData.eqvAll]
end Kin
/-! Data that are nice; rows that are right. -/
namespace Kin
open PySem PySem.Spec PyProof.Rows L2
def nice (d : PyData) : Bool := bnd d && (lenOk d && (d.canLay0 && decide (d.depth ≤ 3)))
theorem nice_of {d : PyData} (h : nice d = true) : bnd d = true ∧ lenOk d = true ∧ d.canLay0 = true ∧ d.depth ≤ 3 := by
  unfold nice at h
  simp only [Bool.and_eq_true, decide_eq_true_eq] at h
  exact h
theorem nice_all : ∀ {ds : List PyData}, ds.all nice = true → ds.all bnd = true ∧ lenAll ds = true ∧ PyData.canLayAll0 ds = true ∧ PyData.depthAll ds ≤ 3
  | [], _ => ⟨rfl, by rw [lenAll], by rw [PyData.canLayAll0], by rw [PyData.depthAll]; decide⟩
  | d :: r, h => by
    rw [List.all_cons] at h
    obtain ⟨h1, h2⟩ := Bool.and_eq_true_iff.mp h
    obtain ⟨a1, a2, a3, a4⟩ := nice_of h1
    obtain ⟨b1, b2, b3, b4⟩ := nice_all h2
    refine ⟨?_, ?_, ?_, ?_⟩
    · rw [List.all_cons, a1, b1]; rfl
    · rw [lenAll, a2, b2]; rfl
    · rw [PyData.canLayAll0, a3, b3]; rfl
    · rw [PyData.depthAll]
      omega
/-- a tuple (or list) of nice things: fine for both looks -/
def fit (d : PyData) : Prop := bndAll d = true ∧ lenOk d = true ∧ SeqAt.shaped d = true
theorem fit_tup {ds : List PyData} (h : ds.all nice = true) (hl : ds.length ≤ 1000) : fit (.tuple ds) := by
  obtain ⟨b1, b2, b3, b4⟩ := nice_all h
  refine ⟨b1, ?_, ?_⟩
  · rw [lenOk, b2, decide_eq_true (show ds.length ≤ 100000 by omega)]; rfl
  · unfold SeqAt.shaped
    rw [PyData.canLay0, PyData.depth, b3, decide_eq_true (show PyData.depthAll ds + 1 ≤ 64 by omega)]; rfl
theorem fit_list {ds : List PyData} (h : ds.all nice = true) (hl : ds.length ≤ 1000) : fit (.list ds) := by
  obtain ⟨b1, b2, b3, b4⟩ := nice_all h
  refine ⟨rfl, ?_, ?_⟩
  · rw [lenOk, b2, decide_eq_true (show ds.length ≤ 100000 by omega)]; rfl
  · unfold SeqAt.shaped
    rw [PyData.canLay0, PyData.depth, b3, decide_eq_true (show PyData.depthAll ds + 1 ≤ 64 by omega)]; rfl
theorem nice_int {i : Int} (h0 : -1000000000 ≤ i) (h1 : i ≤ 1000000000) : nice (.int i) = true := by
  unfold nice
  rw [show bnd (.int i) = true by
    show (decide (0 - great ≤ i) && decide (i < great)) = true
    rw [decide_eq_true (show 0 - great ≤ i by unfold great; omega), decide_eq_true (show i < great by unfold great; omega)]
    rfl, lenOk, PyData.canLay0, PyData.depth]
  rfl
theorem nice_bool (b : Bool) : nice (.bool b) = true := by
  unfold nice
  rw [lenOk, PyData.canLay0, PyData.depth]
  rfl
theorem nice_none : nice .none = true := by
  unfold nice
  rw [lenOk, PyData.canLay0, PyData.depth]
  rfl
theorem nice_str {z : Str} (h : z.length ≤ 1000) (hz : PyData.strOk z = true) : nice (.str z) = true := by
  unfold nice
  rw [lenOk, PyData.canLay0, PyData.depth, hz, decide_eq_true (show z.length ≤ 100000 by omega)]
  rfl
theorem nice_tup {ds : List PyData} (h : ds.all (fun d => nice d && decide (d.depth ≤ 2)) = true) (hl : ds.length ≤ 1000) : nice (.tuple ds) = true := by
  have h1 : ds.all nice = true := by
    rw [List.all_eq_true] at h ⊢
    intro d hd
    exact (Bool.and_eq_true_iff.mp (h d hd)).1
  obtain ⟨b1, b2, b3, b4⟩ := nice_all h1
  have h2 : PyData.depthAll ds ≤ 2 := by
    clear h1 b1 b2 b3 b4 hl
    induction ds with
    | nil => rw [PyData.depthAll]; decide
    | cons d r ih =>
      rw [List.all_cons] at h
      obtain ⟨h3, h4⟩ := Bool.and_eq_true_iff.mp h
      have h5 := of_decide_eq_true (Bool.and_eq_true_iff.mp h3).2
      have h6 := ih h4
      rw [PyData.depthAll]
      omega
  unfold nice
  rw [lenOk, PyData.canLay0, PyData.depth, b2, b3, decide_eq_true (show ds.length ≤ 100000 by omega), decide_eq_true (show PyData.depthAll ds + 1 ≤ 3 by omega)]
  rfl
theorem nice_list {ds : List PyData} (h : ds.all (fun d => nice d && decide (d.depth ≤ 2)) = true) (hl : ds.length ≤ 1000) : nice (.list ds) = true := by
  have h0 := nice_of (nice_tup h hl)
  have h1 : lenOk (.list ds) = true := by
    have := h0.2.1
    rw [lenOk] at this
    rw [lenOk]
    exact this
  have h2 : PyData.canLay0 (.list ds) = true := by
    have := h0.2.2.1
    rw [PyData.canLay0] at this
    rw [PyData.canLay0]
    exact this
  have h3 : PyData.depth (.list ds) ≤ 3 := by
    have := h0.2.2.2
    rw [PyData.depth] at this
    rw [PyData.depth]
    exact this
  unfold nice
  rw [h1, h2, decide_eq_true h3]
  rfl
theorem row0_true {w : Str} {n : Int} (hf : forms.lookup w = some []) : pRow (.tuple [.str w]) n = true := by
  show (match forms.lookup w with | some ks => decide (([] : List PyData).length = ks.length) && pParts n ks [] | none => false) = true
  rw [hf]
  rfl
theorem row1_true {w k : Str} {n : Int} {d : PyData} (hf : forms.lookup w = some [k]) (h : pPart k d n = true) : pRow (.tuple [.str w, d]) n = true := by
  show (match forms.lookup w with | some ks => decide (([d] : List PyData).length = ks.length) && pParts n ks [d] | none => false) = true
  rw [hf]
  show (true && (pPart k d n && true)) = true
  rw [h]
  rfl
theorem row2_true {w k k2 : Str} {n : Int} {d d2 : PyData} (hf : forms.lookup w = some [k, k2]) (h : pPart k d n = true) (h2 : pPart k2 d2 n = true) : pRow (.tuple [.str w, d, d2]) n = true := by
  show (match forms.lookup w with | some ks => decide (([d, d2] : List PyData).length = ks.length) && pParts n ks [d, d2] | none => false) = true
  rw [hf]
  show (true && (pPart k d n && (pPart k2 d2 n && true))) = true
  rw [h, h2]
  rfl
def subs : List Str → List (List Str)
  | [] => [[]]
  | a :: r => subs r ++ (subs r).map (a :: ·)
theorem mem_subs {ss l : List Str} (h : ss.Sublist l) : ss ∈ subs l := by
  induction h with
  | slnil => exact List.mem_singleton.mpr rfl
  | cons a _ ih => exact List.mem_append_left _ ih
  | cons_cons a _ ih => exact List.mem_append_right _ (List.mem_map.mpr ⟨_, ih, rfl⟩)
theorem sub_up {ss : List Str} (hs : ss.Sublist sig7) : pAre (.tuple (ss.map PyData.str)) = true := by
  have h : ∀ ss ∈ subs sig7, pAre (.tuple (ss.map PyData.str)) = true := by decide +kernel
  exact h ss (mem_subs hs)
theorem sub_nice {ss : List Str} (hs : ss.Sublist sig7) : nice (.tuple (ss.map PyData.str)) = true ∧ PyData.depth (.tuple (ss.map PyData.str)) ≤ 1 := by
  have h : ∀ ss ∈ subs sig7, (nice (.tuple (ss.map PyData.str)) && decide (PyData.depth (.tuple (ss.map PyData.str)) ≤ 1)) = true := by decide +kernel
  have h2 := Bool.and_eq_true_iff.mp (h ss (mem_subs hs))
  exact ⟨h2.1, of_decide_eq_true h2.2⟩
end Kin
namespace HT
open PySem PySem.Spec PyProof.Rows L2
section
variable {prog : Program} {w : World} {A : Around} {E : Value → Shared → Prop} {s : Shared}
theorem places_back (n : Nat) : Builtin.Slice.slicePlaces ((n : Int) - 1) (-1) (-1) = n := by
  unfold Builtin.Slice.slicePlaces
  rw [if_neg (by decide)]
  by_cases h : (n : Int) - 1 > -1
  · rw [if_pos h]
    have e : ((n : Int) - 1 - -1 - 1) / - -1 + 1 = (n : Int) := by
      have : (- -1 : Int) = 1 := by decide
      rw [this, Int.ediv_one]
      omega
    rw [e]
    omega
  · rw [if_neg h]
    omega
theorem fm_congr {α β : Type} {f g : α → Option β} : ∀ {l : List α}, (∀ a ∈ l, f a = g a) → l.filterMap f = l.filterMap g
  | [], _ => rfl
  | a :: r, h => by
    rw [List.filterMap_cons, List.filterMap_cons, h a (by simp), fm_congr fun b hb => h b (by simp [hb])]
theorem pick_back (xs : Array Value) : ((List.range xs.size).filterMap fun (m : Nat) => xs[(((xs.size : Int) - 1) + (m : Int) * -1).toNat]?).toArray = xs.toList.reverse.toArray := by
  congr 1
  have e : (List.range xs.size).filterMap (fun (m : Nat) => xs[(((xs.size : Int) - 1) + (m : Int) * -1).toNat]?) = (List.range xs.size).filterMap (fun m => xs.toList.reverse[m]?) := by
    apply fm_congr
    intro m hm
    have hm : m < xs.size := List.mem_range.mp hm
    have e1 : (((xs.size : Int) - 1) + (m : Int) * -1).toNat = xs.size - 1 - m := by omega
    rw [e1, List.getElem?_reverse (by simpa using hm), ← Array.getElem?_toList, Array.length_toList]
  rw [e]
  have hl : xs.size = xs.toList.reverse.length := by simp
  rw [hl]
  generalize xs.toList.reverse = l
  apply List.ext_getElem?
  intro i
  have h2 : (List.range l.length).filterMap (fun m => l[m]?) = l := by
    induction l with
    | nil => rfl
    | cons a r ih =>
      rw [List.length_cons, List.range_succ_eq_map, List.filterMap_cons, List.filterMap_map]
      show a :: (List.range r.length).filterMap (fun m => r[m]?) = _
      rw [ih]
  rw [h2]
theorem sliceApplied_back {sl : Addr} {t : Tok} {n : Nat} {Q : Int × Int × Nat → Shared → Prop} (hs : s.heap.IsSliceOf sl .none .none (.int (-1) t))
    (h : Q ((n : Int) - 1, -1, n) s) : wpAny (model prog w) A (Builtin.Slice.sliceApplied (.ref sl) (pure (n : Int))) Q E s := by
  obtain ⟨os, hos, hcs, hds⟩ := id hs
  unfold Builtin.Slice.sliceApplied Builtin.Slice.sliceFields
  refine wpAny_bind (wpAny_bind (wpAny_field hos hds (x := .none) rfl (wpAny_bind (wpAny_field hos hds (x := .none) rfl (wpAny_bind (wpAny_field hos hds (x := .int (-1) t) rfl (wpAny_pure ?_)))))))
  refine wpAny_bind (slicePart_int ?_)
  show wpAny _ _ (if ((-1 : Int) == 0) = true then _ else _) _ _ s
  rw [if_neg (by decide)]
  refine wpAny_bind (slicePart_none (wpAny_bind (slicePart_none (wpAny_bind (wpAny_pure ?_)))))
  show wpAny _ _ (pure ((n : Int) - 1, (-1 : Int), Builtin.Slice.slicePlaces ((n : Int) - 1) (-1) (-1))) _ _ s
  rw [places_back]
  exact wpAny_pure h
theorem getItem_tuple_back {a sl : Addr} {items : Array Value} {t : Tok} {Q : Value → Shared → Prop} (ht : IsTup s.heap a items) (hs : s.heap.IsSliceOf sl .none .none (.int (-1) t))
    (h : Q (.ref s.heap.objs.size) { s with heap := s.heap.push { cls := .type "tuple", data := .seq items.toList.reverse.toArray } })
    (hsz : items.size ≤ sizeLine) : wpAny (model prog w) A (getItem (.ref a) (.ref sl)) Q E s := by
  have htake : sizeOk (.seq items.toList.reverse.toArray) := by
    show items.toList.reverse.toArray.size ≤ sizeLine
    rw [List.size_toArray, List.length_reverse, Array.length_toList]
    exact hsz
  obtain ⟨os, hos, hcs, hds⟩ := id hs
  have hTs : s.TypeIs (.ref sl) "slice" := ⟨os, hos, hcs⟩
  unfold getItem
  try with_reducible refine wpAny_holding ?_
  first | refine wpAny_bind (wpAny_pure ?_) | skip
  refine wpAny_bind (wpAny_sequenceKey ht.typeIs (by decide) ?_)
  refine wpAny_bind (wpAny_callSpecial?_slot (name := Str.ofString "__getitem__") ht.typeIs PyProof.Rows.slot_tuple_getitem
    (wpAny_call_entry PyProof.Rows.slot_tuple_getitem ht.typeIs entry_tuple_getitem ?_ (args_tuple_getitem _ _)))
  show wpAny _ _ (Builtin.Tuple.tupleItemsOf (.ref a) >>= _) _ _ s
  refine wpAny_bind (tupleItemsOf_ ht ?_)
  refine wpAny_bind (wpAny_typeOf hTs ?_)
  rw [if_pos (by decide)]
  refine wpAny_bind (sliceApplied_back hs ?_)
  have hno : ¬ ((((items.size : Int) - 1 == 0) && (-1 : Int) == 1 && items.size == items.size) = true) := by
    intro q
    rw [Bool.and_eq_true, Bool.and_eq_true] at q
    exact absurd (eq_of_beq q.1.2) (by decide)
  show wpAny _ _ (if (((items.size : Int) - 1 == 0) && (-1 : Int) == 1 && items.size == items.size) = true then _ else _) _ _ s
  rw [if_neg hno, pick_back]
  first
    | exact wpAny_bind (m := Builtin.Tuple.tupleExact _) (wpAny_newObj_type (wpAny_pure ⟨_, rfl, wpAny_pure h⟩) htake)
    | exact wpAny_bind (m := Builtin.Tuple.tupleExact _) (wpAny_newObj_type (wpAny_bind (wpAny_pure (wpAny_pure ⟨_, rfl, wpAny_pure h⟩))) htake)
    | exact wpAny_bind (wpAny_bind (m := Builtin.Tuple.tupleExact _) (wpAny_newObj_type (wpAny_pure (wpAny_pure ⟨_, rfl, wpAny_pure h⟩)) htake))
    | exact wpAny_bind (wpAny_bind (m := Builtin.Tuple.tupleExact _) (wpAny_newObj_type (wpAny_pure ⟨_, rfl, wpAny_pure h⟩) htake))
end
end HT
namespace Kin
open PySem PySem.Spec PyProof.Rows L2
section
variable {X : Cx}
def tRevT (K : PySem.W.Frag) (te : TE) : TE := fun σ H Q => te σ H fun x H1 => ∃ a xs, x = .ref a ∧ SqT K H1 a xs ∧ ∀ p, H1 p = none → Q (.ref p) (upd H1 p (.tup xs.reverse))
theorem pe_revT {e : Expr} {te : TE} {k : Nat} {p1 p2 p3 pos : Pos} (he : PE X e te) : PE X (.Subscript e (.Slice none none (some (.UnaryOp .USub (.Constant (.int 1) k p1) p2)) p3) pos) (tRevT X.K te) := by
  refine ⟨fun pins s σ H Q I h => ?_⟩
  refine Subscript_ (thn (he.run pins s σ H _ I h) fun v s1 ⟨x, H1, I1, r1, q1⟩ => ?_)
  obtain ⟨a, xs, ex, hx, q⟩ := q1
  subst ex
  cases r1
  have hst : PO X (some (.UnaryOp .USub (.Constant (.int 1) k p1) p2)) (tPart (tUn (rU fun i => .int (-i)) (tC (.int 1)))) := po_some (pe_un un_neg pe_int)
  refine wpAny_Slice (thn (po_none.run pins s1 σ H1 (fun o H2 => o = none ∧ H2 = H1) I1 ⟨rfl, rfl⟩) fun vl s2 ⟨l, H2, I2, pl, el, e2⟩ => ?_)
  subst el e2
  refine thn (po_none.run pins s2 σ H2 (fun o H3 => o = none ∧ H3 = H2) I2 ⟨rfl, rfl⟩) fun vu s3 ⟨u, H3, I3, pu, eu, e3⟩ => ?_
  subst eu e3
  refine thn (hst.run pins s3 σ H3 (fun o H4 => o = some (-1) ∧ H4 = H3) I3 ⟨1, rfl, -1, rfl, rfl, rfl⟩) fun vs s4 ⟨o, H4, I4, ps, eo, e4⟩ => ?_
  subst eo e4
  cases pl
  cases pu
  cases ps with
  | int _ tk =>
  have I5 : Inv X pins σ H4 { s4 with heap := s4.heap.push { cls := .type "slice", data := .fields #[.none, .none, .int (-1) tk] } } := I4.kept (t' := s4.toks) fun b ob q => Heap.get?_push_of_some _ q
  obtain ⟨its, r, ht, hz⟩ := I5.tuple hx
  have hlen := r.length
  show wpAny (model X.prog X.w) X.A (subscriptTail e (.Slice none none (some (.UnaryOp .USub (.Constant (.int 1) k p1) p2)) p3) (.ref a) (.ref s4.heap.objs.size)) (EP X pins σ Q) X.xe { s4 with heap := s4.heap.push { cls := .type "slice", data := .fields #[.none, .none, .int (-1) tk] } }
  refine tail_any (ops := [.ref a, .ref s4.heap.objs.size]) ht.typeIs (PyProof.Rows.slot_tuple_getitem.lookup) ?_ (by with_unfolding_all rfl)
  refine HT.getItem_tuple_back ht (Heap.IsSliceOf.new _ .none .none (.int (-1) tk)) ?_ (by rw [List.size_toArray]; omega)
  refine ⟨.ref _, _, I5.laid (t' := s4.toks) (o := .tup xs.reverse) (fun b ob q => Heap.get?_push_of_some _ q) (Nat.le_refl _) ?_, rfl, q _ (I5.hok.fresh (Nat.le_refl _))⟩
  exact ⟨by rw [List.length_reverse]; exact hz, _, r.reverse, IsTup.new _ _⟩
end
/-! ### comprehensions of data -/
section
variable {D F : Addr}
theorem same_off {H1 H' : Hp} (hD : H1 D = none) (s : Same H1 H') : Same (off F F H1) (off D F H') := fun b o e => by
  obtain ⟨h1, _, h3⟩ := off_some.mp e
  exact off_at (ne_of_none h3 hD) h1 (s b o h3)
theorem off_mut {H : Hp} {o : HO} : Same (off D F H) (off D F (upd H D o)) := fun b u e => by
  obtain ⟨h1, h2, h3⟩ := off_some.mp e
  exact off_at h1 h2 (by rw [upd_ne h1]; exact h3)
theorem off_mutF {H : Hp} {o : HO} : Same (off D F H) (off D F (upd H F o)) := fun b u e => by
  obtain ⟨h1, h2, h3⟩ := off_some.mp e
  exact off_at h1 h2 (by rw [upd_ne h2]; exact h3)
theorem off_same {H H' : Hp} (s : Same H H') : Same (off D F H) (off D F H') := fun b u e => by
  obtain ⟨h1, h2, h3⟩ := off_some.mp e
  exact off_at h1 h2 (s _ _ h3)
theorem off_F {H : Hp} : Same (off D F H) (off F F H) := fun b u e => by
  obtain ⟨h1, h2, h3⟩ := off_some.mp e
  exact off_at h2 h2 h3
theorem off_new {H1 : Hp} (hF : H1 F = none) : Same H1 (off F F H1) := fun b u e => off_at (ne_of_none e hF) (ne_of_none e hF) e
end
theorem lc_data {K : PySem.W.Frag} {J : It} {n : Nat} {G : Hp → Prop} {Y : Nat → Hp → V → Hp → Prop} (wk : Walk J n G Y) {g : TG} {te : TE} {vs : List Nat} {σ : L2.St} {H1 : Hp} {D : Addr} {Qd : Hp → Prop} (F : Addr) (R : PyData → Prop) (hD : H1 D = none) (hn : n ≤ 1000000)
    (hG : ∀ H', Same H1 H' → G H')
    (hs : ∀ (i : Nat) (x : V) (H' H'' : Hp) (Qe : VK), i < n → Same H1 H' → (∃ o, H' D = some o) → Y i H' x H'' → (∀ y d H4, Same H' H4 → Dp K (off D F H4) y d → R d → Qe y H4) → g x (wipe σ vs) H'' fun σ2 H2 => wipe σ2 vs = wipe σ vs ∧ te σ2 H2 Qe)
    (q : ∀ H' acc ds, Same H1 H' → H' D = some (.lst acc) → DpAll K (off D F H') acc ds → (∀ d ∈ ds, R d) → acc.length = n → Qd H') :
    ∃ W : Nat → Nat → Hp → Prop, (∃ m, W 0 m (upd H1 D (.lst []))) ∧ ∀ i m H, W i m H →
      (J.stop i H ∧ Qd H) ∨ (J.go i H ∧ ∃ Nx : Hp → Prop, (∀ H', Nx H' → ∃ m', m' < m ∧ W (i + 1) m' H') ∧ ∀ x H', J.yld i H x H' → g x (wipe σ vs) H' fun σ2 H2 => wipe σ2 vs = wipe σ vs ∧ tYes σ2 H2 fun b H3 =>
        if b = true then te σ2 H3 fun y H4 => ∃ acc, H4 D = some (.lst acc) ∧ acc.length < sizeLine ∧ Nx (upd H4 D (.lst (acc ++ [y]))) else Nx H3) := by
  refine lc_it wk (tt := tYes) (fun i H' => Same H1 H' ∧ ∃ acc ds, H' D = some (.lst acc) ∧ DpAll K (off D F H') acc ds ∧ (∀ d ∈ ds, R d) ∧ acc.length = i) ⟨same_upd hD, [], [], upd_same, .nil, by simp, rfl⟩ (fun i H' _ p => hG H' p.1) (fun i x H' H'' hi p y => ?_) (fun H' ⟨p1, acc, ds, p2, p3, p4, p5⟩ => q H' acc ds p1 p2 p3 p4 p5)
  obtain ⟨p1, acc, ds, p2, p3, p4, p5⟩ := p
  refine hs i x H' H'' _ hi p1 ⟨_, p2⟩ y fun v d H4 s4 hv hR => ?_
  refine ⟨_, s4 _ _ p2, ?_, ?_, acc ++ [v], ds ++ [d], upd_same, ?_, ?_, ?_⟩
  · rw [p5]
    exact Nat.lt_of_lt_of_le (Nat.lt_of_lt_of_le hi hn) (by decide)
  · exact same_mut (p1.trans s4) hD
  · exact dpA_app (dpA_mono ((off_same s4).trans off_mut) p3) (.cons (dp_mono off_mut hv) .nil)
  · intro z hz
    rcases List.mem_append.mp hz with h | h
    · exact p4 z h
    · rw [List.mem_singleton.mp h]
      exact hR
  · rw [List.length_append, p5]
    rfl
theorem dpA_mem {K : PySem.W.Frag} {H : Hp} {R : PyData → Prop} {vs : List V} {ds : List PyData} {i : Nat} {v : V} (h : DpAll K H vs ds) (hR : ∀ d ∈ ds, R d) (e : vs[i]? = some v) : ∃ d, Dp K H v d ∧ R d := by
  obtain ⟨d, h1, h2⟩ := dpA_get h e
  exact ⟨d, h2, hR d (List.mem_of_getElem? h1)⟩
end Kin
namespace Kin
open PySem PySem.Spec PyProof.Rows L2
def topS (i : Nat) : Stmt := PySem.Challenge.pw_kinsignals_k01_rows_of_every_word.main.body.getD i (.Pass ⟨0, 0, 0, 0⟩)
abbrev FnP (K : PySem.W.Frag) (x : Str) (st : Stmt) (f : Addr) (fd : FuncData) : Prop := FunD K x x (defArgs st) (defBody st) (defScope st) [] [] f fd
structure Bi (K : PySem.W.Frag) (w : World) (mg : Str → Option Value) (tL : Tok) (es : Array DictEntry) (nF : Nat) : Prop where
  n_isinstance : mg "isinstance" = none
  n_int : mg "int" = none
  n_bool : mg "bool" = none
  n_str : mg "str" = none
  n_tuple : mg "tuple" = none
  n_list : mg "list" = none
  n_len : mg "len" = none
  n_all : mg "all" = none
  n_zip : mg "zip" = none
  n_enumerate : mg "enumerate" = none
  n_range : mg "range" = none
  g_SIGNALS : mg "SIGNALS" = some (.ref (He.ga K "SIGNALS"))
  g_SURE : mg "SURE" = some (.ref (He.ga K "SURE"))
  g_FORMS : mg "FORMS" = some (.ref (He.ga K "FORMS"))
  g_LONGEST_TITLE : mg "LONGEST_TITLE" = some (.int 8 tL)
  sig : ∀ H, SqT K H (He.ga K "SIGNALS") (sig9.map V.str)
  sigK : ∃ o, K.lookup (He.ga K "SIGNALS") = some o ∧ o.cls = .type "tuple" ∧ o.dict = none
  sur : ∀ H, SqT K H (He.ga K "SURE") (sure.map V.str)
  kd : KDict K w (He.ga K "FORMS") es nF
  fno : ∀ z, forms.lookup z = none → PySem.W.nsIn K (He.ga K "FORMS") z = some none
  fyes : ∀ z ks, forms.lookup z = some ks → ∃ a, PySem.W.nsIn K (He.ga K "FORMS") z = some (some (.ref a)) ∧ ∀ H, SqT K H a (ks.map V.str)
section
variable {P : Program} {w : World} {K : PySem.W.Frag} {mg : Str → Option Value} {base : Heap} {tL : Tok} {es : Array DictEntry} {nF : Nat}
theorem Bi.r_SIGNALS (_ : Bi K w mg tL es nF) : RelV (.ref (He.ga K "SIGNALS")) (.ref (He.ga K "SIGNALS")) := rfl
theorem Bi.r_SURE (_ : Bi K w mg tL es nF) : RelV (.ref (He.ga K "SURE")) (.ref (He.ga K "SURE")) := rfl
theorem Bi.r_FORMS (_ : Bi K w mg tL es nF) : RelV (.ref (He.ga K "FORMS")) (.ref (He.ga K "FORMS")) := rfl
theorem Bi.r_LONGEST_TITLE (_ : Bi K w mg tL es nF) : RelV (.int 8) (.int 8 tL) := ⟨_, rfl⟩
/-- a look of one datum -/
def spD (K : PySem.W.Frag) (f : PyData → Bool) : Sp := fun vs H Q _ => ∃ (x : V) (d : PyData), vs = [x] ∧ Dp K H x d ∧ ∀ H', Same H H' → Q (.bl (f d)) H'
/-- .. and a number -/
def spDI (K : PySem.W.Frag) (f : PyData → Int → Bool) : Sp := fun vs H Q _ => ∃ (x : V) (d : PyData) (n : Int), vs = [x, .int n] ∧ Dp K H x d ∧ ∀ H', Same H H' → Q (.bl (f d n)) H'
theorem lenAll_mem {ds : List PyData} (h : lenAll ds = true) {d : PyData} (hd : d ∈ ds) : lenOk d = true := by
  induction ds with
  | nil => cases hd
  | cons a r ih =>
    have h' : (lenOk a && lenAll r) = true := by rw [← lenAll]; exact h
    have h2 := Bool.and_eq_true_iff.mp h'
    rcases List.mem_cons.mp hd with rfl | q
    · exact h2.1
    · exact ih h2.2 q
theorem lenOk_str {z : Str} (h : lenOk (.str z) = true) : z.length ≤ 100000 := by
  rw [lenOk] at h
  exact of_decide_eq_true h
theorem lenOk_tup {ds : List PyData} (h : lenOk (.tuple ds) = true) : ds.length ≤ 100000 ∧ lenAll ds = true := by
  rw [lenOk] at h
  obtain ⟨h1, h2⟩ := Bool.and_eq_true_iff.mp h
  exact ⟨of_decide_eq_true h1, h2⟩
/-- a look of a datum whose texts are not too long -/
def spDL (K : PySem.W.Frag) (f : PyData → Bool) : Sp := fun vs H Q _ => ∃ (x : V) (d : PyData), vs = [x] ∧ Dp K H x d ∧ lenOk d = true ∧ ∀ H', Same H H' → Q (.bl (f d)) H'
def spRow (K : PySem.W.Frag) (f : PyData → Int → Bool) : Sp := fun vs H Q _ => ∃ (x : V) (d : PyData) (n : Int), vs = [x, .int n] ∧ Dp K H x d ∧ lenOk d = true ∧ ∀ H', Same H H' → Q (.bl (f d n)) H'
def spOne (K : PySem.W.Frag) : Sp := fun vs H Q _ => ∃ (x : V) (d : PyData) (a : Addr) (ws : List Str), vs = [x, .ref a] ∧ Dp K H x d ∧ (SqL K H a (ws.map V.str) ∨ SqT K H a (ws.map V.str)) ∧ ∀ H', Same H H' → Q (.bl (pOne d ws)) H'
def spChild (K : PySem.W.Frag) : Sp := fun vs H Q _ => ∃ (x : V) (d : PyData) (k : Str), vs = [.str k, x] ∧ Dp K H x d ∧ ∀ H', Same H H' → Q (.bl (pChild k d)) H'
def spPart (K : PySem.W.Frag) : Sp := fun vs H Q _ => ∃ (x : V) (d : PyData) (k : Str) (n : Int), vs = [.str k, x, .int n] ∧ Dp K H x d ∧ lenOk d = true ∧ ∀ H', Same H H' → Q (.bl (pPart k d n)) H'

abbrev s_is_whole : Stmt := topS 1
theorem sc_is_whole : FnScope [("thing" : Str)] ["thing"] (defScope s_is_whole) := ⟨rfl, rfl, rfl, by decide +kernel, rfl, by decide +kernel, by decide +kernel⟩
theorem ok_is_whole {f : Addr} {fd : FuncData} (F : FnP K "is_whole" s_is_whole f fd) (T : Bi K w mg tL es nF) : FnOk P w K mg base CX0 1 f fd ["thing"] (spD K pWhole) := by
  refine F.ok sc_is_whole (fun vs H Q E h => ?_) (fun cdv A outer s H vs Q E hr h => ?_)
  · obtain ⟨x, d, rfl, _⟩ := h
    rfl
  · obtain ⟨x, d, rfl, hd, k⟩ := h
    refine ⟨_, PSs.nox (pss_one (ps_ret (pe_and (pe_callB call_isi (by rfl) T.n_isinstance boot_isinstance (pa_cons (pv 0) (pa_cons (pe_bltn (v := .ty "int") (by rfl) T.n_int boot_int rfl) pa_nil))) (pe_one (pe_not (pe_callB call_isi (by rfl) T.n_isinstance boot_isinstance (pa_cons (pv 0) (pa_cons (pe_bltn (v := .ty "bool") (by rfl) T.n_bool boot_bool rfl) pa_nil)))))))), ?_⟩
    refine ⟨x, rfl, x, _, _, _, _, rfl, .ty _, tyx_of hd, kit_int (nd_of hd), _, rfl, ?_⟩
    have k := k H (Same.refl H)
    cases hd with
    | int i => exact iteT ⟨_, rfl, _, _, _, _, _, rfl, .ty _, tyx_of (.int i), kit_bool (d := .int i) rfl, _, rfl, k⟩
    | bl b => exact iteT ⟨_, rfl, _, _, _, _, _, rfl, .ty _, tyx_of (.bl b), kit_bool (d := .bool b) rfl, _, rfl, k⟩
    | _ => exact iteF k
abbrev s_is_natural : Stmt := topS 2
theorem sc_is_natural : FnScope [("thing" : Str)] ["thing"] (defScope s_is_natural) := ⟨rfl, rfl, rfl, by decide +kernel, rfl, by decide +kernel, by decide +kernel⟩
theorem ok_is_natural {f : Addr} {fd : FuncData} (F : FnP K "is_natural" s_is_natural f fd) (T : Bi K w mg tL es nF) (c_is_whole : Cal P w K mg base "is_whole" ["thing"] 1 (spD K pWhole)) : FnOk P w K mg base CX0 2 f fd ["thing"] (spD K pNat) := by
  refine F.ok sc_is_natural (fun vs H Q E h => ?_) (fun cdv A outer s H vs Q E hr h => ?_)
  · obtain ⟨x, d, rfl, _⟩ := h
    rfl
  · obtain ⟨x, d, rfl, hd, k⟩ := h
    refine ⟨_, PSs.nox (pss_one (ps_ret (pe_and (pe_cal c_is_whole (hr.mono (by decide)) (by rfl) pass0 (pa_cons (pv 0) pa_nil)) (pe_one (pe_cmpR op_ge (pv 0) pe_int (nomark _)))))), ?_⟩
    refine ⟨x, rfl, x, d, rfl, hd, fun H1 s1 => ⟨_, rfl, ?_⟩⟩
    have k := k H1 s1
    cases hd <;> first | exact iteF k | exact iteT ⟨_, rfl, _, _, rfl, rfl, k⟩
abbrev s_is_small : Stmt := topS 3
theorem sc_is_small : FnScope [("thing" : Str)] ["thing"] (defScope s_is_small) := ⟨rfl, rfl, rfl, by decide +kernel, rfl, by decide +kernel, by decide +kernel⟩
theorem ok_is_small {f : Addr} {fd : FuncData} (F : FnP K "is_small" s_is_small f fd) (T : Bi K w mg tL es nF) (c_is_whole : Cal P w K mg base "is_whole" ["thing"] 1 (spD K pWhole)) : FnOk P w K mg base CX0 2 f fd ["thing"] (spD K pSmall) := by
  refine F.ok sc_is_small (fun vs H Q E h => ?_) (fun cdv A outer s H vs Q E hr h => ?_)
  · obtain ⟨x, d, rfl, _⟩ := h
    rfl
  · obtain ⟨x, d, rfl, hd, k⟩ := h
    refine ⟨_, PSs.nox (pss_one (ps_ret (pe_and (pe_cal c_is_whole (hr.mono (by decide)) (by rfl) pass0 (pa_cons (pv 0) pa_nil)) (pe_one (pe_chain op_le op_le pe_int (pv 0) pe_int))))), ?_⟩
    refine ⟨x, rfl, x, d, rfl, hd, fun H1 s1 => ⟨_, rfl, ?_⟩⟩
    have k := k H1 s1
    cases hd with
    | int i =>
      refine iteT ⟨_, rfl, _, _, rfl, rfl, _, rfl, ?_⟩
      have k : Q (.bl (decide (0 ≤ i) && decide (i ≤ 99))) H1 := k
      cases e : decide (0 ≤ i) with
      | true =>
        rw [e] at k
        exact iteT ⟨_, _, rfl, rfl, k⟩
      | false =>
        rw [e] at k
        exact iteF k
    | _ => exact iteF k
abbrev s_is_one_of : Stmt := topS 4
theorem sc_is_one_of : FnScope [("thing" : Str), ("words" : Str)] ["thing", "words"] (defScope s_is_one_of) := ⟨rfl, rfl, rfl, by decide +kernel, rfl, by decide +kernel, by decide +kernel⟩
theorem ok_is_one_of {f : Addr} {fd : FuncData} (F : FnP K "is_one_of" s_is_one_of f fd) (T : Bi K w mg tL es nF) : FnOk P w K mg base CX0 1 f fd ["thing", "words"] (spOne K) := by
  refine F.ok sc_is_one_of (fun vs H Q E h => ?_) (fun cdv A outer s H vs Q E hr h => ?_)
  · obtain ⟨x, d, a, ws, rfl, _⟩ := h
    rfl
  · obtain ⟨x, d, a, ws, rfl, hd, ha, k⟩ := h
    refine ⟨_, PSs.nox (pss_one (ps_ret (pe_and (pe_callB call_isi (by rfl) T.n_isinstance boot_isinstance (pa_cons (pv 0) (pa_cons (pe_bltn (v := .ty "str") (by rfl) T.n_str boot_str rfl) pa_nil))) (pe_one (pe_cmpR op_in_seq (pv 0) (pv 1) (by rfl)))))), ?_⟩
    refine ⟨x, rfl, x, _, _, _, _, rfl, .ty _, tyx_of hd, kit_str (nd_of hd), _, rfl, ?_⟩
    have k := k H (Same.refl H)
    cases hd with
    | str z => exact iteT ⟨_, rfl, _, rfl, a, _, rfl, ha, rfl, flat_strs ws, in_k k⟩
    | _ => exact iteF k
abbrev s_is_signal : Stmt := topS 8
theorem sc_is_signal : FnScope [("thing" : Str)] ["thing"] (defScope s_is_signal) := ⟨rfl, rfl, rfl, by decide +kernel, rfl, by decide +kernel, by decide +kernel⟩
theorem ok_is_signal {f : Addr} {fd : FuncData} (F : FnP K "is_signal" s_is_signal f fd) (T : Bi K w mg tL es nF) (c_is_one_of : Cal P w K mg base "is_one_of" ["thing", "words"] 1 (spOne K)) : FnOk P w K mg base CX0 2 f fd ["thing"] (spD K fun d => pOne d sig9) := by
  refine F.ok sc_is_signal (fun vs H Q E h => ?_) (fun cdv A outer s H vs Q E hr h => ?_)
  · obtain ⟨x, d, rfl, _⟩ := h
    rfl
  · obtain ⟨x, d, rfl, hd, k⟩ := h
    refine ⟨_, PSs.nox (pss_one (ps_ret (pe_cal c_is_one_of (hr.mono (by decide)) (by rfl) pass0 (pa_cons (pv 0) (pa_cons (pe_glob (by rfl) T.g_SIGNALS T.r_SIGNALS) pa_nil))))), ?_⟩
    exact ⟨x, rfl, x, d, _, sig9, rfl, hd, .inr (T.sig H), k⟩
abbrev s_is_loose : Stmt := topS 9
theorem sc_is_loose : FnScope [("thing" : Str)] ["thing"] (defScope s_is_loose) := ⟨rfl, rfl, rfl, by decide +kernel, rfl, by decide +kernel, by decide +kernel⟩
theorem ok_is_loose {f : Addr} {fd : FuncData} (F : FnP K "is_loose" s_is_loose f fd) (T : Bi K w mg tL es nF) (c_is_signal : Cal P w K mg base "is_signal" ["thing"] 2 (spD K fun d => pOne d sig9)) : FnOk P w K mg base CX0 3 f fd ["thing"] (spD K pLoose) := by
  refine F.ok sc_is_loose (fun vs H Q E h => ?_) (fun cdv A outer s H vs Q E hr h => ?_)
  · obtain ⟨x, d, rfl, _⟩ := h
    rfl
  · obtain ⟨x, d, rfl, hd, k⟩ := h
    refine ⟨_, PSs.nox (pss_one (ps_ret (pe_and (pe_cal c_is_signal (hr.mono (by decide)) (by rfl) pass0 (pa_cons (pv 0) pa_nil)) (pe_one (pe_cmpR op_notIn_seq (pv 0) (pe_glob (by rfl) T.g_SURE T.r_SURE) (by rfl)))))), ?_⟩
    refine ⟨x, rfl, x, d, rfl, hd, fun H1 s1 => ⟨_, rfl, ?_⟩⟩
    have k := k H1 s1
    cases hd with
    | str z =>
      have k : Q (.bl (decide (z ∈ sig9) && !decide (z ∈ sure))) H1 := k
      show if decide (z ∈ sig9) = true then _ else _
      cases e : decide (z ∈ sig9) with
      | true =>
        rw [e] at k
        exact iteT ⟨_, rfl, _, _, rfl, .inr (T.sur H1), rfl, flat_strs sure, notin_k k⟩
      | false =>
        rw [e] at k
        exact iteF k
    | _ => exact iteF k
end
end Kin
namespace Kin
open PySem PySem.Spec PyProof.Rows L2
section
variable {P : Program} {w : World} {K : PySem.W.Frag} {mg : Str → Option Value} {base : Heap} {tL : Tok} {es : Array DictEntry} {nF : Nat}
abbrev s_is_row_number : Stmt := topS 15
theorem sc_is_row_number : FnScope [("thing" : Str), ("size" : Str)] ["thing", "size"] (defScope s_is_row_number) := ⟨rfl, rfl, rfl, by decide +kernel, rfl, by decide +kernel, by decide +kernel⟩
theorem ok_is_row_number {f : Addr} {fd : FuncData} (F : FnP K "is_row_number" s_is_row_number f fd) (T : Bi K w mg tL es nF) (c_is_natural : Cal P w K mg base "is_natural" ["thing"] 2 (spD K pNat)) : FnOk P w K mg base CX0 3 f fd ["thing", "size"] (spDI K pRowNo) := by
  refine F.ok sc_is_row_number (fun vs H Q E h => ?_) (fun cdv A outer s H vs Q E hr h => ?_)
  · obtain ⟨x, d, n, rfl, _⟩ := h
    rfl
  · obtain ⟨x, d, n, rfl, hd, k⟩ := h
    refine ⟨_, PSs.nox (pss_one (ps_ret (pe_and (pe_cal c_is_natural (hr.mono (by decide)) (by rfl) pass0 (pa_cons (pv 0) pa_nil)) (pe_one (pe_cmpR op_lt (pv 0) (pv 1) (nomark _)))))), ?_⟩
    refine ⟨x, rfl, x, d, rfl, hd, fun H1 s1 => ⟨_, rfl, ?_⟩⟩
    have k := k H1 s1
    cases hd with
    | int i =>
      have k : Q (.bl (decide (0 ≤ i) && decide (i < n))) H1 := k
      show if decide (0 ≤ i) = true then _ else _
      cases e : decide (0 ≤ i) with
      | true =>
        rw [e] at k
        exact iteT ⟨_, rfl, _, rfl, _, _, rfl, rfl, k⟩
      | false =>
        rw [e] at k
        exact iteF k
    | _ => exact iteF k
end
end Kin
namespace Kin
open PySem PySem.Spec PyProof.Rows L2
section
variable {P : Program} {w : World} {K : PySem.W.Frag} {mg : Str → Option Value} {base : Heap} {tL : Tok} {es : Array DictEntry} {nF : Nat}
abbrev s_are_loose : Stmt := topS 10
theorem sc_are_loose : FnScope [("thing" : Str), ("least" : Str), ("signal" : Str), ("place" : Str)] ["thing"] (defScope s_are_loose) := ⟨rfl, rfl, rfl, by decide +kernel, rfl, by decide +kernel, by decide +kernel⟩
theorem ok_are_loose {f : Addr} {fd : FuncData} (F : FnP K "are_loose" s_are_loose f fd) (T : Bi K w mg tL es nF) (c_is_loose : Cal P w K mg base "is_loose" ["thing"] 3 (spD K pLoose)) : FnOk P w K mg base CX0 4 f fd ["thing"] (spD K pAre) := by
  refine F.ok sc_are_loose (fun vs H Q E h => ?_) (fun cdv A outer s H vs Q E hr h => ?_)
  · obtain ⟨x, d, rfl, _⟩ := h
    rfl
  · obtain ⟨x, d, rfl, hd, k⟩ := h
    refine ⟨_, PSs.nox (pss_cons (ps_if (pt_not (pt_val (pe_callB call_isi (by rfl) T.n_isinstance boot_isinstance (pa_cons (pv 0) (pa_cons (pe_bltn (v := .ty "tuple") (by rfl) T.n_tuple boot_tuple rfl) pa_nil))))) (pss_one (ps_ret pe_bl)) pss_nil) (pss_cons (ps_set (i := 1) sc_are_loose.nd rfl (by first | exact .inl rfl | exact .inr rfl) pe_int) (pss_cons (ps_for PassesOwn.never rfl (pi_tup (pv 0)) (pg_name (i := 2) sc_are_loose.nd rfl (by first | exact .inl rfl | exact .inr rfl)) (pss_cons (ps_if (pt_not (pt_val (pe_cal c_is_loose (hr.mono (by decide)) (by rfl) pass0 (pa_cons (pv 2) pa_nil)))) (pss_one (ps_ret pe_bl)) pss_nil) (pss_cons (ps_set (i := 3) sc_are_loose.nd rfl (by first | exact .inl rfl | exact .inr rfl) (pe_bm PySem.F.plainAttrs_tuple PySem.F.slot_tuple_index PySem.F.type_tuple_index mt_tup_index (pe_glob (by rfl) T.g_SIGNALS T.r_SIGNALS) (pa_cons (pv 2) pa_nil))) (pss_cons (ps_if (pt_cmpR op_lt (pv 3) (pv 1) (nomark _)) (pss_one (ps_ret pe_bl)) pss_nil) (pss_one (ps_set (i := 1) sc_are_loose.nd rfl (by first | exact .inl rfl | exact .inr rfl) (pe_op op_add (pv 3) pe_int))))))) (pss_one (ps_ret pe_bl))))), ?_⟩
    refine ⟨x, rfl, x, _, _, _, _, rfl, .ty _, tyx_of hd, kit_tup (nd_of hd), _, rfl, ?_⟩
    cases hd with
    | @tup a xs ds ha hds =>
      refine iteF ⟨_, rfl, a, rfl, ⟨xs, ha⟩, ?_⟩
      refine for_tup (K := K) (a := a) (xs := xs) (fun i σ H' => ∃ (least : Nat) (y z : Option V), σ = [some (.ref a), some (.int (least : Int)), y, z] ∧ Same H H' ∧ pLoop 0 ds = pLoop least (ds.drop i))
        ⟨0, none, none, rfl, Same.refl H, rfl⟩ (fun i σ H' _ ⟨_, _, _, _, s1, _⟩ => Same.tup s1 ha) ?_ ?_
      · rintro i v σ H' hi ⟨least, y, z, rfl, s1, e⟩
        obtain ⟨d, hd1, hd2⟩ := dpA_get hds hi
        have hdd : ds.drop i = d :: ds.drop (i + 1) := by
          have hl : i < ds.length := (List.getElem?_eq_some_iff.mp hd1).1
          rw [List.drop_eq_getElem_cons hl]
          rw [List.getElem?_eq_getElem hl] at hd1
          cases hd1
          rfl
        rw [hdd] at e
        refine ⟨v, rfl, v, d, rfl, dp_mono s1 hd2, fun H2 s2 => ⟨_, rfl, ?_⟩⟩
        cases hL : pLoose d with
        | false =>
          refine iteT ?_
          have e2 : pLoop least (d :: ds.drop (i + 1)) = false := by
            cases d with
            | str z => rw [pLoop_str, hL]; rfl
            | _ => rfl
          have q := k H2 (s1.trans s2)
          rw [show pAre (.tuple ds) = pLoop 0 ds from rfl, e, e2] at q
          exact q
        | true =>
          refine iteF ?_
          cases hd2 with
          | str w =>
            have hw : w ∈ sig9 := by
              have q : (decide (w ∈ sig9) && !decide (w ∈ sure)) = true := hL
              exact of_decide_eq_true (Bool.and_eq_true_iff.mp q).1
            have hlt : sig9.idxOf w < sig9.length := List.idxOf_lt_length_iff.mpr hw
            refine ⟨.inr (.inl ⟨rfl, T.sigK⟩), _, rfl, _, sig9, w, sig9.idxOf w, rfl, rfl, T.sig H2, ?_, ?_, ?_⟩
            · rw [List.getElem?_eq_getElem hlt, List.getElem_idxOf]
            · intro m hm
              exact idx_min hm
            · rw [pLoop_str, hL, if_pos rfl] at e
              refine ⟨_, rfl, _, rfl, _, _, rfl, rfl, _, rfl, ?_⟩
              by_cases hc : ((sig9.idxOf w : Nat) : Int) < (least : Int)
              · rw [decide_eq_true hc]
                refine iteT ?_
                rw [if_pos (by omega)] at e
                have q := k H2 (s1.trans s2)
                rw [show pAre (.tuple ds) = pLoop 0 ds from rfl, e] at q
                exact q
              · rw [decide_eq_false hc]
                refine iteF ?_
                rw [if_neg (by omega)] at e
                exact ⟨_, rfl, _, _, rfl, rfl, sig9.idxOf w + 1, some (.str w), some (.int (sig9.idxOf w : Nat)), rfl, s1.trans s2, e⟩
          | _ => cases hL
      · rintro σ H' ⟨least, y, z, rfl, s1, e⟩
        have hz : ds.drop xs.length = [] := List.drop_eq_nil_of_le (by rw [dpA_len hds]; exact Nat.le_refl _)
        rw [hz, pLoop_nil] at e
        have q := k H' s1
        rw [show pAre (.tuple ds) = pLoop 0 ds from rfl, e] at q
        exact q
    | _ => exact iteT (k H (Same.refl H))
end
end Kin
namespace Kin
open PySem PySem.Spec PyProof.Rows L2
section
variable {P : Program} {w : World} {K : PySem.W.Frag} {mg : Str → Option Value} {base : Heap} {tL : Tok} {es : Array DictEntry} {nF : Nat}
abbrev s_is_handler : Stmt := topS 16
theorem sc_is_handler : FnScope [("thing" : Str), ("size" : Str)] ["thing", "size"] (defScope s_is_handler) := ⟨rfl, rfl, rfl, by decide +kernel, rfl, by decide +kernel, by decide +kernel⟩
theorem ok_is_handler {f : Addr} {fd : FuncData} (F : FnP K "is_handler" s_is_handler f fd) (T : Bi K w mg tL es nF) (c_is_row_number : Cal P w K mg base "is_row_number" ["thing", "size"] 3 (spDI K pRowNo)) (c_are_loose : Cal P w K mg base "are_loose" ["thing"] 4 (spD K pAre)) : FnOk P w K mg base CX0 5 f fd ["thing", "size"] (spDI K pHandler) := by
  refine F.ok sc_is_handler (fun vs H Q E h => ?_) (fun cdv A outer s H vs Q E hr h => ?_)
  · obtain ⟨x, d, n, rfl, _⟩ := h
    rfl
  · obtain ⟨x, d, n, rfl, hd, k⟩ := h
    refine ⟨_, PSs.nox (pss_cons (ps_if (PW.pt (pw_or (pt_not (pt_val (pe_callB call_isi (by rfl) T.n_isinstance boot_isinstance (pa_cons (pv 0) (pa_cons (pe_bltn (v := .ty "tuple") (by rfl) T.n_tuple boot_tuple rfl) pa_nil))))) (pw_or1 (pt_cmpR op_ne (pe_callB call_len_seq (by rfl) T.n_len PySem.boot_len (pa_cons (pv 0) pa_nil)) pe_int (nomark _))))) (pss_one (ps_ret pe_bl)) pss_nil) (pss_one (ps_ret (pe_and (pe_cal c_is_row_number (hr.mono (by decide)) (by rfl) pass0 (pa_cons (pe_ix ix_tup (pv 0) pe_int (fun _ _ => rfl)) (pa_cons (pv 1) pa_nil))) (pe_one (pe_cal c_are_loose (hr.mono (by decide)) (by rfl) pass0 (pa_cons (pe_ix ix_tup (pv 0) pe_int (fun _ _ => rfl)) pa_nil))))))), ?_⟩
    refine ⟨x, rfl, x, _, _, _, _, rfl, .ty _, tyx_of hd, kit_tup (nd_of hd), _, rfl, ?_⟩
    cases hd with
    | @tup a xs ds ha hds =>
      refine iteF ⟨_, rfl, a, xs, rfl, .inr ha, rfl, _, rfl, ?_⟩
      have hl := dpA_len hds
      refine iteLen (fun hne => ?_) (fun heq => ?_)
      · have e : pHandler (.tuple ds) n = false := by
          match ds, hl with
          | [], _ => rfl
          | [_], _ => rfl
          | [_, _], hl =>
            rw [hl] at hne
            exact absurd rfl hne
          | _ :: _ :: _ :: _, _ => rfl
        have q := k H (Same.refl H)
        rw [e] at q
        exact q
      · have hl2 : xs.length = 2 := by omega
        obtain ⟨x1, x2, rfl⟩ : ∃ x1 x2, xs = [x1, x2] := by
          match xs, hl2 with
          | [x1, x2], _ => exact ⟨x1, x2, rfl⟩
        cases hds with
        | @cons _ _ d1 _ h1 ht =>
          cases ht with
          | @cons _ _ d2 _ h2 ht2 =>
            cases ht2
            refine ⟨_, rfl, a, _, 0, x1, rfl, rfl, ha, rfl, _, rfl, x1, d1, n, rfl, h1, fun H1 s1 => ⟨_, rfl, ?_⟩⟩
            have q0 : ∀ H', Same H H' → Q (.bl (pRowNo d1 n && pAre d2)) H' := k
            cases e : pRowNo d1 n with
            | true =>
              refine iteT ⟨_, rfl, a, _, 1, x2, rfl, rfl, Same.tup s1 ha, rfl, x2, d2, rfl, dp_mono s1 h2, fun H2 s2 => ?_⟩
              have q := q0 H2 (s1.trans s2)
              rw [e] at q
              exact q
            | false =>
              have q := q0 H1 s1
              rw [e] at q
              exact iteF q
    | _ => exact iteT (k H (Same.refl H))
end
end Kin
namespace Kin
open PySem PySem.Spec PyProof.Rows L2
section
variable {P : Program} {w : World} {K : PySem.W.Frag} {mg : Str → Option Value} {base : Heap} {tL : Tok} {es : Array DictEntry} {nF : Nat}
abbrev s_is_child_part : Stmt := topS 17
theorem sc_is_child_part : FnScope [("kind" : Str), ("part" : Str)] ["kind", "part"] (defScope s_is_child_part) := ⟨rfl, rfl, rfl, by decide +kernel, rfl, by decide +kernel, by decide +kernel⟩
theorem ok_is_child_part {f : Addr} {fd : FuncData} (F : FnP K "is_child_part" s_is_child_part f fd) (T : Bi K w mg tL es nF) (c_is_natural : Cal P w K mg base "is_natural" ["thing"] 2 (spD K pNat)) (c_is_one_of : Cal P w K mg base "is_one_of" ["thing", "words"] 1 (spOne K)) : FnOk P w K mg base CX0 3 f fd ["kind", "part"] (spChild K) := by
  refine F.ok sc_is_child_part (fun vs H Q E h => ?_) (fun cdv A outer s H vs Q E hr h => ?_)
  · obtain ⟨x, d, kd, rfl, _⟩ := h
    rfl
  · obtain ⟨x, d, kd, rfl, hd, k⟩ := h
    refine ⟨_, PSs.nox (pss_cons (ps_if (pt_val (pe_cal c_is_natural (hr.mono (by decide)) (by rfl) pass0 (pa_cons (pv 1) pa_nil))) (pss_one (ps_ret pe_bl)) pss_nil) (pss_cons (ps_if (pt_cmpR op_eq (pv 0) pe_str (nomark _)) (pss_one (ps_ret (pe_cmpR op_isN (pv 1) pe_non (nomark _)))) pss_nil) (pss_cons (ps_if (pt_cmpR op_eq (pv 0) pe_str (nomark _)) (pss_one (ps_ret (pe_cal c_is_one_of (hr.mono (by decide)) (by rfl) pass0 (pa_cons (pv 1) (pa_cons (pe_tup (pa_cons pe_str pa_nil)) pa_nil))))) pss_nil) (pss_one (ps_ret (pe_cal c_is_one_of (hr.mono (by decide)) (by rfl) pass0 (pa_cons (pv 1) (pa_cons (pe_tup (pa_cons pe_str (pa_cons pe_str (pa_cons pe_str pa_nil)))) pa_nil)))))))), ?_⟩
    refine ⟨x, rfl, x, d, rfl, hd, fun H1 s1 => ⟨_, rfl, ?_⟩⟩
    unfold pChild at k
    refine ite2 (fun e => ?_) (fun e => ?_)
    · rw [if_pos e] at k
      exact k H1 s1
    · rw [if_neg e] at k
      refine ⟨_, rfl, rfl, _, rfl, ?_⟩
      rw [dec_str]
      refine ite2 (fun e1 => ?_) (fun e1 => ?_)
      · rw [if_pos (of_decide_eq_true e1)] at k
        refine ⟨_, rfl, rfl, ?_⟩
        have q := k H1 s1
        cases hd <;> exact q
      · rw [if_neg (fun z => e1 (decide_eq_true z))] at k
        refine ⟨_, rfl, rfl, _, rfl, ?_⟩
        rw [dec_str]
        refine ite2 (fun e2 => ?_) (fun e2 => ?_)
        · rw [if_pos (of_decide_eq_true e2)] at k
          refine ⟨_, rfl, (by show 1 ≤ sizeLine; decide), fun p hp => ⟨x, d, p, ["self"], rfl, dp_mono (s1.trans (same_upd hp)) hd, .inr sqT_new, fun H2 s2 => k H2 ((s1.trans (same_upd hp)).trans s2)⟩⟩
        · rw [if_neg (fun z => e2 (decide_eq_true z))] at k
          refine ⟨_, rfl, (by show 3 ≤ sizeLine; decide), fun p hp => ⟨x, d, p, ["self", "parent", "group"], rfl, dp_mono (s1.trans (same_upd hp)) hd, .inr sqT_new, fun H2 s2 => k H2 ((s1.trans (same_upd hp)).trans s2)⟩⟩
end
end Kin
namespace Kin
open PySem PySem.Spec PyProof.Rows L2
section
variable {P : Program} {w : World} {K : PySem.W.Frag} {mg : Str → Option Value} {base : Heap} {tL : Tok} {es : Array DictEntry} {nF : Nat}
abbrev s_is_title : Stmt := topS 14
theorem sc_is_title : FnScope [("thing" : Str), ("letter" : Str)] ["thing"] (defScope s_is_title) := ⟨rfl, rfl, rfl, by decide +kernel, rfl, by decide +kernel, by decide +kernel⟩
theorem title_le (c : Nat) : ((!decide ((⟨#[c]⟩ : Str).cps.toList < ("a" : Str).cps.toList)) && (!decide (("z" : Str).cps.toList < (⟨#[c]⟩ : Str).cps.toList))) = (decide (97 ≤ c) && decide (c ≤ 122)) := by
  have ea : ("a" : Str).cps.toList = [97] := by decide +kernel
  have ez : ("z" : Str).cps.toList = [122] := by decide +kernel
  rw [ea, ez]
  show ((!decide (([c] : List Nat) < [97])) && (!decide (([122] : List Nat) < [c]))) = _
  rw [lt1, lt1]
  by_cases h1 : c < 97
  · rw [decide_eq_true h1, decide_eq_false (show ¬ 97 ≤ c by omega)]
    rfl
  · rw [decide_eq_false h1, decide_eq_true (show 97 ≤ c by omega)]
    by_cases h2 : 122 < c
    · rw [decide_eq_true h2, decide_eq_false (show ¬ c ≤ 122 by omega)]
      rfl
    · rw [decide_eq_false h2, decide_eq_true (show c ≤ 122 by omega)]
      rfl
theorem ok_is_title {f : Addr} {fd : FuncData} (F : FnP K "is_title" s_is_title f fd) (T : Bi K w mg tL es nF) : FnOk P w K mg base CX0 1 f fd ["thing"] (spDL K pTitle) := by
  refine F.ok sc_is_title (fun vs H Q E h => ?_) (fun cdv A outer s H vs Q E hr h => ?_)
  · obtain ⟨x, d, rfl, _⟩ := h
    rfl
  · obtain ⟨x, d, rfl, hd, hok, k⟩ := h
    refine ⟨_, PSs.nox (pss_cons (ps_if (PW.pt (pw_or (pt_not (pt_val (pe_callB call_isi (by rfl) T.n_isinstance boot_isinstance (pa_cons (pv 0) (pa_cons (pe_bltn (v := .ty "str") (by rfl) T.n_str boot_str rfl) pa_nil))))) (pw_or1 (pt_not (pt_chain op_le op_le pe_int (pe_callB call_len_str (by rfl) T.n_len PySem.boot_len (pa_cons (pv 0) pa_nil)) (pe_glob (by rfl) T.g_LONGEST_TITLE T.r_LONGEST_TITLE)))))) (pss_one (ps_ret pe_bl)) pss_nil) (pss_one (ps_ret (pe_callB (cr_all rfl) (by rfl) T.n_all boot_all (pa_cons (pe_lc (own := [(("letter" : Str), 1)]) (g := gName 1) rfl sc_is_title.nd (pi_str (pv 0)) (blkOk_by (N := [("thing" : Str), ("letter" : Str)]) (sc := defScope s_is_title) (by decide +kernel)) (fun _ _ _ _ _ => by exact (pg_name (i := 1) sc_is_title.nd rfl (by first | exact .inl rfl | exact .inr rfl))) (fun _ _ _ _ _ => pts_nil) (fun _ _ _ _ _ => (pe_chain op_le_str op_le_str pe_str (pv 1) pe_str))) pa_nil))))), ?_⟩
    refine ⟨x, rfl, x, _, _, _, _, rfl, .ty _, tyx_of hd, kit_str (nd_of hd), _, rfl, ?_⟩
    cases hd with
    | str z =>
      have k : ∀ H', Same H H' → Q (.bl (decide (1 ≤ z.length) && decide (z.length ≤ 8) && azAll z)) H' := k
      have hz : z.length ≤ 100000 := lenOk_str hok
      have hf : Q (.bl (decide (1 ≤ z.length) && decide (z.length ≤ 8) && azAll z)) H := k H (Same.refl H)
      refine iteF ⟨_, rfl, z, rfl, Nat.le_trans hz (by decide), _, _, rfl, rfl, _, rfl, ?_⟩
      refine ite2 (fun e1 => ?_) (fun e1 => ?_)
      · have e1 : (1 : Int) ≤ (z.length : Int) := of_decide_eq_true e1
        refine ⟨_, _, rfl, rfl, _, rfl, ?_⟩
        by_cases e2 : (z.length : Int) ≤ 8
        · rw [decide_eq_true e2]
          refine iteF ⟨_, rfl, z, rfl, fun D hD => ?_⟩
          refine lc_vals (walk_str (z := z)) (fun i => .bl ((z.cps.toList[i]?.map fun c => decide (97 ≤ c) && decide (c ≤ 122)).getD true)) hD ?_ (fun _ _ => True.intro) ?_ ?_
          · exact Nat.le_trans hz (by decide)
          · rintro i v H' H'' Qe hi s1 ⟨rfl, c, hc, rfl⟩ q
            refine ⟨rfl, ?_⟩
            have q := q H'' (Same.refl H'')
            have ec : z.cps.toList[i]? = some c := by rw [Array.getElem?_toList]; exact hc
            rw [ec] at q
            have q : Qe (.bl (decide (97 ≤ c) && decide (c ≤ 122))) H'' := q
            rw [← title_le c] at q
            refine ⟨_, rfl, _, _, rfl, rfl, _, rfl, ?_⟩
            cases e3 : (!decide ((⟨#[c]⟩ : Str).cps.toList < ("a" : Str).cps.toList)) with
            | true =>
              rw [e3] at q
              exact iteT ⟨_, _, rfl, rfl, q⟩
            | false =>
              rw [e3] at q
              exact iteF q
          · intro H' s1 hl
            refine ⟨D, (List.range z.cps.size).map fun i => (z.cps.toList[i]?.map fun c => decide (97 ≤ c) && decide (c ≤ 122)).getD true, rfl, .inl (.inl ?_), ?_⟩
            · rw [hl, List.map_map]
              rfl
            · have em : (List.range z.cps.size).map (fun i => (z.cps.toList[i]?.map fun c => decide (97 ≤ c) && decide (c ≤ 122)).getD true) = z.cps.toList.map fun c => decide (97 ≤ c) && decide (c ≤ 122) := by
                rw [show z.cps.size = z.cps.toList.length by simp]
                exact map_range_eq fun i x hx => by rw [hx]; rfl
              rw [em, all_id]
              have q := k H' s1
              rw [decide_eq_true (show 1 ≤ z.length by omega), decide_eq_true (show z.length ≤ 8 by omega)] at q
              exact q
        · rw [decide_eq_false e2]
          refine iteT ?_
          rw [decide_eq_false (show ¬ z.length ≤ 8 by omega), Bool.and_false] at hf
          exact hf
      · have e1 : ¬ (1 : Int) ≤ (z.length : Int) := fun q => e1 (decide_eq_true q)
        refine ⟨_, rfl, ?_⟩
        refine iteT ?_
        rw [decide_eq_false (show ¬ 1 ≤ z.length by omega)] at hf
        exact hf
    | _ => exact iteT (k H (Same.refl H))
end
end Kin
namespace Kin
open PySem PySem.Spec PyProof.Rows L2
section
variable {P : Program} {w : World} {K : PySem.W.Frag} {mg : Str → Option Value} {base : Heap} {tL : Tok} {es : Array DictEntry} {nF : Nat}
abbrev s_is_part : Stmt := topS 18
theorem sc_is_part : FnScope [("kind" : Str), ("part" : Str), ("size" : Str)] ["kind", "part", "size"] (defScope s_is_part) := ⟨rfl, rfl, rfl, by decide +kernel, rfl, by decide +kernel, by decide +kernel⟩
theorem ok_is_part {f : Addr} {fd : FuncData} (F : FnP K "is_part" s_is_part f fd) (T : Bi K w mg tL es nF) (c_is_title : Cal P w K mg base "is_title" ["thing"] 1 (spDL K pTitle)) (c_is_small : Cal P w K mg base "is_small" ["thing"] 2 (spD K pSmall)) (c_is_whole : Cal P w K mg base "is_whole" ["thing"] 1 (spD K pWhole)) (c_is_row_number : Cal P w K mg base "is_row_number" ["thing", "size"] 3 (spDI K pRowNo)) (c_is_signal : Cal P w K mg base "is_signal" ["thing"] 2 (spD K fun d => pOne d sig9))
    (c_is_loose : Cal P w K mg base "is_loose" ["thing"] 3 (spD K pLoose)) (c_are_loose : Cal P w K mg base "are_loose" ["thing"] 4 (spD K pAre)) (c_is_one_of : Cal P w K mg base "is_one_of" ["thing", "words"] 1 (spOne K)) (c_is_handler : Cal P w K mg base "is_handler" ["thing", "size"] 5 (spDI K pHandler)) (c_is_child_part : Cal P w K mg base "is_child_part" ["kind", "part"] 3 (spChild K)) : FnOk P w K mg base CX0 6 f fd ["kind", "part", "size"] (spPart K) := by
  refine F.ok sc_is_part (fun vs H Q E h => ?_) (fun cdv A outer s H vs Q E hr h => ?_)
  · obtain ⟨x, d, kd, n, rfl, _⟩ := h
    rfl
  · obtain ⟨x, d, kd, n, rfl, hd, hok, k⟩ := h
    refine ⟨_, PSs.nox (pss_cons (ps_if (pt_cmpR op_eq (pv 0) pe_str (nomark _)) (pss_one (ps_ret (pe_cal c_is_title (hr.mono (by decide)) (by rfl) pass0 (pa_cons (pv 1) pa_nil)))) pss_nil) (pss_cons (ps_if (pt_cmpR op_eq (pv 0) pe_str (nomark _)) (pss_one (ps_ret (pe_cal c_is_small (hr.mono (by decide)) (by rfl) pass0 (pa_cons (pv 1) pa_nil)))) pss_nil) (pss_cons (ps_if (pt_cmpR op_eq (pv 0) pe_str (nomark _)) (pss_one (ps_ret (pe_cal c_is_whole (hr.mono (by decide)) (by rfl) pass0 (pa_cons (pv 1) pa_nil)))) pss_nil) (pss_cons (ps_if (pt_cmpR op_eq (pv 0) pe_str (nomark _)) (pss_one (ps_ret (pe_callB call_isi (by rfl) T.n_isinstance boot_isinstance (pa_cons (pv 1) (pa_cons (pe_bltn (v := .ty "bool") (by rfl) T.n_bool boot_bool rfl) pa_nil))))) pss_nil) (pss_cons (ps_if (pt_cmpR op_eq (pv 0) pe_str (nomark _)) (pss_one (ps_ret (pe_cal c_is_row_number (hr.mono (by decide)) (by rfl) pass0 (pa_cons (pv 1) (pa_cons (pv 2) pa_nil))))) pss_nil) (pss_cons (ps_if (pt_cmpR op_eq (pv 0) pe_str (nomark _)) (pss_one (ps_ret (pe_cal c_is_signal (hr.mono (by decide)) (by rfl) pass0 (pa_cons (pv 1) pa_nil)))) pss_nil) (pss_cons (ps_if (pt_cmpR op_eq (pv 0) pe_str (nomark _)) (pss_one (ps_ret (pe_cal c_is_loose (hr.mono (by decide)) (by rfl) pass0 (pa_cons (pv 1) pa_nil)))) pss_nil) (pss_cons (ps_if (pt_cmpR op_eq (pv 0) pe_str (nomark _)) (pss_one (ps_ret (pe_cal c_are_loose (hr.mono (by decide)) (by rfl) pass0 (pa_cons (pv 1) pa_nil)))) pss_nil) (pss_cons (ps_if (pt_cmpR op_eq (pv 0) pe_str (nomark _)) (pss_one (ps_ret (pe_or (pe_cal c_is_one_of (hr.mono (by decide)) (by rfl) pass0 (pa_cons (pv 1) (pa_cons (pe_tup (pa_cons pe_str (pa_cons pe_str pa_nil))) pa_nil))) (pe_one (pe_cal c_is_handler (hr.mono (by decide)) (by rfl) pass0 (pa_cons (pv 1) (pa_cons (pv 2) pa_nil))))))) pss_nil) (pss_cons (ps_if (pt_cmpR op_eq (pv 0) pe_str (nomark _)) (pss_one (ps_ret (pe_cal c_is_one_of (hr.mono (by decide)) (by rfl) pass0 (pa_cons (pv 1) (pa_cons (pe_tup (pa_cons pe_str (pa_cons pe_str pa_nil))) pa_nil))))) pss_nil) (pss_one (ps_ret (pe_cal c_is_child_part (hr.mono (by decide)) (by rfl) pass0 (pa_cons (pv 0) (pa_cons (pv 1) pa_nil))))))))))))))), ?_⟩
    unfold pPart at k
    refine ⟨_, rfl, rfl, _, rfl, ?_⟩
    rw [dec_str]
    refine ite2 (fun e => ?_) (fun e => ?_)
    · rw [if_pos (of_decide_eq_true e)] at k
      exact ⟨x, rfl, x, d, rfl, hd, hok, fun H1 s1 => k H1 s1⟩
    rw [if_neg (fun z => e (decide_eq_true z))] at k
    refine ⟨_, rfl, rfl, _, rfl, ?_⟩
    rw [dec_str]
    refine ite2 (fun e => ?_) (fun e => ?_)
    · rw [if_pos (of_decide_eq_true e)] at k
      exact ⟨x, rfl, x, d, rfl, hd, fun H1 s1 => k H1 s1⟩
    rw [if_neg (fun z => e (decide_eq_true z))] at k
    refine ⟨_, rfl, rfl, _, rfl, ?_⟩
    rw [dec_str]
    refine ite2 (fun e => ?_) (fun e => ?_)
    · rw [if_pos (of_decide_eq_true e)] at k
      exact ⟨x, rfl, x, d, rfl, hd, fun H1 s1 => k H1 s1⟩
    rw [if_neg (fun z => e (decide_eq_true z))] at k
    refine ⟨_, rfl, rfl, _, rfl, ?_⟩
    rw [dec_str]
    refine ite2 (fun e => ?_) (fun e => ?_)
    · rw [if_pos (of_decide_eq_true e)] at k
      refine ⟨x, rfl, x, _, _, _, _, rfl, .ty _, tyx_of hd, kit_bool (nd_of hd), ?_⟩
      have q := k H (Same.refl H)
      cases hd <;> exact q
    rw [if_neg (fun z => e (decide_eq_true z))] at k
    refine ⟨_, rfl, rfl, _, rfl, ?_⟩
    rw [dec_str]
    refine ite2 (fun e => ?_) (fun e => ?_)
    · rw [if_pos (of_decide_eq_true e)] at k
      exact ⟨x, rfl, _, rfl, x, d, n, rfl, hd, fun H1 s1 => k H1 s1⟩
    rw [if_neg (fun z => e (decide_eq_true z))] at k
    refine ⟨_, rfl, rfl, _, rfl, ?_⟩
    rw [dec_str]
    refine ite2 (fun e => ?_) (fun e => ?_)
    · rw [if_pos (of_decide_eq_true e)] at k
      exact ⟨x, rfl, x, d, rfl, hd, fun H1 s1 => k H1 s1⟩
    rw [if_neg (fun z => e (decide_eq_true z))] at k
    refine ⟨_, rfl, rfl, _, rfl, ?_⟩
    rw [dec_str]
    refine ite2 (fun e => ?_) (fun e => ?_)
    · rw [if_pos (of_decide_eq_true e)] at k
      exact ⟨x, rfl, x, d, rfl, hd, fun H1 s1 => k H1 s1⟩
    rw [if_neg (fun z => e (decide_eq_true z))] at k
    refine ⟨_, rfl, rfl, _, rfl, ?_⟩
    rw [dec_str]
    refine ite2 (fun e => ?_) (fun e => ?_)
    · rw [if_pos (of_decide_eq_true e)] at k
      exact ⟨x, rfl, x, d, rfl, hd, fun H1 s1 => k H1 s1⟩
    rw [if_neg (fun z => e (decide_eq_true z))] at k
    refine ⟨_, rfl, rfl, _, rfl, ?_⟩
    rw [dec_str]
    refine ite2 (fun e => ?_) (fun e => ?_)
    · rw [if_pos (of_decide_eq_true e)] at k
      refine ⟨x, rfl, (by show 2 ≤ sizeLine; decide), fun p hp => ⟨x, d, p, ["plain", "ignore"], rfl, dp_mono (same_upd hp) hd, .inr sqT_new, fun H2 s2 => ⟨_, rfl, ?_⟩⟩⟩
      cases e1 : pOne d ["plain", "ignore"] with
      | true =>
        rw [e1] at k
        exact iteT (k H2 ((same_upd hp).trans s2))
      | false =>
        rw [e1] at k
        exact iteF ⟨x, rfl, _, rfl, x, d, n, rfl, dp_mono ((same_upd hp).trans s2) hd, fun H3 s3 => k H3 (((same_upd hp).trans s2).trans s3)⟩
    rw [if_neg (fun z => e (decide_eq_true z))] at k
    refine ⟨_, rfl, rfl, _, rfl, ?_⟩
    rw [dec_str]
    refine ite2 (fun e => ?_) (fun e => ?_)
    · rw [if_pos (of_decide_eq_true e)] at k
      exact ⟨x, rfl, (by show 2 ≤ sizeLine; decide), fun p hp => ⟨x, d, p, ["new", "mine"], rfl, dp_mono (same_upd hp) hd, .inr sqT_new, fun H2 s2 => k H2 ((same_upd hp).trans s2)⟩⟩
    rw [if_neg (fun z => e (decide_eq_true z))] at k
    exact ⟨_, rfl, x, rfl, x, d, kd, rfl, hd, k⟩
end
end Kin
namespace Kin
open PySem PySem.Spec PyProof.Rows L2
section
variable {P : Program} {w : World} {K : PySem.W.Frag} {mg : Str → Option Value} {base : Heap} {tL : Tok} {es : Array DictEntry} {nF : Nat}
abbrev s_is_row : Stmt := topS 19
theorem sc_is_row : FnScope [("thing" : Str), ("size" : Str), ("word" : Str), ("kinds" : Str), ("kind" : Str), ("part" : Str)] ["thing", "size"] (defScope s_is_row) := ⟨rfl, rfl, rfl, by decide +kernel, rfl, by decide +kernel, by decide +kernel⟩
theorem mem_of_lookup {α : Type} {z : Str} {v : α} : ∀ {l : List (Str × α)}, l.lookup z = some v → (z, v) ∈ l
  | [], h => by cases h
  | (a, b) :: r, h => by
    rw [List.lookup_cons] at h
    by_cases e : z = a
    · subst e
      rw [beq_self_eq_true] at h
      cases Option.some.inj h
      exact List.mem_cons_self
    · have : (z == a) = false := by simpa using e
      rw [this] at h
      exact List.mem_cons_of_mem _ (mem_of_lookup h)
theorem pParts_all (n : Int) : ∀ (ks : List Str) (ps : List PyData), ps.length = ks.length → ((List.range ks.length).map fun i => (match ks[i]?, ps[i]? with | some k, some p => pPart k p n | _, _ => true)).all id = pParts n ks ps
  | [], [], _ => rfl
  | k :: ks, p :: ps, h => by
    rw [List.length_cons, List.range_succ_eq_map, List.map_cons, List.all_cons, List.map_map]
    have ih := pParts_all n ks ps (by simpa using h)
    show (pPart k p n && ((List.range ks.length).map fun i => (match ks[i]?, ps[i]? with | some k, some p => pPart k p n | _, _ => true)).all id) = (pPart k p n && pParts n ks ps)
    rw [ih]
  | [], _ :: _, h => by cases h
  | _ :: _, [], h => by cases h
theorem ok_is_row {f : Addr} {fd : FuncData} (F : FnP K "is_row" s_is_row f fd) (T : Bi K w mg tL es nF) (c_is_part : Cal P w K mg base "is_part" ["kind", "part", "size"] 6 (spPart K)) : FnOk P w K mg base CX0 7 f fd ["thing", "size"] (spRow K pRow) := by
  refine F.ok sc_is_row (fun vs H Q E h => ?_) (fun cdv A outer s H vs Q E hr h => ?_)
  · obtain ⟨x, d, n, rfl, _⟩ := h
    rfl
  · obtain ⟨x, d, n, rfl, hd, hok, k⟩ := h
    refine ⟨_, PSs.nox (pss_cons (ps_if (PW.pt (pw_or (pt_not (pt_val (pe_callB call_isi (by rfl) T.n_isinstance boot_isinstance (pa_cons (pv 0) (pa_cons (pe_bltn (v := .ty "tuple") (by rfl) T.n_tuple boot_tuple rfl) pa_nil))))) (pw_or1 (pt_cmpR op_eq (pe_callB call_len_seq (by rfl) T.n_len PySem.boot_len (pa_cons (pv 0) pa_nil)) pe_int (nomark _))))) (pss_one (ps_ret pe_bl)) pss_nil) (pss_cons (ps_set (i := 2) sc_is_row.nd rfl (by first | exact .inl rfl | exact .inr rfl) (pe_ix ix_tup (pv 0) pe_int (fun _ _ => rfl))) (pss_cons (ps_if (PW.pt (pw_or (pt_not (pt_val (pe_callB call_isi (by rfl) T.n_isinstance boot_isinstance (pa_cons (pv 2) (pa_cons (pe_bltn (v := .ty "str") (by rfl) T.n_str boot_str rfl) pa_nil))))) (pw_or1 (pt_cmpR (op_notIn_kd T.kd) (pv 2) (pe_glob (by rfl) T.g_FORMS T.r_FORMS) (by rfl))))) (pss_one (ps_ret pe_bl)) pss_nil) (pss_cons (ps_set (i := 3) sc_is_row.nd rfl (by first | exact .inl rfl | exact .inr rfl) (pe_ix ix_kdict (pe_glob (by rfl) T.g_FORMS T.r_FORMS) (pv 2) (fun _ _ => rfl))) (pss_cons (ps_if (pt_cmpR op_ne (pe_callB call_len_seq (by rfl) T.n_len PySem.boot_len (pa_cons (pv 0) pa_nil)) (pe_op op_add (pe_callB call_len_seq (by rfl) T.n_len PySem.boot_len (pa_cons (pv 3) pa_nil)) pe_int) (nomark _)) (pss_one (ps_ret pe_bl)) pss_nil) (pss_one (ps_ret (pe_callB (cr_all rfl) (by rfl) T.n_all boot_all (pa_cons (pe_lc (own := [(("kind" : Str), 4), (("part" : Str), 5)]) (g := gTup K 2 (gCons (gName 4) (gCons (gName 5) (gNil)))) rfl sc_is_row.nd (RZ.pi_zipA (by rfl) T.n_zip (pa_cons (pv 3) (pa_cons (pe_slice sl_tupA (pv 0) (po_some pe_int) po_none) pa_nil))) (blkOk_by (N := [("thing" : Str), ("size" : Str), ("word" : Str), ("kinds" : Str), ("kind" : Str), ("part" : Str)]) (sc := defScope s_is_row) (by decide +kernel)) (fun _ _ _ _ _ => by exact (pg_tup rfl (pgs_cons (pg_name (i := 4) sc_is_row.nd rfl (by first | exact .inl rfl | exact .inr rfl)) (pgs_cons (pg_name (i := 5) sc_is_row.nd rfl (by first | exact .inl rfl | exact .inr rfl)) pgs_nil)))) (fun _ _ _ _ _ => pts_nil) (fun _ _ _ _ _ => (pe_cal c_is_part (hr.mono (by decide)) (by rfl) pass0 (pa_cons (pv 4) (pa_cons (pv 5) (pa_cons (pv 1) pa_nil)))))) pa_nil))))))))), ?_⟩
    refine ⟨x, rfl, x, _, _, _, _, rfl, .ty _, tyx_of hd, kit_tup (nd_of hd), _, rfl, ?_⟩
    cases hd with
    | @tup a xs ds ha hds =>
      refine iteF ⟨_, rfl, a, xs, rfl, .inr ha, rfl, _, rfl, ?_⟩
      refine iteLenE (fun h0 => ?_) (fun h0 => ?_)
      · have hx : xs = [] := List.length_eq_zero_iff.mp (by omega)
        subst hx
        cases hds
        exact k H (Same.refl H)
      · obtain ⟨x1, xr, rfl⟩ : ∃ x1 xr, xs = x1 :: xr := by
          cases xs with
          | nil => exact absurd rfl h0
          | cons x1 xr => exact ⟨x1, xr, rfl⟩
        cases hds with
        | @cons _ _ d1 dr h1 ht =>
          refine ⟨_, rfl, a, _, 0, x1, rfl, rfl, ha, at0 _ _, ?_⟩
          refine ⟨x1, rfl, x1, _, _, _, _, rfl, .ty _, tyx_of h1, kit_str (nd_of h1), _, rfl, ?_⟩
          cases h1 with
          | str wd =>
            cases hf : forms.lookup wd with
            | none =>
              refine iteF ⟨_, rfl, _, _, rfl, rfl, T.fno wd hf, _, rfl, iteT ?_⟩
              have q := k H (Same.refl H)
              rw [show pRow (.tuple (.str wd :: dr)) n = (match forms.lookup wd with | some ks => decide (dr.length = ks.length) && pParts n ks dr | none => false) from rfl, hf] at q
              exact q
            | some ks =>
              have k : ∀ H', Same H H' → Q (.bl (decide (dr.length = ks.length) && pParts n ks dr)) H' := fun H' s1 => by
                have q := k H' s1
                rw [show pRow (.tuple (.str wd :: dr)) n = (match forms.lookup wd with | some ks => decide (dr.length = ks.length) && pParts n ks dr | none => false) from rfl, hf] at q
                exact q
              obtain ⟨aF, hF, hT⟩ := T.fyes wd ks hf
              refine iteF ⟨_, rfl, _, _, rfl, rfl, hF, _, rfl, iteF ?_⟩
              refine ⟨_, rfl, _, _, .ref aF, rfl, rfl, ⟨_, _, _, T.kd.at_, T.kd.lit, hF, rfl⟩, ?_⟩
              refine ⟨_, rfl, a, _, rfl, .inr ha, _, rfl, aF, _, rfl, .inr (hT H), _, _, rfl, rfl, rfl, _, rfl, ?_⟩
              have hlr := dpA_len ht
              refine iteLen (fun hne => ?_) (fun heq => ?_)
              · have q := k H (Same.refl H)
                rw [decide_eq_false (show ¬ dr.length = ks.length by
                  intro z
                  apply hne
                  rw [List.length_cons, hlr, z, List.length_map]
                  omega)] at q
                exact q
              · have hl : dr.length = ks.length := by
                  rw [List.length_cons, hlr, List.length_map] at heq
                  omega
                refine ⟨_, rfl, _, rfl, _, rfl, a, _, rfl, ha, fun z => absurd z sIx1, fun _ p hp => ?_⟩
                have sp := same_upd (o := .tup (cutV (V.str wd :: xr) (some 1) none)) hp
                refine ⟨aF, p, _, xr, rfl, .inr ⟨hT _, sqT_cut1, fun D hD => ?_⟩⟩
                refine lc_vals (walk_zipT (xs := ks.map V.str) (ys := xr) (n := ks.length) (by rw [List.length_map, hlr, hl]; simp)) (fun i => .bl (match ks[i]?, dr[i]? with | some k, some p => pPart k p n | _, _ => true)) hD ?_ (fun H' s1 => ⟨hT _, Same.tup s1 sqT_cut1⟩) ?_ ?_
                · have : ks.length ≤ 2 := by
                    have hm : ∀ q ∈ forms, q.2.length ≤ 2 := by decide +kernel
                    exact hm (wd, ks) (mem_of_lookup hf)
                  omega
                · rintro i v H' H'' Qe hi s1 ⟨tp, y1, y2, rfl, htp, rfl, hk1, hk2⟩ q
                  have hkl : ks[i]? = some ks[i] := List.getElem?_eq_getElem hi
                  have hk1 : (ks.map V.str)[i]? = some y1 := hk1
                  have hk2 : xr[i]? = some y2 := hk2
                  have e1 : y1 = .str ks[i] := by
                    rw [List.getElem?_map, hkl] at hk1
                    exact (Option.some.inj hk1).symm
                  obtain ⟨dd, hdd, hdp⟩ := dpA_get ht hk2
                  have sT := same_upd (o := .tup [y1, y2]) htp
                  refine ⟨tp, [y1, y2], rfl, sqT_new, rfl, y1, [y2], rfl, y2, [], rfl, rfl, rfl, ?_⟩
                  subst e1
                  have hlo : lenOk dd = true := by
                    exact lenAll_mem (lenOk_tup hok).2 (List.mem_cons_of_mem _ (List.mem_of_getElem? hdd))
                  refine ⟨_, rfl, _, rfl, _, rfl, y2, dd, ks[i], n, rfl, dp_mono ((sp.trans s1).trans sT) hdp, hlo, fun H4 s4 => ?_⟩
                  have q := q H4 (sT.trans s4)
                  rw [hkl, hdd] at q
                  exact q
                · intro H' s1 hlst
                  refine ⟨D, (List.range ks.length).map fun i => (match ks[i]?, dr[i]? with | some k, some p => pPart k p n | _, _ => true), rfl, .inl (.inl ?_), ?_⟩
                  · rw [hlst, List.map_map]
                    rfl
                  · rw [pParts_all n ks dr hl]
                    have q := k H' (sp.trans s1)
                    rw [decide_eq_true hl] at q
                    exact q
          | _ => exact iteT (k H (Same.refl H))
    | _ => exact iteT (k H (Same.refl H))
end
end Kin
namespace Kin
open PySem PySem.Spec PyProof.Rows L2
section
variable {P : Program} {w : World} {K : PySem.W.Frag} {mg : Str → Option Value} {base : Heap} {tL : Tok} {es : Array DictEntry} {nF : Nat}
def spW (K : PySem.W.Frag) : Sp := fun vs H Q _ => ∃ (x : V) (d : PyData) (lo hi : Int), vs = [x, .int lo, .int hi] ∧ Dp K H x d ∧ ∀ H', Same H H' → Q (.bl (lWhole d lo hi)) H'
abbrev s__law_whole : Stmt := topS 27
theorem sc__law_whole : FnScope [("_law_thing" : Str), ("_law_low" : Str), ("_law_high" : Str)] ["_law_thing", "_law_low", "_law_high"] (defScope s__law_whole) := ⟨rfl, rfl, rfl, by decide +kernel, rfl, by decide +kernel, by decide +kernel⟩
theorem ok__law_whole {f : Addr} {fd : FuncData} (F : FnP K "_law_whole" s__law_whole f fd) (T : Bi K w mg tL es nF) : FnOk P w K mg base CX0 1 f fd ["_law_thing", "_law_low", "_law_high"] (spW K) := by
  refine F.ok sc__law_whole (fun vs H Q E h => ?_) (fun cdv A outer s H vs Q E hr h => ?_)
  · obtain ⟨x, d, lo, hi, rfl, _⟩ := h
    rfl
  · obtain ⟨x, d, lo, hi, rfl, hd, k⟩ := h
    refine ⟨_, PSs.nox (pss_one (ps_ret (pe_and (pe_callB call_isi (by rfl) T.n_isinstance boot_isinstance (pa_cons (pv 0) (pa_cons (pe_bltn (v := .ty "int") (by rfl) T.n_int boot_int rfl) pa_nil))) (pe_and (pe_not (pe_callB call_isi (by rfl) T.n_isinstance boot_isinstance (pa_cons (pv 0) (pa_cons (pe_bltn (v := .ty "bool") (by rfl) T.n_bool boot_bool rfl) pa_nil)))) (pe_one (pe_chain op_le op_lt (pv 1) (pv 0) (pv 2))))))), ?_⟩
    refine ⟨x, rfl, x, _, _, _, _, rfl, .ty _, tyx_of hd, kit_int (nd_of hd), _, rfl, ?_⟩
    have k := k H (Same.refl H)
    cases hd with
    | int i =>
      refine iteT ⟨_, rfl, _, _, _, _, _, rfl, .ty _, tyx_of (.int i), kit_bool (d := .int i) rfl, _, rfl, _, rfl, iteT ?_⟩
      have k : Q (.bl (decide (lo ≤ i) && decide (i < hi))) H := k
      refine ⟨_, rfl, _, rfl, _, _, rfl, rfl, _, rfl, ?_⟩
      cases e : decide (lo ≤ i) with
      | true =>
        rw [e] at k
        exact iteT ⟨_, rfl, _, _, rfl, rfl, k⟩
      | false =>
        rw [e] at k
        exact iteF k
    | bl b => exact iteT ⟨_, rfl, _, _, _, _, _, rfl, .ty _, tyx_of (.bl b), kit_bool (d := .bool b) rfl, _, rfl, _, rfl, iteF k⟩
    | _ => exact iteF k
abbrev s__law_word : Stmt := topS 28
theorem sc__law_word : FnScope [("_law_thing" : Str), ("_law_words_here" : Str)] ["_law_thing", "_law_words_here"] (defScope s__law_word) := ⟨rfl, rfl, rfl, by decide +kernel, rfl, by decide +kernel, by decide +kernel⟩
theorem ok__law_word {f : Addr} {fd : FuncData} (F : FnP K "_law_word" s__law_word f fd) (T : Bi K w mg tL es nF) : FnOk P w K mg base CX0 1 f fd ["_law_thing", "_law_words_here"] (spOne K) := by
  refine F.ok sc__law_word (fun vs H Q E h => ?_) (fun cdv A outer s H vs Q E hr h => ?_)
  · obtain ⟨x, d, a, ws, rfl, _⟩ := h
    rfl
  · obtain ⟨x, d, a, ws, rfl, hd, ha, k⟩ := h
    refine ⟨_, PSs.nox (pss_one (ps_ret (pe_and (pe_callB call_isi (by rfl) T.n_isinstance boot_isinstance (pa_cons (pv 0) (pa_cons (pe_bltn (v := .ty "str") (by rfl) T.n_str boot_str rfl) pa_nil))) (pe_one (pe_cmpR op_in_seq (pv 0) (pv 1) (by rfl)))))), ?_⟩
    refine ⟨x, rfl, x, _, _, _, _, rfl, .ty _, tyx_of hd, kit_str (nd_of hd), _, rfl, ?_⟩
    have k := k H (Same.refl H)
    cases hd with
    | str z => exact iteT ⟨_, rfl, _, rfl, a, _, rfl, ha, rfl, flat_strs ws, in_k k⟩
    | _ => exact iteF k
end
end Kin
namespace Kin
open PySem PySem.Spec PyProof.Rows L2
section
variable {P : Program} {w : World} {K : PySem.W.Frag} {mg : Str → Option Value} {base : Heap} {tL : Tok} {es : Array DictEntry} {nF : Nat}
abbrev s__law_is_title : Stmt := topS 30
theorem sc__law_is_title : FnScope [("_law_thing" : Str), ("_law_sign" : Str)] ["_law_thing"] (defScope s__law_is_title) := ⟨rfl, rfl, rfl, by decide +kernel, rfl, by decide +kernel, by decide +kernel⟩
theorem ok__law_is_title {f : Addr} {fd : FuncData} (F : FnP K "_law_is_title" s__law_is_title f fd) (T : Bi K w mg tL es nF) : FnOk P w K mg base CX0 1 f fd ["_law_thing"] (spDL K lTitle) := by
  refine F.ok sc__law_is_title (fun vs H Q E h => ?_) (fun cdv A outer s H vs Q E hr h => ?_)
  · obtain ⟨x, d, rfl, _⟩ := h
    rfl
  · obtain ⟨x, d, rfl, hd, hok, k⟩ := h
    refine ⟨_, PSs.nox (pss_cons (ps_if (PW.pt (pw_or (pt_not (pt_val (pe_callB call_isi (by rfl) T.n_isinstance boot_isinstance (pa_cons (pv 0) (pa_cons (pe_bltn (v := .ty "str") (by rfl) T.n_str boot_str rfl) pa_nil))))) (pw_or1 (pt_not (pt_chain op_lt op_lt pe_int (pe_callB call_len_str (by rfl) T.n_len PySem.boot_len (pa_cons (pv 0) pa_nil)) pe_int))))) (pss_one (ps_ret pe_bl)) pss_nil) (pss_one (ps_ret (pe_callB (cr_all rfl) (by rfl) T.n_all boot_all (pa_cons (pe_lc (own := [(("_law_sign" : Str), 1)]) (g := gName 1) rfl sc__law_is_title.nd (pi_str (pv 0)) (blkOk_by (N := [("_law_thing" : Str), ("_law_sign" : Str)]) (sc := defScope s__law_is_title) (by decide +kernel)) (fun _ _ _ _ _ => by exact (pg_name (i := 1) sc__law_is_title.nd rfl (by first | exact .inl rfl | exact .inr rfl))) (fun _ _ _ _ _ => pts_nil) (fun _ _ _ _ _ => (pe_chain op_le_str op_le_str pe_str (pv 1) pe_str))) pa_nil))))), ?_⟩
    refine ⟨x, rfl, x, _, _, _, _, rfl, .ty _, tyx_of hd, kit_str (nd_of hd), _, rfl, ?_⟩
    cases hd with
    | str z =>
      have k : ∀ H', Same H H' → Q (.bl (decide (0 < z.length) && decide (z.length < 9) && azAll z)) H' := k
      have hz : z.length ≤ 100000 := lenOk_str hok
      have hf : Q (.bl (decide (0 < z.length) && decide (z.length < 9) && azAll z)) H := k H (Same.refl H)
      refine iteF ⟨_, rfl, z, rfl, Nat.le_trans hz (by decide), _, _, rfl, rfl, _, rfl, ?_⟩
      refine ite2 (fun e1 => ?_) (fun e1 => ?_)
      · have e1 : (0 : Int) < (z.length : Int) := of_decide_eq_true e1
        refine ⟨_, _, rfl, rfl, _, rfl, ?_⟩
        by_cases e2 : (z.length : Int) < 9
        · rw [decide_eq_true e2]
          refine iteF ⟨_, rfl, z, rfl, fun D hD => ?_⟩
          refine lc_vals (walk_str (z := z)) (fun i => .bl ((z.cps.toList[i]?.map fun c => decide (97 ≤ c) && decide (c ≤ 122)).getD true)) hD ?_ (fun _ _ => True.intro) ?_ ?_
          · exact Nat.le_trans hz (by decide)
          · rintro i v H' H'' Qe hi s1 ⟨rfl, c, hc, rfl⟩ q
            refine ⟨rfl, ?_⟩
            have q := q H'' (Same.refl H'')
            have ec : z.cps.toList[i]? = some c := by rw [Array.getElem?_toList]; exact hc
            rw [ec] at q
            have q : Qe (.bl (decide (97 ≤ c) && decide (c ≤ 122))) H'' := q
            rw [← title_le c] at q
            refine ⟨_, rfl, _, _, rfl, rfl, _, rfl, ?_⟩
            cases e3 : (!decide ((⟨#[c]⟩ : Str).cps.toList < ("a" : Str).cps.toList)) with
            | true =>
              rw [e3] at q
              exact iteT ⟨_, _, rfl, rfl, q⟩
            | false =>
              rw [e3] at q
              exact iteF q
          · intro H' s1 hl
            refine ⟨D, (List.range z.cps.size).map fun i => (z.cps.toList[i]?.map fun c => decide (97 ≤ c) && decide (c ≤ 122)).getD true, rfl, .inl (.inl ?_), ?_⟩
            · rw [hl, List.map_map]
              rfl
            · have em : (List.range z.cps.size).map (fun i => (z.cps.toList[i]?.map fun c => decide (97 ≤ c) && decide (c ≤ 122)).getD true) = z.cps.toList.map fun c => decide (97 ≤ c) && decide (c ≤ 122) := by
                rw [show z.cps.size = z.cps.toList.length by simp]
                exact map_range_eq fun i x hx => by rw [hx]; rfl
              rw [em, all_id]
              have q := k H' s1
              rw [decide_eq_true (show 0 < z.length by omega), decide_eq_true (show z.length < 9 by omega)] at q
              exact q
        · rw [decide_eq_false e2]
          refine iteT ?_
          rw [decide_eq_false (show ¬ z.length < 9 by omega), Bool.and_false] at hf
          exact hf
      · have e1 : ¬ (0 : Int) < (z.length : Int) := fun q => e1 (decide_eq_true q)
        refine ⟨_, rfl, ?_⟩
        refine iteT ?_
        rw [decide_eq_false (show ¬ 0 < z.length by omega)] at hf
        exact hf
    | _ => exact iteT (k H (Same.refl H))
end
end Kin
namespace Kin
open PySem PySem.Spec PyProof.Rows L2
section
variable {P : Program} {w : World} {K : PySem.W.Frag} {mg : Str → Option Value} {base : Heap} {tL : Tok} {es : Array DictEntry} {nF : Nat}
abbrev s__law_are_signals : Stmt := topS 29
theorem sc__law_are_signals : FnScope [("_law_thing" : Str), ("_law_some" : Str), ("_law_one" : Str), ("_law_places" : Str), ("_law_other" : Str)] ["_law_thing"] (defScope s__law_are_signals) := ⟨rfl, rfl, rfl, by decide +kernel, rfl, by decide +kernel, by decide +kernel⟩
theorem ok__law_are_signals {f : Addr} {fd : FuncData} (F : FnP K "_law_are_signals" s__law_are_signals f fd) (T : Bi K w mg tL es nF) (c__law_word : Cal P w K mg base "_law_word" ["_law_thing", "_law_words_here"] 1 (spOne K)) : FnOk P w K mg base CX0 2 f fd ["_law_thing"] (spDL K lAre) := by
  refine F.ok sc__law_are_signals (fun vs H Q E h => ?_) (fun cdv A outer s H vs Q E hr h => ?_)
  · obtain ⟨x, d, rfl, _⟩ := h
    rfl
  · obtain ⟨x, d, rfl, hd, hok, k⟩ := h
    refine ⟨_, PSs.nox (pss_cons (ps_set (i := 1) sc__law_are_signals.nd rfl (by first | exact .inl rfl | exact .inr rfl) (pe_lst (pa_cons pe_str (pa_cons pe_str (pa_cons pe_str (pa_cons pe_str (pa_cons pe_str (pa_cons pe_str (pa_cons pe_str pa_nil))))))))) (pss_cons (ps_if (PW.pt (pw_or (pt_not (pt_val (pe_callB call_isi (by rfl) T.n_isinstance boot_isinstance (pa_cons (pv 0) (pa_cons (pe_bltn (v := .ty "tuple") (by rfl) T.n_tuple boot_tuple rfl) pa_nil))))) (pw_or1 (pt_not (pt_val (pe_callB (cr_all rfl) (by rfl) T.n_all boot_all (pa_cons (pe_lc (own := [(("_law_one" : Str), 2)]) (g := gName 2) rfl sc__law_are_signals.nd (pi_tup (pv 0)) (blkOk_by (N := [("_law_thing" : Str), ("_law_some" : Str), ("_law_one" : Str), ("_law_places" : Str), ("_law_other" : Str)]) (sc := defScope s__law_are_signals) (by decide +kernel)) (fun _ _ _ _ _ => by exact (pg_name (i := 2) sc__law_are_signals.nd rfl (by first | exact .inl rfl | exact .inr rfl))) (fun _ _ _ _ _ => pts_nil) (fun _ _ _ _ _ => (pe_cal c__law_word (hr.mono (by decide)) (by rfl) pass0 (pa_cons (pv 2) (pa_cons (pv 1) pa_nil))))) pa_nil))))))) (pss_one (ps_ret pe_bl)) pss_nil) (pss_cons (ps_setLc (i := 3) (own := [(("_law_one" : Str), 2)]) (g := gName 2) (te := tBM K "list" (rIndex K) (tVar 1) (tCons (tVar 2) tNil)) rfl sc__law_are_signals.nd rfl rfl (sw_true rfl rfl rfl (by decide +kernel)) (pi_tup (pv 0)) (blkOk_by (N := [("_law_thing" : Str), ("_law_some" : Str), ("_law_one" : Str), ("_law_places" : Str), ("_law_other" : Str)]) (sc := defScope s__law_are_signals) (by decide +kernel)) (fun _ _ _ _ _ => by exact (pg_name (i := 2) sc__law_are_signals.nd rfl (by first | exact .inl rfl | exact .inr rfl))) (fun _ _ _ _ _ => pts_nil) (fun _ _ _ _ _ => (pe_bm PySem.F.plainAttrs_list PySem.F.slot_list_index PySem.F.type_list_index mt_index (pv 1) (pa_cons (pv 2) pa_nil)))) (pss_one (ps_ret (pe_callB (cr_all rfl) (by rfl) T.n_all boot_all (pa_cons (pe_lc (own := [(("_law_one" : Str), 2), (("_law_other" : Str), 4)]) (g := gTup K 2 (gCons (gName 2) (gCons (gName 4) (gNil)))) rfl sc__law_are_signals.nd (pi_zip (by rfl) T.n_zip (pa_cons (pv 3) (pa_cons (pe_slice sl_list (pv 3) (po_some pe_int) po_none) pa_nil))) (blkOk_by (N := [("_law_thing" : Str), ("_law_some" : Str), ("_law_one" : Str), ("_law_places" : Str), ("_law_other" : Str)]) (sc := defScope s__law_are_signals) (by decide +kernel)) (fun _ _ _ _ _ => by exact (pg_tup rfl (pgs_cons (pg_name (i := 2) sc__law_are_signals.nd rfl (by first | exact .inl rfl | exact .inr rfl)) (pgs_cons (pg_name (i := 4) sc__law_are_signals.nd rfl (by first | exact .inl rfl | exact .inr rfl)) pgs_nil)))) (fun _ _ _ _ _ => pts_nil) (fun _ _ _ _ _ => (pe_cmpR op_lt (pv 2) (pv 4) (nomark _)))) pa_nil))))))), ?_⟩
    refine ⟨(by show 7 ≤ sizeLine; decide), fun l hl => ?_⟩
    have s0 : Same H (upd H l (.lst (sig7.map V.str))) := same_upd hl
    have hL : SqL K (upd H l (.lst (sig7.map V.str))) l (sig7.map V.str) := sqL_new
    have hd0 := dp_mono s0 hd
    refine ⟨x, rfl, x, _, _, _, _, rfl, .ty _, tyx_of hd0, kit_tup (nd_of hd), _, rfl, ?_⟩
    cases hd with
    | @tup a xs ds ha hds =>
      have hlen := dpA_len hds
      have ha0 := Same.tup s0 ha
      refine iteF ⟨_, rfl, a, rfl, ⟨xs, ha0⟩, fun D hD => ?_⟩
      refine lc_vals (walk_tup (xs := xs)) (fun i => .bl ((ds[i]?.map fun d => pOne d sig7).getD true)) hD (by rw [hlen]; exact Nat.le_trans (lenOk_tup hok).1 (by decide)) (fun H' s1 => Same.tup s1 ha0) ?_ ?_
      · rintro i v H' H'' Qe hi s1 ⟨rfl, hv⟩ q
        obtain ⟨dd, hdd, hdp⟩ := dpA_get hds hv
        refine ⟨rfl, v, rfl, _, rfl, v, dd, l, sig7, rfl, dp_mono (s0.trans s1) hdp, .inl (s1.seq hL), fun H4 s4 => ?_⟩
        have q := q H4 s4
        rw [hdd] at q
        exact q
      · intro H1 s1 hlst
        have em : (List.range xs.length).map (fun i => (ds[i]?.map fun d => pOne d sig7).getD true) = ds.map fun d => pOne d sig7 := by
          rw [hlen]
          exact map_range_eq fun i x hx => by rw [hx]; rfl
        have k : ∀ H', Same H H' → Q (.bl (lAll7 ds && lUp (ds.map ix7))) H' := k
        refine ⟨D, ds.map fun d => pOne d sig7, rfl, .inl (.inl ?_), _, rfl, ?_⟩
        · rw [hlst, ← em, List.map_map]
          rfl
        rw [all_id, ← lAll7_eq]
        cases e7 : lAll7 ds with
        | false =>
          refine iteT ?_
          have q := k H1 (s0.trans s1)
          rw [e7] at q
          exact q
        | true =>
          refine iteF ?_
          have s01 := s0.trans s1
          have ha1 := Same.tup s01 ha
          have hL1 := s1.seq hL
          refine ⟨_, rfl, a, rfl, ⟨xs, ha1⟩, fun D2 hD2 => ?_⟩
          refine lc_vals (walk_tup (xs := xs)) (fun i => .int ((((ds.map ix7)[i]?.getD 0 : Nat)) : Int)) hD2 (by rw [hlen]; exact Nat.le_trans (lenOk_tup hok).1 (by decide)) (fun H' s2 => Same.tup s2 ha1) ?_ ?_
          · rintro i v H' H'' Qe hi s2 ⟨rfl, hv⟩ q
            obtain ⟨dd, hdd, hdp⟩ := dpA_get hds hv
            have h7 : pOne dd sig7 = true := by
              rw [lAll7_eq] at e7
              exact (List.all_eq_true.mp e7) dd (List.mem_of_getElem? hdd)
            cases hdp with
            | str z =>
              have hz : z ∈ sig7 := of_decide_eq_true h7
              have hlt : sig7.idxOf z < sig7.length := List.idxOf_lt_length_iff.mpr hz
              have q := q H'' (Same.refl _)
              rw [List.getElem?_map, hdd] at q
              refine ⟨rfl, _, rfl, .inl ⟨rfl, _, s2.seq hL1⟩, _, rfl, l, sig7.map V.str, .str z, sig7.idxOf z, .str z, rfl, rfl, s2.seq hL1, rfl, flat_strs sig7, ?_, ?_, ?_, q⟩
              · rw [List.getElem?_map, List.getElem?_eq_getElem hlt, List.getElem_idxOf]
                rfl
              · show (z == z) = true
                exact beq_self_eq_true z
              · intro m z' hm hz'
                have hml : m < sig7.length := by omega
                rw [List.getElem?_map, List.getElem?_eq_getElem hml] at hz'
                cases Option.some.inj hz'
                show (sig7[m] == z) = false
                have := List.not_of_lt_findIdx (p := (· == z)) (xs := sig7) (i := m) hm
                exact this
            | _ => cases h7
          · intro H2 s2 hlst2
            have s012 := s01.trans s2
            have ev : (List.range xs.length).map (fun i => V.int ((((ds.map ix7)[i]?.getD 0 : Nat)) : Int)) = (ds.map ix7).map fun (n : Nat) => V.int (n : Int) := by
              rw [show xs.length = (ds.map ix7).length by rw [List.length_map, hlen]]
              exact map_range_eq fun i x hx => by rw [hx]; rfl
            rw [ev] at hlst2
            have hP : SqL K H2 D2 ((ds.map ix7).map fun (n : Nat) => V.int (n : Int)) := .inl (.inl hlst2)
            refine ⟨_, rfl, _, rfl, _, rfl, D2, _, rfl, hP, fun p hp => ?_⟩
            have s3 := same_upd (o := .lst (cutV ((ds.map ix7).map fun (n : Nat) => V.int (n : Int)) (some 1) none)) hp
            refine ⟨D2, p, _, ((ds.map ix7).map fun (n : Nat) => V.int (n : Int)).drop 1, rfl, s3.seq hP, .inl (.inl (by rw [upd_same, cut1])), fun D3 hD3 => ?_⟩
            refine lc_vals (walk_zip (xs := (ds.map ix7).map fun (n : Nat) => V.int (n : Int)) (ys := ((ds.map ix7).map fun (n : Nat) => V.int (n : Int)).drop 1) (n := (ds.map ix7).length - 1) (by simp)) (fun i => .bl (decide ((ds.map ix7)[i]?.getD 0 < (ds.map ix7)[i + 1]?.getD 0))) hD3 ?_ (fun H' s4 => ⟨(s3.trans s4).seq hP, s4.seq (.inl (.inl (by rw [upd_same, cut1])))⟩) ?_ ?_
            · rw [List.length_map]
              exact Nat.le_trans (Nat.sub_le _ _) (Nat.le_trans (lenOk_tup hok).1 (by decide))
            · rintro i v H' H'' Qe hi s4 ⟨tp, y1, y2, rfl, htp, rfl, hk1, hk2⟩ q
              have hk1 : ((ds.map ix7).map fun (n : Nat) => V.int (n : Int))[i]? = some y1 := hk1
              have hk2 : (((ds.map ix7).map fun (n : Nat) => V.int (n : Int)).drop 1)[i]? = some y2 := hk2
              have h1 : i < (ds.map ix7).length := by omega
              have h2 : i + 1 < (ds.map ix7).length := by omega
              rw [List.getElem?_map, List.getElem?_eq_getElem h1] at hk1
              rw [List.getElem?_drop, Nat.add_comm 1 i, List.getElem?_map, List.getElem?_eq_getElem h2] at hk2
              cases Option.some.inj hk1
              cases Option.some.inj hk2
              have q := q _ (same_upd (o := .tup [V.int ((ds.map ix7)[i] : Int), V.int ((ds.map ix7)[i + 1] : Int)]) htp)
              rw [List.getElem?_eq_getElem h1, List.getElem?_eq_getElem h2] at q
              refine ⟨tp, _, rfl, sqT_new, rfl, _, _, rfl, _, [], rfl, rfl, rfl, _, rfl, _, rfl, _, _, rfl, rfl, ?_⟩
              have ei : decide ((((ds.map ix7)[i] : Nat) : Int) < (((ds.map ix7)[i + 1] : Nat) : Int)) = decide ((ds.map ix7)[i] < (ds.map ix7)[i + 1]) := by
                by_cases hh : (ds.map ix7)[i] < (ds.map ix7)[i + 1]
                · rw [decide_eq_true hh, decide_eq_true (by omega)]
                · rw [decide_eq_false hh, decide_eq_false (by omega)]
              have q : Qe (.bl (decide ((ds.map ix7)[i] < (ds.map ix7)[i + 1]))) _ := q
              rw [← ei] at q
              exact q
            · intro H3 s4 hlst3
              refine ⟨D3, (List.range ((ds.map ix7).length - 1)).map (fun i => decide ((ds.map ix7)[i]?.getD 0 < (ds.map ix7)[i + 1]?.getD 0)), rfl, .inl (.inl (by rw [hlst3, List.map_map]; rfl)), ?_⟩
              rw [lUp_all]
              have q := k H3 ((s012.trans s3).trans s4)
              rw [e7] at q
              exact q
    | _ => exact iteT (k _ s0)
end
end Kin
namespace Kin
open PySem PySem.Spec PyProof.Rows L2
section
variable {P : Program} {w : World} {K : PySem.W.Frag} {mg : Str → Option Value} {base : Heap} {tL : Tok} {es : Array DictEntry} {nF : Nat}
def spLPart (K : PySem.W.Frag) : Sp := fun vs H Q _ => ∃ (x : V) (d : PyData) (wd : Str) (at_ : Nat) (n : Int), vs = [.str wd, .int (at_ : Int), x, .int n] ∧ Dp K H x d ∧ lenOk d = true ∧ ∀ H', Same H H' → Q (.bl (lPart wd at_ d n)) H'
theorem dec_at {i : Nat} {j : Nat} : decide (V.int (i : Int) = V.int (j : Int)) = decide (i = j) := by
  rw [dec_int']
  by_cases h : i = j
  · rw [decide_eq_true h, decide_eq_true (by omega)]
  · rw [decide_eq_false h, decide_eq_false (by omega)]
theorem ite_in {z : Str} {ws : List Str} {A B : Prop} (h1 : z ∈ ws → A) (h2 : ¬ z ∈ ws → B) : if inV (.str z) (ws.map V.str) = true then A else B := by
  rw [inV_strs]
  exact ite2 (fun e => h1 (of_decide_eq_true e)) (fun e => h2 fun q => e (decide_eq_true q))
theorem ite_at {i j : Nat} {A B : Prop} (h1 : i = j → A) (h2 : ¬ i = j → B) : if decide (V.int (i : Int) = V.int (j : Int)) = true then A else B := by
  rw [dec_at]
  exact ite2 (fun e => h1 (of_decide_eq_true e)) (fun e => h2 fun q => e (decide_eq_true q))
theorem non_dec {H : Hp} {x : V} {d : PyData} (h : Dp K H x d) : decide (x = V.non) = isNone d := by cases h <;> rfl
theorem ite_at' {i j : Nat} {A B : Prop} (h : if decide (i = j) = true then A else B) : if decide (V.int (i : Int) = V.int (j : Int)) = true then A else B := by
  rw [dec_at]
  exact h
theorem and_at {c : Bool} {P1 P2 : Prop} [Decidable P1] [Decidable P2] {A B M N : Prop} (hc : c = decide P1) (hN : B → N) (hM : (if decide P2 = true then A else B) → M) (h1 : P1 ∧ P2 → A) (h2 : ¬ (P1 ∧ P2) → B) : if c = true then M else N := by
  subst hc
  by_cases p1 : P1
  · rw [if_pos (decide_eq_true p1)]
    apply hM
    by_cases p2 : P2
    · rw [if_pos (decide_eq_true p2)]
      exact h1 ⟨p1, p2⟩
    · rw [if_neg (fun z => p2 (of_decide_eq_true z))]
      exact h2 fun z => p2 z.2
  · rw [if_neg (fun z => p1 (of_decide_eq_true z))]
    exact hN (h2 fun z => p1 z.1)
theorem isTup_isa (d : PyData) : isaTup d = isTup d := by cases d <;> rfl
theorem sing {H : Hp} {z : Str} (ws : List Str) (hz : z ∈ ws) : True := True.intro
abbrev s__law_is_part : Stmt := topS 31
theorem sc__law_is_part : FnScope [("_law_word_here" : Str), ("_law_at" : Str), ("_law_part" : Str), ("_law_size" : Str), ("_law_great" : Str), ("_law_some" : Str)] ["_law_word_here", "_law_at", "_law_part", "_law_size"] (defScope s__law_is_part) := ⟨rfl, rfl, rfl, by decide +kernel, rfl, by decide +kernel, by decide +kernel⟩
theorem ok__law_is_part {f : Addr} {fd : FuncData} (F : FnP K "_law_is_part" s__law_is_part f fd) (T : Bi K w mg tL es nF) (c__law_is_title : Cal P w K mg base "_law_is_title" ["_law_thing"] 1 (spDL K lTitle)) (c__law_whole : Cal P w K mg base "_law_whole" ["_law_thing", "_law_low", "_law_high"] 1 (spW K)) (c__law_word : Cal P w K mg base "_law_word" ["_law_thing", "_law_words_here"] 1 (spOne K)) (c__law_are_signals : Cal P w K mg base "_law_are_signals" ["_law_thing"] 2 (spDL K lAre)) : FnOk P w K mg base CX0 3 f fd ["_law_word_here", "_law_at", "_law_part", "_law_size"] (spLPart K) := by
  refine F.ok sc__law_is_part (fun vs H Q E h => ?_) (fun cdv A outer s H vs Q E hr h => ?_)
  · obtain ⟨x, d, wd, at_, n, rfl, _⟩ := h
    rfl
  · obtain ⟨x, d, wd, at_, n, rfl, hd, hok, k⟩ := h
    refine ⟨_, PSs.nox (pss_cons (ps_par (i := 4) (j := 5) rfl sc__law_is_part.nd rfl rfl (by decide) rfl rfl (pa_cons (pe_op op_pow pe_int pe_int) (pa_cons (pe_lst (pa_cons pe_str (pa_cons pe_str (pa_cons pe_str (pa_cons pe_str (pa_cons pe_str (pa_cons pe_str (pa_cons pe_str pa_nil)))))))) pa_nil)) (by rfl)) (pss_cons (ps_if (pt_cmpR op_eq (pv 0) pe_str (nomark _)) (pss_one (ps_ret (pe_cal c__law_is_title (hr.mono (by decide)) (by rfl) pass0 (pa_cons (pv 2) pa_nil)))) pss_nil) (pss_cons (ps_if (pt_cmpR op_in_seq (pv 0) (pe_tup (pa_cons pe_str (pa_cons pe_str pa_nil))) (by rfl)) (pss_one (ps_ret (pe_cal c__law_whole (hr.mono (by decide)) (by rfl) pass0 (pa_cons (pv 2) (pa_cons pe_int (pa_cons pe_int pa_nil)))))) pss_nil) (pss_cons (ps_if (pt_cmpR op_eq (pv 0) pe_str (nomark _)) (pss_one (ps_ret (pe_ifExp (pt_cmpR op_eq (pv 1) pe_int (nomark _)) (pe_callB call_isi (by rfl) T.n_isinstance boot_isinstance (pa_cons (pv 2) (pa_cons (pe_bltn (v := .ty "bool") (by rfl) T.n_bool boot_bool rfl) pa_nil))) (pe_or (pe_cmpR op_isN (pv 2) pe_non (nomark _)) (pe_one (pe_cal c__law_whole (hr.mono (by decide)) (by rfl) pass0 (pa_cons (pv 2) (pa_cons pe_int (pa_cons (pv 4) pa_nil))))))))) pss_nil) (pss_cons (ps_if (pt_cmpR op_eq (pv 0) pe_str (nomark _)) (pss_cons (ps_if (pt_cmpR op_eq (pv 1) pe_int (nomark _)) (pss_one (ps_ret (pe_cal c__law_word (hr.mono (by decide)) (by rfl) pass0 (pa_cons (pv 2) (pa_cons (pe_op op_cat (pe_lst (pa_cons pe_str (pa_cons pe_str pa_nil))) (pv 5)) pa_nil))))) pss_nil) (pss_one (ps_ret (pe_or (pe_cal c__law_whole (hr.mono (by decide)) (by rfl) pass0 (pa_cons (pv 2) (pa_cons pe_int (pa_cons (pv 4) pa_nil)))) (pe_one (pe_cal c__law_word (hr.mono (by decide)) (by rfl) pass0 (pa_cons (pv 2) (pa_cons (pe_lst (pa_cons pe_str (pa_cons pe_str (pa_cons pe_str pa_nil)))) pa_nil)))))))) pss_nil) (pss_cons (ps_if (pt_cmpR op_in_seq (pv 0) (pe_tup (pa_cons pe_str (pa_cons pe_str pa_nil))) (by rfl)) (pss_one (ps_ret (pe_cal c__law_are_signals (hr.mono (by decide)) (by rfl) pass0 (pa_cons (pv 2) pa_nil)))) pss_nil) (pss_cons (ps_if (PW.pt (pw_and (pt_cmpR op_eq (pv 0) pe_str (nomark _)) (pw_and1 (pt_cmpR op_eq (pv 1) pe_int (nomark _))))) (pss_one (ps_ret (pe_cal c__law_word (hr.mono (by decide)) (by rfl) pass0 (pa_cons (pv 2) (pa_cons (pv 5) pa_nil))))) pss_nil) (pss_cons (ps_if (pt_cmpR op_eq (pv 0) pe_str (nomark _)) (pss_cons (ps_if (pt_not (pt_val (pe_callB call_isi (by rfl) T.n_isinstance boot_isinstance (pa_cons (pv 2) (pa_cons (pe_bltn (v := .ty "tuple") (by rfl) T.n_tuple boot_tuple rfl) pa_nil))))) (pss_one (ps_ret (pe_cal c__law_word (hr.mono (by decide)) (by rfl) pass0 (pa_cons (pv 2) (pa_cons (pe_lst (pa_cons pe_str (pa_cons pe_str pa_nil))) pa_nil))))) pss_nil) (pss_one (ps_ret (pe_and (pe_cmpR op_eq (pe_callB call_len_seq (by rfl) T.n_len PySem.boot_len (pa_cons (pv 2) pa_nil)) pe_int (nomark _)) (pe_and (pe_cal c__law_whole (hr.mono (by decide)) (by rfl) pass0 (pa_cons (pe_ix ix_tup (pv 2) pe_int (fun _ _ => rfl)) (pa_cons pe_int (pa_cons (pv 3) pa_nil)))) (pe_one (pe_cal c__law_are_signals (hr.mono (by decide)) (by rfl) pass0 (pa_cons (pe_ix ix_tup (pv 2) pe_int (fun _ _ => rfl)) pa_nil)))))))) pss_nil) (pss_cons (ps_if (PW.pt (pw_and (pt_cmpR op_in_seq (pv 0) (pe_tup (pa_cons pe_str (pa_cons pe_str pa_nil))) (by rfl)) (pw_and1 (pt_cmpR op_eq (pv 1) pe_int (nomark _))))) (pss_one (ps_ret (pe_or (pe_cal c__law_whole (hr.mono (by decide)) (by rfl) pass0 (pa_cons (pv 2) (pa_cons pe_int (pa_cons (pv 4) pa_nil)))) (pe_one (pe_cal c__law_word (hr.mono (by decide)) (by rfl) pass0 (pa_cons (pv 2) (pa_cons (pe_lst (pa_cons pe_str pa_nil)) pa_nil))))))) pss_nil) (pss_cons (ps_if (pt_cmpR op_eq (pv 0) pe_str (nomark _)) (pss_one (ps_ret (pe_cal c__law_word (hr.mono (by decide)) (by rfl) pass0 (pa_cons (pv 2) (pa_cons (pe_lst (pa_cons pe_str (pa_cons pe_str pa_nil))) pa_nil))))) pss_nil) (pss_one (ps_ret (pe_ifExp (PW.pt (pw_and (pt_cmpR op_eq (pv 0) pe_str (nomark _)) (pw_and1 (pt_cmpR op_eq (pv 1) pe_int (nomark _))))) (pe_cal c__law_whole (hr.mono (by decide)) (by rfl) pass0 (pa_cons (pv 2) (pa_cons (pe_op op_sub pe_int (pv 4)) (pa_cons (pv 4) pa_nil)))) (pe_cal c__law_whole (hr.mono (by decide)) (by rfl) pass0 (pa_cons (pv 2) (pa_cons pe_int (pa_cons (pv 3) pa_nil))))))))))))))))), ?_⟩
    unfold lPart at k
    refine ⟨10, 12, rfl, rfl, ⟨by decide, by decide, by decide⟩, (by show 7 ≤ sizeLine; decide), fun l hl => ⟨_, _, rfl, ?_⟩⟩
    have s0 : Same H (upd H l (.lst (sig7.map V.str))) := same_upd hl
    have hL0 : (upd H l (.lst (sig7.map V.str))) l = some (.lst (sig7.map V.str)) := upd_same
    have hd0 := dp_mono s0 hd
    -- exec
    refine ⟨_, rfl, rfl, _, rfl, ?_⟩
    rw [dec_str]
    refine ite2 (fun e => ?_) (fun e => ?_)
    · rw [if_pos (of_decide_eq_true e)] at k
      exact ⟨x, rfl, x, d, rfl, hd0, hok, fun H1 s1 => k H1 (s0.trans s1)⟩
    rw [if_neg (fun z => e (decide_eq_true z))] at k
    -- end, say
    refine ⟨_, rfl, (by show 2 ≤ sizeLine; decide), fun p1 hp1 => ⟨p1, (["end", "say"] : List Str).map V.str, rfl, .inr sqT_new, rfl, flat_strs _, _, rfl, ?_⟩⟩
    have s1 := s0.trans (same_upd (o := .tup ((["end", "say"] : List Str).map V.str)) hp1)
    have hL1 := (same_upd (o := .tup ((["end", "say"] : List Str).map V.str)) hp1) _ _ hL0
    have hd1 := dp_mono s1 hd
    refine ite_in (ws := ["end", "say"]) (fun e => ?_) (fun e => ?_)
    · rw [if_pos e] at k
      exact ⟨x, rfl, x, d, 0, 100, rfl, hd1, fun H1 s2 => k H1 (s1.trans s2)⟩
    rw [if_neg e] at k
    -- wait
    refine ⟨_, rfl, rfl, _, rfl, ?_⟩
    rw [dec_str]
    refine ite2 (fun e => ?_) (fun e => ?_)
    · rw [if_pos (of_decide_eq_true e)] at k
      refine ⟨_, rfl, rfl, _, rfl, ?_⟩
      refine ite_at (j := 1) (fun h1 => ?_) (fun h1 => ?_)
      · rw [if_pos h1] at k
        refine ⟨x, rfl, x, _, _, _, _, rfl, .ty _, tyx_of hd1, kit_bool (nd_of hd), ?_⟩
        have q := k _ s1
        cases hd <;> exact q
      · rw [if_neg h1] at k
        refine ⟨x, rfl, rfl, _, rfl, ?_⟩
        rw [non_dec hd]
        cases eN : isNone d with
        | true =>
          rw [eN] at k
          exact iteT (k _ s1)
        | false =>
          rw [eN] at k
          exact iteF ⟨x, rfl, _, rfl, x, d, 0, great, rfl, hd1, fun H1 s2 => k H1 (s1.trans s2)⟩
    rw [if_neg (fun z => e (decide_eq_true z))] at k
    -- send
    refine ⟨_, rfl, rfl, _, rfl, ?_⟩
    rw [dec_str]
    refine ite2 (fun e => ?_) (fun e => ?_)
    · rw [if_pos (of_decide_eq_true e)] at k
      refine ⟨_, rfl, rfl, _, rfl, ?_⟩
      refine ite_at (j := 0) (fun h1 => ?_) (fun h1 => ?_)
      · rw [if_pos h1] at k
        refine ⟨x, rfl, (by show 2 ≤ sizeLine; decide), fun p2 hp2 => ?_⟩
        have s2 := s1.trans (same_upd (o := .lst (sure.map V.str)) hp2)
        have hL2 := (same_upd (o := .lst (sure.map V.str)) hp2) _ _ hL1
        refine ⟨_, rfl, p2, l, sure.map V.str, sig7.map V.str, rfl, rfl, upd_same, hL2, (by show 9 ≤ sizeLine; decide), fun p3 hp3 => ?_⟩
        have s3 := s2.trans (same_upd (o := .lst (sure.map V.str ++ sig7.map V.str)) hp3)
        exact ⟨x, d, p3, sure ++ sig7, rfl, dp_mono s3 hd, .inl (.inl (.inl upd_same)), fun H1 s4 => k H1 (s3.trans s4)⟩
      · rw [if_neg h1] at k
        refine ⟨x, rfl, _, rfl, x, d, 0, great, rfl, hd1, fun H2 s2 => ⟨_, rfl, ?_⟩⟩
        cases eN : lWhole d 0 great with
        | true =>
          rw [eN] at k
          exact iteT (k _ (s1.trans s2))
        | false =>
          rw [eN] at k
          refine iteF ⟨x, rfl, (by show 3 ≤ sizeLine; decide), fun p2 hp2 => ?_⟩
          have s3 := (s1.trans s2).trans (same_upd (o := .lst ((["self", "parent", "group"] : List Str).map V.str)) hp2)
          exact ⟨x, d, p2, ["self", "parent", "group"], rfl, dp_mono s3 hd, .inl sqL_new, fun H1 s4 => k H1 (s3.trans s4)⟩
    rw [if_neg (fun z => e (decide_eq_true z))] at k
    -- mask, unmask
    refine ⟨_, rfl, (by show 2 ≤ sizeLine; decide), fun p4 hp4 => ⟨p4, (["mask", "unmask"] : List Str).map V.str, rfl, .inr sqT_new, rfl, flat_strs _, _, rfl, ?_⟩⟩
    have s2 := s1.trans (same_upd (o := .tup ((["mask", "unmask"] : List Str).map V.str)) hp4)
    have hL2 := (same_upd (o := .tup ((["mask", "unmask"] : List Str).map V.str)) hp4) _ _ hL1
    have hd2 := dp_mono s2 hd
    refine ite_in (ws := ["mask", "unmask"]) (fun e => ?_) (fun e => ?_)
    · rw [if_pos e] at k
      exact ⟨x, rfl, x, d, rfl, hd2, hok, fun H1 s3 => k H1 (s2.trans s3)⟩
    rw [if_neg e] at k
    -- handle, its signal
    refine ⟨_, rfl, rfl, _, rfl, ?_⟩
    refine and_at (P1 := wd = "handle") (P2 := at_ = 0) dec_str (fun h => iteF h) (fun h => ⟨_, rfl, rfl, _, rfl, ite_at' (j := 0) h⟩) (fun e => ?_) (fun e => ?_)
    · rw [if_pos e] at k
      exact ⟨x, rfl, _, rfl, x, d, l, sig7, rfl, hd2, .inl (.inl (.inl hL2)), fun H1 s3 => k H1 (s2.trans s3)⟩
    rw [if_neg e] at k
    -- handle, how
    refine ⟨_, rfl, rfl, _, rfl, ?_⟩
    rw [dec_str]
    refine ite2 (fun e => ?_) (fun e => ?_)
    · rw [if_pos (of_decide_eq_true e)] at k
      refine ⟨x, rfl, x, _, _, _, _, rfl, .ty _, tyx_of hd2, kit_tup (nd_of hd), _, rfl, ?_⟩
      cases hd with
      | @tup a xs ds ha hds =>
        refine iteF ?_
        have k : ∀ H', Same H H' → Q (.bl (lHandler (.tuple ds) n)) H' := k
        have hlen := dpA_len hds
        refine ⟨_, rfl, a, xs, rfl, .inr (Same.tup s2 ha), rfl, _, rfl, ?_⟩
        refine iteLenE (fun heq => ?_) (fun hne => ?_)
        · have hl2 : xs.length = 2 := by omega
          obtain ⟨x1, x2, rfl⟩ : ∃ x1 x2, xs = [x1, x2] := by
            match xs, hl2 with
            | [x1, x2], _ => exact ⟨x1, x2, rfl⟩
          cases hds with
          | @cons _ _ d1 _ h1 ht =>
            cases ht with
            | @cons _ _ d2 _ h2 ht2 =>
              cases ht2
              have hk2 : lenOk d2 = true := lenAll_mem (lenOk_tup hok).2 (by simp)
              have k : ∀ H', Same H H' → Q (.bl (lWhole d1 0 n && lAre d2)) H' := k
              refine ⟨_, rfl, a, _, 0, x1, rfl, rfl, Same.tup s2 ha, rfl, _, rfl, x1, d1, 0, n, rfl, dp_mono s2 h1, fun H3 s3 => ⟨_, rfl, ?_⟩⟩
              cases eW : lWhole d1 0 n with
              | true =>
                rw [eW] at k
                exact iteT ⟨_, rfl, a, _, 1, x2, rfl, rfl, Same.tup (s2.trans s3) ha, rfl, x2, d2, rfl, dp_mono (s2.trans s3) h2, hk2, fun H4 s4 => k H4 ((s2.trans s3).trans s4)⟩
              | false =>
                rw [eW] at k
                exact iteF (k H3 (s2.trans s3))
        · have e : lHandler (.tuple ds) n = false := by
            match ds, hlen with
            | [], _ => rfl
            | [_], _ => rfl
            | [_, _], hl =>
              rw [hl] at hne
              exact absurd rfl hne
            | _ :: _ :: _ :: _, _ => rfl
          have q := k _ s2
          rw [e] at q
          exact q
      | non => exact iteT ⟨_, rfl, (by show 2 ≤ sizeLine; decide), fun p5 hp5 => ⟨_, .none, p5, ["plain", "ignore"], rfl, .non, .inl sqL_new, fun H1 s4 => k H1 ((s2.trans (same_upd hp5)).trans s4)⟩⟩
      | bl b => exact iteT ⟨_, rfl, (by show 2 ≤ sizeLine; decide), fun p5 hp5 => ⟨_, .bool b, p5, ["plain", "ignore"], rfl, .bl b, .inl sqL_new, fun H1 s4 => k H1 ((s2.trans (same_upd hp5)).trans s4)⟩⟩
      | int i => exact iteT ⟨_, rfl, (by show 2 ≤ sizeLine; decide), fun p5 hp5 => ⟨_, .int i, p5, ["plain", "ignore"], rfl, .int i, .inl sqL_new, fun H1 s4 => k H1 ((s2.trans (same_upd hp5)).trans s4)⟩⟩
      | str z => exact iteT ⟨_, rfl, (by show 2 ≤ sizeLine; decide), fun p5 hp5 => ⟨_, .str z, p5, ["plain", "ignore"], rfl, .str z, .inl sqL_new, fun H1 s4 => k H1 ((s2.trans (same_upd hp5)).trans s4)⟩⟩
      | @lst a xs ds ha hds => exact iteT ⟨_, rfl, (by show 2 ≤ sizeLine; decide), fun p5 hp5 => ⟨_, .list ds, p5, ["plain", "ignore"], rfl, dp_mono (s2.trans (same_upd hp5)) (.lst ha hds), .inl sqL_new, fun H1 s4 => k H1 ((s2.trans (same_upd hp5)).trans s4)⟩⟩
    rw [if_neg (fun z => e (decide_eq_true z))] at k
    -- group, front: who
    refine ⟨_, rfl, (by show 2 ≤ sizeLine; decide), fun p6 hp6 => ⟨p6, (["group", "front"] : List Str).map V.str, rfl, .inr sqT_new, rfl, flat_strs _, _, rfl, ?_⟩⟩
    have s3 := s2.trans (same_upd (o := .tup ((["group", "front"] : List Str).map V.str)) hp6)
    have hd3 := dp_mono s3 hd
    refine and_at (P1 := wd ∈ (["group", "front"] : List Str)) (P2 := at_ = 0) (inV_strs wd ["group", "front"]) (fun h => iteF h) (fun h => ⟨_, rfl, rfl, _, rfl, ite_at' (j := 0) h⟩) (fun e => ?_) (fun e => ?_)
    · rw [if_pos e] at k
      refine ⟨x, rfl, _, rfl, x, d, 0, great, rfl, hd3, fun H4 s4 => ⟨_, rfl, ?_⟩⟩
      cases eN : lWhole d 0 great with
      | true =>
        rw [eN] at k
        exact iteT (k _ (s3.trans s4))
      | false =>
        rw [eN] at k
        refine iteF ⟨x, rfl, (by show 1 ≤ sizeLine; decide), fun p7 hp7 => ?_⟩
        have s5 := (s3.trans s4).trans (same_upd (o := .lst ((["self"] : List Str).map V.str)) hp7)
        exact ⟨x, d, p7, ["self"], rfl, dp_mono s5 hd, .inl sqL_new, fun H1 s6 => k H1 (s5.trans s6)⟩
    rw [if_neg e] at k
    -- group: where
    refine ⟨_, rfl, rfl, _, rfl, ?_⟩
    rw [dec_str]
    refine ite2 (fun e => ?_) (fun e => ?_)
    · rw [if_pos (of_decide_eq_true e)] at k
      refine ⟨x, rfl, (by show 2 ≤ sizeLine; decide), fun p7 hp7 => ?_⟩
      have s5 := s3.trans (same_upd (o := .lst ((["new", "mine"] : List Str).map V.str)) hp7)
      exact ⟨x, d, p7, ["new", "mine"], rfl, dp_mono s5 hd, .inl sqL_new, fun H1 s6 => k H1 (s5.trans s6)⟩
    rw [if_neg (fun z => e (decide_eq_true z))] at k
    -- if, goto
    refine ⟨_, rfl, rfl, _, rfl, ?_⟩
    refine and_at (P1 := wd = "if") (P2 := at_ = 0) dec_str (fun h => iteF h) (fun h => ⟨_, rfl, rfl, _, rfl, ite_at' (j := 0) h⟩) (fun e => ?_) (fun e => ?_)
    · rw [if_pos e] at k
      exact ⟨x, rfl, _, rfl, _, _, rfl, rfl, _, rfl, x, d, 0 - great, great, rfl, hd3, fun H1 s4 => k H1 (s3.trans s4)⟩
    · rw [if_neg e] at k
      exact ⟨x, rfl, _, rfl, x, d, 0, n, rfl, hd3, fun H1 s4 => k H1 (s3.trans s4)⟩
end
end Kin
namespace Kin
open PySem PySem.Spec PyProof.Rows L2
section
variable {P : Program} {w : World} {K : PySem.W.Frag} {mg : Str → Option Value} {base : Heap} {tL : Tok} {es : Array DictEntry} {nF : Nat}
def spLRow (K : PySem.W.Frag) : Sp := fun vs H Q _ => ∃ (x : V) (d : PyData) (n : Int), vs = [x, .int n] ∧ Dp K H x d ∧ lenOk d = true ∧ SeqAt.shaped d = true ∧ ∀ H', Same H H' → Q (.bl (lRow d n)) H'
def kvs1 : List (Key × V) := [(Sum.inr "exec", .int 1), (Sum.inr "end", .int 1), (Sum.inr "wait", .int 2), (Sum.inr "send", .int 2), (Sum.inr "mask", .int 1), (Sum.inr "unmask", .int 1), (Sum.inr "handle", .int 2), (Sum.inr "group", .int 2), (Sum.inr "front", .int 1)]
def kvs2 : List (Key × V) := [(Sum.inr "say", .int 1), (Sum.inr "goto", .int 1), (Sum.inr "if", .int 2), (Sum.inr "fork", .int 0), (Sum.inr "pause", .int 0), (Sum.inr "read", .int 0), (Sum.inr "return", .int 0), (Sum.inr "session", .int 0), (Sum.inr "taker", .int 0)]
theorem merged_many : mergeK (mergeK [] kvs1) (mergeK [] kvs2) = many.map fun q => ((Sum.inr q.1 : Key), V.int q.2) := by decide +kernel
theorem valV_map (z : Str) : ∀ l : List (Str × Int), valV (l.map fun q => ((Sum.inr q.1 : Key), V.int q.2)) (Sum.inr z) = (l.lookup z).map V.int
  | [] => rfl
  | (a, b) :: r => by
    have ih := valV_map z r
    unfold valV at ih ⊢
    rw [List.map_cons, List.find?_cons, List.lookup_cons]
    by_cases h : z = a
    · subst h
      simp
    · have h1 : decide ((Sum.inr a : Key) = Sum.inr z) = false := decide_eq_false fun q => h (Sum.inr.inj q).symm
      have h2 : (z == a) = false := by simpa using h
      rw [h1, h2]
      exact ih
theorem eqv_nil (ds : List PyData) : PyData.eqv (.tuple ds) (.tuple []) = ds.isEmpty := by
  cases ds with
  | nil => simp [PyData.eqv, PyData.eqvAll]
  | cons a r => simp [PyData.eqv, PyData.eqvAll]
abbrev s__law_is_row : Stmt := topS 32
theorem sc__law_is_row : FnScope [("_law_thing" : Str), ("_law_size" : Str), ("_law_many" : Str), ("_law_at" : Str), ("_law_part" : Str)] ["_law_thing", "_law_size"] (defScope s__law_is_row) := ⟨rfl, rfl, rfl, by decide +kernel, rfl, by decide +kernel, by decide +kernel⟩
theorem ok__law_is_row {f : Addr} {fd : FuncData} (F : FnP K "_law_is_row" s__law_is_row f fd) (T : Bi K w mg tL es nF) (c__law_is_part : Cal P w K mg base "_law_is_part" ["_law_word_here", "_law_at", "_law_part", "_law_size"] 3 (spLPart K)) : FnOk P w K mg base CX0 4 f fd ["_law_thing", "_law_size"] (spLRow K) := by
  refine F.ok sc__law_is_row (fun vs H Q E h => ?_) (fun cdv A outer s H vs Q E hr h => ?_)
  · obtain ⟨x, d, n, rfl, _⟩ := h
    rfl
  · obtain ⟨x, d, n, rfl, hd, hok, hsh, k⟩ := h
    refine ⟨_, PSs.nox (pss_cons (ps_if (PW.pt (pw_or (pt_not (pt_val (pe_callB call_isi (by rfl) T.n_isinstance boot_isinstance (pa_cons (pv 0) (pa_cons (pe_bltn (v := .ty "tuple") (by rfl) T.n_tuple boot_tuple rfl) pa_nil))))) (pw_or (pt_cmpR (op_eqD hr.units) (pv 0) (pe_tup pa_nil) (nomark _)) (pw_or1 (pt_not (pt_val (pe_callB call_isi (by rfl) T.n_isinstance boot_isinstance (pa_cons (pe_ix ix_tup (pv 0) pe_int (fun _ _ => rfl)) (pa_cons (pe_bltn (v := .ty "str") (by rfl) T.n_str boot_str rfl) pa_nil))))))))) (pss_one (ps_ret pe_bl)) pss_nil) (pss_cons (ps_set (i := 2) sc__law_is_row.nd rfl (by first | exact .inl rfl | exact .inr rfl) (pe_disp (pps_cons pe_str pe_int (pps_cons pe_str pe_int (pps_cons pe_str pe_int (pps_cons pe_str pe_int (pps_cons pe_str pe_int (pps_cons pe_str pe_int (pps_cons pe_str pe_int (pps_cons pe_str pe_int (pps_cons pe_str pe_int pps_nil))))))))) (by rfl) (by rfl) (by intro h; cases h) (by decide))) (pss_cons (ps_expr (pe_bm PySem.F.plainAttrs_dict PySem.F.slot_dict_update PySem.F.type_dict_update mt_update (pv 2) (pa_cons (pe_disp (pps_cons pe_str pe_int (pps_cons pe_str pe_int (pps_cons pe_str pe_int (pps_cons pe_str pe_int (pps_cons pe_str pe_int (pps_cons pe_str pe_int (pps_cons pe_str pe_int (pps_cons pe_str pe_int (pps_cons pe_str pe_int pps_nil))))))))) (by rfl) (by rfl) (by intro h; cases h) (by decide)) pa_nil))) (pss_cons (ps_if (PW.pt (pw_or (pt_cmp (pc_dnotin (hu_of hr) (pe_ix ix_tup (pv 0) pe_int (fun _ _ => rfl)) (pv 2))) (pw_or1 (pt_cmpR op_ne (pe_callB call_len_seq (by rfl) T.n_len PySem.boot_len (pa_cons (pv 0) pa_nil)) (pe_op op_add pe_int (pe_dget (hu_of hr) (pv 2) (pe_ix ix_tup (pv 0) pe_int (fun _ _ => rfl)) (fun _ _ => rfl))) (nomark _))))) (pss_one (ps_ret pe_bl)) pss_nil) (pss_one (ps_ret (pe_callB (cr_all rfl) (by rfl) T.n_all boot_all (pa_cons (pe_lc (own := [(("_law_at" : Str), 3), (("_law_part" : Str), 4)]) (g := gTup K 2 (gCons (gName 3) (gCons (gName 4) (gNil)))) (te := tCall (spLPart K) [] E0 (tCons (tOp (rIxT K) (tVar 0) (tC (.int 0))) (tCons (tVar 3) (tCons (tVar 4) (tCons (tVar 1) tNil))))) rfl sc__law_is_row.nd (pi_enumT (by rfl) T.n_enumerate (pa_cons (pe_slice sl_tupA (pv 0) (po_some pe_int) po_none) pa_nil)) (blkOk_by (N := [("_law_thing" : Str), ("_law_size" : Str), ("_law_many" : Str), ("_law_at" : Str), ("_law_part" : Str)]) (sc := defScope s__law_is_row) (by decide +kernel)) (fun _ _ _ _ _ => by exact (pg_tup rfl (pgs_cons (pg_name (i := 3) sc__law_is_row.nd rfl (by first | exact .inl rfl | exact .inr rfl)) (pgs_cons (pg_name (i := 4) sc__law_is_row.nd rfl (by first | exact .inl rfl | exact .inr rfl)) pgs_nil)))) (fun _ _ _ _ _ => pts_nil) (fun _ _ _ _ _ => (pe_cal c__law_is_part (hr.mono (by decide)) (by rfl) pass0 (pa_cons (pe_ix ix_tup (pv 0) pe_int (fun _ _ => rfl)) (pa_cons (pv 3) (pa_cons (pv 4) (pa_cons (pv 1) pa_nil))))))) pa_nil)))))))), ?_⟩
    refine ⟨x, rfl, x, _, _, _, _, rfl, .ty _, tyx_of hd, kit_tup (nd_of hd), _, rfl, ?_⟩
    cases hd with
    | @tup a xs ds ha hds =>
      refine iteF ⟨_, rfl, Nat.zero_le _, fun p0 hp0 => ?_⟩
      have s0 := same_upd (o := .tup []) hp0
      refine ⟨.tuple ds, .tuple [], dp_mono s0 (.tup ha hds), .tup sqT_new .nil, hsh, (by decide +kernel), _, rfl, ?_⟩
      rw [eqv_nil]
      cases hds with
      | nil => exact iteT (k _ s0)
      | @cons x1 xr d1 dr h1 ht =>
        refine iteF ⟨_, rfl, a, _, 0, x1, rfl, rfl, Same.tup s0 ha, at0 _ _, x1, _, _, _, _, rfl, .ty _, tyx_of (dp_mono s0 h1), kit_str (nd_of h1), _, rfl, ?_⟩
        cases h1 with
        | str wd =>
          refine iteF ?_
          have k : ∀ H', Same H H' → Q (.bl (match many.lookup wd with | some m => decide ((dr.length : Int) + 1 = 1 + m) && lParts wd n 0 dr | none => false)) H' := k
          have ha0 := Same.tup s0 ha
          refine fun pM hpM => ⟨upd_same, kvs1, rfl, by decide, ?_⟩
          have sM1 := same_mut (o := .dK (mergeK [] kvs1)) (same_upd (o := .dK []) hpM) hpM
          refine ⟨_, rfl, .inr (.inr (.inl ⟨rfl, .inl ⟨_, upd_same⟩⟩)), fun p2 hp2 => ⟨upd_same, kvs2, rfl, by decide, pM, p2, mergeK [] kvs1, mergeK [] kvs2, rfl, rfl, ?_, ?_, upd_same, by decide +kernel, ?_⟩⟩
          · exact ne_of_none upd_same hp2
          · rw [upd_ne (ne_of_none upd_same hp2), upd_ne (ne_of_none upd_same hp2)]
            exact upd_same
          rw [merged_many]
          have sM2 := sM1.trans (same_mut (o := .dK (mergeK [] kvs2)) (same_upd (o := .dK []) hp2) hp2)
          have sM := same_mut (o := .dK (many.map fun q => ((Sum.inr q.1 : Key), V.int q.2))) sM2 hpM
          have s1 := s0.trans sM
          have hG := DGet.k (k := (Sum.inr wd : Key)) (upd_same (H := upd (upd (upd (upd (upd H p0 (.tup [])) pM (.dK [])) pM (.dK (mergeK [] kvs1))) p2 (.dK [])) p2 (.dK (mergeK [] kvs2))) (a := pM) (o := .dK (many.map fun q => ((Sum.inr q.1 : Key), V.int q.2))))
          rw [valV_map] at hG
          have ha1 := Same.tup s1 ha
          refine ⟨_, rfl, a, _, 0, .str wd, rfl, rfl, ha1, at0 _ _, _, rfl, pM, _, rfl, hG, _, rfl, ?_⟩
          cases hm : many.lookup wd with
          | none =>
            refine iteT ?_
            have q := k _ s1
            rw [hm] at q
            exact q
          | some m =>
            refine iteF ?_
            rw [hm] at hG
            have k : ∀ H', Same H H' → Q (.bl (decide ((dr.length : Int) + 1 = 1 + m) && lParts wd n 0 dr)) H' := fun H' s' => by
              have q := k H' s'
              rw [hm] at q
              exact q
            refine ⟨_, rfl, a, _, rfl, .inr ha1, _, rfl, _, rfl, a, _, 0, .str wd, rfl, rfl, ha1, at0 _ _, pM, _, rfl, hG, _, _, rfl, rfl, rfl, _, rfl, ?_⟩
            have hlr := dpA_len ht
            refine iteLen (fun hne => ?_) (fun heq => ?_)
            · have q := k _ s1
              rw [decide_eq_false (show ¬ (dr.length : Int) + 1 = 1 + m by
                intro z
                apply hne
                rw [List.length_cons, hlr]
                omega)] at q
              exact q
            · have hl : (dr.length : Int) + 1 = 1 + m := by
                rw [List.length_cons, hlr] at heq
                omega
              rw [decide_eq_true hl] at k
              refine ⟨_, rfl, _, rfl, a, _, rfl, ha1, fun z => absurd z sIx1, fun _ p hp => ?_⟩
              have sp := same_upd (o := .tup (cutV (V.str wd :: xr) (some 1) none)) hp
              refine ⟨p, xr, rfl, sqT_cut1, fun D hD => ?_⟩
              refine lc_vals (walk_enumT (xs := xr)) (fun i => .bl (match dr[i]? with | some p => lPart wd (0 + i) p n | none => true)) hD ?_ (fun H' s2 => Same.tup s2 sqT_cut1) ?_ ?_
              · have h0 := (lenOk_tup hok).1
                rw [List.length_cons] at h0
                omega
              · rintro i v H' H'' Qe hi s2 ⟨tp, y1, y2, rfl, htp, rfl, hk1, hk2⟩ q
                have hk1 : some (V.int (i : Nat)) = some y1 := hk1
                have hk2 : xr[i]? = some y2 := hk2
                cases Option.some.inj hk1
                obtain ⟨dd, hdd, hdp⟩ := dpA_get ht hk2
                have sT := same_upd (o := .tup [V.int (i : Nat), y2]) htp
                refine ⟨tp, _, rfl, sqT_new, rfl, _, [y2], rfl, y2, [], rfl, rfl, rfl, ?_⟩
                have sA := ((s1.trans sp).trans s2).trans sT
                refine ⟨_, rfl, a, _, 0, .str wd, rfl, rfl, Same.tup sA ha, at0 _ _, _, rfl, _, rfl, _, rfl, y2, dd, wd, i, n, rfl, dp_mono sA hdp, lenAll_mem (lenOk_tup hok).2 (List.mem_cons_of_mem _ (List.mem_of_getElem? hdd)), fun H4 s4 => ?_⟩
                have q := q H4 (sT.trans s4)
                rw [hdd, Nat.zero_add] at q
                exact q
              · intro H' s2 hlst
                refine ⟨D, (List.range dr.length).map fun i => (match dr[i]? with | some p => lPart wd (0 + i) p n | none => true), rfl, .inl (.inl ?_), ?_⟩
                · rw [hlst, hlr, List.map_map]
                  rfl
                · have q := k H' ((s1.trans sp).trans s2)
                  rw [← lParts_all wd n dr 0] at q
                  exact q
        | _ => exact iteT (k _ s0)
    | _ => exact iteT (k H (Same.refl H))
end
end Kin
namespace Kin
open PySem PySem.Spec PyProof.Rows L2
section
variable {P : Program} {w : World} {K : PySem.W.Frag} {mg : Str → Option Value} {base : Heap} {tL : Tok} {es : Array DictEntry} {nF : Nat}
abbrev s__law_hand : Stmt := topS 21
theorem sc__law_hand : FnScope [("_law_script" : Str), ("_law_seed" : Str), ("_law_cell" : Str)] ["_law_script"] (defScope s__law_hand) := ⟨rfl, rfl, rfl, by decide +kernel, rfl, by decide +kernel, by decide +kernel⟩
theorem ok__law_hand {f : Addr} {fd : FuncData} (F : FnP K "_law_hand" s__law_hand f fd) (T : Bi K w mg tL es nF) : FnOk P w K mg base CX0 1 f fd ["_law_script"] (spHand K) := by
  refine F.ok sc__law_hand (fun vs H Q E h => ?_) (fun cdv A outer s H vs Q E hr h => ?_)
  · obtain ⟨a, ns, rfl, _⟩ := h
    rfl
  · obtain ⟨a, ns, rfl, ha, hlen, k⟩ := h
    refine ⟨_, PSs.nox (pss_cons (ps_set (i := 1) sc__law_hand.nd rfl (by first | exact .inl rfl | exact .inr rfl) pe_int) (pss_cons (ps_for PassesOwn.never rfl (pi_list (pe_slice sl_list (pv 0) po_none (po_some pe_int))) (pg_name (i := 2) sc__law_hand.nd rfl (by first | exact .inl rfl | exact .inr rfl)) (pss_one (ps_set (i := 1) sc__law_hand.nd rfl (by first | exact .inl rfl | exact .inr rfl) (pe_op op_mod (pe_op op_add (pe_op op_add (pe_op op_mul (pv 1) pe_int) (pe_op op_mod (pv 2) pe_int)) pe_int) pe_int)))) (pss_one (ps_ret (pe_lst (pa_cons (pe_lc (own := [(("_law_cell" : Str), 2)]) (g := gName 2) rfl sc__law_hand.nd (pi_list (pe_slice sl_list (pv 0) po_none (po_some pe_int))) (blkOk_by (N := [("_law_script" : Str), ("_law_seed" : Str), ("_law_cell" : Str)]) (sc := defScope s__law_hand) (by decide +kernel)) (fun _ _ _ _ _ => by exact (pg_name (i := 2) sc__law_hand.nd rfl (by first | exact .inl rfl | exact .inr rfl))) (fun _ _ _ _ _ => pts_one (pt_cmpR op_ge (pv 2) (pe_op op_pow pe_int pe_int) (nomark _))) (fun _ _ _ _ _ => (pv 2))) (pa_cons (pv 1) pa_nil))))))), ?_⟩
    refine ⟨_, rfl, _, rfl, a, _, rfl, ha, fun p hp => ?_⟩
    have s1 := same_upd (o := .lst (cutV (ns.map V.int) none (some 63))) hp
    have hcl : (cutV (ns.map V.int) none (some 63)).length ≤ 63 := Nat.le_trans (cutV_length _ _ _) (by rw [List.length_map]; exact hlen)
    obtain ⟨ms, hms⟩ : ∃ ms : List Int, cutV (ns.map V.int) none (some 63) = ms.map V.int := by
      unfold cutV
      rw [List.map_drop.symm, List.map_take.symm]
      exact ⟨_, rfl⟩
    refine ⟨p, rfl, ⟨_, sqL_new⟩, ?_⟩
    refine for_list (K := K) (a := p) (xs := cutV (ns.map V.int) none (some 63)) (fun i σ H' => ∃ (seed : Int) (y : Option V), σ = [some (.ref a), some (.int seed), y] ∧ 0 ≤ seed ∧ seed < bigM ∧ Same H H' ∧ SqL K H' p (cutV (ns.map V.int) none (some 63)))
      ⟨23, none, rfl, by decide, by decide, s1, sqL_new⟩ (fun i σ H' _ ⟨_, _, _, _, _, _, h⟩ => h) ?_ ?_
    · rintro i v σ H' hi ⟨seed, y, rfl, h0, h1, s2, hl⟩
      rw [hms, List.getElem?_map] at hi
      obtain ⟨c, rfl⟩ : ∃ c, v = V.int c := by
        cases e : ms[i]? with
        | none => rw [e] at hi; cases hi
        | some c => rw [e] at hi; exact ⟨c, (Option.some.inj hi).symm⟩
      refine ⟨_, rfl, _, _, rfl, rfl, .inr ⟨by decide, by decide⟩, _, rfl, _, _, rfl, rfl, (by show (0 : Int) < 2305843009213693951; decide), _, _, rfl, rfl, _, _, rfl, rfl, _, _, rfl, rfl, (by show (0 : Int) < 2305843009213693951; decide), ?_⟩
      exact ⟨_, some (.int c), rfl, Int.emod_nonneg _ (by decide), Int.emod_lt_of_pos _ (by decide), s2, hl⟩
    · rintro σ H2 ⟨seed, y, rfl, h0, h1, s2, _⟩
      refine ⟨_, rfl, _, rfl, a, _, rfl, s2.seq ha, fun p2 hp2 => ?_⟩
      have s3 := same_upd (o := .lst (cutV (ns.map V.int) none (some 63))) hp2
      refine ⟨p2, rfl, ⟨_, sqL_new⟩, fun D hD => ?_⟩
      refine lc_it (walk_list (xs := cutV (ns.map V.int) none (some 63))) (fun i H' => Same H2 H' ∧ SqL K H' p2 (cutV (ns.map V.int) none (some 63)) ∧ ∃ cells : List Int, H' D = some (.lst (cells.map V.int)) ∧ cells.length ≤ i ∧ ∀ c ∈ cells, 0 ≤ c) ?_ (fun i H' _ h => h.2.1) ?_ ?_
      · exact ⟨s3.trans (same_upd hD), (same_upd hD).seq sqL_new, [], upd_same, Nat.le_refl _, by simp⟩
      · rintro i v H' H'' hi ⟨s4, h4, cells, hc, hcn, hc0⟩ ⟨rfl, hv⟩
        rw [hms, List.getElem?_map] at hv
        obtain ⟨c, rfl⟩ : ∃ c, v = V.int c := by
          cases e : ms[i]? with
          | none => rw [e] at hv; cases hv
          | some c => rw [e] at hv; exact ⟨c, (Option.some.inj hv).symm⟩
        refine ⟨rfl, _, rfl, _, _, rfl, rfl, ⟨by decide, by decide, by decide⟩, _, _, rfl, rfl, _, rfl, ?_⟩
        have hDp : D ≠ p2 := (ne_of_none upd_same hD).symm
        refine ite2 (fun e => ?_) (fun e => ?_)
        · refine ⟨_, rfl, _, hc, ?_, ?_, ?_, cells ++ [c], ?_, ?_, ?_⟩
          · rw [List.length_map]
            exact Nat.lt_of_le_of_lt hcn (Nat.lt_of_lt_of_le hi (Nat.le_trans hcl (by decide)))
          · exact same_mut s4 (s3.free hD)
          · rcases h4 with (h4 | ⟨o, h4⟩) | h4
            · exact .inl (.inl (by rw [upd_ne hDp.symm]; exact h4))
            · exact .inl (.inr ⟨o, by rw [upd_ne hDp.symm]; exact h4⟩)
            · exact .inr h4
          · rw [upd_same, List.map_append]
            rfl
          · rw [List.length_append, List.length_singleton]
            omega
          · intro z hz
            rcases List.mem_append.mp hz with q | q
            · exact hc0 z q
            · rw [List.mem_singleton.mp q]
              have e : (10 : Int) ^ (18 : Int).toNat ≤ c := of_decide_eq_true e
              have : (0 : Int) ≤ 10 ^ (18 : Int).toNat := by decide
              omega
        · exact ⟨s4, h4, cells, hc, by omega, hc0⟩
      · rintro H3 ⟨s4, h4, cells, hc, hcn, hc0⟩
        refine ⟨_, rfl, (by show 2 ≤ sizeLine; decide), fun x hx => ?_⟩
        have s5 := same_upd (o := .lst [V.ref D, V.int seed]) hx
        refine k x D _ ((s2.trans s4).trans s5) ((s2.trans s4).free hx) (s2.free (s3.free hD)) ⟨cells.length, Nat.le_trans hcn hcl, ⟨cells, seed, upd_same, s5 _ _ hc, h0, h1, hc0, rfl⟩, (ne_of_none hc hx).symm⟩
end
end Kin
namespace Kin
open PySem PySem.Spec PyProof.Rows L2
section
variable {P : Program} {w : World} {K : PySem.W.Frag} {mg : Str → Option Value} {base : Heap} {tL : Tok} {es : Array DictEntry} {nF : Nat}
theorem at1 {α : Type} (a b : α) : atI [a, b] 1 = some b := rfl
abbrev s__law_pick : Stmt := topS 22
theorem sc__law_pick : FnScope [("_law_hand_here" : Str), ("_law_many" : Str), ("_law_digit" : Str), ("_law_mixed" : Str)] ["_law_hand_here", "_law_many"] (defScope s__law_pick) := ⟨rfl, rfl, rfl, by decide +kernel, rfl, by decide +kernel, by decide +kernel⟩
theorem ok__law_pick {f : Addr} {fd : FuncData} (F : FnP K "_law_pick" s__law_pick f fd) (T : Bi K w mg tL es nF) : FnOk P w K mg base CX0 1 f fd ["_law_hand_here", "_law_many"] spPick := by
  refine F.ok sc__law_pick (fun vs H Q E h => ?_) (fun cdv A outer s H vs Q E hr h => ?_)
  · obtain ⟨x, l, many, rfl, _⟩ := h
    rfl
  · obtain ⟨x, l, many, rfl, ⟨n0, hn0, hh⟩, hm0, hm1, k⟩ := h
    refine ⟨_, PSs.nox (Evl.pss_cut (ps_while PassesOwn.never (PW.pt (pw_and (pt_cmpR (op_neD hr.units) (pe_ix ix_list (pv 0) pe_int (fun _ _ => rfl)) (pe_lst pa_nil) (nomark _)) (pw_and1 (pt_cmpR op_eq (pe_ix ix_list (pe_ix ix_list (pv 0) pe_int (fun _ _ => rfl)) pe_int (fun _ _ => rfl)) pe_int (nomark _))))) (pss_one (ps_expr (pe_bm PySem.F.plainAttrs_list PySem.F.slot_list_pop PySem.F.type_list_pop mt_popAt (pe_ix ix_list (pv 0) pe_int (fun _ _ => rfl)) (pa_cons pe_int pa_nil))))) (pss_cons (ps_if (pt_cmpR (op_neD hr.units) (pe_ix ix_list (pv 0) pe_int (fun _ _ => rfl)) (pe_lst pa_nil) (nomark _)) (pss_cons (ps_set (i := 2) sc__law_pick.nd rfl (by first | exact .inl rfl | exact .inr rfl) (pe_op op_mod (pe_ix ix_list (pe_ix ix_list (pv 0) pe_int (fun _ _ => rfl)) pe_int (fun _ _ => rfl)) (pv 1))) (pss_cons (ps_asg (pe_op op_fdiv (pe_ix ix_list (pe_ix ix_list (pv 0) pe_int (fun _ _ => rfl)) pe_int (fun _ _ => rfl)) (pv 1)) (pg_sub (pe_ix ix_list (pv 0) pe_int (fun _ _ => rfl)) pe_int set_list)) (pss_one (ps_ret (pv 2))))) pss_nil) (pss_cons (ps_asg (pe_op op_mod (pe_op op_add (pe_op op_mul (pe_ix ix_list (pv 0) pe_int (fun _ _ => rfl)) pe_int) pe_int) pe_int) (pg_sub (pv 0) pe_int set_list)) (pss_cons (ps_set (i := 3) sc__law_pick.nd rfl (by first | exact .inl rfl | exact .inr rfl) (pe_op op_fdiv (pe_ix ix_list (pv 0) pe_int (fun _ _ => rfl)) pe_int)) (pss_one (ps_ret (pe_op op_mod (pe_op op_fdiv (pe_op op_mod (pe_op op_mul (pv 3) (pe_op op_add (pe_op op_mod (pv 3) pe_int) pe_int)) pe_int) pe_int) (pv 1)))))))), ?_⟩
    refine ⟨fun σ H' => ∃ m, m ≤ n0 ∧ σ = [some (.ref x), some (.int many), none, none] ∧ Off x l H H' ∧ HandN m x l H',
      ⟨fun m σ H' => m ≤ n0 ∧ σ = [some (.ref x), some (.int many), none, none] ∧ Off x l H H' ∧ HandN m x l H', ⟨n0, Nat.le_refl _, rfl, Off.refl, hh⟩, ?_⟩, ?_⟩
    · rintro m σ H1 ⟨hm, rfl, f1, h1⟩
      obtain ⟨cells, seed, ex, el, hs0, hs1, hc0, hcn⟩ := h1.ex
      refine ⟨_, rfl, x, _, 0, .ref l, rfl, rfl, .inl (.inl ex), rfl, Nat.zero_le _, fun p hp => ?_⟩
      have s1 := same_upd (o := .lst []) hp
      refine ⟨.list (cells.map .int), .list [], .lst (.inl (.inl (s1 _ _ el))) (dp_ints cells), .lst sqL_new .nil, shaped_ints cells, (by decide +kernel), _, rfl, ?_⟩
      rw [eqv_lnil]
      have hh1 := h1.same s1
      cases cells with
      | nil => exact iteF (iteF ⟨m, hm, rfl, f1.trans (Off.of s1), hh1⟩)
      | cons c0 cr =>
        refine iteT ⟨_, rfl, x, _, 0, .ref l, rfl, rfl, .inl (.inl (s1 _ _ ex)), rfl, l, _, 0, .int c0, rfl, rfl, .inl (.inl (s1 _ _ el)), at0 _ _, rfl, _, rfl, ?_⟩
        refine ite2 (fun e => ?_) (fun e => ?_)
        · refine ⟨fun σ' H' => σ' = [some (.ref x), some (.int many), none, none] ∧ Off x l H H' ∧ HandN cr.length x l H', fun σ' H' h => ⟨cr.length, ?_, ?_, h⟩, ?_⟩
          · rw [← hcn, List.length_cons]
            omega
          · rw [← hcn, List.length_cons] at hm
            omega
          · refine ⟨_, rfl, x, _, 0, .ref l, rfl, rfl, .inl (.inl (s1 _ _ ex)), rfl, .inl ⟨rfl, _, .inl (.inl (s1 _ _ el))⟩, l, _, 0, 0, .int c0, rfl, rfl, s1 _ _ el, by decide, by decide, ?_, rfl, ?_⟩
            · rw [List.map_cons, List.length_cons]
              exact seqIndex_of (by decide) (by omega)
            · refine ⟨rfl, ?_, ⟨cr, seed, ?_, ?_, hs0, hs1, fun c hc => hc0 c (List.mem_cons_of_mem _ hc), rfl⟩, h1.ne⟩
              · intro b o hb1 hb2 hb
                rw [upd_ne hb2]
                exact s1 _ _ (f1 b o hb1 hb2 hb)
              · rw [upd_ne h1.ne]
                exact s1 _ _ ex
              · exact upd_same
        · exact ⟨m, hm, rfl, f1.trans (Off.of s1), hh1⟩
    · rintro σ H1 ⟨m, hm, rfl, f1, h1⟩
      obtain ⟨cells, seed, ex, el, hs0, hs1, hc0, hcn⟩ := h1.ex
      refine ⟨_, rfl, x, _, 0, .ref l, rfl, rfl, .inl (.inl ex), rfl, Nat.zero_le _, fun p hp => ?_⟩
      have s1 := same_upd (o := .lst []) hp
      refine ⟨.list (cells.map .int), .list [], .lst (.inl (.inl (s1 _ _ el))) (dp_ints cells), .lst sqL_new .nil, shaped_ints cells, (by decide +kernel), _, rfl, ?_⟩
      rw [eqv_lnil]
      have ex1 := s1 _ _ ex
      have el1 := s1 _ _ el
      cases cells with
      | cons c0 cr =>
        refine iteT ?_
        have hc : 0 ≤ c0 := hc0 c0 (by simp)
        refine ⟨_, rfl, x, _, 0, .ref l, rfl, rfl, .inl (.inl ex1), rfl, l, _, 0, .int c0, rfl, rfl, .inl (.inl el1), at0 _ _, _, rfl, _, _, rfl, rfl, hm0, ?_⟩
        refine ⟨_, rfl, x, _, 0, .ref l, rfl, rfl, .inl (.inl ex1), rfl, l, _, 0, .int c0, rfl, rfl, .inl (.inl el1), at0 _ _, _, rfl, _, _, rfl, rfl, ⟨hm0, by omega⟩, _, rfl, x, _, 0, .ref l, rfl, rfl, .inl (.inl ex1), rfl, l, _, 0, 0, rfl, rfl, el1, ?_, _, rfl, ?_⟩
        · rw [List.map_cons, List.length_cons]
          unfold ixN
          rw [if_pos (by decide), if_pos (by omega)]
          rfl
        · refine k _ _ (Int.emod_nonneg _ (by omega)) (Int.emod_lt_of_pos _ hm0) ⟨m, by omega, ⟨(c0 / many) :: cr, seed, ?_, ?_, hs0, hs1, ?_, hcn⟩, h1.ne⟩ ?_
          · rw [upd_ne h1.ne]
            exact ex1
          · exact upd_same
          · intro z hz
            rcases List.mem_cons.mp hz with q | q
            · rw [q]
              exact Int.ediv_nonneg hc (by omega)
            · exact hc0 z (List.mem_cons_of_mem _ q)
          · intro b o hb1 hb2 hb
            rw [upd_ne hb2]
            exact s1 _ _ (f1 b o hb1 hb2 hb)
      | nil =>
        refine iteF ?_
        refine ⟨_, rfl, x, _, 1, .int seed, rfl, rfl, .inl (.inl ex1), rfl, _, _, rfl, rfl, .inr ⟨by decide, by decide⟩, _, _, rfl, rfl, _, _, rfl, rfl, (by show (0 : Int) < 2305843009213693951; decide), _, rfl, x, _, 1, 1, rfl, rfl, ex1, rfl, ?_⟩
        have hb0 : ∀ z : Int, 0 ≤ z % 8191 := fun z => Int.emod_nonneg _ (by decide)
        have hb1 : ∀ z : Int, z % 8191 < 8191 := fun z => Int.emod_lt_of_pos _ (by decide)
        have hx1 := upd_same (H := upd H1 p (.lst [])) (a := x) (o := .lst ([V.ref l, V.int seed].set 1 (V.int ((seed * 3935559000370003 + 2691343689449507) % 2305843009213693951))))
        refine ⟨_, rfl, x, _, 1, _, rfl, rfl, .inl (.inl hx1), rfl, _, _, rfl, rfl, ⟨by decide, by decide⟩, ?_⟩
        refine ⟨_, rfl, _, rfl, _, _, rfl, rfl, (by show (0 : Int) < 8191; decide), _, _, rfl, rfl, _, _, rfl, rfl, .inr ⟨?_, ?_⟩, _, _, rfl, rfl, (by show (0 : Int) < 2305843009213693921; decide), _, _, rfl, rfl, ⟨by decide, by decide⟩, _, rfl, _, _, rfl, rfl, hm0, ?_⟩
        · have := hb0 ((seed * 3935559000370003 + 2691343689449507) % 2305843009213693951 / 65537)
          show (-(2 ^ 64) : Int) < (seed * 3935559000370003 + 2691343689449507) % 2305843009213693951 / 65537 % 8191 + 3
          omega
        · have := hb1 ((seed * 3935559000370003 + 2691343689449507) % 2305843009213693951 / 65537)
          show (seed * 3935559000370003 + 2691343689449507) % 2305843009213693951 / 65537 % 8191 + 3 < 2 ^ 64
          omega
        · refine k _ _ (Int.emod_nonneg _ (by omega)) (Int.emod_lt_of_pos _ hm0) ⟨m, by omega, ⟨[], (seed * 3935559000370003 + 2691343689449507) % 2305843009213693951, hx1, ?_, Int.emod_nonneg _ (by decide), Int.emod_lt_of_pos _ (by decide), by simp, hcn⟩, h1.ne⟩ ?_
          · rw [upd_ne h1.ne.symm]
            exact el1
          · intro b o hb1 hb2 hb
            rw [upd_ne hb1]
            exact s1 _ _ (f1 b o hb1 hb2 hb)
end
end Kin
namespace Kin
open PySem PySem.Spec PyProof.Rows L2
section
variable {P : Program} {w : World} {K : PySem.W.Frag} {mg : Str → Option Value} {base : Heap} {tL : Tok} {es : Array DictEntry} {nF : Nat}
theorem atI_lt {α : Type} {xs : List α} {k : Int} (h0 : 0 ≤ k) (h1 : k < (xs.length : Int)) : ∃ v, atI xs k = some v ∧ v ∈ xs := by
  unfold atI ixN
  rw [if_pos h0, if_pos h1]
  have hl : k.toNat < xs.length := by omega
  exact ⟨xs[k.toNat], by show xs[k.toNat]? = _; rw [List.getElem?_eq_getElem hl], List.getElem_mem hl⟩
abbrev s__law_of : Stmt := topS 23
theorem sc__law_of : FnScope [("_law_hand_here" : Str), ("_law_some" : Str)] ["_law_hand_here", "_law_some"] (defScope s__law_of) := ⟨rfl, rfl, rfl, by decide +kernel, rfl, by decide +kernel, by decide +kernel⟩
theorem ok__law_of {f : Addr} {fd : FuncData} (F : FnP K "_law_of" s__law_of f fd) (T : Bi K w mg tL es nF) (c__law_pick : Cal P w K mg base "_law_pick" ["_law_hand_here", "_law_many"] 1 spPick) : FnOk P w K mg base CX0 2 f fd ["_law_hand_here", "_law_some"] (spOf K) := by
  refine F.ok sc__law_of (fun vs H Q E h => ?_) (fun cdv A outer s H vs Q E hr h => ?_)
  · obtain ⟨x, l, sv, rfl, _⟩ := h
    rfl
  · obtain ⟨x, l, sv, rfl, hh, h⟩ := h
    refine ⟨_, PSs.nox (pss_one (ps_ret (pe_ix ix_seq (pv 1) (pe_cal c__law_pick (hr.mono (by decide)) (by rfl) pass0 (pa_cons (pv 0) (pa_cons (pe_callB (CallR.or call_len_seq call_len_str) (by rfl) T.n_len PySem.boot_len (pa_cons (pv 1) pa_nil)) pa_nil))) (fun _ _ => rfl)))), ?_⟩
    rcases h with ⟨a, xs, rfl, ha, hx0, hx1, k⟩ | ⟨z, rfl, hz0, hz1, k⟩
    · refine ⟨_, rfl, _, rfl, _, rfl, .inl ⟨a, xs, rfl, ?_, x, l, _, rfl, hh, by omega, by omega, fun i H1 h0 h1 hh1 f1 => ?_⟩⟩
      · rcases ha with ha | ha
        · exact .inl (off_sub.seq ha)
        · exact .inr (Same.tup off_sub ha)
      · obtain ⟨v, hv, hm⟩ := atI_lt h0 h1
        rcases ha with ha | ha
        · exact .inl ⟨a, xs, i, v, rfl, rfl, off_sub.seq (f1.same.seq ha), hv, k v H1 hm hh1 f1⟩
        · exact .inr (.inl ⟨a, xs, i, v, rfl, rfl, Same.tup off_sub (Same.tup f1.same ha), hv, k v H1 hm hh1 f1⟩)
    · refine ⟨_, rfl, _, rfl, _, rfl, .inr ⟨z, rfl, Nat.le_trans hz1 (by decide), x, l, _, rfl, hh, by omega, by omega, fun i H1 h0 h1 hh1 f1 => ?_⟩⟩
      have hl : z.cps.toList.length = z.length := by rw [Array.length_toList]; rfl
      obtain ⟨c, hc, hm⟩ := atI_lt (xs := z.cps.toList) h0 (by rw [hl]; exact h1)
      exact .inr (.inr ⟨z, i, c, rfl, rfl, Nat.le_trans hz1 (by decide), hc, k c H1 hm hh1 f1⟩)
end
end Kin
namespace Kin
open PySem PySem.Spec PyProof.Rows L2
section
variable {P : Program} {w : World} {K : PySem.W.Frag} {mg : Str → Option Value} {base : Heap} {tL : Tok} {es : Array DictEntry} {nF : Nat}
abbrev s__law_signals : Stmt := topS 24
theorem sc__law_signals : FnScope [("_law_hand_here" : Str), ("_law_some" : Str), ("_law_chance" : Str), ("_law_signal" : Str)] ["_law_hand_here"] (defScope s__law_signals) := ⟨rfl, rfl, rfl, by decide +kernel, rfl, by decide +kernel, by decide +kernel⟩
theorem ok__law_signals {f : Addr} {fd : FuncData} (F : FnP K "_law_signals" s__law_signals f fd) (T : Bi K w mg tL es nF) (c__law_pick : Cal P w K mg base "_law_pick" ["_law_hand_here", "_law_many"] 1 spPick) : FnOk P w K mg base CX0 2 f fd ["_law_hand_here"] spSignals := by
  refine F.ok sc__law_signals (fun vs H Q E h => ?_) (fun cdv A outer s H vs Q E hr h => ?_)
  · obtain ⟨x, l, rfl, _⟩ := h
    rfl
  · obtain ⟨x, l, rfl, hh, k⟩ := h
    refine ⟨_, PSs.nox (pss_cons (ps_set (i := 1) sc__law_signals.nd rfl (by first | exact .inl rfl | exact .inr rfl) (pe_tup (pa_cons pe_str (pa_cons pe_str (pa_cons pe_str (pa_cons pe_str (pa_cons pe_str (pa_cons pe_str (pa_cons pe_str pa_nil))))))))) (pss_cons (ps_set (i := 2) sc__law_signals.nd rfl (by first | exact .inl rfl | exact .inr rfl) (pe_op op_add pe_int (pe_cal c__law_pick (hr.mono (by decide)) (by rfl) pass0 (pa_cons (pv 0) (pa_cons pe_int pa_nil))))) (pss_one (ps_ret (pe_callTy call_tuple_of (by rfl) T.n_tuple boot_tuple (pa_cons (pe_lc (own := [(("_law_signal" : Str), 3)]) (g := gName 3) rfl sc__law_signals.nd (pi_tup (pv 1)) (blkOk_by (N := [("_law_hand_here" : Str), ("_law_some" : Str), ("_law_chance" : Str), ("_law_signal" : Str)]) (sc := defScope s__law_signals) (by decide +kernel)) (fun _ _ _ _ _ => by exact (pg_name (i := 3) sc__law_signals.nd rfl (by first | exact .inl rfl | exact .inr rfl))) (fun _ _ _ _ _ => pts_one (pt_cmpR op_eq (pe_cal c__law_pick (hr.mono (by decide)) (by rfl) pass0 (pa_cons (pv 0) (pa_cons (pv 2) pa_nil))) pe_int (nomark _))) (fun _ _ _ _ _ => (pv 3))) pa_nil)))))), ?_⟩
    refine ⟨(by show 7 ≤ sizeLine; decide), fun p hp => ?_⟩
    have s1 : Same H (upd H p (.tup (sig7.map V.str))) := same_upd hp
    obtain ⟨npx, npl⟩ := hh.nx hp
    refine ⟨_, rfl, x, l, 3, rfl, hh.same s1, by decide, by decide, fun c H1 hc0 hc1 hh1 f1 => ⟨_, _, rfl, rfl, ?_⟩⟩
    have hp1 : H1 p = some (.tup (sig7.map V.str)) := f1 p _ npx npl upd_same
    refine ⟨_, rfl, p, rfl, ⟨_, .inl (.inl hp1)⟩, fun D hD => ?_⟩
    obtain ⟨nDx, nDl⟩ := hh1.nx hD
    have nDp : D ≠ p := (ne_of_none hp1 hD).symm
    refine lc_it (walk_tup (K := K) (a := p) (xs := sig7.map V.str)) (fun i H' => Hand x l H' ∧ Off x l H1 H' ∧ H' p = some (.tup (sig7.map V.str)) ∧ ∃ ss : List Str, H' D = some (.lst (ss.map V.str)) ∧ ss.Sublist (sig7.take i)) ?_ (fun i H' _ h => .inl (.inl h.2.2.1)) ?_ ?_
    · exact ⟨hh1.same (same_upd hD), Off.of (same_upd hD), (same_upd hD) _ _ hp1, [], upd_same, .slnil⟩
    · rintro i v H' H'' hi ⟨h1, h2, h3, ss, h4, h5⟩ ⟨rfl, hv⟩
      rw [List.length_map] at hi
      rw [List.getElem?_map, List.getElem?_eq_getElem hi] at hv
      cases Option.some.inj hv
      have hsl : ss.length ≤ 7 := Nat.le_trans h5.length_le (by rw [List.length_take]; exact Nat.min_le_right _ _)
      have ht : sig7.take (i + 1) = sig7.take i ++ [sig7[i]] := by
        rw [List.take_add_one, List.getElem?_eq_getElem hi]
        rfl
      refine ⟨rfl, _, rfl, _, rfl, x, l, _, rfl, h1, by omega, by omega, fun c2 H2 _ _ hh2 f2 => ⟨rfl, _, rfl, ?_⟩⟩
      have hD2 := f2 D _ nDx nDl h4
      have hp2 := f2 p _ npx npl h3
      refine ite2 (fun e => ?_) (fun e => ?_)
      · refine ⟨_, rfl, _, hD2, ?_, ?_, ?_, ?_, ss ++ [sig7[i]], ?_, ?_⟩
        · rw [List.length_map]
          exact Nat.lt_of_le_of_lt hsl (by decide)
        · obtain ⟨n, hn, hN⟩ := hh2
          obtain ⟨cells, seed, e1, e2, e3⟩ := hN.ex
          exact ⟨n, hn, ⟨cells, seed, by rw [upd_ne nDx.symm]; exact e1, by rw [upd_ne nDl.symm]; exact e2, e3⟩, hN.ne⟩
        · intro b o hb1 hb2 hb
          rw [upd_ne (ne_of_none hb hD)]
          exact f2 b o hb1 hb2 (h2 b o hb1 hb2 hb)
        · rw [upd_ne nDp.symm]
          exact hp2
        · rw [upd_same, List.map_append]
          rfl
        · rw [ht]
          exact h5.append (List.Sublist.refl _)
      · refine ⟨hh2, h2.trans f2, hp2, ss, hD2, ?_⟩
        rw [ht]
        exact h5.trans (List.sublist_append_left _ _)
    · rintro H2 ⟨h1, h2, h3, ss, h4, h5⟩
      refine ⟨D, _, rfl, .inl ⟨.inl (.inl h4), fun q hq => ?_⟩⟩
      rw [List.length_map, List.take_of_length_le (Nat.le_refl _)] at h5
      have fA : Off x l H H2 := (Off.of s1).trans (f1.trans h2)
      obtain ⟨nqx, nql⟩ := h1.nx hq
      have hq0 : H q = none := by
        cases e : H q with
        | none => rfl
        | some o => rw [fA q o nqx nql e] at hq; cases hq
      exact k q ss _ h5 hq0 (h1.same (same_upd hq)) (fA.trans (Off.of (same_upd hq))) upd_same
end
end Kin
namespace Kin
open PySem PySem.Spec PyProof.Rows L2
section
variable {P : Program} {w : World} {K : PySem.W.Frag} {mg : Str → Option Value} {base : Heap} {tL : Tok} {es : Array DictEntry} {nF : Nat}
def spWords : Sp := fun vs H Q _ => vs = [] ∧ ∀ p H', Same H H' → H p = none → H' p = some (.lst (words18.map V.str)) → Q (.ref p) H'
abbrev s__law_words : Stmt := topS 26
theorem sc__law_words : FnScope [("_law_some" : Str)] [] (defScope s__law_words) := ⟨rfl, rfl, rfl, by decide +kernel, rfl, by decide +kernel, by decide +kernel⟩
theorem ok__law_words {f : Addr} {fd : FuncData} (F : FnP K "_law_words" s__law_words f fd) (T : Bi K w mg tL es nF) : FnOk P w K mg base CX0 1 f fd [] spWords := by
  refine F.ok sc__law_words (fun vs H Q E h => ?_) (fun cdv A outer s H vs Q E hr h => ?_)
  · obtain ⟨rfl, _⟩ := h
    rfl
  · obtain ⟨rfl, k⟩ := h
    refine ⟨_, PSs.nox (pss_cons (ps_set (i := 0) sc__law_words.nd rfl (by first | exact .inl rfl | exact .inr rfl) (pe_lst (pa_cons pe_str (pa_cons pe_str (pa_cons pe_str (pa_cons pe_str (pa_cons pe_str (pa_cons pe_str (pa_cons pe_str (pa_cons pe_str (pa_cons pe_str (pa_cons pe_str (pa_cons pe_str (pa_cons pe_str pa_nil)))))))))))))) (pss_one (ps_ret (pe_op op_cat (pv 0) (pe_lst (pa_cons pe_str (pa_cons pe_str (pa_cons pe_str (pa_cons pe_str (pa_cons pe_str (pa_cons pe_str pa_nil))))))))))), ?_⟩
    refine ⟨(by show 12 ≤ sizeLine; decide), fun p hp => ?_⟩
    refine ⟨_, rfl, (by show 6 ≤ sizeLine; decide), fun q hq => ⟨p, q, _, _, rfl, rfl, (same_upd hq) _ _ upd_same, upd_same, (by show 18 ≤ sizeLine; decide), fun r hr => ?_⟩⟩
    have s3 := ((same_upd (o := .lst ((words18.take 12).map V.str)) hp).trans (same_upd (o := .lst ((words18.drop 12).map V.str)) hq)).trans (same_upd (o := .lst (words18.map V.str)) hr)
    exact k r _ s3 (((same_upd (o := .lst ((words18.take 12).map V.str)) hp).trans (same_upd (o := .lst ((words18.drop 12).map V.str)) hq)).free hr) upd_same
end
end Kin
namespace Kin
open PySem PySem.Spec PyProof.Rows L2
section
variable {P : Program} {w : World} {K : PySem.W.Frag} {mg : Str → Option Value} {base : Heap} {tL : Tok} {es : Array DictEntry} {nF : Nat}
def spParts (K : PySem.W.Frag) : Sp := fun vs H Q _ => ∃ (x l : Addr) (wd : Str) (n : Int), vs = [.ref x, .str wd, .int n] ∧ Hand x l H ∧ wd ∈ words18 ∧ 0 < n ∧ n ≤ 1000 ∧
  ∀ p xs ds H', Hand x l H' → Off x l H H' → p ≠ x → p ≠ l → H' p = some (.tup xs) → DpAll K (off x l H') xs ds → ds.length ≤ 2 → ds.all nice = true → pRow (.tuple (.str wd :: ds)) n = true → Q (.ref p) H'
theorem sq_off {x l p : Addr} {H : Hp} {xs : List V} (hh : Hand x l H) (hp : H p = none) : SqL K (off x l (upd H p (.lst xs))) p xs := let ⟨a, b⟩ := hh.nx hp; .inl (.inl (off_at a b upd_same))
theorem join_cs : ∀ cs : List Nat, (Str.join "" (cs.map fun c => (⟨#[c]⟩ : Str))).cps.toList = cs
  | [] => rfl
  | [c] => rfl
  | c :: d :: r => by
    have ih := join_cs (d :: r)
    have e : Str.join "" ((c :: d :: r).map fun c => (⟨#[c]⟩ : Str)) = (⟨#[c]⟩ : Str) ++ "" ++ Str.join "" ((d :: r).map fun c => (⟨#[c]⟩ : Str)) := rfl
    rw [e]
    show ((#[c] ++ ("" : Str).cps) ++ (Str.join "" ((d :: r).map fun c => (⟨#[c]⟩ : Str))).cps).toList = _
    rw [Array.toList_append, Array.toList_append, ih]
    rfl
theorem join_cs' (cs : List Nat) : (Txt.join "" (cs.map fun c => (⟨#[c]⟩ : Str))).cps.toList = cs := by
  rw [TL.join_eq]
  exact join_cs cs
theorem sum_ones (cs : List Nat) : ((cs.map fun c => (⟨#[c]⟩ : Str)).map (·.length)).sum = cs.length := by
  induction cs with
  | nil => rfl
  | cons c r ih =>
    rw [List.map_cons, List.map_cons, List.sum_cons, ih, List.length_cons]
    show 1 + r.length = r.length + 1
    omega
theorem lookW (wd : Str) (hw : wd ∈ words18) : ∃ ks, forms.lookup wd = some ks := by
  have h : ∀ z ∈ words18, (forms.lookup z).isSome = true := by decide +kernel
  exact Option.isSome_iff_exists.mp (h wd hw)
theorem whichP {c : Int} (h : 0 ≤ c) (n : Int) : pPart "which" (.int c) n = true := by
  rw [pp_which, if_pos (show pNat (.int c) = true from decide_eq_true h)]
theorem whoP {c : Int} (h : 0 ≤ c) (n : Int) : pPart "who" (.int c) n = true := by
  rw [pp_who, if_pos (show pNat (.int c) = true from decide_eq_true h)]
theorem toP {c : Int} (h : 0 ≤ c) (n : Int) : pPart "to" (.int c) n = true := by
  rw [pp_to, if_pos (show pNat (.int c) = true from decide_eq_true h)]
theorem rowP {c n : Int} (h : 0 ≤ c) (h1 : c < n) : pPart "row" (.int c) n = true := by
  rw [pp_row]
  show (decide (0 ≤ c) && decide (c < n)) = true
  rw [decide_eq_true h, decide_eq_true h1]
  rfl
abbrev s__law_parts : Stmt := topS 25
theorem sc__law_parts : FnScope [("_law_hand_here" : Str), ("_law_word_here" : Str), ("_law_size" : Str), ("_law_child" : Str), ("_law_k" : Str), ("_law_signal" : Str), ("_law_how" : Str)] ["_law_hand_here", "_law_word_here", "_law_size"] (defScope s__law_parts) := ⟨rfl, rfl, rfl, by decide +kernel, rfl, by decide +kernel, by decide +kernel⟩
theorem ok__law_parts {f : Addr} {fd : FuncData} (F : FnP K "_law_parts" s__law_parts f fd) (T : Bi K w mg tL es nF) (c__law_pick : Cal P w K mg base "_law_pick" ["_law_hand_here", "_law_many"] 1 spPick) (c__law_of : Cal P w K mg base "_law_of" ["_law_hand_here", "_law_some"] 2 (spOf K)) (c__law_signals : Cal P w K mg base "_law_signals" ["_law_hand_here"] 2 spSignals) : FnOk P w K mg base CX0 3 f fd ["_law_hand_here", "_law_word_here", "_law_size"] (spParts K) := by
  refine F.ok sc__law_parts (fun vs H Q E h => ?_) (fun cdv A outer s H vs Q E hr h => ?_)
  · obtain ⟨x, l, wd, n, rfl, _⟩ := h
    rfl
  · obtain ⟨x, l, wd, n, rfl, hh, hw, hn0, hn1, k⟩ := h
    refine ⟨_, PSs.nox (pss_cons (ps_set (i := 3) sc__law_parts.nd rfl (by first | exact .inl rfl | exact .inr rfl) (pe_cal c__law_of (hr.mono (by decide)) (by rfl) pass0 (pa_cons (pv 0) (pa_cons (pe_lst (pa_cons pe_int (pa_cons pe_int (pa_cons pe_int (pa_cons pe_int (pa_cons pe_int (pa_cons pe_int (pa_cons pe_int pa_nil)))))))) pa_nil)))) (pss_cons (ps_if (pt_cmpR op_eq (pv 1) pe_str (nomark _)) (pss_one (ps_ret (pe_tup (pa_cons (pe_join pe_str (pe_lc (own := [(("_law_k" : Str), 4)]) (g := gName 4) rfl sc__law_parts.nd (pi_range1 (by rfl) T.n_range (pa_cons (pe_op op_add pe_int (pe_cal c__law_pick (hr.mono (by decide)) (by rfl) pass0 (pa_cons (pv 0) (pa_cons pe_int pa_nil)))) pa_nil)) (blkOk_by (N := [("_law_hand_here" : Str), ("_law_word_here" : Str), ("_law_size" : Str), ("_law_child" : Str), ("_law_k" : Str), ("_law_signal" : Str), ("_law_how" : Str)]) (sc := defScope s__law_parts) (by decide +kernel)) (fun _ _ _ _ _ => by exact (pg_name (i := 4) sc__law_parts.nd rfl (by first | exact .inl rfl | exact .inr rfl))) (fun _ _ _ _ _ => pts_nil) (fun _ _ _ _ _ => (pe_cal c__law_of (hr.mono (by decide)) (by rfl) pass0 (pa_cons (pv 0) (pa_cons pe_str pa_nil)))))) pa_nil)))) pss_nil) (pss_cons (ps_if (pt_cmpR op_in_seq (pv 1) (pe_tup (pa_cons pe_str (pa_cons pe_str pa_nil))) (by rfl)) (pss_one (ps_ret (pe_tup (pa_cons (pe_cal c__law_of (hr.mono (by decide)) (by rfl) pass0 (pa_cons (pv 0) (pa_cons (pe_lst (pa_cons pe_int (pa_cons pe_int (pa_cons pe_int (pa_cons pe_int (pa_cons pe_int (pa_cons (pe_cal c__law_pick (hr.mono (by decide)) (by rfl) pass0 (pa_cons (pv 0) (pa_cons pe_int pa_nil))) pa_nil))))))) pa_nil))) pa_nil)))) pss_nil) (pss_cons (ps_if (pt_cmpR op_eq (pv 1) pe_str (nomark _)) (pss_one (ps_ret (pe_tup (pa_cons (pe_cal c__law_of (hr.mono (by decide)) (by rfl) pass0 (pa_cons (pv 0) (pa_cons (pe_lst (pa_cons pe_non (pa_cons pe_non (pa_cons (pv 3) pa_nil)))) pa_nil))) (pa_cons (pe_cmpR op_eq (pe_cal c__law_pick (hr.mono (by decide)) (by rfl) pass0 (pa_cons (pv 0) (pa_cons pe_int pa_nil))) pe_int (nomark _)) pa_nil))))) pss_nil) (pss_cons (ps_if (pt_cmpR op_eq (pv 1) pe_str (nomark _)) (pss_cons (ps_set (i := 5) sc__law_parts.nd rfl (by first | exact .inl rfl | exact .inr rfl) (pe_cal c__law_of (hr.mono (by decide)) (by rfl) pass0 (pa_cons (pv 0) (pa_cons (pe_lst (pa_cons pe_str (pa_cons pe_str (pa_cons pe_str (pa_cons pe_str (pa_cons pe_str (pa_cons pe_str (pa_cons pe_str (pa_cons pe_str (pa_cons pe_str pa_nil)))))))))) pa_nil)))) (pss_one (ps_ret (pe_tup (pa_cons (pv 5) (pa_cons (pe_cal c__law_of (hr.mono (by decide)) (by rfl) pass0 (pa_cons (pv 0) (pa_cons (pe_lst (pa_cons pe_str (pa_cons pe_str (pa_cons pe_str (pa_cons (pv 3) pa_nil))))) pa_nil))) pa_nil)))))) pss_nil) (pss_cons (ps_if (pt_cmpR op_in_seq (pv 1) (pe_tup (pa_cons pe_str (pa_cons pe_str pa_nil))) (by rfl)) (pss_one (ps_ret (pe_tup (pa_cons (pe_cal c__law_signals (hr.mono (by decide)) (by rfl) pass0 (pa_cons (pv 0) pa_nil)) pa_nil)))) pss_nil) (pss_cons (ps_if (pt_cmpR op_eq (pv 1) pe_str (nomark _)) (pss_cons (ps_set (i := 6) sc__law_parts.nd rfl (by first | exact .inl rfl | exact .inr rfl) (pe_cal c__law_of (hr.mono (by decide)) (by rfl) pass0 (pa_cons (pv 0) (pa_cons (pe_lst (pa_cons pe_str (pa_cons pe_str (pa_cons pe_int (pa_cons pe_int pa_nil))))) pa_nil)))) (pss_cons (ps_set (i := 6) sc__law_parts.nd rfl (by first | exact .inl rfl | exact .inr rfl) (pe_ifExp (pt_cmpR op_eq (pv 6) pe_int (nomark _)) (pe_tup (pa_cons (pe_cal c__law_pick (hr.mono (by decide)) (by rfl) pass0 (pa_cons (pv 0) (pa_cons (pv 2) pa_nil))) (pa_cons (pe_cal c__law_signals (hr.mono (by decide)) (by rfl) pass0 (pa_cons (pv 0) pa_nil)) pa_nil))) (pv 6))) (pss_one (ps_ret (pe_tup (pa_cons (pe_cal c__law_of (hr.mono (by decide)) (by rfl) pass0 (pa_cons (pv 0) (pa_cons (pe_lst (pa_cons pe_str (pa_cons pe_str (pa_cons pe_str (pa_cons pe_str (pa_cons pe_str (pa_cons pe_str (pa_cons pe_str pa_nil)))))))) pa_nil))) (pa_cons (pv 6) pa_nil))))))) pss_nil) (pss_cons (ps_if (pt_cmpR op_eq (pv 1) pe_str (nomark _)) (pss_one (ps_ret (pe_tup (pa_cons (pe_cal c__law_of (hr.mono (by decide)) (by rfl) pass0 (pa_cons (pv 0) (pa_cons (pe_lst (pa_cons pe_str (pa_cons (pv 3) pa_nil))) pa_nil))) (pa_cons (pe_cal c__law_of (hr.mono (by decide)) (by rfl) pass0 (pa_cons (pv 0) (pa_cons (pe_lst (pa_cons pe_str (pa_cons pe_str pa_nil))) pa_nil))) pa_nil))))) pss_nil) (pss_cons (ps_if (pt_cmpR op_eq (pv 1) pe_str (nomark _)) (pss_one (ps_ret (pe_tup (pa_cons (pe_cal c__law_of (hr.mono (by decide)) (by rfl) pass0 (pa_cons (pv 0) (pa_cons (pe_lst (pa_cons pe_str (pa_cons (pv 3) pa_nil))) pa_nil))) pa_nil)))) pss_nil) (pss_cons (ps_if (pt_cmpR op_eq (pv 1) pe_str (nomark _)) (pss_one (ps_ret (pe_tup (pa_cons (pe_cal c__law_pick (hr.mono (by decide)) (by rfl) pass0 (pa_cons (pv 0) (pa_cons (pv 2) pa_nil))) pa_nil)))) pss_nil) (pss_one (ps_ret (pe_ifExp (pt_cmpR op_eq (pv 1) pe_str (nomark _)) (pe_tup (pa_cons (pe_cal c__law_of (hr.mono (by decide)) (by rfl) pass0 (pa_cons (pv 0) (pa_cons (pe_lst (pa_cons pe_int (pa_cons (pe_un un_neg pe_int) (pa_cons pe_int (pa_cons pe_int (pa_cons pe_int (pa_cons (pe_un un_neg pe_int) (pa_cons pe_int pa_nil)))))))) pa_nil))) (pa_cons (pe_cal c__law_pick (hr.mono (by decide)) (by rfl) pass0 (pa_cons (pv 0) (pa_cons (pv 2) pa_nil))) pa_nil))) (pe_tup pa_nil)))))))))))))), ?_⟩
    refine ⟨_, rfl, (by show 7 ≤ sizeLine; decide), fun p1 hp1 => ⟨x, l, _, rfl, hh.same (same_upd hp1), .inl ⟨p1, _, rfl, .inl (sq_off hh hp1), by decide, by decide, fun v1 H1 hv1 hh1 f1' => ?_⟩⟩⟩
    obtain ⟨c, rfl, hc0, hc1⟩ : ∃ c : Int, v1 = .int c ∧ 0 ≤ c ∧ c ≤ 999999999 := by
      simp only [List.mem_cons, List.not_mem_nil, or_false] at hv1
      rcases hv1 with rfl | rfl | rfl | rfl | rfl | rfl | rfl <;> exact ⟨_, rfl, by decide, by decide⟩
    have f1 : Off x l H H1 := (Off.of (same_upd hp1)).trans f1'
    clear f1'
    -- exec
    refine ⟨_, rfl, rfl, _, rfl, ?_⟩
    rw [dec_str]
    refine ite2 (fun e => ?_) (fun e => ?_)
    · have e : wd = "exec" := of_decide_eq_true e
      subst e
      refine ⟨⟨_, rfl⟩, _, rfl, x, l, 8, rfl, hh1, by decide, by decide, fun d H2 hd0 hd1 hh2 f2 => ⟨_, _, rfl, rfl, 1 + d, rfl, by omega, by omega, fun D hD => ?_⟩⟩
      obtain ⟨nDx, nDl⟩ := hh2.nx hD
      refine lc_it (walk_range (lo := 0) (n := (1 + d).toNat)) (fun i H' => Hand x l H' ∧ Off x l H2 H' ∧ ∃ cs : List Nat, H' D = some (.lst ((cs.map fun c => (⟨#[c]⟩ : Str)).map V.str)) ∧ cs.length = i ∧ ∀ c ∈ cs, 97 ≤ c ∧ c ≤ 122) ?_ (fun _ _ _ _ => True.intro) ?_ ?_
      · exact ⟨hh2.same (same_upd hD), Off.of (same_upd hD), [], upd_same, rfl, by simp⟩
      · rintro i v H' H'' hi ⟨h1, h2, cs, h3, h4, h5⟩ ⟨rfl, rfl⟩
        refine ⟨rfl, _, rfl, x, l, _, rfl, h1, .inr ⟨"abcmnxyz", rfl, by decide +kernel, by decide +kernel, fun z H3 hz hh3 f3 => ?_⟩⟩
        have hz2 : 97 ≤ z ∧ z ≤ 122 := by
          have hall : ∀ z ∈ ("abcmnxyz" : Str).cps.toList, 97 ≤ z ∧ z ≤ 122 := by decide +kernel
          exact hall z hz
        refine ⟨_, f3 D _ nDx nDl h3, ?_, ?_, ?_, cs ++ [z], ?_, ?_, ?_⟩
        · rw [List.length_map, List.length_map, h4]
          exact Nat.lt_of_lt_of_le hi (Nat.le_trans (show (1 + d).toNat ≤ 8 by omega) (by decide))
        · obtain ⟨m, hm, hN⟩ := hh3
          obtain ⟨cells, seed, e1, e2, e3⟩ := hN.ex
          exact ⟨m, hm, ⟨cells, seed, by rw [upd_ne nDx.symm]; exact e1, by rw [upd_ne nDl.symm]; exact e2, e3⟩, hN.ne⟩
        · intro b o hb1 hb2 hb
          rw [upd_ne (ne_of_none hb hD)]
          exact f3 b o hb1 hb2 (h2 b o hb1 hb2 hb)
        · rw [upd_same, List.map_append, List.map_append]
          rfl
        · rw [List.length_append, h4]
          rfl
        · intro y hy
          rcases List.mem_append.mp hy with q | q
          · exact h5 y q
          · rw [List.mem_singleton.mp q]
            exact hz2
      · rintro H3 ⟨h1, h2, cs, h3, h4, h5⟩
        refine ⟨"", D, cs.map fun c => (⟨#[c]⟩ : Str), rfl, rfl, .inl (.inl (.inl h3)), ?_, Nat.le_trans (show 1 ≤ 1 from Nat.le_refl _) (by decide), fun p hp => ?_⟩
        · rw [sum_ones, show ("" : Str).length = 0 by decide +kernel, Nat.mul_zero, h4]
          have : (1 + d).toNat ≤ 8 := by omega
          omega
        · have hj := join_cs' cs
          have hjl : (Txt.join "" (cs.map fun c => (⟨#[c]⟩ : Str))).length = cs.length := by
            show (Txt.join "" (cs.map fun c => (⟨#[c]⟩ : Str))).cps.size = _
            rw [← Array.length_toList, hj]
          obtain ⟨npx, npl⟩ := h1.nx hp
          refine k p [.str _] [.str _] _ (h1.same (same_upd hp)) ((f1.trans (f2.trans h2)).trans (Off.of (same_upd hp))) npx npl upd_same (.cons (.str _) .nil) (by show 1 ≤ 2; decide) ?_ ?_
          · rw [List.all_cons, nice_str (by rw [hjl]; omega) ?_]
            · rfl
            · show (Txt.join "" (cs.map fun c => (⟨#[c]⟩ : Str))).cps.all _ = true
              rw [← Array.all_toList, hj, List.all_eq_true]
              intro y hy
              have := h5 y hy
              exact decide_eq_true (by omega)
          · refine row1_true (k := "title") (by decide +kernel) ?_
            rw [pp_title]
            show (decide (1 ≤ (Txt.join "" (cs.map fun c => (⟨#[c]⟩ : Str))).length) && decide ((Txt.join "" (cs.map fun c => (⟨#[c]⟩ : Str))).length ≤ 8) && azAll _) = true
            rw [hjl, decide_eq_true (show 1 ≤ cs.length by omega), decide_eq_true (show cs.length ≤ 8 by omega)]
            show azAll _ = true
            unfold azAll
            rw [hj, List.all_eq_true]
            intro y hy
            have := h5 y hy
            rw [decide_eq_true this.1, decide_eq_true this.2]
            rfl
    -- end, say
    refine ⟨_, rfl, (by show 2 ≤ sizeLine; decide), fun p2 hp2 => ⟨p2, (["end", "say"] : List Str).map V.str, rfl, .inr sqT_new, rfl, flat_strs _, _, rfl, ?_⟩⟩
    have hh2 := hh1.same (same_upd (o := .tup ((["end", "say"] : List Str).map V.str)) hp2)
    have f2 := f1.trans (Off.of (same_upd (o := .tup ((["end", "say"] : List Str).map V.str)) hp2))
    refine ite_in (ws := ["end", "say"]) (fun e0 => ?_) (fun e0 => ?_)
    · refine ⟨_, rfl, _, rfl, x, l, 100, rfl, hh2, by decide, by decide, fun d H3 hd0 hd1 hh3 f3 => ⟨(by show 6 ≤ sizeLine; decide), fun p3 hp3 => ⟨x, l, _, rfl, hh3.same (same_upd hp3), .inl ⟨p3, _, rfl, .inl (sq_off hh3 hp3), by show 0 < 6; decide, by show 6 ≤ 1000; decide, fun v4 H4 hv4 hh4 f4 => ?_⟩⟩⟩⟩
      obtain ⟨m, rfl, hm0, hm1⟩ : ∃ m : Int, v4 = .int m ∧ 0 ≤ m ∧ m ≤ 99 := by
        simp only [List.mem_cons, List.not_mem_nil, or_false] at hv4
        rcases hv4 with rfl | rfl | rfl | rfl | rfl | rfl
        · exact ⟨_, rfl, by decide, by decide⟩
        · exact ⟨_, rfl, by decide, by decide⟩
        · exact ⟨_, rfl, by decide, by decide⟩
        · exact ⟨_, rfl, by decide, by decide⟩
        · exact ⟨_, rfl, by decide, by decide⟩
        · exact ⟨d, rfl, hd0, by omega⟩
      refine ⟨(by show 1 ≤ sizeLine; decide), fun p hp => ?_⟩
      obtain ⟨npx, npl⟩ := hh4.nx hp
      refine k p [.int m] [.int m] _ (hh4.same (same_upd hp)) ((f2.trans (f3.trans ((Off.of (same_upd hp3)).trans f4))).trans (Off.of (same_upd hp))) npx npl upd_same (.cons (.int m) .nil) (by show 1 ≤ 2; decide) (by rw [List.all_cons, nice_int (by omega) (by omega)]; rfl) ?_
      have hs : pPart "small" (.int m) n = true := by
        rw [pp_small]
        show (decide (0 ≤ m) && decide (m ≤ 99)) = true
        rw [decide_eq_true hm0, decide_eq_true hm1]
        rfl
      simp only [List.mem_cons, List.not_mem_nil, or_false] at e0
      rcases e0 with rfl | rfl
      · exact row1_true (k := "small") (by decide +kernel) hs
      · exact row1_true (k := "small") (by decide +kernel) hs
    -- wait
    refine ⟨_, rfl, rfl, _, rfl, ?_⟩
    rw [dec_str]
    refine ite2 (fun e1 => ?_) (fun e1 => ?_)
    · have e1 : wd = "wait" := of_decide_eq_true e1
      subst e1
      refine ⟨_, rfl, _, rfl, (by show 3 ≤ sizeLine; decide), fun p3 hp3 => ⟨x, l, _, rfl, hh2.same (same_upd hp3), .inl ⟨p3, _, rfl, .inl (sq_off hh2 hp3), by show 0 < 3; decide, by show 3 ≤ 1000; decide, fun v4 H4 hv4 hh4 f4 => ?_⟩⟩⟩
      have fA := f2.trans ((Off.of (same_upd hp3)).trans f4)
      refine ⟨_, rfl, x, l, 2, rfl, hh4, by decide, by decide, fun d H5 hd0 hd1 hh5 f5 => ⟨rfl, (by show 2 ≤ sizeLine; decide), fun p hp => ?_⟩⟩
      obtain ⟨npx, npl⟩ := hh5.nx hp
      have go : ∀ dd : PyData, Dp K (off x l (upd H5 p (.tup [v4, .bl (decide (V.int d = V.int 0))]))) v4 dd → nice dd = true → pPart "which" dd n = true → Q (.ref p) (upd H5 p (.tup [v4, .bl (decide (V.int d = V.int 0))])) := fun dd h1 h2 h3 =>
        k p _ [dd, .bool _] _ (hh5.same (same_upd hp)) ((fA.trans f5).trans (Off.of (same_upd hp))) npx npl upd_same (.cons h1 (.cons (.bl _) .nil)) (by show 2 ≤ 2; decide) (by rw [List.all_cons, List.all_cons, h2, nice_bool]; rfl) (row2_true (k := "which") (k2 := "truth") (by decide +kernel) h3 (by rw [pp_truth]; rfl))
      simp only [List.mem_cons, List.not_mem_nil, or_false] at hv4
      rcases hv4 with rfl | rfl | rfl
      · exact go .none .non nice_none (by rw [pp_which]; rfl)
      · exact go .none .non nice_none (by rw [pp_which]; rfl)
      · exact go (.int c) (.int c) (nice_int (by omega) (by omega)) (whichP hc0 n)
    -- send
    refine ⟨_, rfl, rfl, _, rfl, ?_⟩
    rw [dec_str]
    refine ite2 (fun e2 => ?_) (fun e2 => ?_)
    · have e2 : wd = "send" := of_decide_eq_true e2
      subst e2
      refine ⟨_, rfl, (by show 9 ≤ sizeLine; decide), fun p3 hp3 => ⟨x, l, _, rfl, hh2.same (same_upd hp3), .inl ⟨p3, sig9.map V.str, rfl, .inl (sq_off hh2 hp3), by show 0 < 9; decide, by show 9 ≤ 1000; decide, fun v4 H4 hv4 hh4 f4 => ?_⟩⟩⟩
      obtain ⟨sg, hsg, rfl⟩ := List.mem_map.mp hv4
      have fA := f2.trans ((Off.of (same_upd hp3)).trans f4)
      refine ⟨_, rfl, _, rfl, _, rfl, (by show 4 ≤ sizeLine; decide), fun p5 hp5 => ⟨x, l, _, rfl, hh4.same (same_upd hp5), .inl ⟨p5, _, rfl, .inl (sq_off hh4 hp5), by show 0 < 4; decide, by show 4 ≤ 1000; decide, fun v6 H6 hv6 hh6 f6 => ⟨(by show 2 ≤ sizeLine; decide), fun p hp => ?_⟩⟩⟩⟩
      obtain ⟨npx, npl⟩ := hh6.nx hp
      have fB := (fA.trans ((Off.of (same_upd hp5)).trans f6)).trans (Off.of (same_upd (o := .tup [.str sg, v6]) hp))
      have hns : nice (.str sg) = true ∧ pPart "signal" (.str sg) n = true := by
        have h9 : ∀ z ∈ sig9, nice (.str z) = true := by decide +kernel
        exact ⟨h9 sg hsg, by rw [pp_signal]; exact decide_eq_true hsg⟩
      have go : ∀ dd : PyData, Dp K (off x l (upd H6 p (.tup [.str sg, v6]))) v6 dd → nice dd = true → pPart "to" dd n = true → Q (.ref p) (upd H6 p (.tup [.str sg, v6])) := fun dd h1 h2 h3 =>
        k p _ [.str sg, dd] _ (hh6.same (same_upd hp)) fB npx npl upd_same (.cons (.str sg) (.cons h1 .nil)) (by show 2 ≤ 2; decide) (by rw [List.all_cons, List.all_cons, h2, hns.1]; rfl) (row2_true (k := "signal") (k2 := "to") (by decide +kernel) hns.2 h3)
      simp only [List.mem_cons, List.not_mem_nil, or_false] at hv6
      rcases hv6 with rfl | rfl | rfl | rfl
      · exact go (.str "self") (.str _) (by decide +kernel) (by rw [pp_to]; decide +kernel)
      · exact go (.str "parent") (.str _) (by decide +kernel) (by rw [pp_to]; decide +kernel)
      · exact go (.str "group") (.str _) (by decide +kernel) (by rw [pp_to]; decide +kernel)
      · exact go (.int c) (.int c) (nice_int (by omega) (by omega)) (toP hc0 n)
    -- mask, unmask
    refine ⟨_, rfl, (by show 2 ≤ sizeLine; decide), fun p3 hp3 => ⟨p3, (["mask", "unmask"] : List Str).map V.str, rfl, .inr sqT_new, rfl, flat_strs _, _, rfl, ?_⟩⟩
    have hh3 := hh2.same (same_upd (o := .tup ((["mask", "unmask"] : List Str).map V.str)) hp3)
    have f3 := f2.trans (Off.of (same_upd (o := .tup ((["mask", "unmask"] : List Str).map V.str)) hp3))
    refine ite_in (ws := ["mask", "unmask"]) (fun e3 => ?_) (fun e3 => ?_)
    · refine ⟨_, rfl, x, l, rfl, hh3, fun q ss H4 hss hq hh4 f4 hq4 => ⟨(by show 1 ≤ sizeLine; decide), fun p hp => ?_⟩⟩
      obtain ⟨npx, npl⟩ := hh4.nx hp
      obtain ⟨nqx, nql⟩ := hh3.nx hq
      have hs := sub_nice hss
      refine k p _ [.tuple (ss.map .str)] _ (hh4.same (same_upd hp)) ((f3.trans f4).trans (Off.of (same_upd hp))) npx npl upd_same (.cons (.tup (.inl (.inl (off_at nqx nql ((same_upd hp) _ _ hq4)))) (dpA_strs ss)) .nil) (by show 1 ≤ 2; decide) (by rw [List.all_cons, hs.1]; rfl) ?_
      have hp' : pPart "signals" (.tuple (ss.map .str)) n = true := by rw [pp_signals]; exact sub_up hss
      simp only [List.mem_cons, List.not_mem_nil, or_false] at e3
      rcases e3 with rfl | rfl
      · exact row1_true (k := "signals") (by decide +kernel) hp'
      · exact row1_true (k := "signals") (by decide +kernel) hp'
    -- handle
    refine ⟨_, rfl, rfl, _, rfl, ?_⟩
    rw [dec_str]
    refine ite2 (fun e4 => ?_) (fun e4 => ?_)
    · have e4 : wd = "handle" := of_decide_eq_true e4
      subst e4
      refine ⟨_, rfl, (by show 4 ≤ sizeLine; decide), fun p4 hp4 => ⟨x, l, _, rfl, hh3.same (same_upd hp4), .inl ⟨p4, _, rfl, .inl (sq_off hh3 hp4), by show 0 < 4; decide, by show 4 ≤ 1000; decide, fun v5 H5 hv5 hh5 f5 => ?_⟩⟩⟩
      have fA := f3.trans ((Off.of (same_upd hp4)).trans f5)
      -- what stands as how, and what it is worth
      have tail : ∀ (hv : V) (dd : PyData) (H6 : Hp), Hand x l H6 → Off x l H H6 → Dp K (off x l H6) hv dd → nice dd = true → pPart "how" dd n = true →
          ∀ (σ : L2.St), σ[0]? = some (some (.ref x)) → σ[6]? = some (some hv) →
          (tRet (tTup (tCons (tCall (spOf K) [] E0 (tCons (tVar 0) (tCons (tLst (tCons (tC (.str "on")) (tCons (tC (.str "hang")) (tCons (tC (.str "quit")) (tCons (tC (.str "call")) (tCons (tC (.str "kin")) (tCons (tC (.str "rest")) (tCons (tC (.str "reads")) tNil)))))))) tNil))) (tCons (tVar 6) tNil)))) { nx := fun _ H' => Q .non H', rt := Q } σ H6 := by
        intro hv dd H6 hh6 f6 h1 h2 h3 σ hσ0 hσ6
        refine ⟨_, hσ0, (by show 7 ≤ sizeLine; decide), fun p7 hp7 => ⟨x, l, _, rfl, hh6.same (same_upd hp7), .inl ⟨p7, sig7.map V.str, rfl, .inl (sq_off hh6 hp7), by show 0 < 7; decide, by show 7 ≤ 1000; decide, fun v8 H8 hv8 hh8 f8 => ?_⟩⟩⟩
        obtain ⟨sg, hsg, rfl⟩ := List.mem_map.mp hv8
        refine ⟨_, hσ6, (by show 2 ≤ sizeLine; decide), fun p hp => ?_⟩
        obtain ⟨npx, npl⟩ := hh8.nx hp
        have hns : nice (.str sg) = true ∧ pPart "loose" (.str sg) n = true := by
          have h9 : ∀ z ∈ sig7, nice (.str z) = true ∧ pLoose (.str z) = true := by decide +kernel
          exact ⟨(h9 sg hsg).1, by rw [pp_loose]; exact (h9 sg hsg).2⟩
        have f68 := (Off.of (same_upd hp7)).trans f8
        exact k p _ [.str sg, dd] _ (hh8.same (same_upd hp)) ((f6.trans f68).trans (Off.of (same_upd hp))) npx npl upd_same (.cons (.str sg) (.cons (dp_mono (f68.trans (Off.of (same_upd hp))).same h1) .nil)) (by show 2 ≤ 2; decide) (by rw [List.all_cons, List.all_cons, h2, hns.1]; rfl) (row2_true (k := "loose") (k2 := "how") (by decide +kernel) hns.2 h3)
      simp only [List.mem_cons, List.not_mem_nil, or_false] at hv5
      have handler : ∀ (σ : L2.St) , True := fun _ => True.intro
      rcases hv5 with rfl | rfl | rfl | rfl
      · refine ⟨_, rfl, rfl, _, rfl, iteF ⟨_, rfl, ?_⟩⟩
        exact tail (.str "plain") (.str "plain") H5 hh5 fA (.str _) (by decide +kernel) (by rw [pp_how]; rfl) _ rfl rfl
      · refine ⟨_, rfl, rfl, _, rfl, iteF ⟨_, rfl, ?_⟩⟩
        exact tail (.str "ignore") (.str "ignore") H5 hh5 fA (.str _) (by decide +kernel) (by rw [pp_how]; rfl) _ rfl rfl
      all_goals
        refine ⟨_, rfl, rfl, _, rfl, iteT ⟨_, rfl, _, rfl, x, l, n, rfl, hh5, hn0, by omega, fun r H6 hr0 hr1 hh6 f6 => ⟨_, rfl, x, l, rfl, hh6, fun q ss H7 hss hq hh7 f7 hq7 => ⟨(by show 2 ≤ sizeLine; decide), fun p8 hp8 => ?_⟩⟩⟩⟩
        obtain ⟨nqx, nql⟩ := hh6.nx hq
        obtain ⟨n8x, n8l⟩ := hh7.nx hp8
        have hs := sub_nice hss
        have f58 := (f6.trans f7).trans (Off.of (x := x) (l := l) (same_upd (o := .tup [.int r, .ref q]) hp8))
        refine tail (.ref p8) (.tuple [.int r, .tuple (ss.map .str)]) _ (hh7.same (same_upd hp8)) (fA.trans f58) (.tup (.inl (.inl (off_at n8x n8l upd_same))) (.cons (.int r) (.cons (.tup (.inl (.inl (off_at nqx nql ((same_upd hp8) _ _ hq7)))) (dpA_strs ss)) .nil))) ?_ ?_ _ rfl rfl
        · refine nice_tup ?_ (by show 2 ≤ 1000; decide)
          rw [List.all_cons, List.all_cons, nice_int (by omega) (by omega), hs.1, decide_eq_true (show PyData.depth (.tuple (ss.map .str)) ≤ 2 by omega), decide_eq_true (show PyData.depth (.int r) ≤ 2 by rw [PyData.depth]; decide)]
          rfl
        · rw [pp_how]
          show (false || (pRowNo (.int r) n && pAre (.tuple (ss.map .str)))) = true
          rw [sub_up hss]
          show (false || ((decide (0 ≤ r) && decide (r < n)) && true)) = true
          rw [decide_eq_true hr0, decide_eq_true hr1]
          rfl
    -- group
    refine ⟨_, rfl, rfl, _, rfl, ?_⟩
    rw [dec_str]
    refine ite2 (fun e5 => ?_) (fun e5 => ?_)
    · have e5 : wd = "group" := of_decide_eq_true e5
      subst e5
      refine ⟨_, rfl, _, rfl, (by show 2 ≤ sizeLine; decide), fun p4 hp4 => ⟨x, l, _, rfl, hh3.same (same_upd hp4), .inl ⟨p4, _, rfl, .inl (sq_off hh3 hp4), by show 0 < 2; decide, by show 2 ≤ 1000; decide, fun v5 H5 hv5 hh5 f5 => ?_⟩⟩⟩
      have fA := f3.trans ((Off.of (same_upd hp4)).trans f5)
      refine ⟨_, rfl, (by show 2 ≤ sizeLine; decide), fun p6 hp6 => ⟨x, l, _, rfl, hh5.same (same_upd hp6), .inl ⟨p6, (["new", "mine"] : List Str).map V.str, rfl, .inl (sq_off hh5 hp6), by show 0 < 2; decide, by show 2 ≤ 1000; decide, fun v7 H7 hv7 hh7 f7 => ⟨(by show 2 ≤ sizeLine; decide), fun p hp => ?_⟩⟩⟩⟩
      obtain ⟨wh, hwh, rfl⟩ := List.mem_map.mp hv7
      obtain ⟨npx, npl⟩ := hh7.nx hp
      have hwn : nice (.str wh) = true ∧ pPart "where" (.str wh) n = true := by
        have h9 : ∀ z ∈ (["new", "mine"] : List Str), nice (.str z) = true := by decide +kernel
        exact ⟨h9 wh hwh, by rw [pp_where]; exact decide_eq_true hwh⟩
      have go : ∀ dd : PyData, Dp K (off x l (upd H7 p (.tup [v5, .str wh]))) v5 dd → nice dd = true → pPart "who" dd n = true → Q (.ref p) (upd H7 p (.tup [v5, .str wh])) := fun dd h1 h2 h3 =>
        k p _ [dd, .str wh] _ (hh7.same (same_upd hp)) ((fA.trans ((Off.of (same_upd hp6)).trans f7)).trans (Off.of (same_upd hp))) npx npl upd_same (.cons h1 (.cons (.str wh) .nil)) (by show 2 ≤ 2; decide) (by rw [List.all_cons, List.all_cons, h2, hwn.1]; rfl) (row2_true (k := "who") (k2 := "where") (by decide +kernel) h3 hwn.2)
      simp only [List.mem_cons, List.not_mem_nil, or_false] at hv5
      rcases hv5 with rfl | rfl
      · exact go (.str "self") (.str _) (by decide +kernel) (by rw [pp_who]; decide +kernel)
      · exact go (.int c) (.int c) (nice_int (by omega) (by omega)) (whoP hc0 n)
    -- front
    refine ⟨_, rfl, rfl, _, rfl, ?_⟩
    rw [dec_str]
    refine ite2 (fun e6 => ?_) (fun e6 => ?_)
    · have e6 : wd = "front" := of_decide_eq_true e6
      subst e6
      refine ⟨_, rfl, _, rfl, (by show 2 ≤ sizeLine; decide), fun p4 hp4 => ⟨x, l, _, rfl, hh3.same (same_upd hp4), .inl ⟨p4, _, rfl, .inl (sq_off hh3 hp4), by show 0 < 2; decide, by show 2 ≤ 1000; decide, fun v5 H5 hv5 hh5 f5 => ⟨(by show 1 ≤ sizeLine; decide), fun p hp => ?_⟩⟩⟩⟩
      have fA := f3.trans ((Off.of (same_upd hp4)).trans f5)
      obtain ⟨npx, npl⟩ := hh5.nx hp
      have go : ∀ dd : PyData, Dp K (off x l (upd H5 p (.tup [v5]))) v5 dd → nice dd = true → pPart "who" dd n = true → Q (.ref p) (upd H5 p (.tup [v5])) := fun dd h1 h2 h3 =>
        k p _ [dd] _ (hh5.same (same_upd hp)) (fA.trans (Off.of (same_upd hp))) npx npl upd_same (.cons h1 .nil) (by show 1 ≤ 2; decide) (by rw [List.all_cons, h2]; rfl) (row1_true (k := "who") (by decide +kernel) h3)
      simp only [List.mem_cons, List.not_mem_nil, or_false] at hv5
      rcases hv5 with rfl | rfl
      · exact go (.str "self") (.str _) (by decide +kernel) (by rw [pp_who]; decide +kernel)
      · exact go (.int c) (.int c) (nice_int (by omega) (by omega)) (whoP hc0 n)
    -- goto
    refine ⟨_, rfl, rfl, _, rfl, ?_⟩
    rw [dec_str]
    refine ite2 (fun e7 => ?_) (fun e7 => ?_)
    · have e7 : wd = "goto" := of_decide_eq_true e7
      subst e7
      refine ⟨_, rfl, _, rfl, x, l, n, rfl, hh3, hn0, by omega, fun r H5 hr0 hr1 hh5 f5 => ⟨(by show 1 ≤ sizeLine; decide), fun p hp => ?_⟩⟩
      obtain ⟨npx, npl⟩ := hh5.nx hp
      exact k p _ [.int r] _ (hh5.same (same_upd hp)) ((f3.trans f5).trans (Off.of (same_upd hp))) npx npl upd_same (.cons (.int r) .nil) (by show 1 ≤ 2; decide) (by rw [List.all_cons, nice_int (by omega) (by omega)]; rfl) (row1_true (k := "row") (by decide +kernel) (rowP hr0 hr1))
    -- if, and the words without parts
    refine ⟨_, rfl, rfl, _, rfl, ?_⟩
    rw [dec_str]
    refine ite2 (fun e8 => ?_) (fun e8 => ?_)
    · have e8 : wd = "if" := of_decide_eq_true e8
      subst e8
      refine ⟨_, rfl, _, rfl, _, rfl, (by show 7 ≤ sizeLine; decide), fun p4 hp4 => ⟨x, l, _, rfl, hh3.same (same_upd hp4), .inl ⟨p4, ([0, -1, 1, 100, 300, -99, 999999999] : List Int).map V.int, rfl, .inl (sq_off hh3 hp4), by show 0 < 7; decide, by show 7 ≤ 1000; decide, fun v5 H5 hv5 hh5 f5 => ?_⟩⟩⟩
      obtain ⟨m, hm, rfl⟩ := List.mem_map.mp hv5
      have hmn : nice (.int m) = true := by
        have h9 : ∀ z ∈ ([0, -1, 1, 100, 300, -99, 999999999] : List Int), nice (.int z) = true := by decide +kernel
        exact h9 m hm
      have fA := f3.trans ((Off.of (same_upd hp4)).trans f5)
      refine ⟨_, rfl, _, rfl, x, l, n, rfl, hh5, hn0, by omega, fun r H6 hr0 hr1 hh6 f6 => ⟨(by show 2 ≤ sizeLine; decide), fun p hp => ?_⟩⟩
      obtain ⟨npx, npl⟩ := hh6.nx hp
      exact k p _ [.int m, .int r] _ (hh6.same (same_upd hp)) ((fA.trans f6).trans (Off.of (same_upd hp))) npx npl upd_same (.cons (.int m) (.cons (.int r) .nil)) (by show 2 ≤ 2; decide) (by rw [List.all_cons, List.all_cons, hmn, nice_int (by omega) (by omega)]; rfl) (row2_true (k := "whole") (k2 := "row") (by decide +kernel) (by rw [pp_whole]; rfl) (rowP hr0 hr1))
    · refine ⟨Nat.zero_le _, fun p hp => ?_⟩
      obtain ⟨npx, npl⟩ := hh3.nx hp
      refine k p [] [] _ (hh3.same (same_upd hp)) (f3.trans (Off.of (same_upd hp))) npx npl upd_same .nil (by decide) rfl (row0_true ?_)
      have hrest : ∀ z ∈ words18, z = "exec" ∨ z ∈ (["end", "say"] : List Str) ∨ z = "wait" ∨ z = "send" ∨ z ∈ (["mask", "unmask"] : List Str) ∨ z = "handle" ∨ z = "group" ∨ z = "front" ∨ z = "goto" ∨ z = "if" ∨ forms.lookup z = some [] := by decide +kernel
      rcases hrest wd hw with h | h | h | h | h | h | h | h | h | h | h
      · exact absurd (decide_eq_true h) e
      · exact absurd h e0
      · exact absurd (decide_eq_true h) e1
      · exact absurd (decide_eq_true h) e2
      · exact absurd h e3
      · exact absurd (decide_eq_true h) e4
      · exact absurd (decide_eq_true h) e5
      · exact absurd (decide_eq_true h) e6
      · exact absurd (decide_eq_true h) e7
      · exact absurd (decide_eq_true h) e8
      · exact h
end
end Kin
namespace Kin
open PySem PySem.Spec PyProof.Rows L2
section
variable {P : Program} {w : World} {K : PySem.W.Frag} {mg : Str → Option Value} {base : Heap} {tL : Tok} {es : Array DictEntry} {nF : Nat}
def n2 (d : PyData) : Bool := nice d && decide (d.depth ≤ 2)
/-- what a row of the bounds is: a tuple of one to four nice things -/
def Bd (d : PyData) : Prop := ∃ es : List PyData, d = .tuple es ∧ es.all nice = true ∧ es.length ≤ 4
def spBounds (K : PySem.W.Frag) : Sp := fun vs H Q _ => ∃ (wd : Str) (n : Int), vs = [.str wd, .int n] ∧ wd ∈ words18 ∧ 0 < n ∧ n ≤ 1000 ∧
  ∀ p xs ds H', Same H H' → H p = none → H' p = some (.lst xs) → DpAll K (off p p H') xs ds → (∀ d ∈ ds, Bd d) → xs.length ≤ 2000 → Q (.ref p) H'
def lotsD : List PyData := [.tuple [], .tuple (sig7.map .str), .tuple (sig7.reverse.map .str), .tuple (((["kill"] : List Str) ++ sig7).map .str), .tuple [.str "call", .str "call"], .tuple [.str "quit", .str "hang"], .tuple [.str "halt"], .list (sig7.map .str)]
theorem lots_n2 : ∀ d ∈ lotsD, n2 d = true := by decide +kernel
def strs1 : List Str := ["self", "parent", "group", "new", "mine", "plain", "ignore"]
def strs2 : List Str := ["kill", "halt", "on", "reads", "a", "abcdefgh", "abcdefghi", ""]
def someD (n : Int) : List PyData := ([.int 0, .int 1, .int 99, .int 100, .int (-1), .int (n - 1), .int n, .none, .bool true] ++ strs1.map .str) ++ (strs2.map .str ++ [.int 999999999])
def someV (n : Int) : List V := ([.int 0, .int 1, .int 99, .int 100, .int (-1), .int (n - 1), .int n, .non, .bl true] ++ strs1.map V.str) ++ (strs2.map V.str ++ [.int 999999999])
theorem some_dp {H : Hp} (n : Int) : DpAll K H (someV n) (someD n) :=
  dpA_app (dpA_app (.cons (.int _) (.cons (.int _) (.cons (.int _) (.cons (.int _) (.cons (.int _) (.cons (.int _) (.cons (.int _) (.cons .non (.cons (.bl _) .nil))))))))) (dpA_strs _)) (dpA_app (dpA_strs _) (.cons (.int _) .nil))
theorem n2_int {i : Int} (h0 : -1000000000 ≤ i) (h1 : i ≤ 1000000000) : n2 (.int i) = true := by
  unfold n2
  rw [nice_int h0 h1, PyData.depth]
  rfl
theorem some_n2 {n : Int} (h0 : 0 < n) (h1 : n ≤ 1000) : ∀ d ∈ someD n, n2 d = true := by
  have hs1 : ∀ d ∈ strs1.map PyData.str, n2 d = true := by decide +kernel
  have hs2 : ∀ d ∈ strs2.map PyData.str, n2 d = true := by decide +kernel
  intro d hd
  rcases List.mem_append.mp hd with hd | hd
  · rcases List.mem_append.mp hd with hd | hd
    · simp only [List.mem_cons, List.not_mem_nil, or_false] at hd
      rcases hd with rfl | rfl | rfl | rfl | rfl | rfl | rfl | rfl | rfl
      · decide +kernel
      · decide +kernel
      · decide +kernel
      · decide +kernel
      · decide +kernel
      · exact n2_int (by omega) (by omega)
      · exact n2_int (by omega) (by omega)
      · decide +kernel
      · decide +kernel
    · exact hs1 d hd
  · rcases List.mem_append.mp hd with hd | hd
    · exact hs2 d hd
    · rw [List.mem_singleton.mp hd]
      decide +kernel
theorem n2_nice {d : PyData} (h : n2 d = true) : nice d = true := (Bool.and_eq_true_iff.mp h).1
theorem nice_word {wd : Str} (hw : wd ∈ words18) : nice (.str wd) = true := by
  have h : ∀ z ∈ words18, nice (.str z) = true := by decide +kernel
  exact h wd hw
abbrev s__law_bounds : Stmt := topS 33
theorem sc__law_bounds : FnScope [("_law_word_here" : Str), ("_law_size" : Str), ("_law_every" : Str), ("_law_lots" : Str), ("_law_some" : Str), ("_law_found" : Str), ("_law_one" : Str), ("_law_more" : Str), ("_law_first" : Str), ("_law_other" : Str)] ["_law_word_here", "_law_size"] (defScope s__law_bounds) := ⟨rfl, rfl, rfl, by decide +kernel, rfl, by decide +kernel, by decide +kernel⟩
theorem ok__law_bounds {f : Addr} {fd : FuncData} (F : FnP K "_law_bounds" s__law_bounds f fd) (T : Bi K w mg tL es nF) : FnOk P w K mg base CX0 1 f fd ["_law_word_here", "_law_size"] (spBounds K) := by
  refine F.ok sc__law_bounds (fun vs H Q E h => ?_) (fun cdv A outer s H vs Q E hr h => ?_)
  · obtain ⟨wd, n, rfl, _⟩ := h
    rfl
  · obtain ⟨wd, n, rfl, hw, hn0, hn1, k⟩ := h
    refine ⟨_, PSs.nox (pss_cons (ps_set (i := 2) sc__law_bounds.nd rfl (by first | exact .inl rfl | exact .inr rfl) (pe_tup (pa_cons pe_str (pa_cons pe_str (pa_cons pe_str (pa_cons pe_str (pa_cons pe_str (pa_cons pe_str (pa_cons pe_str pa_nil))))))))) (pss_cons (ps_set (i := 3) sc__law_bounds.nd rfl (by first | exact .inl rfl | exact .inr rfl) (pe_lst (pa_cons (pe_tup pa_nil) (pa_cons (pv 2) (pa_cons (pe_revT (pv 2)) (pa_cons (pe_op op_catA (pe_tup (pa_cons pe_str pa_nil)) (pv 2)) (pa_cons (pe_tup (pa_cons pe_str (pa_cons pe_str pa_nil))) (pa_cons (pe_tup (pa_cons pe_str (pa_cons pe_str pa_nil))) (pa_cons (pe_tup (pa_cons pe_str pa_nil)) (pa_cons (pe_callTy call_list_of (by rfl) T.n_list boot_list (pa_cons (pv 2) pa_nil)) pa_nil)))))))))) (pss_cons (ps_set (i := 4) sc__law_bounds.nd rfl (by first | exact .inl rfl | exact .inr rfl) (pe_lst (pa_cons pe_int (pa_cons pe_int (pa_cons pe_int (pa_cons pe_int (pa_cons (pe_un un_neg pe_int) (pa_cons (pe_op op_sub (pv 1) pe_int) (pa_cons (pv 1) (pa_cons pe_non (pa_cons pe_bl (pa_cons pe_str (pa_cons pe_str (pa_cons pe_str (pa_cons pe_str (pa_cons pe_str (pa_cons pe_str (pa_cons pe_str pa_nil)))))))))))))))))) (pss_cons (ps_set (i := 4) sc__law_bounds.nd rfl (by first | exact .inl rfl | exact .inr rfl) (pe_op op_cat (pv 4) (pe_lst (pa_cons pe_str (pa_cons pe_str (pa_cons pe_str (pa_cons pe_str (pa_cons pe_str (pa_cons pe_str (pa_cons pe_str (pa_cons pe_str (pa_cons pe_int pa_nil)))))))))))) (pss_cons (ps_set (i := 5) sc__law_bounds.nd rfl (by first | exact .inl rfl | exact .inr rfl) (pe_op op_cat (pe_lst (pa_cons (pe_tup (pa_cons (pv 0) pa_nil)) (pa_cons (pe_tup (pa_cons (pv 0) (pa_cons pe_str (pa_cons pe_str (pa_cons pe_str pa_nil))))) pa_nil))) (pe_lc (own := [(("_law_one" : Str), 6)]) (g := gName 6) rfl sc__law_bounds.nd (pi_list (pe_op op_cat (pv 4) (pv 3))) (blkOk_by (N := [("_law_word_here" : Str), ("_law_size" : Str), ("_law_every" : Str), ("_law_lots" : Str), ("_law_some" : Str), ("_law_found" : Str), ("_law_one" : Str), ("_law_more" : Str), ("_law_first" : Str), ("_law_other" : Str)]) (sc := defScope s__law_bounds) (by decide +kernel)) (fun _ _ _ _ _ => by exact (pg_name (i := 6) sc__law_bounds.nd rfl (by first | exact .inl rfl | exact .inr rfl))) (fun _ _ _ _ _ => pts_nil) (fun _ _ _ _ _ => (pe_tup (pa_cons (pv 0) (pa_cons (pv 6) pa_nil))))))) (Evl.pss_cut (ps_if (pt_cmpR op_in_seq (pv 0) (pe_tup (pa_cons pe_str (pa_cons pe_str (pa_cons pe_str (pa_cons pe_str (pa_cons pe_str pa_nil)))))) (by rfl)) (pss_cons (ps_set (i := 7) sc__law_bounds.nd rfl (by first | exact .inl rfl | exact .inr rfl) (pe_op op_cat (pe_op op_cat (pv 4) (pv 3)) (pe_lst (pa_cons pe_bl (pa_cons (pe_tup (pa_cons pe_int (pa_cons (pe_tup pa_nil) pa_nil))) (pa_cons (pe_tup (pa_cons (pv 1) (pa_cons (pe_tup pa_nil) pa_nil))) (pa_cons (pe_tup (pa_cons (pe_op op_sub (pv 1) pe_int) (pa_cons (pv 2) pa_nil))) pa_nil))))))) (pss_one (ps_for PassesOwn.never rfl (pi_tup (pe_tup (pa_cons pe_int (pa_cons pe_non (pa_cons pe_str (pa_cons pe_str (pa_cons pe_str (pa_cons (pe_un un_neg pe_int) (pa_cons pe_int pa_nil))))))))) (pg_name (i := 8) sc__law_bounds.nd rfl (by first | exact .inl rfl | exact .inr rfl)) (pss_one (ps_expr (pe_bm PySem.F.plainAttrs_list PySem.F.slot_list_extend PySem.F.type_list_extend mt_extend (pv 5) (pa_cons (pe_lc (own := [(("_law_other" : Str), 9)]) (g := gName 9) rfl sc__law_bounds.nd (pi_list (pv 7)) (blkOk_by (N := [("_law_word_here" : Str), ("_law_size" : Str), ("_law_every" : Str), ("_law_lots" : Str), ("_law_some" : Str), ("_law_found" : Str), ("_law_one" : Str), ("_law_more" : Str), ("_law_first" : Str), ("_law_other" : Str)]) (sc := defScope s__law_bounds) (by decide +kernel)) (fun _ _ _ _ _ => by exact (pg_name (i := 9) sc__law_bounds.nd rfl (by first | exact .inl rfl | exact .inr rfl))) (fun _ _ _ _ _ => pts_nil) (fun _ _ _ _ _ => (pe_tup (pa_cons (pv 0) (pa_cons (pv 8) (pa_cons (pv 9) pa_nil)))))) pa_nil))))))) pss_nil) (pss_one (ps_ret (pv 5))))))))), ?_⟩
    -- every
    refine ⟨(by show 7 ≤ sizeLine; decide), fun e he => ?_⟩
    have s1 := same_upd (o := .tup (sig7.map V.str)) he
    have he1 : (upd H e (.tup (sig7.map V.str))) e = some (.tup (sig7.map V.str)) := upd_same
    -- lots
    refine ⟨Nat.zero_le _, fun a1 h1 => ?_⟩
    have sa1 := same_upd (o := .tup []) h1
    refine ⟨_, rfl, _, rfl, e, _, rfl, .inl (.inl (sa1 _ _ he1)), fun a2 h2 => ?_⟩
    have sa2 := same_upd (o := .tup (sig7.map V.str).reverse) h2
    refine ⟨(by show 1 ≤ sizeLine; decide), fun a3 h3 => ?_⟩
    have sa3 := same_upd (o := .tup [V.str "kill"]) h3
    have e3 := sa3 _ _ (sa2 _ _ (sa1 _ _ he1))
    refine ⟨_, rfl, a3, e, _, _, rfl, rfl, sqT_new, .inl (.inl e3), (by show 8 ≤ sizeLine; decide), (fun z => by cases z), (fun _ z => by cases z), fun _ _ a4 h4 => ?_⟩
    have sa4 := same_upd (o := .tup ([V.str "kill"] ++ sig7.map V.str)) h4
    refine ⟨(by show 2 ≤ sizeLine; decide), fun a5 h5 => ?_⟩
    have sa5 := same_upd (o := .tup [V.str "call", V.str "call"]) h5
    refine ⟨(by show 2 ≤ sizeLine; decide), fun a6 h6 => ?_⟩
    have sa6 := same_upd (o := .tup [V.str "quit", V.str "hang"]) h6
    refine ⟨(by show 1 ≤ sizeLine; decide), fun a7 h7 => ?_⟩
    have sa7 := same_upd (o := .tup [V.str "halt"]) h7
    have e7 := sa7 _ _ (sa6 _ _ (sa5 _ _ (sa4 _ _ e3)))
    refine ⟨_, rfl, e, _, rfl, .inr (.inl (.inl e7)), fun a8 h8 => ?_⟩
    have sa8 := same_upd (o := .lst (sig7.map V.str)) h8
    refine ⟨(by show 8 ≤ sizeLine; decide), fun L hL => ?_⟩
    have sL := same_upd (o := .lst [V.ref a1, V.ref e, V.ref a2, V.ref a4, V.ref a5, V.ref a6, V.ref a7, V.ref a8]) hL
    have eL := sL _ _ (sa8 _ _ e7)
    have c8 := sL
    have c7 := sa8.trans c8
    have c6 := sa7.trans c7
    have c5 := sa6.trans c6
    have c4 := sa5.trans c5
    have c2 := sa3.trans (sa4.trans c4)
    have c1 := sa2.trans c2
    have sH := s1.trans (sa1.trans c1)
    have hLd : DpAll K _ [V.ref a1, V.ref e, V.ref a2, V.ref a4, V.ref a5, V.ref a6, V.ref a7, V.ref a8] lotsD :=
      .cons (.tup (Same.tup c1 sqT_new) .nil) (.cons (.tup (.inl (.inl eL)) (dpA_strs sig7)) (.cons (.tup (Same.tup c2 sqT_new) (by rw [← List.map_reverse]; exact dpA_strs _)) (.cons (.tup (Same.tup c4 sqT_new) (dpA_strs ((["kill"] : List Str) ++ sig7))) (.cons (.tup (Same.tup c5 sqT_new) (dpA_strs ["call", "call"])) (.cons (.tup (Same.tup c6 sqT_new) (dpA_strs ["quit", "hang"])) (.cons (.tup (Same.tup c7 sqT_new) (dpA_strs ["halt"])) (.cons (.lst (c8.seq sqL_new) (dpA_strs sig7)) .nil)))))))
    have hLL : _ = some (HO.lst [V.ref a1, V.ref e, V.ref a2, V.ref a4, V.ref a5, V.ref a6, V.ref a7, V.ref a8]) := upd_same (H := upd (upd (upd (upd (upd (upd (upd (upd (upd H e (.tup (sig7.map V.str))) a1 (.tup [])) a2 (.tup (sig7.map V.str).reverse)) a3 (.tup [V.str "kill"])) a4 (.tup ([V.str "kill"] ++ sig7.map V.str))) a5 (.tup [V.str "call", V.str "call"])) a6 (.tup [V.str "quit", V.str "hang"])) a7 (.tup [V.str "halt"])) a8 (.lst (sig7.map V.str))) (a := L) (o := HO.lst [V.ref a1, V.ref e, V.ref a2, V.ref a4, V.ref a5, V.ref a6, V.ref a7, V.ref a8])
    -- some
    refine ⟨1, rfl, _, rfl, _, _, rfl, rfl, _, rfl, (by show 16 ≤ sizeLine; decide), fun S1 hS1 => ?_⟩
    have t1 := same_upd (o := .lst (([.int 0, .int 1, .int 99, .int 100, .int (-1), .int (n - 1), .int n, .non, .bl true] : List V) ++ strs1.map V.str)) hS1
    refine ⟨_, rfl, (by show 9 ≤ sizeLine; decide), fun S2 hS2 => ?_⟩
    have t2 := same_upd (o := .lst (strs2.map V.str ++ [V.int 999999999])) hS2
    refine ⟨S1, S2, _, _, rfl, rfl, t2 _ _ upd_same, upd_same, (by show 25 ≤ sizeLine; decide), fun S3 hS3 => ?_⟩
    have t3 := same_upd (o := .lst (someV n)) hS3
    have tS := t1.trans (t2.trans t3)
    -- found
    refine ⟨_, rfl, (by show 1 ≤ sizeLine; decide), fun b1 hb1 => ?_⟩
    have u1 := same_upd (o := .tup [V.str wd]) hb1
    refine ⟨_, rfl, (by show 4 ≤ sizeLine; decide), fun b2 hb2 => ?_⟩
    have u2 := same_upd (o := .tup [V.str wd, V.str "a", V.str "a", V.str "a"]) hb2
    refine ⟨(by show 2 ≤ sizeLine; decide), fun B hB => ?_⟩
    have u3 := same_upd (o := .lst [V.ref b1, V.ref b2]) hB
    have uS := u1.trans (u2.trans u3)
    have sB := tS.trans uS
    refine ⟨_, rfl, _, rfl, S3, L, someV n, _, rfl, rfl, uS _ _ upd_same, sB _ _ hLL, (by show 33 ≤ sizeLine; decide), fun C hC => ?_⟩
    have u4 := same_upd (o := .lst (someV n ++ [V.ref a1, V.ref e, V.ref a2, V.ref a4, V.ref a5, V.ref a6, V.ref a7, V.ref a8])) hC
    refine ⟨C, rfl, ⟨_, sqL_new⟩, fun D hD => ?_⟩
    have hCd := dpA_app (some_dp (K := K) (H := _) n) (dpA_mono (sB.trans u4) hLd)
    have hCn : ∀ d ∈ someD n ++ lotsD, n2 d = true := fun d hd => by
      rcases List.mem_append.mp hd with h | h
      · exact some_n2 hn0 hn1 d h
      · exact lots_n2 d h
    refine lc_data (K := K) (walk_list (xs := someV n ++ [V.ref a1, V.ref e, V.ref a2, V.ref a4, V.ref a5, V.ref a6, V.ref a7, V.ref a8])) D Bd hD (by show 33 ≤ 1000000; decide) (fun H' s' => s'.seq sqL_new) ?_ ?_
    · rintro i v H' H'' Qe hi s' ⟨oD, hoD⟩ ⟨rfl, hv⟩ q
      obtain ⟨d, hd, hdn⟩ := dpA_mem hCd hCn hv
      refine ⟨rfl, _, rfl, _, rfl, (by show 2 ≤ sizeLine; decide), fun tp htp => ?_⟩
      have sT := same_upd (o := .tup [V.str wd, v]) htp
      have nTD : tp ≠ D := (ne_of_none hoD htp).symm
      refine q (.ref tp) (.tuple [.str wd, d]) _ sT (.tup (.inl (.inl (off_at nTD nTD upd_same))) (.cons (.str wd) (.cons (dp_mono (fun b o eb => off_at (ne_of_none eb hD) (ne_of_none eb hD) (sT _ _ (s' _ _ eb))) hd) .nil))) ⟨_, rfl, ?_, by show 2 ≤ 4; decide⟩
      rw [List.all_cons, List.all_cons, nice_word hw, n2_nice hdn]
      rfl
    intro H2 acc ds s2 hacc hads hds hal
    refine ⟨B, D, _, acc, rfl, rfl, s2 _ _ (u4 _ _ upd_same), hacc, (by show 2 + acc.length ≤ sizeLine; rw [hal]; show 2 + 33 ≤ sizeLine; decide), fun F hF => ?_⟩
    have u5 := same_upd (o := .lst ([V.ref b1, V.ref b2] ++ acc)) hF
    have sF := (sB.trans u4).trans (s2.trans u5)
    have hF0 : H F = none := (sH.trans ((sB.trans u4).trans s2)).free hF
    have hfd : DpAll K (off F F (upd H2 F (.lst ([V.ref b1, V.ref b2] ++ acc)))) ([V.ref b1, V.ref b2] ++ acc) ([.tuple [.str wd], .tuple [.str wd, .str "a", .str "a", .str "a"]] ++ ds) := by
      refine dpA_mono ((off_new hF).trans (off_same u5)) (dpA_app (.cons (.tup (Same.tup ((u2.trans u3).trans (u4.trans s2)) sqT_new) (.cons (.str wd) .nil)) (.cons (.tup (Same.tup (u3.trans (u4.trans s2)) sqT_new) (.cons (.str wd) (.cons (.str _) (.cons (.str _) (.cons (.str _) .nil))))) .nil)) (dpA_mono off_sub hads))
    have hfb : ∀ d ∈ ([.tuple [.str wd], .tuple [.str wd, .str "a", .str "a", .str "a"]] : List PyData) ++ ds, Bd d := by
      intro d hd
      rcases List.mem_append.mp hd with h | h
      · simp only [List.mem_cons, List.not_mem_nil, or_false] at h
        have ha : nice (.str "a") = true := by decide +kernel
        rcases h with rfl | rfl
        · exact ⟨_, rfl, by rw [List.all_cons, nice_word hw]; rfl, by show 1 ≤ 4; decide⟩
        · exact ⟨_, rfl, by rw [List.all_cons, List.all_cons, List.all_cons, List.all_cons, nice_word hw, ha]; rfl, by show 4 ≤ 4; decide⟩
      · exact hds d h
    have hFF : (upd H2 F (.lst ([V.ref b1, V.ref b2] ++ acc))) F = some (.lst ([V.ref b1, V.ref b2] ++ acc)) := upd_same
    have hlen2 : ([V.ref b1, V.ref b2] ++ acc).length = 35 := by
      show acc.length + 1 + 1 = 35
      rw [hal]
      rfl
    have pre : DpAll K H2 (someV n ++ [V.ref a1, V.ref e, V.ref a2, V.ref a4, V.ref a5, V.ref a6, V.ref a7, V.ref a8]) (someD n ++ lotsD) := dpA_mono s2 hCd
    have sHF := sH.trans sF
    have eF : (upd H2 F (.lst ([V.ref b1, V.ref b2] ++ acc))) e = some (.tup (sig7.map V.str)) := sF _ _ eL
    have hS3F : (upd H2 F (.lst ([V.ref b1, V.ref b2] ++ acc))) S3 = some (.lst (someV n)) := u5 _ _ (s2 _ _ (u4 _ _ (uS _ _ upd_same)))
    have hLF : (upd H2 F (.lst ([V.ref b1, V.ref b2] ++ acc))) L = some (.lst [V.ref a1, V.ref e, V.ref a2, V.ref a4, V.ref a5, V.ref a6, V.ref a7, V.ref a8]) := sF _ _ hLL
    refine ⟨fun σ' H' => ∃ xs ds, σ'[5]? = some (some (.ref F)) ∧ Same H H' ∧ H' F = some (.lst xs) ∧ DpAll K (off F F H') xs ds ∧ (∀ d ∈ ds, Bd d) ∧ xs.length ≤ 2000, ?_, fun σ' H' ⟨xs, ds', h1, h2, h3, h4, h5, h6⟩ => ⟨_, h1, k F xs ds' H' h2 hF0 h3 h4 h5 h6⟩⟩
    refine ⟨_, rfl, (by show 5 ≤ sizeLine; decide), fun pt hpt => ⟨pt, (["wait", "send", "handle", "group", "if"] : List Str).map V.str, rfl, .inr sqT_new, rfl, flat_strs _, _, rfl, ?_⟩⟩
    have v1 := same_upd (o := .tup ((["wait", "send", "handle", "group", "if"] : List Str).map V.str)) hpt
    refine ite_in (ws := ["wait", "send", "handle", "group", "if"]) (fun ew => ?_) (fun ew => ?_)
    · refine ⟨_, rfl, _, rfl, S3, L, someV n, _, rfl, rfl, v1 _ _ hS3F, v1 _ _ hLF, (by show 33 ≤ sizeLine; decide), fun M1 hM1 => ?_⟩
      have v2 := same_upd (o := .lst (someV n ++ [V.ref a1, V.ref e, V.ref a2, V.ref a4, V.ref a5, V.ref a6, V.ref a7, V.ref a8])) hM1
      refine ⟨Nat.zero_le _, fun q1 hq1 => ?_⟩
      have v3 := same_upd (o := .tup []) hq1
      refine ⟨(by show 2 ≤ sizeLine; decide), fun q2 hq2 => ?_⟩
      have v4 := same_upd (o := .tup [V.int 0, V.ref q1]) hq2
      refine ⟨_, rfl, Nat.zero_le _, fun q3 hq3 => ?_⟩
      have v5 := same_upd (o := .tup []) hq3
      refine ⟨(by show 2 ≤ sizeLine; decide), fun q4 hq4 => ?_⟩
      have v6 := same_upd (o := .tup [V.int n, V.ref q3]) hq4
      refine ⟨_, rfl, _, _, rfl, rfl, _, rfl, (by show 2 ≤ sizeLine; decide), fun q5 hq5 => ?_⟩
      have v7 := same_upd (o := .tup [V.int (n - 1), V.ref e]) hq5
      refine ⟨(by show 4 ≤ sizeLine; decide), fun M2 hM2 => ?_⟩
      have v8 := same_upd (o := .lst [V.bl false, V.ref q2, V.ref q4, V.ref q5]) hM2
      have w8 := v8
      have w7 := v7.trans w8
      have w6 := v6.trans w7
      have w5 := v5.trans w6
      have w4 := v4.trans w5
      have w3 := v3.trans w4
      refine ⟨M1, M2, _, _, rfl, rfl, w3 _ _ upd_same, upd_same, (by show 37 ≤ sizeLine; decide), fun M hM => ?_⟩
      have v9 := same_upd (o := .lst ((someV n ++ [V.ref a1, V.ref e, V.ref a2, V.ref a4, V.ref a5, V.ref a6, V.ref a7, V.ref a8]) ++ [V.bl false, V.ref q2, V.ref q4, V.ref q5])) hM
      refine ⟨5, rfl, (by show 7 ≤ sizeLine; decide), fun tt htt => ?_⟩
      have v10 := same_upd (o := .tup [V.int 0, V.non, V.str "self", V.str "on", V.str "kill", V.int (-5), V.int 3]) htt
      have x9 := v9.trans v10
      have x8 := v8.trans x9
      have x7 := v7.trans x8
      have x6 := v6.trans x7
      have x5 := v5.trans x6
      have x4 := v4.trans x5
      have x3 := v3.trans x4
      have x1 := v1.trans (v2.trans x3)
      have F1 := v1 _ _ hFF
      have F2 := v2 _ _ F1
      have F3 := v3 _ _ F2
      have F4 := v4 _ _ F3
      have F5 := v5 _ _ F4
      have F6 := v6 _ _ F5
      have F7 := v7 _ _ F6
      have F8 := v8 _ _ F7
      have F9 := v9 _ _ F8
      have F10 := x1 _ _ hFF
      have nF : ∀ {Hx : Hp} {q : Addr}, Hx F = some (.lst ([V.ref b1, V.ref b2] ++ acc)) → Hx q = none → q ≠ F := fun a b => (ne_of_none a b).symm
      have neF : e ≠ F := ne_of (eF) hFF (by intro z; cases z)
      have hMd : DpAll K (off F F _) ((someV n ++ [V.ref a1, V.ref e, V.ref a2, V.ref a4, V.ref a5, V.ref a6, V.ref a7, V.ref a8]) ++ [V.bl false, V.ref q2, V.ref q4, V.ref q5])
          ((someD n ++ lotsD) ++ [.bool false, .tuple [.int 0, .tuple []], .tuple [.int n, .tuple []], .tuple [.int (n - 1), .tuple (sig7.map .str)]]) :=
        dpA_app (dpA_mono ((off_new hF).trans (off_same (u5.trans x1))) pre)
          (.cons (.bl false) (.cons (.tup (.inl (.inl (off_at (nF F3 hq2) (nF F3 hq2) (x5 _ _ upd_same)))) (.cons (.int 0) (.cons (.tup (.inl (.inl (off_at (nF F2 hq1) (nF F2 hq1) (x4 _ _ upd_same)))) .nil) .nil)))
          (.cons (.tup (.inl (.inl (off_at (nF F5 hq4) (nF F5 hq4) (x7 _ _ upd_same)))) (.cons (.int n) (.cons (.tup (.inl (.inl (off_at (nF F4 hq3) (nF F4 hq3) (x6 _ _ upd_same)))) .nil) .nil)))
          (.cons (.tup (.inl (.inl (off_at (nF F6 hq5) (nF F6 hq5) (x8 _ _ upd_same)))) (.cons (.int (n - 1)) (.cons (.tup (.inl (.inl (off_at neF neF (x1 _ _ eF)))) (dpA_strs sig7)) .nil))) .nil))))
      have hMn : ∀ d ∈ (someD n ++ lotsD) ++ ([.bool false, .tuple [.int 0, .tuple []], .tuple [.int n, .tuple []], .tuple [.int (n - 1), .tuple (sig7.map .str)]] : List PyData), nice d = true := by
        intro d hd
        rcases List.mem_append.mp hd with h | h
        · exact n2_nice (hCn d h)
        · simp only [List.mem_cons, List.not_mem_nil, or_false] at h
          have t0 : (nice (.tuple []) && decide (PyData.depth (.tuple []) ≤ 2)) = true := by decide +kernel
          have t7 : (nice (.tuple (sig7.map .str)) && decide (PyData.depth (.tuple (sig7.map .str)) ≤ 2)) = true := by decide +kernel
          have ti : ∀ i : Int, -1000000000 ≤ i → i ≤ 1000000000 → (nice (.int i) && decide (PyData.depth (.int i) ≤ 2)) = true := fun i h0 h1 => n2_int h0 h1
          rcases h with rfl | rfl | rfl | rfl
          · exact nice_bool false
          · exact nice_tup (by rw [List.all_cons, List.all_cons, ti 0 (by decide) (by decide), t0]; rfl) (by show 2 ≤ 1000; decide)
          · exact nice_tup (by rw [List.all_cons, List.all_cons, ti n (by omega) (by omega), t0]; rfl) (by show 2 ≤ 1000; decide)
          · exact nice_tup (by rw [List.all_cons, List.all_cons, ti (n - 1) (by omega) (by omega), t7]; rfl) (by show 2 ≤ 1000; decide)
      have hMM := v10 _ _ (upd_same (a := M) (o := .lst ((someV n ++ [V.ref a1, V.ref e, V.ref a2, V.ref a4, V.ref a5, V.ref a6, V.ref a7, V.ref a8]) ++ [V.bl false, V.ref q2, V.ref q4, V.ref q5])))
      have nMF : M ≠ F := nF F8 hM
      have ntF : tt ≠ F := nF F9 htt
      have sAll := sHF.trans x1
      refine ⟨tt, rfl, ⟨_, sqT_new⟩, ?_⟩
      refine for_tup (K := K) (a := tt) (xs := [V.int 0, V.non, V.str "self", V.str "on", V.str "kill", V.int (-5), V.int 3]) (fun i σ' H' => ∃ y8, σ' = [some (.str wd), some (.int n), some (.ref e), some (.ref L), some (.ref S3), some (.ref F), none, some (.ref M), y8, none] ∧ Same H H' ∧ H' tt = some (.tup [V.int 0, V.non, V.str "self", V.str "on", V.str "kill", V.int (-5), V.int 3]) ∧
          H' M = some (.lst ((someV n ++ [V.ref a1, V.ref e, V.ref a2, V.ref a4, V.ref a5, V.ref a6, V.ref a7, V.ref a8]) ++ [V.bl false, V.ref q2, V.ref q4, V.ref q5])) ∧
          DpAll K (off F F H') ((someV n ++ [V.ref a1, V.ref e, V.ref a2, V.ref a4, V.ref a5, V.ref a6, V.ref a7, V.ref a8]) ++ [V.bl false, V.ref q2, V.ref q4, V.ref q5]) ((someD n ++ lotsD) ++ [.bool false, .tuple [.int 0, .tuple []], .tuple [.int n, .tuple []], .tuple [.int (n - 1), .tuple (sig7.map .str)]]) ∧
          ∃ xs ds, H' F = some (.lst xs) ∧ DpAll K (off F F H') xs ds ∧ (∀ d ∈ ds, Bd d) ∧ xs.length ≤ 35 + 37 * i)
        ⟨none, rfl, sAll, upd_same, hMM, hMd, _, _, F10, dpA_mono (off_same x1) hfd, hfb, by rw [hlen2]; exact Nat.le_refl _⟩ (fun i σ' H' _ ⟨_, _, _, h, _⟩ => .inl (.inl h)) ?_ ?_
      · rintro i v σ' H' hi ⟨y8, rfl, g1, g2, g3, g4, xs, ds', g5, g6, g7, g8⟩
        have hi7 : i < 7 := by
          have := (List.getElem?_eq_some_iff.mp hi).1
          exact this
        obtain ⟨dv, hdv, hnv⟩ : ∃ dv : PyData, (∀ Hx : Hp, Dp K Hx v dv) ∧ nice dv = true := by
          have hm := List.mem_of_getElem? hi
          simp only [List.mem_cons, List.not_mem_nil, or_false] at hm
          rcases hm with rfl | rfl | rfl | rfl | rfl | rfl | rfl
          · exact ⟨.int 0, fun _ => .int 0, by decide +kernel⟩
          · exact ⟨.none, fun _ => .non, nice_none⟩
          · exact ⟨.str "self", fun _ => .str _, by decide +kernel⟩
          · exact ⟨.str "on", fun _ => .str _, by decide +kernel⟩
          · exact ⟨.str "kill", fun _ => .str _, by decide +kernel⟩
          · exact ⟨.int (-5), fun _ => .int _, by decide +kernel⟩
          · exact ⟨.int 3, fun _ => .int _, by decide +kernel⟩
        refine ⟨_, rfl, .inl ⟨rfl, _, .inl (.inl g5)⟩, _, rfl, M, rfl, ⟨_, .inl (.inl g3)⟩, fun D2 hD2 => ?_⟩
        refine lc_data (K := K) (walk_list (xs := (someV n ++ [V.ref a1, V.ref e, V.ref a2, V.ref a4, V.ref a5, V.ref a6, V.ref a7, V.ref a8]) ++ [V.bl false, V.ref q2, V.ref q4, V.ref q5])) F Bd hD2 (by show 37 ≤ 1000000; decide) (fun H'' s'' => .inl (.inl (s'' _ _ g3))) ?_ ?_
        · rintro j v2 Hj Hj' Qe hj sj ⟨oD, hoD⟩ ⟨rfl, hv2⟩ q
          obtain ⟨d, hd, hdn⟩ := dpA_mem g4 hMn hv2
          refine ⟨rfl, _, rfl, _, rfl, _, rfl, (by show 3 ≤ sizeLine; decide), fun tp htp => ?_⟩
          have sT := same_upd (o := .tup [V.str wd, v, v2]) htp
          have nTD : tp ≠ D2 := (ne_of_none hoD htp).symm
          have nTF : tp ≠ F := (ne_of_none (sj _ _ g5) htp).symm
          refine q (.ref tp) (.tuple [.str wd, dv, d]) _ sT (.tup (.inl (.inl (off_at nTD nTF upd_same))) (.cons (.str wd) (.cons (hdv _) (.cons (dp_mono ((same_off hD2 sj).trans (off_same sT)) hd) .nil)))) ⟨_, rfl, ?_, by show 3 ≤ 4; decide⟩
          rw [List.all_cons, List.all_cons, List.all_cons, nice_word hw, hnv, hdn]
          rfl
        · intro H3 acc2 ds2 s3' hacc2 hads2 hds2 hal2
          have hl37 : acc2.length = 37 := hal2
          refine ⟨F, D2, xs, acc2, rfl, rfl, s3' _ _ g5, hacc2, Nat.le_trans (show xs.length + acc2.length ≤ 2000 by omega) (by decide), ?_⟩
          have nD2F : D2 ≠ F := (ne_of_none g5 hD2).symm
          refine ⟨some v, rfl, same_mut (g1.trans s3') hF0, by rw [upd_ne ntF]; exact s3' _ _ g2, by rw [upd_ne nMF]; exact s3' _ _ g3, dpA_mono ((off_same s3').trans off_mutF) g4, xs ++ acc2, ds' ++ ds2, upd_same, ?_, ?_, ?_⟩
          · exact dpA_mono off_mutF (dpA_app (dpA_mono (off_same s3') g6) (dpA_mono off_F hads2))
          · intro d hd
            rcases List.mem_append.mp hd with h | h
            · exact g7 d h
            · exact hds2 d h
          · rw [List.length_append]
            omega
      · rintro σ' H' ⟨y8, rfl, g1, g2, g3, g4, xs, ds', g5, g6, g7, g8⟩
        exact ⟨xs, ds', rfl, g1, g5, g6, g7, Nat.le_trans g8 (by show 35 + 37 * 7 ≤ 2000; decide)⟩
    · exact ⟨_, _, rfl, sHF.trans v1, v1 _ _ hFF, dpA_mono (off_same v1) hfd, hfb, by rw [hlen2]; decide⟩
end
end Kin
namespace Kin
open PySem PySem.Spec PyProof.Rows L2
section
variable {P : Program} {w : World} {K : PySem.W.Frag} {mg : Str → Option Value} {base : Heap} {tL : Tok} {es : Array DictEntry} {nF : Nat}
def spLaw (K : PySem.W.Frag) : Sp := fun vs H Q _ => ∃ (a : Addr) (ns : List Int), vs = [.ref a] ∧ SqL K H a (ns.map V.int) ∧ ns.length ≤ 63 ∧ ∀ H', Q (.bl true) H'
theorem catA_data {H : Hp} {a b : Addr} {xs ys : List V} {Q : VK} (hx : SqT K H a xs) (hy : SqT K H b ys) (hl : xs.length + ys.length ≤ 10000) (q : ∀ p H', Same H H' → SqT K H' p (xs ++ ys) → Q (.ref p) H') : rCatA K (.ref a) (.ref b) H Q :=
  ⟨a, b, xs, ys, rfl, rfl, hx, hy, Nat.le_trans hl (by decide), fun e => by
    subst e
    exact q b H (Same.refl H) hy, fun _ e => by
    subst e
    exact q a H (Same.refl H) (by rw [List.append_nil]; exact hx), fun _ _ p hp => q p _ (same_upd hp) sqT_new⟩
theorem slA_data {H : Hp} {a : Addr} {xs : List V} {lo hi : Option Int} {Q : VK} (hx : SqT K H a xs) (q : ∀ p H', Same H H' → SqT K H' p (cutV xs lo hi) → Q (.ref p) H') : rSlA K (.ref a) lo hi H Q :=
  ⟨a, xs, rfl, hx, fun ⟨e1, e2⟩ => by
    have e : cutV xs lo hi = xs := by
      unfold cutV
      rw [e1, e2]
      show (xs.drop 0).take (xs.length - 0) = xs
      rw [List.drop_zero, Nat.sub_zero, List.take_length]
    exact q a H (Same.refl H) (by rw [e]; exact hx), fun _ p hp => q p _ (same_upd hp) sqT_new⟩
theorem fit_cut {ds : List PyData} (h : ds.all nice = true) (hl : ds.length ≤ 10) (a b : Nat) : fit (.tuple ((ds.drop a).take b)) := by
  refine fit_tup ?_ ?_
  · rw [List.all_eq_true] at h ⊢
    intro d hd
    exact h d (List.mem_of_mem_drop (List.mem_of_mem_take hd))
  · rw [List.length_take, List.length_drop]
    omega
theorem dp_cut {H : Hp} {p : Addr} {xs : List V} {ds : List PyData} {lo hi : Option Int} (h : SqT K H p (cutV xs lo hi)) (hd : DpAll K H xs ds) : Dp K H (.ref p) (.tuple ((ds.drop (HT.sIx xs.length 0 lo)).take (HT.sIx xs.length xs.length hi - HT.sIx xs.length 0 lo))) :=
  .tup h (dpA_take _ (dpA_drop _ hd))
theorem Bd.fit {d : PyData} (h : Bd d) : fit d := by
  obtain ⟨es, rfl, h1, h2⟩ := h
  exact fit_tup h1 (by omega)
abbrev s_law : Stmt := topS 34
theorem sc_law : FnScope [("_law_script" : Str), ("_law_hand_here" : Str), ("_law_word_here" : Str), ("_law_size" : Str), ("_law_row" : Str), ("_law_thing" : Str), ("_law_found" : Str)] ["_law_script"] (defScope s_law) := ⟨rfl, rfl, rfl, by decide +kernel, rfl, by decide +kernel, by decide +kernel⟩
theorem ok_law {f : Addr} {fd : FuncData} (F : FnP K "law" s_law f fd) (T : Bi K w mg tL es nF) (c__law_hand : Cal P w K mg base "_law_hand" ["_law_script"] 1 (spHand K)) (c__law_words : Cal P w K mg base "_law_words" [] 1 spWords) (c__law_of : Cal P w K mg base "_law_of" ["_law_hand_here", "_law_some"] 2 (spOf K)) (c__law_pick : Cal P w K mg base "_law_pick" ["_law_hand_here", "_law_many"] 1 spPick) (c__law_parts : Cal P w K mg base "_law_parts" ["_law_hand_here", "_law_word_here", "_law_size"] 3 (spParts K)) (c_is_row : Cal P w K mg base "is_row" ["thing", "size"] 7 (spRow K pRow)) (c__law_is_row : Cal P w K mg base "_law_is_row" ["_law_thing", "_law_size"] 4 (spLRow K)) (c__law_bounds : Cal P w K mg base "_law_bounds" ["_law_word_here", "_law_size"] 1 (spBounds K)) : FnOk P w K mg base CX0 8 f fd ["_law_script"] (spLaw K) := by
  refine F.ok sc_law (fun vs H Q E h => ?_) (fun cdv A outer s H vs Q E hr h => ?_)
  · obtain ⟨a, ns, rfl, _⟩ := h
    rfl
  · obtain ⟨a, ns, rfl, ha, hns, k⟩ := h
    refine ⟨_, PSs.nox (pss_cons (ps_set (i := 1) sc_law.nd rfl (by first | exact .inl rfl | exact .inr rfl) (pe_cal c__law_hand (hr.mono (by decide)) (by rfl) pass0 (pa_cons (pv 0) pa_nil))) (pss_cons (ps_for PassesOwn.never rfl (pi_list (pe_cal0 c__law_words (hr.mono (by decide)) (by rfl) pass0)) (pg_name (i := 2) sc_law.nd rfl (by first | exact .inl rfl | exact .inr rfl)) (pss_cons (ps_set (i := 3) sc_law.nd rfl (by first | exact .inl rfl | exact .inr rfl) (pe_cal c__law_of (hr.mono (by decide)) (by rfl) pass0 (pa_cons (pv 1) (pa_cons (pe_lst (pa_cons pe_int (pa_cons pe_int (pa_cons pe_int (pa_cons (pe_op op_add pe_int (pe_cal c__law_pick (hr.mono (by decide)) (by rfl) pass0 (pa_cons (pv 1) (pa_cons pe_int pa_nil)))) pa_nil))))) pa_nil)))) (Evl.pss_cut (ps_set (i := 4) sc_law.nd rfl (by first | exact .inl rfl | exact .inr rfl) (pe_op op_catA (pe_tup (pa_cons (pv 2) pa_nil)) (pe_cal c__law_parts (hr.mono (by decide)) (by rfl) pass0 (pa_cons (pv 1) (pa_cons (pv 2) (pa_cons (pv 3) pa_nil)))))) (pss_cons (ps_if (PW.pt (pw_or (pt_cmpR op_notBl (pe_cal c_is_row (hr.mono (by decide)) (by rfl) pass0 (pa_cons (pv 4) (pa_cons (pv 3) pa_nil))) pe_bl (nomark _)) (pw_or1 (pt_not (pt_val (pe_cal c__law_is_row (hr.mono (by decide)) (by rfl) pass0 (pa_cons (pv 4) (pa_cons (pv 3) pa_nil)))))))) (pss_one (ps_ret pe_bl)) pss_nil) (pss_one (ps_for PassesOwn.never rfl (pi_list (pe_op op_cat (pe_lst (pa_cons (pe_op op_catA (pv 4) (pe_tup (pa_cons pe_int pa_nil))) (pa_cons (pe_slice sl_tupA (pv 4) po_none (po_some (pe_un un_neg pe_int))) (pa_cons (pe_op op_catA (pv 4) (pe_slice sl_tupA (pv 4) (po_some pe_int) po_none)) (pa_cons (pe_callTy call_list_of (by rfl) T.n_list boot_list (pa_cons (pv 4) pa_nil)) (pa_cons (pe_slice sl_tupA (pv 4) (po_some pe_int) po_none) pa_nil)))))) (pe_cal c__law_bounds (hr.mono (by decide)) (by rfl) pass0 (pa_cons (pv 2) (pa_cons (pv 3) pa_nil))))) (pg_name (i := 5) sc_law.nd rfl (by first | exact .inl rfl | exact .inr rfl)) (pss_cons (ps_set (i := 6) sc_law.nd rfl (by first | exact .inl rfl | exact .inr rfl) (pe_cal c_is_row (hr.mono (by decide)) (by rfl) pass0 (pa_cons (pv 5) (pa_cons (pv 3) pa_nil)))) (pss_one (ps_if (PW.pt (pw_or (pt_not (pt_val (pe_callB call_isi (by rfl) T.n_isinstance boot_isinstance (pa_cons (pv 6) (pa_cons (pe_bltn (v := .ty "bool") (by rfl) T.n_bool boot_bool rfl) pa_nil))))) (pw_or1 (pt_cmpR op_ne (pv 6) (pe_cal c__law_is_row (hr.mono (by decide)) (by rfl) pass0 (pa_cons (pv 5) (pa_cons (pv 3) pa_nil))) (nomark _))))) (pss_one (ps_ret pe_bl)) pss_nil))))))))) (pss_one (ps_ret pe_bl)))), ?_⟩
    refine ⟨_, rfl, a, ns, rfl, ha, hns, fun x l H1 s1 hx0 hl0 hh1 => ?_⟩
    refine ⟨rfl, fun W H2 s2 hW0 hW => ?_⟩
    have hh2 := hh1.same s2
    obtain ⟨nWx, nWl⟩ := hh1.nx hW0
    refine ⟨W, rfl, ⟨_, .inl (.inl hW)⟩, ?_⟩
    refine for_list (K := K) (a := W) (xs := words18.map V.str) (fun i σ H' => ∃ y2 y3 y4 y5 y6, σ = [some (.ref a), some (.ref x), y2, y3, y4, y5, y6] ∧ Hand x l H' ∧ H' W = some (.lst (words18.map V.str)))
      ⟨none, none, none, none, none, rfl, hh2, hW⟩ (fun i σ H' _ ⟨_, _, _, _, _, _, _, h⟩ => .inl (.inl h)) ?_ ?_
    · rintro i v σ H3 hi ⟨y2, y3, y4, y5, y6, rfl, hh3, hW3⟩
      obtain ⟨wd, hw, rfl⟩ : ∃ wd, wd ∈ words18 ∧ v = V.str wd := by
        obtain ⟨z, hz, e⟩ := List.mem_map.mp (List.mem_of_getElem? hi)
        exact ⟨z, hz, e.symm⟩
      -- size
      refine ⟨_, rfl, _, rfl, x, l, 40, rfl, hh3, by decide, by decide, fun c H4 hc0 hc1 hh4 f4 => ⟨_, _, rfl, rfl, (by show 4 ≤ sizeLine; decide), fun p hp => ⟨x, l, _, rfl, hh4.same (same_upd hp), .inl ⟨p, _, rfl, .inl (sq_off hh4 hp), by show 0 < 4; decide, by show 4 ≤ 1000; decide, fun vn H5 hvn hh5 f5 => ?_⟩⟩⟩⟩
      obtain ⟨n, rfl, hn0, hn1⟩ : ∃ n : Int, vn = .int n ∧ 0 < n ∧ n ≤ 40 := by
        simp only [List.mem_cons, List.not_mem_nil, or_false] at hvn
        rcases hvn with rfl | rfl | rfl | rfl
        · exact ⟨_, rfl, by decide, by decide⟩
        · exact ⟨_, rfl, by decide, by decide⟩
        · exact ⟨_, rfl, by decide, by decide⟩
        · exact ⟨1 + c, rfl, by omega, by omega⟩
      have hW5 := f5 W _ nWx nWl ((same_upd hp) _ _ (f4 W _ nWx nWl hW3))
      -- row
      refine ⟨fun σ' H' => ∃ r xs ds, σ' = [some (.ref a), some (.ref x), some (.str wd), some (.int n), some (.ref r), y5, y6] ∧ Hand x l H' ∧ H' W = some (.lst (words18.map V.str)) ∧ SqT K H' r (.str wd :: xs) ∧ DpAll K H' xs ds ∧ ds.length ≤ 2 ∧ ds.all nice = true ∧ pRow (.tuple (.str wd :: ds)) n = true, ?_, ?_⟩
      · refine ⟨_, rfl, (by show 1 ≤ sizeLine; decide), fun t1 ht1 => ?_⟩
        have g1 := same_upd (o := .tup [V.str wd]) ht1
        obtain ⟨n1x, n1l⟩ := hh5.nx ht1
        refine ⟨_, rfl, _, rfl, _, rfl, x, l, wd, n, rfl, hh5.same g1, hw, hn0, by omega, fun q xs ds H6 hh6 f6 nqx nql hq6 hd6 hdl hdn hrow => ?_⟩
        have hdx := dpA_len hd6
        refine catA_data (xs := [V.str wd]) (ys := xs) (.inl (.inl (f6 t1 _ n1x n1l upd_same))) (.inl (.inl hq6)) (by show 1 + xs.length ≤ 10000; omega) fun r H7 s7 hr7 => ?_
        exact ⟨r, xs, ds, rfl, hh6.same s7, s7 _ _ (f6 W _ nWx nWl (g1 _ _ hW5)), hr7, dpA_mono s7 (dpA_mono off_sub hd6), hdl, hdn, hrow⟩
      · rintro σ' H6 ⟨r, xs, ds, rfl, hh6, hW6, hr6, hd6, hdl, hdn, hrow⟩
        have hdx := dpA_len hd6
        have hna : (PyData.str wd :: ds).all nice = true := by rw [List.all_cons, nice_word hw, hdn]; rfl
        have hnl : (PyData.str wd :: ds).length ≤ 3 := by rw [List.length_cons]; omega
        have hfr := fit_tup hna (by omega)
        have hrd : DpAll K H6 (.str wd :: xs) (.str wd :: ds) := .cons (.str wd) hd6
        have hagree := rows_agree n _ hfr.1
        refine ⟨_, rfl, _, rfl, .ref r, .tuple (.str wd :: ds), n, rfl, .tup hr6 hrd, hfr.2.1, fun H7 s7 => ⟨_, _, rfl, rfl, _, rfl, ?_⟩⟩
        rw [hrow]
        refine iteF ⟨_, rfl, _, rfl, .ref r, .tuple (.str wd :: ds), n, rfl, dp_mono s7 (.tup hr6 hrd), hfr.2.1, hfr.2.2, fun H8 s8 => ⟨_, rfl, ?_⟩⟩
        rw [← hagree, hrow]
        refine iteF ?_
        have s78 := s7.trans s8
        have r8 := Same.tup s78 hr6
        have d8 := dpA_mono s78 hrd
        -- row + (0,)
        refine ⟨_, rfl, (by show 1 ≤ sizeLine; decide), fun z1 hz1 => ?_⟩
        have g1 := same_upd (o := .tup [V.int 0]) hz1
        refine catA_data (xs := .str wd :: xs) (ys := [V.int 0]) (Same.tup g1 r8) sqT_new (by rw [List.length_cons]; show xs.length + 1 + 1 ≤ 10000; omega) fun p1 H9 s9 hp1 => ?_
        have t9 := g1.trans s9
        -- row[:-1]
        refine ⟨_, rfl, 1, rfl, _, rfl, ?_⟩
        refine slA_data (xs := .str wd :: xs) (Same.tup t9 r8) fun p2 H10 s10 hp2 => ?_
        have t10 := t9.trans s10
        -- row + row[1:]
        refine ⟨_, rfl, _, rfl, _, rfl, ?_⟩
        unfold tNoPart
        refine slA_data (xs := .str wd :: xs) (lo := some 1) (hi := none) (Same.tup t10 r8) fun p3 H11 s11 hp3 => ?_
        have t11 := t10.trans s11
        refine catA_data (xs := .str wd :: xs) (ys := cutV (.str wd :: xs) (some 1) none) (Same.tup t11 r8) hp3 (by
          have := cutV_length (.str wd :: xs) (some 1) none
          rw [List.length_cons] at this ⊢
          omega) fun p4 H12 s12 hp4 => ?_
        have t12 := t11.trans s12
        -- list(row)
        refine ⟨_, rfl, r, _, rfl, .inr (Same.tup t12 r8), fun p5 hp5 => ?_⟩
        have g5 := same_upd (o := .lst (.str wd :: xs)) hp5
        have t13 := t12.trans g5
        -- row[1:]
        refine ⟨_, rfl, _, rfl, ?_⟩
        try unfold tNoPart
        refine slA_data (xs := .str wd :: xs) (lo := some 1) (hi := none) (Same.tup t13 r8) fun p6 H14 s14 hp6 => ?_
        have t14 := t13.trans s14
        refine ⟨(by show 5 ≤ sizeLine; decide), fun LL hLL => ?_⟩
        have g6 := same_upd (o := .lst [V.ref p1, V.ref p2, V.ref p4, V.ref p5, V.ref p6]) hLL
        refine ⟨_, rfl, _, rfl, wd, n, rfl, hw, hn0, by omega, fun pB xsB dsB H15 s15 hpB0 hpB hdB hBd hBl => ?_⟩
        refine ⟨LL, pB, _, xsB, rfl, rfl, s15 _ _ upd_same, hpB, (by show 5 + xsB.length ≤ sizeLine; exact Nat.le_trans (show 5 + xsB.length ≤ 3000 by omega) (by decide)), fun TT hTT => ?_⟩
        have g7 := same_upd (o := .lst ([V.ref p1, V.ref p2, V.ref p4, V.ref p5, V.ref p6] ++ xsB)) hTT
        have e6 := (g6.trans s15).trans g7
        have e5 := s14.trans e6
        have e4 := g5.trans e5
        have e2 := s11.trans (s12.trans e4)
        have e1 := s10.trans e2
        have e0 := t9.trans e1
        have hcl : ∀ {lo hi : Option Int}, (cutV (.str wd :: xs) lo hi).length ≤ 3 := fun {lo hi} => Nat.le_trans (cutV_length _ _ _) (by rw [List.length_cons]; omega)
        have hall : DpAll K (upd H15 TT (.lst ([V.ref p1, V.ref p2, V.ref p4, V.ref p5, V.ref p6] ++ xsB))) ([V.ref p1, V.ref p2, V.ref p4, V.ref p5, V.ref p6] ++ xsB)
            ([.tuple ((.str wd :: ds) ++ [.int 0]), .tuple (((PyData.str wd :: ds).drop (HT.sIx (V.str wd :: xs).length 0 none)).take (HT.sIx (V.str wd :: xs).length (V.str wd :: xs).length (some (-1)) - HT.sIx (V.str wd :: xs).length 0 none)),
              .tuple ((.str wd :: ds) ++ ((PyData.str wd :: ds).drop (HT.sIx (V.str wd :: xs).length 0 (some 1))).take (HT.sIx (V.str wd :: xs).length (V.str wd :: xs).length none - HT.sIx (V.str wd :: xs).length 0 (some 1))),
              .list (.str wd :: ds), .tuple (((PyData.str wd :: ds).drop (HT.sIx (V.str wd :: xs).length 0 (some 1))).take (HT.sIx (V.str wd :: xs).length (V.str wd :: xs).length none - HT.sIx (V.str wd :: xs).length 0 (some 1)))] ++ dsB) := by
          refine dpA_app (.cons (.tup (Same.tup e1 hp1) (dpA_app (dpA_mono e0 d8) (.cons (.int 0) .nil))) (.cons (dp_mono e2 (dp_cut hp2 (dpA_mono t10 d8))) (.cons (.tup (Same.tup e4 hp4) (dpA_app (dpA_mono e0 d8) (dpA_take _ (dpA_drop _ (dpA_mono e0 d8))))) (.cons (.lst (e5.seq sqL_new) (dpA_mono e0 d8)) (.cons (dp_mono e6 (dp_cut hp6 (dpA_mono t14 d8))) .nil))))) (dpA_mono (off_sub.trans g7) hdB)
        have hfit : ∀ d ∈ ([.tuple ((.str wd :: ds) ++ [.int 0]), .tuple (((PyData.str wd :: ds).drop (HT.sIx (V.str wd :: xs).length 0 none)).take (HT.sIx (V.str wd :: xs).length (V.str wd :: xs).length (some (-1)) - HT.sIx (V.str wd :: xs).length 0 none)),
              .tuple ((.str wd :: ds) ++ ((PyData.str wd :: ds).drop (HT.sIx (V.str wd :: xs).length 0 (some 1))).take (HT.sIx (V.str wd :: xs).length (V.str wd :: xs).length none - HT.sIx (V.str wd :: xs).length 0 (some 1))),
              .list (.str wd :: ds), .tuple (((PyData.str wd :: ds).drop (HT.sIx (V.str wd :: xs).length 0 (some 1))).take (HT.sIx (V.str wd :: xs).length (V.str wd :: xs).length none - HT.sIx (V.str wd :: xs).length 0 (some 1)))] : List PyData) ++ dsB, fit d := by
          intro d hd
          rcases List.mem_append.mp hd with h | h
          · simp only [List.mem_cons, List.not_mem_nil, or_false] at h
            rcases h with rfl | rfl | rfl | rfl | rfl
            · exact fit_tup (by rw [List.all_append, hna, List.all_cons, nice_int (by decide) (by decide)]; rfl) (by rw [List.length_append]; show (PyData.str wd :: ds).length + 1 ≤ 1000; omega)
            · exact fit_cut hna (by omega) _ _
            · refine fit_tup ?_ ?_
              · rw [List.all_append, hna, Bool.true_and, List.all_eq_true]
                intro z hz
                exact (List.all_eq_true.mp hna) z (List.mem_of_mem_drop (List.mem_of_mem_take hz))
              · rw [List.length_append, List.length_take, List.length_drop]
                omega
            · exact fit_list hna (by omega)
            · exact fit_cut hna (by omega) _ _
          · exact (hBd d h).fit
        refine ⟨TT, rfl, ⟨_, sqL_new⟩, ?_⟩
        refine for_list (K := K) (a := TT) (xs := [V.ref p1, V.ref p2, V.ref p4, V.ref p5, V.ref p6] ++ xsB) (fun j σ' H' => ∃ z5 z6, σ' = [some (.ref a), some (.ref x), some (.str wd), some (.int n), some (.ref r), z5, z6] ∧ Same (upd H15 TT (.lst ([V.ref p1, V.ref p2, V.ref p4, V.ref p5, V.ref p6] ++ xsB))) H')
          ⟨y5, y6, rfl, Same.refl _⟩ (fun j σ' H' _ ⟨_, _, _, h⟩ => h.seq sqL_new) ?_ ?_
        · rintro j v σ' H16 hj ⟨z5, z6, rfl, s16⟩
          obtain ⟨d, hd, hf⟩ := dpA_mem hall hfit hj
          have hd16 := dp_mono s16 hd
          have hag := rows_agree n d hf.1
          refine ⟨_, rfl, _, rfl, v, d, n, rfl, hd16, hf.2.1, fun H17 s17 => ?_⟩
          refine ⟨_, rfl, _, _, _, _, _, rfl, .ty _, tyx_of (.bl _), kit_bool (d := .bool (pRow d n)) rfl, _, rfl, iteF ?_⟩
          refine ⟨_, rfl, _, rfl, _, rfl, v, d, n, rfl, dp_mono s17 hd16, hf.2.1, hf.2.2, fun H18 s18 => ⟨rfl, _, rfl, ?_⟩⟩
          rw [← hag]
          have eq : (!decide (V.bl (pRow d n) = V.bl (pRow d n))) = false := by rw [decide_eq_true rfl]; rfl
          rw [eq]
          exact iteF ⟨some v, some (.bl (pRow d n)), rfl, s16.trans (s17.trans s18)⟩
        · rintro σ' H16 ⟨z5, z6, rfl, s16⟩
          exact ⟨_, _, _, _, _, rfl, hh6.same (s78.trans (e0.trans s16)), (s78.trans (e0.trans s16)) _ _ hW6⟩
    · rintro σ H3 ⟨y2, y3, y4, y5, y6, rfl, hh3, hW3⟩
      exact k _
end
end Kin
namespace Kin
open PySem PySem.Spec PyProof.Rows L2
def topE (i : Nat) : Stmt := PySem.Challenge.pw_kinsignals_k01_rows_of_every_word.main.body.getD i (.Pass ⟨0, 0, 0, 0⟩)
def mkD (x : Str) (i : Nat) : He.DefD := ⟨(x, none), x, x, defArgs (topE i), defBody (topE i), defScope (topE i), [], []⟩
def fn : List He.DefD := ([mkD "is_whole" 1, mkD "is_natural" 2, mkD "is_small" 3, mkD "is_one_of" 4, mkD "is_signal" 8, mkD "is_loose" 9, mkD "are_loose" 10, mkD "is_title" 14, mkD "is_row_number" 15, mkD "is_handler" 16, mkD "is_child_part" 17, mkD "is_part" 18, mkD "is_row" 19, mkD "_law_hand" 21, mkD "_law_pick" 22, mkD "_law_of" 23, mkD "_law_signals" 24, mkD "_law_parts" 25, mkD "_law_words" 26, mkD "_law_whole" 27, mkD "_law_word" 28, mkD "_law_are_signals" 29, mkD "_law_is_title" 30, mkD "_law_is_part" 31, mkD "_law_is_row" 32, mkD "_law_bounds" 33, mkD "law" 34] : List He.DefD)
def fa : List He.Fa := ([.free "isinstance", .free "int", .free "bool", .free "str", .free "tuple", .free "list", .free "len", .free "all", .free "zip", .free "enumerate", .free "range", .glo "SIGNALS", .glo "SURE", .glo "FORMS", .int "LONGEST_TITLE" 8, .glo "is_whole", .glo "is_natural", .glo "is_small", .glo "is_one_of", .glo "is_signal", .glo "is_loose", .glo "are_loose", .glo "is_title", .glo "is_row_number", .glo "is_handler", .glo "is_child_part", .glo "is_part", .glo "is_row", .glo "_law_hand", .glo "_law_pick"] : List He.Fa) ++ ([.glo "_law_of", .glo "_law_signals", .glo "_law_parts", .glo "_law_words", .glo "_law_whole", .glo "_law_word", .glo "_law_are_signals", .glo "_law_is_title", .glo "_law_is_part", .glo "_law_is_row", .glo "_law_bounds", .glo "law"] : List He.Fa)
def formsB (K : PySem.W.Frag) : Bool := forms.all fun q => match PySem.W.nsIn K (He.ga K "FORMS") q.1 with
  | some (some (.ref a)) => (match K.lookup a with
    | some ⟨.type c, _, .seq its _, _⟩ => decide (c = "tuple") && (decide (its.size ≤ sizeLine) && He.relAll (q.2.map V.str) its.toList)
    | _ => false)
  | _ => false
def plainB (K : PySem.W.Frag) : Bool := match K.lookup (He.ga K "SIGNALS") with
  | some ⟨.type c, none, _, _⟩ => decide (c = "tuple")
  | _ => false
def ex (K : PySem.W.Frag) : Bool := He.tupB K "SIGNALS" (sig9.map He.Dv.str) && (He.tupB K "SURE" (sure.map He.Dv.str) && (formsB K && plainB K))
def ts : List He.Tab := [(fun K => He.ga K "FORMS", forms.map (·.1))]
abbrev R : PySem.W.OpenRow := PySem.W.OpenLaw.row PySem.Challenge.rw_kinsignals_k01_rows_of_every_word
abbrev hk : PySem.W.Hook := He.hookX 4 fa fn ts [] ex
def ob (s : PySem.W.SharedT) : He.AlX := He.obsX 4 fa fn ts [] ex (HandSHeadRun.getT s)
theorem ob_eq (s : PySem.W.SharedT) : ob s = hk.obs s.abs := He.obsX_eq (HandSHeadRun.getT_eq s)
def loose : List Str := (["is_whole", "is_natural", "is_small", "is_one_of", "SIGNALS", "SURE", "is_signal", "is_loose", "are_loose", "LONGEST_TITLE", "FORMS", "is_title", "is_row_number", "is_handler", "is_child_part", "is_part", "is_row", "_law_hand", "_law_pick", "_law_of", "_law_signals", "_law_parts", "_law_words", "_law_whole", "_law_word", "_law_are_signals", "_law_is_title", "_law_is_part", "_law_is_row", "_law_bounds"] : List Str)
theorem run (w : World) : HandSHeadRun.RunEq R (PySem.W.view R.prog [34]) hk ob 6000 loose w :=
  PySem.W.byRow2 "special-get-raises" (P := fun w => HandSHeadRun.RunEq R (PySem.W.view R.prog [34]) hk ob 6000 loose w) (fun w os => by kernel_rfl) (fun w os => by kernel_rfl) w
end Kin
namespace Kin
open PySem PySem.Spec PyProof.Rows L2

theorem nsIn_free {K : PySem.W.Frag} {P : Params} {a : Addr} {ks : List Str} (h : He.dicW K a = some (He.keysIn P ks)) {z : Str} (hz : ¬ z ∈ ks) : PySem.W.nsIn K a z = some none := by
  unfold He.dicW at h
  cases q : K.lookup a with
  | none =>
    rw [q] at h
    cases h
  | some o =>
    obtain ⟨oc, od, dt, osl⟩ := o
    rw [q] at h
    cases oc with
    | type c =>
      cases od with
      | none =>
        cases dt with
        | dict es n =>
          have h1 : (match decide (c = "dict") && (osl.isEmpty && !(a == sysModules)) with
            | true => some (es.toList.map He.keyOf)
            | false => none) = some (He.keysIn P ks) := h
          cases zz : decide (c = "dict") && (osl.isEmpty && !(a == sysModules)) with
          | false =>
            rw [zz] at h1
            cases h1
          | true =>
            rw [zz] at h1
            have h2 : es.toList.map He.keyOf = He.keysIn P ks := Option.some.inj h1
            have hk : ∀ e ∈ es.toList, ∃ x t, e.key = .str x t ∧ x ∈ ks := by
              intro e he
              have hm : He.keyOf e ∈ He.keysIn P ks := by
                rw [← h2]
                exact List.mem_map.mpr ⟨e, he, rfl⟩
              obtain ⟨y, hy, ey⟩ := List.mem_map.mp hm
              unfold He.keyOf at ey
              split at ey
              · rename_i x t qk
                have e1 := Option.some.inj ey
                have e2 : y = x := (Prod.mk.inj e1).1
                exact ⟨x, t, qk, e2 ▸ hy⟩
              · cases ey
            unfold PySem.W.nsIn
            rw [q]
            have hf : es.toList.find? (fun e => e.key.isStr z) = none := by
              rw [List.find?_eq_none]
              intro e he hs
              obtain ⟨x, t, ek, hx⟩ := hk e he
              rw [ek] at hs
              have : x = z := eq_of_beq hs
              exact hz (this ▸ hx)
            have hr : es.toList.any (fun e => e.refKey) = false := by
              rw [List.any_eq_false]
              intro e he
              obtain ⟨x, t, ek, hx⟩ := hk e he
              unfold DictEntry.refKey
              rw [ek]
              simp
            show (match es.toList.find? (fun e => e.key.isStr z) with
              | some e => some (some e.val)
              | none => if es.toList.any (fun e => e.refKey) then none else some none) = _
            rw [hf, hr]
            rfl
        | _ => cases h
      | some b => cases dt <;> cases h
    | _ => cases od <;> cases dt <;> cases h
theorem forms_yes {K : PySem.W.Frag} (h : formsB K = true) {z : Str} {ks : List Str} (hz : forms.lookup z = some ks) : ∃ a, PySem.W.nsIn K (He.ga K "FORMS") z = some (some (.ref a)) ∧ ∀ H, SqT K H a (ks.map V.str) := by
  have h1 := (List.all_eq_true.mp h) (z, ks) (mem_of_lookup hz)
  dsimp only at h1
  split at h1
  · rename_i a ha
    split at h1
    · rename_i c od its m osl hl
      obtain ⟨h2, h3⟩ := He.ba h1
      obtain ⟨h4, h5⟩ := He.ba h3
      exact ⟨a, ha, fun H => .inr ⟨_, its, m, hl, congrArg Value.type (of_decide_eq_true h2), rfl, of_decide_eq_true h4, He.relAll_ok h5⟩⟩
    · cases h1
  · cases h1
theorem plain_ok {K : PySem.W.Frag} (h : plainB K = true) : ∃ o, K.lookup (He.ga K "SIGNALS") = some o ∧ o.cls = .type "tuple" ∧ o.dict = none := by
  unfold plainB at h
  split at h
  · rename_i c dt osl hl
    exact ⟨_, hl, congrArg Value.type (of_decide_eq_true h), rfl⟩
  · cases h
theorem facts {l : PySem.W.OpenLaw} {w : World} {K : PySem.W.Frag} {h : Heap} {mg : Str → Option Value} {fl : Addr} (X : K.In h) (G : h.Ns mainGlobals mg) (hfl : mg "law" = some (.ref fl)) (c : He.SaysX fa fn ts [] ex w h K) :
    ∃ fd : FuncData, (∀ (s : Shared) (v : Value), BindsTo s fd ⟨[v], []⟩ [("_law_script", v)]) ∧ ∀ base : Heap, K.In base → base.Ns mainGlobals mg → FnOk l.prog w K mg base CX0 8 fl fd ["_law_script"] (spLaw K) := by
  obtain ⟨es, nF, kd⟩ := c.t.tab 0 (t := (fun K => He.ga K "FORMS", forms.map (·.1))) rfl
  obtain ⟨tL, gL⟩ := He.int_ok X G (c.t.d.fact 14 (f := .int "LONGEST_TITLE" 8) rfl)
  have hdw : He.dicW K (He.ga K "FORMS") = some (He.keysIn w.params (forms.map (·.1))) := by
    have e : ts.map (fun t => He.dicW K (t.1 K)) = ts.map fun t => some (He.keysIn w.params t.2) := congrArg (fun z : He.AlT => z.2) c.t
    exact (List.cons.inj e).1
  obtain ⟨hx1, hx2⟩ := He.ba c.more
  obtain ⟨hx3, hx4⟩ := He.ba hx2
  obtain ⟨hx5, hx6⟩ := He.ba hx4
  have T : Bi K w mg tL es nF := {
    n_isinstance := He.free_ok X G (c.t.d.fact 0 (f := .free "isinstance") rfl)
    n_int := He.free_ok X G (c.t.d.fact 1 (f := .free "int") rfl)
    n_bool := He.free_ok X G (c.t.d.fact 2 (f := .free "bool") rfl)
    n_str := He.free_ok X G (c.t.d.fact 3 (f := .free "str") rfl)
    n_tuple := He.free_ok X G (c.t.d.fact 4 (f := .free "tuple") rfl)
    n_list := He.free_ok X G (c.t.d.fact 5 (f := .free "list") rfl)
    n_len := He.free_ok X G (c.t.d.fact 6 (f := .free "len") rfl)
    n_all := He.free_ok X G (c.t.d.fact 7 (f := .free "all") rfl)
    n_zip := He.free_ok X G (c.t.d.fact 8 (f := .free "zip") rfl)
    n_enumerate := He.free_ok X G (c.t.d.fact 9 (f := .free "enumerate") rfl)
    n_range := He.free_ok X G (c.t.d.fact 10 (f := .free "range") rfl)
    g_SIGNALS := He.glo_ok X G (c.t.d.fact 11 (f := .glo "SIGNALS") rfl)
    g_SURE := He.glo_ok X G (c.t.d.fact 12 (f := .glo "SURE") rfl)
    g_FORMS := He.glo_ok X G (c.t.d.fact 13 (f := .glo "FORMS") rfl)
    g_LONGEST_TITLE := gL
    sig := fun H => He.tupB_ok hx1 H
    sigK := plain_ok hx6
    sur := fun H => He.tupB_ok hx3 H
    kd := kd
    fno := fun z hz => nsIn_free hdw (fun q => by
      obtain ⟨⟨z', ks⟩, hm, e⟩ := List.mem_map.mp q
      have e : z' = z := e
      subst e
      have hs : ∀ q ∈ forms, (forms.lookup q.1).isSome = true := by decide +kernel
      have := hs _ hm
      rw [hz] at this
      cases this)
    fyes := fun z ks hz => forms_yes hx5 hz }
  have hlaw := hfl.symm.trans (He.glo_ok X G (c.t.d.fact 41 (f := .glo "law") rfl))
  cases hlaw
  obtain ⟨fd_law, F_law⟩ := c.t.d.def_ 26 (d := mkD "law" 34) rfl
  refine ⟨fd_law, fun s v => FunD.bindsA (ps := ["_law_script"]) F_law (fun _ _ _ _ _ _ us hl => match us, hl with | [_], _ => rfl) s [v] rfl, fun base _ _ => ?_⟩
  obtain ⟨fd_is_whole, F_is_whole⟩ := c.t.d.def_ 0 (d := mkD "is_whole" 1) rfl
  have m_is_whole := He.glo_ok X G (c.t.d.fact 15 (f := .glo "is_whole") rfl)
  have c_is_whole : Cal l.prog w K mg base "is_whole" ["thing"] 1 (spD K pWhole) := ⟨_, _, ok_is_whole F_is_whole T, m_is_whole, F_is_whole.kp, FunD.bindsN (ps := ["thing"]) F_is_whole (fun _ _ _ _ _ _ us hl => match us, hl with | [_], _ => rfl)⟩
  obtain ⟨fd_is_one_of, F_is_one_of⟩ := c.t.d.def_ 3 (d := mkD "is_one_of" 4) rfl
  have m_is_one_of := He.glo_ok X G (c.t.d.fact 18 (f := .glo "is_one_of") rfl)
  have c_is_one_of : Cal l.prog w K mg base "is_one_of" ["thing", "words"] 1 (spOne K) := ⟨_, _, ok_is_one_of F_is_one_of T, m_is_one_of, F_is_one_of.kp, FunD.bindsN (ps := ["thing", "words"]) F_is_one_of (fun _ _ _ _ _ _ us hl => match us, hl with | [_, _], _ => rfl)⟩
  obtain ⟨fd_is_title, F_is_title⟩ := c.t.d.def_ 7 (d := mkD "is_title" 14) rfl
  have m_is_title := He.glo_ok X G (c.t.d.fact 22 (f := .glo "is_title") rfl)
  have c_is_title : Cal l.prog w K mg base "is_title" ["thing"] 1 (spDL K pTitle) := ⟨_, _, ok_is_title F_is_title T, m_is_title, F_is_title.kp, FunD.bindsN (ps := ["thing"]) F_is_title (fun _ _ _ _ _ _ us hl => match us, hl with | [_], _ => rfl)⟩
  obtain ⟨fd__law_hand, F__law_hand⟩ := c.t.d.def_ 13 (d := mkD "_law_hand" 21) rfl
  have m__law_hand := He.glo_ok X G (c.t.d.fact 28 (f := .glo "_law_hand") rfl)
  have c__law_hand : Cal l.prog w K mg base "_law_hand" ["_law_script"] 1 (spHand K) := ⟨_, _, ok__law_hand F__law_hand T, m__law_hand, F__law_hand.kp, FunD.bindsN (ps := ["_law_script"]) F__law_hand (fun _ _ _ _ _ _ us hl => match us, hl with | [_], _ => rfl)⟩
  obtain ⟨fd__law_pick, F__law_pick⟩ := c.t.d.def_ 14 (d := mkD "_law_pick" 22) rfl
  have m__law_pick := He.glo_ok X G (c.t.d.fact 29 (f := .glo "_law_pick") rfl)
  have c__law_pick : Cal l.prog w K mg base "_law_pick" ["_law_hand_here", "_law_many"] 1 spPick := ⟨_, _, ok__law_pick F__law_pick T, m__law_pick, F__law_pick.kp, FunD.bindsN (ps := ["_law_hand_here", "_law_many"]) F__law_pick (fun _ _ _ _ _ _ us hl => match us, hl with | [_, _], _ => rfl)⟩
  obtain ⟨fd__law_words, F__law_words⟩ := c.t.d.def_ 18 (d := mkD "_law_words" 26) rfl
  have m__law_words := He.glo_ok X G (c.t.d.fact 33 (f := .glo "_law_words") rfl)
  have c__law_words : Cal l.prog w K mg base "_law_words" [] 1 spWords := ⟨_, _, ok__law_words F__law_words T, m__law_words, F__law_words.kp, FunD.bindsN (ps := []) F__law_words (fun _ _ _ _ _ _ us hl => match us, hl with | [], _ => rfl)⟩
  obtain ⟨fd__law_whole, F__law_whole⟩ := c.t.d.def_ 19 (d := mkD "_law_whole" 27) rfl
  have m__law_whole := He.glo_ok X G (c.t.d.fact 34 (f := .glo "_law_whole") rfl)
  have c__law_whole : Cal l.prog w K mg base "_law_whole" ["_law_thing", "_law_low", "_law_high"] 1 (spW K) := ⟨_, _, ok__law_whole F__law_whole T, m__law_whole, F__law_whole.kp, FunD.bindsN (ps := ["_law_thing", "_law_low", "_law_high"]) F__law_whole (fun _ _ _ _ _ _ us hl => match us, hl with | [_, _, _], _ => rfl)⟩
  obtain ⟨fd__law_word, F__law_word⟩ := c.t.d.def_ 20 (d := mkD "_law_word" 28) rfl
  have m__law_word := He.glo_ok X G (c.t.d.fact 35 (f := .glo "_law_word") rfl)
  have c__law_word : Cal l.prog w K mg base "_law_word" ["_law_thing", "_law_words_here"] 1 (spOne K) := ⟨_, _, ok__law_word F__law_word T, m__law_word, F__law_word.kp, FunD.bindsN (ps := ["_law_thing", "_law_words_here"]) F__law_word (fun _ _ _ _ _ _ us hl => match us, hl with | [_, _], _ => rfl)⟩
  obtain ⟨fd__law_is_title, F__law_is_title⟩ := c.t.d.def_ 22 (d := mkD "_law_is_title" 30) rfl
  have m__law_is_title := He.glo_ok X G (c.t.d.fact 37 (f := .glo "_law_is_title") rfl)
  have c__law_is_title : Cal l.prog w K mg base "_law_is_title" ["_law_thing"] 1 (spDL K lTitle) := ⟨_, _, ok__law_is_title F__law_is_title T, m__law_is_title, F__law_is_title.kp, FunD.bindsN (ps := ["_law_thing"]) F__law_is_title (fun _ _ _ _ _ _ us hl => match us, hl with | [_], _ => rfl)⟩
  obtain ⟨fd__law_bounds, F__law_bounds⟩ := c.t.d.def_ 25 (d := mkD "_law_bounds" 33) rfl
  have m__law_bounds := He.glo_ok X G (c.t.d.fact 40 (f := .glo "_law_bounds") rfl)
  have c__law_bounds : Cal l.prog w K mg base "_law_bounds" ["_law_word_here", "_law_size"] 1 (spBounds K) := ⟨_, _, ok__law_bounds F__law_bounds T, m__law_bounds, F__law_bounds.kp, FunD.bindsN (ps := ["_law_word_here", "_law_size"]) F__law_bounds (fun _ _ _ _ _ _ us hl => match us, hl with | [_, _], _ => rfl)⟩
  obtain ⟨fd_is_natural, F_is_natural⟩ := c.t.d.def_ 1 (d := mkD "is_natural" 2) rfl
  have m_is_natural := He.glo_ok X G (c.t.d.fact 16 (f := .glo "is_natural") rfl)
  have c_is_natural : Cal l.prog w K mg base "is_natural" ["thing"] 2 (spD K pNat) := ⟨_, _, ok_is_natural F_is_natural T c_is_whole, m_is_natural, F_is_natural.kp, FunD.bindsN (ps := ["thing"]) F_is_natural (fun _ _ _ _ _ _ us hl => match us, hl with | [_], _ => rfl)⟩
  obtain ⟨fd_is_small, F_is_small⟩ := c.t.d.def_ 2 (d := mkD "is_small" 3) rfl
  have m_is_small := He.glo_ok X G (c.t.d.fact 17 (f := .glo "is_small") rfl)
  have c_is_small : Cal l.prog w K mg base "is_small" ["thing"] 2 (spD K pSmall) := ⟨_, _, ok_is_small F_is_small T c_is_whole, m_is_small, F_is_small.kp, FunD.bindsN (ps := ["thing"]) F_is_small (fun _ _ _ _ _ _ us hl => match us, hl with | [_], _ => rfl)⟩
  obtain ⟨fd_is_signal, F_is_signal⟩ := c.t.d.def_ 4 (d := mkD "is_signal" 8) rfl
  have m_is_signal := He.glo_ok X G (c.t.d.fact 19 (f := .glo "is_signal") rfl)
  have c_is_signal : Cal l.prog w K mg base "is_signal" ["thing"] 2 (spD K fun d => pOne d sig9) := ⟨_, _, ok_is_signal F_is_signal T c_is_one_of, m_is_signal, F_is_signal.kp, FunD.bindsN (ps := ["thing"]) F_is_signal (fun _ _ _ _ _ _ us hl => match us, hl with | [_], _ => rfl)⟩
  obtain ⟨fd__law_of, F__law_of⟩ := c.t.d.def_ 15 (d := mkD "_law_of" 23) rfl
  have m__law_of := He.glo_ok X G (c.t.d.fact 30 (f := .glo "_law_of") rfl)
  have c__law_of : Cal l.prog w K mg base "_law_of" ["_law_hand_here", "_law_some"] 2 (spOf K) := ⟨_, _, ok__law_of F__law_of T c__law_pick, m__law_of, F__law_of.kp, FunD.bindsN (ps := ["_law_hand_here", "_law_some"]) F__law_of (fun _ _ _ _ _ _ us hl => match us, hl with | [_, _], _ => rfl)⟩
  obtain ⟨fd__law_signals, F__law_signals⟩ := c.t.d.def_ 16 (d := mkD "_law_signals" 24) rfl
  have m__law_signals := He.glo_ok X G (c.t.d.fact 31 (f := .glo "_law_signals") rfl)
  have c__law_signals : Cal l.prog w K mg base "_law_signals" ["_law_hand_here"] 2 spSignals := ⟨_, _, ok__law_signals F__law_signals T c__law_pick, m__law_signals, F__law_signals.kp, FunD.bindsN (ps := ["_law_hand_here"]) F__law_signals (fun _ _ _ _ _ _ us hl => match us, hl with | [_], _ => rfl)⟩
  obtain ⟨fd__law_are_signals, F__law_are_signals⟩ := c.t.d.def_ 21 (d := mkD "_law_are_signals" 29) rfl
  have m__law_are_signals := He.glo_ok X G (c.t.d.fact 36 (f := .glo "_law_are_signals") rfl)
  have c__law_are_signals : Cal l.prog w K mg base "_law_are_signals" ["_law_thing"] 2 (spDL K lAre) := ⟨_, _, ok__law_are_signals F__law_are_signals T c__law_word, m__law_are_signals, F__law_are_signals.kp, FunD.bindsN (ps := ["_law_thing"]) F__law_are_signals (fun _ _ _ _ _ _ us hl => match us, hl with | [_], _ => rfl)⟩
  obtain ⟨fd_is_loose, F_is_loose⟩ := c.t.d.def_ 5 (d := mkD "is_loose" 9) rfl
  have m_is_loose := He.glo_ok X G (c.t.d.fact 20 (f := .glo "is_loose") rfl)
  have c_is_loose : Cal l.prog w K mg base "is_loose" ["thing"] 3 (spD K pLoose) := ⟨_, _, ok_is_loose F_is_loose T c_is_signal, m_is_loose, F_is_loose.kp, FunD.bindsN (ps := ["thing"]) F_is_loose (fun _ _ _ _ _ _ us hl => match us, hl with | [_], _ => rfl)⟩
  obtain ⟨fd_is_row_number, F_is_row_number⟩ := c.t.d.def_ 8 (d := mkD "is_row_number" 15) rfl
  have m_is_row_number := He.glo_ok X G (c.t.d.fact 23 (f := .glo "is_row_number") rfl)
  have c_is_row_number : Cal l.prog w K mg base "is_row_number" ["thing", "size"] 3 (spDI K pRowNo) := ⟨_, _, ok_is_row_number F_is_row_number T c_is_natural, m_is_row_number, F_is_row_number.kp, FunD.bindsN (ps := ["thing", "size"]) F_is_row_number (fun _ _ _ _ _ _ us hl => match us, hl with | [_, _], _ => rfl)⟩
  obtain ⟨fd_is_child_part, F_is_child_part⟩ := c.t.d.def_ 10 (d := mkD "is_child_part" 17) rfl
  have m_is_child_part := He.glo_ok X G (c.t.d.fact 25 (f := .glo "is_child_part") rfl)
  have c_is_child_part : Cal l.prog w K mg base "is_child_part" ["kind", "part"] 3 (spChild K) := ⟨_, _, ok_is_child_part F_is_child_part T c_is_natural c_is_one_of, m_is_child_part, F_is_child_part.kp, FunD.bindsN (ps := ["kind", "part"]) F_is_child_part (fun _ _ _ _ _ _ us hl => match us, hl with | [_, _], _ => rfl)⟩
  obtain ⟨fd__law_parts, F__law_parts⟩ := c.t.d.def_ 17 (d := mkD "_law_parts" 25) rfl
  have m__law_parts := He.glo_ok X G (c.t.d.fact 32 (f := .glo "_law_parts") rfl)
  have c__law_parts : Cal l.prog w K mg base "_law_parts" ["_law_hand_here", "_law_word_here", "_law_size"] 3 (spParts K) := ⟨_, _, ok__law_parts F__law_parts T c__law_pick c__law_of c__law_signals, m__law_parts, F__law_parts.kp, FunD.bindsN (ps := ["_law_hand_here", "_law_word_here", "_law_size"]) F__law_parts (fun _ _ _ _ _ _ us hl => match us, hl with | [_, _, _], _ => rfl)⟩
  obtain ⟨fd__law_is_part, F__law_is_part⟩ := c.t.d.def_ 23 (d := mkD "_law_is_part" 31) rfl
  have m__law_is_part := He.glo_ok X G (c.t.d.fact 38 (f := .glo "_law_is_part") rfl)
  have c__law_is_part : Cal l.prog w K mg base "_law_is_part" ["_law_word_here", "_law_at", "_law_part", "_law_size"] 3 (spLPart K) := ⟨_, _, ok__law_is_part F__law_is_part T c__law_is_title c__law_whole c__law_word c__law_are_signals, m__law_is_part, F__law_is_part.kp, FunD.bindsN (ps := ["_law_word_here", "_law_at", "_law_part", "_law_size"]) F__law_is_part (fun _ _ _ _ _ _ us hl => match us, hl with | [_, _, _, _], _ => rfl)⟩
  obtain ⟨fd_are_loose, F_are_loose⟩ := c.t.d.def_ 6 (d := mkD "are_loose" 10) rfl
  have m_are_loose := He.glo_ok X G (c.t.d.fact 21 (f := .glo "are_loose") rfl)
  have c_are_loose : Cal l.prog w K mg base "are_loose" ["thing"] 4 (spD K pAre) := ⟨_, _, ok_are_loose F_are_loose T c_is_loose, m_are_loose, F_are_loose.kp, FunD.bindsN (ps := ["thing"]) F_are_loose (fun _ _ _ _ _ _ us hl => match us, hl with | [_], _ => rfl)⟩
  obtain ⟨fd__law_is_row, F__law_is_row⟩ := c.t.d.def_ 24 (d := mkD "_law_is_row" 32) rfl
  have m__law_is_row := He.glo_ok X G (c.t.d.fact 39 (f := .glo "_law_is_row") rfl)
  have c__law_is_row : Cal l.prog w K mg base "_law_is_row" ["_law_thing", "_law_size"] 4 (spLRow K) := ⟨_, _, ok__law_is_row F__law_is_row T c__law_is_part, m__law_is_row, F__law_is_row.kp, FunD.bindsN (ps := ["_law_thing", "_law_size"]) F__law_is_row (fun _ _ _ _ _ _ us hl => match us, hl with | [_, _], _ => rfl)⟩
  obtain ⟨fd_is_handler, F_is_handler⟩ := c.t.d.def_ 9 (d := mkD "is_handler" 16) rfl
  have m_is_handler := He.glo_ok X G (c.t.d.fact 24 (f := .glo "is_handler") rfl)
  have c_is_handler : Cal l.prog w K mg base "is_handler" ["thing", "size"] 5 (spDI K pHandler) := ⟨_, _, ok_is_handler F_is_handler T c_is_row_number c_are_loose, m_is_handler, F_is_handler.kp, FunD.bindsN (ps := ["thing", "size"]) F_is_handler (fun _ _ _ _ _ _ us hl => match us, hl with | [_, _], _ => rfl)⟩
  obtain ⟨fd_is_part, F_is_part⟩ := c.t.d.def_ 11 (d := mkD "is_part" 18) rfl
  have m_is_part := He.glo_ok X G (c.t.d.fact 26 (f := .glo "is_part") rfl)
  have c_is_part : Cal l.prog w K mg base "is_part" ["kind", "part", "size"] 6 (spPart K) := ⟨_, _, ok_is_part F_is_part T c_is_title c_is_small c_is_whole c_is_row_number c_is_signal c_is_loose c_are_loose c_is_one_of c_is_handler c_is_child_part, m_is_part, F_is_part.kp, FunD.bindsN (ps := ["kind", "part", "size"]) F_is_part (fun _ _ _ _ _ _ us hl => match us, hl with | [_, _, _], _ => rfl)⟩
  obtain ⟨fd_is_row, F_is_row⟩ := c.t.d.def_ 12 (d := mkD "is_row" 19) rfl
  have m_is_row := He.glo_ok X G (c.t.d.fact 27 (f := .glo "is_row") rfl)
  have c_is_row : Cal l.prog w K mg base "is_row" ["thing", "size"] 7 (spRow K pRow) := ⟨_, _, ok_is_row F_is_row T c_is_part, m_is_row, F_is_row.kp, FunD.bindsN (ps := ["thing", "size"]) F_is_row (fun _ _ _ _ _ _ us hl => match us, hl with | [_, _], _ => rfl)⟩
  exact ok_law F_law T c__law_hand c__law_words c__law_of c__law_pick c__law_parts c_is_row c__law_is_row c__law_bounds
end Kin
open PySem PySem.W PySem.Calls PyProof.Rows
set_option maxRecDepth 100000 in
set_option maxHeartbeats 0 in
theorem PySem.Challenge.cw_kinsignals_k01_rows_of_every_word_holds : PySem.Challenge.rw_kinsignals_k01_rows_of_every_word.Holds := by
  w_on; o_law
  refine HandSHeadRun.head_any (r := OpenLaw.row PySem.Challenge.rw_kinsignals_k01_rows_of_every_word) (q := view (OpenLaw.row PySem.Challenge.rw_kinsignals_k01_rows_of_every_word).prog [34]) (H := Kin.hk) (ob := Kin.ob) (M := 6000) (loose := Kin.loose) (d := HandSHeadRun.topDef (OpenLaw.row PySem.Challenge.rw_kinsignals_k01_rows_of_every_word).prog 34) (kwd := []) Kin.ob_eq
    (by kernel_rfl) (fun s => by kernel_rfl) Kin.run (by kernel_rfl) (by kernel_rfl) (by kernel_rfl) (by rfl) (by first | assumption | decide +kernel) (by decide +kernel) ⟨rfl, rfl, rfl, rfl, rfl, by decide +kernel⟩ ?hw ?hc
  case hw => w_witness2
  case hc =>
    refine L2.walk_ofE (l := PySem.Challenge.rw_kinsignals_k01_rows_of_every_word) (n := 63) (k := 8) (x := "_law_script") (CX := L2.CX0) rfl (by decide) (by kernel_rfl) ⟨rfl, by decide, by decide⟩ ?F (fun _ _ _ _ z => z)
    intro w mg fl h Y G hmg0
    obtain ⟨K, KX, c⟩ := Y
    have hmg : mg ("law" : PySem.Str) = some (.ref fl) := by
      have e : (HandSHeadRun.topDef (OpenLaw.row PySem.Challenge.rw_kinsignals_k01_rows_of_every_word).prog 34).name = ("law" : PySem.Str) := by kernel_rfl
      rw [← e]
      exact hmg0
    obtain ⟨fd, hb, hF⟩ := Kin.facts (l := PySem.Challenge.rw_kinsignals_k01_rows_of_every_word) (w := w) KX G hmg c
    exact ⟨K, fd, Kin.spLaw K, KX, hb, fun H a ns hl _ hS => ⟨a, ns, rfl, hS, hl, fun _ => rfl⟩, hF⟩
