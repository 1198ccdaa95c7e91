import PyProof.Rows.All
import Wide.All
import OpenK.AllK
import Wide.FinOn
import HandS.HeadHook4
import HandS.Head2
import KE.KStateDown
import HandS.Head0
import HandS.Head1
import HandS.HeadEnd
import HandS.ForMost
import KE.GoesMore
import HandS.IsInst
import HandS.TupAny
import HandS.Zip
import HandS.Strs
import HandS.Style
import HandS.Walk
import HandS.Defaults
import HandS.SlotsOwn
import HandS.DictTup
import PyProof.Rows.TupDisplay
import KE.KDictDisplayH
import HandS.Sort
import HandS.TupSets
import KE.GoesEnum
import PyProof.DictUpdate
import PyProof.EnumMake
import PyProof.Rows.SortShellAny
import PyProof.Rows.SortStr
import PyProof.ReprRoads
import PyProof.ReprLen
import PyProof.ReprText
import HandS.MakeKwOnly
import HandS.DictComp
import HandS.Conv
import HandS.TupLen
import HandS.Evl
import PySem.Challenge.RW_kinsignals_k09_how_a_house_begins
set_option Elab.async false
set_option linter.all false
set_option maxRecDepth 100000
set_option maxHeartbeats 4000000
/-! A hook whose part of the heap holds the interpreter's own statics too: reading a name of an own class looks there. -/
namespace Kin
open PySem PySem.Spec PyProof.Rows L2
def partS (g : Addr → Option Obj) (n : Nat) : PySem.W.Frag := He.frT g (He.asD g n ++ [cStatics])
def obsS (n : Nat) (fa : List He.Fa) (fn : List He.DefD) (ts : List He.Tab) (ex : PySem.W.Frag → Bool) (g : Addr → Option Obj) : He.AlX := (He.obsT fa fn ts (partS g n), ex (partS g n))
theorem saysS {n : Nat} {fa : List He.Fa} {fn : List He.DefD} {ts : List He.Tab} {ex : PySem.W.Frag → Bool} {w : World} {h : Heap} (e : obsS n fa fn ts ex h.get? = He.valX fn ts w) : He.SaysX fa fn ts [] ex w h (partS h.get? n) where
  t := congrArg (fun z : He.AlX => z.1) e
  more := congrArg (fun z : He.AlX => z.2) e
  hd := fun _ q => nomatch q
  out := fun _ q => nomatch q
  empty := fun _ q => nomatch q
def hookS (n : Nat) (fa : List He.Fa) (fn : List He.DefD) (ts : List He.Tab) (ex : PySem.W.Frag → Bool) : PySem.W.Hook where
  α := He.AlX
  obs := fun s => obsS n fa fn ts ex s.heap.get?
  val := fun w => He.valX fn ts w
  says := fun w h => ∃ K : PySem.W.Frag, K.In h ∧ He.SaysX fa fn ts [] ex w h K
  of := fun _ _ e => ⟨_, He.frT_in, saysS e⟩
  keeps := fun _ _ _ ⟨K, hK, c⟩ k => ⟨K, PySem.W.Frag.In.keeps hK k, ⟨c.t, c.more, c.hd, c.out, fun _ q => nomatch q⟩⟩
theorem obsS_eq {n : Nat} {fa : List He.Fa} {fn : List He.DefD} {ts : List He.Tab} {ex : PySem.W.Frag → Bool} {g : Addr → Option Obj} {s : Shared} (h : ∀ a, g a = s.heap.get? a) : obsS n fa fn ts ex g = (hookS n fa fn ts ex).obs s := by
  rw [show g = s.heap.get? from funext h]
  rfl
end Kin
/-! What the program's looks tell, and what the law's own looks tell, as plain functions over data; that they tell the same. -/
namespace Kin
open PySem
def sig9 : List Str := ["kill", "halt", "on", "hang", "quit", "call", "kin", "rest", "reads"]
def sig7 : List Str := ["on", "hang", "quit", "call", "kin", "rest", "reads"]
def sure : List Str := ["kill", "halt"]
/-! ### the program's looks -/
def pWhole : PyData → Bool
  | .int _ => true
  | _ => false
def pNat : PyData → Bool
  | .int i => decide (0 ≤ i)
  | _ => false
def pSmall : PyData → Bool
  | .int i => decide (0 ≤ i) && decide (i ≤ 99)
  | _ => false
def pOne (d : PyData) (ws : List Str) : Bool := match d with
  | .str z => decide (z ∈ ws)
  | _ => false
def pLoose : PyData → Bool
  | .str z => decide (z ∈ sig9) && !decide (z ∈ sure)
  | _ => false
def pLoop : Nat → List PyData → Bool
  | _, [] => true
  | least, .str z :: r => if pLoose (.str z) then (if sig9.idxOf z < least then false else pLoop (sig9.idxOf z + 1) r) else false
  | _, _ :: _ => false
def pAre : PyData → Bool
  | .tuple ds => pLoop 0 ds
  | _ => false
def azAll (z : Str) : Bool := z.cps.toList.all fun c => decide (97 ≤ c) && decide (c ≤ 122)
def pTitle : PyData → Bool
  | .str z => decide (1 ≤ z.length) && decide (z.length ≤ 8) && azAll z
  | _ => false
def pRowNo (d : PyData) (n : Int) : Bool := match d with
  | .int i => decide (0 ≤ i) && decide (i < n)
  | _ => false
def pHandler (d : PyData) (n : Int) : Bool := match d with
  | .tuple [a, b] => pRowNo a n && pAre b
  | _ => false
def isNone : PyData → Bool
  | .none => true
  | _ => false
def isBool : PyData → Bool
  | .bool _ => true
  | _ => false
def pChild (kind : Str) (d : PyData) : Bool :=
  if pNat d = true then true else if kind = "which" then isNone d else if kind = "who" then pOne d ["self"] else pOne d ["self", "parent", "group"]
def pPart (kind : Str) (d : PyData) (n : Int) : Bool :=
  if kind = "title" then pTitle d else if kind = "small" then pSmall d else if kind = "whole" then pWhole d else if kind = "truth" then isBool d else
  if kind = "row" then pRowNo d n else if kind = "signal" then pOne d sig9 else if kind = "loose" then pLoose d else if kind = "signals" then pAre d else
  if kind = "how" then (pOne d ["plain", "ignore"] || pHandler d n) else if kind = "where" then pOne d ["new", "mine"] else pChild kind d
def forms : List (Str × List Str) := [("fork", []), ("exec", ["title"]), ("end", ["small"]), ("wait", ["which", "truth"]), ("pause", []), ("read", []), ("send", ["signal", "to"]), ("mask", ["signals"]), ("unmask", ["signals"]),
  ("handle", ["loose", "how"]), ("return", []), ("session", []), ("group", ["who", "where"]), ("front", ["who"]), ("taker", []), ("say", ["small"]), ("goto", ["row"]), ("if", ["whole", "row"])]
def pParts (n : Int) : List Str → List PyData → Bool
  | k :: ks, d :: ds => pPart k d n && pParts n ks ds
  | _, _ => true
def pRow (d : PyData) (n : Int) : Bool := match d with
  | .tuple (.str w :: ps) => (match forms.lookup w with
    | some ks => decide (ps.length = ks.length) && pParts n ks ps
    | none => false)
  | _ => false
/-! ### the law's looks -/
def lWhole (d : PyData) (lo hi : Int) : Bool := match d with
  | .int i => decide (lo ≤ i) && decide (i < hi)
  | _ => false
def lAll7 : List PyData → Bool
  | [] => true
  | d :: r => pOne d sig7 && lAll7 r
def ix7 : PyData → Nat
  | .str z => sig7.idxOf z
  | _ => 7
def lUp : List Nat → Bool
  | a :: b :: r => decide (a < b) && lUp (b :: r)
  | _ => true
def lAre : PyData → Bool
  | .tuple ds => lAll7 ds && lUp (ds.map ix7)
  | _ => false
def great : Int := 1000000000000
def lTitle : PyData → Bool
  | .str z => decide (0 < z.length) && decide (z.length < 9) && azAll z
  | _ => false
def lHandler (d : PyData) (n : Int) : Bool := match d with
  | .tuple [a, b] => lWhole a 0 n && lAre b
  | _ => false
def isTup : PyData → Bool
  | .tuple _ => true
  | _ => false
def lPart (w : Str) (at_ : Nat) (d : PyData) (n : Int) : Bool :=
  if w = "exec" then lTitle d else if w ∈ (["end", "say"] : List Str) then lWhole d 0 100 else
  if w = "wait" then (if at_ = 1 then isBool d else isNone d || lWhole d 0 great) else
  if w = "send" then (if at_ = 0 then pOne d (sure ++ sig7) else lWhole d 0 great || pOne d ["self", "parent", "group"]) else
  if w ∈ (["mask", "unmask"] : List Str) then lAre d else
  if w = "handle" ∧ at_ = 0 then pOne d sig7 else
  if w = "handle" then (if isTup d = true then lHandler d n else pOne d ["plain", "ignore"]) else
  if w ∈ (["group", "front"] : List Str) ∧ at_ = 0 then (lWhole d 0 great || pOne d ["self"]) else
  if w = "group" then pOne d ["new", "mine"] else
  if w = "if" ∧ at_ = 0 then lWhole d (0 - great) great else lWhole d 0 n
def many : List (Str × Int) := [("exec", 1), ("end", 1), ("wait", 2), ("send", 2), ("mask", 1), ("unmask", 1), ("handle", 2), ("group", 2), ("front", 1),
  ("say", 1), ("goto", 1), ("if", 2), ("fork", 0), ("pause", 0), ("read", 0), ("return", 0), ("session", 0), ("taker", 0)]
def lParts (w : Str) (n : Int) : Nat → List PyData → Bool
  | _, [] => true
  | i, d :: ds => lPart w i d n && lParts w n (i + 1) ds
def lRow (d : PyData) (n : Int) : Bool := match d with
  | .tuple (.str w :: ps) => (match many.lookup w with
    | some m => decide ((ps.length : Int) + 1 = 1 + m) && lParts w n 0 ps
    | none => false)
  | _ => false
/-! ### they tell the same -/
def bnd : PyData → Bool
  | .int i => decide (0 - great ≤ i) && decide (i < great)
  | _ => true
def bndAll : PyData → Bool
  | .tuple ps => ps.all bnd
  | _ => true
theorem loose_sig7 (z : Str) : (decide (z ∈ sig9) && !decide (z ∈ sure)) = decide (z ∈ sig7) := by
  by_cases h : z ∈ sig9
  · have hz : z = "kill" ∨ z = "halt" ∨ z = "on" ∨ z = "hang" ∨ z = "quit" ∨ z = "call" ∨ z = "kin" ∨ z = "rest" ∨ z = "reads" := by
      simpa [sig9] using h
    rcases hz with rfl | rfl | rfl | rfl | rfl | rfl | rfl | rfl | rfl <;> decide +kernel
  · have h7 : ¬ z ∈ sig7 := fun q => h (by
      have hz : z = "on" ∨ z = "hang" ∨ z = "quit" ∨ z = "call" ∨ z = "kin" ∨ z = "rest" ∨ z = "reads" := by simpa [sig7] using q
      rcases hz with rfl | rfl | rfl | rfl | rfl | rfl | rfl <;> decide +kernel)
    simp [h, h7]
theorem pLoose_eq (d : PyData) : pLoose d = pOne d sig7 := by
  cases d <;> first | rfl | exact loose_sig7 _
theorem idx_shift {z : Str} (h : z ∈ sig7) : sig9.idxOf z = sig7.idxOf z + 2 := by
  have hz : z = "on" ∨ z = "hang" ∨ z = "quit" ∨ z = "call" ∨ z = "kin" ∨ z = "rest" ∨ z = "reads" := by simpa [sig7] using h
  rcases hz with rfl | rfl | rfl | rfl | rfl | rfl | rfl <;> decide +kernel
theorem pLoop_nil (k : Nat) : pLoop k [] = true := by unfold pLoop; rfl
theorem pLoop_str (k : Nat) (z : Str) (r : List PyData) : pLoop k (.str z :: r) = if pLoose (.str z) = true then (if sig9.idxOf z < k then false else pLoop (sig9.idxOf z + 1) r) else false := by
  conv => lhs; unfold pLoop
theorem pLoop_eq : ∀ (ds : List PyData) (k : Nat), pLoop k ds = (lAll7 ds && lUp (ds.map ix7) && (match ds with | [] => true | d :: _ => decide (k ≤ ix7 d + 2)))
  | [], k => by rw [pLoop_nil]; rfl
  | d :: r, k => by
    cases d with
    | str z =>
      rw [pLoop_str, pLoose_eq]
      show (if decide (z ∈ sig7) = true then _ else false) = ((decide (z ∈ sig7) && lAll7 r) && lUp (sig7.idxOf z :: r.map ix7) && decide (k ≤ sig7.idxOf z + 2))
      by_cases h : z ∈ sig7
      · rw [if_pos (decide_eq_true h), idx_shift h, pLoop_eq r, decide_eq_true h, Bool.true_and]
        cases r with
        | nil =>
          by_cases hk : sig7.idxOf z + 2 < k
          · rw [if_pos hk]
            have : ¬ k ≤ sig7.idxOf z + 2 := by omega
            simp [this]
          · rw [if_neg hk]
            have : k ≤ sig7.idxOf z + 2 := by omega
            simp [this, lAll7, lUp]
        | cons d2 r2 =>
          show _ = (lAll7 (d2 :: r2) && lUp (sig7.idxOf z :: ix7 d2 :: r2.map ix7) && _)
          have e : lUp (sig7.idxOf z :: ix7 d2 :: r2.map ix7) = (decide (sig7.idxOf z < ix7 d2) && lUp (ix7 d2 :: r2.map ix7)) := by
            conv => lhs; unfold lUp
          rw [e]
          show (if _ then false else (lAll7 (d2 :: r2) && lUp (ix7 d2 :: r2.map ix7) && decide (sig7.idxOf z + 2 + 1 ≤ ix7 d2 + 2))) = _
          by_cases hk : sig7.idxOf z + 2 < k
          · rw [if_pos hk]
            have : ¬ k ≤ sig7.idxOf z + 2 := by omega
            simp [this]
          · rw [if_neg hk]
            have h1 : k ≤ sig7.idxOf z + 2 := by omega
            have h2 : decide (sig7.idxOf z + 2 + 1 ≤ ix7 d2 + 2) = decide (sig7.idxOf z < ix7 d2) := by
              by_cases q : sig7.idxOf z < ix7 d2
              · rw [decide_eq_true q, decide_eq_true (by omega)]
              · rw [decide_eq_false q, decide_eq_false (by omega)]
            rw [h2, decide_eq_true h1, Bool.and_true]
            cases lAll7 (d2 :: r2) <;> cases lUp (ix7 d2 :: r2.map ix7) <;> cases decide (sig7.idxOf z < ix7 d2) <;> rfl
      · rw [if_neg (by simpa using h), decide_eq_false h]
        rfl
    | none => rfl
    | bool b => rfl
    | int i => rfl
    | list x => rfl
    | tuple x => rfl
    | dict x => rfl
theorem are_eq (d : PyData) : pAre d = lAre d := by
  cases d with
  | tuple ds =>
    show pLoop 0 ds = (lAll7 ds && lUp (ds.map ix7))
    rw [pLoop_eq]
    cases ds with
    | nil => rfl
    | cons a r =>
      show (_ && decide (0 ≤ ix7 a + 2)) = _
      rw [decide_eq_true (Nat.zero_le _), Bool.and_true]
  | none => rfl
  | bool b => rfl
  | int i => rfl
  | list x => rfl
  | str x => rfl
  | dict x => rfl
theorem title_eq (d : PyData) : pTitle d = lTitle d := by
  cases d with
  | str z =>
    show (decide (1 ≤ z.length) && decide (z.length ≤ 8) && azAll z) = (decide (0 < z.length) && decide (z.length < 9) && azAll z)
    rw [show decide (z.length ≤ 8) = decide (z.length < 9) by
      by_cases h : z.length ≤ 8
      · rw [decide_eq_true h, decide_eq_true (by omega)]
      · rw [decide_eq_false h, decide_eq_false (by omega)]]
    rfl
  | _ => rfl
theorem rowno_eq (d : PyData) (n : Int) : pRowNo d n = lWhole d 0 n := by cases d <;> rfl
theorem small_eq (d : PyData) : pSmall d = lWhole d 0 100 := by
  cases d with
  | int i =>
    show (decide (0 ≤ i) && decide (i ≤ 99)) = (decide (0 ≤ i) && decide (i < 100))
    rw [show decide (i ≤ 99) = decide (i < 100) by
      by_cases h : i ≤ 99
      · rw [decide_eq_true h, decide_eq_true (by omega)]
      · rw [decide_eq_false h, decide_eq_false (by omega)]]
  | _ => rfl
theorem nat_eq {d : PyData} (h : bnd d = true) : pNat d = lWhole d 0 great := by
  cases d with
  | int i =>
    have h2 : i < great := by
      have := h
      simp only [bnd, Bool.and_eq_true, decide_eq_true_eq] at this
      exact this.2
    show decide (0 ≤ i) = (decide (0 ≤ i) && decide (i < great))
    rw [decide_eq_true h2, Bool.and_true]
  | _ => rfl
theorem whole_eq {d : PyData} (h : bnd d = true) : pWhole d = lWhole d (0 - great) great := by
  cases d with
  | int i =>
    show true = (decide (0 - great ≤ i) && decide (i < great))
    exact h.symm
  | _ => rfl
theorem handler_eq (d : PyData) (n : Int) : pHandler d n = lHandler d n := by
  cases d with
  | tuple ds =>
    match ds with
    | [] => rfl
    | [_] => rfl
    | [a, b] =>
      show (pRowNo a n && pAre b) = (lWhole a 0 n && lAre b)
      rw [rowno_eq, are_eq]
    | _ :: _ :: _ :: _ => rfl
  | _ => rfl
theorem how_eq (d : PyData) (n : Int) : (pOne d ["plain", "ignore"] || pHandler d n) = (if isTup d = true then lHandler d n else pOne d ["plain", "ignore"]) := by
  cases d with
  | tuple ds =>
    rw [handler_eq]
    rfl
  | str z =>
    show (pOne (.str z) ["plain", "ignore"] || false) = _
    rw [Bool.or_false]
    rfl
  | _ => rfl
theorem parts1 {n : Int} {k w : Str} {ps : List PyData} (h : ∀ d, bnd d = true → pPart k d n = lPart w 0 d n) (hb : ps.all bnd = true) (hl : ps.length = 1) : pParts n [k] ps = lParts w n 0 ps := by
  match ps, hl with
  | [a], _ =>
    have ha : bnd a = true := by simpa using hb
    show (pPart k a n && true) = (lPart w 0 a n && true)
    rw [h a ha]
theorem parts2 {n : Int} {k k2 w : Str} {ps : List PyData} (h : ∀ d, bnd d = true → pPart k d n = lPart w 0 d n) (h2 : ∀ d, bnd d = true → pPart k2 d n = lPart w 1 d n) (hb : ps.all bnd = true) (hl : ps.length = 2) : pParts n [k, k2] ps = lParts w n 0 ps := by
  match ps, hl with
  | [a, b], _ =>
    have hab : bnd a = true ∧ bnd b = true := by simpa using hb
    show (pPart k a n && (pPart k2 b n && true)) = (lPart w 0 a n && (lPart w 1 b n && true))
    rw [h a hab.1, h2 b hab.2]
theorem row_of {n : Int} {w : Str} {ks : List Str} {m : Nat} (hf : forms.lookup w = some ks) (hm : many.lookup w = some (m : Int)) (hk : ks.length = m) {ps : List PyData} (h : ps.length = m → pParts n ks ps = lParts w n 0 ps) :
    pRow (.tuple (.str w :: ps)) n = lRow (.tuple (.str w :: ps)) n := by
  show (match forms.lookup w with | some ks => decide (ps.length = ks.length) && pParts n ks ps | none => false) = (match many.lookup w with | some m => decide ((ps.length : Int) + 1 = 1 + m) && lParts w n 0 ps | none => false)
  rw [hf, hm]
  show (decide (ps.length = ks.length) && pParts n ks ps) = (decide ((ps.length : Int) + 1 = 1 + (m : Int)) && lParts w n 0 ps)
  by_cases hl : ps.length = m
  · rw [h hl, decide_eq_true (show ps.length = ks.length by omega), decide_eq_true (show (ps.length : Int) + 1 = 1 + (m : Int) by omega)]
  · rw [decide_eq_false (show ¬ ps.length = ks.length by omega), decide_eq_false (show ¬ (ps.length : Int) + 1 = 1 + (m : Int) by omega)]
    rfl
theorem lookup_none {α : Type} {z : Str} : ∀ {l : List (Str × α)}, ¬ z ∈ l.map (·.1) → l.lookup z = none
  | [], _ => rfl
  | (a, b) :: r, h => by
    have h1 : ¬ z = a := fun q => h (by simp [q])
    rw [List.lookup_cons]
    have : (z == a) = false := by simpa using h1
    rw [this]
    exact lookup_none fun q => h (by simp at q ⊢; exact .inr q)
def words18 : List Str := ["fork", "exec", "end", "wait", "pause", "read", "send", "mask", "unmask", "handle", "return", "session", "group", "front", "taker", "say", "goto", "if"]
theorem ite_t {α : Type} {c : Prop} [Decidable c] {a b : α} (h : decide c = true) : (if c then a else b) = a := if_pos (of_decide_eq_true h)
theorem ite_f {α : Type} {c : Prop} [Decidable c] {a b : α} (h : decide c = false) : (if c then a else b) = b := if_neg (of_decide_eq_false h)
theorem or_comm_b (a b : Bool) : (a || b) = (b || a) := by cases a <;> cases b <;> rfl
/-! ### texts and tuples that are not too long -/
mutual
def lenOk : PyData → Bool
  | .str z => decide (z.length ≤ 1000000)
  | .list xs => decide (xs.length ≤ 1000000) && lenAll xs
  | .tuple xs => decide (xs.length ≤ 1000000) && lenAll xs
  | .none | .bool _ | .int _ | .dict _ => true
def lenAll : List PyData → Bool
  | [] => true
  | x :: xs => lenOk x && lenAll xs
end
end Kin
namespace Kin
open PySem PySem.Spec PyProof.Rows L2
def topE (i : Nat) : Stmt := PySem.Challenge.pw_kinsignals_k09_how_a_house_begins.main.body.getD i (.Pass ⟨0, 0, 0, 0⟩)
def mkD (x : Str) (i : Nat) : He.DefD := ⟨(x, none), x, x, defArgs (topE i), defBody (topE i), defScope (topE i), [], []⟩
def clsE (i j : Nat) : Stmt := match topE i with
  | .ClassDef _ _ _ b _ _ _ _ _ _ _ => b.getD j (.Pass ⟨0, 0, 0, 0⟩)
  | _ => .Pass ⟨0, 0, 0, 0⟩
/-- a keyword's default of the def at f -/
def kwAt (f : Str × Option Str) (x : Str) (K : PySem.W.Frag) : Addr := match K.lookup (He.fAd K f) with
  | some ⟨_, _, .func fd, _⟩ => (match fd.kwdefaults with
    | .ref D => (match PySem.W.nsIn K D x with
      | some (some (.ref a)) => a
      | _ => 0)
    | _ => 0)
  | _ => 0
abbrev typA : PySem.W.Frag → Addr := kwAt ("House", some "__init__") "typed"
def mkM (c m q : Str) (i j : Nat) : He.DefD := ⟨(c, some m), m, q, defArgs (clsE i j), defBody (clsE i j), defScope (clsE i j), [], []⟩
def mkK (c m q : Str) (i j : Nat) : He.DefD := ⟨(c, some m), m, q, defArgs (clsE i j), defBody (clsE i j), defScope (clsE i j), [], [("typed", .adr typA)]⟩
def fn : List He.DefD := ([mkD "first_one" 10, mkD "things_of" 11, mkD "is_whole" 13, mkD "is_natural" 14, mkD "is_small" 15, mkD "is_one_of" 16, mkD "is_name" 17, mkD "are_small" 18, mkD "is_signal" 22, mkD "is_loose" 23, mkD "are_loose" 24, mkD "is_title" 28, mkD "is_row_number" 29, mkD "is_handler" 30, mkD "is_child_part" 31, mkD "is_part" 32, mkD "is_row" 33, mkD "is_program" 34, mkD "is_book" 35, mkD "show_name" 37, mkD "show_signals" 38, mkD "show_numbers" 39, mkD "show_truth" 40, mkD "show_name_or_none" 41, mkD "show_word_or_none" 42, mkD "show_handler" 43, mkD "show_handlers" 44, mkD "show_pile" 45, mkD "person_row" 46, mkD "session_row" 47] : List He.DefD) ++ ([mkD "house_rows" 48, mkD "state_of" 50, mkD "_law_box" 53, mkD "_law_take" 54, mkD "_law_order" 55, mkD "_law_few" 56, mkD "_law_kin_row" 57, mkD "_law_signal_row" 58, mkD "_law_group_row" 59, mkD "_law_rows" 60, mkD "_law_book" 61, mkD "law" 62, mkM "Person" "__init__" "Person.__init__" 9 0, mkK "House" "__init__" "House.__init__" 51 0, mkM "House" "person" "House.person" 51 1, mkM "House" "names" "House.names" 51 2, mkM "House" "front" "House.front" 51 3, mkM "House" "typed" "House.typed" 51 4, mkM "House" "check_session" "House.check_session" 51 5, mkM "House" "sessions" "House.sessions" 51 6, mkM "House" "__len__" "House.__len__" 51 10] : List He.DefD)
def fa : List He.Fa := ([.free "isinstance", .free "int", .free "bool", .free "str", .free "tuple", .free "list", .free "len", .free "all", .free "zip", .free "enumerate", .free "range", .free "sorted", .free "set", .free "repr", .free "abs", .glo "SIGNALS", .glo "SURE", .glo "FORMS", .int "LONGEST_TITLE" 8, .glo "first_one", .glo "things_of", .glo "is_whole", .glo "is_natural", .glo "is_small", .glo "is_one_of", .glo "is_name", .glo "are_small", .glo "is_signal", .glo "is_loose", .glo "are_loose"] : List He.Fa) ++ ([.glo "is_title", .glo "is_row_number", .glo "is_handler", .glo "is_child_part", .glo "is_part", .glo "is_row", .glo "is_program", .glo "is_book", .glo "show_name", .glo "show_signals", .glo "show_numbers", .glo "show_truth", .glo "show_name_or_none", .glo "show_word_or_none", .glo "show_handler", .glo "show_handlers", .glo "show_pile", .glo "person_row", .glo "session_row", .glo "house_rows", .glo "state_of", .glo "_law_box", .glo "_law_take", .glo "_law_order", .glo "_law_few", .glo "_law_kin_row", .glo "_law_signal_row", .glo "_law_group_row", .glo "_law_rows", .glo "_law_book"] : List He.Fa) ++ ([.glo "law", .glo "Person", .glo "House", .cls "Person", .cls "House", .mkr "Person", .mkr "House", .noat "Person" "parent", .noat "Person" "group", .noat "Person" "session", .noat "Person" "how", .noat "Person" "word", .noat "Person" "title", .noat "Person" "row", .noat "Person" "last", .noat "Person" "mask", .noat "Person" "held", .noat "Person" "handlers", .noat "Person" "pile", .noat "Person" "born", .noat "Person" "taker", .noat "Person" "changed", .noat "Person" "news", .noat "House" "book", .noat "House" "programs", .noat "House" "people", .noat "House" "fronts", .noat "House" "queues", .meth "House" "names", .meth "House" "person"] : List He.Fa) ++ ([.meth "House" "sessions", .meth "House" "front", .meth "House" "typed", .meth "House" "check_session", .meth "House" "__len__"] : List He.Fa)
def formsB (K : PySem.W.Frag) : Bool := forms.all fun q => match PySem.W.nsIn K (He.ga K "FORMS") q.1 with
  | some (some (.ref a)) => (match K.lookup a with
    | some ⟨.type c, _, .seq its _, _⟩ => decide (c = "tuple") && (decide (its.size ≤ sizeLine) && He.relAll (q.2.map V.str) its.toList)
    | _ => false)
  | _ => false
def plainB (K : PySem.W.Frag) : Bool := match K.lookup (He.ga K "SIGNALS") with
  | some ⟨.type c, none, _, _⟩ => decide (c = "tuple")
  | _ => false
def noneB (K : PySem.W.Frag) (a : Addr) : Bool := match K.lookup a with
  | some ⟨.type c, _, .seq its _, _⟩ => decide (c = "tuple") && decide (its = #[])
  | _ => false
def ex (K : PySem.W.Frag) : Bool := noneB K (typA K) && He.tupB K "SIGNALS" (sig9.map He.Dv.str) && (He.tupB K "SURE" (sure.map He.Dv.str) && (formsB K && plainB K))
def ts : List He.Tab := [(fun K => He.ga K "FORMS", forms.map (·.1))]
abbrev R : PySem.W.OpenRow := PySem.W.OpenLaw.row PySem.Challenge.rw_kinsignals_k09_how_a_house_begins
abbrev hk : PySem.W.Hook := hookS 5 fa fn ts ex
def ob (s : PySem.W.SharedT) : He.AlX := obsS 5 fa fn ts ex (HandSHeadRun.getT s)
theorem ob_eq (s : PySem.W.SharedT) : ob s = hk.obs s.abs := obsS_eq (HandSHeadRun.getT_eq s)
def loose : List Str := (["_wall", "KinError", "NoTitle", "NoOne", "NoSession", "NoBook", "NoTyped", "Person", "first_one", "things_of", "is_whole", "is_natural", "is_small", "is_one_of", "is_name", "are_small", "SIGNALS", "SURE", "is_signal", "is_loose", "are_loose", "LONGEST_TITLE", "FORMS", "is_title", "is_row_number", "is_handler", "is_child_part", "is_part", "is_row", "is_program"] : List Str) ++ (["is_book", "show_name", "show_signals", "show_numbers", "show_truth", "show_name_or_none", "show_word_or_none", "show_handler", "show_handlers", "show_pile", "person_row", "session_row", "house_rows", "state_of", "House", "_law_box", "_law_take", "_law_order", "_law_few", "_law_kin_row", "_law_signal_row", "_law_group_row", "_law_rows", "_law_book"] : List Str)
theorem run0 (w : World) : HandSHeadRun.RunEq R (PySem.W.view R.prog [62]) hk ob 12000 loose (w.withFollow "special-get-raises" false) := fun os => by kernel_rfl
theorem run1 (w : World) : HandSHeadRun.RunEq R (PySem.W.view R.prog [62]) hk ob 12000 loose (w.withFollow "special-get-raises" true) := fun os => by kernel_rfl
theorem run (w : World) : HandSHeadRun.RunEq R (PySem.W.view R.prog [62]) hk ob 12000 loose w :=
  PySem.W.byRow2 "special-get-raises" (P := fun w => HandSHeadRun.RunEq R (PySem.W.view R.prog [62]) hk ob 12000 loose w) run0 run1 w
end Kin
/-! Own layer: a def as its caller sees it, data told as a whole, heaps. -/
namespace Kin
open PySem PySem.Spec PyProof.Rows L2

/-! ### a def as its caller sees it -/
structure Cal (P : Program) (w : World) (K : PySem.W.Frag) (mg : Str → Option Value) (base : Heap) (x : Str) (ps : List Str) (k : Nat) (sp : Sp) : Prop where
  ex : ∃ (f : Addr) (fd : FuncData), FnOk P w K mg base CX0 k f fd ps sp ∧ mg x = some (.ref f) ∧ PySem.W.keepIn K (.ref f) = true ∧ Binds K fd ps []
section
variable {X : Cx} {x : Str} {ps : List Str} {k : Nat} {sp : Sp} {e : Expr} {es : List Expr} {t : TA} {p pos : Pos}
theorem pe_cal (c : Cal X.prog X.w X.K X.mg X.base x ps k sp) (hr : Room k X.A) (hg : Gl X x) (hx : Passes CX0 X E0) (ha : PA X (e :: es) t) (hdb : (x == ("__debug__" : Str)) = false := by decide)
    (he : starEach (e :: es) X.env = (false, eval e X.env) :: starEach es X.env := by rfl) (hpl : (backTo pos (starEach es X.env)).any (·.1) = false := by rfl) :
    PE X (.Call (.Name x p) (e :: es) [] pos) (tCall sp [] E0 t) := by
  obtain ⟨f, fd, F, hm, hk, hb⟩ := c.ex
  exact pe_call F hr hg hm hk hb .nil hx ha hdb he hpl
theorem pe_cal0 (c : Cal X.prog X.w X.K X.mg X.base x ps k sp) (hr : Room k X.A) (hg : Gl X x) (hx : Passes CX0 X E0) (hdb : (x == ("__debug__" : Str)) = false := by decide) :
    PE X (.Call (.Name x p) [] [] pos) (tCall sp [] E0 tNil) := by
  obtain ⟨f, fd, F, hm, hk, hb⟩ := c.ex
  exact pe_call0 F hr hg hm hk hb .nil hx hdb
end

/-! ### heaps -/
theorem same_upd {H : Hp} {p : Addr} {o : HO} (h : H p = none) : Same H (upd H p o) := fun b x e => by
  rw [upd_ne (ne_of_none e h)]
  exact e
theorem Same.tup {K : PySem.W.Frag} {H H' : Hp} {a : Addr} {xs : List V} (e : Same H H') (h : SqT K H a xs) : SqT K H' a xs := by
  rcases h with (h | ⟨o, h⟩) | h
  · exact .inl (.inl (e _ _ h))
  · exact .inl (.inr ⟨o, e _ _ h⟩)
  · exact .inr h
theorem sqT_new {K : PySem.W.Frag} {H : Hp} {p : Addr} {xs : List V} : SqT K (upd H p (.tup xs)) p xs := .inl (.inl upd_same)
theorem sqL_new {K : PySem.W.Frag} {H : Hp} {p : Addr} {xs : List V} : SqL K (upd H p (.lst xs)) p xs := .inl (.inl upd_same)

/-! ### data: those of the library, and {} -/
mutual
/-- v stands for d in H -/
inductive Dp (K : PySem.W.Frag) (H : Hp) : V → PyData → Prop where
  | non : Dp K H .non .none
  | bl (t : Bool) : Dp K H (V.bl t) (PyData.bool t)
  | int (n : Int) : Dp K H (V.int n) (PyData.int n)
  | str (z : Str) : Dp K H (V.str z) (PyData.str z)
  | lst {p : Addr} {us : List V} {es : List PyData} (at_ : SqL K H p us) (each : DpAll K H us es) : Dp K H (V.ref p) (PyData.list es)
  | tup {p : Addr} {us : List V} {es : List PyData} (at_ : SqT K H p us) (each : DpAll K H us es) : Dp K H (V.ref p) (PyData.tuple es)
  | dct {p : Addr} (at_ : H p = some (.dK [])) : Dp K H (V.ref p) (PyData.dict [])
/-- one by one -/
inductive DpAll (K : PySem.W.Frag) (H : Hp) : List V → List PyData → Prop where
  | nil : DpAll K H [] []
  | cons {u : V} {us : List V} {e : PyData} {es : List PyData} (one : Dp K H u e) (rest : DpAll K H us es) : DpAll K H (u :: us) (e :: es)
end
section
variable {K : PySem.W.Frag} {H H' : Hp}
mutual
theorem dp_L2 : ∀ {d : PyData} {v : V}, d.canLay0 = true → Dp K H v d → L2.Dp K H v d
  | _, _, _, .non => .non
  | _, _, _, .bl b => .bl b
  | _, _, _, .int i => .int i
  | _, _, _, .str z => .str z
  | _, _, e, .lst h a => .lst h (dpA_L2 (by rw [PyData.canLay0] at e; exact e) a)
  | _, _, e, .tup h a => .tup h (dpA_L2 (by rw [PyData.canLay0] at e; exact e) a)
  | _, _, e, .dct _ => by rw [PyData.canLay0] at e; cases e
theorem dpA_L2 : ∀ {ds : List PyData} {vs : List V}, PyData.canLayAll0 ds = true → DpAll K H vs ds → L2.DpAll K H vs ds
  | _, _, _, .nil => .nil
  | _, _, e, .cons h t => by
    rw [PyData.canLayAll0] at e
    obtain ⟨e1, e2⟩ := Bool.and_eq_true_iff.mp e
    exact .cons (dp_L2 e1 h) (dpA_L2 e2 t)
end
end
section
variable {X : Cx}
def rEqD (K : PySem.W.Frag) : R2 := fun u v H Q => ∃ a b, Dp K H u a ∧ Dp K H v b ∧ SeqAt.shaped a = true ∧ SeqAt.shaped b = true ∧ Q (.bl (a.eqv b)) H
def rNeD (K : PySem.W.Frag) : R2 := fun u v H Q => ∃ a b, Dp K H u a ∧ Dp K H v b ∧ SeqAt.shaped a = true ∧ SeqAt.shaped b = true ∧ Q (.bl (!a.eqv b)) H
theorem op_eqD (hu : X.A.units + 64 < cLine) : OpR X (compareOp .Eq) (rEqD X.K) := fun pins s σ H x y v u Q I rx ry h => by
  obtain ⟨d, e, hd, he, sd, se, q⟩ := h
  exact L2.op_eqD hu pins s σ H x y v u Q I rx ry ⟨d, e, dp_L2 (SeqAt.canLay_of_shaped sd) hd, dp_L2 (SeqAt.canLay_of_shaped se) he, sd, se, q⟩
theorem op_neD (hu : X.A.units + 64 < cLine) : OpR X (compareOp .NotEq) (rNeD X.K) := fun pins s σ H x y v u Q I rx ry h => by
  obtain ⟨d, e, hd, he, sd, se, q⟩ := h
  exact L2.op_neD hu pins s σ H x y v u Q I rx ry ⟨d, e, dp_L2 (SeqAt.canLay_of_shaped sd) hd, dp_L2 (SeqAt.canLay_of_shaped se) he, sd, se, q⟩
end
section
variable {K : PySem.W.Frag} {H H' : Hp}
mutual
theorem dp_mono (e : Same H H') : ∀ {d : PyData} {v : V}, Dp K H v d → Dp K H' v d
  | _, _, .non => .non
  | _, _, .bl b => .bl b
  | _, _, .int i => .int i
  | _, _, .str x => .str x
  | _, _, .lst h a => .lst (e.seq h) (dpA_mono e a)
  | _, _, .tup h a => .tup (Same.tup e h) (dpA_mono e a)
  | _, _, .dct h => .dct (e _ _ h)
theorem dpA_mono (e : Same H H') : ∀ {ds : List PyData} {vs : List V}, DpAll K H vs ds → DpAll K H' vs ds
  | _, _, .nil => .nil
  | _, _, .cons h t => .cons (dp_mono e h) (dpA_mono e t)
end
theorem dpA_len : ∀ {ds : List PyData} {vs : List V}, DpAll K H vs ds → vs.length = ds.length
  | _, _, .nil => rfl
  | _, _, .cons _ t => by rw [List.length_cons, List.length_cons, dpA_len t]
theorem dpA_get : ∀ {ds : List PyData} {vs : List V} {i : Nat} {v : V}, DpAll K H vs ds → vs[i]? = some v → ∃ d, ds[i]? = some d ∧ Dp K H v d
  | _, _, 0, _, .cons h _, e => ⟨_, rfl, by cases e; exact h⟩
  | _, _, i + 1, _, .cons _ t, e => by
    obtain ⟨d, h1, h2⟩ := dpA_get (i := i) t (by simpa using e)
    exact ⟨d, by simpa using h1, h2⟩
  | _, _, _, _, .nil, e => by simp at e
theorem dpA_app : ∀ {ds es : List PyData} {vs ws : List V}, DpAll K H vs ds → DpAll K H ws es → DpAll K H (vs ++ ws) (ds ++ es)
  | _, _, _, _, .nil, h => h
  | _, _, _, _, .cons h t, h' => .cons h (dpA_app t h')
theorem dpA_drop : ∀ {ds : List PyData} {vs : List V} (n : Nat), DpAll K H vs ds → DpAll K H (vs.drop n) (ds.drop n)
  | _, _, 0, h => h
  | _, _, n + 1, .nil => .nil
  | _, _, n + 1, .cons _ t => dpA_drop n t
theorem dpA_take : ∀ {ds : List PyData} {vs : List V} (n : Nat), DpAll K H vs ds → DpAll K H (vs.take n) (ds.take n)
  | _, _, 0, _ => .nil
  | _, _, n + 1, .nil => .nil
  | _, _, n + 1, .cons h t => .cons h (dpA_take n t)
theorem dpA_rev {ds : List PyData} {vs : List V} (h : DpAll K H vs ds) : DpAll K H vs.reverse ds.reverse := by
  induction vs generalizing ds with
  | nil =>
    cases h
    exact .nil
  | cons v r ih =>
    cases h with
    | cons h t =>
      rw [List.reverse_cons, List.reverse_cons]
      exact dpA_app (ih t) (.cons h .nil)
theorem dpA_strs (ws : List Str) : DpAll K H (ws.map V.str) (ws.map PyData.str) := by
  induction ws with
  | nil => exact .nil
  | cons w r ih => exact .cons (.str w) ih

/-- a datum's type, and what isinstance says of it -/
def tyD : PyData → String
  | .none => "NoneType"
  | .bool _ => "bool"
  | .int _ => "int"
  | .str _ => "str"
  | .list _ => "list"
  | .tuple _ => "tuple"
  | .dict _ => "dict"
theorem tyx_of {v : V} {d : PyData} (h : Dp K H v d) : TyX K H v (.type (tyD d)) := by
  cases h with
  | non => exact .base .non
  | bl b => exact .base (.bl b)
  | int i => exact .base (.int i)
  | str x => exact .base (.str x)
  | lst h a =>
    rcases h with (h | ⟨o, h⟩) | ⟨o, its, n, h, hc, _⟩
    · exact .base (.lst h)
    · exact .base (.frz h)
    · exact .kList h hc
  | tup h a =>
    rcases h with (h | ⟨o, h⟩) | ⟨o, its, n, h, hc, _⟩
    · exact .base (.tup h)
    · exact .fTuple h
    · exact .kTuple h hc
  | dct h => exact .base (.dK h)
def isaInt : PyData → Bool
  | .int _ => true
  | .bool _ => true
  | _ => false
def isaBool : PyData → Bool
  | .bool _ => true
  | _ => false
def isaStr : PyData → Bool
  | .str _ => true
  | _ => false
def isaTup : PyData → Bool
  | .tuple _ => true
  | _ => false
def nodict : PyData → Bool := fun _ => true
theorem nd_of {v : V} {d : PyData} (h : Dp K H v d) : nodict d = true := rfl
theorem kit_int : ∀ {d : PyData}, nodict d = true → PySem.W.kitOne K (.type (tyD d)) (.type "int") = some (isaInt d)
  | .none, _ => kit_ty (a := "NoneType") (r := false) (by decide +kernel)
  | .bool _, _ => kit_ty (a := "bool") (r := true) (by decide +kernel)
  | .int _, _ => kit_ty (a := "int") (r := true) (by decide +kernel)
  | .str _, _ => kit_ty (a := "str") (r := false) (by decide +kernel)
  | .list _, _ => kit_ty (a := "list") (r := false) (by decide +kernel)
  | .tuple _, _ => kit_ty (a := "tuple") (r := false) (by decide +kernel)
  | .dict _, _ => kit_ty (a := "dict") (r := false) (by decide +kernel)
theorem kit_bool : ∀ {d : PyData}, nodict d = true → PySem.W.kitOne K (.type (tyD d)) (.type "bool") = some (isaBool d)
  | .none, _ => kit_ty (a := "NoneType") (r := false) (by decide +kernel)
  | .bool _, _ => kit_ty (a := "bool") (r := true) (by decide +kernel)
  | .int _, _ => kit_ty (a := "int") (r := false) (by decide +kernel)
  | .str _, _ => kit_ty (a := "str") (r := false) (by decide +kernel)
  | .list _, _ => kit_ty (a := "list") (r := false) (by decide +kernel)
  | .tuple _, _ => kit_ty (a := "tuple") (r := false) (by decide +kernel)
  | .dict _, _ => kit_ty (a := "dict") (r := false) (by decide +kernel)
theorem kit_str : ∀ {d : PyData}, nodict d = true → PySem.W.kitOne K (.type (tyD d)) (.type "str") = some (isaStr d)
  | .none, _ => kit_ty (a := "NoneType") (r := false) (by decide +kernel)
  | .bool _, _ => kit_ty (a := "bool") (r := false) (by decide +kernel)
  | .int _, _ => kit_ty (a := "int") (r := false) (by decide +kernel)
  | .str _, _ => kit_ty (a := "str") (r := true) (by decide +kernel)
  | .list _, _ => kit_ty (a := "list") (r := false) (by decide +kernel)
  | .tuple _, _ => kit_ty (a := "tuple") (r := false) (by decide +kernel)
  | .dict _, _ => kit_ty (a := "dict") (r := false) (by decide +kernel)
theorem kit_tup : ∀ {d : PyData}, nodict d = true → PySem.W.kitOne K (.type (tyD d)) (.type "tuple") = some (isaTup d)
  | .none, _ => kit_ty (a := "NoneType") (r := false) (by decide +kernel)
  | .bool _, _ => kit_ty (a := "bool") (r := false) (by decide +kernel)
  | .int _, _ => kit_ty (a := "int") (r := false) (by decide +kernel)
  | .str _, _ => kit_ty (a := "str") (r := false) (by decide +kernel)
  | .list _, _ => kit_ty (a := "list") (r := false) (by decide +kernel)
  | .tuple _, _ => kit_ty (a := "tuple") (r := true) (by decide +kernel)
  | .dict _, _ => kit_ty (a := "dict") (r := false) (by decide +kernel)
end

/-! ### words in tables -/
theorem inV_strs (z : Str) (ws : List Str) : inV (.str z) (ws.map V.str) = decide (z ∈ ws) := by
  unfold inV
  induction ws with
  | nil => simp
  | cons w r ih =>
    rw [List.map_cons, List.any_cons, ih]
    show ((w == z) || decide (z ∈ r)) = decide (z ∈ w :: r)
    by_cases h : w = z
    · subst h
      simp
    · have h2 : ¬ z = w := fun q => h q.symm
      simp [h, h2]
theorem flat_strs (ws : List Str) : (ws.map V.str).all flatV = true := by
  induction ws with
  | nil => rfl
  | cons w r ih =>
    rw [List.map_cons, List.all_cons, ih]
    rfl
theorem in_k {H : Hp} {z : Str} {ws : List Str} {Q : VK} (q : Q (.bl (decide (z ∈ ws))) H) : Q (.bl (inV (.str z) (ws.map V.str))) H := by
  rw [inV_strs]
  exact q
theorem notin_k {H : Hp} {z : Str} {ws : List Str} {Q : VK} (q : Q (.bl (!decide (z ∈ ws))) H) : Q (.bl (!inV (.str z) (ws.map V.str))) H := by
  rw [inV_strs]
  exact q

theorem iteLen {n : Nat} {m : Int} {A B : Prop} (h1 : (n : Int) ≠ m → A) (h2 : (n : Int) = m → B) : if (!decide (V.int (n : Int) = V.int m)) = true then A else B := by
  by_cases h : (n : Int) = m
  · have e : (!decide (V.int (n : Int) = V.int m)) = false := by rw [h]; simp
    rw [e]
    exact iteF (h2 h)
  · have e : (!decide (V.int (n : Int) = V.int m)) = true := by
      have : ¬ V.int (n : Int) = V.int m := fun q => h (V.int.inj q)
      simp [this]
    rw [e]
    exact iteT (h1 h)
theorem iteLenE {n : Nat} {m : Int} {A B : Prop} (h1 : (n : Int) = m → A) (h2 : (n : Int) ≠ m → B) : if decide (V.int (n : Int) = V.int m) = true then A else B := by
  by_cases h : (n : Int) = m
  · have e : decide (V.int (n : Int) = V.int m) = true := by rw [h]; simp
    rw [e]
    exact iteT (h1 h)
  · have e : decide (V.int (n : Int) = V.int m) = false := by
      have : ¬ V.int (n : Int) = V.int m := fun q => h (V.int.inj q)
      simp [this]
    rw [e]
    exact iteF (h2 h)
theorem dec_int' {a b : Int} : decide (V.int a = V.int b) = decide (a = b) := by
  by_cases h : a = b
  · subst h
    simp
  · have : ¬ V.int a = V.int b := fun q => h (V.int.inj q)
    simp [h, this]
theorem dec_str {a b : Str} : decide (V.str a = V.str b) = decide (a = b) := by
  by_cases h : a = b
  · subst h
    simp
  · have : ¬ V.str a = V.str b := fun q => h (V.str.inj q)
    simp [h, this]
theorem same_mut {H H' : Hp} {p : Addr} {o : HO} (e : Same H H') (h : H p = none) : Same H (upd H' p o) := fun b x hb => by
  rw [upd_ne (ne_of_none hb h)]
  exact e b x hb
theorem cut1 (xs : List V) : cutV xs (some 1) none = xs.drop 1 := by
  unfold cutV
  rw [show HT.sIx xs.length 0 (some 1) = min 1 xs.length from HT.sIx_nat xs.length 0 1, HT.sIx_none]
  cases xs with
  | nil => rfl
  | cons x r =>
    rw [show min 1 (x :: r).length = 1 by
      rw [List.length_cons]
      omega]
    show (List.take ((x :: r).length - 1) r) = r
    rw [List.length_cons, Nat.add_sub_cancel]
    exact List.take_length
theorem sIx1 {x : V} {xs : List V} {b : Nat} : ¬ (HT.sIx (x :: xs).length 0 (some 1) = 0 ∧ b = (x :: xs).length) := by
  rw [show HT.sIx (x :: xs).length 0 (some 1) = min 1 (x :: xs).length from HT.sIx_nat (x :: xs).length 0 1, List.length_cons]
  omega
theorem sqT_cut1 {K : PySem.W.Frag} {H : Hp} {p : Addr} {x : V} {xs : List V} : SqT K (upd H p (.tup (cutV (x :: xs) (some 1) none))) p xs := by
  rw [cut1]
  exact sqT_new
theorem idx_min {w : Str} {l : List Str} {m : Nat} (hm : m < l.idxOf w) : l[m]? ≠ some w := fun q => by
  obtain ⟨hl, e⟩ := List.getElem?_eq_some_iff.mp q
  have h := List.not_of_lt_findIdx (p := (· == w)) (xs := l) (i := m) hm
  rw [e] at h
  simp at h
theorem map_range_eq {α β : Type} {l : List α} {b : Nat → β} {p : α → β} (h : ∀ i x, l[i]? = some x → b i = p x) : (List.range l.length).map b = l.map p := by
  apply List.ext_getElem
  · simp
  · intro i h1 h2
    have hi : i < l.length := by simpa using h2
    rw [List.getElem_map, List.getElem_map, List.getElem_range]
    exact h i _ (List.getElem?_eq_getElem hi)
theorem all_id {α : Type} {l : List α} {p : α → Bool} : (l.map p).all id = l.all p := by
  induction l with
  | nil => rfl
  | cons x r ih => rw [List.map_cons, List.all_cons, List.all_cons, ih]; rfl
/-! ### comprehensions of truths -/
theorem walk_zipT {K : PySem.W.Frag} {a b : Addr} {xs ys : List V} {n : Nat} (hn : n = min xs.length ys.length) : Walk (RZ.ItzT K a b) n (fun H => SqT K H a xs ∧ SqT K H b ys) (YPair (fun i => xs[i]?) (fun i => ys[i]?)) := by
  subst hn
  refine ⟨fun i _ hi q => ?_, fun _ q => ⟨xs, ys, q.1, q.2, by omega⟩, fun i H v H' _ q y => ?_⟩
  · have h1 : i < xs.length := by omega
    have h2 : i < ys.length := by omega
    exact ⟨xs, ys, xs[i], ys[i], q.1, q.2, by simp [h1], by simp [h2]⟩
  · obtain ⟨T, x, z, h1, h2, h3, h4, h5⟩ := y
    exact ⟨T, x, z, h1, h2, h3, h4 xs q.1, h5 ys q.2⟩
theorem lc_vals {J : It} {n : Nat} {G : Hp → Prop} {Y : Nat → Hp → V → Hp → Prop} (wk : Walk J n G Y) {g : TG} {te : TE} {vs : List Nat} {σ : L2.St} {H1 : Hp} {D : Addr} {Qd : Hp → Prop} (b : Nat → V) (hD : H1 D = none) (hn : n ≤ 1000000)
    (hG : ∀ H', Same H1 H' → G H')
    (hs : ∀ (i : Nat) (x : V) (H' H'' : Hp) (Qe : VK), i < n → Same H1 H' → Y i H' x H'' → (∀ H4, Same H' H4 → Qe (b i) H4) → g x (wipe σ vs) H'' fun σ2 H2 => wipe σ2 vs = wipe σ vs ∧ te σ2 H2 Qe)
    (q : ∀ H', Same H1 H' → H' D = some (.lst ((List.range n).map b)) → Qd H') :
    ∃ W : Nat → Nat → Hp → Prop, (∃ m, W 0 m (upd H1 D (.lst []))) ∧ ∀ i m H, W i m H →
      (J.stop i H ∧ Qd H) ∨ (J.go i H ∧ ∃ Nx : Hp → Prop, (∀ H', Nx H' → ∃ m', m' < m ∧ W (i + 1) m' H') ∧ ∀ x H', J.yld i H x H' → g x (wipe σ vs) H' fun σ2 H2 => wipe σ2 vs = wipe σ vs ∧ tYes σ2 H2 fun b H3 =>
        if b = true then te σ2 H3 fun y H4 => ∃ acc, H4 D = some (.lst acc) ∧ acc.length < sizeLine ∧ Nx (upd H4 D (.lst (acc ++ [y]))) else Nx H3) := by
  refine lc_it wk (tt := tYes) (fun i H' => Same H1 H' ∧ H' D = some (.lst ((List.range i).map b))) ⟨same_upd hD, upd_same⟩ (fun i H' _ p => hG H' p.1) (fun i x H' H'' hi p y => ?_) (fun H' p => q H' p.1 p.2)
  refine hs i x H' H'' _ hi p.1 y fun H4 s4 => ?_
  refine ⟨_, s4 _ _ p.2, ?_, ?_, ?_⟩
  · rw [List.length_map, List.length_range]
    exact Nat.lt_of_lt_of_le (Nat.lt_of_lt_of_le hi hn) (by decide)
  · intro c o e
    rw [upd_ne (ne_of_none e hD)]
    exact s4 _ _ (p.1 _ _ e)
  · rw [upd_same, List.range_succ, List.map_append]
    rfl
theorem lt1 (a b : Nat) : decide (([a] : List Nat) < [b]) = decide (a < b) := by
  by_cases h : a < b
  · rw [decide_eq_true h, decide_eq_true]
    exact List.cons_lt_cons_iff.mpr (.inl h)
  · rw [decide_eq_false h, decide_eq_false]
    intro q
    rcases List.cons_lt_cons_iff.mp q with z | ⟨_, z⟩
    · exact h z
    · exact absurd z (List.not_lt_nil _)
theorem at0 {α : Type} (x : α) (r : List α) : atI (x :: r) 0 = some x := by
  unfold atI ixN
  rw [if_pos (by decide), if_pos (by rw [List.length_cons]; omega)]
  rfl
end Kin
namespace Kin
open PySem PySem.Spec PyProof.Rows L2
def topS (i : Nat) : Stmt := PySem.Challenge.pw_kinsignals_k09_how_a_house_begins.main.body.getD i (.Pass ⟨0, 0, 0, 0⟩)
abbrev FnP (K : PySem.W.Frag) (x : Str) (st : Stmt) (f : Addr) (fd : FuncData) : Prop := FunD K x x (defArgs st) (defBody st) (defScope st) [] [] f fd
structure Bi (K : PySem.W.Frag) (w : World) (mg : Str → Option Value) (tL : Tok) (es : Array DictEntry) (nF : Nat) : Prop where
  n_isinstance : mg "isinstance" = none
  n_int : mg "int" = none
  n_bool : mg "bool" = none
  n_str : mg "str" = none
  n_tuple : mg "tuple" = none
  n_list : mg "list" = none
  n_len : mg "len" = none
  n_all : mg "all" = none
  n_zip : mg "zip" = none
  n_enumerate : mg "enumerate" = none
  n_range : mg "range" = none
  n_sorted : mg "sorted" = none
  n_set : mg "set" = none
  n_repr : mg "repr" = none
  g_SIGNALS : mg "SIGNALS" = some (.ref (He.ga K "SIGNALS"))
  g_SURE : mg "SURE" = some (.ref (He.ga K "SURE"))
  g_FORMS : mg "FORMS" = some (.ref (He.ga K "FORMS"))
  g_LONGEST_TITLE : mg "LONGEST_TITLE" = some (.int 8 tL)
  sig : ∀ H, SqT K H (He.ga K "SIGNALS") (sig9.map V.str)
  sigK : ∃ o, K.lookup (He.ga K "SIGNALS") = some o ∧ o.cls = .type "tuple" ∧ o.dict = none
  sur : ∀ H, SqT K H (He.ga K "SURE") (sure.map V.str)
  kd : KDict K w (He.ga K "FORMS") es nF
  fno : ∀ z, forms.lookup z = none → PySem.W.nsIn K (He.ga K "FORMS") z = some none
  fyes : ∀ z ks, forms.lookup z = some ks → ∃ a, PySem.W.nsIn K (He.ga K "FORMS") z = some (some (.ref a)) ∧ ∀ H, SqT K H a (ks.map V.str)
section
variable {P : Program} {w : World} {K : PySem.W.Frag} {mg : Str → Option Value} {base : Heap} {tL : Tok} {es : Array DictEntry} {nF : Nat}
theorem Bi.r_SIGNALS (_ : Bi K w mg tL es nF) : RelV (.ref (He.ga K "SIGNALS")) (.ref (He.ga K "SIGNALS")) := rfl
theorem Bi.r_SURE (_ : Bi K w mg tL es nF) : RelV (.ref (He.ga K "SURE")) (.ref (He.ga K "SURE")) := rfl
theorem Bi.r_FORMS (_ : Bi K w mg tL es nF) : RelV (.ref (He.ga K "FORMS")) (.ref (He.ga K "FORMS")) := rfl
theorem Bi.r_LONGEST_TITLE (_ : Bi K w mg tL es nF) : RelV (.int 8) (.int 8 tL) := ⟨_, rfl⟩
/-- a look of one datum -/
def spD (K : PySem.W.Frag) (f : PyData → Bool) : Sp := fun vs H Q _ => ∃ (x : V) (d : PyData), vs = [x] ∧ Dp K H x d ∧ ∀ H', Same H H' → Q (.bl (f d)) H'
/-- .. and a number -/
def spDI (K : PySem.W.Frag) (f : PyData → Int → Bool) : Sp := fun vs H Q _ => ∃ (x : V) (d : PyData) (n : Int), vs = [x, .int n] ∧ Dp K H x d ∧ ∀ H', Same H H' → Q (.bl (f d n)) H'
theorem lenAll_mem {ds : List PyData} (h : lenAll ds = true) {d : PyData} (hd : d ∈ ds) : lenOk d = true := by
  induction ds with
  | nil => cases hd
  | cons a r ih =>
    have h' : (lenOk a && lenAll r) = true := by rw [← lenAll]; exact h
    have h2 := Bool.and_eq_true_iff.mp h'
    rcases List.mem_cons.mp hd with rfl | q
    · exact h2.1
    · exact ih h2.2 q
theorem lenOk_str {z : Str} (h : lenOk (.str z) = true) : z.length ≤ 1000000 := by
  rw [lenOk] at h
  exact of_decide_eq_true h
theorem lenOk_tup {ds : List PyData} (h : lenOk (.tuple ds) = true) : ds.length ≤ 1000000 ∧ lenAll ds = true := by
  rw [lenOk] at h
  obtain ⟨h1, h2⟩ := Bool.and_eq_true_iff.mp h
  exact ⟨of_decide_eq_true h1, h2⟩
/-- a look of a datum whose texts are not too long -/
def spDL (K : PySem.W.Frag) (f : PyData → Bool) : Sp := fun vs H Q _ => ∃ (x : V) (d : PyData), vs = [x] ∧ Dp K H x d ∧ lenOk d = true ∧ ∀ H', Same H H' → Q (.bl (f d)) H'
def spRow (K : PySem.W.Frag) (f : PyData → Int → Bool) : Sp := fun vs H Q _ => ∃ (x : V) (d : PyData) (n : Int), vs = [x, .int n] ∧ Dp K H x d ∧ lenOk d = true ∧ ∀ H', Same H H' → Q (.bl (f d n)) H'
def spOne (K : PySem.W.Frag) : Sp := fun vs H Q _ => ∃ (x : V) (d : PyData) (a : Addr) (ws : List Str), vs = [x, .ref a] ∧ Dp K H x d ∧ (SqL K H a (ws.map V.str) ∨ SqT K H a (ws.map V.str)) ∧ ∀ H', Same H H' → Q (.bl (pOne d ws)) H'
def spChild (K : PySem.W.Frag) : Sp := fun vs H Q _ => ∃ (x : V) (d : PyData) (k : Str), vs = [.str k, x] ∧ Dp K H x d ∧ ∀ H', Same H H' → Q (.bl (pChild k d)) H'
def spPart (K : PySem.W.Frag) : Sp := fun vs H Q _ => ∃ (x : V) (d : PyData) (k : Str) (n : Int), vs = [.str k, x, .int n] ∧ Dp K H x d ∧ lenOk d = true ∧ ∀ H', Same H H' → Q (.bl (pPart k d n)) H'

abbrev s_is_whole : Stmt := topS 13
theorem sc_is_whole : FnScope [("thing" : Str)] ["thing"] (defScope s_is_whole) := ⟨rfl, rfl, rfl, by decide +kernel, rfl, by decide +kernel, by decide +kernel⟩
theorem ok_is_whole {f : Addr} {fd : FuncData} (F : FnP K "is_whole" s_is_whole f fd) (T : Bi K w mg tL es nF) : FnOk P w K mg base CX0 1 f fd ["thing"] (spD K pWhole) := by
  refine F.ok sc_is_whole (fun vs H Q E h => ?_) (fun cdv A outer s H vs Q E hr h => ?_)
  · obtain ⟨x, d, rfl, _⟩ := h
    rfl
  · obtain ⟨x, d, rfl, hd, k⟩ := h
    refine ⟨_, PSs.nox (pss_one (ps_ret (pe_and (pe_callB call_isi (by rfl) T.n_isinstance boot_isinstance (pa_cons (pv 0) (pa_cons (pe_bltn (v := .ty "int") (by rfl) T.n_int boot_int rfl) pa_nil))) (pe_one (pe_not (pe_callB call_isi (by rfl) T.n_isinstance boot_isinstance (pa_cons (pv 0) (pa_cons (pe_bltn (v := .ty "bool") (by rfl) T.n_bool boot_bool rfl) pa_nil)))))))), ?_⟩
    refine ⟨x, rfl, x, _, _, _, _, rfl, .ty _, tyx_of hd, kit_int (nd_of hd), _, rfl, ?_⟩
    have k := k H (Same.refl H)
    cases hd with
    | int i => exact iteT ⟨_, rfl, _, _, _, _, _, rfl, .ty _, tyx_of (.int i), kit_bool (d := .int i) rfl, _, rfl, k⟩
    | bl b => exact iteT ⟨_, rfl, _, _, _, _, _, rfl, .ty _, tyx_of (.bl b), kit_bool (d := .bool b) rfl, _, rfl, k⟩
    | _ => exact iteF k
abbrev s_is_natural : Stmt := topS 14
theorem sc_is_natural : FnScope [("thing" : Str)] ["thing"] (defScope s_is_natural) := ⟨rfl, rfl, rfl, by decide +kernel, rfl, by decide +kernel, by decide +kernel⟩
theorem ok_is_natural {f : Addr} {fd : FuncData} (F : FnP K "is_natural" s_is_natural f fd) (T : Bi K w mg tL es nF) (c_is_whole : Cal P w K mg base "is_whole" ["thing"] 1 (spD K pWhole)) : FnOk P w K mg base CX0 2 f fd ["thing"] (spD K pNat) := by
  refine F.ok sc_is_natural (fun vs H Q E h => ?_) (fun cdv A outer s H vs Q E hr h => ?_)
  · obtain ⟨x, d, rfl, _⟩ := h
    rfl
  · obtain ⟨x, d, rfl, hd, k⟩ := h
    refine ⟨_, PSs.nox (pss_one (ps_ret (pe_and (pe_cal c_is_whole (hr.mono (by decide)) (by rfl) pass0 (pa_cons (pv 0) pa_nil)) (pe_one (pe_cmpR op_ge (pv 0) pe_int (nomark _)))))), ?_⟩
    refine ⟨x, rfl, x, d, rfl, hd, fun H1 s1 => ⟨_, rfl, ?_⟩⟩
    have k := k H1 s1
    cases hd <;> first | exact iteF k | exact iteT ⟨_, rfl, _, _, rfl, rfl, k⟩
abbrev s_is_small : Stmt := topS 15
theorem sc_is_small : FnScope [("thing" : Str)] ["thing"] (defScope s_is_small) := ⟨rfl, rfl, rfl, by decide +kernel, rfl, by decide +kernel, by decide +kernel⟩
theorem ok_is_small {f : Addr} {fd : FuncData} (F : FnP K "is_small" s_is_small f fd) (T : Bi K w mg tL es nF) (c_is_whole : Cal P w K mg base "is_whole" ["thing"] 1 (spD K pWhole)) : FnOk P w K mg base CX0 2 f fd ["thing"] (spD K pSmall) := by
  refine F.ok sc_is_small (fun vs H Q E h => ?_) (fun cdv A outer s H vs Q E hr h => ?_)
  · obtain ⟨x, d, rfl, _⟩ := h
    rfl
  · obtain ⟨x, d, rfl, hd, k⟩ := h
    refine ⟨_, PSs.nox (pss_one (ps_ret (pe_and (pe_cal c_is_whole (hr.mono (by decide)) (by rfl) pass0 (pa_cons (pv 0) pa_nil)) (pe_one (pe_chain op_le op_le pe_int (pv 0) pe_int))))), ?_⟩
    refine ⟨x, rfl, x, d, rfl, hd, fun H1 s1 => ⟨_, rfl, ?_⟩⟩
    have k := k H1 s1
    cases hd with
    | int i =>
      refine iteT ⟨_, rfl, _, _, rfl, rfl, _, rfl, ?_⟩
      have k : Q (.bl (decide (0 ≤ i) && decide (i ≤ 99))) H1 := k
      cases e : decide (0 ≤ i) with
      | true =>
        rw [e] at k
        exact iteT ⟨_, _, rfl, rfl, k⟩
      | false =>
        rw [e] at k
        exact iteF k
    | _ => exact iteF k
abbrev s_is_one_of : Stmt := topS 16
theorem sc_is_one_of : FnScope [("thing" : Str), ("words" : Str)] ["thing", "words"] (defScope s_is_one_of) := ⟨rfl, rfl, rfl, by decide +kernel, rfl, by decide +kernel, by decide +kernel⟩
theorem ok_is_one_of {f : Addr} {fd : FuncData} (F : FnP K "is_one_of" s_is_one_of f fd) (T : Bi K w mg tL es nF) : FnOk P w K mg base CX0 1 f fd ["thing", "words"] (spOne K) := by
  refine F.ok sc_is_one_of (fun vs H Q E h => ?_) (fun cdv A outer s H vs Q E hr h => ?_)
  · obtain ⟨x, d, a, ws, rfl, _⟩ := h
    rfl
  · obtain ⟨x, d, a, ws, rfl, hd, ha, k⟩ := h
    refine ⟨_, PSs.nox (pss_one (ps_ret (pe_and (pe_callB call_isi (by rfl) T.n_isinstance boot_isinstance (pa_cons (pv 0) (pa_cons (pe_bltn (v := .ty "str") (by rfl) T.n_str boot_str rfl) pa_nil))) (pe_one (pe_cmpR op_in_seq (pv 0) (pv 1) (by rfl)))))), ?_⟩
    refine ⟨x, rfl, x, _, _, _, _, rfl, .ty _, tyx_of hd, kit_str (nd_of hd), _, rfl, ?_⟩
    have k := k H (Same.refl H)
    cases hd with
    | str z => exact iteT ⟨_, rfl, _, rfl, a, _, rfl, ha, rfl, flat_strs ws, in_k k⟩
    | _ => exact iteF k
abbrev s_is_signal : Stmt := topS 22
theorem sc_is_signal : FnScope [("thing" : Str)] ["thing"] (defScope s_is_signal) := ⟨rfl, rfl, rfl, by decide +kernel, rfl, by decide +kernel, by decide +kernel⟩
theorem ok_is_signal {f : Addr} {fd : FuncData} (F : FnP K "is_signal" s_is_signal f fd) (T : Bi K w mg tL es nF) (c_is_one_of : Cal P w K mg base "is_one_of" ["thing", "words"] 1 (spOne K)) : FnOk P w K mg base CX0 2 f fd ["thing"] (spD K fun d => pOne d sig9) := by
  refine F.ok sc_is_signal (fun vs H Q E h => ?_) (fun cdv A outer s H vs Q E hr h => ?_)
  · obtain ⟨x, d, rfl, _⟩ := h
    rfl
  · obtain ⟨x, d, rfl, hd, k⟩ := h
    refine ⟨_, PSs.nox (pss_one (ps_ret (pe_cal c_is_one_of (hr.mono (by decide)) (by rfl) pass0 (pa_cons (pv 0) (pa_cons (pe_glob (by rfl) T.g_SIGNALS T.r_SIGNALS) pa_nil))))), ?_⟩
    exact ⟨x, rfl, x, d, _, sig9, rfl, hd, .inr (T.sig H), k⟩
abbrev s_is_loose : Stmt := topS 23
theorem sc_is_loose : FnScope [("thing" : Str)] ["thing"] (defScope s_is_loose) := ⟨rfl, rfl, rfl, by decide +kernel, rfl, by decide +kernel, by decide +kernel⟩
theorem ok_is_loose {f : Addr} {fd : FuncData} (F : FnP K "is_loose" s_is_loose f fd) (T : Bi K w mg tL es nF) (c_is_signal : Cal P w K mg base "is_signal" ["thing"] 2 (spD K fun d => pOne d sig9)) : FnOk P w K mg base CX0 3 f fd ["thing"] (spD K pLoose) := by
  refine F.ok sc_is_loose (fun vs H Q E h => ?_) (fun cdv A outer s H vs Q E hr h => ?_)
  · obtain ⟨x, d, rfl, _⟩ := h
    rfl
  · obtain ⟨x, d, rfl, hd, k⟩ := h
    refine ⟨_, PSs.nox (pss_one (ps_ret (pe_and (pe_cal c_is_signal (hr.mono (by decide)) (by rfl) pass0 (pa_cons (pv 0) pa_nil)) (pe_one (pe_cmpR op_notIn_seq (pv 0) (pe_glob (by rfl) T.g_SURE T.r_SURE) (by rfl)))))), ?_⟩
    refine ⟨x, rfl, x, d, rfl, hd, fun H1 s1 => ⟨_, rfl, ?_⟩⟩
    have k := k H1 s1
    cases hd with
    | str z =>
      have k : Q (.bl (decide (z ∈ sig9) && !decide (z ∈ sure))) H1 := k
      show if decide (z ∈ sig9) = true then _ else _
      cases e : decide (z ∈ sig9) with
      | true =>
        rw [e] at k
        exact iteT ⟨_, rfl, _, _, rfl, .inr (T.sur H1), rfl, flat_strs sure, notin_k k⟩
      | false =>
        rw [e] at k
        exact iteF k
    | _ => exact iteF k
end
end Kin
/-! Dicts with tuple keys: {k: v}, del d[k]; len of an own class; a statement that is never reached. -/
namespace Kin
open PySem PySem.Spec PyProof.Rows L2
section
variable {X : Cx} {pos tpos : Pos}
theorem ps_vac {st : Stmt} : PS X st (fun _ _ _ => False) := ⟨fun _ _ _ _ _ _ h => h.elim⟩
def tDispT1 (tk tv : TE) : TE := fun σ H Q => ∀ p, H p = none → tk σ (upd H p (.dT [])) fun x H1 => tv σ H1 fun y H2 => ∃ b k, x = .ref b ∧ H2 b = some (.tup (k.map kV)) ∧ H2 p = some (.dT []) ∧ Q (.ref p) (upd H2 p (.dT [(k, y)]))
theorem pe_dispT1 {k v : Expr} {tk tv : TE} (hu : X.A.units + 1 < cLine) (hk : PE X k tk) (hv : PE X v tv) : PE X (.Dict [some k] [v] pos) (tDispT1 tk tv) := by
  refine ⟨fun pins s σ H Q I q => ?_⟩
  have hn := I.hok.fresh (Nat.le_refl s.heap.objs.size)
  have I1 := I.laid (a := s.heap.objs.size) (o := .dT []) (h' := s.heap.push { cls := .type "dict", data := .dict #[] }) (t' := s.toks) (fun _ _ q => Heap.get?_push_of_some _ q) (Nat.le_refl _) (dt_empty s.heap I.big)
  refine wpAny_Dict_any rfl rfl (fun z => nomatch z) (show (1 : Nat) ≤ 15 by decide) ?_
  refine pairTrees_cons_walk (thn (hk.run pins _ σ _ _ I1 (q _ hn)) fun u s1 ⟨x, H1, I2, rx, q1⟩ => thn (hv.run pins s1 σ H1 _ I2 q1) fun w2 s2 ⟨y, H2, I3, ry, b, ks, ex, eb, ep, q2⟩ => pairTrees_nil_walk ?_)
  subst ex
  cases (show u = Value.ref b from rx)
  obtain ⟨z, hd, xs, rel, dd⟩ := dt_of I3.hok ep
  have hz : xs.length ≤ sizeLine := by rw [← Paired.length rel]; exact z
  unfold storeAll
  rw [List.forIn_cons]
  refine wpAny_bind (wpAny_bind (wpAny_dictSet_heap (knd := tupleKind (mixKind X.prog X.w)) (hsz := hz) ((show (tupleKind (mixKind X.prog X.w)).room X.A from Nat.lt_of_succ_lt hu)) (key_of I3.hok eb) dd fun h' dd' hs => wpAny_pure ?_))
  show wpAny _ _ (forIn ([] : List (Value × Value)) PUnit.unit _) _ _ _
  rw [List.forIn_nil]
  refine wpAny_pure ⟨.ref s.heap.objs.size, _, ?_, rfl, q2⟩
  obtain ⟨qo, es, ep', hq, h2, h3, h4, _, h5⟩ := dd'
  refine d_write I3 (by rw [ep]; exact True.intro) hs ⟨qo, hq⟩ ⟨by show 1 ≤ sizeLine; decide, hd, _, (rel.put ks eb ry).keeps fun c ys ec => ?_, qo, es, ep', hq, h2, h3, h4, h5⟩
  rw [upd_ne (ne_of ec ep (fun z => nomatch z))]
  exact ec
theorem kt_without {H : Hp} (k : List Key) {kvs : List (List Key × V)} {xs : List (List Key × Addr × Value)} (h : KT H kvs xs) : KT H (dropK kvs k) (withoutH xs k) := DX.KT_drop k h
/-- del d[k] -/
def sDDelT (td ty : TE) : TS := fun D σ H => td σ H fun x H1 => ty σ H1 fun y H2 => ∃ a kvs k b, x = .ref a ∧ H2 a = some (.dT kvs) ∧ y = .ref b ∧ H2 b = some (.tup (k.map kV)) ∧ (valV kvs k).isSome = true ∧ D.nx σ (upd H2 a (.dT (dropK kvs k)))
theorem ps_ddelT {o i : Expr} {td ty : TE} (hu : X.A.units + 1 < cLine) (ho : PE X o td) (hi : PE X i ty) : PS X (.Delete [.Subscript o i tpos] pos) (sDDelT td ty) := by
  refine ⟨fun pins s σ H D I h => ?_⟩
  refine wpAny_Delete (wpAny_deleteEach_cons (wpAny_delete_Subscript (thn (ho.run pins s σ H _ I h) fun u s1 ⟨x, H1, I1, rx, q1⟩ => thn (hi.run pins s1 σ H1 _ I1 q1) fun iv s2 ⟨y, H2, I2, ry, a, kvs, k, b, ex, e, ey, eb, l, q2⟩ => ?_)))
  subst ex ey
  obtain rfl : u = Value.ref a := rx
  cases (show iv = Value.ref b from ry)
  obtain ⟨z, hd, xs, rel, dd⟩ := dt_of I2.hok e
  have hz : xs.length ≤ sizeLine := by rw [← Paired.length rel]; exact z
  obtain ⟨p, hp⟩ : ∃ p, atKey xs k = some p := by
    have r := rel.val k
    cases ev : valV kvs k with
    | none =>
      rw [ev] at l
      cases l
    | some v0 =>
      rw [ev] at r
      cases ea : atKey xs k with
      | none =>
        rw [ea] at r
        exact (show False from r).elim
      | some p => exact ⟨p, rfl⟩
  refine wpAny_delItem_heap (hsz := hz) (knd := tupleKind (mixKind X.prog X.w)) (tupleKind_room_in1 hu) (key_of I2.hok eb) hd dd hp fun h' dd' hs => wpAny_deleteEach_nil ⟨σ, _, ?_, q2⟩
  obtain ⟨qo, es, ep', hq, h2, h3, h4, _, h5⟩ := dd'
  exact d_write I2 (by rw [e]; exact True.intro) hs ⟨qo, hq⟩ ⟨Nat.le_trans (dropK_le kvs k) z, hd, _, (kt_without k rel).keeps (fun c ys ec => (by rw [upd_ne (ne_of ec e (fun z => nomatch z))]; exact ec)), qo, es, ep', hq, h2, h3, h4, h5⟩
/-- len(x), x of an own class whose __len__ is the def at g -/
def rLenI (C : Addr) (sp : Sp) : List V → Hp → VK → Prop := fun xs H Q => ∃ a dx fs, xs = [.ref a] ∧ H a = some (.ins C dx fs) ∧ sp [.ref a] H (fun z H' => ∃ n : Int, z = .int n ∧ 0 ≤ n ∧ n < 2 ^ 63 ∧ Q (.int n) H') E0
theorem call_lenI {C g : Addr} {n : Nat} {fd : FuncData} {ps : List Str} {sp : Sp} (hs : Meth X.K C "__len__" g) (F : FnOk X.prog X.w X.K X.mg X.base CX0 n g fd ps sp) (hb : Binds X.K fd ps []) (hr : Room (n + 1) X.A) (hx : Passes CX0 X E0) : CallR X (.builtin "len") (rLenI C sp) := by
  intro pins s σ H xs us Q I r h
  obtain ⟨a, dx, fs, rfl, ea, q⟩ := h
  obtain ⟨u, rfl, ru⟩ := r.one
  cases (show u = Value.ref a from ru)
  obtain ⟨mA, O, _, _, _, _⟩ := ins_get I.hok ea
  obtain ⟨od, J, _⟩ := O.look
  obtain ⟨m, hF⟩ := I.fr
  have hl : ([Value.ref a] ++ []).length = ps.length := F.len _ _ _ _ q
  have run : codeAny (model X.prog X.w) X.A.in1 (.call (.ref g) ⟨[.ref a], []⟩) (fun r s' => match r with
      | .ok (.ret v) => EP X pins σ (fun z H' => ∃ n : Int, z = .int n ∧ 0 ≤ n ∧ n < 2 ^ 63 ∧ Q (.int n) H') v s'
      | .ok _ => False
      | .error e => X.xe e s') s := by
    refine codeAny_mono (F.run X.A.in1 X.stack s H ⟨[Value.ref a], []⟩ [Value.ref a] [V.ref a] _ E0 hr.in1 I.env0.in1 (hb s [Value.ref a] I.kIn hl) r q) fun r s' hq => ?_
    cases r with
    | error e => exact hx pins σ H s e s' I hq
    | ok fl =>
      cases fl with
      | ret u => exact I.after hq
      | next => exact False.elim hq
      | brk => exact False.elim hq
      | cont => exact False.elim hq
  refine PySem.W.len_K hF I.ok.mod.kin J hs.at_ hs.fn (wpAny_mono (wpAny_call run) (fun w s' z => ?_) fun _ _ x => x)
  · obtain ⟨z', H', I', rz, i, ei, i0, i1, qz⟩ := z
    subst ei
    obtain ⟨t, e⟩ := (show ∃ t, w = Value.int i t from rz)
    cases e
    exact ⟨⟨i0, i1⟩, .int i, H', I'.tok _, ⟨_, rfl⟩, qz⟩
end
end Kin
/-! sorted(xs), xs a list of names: tuples of numbers of any length, () among them. -/
namespace Kin
open PySem PySem.Spec PyProof.Rows L2
/-- a name's rank: its numbers as figures, the first one the greatest -/
def rk (B : Int) : Nat → List Int → Int
  | _, [] => 0
  | 0, _ :: _ => 0
  | L + 1, x :: r => (x + 1) * B ^ L + rk B L r
def nameOk (B : Int) (L : Nat) (ns : List Int) : Prop := ns.length ≤ L ∧ ∀ m ∈ ns, 0 ≤ m ∧ m + 1 < B
theorem nameOk.tl {B x : Int} {L : Nat} {r : List Int} (h : nameOk B (L + 1) (x :: r)) : nameOk B L r := ⟨Nat.le_of_succ_le_succ h.1, fun m hm => h.2 m (List.mem_cons_of_mem _ hm)⟩
theorem pow_pos1 {B : Int} (hB : 0 < B) : ∀ L : Nat, 0 < B ^ L
  | 0 => by rw [Int.pow_zero]; decide
  | L + 1 => by
    rw [Int.pow_succ]
    exact Int.mul_pos (pow_pos1 hB L) hB
theorem rk_nil (B : Int) (L : Nat) : rk B L [] = 0 := by cases L <;> rfl
theorem rk_bd {B : Int} (hB : 0 < B) : ∀ (L : Nat) (ns : List Int), nameOk B L ns → 0 ≤ rk B L ns ∧ rk B L ns < B ^ L
  | L, [], _ => by
    rw [rk_nil]
    exact ⟨Int.le_refl _, pow_pos1 hB L⟩
  | 0, _ :: _, h => absurd h.1 (Nat.not_succ_le_zero _)
  | L + 1, x :: r, h => by
    obtain ⟨c0, c1⟩ := rk_bd hB L r h.tl
    obtain ⟨d0, d1⟩ := h.2 x List.mem_cons_self
    show 0 ≤ (x + 1) * B ^ L + rk B L r ∧ (x + 1) * B ^ L + rk B L r < B ^ (L + 1)
    rw [Int.pow_succ]
    exact TS.num1 c0 c1 (by omega) d1
theorem rk_lex {B : Int} (hB : 0 < B) : ∀ (L : Nat) (ns ms : List Int), nameOk B L ns → nameOk B L ms → HT.lexLt ns ms = decide (rk B L ns < rk B L ms)
  | L, [], [], _, _ => by
    rw [HT.lexLt_nil_nil]
    exact (decide_eq_false (Int.lt_irrefl _)).symm
  | 0, _ :: _, _, h, _ => absurd h.1 (Nat.not_succ_le_zero _)
  | 0, [], _ :: _, _, h => absurd h.1 (Nat.not_succ_le_zero _)
  | L + 1, [], y :: ms, _, h => by
    rw [HT.lexLt_nil_cons, rk_nil]
    obtain ⟨c0, c1⟩ := rk_bd hB L ms h.tl
    obtain ⟨d0, _⟩ := h.2 y List.mem_cons_self
    have hp := pow_pos1 hB L
    have := TS.num2 (P := B ^ L) (d := 0) (e := y + 1) (c := 0) (g := rk B L ms) (Int.le_refl _) hp c0 (by omega)
    rw [Int.zero_mul, Int.zero_add] at this
    exact (decide_eq_true this).symm
  | L + 1, x :: ns, [], h, _ => by
    rw [HT.lexLt_cons_nil, rk_nil]
    have := (rk_bd hB (L + 1) (x :: ns) h).1
    exact (decide_eq_false (by omega)).symm
  | L + 1, x :: ns, y :: ms, h1, h2 => by
    rw [HT.lexLt_cons]
    obtain ⟨c0, c1⟩ := rk_bd hB L ns h1.tl
    obtain ⟨g0, g1⟩ := rk_bd hB L ms h2.tl
    show _ = decide ((x + 1) * B ^ L + rk B L ns < (y + 1) * B ^ L + rk B L ms)
    by_cases e : x = y
    · rw [if_pos e, rk_lex hB L ns ms h1.tl h2.tl, e]
      refine decide_eq_decide.mpr ?_
      generalize (y + 1) * B ^ L = Z
      constructor <;> intro z <;> omega
    · rw [if_neg e]
      refine decide_eq_decide.mpr ⟨fun z => TS.num2 c0 c1 g0 (by omega), fun z => ?_⟩
      rcases Int.lt_trichotomy x y with q | q | q
      · exact q
      · exact absurd q e
      · have := TS.num2 (P := B ^ L) (d := y + 1) (e := x + 1) (c := rk B L ms) (g := rk B L ns) g0 g1 c0 (by omega)
        omega
section
variable {prog : Program} {w : World} {A : Around} {E : Value → Shared → Prop} {s : Shared}
/-- by tuple's own < -/
theorem one_tup {l b : Addr} {xs ys : Array Value} {ns ms : List Int} {Q : Bool → Shared → Prop} (hl : IsTup s.heap l xs) (hb : IsTup s.heap b ys) (hi : IntsAre xs.toList ns) (hj : IntsAre ys.toList ms) (hu : A.units < cLine)
    (h : Q (HT.lexLt ns ms) s) : ∀ c : Bool, wpAny (model prog w) A (oneLt' c (.ref l) (.ref b)) Q E s
  | false => PySem.W.kat_one _ _ (HT.lt_tupInts hl hb hi hj hu h)
  | true => by
    obtain ⟨⟨cls, dd, data, sl⟩, ho, hc, n, hd⟩ := id hl
    obtain ⟨⟨cls2, dd2, data2, sl2⟩, ho2, hc2, n2, hd2⟩ := id hb
    simp only at hc hd hc2 hd2
    subst hc hd hc2 hd2
    rw [oneLt'_eq]
    simp only [if_true]
    refine wpAny_bind (wpAny_cRoomFor hu ?_)
    refine wpAny_bind (wpAny_callSpecialIfBound?_slot ⟨_, ho, rfl⟩ PySem.F.slot_tuple_lt (call_meets PySem.F.slot_tuple_lt ⟨_, ho, rfl⟩ PySem.F.entry_tuple_lt (PySem.F.args_tuple_lt_2 _ _) (HT.tuple_lt_ints l b xs ys n n2 dd dd2 sl sl2 ns ms hi hj) ⟨ho, ho2, ?_⟩))
    exact wpAny_truthy_bool h
/-- by the sort's own walk over both -/
theorem lex_walk {b : Bool} {Q : Bool → Shared → Prop} : ∀ {xs ys : List Value} {ns ms : List Int} (i : Nat) (fin : Bool), IntsAre xs ns → IntsAre ys ms → fin = decide (ns.length < ms.length) → Q (HT.lexLt ns ms) s → PySem.W.KatLex prog w A b fin Q (xs.zip ys) i s
  | _, _, _, _, i, fin, .nil, .nil, hf, h => by
    subst hf
    exact PySem.W.kat_nil h
  | _, _, _, _, i, fin, .nil, .cons q u hy, hf, h => by
    subst hf
    rw [List.zip_nil_left]
    refine PySem.W.kat_nil ?_
    rw [HT.lexLt_nil_cons] at h
    rw [decide_eq_true (by rw [List.length_cons]; exact Nat.succ_pos _)]
    exact h
  | _, _, _, _, i, fin, .cons p t hx, .nil, hf, h => by
    subst hf
    rw [List.zip_nil_right]
    refine PySem.W.kat_nil ?_
    rw [HT.lexLt_cons_nil] at h
    rw [decide_eq_false (by rw [List.length_nil]; exact Nat.not_lt_zero _)]
    exact h
  | _, _, _, _, i, fin, .cons p t hx, .cons q u hy, hf, h => by
    rw [List.zip_cons_cons]
    refine PySem.W.kat_cons (wpAny_eqBool_int ?_)
    rw [HT.lexLt_cons] at h
    by_cases e : p = q
    · subst e
      rw [if_pos rfl] at h
      rw [beq_self_eq_true]
      exact PySem.W.kat_yes (lex_walk (i + 1) fin hx hy (by rw [hf, List.length_cons, List.length_cons]; exact decide_eq_decide.mpr (by omega)) h)
    · rw [if_neg e] at h
      rw [show (p == q) = false from beq_eq_false_iff_ne.mpr e]
      exact PySem.W.kat_no (TS.oneLt_ints _ h)
end
/-! ### which way a sort of names compares -/
def NamesOk (h : Heap) (B : Int) (L : Nat) (vs : List Value) : Prop := ∀ v, v ∈ vs → ∃ ns, TS.TupInts h v ns ∧ nameOk B L ns
theorem NamesOk.keeps {h h' : Heap} {B : Int} {L : Nat} {vs : List Value} (x : NamesOk h B L vs) (k : ∀ b o, h.get? b = some o → o.cls = .type "tuple" → h'.get? b = some o) : NamesOk h' B L vs := fun v hv =>
  let ⟨ns, t, r⟩ := x v hv; ⟨ns, t.keeps k, r⟩
section
variable {prog : Program} {w : World} {A : Around} {E : Value → Shared → Prop} {s : Shared}
/-- the first numbers, None of () -/
theorem firsts_mix : ∀ (vs : List Value), (∀ v ∈ vs, ∃ ns, TS.TupInts s.heap v ns) → ∃ fs : List (Option Value), ((∃ v ∈ vs, TS.TupInts s.heap v []) → none ∈ fs) ∧ ((¬ ∃ v ∈ vs, TS.TupInts s.heap v []) → ∃ gs, PySem.W.KatTups s.heap vs gs ∧ gs.length = vs.length ∧ ∀ f ∈ gs, ∃ n t, f = Value.int n t) ∧
    ∀ {M : Model} {A : Around} {E : Value → Shared → Prop} {Q : List (Option Value) → Shared → Prop}, Q fs s → wpAny M A (vs.mapM firstOfTuple') Q E s
  | [], _ => ⟨[], (fun ⟨v, hv, _⟩ => by cases hv), (fun _ => ⟨[], PySem.W.KatTups.nil, rfl, fun f hf => by cases hf⟩), fun {M A E Q} h => by
      rw [List.mapM_nil]
      exact wpAny_pure h⟩
  | v :: vs, x => by
    obtain ⟨fs, h1, h2, h3⟩ := firsts_mix vs fun u hu => x u (List.mem_cons_of_mem _ hu)
    obtain ⟨ns, a, xs, rfl, ⟨o, ho, hc, n, hd⟩, hi⟩ := x v List.mem_cons_self
    refine ⟨xs[0]? :: fs, ?_, ?_, fun {M A E Q} h => ?_⟩
    · rintro ⟨u, hu, hn⟩
      rcases List.mem_cons.mp hu with e | e
      · subst e
        have e2 := (show TS.TupInts s.heap (.ref a) ns from ⟨a, xs, rfl, ⟨o, ho, hc, n, hd⟩, hi⟩).ints.symm.trans hn.ints
        subst e2
        have hl := hi.length
        have hx : xs[0]? = none := by
          rw [Array.getElem?_eq_none]
          rw [Array.length_toList] at hl
          exact Nat.le_of_eq hl
        rw [hx]
        exact List.mem_cons_self
      · exact List.mem_cons_of_mem _ (h1 ⟨u, e, hn⟩)
    · intro hno
      obtain ⟨gs, g1, g2, g3⟩ := h2 fun ⟨u, hu, hn⟩ => hno ⟨u, List.mem_cons_of_mem _ hu, hn⟩
      obtain ⟨y, ys, e⟩ : ∃ y ys, xs.toList = y :: ys := by
        cases q : xs.toList with
        | nil =>
          rw [q] at hi
          cases hi
          exact absurd ⟨_, List.mem_cons_self, a, xs, rfl, ⟨o, ho, hc, n, hd⟩, by rw [q]; exact .nil⟩ hno
        | cons y ys => exact ⟨y, ys, rfl⟩
      obtain ⟨m, t, hy⟩ := hi.all y (by rw [e]; exact List.mem_cons_self)
      refine ⟨y :: gs, PySem.W.KatTups.cons ho hc hd ?_ g1, by simp [g2], ?_⟩
      · have z := congrArg (fun l : List Value => l[0]?) e
        simpa using z
      · intro f hf
        rcases List.mem_cons.mp hf with z | z
        · exact ⟨m, t, z.trans hy⟩
        · exact g3 f z
    · rw [List.mapM_cons]
      refine wpAny_bind ?_
      rw [PySem.W.kas_first_eq]
      refine wpAny_bind (PySem.W.Looks.here (show PySem.W.Looks M s.heap (typeOf (.ref a)) o.cls from (PySem.W.Looks.ld ho).andThen .now) ?_)
      rw [hc, if_neg (by first | decide | simp)]
      refine wpAny_bind (listItems_at ho hd (wpAny_pure ?_))
      exact wpAny_bind (h3 (wpAny_pure h))
theorem cmp_names {B : Int} {L : Nat} {vs : List Value} (hB : 0 < B) (hu : A.units < cLine) (x : NamesOk s.heap B L vs) (r : Value → Int) (hr : ∀ v, v ∈ vs → ∀ ns, TS.TupInts s.heap v ns → r v = rk B L ns) :
    TS.Cmp prog w A s (tuples' true) (pairsOf vs) r ∧ TS.Cmp prog w A s general' (pairsOf vs) r ∧ TS.Cmp prog w A s oneType' (pairsOf vs) r := by
  have key : ∀ (κ : SortKind), (∀ (a b : Addr) (xs ys : Array Value) (ns ms : List Int) (Q : Bool → Shared → Prop) (E : Value → Shared → Prop), IsTup s.heap a xs → IsTup s.heap b ys → IntsAre xs.toList ns → IntsAre ys.toList ms → Q (HT.lexLt ns ms) s → wpAny (model prog w) A (keyLt' κ (.ref a) (.ref b)) Q E s) →
      TS.Cmp prog w A s κ (pairsOf vs) r := by
    intro κ hκ p q hp hq Q' E' hQ
    rw [pairsOf_toList] at hp hq
    obtain ⟨ns, tp, np⟩ := x _ (mem_zip_self hp).2
    obtain ⟨ms, tq, nq⟩ := x _ (mem_zip_self hq).2
    have ep := hr _ (mem_zip_self hp).2 _ tp
    have eq2 := hr _ (mem_zip_self hq).2 _ tq
    obtain ⟨a, xs, e1, t1, i1⟩ := tp
    obtain ⟨b, ys, e2, t2, i2⟩ := tq
    rw [e1, e2]
    refine hκ a b xs ys ns ms Q' E' t1 t2 i1 i2 ?_
    rw [rk_lex hB L ns ms np nq, ← ep, ← eq2]
    exact hQ
  refine ⟨key _ fun a b xs ys ns ms Q E t1 t2 i1 i2 h => ?_, key _ fun a b xs ys ns ms Q E t1 t2 i1 i2 h => one_tup t1 t2 i1 i2 hu h false, key _ fun a b xs ys ns ms Q E t1 t2 i1 i2 h => one_tup t1 t2 i1 i2 hu h true⟩
  obtain ⟨o, ho, hc, n, hd⟩ := t1
  obtain ⟨o2, ho2, hc2, n2, hd2⟩ := t2
  refine PySem.W.kat_lt ho hd ho2 hd2 (lex_walk 0 _ i1 i2 ?_ h)
  have l1 := i1.length
  have l2 := i2.length
  rw [Array.length_toList] at l1 l2
  rw [l1, l2]
theorem kind_names {B : Int} {L : Nat} {vs : List Value} (hB : 0 < B) (hu : A.units < cLine) (h2 : 2 ≤ vs.length) (x : NamesOk s.heap B L vs) (r : Value → Int) (hr : ∀ v, v ∈ vs → ∀ ns, TS.TupInts s.heap v ns → r v = rk B L ns) (Q : SortKind → Shared → Prop)
    (h : ∀ κ, TS.Cmp prog w A s κ (pairsOf vs) r → Q κ s) : wpAny (model prog w) A (keyKind' vs.toArray) Q E s := by
  obtain ⟨c1, c2, c3⟩ := cmp_names (prog := prog) (w := w) hB hu x r hr
  obtain ⟨fs, f1, f2, f3⟩ := firsts_mix (s := s) vs fun v hv => let ⟨ns, t, _⟩ := x v hv; ⟨ns, t⟩
  by_cases he : ∃ v ∈ vs, TS.TupInts s.heap v []
  · have hn := f1 he
    rw [kat_kind_eq, List.mapM_toArray, map_eq_pure_bind]
    refine wpAny_bind (wpAny_bind (f3 (wpAny_pure ?_)))
    have hall : ¬ (fs.toArray.all fun x => x.isSome) = true := by
      rw [List.all_toArray, List.all_eq_true]
      intro z
      exact absurd (z none hn) (by decide)
    rw [if_neg hall]
    by_cases h0 : (fs.toArray[0]?.bind id).isSome = true
    · rw [if_pos h0]
      exact wpAny_pure (h _ c2)
    · rw [if_neg h0, oneTypeOnly'_eq, List.mapM_toArray, map_eq_pure_bind]
      refine wpAny_bind (wpAny_bind (wpAny_bind (PySem.W.kas_mapM (r := Value.type "tuple") vs (fun v hv Q' hq => ?_) (wpAny_pure ?_))))
      · obtain ⟨ns, ⟨a, xs, rfl, ⟨o, ho, hc, n, hd⟩, hi⟩, _⟩ := x v hv
        refine PySem.W.Looks.here (show PySem.W.Looks (model prog w) s.heap (typeOf (.ref a)) o.cls from (PySem.W.Looks.ld ho).andThen .now) ?_
        rw [hc]
        exact hq
      · cases vs with
        | nil => cases h2
        | cons v1 vr =>
          have hall2 : ((List.map (fun _ => Value.type "tuple") (v1 :: vr)).toArray.all fun x => x == Value.type "tuple") = true := by
            simp only [List.all_toArray, List.all_map, List.all_eq_true]
            intro _ _
            rfl
          have h00 : (List.map (fun _ => Value.type "tuple") (v1 :: vr)).toArray[0]? = some (Value.type "tuple") := by simp
          rw [h00]
          simp only [hall2, if_true]
          exact wpAny_pure (wpAny_pure (h _ c3))
  · obtain ⟨gs, g1, g2, g3⟩ := f2 he
    refine PySem.W.kat_kind (T := Value.type "int") g1 (by omega) (fun f hf => ?_) rfl (h _ c1)
    obtain ⟨n, t, rfl⟩ := g3 f hf
    exact PySem.W.Looks.of_pure rfl
end
/-! ### sorted -/
theorem perm_lift {α β : Type} {f : α → β} : ∀ {l : List β} {ks : List α}, l.Perm (ks.map f) → ∃ ks' : List α, ks'.Perm ks ∧ ks'.map f = l
  | [], ks, h => by
    have e : ks.map f = [] := h.symm.eq_nil
    have e2 : ks = [] := List.map_eq_nil_iff.mp e
    subst e2
    exact ⟨[], List.Perm.refl _, rfl⟩
  | b :: l, ks, h => by
    obtain ⟨k, hk, rfl⟩ := List.mem_map.mp (h.mem_iff.mp List.mem_cons_self)
    obtain ⟨s1, t1, rfl⟩ := List.append_of_mem hk
    have h2 : (f k :: l).Perm (f k :: (s1 ++ t1).map f) := by
      refine h.trans ?_
      rw [List.map_append, List.map_cons, List.map_append]
      exact List.perm_middle
    obtain ⟨ks', p1, p2⟩ := perm_lift (f := f) h2.cons_inv
    exact ⟨k :: ks', (p1.cons k).trans List.perm_middle.symm, by rw [List.map_cons, p2]⟩
section
variable {prog : Program} {w : World} {A : Around} {E : Value → Shared → Prop} {s : Shared}
theorem sort_names {a : Addr} {vs : List Value} {n L : Nat} {B : Int} {P : PySem.Fin → Shared → Prop} (ho : s.heap.get? a = some (seqObj "list" vs.toArray n)) (h64 : vs.length < 64) (hB : 0 < B) (hu : A.units < cLine) (x : NamesOk s.heap B L vs)
    (r : Value → Int) (hr : ∀ v, v ∈ vs → ∀ ns, TS.TupInts s.heap v ns → r v = rk B L ns)
    (h : ∀ out : Array Value, out.toList.Perm vs → out.toList.Pairwise (fun u v => r u ≤ r v) → P (.done (.ret .none)) { s with heap := sortedHeap s.heap a vs out }) :
    wpAny (model prog w) A (Builtin.«list.sort» ⟨[.ref a], []⟩) P E s := by
  have stays : ∀ b o, s.heap.get? b = some o → o.cls = .type "tuple" → (TS.midHeap s.heap a vs).get? b = some o := by
    intro b o e hc
    apply TS.midHeap_old _ e
    intro q
    subst q
    rw [ho] at e
    cases e
    have hc : Value.type "list" = Value.type "tuple" := hc
    injection hc with z
    exact absurd z (by decide)
  refine SK.plain_sort (r := r) ho h64 (fun two Q hQ => ?_) fun ps out h1 h2 h3 => ?_
  · refine kind_names (s := { s with heap := TS.midHeap s.heap a vs }) hB hu two (x.keeps stays) r (fun v hv ns t => ?_) Q hQ
    obtain ⟨ns0, t0, _⟩ := x v hv
    obtain rfl : ns = ns0 := t.ints.symm.trans (t0.keeps stays).ints
    exact hr v hv ns t0
  · obtain ⟨p1, p2⟩ := TS.out_rank h1 h2 h3
    exact h out p1 p2
theorem sorted_names {l : Addr} {vs : List Value} {L : Nat} {B : Int} {Q : Value → Shared → Prop} (hl : s.heap.IsList l vs.toArray) (h64 : vs.length < 64) (hB : 0 < B) (hu : A.units + 4 < cLine) (x : NamesOk s.heap B L vs)
    (h : ∀ out : Array Value, out.toList.Perm vs → out.toList.Pairwise (fun u v => rk B L (TS.intsOf s.heap u) ≤ rk B L (TS.intsOf s.heap v)) → Q (.ref (s.heap.objs.size + 1)) { s with heap := sortedAll s.heap vs out }) :
    wpAny (model prog w) A (call (.builtin "sorted") [.ref l]) Q E s := by
  refine Calls.call_function_entry kind_sorted plain_sorted entry_sorted (args_sorted1 _) ?_
  unfold Builtin.«sorted»
  refine wpAny_bind (m := checkCount "sorted" 1 1 _) (wpAny_pure ?_)
  refine wpAny_bind (collect_list hl ?_ (by rw [sizeLine_eq]; omega))
  refine wpAny_bind (wpAny_newList ?_ (by rw [sizeLine_eq]; omega))
  have size1 : ((s.heap.push (seqObj "list" #[] 0)).update s.heap.objs.size (Obj.mapSeq (· ++ vs.toArray))).objs.size = s.heap.objs.size + 1 := by
    rw [Heap.size_update, size_push']
  have at1 : (((s.heap.push (seqObj "list" #[] 0)).update s.heap.objs.size (Obj.mapSeq (· ++ vs.toArray))).push (seqObj "list" vs.toArray 0)).get? (s.heap.objs.size + 1) = some (seqObj "list" vs.toArray 0) := by
    rw [← size1]
    exact Heap.get?_push_size _ rfl
  have stays : ∀ b o, s.heap.get? b = some o → o.cls = .type "tuple" → (((s.heap.push (seqObj "list" #[] 0)).update s.heap.objs.size (Obj.mapSeq (· ++ vs.toArray))).push (seqObj "list" vs.toArray 0)).get? b = some o := by
    intro b o q _
    have lt := Heap.lt_size q
    rw [Heap.get?_push_ne _ _ _ (by rw [size1]; exact Nat.ne_of_lt (Nat.lt_succ_of_lt lt)), Heap.get?_update_ne _ _ _ _ (Nat.ne_of_lt lt), Heap.get?_push_ne _ _ _ (Nat.ne_of_lt lt)]
    exact q
  show wpAny _ _ _ _ _ { s with heap := ((s.heap.push (seqObj "list" #[] 0)).update s.heap.objs.size (Obj.mapSeq (· ++ vs.toArray))).push (seqObj "list" vs.toArray 0) }
  rw [size1]
  refine wpAny_bind (wpAny_holding (wpAny_call_entry slot_list_sort ⟨_, at1, rfl⟩ entry_list_sort (sort_names at1 h64 hB (by show A.units + 1 + 1 < cLine; omega) (x.keeps stays) (fun v => rk B L (TS.intsOf s.heap v)) (fun v hv ns t => ?_) fun out a1 a2 => ⟨_, rfl, wpAny_pure ⟨_, rfl, h out a1 a2⟩⟩) (args_list_sort _)))
  obtain ⟨ns0, t0, _⟩ := x v hv
  obtain rfl : ns = ns0 := t.ints.symm.trans (t0.keeps stays).ints
  show rk B L (TS.intsOf s.heap v) = rk B L ns
  rw [t0.ints]
end
section
variable {X : Cx}
/-- sorted(xs), xs a list of names -/
def rSortedN (K : PySem.W.Frag) (B : Int) (L : Nat) : List V → Hp → VK → Prop := fun vs H Q => ∃ (a : Addr) (ks : List (Addr × List Int)), vs = [V.ref a] ∧ SqL K H a (ks.map fun p => V.ref p.1) ∧ (∀ p ∈ ks, SqT K H p.1 (p.2.map V.int) ∧ nameOk B L p.2) ∧ ks.length < 64 ∧
  ∀ (ks' : List (Addr × List Int)) (p : Addr), ks'.Perm ks → ks'.Pairwise (fun q r => rk B L q.2 ≤ rk B L r.2) → H p = none → Q (.ref p) (upd H p (.lst (ks'.map fun p => V.ref p.1)))
theorem cr_sortedN {B : Int} {L : Nat} (hB : 0 < B) (hu : X.A.units + 64 < cLine) : CallR X (.builtin "sorted") (rSortedN X.K B L) := by
  intro pins s σ H vs us Q I r h
  obtain ⟨a, ks, rfl, hs, hk, h64, q⟩ := h
  obtain ⟨its, rv, hl, hz⟩ := I.list hs
  rw [Vals.ref1 r]
  have hits : its = ks.map fun p => Value.ref p.1 := refs_of_vals rv
  subst hits
  have tups : ∀ p ∈ ks, TS.TupInts s.heap (.ref p.1) p.2 := fun p hp => by
    obtain ⟨its2, r2, t2, _⟩ := I.tuple (hk p hp).1
    exact ⟨p.1, _, rfl, t2, by simpa using r2.ints⟩
  have names : NamesOk s.heap B L (ks.map fun p => Value.ref p.1) := fun v hv => by
    obtain ⟨p, hp, rfl⟩ := List.mem_map.mp hv
    exact ⟨p.2, tups p hp, (hk p hp).2⟩
  refine sorted_names hl.isList (by rw [List.length_map]; exact h64) hB (by omega) names fun out p1 p2 => ?_
  obtain ⟨ep, he⟩ := sortedAll_at s.heap (ks.map fun p => Value.ref p.1) out
  obtain ⟨ks', k1, k2⟩ := perm_lift p1
  have pw : ks'.Pairwise (fun q r => rk B L q.2 ≤ rk B L r.2) := by
    rw [← k2] at p2
    refine List.Pairwise.imp_of_mem (fun {q r} hq hr hle => ?_) (List.pairwise_map.mp p2)
    rw [(tups q (k1.mem_iff.mp hq)).ints, (tups r (k1.mem_iff.mp hr)).ints] at hle
    exact hle
  have len : (ks'.map fun p => V.ref p.1).length ≤ sizeLine := by
    rw [List.length_map, k1.length_eq]
    exact small64 h64
  exact ⟨.ref _, upd H (s.heap.objs.size + 1) (.lst (ks'.map fun p => V.ref p.1)), I.laid (t' := s.toks) (fun _ _ => sortedAll_old) (Nat.le_succ _) ⟨len, out.toList, ep, by rw [← k2]; exact vals_of_refs ks', he⟩, rfl, q ks' _ k1 pw (I.hok.fresh (Nat.le_succ _))⟩
end
end Kin
/-! Own rules: enumerate(tuple) walked; d.update(d2) of dicts with text and number keys. -/
namespace Kin
open PySem PySem.Spec PyProof.Rows L2
theorem meets_enumT (l : Addr) (items : Array Value) :
    Meets (Builtin.«enumerate.__new__» ⟨[.type "enumerate", .ref l], []⟩) (fun _ R s => s.heap.IsTuple l items ∧
      R (.ok (.ret (.ref (s.heap.push { cls := .type "tuple_iterator", data := .fields #[.ref l, .int 0 0] }).objs.size)))
        { s with heap := (s.heap.push { cls := .type "tuple_iterator", data := .fields #[.ref l, .int 0 0] }).push { cls := .type "enumerate", data := .fields #[.none, .bool false, .ref s.heap.objs.size, rawInt 0, .none, .none] } }) :=
  .of_wp fun prog w A R s h => by
    obtain ⟨hp, g, d, tk, os⟩ := s; obtain ⟨h1, h⟩ := h
    have hsub := sub_enumerate
    have q1 : ∀ {A' : Around} {E : Value → Shared → Prop} {Q : Value → Shared → Prop}, Q (.ref hp.objs.size) ⟨hp.push { cls := .type "tuple_iterator", data := .fields #[.ref l, .int 0 0] }, g, d, tk, os⟩ → wpAny (model prog w) A' (pyIter (.ref l)) Q E ⟨hp, g, d, tk, os⟩ :=
      fun q => (begins_tuple l items).iter prog w _ _ ⟨hp, g, d, tk, os⟩ _ h1 q
    wp_walk using q1
    refine wpAny_stack_any fun st => wpAny_pure ?_
    split
    · rename_i c _ _ _ _ _
      cases (c == Value.type "enumerate")
      · wp_walk using q1
        exact ⟨_, rfl, h⟩
      · wp_walk using q1
        exact ⟨_, rfl, h⟩
    · wp_walk using q1
      exact ⟨_, rfl, h⟩
theorem call_enumT {prog : Program} {w : World} {A : Around} {E : Value → Shared → Prop} {s : Shared} {l : Addr} {items : Array Value} {Q : Value → Shared → Prop} (hL : s.heap.IsTuple l items)
    (h : ∀ h', IsEnum h' (s.heap.objs.size + 1) s.heap.objs.size 0 .none → h'.IsTupleIter s.heap.objs.size l 0 → h'.objs.size = s.heap.objs.size + 2 →
      (∀ b o, s.heap.get? b = some o → h'.get? b = some o) → Q (.ref (s.heap.objs.size + 1)) { s with heap := h' }) :
    wpAny (model prog w) A (call (.type "enumerate") [.ref l]) Q E s := by
  refine callType_new F.called_enumerate (by decide) (F.typeCall_enumerate_1 _) (F.newCall_enumerate_1 _) (fun obj => F.args_object_init_2 obj _) F.entry_enumerate_new
    (meets_enumT l items) ⟨hL, ?_⟩
  have hz : (s.heap.push { cls := .type "tuple_iterator", data := .fields #[.ref l, .int 0 0] }).objs.size = s.heap.objs.size + 1 := Heap.size_push ..
  show _ ∧ _
  rw [hz]
  have he : IsEnum ((s.heap.push { cls := .type "tuple_iterator", data := .fields #[.ref l, .int 0 0] }).push
      { cls := .type "enumerate", data := .fields #[.none, .bool false, .ref s.heap.objs.size, rawInt 0, .none, .none] }) (s.heap.objs.size + 1) s.heap.objs.size 0 .none := by
    have := Heap.get?_push_size (s.heap.push { cls := .type "tuple_iterator", data := .fields #[.ref l, .int 0 0] })
      (o := { cls := .type "enumerate", data := .fields #[.none, .bool false, .ref s.heap.objs.size, rawInt 0, .none, .none] }) rfl
    rw [hz] at this; exact this
  refine ⟨⟨_, he, rfl⟩, h _ he ⟨_, Heap.get?_push_of_some _ (Heap.get?_push_size _ rfl), rfl, rfl⟩ (by rw [Heap.size_push, hz]) fun b o x => Heap.get?_push_of_some _ (Heap.get?_push_of_some _ x)⟩
end Kin
namespace Kin
open PySem PySem.Spec PyProof.Rows L2
/-- the tuple at a as it stands at each turn, each item in a new pair -/
def ItT (K : PySem.W.Frag) (a : Addr) : It :=
  ⟨fun i H => ∃ (xs : List V) (x : V), SqT K H a xs ∧ xs[i]? = some x, fun i H v H' => ∃ T x, v = .ref T ∧ H T = none ∧ H' = upd H T (.tup [.int (i : Nat), x]) ∧ ∀ xs, SqT K H a xs → xs[i]? = some x, fun i H => ∃ xs : List V, SqT K H a xs ∧ xs.length = i⟩
theorem turn_enumT {P : Program} {w : World} {K : PySem.W.Frag} {elts : List Expr} {kk : Nat} {tpos : Pos} (a e it : Addr) (hai : a ≠ it) (hea : e ≠ a) (hei : e ≠ it) :
    Turn P w K (.Tuple elts kk tpos) (ItT K a) [e, it] e (fun i h => (∃ old, IsEnum h e it ((i : Nat) : Int) old) ∧ h.IsTupleIter it a i) where
  mem := by simp
  obj := fun i h st b hb => by
    obtain ⟨⟨old, he⟩, ⟨o, ho, hc, hd⟩⟩ := st
    have e' : b = e ∨ b = it := by simpa using hb
    rcases e' with z | z
    · rw [z]; exact ⟨_, he, fun v q => nomatch q⟩
    · rw [z]; exact ⟨o, ho, fun v q => by rw [hd] at q; cases q⟩
  keep := fun i h h' st k => let ⟨⟨old, he⟩, hi⟩ := st; ⟨⟨old, k e (by simp) _ he⟩, hi.at fun o q => k it (by simp) o q⟩
  item := by
    intro X hP hw hK hc i pins s σ H E I hf st hg
    subst hP hw hK
    obtain ⟨⟨old, he⟩, hit⟩ := st
    obtain ⟨xs, x, hq, hx⟩ := hg
    obtain ⟨its, rv, p, hz⟩ := I.tuple hq
    obtain ⟨u, hu, ru⟩ := rv.get hx
    have hel : e < s.heap.objs.size := Heap.lt_size he
    have hil : it < s.heap.objs.size := by obtain ⟨_, q, _⟩ := hit; exact Heap.lt_size q
    have hlt : i < its.toArray.size := by
      have := (List.getElem?_eq_some_iff.mp hu).1
      simpa using this
    have D := Draws.tuple (prog := X.prog) (w := X.w) (A := X.A.in1) (I.ok.hd hc) it a hai its.toArray
    refine wpAny_pyNext_enum_itemD D he ⟨hit, p⟩ hlt hei (by simp [hei, hea]) fun x' h' tk hPx ho hit' hT hsz hk => ?_
    have ex' : x' = u := by
      have hPx : its.toArray[i]? = some x' := hPx
      have hu' : its.toArray[i]? = some u := by simpa using hu
      exact Option.some.inj (hPx.symm.trans hu')
    subst ex'
    refine ⟨_, rfl, wpAny_letOwnedTupleGo_enum (s := { s with heap := h', toks := tk + 1 }) ho fun h'' he' sb => ?_⟩
    have hT2 : h''.get? s.heap.objs.size = some { cls := .type "tuple", data := .seq #[.int i tk, x'] } := (sb.2 _ (Nat.ne_of_gt hel)).trans hT
    have new : ObjOk X.prog X.w (upd H s.heap.objs.size (.tup [.int (i : Nat), x])) h'' s.heap.objs.size (.tup [.int (i : Nat), x]) :=
      ⟨by show 2 ≤ sizeLine; decide, [.int i tk, x'], .cons ⟨_, rfl⟩ (.cons ru .nil), ⟨_, hT2, rfl, _, rfl⟩⟩
    have I1 : Inv X pins σ (upd H s.heap.objs.size (.tup [.int (i : Nat), x])) { s with heap := h'', toks := tk + 1 } :=
      I.turnedNew (ch := [e, it]) (fun b ob hb q => (sb.2 b (fun z => hb (by simp [z]))).trans (hk b ob (fun z => hb (by simp [z])) (fun z => hb (by simp [z])) q)) hf (Nat.le_refl _) new
    refine ⟨.ref s.heap.objs.size, _, I1, rfl, ⟨_, x, rfl, I.hok.fresh (Nat.le_refl _), rfl, fun ys hy => by rw [I.tuple_inj hy hq]; exact hx⟩, ⟨⟨x', ?_⟩, hit'.1.at fun o q => (sb.2 it (Ne.symm hei)).trans q⟩, fun b hb => ?_⟩
    · have e1 : ((i + 1 : Nat) : Int) = (i : Int) + 1 := by omega
      rw [e1]; exact he'
    · have hb' : b < s.heap.objs.size := by
        have e' : b = e ∨ b = it := by simpa using hb
        rcases e' with z | z
        · rw [z]; exact hel
        · rw [z]; exact hil
      rw [upd_ne (Nat.ne_of_lt hb')]
      exact (hf b hb).1
  done := by
    intro X hP hw hK hc i pins s σ H E I hf st hg
    subst hP hw hK
    obtain ⟨⟨old, he⟩, hit⟩ := st
    obtain ⟨xs, hq, hx⟩ := hg
    obtain ⟨its, rv, p, hz⟩ := I.tuple hq
    obtain ⟨f0, f1, f2, f3, f4, f5⟩ := hf it (by simp)
    have hl := rv.length
    have D := Draws.tuple (prog := X.prog) (w := X.w) (A := X.A.in1) (I.ok.hd hc) it a hai its.toArray
    have hi : i = its.toArray.size := by simp; omega
    subst hi
    exact wpAny_pyNext_enum_endD D he ⟨hit, p⟩ fun h' eb => ⟨rfl, I.turned (t' := s.toks) (fun b o hb q => eb b o hb q) f0 f1 f3 f4 f5⟩
  self := fun A i s Q E st h => let ⟨⟨_, he⟩, _⟩ := st; wpAny_pyIter_enum he h
def iEnumT (K : PySem.W.Frag) (ta : TA) : TI := fun σ H R => ta σ H fun vs H1 => ∃ a xs, vs = [.ref a] ∧ SqT K H1 a xs ∧ R (ItT K a) H1
theorem pi_enumT {X : Cx} {e : Expr} {ta : TA} {p pos tpos : Pos} {elts : List Expr} {kk : Nat} (hg : Gl X "enumerate") (hm : X.mg "enumerate" = none) (ha : PA X [e] ta) (hs : starEach [e] X.env = [(false, eval e X.env)] := by rfl) :
    PI X (.Tuple elts kk tpos) (.Call (.Name "enumerate" p) [e] [] pos) (iEnumT X.K ta) := by
  refine ⟨fun pins s σ H R I h => ?_⟩
  refine Call_ (ld_blt I hg hm boot_enumerate (PyProof.Rows.callWith_type1 (thn (ha.run pos pins s σ H _ I h) fun us s1 ⟨vs, H1, I1, r1, q1⟩ => ?_) hs rfl))
  obtain ⟨a, xs, ex, hq, q⟩ := q1
  subst ex
  cases r1 with
  | cons r rr =>
    cases rr
    cases r
    obtain ⟨its, rv, p', hz⟩ := I1.tuple hq
    have hal : a < s1.heap.objs.size := by obtain ⟨_, q, _⟩ := id p'; exact Heap.lt_size q
    refine call_enumT (show s1.heap.IsTuple a its.toArray from p') fun h' he hit hsz hk => wpAny_pyIter_enum he ?_
    have I2 : Inv X pins σ H1 { s1 with heap := h' } := I1.kept (t' := s1.toks) hk
    refine ⟨s1.heap.objs.size + 1, [s1.heap.objs.size + 1, s1.heap.objs.size], _, _, H1, rfl, I2, turn_enumT a (s1.heap.objs.size + 1) s1.heap.objs.size (Nat.ne_of_lt hal) (Nat.ne_of_gt (Nat.lt_succ_of_lt hal)) (Nat.succ_ne_self _), ⟨⟨.none, he⟩, hit⟩, fun b hb => ?_, q⟩
    have e' : b = s1.heap.objs.size + 1 ∨ b = s1.heap.objs.size := by simpa using hb
    have hle : s1.heap.objs.size ≤ b := by
      rcases e' with z | z
      · rw [z]; exact Nat.le_add_right _ _
      · rw [z]; exact Nat.le_refl _
    exact I1.fpOk hle (I1.hok.fresh hle)
theorem walk_enumT {K : PySem.W.Frag} {a : Addr} {xs : List V} : Walk (ItT K a) xs.length (fun H => SqT K H a xs) (YPair (fun i => some (.int (i : Nat))) (fun i => xs[i]?)) := by
  refine ⟨fun i _ hi q => ⟨xs, xs[i], q, by simp [hi]⟩, fun _ q => ⟨xs, q, rfl⟩, fun i H v H' _ q y => ?_⟩
  obtain ⟨T, x, h1, h2, h3, h4⟩ := y
  exact ⟨T, .int (i : Nat), x, h1, h2, h3, rfl, h4 xs q⟩
/-! ### d.update(d2) -/
def rUpdate : V → List V → Hp → VK → Prop := fun x vs H Q => ∃ (a b : Addr) (kvs more : List (Key × V)), x = .ref a ∧ vs = [.ref b] ∧ a ≠ b ∧ H a = some (.dK kvs) ∧ H b = some (.dK more) ∧ kvs.length + more.length ≤ 1000000 ∧ Q .non (upd H a (.dK (mergeK kvs more)))
theorem mt_update {X : Cx} : MtR X "dict.update" rUpdate := by
  intro pins s σ H x vs v us Q I rx rv h
  obtain ⟨a, b, kvs, more, ex, ev, hab, ea, eb, hl, q⟩ := h
  subst ex ev
  obtain rfl : v = Value.ref a := rx
  obtain ⟨u, eu, ru⟩ := vals1 rv
  subst eu
  obtain rfl : u = Value.ref b := ru
  obtain ⟨z, hd, ws, rel, dd⟩ := dk_of I.hok ea
  obtain ⟨z2, hd2, ws2, rel2, dd2⟩ := dk_of I.hok eb
  have l1 := rel.length
  have l2 := rel2.length
  have hsz : ws.length + ws2.length ≤ sizeLine := by
    rw [← l1, ← l2]
    exact Nat.le_trans hl (by decide)
  refine call_meetsIn PySem.F.slot_dict_update dd.typeIs PySem.F.entry_dict_update (PySem.F.args_dict_update_2 _ _) (meets_dict_update (mixKind X.prog X.w) a b hab hd2) ⟨ws, ws2, dd, dd2, hsz, fun h' dd' ddo hs => ?_⟩
  have he : ∃ q, h'.get? a = some q := let ⟨q, _, _, hq, _⟩ := dd'; ⟨q, hq⟩
  have hlen : (mergeK kvs more).length ≤ sizeLine := Nat.le_trans (length_mergeK more kvs) (Nat.le_trans hl (by decide))
  exact ⟨.non, _, d_write (t' := s.toks) I (by rw [ea]; exact True.intro) hs he (dk_new hlen hd (KV.merge rel2 rel) dd'), rfl, q⟩
end Kin
namespace Kin
open PySem
theorem lAll7_eq : ∀ ds : List PyData, lAll7 ds = ds.all fun d => pOne d sig7
  | [] => rfl
  | d :: r => by
    show (pOne d sig7 && lAll7 r) = _
    rw [lAll7_eq r]
    rfl
theorem lUp_all : ∀ l : List Nat, ((List.range (l.length - 1)).map fun i => decide (l[i]?.getD 0 < l[i + 1]?.getD 0)).all id = lUp l
  | [] => rfl
  | [_] => rfl
  | a :: b :: r => by
    have ih := lUp_all (b :: r)
    have e : lUp (a :: b :: r) = (decide (a < b) && lUp (b :: r)) := by
      conv => lhs; unfold lUp
    rw [e, ← ih]
    show ((List.range ((b :: r).length - 1 + 1)).map _).all id = _
    rw [List.range_succ_eq_map, List.map_cons, List.all_cons, List.map_map]
    rfl
theorem lParts_all (w : Str) (n : Int) : ∀ (ps : List PyData) (k : Nat), ((List.range ps.length).map fun i => (match ps[i]? with | some p => lPart w (k + i) p n | none => true)).all id = lParts w n k ps
  | [], _ => rfl
  | p :: ps, k => by
    rw [List.length_cons, List.range_succ_eq_map, List.map_cons, List.all_cons, List.map_map]
    have ih := lParts_all w n ps (k + 1)
    show (lPart w k p n && ((List.range ps.length).map fun i => (match ps[i]? with | some p => lPart w (k + (i + 1)) p n | none => true)).all id) = (lPart w k p n && lParts w n (k + 1) ps)
    rw [← ih]
    have e : (fun i => (match ps[i]? with | some p => lPart w (k + (i + 1)) p n | none => true)) = fun i => (match ps[i]? with | some p => lPart w (k + 1 + i) p n | none => true) := by
      funext i
      rw [show k + (i + 1) = k + 1 + i by omega]
    rw [e]
end Kin
namespace Kin
open PySem
theorem pp_title (d : PyData) (n : Int) : pPart "title" d n = pTitle d := by
  unfold pPart
  rw [if_pos rfl]
theorem pp_small (d : PyData) (n : Int) : pPart "small" d n = pSmall d := by
  unfold pPart
  rw [if_neg (by decide +kernel), if_pos rfl]
theorem pp_whole (d : PyData) (n : Int) : pPart "whole" d n = pWhole d := by
  unfold pPart
  rw [if_neg (by decide +kernel), if_neg (by decide +kernel), if_pos rfl]
theorem pp_truth (d : PyData) (n : Int) : pPart "truth" d n = isBool d := by
  unfold pPart
  rw [if_neg (by decide +kernel), if_neg (by decide +kernel), if_neg (by decide +kernel), if_pos rfl]
theorem pp_row (d : PyData) (n : Int) : pPart "row" d n = pRowNo d n := by
  unfold pPart
  rw [if_neg (by decide +kernel), if_neg (by decide +kernel), if_neg (by decide +kernel), if_neg (by decide +kernel), if_pos rfl]
theorem pp_signal (d : PyData) (n : Int) : pPart "signal" d n = pOne d sig9 := by
  unfold pPart
  rw [if_neg (by decide +kernel), if_neg (by decide +kernel), if_neg (by decide +kernel), if_neg (by decide +kernel), if_neg (by decide +kernel), if_pos rfl]
theorem pp_loose (d : PyData) (n : Int) : pPart "loose" d n = pLoose d := by
  unfold pPart
  rw [if_neg (by decide +kernel), if_neg (by decide +kernel), if_neg (by decide +kernel), if_neg (by decide +kernel), if_neg (by decide +kernel), if_neg (by decide +kernel), if_pos rfl]
theorem pp_signals (d : PyData) (n : Int) : pPart "signals" d n = pAre d := by
  unfold pPart
  rw [if_neg (by decide +kernel), if_neg (by decide +kernel), if_neg (by decide +kernel), if_neg (by decide +kernel), if_neg (by decide +kernel), if_neg (by decide +kernel), if_neg (by decide +kernel), if_pos rfl]
theorem pp_how (d : PyData) (n : Int) : pPart "how" d n = (pOne d ["plain", "ignore"] || pHandler d n) := by
  unfold pPart
  rw [if_neg (by decide +kernel), if_neg (by decide +kernel), if_neg (by decide +kernel), if_neg (by decide +kernel), if_neg (by decide +kernel), if_neg (by decide +kernel), if_neg (by decide +kernel), if_neg (by decide +kernel), if_pos rfl]
theorem pp_where (d : PyData) (n : Int) : pPart "where" d n = pOne d ["new", "mine"] := by
  unfold pPart
  rw [if_neg (by decide +kernel), if_neg (by decide +kernel), if_neg (by decide +kernel), if_neg (by decide +kernel), if_neg (by decide +kernel), if_neg (by decide +kernel), if_neg (by decide +kernel), if_neg (by decide +kernel), if_neg (by decide +kernel), if_pos rfl]
theorem pp_which (d : PyData) (n : Int) : pPart "which" d n = if pNat d = true then true else isNone d := by
  unfold pPart
  rw [if_neg (by decide +kernel), if_neg (by decide +kernel), if_neg (by decide +kernel), if_neg (by decide +kernel), if_neg (by decide +kernel), if_neg (by decide +kernel), if_neg (by decide +kernel), if_neg (by decide +kernel), if_neg (by decide +kernel), if_neg (by decide +kernel)]
  unfold pChild
  rw [if_pos (show ("which" : Str) = "which" from rfl)]
theorem pp_who (d : PyData) (n : Int) : pPart "who" d n = if pNat d = true then true else pOne d ["self"] := by
  unfold pPart
  rw [if_neg (by decide +kernel), if_neg (by decide +kernel), if_neg (by decide +kernel), if_neg (by decide +kernel), if_neg (by decide +kernel), if_neg (by decide +kernel), if_neg (by decide +kernel), if_neg (by decide +kernel), if_neg (by decide +kernel), if_neg (by decide +kernel)]
  unfold pChild
  rw [if_neg (show ¬ ("who" : Str) = "which" by decide +kernel), if_pos (show ("who" : Str) = "who" from rfl)]
theorem pp_to (d : PyData) (n : Int) : pPart "to" d n = if pNat d = true then true else pOne d ["self", "parent", "group"] := by
  unfold pPart
  rw [if_neg (by decide +kernel), if_neg (by decide +kernel), if_neg (by decide +kernel), if_neg (by decide +kernel), if_neg (by decide +kernel), if_neg (by decide +kernel), if_neg (by decide +kernel), if_neg (by decide +kernel), if_neg (by decide +kernel), if_neg (by decide +kernel)]
  unfold pChild
  rw [if_neg (show ¬ ("to" : Str) = "which" by decide +kernel), if_neg (show ¬ ("to" : Str) = "who" by decide +kernel)]
theorem lp_exec_0 (d : PyData) (n : Int) : lPart "exec" 0 d n = lTitle d := by
  unfold lPart
  rw [if_pos (by decide +kernel)]
theorem lp_end_0 (d : PyData) (n : Int) : lPart "end" 0 d n = lWhole d 0 100 := by
  unfold lPart
  rw [if_neg (by decide +kernel), if_pos (by decide +kernel)]
theorem lp_wait_0 (d : PyData) (n : Int) : lPart "wait" 0 d n = (isNone d || lWhole d 0 great) := by
  unfold lPart
  rw [if_neg (by decide +kernel), if_neg (by decide +kernel), if_pos (by decide +kernel), if_neg (by decide)]
theorem lp_wait_1 (d : PyData) (n : Int) : lPart "wait" 1 d n = isBool d := by
  unfold lPart
  rw [if_neg (by decide +kernel), if_neg (by decide +kernel), if_pos (by decide +kernel), if_pos rfl]
theorem lp_send_0 (d : PyData) (n : Int) : lPart "send" 0 d n = pOne d (sure ++ sig7) := by
  unfold lPart
  rw [if_neg (by decide +kernel), if_neg (by decide +kernel), if_neg (by decide +kernel), if_pos (by decide +kernel), if_pos rfl]
theorem lp_send_1 (d : PyData) (n : Int) : lPart "send" 1 d n = (lWhole d 0 great || pOne d ["self", "parent", "group"]) := by
  unfold lPart
  rw [if_neg (by decide +kernel), if_neg (by decide +kernel), if_neg (by decide +kernel), if_pos (by decide +kernel), if_neg (by decide)]
theorem lp_mask_0 (d : PyData) (n : Int) : lPart "mask" 0 d n = lAre d := by
  unfold lPart
  rw [if_neg (by decide +kernel), if_neg (by decide +kernel), if_neg (by decide +kernel), if_neg (by decide +kernel), if_pos (by decide +kernel)]
theorem lp_unmask_0 (d : PyData) (n : Int) : lPart "unmask" 0 d n = lAre d := by
  unfold lPart
  rw [if_neg (by decide +kernel), if_neg (by decide +kernel), if_neg (by decide +kernel), if_neg (by decide +kernel), if_pos (by decide +kernel)]
theorem lp_handle_0 (d : PyData) (n : Int) : lPart "handle" 0 d n = pOne d sig7 := by
  unfold lPart
  rw [if_neg (by decide +kernel), if_neg (by decide +kernel), if_neg (by decide +kernel), if_neg (by decide +kernel), if_neg (by decide +kernel), if_pos (by decide +kernel)]
theorem lp_handle_1 (d : PyData) (n : Int) : lPart "handle" 1 d n = (if isTup d = true then lHandler d n else pOne d ["plain", "ignore"]) := by
  unfold lPart
  rw [if_neg (by decide +kernel), if_neg (by decide +kernel), if_neg (by decide +kernel), if_neg (by decide +kernel), if_neg (by decide +kernel), if_neg (by decide +kernel), if_pos (by decide +kernel)]
theorem lp_group_0 (d : PyData) (n : Int) : lPart "group" 0 d n = (lWhole d 0 great || pOne d ["self"]) := by
  unfold lPart
  rw [if_neg (by decide +kernel), if_neg (by decide +kernel), if_neg (by decide +kernel), if_neg (by decide +kernel), if_neg (by decide +kernel), if_neg (by decide +kernel), if_neg (by decide +kernel), if_pos (by decide +kernel)]
theorem lp_group_1 (d : PyData) (n : Int) : lPart "group" 1 d n = pOne d ["new", "mine"] := by
  unfold lPart
  rw [if_neg (by decide +kernel), if_neg (by decide +kernel), if_neg (by decide +kernel), if_neg (by decide +kernel), if_neg (by decide +kernel), if_neg (by decide +kernel), if_neg (by decide +kernel), if_neg (by decide +kernel), if_pos (by decide +kernel)]
theorem lp_front_0 (d : PyData) (n : Int) : lPart "front" 0 d n = (lWhole d 0 great || pOne d ["self"]) := by
  unfold lPart
  rw [if_neg (by decide +kernel), if_neg (by decide +kernel), if_neg (by decide +kernel), if_neg (by decide +kernel), if_neg (by decide +kernel), if_neg (by decide +kernel), if_neg (by decide +kernel), if_pos (by decide +kernel)]
theorem lp_say_0 (d : PyData) (n : Int) : lPart "say" 0 d n = lWhole d 0 100 := by
  unfold lPart
  rw [if_neg (by decide +kernel), if_pos (by decide +kernel)]
theorem lp_goto_0 (d : PyData) (n : Int) : lPart "goto" 0 d n = lWhole d 0 n := by
  unfold lPart
  rw [if_neg (by decide +kernel), if_neg (by decide +kernel), if_neg (by decide +kernel), if_neg (by decide +kernel), if_neg (by decide +kernel), if_neg (by decide +kernel), if_neg (by decide +kernel), if_neg (by decide +kernel), if_neg (by decide +kernel), if_neg (by decide +kernel)]
theorem lp_iff_0 (d : PyData) (n : Int) : lPart "if" 0 d n = lWhole d (0 - great) great := by
  unfold lPart
  rw [if_neg (by decide +kernel), if_neg (by decide +kernel), if_neg (by decide +kernel), if_neg (by decide +kernel), if_neg (by decide +kernel), if_neg (by decide +kernel), if_neg (by decide +kernel), if_neg (by decide +kernel), if_neg (by decide +kernel), if_pos (by decide +kernel)]
theorem lp_iff_1 (d : PyData) (n : Int) : lPart "if" 1 d n = lWhole d 0 n := by
  unfold lPart
  rw [if_neg (by decide +kernel), if_neg (by decide +kernel), if_neg (by decide +kernel), if_neg (by decide +kernel), if_neg (by decide +kernel), if_neg (by decide +kernel), if_neg (by decide +kernel), if_neg (by decide +kernel), if_neg (by decide +kernel), if_neg (by decide +kernel)]
theorem sig_app (d : PyData) : pOne d sig9 = pOne d (sure ++ sig7) := rfl
theorem which_eq {d : PyData} (hb : bnd d = true) : (if pNat d = true then true else isNone d) = (isNone d || lWhole d 0 great) := by
  rw [nat_eq hb]
  cases lWhole d 0 great <;> cases isNone d <;> rfl
theorem to_eq {d : PyData} (hb : bnd d = true) : (if pNat d = true then true else pOne d ["self", "parent", "group"]) = (lWhole d 0 great || pOne d ["self", "parent", "group"]) := by
  rw [nat_eq hb]
  cases lWhole d 0 great <;> rfl
theorem who_eq {d : PyData} (hb : bnd d = true) : (if pNat d = true then true else pOne d ["self"]) = (lWhole d 0 great || pOne d ["self"]) := by
  rw [nat_eq hb]
  cases lWhole d 0 great <;> rfl
theorem e_exec_0 (n : Int) (d : PyData) (hb : bnd d = true) : pPart "title" d n = lPart "exec" 0 d n := by
  rw [pp_title, lp_exec_0]
  exact title_eq d
theorem e_end_0 (n : Int) (d : PyData) (hb : bnd d = true) : pPart "small" d n = lPart "end" 0 d n := by
  rw [pp_small, lp_end_0]
  exact small_eq d
theorem e_wait_0 (n : Int) (d : PyData) (hb : bnd d = true) : pPart "which" d n = lPart "wait" 0 d n := by
  rw [pp_which, lp_wait_0]
  exact which_eq hb
theorem e_wait_1 (n : Int) (d : PyData) (hb : bnd d = true) : pPart "truth" d n = lPart "wait" 1 d n := by
  rw [pp_truth, lp_wait_1]
theorem e_send_0 (n : Int) (d : PyData) (hb : bnd d = true) : pPart "signal" d n = lPart "send" 0 d n := by
  rw [pp_signal, lp_send_0]
  exact sig_app d
theorem e_send_1 (n : Int) (d : PyData) (hb : bnd d = true) : pPart "to" d n = lPart "send" 1 d n := by
  rw [pp_to, lp_send_1]
  exact to_eq hb
theorem e_mask_0 (n : Int) (d : PyData) (hb : bnd d = true) : pPart "signals" d n = lPart "mask" 0 d n := by
  rw [pp_signals, lp_mask_0]
  exact are_eq d
theorem e_unmask_0 (n : Int) (d : PyData) (hb : bnd d = true) : pPart "signals" d n = lPart "unmask" 0 d n := by
  rw [pp_signals, lp_unmask_0]
  exact are_eq d
theorem e_handle_0 (n : Int) (d : PyData) (hb : bnd d = true) : pPart "loose" d n = lPart "handle" 0 d n := by
  rw [pp_loose, lp_handle_0]
  exact pLoose_eq d
theorem e_handle_1 (n : Int) (d : PyData) (hb : bnd d = true) : pPart "how" d n = lPart "handle" 1 d n := by
  rw [pp_how, lp_handle_1]
  exact how_eq d n
theorem e_group_0 (n : Int) (d : PyData) (hb : bnd d = true) : pPart "who" d n = lPart "group" 0 d n := by
  rw [pp_who, lp_group_0]
  exact who_eq hb
theorem e_group_1 (n : Int) (d : PyData) (hb : bnd d = true) : pPart "where" d n = lPart "group" 1 d n := by
  rw [pp_where, lp_group_1]
theorem e_front_0 (n : Int) (d : PyData) (hb : bnd d = true) : pPart "who" d n = lPart "front" 0 d n := by
  rw [pp_who, lp_front_0]
  exact who_eq hb
theorem e_say_0 (n : Int) (d : PyData) (hb : bnd d = true) : pPart "small" d n = lPart "say" 0 d n := by
  rw [pp_small, lp_say_0]
  exact small_eq d
theorem e_goto_0 (n : Int) (d : PyData) (hb : bnd d = true) : pPart "row" d n = lPart "goto" 0 d n := by
  rw [pp_row, lp_goto_0]
  exact rowno_eq d n
theorem e_iff_0 (n : Int) (d : PyData) (hb : bnd d = true) : pPart "whole" d n = lPart "if" 0 d n := by
  rw [pp_whole, lp_iff_0]
  exact whole_eq hb
theorem e_iff_1 (n : Int) (d : PyData) (hb : bnd d = true) : pPart "row" d n = lPart "if" 1 d n := by
  rw [pp_row, lp_iff_1]
  exact rowno_eq d n
theorem row_eq (n : Int) (w : Str) (ps : List PyData) (hb : ps.all bnd = true) : pRow (.tuple (.str w :: ps)) n = lRow (.tuple (.str w :: ps)) n := by
  by_cases hw : w ∈ words18
  · have hz : w = "fork" ∨ w = "exec" ∨ w = "end" ∨ w = "wait" ∨ w = "pause" ∨ w = "read" ∨ w = "send" ∨ w = "mask" ∨ w = "unmask" ∨ w = "handle" ∨ w = "return" ∨ w = "session" ∨ w = "group" ∨ w = "front" ∨ w = "taker" ∨ w = "say" ∨ w = "goto" ∨ w = "if" := by simpa [words18] using hw
    rcases hz with rfl | rfl | rfl | rfl | rfl | rfl | rfl | rfl | rfl | rfl | rfl | rfl | rfl | rfl | rfl | rfl | rfl | rfl
    · exact row_of (ks := []) (m := 0) (by decide +kernel) (by decide +kernel) rfl (fun h => by rw [List.length_eq_zero_iff.mp h]; rfl)
    · exact row_of (ks := ["title"]) (m := 1) (by decide +kernel) (by decide +kernel) rfl (fun h => parts1 (e_exec_0 n) hb h)
    · exact row_of (ks := ["small"]) (m := 1) (by decide +kernel) (by decide +kernel) rfl (fun h => parts1 (e_end_0 n) hb h)
    · exact row_of (ks := ["which", "truth"]) (m := 2) (by decide +kernel) (by decide +kernel) rfl (fun h => parts2 (e_wait_0 n) (e_wait_1 n) hb h)
    · exact row_of (ks := []) (m := 0) (by decide +kernel) (by decide +kernel) rfl (fun h => by rw [List.length_eq_zero_iff.mp h]; rfl)
    · exact row_of (ks := []) (m := 0) (by decide +kernel) (by decide +kernel) rfl (fun h => by rw [List.length_eq_zero_iff.mp h]; rfl)
    · exact row_of (ks := ["signal", "to"]) (m := 2) (by decide +kernel) (by decide +kernel) rfl (fun h => parts2 (e_send_0 n) (e_send_1 n) hb h)
    · exact row_of (ks := ["signals"]) (m := 1) (by decide +kernel) (by decide +kernel) rfl (fun h => parts1 (e_mask_0 n) hb h)
    · exact row_of (ks := ["signals"]) (m := 1) (by decide +kernel) (by decide +kernel) rfl (fun h => parts1 (e_unmask_0 n) hb h)
    · exact row_of (ks := ["loose", "how"]) (m := 2) (by decide +kernel) (by decide +kernel) rfl (fun h => parts2 (e_handle_0 n) (e_handle_1 n) hb h)
    · exact row_of (ks := []) (m := 0) (by decide +kernel) (by decide +kernel) rfl (fun h => by rw [List.length_eq_zero_iff.mp h]; rfl)
    · exact row_of (ks := []) (m := 0) (by decide +kernel) (by decide +kernel) rfl (fun h => by rw [List.length_eq_zero_iff.mp h]; rfl)
    · exact row_of (ks := ["who", "where"]) (m := 2) (by decide +kernel) (by decide +kernel) rfl (fun h => parts2 (e_group_0 n) (e_group_1 n) hb h)
    · exact row_of (ks := ["who"]) (m := 1) (by decide +kernel) (by decide +kernel) rfl (fun h => parts1 (e_front_0 n) hb h)
    · exact row_of (ks := []) (m := 0) (by decide +kernel) (by decide +kernel) rfl (fun h => by rw [List.length_eq_zero_iff.mp h]; rfl)
    · exact row_of (ks := ["small"]) (m := 1) (by decide +kernel) (by decide +kernel) rfl (fun h => parts1 (e_say_0 n) hb h)
    · exact row_of (ks := ["row"]) (m := 1) (by decide +kernel) (by decide +kernel) rfl (fun h => parts1 (e_goto_0 n) hb h)
    · exact row_of (ks := ["whole", "row"]) (m := 2) (by decide +kernel) (by decide +kernel) rfl (fun h => parts2 (e_iff_0 n) (e_iff_1 n) hb h)
  · have h1 : forms.lookup w = none := lookup_none hw
    have h2 : many.lookup w = none := lookup_none fun q => hw (by
      have hs : ∀ z ∈ many.map (·.1), z ∈ words18 := by decide +kernel
      exact hs w q)
    show (match forms.lookup w with | some ks => decide (ps.length = ks.length) && pParts n ks ps | none => false) = (match many.lookup w with | some m => decide ((ps.length : Int) + 1 = 1 + m) && lParts w n 0 ps | none => false)
    rw [h1, h2]
theorem rows_agree (n : Int) (d : PyData) (hb : bndAll d = true) : pRow d n = lRow d n := by
  cases d with
  | tuple ds =>
    cases ds with
    | nil => rfl
    | cons a r =>
      cases a with
      | str w =>
        have hb : (bnd (.str w) && r.all bnd) = true := hb
        exact row_eq n w r (Bool.and_eq_true_iff.mp hb).2
      | _ => rfl
  | _ => rfl
end Kin
/-! The hand that a law draws from: a list of a list of cells and a seed. What stands beside it stays. -/
namespace Kin
open PySem PySem.Spec PyProof.Rows L2
def bigM : Int := 2305843009213693951
/-- x: the hand, l: its cells, n of them -/
structure HandN (n : Nat) (x l : Addr) (H : Hp) : Prop where
  ex : ∃ (cells : List Int) (seed : Int), H x = some (.lst [.ref l, .int seed]) ∧ H l = some (.lst (cells.map V.int)) ∧ 0 ≤ seed ∧ seed < bigM ∧ (∀ c ∈ cells, 0 ≤ c) ∧ cells.length = n
  ne : x ≠ l
def Hand (x l : Addr) (H : Hp) : Prop := ∃ n, n ≤ 63 ∧ HandN n x l H
/-- all but the hand is kept -/
def Off (x l : Addr) (H H' : Hp) : Prop := ∀ b o, b ≠ x → b ≠ l → H b = some o → H' b = some o
/-- what stands beside the hand -/
def off (x l : Addr) (H : Hp) : Hp := fun b => if b = x ∨ b = l then none else H b
section
variable {x l : Addr} {H H1 H2 : Hp} {n : Nat}
theorem Off.refl : Off x l H H := fun _ _ _ _ h => h
theorem Off.trans (a : Off x l H H1) (b : Off x l H1 H2) : Off x l H H2 := fun c o h1 h2 e => b c o h1 h2 (a c o h1 h2 e)
theorem Off.of (a : Same H H1) : Off x l H H1 := fun c o _ _ e => a c o e
theorem off_some {b : Addr} {o : HO} : off x l H b = some o ↔ b ≠ x ∧ b ≠ l ∧ H b = some o := by
  unfold off
  by_cases h : b = x ∨ b = l
  · rw [if_pos h]
    constructor
    · intro q
      cases q
    · rintro ⟨h1, h2, _⟩
      rcases h with h | h
      · exact absurd h h1
      · exact absurd h h2
  · rw [if_neg h]
    exact ⟨fun q => ⟨fun z => h (.inl z), fun z => h (.inr z), q⟩, fun q => q.2.2⟩
theorem off_at {b : Addr} {o : HO} (h1 : b ≠ x) (h2 : b ≠ l) (h : H b = some o) : off x l H b = some o := off_some.mpr ⟨h1, h2, h⟩
theorem Off.same (a : Off x l H H1) : Same (off x l H) (off x l H1) := fun b o e => by
  obtain ⟨h1, h2, h3⟩ := off_some.mp e
  exact off_at h1 h2 (a b o h1 h2 h3)
theorem off_sub : Same (off x l H) H := fun b o e => (off_some.mp e).2.2
theorem HandN.cx (h : HandN n x l H) : ∃ o, H x = some o := let ⟨_, _, h1, _⟩ := h.ex; ⟨_, h1⟩
theorem HandN.cl (h : HandN n x l H) : ∃ o, H l = some o := let ⟨_, _, _, h1, _⟩ := h.ex; ⟨_, h1⟩
theorem Hand.nx (h : Hand x l H) {p : Addr} (hp : H p = none) : p ≠ x ∧ p ≠ l := by
  obtain ⟨n, _, hN⟩ := h
  obtain ⟨o, ho⟩ := hN.cx
  obtain ⟨o2, ho2⟩ := hN.cl
  exact ⟨(ne_of_none ho hp).symm, (ne_of_none ho2 hp).symm⟩
theorem HandN.same (h : HandN n x l H) (s : Same H H1) : HandN n x l H1 := by
  obtain ⟨cells, seed, h1, h2, h3⟩ := h.ex
  exact ⟨⟨cells, seed, s _ _ h1, s _ _ h2, h3⟩, h.ne⟩
theorem Hand.same (h : Hand x l H) (s : Same H H1) : Hand x l H1 := let ⟨n, hn, hN⟩ := h; ⟨n, hn, hN.same s⟩
end
theorem dp_off {K : PySem.W.Frag} {x l : Addr} {H : Hp} {v : V} {d : PyData} (h : Dp K (off x l H) v d) : Dp K H v d := dp_mono off_sub h
/-! ### promises of the drawing defs -/
def spHand (K : PySem.W.Frag) : Sp := fun vs H Q _ => ∃ (a : Addr) (ns : List Int), vs = [.ref a] ∧ SqL K H a (ns.map V.int) ∧ ns.length ≤ 63 ∧ ∀ x l H', Same H H' → H x = none → H l = none → Hand x l H' → Q (.ref x) H'
def spPick : Sp := fun vs H Q _ => ∃ (x l : Addr) (many : Int), vs = [.ref x, .int many] ∧ Hand x l H ∧ 0 < many ∧ many ≤ 1000000000 ∧ ∀ k H', 0 ≤ k → k < many → Hand x l H' → Off x l H H' → Q (.int k) H'
/-- of a list or a tuple that stands beside the hand, of a text -/
def spOf (K : PySem.W.Frag) : Sp := fun vs H Q _ => ∃ (x l : Addr) (s : V), vs = [.ref x, s] ∧ Hand x l H ∧
  ((∃ (a : Addr) (xs : List V), s = .ref a ∧ (SqL K (off x l H) a xs ∨ SqT K (off x l H) a xs) ∧ 0 < xs.length ∧ xs.length ≤ 1000 ∧ ∀ v H', v ∈ xs → Hand x l H' → Off x l H H' → Q v H') ∨
   (∃ z : Str, s = .str z ∧ 0 < z.length ∧ z.length ≤ 1000 ∧ ∀ c H', c ∈ z.cps.toList → Hand x l H' → Off x l H H' → Q (.str ⟨#[c]⟩) H'))
def spSignals : Sp := fun vs H Q _ => ∃ x l : Addr, vs = [.ref x] ∧ Hand x l H ∧ ∀ p (ss : List Str) H', ss.Sublist sig7 → H p = none → Hand x l H' → Off x l H H' → H' p = some (.tup (ss.map V.str)) → Q (.ref p) H'
theorem shaped_ints (cells : List Int) : SeqAt.shaped (.list (cells.map PyData.int)) = true := by
  have h1 : PyData.canLayAll0 (cells.map PyData.int) = true := by
    induction cells with
    | nil => rfl
    | cons c r ih =>
      rw [List.map_cons, PyData.canLayAll0, ih]
      rfl
  have h2 : PyData.depthAll (cells.map PyData.int) = 0 := by
    induction cells with
    | nil => rfl
    | cons c r ih =>
      rw [List.map_cons, PyData.depthAll, ih (by
        rw [List.map_cons, PyData.canLayAll0] at h1
        exact (Bool.and_eq_true_iff.mp h1).2)]
      rfl
  unfold SeqAt.shaped
  rw [PyData.canLay0, PyData.depth, h1, h2]
  rfl
theorem dp_ints {K : PySem.W.Frag} {H : Hp} (cells : List Int) : DpAll K H (cells.map V.int) (cells.map PyData.int) := by
  induction cells with
  | nil => exact .nil
  | cons c r ih => exact .cons (.int c) ih
theorem eqv_lnil (ds : List PyData) : PyData.eqv (.list ds) (.list []) = ds.isEmpty := by
  cases ds with
  | nil => simp [PyData.eqv, PyData.eqvAll]
  | cons a r => simp [PyData.eqv, PyData.eqvAll]
end Kin
/-! Small rules for tests, common to the law's own looks and to what it draws. -/
namespace Kin
open PySem PySem.Spec PyProof.Rows L2
section
variable {K : PySem.W.Frag}
theorem dec_at {i : Nat} {j : Nat} : decide (V.int (i : Int) = V.int (j : Int)) = decide (i = j) := by
  rw [dec_int']
  by_cases h : i = j
  · rw [decide_eq_true h, decide_eq_true (by omega)]
  · rw [decide_eq_false h, decide_eq_false (by omega)]
theorem ite_in {z : Str} {ws : List Str} {A B : Prop} (h1 : z ∈ ws → A) (h2 : ¬ z ∈ ws → B) : if inV (.str z) (ws.map V.str) = true then A else B := by
  rw [inV_strs]
  exact ite2 (fun e => h1 (of_decide_eq_true e)) (fun e => h2 fun q => e (decide_eq_true q))
theorem ite_at {i j : Nat} {A B : Prop} (h1 : i = j → A) (h2 : ¬ i = j → B) : if decide (V.int (i : Int) = V.int (j : Int)) = true then A else B := by
  rw [dec_at]
  exact ite2 (fun e => h1 (of_decide_eq_true e)) (fun e => h2 fun q => e (decide_eq_true q))
theorem non_dec {H : Hp} {x : V} {d : PyData} (h : Dp K H x d) : decide (x = V.non) = isNone d := by cases h <;> rfl
theorem ite_at' {i j : Nat} {A B : Prop} (h : if decide (i = j) = true then A else B) : if decide (V.int (i : Int) = V.int (j : Int)) = true then A else B := by
  rw [dec_at]
  exact h
theorem and_at {c : Bool} {P1 P2 : Prop} [Decidable P1] [Decidable P2] {A B M N : Prop} (hc : c = decide P1) (hN : B → N) (hM : (if decide P2 = true then A else B) → M) (h1 : P1 ∧ P2 → A) (h2 : ¬ (P1 ∧ P2) → B) : if c = true then M else N := by
  subst hc
  by_cases p1 : P1
  · rw [if_pos (decide_eq_true p1)]
    apply hM
    by_cases p2 : P2
    · rw [if_pos (decide_eq_true p2)]
      exact h1 ⟨p1, p2⟩
    · rw [if_neg (fun z => p2 (of_decide_eq_true z))]
      exact h2 fun z => p2 z.2
  · rw [if_neg (fun z => p1 (of_decide_eq_true z))]
    exact hN (h2 fun z => p1 z.1)
theorem isTup_isa (d : PyData) : isaTup d = isTup d := by cases d <;> rfl
theorem sing {H : Hp} {z : Str} (ws : List Str) (hz : z ∈ ws) : True := True.intro
end
end Kin
/-! Data that are nice; rows that are right. -/
namespace Kin
open PySem PySem.Spec PyProof.Rows L2
def near : PyData → Bool
  | .int i => decide (-1000000000 ≤ i) && decide (i ≤ 1000000000)
  | _ => true
def nearAll : PyData → Bool
  | .tuple ds => ds.all near
  | _ => true
def nice (d : PyData) : Bool := near d && (bnd d && (lenOk d && (d.canLay0 && decide (d.depth ≤ 3))))
theorem nice_of {d : PyData} (h : nice d = true) : bnd d = true ∧ lenOk d = true ∧ d.canLay0 = true ∧ d.depth ≤ 3 := by
  unfold nice at h
  simp only [Bool.and_eq_true, decide_eq_true_eq] at h
  exact h.2
theorem nice_near {ds : List PyData} (h : ds.all nice = true) : ds.all near = true := by
  rw [List.all_eq_true] at h ⊢
  intro d hd
  have := h d hd
  unfold nice at this
  exact (Bool.and_eq_true_iff.mp this).1
theorem nice_all : ∀ {ds : List PyData}, ds.all nice = true → ds.all bnd = true ∧ lenAll ds = true ∧ PyData.canLayAll0 ds = true ∧ PyData.depthAll ds ≤ 3
  | [], _ => ⟨rfl, by rw [lenAll], by rw [PyData.canLayAll0], by rw [PyData.depthAll]; decide⟩
  | d :: r, h => by
    rw [List.all_cons] at h
    obtain ⟨h1, h2⟩ := Bool.and_eq_true_iff.mp h
    obtain ⟨a1, a2, a3, a4⟩ := nice_of h1
    obtain ⟨b1, b2, b3, b4⟩ := nice_all h2
    refine ⟨?_, ?_, ?_, ?_⟩
    · rw [List.all_cons, a1, b1]; rfl
    · rw [lenAll, a2, b2]; rfl
    · rw [PyData.canLayAll0, a3, b3]; rfl
    · rw [PyData.depthAll]
      omega
/-- a tuple (or list) of nice things: fine for both looks -/
def fit (d : PyData) : Prop := bndAll d = true ∧ lenOk d = true ∧ SeqAt.shaped d = true
theorem fit_tup {ds : List PyData} (h : ds.all nice = true) (hl : ds.length ≤ 1000) : fit (.tuple ds) := by
  obtain ⟨b1, b2, b3, b4⟩ := nice_all h
  refine ⟨b1, ?_, ?_⟩
  · rw [lenOk, b2, decide_eq_true (show ds.length ≤ 1000000 by omega)]; rfl
  · unfold SeqAt.shaped
    rw [PyData.canLay0, PyData.depth, b3, decide_eq_true (show PyData.depthAll ds + 1 ≤ 64 by omega)]; rfl
theorem fit_list {ds : List PyData} (h : ds.all nice = true) (hl : ds.length ≤ 1000) : fit (.list ds) := by
  obtain ⟨b1, b2, b3, b4⟩ := nice_all h
  refine ⟨rfl, ?_, ?_⟩
  · rw [lenOk, b2, decide_eq_true (show ds.length ≤ 1000000 by omega)]; rfl
  · unfold SeqAt.shaped
    rw [PyData.canLay0, PyData.depth, b3, decide_eq_true (show PyData.depthAll ds + 1 ≤ 64 by omega)]; rfl
theorem nice_int {i : Int} (h0 : -1000000000 ≤ i) (h1 : i ≤ 1000000000) : nice (.int i) = true := by
  unfold nice
  rw [show near (.int i) = true by
    show (decide (-1000000000 ≤ i) && decide (i ≤ 1000000000)) = true
    rw [decide_eq_true h0, decide_eq_true h1]
    rfl, show bnd (.int i) = true by
    show (decide (0 - great ≤ i) && decide (i < great)) = true
    rw [decide_eq_true (show 0 - great ≤ i by unfold great; omega), decide_eq_true (show i < great by unfold great; omega)]
    rfl, lenOk, PyData.canLay0, PyData.depth]
  rfl
theorem nice_bool (b : Bool) : nice (.bool b) = true := by
  unfold nice
  rw [lenOk, PyData.canLay0, PyData.depth]
  rfl
theorem nice_none : nice .none = true := by
  unfold nice
  rw [lenOk, PyData.canLay0, PyData.depth]
  rfl
theorem nice_str {z : Str} (h : z.length ≤ 1000) (hz : PyData.strOk z = true) : nice (.str z) = true := by
  unfold nice
  rw [lenOk, PyData.canLay0, PyData.depth, hz, decide_eq_true (show z.length ≤ 1000000 by omega)]
  rfl
theorem nice_tup {ds : List PyData} (h : ds.all (fun d => nice d && decide (d.depth ≤ 2)) = true) (hl : ds.length ≤ 1000) : nice (.tuple ds) = true := by
  have h1 : ds.all nice = true := by
    rw [List.all_eq_true] at h ⊢
    intro d hd
    exact (Bool.and_eq_true_iff.mp (h d hd)).1
  obtain ⟨b1, b2, b3, b4⟩ := nice_all h1
  have h2 : PyData.depthAll ds ≤ 2 := by
    clear h1 b1 b2 b3 b4 hl
    induction ds with
    | nil => rw [PyData.depthAll]; decide
    | cons d r ih =>
      rw [List.all_cons] at h
      obtain ⟨h3, h4⟩ := Bool.and_eq_true_iff.mp h
      have h5 := of_decide_eq_true (Bool.and_eq_true_iff.mp h3).2
      have h6 := ih h4
      rw [PyData.depthAll]
      omega
  unfold nice
  rw [lenOk, PyData.canLay0, PyData.depth, b2, b3, decide_eq_true (show ds.length ≤ 1000000 by omega), decide_eq_true (show PyData.depthAll ds + 1 ≤ 3 by omega)]
  rfl
theorem nice_list {ds : List PyData} (h : ds.all (fun d => nice d && decide (d.depth ≤ 2)) = true) (hl : ds.length ≤ 1000) : nice (.list ds) = true := by
  have h0 := nice_of (nice_tup h hl)
  have h1 : lenOk (.list ds) = true := by
    have := h0.2.1
    rw [lenOk] at this
    rw [lenOk]
    exact this
  have h2 : PyData.canLay0 (.list ds) = true := by
    have := h0.2.2.1
    rw [PyData.canLay0] at this
    rw [PyData.canLay0]
    exact this
  have h3 : PyData.depth (.list ds) ≤ 3 := by
    have := h0.2.2.2
    rw [PyData.depth] at this
    rw [PyData.depth]
    exact this
  unfold nice
  rw [h1, h2, decide_eq_true h3]
  rfl
theorem row0_true {w : Str} {n : Int} (hf : forms.lookup w = some []) : pRow (.tuple [.str w]) n = true := by
  show (match forms.lookup w with | some ks => decide (([] : List PyData).length = ks.length) && pParts n ks [] | none => false) = true
  rw [hf]
  rfl
theorem row1_true {w k : Str} {n : Int} {d : PyData} (hf : forms.lookup w = some [k]) (h : pPart k d n = true) : pRow (.tuple [.str w, d]) n = true := by
  show (match forms.lookup w with | some ks => decide (([d] : List PyData).length = ks.length) && pParts n ks [d] | none => false) = true
  rw [hf]
  show (true && (pPart k d n && true)) = true
  rw [h]
  rfl
theorem row2_true {w k k2 : Str} {n : Int} {d d2 : PyData} (hf : forms.lookup w = some [k, k2]) (h : pPart k d n = true) (h2 : pPart k2 d2 n = true) : pRow (.tuple [.str w, d, d2]) n = true := by
  show (match forms.lookup w with | some ks => decide (([d, d2] : List PyData).length = ks.length) && pParts n ks [d, d2] | none => false) = true
  rw [hf]
  show (true && (pPart k d n && (pPart k2 d2 n && true))) = true
  rw [h, h2]
  rfl
def subs : List Str → List (List Str)
  | [] => [[]]
  | a :: r => subs r ++ (subs r).map (a :: ·)
theorem mem_subs {ss l : List Str} (h : ss.Sublist l) : ss ∈ subs l := by
  induction h with
  | slnil => exact List.mem_singleton.mpr rfl
  | cons a _ ih => exact List.mem_append_left _ ih
  | cons_cons a _ ih => exact List.mem_append_right _ (List.mem_map.mpr ⟨_, ih, rfl⟩)
theorem sub_up {ss : List Str} (hs : ss.Sublist sig7) : pAre (.tuple (ss.map PyData.str)) = true := by
  have h : ∀ ss ∈ subs sig7, pAre (.tuple (ss.map PyData.str)) = true := by decide +kernel
  exact h ss (mem_subs hs)
theorem sub_nice {ss : List Str} (hs : ss.Sublist sig7) : nice (.tuple (ss.map PyData.str)) = true ∧ PyData.depth (.tuple (ss.map PyData.str)) ≤ 1 := by
  have h : ∀ ss ∈ subs sig7, (nice (.tuple (ss.map PyData.str)) && decide (PyData.depth (.tuple (ss.map PyData.str)) ≤ 1)) = true := by decide +kernel
  have h2 := Bool.and_eq_true_iff.mp (h ss (mem_subs hs))
  exact ⟨h2.1, of_decide_eq_true h2.2⟩
end Kin
namespace HT
open PySem PySem.Spec PyProof.Rows L2
section
variable {prog : Program} {w : World} {A : Around} {E : Value → Shared → Prop} {s : Shared}
theorem places_back (n : Nat) : Builtin.Slice.slicePlaces ((n : Int) - 1) (-1) (-1) = n := by
  unfold Builtin.Slice.slicePlaces
  rw [if_neg (by decide)]
  by_cases h : (n : Int) - 1 > -1
  · rw [if_pos h]
    have e : ((n : Int) - 1 - -1 - 1) / - -1 + 1 = (n : Int) := by
      have : (- -1 : Int) = 1 := by decide
      rw [this, Int.ediv_one]
      omega
    rw [e]
    omega
  · rw [if_neg h]
    omega
theorem fm_congr {α β : Type} {f g : α → Option β} : ∀ {l : List α}, (∀ a ∈ l, f a = g a) → l.filterMap f = l.filterMap g
  | [], _ => rfl
  | a :: r, h => by
    rw [List.filterMap_cons, List.filterMap_cons, h a (by simp), fm_congr fun b hb => h b (by simp [hb])]
theorem pick_back (xs : Array Value) : ((List.range xs.size).filterMap fun (m : Nat) => xs[(((xs.size : Int) - 1) + (m : Int) * -1).toNat]?).toArray = xs.toList.reverse.toArray := by
  congr 1
  have e : (List.range xs.size).filterMap (fun (m : Nat) => xs[(((xs.size : Int) - 1) + (m : Int) * -1).toNat]?) = (List.range xs.size).filterMap (fun m => xs.toList.reverse[m]?) := by
    apply fm_congr
    intro m hm
    have hm : m < xs.size := List.mem_range.mp hm
    have e1 : (((xs.size : Int) - 1) + (m : Int) * -1).toNat = xs.size - 1 - m := by omega
    rw [e1, List.getElem?_reverse (by simpa using hm), ← Array.getElem?_toList, Array.length_toList]
  rw [e]
  have hl : xs.size = xs.toList.reverse.length := by simp
  rw [hl]
  generalize xs.toList.reverse = l
  apply List.ext_getElem?
  intro i
  have h2 : (List.range l.length).filterMap (fun m => l[m]?) = l := by
    induction l with
    | nil => rfl
    | cons a r ih =>
      rw [List.length_cons, List.range_succ_eq_map, List.filterMap_cons, List.filterMap_map]
      show a :: (List.range r.length).filterMap (fun m => r[m]?) = _
      rw [ih]
  rw [h2]
theorem sliceApplied_back {sl : Addr} {t : Tok} {n : Nat} {Q : Int × Int × Nat → Shared → Prop} (hs : s.heap.IsSliceOf sl .none .none (.int (-1) t))
    (h : Q ((n : Int) - 1, -1, n) s) : wpAny (model prog w) A (Builtin.Slice.sliceApplied (.ref sl) (pure (n : Int))) Q E s := by
  obtain ⟨os, hos, hcs, hds⟩ := id hs
  unfold Builtin.Slice.sliceApplied Builtin.Slice.sliceFields
  refine wpAny_bind (wpAny_bind (wpAny_field hos hds (x := .none) rfl (wpAny_bind (wpAny_field hos hds (x := .none) rfl (wpAny_bind (wpAny_field hos hds (x := .int (-1) t) rfl (wpAny_pure ?_)))))))
  refine wpAny_bind (slicePart_int ?_)
  show wpAny _ _ (if ((-1 : Int) == 0) = true then _ else _) _ _ s
  rw [if_neg (by decide)]
  refine wpAny_bind (slicePart_none (wpAny_bind (slicePart_none (wpAny_bind (wpAny_pure ?_)))))
  show wpAny _ _ (pure ((n : Int) - 1, (-1 : Int), Builtin.Slice.slicePlaces ((n : Int) - 1) (-1) (-1))) _ _ s
  rw [places_back]
  exact wpAny_pure h
theorem getItem_tuple_back {a sl : Addr} {items : Array Value} {t : Tok} {Q : Value → Shared → Prop} (ht : IsTup s.heap a items) (hs : s.heap.IsSliceOf sl .none .none (.int (-1) t))
    (h : Q (.ref s.heap.objs.size) { s with heap := s.heap.push { cls := .type "tuple", data := .seq items.toList.reverse.toArray } })
    (hsz : items.size ≤ sizeLine) : wpAny (model prog w) A (getItem (.ref a) (.ref sl)) Q E s := by
  have htake : sizeOk (.seq items.toList.reverse.toArray) := by
    show items.toList.reverse.toArray.size ≤ sizeLine
    rw [List.size_toArray, List.length_reverse, Array.length_toList]
    exact hsz
  obtain ⟨os, hos, hcs, hds⟩ := id hs
  have hTs : s.TypeIs (.ref sl) "slice" := ⟨os, hos, hcs⟩
  unfold getItem
  try with_reducible refine wpAny_holding ?_
  first | refine wpAny_bind (wpAny_pure ?_) | skip
  refine wpAny_bind (wpAny_sequenceKey ht.typeIs (by decide) ?_)
  refine wpAny_bind (wpAny_callSpecial?_slot (name := Str.ofString "__getitem__") ht.typeIs PyProof.Rows.slot_tuple_getitem
    (wpAny_call_entry PyProof.Rows.slot_tuple_getitem ht.typeIs entry_tuple_getitem ?_ (args_tuple_getitem _ _)))
  show wpAny _ _ (Builtin.Tuple.tupleItemsOf (.ref a) >>= _) _ _ s
  refine wpAny_bind (tupleItemsOf_ ht ?_)
  refine wpAny_bind (wpAny_typeOf hTs ?_)
  rw [if_pos (by decide)]
  refine wpAny_bind (sliceApplied_back hs ?_)
  have hno : ¬ ((((items.size : Int) - 1 == 0) && (-1 : Int) == 1 && items.size == items.size) = true) := by
    intro q
    rw [Bool.and_eq_true, Bool.and_eq_true] at q
    exact absurd (eq_of_beq q.1.2) (by decide)
  show wpAny _ _ (if (((items.size : Int) - 1 == 0) && (-1 : Int) == 1 && items.size == items.size) = true then _ else _) _ _ s
  rw [if_neg hno, pick_back]
  first
    | exact wpAny_bind (m := Builtin.Tuple.tupleExact _) (wpAny_newObj_type (wpAny_pure ⟨_, rfl, wpAny_pure h⟩) htake)
    | exact wpAny_bind (m := Builtin.Tuple.tupleExact _) (wpAny_newObj_type (wpAny_bind (wpAny_pure (wpAny_pure ⟨_, rfl, wpAny_pure h⟩))) htake)
    | exact wpAny_bind (wpAny_bind (m := Builtin.Tuple.tupleExact _) (wpAny_newObj_type (wpAny_pure (wpAny_pure ⟨_, rfl, wpAny_pure h⟩)) htake))
    | exact wpAny_bind (wpAny_bind (m := Builtin.Tuple.tupleExact _) (wpAny_newObj_type (wpAny_pure ⟨_, rfl, wpAny_pure h⟩) htake))
end
end HT
namespace Kin
open PySem PySem.Spec PyProof.Rows L2
section
variable {X : Cx}
def tRevT (K : PySem.W.Frag) (te : TE) : TE := fun σ H Q => te σ H fun x H1 => ∃ a xs, x = .ref a ∧ SqT K H1 a xs ∧ ∀ p, H1 p = none → Q (.ref p) (upd H1 p (.tup xs.reverse))
theorem pe_revT {e : Expr} {te : TE} {k : Nat} {p1 p2 p3 pos : Pos} (he : PE X e te) : PE X (.Subscript e (.Slice none none (some (.UnaryOp .USub (.Constant (.int 1) k p1) p2)) p3) pos) (tRevT X.K te) := by
  refine ⟨fun pins s σ H Q I h => ?_⟩
  refine Subscript_ (thn (he.run pins s σ H _ I h) fun v s1 ⟨x, H1, I1, r1, q1⟩ => ?_)
  obtain ⟨a, xs, ex, hx, q⟩ := q1
  subst ex
  cases r1
  have hst : PO X (some (.UnaryOp .USub (.Constant (.int 1) k p1) p2)) (tPart (tUn (rU fun i => .int (-i)) (tC (.int 1)))) := po_some (pe_un un_neg pe_int)
  refine wpAny_Slice (thn (po_none.run pins s1 σ H1 (fun o H2 => o = none ∧ H2 = H1) I1 ⟨rfl, rfl⟩) fun vl s2 ⟨l, H2, I2, pl, el, e2⟩ => ?_)
  subst el e2
  refine thn (po_none.run pins s2 σ H2 (fun o H3 => o = none ∧ H3 = H2) I2 ⟨rfl, rfl⟩) fun vu s3 ⟨u, H3, I3, pu, eu, e3⟩ => ?_
  subst eu e3
  refine thn (hst.run pins s3 σ H3 (fun o H4 => o = some (-1) ∧ H4 = H3) I3 ⟨1, rfl, -1, rfl, rfl, rfl⟩) fun vs s4 ⟨o, H4, I4, ps, eo, e4⟩ => ?_
  subst eo e4
  cases pl
  cases pu
  cases ps with
  | int _ tk =>
  have I5 : Inv X pins σ H4 { s4 with heap := s4.heap.push { cls := .type "slice", data := .fields #[.none, .none, .int (-1) tk] } } := I4.kept (t' := s4.toks) fun b ob q => Heap.get?_push_of_some _ q
  obtain ⟨its, r, ht, hz⟩ := I5.tuple hx
  have hlen := r.length
  show wpAny (model X.prog X.w) X.A (subscriptTail e (.Slice none none (some (.UnaryOp .USub (.Constant (.int 1) k p1) p2)) p3) (.ref a) (.ref s4.heap.objs.size)) (EP X pins σ Q) X.xe { s4 with heap := s4.heap.push { cls := .type "slice", data := .fields #[.none, .none, .int (-1) tk] } }
  refine tail_any (ops := [.ref a, .ref s4.heap.objs.size]) ht.typeIs (PyProof.Rows.slot_tuple_getitem.lookup) ?_ (by with_unfolding_all rfl)
  refine HT.getItem_tuple_back ht (Heap.IsSliceOf.new _ .none .none (.int (-1) tk)) ?_ (by rw [List.size_toArray]; omega)
  refine ⟨.ref _, _, I5.laid (t' := s4.toks) (o := .tup xs.reverse) (fun b ob q => Heap.get?_push_of_some _ q) (Nat.le_refl _) ?_, rfl, q _ (I5.hok.fresh (Nat.le_refl _))⟩
  exact ⟨by rw [List.length_reverse]; exact hz, _, r.reverse, IsTup.new _ _⟩
end
/-! ### comprehensions of data -/
section
variable {D F : Addr}
theorem same_off {H1 H' : Hp} (hD : H1 D = none) (s : Same H1 H') : Same (off F F H1) (off D F H') := fun b o e => by
  obtain ⟨h1, _, h3⟩ := off_some.mp e
  exact off_at (ne_of_none h3 hD) h1 (s b o h3)
theorem off_mut {H : Hp} {o : HO} : Same (off D F H) (off D F (upd H D o)) := fun b u e => by
  obtain ⟨h1, h2, h3⟩ := off_some.mp e
  exact off_at h1 h2 (by rw [upd_ne h1]; exact h3)
theorem off_mutF {H : Hp} {o : HO} : Same (off D F H) (off D F (upd H F o)) := fun b u e => by
  obtain ⟨h1, h2, h3⟩ := off_some.mp e
  exact off_at h1 h2 (by rw [upd_ne h2]; exact h3)
theorem off_same {H H' : Hp} (s : Same H H') : Same (off D F H) (off D F H') := fun b u e => by
  obtain ⟨h1, h2, h3⟩ := off_some.mp e
  exact off_at h1 h2 (s _ _ h3)
theorem off_F {H : Hp} : Same (off D F H) (off F F H) := fun b u e => by
  obtain ⟨h1, h2, h3⟩ := off_some.mp e
  exact off_at h2 h2 h3
theorem off_new {H1 : Hp} (hF : H1 F = none) : Same H1 (off F F H1) := fun b u e => off_at (ne_of_none e hF) (ne_of_none e hF) e
end
theorem lc_data {K : PySem.W.Frag} {J : It} {n : Nat} {G : Hp → Prop} {Y : Nat → Hp → V → Hp → Prop} (wk : Walk J n G Y) {g : TG} {te : TE} {vs : List Nat} {σ : L2.St} {H1 : Hp} {D : Addr} {Qd : Hp → Prop} (F : Addr) (R : PyData → Prop) (hD : H1 D = none) (hn : n ≤ 1000000)
    (hG : ∀ H', Same H1 H' → G H')
    (hs : ∀ (i : Nat) (x : V) (H' H'' : Hp) (Qe : VK), i < n → Same H1 H' → (∃ o, H' D = some o) → Y i H' x H'' → (∀ y d H4, Same H' H4 → Dp K (off D F H4) y d → R d → Qe y H4) → g x (wipe σ vs) H'' fun σ2 H2 => wipe σ2 vs = wipe σ vs ∧ te σ2 H2 Qe)
    (q : ∀ H' acc ds, Same H1 H' → H' D = some (.lst acc) → DpAll K (off D F H') acc ds → (∀ d ∈ ds, R d) → acc.length = n → Qd H') :
    ∃ W : Nat → Nat → Hp → Prop, (∃ m, W 0 m (upd H1 D (.lst []))) ∧ ∀ i m H, W i m H →
      (J.stop i H ∧ Qd H) ∨ (J.go i H ∧ ∃ Nx : Hp → Prop, (∀ H', Nx H' → ∃ m', m' < m ∧ W (i + 1) m' H') ∧ ∀ x H', J.yld i H x H' → g x (wipe σ vs) H' fun σ2 H2 => wipe σ2 vs = wipe σ vs ∧ tYes σ2 H2 fun b H3 =>
        if b = true then te σ2 H3 fun y H4 => ∃ acc, H4 D = some (.lst acc) ∧ acc.length < sizeLine ∧ Nx (upd H4 D (.lst (acc ++ [y]))) else Nx H3) := by
  refine lc_it wk (tt := tYes) (fun i H' => Same H1 H' ∧ ∃ acc ds, H' D = some (.lst acc) ∧ DpAll K (off D F H') acc ds ∧ (∀ d ∈ ds, R d) ∧ acc.length = i) ⟨same_upd hD, [], [], upd_same, .nil, by simp, rfl⟩ (fun i H' _ p => hG H' p.1) (fun i x H' H'' hi p y => ?_) (fun H' ⟨p1, acc, ds, p2, p3, p4, p5⟩ => q H' acc ds p1 p2 p3 p4 p5)
  obtain ⟨p1, acc, ds, p2, p3, p4, p5⟩ := p
  refine hs i x H' H'' _ hi p1 ⟨_, p2⟩ y fun v d H4 s4 hv hR => ?_
  refine ⟨_, s4 _ _ p2, ?_, ?_, acc ++ [v], ds ++ [d], upd_same, ?_, ?_, ?_⟩
  · rw [p5]
    exact Nat.lt_of_lt_of_le (Nat.lt_of_lt_of_le hi hn) (by decide)
  · exact same_mut (p1.trans s4) hD
  · exact dpA_app (dpA_mono ((off_same s4).trans off_mut) p3) (.cons (dp_mono off_mut hv) .nil)
  · intro z hz
    rcases List.mem_append.mp hz with h | h
    · exact p4 z h
    · rw [List.mem_singleton.mp h]
      exact hR
  · rw [List.length_append, p5]
    rfl
theorem dpA_mem {K : PySem.W.Frag} {H : Hp} {R : PyData → Prop} {vs : List V} {ds : List PyData} {i : Nat} {v : V} (h : DpAll K H vs ds) (hR : ∀ d ∈ ds, R d) (e : vs[i]? = some v) : ∃ d, Dp K H v d ∧ R d := by
  obtain ⟨d, h1, h2⟩ := dpA_get h e
  exact ⟨d, h2, hR d (List.mem_of_getElem? h1)⟩
end Kin
/-! Sets of texts: made of a list, sorted. -/
namespace Kin
open PySem PySem.Spec PyProof.Rows L2
def keyS (e : Int × Value) : Str := match e.2 with | .str z _ => z | _ => Str.empty
def TxE (P : Program) (w : World) (e : Int × Value) : Prop := ∃ z u, e.2 = Value.str z u ∧ e.1 = (PySem.strKind P w).hash z
structure TxData (P : Program) (w : World) (es : Array (Int × Value)) (t : SetTable) (zs : List Str) : Prop where
  good : ∀ e ∈ es.toList, TxE P w e
  pm : (es.toList.map keyS).Perm zs
  nd : zs.Nodup
  small : es.size < scanBound
  fits : t.fits es.size = true
  ris : Ris t.place.toList
  led : w.params.followText "set-order" = true ∨ t.led = true
/-- the set of the texts zs at a -/
def TxSet (P : Program) (w : World) (h : Heap) (a : Addr) (zs : List Str) : Prop := ∃ o es ep t, h.get? a = some o ∧ o.ExactSet ∧ o.data = .set es ep t ∧ TxData P w es t zs
section
variable {P : Program} {w : World} {A : Around} {E : Value → Shared → Prop} {s : Shared} {a : Addr} {zs : List Str}
theorem TxSet.keep {h h' : Heap} (R : TxSet P w h a zs) (k : ∀ o, h.get? a = some o → h'.get? a = some o) : TxSet P w h' a zs := by
  obtain ⟨o, es, ep, t, ho, r⟩ := R
  exact ⟨o, es, ep, t, k o ho, r⟩
theorem TxData.elems {es : Array (Int × Value)} {t : SetTable} (D : TxData P w es t zs) : ElemsOf (PySem.strKind P w) es.toList := fun e he => by
  obtain ⟨z, u, q1, q2⟩ := D.good e he
  refine ⟨⟨z, ?_, q2⟩, ?_⟩
  · rw [q1]; exact strKind_is _ _ _ _
  · rw [q1] <;> rfl
theorem tx_is {e : Int × Value} (g : TxE P w e) (z : Str) : (PySem.strKind P w).is z e.2 = true ↔ keyS e = z := by
  obtain ⟨z0, u, q, _⟩ := g
  constructor
  · intro y
    rw [q] at y
    have : keyS e = z0 := by unfold keyS; rw [q]
    rw [this]
    exact (PySem.strKind P w).inj _ _ _ (strKind_is P w z0 u) y
  · intro y
    have : keyS e = z0 := by unfold keyS; rw [q]
    rw [q, ← y, this]
    exact strKind_is _ _ _ _
theorem TxData.size {es : Array (Int × Value)} {t : SetTable} (D : TxData P w es t zs) : es.size = zs.length := by
  have q := D.pm.length_eq
  rw [List.length_map, Array.length_toList] at q
  exact q
theorem tx_tail {g : Bool → Sem Unit} (hg : ∀ (b : Bool) (z : Shared) (Y : Unit → Shared → Prop), Y () z → wpAny (model P w) A (g b) Y E z)
    {o : Obj} {es : Array (Int × Value)} {ep : Nat} {t : SetTable} (ho : s.heap.get? a = some o) (hx : o.ExactSet) (hd : o.data = .set es ep t)
    {e1 : Array (Int × Value)} {t1 : SetTable} (D : TxData P w e1 t1 zs) {dm : Bool} {R : Option Bool → Shared → Prop}
    (k : ∀ h', Heap.SameBut a s.heap h' → TxSet P w h' a zs → R (some true) { s with heap := h' }) :
    wpAny (model P w) A (storeSet a e1 t1 >>= fun _ => if (!dm && t1.tooFull) = true then (g (relayAll t1 e1 (SetTable.grown e1.size)).2.2 >>= fun _ =>
      storeSet a (relayAll t1 e1 (SetTable.grown e1.size)).1 (relayAll t1 e1 (SetTable.grown e1.size)).2.1 >>= fun _ => pure (some true)) else pure (some true)) R E s := by
  refine wpAny_bind (wpAny_storeSet_of ho hd ?_ (fits_of_scanBound D.small))
  have o1 := store_at (es' := e1) (t' := t1) ho hd
  have same1 := Heap.SameBut.update s.heap a (Obj.putSet e1 t1)
  split
  · have pp := relayAll_perm t1 e1 (SetTable.grown e1.size)
    have ff := relayAll_fits t1 e1 (SetTable.grown e1.size)
    have rr := relayAll_ris t1 e1 (SetTable.grown e1.size)
    have ll := relayAll_led t1 e1 (SetTable.grown e1.size)
    generalize relayAll t1 e1 (SetTable.grown e1.size) = Y at pp ff rr ll ⊢
    obtain ⟨e2, t2, gv⟩ := Y
    dsimp only at pp ff rr ll ⊢
    have sz : e2.size = e1.size := by
      have q := pp.length_eq
      rw [Array.length_toList, Array.length_toList] at q
      exact q
    have D2 : TxData P w e2 t2 zs := ⟨fun e he => D.good e (pp.mem_iff.mp he), (pp.map keyS).trans D.pm, D.nd, by rw [sz]; exact D.small, ff, rr, D.led.imp id fun z => by rw [ll]; exact z⟩
    refine wpAny_bind (hg _ _ _ ?_)
    refine wpAny_bind (wpAny_storeSet_of o1 rfl ?_ (fits_of_scanBound D2.small))
    exact wpAny_pure (k _ (same1.trans (Heap.SameBut.update _ a _)) ⟨_, e2, _, t2, store_at (es' := e2) (t' := t2) o1 rfl, hx, rfl, D2⟩)
  · exact wpAny_pure (k _ same1 ⟨_, e1, _, t1, o1, hx, rfl, D⟩)
/-- one text more -/
theorem tx_add {z : Str} {u : Tok} {Q : Bool → Shared → Prop} (R : TxSet P w s.heap a zs) (room : zs.length + 1 < scanBound)
    (k : ∀ h' b, Heap.SameBut a s.heap h' → TxSet P w h' a (if z ∈ zs then zs else z :: zs) → Q b { s with heap := h' }) :
    wpAny (model P w) A (setAddHashed a (.str z u) ((PySem.strKind P w).hash z)) Q E s := by
  obtain ⟨o, es, ep, t, ho, hx, hd, D⟩ := R
  have isz : (PySem.strKind P w).is z (.str z u) = true := strKind_is _ _ _ _
  have sc : (Value.str z u).scannable = true := rfl
  unfold setAddHashed setAddHashedIn
  refine wpAny_holding (wpAny_bind (wpAny_setState_of ho hd D.fits ?_))
  dsimp only
  rw [byScan_of sc D.small D.elems]
  simp only [↓reduceIte]
  unfold setAddByScan
  refine wpAny_bind (wpAny_bind (wpAny_rule (wpAny_bind (wpAny_setScan_of isz ho hd D.fits D.elems ?_))))
  cases hfi : List.findIdx? (fun e => (PySem.strKind P w).is z e.2) es.toList with
  | some j =>
    dsimp only
    obtain ⟨hj, pj, _⟩ := List.findIdx?_eq_some_iff_getElem.mp hfi
    have hz : z ∈ zs := by
      refine D.pm.mem_iff.mp (List.mem_map.mpr ⟨es.toList[j], List.getElem_mem hj, ?_⟩)
      exact (tx_is (D.good _ (List.getElem_mem hj)) z).1 pj
    refine wpAny_pure (wpAny_pure ?_)
    exact k s.heap _ (Heap.SameBut.refl a s.heap) (by rw [if_pos hz]; exact ⟨o, es, ep, t, ho, hx, hd, D⟩)
  | none =>
    dsimp only
    have hz : z ∉ zs := fun y => by
      obtain ⟨e, he, q⟩ := List.mem_map.mp (D.pm.mem_iff.mpr y)
      have c := List.findIdx?_eq_none_iff.mp hfi e he
      rw [(tx_is (D.good e he) z).2 q] at c
      cases c
    rw [if_neg hz] at k
    have way : ∀ (b : Bool) {s1 : Shared} {Y : Unit → Shared → Prop}, Y () s1 → wpAny (model P w) A (match b with | true => rule "set.scan.the-table-gave-way" | false => pure ()) Y E s1 := by
      intro b s1 Y q
      cases b
      · exact wpAny_pure q
      · exact wpAny_rule q
    have pp := layNew_perm t es ((PySem.strKind P w).hash z) (.str z u)
    have ff := layNew_fits t es ((PySem.strKind P w).hash z) (.str z u)
    have rr := layNew_ris t es ((PySem.strKind P w).hash z) (.str z u) D.ris
    have ll := layNew_led t es ((PySem.strKind P w).hash z) (.str z u)
    generalize layNew t es ((PySem.strKind P w).hash z) (.str z u) = Y at pp ff rr ll ⊢
    obtain ⟨e1, t1, dm, gv⟩ := Y
    dsimp only at pp ff rr ll ⊢
    rw [Array.toList_push] at pp
    have pc : e1.toList.Perm (((PySem.strKind P w).hash z, Value.str z u) :: es.toList) := pp.trans (List.perm_append_singleton _ _)
    have D1 : ∀ t' : SetTable, t'.fits e1.size = true → Ris t'.place.toList → (w.params.followText "set-order" = true ∨ t'.led = true) → TxData P w e1 t' (z :: zs) := fun t' f1 f2 f3 => by
      have sz : e1.size = es.size + 1 := by
        have q := pc.length_eq
        rw [Array.length_toList, List.length_cons, Array.length_toList] at q
        exact q
      refine ⟨fun e he => ?_, (pc.map keyS).trans (List.Perm.cons z D.pm), List.nodup_cons.mpr ⟨hz, D.nd⟩, by rw [sz, D.size]; exact room, f1, f2, f3⟩
      rcases List.mem_cons.mp (pc.mem_iff.mp he) with y | y
      · rw [y]; exact ⟨z, u, rfl, rfl⟩
      · exact D.good e y
    have led1 : w.params.followText "set-order" = true ∨ t1.led = true := D.led.imp id fun y => by rw [ll]; exact y
    refine wpAny_bind (way _ ?_)
    split
    · refine wpAny_bind ?_
      rw [hashByValue_scannable 8 sc]
      refine wpAny_pure ?_
      refine tx_tail (zs := z :: zs) ?_ ho hx hd (D1 _ ?_ ?_ ?_) ?_
      · intro b s1 Y q
        cases b
        · exact wpAny_pure q
        · exact wpAny_rule q
      · first | (split <;> first | exact ff | exact SetTable.fits_plain_off ff) | exact ff
      · first | (split <;> exact rr) | exact rr
      · first | (split <;> exact led1) | exact led1
      · intro h' sb r
        dsimp only
        exact wpAny_pure (k h' _ sb r)
    · refine wpAny_bind (wpAny_pure ?_)
      simp only [↓reduceIte]
      refine tx_tail (zs := z :: zs) ?_ ho hx hd (D1 _ ff rr led1) ?_
      · intro b s1 Y q
        cases b
        · exact wpAny_pure q
        · exact wpAny_rule q
      · intro h' sb r
        dsimp only
        exact wpAny_pure (k h' _ sb r)
end
end Kin
namespace Kin
open PySem PySem.Spec PyProof.Rows L2
/-- the texts of a list, each once -/
def once : List Str → List Str
  | [] => []
  | z :: r => if z ∈ once r then once r else z :: once r
theorem mem_once : ∀ {l : List Str} {z : Str}, z ∈ once l ↔ z ∈ l
  | [], z => Iff.rfl
  | y :: r, z => by
    unfold once
    by_cases h : y ∈ once r
    · rw [if_pos h, mem_once (l := r), List.mem_cons]
      constructor
      · exact .inr
      · rintro (e | e)
        · rw [e]; exact mem_once.mp h
        · exact e
    · rw [if_neg h, List.mem_cons, List.mem_cons, mem_once (l := r)]
theorem once_len : ∀ (l : List Str), (once l).length ≤ l.length
  | [] => Nat.le_refl _
  | y :: r => by
    unfold once
    have q := once_len r
    split
    · rw [List.length_cons]; omega
    · rw [List.length_cons, List.length_cons]; omega
section
variable {P : Program} {w : World} {A : Around} {E : Value → Shared → Prop} {s : Shared}
theorem tx_fresh {h : Heap} {a : Addr} (ho : h.get? a = some { cls := .type "set", dict := none, data := .set #[] 0 (.fresh 0 0 (!w.params.followText "set-order")) }) : TxSet P w h a [] :=
  ⟨_, #[], 0, _, ho, ⟨rfl, rfl, rfl⟩, rfl, ⟨(fun e he => by simp at he), List.Perm.refl _, List.nodup_nil, by decide, by rfl, List.Pairwise.nil, by
    show _ ∨ (!w.params.followText "set-order") = true
    cases w.params.followText "set-order" <;> simp⟩⟩
theorem take_rev {l : List Str} {i : Nat} {z : Str} (h : l[i]? = some z) : (l.take (i + 1)).reverse = z :: (l.take i).reverse := by
  rw [take_next h, List.reverse_append]
  rfl
/-- the loop that fills a set -/
theorem tx_loop {I : Addr} {fp wr : List Addr} {G : Array GenState → Array GenState → Prop} {n : Nat} {Pv : Nat → Value → Prop} {St : Nat → Shared → Prop} {R : Result → Shared → Prop}
    (W : WalksS P w A.in1 I fp wr G n Pv St) (S : Addr) (hSf : S ∉ fp) (xs : List Str) (hn : xs.length = n) (few : xs.length < 64) (val : ∀ i v, Pv i v → ∃ u, v = .str (xs.getD i Str.empty) u) :
    ∀ (k i : Nat) (s : Shared), n - i = k → i ≤ n → St i s → TxSet P w s.heap S (once (xs.take i).reverse) →
      (∀ s', Moved (S :: wr) G s s' → TxSet P w s'.heap S (once xs.reverse) → R (.ok (.ret .none)) s') →
      codeAny (model P w) A (.builtin "set.update.loop" ⟨[.ref S, .ref I], []⟩) R s := by
  have nSw : S ∉ wr := fun h => hSf (W.sub _ h)
  have sub : ∀ b ∈ wr, b ∈ S :: wr := fun b hb => List.mem_cons_of_mem _ hb
  intro k
  induction k with
  | zero =>
    intro i s hk hi st hS hR
    have e : i = n := by omega
    subst e
    refine codeAny_builtin PyProof.Rows.F.entry_set_update_loop ?_
    rw [Around.under_plainId PyProof.Rows.F.plain_set_update_loop _]
    show wpAny _ A.in1 (pyNext (.ref I) >>= _) _ _ s
    refine wpAny_bind (W.done s _ _ st fun s1 mv => ?_)
    show wpAny _ A.in1 (ret Value.none) _ _ s1
    refine wpAny_pure (hR s1 (mv.mono sub) ?_)
    rw [← hn, List.take_length] at hS
    exact hS.keep fun o q => mv.heap S o nSw q
  | succ k ih =>
    intro i s hk hi st hS hR
    have lt : i < n := by omega
    refine codeAny_builtin PyProof.Rows.F.entry_set_update_loop ?_
    rw [Around.under_plainId PyProof.Rows.F.plain_set_update_loop _]
    show wpAny _ A.in1 (pyNext (.ref I) >>= _) _ _ s
    refine wpAny_bind (W.item i s _ _ lt st fun v s1 hP st1 mv => ?_)
    obtain ⟨u, rfl⟩ := val i v hP
    have hS1 : TxSet P w s1.heap S (once (xs.take i).reverse) := hS.keep fun o q => mv.heap S o nSw q
    have hx : xs[i]? = some (xs.getD i Str.empty) := by
      have hl : i < xs.length := by omega
      simp [hl]
    have few2 : (once (xs.take i).reverse).length + 1 < scanBound := by
      have q1 := once_len (xs.take i).reverse
      have q2 : ((xs.take i).reverse).length ≤ xs.length := by
        rw [List.length_reverse, List.length_take]; omega
      unfold scanBound
      omega
    show wpAny _ A.in1 (holding [Value.str (xs.getD i Str.empty) u] (setAdd S (.str (xs.getD i Str.empty) u)) >>= _) _ _ s1
    refine wpAny_bind (wpAny_holding ?_)
    unfold setAdd
    refine wpAny_holding ?_
    refine wpAny_bind ((PySem.strKind P w).pyHash (k := xs.getD i Str.empty) (strKind_is _ _ _ _) ?_)
    refine tx_add (s := { s1 with toks := s1.toks + 1 }) hS1 few2 fun h' b sb hS2 => ?_
    have hS3 : TxSet P w h' S (once (xs.take (i + 1)).reverse) := by
      rw [take_rev hx]
      show TxSet P w h' S (if xs.getD i Str.empty ∈ once (xs.take i).reverse then once (xs.take i).reverse else xs.getD i Str.empty :: once (xs.take i).reverse)
      exact hS2
    refine wpAny_pure ⟨plainId_quiet PyProof.Rows.F.plain_set_update_loop _, ih (i + 1) _ (by omega) lt (W.frame _ s1 _ _ st1 (Nat.le_succ _) fun c hc o q => ?_) hS3 fun s2 mv2 hS4 => ?_⟩
    · rw [sb.2 c (fun z : c = S => hSf (by rw [← z]; exact hc))]; exact q
    · refine hR s2 (Moved.trans W.gtrans ((mv.mono sub).then_heap (Nat.le_succ _) fun c o hc q => ?_) mv2) hS4
      rw [sb.2 c (fun z : c = S => hc (by rw [z]; exact List.mem_cons_self))]; exact q
/-- set(xs), xs a list of texts -/
theorem tx_call {l : Addr} {items : Array Value} {xs : List Str} {Q : Value → Shared → Prop} (hh : A.handled = none) (hl : s.heap.IsList l items) (hi : StrsAre items.toList xs) (few : xs.length < 64)
    (k : ∀ (h' : Heap) (tk : Nat), TxSet P w h' s.heap.objs.size (once xs.reverse) → (∀ b o, s.heap.get? b = some o → h'.get? b = some o) → Q (.ref s.heap.objs.size) { s with heap := h', toks := tk }) :
    wpAny (model P w) A (call (.type "set") [.ref l]) Q E s := by
  obtain ⟨c, tl, hmro⟩ := PySem.F.called_set.mro
  have hmade := PySem.F.called_set.made
  have hsub := PySem.F.called_set.sub
  refine wpAny_call (codeAny_of_tree ?_)
  show wpAny _ _ (callAny (.type "set") _) _ _ _
  refine wpAny_pure ⟨Code.quiet_builtin _ (by decide +kernel), codeAny_builtin PySem.F.entry_type_call ?_⟩
  rw [Around.under_plain (weight_type_call_type "set" [.ref l] []) rfl]
  have g1 := PySem.F.called_set.notType
  have g2 := PySem.F.called_set.canCreate
  have g3 := PySem.F.typeCall_set_1 (.ref l)
  repeat (any_goals (first | assumption | wp_step))
  let fo : Obj := { cls := .type "set", dict := none, data := .set #[] 0 (.fresh 0 0 (!w.params.followText "set-order")) }
  refine codeAny_mono (code_set_led1 (.ref l) (E := E) (Q₁ := fun obj s1 => obj = .ref s.heap.objs.size ∧ s1 = { s with heap := s.heap.push fo }) ⟨rfl, rfl⟩) fun r s1 hr => ?_
  cases r with
  | error e => exact hr
  | ok fl =>
    cases fl with
    | ret obj =>
      obtain ⟨rfl, rfl⟩ := hr
      have hS : (s.heap.push fo).get? s.heap.objs.size = some fo := Heap.get?_push_size _ rfl
      have hT : Shared.TypeIs { s with heap := s.heap.push fo } (.ref s.heap.objs.size) "set" := ⟨_, hS, rfl⟩
      have g4 := PySem.F.called_set.init.lookup
      have g5 := PySem.F.called_set.init.bind (.ref s.heap.objs.size)
      repeat (any_goals (first | assumption | wp_step))
      refine codeAny_mono (codeAny_call_builtin (R := wants (fun r s2 => r = .none ∧ ∃ h' tk, s2 = { s with heap := h', toks := tk } ∧ TxSet P w h' s.heap.objs.size (once xs.reverse) ∧
          (∀ b o, s.heap.get? b = some o → h'.get? b = some o)) E) PySem.F.called_set.init.plain PySem.F.entry_set_init (check_set_init_1 hT ?_)) fun r2 s2 hr2 => ?_
      · obtain ⟨ol, hol, hcl, nl, hdl⟩ := hl
        obtain ⟨oc, od, oda, osl⟩ := ol
        simp only at hcl hdl
        subst hcl
        subst hdl
        have hol1 : (s.heap.push fo).get? l = some { cls := .type "list", dict := od, data := .seq items nl, slots := osl } := Heap.get?_push_of_some _ hol
        have g6 := PySem.F.sub_list_set
        have g7 := PySem.F.sub_list_frozenset
        have g8 : (Value.type "list" == Value.type "dict") = false := by decide
        have hl1 : (s.heap.push fo).IsList l items := ⟨_, hol1, rfl, nl, rfl⟩
        unfold Builtin.«set.__init__» noKeywords Builtin.Frozenset.updateFrom
        generalize hPI : pyIter = PI
        wp_walk
        subst hPI
        refine wpAny_pyIter_list hl1 (wpAny_bind (wpAny_runValue ?_))
        have lS : l < s.heap.objs.size := Heap.lt_size hol
        have h3 : A.in1.in1.in1.handled = none := by simp [hh]
        have sz1 : (s.heap.push fo).objs.size = s.heap.objs.size + 1 := Heap.size_push ..
        have neI : l ≠ (s.heap.push fo).objs.size := by
          rw [sz1]
          exact Nat.ne_of_lt (Nat.lt_trans lS (Nat.lt_succ_self _))
        have nS : s.heap.objs.size ∉ [(s.heap.push fo).objs.size, l] := by
          rw [sz1]
          intro z
          rcases List.mem_cons.mp z with z | z
          · exact absurd z (Nat.ne_of_lt (Nat.lt_succ_self _))
          · have z := List.mem_singleton.mp z
            rw [← z] at lS
            exact absurd lS (Nat.lt_irrefl _)
        have sz : xs.length = items.size := by rw [← StrsAre.len_eq hi, Array.length_toList]
        have val : ∀ (i : Nat) (v : Value), items[i]? = some v → ∃ u, v = .str (xs.getD i Str.empty) u := fun i v hv => SS.strs_at hi i v (by rw [Array.getElem?_toList]; exact hv)
        refine tx_loop ((Walks.list h3 _ l neI items).toS) s.heap.objs.size nS xs sz few val (items.size - 0) 0 _ (by omega) (Nat.zero_le _) ⟨⟨_, Heap.get?_push_size _ rfl, rfl, rfl⟩, (hl1.push _)⟩ ?_ ?_
        · exact tx_fresh (Heap.get?_push_of_some _ hS)
        · intro s3 mv hS3
          obtain ⟨h', g', d', tk', os'⟩ := s3
          have e1 : g' = s.gens := mv.gens
          have e2 : d' = s.drawn := mv.drawn
          have e3 : os' = s.os := mv.os
          subst e1
          subst e2
          subst e3
          show wpAny _ _ _ _ _ _
          refine wpAny_pure ?_
          show wpAny _ _ (ret Value.none) _ _ _
          refine wpAny_pure ⟨rfl, h', tk', rfl, hS3, fun b o q => ?_⟩
          have hb := Heap.lt_size q
          refine mv.heap b o ?_ (Heap.get?_push_of_some _ (Heap.get?_push_of_some _ q))
          intro z
          rcases List.mem_cons.mp z with z | z
          · rw [z] at hb
            exact absurd hb (Nat.lt_irrefl _)
          · have z := List.mem_singleton.mp z
            rw [z, sz1] at hb
            exact absurd hb (Nat.not_lt_of_le (Nat.le_succ _))
      · cases r2 with
        | error e => exact hr2
        | ok f2 =>
          cases f2 with
          | ret r =>
            obtain ⟨rfl, h', tk, rfl, hS3, kk⟩ := hr2
            repeat (any_goals (first | assumption | wp_step))
            exact k _ _ hS3 kk
          | _ => exact hr2.elim
    | _ => exact hr.elim
/-- sorted(a), a a set of texts -/
theorem tx_sorted {a : Addr} {zs : List Str} {Q : Value → Shared → Prop} (R : TxSet P w s.heap a zs) (hh : A.handled = none) (few : zs.length < 64)
    (k : ∀ s' p (out : Array Value) (c : Nat) (ys : List Str), (∀ b o, s.heap.get? b = some o → s'.heap.get? b = some o) → s'.gens = s.gens → s'.os = s.os → s.heap.objs.size ≤ p →
      s'.heap.get? p = some (seqObj "list" out c) → StrsAre out.toList ys → ys.Perm zs → sortedS ys = true → Q (.ref p) s') :
    wpAny (model P w) A (call (.builtin "sorted") [.ref a]) Q E s := by
  obtain ⟨o, es, ep, t, ho, hx, hd, D⟩ := R
  refine Calls.call_function_entry kind_sorted plain_sorted entry_sorted (args_sorted1 _) ?_
  unfold Builtin.«sorted»
  refine wpAny_bind (m := checkCount "sorted" 1 1 _) (wpAny_pure ?_)
  refine wpAny_bind (collect_set (A := A.in1) hh ⟨o, ho, hx.1, hd⟩ D.fits D.small D.ris D.led fun s1 vs k1 hz g1 o1 pm => ?_)
  have vl : vs.length < 64 := by
    rw [pm.length_eq, List.length_map, Array.length_toList, D.size]
    exact few
  have hI : StrsAre vs (vs.map strOf) := strsAre_map vs fun v hv => by
    obtain ⟨e, he, q⟩ := List.mem_map.mp (pm.mem_iff.mp hv)
    obtain ⟨z, u, q1, _⟩ := D.good e he
    exact ⟨z, u, by rw [← q]; exact q1⟩
  have pk : (vs.map strOf).Perm zs := by
    have q := pm.map strOf
    rw [List.map_map] at q
    have e : es.toList.map (strOf ∘ fun e => e.2) = es.toList.map keyS := List.map_congr_left fun e he => by
      obtain ⟨z, u, q1, _⟩ := D.good e he
      show strOf e.2 = keyS e
      unfold keyS
      rw [q1]
      rfl
    exact (q.trans (by rw [e])).trans D.pm
  refine wpAny_bind (wpAny_newList ?_ (by rw [sizeLine_eq]; omega))
  have hoL : (s1.heap.push (seqObj "list" vs.toArray 0)).get? s1.heap.objs.size = some (seqObj "list" vs.toArray 0) := Heap.get?_push_size _ rfl
  refine wpAny_bind (wpAny_holding (wpAny_call_entry slot_list_sort ⟨_, hoL, rfl⟩ entry_list_sort (list_sort_treeK strKind_oneLt hoL hI.keysOf (fun v1 v2 r e => keyKind_strs (by rw [← e]; exact hI)) vl fun st hp hs => ⟨_, rfl, ?_⟩) (args_list_sort _)))
  obtain ⟨ys, y1, y2, y3⟩ := sorted_out_str hI hp hs
  obtain ⟨c, hc⟩ := sortedHeap_at (vs := vs) (out := (arrOf st).map (·.2)) hoL
  refine wpAny_pure ⟨_, rfl, k _ s1.heap.objs.size _ c ys (fun b v e => ?_) g1 o1 hz hc y1 (y2.trans pk) y3⟩
  have q := k1 b v e
  have lt := Heap.lt_size q
  show (sortedHeap (s1.heap.push (seqObj "list" vs.toArray 0)) s1.heap.objs.size vs _).get? b = some v
  rw [sortedHeap_old (Nat.ne_of_lt lt) (by rw [size_push']; exact Nat.lt_succ_of_lt lt)]
  exact Heap.get?_push_of_some _ q
end
end Kin
namespace Kin
open PySem PySem.Spec PyProof.Rows L2
def TxO (P : Program) (w : World) (a : Addr) (zs : List Str) : HO := .ext fun h => TxSet P w h a zs
theorem txO_new {P : Program} {w : World} {H : Hp} {h : Heap} {a : Addr} {zs : List Str} (R : TxSet P w h a zs) : ObjOk P w H h a (TxO P w a zs) := by
  have ⟨o, _, _, _, ho, _⟩ := R
  exact ⟨R, ⟨o, ho⟩, fun h1 h2 p k => TxSet.keep p k⟩
theorem vals_of_strs : ∀ {ys : List Str} {us : List Value}, StrsAre us ys → Vals (ys.map V.str) us
  | _, _, .nil => .nil
  | _, _, .cons n t h => .cons ⟨t, rfl⟩ (vals_of_strs h)
section
variable {X : Cx}
/-- set(xs), xs a list of texts -/
def rSetTx (K : PySem.W.Frag) (P : Program) (w : World) : List V → Hp → VK → Prop := fun vs H Q => ∃ (l : Addr) (xs : List Str), vs = [V.ref l] ∧ SqL K H l (xs.map V.str) ∧ xs.length < 64 ∧
  ∀ a, H a = none → Q (.ref a) (upd H a (TxO P w a (once xs.reverse)))
theorem cr_setTx (hc : X.calm = true) : CallR X (.type "set") (rSetTx X.K X.prog X.w) := by
  intro pins s σ H vs us Q I r h
  obtain ⟨l, xs, rfl, hl, few, q⟩ := h
  rw [Vals.ref1 r]
  obtain ⟨its, rv, pl, hz⟩ := I.list hl
  have hn : H s.heap.objs.size = none := I.hok.fresh (Nat.le_refl _)
  refine tx_call (P := X.prog) (w := X.w) (I.ok.hd hc) pl.isList (by simpa using strsAre_of rv) few fun h' tk R k => ?_
  exact ⟨.ref s.heap.objs.size, upd H s.heap.objs.size (TxO X.prog X.w s.heap.objs.size (once xs.reverse)), I.laid (t' := tk) k (Nat.le_refl _) (txO_new R), rfl, q _ hn⟩
/-- sorted(a) -/
def rSortTx (P : Program) (w : World) : List V → Hp → VK → Prop := fun vs H Q => ∃ (a : Addr) (zs : List Str), vs = [V.ref a] ∧ H a = some (TxO P w a zs) ∧ zs.length < 64 ∧
  ∀ (ys : List Str) (p : Addr), ys.Perm zs → zs.Nodup → sortedS ys = true → H p = none → Q (.ref p) (upd H p (.lst (ys.map V.str)))
theorem cr_sortTx (hc : X.calm = true) : CallR X (.builtin "sorted") (rSortTx X.prog X.w) := by
  intro pins s σ H vs us Q I r h
  obtain ⟨a, zs, rfl, ha, few, q⟩ := h
  have R : TxSet X.prog X.w s.heap a zs := (I.hok a _ ha).1
  have nd : zs.Nodup := by
    obtain ⟨_, _, _, _, _, _, _, D⟩ := R
    exact D.nd
  rw [Vals.ref1 r]
  refine tx_sorted R (I.ok.hd hc) few fun s1 p out c ys k g o hp hg hs pm so => ?_
  have hlen : (ys.map V.str).length ≤ sizeLine := by rw [List.length_map, pm.length_eq, sizeLine_eq]; omega
  have hn : H p = none := I.hok.fresh hp
  have J : Inv X pins σ (upd H p (.lst (ys.map V.str))) { s with heap := s1.heap, gens := s1.gens, drawn := s1.drawn, toks := s1.toks } :=
    I.call (ch := []) (Un.laid k hp hn) (I.hok.laid k hp ⟨hlen, out.toList, c, vals_of_strs hs, hg⟩) (by rw [g]; exact I.bare) (fun _ z => nomatch z)
  have e : s1 = { s with heap := s1.heap, gens := s1.gens, drawn := s1.drawn, toks := s1.toks } := by
    cases s1
    cases s
    cases o
    rfl
  rw [e]
  exact ⟨.ref p, _, J, rfl, q ys p pm nd so hn⟩
end
/-! ### rising texts -/
def ltS (a b : Str) : Bool := decide (a.cps.toList < b.cps.toList)
def rise : List Str → Bool
  | a :: b :: r => ltS a b && rise (b :: r)
  | _ => true
theorem str_ext {a b : Str} (h : a.cps.toList = b.cps.toList) : a = b := by
  cases a
  cases b
  simp only [Str.mk.injEq]
  exact Array.toList_inj.mp h
theorem ltS_trans {a b c : Str} (h : ltS a b = true) (k : ltS b c = true) : ltS a c = true := by
  unfold ltS at *
  exact decide_eq_true (List.lt_trans (of_decide_eq_true h) (of_decide_eq_true k))
theorem ltS_irrefl (a : Str) : ltS a a = false := by
  unfold ltS
  exact decide_eq_false (List.lt_irrefl _)
theorem ltS_of {a b : Str} (h : ltS b a = false) (ne : a ≠ b) : ltS a b = true := by
  unfold ltS at *
  refine decide_eq_true ?_
  have h1 : ¬ b.cps.toList < a.cps.toList := of_decide_eq_false h
  have h2 : a.cps.toList ≤ b.cps.toList := List.not_lt.mp h1
  rcases Classical.em (a.cps.toList < b.cps.toList) with q | q
  · exact q
  · exact absurd (str_ext (List.le_antisymm h2 (List.not_lt.mp q))) ne
theorem rise_pw : ∀ {l : List Str}, rise l = true → l.Pairwise (fun a b => ltS a b = true)
  | [], _ => .nil
  | [a], _ => List.pairwise_singleton _ _
  | a :: b :: r, h => by
    unfold rise at h
    obtain ⟨h1, h2⟩ := Bool.and_eq_true_iff.mp h
    have ih := rise_pw h2
    refine List.pairwise_cons.mpr ⟨fun c hc => ?_, ih⟩
    rcases List.mem_cons.mp hc with e | e
    · rw [e]; exact h1
    · exact ltS_trans h1 ((List.pairwise_cons.mp ih).1 c e)
theorem rise_of : ∀ {l : List Str}, l.Pairwise (fun a b => ltS a b = true) → rise l = true
  | [], _ => rfl
  | [a], _ => rfl
  | a :: b :: r, h => by
    unfold rise
    obtain ⟨h1, h2⟩ := List.pairwise_cons.mp h
    rw [h1 b List.mem_cons_self, rise_of h2]
    rfl
theorem rise_eq : ∀ {l m : List Str}, l.Pairwise (fun a b => ltS a b = true) → m.Pairwise (fun a b => ltS a b = true) → (∀ z, z ∈ l ↔ z ∈ m) → l = m
  | [], [], _, _, _ => rfl
  | [], b :: m, _, _, e => absurd ((e b).mpr List.mem_cons_self) (by simp)
  | a :: l, [], _, _, e => absurd ((e a).mp List.mem_cons_self) (by simp)
  | a :: l, b :: m, hl, hm, e => by
    obtain ⟨l1, l2⟩ := List.pairwise_cons.mp hl
    obtain ⟨m1, m2⟩ := List.pairwise_cons.mp hm
    have hab : a = b := by
      rcases List.mem_cons.mp ((e a).mp List.mem_cons_self) with q | q
      · exact q
      · rcases List.mem_cons.mp ((e b).mpr List.mem_cons_self) with y | y
        · exact y.symm
        · have c := ltS_trans (m1 a q) (l1 b y)
          rw [ltS_irrefl] at c
          cases c
    subst hab
    refine congrArg (a :: ·) (rise_eq l2 m2 fun z => ⟨fun hz => ?_, fun hz => ?_⟩)
    · rcases List.mem_cons.mp ((e z).mp (List.mem_cons_of_mem _ hz)) with q | q
      · have c := l1 z hz
        rw [q, ltS_irrefl] at c
        cases c
      · exact q
    · rcases List.mem_cons.mp ((e z).mpr (List.mem_cons_of_mem _ hz)) with q | q
      · have c := m1 z hz
        rw [q, ltS_irrefl] at c
        cases c
      · exact q
theorem sorted_rise : ∀ {l : List Str}, sortedS l = true → l.Nodup → rise l = true
  | [], _, _ => rfl
  | [a], _, _ => rfl
  | a :: b :: r, h, nd => by
    have h : (!ltCps b.cps.toList a.cps.toList && risingS b r) = true := h
    obtain ⟨h1, h2⟩ := Bool.and_eq_true_iff.mp h
    obtain ⟨n1, n2⟩ := List.nodup_cons.mp nd
    have ih := sorted_rise (l := b :: r) h2 n2
    unfold rise
    rw [ih, ltS_of (a := a) (b := b) ?_ ?_]
    · rfl
    · unfold ltS
      rw [← ltCps_eq]
      simpa using h1
    · rintro rfl
      exact n1 List.mem_cons_self
theorem sorted_is {xs ys zs : List Str} (hz : zs = once xs.reverse) (pm : ys.Perm zs) (nd : zs.Nodup) (so : sortedS ys = true) : decide (xs = ys) = rise xs := by
  have mem : ∀ z, z ∈ ys ↔ z ∈ xs := fun z => by
    rw [pm.mem_iff, hz, mem_once, List.mem_reverse]
  have ry := sorted_rise so (pm.nodup_iff.mpr nd)
  by_cases h : xs = ys
  · rw [decide_eq_true h, h, ry]
  · rw [decide_eq_false h]
    cases hr : rise xs with
    | false => rfl
    | true => exact absurd (rise_eq (rise_pw hr) (rise_pw ry) fun z => (mem z).symm) h
end Kin
/-! Books: what both looks tell, as plain functions. -/
namespace Kin
open PySem PySem.Spec PyProof.Rows L2
def rLen (K : PySem.W.Frag) : List V → Hp → VK → Prop := fun xs H Q => ∃ p ys, xs = [V.ref p] ∧ (SqL K H p ys ∨ SqT K H p ys) ∧ Q (.int ys.length) H
def pProg : PyData → Bool
  | .tuple [t, .tuple rows] => pTitle t && (!rows.isEmpty && rows.all fun r => pRow r rows.length)
  | _ => false
def lProg : PyData → Bool
  | .tuple [t, .tuple rows] => lTitle t && (!rows.isEmpty && rows.all fun r => lRow r rows.length)
  | _ => false
def titleOf : PyData → Str
  | .tuple (.str z :: _) => z
  | _ => ""
def pBook : PyData → Bool
  | .tuple ds => !ds.isEmpty && (ds.all pProg && rise (ds.map titleOf))
  | _ => false
def lBook : PyData → Bool
  | .tuple ds => !ds.isEmpty && (ds.all lProg && rise (ds.map titleOf))
  | _ => false
def bndP : PyData → Bool
  | .tuple [_, .tuple rows] => rows.all bndAll
  | _ => true
def bndB : PyData → Bool
  | .tuple ds => ds.all bndP
  | _ => true
theorem all_eq {α : Type} {p q : α → Bool} : ∀ {l : List α}, (∀ x ∈ l, p x = q x) → l.all p = l.all q
  | [], _ => rfl
  | x :: r, h => by
    rw [List.all_cons, List.all_cons, h x List.mem_cons_self, all_eq fun y hy => h y (List.mem_cons_of_mem _ hy)]
theorem progs_agree (d : PyData) (h : bndP d = true) : pProg d = lProg d := by
  unfold pProg lProg
  split
  · rename_i t rows
    have h : rows.all bndAll = true := h
    rw [title_eq, all_eq (p := fun r => pRow r rows.length) (q := fun r => lRow r rows.length) fun r hr => rows_agree _ r (List.all_eq_true.mp h r hr)]
  · rfl
theorem books_agree (d : PyData) (h : bndB d = true) : pBook d = lBook d := by
  cases d with
  | tuple ds =>
    show (!ds.isEmpty && (ds.all pProg && rise (ds.map titleOf))) = (!ds.isEmpty && (ds.all lProg && rise (ds.map titleOf)))
    have h : ds.all bndP = true := h
    rw [all_eq (p := pProg) (q := lProg) fun x hx => progs_agree x (List.all_eq_true.mp h x hx)]
  | _ => rfl
theorem prog_title {d : PyData} (h : pProg d = true) : ∃ z rows, d = .tuple [.str z, .tuple rows] ∧ azAll z = true ∧ z.length ≤ 8 := by
  unfold pProg at h
  split at h
  · rename_i t rows
    have h1 := (Bool.and_eq_true_iff.mp h).1
    cases t with
    | str z =>
      have h1 : (decide (1 ≤ z.length) && decide (z.length ≤ 8) && azAll z) = true := h1
      obtain ⟨h2, h3⟩ := Bool.and_eq_true_iff.mp h1
      exact ⟨z, rows, rfl, h3, of_decide_eq_true (Bool.and_eq_true_iff.mp h2).2⟩
    | _ => cases h1
  · cases h
theorem az_ok {z : Str} (h : azAll z = true) : PyData.strOk z = true := by
  unfold PyData.strOk
  rw [← Array.all_toList, List.all_eq_true]
  intro c hc
  have q := List.all_eq_true.mp h c hc
  have q := of_decide_eq_true (Bool.and_eq_true_iff.mp q).2
  exact decide_eq_true (by omega)
theorem shaped_strs (zs : List Str) (h : ∀ z ∈ zs, PyData.strOk z = true) : SeqAt.shaped (.list (zs.map PyData.str)) = true := by
  have h1 : PyData.canLayAll0 (zs.map PyData.str) = true := by
    induction zs with
    | nil => rw [List.map_nil, PyData.canLayAll0]
    | cons c r ih =>
      rw [List.map_cons, PyData.canLayAll0, ih fun z hz => h z (List.mem_cons_of_mem _ hz), PyData.canLay0, h c List.mem_cons_self]
      rfl
  have h2 : PyData.depthAll (zs.map PyData.str) = 0 := by
    clear h h1
    induction zs with
    | nil => rw [List.map_nil, PyData.depthAll]
    | cons c r ih => rw [List.map_cons, PyData.depthAll, ih, PyData.depth]; rfl
  unfold SeqAt.shaped
  rw [PyData.canLay0, PyData.depth, h1, h2]
  rfl
theorem eqv_strs : ∀ (xs ys : List Str), PyData.eqv (.list (xs.map PyData.str)) (.list (ys.map PyData.str)) = decide (xs = ys)
  | xs, ys => by
    show PyData.eqvAll (xs.map PyData.str) (ys.map PyData.str) = decide (xs = ys)
    induction xs generalizing ys with
    | nil =>
      cases ys with
      | nil => rfl
      | cons b r => simp [PyData.eqvAll]
    | cons a l ih =>
      cases ys with
      | nil => simp [PyData.eqvAll]
      | cons b r =>
        rw [List.map_cons, List.map_cons, PyData.eqvAll, ih]
        by_cases h : a = b
        · subst h
          simp [PyData.eqv]
        · simp [PyData.eqv, h]
theorem shaped_mem {ds : List PyData} {d : PyData} (h : SeqAt.shaped (.tuple ds) = true) (hd : d ∈ ds) : SeqAt.shaped d = true := by
  unfold SeqAt.shaped at *
  rw [PyData.canLay0, PyData.depth] at h
  obtain ⟨h1, h2⟩ := Bool.and_eq_true_iff.mp h
  have h2 := of_decide_eq_true h2
  have key : ∀ (l : List PyData), d ∈ l → PyData.canLayAll0 l = true → d.canLay0 = true ∧ d.depth ≤ PyData.depthAll l := by
    intro l
    induction l with
    | nil => intro q; cases q
    | cons a r ih =>
      intro q c
      rw [PyData.canLayAll0] at c
      obtain ⟨c1, c2⟩ := Bool.and_eq_true_iff.mp c
      rw [PyData.depthAll]
      rcases List.mem_cons.mp q with e | e
      · subst e
        exact ⟨c1, by omega⟩
      · obtain ⟨i1, i2⟩ := ih e c2
        exact ⟨i1, by omega⟩
  obtain ⟨k1, k2⟩ := key ds hd h1
  rw [k1, decide_eq_true (show d.depth ≤ 64 by omega)]
  rfl
def ltAt (xs : List Str) (i : Nat) : Bool := match xs[i]?, xs[i + 1]? with
  | some a, some b => ltS a b
  | _, _ => true
theorem rise_all : ∀ (xs : List Str), ((List.range (xs.length - 1)).map (ltAt xs)).all id = rise xs
  | [] => rfl
  | [a] => rfl
  | a :: b :: r => by
    have ih := rise_all (b :: r)
    rw [show (a :: b :: r).length - 1 = ((b :: r).length - 1) + 1 by simp, List.range_succ_eq_map, List.map_cons, List.all_cons, List.map_map]
    show (ltS a b && ((List.range ((b :: r).length - 1)).map (ltAt (b :: r))).all id) = (ltS a b && rise (b :: r))
    rw [ih]
end Kin
/-! What drawn rows and books are; slices and sums of tuples beside the hand. -/
namespace Kin
open PySem PySem.Spec PyProof.Rows L2
section
variable {K : PySem.W.Frag}
theorem catA_data {H : Hp} {a b : Addr} {xs ys : List V} {Q : VK} (hx : SqT K H a xs) (hy : SqT K H b ys) (hl : xs.length + ys.length ≤ 10000000) (q : ∀ p H', Same H H' → SqT K H' p (xs ++ ys) → Q (.ref p) H') : rCatA K (.ref a) (.ref b) H Q :=
  ⟨a, b, xs, ys, rfl, rfl, hx, hy, Nat.le_trans hl (by decide), fun e => by
    subst e
    exact q b H (Same.refl H) hy, fun _ e => by
    subst e
    exact q a H (Same.refl H) (by rw [List.append_nil]; exact hx), fun _ _ p hp => q p _ (same_upd hp) sqT_new⟩
theorem slA_data {H : Hp} {a : Addr} {xs : List V} {lo hi : Option Int} {Q : VK} (hx : SqT K H a xs) (q : ∀ p H', Same H H' → SqT K H' p (cutV xs lo hi) → Q (.ref p) H') : rSlA K (.ref a) lo hi H Q :=
  ⟨a, xs, rfl, hx, fun ⟨e1, e2⟩ => by
    have e : cutV xs lo hi = xs := by
      unfold cutV
      rw [e1, e2]
      show (xs.drop 0).take (xs.length - 0) = xs
      rw [List.drop_zero, Nat.sub_zero, List.take_length]
    exact q a H (Same.refl H) (by rw [e]; exact hx), fun _ p hp => q p _ (same_upd hp) sqT_new⟩
theorem nice_word {wd : Str} (hw : wd ∈ words18) : nice (.str wd) = true := by
  have h : ∀ z ∈ words18, nice (.str z) = true := by decide +kernel
  exact h wd hw
/-- a row that both looks take alike -/
def rowOk (d : PyData) : Prop := bndAll d = true ∧ lenOk d = true ∧ d.canLay0 = true ∧ d.depth ≤ 4 ∧ nearAll d = true
theorem rowOk_of {ds : List PyData} (h : ds.all nice = true) (hl : ds.length ≤ 1000) : rowOk (.tuple ds) := by
  obtain ⟨b1, b2, b3, b4⟩ := nice_all h
  refine ⟨b1, ?_, ?_, ?_, nice_near h⟩
  · rw [lenOk, b2, decide_eq_true (show ds.length ≤ 1000000 by omega)]; rfl
  · rw [PyData.canLay0, b3]
  · rw [PyData.depth]
    omega
theorem catO {x l a b : Addr} {H : Hp} {xs ys : List V} {Q : VK} (hh : Hand x l H) (hax : a ≠ x) (hal : a ≠ l) (hbx : b ≠ x) (hbl : b ≠ l) (hx : H a = some (.tup xs)) (hy : H b = some (.tup ys)) (hl : xs.length + ys.length ≤ 10000000)
    (q : ∀ p H', Same H H' → p ≠ x → p ≠ l → SqT K (off x l H') p (xs ++ ys) → Q (.ref p) H') : rCatA K (.ref a) (.ref b) H Q :=
  ⟨a, b, xs, ys, rfl, rfl, .inl (.inl hx), .inl (.inl hy), Nat.le_trans hl (by decide), fun e => by
    subst e
    exact q b H (Same.refl H) hbx hbl (.inl (.inl (off_at hbx hbl hy))), fun _ e => by
    subst e
    exact q a H (Same.refl H) hax hal (by rw [List.append_nil]; exact .inl (.inl (off_at hax hal hx))), fun _ _ p hp => by
    obtain ⟨n1, n2⟩ := hh.nx hp
    exact q p _ (same_upd hp) n1 n2 (.inl (.inl (off_at n1 n2 upd_same)))⟩
end
def lets : List Nat := ("acegikmoqsuwybdf" : Str).cps.toList
def titleAt (j : Nat) (z : Str) : Prop := ∃ cs : List Nat, z.cps.toList = lets.getD (5 * j % 16) 0 :: cs ∧ cs.length ≤ 6 ∧ ∀ c ∈ cs, 97 ≤ c ∧ c ≤ 122
theorem titleAt_az {j : Nat} {z : Str} (h : titleAt j z) : 1 ≤ z.length ∧ z.length ≤ 8 ∧ azAll z = true := by
  obtain ⟨cs, e, hl, hc⟩ := h
  have hz : z.length = cs.length + 1 := by
    show z.cps.size = _
    rw [← Array.length_toList, e, List.length_cons]
  have hj : ∀ i, i < 16 → 97 ≤ lets.getD i 0 ∧ lets.getD i 0 ≤ 122 := by decide +kernel
  have h0 := hj (5 * j % 16) (Nat.mod_lt _ (by decide))
  refine ⟨by omega, by omega, ?_⟩
  unfold azAll
  rw [e, List.all_cons, decide_eq_true h0.1, decide_eq_true h0.2, Bool.true_and, Bool.true_and, List.all_eq_true]
  intro c q
  rw [decide_eq_true (hc c q).1, decide_eq_true (hc c q).2]
  rfl
theorem titles_nodup {ts : List Str} (h : ∀ j z, ts[j]? = some z → titleAt j z) (hl : ts.length ≤ 15) : ts.Nodup := by
  refine List.pairwise_iff_getElem.mpr fun i j hi hj hij e => ?_
  obtain ⟨c1, e1, _⟩ := h i _ (List.getElem?_eq_getElem hi)
  obtain ⟨c2, e2, _⟩ := h j _ (List.getElem?_eq_getElem hj)
  rw [e, e2] at e1
  have q := (List.cons.inj e1).1
  have all : ∀ i, i < 15 → ∀ j, j < 15 → i < j → lets.getD (5 * j % 16) 0 ≠ lets.getD (5 * i % 16) 0 := by decide +kernel
  exact all i (by omega) j (by omega) hij q
def progOkN (u : Nat) (p : PyData) : Prop := ∃ (z : Str) (rows : List PyData), p = .tuple [.str z, .tuple rows] ∧ 1 ≤ z.length ∧ z.length ≤ 8 ∧ azAll z = true ∧ 0 < rows.length ∧ rows.length ≤ u ∧ ∀ r ∈ rows, rowOk r ∧ pRow r rows.length = true
abbrev progOk (p : PyData) : Prop := progOkN 40 p
theorem Off.mut {x l p : Addr} {H H' : Hp} {o : HO} (f : Off x l H H') (h : H p = none) : Off x l H (upd H' p o) := fun b u h1 h2 e => by
  rw [upd_ne (ne_of_none e h)]
  exact f b u h1 h2 e
theorem Hand.mut {x l p : Addr} {H : Hp} {o : HO} (h : Hand x l H) (h1 : p ≠ x) (h2 : p ≠ l) : Hand x l (upd H p o) := by
  obtain ⟨m, hm, hN⟩ := h
  obtain ⟨cells, seed, e1, e2, e3⟩ := hN.ex
  exact ⟨m, hm, ⟨cells, seed, by rw [upd_ne h1.symm]; exact e1, by rw [upd_ne h2.symm]; exact e2, e3⟩, hN.ne⟩
mutual
def noL : PyData → Bool
  | .tuple ds => noLAll ds
  | .list _ => false
  | .dict _ => false
  | .none => true
  | .bool _ => true
  | .int _ => true
  | .str _ => true
def noLAll : List PyData → Bool
  | [] => true
  | d :: r => noL d && noLAll r
end
theorem noLAll_of : ∀ {ds : List PyData}, (∀ d ∈ ds, noL d = true) → noLAll ds = true
  | [], _ => by rw [noLAll]
  | d :: r, h => by
    rw [noLAll, h d List.mem_cons_self, noLAll_of fun y hy => h y (List.mem_cons_of_mem _ hy)]
    rfl
mutual
theorem dp_noL {K : PySem.W.Frag} {G G' : Hp} (h : ∀ b xs, SqT K G b xs → SqT K G' b xs) : ∀ {d : PyData} {v : V}, noL d = true → Dp K G v d → Dp K G' v d
  | _, _, _, .non => .non
  | _, _, _, .bl b => .bl b
  | _, _, _, .int i => .int i
  | _, _, _, .str x => .str x
  | _, _, e, .lst _ _ => by rw [noL] at e; cases e
  | _, _, e, .tup hs a => .tup (h _ _ hs) (dpA_noL h (by rw [noL] at e; exact e) a)
  | _, _, e, .dct _ => by rw [noL] at e; cases e
theorem dpA_noL {K : PySem.W.Frag} {G G' : Hp} (h : ∀ b xs, SqT K G b xs → SqT K G' b xs) : ∀ {ds : List PyData} {vs : List V}, noLAll ds = true → DpAll K G vs ds → DpAll K G' vs ds
  | _, _, _, .nil => .nil
  | _, _, e, .cons h1 t => by
    rw [noLAll] at e
    obtain ⟨e1, e2⟩ := Bool.and_eq_true_iff.mp e
    exact .cons (dp_noL h e1 h1) (dpA_noL h e2 t)
end
theorem sqT_mut {K : PySem.W.Frag} {x l D : Addr} {G : Hp} {acc : List V} {o : HO} (hD : G D = some (.lst acc)) (b : Addr) (xs : List V) (h : SqT K (off x l G) b xs) : SqT K (off x l (upd G D o)) b xs := by
  rcases h with (h | ⟨u, h⟩) | h
  · obtain ⟨h1, h2, h3⟩ := off_some.mp h
    have hne : b ≠ D := fun e => by
      rw [e, hD] at h3
      cases h3
    exact .inl (.inl (off_at h1 h2 (by rw [upd_ne hne]; exact h3)))
  · obtain ⟨h1, h2, h3⟩ := off_some.mp h
    have hne : b ≠ D := fun e => by
      rw [e, hD] at h3
      cases h3
    exact .inl (.inr ⟨u, off_at h1 h2 (by rw [upd_ne hne]; exact h3)⟩)
  · exact .inr h
theorem one_noL {d : PyData} {ws : List Str} (h : pOne d ws = true) : noL d = true := by
  cases d with
  | str z => rw [noL]
  | _ => cases h
theorem loop_noL : ∀ {ds : List PyData} {k : Nat}, pLoop k ds = true → noLAll ds = true
  | [], _, _ => by rw [noLAll]
  | d :: r, k, h => by
    cases d with
    | str z =>
      rw [pLoop_str] at h
      split at h
      · split at h
        · cases h
        · rw [noLAll, noL, loop_noL h]
          rfl
      · cases h
    | _ => cases h
theorem are_noL {d : PyData} (h : pAre d = true) : noL d = true := by
  cases d with
  | tuple ds => rw [noL]; exact loop_noL (k := 0) h
  | _ => cases h
theorem int_noL (i : Int) : noL (.int i) = true := by rw [noL]
theorem part_noL {k : Str} {d : PyData} {n : Int} (h : pPart k d n = true) : noL d = true := by
  have hrow : ∀ {e : PyData}, pRowNo e n = true → noL e = true := fun {e} h => by
    cases e with
    | int i => exact int_noL i
    | _ => cases h
  unfold pPart at h
  repeat' split at h
  · cases d with
    | str z => rw [noL]
    | _ => cases h
  · cases d with
    | int i => exact int_noL i
    | _ => cases h
  · cases d with
    | int i => exact int_noL i
    | _ => cases h
  · cases d with
    | bool b => rw [noL]
    | _ => cases h
  · exact hrow h
  · exact one_noL h
  · rw [pLoose_eq] at h
    exact one_noL h
  · exact are_noL h
  · rcases Bool.or_eq_true_iff.mp h with h | h
    · exact one_noL h
    · unfold pHandler at h
      split at h
      · obtain ⟨h1, h2⟩ := Bool.and_eq_true_iff.mp h
        rw [noL, noLAll, noLAll, noLAll, hrow h1, are_noL h2]
        rfl
      · cases h
  · exact one_noL h
  · unfold pChild at h
    repeat' split at h
    · rename_i hn
      cases d with
      | int i => exact int_noL i
      | _ => cases hn
    · cases d with
      | none => rw [noL]
      | _ => cases h
    · exact one_noL h
    · exact one_noL h
theorem parts_noL (n : Int) : ∀ {ks : List Str} {ds : List PyData}, ds.length = ks.length → pParts n ks ds = true → noLAll ds = true
  | [], [], _, _ => by rw [noLAll]
  | k :: ks, d :: ds, hl, h => by
    unfold pParts at h
    obtain ⟨h1, h2⟩ := Bool.and_eq_true_iff.mp h
    rw [noLAll, part_noL h1, parts_noL n (by simpa using hl) h2]
    rfl
  | [], _ :: _, hl, _ => by cases hl
  | _ :: _, [], hl, _ => by cases hl
theorem row_noL {d : PyData} {n : Int} (h : pRow d n = true) : noL d = true := by
  unfold pRow at h
  split at h
  · rename_i w ps
    split at h
    · rename_i ks _
      obtain ⟨h1, h2⟩ := Bool.and_eq_true_iff.mp h
      rw [noL, noLAll, noL, parts_noL n (of_decide_eq_true h1) h2]
      rfl
    · cases h
  · cases h
theorem prog_noL {u : Nat} {p : PyData} (h : progOkN u p) : noL p = true := by
  obtain ⟨z, rows, rfl, _, _, _, _, _, hr⟩ := h
  rw [noL, noLAll, noLAll, noLAll, noL, noL, noLAll_of fun r h => row_noL (hr r h).2]
  rfl
end Kin
/-! A box that a law draws from: a list of three numbers; n bounds how often it was drawn from. What stands beside it stays: Off x x. -/
namespace Kin
open PySem PySem.Spec PyProof.Rows L2
def Box (n : Nat) (x : Addr) (H : Hp) : Prop := ∃ b0 b1 b2 : Int, H x = some (.lst [.int b0, .int b1, .int b2]) ∧ 0 ≤ b0 ∧ 0 ≤ b1 ∧ b1 < 2305843009213693951 ∧ 0 ≤ b2 ∧ b2 ≤ (n : Int)
section
variable {x p : Addr} {H H1 : Hp} {n m : Nat}
theorem Box.mono (h : Box n x H) (hm : n ≤ m) : Box m x H := by
  obtain ⟨b0, b1, b2, h1, h2, h3, h4, h5, h6⟩ := h
  exact ⟨b0, b1, b2, h1, h2, h3, h4, h5, by omega⟩
theorem Box.same (h : Box n x H) (s : Same H H1) : Box n x H1 := by
  obtain ⟨b0, b1, b2, h1, h2⟩ := h
  exact ⟨b0, b1, b2, s _ _ h1, h2⟩
theorem Box.nx (h : Box n x H) (hp : H p = none) : p ≠ x := by
  obtain ⟨b0, b1, b2, h1, h2⟩ := h
  exact (ne_of_none h1 hp).symm
theorem Box.mut {o : HO} (h : Box n x H) (h1 : p ≠ x) : Box n x (upd H p o) := by
  obtain ⟨b0, b1, b2, e, h2⟩ := h
  exact ⟨b0, b1, b2, by rw [upd_ne h1.symm]; exact e, h2⟩
theorem box_off (h : Box n x H) (hp : H p = none) {o : HO} : off x x (upd H p o) p = some o := off_at (h.nx hp) (h.nx hp) upd_same
end
theorem Off.none {x l q : Addr} {H H' : Hp} (f : Off x l H H') (n1 : q ≠ x) (n2 : q ≠ l) (h : H' q = Option.none) : H q = Option.none := by
  cases e : H q with
  | none => rfl
  | some o => rw [f q o n1 n2 e] at h; cases h
def spBox (K : PySem.W.Frag) : Sp := fun vs H Q _ => ∃ (a : Addr) (ns : List Int) (k : Int), vs = [.ref a, .int k] ∧ SqL K H a (ns.map V.int) ∧ 0 ≤ k ∧ k ≤ 1000 ∧ ∀ x H', Same H H' → H x = none → Box 0 x H' → Q (.ref x) H'
def spTake : Sp := fun vs H Q _ => ∃ (x : Addr) (n : Nat) (many : Int), vs = [.ref x, .int many] ∧ Box n x H ∧ n ≤ 1000000000 ∧ 0 < many ∧ many ≤ 1000000000 ∧ ∀ k H', 0 ≤ k → k < many → Box (n + 1) x H' → Off x x H H' → Q (.int k) H'
end Kin
/-! Small rules: repr of a truth, str of what is no tuple and no text, a tuple beside (). -/
namespace Kin
open PySem PySem.Spec PyProof.Rows L2
section
variable {X : Cx}
def boolS (b : Bool) : Str := if b then "True" else "False"
theorem call_repr_bl : CallR X (.builtin "repr") (fun xs H Q => ∃ b, xs = [.bl b] ∧ Q (.str (boolS b)) H) := fun pins s σ H xs us Q I r h => by
  obtain ⟨b, rfl, q⟩ := h
  obtain ⟨u, rfl, rx⟩ := vals1 r
  cases (show u = Value.bool b from rx)
  exact PySem.P.repr_of_bool ⟨.str (boolS b), H, I.tok _, ⟨_, rfl⟩, q⟩
theorem call_str_bl : CallR X (.type "str") (fun xs H Q => ∃ b, xs = [.bl b] ∧ Q (.str (boolS b)) H) := fun pins s σ H xs us Q I r h => by
  obtain ⟨b, rfl, q⟩ := h
  obtain ⟨u, rfl, rx⟩ := vals1 r
  cases (show u = Value.bool b from rx)
  exact PySem.P.str_of_bool ⟨.str (boolS b), H, I.tok _, ⟨_, rfl⟩, q⟩
theorem call_str_non : CallR X (.type "str") (fun xs H Q => xs = [.non] ∧ Q (.str "None") H) := fun pins s σ H xs us Q I r h => by
  obtain ⟨rfl, q⟩ := h
  obtain ⟨u, rfl, rx⟩ := vals1 r
  cases (show u = Value.none from rx)
  exact PySem.P.str_of_none ⟨.str "None", H, I.tok _, ⟨_, rfl⟩, q⟩
/-- x == (), x a tuple of anything -/
def rEq0 (K : PySem.W.Frag) : R2 := fun x y H Q => ∃ a b xs, x = .ref a ∧ y = .ref b ∧ SqT K H a xs ∧ SqT K H b [] ∧ Q (.bl xs.isEmpty) H
theorem op_eq0 (hu : X.A.units + 64 < cLine) : OpR X (compareOp .Eq) (rEq0 X.K) := fun pins s σ H x y v u Q I rx ry h => by
  obtain ⟨a, b, xs, rfl, rfl, ha, hb, q⟩ := h
  cases rx
  cases ry
  obtain ⟨its, rv, pa, _⟩ := I.tuple ha
  obtain ⟨its2, rv2, pb, _⟩ := I.tuple hb
  cases rv2
  have hq : EP X pins σ Q (.bool ((List.range (min its.toArray.size ([] : List Value).toArray.size)).all (fun _ => true) && its.toArray.size == ([] : List Value).toArray.size)) s := by
    refine ⟨.bl xs.isEmpty, H, I, ?_, q⟩
    show Value.bool _ = Value.bool _
    congr 1
    cases rv with
    | nil => rfl
    | cons _ _ => simp
  exact SeqAt.RcAt.tuples pa pb (Nat.lt_of_le_of_lt (Nat.le_add_right _ _) hu) (fun j h1 h2 => absurd h2 (Nat.not_lt_zero _)) X.prog X.w X.xe _ hq
def rNe0 (K : PySem.W.Frag) : R2 := fun x y H Q => ∃ a b xs, x = .ref a ∧ y = .ref b ∧ SqT K H a xs ∧ SqT K H b [] ∧ Q (.bl (!xs.isEmpty)) H
theorem op_ne0 (hu : X.A.units + 64 < cLine) : OpR X (compareOp .NotEq) (rNe0 X.K) := fun pins s σ H x y v u Q I rx ry h => by
  obtain ⟨a, b, xs, rfl, rfl, ha, hb, q⟩ := h
  cases rx
  cases ry
  obtain ⟨its, rv, pa, _⟩ := I.tuple ha
  obtain ⟨its2, rv2, pb, _⟩ := I.tuple hb
  cases rv2
  have hq : EP X pins σ Q (.bool (!((List.range (min its.toArray.size ([] : List Value).toArray.size)).all (fun _ => true) && its.toArray.size == ([] : List Value).toArray.size))) s := by
    refine ⟨.bl (!xs.isEmpty), H, I, ?_, q⟩
    show Value.bool _ = Value.bool _
    congr 1
    cases rv with
    | nil => rfl
    | cons _ _ => simp
  exact SeqAt.RcNeAt.tuples pa pb (Nat.lt_of_le_of_lt (Nat.le_add_right _ _) hu) (fun j h1 h2 => absurd h2 (Nat.not_lt_zero _)) X.prog X.w X.xe _ hq

/-! ### arithmetic of numbers and truths -/
def nv : V → Option Int
  | .int i => some i
  | .bl b => some (if b = true then 1 else 0)
  | _ => none
def rN (g : Int → Int → Int) : R2 := fun x y H Q => ∃ i j, nv x = some i ∧ nv y = some j ∧ Q (.int (g i j)) H
theorem op_addN : OpR X (binaryOp .Add) (rN fun i j => i + j) := fun pins s σ H x y v u Q I rx ry h => by
  obtain ⟨i, j, hx, hy, q⟩ := h
  cases x with
  | int a =>
    cases hx
    obtain ⟨t, rfl⟩ := rx
    cases y with
    | int b =>
      cases hy
      obtain ⟨t', rfl⟩ := ry
      exact add_int ⟨.int _, H, I.tok _, ⟨_, rfl⟩, q⟩
    | bl b =>
      cases hy
      cases (show u = Value.bool b from ry)
      exact PySem.add_int_bool ⟨.int _, H, I.tok _, ⟨_, rfl⟩, q⟩
    | _ => cases hy
  | bl a =>
    cases hx
    cases (show v = Value.bool a from rx)
    cases y with
    | int b =>
      cases hy
      obtain ⟨t', rfl⟩ := ry
      exact PySem.IntBool.add_bool_int ⟨.int _, H, I.tok _, ⟨_, rfl⟩, q⟩
    | bl b =>
      cases hy
      cases (show u = Value.bool b from ry)
      exact PyProof.Rows.add_bool ⟨.int _, H, I.tok _, ⟨_, rfl⟩, q⟩
    | _ => cases hy
  | _ => cases hx
theorem op_subN : OpR X (binaryOp .Sub) (rN fun i j => i - j) := fun pins s σ H x y v u Q I rx ry h => by
  obtain ⟨i, j, hx, hy, q⟩ := h
  cases x with
  | int a =>
    cases hx
    obtain ⟨t, rfl⟩ := rx
    cases y with
    | int b =>
      cases hy
      obtain ⟨t', rfl⟩ := ry
      exact sub_int ⟨.int _, H, I.tok _, ⟨_, rfl⟩, q⟩
    | bl b =>
      cases hy
      cases (show u = Value.bool b from ry)
      exact PySem.IntBool.sub_int_bool ⟨.int _, H, I.tok _, ⟨_, rfl⟩, q⟩
    | _ => cases hy
  | bl a =>
    cases hx
    cases (show v = Value.bool a from rx)
    cases y with
    | int b =>
      cases hy
      obtain ⟨t', rfl⟩ := ry
      exact PySem.IntBool.sub_bool_int ⟨.int _, H, I.tok _, ⟨_, rfl⟩, q⟩
    | bl b =>
      cases hy
      cases (show u = Value.bool b from ry)
      exact PyProof.Rows.sub_bool ⟨.int _, H, I.tok _, ⟨_, rfl⟩, q⟩
    | _ => cases hy
  | _ => cases hx
/-- str of a number, a truth, None: some text -/
def rStrN : List V → Hp → VK → Prop := fun xs H Q => ∃ x, xs = [x] ∧ ((∃ i : Int, x = .int i ∧ i.natAbs < 2 ^ 100) ∨ (∃ b, x = .bl b) ∨ x = .non) ∧ ∀ z : Str, z.length ≤ 200 → Q (.str z) H
theorem call_strN : CallR X (.type "str") rStrN := fun pins s σ H xs us Q I r h => by
  obtain ⟨x, rfl, hx, q⟩ := h
  rcases hx with ⟨i, rfl, hi⟩ | ⟨b, rfl⟩ | rfl
  · refine call_str_int pins s σ H _ us Q I r ⟨i, rfl, ?_, q _ ?_⟩
    · have : i.natAbs.log2 ≤ 100 := by
        by_cases h0 : i.natAbs = 0
        · rw [h0]
          decide
        · exact Nat.le_of_lt ((Nat.log2_lt h0).mpr hi)
      omega
    · have h1 := PySem.int_text_length_le (a := i) (k := 101) (by decide) (by
        by_cases h0 : i.natAbs = 0
        · rw [h0]
          decide
        · exact Nat.lt_of_lt_of_le ((Nat.log2_lt h0).mpr hi) (by decide))
      have h2 : (Str.ofString (toString i)).length = (toString i).length := by rw [PyProof.Rows.ofString_length, String.length_toList]
      show (Str.ofString (toString i)).length ≤ 200
      omega
  · refine call_str_bl pins s σ H _ us Q I r ⟨b, rfl, q _ ?_⟩
    cases b <;> decide +kernel
  · exact call_str_non pins s σ H _ us Q I r ⟨rfl, q _ (by decide +kernel)⟩
end
end Kin
/-! Defs that run where no repr is under way, and what repr then tells of data. -/
namespace Kin
open PySem PySem.Spec PyProof.Rows L2
/-- a def's promise where no repr is under way -/
structure FnG (P : Program) (w : World) (K : PySem.W.Frag) (mg : Str → Option Value) (base : Heap) (CX : CXT) (k : Nat) (f : Addr) (fd : FuncData) (ps : List Str) (sp : Sp) : Prop where
  many : ∀ vs H Q E, sp vs H Q E → vs.length = ps.length
  go : ∀ (B : Around) (up : List Env) (t : Shared) (H : Hp) (as : Args) (us : List Value) (vs : List V) (Q : VK) (E : XK), B.guards = some [] → Room k B → Env0 P w K mg base B up t H → BindsTo t fd as (ps.zip us) → Vals vs us → sp vs H Q E →
    codeAny (model P w) B (.call (.ref f) as) (CR CX up P w H t Q E) t
section
variable {P : Program} {w : World} {K : PySem.W.Frag} {mg : Str → Option Value} {base : Heap} {CX : CXT} {k : Nat} {f : Addr} {fd : FuncData} {ps N : List Str} {sp : Sp}
theorem FnG.of (F : FnOk P w K mg base CX k f fd ps sp) : FnG P w K mg base CX k f fd ps sp := ⟨F.len, fun B up t H as us vs Q E _ => F.run B up t H as us vs Q E⟩
theorem okG {x qual : Str} {params : Arguments} {body : List Stmt} {scope : Scope} {dvs : List V} {kws : List (Str × V)} (F : FunD K x qual params body scope dvs kws f fd) (S : FnScope N ps scope) (many : ∀ vs H Q E, sp vs H Q E → vs.length = ps.length)
    (hb : ∀ (cdv : Value) (B : Around) (up : List Env) (t : Shared) (H : Hp) (vs : List V) (Q : VK) (E : XK), B.guards = some [] → Room k (B.deeper (envOfC qual scope t.heap.objs.size f cdv)) → sp vs H Q E →
      ∃ tr, PSs (cxOf CX P w K mg base N qual scope f cdv B up t H E) body tr ∧ tr { nx := fun _ G => Q .non G, rt := Q } (start N vs) H) : FnG P w K mg base CX (k + 1) f fd ps sp := by
  obtain ⟨oc, od, dV, kV, doc, pm, an, cdv, ct, osl, rfl, look, cd, _, _⟩ := F.ex
  refine ⟨many, fun B up t H as us vs Q E noG room env bind rel hsp => ?_⟩
  have inK : K.In t.heap := env.mod.kin.keeps fun b o e => (env.bs b o e).1
  have noL : t.heap.NoLimit := env.mod.nolimit.keeps fun b o e => (env.bs b o e).1
  have kinds : ∀ y ∈ ps.zip us, scope.names.lookup y.1 = some .local ∨ (scope.names.lookup y.1 = some .cell ∧ ((cellsFrom (t.heap.objs.size + 1) scope.names []).lookup y.1).isSome = true) := by
    rintro ⟨n, v⟩ hy
    exact (S.par n (List.of_mem_zip hy).1).imp id fun q => ⟨q, PySem.W.cellsFrom_some _ _ _ (.inl q)⟩
  apply codeAny_call_function room.depth (inK _ _ look) rfl S.co S.gen rfl (PySem.W.codeRec_of inK cd)
  apply bind
  apply wpAny_newFunctionEnv_cells S.kind kinds
  intro env1 he t1 ic
  subst he
  refine ⟨noL.keeps ic.toInCall.keep, codeAny_func ?_⟩
  obtain ⟨tr, der, read⟩ := hb cdv B up t H vs Q E noG (room.deeper _) hsp
  have I := inv_start (CX := CX) (E := E) S room.hd env (many _ _ _ _ hsp) rel ic
  have got := der.run [] t1 (start N vs) H _ I read
  refine wpAny_mono got (fun fl t2 h => ?_) fun _ _ h => h
  have last : ∀ {σ : L2.St} {G : Hp} {v : V} {u : Value}, Inv (cxOf CX P w K mg base N qual scope f cdv B up t H E) [] σ G t2 → RelV v u → Q v G → CE up P w H t Q u t2 :=
    fun {σ G v u} J r q => ⟨v, G, J.os, J.bare, J.base, J.hok, r, q⟩
  cases fl with
  | ret u => exact let ⟨_, _, _, J, r, q⟩ := h; last J r q
  | next => exact let ⟨_, _, J, q⟩ := h; last (v := .non) (u := .none) J rfl q
  | brk => exact let ⟨_, _, _, q⟩ := h; q.elim
  | cont => exact let ⟨_, _, _, q⟩ := h; q.elim
end
structure CalG (P : Program) (w : World) (K : PySem.W.Frag) (mg : Str → Option Value) (base : Heap) (x : Str) (ps : List Str) (k : Nat) (sp : Sp) : Prop where
  ex : ∃ (f : Addr) (fd : FuncData), FnG P w K mg base CX0 k f fd ps sp ∧ mg x = some (.ref f) ∧ PySem.W.keepIn K (.ref f) = true ∧ Binds K fd ps []
section
variable {X : Cx} {x : Str} {ps : List Str} {k : Nat} {sp : Sp} {e : Expr} {es : List Expr} {t : TA} {p pos : Pos}
theorem runG {f : Addr} {fd : FuncData} {pins : List (Addr × Obj)} {σ : L2.St} {H : Hp} {s : Shared} {Q : VK} {us : List Value} {vs : List V} (F : FnG X.prog X.w X.K X.mg X.base CX0 k f fd ps sp) (hn : X.A.guards = some []) (hr : Room k X.A) (hb : Binds X.K fd ps [])
    (hx : Passes CX0 X E0) (I : Inv X pins σ H s) (r : Vals vs us) (h : sp (vs ++ []) H Q E0) : wpAny (model X.prog X.w) X.A (call (.ref f) us) (EP X pins σ Q) X.xe s := by
  have r2 : Vals (vs ++ []) (us ++ []) := r.append .nil
  have many : (us ++ []).length = ps.length := by
    rw [← r2.length]
    exact F.many _ _ _ _ h
  have got := F.go X.A X.stack s H ⟨us, []⟩ (us ++ []) (vs ++ []) Q E0 hn hr I.env0 (hb s us I.kIn many) r2 h
  refine wpAny_call (codeAny_mono got fun res t2 hq => ?_)
  match res, hq with
  | .error er, hq => exact hx pins σ H s er t2 I hq
  | .ok (.ret u), hq => exact I.after hq
  | .ok .next, hq => exact hq.elim
  | .ok .brk, hq => exact hq.elim
  | .ok .cont, hq => exact hq.elim
theorem pe_calG (c : CalG X.prog X.w X.K X.mg X.base x ps k sp) (hn : X.A.guards = some []) (hr : Room k X.A) (hg : Gl X x) (hx : Passes CX0 X E0) (ha : PA X (e :: es) t) (hdb : (x == ("__debug__" : Str)) = false := by decide)
    (he : starEach (e :: es) X.env = (false, eval e X.env) :: starEach es X.env := by rfl) (hpl : (backTo pos (starEach es X.env)).any (·.1) = false := by rfl) :
    PE X (.Call (.Name x p) (e :: es) [] pos) (tCall sp [] E0 t) := by
  obtain ⟨f, fd, F, hm, hk, hb⟩ := c.ex
  constructor
  intro pins s σ H Q I h
  apply wpAny_Call_Name_kw
  refine ld_glob I hg hm ?_ hdb
  refine PySem.W.callWith_K (h₀ := X.base) I.ok.mod.kin hk ?_ he hpl
  refine thn (ha.run pos pins s σ H _ I h) fun us s1 got => ?_
  obtain ⟨vs, H1, I1, r, q⟩ := got
  exact ⟨I1.kIn, runG F hn hr hb hx I1 r q⟩
end
/-! ### repr and str of data -/
section
variable {X : Cx} {pins : List (Addr × Obj)} {σ : L2.St} {H : Hp} {s : Shared}
theorem not_mods {a : Addr} {o : Obj} {its : Array Value} {n : Nat} (I : Inv X pins σ H s) (hm : ∃ mm, X.base.Ns sysModules mm) (ho : s.heap.get? a = some o) (hd : o.data = .seq its n) : a ≠ sysModules := by
  intro e
  subst e
  obtain ⟨mm, o2, es, ep, h1, h2, _⟩ := hm
  have h3 := I.bk _ _ h1
  rw [ho] at h3
  cases h3
  rw [hd] at h2
  cases h2
mutual
theorem dp_reads (I : Inv X pins σ H s) (hm : ∃ mm, X.base.Ns sysModules mm) : ∀ {d : PyData} {v : V} {u : Value}, Dp X.K H v d → RelV v u → ∃ as, Reads s.heap u d as ∧ sysModules ∉ as
  | _, _, _, .non, r => by
    cases r
    exact ⟨[], .none, fun q => nomatch q⟩
  | _, _, _, .bl b, r => by
    cases r
    exact ⟨[], .bool b, fun q => nomatch q⟩
  | _, _, _, .int i, r => by
    obtain ⟨t, rfl⟩ := r
    exact ⟨[], .int i t, fun q => nomatch q⟩
  | _, _, _, .str z, r => by
    obtain ⟨t, rfl⟩ := r
    exact ⟨[], .str z t, fun q => nomatch q⟩
  | _, _, _, .lst hs ha, r => by
    cases r
    obtain ⟨its, rv, ⟨o, n, ho, hc, _, hd⟩, _⟩ := I.list hs
    obtain ⟨as, hr, hn⟩ := dpA_reads I hm ha rv
    refine ⟨_, .list ho hc hd hr, fun q => ?_⟩
    rcases List.mem_cons.mp q with e | e
    · exact not_mods I hm ho hd e.symm
    · exact hn e
  | _, _, _, .tup hs ha, r => by
    cases r
    obtain ⟨its, rv, ⟨o, ho, hc, n, hd⟩, _⟩ := I.tuple hs
    obtain ⟨as, hr, hn⟩ := dpA_reads I hm ha rv
    exact ⟨_, .tuple ho hc hd hr, hn⟩
  | _, _, _, .dct hs, r => by
    cases r
    obtain ⟨_, hne, vs, kv, o, es, ep, ho, hx, hd, _, hp, _⟩ := dk_of I.hok hs
    cases kv
    have e0 : es.toList = [] := by
      generalize es.toList = l at hp
      cases hp
      rfl
    refine ⟨_, .dict (kvs := []) ho hx.1 hd (by rw [e0]; exact .nil) (by rw [e0]; exact .nil), fun q => ?_⟩
    rcases List.mem_cons.mp q with e | e
    · subst e
      simp at hne
    · cases e
theorem dpA_reads (I : Inv X pins σ H s) (hm : ∃ mm, X.base.Ns sysModules mm) : ∀ {ds : List PyData} {vs : List V} {us : List Value}, DpAll X.K H vs ds → Vals vs us → ∃ as, ReadsAll s.heap us ds as ∧ sysModules ∉ as
  | _, _, _, .nil, r => by
    cases r
    exact ⟨[], .nil, fun q => nomatch q⟩
  | _, _, _, .cons h t, r => by
    cases r with
    | cons r1 r2 =>
      obtain ⟨as, h1, n1⟩ := dp_reads I hm h r1
      obtain ⟨bs, h2, n2⟩ := dpA_reads I hm t r2
      exact ⟨as ++ bs, .cons h1 h2, fun q => (List.mem_append.mp q).elim n1 n2⟩
end
end
section
variable {X : Cx}
/-- what can be shown, and not too long -/
def shOk (d : PyData) : Prop := d.showable = true ∧ d.shown.length ≤ 16000000 ∧ d.depth ≤ 100
def rRepr (K : PySem.W.Frag) : List V → Hp → VK → Prop := fun xs H Q => ∃ x d, xs = [x] ∧ Dp K H x d ∧ shOk d ∧ Q (.str d.shown) H
theorem fits {n : Nat} (h : n ≤ 16000000) : n ≤ sizeLine := Nat.le_trans h (by decide)
theorem call_reprD {k : Nat} (hr : Room k X.A) (hn : X.A.guards = some []) (hm : ∃ mm, X.base.Ns sysModules mm) : CallR X (.builtin "repr") (rRepr X.K) := fun pins s σ H xs us Q I r h => by
  obtain ⟨x, d, rfl, hd, ⟨h1, h2, h3⟩, q⟩ := h
  obtain ⟨u, rfl, rx⟩ := vals1 r
  have room := hr.un
  obtain ⟨as, rd, hs⟩ := dp_reads I hm hd rx
  cases rd with
  | none => exact PySem.P.repr_of_none ⟨.str _, H, I.tok _, ⟨_, by rw [PyData.shown]⟩, q⟩
  | bool b => exact PySem.P.repr_of_bool ⟨.str _, H, I.tok _, ⟨_, by rw [PyData.shown]⟩, q⟩
  | int i t =>
    rw [PyData.showable] at h1
    exact PySem.P.repr_of_int (of_decide_eq_true h1) ⟨.str _, H, I.tok _, ⟨_, by rw [PyData.shown]⟩, q⟩
  | str z t =>
    rw [PyData.shown] at h2
    exact PySem.P.repr_of_str ⟨.str _, H, I.tok _, ⟨_, by rw [PyData.shown]⟩, q⟩ (fits h2)
  | list a1 a2 a3 a4 => exact repr_of_reads' (.list a1 a2 a3 a4) h1 (fun _ => hs) hn (by omega) (fun _ _ e => e) (fun h' u tk hk => ⟨.str _, H, I.kept hk, ⟨_, rfl⟩, q⟩) (fits h2)
  | tuple a1 a2 a3 a4 => exact repr_of_reads' (.tuple a1 a2 a3 a4) h1 (fun _ => hs) hn (by omega) (fun _ _ e => e) (fun h' u tk hk => ⟨.str _, H, I.kept hk, ⟨_, rfl⟩, q⟩) (fits h2)
  | dict a1 a2 a3 a4 a5 => exact repr_of_reads' (.dict a1 a2 a3 a4 a5) h1 (fun _ => hs) hn (by omega) (fun _ _ e => e) (fun h' u tk hk => ⟨.str _, H, I.kept hk, ⟨_, rfl⟩, q⟩) (fits h2)
/-- str of what is no text -/
def rStrD (K : PySem.W.Frag) : List V → Hp → VK → Prop := fun xs H Q => ∃ x d, xs = [x] ∧ Dp K H x d ∧ isaStr d = false ∧ shOk d ∧ Q (.str d.shown) H
theorem call_strD {k : Nat} (hr : Room k X.A) (hn : X.A.guards = some []) (hm : ∃ mm, X.base.Ns sysModules mm) : CallR X (.type "str") (rStrD X.K) := fun pins s σ H xs us Q I r h => by
  obtain ⟨x, d, rfl, hd, hno, ⟨h1, h2, h3⟩, q⟩ := h
  obtain ⟨u, rfl, rx⟩ := vals1 r
  have room := hr.un
  obtain ⟨as, rd, hs⟩ := dp_reads I hm hd rx
  cases rd with
  | none => exact PySem.P.str_of_none ⟨.str _, H, I.tok _, ⟨_, by rw [PyData.shown]⟩, q⟩
  | bool b => exact PySem.P.str_of_bool ⟨.str _, H, I.tok _, ⟨_, by rw [PyData.shown]⟩, q⟩
  | int i t =>
    rw [PyData.showable] at h1
    exact PySem.P.str_of_int (of_decide_eq_true h1) ⟨.str _, H, I.tok _, ⟨_, by rw [PyData.shown]⟩, q⟩
  | str z t => cases hno
  | list a1 a2 a3 a4 => exact str_of_reads (.list a1 a2 a3 a4) h1 (fun _ => hs) hn (by omega) (fun _ _ e => e) (fun h' u tk hk => ⟨.str _, H, I.kept hk, ⟨_, rfl⟩, q⟩) (fits h2)
  | tuple a1 a2 a3 a4 => exact str_of_reads (.tuple a1 a2 a3 a4) h1 (fun _ => hs) hn (by omega) (fun _ _ e => e) (fun h' u tk hk => ⟨.str _, H, I.kept hk, ⟨_, rfl⟩, q⟩) (fits h2)
  | dict a1 a2 a3 a4 a5 => exact str_of_reads (.dict a1 a2 a3 a4 a5) h1 (fun _ => hs) hn (by omega) (fun _ _ e => e) (fun h' u tk hk => ⟨.str _, H, I.kept hk, ⟨_, rfl⟩, q⟩) (fits h2)
end
/-! ### the law's own call, where no repr is under way -/
section
variable {P : Program} {w : World} {K : PySem.W.Frag}
theorem scriptTracked {a : Addr} {t : Shared} {vs : List Value} {ns : List Int} (inK : K.In t.heap) (ha : t.heap.get? a = some { cls := .type "list", data := .seq vs.toArray }) (hi : IntsAre vs ns) (hl : ns.length ≤ sizeLine) :
    ∃ H : Hp, Only H ∧ SqL K H a (ns.map V.int) ∧ HOk P w H t.heap ∧ ∀ b, H b ≠ none → b = a ∧ K.lookup a = none := by
  have rel := vals_ints hi
  cases look : K.lookup a with
  | some o =>
    have same := inK a o look
    rw [ha] at same
    cases same
    refine ⟨fun _ => none, fun _ => .inl rfl, .inr ⟨_, vs.toArray, _, look, rfl, rfl, rfl, ?_, ?_⟩, fun b u z => (nomatch (show (none : Option HO) = some u from z)), fun b z => (z rfl).elim⟩
    · rw [List.size_toArray, hi.length]
      exact hl
    · simpa using rel
  | none =>
    refine ⟨fun b => if b = a then some (.frz { cls := .type "list", data := .seq vs.toArray } (.lst (ns.map V.int))) else none, fun b => ?_, .inl (.inr ⟨_, if_pos rfl⟩), fun b u z => ?_, fun b z => ?_⟩
    · by_cases e : b = a
      · exact .inr ⟨_, _, if_pos e⟩
      · exact .inl (if_neg e)
    · by_cases e : b = a
      · subst e
        cases (if_pos rfl).symm.trans z
        exact ⟨ha, by rw [List.length_map]; exact hl, vs, _, rel, ha⟩
      · cases (if_neg e).symm.trans z
    · by_cases e : b = a
      · exact ⟨e, rfl⟩
      · exact (z (if_neg e)).elim
theorem lawG {mg mb : Str → Option Value} {k : Nat} {fa a : Addr} {fd : FuncData} {x : Str} {sp : Sp} {t : Shared} {vs : List Value} {ns : List Int} (inK : K.In t.heap) (glob : t.heap.Ns mainGlobals mg) (blt : t.heap.Ns builtinsNs mb)
    (blts : ∀ y : Str, y ≠ "__name__" → mb y = bootBuiltins y) (lim : t.heap.NoLimit) (gens : t.gens = #[]) (ha : t.heap.get? a = some { cls := .type "list", data := .seq vs.toArray }) (hi : IntsAre vs ns) (hl : ns.length ≤ sizeLine) (room : Room k callerA)
    (mods : ∃ mm, t.heap.Ns sysModules mm) (F : ∀ base : Heap, K.In base → base.Ns mainGlobals mg → (∃ mm, base.Ns sysModules mm) → FnG P w K mg base CX0 k fa fd [x] sp) (bind : ∀ (t : Shared) (u : Value), BindsTo t fd ⟨[u], []⟩ [(x, u)])
    (hsp : ∀ H : Hp, Only H → SqL K H a (ns.map V.int) → sp [.ref a] H (fun v _ => v = .bl true) fun _ _ _ => False) :
    codeAny (model P w) callerA (.call (.ref fa) ⟨[.ref a], []⟩) (fun r t2 => r = .ok (.ret (.bool true)) ∧ OldK t.heap t2.heap ∧ t2.os = t.os ∧ AllBare t2.gens) t := by
  obtain ⟨H, only, scr, hok, own⟩ := scriptTracked (P := P) (w := w) inK ha hi hl
  have stay : ∀ {b : Addr} {o : Obj}, t.heap.get? b = some o → (b = a → K.lookup a = none → False) → (hidT t.heap H).get? b = some o := fun {b o} e no => hidT_get e (by
    cases q : H b with
    | none => rfl
    | some u =>
      obtain ⟨e1, e2⟩ := own b (by rw [q]; intro z; cases z)
      exact (no e1 e2).elim)
  have ns2 : ∀ {b : Addr} {m : Str → Option Value}, t.heap.Ns b m → (hidT t.heap H).Ns b m := by
    rintro b m ⟨o, es, ep, e, d, r⟩
    refine ⟨o, es, ep, stay e fun q _ => ?_, d, r⟩
    subst q
    rw [ha] at e
    cases e
    cases (show Data.seq vs.toArray _ = Data.dict es ep from d)
  have kin2 : K.In (hidT t.heap H) := fun b o e => stay (inK b o e) fun q z => by
    subst q
    rw [z] at e
    cases e
  have modl : Mod K mg (hidT t.heap H) := ⟨kin2, ns2 glob, ⟨mb, ns2 blt, blts⟩, by
    obtain ⟨mc, h1, h2⟩ := lim
    exact ⟨mc, ns2 h1, h2⟩⟩
  have env : Env0 P w K mg (hidT t.heap H) callerA [] t H := ⟨rfl, modl, fun _ _ e => of_hidT e, Nat.le_of_eq (hidT_size _ _), trivial, fun b q => (by cases (show b ∈ ([] : List Addr) from q)), hok, .of_eq gens⟩
  have got := (F _ kin2 (ns2 glob) (let ⟨mm, h⟩ := mods; ⟨mm, ns2 h⟩)).go callerA [] t H ⟨[.ref a], []⟩ [.ref a] [.ref a] _ _ rfl room env (bind t (.ref a)) (.cons rfl .nil) (hsp H only scr)
  refine codeAny_mono got fun r t2 h => ?_
  match r, h with
  | .error e, h => exact h.elim
  | .ok .next, h => exact h.elim
  | .ok .brk, h => exact h.elim
  | .ok .cont, h => exact h.elim
  | .ok (.ret u), h =>
    obtain ⟨v, H2, os, bare, un, hok2, rel, q⟩ := h
    obtain rfl : v = .bl true := q
    obtain rfl : u = Value.bool true := rel
    refine ⟨rfl, OldK.of_keep fun b o e => ?_, os, bare⟩
    rcases only b with z | ⟨ob, xs, z⟩
    · exact un.keep b o e z (fun m => by cases (show b ∈ ([] : List Addr) from m)) (fun m => by cases m)
    · have e1 := (hok b _ z).1
      rw [e] at e1
      cases e1
      exact (hok2 b _ (un.frzs b _ _ z)).1
end
theorem walkG {l : PySem.W.OpenLaw} {n k : Nat} {q : Program} {loose : List Str} {XP : (Str → Option Value) → Heap → Prop} {YP : World → Heap → Prop} {d : DefRec} {x : Str} (hn : l.most = some n) (hn2 : n ≤ sizeLine) (hdf : d.params.defaults = []) (room : Room k callerA)
    (F : ∀ (w : World) (mg : Str → Option Value) (fa : Addr) (h : Heap), YP w h → h.Ns mainGlobals mg → mg d.name = some (.ref fa) → ∃ (K : PySem.W.Frag) (fd : FuncData) (sp : Sp), K.In h ∧ (∀ (t : Shared) (u : Value), BindsTo t fd ⟨[u], []⟩ [(x, u)]) ∧
      (∀ (H : Hp) (a : Addr) (ns : List Int), ns.length ≤ n → Only H → SqL K H a (ns.map V.int) → sp [.ref a] H (fun v _ => v = .bl true) fun _ _ _ => False) ∧ ∀ base : Heap, K.In base → base.Ns mainGlobals mg → (∃ mm, base.Ns sysModules mm) → FnG l.prog w K mg base CX0 k fa fd [x] sp)
    (alone : importsNone q = true) :
    PySem.W.WalkO q loose XP YP l.row.toRowW d [] (fun f vs => PySem.call f vs) := by
  apply Att.attach_call hn hdf
  intro w t0 t mg mb fa o pm cd doc a vs ns G Y _ _ _ hmg hobj hints hlen hg
  obtain ⟨K, fd, sp, inK, bind, hsp, ok⟩ := F w mg fa _ Y G.T.g hmg
  have mods : ∃ mm, t.heap.Ns sysModules mm := let ⟨mm, h, _⟩ := (G.T.seer alone).mods; ⟨mm, h⟩
  exact lawG inK G.T.g G.T.b G.T.builtins G.T.nolimit hg hobj hints (Nat.le_trans hlen hn2) room mods ok bind fun H only scr => hsp H a ns hlen only scr
end Kin
/-! How great data are: lengths by m, numbers by b. What stays so when a part of it is exchanged. -/
namespace Kin
open PySem PySem.Spec PyProof.Rows L2
mutual
def sz (m b : Nat) : PyData → Bool
  | .str z => decide (z.length ≤ m)
  | .int i => decide (i.natAbs ≤ b)
  | .list xs => decide (xs.length ≤ m) && szAll m b xs
  | .tuple xs => decide (xs.length ≤ m) && szAll m b xs
  | .none => true
  | .bool _ => true
  | .dict _ => true
def szAll (m b : Nat) : List PyData → Bool
  | [] => true
  | x :: xs => sz m b x && szAll m b xs
end
theorem szAll_of {m b : Nat} : ∀ {ds : List PyData}, (∀ d ∈ ds, sz m b d = true) → szAll m b ds = true
  | [], _ => by rw [szAll]
  | d :: r, h => by
    rw [szAll, h d List.mem_cons_self, szAll_of fun y hy => h y (List.mem_cons_of_mem _ hy)]
    rfl
theorem szAll_mem {m b : Nat} : ∀ {ds : List PyData}, szAll m b ds = true → ∀ d ∈ ds, sz m b d = true
  | [], _ => fun d hd => by cases hd
  | a :: r, h => fun d hd => by
    rw [szAll] at h
    obtain ⟨h1, h2⟩ := Bool.and_eq_true_iff.mp h
    rcases List.mem_cons.mp hd with e | e
    · subst e
      exact h1
    · exact szAll_mem h2 d e
theorem sz_tup {m b : Nat} {ds : List PyData} (h : ∀ d ∈ ds, sz m b d = true) (hl : ds.length ≤ m) : sz m b (.tuple ds) = true := by
  rw [sz, szAll_of h, decide_eq_true hl]
  rfl
theorem sz_list {m b : Nat} {ds : List PyData} (h : ∀ d ∈ ds, sz m b d = true) (hl : ds.length ≤ m) : sz m b (.list ds) = true := by
  rw [sz, szAll_of h, decide_eq_true hl]
  rfl
theorem sz_str {m b : Nat} {z : Str} (h : z.length ≤ m) : sz m b (.str z) = true := by
  rw [sz, decide_eq_true h]
theorem sz_int {m b : Nat} {i : Int} (h : i.natAbs ≤ b) : sz m b (.int i) = true := by
  rw [sz, decide_eq_true h]
theorem sz_non {m b : Nat} : sz m b .none = true := by rw [sz]
theorem sz_bool {m b : Nat} {t : Bool} : sz m b (.bool t) = true := by rw [sz]
theorem sz_dict {m b : Nat} : sz m b (.dict []) = true := by rw [sz]
theorem sz_tup' {m b : Nat} {ds : List PyData} (h : sz m b (.tuple ds) = true) : ds.length ≤ m ∧ ∀ d ∈ ds, sz m b d = true := by
  rw [sz] at h
  obtain ⟨h1, h2⟩ := Bool.and_eq_true_iff.mp h
  exact ⟨of_decide_eq_true h1, szAll_mem h2⟩
theorem sz_str' {m b : Nat} {z : Str} (h : sz m b (.str z) = true) : z.length ≤ m := by
  rw [sz] at h
  exact of_decide_eq_true h
theorem sz_int' {m b : Nat} {i : Int} (h : sz m b (.int i) = true) : i.natAbs ≤ b := by
  rw [sz] at h
  exact of_decide_eq_true h
mutual
theorem sz_mono {m b m' b' : Nat} (hm : m ≤ m') (hb : b ≤ b') : ∀ {d : PyData}, sz m b d = true → sz m' b' d = true
  | .none, _ => by rw [sz]
  | .bool _, _ => by rw [sz]
  | .dict _, _ => by rw [sz]
  | .int i, h => by
    rw [sz] at h ⊢
    exact decide_eq_true (Nat.le_trans (of_decide_eq_true h) hb)
  | .str z, h => by
    rw [sz] at h ⊢
    exact decide_eq_true (Nat.le_trans (of_decide_eq_true h) hm)
  | .list xs, h => by
    rw [sz] at h ⊢
    obtain ⟨h1, h2⟩ := Bool.and_eq_true_iff.mp h
    rw [szAll_mono hm hb h2, decide_eq_true (Nat.le_trans (of_decide_eq_true h1) hm)]
    rfl
  | .tuple xs, h => by
    rw [sz] at h ⊢
    obtain ⟨h1, h2⟩ := Bool.and_eq_true_iff.mp h
    rw [szAll_mono hm hb h2, decide_eq_true (Nat.le_trans (of_decide_eq_true h1) hm)]
    rfl
theorem szAll_mono {m b m' b' : Nat} (hm : m ≤ m') (hb : b ≤ b') : ∀ {ds : List PyData}, szAll m b ds = true → szAll m' b' ds = true
  | [], _ => by rw [szAll]
  | d :: r, h => by
    rw [szAll] at h ⊢
    obtain ⟨h1, h2⟩ := Bool.and_eq_true_iff.mp h
    rw [sz_mono hm hb h1, szAll_mono hm hb h2]
    rfl
end
mutual
theorem sz_len {m b : Nat} (hm : m ≤ 1000000) : ∀ {d : PyData}, sz m b d = true → lenOk d = true
  | .none, _ => by rw [lenOk]
  | .bool _, _ => by rw [lenOk]
  | .dict _, _ => by rw [lenOk]
  | .int i, h => by rw [lenOk]
  | .str z, h => by
    rw [sz] at h
    rw [lenOk]
    exact decide_eq_true (Nat.le_trans (of_decide_eq_true h) hm)
  | .list xs, h => by
    rw [sz] at h
    rw [lenOk]
    obtain ⟨h1, h2⟩ := Bool.and_eq_true_iff.mp h
    rw [szAll_len hm h2, decide_eq_true (Nat.le_trans (of_decide_eq_true h1) hm)]
    rfl
  | .tuple xs, h => by
    rw [sz] at h
    rw [lenOk]
    obtain ⟨h1, h2⟩ := Bool.and_eq_true_iff.mp h
    rw [szAll_len hm h2, decide_eq_true (Nat.le_trans (of_decide_eq_true h1) hm)]
    rfl
theorem szAll_len {m b : Nat} (hm : m ≤ 1000000) : ∀ {ds : List PyData}, szAll m b ds = true → lenAll ds = true
  | [], _ => by rw [lenAll]
  | d :: r, h => by
    rw [szAll] at h
    rw [lenAll]
    obtain ⟨h1, h2⟩ := Bool.and_eq_true_iff.mp h
    rw [sz_len hm h1, szAll_len hm h2]
    rfl
end
/-! ### depths -/
theorem depth_tup (ds : List PyData) : (PyData.tuple ds).depth = PyData.depthAll ds + 1 := by rw [PyData.depth]
theorem depth_list (ds : List PyData) : (PyData.list ds).depth = PyData.depthAll ds + 1 := by rw [PyData.depth]
theorem depth_mem : ∀ {ds : List PyData} {d : PyData}, d ∈ ds → d.depth ≤ PyData.depthAll ds
  | [], _, h => by cases h
  | a :: r, d, h => by
    rw [PyData.depthAll]
    rcases List.mem_cons.mp h with e | e
    · subst e
      omega
    · have := depth_mem e
      omega
theorem depthAll_of {m : Nat} : ∀ {ds : List PyData}, (∀ d ∈ ds, d.depth ≤ m) → PyData.depthAll ds ≤ m
  | [], _ => by rw [PyData.depthAll]; exact Nat.zero_le _
  | a :: r, h => by
    rw [PyData.depthAll]
    have h1 := h a List.mem_cons_self
    have h2 := depthAll_of fun d hd => h d (List.mem_cons_of_mem _ hd)
    omega
def topLen : PyData → Nat
  | .tuple ds => ds.length
  | _ => 0
/-! ### rows -/
theorem loop_len : ∀ {ds : List PyData} {k : Nat}, pLoop k ds = true → ds.length ≤ 9 - k ∧ ∀ d ∈ ds, ∃ z, d = .str z ∧ z ∈ sig9
  | [], _, _ => ⟨Nat.zero_le _, fun d hd => by cases hd⟩
  | d :: r, k, h => by
    cases d with
    | str z =>
      rw [pLoop_str] at h
      split at h
      · rename_i hz
        split at h
        · cases h
        · rename_i hk
          obtain ⟨h1, h2⟩ := loop_len h
          have hz9 : z ∈ sig9 := of_decide_eq_true (Bool.and_eq_true_iff.mp hz).1
          have hlt : sig9.idxOf z < 9 := List.idxOf_lt_length_of_mem hz9
          refine ⟨by rw [List.length_cons]; omega, fun d hd => ?_⟩
          rcases List.mem_cons.mp hd with e | e
          · exact ⟨z, e, hz9⟩
          · exact h2 d e
      · cases h
    | _ => cases h
theorem sig9_len {z : Str} (h : z ∈ sig9) : z.length ≤ 8 := by
  have h : ∀ z ∈ sig9, z.length ≤ 8 := by decide +kernel
  exact h z ‹_›
theorem are_sz {b : Nat} {d : PyData} (h : pAre d = true) : sz 40 b d = true ∧ d.depth ≤ 1 := by
  cases d with
  | tuple ds =>
    obtain ⟨h1, h2⟩ := loop_len (k := 0) h
    refine ⟨sz_tup (fun d hd => ?_) (by omega), ?_⟩
    · obtain ⟨z, rfl, hz⟩ := h2 d hd
      exact sz_str (Nat.le_trans (sig9_len hz) (by decide))
    · rw [depth_tup]
      have : PyData.depthAll ds ≤ 0 := depthAll_of fun d hd => by
        obtain ⟨z, rfl, hz⟩ := h2 d hd
        rw [PyData.depth]
        exact Nat.le_refl _
      omega
  | _ => cases h
theorem one_sz {m b : Nat} {d : PyData} {ws : List Str} (h : pOne d ws = true) (hw : ∀ z ∈ ws, z.length ≤ m) : sz m b d = true ∧ d.depth = 0 := by
  cases d with
  | str z => exact ⟨sz_str (hw z (of_decide_eq_true h)), by rw [PyData.depth]⟩
  | _ => cases h
theorem near_sz {m : Nat} {i : Int} (h : near (.int i) = true) : sz m 1000000000 (.int i) = true ∧ (PyData.int i).depth ≤ 2 := by
  have h : (decide (-1000000000 ≤ i) && decide (i ≤ 1000000000)) = true := h
  obtain ⟨h1, h2⟩ := Bool.and_eq_true_iff.mp h
  have h1 := of_decide_eq_true h1
  have h2 := of_decide_eq_true h2
  exact ⟨sz_int (by omega), by rw [PyData.depth]; decide⟩
theorem part_sz {k : Str} {d : PyData} {n : Int} (h : pPart k d n = true) (hn : n ≤ 1000) (hd : near d = true) : sz 40 1000000000 d = true ∧ d.depth ≤ 2 := by
  have hone : ∀ {ws : List Str}, pOne d ws = true → (∀ z ∈ ws, z.length ≤ 40) → sz 40 1000000000 d = true ∧ d.depth ≤ 2 := fun h hw => by
    obtain ⟨a, b⟩ := one_sz (b := 1000000000) h hw
    exact ⟨a, by omega⟩
  have hrow : ∀ {e : PyData}, pRowNo e n = true → sz 40 1000000000 e = true ∧ e.depth = 0 := fun {e} h => by
    cases e with
    | int i =>
      have h : (decide (0 ≤ i) && decide (i < n)) = true := h
      obtain ⟨h1, h2⟩ := Bool.and_eq_true_iff.mp h
      have h1 := of_decide_eq_true h1
      have h2 := of_decide_eq_true h2
      exact ⟨sz_int (by omega), by rw [PyData.depth]⟩
    | _ => cases h
  unfold pPart at h
  repeat' split at h
  · cases d with
    | str z =>
      have h : (decide (1 ≤ z.length) && decide (z.length ≤ 8) && azAll z) = true := h
      have h2 := of_decide_eq_true (Bool.and_eq_true_iff.mp (Bool.and_eq_true_iff.mp h).1).2
      exact ⟨sz_str (by omega), by rw [PyData.depth]; decide⟩
    | _ => cases h
  · cases d with
    | int i => exact near_sz hd
    | _ => cases h
  · cases d with
    | int i => exact near_sz hd
    | _ => cases h
  · cases d with
    | bool b => exact ⟨sz_bool, by rw [PyData.depth]; decide⟩
    | _ => cases h
  · obtain ⟨a, b⟩ := hrow h
    exact ⟨a, by omega⟩
  · exact hone h (by decide +kernel)
  · rw [pLoose_eq] at h
    exact hone h (by decide +kernel)
  · obtain ⟨a, b⟩ := are_sz (b := 1000000000) h
    exact ⟨a, by omega⟩
  · rcases Bool.or_eq_true_iff.mp h with h | h
    · exact hone h (by decide +kernel)
    · unfold pHandler at h
      split at h
      · rename_i d1 d2
        obtain ⟨h1, h2⟩ := Bool.and_eq_true_iff.mp h
        obtain ⟨a1, b1⟩ := hrow h1
        obtain ⟨a2, b2⟩ := are_sz (b := 1000000000) h2
        refine ⟨sz_tup (fun e he => ?_) (by show 2 ≤ 40; decide), ?_⟩
        · rcases List.mem_cons.mp he with e1 | he
          · rw [e1]; exact a1
          · rw [List.mem_singleton.mp he]; exact a2
        · rw [depth_tup, PyData.depthAll, PyData.depthAll, PyData.depthAll]
          omega
      · cases h
  · exact hone h (by decide +kernel)
  · unfold pChild at h
    repeat' split at h
    · rename_i hn
      cases d with
      | int i => exact near_sz hd
      | _ => cases hn
    · cases d with
      | none => exact ⟨sz_non, by rw [PyData.depth]; decide⟩
      | _ => cases h
    · exact hone h (by decide +kernel)
    · exact hone h (by decide +kernel)
theorem parts_sz {n : Int} (hn : n ≤ 1000) : ∀ {ks : List Str} {ds : List PyData}, ds.length = ks.length → ds.all near = true → pParts n ks ds = true → ∀ d ∈ ds, sz 40 1000000000 d = true ∧ d.depth ≤ 2
  | [], [], _, _, _ => fun d hd => by cases hd
  | k :: ks, e :: ds, hl, hb, h => fun d hd => by
    unfold pParts at h
    obtain ⟨h1, h2⟩ := Bool.and_eq_true_iff.mp h
    rw [List.all_cons] at hb
    obtain ⟨b1, b2⟩ := Bool.and_eq_true_iff.mp hb
    rcases List.mem_cons.mp hd with q | q
    · rw [q]
      exact part_sz h1 hn b1
    · exact parts_sz hn (by simpa using hl) b2 h2 d q
  | [], _ :: _, hl, _, _ => by cases hl
  | _ :: _, [], hl, _, _ => by cases hl
theorem forms_le {w : Str} {ks : List Str} (h : forms.lookup w = some ks) : ks.length ≤ 2 ∧ w.length ≤ 40 := by
  have all : ∀ p ∈ forms, p.2.length ≤ 2 ∧ p.1.length ≤ 40 := by decide +kernel
  have key : ∀ (l : List (Str × List Str)), l.lookup w = some ks → (w, ks) ∈ l := by
    intro l
    induction l with
    | nil => intro q; cases q
    | cons p r ih =>
      intro q
      obtain ⟨a, b⟩ := p
      rw [List.lookup_cons] at q
      split at q
      · rename_i e
        have e := eq_of_beq e
        cases q
        rw [e]
        exact List.mem_cons_self
      · exact List.mem_cons_of_mem _ (ih q)
  exact all _ (key _ h)
theorem row_sz {d : PyData} {n : Int} (h : pRow d n = true) (hn : n ≤ 1000) (hb : nearAll d = true) : sz 40 1000000000 d = true ∧ d.depth ≤ 3 ∧ topLen d ≤ 3 := by
  unfold pRow at h
  split at h
  · rename_i w ps
    split at h
    · rename_i ks hk
      obtain ⟨h1, h2⟩ := Bool.and_eq_true_iff.mp h
      have h1 := of_decide_eq_true h1
      obtain ⟨f1, f2⟩ := forms_le hk
      have hb : (near (.str w) && ps.all near) = true := hb
      have key := parts_sz hn h1 (Bool.and_eq_true_iff.mp hb).2 h2
      refine ⟨sz_tup (fun d hd => ?_) (by rw [List.length_cons]; omega), ?_, ?_⟩
      · rcases List.mem_cons.mp hd with q | q
        · rw [q]
          exact sz_str f2
        · exact (key d q).1
      · rw [depth_tup]
        have : PyData.depthAll (.str w :: ps) ≤ 2 := depthAll_of fun d hd => by
          rcases List.mem_cons.mp hd with q | q
          · rw [q, PyData.depth]
            exact Nat.zero_le _
          · exact (key d q).2
        omega
      · show (PyData.str w :: ps).length ≤ 3
        rw [List.length_cons]
        omega
    · cases h
  · cases h
end Kin
/-! How great data are in all: tw; numbers by b, signs below 2^21: gd. What repr shows of them. -/
namespace Kin
open PySem PySem.Spec PyProof.Rows L2
mutual
def tw : PyData → Nat
  | .str z => z.length + 1
  | .list xs => twAll xs + 1
  | .tuple xs => twAll xs + 1
  | .int _ => 1
  | .none => 1
  | .bool _ => 1
  | .dict _ => 1
def twAll : List PyData → Nat
  | [] => 0
  | x :: r => tw x + twAll r
end
theorem tw_tup (ds : List PyData) : tw (.tuple ds) = twAll ds + 1 := by rw [tw]
theorem tw_list (ds : List PyData) : tw (.list ds) = twAll ds + 1 := by rw [tw]
theorem tw_str (z : Str) : tw (.str z) = z.length + 1 := by rw [tw]
theorem twAll_nil : twAll [] = 0 := by rw [twAll]
theorem twAll_cons (d : PyData) (r : List PyData) : twAll (d :: r) = tw d + twAll r := by rw [twAll]
theorem twAll_app : ∀ (a b : List PyData), twAll (a ++ b) = twAll a + twAll b
  | [], b => by rw [List.nil_append, twAll_nil, Nat.zero_add]
  | d :: r, b => by rw [List.cons_append, twAll_cons, twAll_cons, twAll_app r b, Nat.add_assoc]
theorem twAll_take : ∀ (n : Nat) (a : List PyData), twAll (a.take n) ≤ twAll a
  | 0, a => by rw [List.take_zero, twAll_nil]; exact Nat.zero_le _
  | n + 1, [] => by rw [List.take_nil]; exact Nat.le_refl _
  | n + 1, d :: r => by
    rw [List.take_succ_cons, twAll_cons, twAll_cons]
    have := twAll_take n r
    omega
theorem twAll_drop : ∀ (n : Nat) (a : List PyData), twAll (a.drop n) ≤ twAll a
  | 0, a => Nat.le_refl _
  | n + 1, [] => by rw [List.drop_nil]; exact Nat.le_refl _
  | n + 1, d :: r => by
    rw [List.drop_succ_cons, twAll_cons]
    have := twAll_drop n r
    omega
theorem twAll_cut (c n : Nat) (a : List PyData) : twAll ((a.drop c).take n) ≤ twAll a := Nat.le_trans (twAll_take _ _) (twAll_drop _ _)
theorem twAll_rev : ∀ a : List PyData, twAll a.reverse = twAll a
  | [] => rfl
  | d :: r => by rw [List.reverse_cons, twAll_app, twAll_rev r, twAll_cons, twAll_cons, twAll_nil]; omega
theorem tw_mem : ∀ {ds : List PyData} {d : PyData}, d ∈ ds → tw d ≤ twAll ds
  | [], _, h => by cases h
  | a :: r, d, h => by
    rw [twAll_cons]
    rcases List.mem_cons.mp h with e | e
    · rw [e]; omega
    · have := tw_mem e
      omega
theorem tw_pos (d : PyData) : 1 ≤ tw d := by
  cases d <;> rw [tw] <;> omega
theorem len_twAll : ∀ ds : List PyData, ds.length ≤ twAll ds
  | [] => Nat.zero_le _
  | d :: r => by
    rw [List.length_cons, twAll_cons]
    have := tw_pos d
    have := len_twAll r
    omega
/-- signs of a text -/
def chS (z : Str) : Bool := z.cps.toList.all fun c => decide (c < 2097152)
mutual
def gd (b : Nat) : PyData → Bool
  | .str z => chS z
  | .int i => decide (i.natAbs ≤ b)
  | .list xs => gdAll b xs
  | .tuple xs => gdAll b xs
  | .dict kvs => kvs.isEmpty
  | .none => true
  | .bool _ => true
def gdAll (b : Nat) : List PyData → Bool
  | [] => true
  | x :: r => gd b x && gdAll b r
end
theorem gdAll_of {b : Nat} : ∀ {ds : List PyData}, (∀ d ∈ ds, gd b d = true) → gdAll b ds = true
  | [], _ => by rw [gdAll]
  | d :: r, h => by
    rw [gdAll, h d List.mem_cons_self, gdAll_of fun y hy => h y (List.mem_cons_of_mem _ hy)]
    rfl
theorem gdAll_mem {b : Nat} : ∀ {ds : List PyData}, gdAll b ds = true → ∀ d ∈ ds, gd b d = true
  | [], _ => fun d hd => by cases hd
  | a :: r, h => fun d hd => by
    rw [gdAll] at h
    obtain ⟨h1, h2⟩ := Bool.and_eq_true_iff.mp h
    rcases List.mem_cons.mp hd with e | e
    · subst e
      exact h1
    · exact gdAll_mem h2 d e
theorem gd_tup {b : Nat} {ds : List PyData} (h : ∀ d ∈ ds, gd b d = true) : gd b (.tuple ds) = true := by rw [gd]; exact gdAll_of h
theorem gd_list {b : Nat} {ds : List PyData} (h : ∀ d ∈ ds, gd b d = true) : gd b (.list ds) = true := by rw [gd]; exact gdAll_of h
theorem gd_tup' {b : Nat} {ds : List PyData} (h : gd b (.tuple ds) = true) : ∀ d ∈ ds, gd b d = true := by rw [gd] at h; exact gdAll_mem h
theorem gd_list' {b : Nat} {ds : List PyData} (h : gd b (.list ds) = true) : ∀ d ∈ ds, gd b d = true := by rw [gd] at h; exact gdAll_mem h
theorem gd_int {b : Nat} {i : Int} (h : i.natAbs ≤ b) : gd b (.int i) = true := by rw [gd]; exact decide_eq_true h
theorem gd_int' {b : Nat} {i : Int} (h : gd b (.int i) = true) : i.natAbs ≤ b := by rw [gd] at h; exact of_decide_eq_true h
theorem gd_str {b : Nat} {z : Str} (h : chS z = true) : gd b (.str z) = true := by rw [gd]; exact h
theorem gd_str' {b : Nat} {z : Str} (h : gd b (.str z) = true) : chS z = true := by rw [gd] at h; exact h
theorem gd_non {b : Nat} : gd b .none = true := by rw [gd]
theorem gd_bool {b : Nat} {t : Bool} : gd b (.bool t) = true := by rw [gd]
theorem gd_dict {b : Nat} : gd b (.dict []) = true := by rw [gd]; rfl
mutual
theorem gd_mono {b b' : Nat} (hb : b ≤ b') : ∀ {d : PyData}, gd b d = true → gd b' d = true
  | .none, _ => by rw [gd]
  | .bool _, _ => by rw [gd]
  | .dict _, h => by rw [gd] at h ⊢; exact h
  | .str _, h => by rw [gd] at h ⊢; exact h
  | .int i, h => by
    rw [gd] at h ⊢
    exact decide_eq_true (Nat.le_trans (of_decide_eq_true h) hb)
  | .list xs, h => by rw [gd] at h ⊢; exact gdAll_mono hb h
  | .tuple xs, h => by rw [gd] at h ⊢; exact gdAll_mono hb h
theorem gdAll_mono {b b' : Nat} (hb : b ≤ b') : ∀ {ds : List PyData}, gdAll b ds = true → gdAll b' ds = true
  | [], _ => by rw [gdAll]
  | d :: r, h => by
    rw [gdAll] at h ⊢
    obtain ⟨h1, h2⟩ := Bool.and_eq_true_iff.mp h
    rw [gd_mono hb h1, gdAll_mono hb h2]
    rfl
end
mutual
theorem depth_tw {b : Nat} : ∀ {d : PyData}, gd b d = true → d.depth ≤ tw d
  | .none, _ => by rw [PyData.depth]; exact Nat.zero_le _
  | .bool _, _ => by rw [PyData.depth]; exact Nat.zero_le _
  | .int _, _ => by rw [PyData.depth]; exact Nat.zero_le _
  | .str _, _ => by rw [PyData.depth]; exact Nat.zero_le _
  | .dict [], _ => by rw [PyData.depth, PyData.depthKv, tw]; exact Nat.le_refl _
  | .dict (_ :: _), h => by rw [gd] at h; cases h
  | .list xs, h => by
    rw [PyData.depth, tw]
    have := depthAll_tw (ds := xs) (by rw [gd] at h; exact h)
    omega
  | .tuple xs, h => by
    rw [PyData.depth, tw]
    have := depthAll_tw (ds := xs) (by rw [gd] at h; exact h)
    omega
theorem depthAll_tw {b : Nat} : ∀ {ds : List PyData}, gdAll b ds = true → PyData.depthAll ds ≤ twAll ds
  | [], _ => by rw [PyData.depthAll]; exact Nat.zero_le _
  | d :: r, h => by
    rw [gdAll] at h
    obtain ⟨h1, h2⟩ := Bool.and_eq_true_iff.mp h
    rw [PyData.depthAll, twAll]
    have := depth_tw h1
    have := depthAll_tw h2
    omega
end
mutual
theorem len_tw {d : PyData} (h : tw d ≤ 1000000) : lenOk d = true := by
  match d, h with
  | .none, _ => rw [lenOk]
  | .bool _, _ => rw [lenOk]
  | .dict _, _ => rw [lenOk]
  | .int i, h => rw [lenOk]
  | .str z, h =>
    rw [tw] at h
    rw [lenOk]
    exact decide_eq_true (by omega)
  | .list xs, h =>
    rw [tw] at h
    rw [lenOk, lenAll_tw (ds := xs) (by omega), decide_eq_true (Nat.le_trans (len_twAll xs) (by omega))]
    rfl
  | .tuple xs, h =>
    rw [tw] at h
    rw [lenOk, lenAll_tw (ds := xs) (by omega), decide_eq_true (Nat.le_trans (len_twAll xs) (by omega))]
    rfl
theorem lenAll_tw {ds : List PyData} (h : twAll ds ≤ 1000000) : lenAll ds = true := by
  match ds, h with
  | [], _ => rw [lenAll]
  | d :: r, h =>
    rw [twAll] at h
    rw [lenAll, len_tw (d := d) (by omega), lenAll_tw (ds := r) (by omega)]
    rfl
end
/-! ### signs -/
theorem ch_app {a b : Str} (ha : chS a = true) (hb : chS b = true) : chS (a ++ b) = true := by
  unfold chS at *
  show ((a.cps ++ b.cps).toList.all _) = true
  rw [Array.toList_append, List.all_append, ha, hb]
  rfl
theorem ch_cut {z : Str} (lo hi : Option Int) (h : chS z = true) : chS (cutS z lo hi) = true := by
  unfold chS at *
  rw [List.all_eq_true] at h ⊢
  intro c hc
  have hc : c ∈ ((z.cps.toList.drop (HT.sIx z.length 0 lo)).take (HT.sIx z.length z.length hi - HT.sIx z.length 0 lo)).toArray.toList := hc
  rw [List.toList_toArray] at hc
  exact h c (List.mem_of_mem_drop (List.mem_of_mem_take hc))
theorem ch_of (s : String) : chS (Str.ofString s) = true := by
  unfold chS
  rw [Str.ofString_eq_toList, List.toList_toArray, List.all_eq_true]
  intro c hc
  obtain ⟨x, _, rfl⟩ := List.mem_map.mp hc
  have h := x.valid
  have h2 : x.toNat < 1114112 := by
    rcases h with h | ⟨_, h⟩
    · exact Nat.lt_trans h (by decide)
    · exact h
  exact decide_eq_true (Nat.lt_trans h2 (by decide))
theorem ch_join {sep : Str} (hs : chS sep = true) : ∀ {ts : List Str}, (∀ t ∈ ts, chS t = true) → chS (Str.join sep ts) = true
  | [], _ => rfl
  | [t], h => h t List.mem_cons_self
  | t :: u :: r, h => by
    have e : Str.join sep (t :: u :: r) = t ++ sep ++ Str.join sep (u :: r) := rfl
    rw [e]
    exact ch_app (ch_app (h t List.mem_cons_self) hs) (ch_join hs fun y hy => h y (List.mem_cons_of_mem _ hy))
theorem char_lt (x : Char) : x.toNat < 2097152 := by
  rcases x.valid with h | ⟨_, h⟩
  · exact Nat.lt_trans h (by decide)
  · exact Nat.lt_trans h (by decide)
theorem ch_reprChar {q c : Nat} (hq : q < 2097152) (hc : c < 2097152) : ∀ x ∈ Builtin.Str.reprChar q c, x < 2097152 := by
  have hex : ∀ w : Nat, ∀ x ∈ List.replicate (w - ((Nat.toDigits 16 c).map Char.toNat).length) 48 ++ (Nat.toDigits 16 c).map Char.toNat, x < 2097152 := fun w x hx => by
    rcases List.mem_append.mp hx with h | h
    · rw [(List.mem_replicate.mp h).2]
      decide
    · obtain ⟨y, _, rfl⟩ := List.mem_map.mp h
      exact char_lt y
  unfold Builtin.Str.reprChar
  dsimp only
  intro x hx
  repeat' split at hx
  all_goals first
    | (simp only [List.mem_cons, List.not_mem_nil, or_false] at hx; rcases hx with rfl | rfl <;> first | assumption | decide)
    | (rw [List.mem_singleton.mp hx]; exact hc)
    | (rcases List.mem_append.mp hx with h | h
       · simp only [List.mem_cons, List.not_mem_nil, or_false] at h
         rcases h with rfl | rfl <;> decide
       · exact hex _ x h)
theorem ch_fold {q : Nat} (hq : q < 2097152) : ∀ (l : List Nat) (acc : Array Nat), (∀ c ∈ l, c < 2097152) → (∀ c ∈ acc.toList, c < 2097152) → ∀ c ∈ (l.foldl (fun out c => out ++ (Builtin.Str.reprChar q c).toArray) acc).toList, c < 2097152
  | [], acc, _, ha => ha
  | c :: r, acc, h, ha => by
    rw [List.foldl_cons]
    refine ch_fold hq r _ (fun d hd => h d (List.mem_cons_of_mem _ hd)) fun d hd => ?_
    rw [Array.toList_append, List.toList_toArray] at hd
    rcases List.mem_append.mp hd with e | e
    · exact ha d e
    · exact ch_reprChar hq (h c List.mem_cons_self) d e
theorem quote_lt (z : Str) : reprQuote z < 2097152 := by
  unfold reprQuote
  split <;> decide
theorem ch_repr {z : Str} (h : chS z = true) : chS (reprText z) = true := by
  unfold chS at *
  rw [List.all_eq_true] at h ⊢
  have h : ∀ c ∈ z.cps.toList, c < 2097152 := fun c hc => of_decide_eq_true (h c hc)
  intro c hc
  apply decide_eq_true
  have hc : c ∈ ((z.cps.foldl (fun out c => out ++ (Builtin.Str.reprChar (reprQuote z) c).toArray) #[reprQuote z]).push (reprQuote z)).toList := hc
  rw [Array.toList_push, ← Array.foldl_toList] at hc
  rcases List.mem_append.mp hc with e | e
  · refine ch_fold (quote_lt z) _ _ h (fun d hd => ?_) c e
    have hd : d ∈ [reprQuote z] := hd
    rw [List.mem_singleton.mp hd]
    exact quote_lt z
  · rw [List.mem_singleton.mp e]
    exact quote_lt z
/-! ### great letters -/
theorem shifted_lt : ∀ {l : List (Nat × Nat × Nat)} {c t : Nat}, (l.all fun q => decide (q.2.2 + (q.2.1 - q.1) < 2097152)) = true → Unicode.shifted l c = some t → t < 2097152
  | [], c, t, _, h => by cases h
  | (a, b, u) :: r, c, t, hl, h => by
    rw [List.all_cons] at hl
    obtain ⟨h1, h2⟩ := Bool.and_eq_true_iff.mp hl
    have h1 : u + (b - a) < 2097152 := of_decide_eq_true h1
    unfold Unicode.shifted at h
    split at h
    · cases h
    · split at h
      · cases h
        omega
      · exact shifted_lt h2 h
theorem upperOf_lt {c : Nat} (hc : c < 2097152) : ∀ x ∈ Unicode.upperOf c, x < 2097152 := by
  intro x hx
  have t1 : (UnicodeData.oneUpper.all fun q => decide (q.2.2 + (q.2.1 - q.1) < 2097152)) = true := by decide +kernel
  have t2 : (UnicodeData.severalUpper.all fun q => q.2.all fun y => decide (y < 2097152)) = true := by decide +kernel
  unfold Unicode.upperOf Unicode.image at hx
  split at hx
  · rename_i cs hl
    have := StrLaws.lookup_all (p := fun l => l.all fun y => decide (y < 2097152)) _ c cs t2 hl
    exact of_decide_eq_true (List.all_eq_true.mp this x hx)
  · rw [List.mem_singleton.mp hx]
    cases q : Unicode.shifted UnicodeData.oneUpper c with
    | none => exact hc
    | some t => exact shifted_lt t1 q
theorem ch_upper {z : Str} (h : chS z = true) : chS (Txt.upper z) = true := by
  unfold chS at *
  rw [List.all_eq_true] at h ⊢
  intro c hc
  apply decide_eq_true
  have hc : c ∈ (z.cps.mapIdx fun _ c => (Unicode.upperOf c).toArray).flatten.toList := hc
  rw [Array.mem_toList_iff, Array.mem_flatten] at hc
  obtain ⟨ar, h1, h2⟩ := hc
  obtain ⟨i, hi, e⟩ := Array.mem_mapIdx.mp h1
  rw [← e] at h2
  have h2 : c ∈ Unicode.upperOf z.cps[i] := by simpa using h2
  refine upperOf_lt (of_decide_eq_true (h _ ?_)) c h2
  rw [Array.mem_toList_iff]
  exact Array.getElem_mem hi
/-! ### what is shown -/
theorem repr_len {z : Str} (h : chS z = true) : (reprText z).length ≤ 10 * z.length + 2 := StrLaws.reprText_len z fun c hc => by
  unfold chS at h
  have := of_decide_eq_true (List.all_eq_true.mp h c hc)
  exact Nat.lt_trans this (by decide)
theorem int_text {i : Int} (h : i.natAbs < 10 ^ 14) : (Str.ofString (toString i)).length ≤ 15 := by
  have h1 := PySem.int_text_length_le10 (a := i) (k := 14) (by decide) h
  have h2 : (Str.ofString (toString i)).length = (toString i).length := by rw [PyProof.Rows.ofString_length, String.length_toList]
  omega
mutual
theorem shown_tw {b : Nat} (hb : b < 10 ^ 14) : ∀ {d : PyData}, gd b d = true → d.shown.length + 2 ≤ 18 * tw d ∧ chS d.shown = true ∧ d.showable = true
  | .none, _ => by rw [PyData.shown, tw, PyData.showable]; exact ⟨by decide +kernel, ch_of _, rfl⟩
  | .bool t, _ => by
    rw [PyData.shown, tw, PyData.showable]
    cases t
    · exact ⟨by decide +kernel, ch_of _, rfl⟩
    · exact ⟨by decide +kernel, ch_of _, rfl⟩
  | .int i, h => by
    have hi := gd_int' h
    rw [PyData.shown, tw, PyData.showable]
    have := int_text (i := i) (by omega)
    refine ⟨?_, ch_of _, decide_eq_true ?_⟩
    · show (Str.ofString (toString i)).length + 2 ≤ 18 * 1
      omega
    · by_cases h0 : i.natAbs = 0
      · rw [h0]; decide
      · have : i.natAbs < 2 ^ 100 := Nat.lt_of_lt_of_le (Nat.lt_of_le_of_lt hi hb) (by decide)
        exact Nat.lt_trans ((Nat.log2_lt h0).mpr this) (by decide)
  | .str z, h => by
    rw [PyData.shown, tw, PyData.showable]
    have := repr_len (gd_str' h)
    exact ⟨by omega, ch_repr (gd_str' h), rfl⟩
  | .dict [], _ => by
    rw [PyData.shown, PyData.shownKv, tw, PyData.showable, PyData.showableKv]
    exact ⟨by decide +kernel, by decide +kernel, rfl⟩
  | .dict (_ :: _), h => by rw [gd] at h; cases h
  | .list xs, h => by
    rw [gd] at h
    obtain ⟨h1, h2, h3⟩ := shownAll_tw hb h
    rw [PyData.shown, tw, PyData.showable]
    have := listText_len_le (PyData.shownAll xs)
    have e := PyData.shownAll_length xs
    refine ⟨by omega, ?_, h3⟩
    rw [listText_eq_join]
    exact ch_app (ch_app (ch_of _) (ch_join (ch_of _) h2)) (ch_of _)
  | .tuple xs, h => by
    rw [gd] at h
    obtain ⟨h1, h2, h3⟩ := shownAll_tw hb h
    rw [PyData.shown, tw, PyData.showable]
    have := tupleText_len_le (PyData.shownAll xs)
    have e := PyData.shownAll_length xs
    refine ⟨by omega, ?_, h3⟩
    exact ch_app (ch_app (ch_of _) (ch_join (ch_of _) h2)) (ch_of _)
theorem shownAll_tw {b : Nat} (hb : b < 10 ^ 14) : ∀ {ds : List PyData}, gdAll b ds = true → ((PyData.shownAll ds).map (·.length)).sum + 2 * ds.length ≤ 18 * twAll ds ∧ (∀ t ∈ PyData.shownAll ds, chS t = true) ∧ PyData.showableAll ds = true
  | [], _ => by rw [PyData.shownAll, twAll, PyData.showableAll]; exact ⟨by decide, fun t ht => (by cases ht), rfl⟩
  | d :: r, h => by
    rw [gdAll] at h
    obtain ⟨h1, h2⟩ := Bool.and_eq_true_iff.mp h
    obtain ⟨a1, a2, a3⟩ := shown_tw hb h1
    obtain ⟨b1, b2, b3⟩ := shownAll_tw hb h2
    rw [PyData.shownAll, twAll, PyData.showableAll, a3, b3]
    refine ⟨?_, fun t ht => ?_, rfl⟩
    · rw [List.map_cons, List.sum_cons, List.length_cons]
      omega
    · rcases List.mem_cons.mp ht with e | e
      · rw [e]; exact a2
      · exact b2 t e
end
theorem sh_ok {b : Nat} {d : PyData} (hb : b < 10 ^ 14) (h : gd b d = true) (ht : tw d ≤ 880000) (hd : d.depth ≤ 100) : shOk d := by
  obtain ⟨h1, _, h3⟩ := shown_tw hb h
  exact ⟨h3, by omega, hd⟩
/-! ### rows -/
theorem sig9_ch {z : Str} (h : z ∈ sig9) : chS z = true := by
  have h : ∀ z ∈ sig9, chS z = true := by decide +kernel
  exact h z ‹_›
theorem az_ch {z : Str} (h : azAll z = true) : chS z = true := by
  unfold azAll at h
  unfold chS
  rw [List.all_eq_true] at h ⊢
  intro c hc
  have := of_decide_eq_true (Bool.and_eq_true_iff.mp (h c hc)).2
  exact decide_eq_true (by omega)
theorem are_tw {b : Nat} {d : PyData} (h : pAre d = true) : gd b d = true ∧ tw d ≤ 82 := by
  cases d with
  | tuple ds =>
    obtain ⟨h1, h2⟩ := loop_len (k := 0) h
    have key : ∀ l : List PyData, (∀ d ∈ l, ∃ z, d = .str z ∧ z ∈ sig9) → twAll l ≤ 9 * l.length := by
      intro l
      induction l with
      | nil => intro _; rw [twAll]; exact Nat.zero_le _
      | cons a r ih =>
        intro hl
        obtain ⟨z, rfl, hz⟩ := hl a List.mem_cons_self
        have := ih fun d hd => hl d (List.mem_cons_of_mem _ hd)
        have := sig9_len hz
        rw [twAll_cons, tw_str, List.length_cons]
        omega
    refine ⟨gd_tup fun d hd => ?_, ?_⟩
    · obtain ⟨z, rfl, hz⟩ := h2 d hd
      exact gd_str (sig9_ch hz)
    · have := key ds h2
      rw [tw_tup]
      omega
  | _ => cases h
theorem one_tw {b : Nat} {d : PyData} {ws : List Str} (h : pOne d ws = true) (hw : ∀ z ∈ ws, z.length ≤ 40 ∧ chS z = true) : gd b d = true ∧ tw d ≤ 84 := by
  cases d with
  | str z =>
    have hz := hw z (of_decide_eq_true h)
    exact ⟨gd_str hz.2, by rw [tw_str]; omega⟩
  | _ => cases h
theorem near_tw {i : Int} (h : near (.int i) = true) : gd 1000000000 (.int i) = true ∧ tw (.int i) ≤ 84 := by
  have h : (decide (-1000000000 ≤ i) && decide (i ≤ 1000000000)) = true := h
  obtain ⟨h1, h2⟩ := Bool.and_eq_true_iff.mp h
  have h1 := of_decide_eq_true h1
  have h2 := of_decide_eq_true h2
  exact ⟨gd_int (by omega), by rw [tw]; decide⟩
theorem part_tw {k : Str} {d : PyData} {n : Int} (h : pPart k d n = true) (hn : n ≤ 1000) (hd : near d = true) : gd 1000000000 d = true ∧ tw d ≤ 84 := by
  have hone : ∀ {ws : List Str}, pOne d ws = true → (∀ z ∈ ws, z.length ≤ 40 ∧ chS z = true) → gd 1000000000 d = true ∧ tw d ≤ 84 := fun h hw => one_tw h hw
  have hrow : ∀ {e : PyData}, pRowNo e n = true → gd 1000000000 e = true ∧ tw e = 1 := fun {e} h => by
    cases e with
    | int i =>
      have h : (decide (0 ≤ i) && decide (i < n)) = true := h
      obtain ⟨h1, h2⟩ := Bool.and_eq_true_iff.mp h
      have h1 := of_decide_eq_true h1
      have h2 := of_decide_eq_true h2
      exact ⟨gd_int (by omega), by rw [tw]⟩
    | _ => cases h
  unfold pPart at h
  repeat' split at h
  · cases d with
    | str z =>
      have h : (decide (1 ≤ z.length) && decide (z.length ≤ 8) && azAll z) = true := h
      have h2 := of_decide_eq_true (Bool.and_eq_true_iff.mp (Bool.and_eq_true_iff.mp h).1).2
      exact ⟨gd_str (az_ch (Bool.and_eq_true_iff.mp h).2), by rw [tw_str]; omega⟩
    | _ => cases h
  · cases d with
    | int i => exact near_tw hd
    | _ => cases h
  · cases d with
    | int i => exact near_tw hd
    | _ => cases h
  · cases d with
    | bool b => exact ⟨gd_bool, by rw [tw]; decide⟩
    | _ => cases h
  · obtain ⟨a, b⟩ := hrow h
    exact ⟨a, by omega⟩
  · exact hone h (by decide +kernel)
  · rw [pLoose_eq] at h
    exact hone h (by decide +kernel)
  · obtain ⟨a, b⟩ := are_tw (b := 1000000000) h
    exact ⟨a, by omega⟩
  · rcases Bool.or_eq_true_iff.mp h with h | h
    · exact hone h (by decide +kernel)
    · unfold pHandler at h
      split at h
      · rename_i d1 d2
        obtain ⟨h1, h2⟩ := Bool.and_eq_true_iff.mp h
        obtain ⟨a1, b1⟩ := hrow h1
        obtain ⟨a2, b2⟩ := are_tw (b := 1000000000) h2
        refine ⟨gd_tup (fun e he => ?_), ?_⟩
        · rcases List.mem_cons.mp he with e1 | he
          · rw [e1]; exact a1
          · rw [List.mem_singleton.mp he]; exact a2
        · rw [tw_tup, twAll_cons, twAll_cons, twAll_nil]
          omega
      · cases h
  · exact hone h (by decide +kernel)
  · unfold pChild at h
    repeat' split at h
    · rename_i hn
      cases d with
      | int i => exact near_tw hd
      | _ => cases hn
    · cases d with
      | none => exact ⟨gd_non, by rw [tw]; decide⟩
      | _ => cases h
    · exact hone h (by decide +kernel)
    · exact hone h (by decide +kernel)
theorem parts_tw {n : Int} (hn : n ≤ 1000) : ∀ {ks : List Str} {ds : List PyData}, ds.length = ks.length → ds.all near = true → pParts n ks ds = true → gdAll 1000000000 ds = true ∧ twAll ds ≤ 84 * ds.length
  | [], [], _, _, _ => by rw [gdAll, twAll]; exact ⟨rfl, Nat.zero_le _⟩
  | k :: ks, e :: ds, hl, hb, h => by
    unfold pParts at h
    obtain ⟨h1, h2⟩ := Bool.and_eq_true_iff.mp h
    rw [List.all_cons] at hb
    obtain ⟨b1, b2⟩ := Bool.and_eq_true_iff.mp hb
    obtain ⟨c1, c2⟩ := part_tw h1 hn b1
    obtain ⟨d1, d2⟩ := parts_tw hn (by simpa using hl) b2 h2
    rw [gdAll, twAll, c1, d1, List.length_cons]
    exact ⟨rfl, by omega⟩
  | [], _ :: _, hl, _, _ => by cases hl
  | _ :: _, [], hl, _, _ => by cases hl
theorem forms_ch {w : Str} {ks : List Str} (h : forms.lookup w = some ks) : chS w = true := by
  have all : ∀ p ∈ forms, chS p.1 = true := by decide +kernel
  have key : ∀ (l : List (Str × List Str)), l.lookup w = some ks → (w, ks) ∈ l := by
    intro l
    induction l with
    | nil => intro q; cases q
    | cons p r ih =>
      intro q
      obtain ⟨a, b⟩ := p
      rw [List.lookup_cons] at q
      split at q
      · rename_i e
        have e := eq_of_beq e
        cases q
        rw [e]
        exact List.mem_cons_self
      · exact List.mem_cons_of_mem _ (ih q)
  exact all _ (key _ h)
theorem row_tw {d : PyData} {n : Int} (h : pRow d n = true) (hn : n ≤ 1000) (hb : nearAll d = true) : gd 1000000000 d = true ∧ tw d ≤ 220 := by
  unfold pRow at h
  split at h
  · rename_i w ps
    split at h
    · rename_i ks hk
      obtain ⟨h1, h2⟩ := Bool.and_eq_true_iff.mp h
      have h1 := of_decide_eq_true h1
      obtain ⟨f1, f2⟩ := forms_le hk
      have hb : (near (.str w) && ps.all near) = true := hb
      obtain ⟨k1, k2⟩ := parts_tw hn h1 (Bool.and_eq_true_iff.mp hb).2 h2
      refine ⟨gd_tup fun d hd => ?_, ?_⟩
      · rcases List.mem_cons.mp hd with q | q
        · rw [q]
          exact gd_str (forms_ch hk)
        · exact gdAll_mem k1 d q
      · rw [tw_tup, twAll_cons, tw_str]
        omega
    · cases h
  · cases h
end Kin
/-! Houses as plain data, and how they stand in the heap. -/
namespace Kin
open PySem PySem.Spec PyProof.Rows L2
/-! ### names -/
abbrev Nm := List Nat
def nmI (n : Nm) : List Int := n.map fun (k : Nat) => (k : Int)
def nmV (n : Nm) : List V := (nmI n).map V.int
def nmD (n : Nm) : PyData := .tuple ((nmI n).map PyData.int)
def nmK (n : Nm) : List Key := (nmI n).map Sum.inl
theorem nmK_kV (n : Nm) : (nmK n).map kV = nmV n := by
  unfold nmK nmV
  rw [List.map_map]
  rfl
theorem nmI_inj {a b : Nm} (h : nmI a = nmI b) : a = b := by
  induction a generalizing b with
  | nil =>
    cases b with
    | nil => rfl
    | cons y r => cases h
  | cons x r ih =>
    cases b with
    | nil => cases h
    | cons y t =>
      injection h with h1 h2
      rw [ih h2, Int.ofNat.inj h1]
theorem nmK_inj {a b : Nm} (h : nmK a = nmK b) : a = b := by
  unfold nmK at h
  refine nmI_inj ?_
  generalize nmI a = x at h
  generalize nmI b = y at h
  induction x generalizing y with
  | nil =>
    cases y with
    | nil => rfl
    | cons y r => cases h
  | cons i r ih =>
    cases y with
    | nil => cases h
    | cons j t =>
      injection h with h1 h2
      rw [ih t h2, Sum.inl.inj h1]
def nmOk (n : Nm) : Prop := n.length ≤ 100 ∧ ∀ k ∈ n, k < 1000000000
/-- v is the name n -/
def NmAt (H : Hp) (v : V) (n : Nm) : Prop := ∃ b, v = .ref b ∧ H b = some (.tup (nmV n))
theorem NmAt.dp {K : PySem.W.Frag} {H : Hp} {v : V} {n : Nm} (h : NmAt H v n) : Dp K H v (nmD n) := by
  obtain ⟨b, rfl, e⟩ := h
  exact .tup (.inl (.inl e)) (dp_ints _)
/-- what stays: tuples -/
def TSame (H H' : Hp) : Prop := ∀ b xs, H b = some (.tup xs) → H' b = some (.tup xs)
theorem TSame.refl {H : Hp} : TSame H H := fun _ _ h => h
theorem TSame.trans {H H1 H2 : Hp} (a : TSame H H1) (b : TSame H1 H2) : TSame H H2 := fun c xs h => b c xs (a c xs h)
theorem TSame.of {H H1 : Hp} (s : Same H H1) : TSame H H1 := fun b xs h => s b _ h
theorem TSame.upd {H : Hp} {a : Addr} {o : HO} (h : ∀ xs, H a ≠ some (.tup xs)) : TSame H (upd H a o) := fun b xs e => by
  rw [upd_ne (fun z => h xs (by rw [← z]; exact e))]
  exact e
theorem NmAt.ts {H H' : Hp} {v : V} {n : Nm} (s : TSame H H') (h : NmAt H v n) : NmAt H' v n := by
  obtain ⟨b, rfl, e⟩ := h
  exact ⟨b, rfl, s b _ e⟩
def ONm (H : Hp) (v : V) : Option Nm → Prop
  | none => v = .non
  | some n => NmAt H v n
theorem ONm.ts {H H' : Hp} {v : V} {n : Option Nm} (s : TSame H H') (h : ONm H v n) : ONm H' v n := by
  cases n with
  | none => exact h
  | some n => exact NmAt.ts s h
/-! ### persons -/
inductive Hw where
  | ig
  | at_ (r : Nat) (ss : List Str)
inductive Wd where
  | no
  | num (n : Nat)
  | sig (s : Str)
structure Ps where
  parent : Option Nm
  group : Nm
  session : Nm
  how : Str
  word : Wd
  title : Str
  row : Nat
  last : Int
  mask : List Str
  held : List Str
  handlers : List (Str × Hw)
  pile : List (Nat × List Str)
  born : Nat
  taker : Bool
  changed : Bool
  news : Option Str
def onD : Option Nm → PyData
  | none => .none
  | some n => nmD n
def sgD (ss : List Str) : PyData := .tuple (ss.map PyData.str)
def hwD : Hw → PyData
  | .ig => .str "ignore"
  | .at_ r ss => .tuple [.int r, sgD ss]
def hdD (hs : List (Str × Hw)) : PyData := .tuple (hs.map fun p => PyData.tuple [.str p.1, hwD p.2])
def plD (pl : List (Nat × List Str)) : PyData := .tuple (pl.map fun p => PyData.tuple [.int p.1, sgD p.2])
def wdD : Wd → PyData
  | .no => .none
  | .num n => .int n
  | .sig s => .str s
def wdV : Wd → V
  | .no => .non
  | .num n => .int n
  | .sig s => .str s
def nwD : Option Str → PyData
  | none => .none
  | some s => .str s
def nwV : Option Str → V
  | none => .non
  | some s => .str s
def Ps.ds (p : Ps) : List PyData := [onD p.parent, nmD p.group, nmD p.session, .str p.how, wdD p.word, .str p.title, .int p.row, .int p.last, sgD p.mask, sgD p.held, hdD p.handlers, plD p.pile, .int p.born, .bool p.taker, .bool p.changed, nwD p.news]
/-- the objects that a person names -/
structure Rf where
  parent : V
  group : V
  session : V
  mask : V
  held : V
  handlers : V
  pile : V
def fsOf (p : Ps) (r : Rf) : List (Str × V) := [("parent", r.parent), ("group", r.group), ("session", r.session), ("how", .str p.how), ("word", wdV p.word), ("title", .str p.title), ("row", .int p.row), ("last", .int p.last), ("mask", r.mask), ("held", r.held), ("handlers", r.handlers), ("pile", r.pile), ("born", .int p.born), ("taker", .bl p.taker), ("changed", .bl p.changed), ("news", nwV p.news)]
/-- the objects are what the person has -/
structure RfOk (K : PySem.W.Frag) (H : Hp) (p : Ps) (r : Rf) : Prop where
  parent : ONm H r.parent p.parent
  group : NmAt H r.group p.group
  session : NmAt H r.session p.session
  mask : Dp K H r.mask (sgD p.mask)
  held : Dp K H r.held (sgD p.held)
  handlers : Dp K H r.handlers (hdD p.handlers)
  pile : Dp K H r.pile (plD p.pile)
def PersAt (K : PySem.W.Frag) (H : Hp) (a : Addr) (p : Ps) : Prop := ∃ dx r, H a = some (.ins (He.ga K "Person") dx (fsOf p r)) ∧ RfOk K H p r
def persF : List Str := ["parent", "group", "session", "how", "word", "title", "row", "last", "mask", "held", "handlers", "pile", "born", "taker", "changed", "news"]
def houseF : List Str := ["book", "programs", "people", "fronts", "queues"]
/-! ### houses -/
structure Hs where
  book : PyData
  progs : List (Str × List PyData)
  people : List (Nm × Ps)
  fronts : List (Nm × Option Nm)
  queues : List (Nm × List Nat)
def qD (q : List Nat) : PyData := .tuple (q.map fun (k : Nat) => PyData.int (k : Int))
/-- the objects of a house -/
structure Hd where
  dh : Addr
  pd : Addr
  pp : Addr
  pf : Addr
  pq : Addr
  vb : V
  pvs : List V
  as : List Addr
  fvs : List V
  qvs : List V
structure HouseAt (K : PySem.W.Frag) (H : Hp) (h : Addr) (S : Hs) (d : Hd) : Prop where
  hh : H h = some (.ins (He.ga K "House") d.dh [("book", d.vb), ("programs", .ref d.pd), ("people", .ref d.pp), ("fronts", .ref d.pf), ("queues", .ref d.pq)])
  bk : Dp K H d.vb S.book
  pr : H d.pd = some (.dK ((S.progs.map fun p => (Sum.inr p.1 : Key)).zip d.pvs))
  prd : DpAll K H d.pvs (S.progs.map fun p => PyData.tuple p.2)
  pe : H d.pp = some (.dT ((S.people.map fun p => nmK p.1).zip (d.as.map V.ref)))
  ps : Paired (fun a p => PersAt K H a p.2) d.as S.people
  nd : d.as.Nodup
  fr : H d.pf = some (.dT ((S.fronts.map fun p => nmK p.1).zip d.fvs))
  frd : Paired (fun v p => ONm H v p.2) d.fvs S.fronts
  qu : H d.pq = some (.dT ((S.queues.map fun p => nmK p.1).zip d.qvs))
  qud : DpAll K H d.qvs (S.queues.map fun p => qD p.2)
/-! ### classes -/
structure Cz (K : PySem.W.Frag) (mg : Str → Option Value) : Prop where
  gP : mg "Person" = some (.ref (He.ga K "Person"))
  clP : Cls K (He.ga K "Person")
  noP : ∀ f ∈ persF, NoAttr K (He.ga K "Person") f
  gH : mg "House" = some (.ref (He.ga K "House"))
  clH : Cls K (He.ga K "House")
  noH : ∀ f ∈ houseF, NoAttr K (He.ga K "House") f
theorem get_fs (p : Ps) (r : Rf) : (fsOf p r).lookup ("row" : Str) = some (V.int p.row) := rfl
theorem put_fs (p : Ps) (r : Rf) (n : Nat) : putF "row" (.int n) (fsOf p r) = fsOf { p with row := n } r := rfl
end Kin
/-! Methods and makers as their callers see them. -/
namespace Kin
open PySem PySem.Spec PyProof.Rows L2
structure CalM (P : Program) (w : World) (K : PySem.W.Frag) (mg : Str → Option Value) (base : Heap) (C : Addr) (m : Str) (ps : List Str) (k : Nat) (sp : Sp) : Prop where
  ex : ∃ (f : Addr) (fd : FuncData), Cls K C ∧ Meth K C m f ∧ FnOk P w K mg base CX0 k f fd ps sp ∧ Binds K fd ps []
structure CalK (P : Program) (w : World) (K : PySem.W.Frag) (mg : Str → Option Value) (base : Heap) (C : Addr) (ps : List Str) (k : Nat) (sp : Sp) : Prop where
  ex : ∃ (f : Addr) (fd : FuncData), L2.Mk K C f ∧ FnOk P w K mg base CX0 k f fd ps sp ∧ Binds K fd ps []
/-- a maker with one keyword that may be left out: dv then -/
structure CalH (P : Program) (w : World) (K : PySem.W.Frag) (mg : Str → Option Value) (base : Heap) (C : Addr) (ps : List Str) (kw : Str) (n : Nat) (dv : V) (k : Nat) (sp : Sp) : Prop where
  ex : ∃ (f : Addr) (fd : FuncData) (ds : List Value) (g : List Value → List Value → List Value), L2.Mk K C f ∧ FnOk P w K mg base CX0 k f fd ps sp ∧ Vals [dv] ds ∧ Binds K fd ps ds ∧ KBn K fd ps (n + 1) [kw] g (fun vs zs => vs ++ zs)
section
variable {X : Cx} {x m kw : Str} {ps : List Str} {k n : Nat} {dv : V} {sp : Sp} {o e : Expr} {es : List Expr} {kws : List Keyword} {t tk : TA} {ta : TE} {p apos pos : Pos} {C : Addr}
theorem pe_calM {pl : Sem Bool} (c : CalM X.prog X.w X.K X.mg X.base C m ps k sp) (hr : Room k X.A) (hx : Passes CX0 X E0) (he : PE X o ta) (ha : PA X (e :: es) t)
    (hst : starEach (e :: es) X.env = (false, eval e X.env) :: starEach es X.env := by rfl) (hpl : (backTo pos (starEach es X.env)).any (·.1) = false := by rfl)
    (ht : eval (.Call (.Attribute o m apos) (e :: es) [] pos) X.env = (do
      let ov ← eval o X.env
      standAt apos.atName
      let (f, first) ← holding [ov] (getMethod ov m pl)
      callWith pos f first (backTo pos (starEach (e :: es) X.env)) (backToKw pos (keywordEach [] X.env))) := by rfl) :
    PE X (.Call (.Attribute o m apos) (e :: es) [] pos) (tMeth C m sp [] E0 ta t) := by
  obtain ⟨f, fd, h1, h2, h3, h4⟩ := c.ex
  exact pe_meth he h1 h2 h3 hr h4 .nil hx ha hst hpl ht
theorem pe_calM0 {pl : Sem Bool} (c : CalM X.prog X.w X.K X.mg X.base C m ps k sp) (hr : Room k X.A) (hx : Passes CX0 X E0) (he : PE X o ta)
    (ht : eval (.Call (.Attribute o m apos) [] [] pos) X.env = (do
      let ov ← eval o X.env
      standAt apos.atName
      let (f, first) ← holding [ov] (getMethod ov m pl)
      callWith pos f first (backTo pos (starEach [] X.env)) (backToKw pos (keywordEach [] X.env))) := by rfl) :
    PE X (.Call (.Attribute o m apos) [] [] pos) (tMeth C m sp [] E0 ta tNil) := by
  obtain ⟨f, fd, h1, h2, h3, h4⟩ := c.ex
  exact pe_meth0 he h1 h2 h3 hr h4 .nil hx ht
theorem pe_calK (c : CalK X.prog X.w X.K X.mg X.base C ps k sp) (hr : Room (k + 1) X.A) (hg : Gl X x) (hm : X.mg x = some (.ref C)) (hx : Passes CX0 X E0) (ha : PA X (e :: es) t) (hdb : (x == ("__debug__" : Str)) = false := by decide)
    (he : starEach (e :: es) X.env = (false, eval e X.env) :: starEach es X.env := by rfl) (hpl : (backTo pos (starEach es X.env)).any (·.1) = false := by rfl) : PE X (.Call (.Name x p) (e :: es) [] pos) (tMake C sp [] E0 t) := by
  obtain ⟨f, fd, h1, h2, h3⟩ := c.ex
  exact pe_make h1 h2 hr hg hm h3 .nil hx ha hdb he hpl
theorem pe_calH (c : CalH X.prog X.w X.K X.mg X.base C ps kw n dv k sp) (hr : Room (k + 1) X.A) (hg : Gl X x) (hm : X.mg x = some (.ref C)) (hx : Passes CX0 X E0) (ha : PA X (e :: es) t) (hdb : (x == ("__debug__" : Str)) = false := by decide)
    (he : starEach (e :: es) X.env = (false, eval e X.env) :: starEach es X.env := by rfl) (hpl : (backTo pos (starEach es X.env)).any (·.1) = false := by rfl) : PE X (.Call (.Name x p) (e :: es) [] pos) (tMake C sp [dv] E0 t) := by
  obtain ⟨f, fd, ds, g, h1, h2, h3, h4, h5⟩ := c.ex
  exact pe_make h1 h2 hr hg hm h4 h3 hx ha hdb he hpl
theorem pe_calHk (c : CalH X.prog X.w X.K X.mg X.base C ps kw n dv k sp) (hr : Room (k + 1) X.A) (hg : Gl X x) (hm : X.mg x = some (.ref C)) (hx : Passes CX0 X E0) (ha : PA X (e :: es) t) (hkw : PK X kws tk)
    (hall : (backToKw pos (keywordEach kws X.env)).all (·.1.isSome) = true := by rfl) (hks : (backToKw pos (keywordEach kws X.env)).filterMap (·.1) = [kw] := by rfl) (hdb : (x == ("__debug__" : Str)) = false := by decide)
    (he : starEach (e :: es) X.env = (false, eval e X.env) :: starEach es X.env := by rfl) (hpl : ((backTo pos (starEach (e :: es) X.env)).any (·.1) || (backToKw pos (keywordEach kws X.env)).any (·.1.isNone)) = false := by rfl) :
    PE X (.Call (.Name x p) (e :: es) kws pos) (tMakeK C n 1 sp (fun vs zs => vs ++ zs) E0 t tk) := by
  obtain ⟨f, fd, ds, g, h1, h2, h3, h4, h5⟩ := c.ex
  exact pe_makeK h1 h2 hr hg hm h5 hx ha hkw hall hks hdb he hpl
theorem call_lenC (c : CalM X.prog X.w X.K X.mg X.base C "__len__" ps n sp) (hr : Room (n + 1) X.A) (hx : Passes CX0 X E0) : CallR X (.builtin "len") (rLenI C sp) := by
  obtain ⟨f, fd, h1, h2, h3, h4⟩ := c.ex
  exact call_lenI h2 h3 h4 hr hx
end
/-! ### fields set one behind the other -/
section
variable {H0 H : Hp} {a C dx : Addr} {fs : List (Str × V)} {f : Str} {y : V} {R : Hp → Prop}
theorem set_fld (h : H a = some (.ins C dx fs)) (o : Off a a H0 H) (q : ∀ H', H' a = some (.ins C dx (putF f y fs)) → Off a a H0 H' → Off a a H H' → R H') : R (upd H a (.ins C dx (putF f y fs))) := by
  have u : Off a a H (upd H a (.ins C dx (putF f y fs))) := fun b o e _ h => by rw [upd_ne e]; exact h
  exact q _ upd_same (o.trans u) u
theorem new_tup {p : Addr} {xs : List V} (np : H p = none) (h : H a = some (.ins C dx fs)) (o : Off a a H0 H) (q : ∀ H', H' a = some (.ins C dx fs) → Off a a H0 H' → Off a a H H' → p ≠ a → H' p = some (.tup xs) → R H') : R (upd H p (.tup xs)) :=
  q _ ((same_upd np) _ _ h) (o.trans (Off.of (same_upd np))) (Off.of (same_upd np)) (ne_of_none h np).symm upd_same
end
end Kin
namespace Kin
open PySem PySem.Spec PyProof.Rows L2
/-- the j-th def of the class that stands at row i -/
def clsS (i j : Nat) : Stmt := match topS i with
  | .ClassDef _ _ _ b _ _ _ _ _ _ _ => b.getD j (.Pass ⟨0, 0, 0, 0⟩)
  | _ => .Pass ⟨0, 0, 0, 0⟩
abbrev FnC (K : PySem.W.Frag) (m q : Str) (st : Stmt) (f : Addr) (fd : FuncData) : Prop := FunD K m q (defArgs st) (defBody st) (defScope st) [] [] f fd
/-- how one begins -/
def ps0 (parent : Option Nm) (group session : Nm) (title : Str) : Ps := ⟨parent, group, session, "runs", .no, title, 0, 0, [], [], [], [], 0, false, false, none⟩
def spIniP (K : PySem.W.Frag) : Sp := fun vs H Q _ => ∃ (a dx : Addr) (vp vg vs' : V) (title : Str), vs = [.ref a, vp, vg, vs', .str title] ∧ H a = some (.ins (He.ga K "Person") dx []) ∧
  ∀ m h hs pl H', Off a a H H' → (∀ parent group session, H' a = some (.ins (He.ga K "Person") dx (fsOf (ps0 parent group session title) ⟨vp, vg, vs', .ref m, .ref h, .ref hs, .ref pl⟩))) → m ≠ a → h ≠ a → hs ≠ a → pl ≠ a →
    H' m = some (.tup []) → H' h = some (.tup []) → H' hs = some (.tup []) → H' pl = some (.tup []) → Q .non H'
section
variable {P : Program} {w : World} {K : PySem.W.Frag} {mg : Str → Option Value} {base : Heap} {tL : Tok} {es : Array DictEntry} {nF : Nat}
abbrev s_Person___init__ : Stmt := clsS 9 0
theorem sc_Person___init__ : FnScope [("self" : Str), ("parent" : Str), ("group" : Str), ("session" : Str), ("title" : Str)] ["self", "parent", "group", "session", "title"] (defScope s_Person___init__) := ⟨rfl, rfl, rfl, by decide +kernel, rfl, by decide +kernel, by decide +kernel⟩
theorem ok_Person___init__ {f : Addr} {fd : FuncData} (F : FnC K "__init__" "Person.__init__" s_Person___init__ f fd) (Z : Cz K mg) : FnOk P w K mg base CX0 1 f fd ["self", "parent", "group", "session", "title"] (spIniP K) := by
  refine F.ok sc_Person___init__ (fun vs H Q E h => ?_) (fun cdv A outer s H vs Q E hr h => ?_)
  · obtain ⟨a, dx, vp, vg, vs', title, rfl, _⟩ := h
    rfl
  · obtain ⟨a, dx, vp, vg, vs', title, rfl, h0, k⟩ := h
    refine ⟨_, PSs.nox (pss_cons (ps_fld (pv 0) (pv 1) rfl) (pss_cons (ps_fld (pv 0) (pv 2) rfl) (pss_cons (ps_fld (pv 0) (pv 3) rfl) (pss_cons (ps_fld (pv 0) pe_str rfl) (pss_cons (ps_fld (pv 0) pe_non rfl) (pss_cons (ps_fld (pv 0) (pv 4) rfl) (pss_cons (ps_fld (pv 0) pe_int rfl) (pss_cons (ps_fld (pv 0) pe_int rfl) (pss_cons (ps_fld (pv 0) (pe_tup pa_nil) rfl) (pss_cons (ps_fld (pv 0) (pe_tup pa_nil) rfl) (pss_cons (ps_fld (pv 0) (pe_tup pa_nil) rfl) (pss_cons (ps_fld (pv 0) (pe_tup pa_nil) rfl) (pss_cons (ps_fld (pv 0) pe_int rfl) (pss_cons (ps_fld (pv 0) pe_bl rfl) (pss_cons (ps_fld (pv 0) pe_bl rfl) (pss_one (ps_fld (pv 0) pe_non rfl))))))))))))))))), ?_⟩
    have no : ∀ f, f ∈ persF → NoAttr K (He.ga K "Person") f := Z.noP
    refine ⟨_, rfl, _, rfl, a, _, dx, _, rfl, h0, Z.clP, no _ (by simp [persF]), by decide, ?_⟩
    refine set_fld h0 Off.refl fun H1 h1 o1 _ => ?_
    refine ⟨_, rfl, _, rfl, a, _, dx, _, rfl, h1, Z.clP, no _ (by simp [persF]), (show (1 : Nat) < 1000 by decide), ?_⟩
    refine set_fld h1 o1 fun H2 h2 o2 _ => ?_
    refine ⟨_, rfl, _, rfl, a, _, dx, _, rfl, h2, Z.clP, no _ (by simp [persF]), (show (2 : Nat) < 1000 by decide), ?_⟩
    refine set_fld h2 o2 fun H3 h3 o3 _ => ?_
    refine ⟨_, rfl, a, _, dx, _, rfl, h3, Z.clP, no _ (by simp [persF]), (show (3 : Nat) < 1000 by decide), ?_⟩
    refine set_fld h3 o3 fun H4 h4 o4 _ => ?_
    refine ⟨_, rfl, a, _, dx, _, rfl, h4, Z.clP, no _ (by simp [persF]), (show (4 : Nat) < 1000 by decide), ?_⟩
    refine set_fld h4 o4 fun H5 h5 o5 _ => ?_
    refine ⟨_, rfl, _, rfl, a, _, dx, _, rfl, h5, Z.clP, no _ (by simp [persF]), (show (5 : Nat) < 1000 by decide), ?_⟩
    refine set_fld h5 o5 fun H6 h6 o6 _ => ?_
    refine ⟨_, rfl, a, _, dx, _, rfl, h6, Z.clP, no _ (by simp [persF]), (show (6 : Nat) < 1000 by decide), ?_⟩
    refine set_fld h6 o6 fun H7 h7 o7 _ => ?_
    refine ⟨_, rfl, a, _, dx, _, rfl, h7, Z.clP, no _ (by simp [persF]), (show (7 : Nat) < 1000 by decide), ?_⟩
    refine set_fld h7 o7 fun H8 h8 o8 _ => ?_
    refine ⟨Nat.zero_le _, fun t0 nt0 => ?_⟩
    have na0 : t0 ≠ a := (ne_of_none h8 nt0).symm
    have ow0 : Off a a H8 (upd H8 t0 (.tup [])) := Off.of (same_upd nt0)
    have g0 := (same_upd (o := .tup []) nt0) _ _ h8
    have og0 := o8.trans ow0
    have gt0 : (upd H8 t0 (.tup [])) t0 = some (.tup []) := upd_same
    generalize upd H8 t0 (.tup []) = G0 at ow0 g0 og0 gt0 ⊢
    refine ⟨_, rfl, a, _, dx, _, rfl, g0, Z.clP, no _ (by simp [persF]), (show (8 : Nat) < 1000 by decide), ?_⟩
    refine set_fld g0 og0 fun H9 h9 o9 oz0 => ?_
    have gt0 := oz0 _ _ na0 na0 gt0
    refine ⟨Nat.zero_le _, fun t1 nt1 => ?_⟩
    have na1 : t1 ≠ a := (ne_of_none h9 nt1).symm
    have ow1 : Off a a H9 (upd H9 t1 (.tup [])) := Off.of (same_upd nt1)
    have g1 := (same_upd (o := .tup []) nt1) _ _ h9
    have og1 := o9.trans ow1
    have gt1 : (upd H9 t1 (.tup [])) t1 = some (.tup []) := upd_same
    generalize upd H9 t1 (.tup []) = G1 at ow1 g1 og1 gt1 ⊢
    have gt0 := ow1 _ _ na0 na0 gt0
    refine ⟨_, rfl, a, _, dx, _, rfl, g1, Z.clP, no _ (by simp [persF]), (show (9 : Nat) < 1000 by decide), ?_⟩
    refine set_fld g1 og1 fun H10 h10 o10 oz1 => ?_
    have gt0 := oz1 _ _ na0 na0 gt0
    have gt1 := oz1 _ _ na1 na1 gt1
    refine ⟨Nat.zero_le _, fun t2 nt2 => ?_⟩
    have na2 : t2 ≠ a := (ne_of_none h10 nt2).symm
    have ow2 : Off a a H10 (upd H10 t2 (.tup [])) := Off.of (same_upd nt2)
    have g2 := (same_upd (o := .tup []) nt2) _ _ h10
    have og2 := o10.trans ow2
    have gt2 : (upd H10 t2 (.tup [])) t2 = some (.tup []) := upd_same
    generalize upd H10 t2 (.tup []) = G2 at ow2 g2 og2 gt2 ⊢
    have gt0 := ow2 _ _ na0 na0 gt0
    have gt1 := ow2 _ _ na1 na1 gt1
    refine ⟨_, rfl, a, _, dx, _, rfl, g2, Z.clP, no _ (by simp [persF]), (show (10 : Nat) < 1000 by decide), ?_⟩
    refine set_fld g2 og2 fun H11 h11 o11 oz2 => ?_
    have gt0 := oz2 _ _ na0 na0 gt0
    have gt1 := oz2 _ _ na1 na1 gt1
    have gt2 := oz2 _ _ na2 na2 gt2
    refine ⟨Nat.zero_le _, fun t3 nt3 => ?_⟩
    have na3 : t3 ≠ a := (ne_of_none h11 nt3).symm
    have ow3 : Off a a H11 (upd H11 t3 (.tup [])) := Off.of (same_upd nt3)
    have g3 := (same_upd (o := .tup []) nt3) _ _ h11
    have og3 := o11.trans ow3
    have gt3 : (upd H11 t3 (.tup [])) t3 = some (.tup []) := upd_same
    generalize upd H11 t3 (.tup []) = G3 at ow3 g3 og3 gt3 ⊢
    have gt0 := ow3 _ _ na0 na0 gt0
    have gt1 := ow3 _ _ na1 na1 gt1
    have gt2 := ow3 _ _ na2 na2 gt2
    refine ⟨_, rfl, a, _, dx, _, rfl, g3, Z.clP, no _ (by simp [persF]), (show (11 : Nat) < 1000 by decide), ?_⟩
    refine set_fld g3 og3 fun H12 h12 o12 oz3 => ?_
    have gt0 := oz3 _ _ na0 na0 gt0
    have gt1 := oz3 _ _ na1 na1 gt1
    have gt2 := oz3 _ _ na2 na2 gt2
    have gt3 := oz3 _ _ na3 na3 gt3
    refine ⟨_, rfl, a, _, dx, _, rfl, h12, Z.clP, no _ (by simp [persF]), (show (12 : Nat) < 1000 by decide), ?_⟩
    refine set_fld h12 o12 fun H13 h13 o13 oz => ?_
    have gt0 := oz _ _ na0 na0 gt0
    have gt1 := oz _ _ na1 na1 gt1
    have gt2 := oz _ _ na2 na2 gt2
    have gt3 := oz _ _ na3 na3 gt3
    refine ⟨_, rfl, a, _, dx, _, rfl, h13, Z.clP, no _ (by simp [persF]), (show (13 : Nat) < 1000 by decide), ?_⟩
    refine set_fld h13 o13 fun H14 h14 o14 oz => ?_
    have gt0 := oz _ _ na0 na0 gt0
    have gt1 := oz _ _ na1 na1 gt1
    have gt2 := oz _ _ na2 na2 gt2
    have gt3 := oz _ _ na3 na3 gt3
    refine ⟨_, rfl, a, _, dx, _, rfl, h14, Z.clP, no _ (by simp [persF]), (show (14 : Nat) < 1000 by decide), ?_⟩
    refine set_fld h14 o14 fun H15 h15 o15 oz => ?_
    have gt0 := oz _ _ na0 na0 gt0
    have gt1 := oz _ _ na1 na1 gt1
    have gt2 := oz _ _ na2 na2 gt2
    have gt3 := oz _ _ na3 na3 gt3
    refine ⟨_, rfl, a, _, dx, _, rfl, h15, Z.clP, no _ (by simp [persF]), (show (15 : Nat) < 1000 by decide), ?_⟩
    refine set_fld h15 o15 fun H16 h16 o16 oz => ?_
    have gt0 := oz _ _ na0 na0 gt0
    have gt1 := oz _ _ na1 na1 gt1
    have gt2 := oz _ _ na2 na2 gt2
    have gt3 := oz _ _ na3 na3 gt3
    exact k t0 t1 t2 t3 H16 o16 (fun _ _ _ => h16) na0 na1 na2 na3 gt0 gt1 gt2 gt3
def spFirst (K : PySem.W.Frag) : Sp := fun vs H Q _ => ∃ title : Str, vs = [.str title] ∧ ∀ a H', Same H H' → H a = none → PersAt K H' a (ps0 none [] [] title) → Q (.ref a) H'
abbrev s_first_one : Stmt := topS 10
theorem sc_first_one : FnScope [("title" : Str)] ["title"] (defScope s_first_one) := ⟨rfl, rfl, rfl, by decide +kernel, rfl, by decide +kernel, by decide +kernel⟩
theorem ok_first_one {f : Addr} {fd : FuncData} (F : FnP K "first_one" s_first_one f fd) (Z : Cz K mg) (k_Person : CalK P w K mg base (He.ga K "Person") ["self", "parent", "group", "session", "title"] 1 (spIniP K)) : FnOk P w K mg base CX0 3 f fd ["title"] (spFirst K) := by
  refine F.ok sc_first_one (fun vs H Q E h => ?_) (fun cdv A outer s H vs Q E hr h => ?_)
  · obtain ⟨title, rfl, _⟩ := h
    rfl
  · obtain ⟨title, rfl, k⟩ := h
    refine ⟨_, PSs.nox (pss_one (ps_ret (pe_calK k_Person (hr.mono (by decide)) (by rfl) Z.gP pass0 (pa_cons pe_non (pa_cons (pe_tup pa_nil) (pa_cons (pe_tup pa_nil) (pa_cons (pv 0) pa_nil))))))), ?_⟩
    refine ⟨Nat.zero_le _, fun t1 n1 => ?_⟩
    have s1 := same_upd (o := .tup []) n1
    refine ⟨Nat.zero_le _, fun t2 n2 => ?_⟩
    have s2 := same_upd (o := .tup []) n2
    refine ⟨_, rfl, fun a dx na nd ne => ?_⟩
    have e1 : (upd (upd H t1 (.tup [])) t2 (.tup [])) t1 = some (.tup []) := s2 _ _ upd_same
    have e2 : (upd (upd H t1 (.tup [])) t2 (.tup [])) t2 = some (.tup []) := upd_same
    generalize upd (upd H t1 (.tup [])) t2 (.tup []) = H2 at *
    have s12 := s1.trans s2
    have sd := same_upd (o := .own a) nd
    have na' : (upd H2 dx (.own a)) a = none := by rw [upd_ne ne.symm]; exact na
    have sa := same_upd (o := .ins (He.ga K "Person") dx []) na'
    have n1a := ne_of_none e1 na
    have n2a := ne_of_none e2 na
    refine ⟨a, dx, _, _, _, title, rfl, upd_same, fun m h hs pl H' oo ha m1 m2 m3 m4 q1 q2 q3 q4 => ⟨rfl, ?_⟩⟩
    have sz : Same H2 H' := fun b o e => oo b o (ne_of_none e na) (ne_of_none e na) ((sd.trans sa) _ _ e)
    refine k a H' (s12.trans sz) (s12.free na) ⟨dx, _, ha none [] [], ?_⟩
    exact ⟨rfl, ⟨t1, rfl, sz _ _ e1⟩, ⟨t2, rfl, sz _ _ e2⟩, .tup (.inl (.inl q1)) .nil, .tup (.inl (.inl q2)) .nil, .tup (.inl (.inl q3)) .nil, .tup (.inl (.inl q4)) .nil⟩
end
end Kin
namespace Kin
open PySem PySem.Spec PyProof.Rows L2
def vsOf (p : Ps) (r : Rf) : List V := [r.parent, r.group, r.session, .str p.how, wdV p.word, .str p.title, .int p.row, .int p.last, r.mask, r.held, r.handlers, r.pile, .int p.born, .bl p.taker, .bl p.changed, nwV p.news]
theorem dp_on {K : PySem.W.Frag} {H : Hp} {v : V} {n : Option Nm} (h : ONm H v n) : Dp K H v (onD n) := by
  cases n with
  | none =>
    cases (show v = .non from h)
    exact .non
  | some n => exact NmAt.dp h
theorem dp_wd {K : PySem.W.Frag} {H : Hp} (x : Wd) : Dp K H (wdV x) (wdD x) := by
  cases x with
  | no => exact .non
  | num n => exact .int _
  | sig s => exact .str _
theorem dp_nw {K : PySem.W.Frag} {H : Hp} (x : Option Str) : Dp K H (nwV x) (nwD x) := by
  cases x with
  | none => exact .non
  | some s => exact .str _
theorem dp_vs {K : PySem.W.Frag} {H : Hp} {p : Ps} {r : Rf} (h : RfOk K H p r) : DpAll K H (vsOf p r) p.ds :=
  .cons (dp_on h.parent) (.cons h.group.dp (.cons h.session.dp (.cons (.str _) (.cons (dp_wd _) (.cons (.str _) (.cons (.int _) (.cons (.int _) (.cons h.mask (.cons h.held (.cons h.handlers (.cons h.pile (.cons (.int _) (.cons (.bl _) (.cons (.bl _) (.cons (dp_nw _) .nil)))))))))))))))
def spThings (K : PySem.W.Frag) : Sp := fun vs H Q _ => ∃ (a : Addr) (p : Ps), vs = [.ref a] ∧ PersAt K H a p ∧ ∀ t vs' H', Same H H' → H t = none → H' t = some (.tup vs') → DpAll K H' vs' p.ds → Q (.ref t) H'
theorem fl1 (p : Ps) (r : Rf) : (fsOf p r).lookup ("parent" : Str) = some r.parent := by rfl
theorem fl2 (p : Ps) (r : Rf) : (fsOf p r).lookup ("group" : Str) = some r.group := by rfl
theorem fl3 (p : Ps) (r : Rf) : (fsOf p r).lookup ("session" : Str) = some r.session := by rfl
theorem fl4 (p : Ps) (r : Rf) : (fsOf p r).lookup ("how" : Str) = some (V.str p.how) := by rfl
theorem fl5 (p : Ps) (r : Rf) : (fsOf p r).lookup ("word" : Str) = some (wdV p.word) := by rfl
theorem fl6 (p : Ps) (r : Rf) : (fsOf p r).lookup ("title" : Str) = some (V.str p.title) := by rfl
theorem fl7 (p : Ps) (r : Rf) : (fsOf p r).lookup ("row" : Str) = some (V.int p.row) := by rfl
theorem fl8 (p : Ps) (r : Rf) : (fsOf p r).lookup ("last" : Str) = some (V.int p.last) := by rfl
theorem fl9 (p : Ps) (r : Rf) : (fsOf p r).lookup ("mask" : Str) = some r.mask := by rfl
theorem fl10 (p : Ps) (r : Rf) : (fsOf p r).lookup ("held" : Str) = some r.held := by rfl
theorem fl11 (p : Ps) (r : Rf) : (fsOf p r).lookup ("handlers" : Str) = some r.handlers := by rfl
theorem fl12 (p : Ps) (r : Rf) : (fsOf p r).lookup ("pile" : Str) = some r.pile := by rfl
theorem fl13 (p : Ps) (r : Rf) : (fsOf p r).lookup ("born" : Str) = some (V.int p.born) := by rfl
theorem fl14 (p : Ps) (r : Rf) : (fsOf p r).lookup ("taker" : Str) = some (V.bl p.taker) := by rfl
theorem fl15 (p : Ps) (r : Rf) : (fsOf p r).lookup ("changed" : Str) = some (V.bl p.changed) := by rfl
theorem fl16 (p : Ps) (r : Rf) : (fsOf p r).lookup ("news" : Str) = some (nwV p.news) := by rfl
section
variable {P : Program} {w : World} {K : PySem.W.Frag} {mg : Str → Option Value} {base : Heap} {tL : Tok} {es : Array DictEntry} {nF : Nat}
abbrev s_things_of : Stmt := topS 11
theorem sc_things_of : FnScope [("person" : Str)] ["person"] (defScope s_things_of) := ⟨rfl, rfl, rfl, by decide +kernel, rfl, by decide +kernel, by decide +kernel⟩
theorem ok_things_of {f : Addr} {fd : FuncData} (F : FnP K "things_of" s_things_of f fd) (Z : Cz K mg) : FnOk P w K mg base CX0 1 f fd ["person"] (spThings K) := by
  refine F.ok sc_things_of (fun vs H Q E h => ?_) (fun cdv A outer s H vs Q E hr h => ?_)
  · obtain ⟨a, p, rfl, _⟩ := h
    rfl
  · obtain ⟨a, p, rfl, ⟨dx, r, ha, ro⟩, k⟩ := h
    refine ⟨_, PSs.nox (pss_one (ps_ret (pe_tup (pa_cons (pe_fld (pv 0) rfl) (pa_cons (pe_fld (pv 0) rfl) (pa_cons (pe_fld (pv 0) rfl) (pa_cons (pe_fld (pv 0) rfl) (pa_cons (pe_fld (pv 0) rfl) (pa_cons (pe_fld (pv 0) rfl) (pa_cons (pe_fld (pv 0) rfl) (pa_cons (pe_fld (pv 0) rfl) (pa_cons (pe_fld (pv 0) rfl) (pa_cons (pe_fld (pv 0) rfl) (pa_cons (pe_fld (pv 0) rfl) (pa_cons (pe_fld (pv 0) rfl) (pa_cons (pe_fld (pv 0) rfl) (pa_cons (pe_fld (pv 0) rfl) (pa_cons (pe_fld (pv 0) rfl) (pa_cons (pe_fld (pv 0) rfl) pa_nil))))))))))))))))))), ?_⟩
    have no : ∀ f, f ∈ persF → NoAttr K (He.ga K "Person") f := Z.noP
    refine ⟨_, rfl, a, _, dx, _, _, rfl, ha, Z.clP, no _ (by simp [persF]), fl1 p r, ?_⟩
    refine ⟨_, rfl, a, _, dx, _, _, rfl, ha, Z.clP, no _ (by simp [persF]), fl2 p r, ?_⟩
    refine ⟨_, rfl, a, _, dx, _, _, rfl, ha, Z.clP, no _ (by simp [persF]), fl3 p r, ?_⟩
    refine ⟨_, rfl, a, _, dx, _, _, rfl, ha, Z.clP, no _ (by simp [persF]), fl4 p r, ?_⟩
    refine ⟨_, rfl, a, _, dx, _, _, rfl, ha, Z.clP, no _ (by simp [persF]), fl5 p r, ?_⟩
    refine ⟨_, rfl, a, _, dx, _, _, rfl, ha, Z.clP, no _ (by simp [persF]), fl6 p r, ?_⟩
    refine ⟨_, rfl, a, _, dx, _, _, rfl, ha, Z.clP, no _ (by simp [persF]), fl7 p r, ?_⟩
    refine ⟨_, rfl, a, _, dx, _, _, rfl, ha, Z.clP, no _ (by simp [persF]), fl8 p r, ?_⟩
    refine ⟨_, rfl, a, _, dx, _, _, rfl, ha, Z.clP, no _ (by simp [persF]), fl9 p r, ?_⟩
    refine ⟨_, rfl, a, _, dx, _, _, rfl, ha, Z.clP, no _ (by simp [persF]), fl10 p r, ?_⟩
    refine ⟨_, rfl, a, _, dx, _, _, rfl, ha, Z.clP, no _ (by simp [persF]), fl11 p r, ?_⟩
    refine ⟨_, rfl, a, _, dx, _, _, rfl, ha, Z.clP, no _ (by simp [persF]), fl12 p r, ?_⟩
    refine ⟨_, rfl, a, _, dx, _, _, rfl, ha, Z.clP, no _ (by simp [persF]), fl13 p r, ?_⟩
    refine ⟨_, rfl, a, _, dx, _, _, rfl, ha, Z.clP, no _ (by simp [persF]), fl14 p r, ?_⟩
    refine ⟨_, rfl, a, _, dx, _, _, rfl, ha, Z.clP, no _ (by simp [persF]), fl15 p r, ?_⟩
    refine ⟨_, rfl, a, _, dx, _, _, rfl, ha, Z.clP, no _ (by simp [persF]), fl16 p r, ?_⟩
    refine ⟨(show (16 : Nat) ≤ sizeLine by decide), fun t nt => ?_⟩
    exact k t (vsOf p r) _ (same_upd nt) nt upd_same (dpA_mono (same_upd nt) (dp_vs ro))
end
end Kin
namespace Kin
open PySem PySem.Spec PyProof.Rows L2
def pName : PyData → Bool
  | .tuple ds => ds.all pNat
  | _ => false
def pSmalls : PyData → Bool
  | .tuple ds => ds.all pSmall
  | _ => false
theorem pName_nm (n : Nm) : pName (nmD n) = true := by
  show ((nmI n).map PyData.int).all pNat = true
  unfold nmI
  rw [List.map_map, List.all_map, List.all_eq_true]
  intro k _
  show decide ((0 : Int) ≤ (k : Int)) = true
  exact decide_eq_true (Int.natCast_nonneg k)
section
variable {P : Program} {w : World} {K : PySem.W.Frag} {mg : Str → Option Value} {base : Heap} {tL : Tok} {es : Array DictEntry} {nF : Nat}
abbrev s_is_name : Stmt := topS 17
theorem sc_is_name : FnScope [("thing" : Str), ("part" : Str)] ["thing"] (defScope s_is_name) := ⟨rfl, rfl, rfl, by decide +kernel, rfl, by decide +kernel, by decide +kernel⟩
theorem ok_is_name {f : Addr} {fd : FuncData} (F : FnP K "is_name" s_is_name f fd) (T : Bi K w mg tL es nF) (c_is_natural : Cal P w K mg base "is_natural" ["thing"] 2 (spD K pNat)) : FnOk P w K mg base CX0 3 f fd ["thing"] (spDL K pName) := by
  refine F.ok sc_is_name (fun vs H Q E h => ?_) (fun cdv A outer s H vs Q E hr h => ?_)
  · obtain ⟨x, d, rfl, _⟩ := h
    rfl
  · obtain ⟨x, d, rfl, hd, hok, k⟩ := h
    refine ⟨_, PSs.nox (pss_one (ps_ret (pe_and (pe_callB call_isi (by rfl) T.n_isinstance boot_isinstance (pa_cons (pv 0) (pa_cons (pe_bltn (v := .ty "tuple") (by rfl) T.n_tuple boot_tuple rfl) pa_nil))) (pe_one (pe_callB (cr_all rfl) (by rfl) T.n_all boot_all (pa_cons (pe_lc (own := [(("part" : Str), 1)]) (g := gName 1) rfl sc_is_name.nd (pi_tup (pv 0)) (blkOk_by (N := [("thing" : Str), ("part" : Str)]) (sc := defScope s_is_name) (by decide +kernel)) (fun _ _ _ _ _ => by exact (pg_name (i := 1) sc_is_name.nd rfl (by first | exact .inl rfl | exact .inr rfl))) (fun _ _ _ _ _ => pts_nil) (fun _ _ _ _ _ => (pe_cal c_is_natural (hr.mono (by decide)) (by rfl) pass0 (pa_cons (pv 1) pa_nil)))) pa_nil)))))), ?_⟩
    refine ⟨x, rfl, x, _, _, _, _, rfl, .ty _, tyx_of hd, kit_tup (nd_of hd), _, rfl, ?_⟩
    cases hd with
    | @tup a xs ds ha hds =>
      have hlen := dpA_len hds
      refine iteT ⟨_, rfl, a, rfl, ⟨xs, ha⟩, fun D hD => ?_⟩
      refine lc_vals (walk_tup (xs := xs)) (fun i => .bl ((ds[i]?.map pNat).getD true)) hD (by rw [hlen]; exact (lenOk_tup hok).1) (fun H' s2 => Same.tup s2 ha) ?_ ?_
      · rintro i v H' H'' Qe hi s2 ⟨rfl, hv⟩ q
        obtain ⟨r, hr1, hr2⟩ := dpA_get hds hv
        refine ⟨rfl, _, rfl, v, r, rfl, dp_mono s2 hr2, fun H4 s4 => ?_⟩
        have q := q H4 s4
        rw [hr1] at q
        exact q
      · intro H1 s1 hlst
        refine ⟨D, ds.map pNat, rfl, .inl (.inl ?_), ?_⟩
        · rw [hlst, hlen, show (List.range ds.length).map (fun i => V.bl ((ds[i]?.map pNat).getD true)) = ds.map fun d => V.bl (pNat d) from map_range_eq fun i x hx => by rw [hx]; rfl, List.map_map]
          rfl
        · rw [all_id]
          exact k H1 s1
    | _ => exact iteF (k H (Same.refl H))
abbrev s_are_small : Stmt := topS 18
theorem sc_are_small : FnScope [("thing" : Str), ("part" : Str)] ["thing"] (defScope s_are_small) := ⟨rfl, rfl, rfl, by decide +kernel, rfl, by decide +kernel, by decide +kernel⟩
theorem ok_are_small {f : Addr} {fd : FuncData} (F : FnP K "are_small" s_are_small f fd) (T : Bi K w mg tL es nF) (c_is_small : Cal P w K mg base "is_small" ["thing"] 2 (spD K pSmall)) : FnOk P w K mg base CX0 3 f fd ["thing"] (spDL K pSmalls) := by
  refine F.ok sc_are_small (fun vs H Q E h => ?_) (fun cdv A outer s H vs Q E hr h => ?_)
  · obtain ⟨x, d, rfl, _⟩ := h
    rfl
  · obtain ⟨x, d, rfl, hd, hok, k⟩ := h
    refine ⟨_, PSs.nox (pss_one (ps_ret (pe_and (pe_callB call_isi (by rfl) T.n_isinstance boot_isinstance (pa_cons (pv 0) (pa_cons (pe_bltn (v := .ty "tuple") (by rfl) T.n_tuple boot_tuple rfl) pa_nil))) (pe_one (pe_callB (cr_all rfl) (by rfl) T.n_all boot_all (pa_cons (pe_lc (own := [(("part" : Str), 1)]) (g := gName 1) rfl sc_are_small.nd (pi_tup (pv 0)) (blkOk_by (N := [("thing" : Str), ("part" : Str)]) (sc := defScope s_are_small) (by decide +kernel)) (fun _ _ _ _ _ => by exact (pg_name (i := 1) sc_are_small.nd rfl (by first | exact .inl rfl | exact .inr rfl))) (fun _ _ _ _ _ => pts_nil) (fun _ _ _ _ _ => (pe_cal c_is_small (hr.mono (by decide)) (by rfl) pass0 (pa_cons (pv 1) pa_nil)))) pa_nil)))))), ?_⟩
    refine ⟨x, rfl, x, _, _, _, _, rfl, .ty _, tyx_of hd, kit_tup (nd_of hd), _, rfl, ?_⟩
    cases hd with
    | @tup a xs ds ha hds =>
      have hlen := dpA_len hds
      refine iteT ⟨_, rfl, a, rfl, ⟨xs, ha⟩, fun D hD => ?_⟩
      refine lc_vals (walk_tup (xs := xs)) (fun i => .bl ((ds[i]?.map pSmall).getD true)) hD (by rw [hlen]; exact (lenOk_tup hok).1) (fun H' s2 => Same.tup s2 ha) ?_ ?_
      · rintro i v H' H'' Qe hi s2 ⟨rfl, hv⟩ q
        obtain ⟨r, hr1, hr2⟩ := dpA_get hds hv
        refine ⟨rfl, _, rfl, v, r, rfl, dp_mono s2 hr2, fun H4 s4 => ?_⟩
        have q := q H4 s4
        rw [hr1] at q
        exact q
      · intro H1 s1 hlst
        refine ⟨D, ds.map pSmall, rfl, .inl (.inl ?_), ?_⟩
        · rw [hlst, hlen, show (List.range ds.length).map (fun i => V.bl ((ds[i]?.map pSmall).getD true)) = ds.map fun d => V.bl (pSmall d) from map_range_eq fun i x hx => by rw [hx]; rfl, List.map_map]
          rfl
        · rw [all_id]
          exact k H1 s1
    | _ => exact iteF (k H (Same.refl H))
end
end Kin
namespace Kin
open PySem PySem.Spec PyProof.Rows L2
section
variable {P : Program} {w : World} {K : PySem.W.Frag} {mg : Str → Option Value} {base : Heap} {tL : Tok} {es : Array DictEntry} {nF : Nat}
abbrev s_is_program : Stmt := topS 34
theorem sc_is_program : FnScope [("thing" : Str), ("rows" : Str), ("row" : Str)] ["thing"] (defScope s_is_program) := ⟨rfl, rfl, rfl, by decide +kernel, rfl, by decide +kernel, by decide +kernel⟩
theorem prog_ne2 {ds : List PyData} (h : (ds.length : Int) ≠ 2) : pProg (.tuple ds) = false := by
  unfold pProg
  split
  · rename_i e
    cases e
    exact absurd rfl h
  · rfl
theorem ok_is_program {f : Addr} {fd : FuncData} (F : FnP K "is_program" s_is_program f fd) (T : Bi K w mg tL es nF) (c_is_title : Cal P w K mg base "is_title" ["thing"] 1 (spDL K pTitle)) (c_is_row : Cal P w K mg base "is_row" ["thing", "size"] 7 (spRow K pRow)) : FnOk P w K mg base CX0 8 f fd ["thing"] (spDL K pProg) := by
  refine F.ok sc_is_program (fun vs H Q E h => ?_) (fun cdv A outer s H vs Q E hr h => ?_)
  · obtain ⟨x, d, rfl, _⟩ := h
    rfl
  · obtain ⟨x, d, rfl, hd, hok, k⟩ := h
    refine ⟨_, PSs.nox (pss_cons (ps_if (PW.pt (pw_or (pt_not (pt_val (pe_callB call_isi (by rfl) T.n_isinstance boot_isinstance (pa_cons (pv 0) (pa_cons (pe_bltn (v := .ty "tuple") (by rfl) T.n_tuple boot_tuple rfl) pa_nil))))) (pw_or (pt_cmpR op_ne (pe_callB call_len_seq (by rfl) T.n_len PySem.boot_len (pa_cons (pv 0) pa_nil)) pe_int (nomark _)) (pw_or1 (pt_not (pt_val (pe_cal c_is_title (hr.mono (by decide)) (by rfl) pass0 (pa_cons (pe_ix ix_tup (pv 0) pe_int (fun _ _ => rfl)) pa_nil)))))))) (pss_one (ps_ret pe_bl)) pss_nil) (pss_cons (ps_set (i := 1) sc_is_program.nd rfl (by first | exact .inl rfl | exact .inr rfl) (pe_ix ix_tup (pv 0) pe_int (fun _ _ => rfl))) (pss_cons (ps_if (PW.pt (pw_or (pt_not (pt_val (pe_callB call_isi (by rfl) T.n_isinstance boot_isinstance (pa_cons (pv 1) (pa_cons (pe_bltn (v := .ty "tuple") (by rfl) T.n_tuple boot_tuple rfl) pa_nil))))) (pw_or1 (pt_cmpR op_eq (pe_callB call_len_seq (by rfl) T.n_len PySem.boot_len (pa_cons (pv 1) pa_nil)) pe_int (nomark _))))) (pss_one (ps_ret pe_bl)) pss_nil) (pss_one (ps_ret (pe_callB (cr_all rfl) (by rfl) T.n_all boot_all (pa_cons (pe_lc (own := [(("row" : Str), 2)]) (g := gName 2) (te := tCall (spRow K pRow) [] E0 (tCons (tVar 2) (tCons (tCB (rLen K) (tCons (tVar 1) tNil)) tNil))) rfl sc_is_program.nd (pi_tup (pv 1)) (blkOk_by (N := [("thing" : Str), ("rows" : Str), ("row" : Str)]) (sc := defScope s_is_program) (by decide +kernel)) (fun _ _ _ _ _ => by exact (pg_name (i := 2) sc_is_program.nd rfl (by first | exact .inl rfl | exact .inr rfl))) (fun _ _ _ _ _ => pts_nil) (fun _ _ _ _ _ => (pe_cal c_is_row (hr.mono (by decide)) (by rfl) pass0 (pa_cons (pv 2) (pa_cons (pe_callB call_len_seq (by rfl) T.n_len PySem.boot_len (pa_cons (pv 1) pa_nil)) pa_nil))))) pa_nil))))))), ?_⟩
    refine ⟨x, rfl, x, _, _, _, _, rfl, .ty _, tyx_of hd, kit_tup (nd_of hd), _, rfl, ?_⟩
    cases hd with
    | @tup a xs ds ha hds =>
      refine iteF ⟨_, rfl, a, xs, rfl, .inr ha, rfl, _, rfl, ?_⟩
      have hl := dpA_len hds
      refine iteLen (fun hne => ?_) (fun heq => ?_)
      · have q := k H (Same.refl H)
        rw [prog_ne2 (by rw [← hl]; exact hne)] at q
        exact q
      · have hl2 : xs.length = 2 := by omega
        obtain ⟨x1, x2, rfl⟩ : ∃ x1 x2, xs = [x1, x2] := by
          match xs, hl2 with
          | [x1, x2], _ => exact ⟨x1, x2, rfl⟩
        cases hds with
        | @cons _ _ d1 _ h1 ht =>
          cases ht with
          | @cons _ _ d2 _ h2 ht2 =>
            cases ht2
            have hok1 := lenAll_mem (lenOk_tup hok).2 (List.mem_cons_self (a := d1) (l := [d2]))
            have hok2 := lenAll_mem (lenOk_tup hok).2 (List.mem_cons_of_mem d1 (List.mem_cons_self (a := d2) (l := [])))
            refine ⟨_, rfl, a, _, 0, x1, rfl, rfl, ha, rfl, x1, d1, rfl, h1, hok1, fun H1 s1 => ⟨_, rfl, ?_⟩⟩
            cases e1 : pTitle d1 with
            | false =>
              refine iteT ?_
              have q := k H1 s1
              have e : pProg (.tuple [d1, d2]) = false := by
                unfold pProg
                split
                · rename_i e
                  cases e
                  rw [e1]
                  rfl
                · rfl
              rw [e] at q
              exact q
            | true =>
              refine iteF ⟨_, rfl, a, _, 1, x2, rfl, rfl, Same.tup s1 ha, rfl, ?_⟩
              refine ⟨x2, rfl, x2, _, _, _, _, rfl, .ty _, tyx_of (dp_mono s1 h2), kit_tup (nd_of h2), _, rfl, ?_⟩
              cases h2 with
              | @tup b ys rs hb hrs =>
                have k : ∀ H', Same H H' → Q (.bl (pTitle d1 && (!rs.isEmpty && rs.all fun r => pRow r rs.length))) H' := k
                rw [e1, Bool.true_and] at k
                have hb1 := Same.tup s1 hb
                have hlr := dpA_len hrs
                refine iteF ⟨_, rfl, b, ys, rfl, .inr hb1, rfl, _, rfl, ?_⟩
                refine iteLenE (fun h0 => ?_) (fun h0 => ?_)
                · have hx : ys = [] := List.length_eq_zero_iff.mp (by omega)
                  subst hx
                  cases hrs
                  exact k H1 s1
                · have hne : rs.isEmpty = false := by
                    cases rs with
                    | nil => exact absurd (by rw [hlr]; rfl) h0
                    | cons _ _ => rfl
                  rw [hne] at k
                  refine ⟨_, rfl, b, rfl, ⟨ys, hb1⟩, fun D hD => ?_⟩
                  refine lc_vals (walk_tup (xs := ys)) (fun i => .bl ((rs[i]?.map fun r => pRow r rs.length).getD true)) hD (by rw [hlr]; exact Nat.le_trans (lenOk_tup hok2).1 (by decide)) (fun H' s2 => Same.tup s2 hb1) ?_ ?_
                  · rintro i v H' H'' Qe hi s2 ⟨rfl, hv⟩ q
                    obtain ⟨r, hr1, hr2⟩ := dpA_get hrs hv
                    refine ⟨rfl, ?_⟩
                    refine ⟨_, rfl, _, rfl, b, ys, rfl, .inr (Same.tup s2 hb1), v, r, (ys.length : Int), rfl, dp_mono (s1.trans s2) hr2, lenAll_mem (lenOk_tup hok2).2 (List.mem_of_getElem? hr1), fun H4 s4 => ?_⟩
                    have q := q H4 s4
                    rw [hr1] at q
                    rw [hlr]
                    exact q
                  · intro H' s2 hlst
                    refine ⟨D, (List.range ys.length).map fun i => ((rs[i]?.map fun r => pRow r rs.length).getD true), rfl, .inl (.inl ?_), ?_⟩
                    · rw [hlst, List.map_map]
                      rfl
                    · rw [hlr, map_range_eq (p := fun r => pRow r rs.length) (fun i x hx => by rw [hx]; rfl), all_id]
                      exact k H' (s1.trans s2)
              | _ =>
                have q := k H1 s1
                first
                | exact iteT q
                | (refine iteT ?_
                   rw [show pProg _ = false from rfl] at q
                   exact q)
    | _ => exact iteT (k H (Same.refl H))
end
end Kin
namespace Kin
open PySem PySem.Spec PyProof.Rows L2
def few (d : PyData) : Prop := ∀ ds, d = .tuple ds → ds.length < 64
def spBook (K : PySem.W.Frag) (f : PyData → Bool) : Sp := fun vs H Q _ => ∃ (x : V) (d : PyData), vs = [x] ∧ Dp K H x d ∧ lenOk d = true ∧ few d ∧ ∀ H', Same H H' → Q (.bl (f d)) H'
theorem prog_at0 {K : PySem.W.Frag} {H : Hp} {v : V} {d : PyData} (h : Dp K H v d) (hp : pProg d = true) : ∃ b ys, v = .ref b ∧ SqT K H b ys ∧ atI ys 0 = some (.str (titleOf d)) := by
  obtain ⟨z, rows, rfl, _, _⟩ := prog_title hp
  cases h with
  | @tup b ys _ hb hy =>
    refine ⟨b, ys, rfl, hb, ?_⟩
    cases hy with
    | cons h1 ht =>
      cases h1
      exact at0 _ _
section
variable {P : Program} {w : World} {K : PySem.W.Frag} {mg : Str → Option Value} {base : Heap} {tL : Tok} {es : Array DictEntry} {nF : Nat}
abbrev s_is_book : Stmt := topS 35
theorem sc_is_book : FnScope [("thing" : Str), ("program" : Str), ("titles" : Str)] ["thing"] (defScope s_is_book) := ⟨rfl, rfl, rfl, by decide +kernel, rfl, by decide +kernel, by decide +kernel⟩
theorem ok_is_book {f : Addr} {fd : FuncData} (F : FnP K "is_book" s_is_book f fd) (T : Bi K w mg tL es nF) (c_is_program : Cal P w K mg base "is_program" ["thing"] 8 (spDL K pProg)) : FnOk P w K mg base CX0 9 f fd ["thing"] (spBook K pBook) := by
  refine F.ok sc_is_book (fun vs H Q E h => ?_) (fun cdv A outer s H vs Q E hr h => ?_)
  · obtain ⟨x, d, rfl, _⟩ := h
    rfl
  · obtain ⟨x, d, rfl, hd, hok, hfew, k⟩ := h
    refine ⟨_, PSs.nox (pss_cons (ps_if (PW.pt (pw_or (pt_not (pt_val (pe_callB call_isi (by rfl) T.n_isinstance boot_isinstance (pa_cons (pv 0) (pa_cons (pe_bltn (v := .ty "tuple") (by rfl) T.n_tuple boot_tuple rfl) pa_nil))))) (pw_or1 (pt_cmpR op_eq (pe_callB call_len_seq (by rfl) T.n_len PySem.boot_len (pa_cons (pv 0) pa_nil)) pe_int (nomark _))))) (pss_one (ps_ret pe_bl)) pss_nil) (pss_cons (ps_if (pt_not (pt_val (pe_callB (cr_all rfl) (by rfl) T.n_all boot_all (pa_cons (pe_lc (own := [(("program" : Str), 1)]) (g := gName 1) rfl sc_is_book.nd (pi_tup (pv 0)) (blkOk_by (N := [("thing" : Str), ("program" : Str), ("titles" : Str)]) (sc := defScope s_is_book) (by decide +kernel)) (fun _ _ _ _ _ => by exact (pg_name (i := 1) sc_is_book.nd rfl (by first | exact .inl rfl | exact .inr rfl))) (fun _ _ _ _ _ => pts_nil) (fun _ _ _ _ _ => (pe_cal c_is_program (hr.mono (by decide)) (by rfl) pass0 (pa_cons (pv 1) pa_nil)))) pa_nil)))) (pss_one (ps_ret pe_bl)) pss_nil) (pss_cons (ps_setLc (i := 2) (own := [(("program" : Str), 1)]) (g := gName 1) (te := tOp (rIxT K) (tVar 1) (tC (.int 0))) rfl sc_is_book.nd rfl rfl (sw_true rfl rfl rfl (by decide +kernel)) (pi_tup (pv 0)) (blkOk_by (N := [("thing" : Str), ("program" : Str), ("titles" : Str)]) (sc := defScope s_is_book) (by decide +kernel)) (fun _ _ _ _ _ => by exact (pg_name (i := 1) sc_is_book.nd rfl (by first | exact .inl rfl | exact .inr rfl))) (fun _ _ _ _ _ => pts_nil) (fun _ _ _ _ _ => (pe_ix ix_tup (pv 1) pe_int (fun _ _ => rfl)))) (pss_one (ps_ret (pe_cmpR (op_eqD hr.units) (pv 2) (pe_callB (cr_sortTx rfl) (by rfl) T.n_sorted boot_sorted (pa_cons (pe_callTy (cr_setTx rfl) (by rfl) T.n_set boot_set (pa_cons (pv 2) pa_nil)) pa_nil)) (nomark _))))))), ?_⟩
    refine ⟨x, rfl, x, _, _, _, _, rfl, .ty _, tyx_of hd, kit_tup (nd_of hd), _, rfl, ?_⟩
    cases hd with
    | @tup a xs ds ha hds =>
      have k : ∀ H', Same H H' → Q (.bl (!ds.isEmpty && (ds.all pProg && rise (ds.map titleOf)))) H' := k
      have hlen := dpA_len hds
      have hf := hfew ds rfl
      refine iteF ⟨_, rfl, a, xs, rfl, .inr ha, rfl, _, rfl, ?_⟩
      refine iteLenE (fun h0 => ?_) (fun h0 => ?_)
      · have hx : xs = [] := List.length_eq_zero_iff.mp (by omega)
        subst hx
        cases hds
        exact k H (Same.refl H)
      · have hne : ds.isEmpty = false := by
          cases ds with
          | nil => exact absurd (by rw [hlen]; rfl) h0
          | cons _ _ => rfl
        rw [hne] at k
        refine ⟨_, rfl, a, rfl, ⟨xs, ha⟩, fun D hD => ?_⟩
        refine lc_vals (walk_tup (xs := xs)) (fun i => .bl ((ds[i]?.map pProg).getD true)) hD (by rw [hlen]; omega) (fun H' s2 => Same.tup s2 ha) ?_ ?_
        · rintro i v H' H'' Qe hi s2 ⟨rfl, hv⟩ q
          obtain ⟨r, hr1, hr2⟩ := dpA_get hds hv
          refine ⟨rfl, _, rfl, v, r, rfl, dp_mono s2 hr2, lenAll_mem (lenOk_tup hok).2 (List.mem_of_getElem? hr1), fun H4 s4 => ?_⟩
          have q := q H4 s4
          rw [hr1] at q
          exact q
        · intro H1 s1 hlst
          refine ⟨D, ds.map pProg, rfl, .inl (.inl ?_), _, rfl, ?_⟩
          · rw [hlst, hlen, show (List.range ds.length).map (fun i => V.bl ((ds[i]?.map pProg).getD true)) = ds.map fun d => V.bl (pProg d) from map_range_eq fun i x hx => by rw [hx]; rfl, List.map_map]
            rfl
          rw [all_id]
          cases ep : ds.all pProg with
          | false =>
            refine iteT ?_
            have q := k H1 s1
            rw [ep] at q
            exact q
          | true =>
            have hp := List.all_eq_true.mp ep
            refine iteF ?_
            have ha1 := Same.tup s1 ha
            refine ⟨_, rfl, a, rfl, ⟨xs, ha1⟩, fun D2 hD2 => ?_⟩
            refine lc_vals (walk_tup (xs := xs)) (fun i => .str ((ds[i]?.map titleOf).getD "")) hD2 (by rw [hlen]; omega) (fun H' s2 => Same.tup s2 ha1) ?_ ?_
            · rintro i v H' H'' Qe hi s2 ⟨rfl, hv⟩ q
              obtain ⟨r, hr1, hr2⟩ := dpA_get hds hv
              obtain ⟨b, ys, rfl, hb, hy⟩ := prog_at0 (dp_mono (s1.trans s2) hr2) (hp r (List.mem_of_getElem? hr1))
              have q := q H'' (Same.refl _)
              rw [hr1] at q
              exact ⟨rfl, _, rfl, b, ys, 0, _, rfl, rfl, hb, hy, q⟩
            · intro H2 s2 hlst2
              have ev : (List.range xs.length).map (fun i => V.str ((ds[i]?.map titleOf).getD "")) = (ds.map titleOf).map V.str := by
                rw [hlen, List.map_map]
                exact map_range_eq fun i x hx => by rw [hx]; rfl
              rw [ev] at hlst2
              have hP : SqL K H2 D2 ((ds.map titleOf).map V.str) := .inl (.inl hlst2)
              have hfl : (ds.map titleOf).length < 64 := by rw [List.length_map]; exact hf
              refine ⟨_, rfl, _, rfl, D2, _, rfl, hP, hfl, fun S hS => ?_⟩
              have s3 := same_upd (o := TxO P w S (once (ds.map titleOf).reverse)) hS
              refine ⟨S, once (ds.map titleOf).reverse, rfl, upd_same, ?_, fun ys p pm nd so hpn => ?_⟩
              · exact Nat.lt_of_le_of_lt (once_len _) (by rw [List.length_reverse]; exact hfl)
              have s4 := same_upd (o := .lst (ys.map V.str)) hpn
              have hstr : ∀ z ∈ ds.map titleOf, PyData.strOk z = true := fun z hz => by
                obtain ⟨d, hd1, rfl⟩ := List.mem_map.mp hz
                obtain ⟨z, rows, rfl, h3, _⟩ := prog_title (hp d hd1)
                exact az_ok h3
              refine ⟨.list ((ds.map titleOf).map PyData.str), .list (ys.map PyData.str), .lst ((s3.trans s4).seq hP) (dpA_strs _), .lst sqL_new (dpA_strs _), shaped_strs _ hstr, shaped_strs _ fun z hz => hstr z ?_, ?_⟩
              · have := pm.mem_iff.mp hz
                rw [mem_once, List.mem_reverse] at this
                exact this
              · rw [eqv_strs, sorted_is rfl pm nd so]
                have q := k _ (((s1.trans s2).trans s3).trans s4)
                rw [ep] at q
                exact q
    | _ => exact iteT (k H (Same.refl H))
end
end Kin
/-! y = {k: v for ..} on one line, y a local. -/
namespace Kin
open PySem PySem.Spec PyProof.Rows L2
section
variable {X : Cx}
theorem ps_setDc {i : Nat} {y : Str} {py : Pos} {kx vx tg iter : Expr} {ifs : List Expr} {scope : Scope} {own : List (Str × Nat)} {pos spos : Pos} {wi : TI} {g : TG} {tt : TT} {tk tv : TE} (hc : X.calm = true) (hN : X.N.Nodup) (hy : X.N[i]? = some y) (hyl : X.env.scope.names.lookup y = some .local)
    (hsw : swapsWith (.DictComp kx vx [⟨tg, iter, ifs, 0⟩] scope pos) (some (.Name y py)) spos.line X.env = pure true) (hi : PI X tg iter wi) (ok : BlkOk X.N X.env.scope scope own)
    (hg : ∀ (s : Shared) (H : Hp) (C : Addr) (cl : List (Str × Addr)) (fp : List Addr), PG (X.blk s H scope (compEnvC scope cl C X.env) fp) tg g) (ht : ∀ (s : Shared) (H : Hp) (C : Addr) (cl : List (Str × Addr)) (fp : List Addr), PTs (X.blk s H scope (compEnvC scope cl C X.env) fp) ifs tt)
    (hk : ∀ (s : Shared) (H : Hp) (C : Addr) (cl : List (Str × Addr)) (fp : List Addr), PE (X.blk s H scope (compEnvC scope cl C X.env) fp) kx tk)
    (he : ∀ (s : Shared) (H : Hp) (C : Addr) (cl : List (Str × Addr)) (fp : List Addr), PE (X.blk s H scope (compEnvC scope cl C X.env) fp) vx tv) (hs : ∀ x, foldedSetIterable iter X.env x = pure x := by intro _; rfl) :
    PS X (.Assign [.Name y py] (.DictComp kx vx [⟨tg, iter, ifs, 0⟩] scope pos) spos) (tAsg (tDc wi g tt tk tv (own.map (·.2))) (gName i)) := by
  refine ⟨fun pins s σ H D I h => ?_⟩
  rw [exec_Assign_Name_used _ _ _ _ hsw]
  refine wpAny_bind (wpAny_standAt (wpAny_bind ?_))
  show wpAny _ X.A (do let _ ← comprehension (.DictComp kx vx [⟨tg, iter, ifs, 0⟩] scope pos) scope X.env (firstIterPos [⟨tg, iter, ifs, 0⟩] pos) newDict false (eval iter X.env) (some (assign (.Name y py) X.env))) _ _ s
  have h : tDc wi g tt tk tv (own.map (·.2)) σ H (fun x H1 => gName i x σ H1 D.nx) := h
  refine wpAny_bind (thn (dc_core (Qf := fun _ s' => SP X pins D .next s') hc hN I hi ok hg ht hk he hs h fun L C s' m H' I' q hn f => ?_) fun _ s' hq => wpAny_pure (wpAny_pure hq))
  show wpAny _ _ (assign (.Name y py) X.env (.ref L)) _ _ _
  refine wpAny_assign_Name (store_ok2 (v := V.ref L) I' hN hy (.inl hyl) rfl (fun s2 I2 ⟨a, sb, ha⟩ => ?_) (.inr hyl))
  obtain ⟨f0, f1, f2, f3, f4, f5⟩ := f
  have haC : C ≠ a := by
    rcases ha with z | z
    · rw [z]; exact f1
    · exact fun e => f4 y a z e.symm
  refine ⟨m, hn.sameBut sb haC, fun h3 sb3 => ?_⟩
  exact ⟨_, H', I2.turned (t' := s2.toks) (fun b o hb e => (sb3.2 b hb).trans e) f0 f1 f3 f4 f5, q⟩
theorem sw_trueD {kx vx : Expr} {gs : List Comprehension} {scope : Scope} {pos py : Pos} {y : Str} {l : Nat} {env : Env} (hk : env.scope.kind = .function) (hy : env.scope.names.lookup y = some .local) (hl : (py.line == pos.line) = true)
    (ha : (scope.names.any fun (n, k) => n == y && (k == .local || k == .cell)) = false) : swapsWith (.DictComp kx vx gs scope pos) (some (.Name y py)) l env = pure true := by
  have ky : env.kindOf y = some .local := hy
  have hb : env.blockKind = .function := by unfold Env.blockKind; rw [hk]; rfl
  unfold swapsWith
  simp only [hb, ky, ha, Expr.pos, hl]
  rfl
end
end Kin
namespace Kin
open PySem PySem.Spec PyProof.Rows L2
def bkD (bk : List (Str × List PyData)) : PyData := .tuple (bk.map fun p => PyData.tuple [.str p.1, .tuple p.2])
def BkOk (bk : List (Str × List PyData)) : Prop := pBook (bkD bk) = true ∧ lenOk (bkD bk) = true ∧ bk.length < 64
def hs0 (bk : List (Str × List PyData)) (title : Str) (typed : List Nat) : Hs := ⟨bkD bk, bk, [([], ps0 none [] [] title)], [([], some [])], [([], typed)]⟩
/-- the objects of a house that change are none of those there -/
def Hd.fresh (d : Hd) (H : Hp) : Prop := H d.pd = none ∧ H d.pp = none ∧ H d.pf = none ∧ H d.pq = none ∧ ∀ x ∈ d.as, H x = none
theorem sqT_ins {K : PySem.W.Frag} {H H' : Hp} {a C dx : Addr} {fs : List (Str × V)} (o : Off a a H H') (ha : H a = some (.ins C dx fs)) (b : Addr) (xs : List V) (h : SqT K H b xs) : SqT K H' b xs := by
  rcases h with (h | ⟨u, h⟩) | h
  · have n : b ≠ a := ne_of h ha (fun z => nomatch z)
    exact .inl (.inl (o b _ n n h))
  · have n : b ≠ a := ne_of h ha (fun z => nomatch z)
    exact .inl (.inr ⟨u, o b _ n n h⟩)
  · exact .inr h
theorem noL_strs (ss : List Str) : noLAll (ss.map PyData.str) = true := by
  induction ss with
  | nil => rw [List.map_nil, noLAll]
  | cons z r ih => rw [List.map_cons, noLAll, noL, ih]; rfl
theorem noL_sg (ss : List Str) : noL (sgD ss) = true := by
  unfold sgD
  rw [noL]
  exact noL_strs ss
theorem noL_hw (x : Hw) : noL (hwD x) = true := by
  cases x with
  | ig => show noL (.str "ignore") = true; rw [noL]
  | at_ r ss =>
    show noL (.tuple [.int r, sgD ss]) = true
    rw [noL, noLAll, noLAll, noLAll, noL, noL_sg]
    rfl
theorem noL_hd (hs : List (Str × Hw)) : noL (hdD hs) = true := by
  unfold hdD
  rw [noL]
  refine noLAll_of fun d hd => ?_
  obtain ⟨p, _, rfl⟩ := List.mem_map.mp hd
  rw [noL, noLAll, noLAll, noLAll, noL, noL_hw]
  rfl
theorem noL_pl (pl : List (Nat × List Str)) : noL (plD pl) = true := by
  unfold plD
  rw [noL]
  refine noLAll_of fun d hd => ?_
  obtain ⟨p, _, rfl⟩ := List.mem_map.mp hd
  rw [noL, noLAll, noLAll, noLAll, noL, noL_sg]
  rfl
theorem NmAt.off {H H' : Hp} {a C dx : Addr} {fs : List (Str × V)} {v : V} {n : Nm} (o : Off a a H H') (ha : H a = some (.ins C dx fs)) (h : NmAt H v n) : NmAt H' v n := by
  obtain ⟨b, rfl, e⟩ := h
  have n : b ≠ a := ne_of e ha (fun z => nomatch z)
  exact ⟨b, rfl, o b _ n n e⟩
theorem RfOk.off {K : PySem.W.Frag} {H H' : Hp} {a C dx : Addr} {fs : List (Str × V)} {p : Ps} {r : Rf} (o : Off a a H H') (ha : H a = some (.ins C dx fs)) (h : RfOk K H p r) : RfOk K H' p r := by
  refine ⟨?_, h.group.off o ha, h.session.off o ha, dp_noL (sqT_ins o ha) (noL_sg _) h.mask, dp_noL (sqT_ins o ha) (noL_sg _) h.held, dp_noL (sqT_ins o ha) (noL_hd _) h.handlers, dp_noL (sqT_ins o ha) (noL_pl _) h.pile⟩
  have hp := h.parent
  cases hp' : p.parent with
  | none =>
    rw [hp'] at hp
    exact hp
  | some n =>
    rw [hp'] at hp
    exact NmAt.off o ha hp
theorem PersAt.off {K : PySem.W.Frag} {H H' : Hp} {a C dx x : Addr} {fs : List (Str × V)} {p : Ps} (o : Off a a H H') (ha : H a = some (.ins C dx fs)) (hx : x ≠ a) (h : PersAt K H x p) : PersAt K H' x p := by
  obtain ⟨dx, r, h1, h2⟩ := h
  exact ⟨dx, r, o x _ hx hx h1, h2.off o ha⟩
theorem PersAt.same {K : PySem.W.Frag} {H H' : Hp} {x : Addr} {p : Ps} (s : Same H H') (h : PersAt K H x p) : PersAt K H' x p := by
  obtain ⟨dx, r, h1, h2⟩ := h
  refine ⟨dx, r, s _ _ h1, ⟨h2.parent.ts (.of s), h2.group.ts (.of s), h2.session.ts (.of s), dp_mono s h2.mask, dp_mono s h2.held, dp_mono s h2.handlers, dp_mono s h2.pile⟩⟩
theorem prog_inv {K : PySem.W.Frag} {H : Hp} {x : V} {z : Str} {rows : List PyData} (h : Dp K H x (.tuple [.str z, .tuple rows])) : ∃ (q : Addr) (v : V), x = V.ref q ∧ SqT K H q [.str z, v] ∧ Dp K H v (.tuple rows) := by
  cases h with
  | tup ha hd =>
    cases hd with
    | cons h1 ht =>
      cases h1
      cases ht with
      | cons h2 hn =>
        cases hn
        exact ⟨_, _, rfl, ha, h2⟩
theorem book_inv {K : PySem.W.Frag} {H : Hp} : ∀ {bk : List (Str × List PyData)} {xs : List V}, DpAll K H xs (bk.map fun p => PyData.tuple [.str p.1, .tuple p.2]) →
    ∃ vs : List V, DpAll K H vs (bk.map fun p => PyData.tuple p.2) ∧ ∀ (i : Nat) (x : V), xs[i]? = some x → ∃ (q : Addr) (p : Str × List PyData) (v : V), x = V.ref q ∧ bk[i]? = some p ∧ vs[i]? = some v ∧ SqT K H q [.str p.1, v]
  | [], _, h => by
    cases h
    exact ⟨[], .nil, fun i x e => by simp at e⟩
  | p :: r, _, h => by
    cases h with
    | cons h1 ht =>
      obtain ⟨q, v, rfl, hq, hv⟩ := prog_inv h1
      obtain ⟨vs, hvs, hi⟩ := book_inv ht
      refine ⟨v :: vs, .cons hv hvs, fun i x e => ?_⟩
      cases i with
      | zero =>
        cases e
        exact ⟨q, p, v, rfl, rfl, rfl, hq⟩
      | succ i => exact hi i x e
theorem bk_rise {bk : List (Str × List PyData)} (h : pBook (bkD bk) = true) : (bk.map (·.1)).Nodup := by
  have h : (!(bk.map fun p => PyData.tuple [.str p.1, .tuple p.2]).isEmpty && ((bk.map fun p => PyData.tuple [.str p.1, .tuple p.2]).all pProg && rise ((bk.map fun p => PyData.tuple [.str p.1, .tuple p.2]).map titleOf))) = true := h
  have h1 := (Bool.and_eq_true_iff.mp (Bool.and_eq_true_iff.mp h).2).2
  rw [List.map_map] at h1
  have h2 : rise (bk.map (·.1)) = true := h1
  refine (rise_pw h2).imp ?_
  intro a b hab e
  rw [e, ltS_irrefl] at hab
  cases hab
theorem noL_q (q : List Nat) : noL (qD q) = true := by
  unfold qD
  rw [noL]
  refine noLAll_of fun d hd => ?_
  obtain ⟨k, _, rfl⟩ := List.mem_map.mp hd
  rw [noL]
theorem bk_noL {bk : List (Str × List PyData)} (h : pBook (bkD bk) = true) : noL (bkD bk) = true ∧ noLAll (bk.map fun p => PyData.tuple p.2) = true := by
  have h : (!(bk.map fun p => PyData.tuple [.str p.1, .tuple p.2]).isEmpty && ((bk.map fun p => PyData.tuple [.str p.1, .tuple p.2]).all pProg && rise ((bk.map fun p => PyData.tuple [.str p.1, .tuple p.2]).map titleOf))) = true := h
  have h1 := List.all_eq_true.mp (Bool.and_eq_true_iff.mp (Bool.and_eq_true_iff.mp h).2).1
  have hr : ∀ p ∈ bk, noLAll p.2 = true := fun p hp => by
    have h2 := h1 _ (List.mem_map.mpr ⟨p, hp, rfl⟩)
    have h3 : (pTitle (.str p.1) && (!p.2.isEmpty && p.2.all fun r => pRow r p.2.length)) = true := h2
    have h4 := List.all_eq_true.mp (Bool.and_eq_true_iff.mp (Bool.and_eq_true_iff.mp h3).2).2
    exact noLAll_of fun r hr => row_noL (h4 r hr)
  refine ⟨?_, noLAll_of fun d hd => ?_⟩
  · unfold bkD
    rw [noL]
    refine noLAll_of fun d hd => ?_
    obtain ⟨p, hp, rfl⟩ := List.mem_map.mp hd
    rw [noL, noLAll, noLAll, noLAll, noL, noL, hr p hp]
    rfl
  · obtain ⟨p, hp, rfl⟩ := List.mem_map.mp hd
    rw [noL]
    exact hr p hp
theorem valV_zip {κ : Type} [DecidableEq κ] {k : κ} : ∀ {ks : List κ} {vs : List V}, k ∈ ks → vs.length = ks.length → (valV (ks.zip vs) k).isSome = true
  | [], _, h, _ => by cases h
  | a :: r, [], _, h => by cases h
  | a :: r, v :: vs, h, hl => by
    by_cases e : a = k
    · rw [List.zip_cons_cons, valV_pos e]
      rfl
    · rw [List.zip_cons_cons, valV_neg e]
      exact valV_zip ((List.mem_cons.mp h).resolve_left (fun z => e z.symm)) (by simpa using hl)
theorem valV_zip_none {κ : Type} [DecidableEq κ] {k : κ} : ∀ {ks : List κ} {vs : List V}, ¬ k ∈ ks → valV (ks.zip vs) k = none
  | [], _, _ => by rw [List.zip_nil_left]; rfl
  | a :: r, [], _ => by rw [List.zip_nil_right]; rfl
  | a :: r, v :: vs, h => by
    rw [List.zip_cons_cons, valV_neg (fun e => h (by have e : a = k := e; rw [e]; exact List.mem_cons_self))]
    exact valV_zip_none fun z => h (List.mem_cons_of_mem _ z)
theorem zip_take {α β : Type} : ∀ (i : Nat) (l : List α) (m : List β), (l.zip m).take i = (l.take i).zip (m.take i)
  | 0, _, _ => by rw [List.take_zero, List.take_zero, List.zip_nil_left]
  | i + 1, [], m => by rw [List.zip_nil_left, List.take_nil, List.take_nil, List.zip_nil_left]
  | i + 1, a :: l, [] => by rw [List.zip_nil_right, List.take_nil, List.take_nil, List.zip_nil_right]
  | i + 1, a :: l, b :: m => by rw [List.zip_cons_cons, List.take_succ_cons, List.take_succ_cons, List.take_succ_cons, List.zip_cons_cons, zip_take i l m]
section
variable {P : Program} {w : World} {K : PySem.W.Frag} {mg : Str → Option Value} {base : Heap} {tL : Tok} {es : Array DictEntry} {nF : Nat}
def spIniH (K : PySem.W.Frag) : Sp := fun vs H Q _ => ∃ (a dx : Addr) (bv tv : V) (bk : List (Str × List PyData)) (title : Str) (typed : List Nat), vs = [.ref a, bv, .str title, tv] ∧ H a = some (.ins (He.ga K "House") dx []) ∧
  Dp K H bv (bkD bk) ∧ BkOk bk ∧ title ∈ bk.map (·.1) ∧ Dp K H tv (qD typed) ∧ (∀ k ∈ typed, k ≤ 99) ∧ typed.length ≤ 1000 ∧ ∀ d H', Off a a H H' → d.fresh H → HouseAt K H' a (hs0 bk title typed) d → Q .non H'
abbrev FnK (K : PySem.W.Frag) (m q : Str) (st : Stmt) (kws : List (Str × V)) (f : Addr) (fd : FuncData) : Prop := FunD K m q (defArgs st) (defBody st) (defScope st) [] kws f fd
theorem q_small {typed : List Nat} (h : ∀ k ∈ typed, k ≤ 99) : pSmalls (qD typed) = true := by
  show (typed.map fun (k : Nat) => PyData.int (k : Int)).all pSmall = true
  rw [List.all_map, List.all_eq_true]
  intro k hk
  show (decide ((0 : Int) ≤ (k : Int)) && decide ((k : Int) ≤ 99)) = true
  have := h k hk
  rw [decide_eq_true (by omega), decide_eq_true (by omega)]
  rfl
theorem q_len {typed : List Nat} (h : typed.length ≤ 1000) : lenOk (qD typed) = true := by
  have h1 : ∀ l : List Nat, lenAll (l.map fun (k : Nat) => PyData.int (k : Int)) = true := by
    intro l
    induction l with
    | nil => rw [List.map_nil, lenAll]
    | cons k r ih => rw [List.map_cons, lenAll, lenOk, ih]; rfl
  unfold qD
  rw [lenOk, h1, List.length_map, decide_eq_true (show typed.length ≤ 1000000 by omega)]
  rfl
abbrev s_House___init__ : Stmt := clsS 51 0
theorem sc_House___init__ : FnScope [("self" : Str), ("book" : Str), ("title" : Str), ("typed" : Str), ("programs" : Str), ("program" : Str)] ["self", "book", "title", "typed"] (defScope s_House___init__) := ⟨rfl, rfl, rfl, by decide +kernel, rfl, by decide +kernel, by decide +kernel⟩
theorem ok_House___init__ {kws : List (Str × V)} {f : Addr} {fd : FuncData} (F : FnK K "__init__" "House.__init__" s_House___init__ kws f fd) (T : Bi K w mg tL es nF) (Z : Cz K mg) (c_is_book : Cal P w K mg base "is_book" ["thing"] 9 (spBook K pBook)) (c_are_small : Cal P w K mg base "are_small" ["thing"] 3 (spDL K pSmalls)) (c_first_one : Cal P w K mg base "first_one" ["title"] 3 (spFirst K)) : FnOk P w K mg base CX0 10 f fd ["self", "book", "title", "typed"] (spIniH K) := by
  refine F.ok sc_House___init__ (fun vs H Q E h => ?_) (fun cdv A outer s H vs Q E hr h => ?_)
  · obtain ⟨a, dx, bv, tv, bk, title, typed, rfl, _⟩ := h
    rfl
  · obtain ⟨a, dx, bv, tv, bk, title, typed, rfl, h0, hb, ⟨hb1, hb2, hb3⟩, ht, hq, hq1, hq2, k⟩ := h
    refine ⟨_, PSs.nox (pss_cons (ps_if (pt_not (pt_val (pe_cal c_is_book (hr.mono (by decide)) (by rfl) pass0 (pa_cons (pv 1) pa_nil)))) (pss_one ps_vac) pss_nil) (pss_cons (ps_setDc (i := 4) (own := [(("program" : Str), 5)]) (g := gName 5) (tk := tOp (rIxT K) (tVar 5) (tC (.int 0))) (tv := tOp (rIxT K) (tVar 5) (tC (.int 1))) rfl sc_House___init__.nd rfl rfl (sw_trueD rfl rfl rfl (by decide +kernel)) (pi_tup (pv 1)) (blkOk_by (N := [("self" : Str), ("book" : Str), ("title" : Str), ("typed" : Str), ("programs" : Str), ("program" : Str)]) (sc := defScope s_House___init__) (by decide +kernel)) (fun _ _ _ _ _ => by exact (pg_name (i := 5) sc_House___init__.nd rfl (by first | exact .inl rfl | exact .inr rfl))) (fun _ _ _ _ _ => pts_nil) (fun _ _ _ _ _ => (pe_ix ix_tup (pv 5) pe_int (fun _ _ => rfl))) (fun _ _ _ _ _ => (pe_ix ix_tup (pv 5) pe_int (fun _ _ => rfl)))) (pss_cons (ps_if (PW.pt (pw_or (pt_not (pt_val (pe_callB call_isi (by rfl) T.n_isinstance boot_isinstance (pa_cons (pv 2) (pa_cons (pe_bltn (v := .ty "str") (by rfl) T.n_str boot_str rfl) pa_nil))))) (pw_or1 (pt_cmp (pc_dnotin (hu_of hr) (pv 2) (pv 4)))))) (pss_one ps_vac) pss_nil) (pss_cons (ps_if (pt_not (pt_val (pe_cal c_are_small (hr.mono (by decide)) (by rfl) pass0 (pa_cons (pv 3) pa_nil)))) (pss_one ps_vac) pss_nil) (pss_cons (ps_fld (pv 0) (pv 1) rfl) (pss_cons (ps_fld (pv 0) (pv 4) rfl) (pss_cons (ps_fld (pv 0) (pe_dispT1 (hu_of hr) (pe_tup pa_nil) (pe_cal c_first_one (hr.mono (by decide)) (by rfl) pass0 (pa_cons (pv 2) pa_nil))) rfl) (pss_cons (ps_fld (pv 0) (pe_dispT1 (hu_of hr) (pe_tup pa_nil) (pe_tup pa_nil)) rfl) (pss_one (ps_fld (pv 0) (pe_dispT1 (hu_of hr) (pe_tup pa_nil) (pv 3)) rfl)))))))))), ?_⟩
    have no : ∀ f, f ∈ houseF → NoAttr K (He.ga K "House") f := Z.noH
    refine ⟨_, rfl, bv, _, rfl, hb, hb2, ?_, fun H1 s1 => ⟨_, rfl, ?_⟩⟩
    · intro ds e
      cases e
      rw [List.length_map]
      exact hb3
    rw [hb1]
    refine iteF ?_
    have hb' := dp_mono s1 hb
    cases hb' with
    | @tup b xs _ hsq hds =>
    obtain ⟨vs, hvs, hvi⟩ := book_inv hds
    have hxl : xs.length = bk.length := by rw [dpA_len hds, List.length_map]
    have hvl : vs.length = bk.length := by rw [dpA_len hvs, List.length_map]
    refine ⟨_, rfl, b, rfl, ⟨_, hsq⟩, fun D hD => ?_⟩
    refine dc_tup (K := K) (a := b) (xs := xs) (fun i H' => Same H1 H' ∧ H' D = some (.dK (((bk.map fun p => (Sum.inr p.1 : Key)).zip vs).take i))) ⟨same_upd hD, upd_same⟩ (fun i H' _ h => Same.tup h.1 hsq) ?_ ?_
    · rintro i x H' hx ⟨hs, hd⟩
      obtain ⟨q, p, v, rfl, hp, hv, hsq2⟩ := hvi i x hx
      have hq2' := Same.tup hs hsq2
      refine ⟨rfl, _, rfl, q, _, 0, _, rfl, rfl, hq2', rfl, _, rfl, q, _, 1, _, rfl, rfl, hq2', rfl, _, Sum.inr p.1, rfl, hd, ?_, ?_, ?_⟩
      · exact Nat.lt_of_le_of_lt (Nat.le_trans (by rw [List.length_take, List.length_zip, List.length_map, hvl]; omega) (Nat.le_of_lt hb3)) (by decide)
      · exact same_mut hs hD
      · have hz : ((bk.map fun p => (Sum.inr p.1 : Key)).zip vs)[i]? = some (Sum.inr p.1, v) := by
          rw [List.getElem?_zip_eq_some]
          exact ⟨by rw [List.getElem?_map, hp]; rfl, hv⟩
        rw [upd_same, List.take_add_one, hz, putK_new]
        · rfl
        · rw [zip_take]
          refine valV_zip_none fun z => ?_
          obtain ⟨j, hj, ej⟩ := List.getElem_of_mem z
          have hji : j < i := by rw [List.length_take] at hj; omega
          have e2 : ((bk.map (·.1))[j]? : Option Str) = some p.1 := by
            have e3 : ((bk.map fun p => (Sum.inr p.1 : Key)).take i)[j]? = some (Sum.inr p.1) := by rw [List.getElem?_eq_getElem hj, ej]
            rw [List.getElem?_take_of_lt hji, List.getElem?_map] at e3
            rw [List.getElem?_map]
            cases hb : bk[j]? with
            | none =>
              rw [hb] at e3
              cases e3
            | some q =>
              rw [hb] at e3
              have e4 : (Sum.inr q.1 : Key) = Sum.inr p.1 := Option.some.inj e3
              exact congrArg some (Sum.inr.inj e4)
          have e3 : ((bk.map (·.1))[i]? : Option Str) = some p.1 := by rw [List.getElem?_map, hp]; rfl
          obtain ⟨l1, g1⟩ := List.getElem?_eq_some_iff.mp e2
          obtain ⟨l2, g2⟩ := List.getElem?_eq_some_iff.mp e3
          exact (List.pairwise_iff_getElem.mp (bk_rise hb1) j i l1 l2 hji) (g1.trans g2.symm)
    · rintro H2 ⟨s2, hd⟩
      rw [List.take_of_length_le (by rw [List.length_zip, List.length_map, hvl, hxl]; omega)] at hd
      refine ⟨_, rfl, _, _, _, _, _, rfl, .ty _, tyx_of (.str title), kit_str (d := .str title) rfl, _, rfl, ?_⟩
      refine iteF ⟨_, rfl, _, rfl, D, _, rfl, DGet.k (k := Sum.inr title) hd, _, rfl, ?_⟩
      have hsome : (valV ((bk.map fun p => (Sum.inr p.1 : Key)).zip vs) (Sum.inr title)).isSome = true := by
        refine valV_zip ?_ (by rw [List.length_map, hvl])
        obtain ⟨p, hp, rfl⟩ := List.mem_map.mp ht
        exact List.mem_map.mpr ⟨p, hp, rfl⟩
      rw [hsome]
      refine iteF ?_
      refine ⟨_, rfl, tv, _, rfl, dp_mono (s1.trans s2) hq, q_len hq2, fun H3 s3 => ⟨_, rfl, ?_⟩⟩
      rw [q_small hq1]
      refine iteF ?_
      have st : Same H H3 := s1.trans (s2.trans s3)
      have h3 := st _ _ h0
      have hbv3 : Dp K H3 (.ref b) (bkD bk) := .tup (Same.tup (s2.trans s3) hsq) (dpA_mono (s2.trans s3) hds)
      have hd3 := s3 _ _ hd
      have nDa : D ≠ a := (ne_of_none (s1 _ _ h0) hD).symm
      have hvs3 := dpA_mono (s2.trans s3) hvs
      have hq3 := dp_mono st hq
      have hD0 : H D = none := s1.free hD
      clear hvi hds hsq hxl
      -- book, programs
      refine ⟨_, rfl, _, rfl, a, _, dx, _, rfl, h3, Z.clH, no _ (by simp [houseF]), by decide, ?_⟩
      refine set_fld h3 Off.refl fun H4 h4 o4 _ => ?_
      refine ⟨_, rfl, _, rfl, a, _, dx, _, rfl, h4, Z.clH, no _ (by simp [houseF]), (show (1 : Nat) < 1000 by decide), ?_⟩
      refine set_fld h4 o4 fun H5 h5 o5 _ => ?_
      -- people
      refine fun pp npp => ⟨Nat.zero_le _, fun t1 nt1 => ?_⟩
      have u1 := same_upd (o := .dT []) npp
      have u2 := same_upd (o := .tup []) nt1
      refine ⟨_, rfl, title, rfl, fun pa G sG npa hpa => ?_⟩
      have uG := u1.trans (u2.trans sG)
      have gt1 := sG _ _ (upd_same (H := upd H5 pp (.dT [])) (a := t1) (o := .tup []))
      have gpp := sG _ _ (u2 _ _ (upd_same (H := H5) (a := pp) (o := .dT [])))
      refine ⟨t1, [], rfl, gt1, gpp, ?_⟩
      have nppa : pp ≠ a := (ne_of_none h5 npp).symm
      have npaa : pa ≠ a := (ne_of_none (u2 _ _ (u1 _ _ h5)) npa).symm
      have npap : pa ≠ pp := (ne_of_none (u2 _ _ upd_same) npa).symm
      have hGa := uG _ _ h5
      have oG : Off a a H5 (upd G pp (.dT [([], .ref pa)])) := (Off.of uG).mut npp
      have hGa' := (upd_ne (H := G) (a := pp) (o := .dT [([], V.ref pa)]) nppa.symm).trans hGa
      have hGp : (upd G pp (.dT [([], V.ref pa)])) pp = some (.dT [([], V.ref pa)]) := upd_same
      have hPa : PersAt K (upd G pp (.dT [([], V.ref pa)])) pa (ps0 none [] [] title) := by
        obtain ⟨dxp, r, e1, e2⟩ := hpa
        have ts : TSame G (upd G pp (.dT [([], V.ref pa)])) := .upd fun xs z => by rw [gpp] at z; cases z
        have tq : ∀ b xs, SqT K G b xs → SqT K (upd G pp (.dT [([], V.ref pa)])) b xs := fun b xs h => by
          rcases h with (h | ⟨u, h⟩) | h
          · exact .inl (.inl (ts b xs h))
          · have n : b ≠ pp := ne_of h gpp (fun z => nomatch z)
            exact .inl (.inr ⟨u, by rw [upd_ne n]; exact h⟩)
          · exact .inr h
        exact ⟨dxp, r, by rw [upd_ne npap]; exact e1, ⟨e2.parent.ts ts, e2.group.ts ts, e2.session.ts ts, dp_noL tq (noL_sg _) e2.mask, dp_noL tq (noL_sg _) e2.held, dp_noL tq (noL_hd _) e2.handlers, dp_noL tq (noL_pl _) e2.pile⟩⟩
      have h5pa : H5 pa = none := (u1.trans u2).free npa
      generalize upd G pp (.dT [([], V.ref pa)]) = H6 at oG hGa' hGp hPa ⊢
      clear gt1 gpp uG sG u1 u2 hpa hGa npa
      refine ⟨_, rfl, a, _, dx, _, rfl, hGa', Z.clH, no _ (by simp [houseF]), (show (2 : Nat) < 1000 by decide), ?_⟩
      refine set_fld hGa' (o5.trans oG) fun H7 h7 o7 w7 => ?_
      have hp7 := w7 _ _ nppa nppa hGp
      have hP7 := hPa.off w7 hGa' npaa
      -- fronts
      refine fun pf npf => ⟨Nat.zero_le _, fun t2 nt2 => ⟨Nat.zero_le _, fun t3 nt3 => ?_⟩⟩
      have u1 := same_upd (o := .dT []) npf
      have u2 := same_upd (o := .tup []) nt2
      have u3 := same_upd (o := .tup []) nt3
      have e2 := u3 _ _ (upd_same (H := upd H7 pf (.dT [])) (a := t2) (o := .tup []))
      have e3 := upd_same (H := upd (upd H7 pf (.dT [])) t2 (.tup [])) (a := t3) (o := .tup [])
      have ef := (u2.trans u3) _ _ (upd_same (H := H7) (a := pf) (o := .dT []))
      refine ⟨t2, [], rfl, e2, ef, ?_⟩
      have npfa : pf ≠ a := (ne_of_none h7 npf).symm
      have nfp : pf ≠ pp := (ne_of_none hp7 npf).symm
      have nt3f : t3 ≠ pf := ne_of e3 ef (fun z => nomatch z)
      have o8 : Off a a H7 (upd (upd (upd (upd H7 pf (.dT [])) t2 (.tup [])) t3 (.tup [])) pf (.dT [([], V.ref t3)])) := (Off.of (u1.trans (u2.trans u3))).mut npf
      have h8 := (upd_ne (H := upd (upd (upd H7 pf (.dT [])) t2 (.tup [])) t3 (.tup [])) (a := pf) (o := .dT [([], V.ref t3)]) npfa.symm).trans ((u1.trans (u2.trans u3)) _ _ h7)
      have hf8 : (upd (upd (upd (upd H7 pf (.dT [])) t2 (.tup [])) t3 (.tup [])) pf (.dT [([], V.ref t3)])) pf = some (.dT [([], V.ref t3)]) := upd_same
      have ht8 : (upd (upd (upd (upd H7 pf (.dT [])) t2 (.tup [])) t3 (.tup [])) pf (.dT [([], V.ref t3)])) t3 = some (.tup []) := by rw [upd_ne nt3f]; exact e3
      generalize upd (upd (upd (upd H7 pf (.dT [])) t2 (.tup [])) t3 (.tup [])) pf (.dT [([], V.ref t3)]) = H8 at o8 h8 hf8 ht8 ⊢
      clear u1 u2 u3 e2 e3 ef
      refine ⟨_, rfl, a, _, dx, _, rfl, h8, Z.clH, no _ (by simp [houseF]), (show (3 : Nat) < 1000 by decide), ?_⟩
      refine set_fld h8 (o7.trans o8) fun H9 h9 o9 w9 => ?_
      have nt3a : t3 ≠ a := ne_of ht8 h8 (fun z => nomatch z)
      have hf9 := w9 _ _ npfa npfa hf8
      have ht9 := w9 _ _ nt3a nt3a ht8
      have hp9 := w9 _ _ nppa nppa (o8 _ _ nppa nppa hp7)
      have hP9 := (hP7.off o8 h7 npaa).off w9 h8 npaa
      -- queues
      refine fun pq npq => ⟨Nat.zero_le _, fun t4 nt4 => ?_⟩
      have u1 := same_upd (o := .dT []) npq
      have u2 := same_upd (o := .tup []) nt4
      have e4 := upd_same (H := upd H9 pq (.dT [])) (a := t4) (o := .tup [])
      have eq := u2 _ _ (upd_same (H := H9) (a := pq) (o := .dT []))
      refine ⟨_, rfl, t4, [], rfl, e4, eq, ?_⟩
      have npqa : pq ≠ a := (ne_of_none h9 npq).symm
      have o10 : Off a a H9 (upd (upd (upd H9 pq (.dT [])) t4 (.tup [])) pq (.dT [([], tv)])) := (Off.of (u1.trans u2)).mut npq
      have h10 := (upd_ne (H := upd (upd H9 pq (.dT [])) t4 (.tup [])) (a := pq) (o := .dT [([], tv)]) npqa.symm).trans ((u1.trans u2) _ _ h9)
      have hq10 : (upd (upd (upd H9 pq (.dT [])) t4 (.tup [])) pq (.dT [([], tv)])) pq = some (.dT [([], tv)]) := upd_same
      generalize upd (upd (upd H9 pq (.dT [])) t4 (.tup [])) pq (.dT [([], tv)]) = H10 at o10 h10 hq10 ⊢
      clear u1 u2 e4 eq
      refine ⟨_, rfl, a, _, dx, _, rfl, h10, Z.clH, no _ (by simp [houseF]), (show (4 : Nat) < 1000 by decide), ?_⟩
      refine set_fld h10 (o9.trans o10) fun H11 h11 o11 w11 => ?_
      have ow := o10.trans w11
      have q3 := sqT_ins (K := K) o11 h3
      have nt3a9 : t3 ≠ a := nt3a
      obtain ⟨nb1, nb2⟩ := bk_noL hb1
      refine k ⟨dx, D, pp, pf, pq, .ref b, vs, [pa], [.ref t3], [tv]⟩ H11 ((Off.of st).trans o11) ⟨hD0, st.free (o5.none nppa nppa npp), st.free (o7.none npfa npfa npf), st.free (o9.none npqa npqa npq), fun x hx => ?_⟩ ?_
      · rw [List.mem_singleton.mp hx]
        exact st.free (o5.none npaa npaa h5pa)
      · exact {
          hh := h11
          bk := dp_noL q3 nb1 hbv3
          pr := o11 _ _ nDa nDa hd3
          prd := dpA_noL q3 nb2 hvs3
          pe := ow _ _ nppa nppa hp9
          ps := .cons ((hP9.off o10 h9 npaa).off w11 h10 npaa) .nil
          nd := by simp
          fr := ow _ _ npfa npfa hf9
          frd := .cons (⟨t3, rfl, ow _ _ nt3a9 nt3a9 ht9⟩ : NmAt H11 (.ref t3) []) .nil
          qu := w11 _ _ npqa npqa hq10
          qud := .cons (dp_noL q3 (noL_q typed) hq3) .nil }
end
end Kin
namespace Kin
open PySem PySem.Spec PyProof.Rows L2
def rkN (n : Nm) : Int := rk 1000000001 100 (nmI n)
theorem nm_ok {n : Nm} (h : nmOk n) : nameOk 1000000001 100 (nmI n) := by
  refine ⟨by unfold nmI; rw [List.length_map]; exact h.1, fun m hm => ?_⟩
  obtain ⟨k, hk, rfl⟩ := List.mem_map.mp hm
  have := h.2 k hk
  omega
theorem keys_list {H : Hp} : ∀ {ns : List Nm} {vs : List V} {bs : List Addr}, vs.length = ns.length → IsKeys H ((ns.map nmK).zip vs) bs → ∃ ks : List (Addr × Nm), bs = ks.map (·.1) ∧ ks.map (·.2) = ns ∧ ∀ p ∈ ks, H p.1 = some (.tup (nmV p.2))
  | [], [], _, _, h => by
    cases h
    exact ⟨[], rfl, rfl, fun p hp => by cases hp⟩
  | [], _ :: _, _, hl, _ => by cases hl
  | _ :: _, [], _, hl, _ => by cases hl
  | n :: ns, v :: vs, _, hl, h => by
    cases h with
    | @cons _ b _ bs h1 ht =>
      obtain ⟨ks, e1, e2, e3⟩ := keys_list (ns := ns) (vs := vs) (by simpa using hl) ht
      refine ⟨(b, n) :: ks, by rw [e1]; rfl, by rw [← e2]; rfl, fun p hp => ?_⟩
      rcases List.mem_cons.mp hp with rfl | q
      · have h1 : H b = some (.tup ((nmK n).map kV)) := h1
        rw [nmK_kV] at h1
        exact h1
      · exact e3 p q
theorem people_get {K : PySem.W.Frag} {H : Hp} {n : Nm} {p : Ps} : ∀ {as : List Addr} {l : List (Nm × Ps)}, Paired (fun a q => PersAt K H a q.2) as l → l.lookup n = some p → ∃ a, valV ((l.map fun q => nmK q.1).zip (as.map V.ref)) (nmK n) = some (.ref a) ∧ a ∈ as ∧ PersAt K H a p
  | _, _, .nil, h => by cases h
  | _, _, .cons (a := a) (b := q) (l₁ := as) (l₂ := l) h1 ht, h => by
    by_cases e : n = q.1
    · subst e
      rw [List.lookup_cons_self] at h
      cases h
      exact ⟨a, valV_pos rfl, List.mem_cons_self, h1⟩
    · rw [List.lookup_cons, show (n == q.1) = false from by simp [e]] at h
      obtain ⟨x, e1, e2, e3⟩ := people_get ht h
      exact ⟨x, (valV_neg (fun z => e (nmK_inj z).symm)).trans e1, List.mem_cons_of_mem _ e2, e3⟩
theorem fronts_get {H : Hp} {n : Nm} {g : Option Nm} : ∀ {vs : List V} {l : List (Nm × Option Nm)}, Paired (fun v q => ONm H v q.2) vs l → l.lookup n = some g → ∃ v, valV ((l.map fun q => nmK q.1).zip vs) (nmK n) = some v ∧ ONm H v g
  | _, _, .nil, h => by cases h
  | _, _, .cons (a := a) (b := q) (l₁ := vs) (l₂ := l) h1 ht, h => by
    by_cases e : n = q.1
    · subst e
      rw [List.lookup_cons_self] at h
      cases h
      exact ⟨a, valV_pos rfl, h1⟩
    · rw [List.lookup_cons, show (n == q.1) = false from by simp [e]] at h
      obtain ⟨x, e1, e2⟩ := fronts_get ht h
      exact ⟨x, (valV_neg (fun z => e (nmK_inj z).symm)).trans e1, e2⟩
theorem queues_get {K : PySem.W.Frag} {H : Hp} {n : Nm} {g : List Nat} : ∀ {vs : List V} {l : List (Nm × List Nat)}, DpAll K H vs (l.map fun p => qD p.2) → l.lookup n = some g → ∃ v, valV ((l.map fun q => nmK q.1).zip vs) (nmK n) = some v ∧ Dp K H v (qD g)
  | _, [], _, h => by cases h
  | _, q :: l, hd, h => by
    cases hd with
    | @cons a vs _ _ h1 ht =>
      by_cases e : n = q.1
      · subst e
        rw [List.lookup_cons_self] at h
        cases h
        exact ⟨a, valV_pos rfl, h1⟩
      · rw [List.lookup_cons, show (n == q.1) = false from by simp [e]] at h
        obtain ⟨x, e1, e2⟩ := queues_get ht h
        exact ⟨x, (valV_neg (fun z => e (nmK_inj z).symm)).trans e1, e2⟩
theorem paired_len {α β : Type} {R : α → β → Prop} {l : List α} {m : List β} (h : Paired R l m) : l.length = m.length := Paired.length h
/-- a rising list of names, each at its object -/
def Rising (H : Hp) (ns : List Nm) (ks : List (Addr × Nm)) : Prop := (ks.map (·.2)).Perm ns ∧ (ks.map (·.2)).Pairwise (fun a b => rkN a ≤ rkN b) ∧ ∀ p ∈ ks, H p.1 = some (.tup (nmV p.2))
def hFs (d : Hd) : List (Str × V) := [("book", d.vb), ("programs", .ref d.pd), ("people", .ref d.pp), ("fronts", .ref d.pf), ("queues", .ref d.pq)]
section
variable {P : Program} {w : World} {K : PySem.W.Frag} {mg : Str → Option Value} {base : Heap} {tL : Tok} {es : Array DictEntry} {nF : Nat}
def spNames (K : PySem.W.Frag) : Sp := fun vs H Q _ => ∃ (h : Addr) (S : Hs) (d : Hd), vs = [.ref h] ∧ HouseAt K H h S d ∧ (∀ p ∈ S.people, nmOk p.1) ∧ S.people.length < 64 ∧
  ∀ t ks H', Same H H' → H t = none → H' t = some (.tup (ks.map fun p => V.ref p.1)) → Rising H' (S.people.map (·.1)) ks → Q (.ref t) H'
def spSessions (K : PySem.W.Frag) : Sp := fun vs H Q _ => ∃ (h : Addr) (S : Hs) (d : Hd), vs = [.ref h] ∧ HouseAt K H h S d ∧ (∀ p ∈ S.fronts, nmOk p.1) ∧ S.fronts.length < 64 ∧
  ∀ t ks H', Same H H' → H t = none → H' t = some (.tup (ks.map fun p => V.ref p.1)) → Rising H' (S.fronts.map (·.1)) ks → Q (.ref t) H'
abbrev s_House_names : Stmt := clsS 51 2
theorem sc_House_names : FnScope [("self" : Str)] ["self"] (defScope s_House_names) := ⟨rfl, rfl, rfl, by decide +kernel, rfl, by decide +kernel, by decide +kernel⟩
theorem ok_House_names {f : Addr} {fd : FuncData} (F : FnC K "names" "House.names" s_House_names f fd) (T : Bi K w mg tL es nF) (Z : Cz K mg) : FnOk P w K mg base CX0 1 f fd ["self"] (spNames K) := by
  refine F.ok sc_House_names (fun vs H Q E h => ?_) (fun cdv A outer s H vs Q E hr h => ?_)
  · obtain ⟨h, S, d, rfl, _⟩ := h
    rfl
  · obtain ⟨h, S, d, rfl, hA, hok, h64, k⟩ := h
    refine ⟨_, PSs.nox (pss_one (ps_ret (pe_callTy call_tuple_of (by rfl) T.n_tuple boot_tuple (pa_cons (pe_callB (cr_sortedN (B := 1000000001) (L := 100) (by decide) hr.units) (by rfl) T.n_sorted boot_sorted (pa_cons (pe_callTy (call_list_dT rfl) (by rfl) T.n_list boot_list (pa_cons (pe_fld (pv 0) rfl) pa_nil)) pa_nil)) pa_nil)))), ?_⟩
    refine ⟨_, rfl, h, _, d.dh, _, _, rfl, hA.hh, Z.clH, Z.noH _ (by simp [houseF]), rfl, d.pp, _, rfl, .inl hA.pe, fun p bs np hk => ?_⟩
    have hl : (d.as.map V.ref).length = (S.people.map (·.1)).length := by rw [List.length_map, List.length_map]; exact paired_len hA.ps
    obtain ⟨ks, e1, e2, e3⟩ := keys_list (ns := S.people.map (·.1)) hl (by rw [List.map_map]; exact hk)
    have s1 := same_upd (o := .lst (bs.map V.ref)) np
    have hkl : ks.length = S.people.length := by have := congrArg List.length e2; rw [List.length_map, List.length_map] at this; exact this
    refine ⟨p, ks.map fun q => (q.1, nmI q.2), rfl, ?_, ?_, by rw [List.length_map, hkl]; exact h64, fun ks' q pm pw nq => ?_⟩
    · rw [List.map_map, e1, List.map_map]
      exact sqL_new
    · intro q hq
      obtain ⟨q0, hq0, rfl⟩ := List.mem_map.mp hq
      refine ⟨.inl (.inl (s1 _ _ (e3 q0 hq0))), nm_ok ?_⟩
      have : q0.2 ∈ S.people.map (·.1) := by rw [← e2]; exact List.mem_map.mpr ⟨q0, hq0, rfl⟩
      obtain ⟨z, hz, hz2⟩ := List.mem_map.mp this
      rw [← hz2]
      exact hok z hz
    · obtain ⟨ks2, pm2, em2⟩ := perm_lift pm
      subst em2
      have s2 := same_upd (o := .lst ((ks2.map fun q => (q.1, nmI q.2)).map fun p => V.ref p.1)) nq
      refine ⟨q, _, rfl, .inl ⟨sqL_new, fun t nt => ?_⟩⟩
      have s3 := same_upd (o := .tup ((ks2.map fun q => (q.1, nmI q.2)).map fun p => V.ref p.1)) nt
      refine k t ks2 _ (s1.trans (s2.trans s3)) ((s1.trans s2).free nt) ?_ ⟨?_, ?_, ?_⟩
      · rw [upd_same, List.map_map]
        rfl
      · rw [← e2]
        exact pm2.map _
      · rw [List.pairwise_map] at pw ⊢
        exact pw
      · intro z hz
        exact (s1.trans (s2.trans s3)) _ _ (e3 z (pm2.mem_iff.mp hz))
abbrev s_House_sessions : Stmt := clsS 51 6
theorem sc_House_sessions : FnScope [("self" : Str)] ["self"] (defScope s_House_sessions) := ⟨rfl, rfl, rfl, by decide +kernel, rfl, by decide +kernel, by decide +kernel⟩
theorem ok_House_sessions {f : Addr} {fd : FuncData} (F : FnC K "sessions" "House.sessions" s_House_sessions f fd) (T : Bi K w mg tL es nF) (Z : Cz K mg) : FnOk P w K mg base CX0 1 f fd ["self"] (spSessions K) := by
  refine F.ok sc_House_sessions (fun vs H Q E h => ?_) (fun cdv A outer s H vs Q E hr h => ?_)
  · obtain ⟨h, S, d, rfl, _⟩ := h
    rfl
  · obtain ⟨h, S, d, rfl, hA, hok, h64, k⟩ := h
    refine ⟨_, PSs.nox (pss_one (ps_ret (pe_callTy call_tuple_of (by rfl) T.n_tuple boot_tuple (pa_cons (pe_callB (cr_sortedN (B := 1000000001) (L := 100) (by decide) hr.units) (by rfl) T.n_sorted boot_sorted (pa_cons (pe_callTy (call_list_dT rfl) (by rfl) T.n_list boot_list (pa_cons (pe_fld (pv 0) rfl) pa_nil)) pa_nil)) pa_nil)))), ?_⟩
    refine ⟨_, rfl, h, _, d.dh, _, _, rfl, hA.hh, Z.clH, Z.noH _ (by simp [houseF]), rfl, d.pf, _, rfl, .inl hA.fr, fun p bs np hk => ?_⟩
    have hl : d.fvs.length = (S.fronts.map (·.1)).length := by rw [List.length_map]; exact paired_len hA.frd
    obtain ⟨ks, e1, e2, e3⟩ := keys_list (ns := S.fronts.map (·.1)) hl (by rw [List.map_map]; exact hk)
    have s1 := same_upd (o := .lst (bs.map V.ref)) np
    have hkl : ks.length = S.fronts.length := by have := congrArg List.length e2; rw [List.length_map, List.length_map] at this; exact this
    refine ⟨p, ks.map fun q => (q.1, nmI q.2), rfl, ?_, ?_, by rw [List.length_map, hkl]; exact h64, fun ks' q pm pw nq => ?_⟩
    · rw [List.map_map, e1, List.map_map]
      exact sqL_new
    · intro q hq
      obtain ⟨q0, hq0, rfl⟩ := List.mem_map.mp hq
      refine ⟨.inl (.inl (s1 _ _ (e3 q0 hq0))), nm_ok ?_⟩
      have : q0.2 ∈ S.fronts.map (·.1) := by rw [← e2]; exact List.mem_map.mpr ⟨q0, hq0, rfl⟩
      obtain ⟨z, hz, hz2⟩ := List.mem_map.mp this
      rw [← hz2]
      exact hok z hz
    · obtain ⟨ks2, pm2, em2⟩ := perm_lift pm
      subst em2
      have s2 := same_upd (o := .lst ((ks2.map fun q => (q.1, nmI q.2)).map fun p => V.ref p.1)) nq
      refine ⟨q, _, rfl, .inl ⟨sqL_new, fun t nt => ?_⟩⟩
      have s3 := same_upd (o := .tup ((ks2.map fun q => (q.1, nmI q.2)).map fun p => V.ref p.1)) nt
      refine k t ks2 _ (s1.trans (s2.trans s3)) ((s1.trans s2).free nt) ?_ ⟨?_, ?_, ?_⟩
      · rw [upd_same, List.map_map]
        rfl
      · rw [← e2]
        exact pm2.map _
      · rw [List.pairwise_map] at pw ⊢
        exact pw
      · intro z hz
        exact (s1.trans (s2.trans s3)) _ _ (e3 z (pm2.mem_iff.mp hz))
end
end Kin
namespace Kin
open PySem PySem.Spec PyProof.Rows L2
theorem nm_len {n : Nm} (h : nmOk n) : lenOk (nmD n) = true := by
  have h1 : ∀ l : List Int, lenAll (l.map PyData.int) = true := by
    intro l
    induction l with
    | nil => rw [List.map_nil, lenAll]
    | cons k r ih => rw [List.map_cons, lenAll, lenOk, ih]; rfl
  unfold nmD
  rw [lenOk, h1, List.length_map, decide_eq_true (show (nmI n).length ≤ 1000000 by unfold nmI; rw [List.length_map]; have := h.1; omega)]
  rfl
theorem dget_nm {H : Hp} {a : Addr} {kvs : List (List Key × V)} {v : V} {n : Nm} (e : H a = some (.dT kvs)) (h : NmAt H v n) : DGet H a v (valV kvs (nmK n)) := by
  obtain ⟨b, rfl, eb⟩ := h
  exact DGet.t e (by rw [nmK_kV]; exact eb)
theorem HouseAt.keep {K : PySem.W.Frag} {H H' : Hp} {h : Addr} {S : Hs} {d : Hd} (s : Same H H') (a : HouseAt K H h S d) : HouseAt K H' h S d where
  hh := s _ _ a.hh
  bk := dp_mono s a.bk
  pr := s _ _ a.pr
  prd := dpA_mono s a.prd
  pe := s _ _ a.pe
  ps := by
    have h := a.ps
    generalize S.people = l at h
    generalize d.as = as at h
    induction h with
    | nil => exact .nil
    | cons h1 _ ih => exact .cons (h1.same s) ih
  nd := a.nd
  fr := s _ _ a.fr
  frd := by
    have h := a.frd
    generalize S.fronts = l at h
    generalize d.fvs = as at h
    induction h with
    | nil => exact .nil
    | cons h1 _ ih => exact .cons (ONm.ts (.of s) h1) ih
  qu := s _ _ a.qu
  qud := dpA_mono s a.qud
section
variable {P : Program} {w : World} {K : PySem.W.Frag} {mg : Str → Option Value} {base : Heap} {tL : Tok} {es : Array DictEntry} {nF : Nat}
def spPerson (K : PySem.W.Frag) : Sp := fun vs H Q _ => ∃ (h : Addr) (S : Hs) (d : Hd) (v : V) (n : Nm) (p : Ps), vs = [.ref h, v] ∧ HouseAt K H h S d ∧ NmAt H v n ∧ nmOk n ∧ S.people.lookup n = some p ∧
  ∀ t vs' H', Same H H' → H t = none → H' t = some (.tup vs') → DpAll K H' vs' p.ds → Q (.ref t) H'
def spCheck (K : PySem.W.Frag) : Sp := fun vs H Q _ => ∃ (h : Addr) (S : Hs) (d : Hd) (v : V) (n : Nm) (g : Option Nm), vs = [.ref h, v] ∧ HouseAt K H h S d ∧ NmAt H v n ∧ nmOk n ∧ S.fronts.lookup n = some g ∧ ∀ H', Same H H' → Q .non H'
def spFront (K : PySem.W.Frag) : Sp := fun vs H Q _ => ∃ (h : Addr) (S : Hs) (d : Hd) (v : V) (n : Nm) (g : Option Nm), vs = [.ref h, v] ∧ HouseAt K H h S d ∧ NmAt H v n ∧ nmOk n ∧ S.fronts.lookup n = some g ∧ ∀ x H', Same H H' → ONm H' x g → Q x H'
def spTyped (K : PySem.W.Frag) : Sp := fun vs H Q _ => ∃ (h : Addr) (S : Hs) (d : Hd) (v : V) (n : Nm) (g : Option Nm) (q : List Nat), vs = [.ref h, v] ∧ HouseAt K H h S d ∧ NmAt H v n ∧ nmOk n ∧ S.fronts.lookup n = some g ∧ S.queues.lookup n = some q ∧ ∀ x H', Same H H' → Dp K H' x (qD q) → Q x H'
def spLen (K : PySem.W.Frag) : Sp := fun vs H Q _ => ∃ (h : Addr) (S : Hs) (d : Hd), vs = [.ref h] ∧ HouseAt K H h S d ∧ Q (.int (S.people.length : Nat)) H
abbrev s_House_person : Stmt := clsS 51 1
theorem sc_House_person : FnScope [("self" : Str), ("name" : Str)] ["self", "name"] (defScope s_House_person) := ⟨rfl, rfl, rfl, by decide +kernel, rfl, by decide +kernel, by decide +kernel⟩
theorem ok_House_person {f : Addr} {fd : FuncData} (F : FnC K "person" "House.person" s_House_person f fd) (T : Bi K w mg tL es nF) (Z : Cz K mg) (c_is_name : Cal P w K mg base "is_name" ["thing"] 3 (spDL K pName)) (c_things_of : Cal P w K mg base "things_of" ["person"] 1 (spThings K)) : FnOk P w K mg base CX0 4 f fd ["self", "name"] (spPerson K) := by
  refine F.ok sc_House_person (fun vs H Q E h => ?_) (fun cdv A outer s H vs Q E hr h => ?_)
  · obtain ⟨h, S, d, v, n, p, rfl, _⟩ := h
    rfl
  · obtain ⟨h, S, d, v, n, p, rfl, hA, hn, hno, hp, k⟩ := h
    refine ⟨_, PSs.nox (pss_cons (ps_if (PW.pt (pw_or (pt_not (pt_val (pe_cal c_is_name (hr.mono (by decide)) (by rfl) pass0 (pa_cons (pv 1) pa_nil)))) (pw_or1 (pt_cmp (pc_dnotin (hu_of hr) (pv 1) (pe_fld (pv 0) rfl)))))) (pss_one ps_vac) pss_nil) (pss_one (ps_ret (pe_cal c_things_of (hr.mono (by decide)) (by rfl) pass0 (pa_cons (pe_dget (hu_of hr) (pe_fld (pv 0) rfl) (pv 1) (fun _ _ => rfl)) pa_nil))))), ?_⟩
    refine ⟨_, rfl, v, _, rfl, hn.dp, nm_len hno, fun H1 s1 => ⟨_, rfl, ?_⟩⟩
    rw [pName_nm]
    have hA1 := hA.keep s1
    have hn1 := NmAt.ts (.of s1) hn
    obtain ⟨a, e1, e2, e3⟩ := people_get hA1.ps hp
    refine iteF ⟨_, rfl, _, rfl, h, _, d.dh, _, _, rfl, hA1.hh, Z.clH, Z.noH _ (by simp [houseF]), rfl, d.pp, _, rfl, dget_nm hA1.pe hn1, _, rfl, ?_⟩
    rw [e1]
    refine iteF ⟨_, rfl, h, _, d.dh, _, _, rfl, hA1.hh, Z.clH, Z.noH _ (by simp [houseF]), rfl, _, rfl, d.pp, .ref a, rfl, ?_, ?_⟩
    · rw [← e1]
      exact dget_nm hA1.pe hn1
    · exact ⟨a, p, rfl, e3, fun t vs' H' s' nt ht hd => k t vs' H' (s1.trans s') (s1.free nt) ht hd⟩
abbrev s_House_check_session : Stmt := clsS 51 5
theorem sc_House_check_session : FnScope [("self" : Str), ("session" : Str)] ["self", "session"] (defScope s_House_check_session) := ⟨rfl, rfl, rfl, by decide +kernel, rfl, by decide +kernel, by decide +kernel⟩
theorem ok_House_check_session {f : Addr} {fd : FuncData} (F : FnC K "check_session" "House.check_session" s_House_check_session f fd) (T : Bi K w mg tL es nF) (Z : Cz K mg) (c_is_name : Cal P w K mg base "is_name" ["thing"] 3 (spDL K pName)) : FnOk P w K mg base CX0 4 f fd ["self", "session"] (spCheck K) := by
  refine F.ok sc_House_check_session (fun vs H Q E h => ?_) (fun cdv A outer s H vs Q E hr h => ?_)
  · obtain ⟨h, S, d, v, n, g, rfl, _⟩ := h
    rfl
  · obtain ⟨h, S, d, v, n, g, rfl, hA, hn, hno, hp, k⟩ := h
    refine ⟨_, PSs.nox (pss_one (ps_if (PW.pt (pw_or (pt_not (pt_val (pe_cal c_is_name (hr.mono (by decide)) (by rfl) pass0 (pa_cons (pv 1) pa_nil)))) (pw_or1 (pt_cmp (pc_dnotin (hu_of hr) (pv 1) (pe_fld (pv 0) rfl)))))) (pss_one ps_vac) pss_nil)), ?_⟩
    refine ⟨_, rfl, v, _, rfl, hn.dp, nm_len hno, fun H1 s1 => ⟨_, rfl, ?_⟩⟩
    rw [pName_nm]
    have hA1 := hA.keep s1
    have hn1 := NmAt.ts (.of s1) hn
    obtain ⟨x, e1, e2⟩ := fronts_get hA1.frd hp
    refine iteF ⟨_, rfl, _, rfl, h, _, d.dh, _, _, rfl, hA1.hh, Z.clH, Z.noH _ (by simp [houseF]), rfl, d.pf, _, rfl, dget_nm hA1.fr hn1, _, rfl, ?_⟩
    rw [e1]
    exact iteF (k H1 s1)
abbrev s_House_front : Stmt := clsS 51 3
theorem sc_House_front : FnScope [("self" : Str), ("session" : Str)] ["self", "session"] (defScope s_House_front) := ⟨rfl, rfl, rfl, by decide +kernel, rfl, by decide +kernel, by decide +kernel⟩
theorem ok_House_front {f : Addr} {fd : FuncData} (F : FnC K "front" "House.front" s_House_front f fd) (T : Bi K w mg tL es nF) (Z : Cz K mg) (m_House_check_session : CalM P w K mg base (He.ga K "House") "check_session" ["self", "session"] 4 (spCheck K)) : FnOk P w K mg base CX0 5 f fd ["self", "session"] (spFront K) := by
  refine F.ok sc_House_front (fun vs H Q E h => ?_) (fun cdv A outer s H vs Q E hr h => ?_)
  · obtain ⟨h, S, d, v, n, g, rfl, _⟩ := h
    rfl
  · obtain ⟨h, S, d, v, n, g, rfl, hA, hn, hno, hp, k⟩ := h
    refine ⟨_, PSs.nox (pss_cons (ps_expr (pe_calM m_House_check_session (hr.mono (by decide)) pass0 (pv 0) (pa_cons (pv 1) pa_nil))) (pss_one (ps_ret (pe_dget (hu_of hr) (pe_fld (pv 0) rfl) (pv 1) (fun _ _ => rfl))))), ?_⟩
    refine ⟨_, rfl, h, d.dh, _, rfl, hA.hh, rfl, _, rfl, h, S, d, v, n, g, rfl, hA, hn, hno, hp, fun H1 s1 => ?_⟩
    have hA1 := hA.keep s1
    have hn1 := NmAt.ts (.of s1) hn
    obtain ⟨x, e1, e2⟩ := fronts_get hA1.frd hp
    refine ⟨_, rfl, h, _, d.dh, _, _, rfl, hA1.hh, Z.clH, Z.noH _ (by simp [houseF]), rfl, _, rfl, d.pf, x, rfl, ?_, k x H1 s1 e2⟩
    rw [← e1]
    exact dget_nm hA1.fr hn1
abbrev s_House_typed : Stmt := clsS 51 4
theorem sc_House_typed : FnScope [("self" : Str), ("session" : Str)] ["self", "session"] (defScope s_House_typed) := ⟨rfl, rfl, rfl, by decide +kernel, rfl, by decide +kernel, by decide +kernel⟩
theorem ok_House_typed {f : Addr} {fd : FuncData} (F : FnC K "typed" "House.typed" s_House_typed f fd) (T : Bi K w mg tL es nF) (Z : Cz K mg) (m_House_check_session : CalM P w K mg base (He.ga K "House") "check_session" ["self", "session"] 4 (spCheck K)) : FnOk P w K mg base CX0 5 f fd ["self", "session"] (spTyped K) := by
  refine F.ok sc_House_typed (fun vs H Q E h => ?_) (fun cdv A outer s H vs Q E hr h => ?_)
  · obtain ⟨h, S, d, v, n, g, q, rfl, _⟩ := h
    rfl
  · obtain ⟨h, S, d, v, n, g, q, rfl, hA, hn, hno, hp, hq, k⟩ := h
    refine ⟨_, PSs.nox (pss_cons (ps_expr (pe_calM m_House_check_session (hr.mono (by decide)) pass0 (pv 0) (pa_cons (pv 1) pa_nil))) (pss_one (ps_ret (pe_dget (hu_of hr) (pe_fld (pv 0) rfl) (pv 1) (fun _ _ => rfl))))), ?_⟩
    refine ⟨_, rfl, h, d.dh, _, rfl, hA.hh, rfl, _, rfl, h, S, d, v, n, g, rfl, hA, hn, hno, hp, fun H1 s1 => ?_⟩
    have hA1 := hA.keep s1
    have hn1 := NmAt.ts (.of s1) hn
    obtain ⟨x, e1, e2⟩ := queues_get hA1.qud hq
    refine ⟨_, rfl, h, _, d.dh, _, _, rfl, hA1.hh, Z.clH, Z.noH _ (by simp [houseF]), rfl, _, rfl, d.pq, x, rfl, ?_, k x H1 s1 e2⟩
    rw [← e1]
    exact dget_nm hA1.qu hn1
abbrev s_House___len__ : Stmt := clsS 51 10
theorem sc_House___len__ : FnScope [("self" : Str)] ["self"] (defScope s_House___len__) := ⟨rfl, rfl, rfl, by decide +kernel, rfl, by decide +kernel, by decide +kernel⟩
theorem ok_House___len__ {f : Addr} {fd : FuncData} (F : FnC K "__len__" "House.__len__" s_House___len__ f fd) (T : Bi K w mg tL es nF) (Z : Cz K mg) : FnOk P w K mg base CX0 1 f fd ["self"] (spLen K) := by
  refine F.ok sc_House___len__ (fun vs H Q E h => ?_) (fun cdv A outer s H vs Q E hr h => ?_)
  · obtain ⟨h, S, d, rfl, _⟩ := h
    rfl
  · obtain ⟨h, S, d, rfl, hA, k⟩ := h
    refine ⟨_, PSs.nox (pss_one (ps_ret (pe_callB call_len_dT (by rfl) T.n_len PySem.boot_len (pa_cons (pe_fld (pv 0) rfl) pa_nil)))), ?_⟩
    refine ⟨_, rfl, h, _, d.dh, _, _, rfl, hA.hh, Z.clH, Z.noH _ (by simp [houseF]), rfl, d.pp, _, rfl, hA.pe, ?_⟩
    have e : ((S.people.map fun p => nmK p.1).zip (d.as.map V.ref)).length = S.people.length := by
      rw [List.length_zip, List.length_map, List.length_map, paired_len hA.ps, Nat.min_self]
    rw [e]
    exact k
end
end Kin
namespace Kin
open PySem PySem.Spec PyProof.Rows L2
section
variable {P : Program} {w : World} {K : PySem.W.Frag} {mg : Str → Option Value} {base : Heap} {tL : Tok} {es : Array DictEntry} {nF : Nat}
theorem boot_abs : bootBuiltins "abs" = some (.builtin "abs") := by decide +kernel
abbrev s__law_box : Stmt := topS 53
theorem sc__law_box : FnScope [("_law_script" : Str), ("_law_k" : Str), ("_law_cell" : Str), ("_law_mixed" : Str)] ["_law_script", "_law_k"] (defScope s__law_box) := ⟨rfl, rfl, rfl, by decide +kernel, rfl, by decide +kernel, by decide +kernel⟩
theorem ok__law_box {f : Addr} {fd : FuncData} (F : FnP K "_law_box" s__law_box f fd) (T : Bi K w mg tL es nF) (hab : mg "abs" = none) : FnOk P w K mg base CX0 1 f fd ["_law_script", "_law_k"] (spBox K) := by
  refine F.ok sc__law_box (fun vs H Q E h => ?_) (fun cdv A outer s H vs Q E hr h => ?_)
  · obtain ⟨a, ns, k, rfl, _⟩ := h
    rfl
  · obtain ⟨a, ns, k, rfl, ha, hk0, hk1, q⟩ := h
    refine ⟨_, PSs.nox (Evl.pss_cut (ps_set (i := 2) sc__law_box.nd rfl (by first | exact .inl rfl | exact .inr rfl) (pe_ifExp (pt_cmpR op_lt (pv 1) (pe_callB call_len_seq (by rfl) T.n_len PySem.boot_len (pa_cons (pv 0) pa_nil)) (nomark _)) (pe_ix ix_list (pv 0) (pv 1) (fun _ _ => rfl)) pe_int)) (pss_cons (ps_set (i := 3) sc__law_box.nd rfl (by first | exact .inl rfl | exact .inr rfl) (pe_op op_mod (pe_op op_mul (pe_op op_add (pe_op op_add (pe_op op_mod (pv 2) pe_int) (pe_op op_mul (pe_op op_mul pe_int (pv 1)) (pv 1))) pe_int) pe_int) pe_int)) (pss_one (ps_ret (pe_lst (pa_cons (pe_ifExp (pt_cmpR op_ge (pe_callB call_abs (by rfl) hab boot_abs (pa_cons (pv 2) pa_nil)) (pe_op op_pow pe_int pe_int) (nomark _)) (pe_callB call_abs (by rfl) hab boot_abs (pa_cons (pv 2) pa_nil)) pe_int) (pa_cons (pv 3) (pa_cons pe_int pa_nil)))))))), ?_⟩
    refine ⟨fun σ H' => ∃ c : Int, σ = [some (.ref a), some (.int k), some (.int c), none] ∧ H' = H, ?_, ?_⟩
    · refine ⟨_, rfl, _, rfl, a, _, rfl, .inl ha, _, _, rfl, rfl, _, rfl, ?_⟩
      refine ite2 (fun hk => ?_) (fun hk => ⟨0, rfl, rfl⟩)
      have hk := of_decide_eq_true hk
      rw [List.length_map] at hk
      have hl : k.toNat < ns.length := by omega
      obtain ⟨c, hc⟩ : ∃ c, ns[k.toNat]? = some c := ⟨_, List.getElem?_eq_getElem hl⟩
      refine ⟨_, rfl, _, rfl, a, _, k, .int c, rfl, rfl, ha, ?_, ⟨_, rfl, rfl⟩⟩
      have e : k = ((k.toNat : Nat) : Int) := by omega
      rw [e]
      exact atI_nat (by rw [List.getElem?_map, hc]; rfl)
    · rintro σ H' ⟨c, rfl, rfl⟩
      refine ⟨_, rfl, _, _, rfl, rfl, (by show (0 : Int) < 2305843009213693951; decide), _, rfl, _, _, rfl, rfl, .inl ⟨by decide, by decide⟩, _, rfl, _, _, rfl, rfl, .inr ⟨by omega, by omega⟩, _, _, rfl, rfl, _, _, rfl, rfl, _, _, rfl, rfl, .inr ⟨by decide, by decide⟩, _, _, rfl, rfl, (by show (0 : Int) < 2305843009213693921; decide), ?_⟩
      refine ⟨_, rfl, c, rfl, _, _, rfl, rfl, ⟨by decide, by decide, by decide⟩, _, _, rfl, rfl, _, rfl, ?_⟩
      have fin : ∀ b0 : Int, 0 ≤ b0 → ∀ p, H' p = none → Q (.ref p) (upd H' p (.lst [.int b0, .int ((c % 2305843009213693951 + 7919 * k * k + 3) * 48271 % 2305843009213693921), .int 0])) := by
        intro b0 hb p hp
        exact q p _ (same_upd hp) hp ⟨b0, _, 0, upd_same, hb, Int.emod_nonneg _ (by decide), Int.lt_trans (Int.emod_lt_of_pos _ (by decide)) (by decide), by decide, by decide⟩
      refine ite2 (fun hc => ?_) (fun hc => ?_)
      · refine ⟨_, rfl, c, rfl, _, rfl, (by show 3 ≤ sizeLine; decide), fun p hp => fin _ ?_ p hp⟩
        split <;> omega
      · exact ⟨_, rfl, (by show 3 ≤ sizeLine; decide), fun p hp => fin 0 (by decide) p hp⟩
abbrev s__law_take : Stmt := topS 54
theorem sc__law_take : FnScope [("_law_box_here" : Str), ("_law_many" : Str), ("_law_digit" : Str), ("_law_mixed" : Str)] ["_law_box_here", "_law_many"] (defScope s__law_take) := ⟨rfl, rfl, rfl, by decide +kernel, rfl, by decide +kernel, by decide +kernel⟩
theorem ok__law_take {f : Addr} {fd : FuncData} (F : FnP K "_law_take" s__law_take f fd) (T : Bi K w mg tL es nF) : FnOk P w K mg base CX0 1 f fd ["_law_box_here", "_law_many"] spTake := by
  refine F.ok sc__law_take (fun vs H Q E h => ?_) (fun cdv A outer s H vs Q E hr h => ?_)
  · obtain ⟨x, n, many, rfl, _⟩ := h
    rfl
  · obtain ⟨x, n, many, rfl, ⟨b0, b1, b2, hx, h0, h1, h2, h3, h4⟩, hn, hm0, hm1, k⟩ := h
    refine ⟨_, PSs.nox (pss_cons (ps_if (pt_cmpR op_gt (pe_ix ix_list (pv 0) pe_int (fun _ _ => rfl)) pe_int (nomark _)) (pss_cons (ps_set (i := 2) sc__law_take.nd rfl (by first | exact .inl rfl | exact .inr rfl) (pe_op op_mod (pe_ix ix_list (pv 0) pe_int (fun _ _ => rfl)) (pv 1))) (pss_cons (ps_asg (pe_op op_fdiv (pe_ix ix_list (pv 0) pe_int (fun _ _ => rfl)) (pv 1)) (pg_sub (pv 0) pe_int set_list)) (pss_one (ps_ret (pv 2))))) pss_nil) (pss_cons (ps_asg (pe_op op_add (pe_ix ix_list (pv 0) pe_int (fun _ _ => rfl)) pe_int) (pg_sub (pv 0) pe_int set_list)) (pss_cons (ps_set (i := 3) sc__law_take.nd rfl (by first | exact .inl rfl | exact .inr rfl) (pe_op op_mod (pe_op op_mul (pe_op op_add (pe_op op_add (pe_ix ix_list (pv 0) pe_int (fun _ _ => rfl)) (pe_op op_mul (pe_op op_mul pe_int (pe_ix ix_list (pv 0) pe_int (fun _ _ => rfl))) (pe_ix ix_list (pv 0) pe_int (fun _ _ => rfl)))) pe_int) pe_int) pe_int)) (pss_cons (ps_set (i := 3) sc__law_take.nd rfl (by first | exact .inl rfl | exact .inr rfl) (pe_op op_mod (pe_op op_mul (pv 3) (pe_op op_add (pe_op op_mod (pv 3) pe_int) (pe_op op_mul pe_int (pe_ix ix_list (pv 0) pe_int (fun _ _ => rfl))))) pe_int)) (pss_one (ps_ret (pe_op op_mod (pe_op op_add (pe_op op_fdiv (pv 3) pe_int) (pe_op op_fdiv (pv 3) pe_int)) (pv 1)))))))), ?_⟩
    refine ⟨_, rfl, x, _, 0, _, rfl, rfl, .inl (.inl hx), rfl, _, _, rfl, rfl, _, rfl, ?_⟩
    refine ite2 (fun hb => ?_) (fun hb => ?_)
    · refine ⟨_, rfl, x, _, 0, _, rfl, rfl, .inl (.inl hx), rfl, _, rfl, _, _, rfl, rfl, hm0, ?_⟩
      refine ⟨_, rfl, x, _, 0, _, rfl, rfl, .inl (.inl hx), rfl, _, rfl, _, _, rfl, rfl, ⟨hm0, by omega⟩, _, rfl, x, _, 0, 0, rfl, rfl, hx, rfl, _, rfl, ?_⟩
      refine k _ _ (Int.emod_nonneg _ (by omega)) (Int.emod_lt_of_pos _ hm0) ⟨b0 / many, b1, b2, upd_same, Int.ediv_nonneg h0 (by omega), h1, h2, h3, by omega⟩ ?_
      intro b o e1 _ e
      rw [upd_ne e1]
      exact e
    · refine ⟨_, rfl, x, _, 2, _, rfl, rfl, .inl (.inl hx), rfl, _, _, rfl, rfl, _, rfl, x, _, 2, 2, rfl, rfl, hx, rfl, ?_⟩
      have hx1 := upd_same (H := H) (a := x) (o := .lst ([V.int b0, V.int b1, V.int b2].set 2 (V.int (b2 + 1))))
      have f1 : Off x x H (upd H x (.lst ([V.int b0, V.int b1, V.int b2].set 2 (V.int (b2 + 1))))) := fun b o e1 _ e => by
        rw [upd_ne e1]
        exact e
      generalize upd H x (.lst ([V.int b0, V.int b1, V.int b2].set 2 (V.int (b2 + 1)))) = H1 at hx1 f1 ⊢
      have hx1 : H1 x = some (.lst [.int b0, .int b1, .int (b2 + 1)]) := hx1
      refine ⟨_, rfl, x, _, 1, _, rfl, rfl, .inl (.inl hx1), rfl, ?_⟩
      refine ⟨_, rfl, x, _, 2, _, rfl, rfl, .inl (.inl hx1), rfl, _, _, rfl, rfl, .inl ⟨by decide, by decide⟩, ?_⟩
      refine ⟨_, rfl, x, _, 2, _, rfl, rfl, .inl (.inl hx1), rfl, _, _, rfl, rfl, .inr ⟨by omega, by omega⟩, _, _, rfl, rfl, _, _, rfl, rfl, _, _, rfl, rfl, .inr ⟨by decide, by decide⟩, _, _, rfl, rfl, (by show (0 : Int) < 2305843009213693921; decide), ?_⟩
      generalize (b1 + 65537 * (b2 + 1) * (b2 + 1) + 11) * 48271 = mx
      have m0 := Int.emod_nonneg mx (show (2305843009213693921 : Int) ≠ 0 by decide)
      have m1 := Int.emod_lt_of_pos mx (show (0 : Int) < 2305843009213693921 by decide)
      generalize mx % 2305843009213693921 = my at m0 m1 ⊢
      refine ⟨_, rfl, _, rfl, _, _, rfl, rfl, (by show (0 : Int) < 1000003; decide), ?_⟩
      refine ⟨_, rfl, x, _, 2, _, rfl, rfl, .inl (.inl hx1), rfl, _, _, rfl, rfl, .inl ⟨by decide, by decide⟩, _, _, rfl, rfl, _, _, rfl, rfl, .inl ⟨by omega, by omega⟩, _, _, rfl, rfl, (by show (0 : Int) < 2305843009213693907; decide), ?_⟩
      refine ⟨_, rfl, _, _, rfl, rfl, ⟨by decide, by decide⟩, _, rfl, _, _, rfl, rfl, ⟨by decide, by decide⟩, _, _, rfl, rfl, _, rfl, _, _, rfl, rfl, hm0, ?_⟩
      exact k _ _ (Int.emod_nonneg _ (by omega)) (Int.emod_lt_of_pos _ hm0) ⟨b0, b1, b2 + 1, hx1, h0, h1, h2, by omega, by omega⟩ f1
end
end Kin
namespace Kin
open PySem PySem.Spec PyProof.Rows L2
def spOrder : Sp := fun vs H Q _ => vs = [] ∧ ∀ p H', Same H H' → H p = none → H' p = some (.lst (sig9.map V.str)) → Q (.ref p) H'
def spFew : Sp := fun vs H Q _ => ∃ (x : Addr) (n : Nat), vs = [.ref x] ∧ Box n x H ∧ n ≤ 2000000 ∧ ∀ p (ss : List Str) H', ss.Sublist sig7 → H p = none → Box (n + 7) x H' → Off x x H H' → H' p = some (.tup (ss.map V.str)) → Q (.ref p) H'
section
variable {P : Program} {w : World} {K : PySem.W.Frag} {mg : Str → Option Value} {base : Heap} {tL : Tok} {es : Array DictEntry} {nF : Nat}
abbrev s__law_order : Stmt := topS 55
theorem sc__law_order : FnScope [] [] (defScope s__law_order) := ⟨rfl, rfl, rfl, by decide +kernel, rfl, by decide +kernel, by decide +kernel⟩
theorem ok__law_order {f : Addr} {fd : FuncData} (F : FnP K "_law_order" s__law_order f fd) (T : Bi K w mg tL es nF) : FnOk P w K mg base CX0 1 f fd [] spOrder := by
  refine F.ok sc__law_order (fun vs H Q E h => ?_) (fun cdv A outer s H vs Q E hr h => ?_)
  · obtain ⟨rfl, _⟩ := h
    rfl
  · obtain ⟨rfl, k⟩ := h
    refine ⟨_, PSs.nox (pss_one (ps_ret (pe_lst (pa_cons pe_str (pa_cons pe_str (pa_cons pe_str (pa_cons pe_str (pa_cons pe_str (pa_cons pe_str (pa_cons pe_str (pa_cons pe_str (pa_cons pe_str pa_nil)))))))))))), ?_⟩
    exact ⟨(by show 9 ≤ sizeLine; decide), fun p hp => k p _ (same_upd hp) hp upd_same⟩
abbrev s__law_few : Stmt := topS 56
theorem sc__law_few : FnScope [("_law_box_here" : Str), ("_law_signal" : Str)] ["_law_box_here"] (defScope s__law_few) := ⟨rfl, rfl, rfl, by decide +kernel, rfl, by decide +kernel, by decide +kernel⟩
theorem ok__law_few {f : Addr} {fd : FuncData} (F : FnP K "_law_few" s__law_few f fd) (T : Bi K w mg tL es nF) (c__law_take : Cal P w K mg base "_law_take" ["_law_box_here", "_law_many"] 1 spTake) (c__law_order : Cal P w K mg base "_law_order" [] 1 spOrder) : FnOk P w K mg base CX0 2 f fd ["_law_box_here"] spFew := by
  refine F.ok sc__law_few (fun vs H Q E h => ?_) (fun cdv A outer s H vs Q E hr h => ?_)
  · obtain ⟨x, n, rfl, _⟩ := h
    rfl
  · obtain ⟨x, n, rfl, hb, hn, k⟩ := h
    refine ⟨_, PSs.nox (pss_one (ps_ret (pe_callTy call_tuple_of (by rfl) T.n_tuple boot_tuple (pa_cons (pe_lc (own := [(("_law_signal" : Str), 1)]) (g := gName 1) rfl sc__law_few.nd (pi_list (pe_slice sl_list (pe_cal0 c__law_order (hr.mono (by decide)) (by rfl) pass0) (po_some pe_int) po_none)) (blkOk_by (N := [("_law_box_here" : Str), ("_law_signal" : Str)]) (sc := defScope s__law_few) (by decide +kernel)) (fun _ _ _ _ _ => by exact (pg_name (i := 1) sc__law_few.nd rfl (by first | exact .inl rfl | exact .inr rfl))) (fun _ _ _ _ _ => pts_one (pt_cmpR op_eq (pe_cal c__law_take (hr.mono (by decide)) (by rfl) pass0 (pa_cons (pv 0) (pa_cons pe_int pa_nil))) pe_int (nomark _))) (fun _ _ _ _ _ => (pv 1))) pa_nil)))), ?_⟩
    refine ⟨rfl, fun r H0 s0 hr0 hr1 => ?_⟩
    refine ⟨_, rfl, r, _, rfl, .inl (.inl hr1), fun p hp => ?_⟩
    have e7 : cutV (sig9.map V.str) (some 2) none = sig7.map V.str := rfl
    have s1 : Same H (upd H0 p (.lst (cutV (sig9.map V.str) (some 2) none))) := s0.trans (same_upd hp)
    have hp1 : (upd H0 p (.lst (cutV (sig9.map V.str) (some 2) none))) p = some (.lst (sig7.map V.str)) := by rw [upd_same, e7]
    generalize upd H0 p (.lst (cutV (sig9.map V.str) (some 2) none)) = H1 at s1 hp1 ⊢
    have hb1 := hb.same s1
    have npx : p ≠ x := (hb.same s0).nx hp
    refine ⟨p, rfl, ⟨_, .inl (.inl hp1)⟩, fun D hD => ?_⟩
    have nDx := hb1.nx hD
    have nDp : D ≠ p := (ne_of_none hp1 hD).symm
    refine lc_it (walk_list (K := K) (a := p) (xs := sig7.map V.str)) (fun i H' => Box (n + i) x H' ∧ Off x x H1 H' ∧ H' p = some (.lst (sig7.map V.str)) ∧ ∃ ss : List Str, H' D = some (.lst (ss.map V.str)) ∧ ss.Sublist (sig7.take i)) ?_ (fun i H' _ h => .inl (.inl h.2.2.1)) ?_ ?_
    · exact ⟨hb1.same (same_upd hD), Off.of (same_upd hD), (same_upd hD) _ _ hp1, [], upd_same, .slnil⟩
    · rintro i v H' H'' hi ⟨h1, h2, h3, ss, h4, h5⟩ ⟨rfl, hv⟩
      rw [List.length_map] at hi
      rw [List.getElem?_map, List.getElem?_eq_getElem hi] at hv
      cases Option.some.inj hv
      have hi7 : i < 7 := hi
      have hsl : ss.length ≤ 7 := Nat.le_trans h5.length_le (by rw [List.length_take]; exact Nat.min_le_right _ _)
      have ht : sig7.take (i + 1) = sig7.take i ++ [sig7[i]] := by
        rw [List.take_add_one, List.getElem?_eq_getElem hi]
        rfl
      refine ⟨rfl, _, rfl, x, n + i, _, rfl, h1, by omega, by decide, by decide, fun c2 H2 _ _ hh2 f2 => ⟨rfl, _, rfl, ?_⟩⟩
      have hD2 := f2 D _ nDx nDx h4
      have hp2 := f2 p _ npx npx h3
      refine ite2 (fun e => ?_) (fun e => ?_)
      · refine ⟨_, rfl, _, hD2, ?_, hh2.mut nDx, ?_, ?_, ss ++ [sig7[i]], ?_, ?_⟩
        · rw [List.length_map]
          exact Nat.lt_of_le_of_lt hsl (by decide)
        · intro b o hb1 hb2 hb
          rw [upd_ne (ne_of_none hb hD)]
          exact f2 b o hb1 hb2 (h2 b o hb1 hb2 hb)
        · rw [upd_ne nDp.symm]
          exact hp2
        · rw [upd_same, List.map_append]
          rfl
        · rw [ht]
          exact h5.append (List.Sublist.refl _)
      · refine ⟨hh2, h2.trans f2, hp2, ss, hD2, ?_⟩
        rw [ht]
        exact h5.trans (List.sublist_append_left _ _)
    · rintro H2 ⟨h1, h2, h3, ss, h4, h5⟩
      refine ⟨D, _, rfl, .inl ⟨.inl (.inl h4), fun q hq => ?_⟩⟩
      rw [List.length_map, List.take_of_length_le (Nat.le_refl _)] at h5
      have fA : Off x x H H2 := (Off.of s1).trans h2
      have nqx := h1.nx hq
      exact k q ss _ h5 (fA.none nqx nqx hq) (h1.same (same_upd hq)) (fA.trans (Off.of (same_upd hq))) upd_same
end
end Kin
namespace Kin
open PySem PySem.Spec PyProof.Rows L2
theorem whichP {c : Int} (h : 0 ≤ c) (n : Int) : pPart "which" (.int c) n = true := by
  rw [pp_which, if_pos (show pNat (.int c) = true from decide_eq_true h)]
theorem whoP {c : Int} (h : 0 ≤ c) (n : Int) : pPart "who" (.int c) n = true := by
  rw [pp_who, if_pos (show pNat (.int c) = true from decide_eq_true h)]
theorem toP {c : Int} (h : 0 ≤ c) (n : Int) : pPart "to" (.int c) n = true := by
  rw [pp_to, if_pos (show pNat (.int c) = true from decide_eq_true h)]
theorem rowP {c n : Int} (h : 0 ≤ c) (h1 : c < n) : pPart "row" (.int c) n = true := by
  rw [pp_row]
  show (decide (0 ≤ c) && decide (c < n)) = true
  rw [decide_eq_true h, decide_eq_true h1]
  rfl
theorem smallP {c : Int} (h : 0 ≤ c) (h1 : c ≤ 99) (n : Int) : pPart "small" (.int c) n = true := by
  rw [pp_small]
  show (decide (0 ≤ c) && decide (c ≤ 99)) = true
  rw [decide_eq_true h, decide_eq_true h1]
  rfl
/-- a row drawn from a box -/
def RowK (K : PySem.W.Frag) (x : Addr) (n : Nat) (size : Int) (H : Hp) (Q : VK) : Prop := ∀ r d H', Box (n + 16) x H' → Off x x H H' → Dp K (off x x H') r d → rowOk d → pRow d size = true → Q r H'
theorem RowK.fin {K : PySem.W.Frag} {x : Addr} {n : Nat} {size : Int} {H : Hp} {Q : VK} (k : RowK K x n size H Q) {m : Nat} {G : Hp} (hm : m ≤ n + 16) (hb : Box m x G) (f : Off x x H G) {xs : List V} {ds : List PyData} (hd : DpAll K (off x x G) xs ds) (hn : ds.all nice = true) (hl : ds.length ≤ 1000) (hp : pRow (.tuple ds) size = true) {t : Addr} (ht : G t = none) : Q (.ref t) (upd G t (.tup xs)) :=
  k _ _ _ ((hb.same (same_upd ht)).mono hm) (f.trans (Off.of (same_upd ht))) (.tup (.inl (.inl (box_off hb ht))) (dpA_mono (Off.of (same_upd ht)).same hd)) (rowOk_of hn hl) hp
theorem atI_l {α : Type} {xs : List α} {k : Int} (h0 : 0 ≤ k) (h1 : k < (xs.length : Int)) : ∃ v, atI xs k = some v ∧ v ∈ xs := by
  unfold atI ixN
  rw [if_pos h0, if_pos h1]
  have hl : k.toNat < xs.length := by omega
  exact ⟨xs[k.toNat], by show xs[k.toNat]? = _; rw [List.getElem?_eq_getElem hl], List.getElem_mem hl⟩
/-- the titles of a book -/
def tits (ts : List Str) : Prop := ts.length ≤ 3 ∧ ∀ z ∈ ts, z ∈ (["a", "b", "zzzzzzzz"] : List Str)
theorem tit_ok {z : Str} (h : z ∈ (["a", "b", "zzzzzzzz", "zz"] : List Str)) (n : Int) : nice (.str z) = true ∧ pPart "title" (.str z) n = true := by
  have h1 : ∀ z ∈ (["a", "b", "zzzzzzzz", "zz"] : List Str), nice (.str z) = true ∧ pTitle (.str z) = true := by decide +kernel
  rw [pp_title]
  exact h1 z h
section
variable {P : Program} {w : World} {K : PySem.W.Frag} {mg : Str → Option Value} {base : Heap} {tL : Tok} {es : Array DictEntry} {nF : Nat}
def spKinRow (K : PySem.W.Frag) : Sp := fun vs H Q _ => ∃ (x t : Addr) (n : Nat) (size : Int) (ts : List Str), vs = [.ref x, .int size, .ref t] ∧ Box n x H ∧ n ≤ 1000000 ∧ 0 < size ∧ size ≤ 1000 ∧ t ≠ x ∧ H t = some (.lst (ts.map V.str)) ∧ tits ts ∧ RowK K x n size H Q
def spSigRow (K : PySem.W.Frag) : Sp := fun vs H Q _ => ∃ (x : Addr) (n : Nat) (size : Int), vs = [.ref x, .int size] ∧ Box n x H ∧ n ≤ 1000000 ∧ 0 < size ∧ size ≤ 1000 ∧ RowK K x n size H Q
def spGrpRow (K : PySem.W.Frag) : Sp := fun vs H Q _ => ∃ (x : Addr) (n : Nat) (size : Int), vs = [.ref x] ∧ Box n x H ∧ n ≤ 1000000 ∧ 0 < size ∧ size ≤ 1000 ∧ RowK K x n size H Q
abbrev s__law_kin_row : Stmt := topS 57
theorem sc__law_kin_row : FnScope [("_law_box_here" : Str), ("_law_size" : Str), ("_law_titles" : Str), ("_law_way" : Str), ("_law_k" : Str), ("_law_at" : Str)] ["_law_box_here", "_law_size", "_law_titles"] (defScope s__law_kin_row) := ⟨rfl, rfl, rfl, by decide +kernel, rfl, by decide +kernel, by decide +kernel⟩
theorem ok__law_kin_row {f : Addr} {fd : FuncData} (F : FnP K "_law_kin_row" s__law_kin_row f fd) (T : Bi K w mg tL es nF) (c__law_take : Cal P w K mg base "_law_take" ["_law_box_here", "_law_many"] 1 spTake) : FnOk P w K mg base CX0 2 f fd ["_law_box_here", "_law_size", "_law_titles"] (spKinRow K) := by
  refine F.ok sc__law_kin_row (fun vs H Q E h => ?_) (fun cdv A outer s H vs Q E hr h => ?_)
  · obtain ⟨x, t, n, size, ts, rfl, _⟩ := h
    rfl
  · obtain ⟨x, t, n, size, ts, rfl, hb, hn, hs0, hs1, htx, ht, hts, k⟩ := h
    refine ⟨_, PSs.nox (pss_cons (ps_par3 (i := 3) (j := 4) (l := 5) rfl sc__law_kin_row.nd rfl rfl rfl (by decide) (by decide) (by decide) rfl rfl rfl (pa_cons (pe_cal c__law_take (hr.mono (by decide)) (by rfl) pass0 (pa_cons (pv 0) (pa_cons pe_int pa_nil))) (pa_cons (pe_cal c__law_take (hr.mono (by decide)) (by rfl) pass0 (pa_cons (pv 0) (pa_cons pe_int pa_nil))) (pa_cons (pe_cal c__law_take (hr.mono (by decide)) (by rfl) pass0 (pa_cons (pv 0) (pa_cons (pv 1) pa_nil))) pa_nil))) (by rfl)) (pss_cons (ps_if (pt_cmpR op_lt (pv 3) pe_int (nomark _)) (pss_one (ps_ret (pe_tup (pa_cons pe_str pa_nil)))) pss_nil) (pss_cons (ps_if (pt_cmpR op_lt (pv 3) pe_int (nomark _)) (pss_one (ps_ret (pe_tup (pa_cons pe_str (pa_cons (pe_ix ix_list (pe_lst (pa_cons pe_non (pa_cons pe_non (pa_cons (pv 4) pa_nil)))) (pe_cal c__law_take (hr.mono (by decide)) (by rfl) pass0 (pa_cons (pv 0) (pa_cons pe_int pa_nil))) (fun _ _ => rfl)) (pa_cons (pe_cmpR op_eq (pe_cal c__law_take (hr.mono (by decide)) (by rfl) pass0 (pa_cons (pv 0) (pa_cons pe_int pa_nil))) pe_int (nomark _)) pa_nil)))))) pss_nil) (pss_cons (ps_if (pt_cmpR op_eq (pv 3) pe_int (nomark _)) (pss_one (ps_ret (pe_tup (pa_cons pe_str (pa_cons (pe_ix ix_list (pe_lst (pa_cons pe_int (pa_cons pe_int (pa_cons pe_int (pa_cons (pe_cal c__law_take (hr.mono (by decide)) (by rfl) pass0 (pa_cons (pv 0) (pa_cons pe_int pa_nil))) pa_nil))))) (pe_cal c__law_take (hr.mono (by decide)) (by rfl) pass0 (pa_cons (pv 0) (pa_cons pe_int pa_nil))) (fun _ _ => rfl)) pa_nil))))) pss_nil) (pss_cons (ps_if (pt_cmpR op_eq (pv 3) pe_int (nomark _)) (pss_one (ps_ret (pe_tup (pa_cons pe_str (pa_cons (pe_ix ix_list (pe_op op_cat (pv 2) (pe_lst (pa_cons pe_str pa_nil))) (pe_cal c__law_take (hr.mono (by decide)) (by rfl) pass0 (pa_cons (pv 0) (pa_cons (pe_op op_add (pe_callB call_len_seq (by rfl) T.n_len PySem.boot_len (pa_cons (pv 2) pa_nil)) pe_int) pa_nil))) (fun _ _ => rfl)) pa_nil))))) pss_nil) (pss_cons (ps_if (pt_cmpR op_eq (pv 3) pe_int (nomark _)) (pss_one (ps_ret (pe_tup (pa_cons pe_str pa_nil)))) pss_nil) (pss_cons (ps_if (pt_cmpR op_eq (pv 3) pe_int (nomark _)) (pss_one (ps_ret (pe_tup (pa_cons pe_str (pa_cons (pv 5) pa_nil))))) pss_nil) (pss_one (ps_ret (pe_ifExp (pt_cmpR op_eq (pv 3) pe_int (nomark _)) (pe_tup (pa_cons pe_str (pa_cons (pe_ix ix_list (pe_lst (pa_cons pe_int (pa_cons pe_int (pa_cons pe_int (pa_cons (pe_un un_neg pe_int) pa_nil))))) (pe_cal c__law_take (hr.mono (by decide)) (by rfl) pass0 (pa_cons (pv 0) (pa_cons pe_int pa_nil))) (fun _ _ => rfl)) (pa_cons (pv 5) pa_nil)))) (pe_tup (pa_cons pe_str (pa_cons (pe_cal c__law_take (hr.mono (by decide)) (by rfl) pass0 (pa_cons (pv 0) (pa_cons pe_int pa_nil))) pa_nil))))))))))))), ?_⟩
    refine ⟨_, rfl, x, n, 12, rfl, hb, by omega, by decide, by decide, fun way H1 hw0 hw1 hb1 f1 => ?_⟩
    refine ⟨_, rfl, x, n + 1, 3, rfl, hb1, by omega, by decide, by decide, fun kk H2 hk0 hk1 hb2 f2 => ?_⟩
    refine ⟨_, rfl, _, rfl, x, n + 2, size, rfl, hb2, by omega, hs0, by omega, fun at_ H3 ha0 ha1 hb3 f3 => ?_⟩
    refine ⟨_, _, _, rfl, ?_⟩
    have f : Off x x H H3 := f1.trans (f2.trans f3)
    have ht3 := f t _ htx htx ht
    -- fork
    refine ⟨_, rfl, _, _, rfl, rfl, _, rfl, ?_⟩
    refine ite2 (fun _ => ?_) (fun _ => ?_)
    · exact ⟨(by show 1 ≤ sizeLine; decide), fun p hp => k.fin (ds := [.str "fork"]) (by omega) hb3 f (.cons (.str _) .nil) (by decide +kernel) (by decide) (row0_true (by decide +kernel)) hp⟩
    -- wait
    refine ⟨_, rfl, _, _, rfl, rfl, _, rfl, ?_⟩
    refine ite2 (fun _ => ?_) (fun _ => ?_)
    · refine ⟨_, rfl, (by show 3 ≤ sizeLine; decide), fun p1 hp1 => ?_⟩
      have s4 := same_upd (o := .lst [.non, .non, .int kk]) hp1
      refine ⟨_, rfl, x, n + 3, 3, rfl, hb3.same s4, by omega, by decide, by decide, fun i H4 hi0 hi1 hb4 f4 => ?_⟩
      obtain ⟨v, hv, hvm⟩ := atI_l (xs := [V.non, .non, .int kk]) hi0 hi1
      refine ⟨p1, _, i, v, rfl, rfl, .inl (.inl (f4 _ _ (hb3.nx hp1) (hb3.nx hp1) upd_same)), hv, ?_⟩
      refine ⟨_, rfl, x, n + 4, 2, rfl, hb4, by omega, by decide, by decide, fun j H5 hj0 hj1 hb5 f5 => ⟨rfl, ?_⟩⟩
      refine ⟨(by show 3 ≤ sizeLine; decide), fun p hp => ?_⟩
      obtain ⟨d, hd, hdn, hdp⟩ : ∃ d, Dp K (off x x H5) v d ∧ nice d = true ∧ pPart "which" d size = true := by
        simp only [List.mem_cons, List.not_mem_nil, or_false] at hvm
        rcases hvm with rfl | rfl | rfl
        · exact ⟨_, .non, nice_none, by rw [pp_which]; rfl⟩
        · exact ⟨_, .non, nice_none, by rw [pp_which]; rfl⟩
        · exact ⟨_, .int kk, nice_int (by omega) (by omega), whichP hk0 _⟩
      refine k.fin (ds := [.str "wait", d, .bool _]) (by omega) hb5 (f.trans ((Off.of s4).trans (f4.trans f5))) (.cons (.str _) (.cons hd (.cons (.bl _) .nil))) ?_ (show (3 : Nat) ≤ 1000 by decide) (row2_true (k := "which") (k2 := "truth") (by decide +kernel) hdp (by rw [pp_truth]; rfl)) hp
      rw [List.all_cons, List.all_cons, List.all_cons, hdn, nice_bool, show nice (.str "wait") = true by decide +kernel]
      rfl
    -- end
    refine ⟨_, rfl, rfl, _, rfl, ?_⟩
    refine ite2 (fun _ => ?_) (fun _ => ?_)
    · refine ⟨_, rfl, x, n + 3, 100, rfl, hb3, by omega, by decide, by decide, fun c H4 hc0 hc1 hb4 f4 => ?_⟩
      refine ⟨(by show 4 ≤ sizeLine; decide), fun p1 hp1 => ?_⟩
      have s5 := same_upd (o := .lst [.int 0, .int 7, .int 99, .int c]) hp1
      refine ⟨_, rfl, x, n + 4, 4, rfl, hb4.same s5, by omega, by decide, by decide, fun i H5 hi0 hi1 hb5 f5 => ?_⟩
      obtain ⟨v, hv, hvm⟩ := atI_l (xs := [V.int 0, .int 7, .int 99, .int c]) hi0 hi1
      refine ⟨p1, _, i, v, rfl, rfl, .inl (.inl (f5 _ _ (hb4.nx hp1) (hb4.nx hp1) upd_same)), hv, ?_⟩
      refine ⟨(by show 2 ≤ sizeLine; decide), fun p hp => ?_⟩
      obtain ⟨e, rfl, he0, he1⟩ : ∃ e, v = .int e ∧ 0 ≤ e ∧ e ≤ 99 := by
        simp only [List.mem_cons, List.not_mem_nil, or_false] at hvm
        rcases hvm with rfl | rfl | rfl | rfl
        · exact ⟨_, rfl, by decide, by decide⟩
        · exact ⟨_, rfl, by decide, by decide⟩
        · exact ⟨_, rfl, by decide, by decide⟩
        · exact ⟨_, rfl, by omega, by omega⟩
      refine k.fin (ds := [.str "end", .int e]) (by omega) hb5 (f.trans (f4.trans ((Off.of s5).trans f5))) (.cons (.str _) (.cons (.int e) .nil)) ?_ (show (2 : Nat) ≤ 1000 by decide) (row1_true (k := "small") (by decide +kernel) (smallP he0 he1 _)) hp
      rw [List.all_cons, List.all_cons, nice_int (by omega) (by omega), show nice (.str "end") = true by decide +kernel]
      rfl
    -- exec
    refine ⟨_, rfl, rfl, _, rfl, ?_⟩
    refine ite2 (fun _ => ?_) (fun _ => ?_)
    · refine ⟨_, rfl, (by show 1 ≤ sizeLine; decide), fun p1 hp1 => ?_⟩
      have s4 := same_upd (o := .lst [.str "zz"]) hp1
      have ht4 := s4 _ _ ht3
      refine ⟨t, p1, _, _, rfl, rfl, ht4, upd_same, ?_, fun p2 hp2 => ?_⟩
      · rw [List.length_map]
        exact Nat.le_trans (show ts.length + 1 ≤ 4 by have := hts.1; omega) (by decide)
      have s5 := same_upd (o := .lst (ts.map V.str ++ [.str "zz"])) hp2
      refine ⟨_, rfl, _, rfl, t, _, rfl, .inl (.inl (.inl (s5 _ _ ht4))), _, _, rfl, rfl, x, n + 3, _, rfl, (hb3.same s4).same s5, by omega, ?_, ?_, fun i H5 hi0 hi1 hb5 f5 => ?_⟩
      · rw [List.length_map]
        omega
      · rw [List.length_map]
        have := hts.1
        omega
      obtain ⟨v, hv, hvm⟩ := atI_l (xs := ts.map V.str ++ [V.str "zz"]) hi0 (by rw [List.length_map] at hi1; rw [List.length_append, List.length_map]; exact hi1)
      refine ⟨p2, _, i, v, rfl, rfl, .inl (.inl (f5 _ _ ((hb3.same s4).nx hp2) ((hb3.same s4).nx hp2) upd_same)), hv, ?_⟩
      refine ⟨(by show 2 ≤ sizeLine; decide), fun p hp => ?_⟩
      obtain ⟨z, rfl, hz⟩ : ∃ z, v = .str z ∧ z ∈ (["a", "b", "zzzzzzzz", "zz"] : List Str) := by
        rcases List.mem_append.mp hvm with q | q
        · obtain ⟨z, hz, rfl⟩ := List.mem_map.mp q
          refine ⟨z, rfl, ?_⟩
          have := hts.2 z hz
          simp only [List.mem_cons, List.not_mem_nil, or_false] at this ⊢
          rcases this with h | h | h
          · exact .inl h
          · exact .inr (.inl h)
          · exact .inr (.inr (.inl h))
        · rw [List.mem_singleton.mp q]
          exact ⟨_, rfl, by simp⟩
      obtain ⟨hzn, hzp⟩ := tit_ok hz size
      refine k.fin (ds := [.str "exec", .str z]) (by omega) hb5 (f.trans ((Off.of (s4.trans s5)).trans f5)) (.cons (.str _) (.cons (.str z) .nil)) ?_ (show (2 : Nat) ≤ 1000 by decide) (row1_true (k := "title") (by decide +kernel) hzp) hp
      rw [List.all_cons, List.all_cons, hzn, show nice (.str "exec") = true by decide +kernel]
      rfl
    -- taker
    refine ⟨_, rfl, rfl, _, rfl, ?_⟩
    refine ite2 (fun _ => ?_) (fun _ => ?_)
    · exact ⟨(by show 1 ≤ sizeLine; decide), fun p hp => k.fin (ds := [.str "taker"]) (by omega) hb3 f (.cons (.str _) .nil) (by decide +kernel) (by decide) (row0_true (by decide +kernel)) hp⟩
    -- goto
    refine ⟨_, rfl, rfl, _, rfl, ?_⟩
    refine ite2 (fun _ => ?_) (fun _ => ?_)
    · refine ⟨_, rfl, (by show 2 ≤ sizeLine; decide), fun p hp => k.fin (ds := [.str "goto", .int at_]) (by omega) hb3 f (.cons (.str _) (.cons (.int at_) .nil)) ?_ (show (2 : Nat) ≤ 1000 by decide) (row1_true (k := "row") (by decide +kernel) (rowP ha0 ha1)) hp⟩
      rw [List.all_cons, List.all_cons, nice_int (by omega) (by omega), show nice (.str "goto") = true by decide +kernel]
      rfl
    -- if, say
    refine ⟨_, rfl, rfl, _, rfl, ?_⟩
    refine ite2 (fun _ => ?_) (fun _ => ?_)
    · refine ⟨_, rfl, (by show 4 ≤ sizeLine; decide), fun p1 hp1 => ?_⟩
      have s4 := same_upd (o := .lst [.int 0, .int 1, .int 2, .int (-1)]) hp1
      refine ⟨_, rfl, x, n + 3, 4, rfl, hb3.same s4, by omega, by decide, by decide, fun i H4 hi0 hi1 hb4 f4 => ?_⟩
      obtain ⟨v, hv, hvm⟩ := atI_l (xs := [V.int 0, .int 1, .int 2, .int (-1)]) hi0 hi1
      refine ⟨p1, _, i, v, rfl, rfl, .inl (.inl (f4 _ _ (hb3.nx hp1) (hb3.nx hp1) upd_same)), hv, ?_⟩
      refine ⟨_, rfl, (by show 3 ≤ sizeLine; decide), fun p hp => ?_⟩
      obtain ⟨e, rfl, he0, he1⟩ : ∃ e, v = .int e ∧ -1 ≤ e ∧ e ≤ 99 := by
        simp only [List.mem_cons, List.not_mem_nil, or_false] at hvm
        rcases hvm with rfl | rfl | rfl | rfl <;> exact ⟨_, rfl, by decide, by decide⟩
      refine k.fin (ds := [.str "if", .int e, .int at_]) (by omega) hb4 (f.trans ((Off.of s4).trans f4)) (.cons (.str _) (.cons (.int e) (.cons (.int at_) .nil))) ?_ (show (3 : Nat) ≤ 1000 by decide) (row2_true (k := "whole") (k2 := "row") (by decide +kernel) (by rw [pp_whole]; rfl) (rowP ha0 ha1)) hp
      rw [List.all_cons, List.all_cons, List.all_cons, nice_int (by omega) (by omega), nice_int (by omega) (by omega), show nice (.str "if") = true by decide +kernel]
      rfl
    · refine ⟨_, rfl, x, n + 3, 100, rfl, hb3, by omega, by decide, by decide, fun c H4 hc0 hc1 hb4 f4 => ?_⟩
      refine ⟨(by show 2 ≤ sizeLine; decide), fun p hp => k.fin (ds := [.str "say", .int c]) (by omega) hb4 (f.trans f4) (.cons (.str _) (.cons (.int c) .nil)) ?_ (show (2 : Nat) ≤ 1000 by decide) (row1_true (k := "small") (by decide +kernel) (smallP hc0 (by omega) _)) hp⟩
      rw [List.all_cons, List.all_cons, nice_int (by omega) (by omega), show nice (.str "say") = true by decide +kernel]
      rfl
end
end Kin
namespace Kin
open PySem PySem.Spec PyProof.Rows L2
theorem sig9_nice {z : Str} (h : z ∈ sig9) : nice (.str z) = true := by
  have h1 : ∀ z ∈ sig9, nice (.str z) = true := by decide +kernel
  exact h1 z h
theorem sig7_loose {z : Str} (h : z ∈ sig7) : pLoose (.str z) = true ∧ nice (.str z) = true := by
  have h1 : ∀ z ∈ sig7, pLoose (.str z) = true ∧ nice (.str z) = true := by decide +kernel
  exact h1 z h
theorem howP {d : PyData} {n : Int} (h : (pOne d ["plain", "ignore"] || pHandler d n) = true) : pPart "how" d n = true := by
  rw [pp_how]
  exact h
section
variable {P : Program} {w : World} {K : PySem.W.Frag} {mg : Str → Option Value} {base : Heap} {tL : Tok} {es : Array DictEntry} {nF : Nat}
abbrev s__law_signal_row : Stmt := topS 58
theorem sc__law_signal_row : FnScope [("_law_box_here" : Str), ("_law_size" : Str), ("_law_way" : Str), ("_law_signal" : Str), ("_law_at" : Str), ("_law_soft" : Str)] ["_law_box_here", "_law_size"] (defScope s__law_signal_row) := ⟨rfl, rfl, rfl, by decide +kernel, rfl, by decide +kernel, by decide +kernel⟩
theorem ok__law_signal_row {f : Addr} {fd : FuncData} (F : FnP K "_law_signal_row" s__law_signal_row f fd) (T : Bi K w mg tL es nF) (c__law_take : Cal P w K mg base "_law_take" ["_law_box_here", "_law_many"] 1 spTake) (c__law_order : Cal P w K mg base "_law_order" [] 1 spOrder) (c__law_few : Cal P w K mg base "_law_few" ["_law_box_here"] 2 spFew) : FnOk P w K mg base CX0 3 f fd ["_law_box_here", "_law_size"] (spSigRow K) := by
  refine F.ok sc__law_signal_row (fun vs H Q E h => ?_) (fun cdv A outer s H vs Q E hr h => ?_)
  · obtain ⟨x, n, size, rfl, _⟩ := h
    rfl
  · obtain ⟨x, n, size, rfl, hb, hn, hs0, hs1, k⟩ := h
    refine ⟨_, PSs.nox (pss_cons (ps_par3 (i := 2) (j := 3) (l := 4) rfl sc__law_signal_row.nd rfl rfl rfl (by decide) (by decide) (by decide) rfl rfl rfl (pa_cons (pe_cal c__law_take (hr.mono (by decide)) (by rfl) pass0 (pa_cons (pv 0) (pa_cons pe_int pa_nil))) (pa_cons (pe_ix ix_list (pe_cal0 c__law_order (hr.mono (by decide)) (by rfl) pass0) (pe_cal c__law_take (hr.mono (by decide)) (by rfl) pass0 (pa_cons (pv 0) (pa_cons pe_int pa_nil))) (fun _ _ => rfl)) (pa_cons (pe_cal c__law_take (hr.mono (by decide)) (by rfl) pass0 (pa_cons (pv 0) (pa_cons (pv 1) pa_nil))) pa_nil))) (by rfl)) (pss_cons (ps_set (i := 5) sc__law_signal_row.nd rfl (by first | exact .inl rfl | exact .inr rfl) (pe_ix ix_list (pe_cal0 c__law_order (hr.mono (by decide)) (by rfl) pass0) (pe_op op_add pe_int (pe_cal c__law_take (hr.mono (by decide)) (by rfl) pass0 (pa_cons (pv 0) (pa_cons pe_int pa_nil)))) (fun _ _ => rfl))) (pss_cons (ps_if (pt_cmpR op_lt (pv 2) pe_int (nomark _)) (pss_one (ps_ret (pe_tup (pa_cons pe_str (pa_cons (pv 3) (pa_cons (pe_ix ix_list (pe_lst (pa_cons pe_str (pa_cons pe_str (pa_cons pe_str (pa_cons pe_int (pa_cons pe_int (pa_cons (pe_cal c__law_take (hr.mono (by decide)) (by rfl) pass0 (pa_cons (pv 0) (pa_cons pe_int pa_nil))) pa_nil))))))) (pe_cal c__law_take (hr.mono (by decide)) (by rfl) pass0 (pa_cons (pv 0) (pa_cons pe_int pa_nil))) (fun _ _ => rfl)) pa_nil)))))) pss_nil) (pss_cons (ps_if (pt_cmpR op_lt (pv 2) pe_int (nomark _)) (pss_one (ps_ret (pe_tup (pa_cons (pe_ix ix_list (pe_lst (pa_cons pe_str (pa_cons pe_str pa_nil))) (pe_op op_sub (pv 2) pe_int) (fun _ _ => rfl)) (pa_cons (pe_cal c__law_few (hr.mono (by decide)) (by rfl) pass0 (pa_cons (pv 0) pa_nil)) pa_nil))))) pss_nil) (pss_cons (ps_if (pt_cmpR op_lt (pv 2) pe_int (nomark _)) (pss_one (ps_ret (pe_tup (pa_cons pe_str (pa_cons (pv 5) (pa_cons (pe_ix ix_list (pe_lst (pa_cons pe_str (pa_cons pe_str (pa_cons (pe_tup (pa_cons (pv 4) (pa_cons (pe_cal c__law_few (hr.mono (by decide)) (by rfl) pass0 (pa_cons (pv 0) pa_nil)) pa_nil))) (pa_cons (pe_tup (pa_cons (pv 4) (pa_cons (pe_tup pa_nil) pa_nil))) pa_nil))))) (pe_cal c__law_take (hr.mono (by decide)) (by rfl) pass0 (pa_cons (pv 0) (pa_cons pe_int pa_nil))) (fun _ _ => rfl)) pa_nil)))))) pss_nil) (pss_one (ps_ret (pe_ifExp (pt_cmpR op_eq (pv 2) pe_int (nomark _)) (pe_tup (pa_cons pe_str pa_nil)) (pe_tup (pa_cons pe_str pa_nil)))))))))), ?_⟩
    refine ⟨_, rfl, x, n, 12, rfl, hb, by omega, by decide, by decide, fun way H1 hw0 hw1 hb1 f1 => ?_⟩
    refine ⟨rfl, fun o1 G1 g1 no1 ho1 => ?_⟩
    refine ⟨_, rfl, x, n + 1, 9, rfl, hb1.same g1, by omega, by decide, by decide, fun i H2 hi0 hi1 hb2 f2 => ?_⟩
    obtain ⟨vs, hvs, hvm⟩ := atI_l (xs := sig9.map V.str) hi0 hi1
    refine ⟨o1, _, i, vs, rfl, rfl, .inl (.inl (f2 _ _ (hb1.nx no1) (hb1.nx no1) ho1)), hvs, ?_⟩
    obtain ⟨sg, hsg, rfl⟩ := List.mem_map.mp hvm
    refine ⟨_, rfl, _, rfl, x, n + 2, size, rfl, hb2, by omega, hs0, by omega, fun at_ H3 ha0 ha1 hb3 f3 => ?_⟩
    refine ⟨_, _, _, rfl, ?_⟩
    refine ⟨rfl, fun o2 G2 g2 no2 ho2 => ?_⟩
    refine ⟨_, rfl, x, n + 3, 7, rfl, hb3.same g2, by omega, by decide, by decide, fun j H4 hj0 hj1 hb4 f4 => ?_⟩
    refine ⟨_, _, rfl, rfl, ?_⟩
    obtain ⟨vl, hvl, hlm⟩ : ∃ v, atI (sig9.map V.str) (2 + j) = some v ∧ ∃ z ∈ sig7, v = .str z := by
      have h : ∀ m, m < 7 → ∃ z, sig9[2 + m]? = some z ∧ z ∈ sig7 := by
        intro m hm
        have h1 : ∀ m, m < 7 → sig9[2 + m]? = some (sig9.getD (2 + m) "") ∧ sig9.getD (2 + m) "" ∈ sig7 := by decide +kernel
        exact ⟨_, h1 m hm⟩
      obtain ⟨z, hz, hz7⟩ := h j.toNat (by omega)
      refine ⟨.str z, ?_, z, hz7, rfl⟩
      rw [show 2 + j = ((2 + j.toNat : Nat) : Int) by omega]
      exact atI_nat (by rw [List.getElem?_map, hz]; rfl)
    obtain ⟨so, hso, rfl⟩ := hlm
    refine ⟨o2, _, 2 + j, _, rfl, rfl, .inl (.inl (f4 _ _ (hb3.nx no2) (hb3.nx no2) ho2)), hvl, ?_⟩
    obtain ⟨hlo, hln⟩ := sig7_loose hso
    have f : Off x x H H4 := f1.trans ((Off.of g1).trans (f2.trans (f3.trans ((Off.of g2).trans f4))))
    clear f1 f2 f3 f4 g1 g2
    -- send
    refine ⟨_, rfl, _, _, rfl, rfl, _, rfl, ?_⟩
    refine ite2 (fun _ => ?_) (fun h5 => ?_)
    · refine ⟨_, rfl, _, rfl, x, n + 4, 3, rfl, hb4, by omega, by decide, by decide, fun c H5 hc0 hc1 hb5 f5 => ?_⟩
      refine ⟨(by show 6 ≤ sizeLine; decide), fun p1 hp1 => ?_⟩
      have s6 := same_upd (o := .lst [.str "self", .str "parent", .str "group", .int 0, .int 1, .int c]) hp1
      refine ⟨_, rfl, x, n + 5, 6, rfl, hb5.same s6, by omega, by decide, by decide, fun i H6 hi0 hi1 hb6 f6 => ?_⟩
      obtain ⟨v, hv, hvm⟩ := atI_l (xs := [V.str "self", .str "parent", .str "group", .int 0, .int 1, .int c]) hi0 hi1
      refine ⟨p1, _, i, v, rfl, rfl, .inl (.inl (f6 _ _ (hb5.nx hp1) (hb5.nx hp1) upd_same)), hv, ?_⟩
      refine ⟨(by show 3 ≤ sizeLine; decide), fun p hp => ?_⟩
      obtain ⟨d, hd, hdn, hdp⟩ : ∃ d, Dp K (off x x H6) v d ∧ nice d = true ∧ pPart "to" d size = true := by
        simp only [List.mem_cons, List.not_mem_nil, or_false] at hvm
        rcases hvm with rfl | rfl | rfl | rfl | rfl | rfl
        · exact ⟨_, .str _, by decide +kernel, by rw [pp_to]; rfl⟩
        · exact ⟨_, .str _, by decide +kernel, by rw [pp_to]; rfl⟩
        · exact ⟨_, .str _, by decide +kernel, by rw [pp_to]; rfl⟩
        · exact ⟨_, .int 0, by decide +kernel, toP (by decide) _⟩
        · exact ⟨_, .int 1, by decide +kernel, toP (by decide) _⟩
        · exact ⟨_, .int c, nice_int (by omega) (by omega), toP hc0 _⟩
      refine k.fin (ds := [.str "send", .str sg, d]) (by omega) hb6 (f.trans (f5.trans ((Off.of s6).trans f6))) (.cons (.str _) (.cons (.str _) (.cons hd .nil))) ?_ (show (3 : Nat) ≤ 1000 by decide) (row2_true (k := "signal") (k2 := "to") (by decide +kernel) (by rw [pp_signal]; exact decide_eq_true hsg) hdp) hp
      rw [List.all_cons, List.all_cons, List.all_cons, hdn, sig9_nice hsg, show nice (.str "send") = true by decide +kernel]
      rfl
    have h5 : ¬ way < 5 := fun q => h5 (decide_eq_true q)
    -- mask
    refine ⟨_, rfl, _, _, rfl, rfl, _, rfl, ?_⟩
    refine ite2 (fun h7 => ?_) (fun _ => ?_)
    · have h7 : way < 7 := of_decide_eq_true h7
      refine ⟨(by show 2 ≤ sizeLine; decide), fun p1 hp1 => ?_⟩
      have s5 := same_upd (o := .lst [.str "mask", .str "unmask"]) hp1
      obtain ⟨v, hv, hvm⟩ := atI_l (xs := [V.str "mask", .str "unmask"]) (k := way - 5) (by omega) (by show way - 5 < 2; omega)
      refine ⟨_, rfl, _, _, rfl, rfl, p1, _, way - 5, v, rfl, rfl, .inl (.inl upd_same), hv, ?_⟩
      refine ⟨_, rfl, x, n + 4, rfl, hb4.same s5, by omega, fun q ss H5 hss hq0 hb5 f5 hq => ?_⟩
      have nqx : q ≠ x := (hb4.same s5).nx hq0
      refine ⟨(by show 2 ≤ sizeLine; decide), fun p hp => ?_⟩
      obtain ⟨z, rfl, hzn, hzf⟩ : ∃ z : Str, v = .str z ∧ nice (.str z) = true ∧ forms.lookup z = some (["signals"] : List Str) := by
        simp only [List.mem_cons, List.not_mem_nil, or_false] at hvm
        rcases hvm with rfl | rfl
        · exact ⟨_, rfl, by decide +kernel, by decide +kernel⟩
        · exact ⟨_, rfl, by decide +kernel, by decide +kernel⟩
      refine k.fin (ds := [.str z, .tuple (ss.map PyData.str)]) (by omega) hb5 (f.trans ((Off.of s5).trans f5)) (.cons (.str _) (.cons (.tup (.inl (.inl (off_at nqx nqx hq))) (dpA_strs ss)) .nil)) ?_ (show (2 : Nat) ≤ 1000 by decide) (row1_true (k := "signals") hzf (by rw [pp_signals]; exact sub_up hss)) hp
      rw [List.all_cons, List.all_cons, hzn, (sub_nice hss).1]
      rfl
    -- handle
    refine ⟨_, rfl, _, _, rfl, rfl, _, rfl, ?_⟩
    refine ite2 (fun _ => ?_) (fun _ => ?_)
    · refine ⟨_, rfl, _, rfl, _, rfl, x, n + 4, rfl, hb4, by omega, fun q ss H5 hss hq0 hb5 f5 hq => ?_⟩
      have nqx : q ≠ x := hb4.nx hq0
      refine ⟨(by show 2 ≤ sizeLine; decide), fun p1 hp1 => ?_⟩
      have s6 := same_upd (o := .tup [.int at_, .ref q]) hp1
      have n1 := hb5.nx hp1
      have hb6 := hb5.same s6
      refine ⟨_, rfl, Nat.zero_le _, fun p2 hp2 => ?_⟩
      have s7 := same_upd (o := .tup []) hp2
      have n2 := hb6.nx hp2
      have hb7 := hb6.same s7
      refine ⟨(by show 2 ≤ sizeLine; decide), fun p3 hp3 => ?_⟩
      have s8 := same_upd (o := .tup [.int at_, .ref p2]) hp3
      have n3 := hb7.nx hp3
      have hb8 := hb7.same s8
      refine ⟨(by show 4 ≤ sizeLine; decide), fun p4 hp4 => ?_⟩
      have s9 := same_upd (o := .lst [.str "plain", .str "ignore", .ref p1, .ref p3]) hp4
      have n4 := hb8.nx hp4
      refine ⟨_, rfl, x, n + 11, 4, rfl, hb8.same s9, by omega, by decide, by decide, fun i H9 hi0 hi1 hb9 f9 => ?_⟩
      obtain ⟨v, hv, hvm⟩ := atI_l (xs := [V.str "plain", .str "ignore", .ref p1, .ref p3]) hi0 hi1
      refine ⟨p4, _, i, v, rfl, rfl, .inl (.inl (f9 _ _ n4 n4 upd_same)), hv, ?_⟩
      refine ⟨(by show 3 ≤ sizeLine; decide), fun p hp => ?_⟩
      have atn : nice (.int at_) = true := nice_int (by omega) (by omega)
      have at0' : PyData.depth (.int at_) = 0 := by rw [PyData.depth]
      obtain ⟨d, hd, hdn, hdp⟩ : ∃ d, Dp K (off x x H9) v d ∧ nice d = true ∧ pPart "how" d size = true := by
        simp only [List.mem_cons, List.not_mem_nil, or_false] at hvm
        rcases hvm with rfl | rfl | rfl | rfl
        · exact ⟨_, .str _, by decide +kernel, howP rfl⟩
        · exact ⟨_, .str _, by decide +kernel, howP rfl⟩
        · refine ⟨.tuple [.int at_, .tuple (ss.map PyData.str)], .tup (.inl (.inl (((Off.of (s7.trans (s8.trans s9))).trans f9) _ _ n1 n1 upd_same |> off_at n1 n1))) (.cons (.int at_) (.cons (.tup (.inl (.inl (off_at nqx nqx (((Off.of (s6.trans (s7.trans (s8.trans s9)))).trans f9) _ _ nqx nqx hq)))) (dpA_strs ss)) .nil)), nice_tup ?_ (show (2 : Nat) ≤ 1000 by decide), howP ?_⟩
          · rw [List.all_cons, List.all_cons, atn, (sub_nice hss).1, at0', decide_eq_true (show PyData.depth (.tuple (ss.map PyData.str)) ≤ 2 from Nat.le_trans (sub_nice hss).2 (by decide))]
            rfl
          · show (false || (pRowNo (.int at_) size && pAre (.tuple (ss.map PyData.str)))) = true
            rw [sub_up hss]
            show (false || (decide (0 ≤ at_) && decide (at_ < size) && true)) = true
            rw [decide_eq_true ha0, decide_eq_true ha1]
            rfl
        · refine ⟨.tuple [.int at_, .tuple []], .tup (.inl (.inl (off_at n3 n3 (((Off.of s9).trans f9) _ _ n3 n3 upd_same)))) (.cons (.int at_) (.cons (.tup (.inl (.inl (off_at n2 n2 (((Off.of (s8.trans s9)).trans f9) _ _ n2 n2 upd_same)))) .nil) .nil)), nice_tup ?_ (show (2 : Nat) ≤ 1000 by decide), howP ?_⟩
          · rw [List.all_cons, List.all_cons, atn, at0', show nice (.tuple []) = true by decide +kernel, show decide (PyData.depth (.tuple []) ≤ 2) = true by decide +kernel]
            rfl
          · show (false || (decide (0 ≤ at_) && decide (at_ < size) && true)) = true
            rw [decide_eq_true ha0, decide_eq_true ha1]
            rfl
      refine k.fin (ds := [.str "handle", .str so, d]) (by omega) hb9 (f.trans (f5.trans ((Off.of (s6.trans (s7.trans (s8.trans s9)))).trans f9))) (.cons (.str _) (.cons (.str _) (.cons hd .nil))) ?_ (show (3 : Nat) ≤ 1000 by decide) (row2_true (k := "loose") (k2 := "how") (by decide +kernel) (by rw [pp_loose]; exact hlo) hdp) hp
      rw [List.all_cons, List.all_cons, List.all_cons, hdn, hln, show nice (.str "handle") = true by decide +kernel]
      rfl
    -- return, pause
    refine ⟨_, rfl, rfl, _, rfl, ?_⟩
    refine ite2 (fun _ => ?_) (fun _ => ?_)
    · exact ⟨(by show 1 ≤ sizeLine; decide), fun p hp => k.fin (ds := [.str "return"]) (by omega) hb4 f (.cons (.str _) .nil) (by decide +kernel) (by decide) (row0_true (by decide +kernel)) hp⟩
    · exact ⟨(by show 1 ≤ sizeLine; decide), fun p hp => k.fin (ds := [.str "pause"]) (by omega) hb4 f (.cons (.str _) .nil) (by decide +kernel) (by decide) (row0_true (by decide +kernel)) hp⟩
abbrev s__law_group_row : Stmt := topS 59
theorem sc__law_group_row : FnScope [("_law_box_here" : Str), ("_law_way" : Str), ("_law_who" : Str)] ["_law_box_here"] (defScope s__law_group_row) := ⟨rfl, rfl, rfl, by decide +kernel, rfl, by decide +kernel, by decide +kernel⟩
theorem ok__law_group_row {f : Addr} {fd : FuncData} (F : FnP K "_law_group_row" s__law_group_row f fd) (T : Bi K w mg tL es nF) (c__law_take : Cal P w K mg base "_law_take" ["_law_box_here", "_law_many"] 1 spTake) : FnOk P w K mg base CX0 2 f fd ["_law_box_here"] (spGrpRow K) := by
  refine F.ok sc__law_group_row (fun vs H Q E h => ?_) (fun cdv A outer s H vs Q E hr h => ?_)
  · obtain ⟨x, n, size, rfl, _⟩ := h
    rfl
  · obtain ⟨x, n, size, rfl, hb, hn, hs0, hs1, k⟩ := h
    refine ⟨_, PSs.nox (pss_cons (ps_par (i := 1) (j := 2) rfl sc__law_group_row.nd rfl rfl (by decide) rfl rfl (pa_cons (pe_cal c__law_take (hr.mono (by decide)) (by rfl) pass0 (pa_cons (pv 0) (pa_cons pe_int pa_nil))) (pa_cons (pe_ix ix_list (pe_lst (pa_cons pe_str (pa_cons pe_int (pa_cons pe_int (pa_cons (pe_cal c__law_take (hr.mono (by decide)) (by rfl) pass0 (pa_cons (pv 0) (pa_cons pe_int pa_nil))) pa_nil))))) (pe_cal c__law_take (hr.mono (by decide)) (by rfl) pass0 (pa_cons (pv 0) (pa_cons pe_int pa_nil))) (fun _ _ => rfl)) pa_nil)) (by rfl)) (pss_cons (ps_if (pt_cmpR op_eq (pv 1) pe_int (nomark _)) (pss_one (ps_ret (pe_tup (pa_cons pe_str pa_nil)))) pss_nil) (pss_cons (ps_if (pt_cmpR op_lt (pv 1) pe_int (nomark _)) (pss_one (ps_ret (pe_tup (pa_cons pe_str (pa_cons (pv 2) (pa_cons (pe_ix ix_list (pe_lst (pa_cons pe_str (pa_cons pe_str pa_nil))) (pe_cal c__law_take (hr.mono (by decide)) (by rfl) pass0 (pa_cons (pv 0) (pa_cons pe_int pa_nil))) (fun _ _ => rfl)) pa_nil)))))) pss_nil) (pss_one (ps_ret (pe_ifExp (pt_cmpR op_lt (pv 1) pe_int (nomark _)) (pe_tup (pa_cons pe_str (pa_cons (pv 2) pa_nil))) (pe_tup (pa_cons pe_str pa_nil)))))))), ?_⟩
    refine ⟨_, rfl, x, n, 8, rfl, hb, by omega, by decide, by decide, fun way H1 hw0 hw1 hb1 f1 => ?_⟩
    refine ⟨_, rfl, x, n + 1, 3, rfl, hb1, by omega, by decide, by decide, fun c H2 hc0 hc1 hb2 f2 => ?_⟩
    refine ⟨(by show 4 ≤ sizeLine; decide), fun p1 hp1 => ?_⟩
    have s3 := same_upd (o := .lst [.str "self", .int 0, .int 1, .int c]) hp1
    refine ⟨_, rfl, x, n + 2, 4, rfl, hb2.same s3, by omega, by decide, by decide, fun i H3 hi0 hi1 hb3 f3 => ?_⟩
    obtain ⟨v, hv, hvm⟩ := atI_l (xs := [V.str "self", .int 0, .int 1, .int c]) hi0 hi1
    refine ⟨p1, _, i, v, rfl, rfl, .inl (.inl (f3 _ _ (hb2.nx hp1) (hb2.nx hp1) upd_same)), hv, ?_⟩
    refine ⟨_, _, rfl, ?_⟩
    have f : Off x x H H3 := f1.trans (f2.trans ((Off.of s3).trans f3))
    obtain ⟨d, hd, hdn, hdp⟩ : ∃ d, (∀ G, Dp K G v d) ∧ nice d = true ∧ pPart "who" d size = true := by
      simp only [List.mem_cons, List.not_mem_nil, or_false] at hvm
      rcases hvm with rfl | rfl | rfl | rfl
      · exact ⟨_, fun _ => .str _, by decide +kernel, by rw [pp_who]; rfl⟩
      · exact ⟨_, fun _ => .int 0, by decide +kernel, whoP (by decide) _⟩
      · exact ⟨_, fun _ => .int 1, by decide +kernel, whoP (by decide) _⟩
      · exact ⟨_, fun _ => .int c, nice_int (by omega) (by omega), whoP hc0 _⟩
    refine ⟨_, rfl, rfl, _, rfl, ?_⟩
    refine ite2 (fun _ => ?_) (fun _ => ?_)
    · exact ⟨(by show 1 ≤ sizeLine; decide), fun p hp => k.fin (ds := [.str "session"]) (by omega) hb3 f (.cons (.str _) .nil) (by decide +kernel) (by decide) (row0_true (by decide +kernel)) hp⟩
    refine ⟨_, rfl, _, _, rfl, rfl, _, rfl, ?_⟩
    refine ite2 (fun _ => ?_) (fun _ => ?_)
    · refine ⟨_, rfl, (by show 2 ≤ sizeLine; decide), fun p2 hp2 => ?_⟩
      have s4 := same_upd (o := .lst [.str "new", .str "mine"]) hp2
      refine ⟨_, rfl, x, n + 3, 2, rfl, hb3.same s4, by omega, by decide, by decide, fun i H4 hi0 hi1 hb4 f4 => ?_⟩
      obtain ⟨v2, hv2, hvm2⟩ := atI_l (xs := [V.str "new", .str "mine"]) hi0 hi1
      refine ⟨p2, _, i, v2, rfl, rfl, .inl (.inl (f4 _ _ (hb3.nx hp2) (hb3.nx hp2) upd_same)), hv2, ?_⟩
      refine ⟨(by show 3 ≤ sizeLine; decide), fun p hp => ?_⟩
      obtain ⟨z, rfl, hzn, hzp⟩ : ∃ z : Str, v2 = .str z ∧ nice (.str z) = true ∧ pPart "where" (.str z) size = true := by
        simp only [List.mem_cons, List.not_mem_nil, or_false] at hvm2
        rcases hvm2 with rfl | rfl
        · exact ⟨_, rfl, by decide +kernel, by rw [pp_where]; rfl⟩
        · exact ⟨_, rfl, by decide +kernel, by rw [pp_where]; rfl⟩
      refine k.fin (ds := [.str "group", d, .str z]) (by omega) hb4 (f.trans ((Off.of s4).trans f4)) (.cons (.str _) (.cons (hd _) (.cons (.str _) .nil))) ?_ (show (3 : Nat) ≤ 1000 by decide) (row2_true (k := "who") (k2 := "where") (by decide +kernel) hdp hzp) hp
      rw [List.all_cons, List.all_cons, List.all_cons, hdn, hzn, show nice (.str "group") = true by decide +kernel]
      rfl
    refine ⟨_, rfl, _, _, rfl, rfl, _, rfl, ?_⟩
    refine ite2 (fun _ => ?_) (fun _ => ?_)
    · refine ⟨_, rfl, (by show 2 ≤ sizeLine; decide), fun p hp => ?_⟩
      refine k.fin (ds := [.str "front", d]) (by omega) hb3 f (.cons (.str _) (.cons (hd _) .nil)) ?_ (show (2 : Nat) ≤ 1000 by decide) (row1_true (k := "who") (by decide +kernel) hdp) hp
      rw [List.all_cons, List.all_cons, hdn, show nice (.str "front") = true by decide +kernel]
      rfl
    · exact ⟨(by show 1 ≤ sizeLine; decide), fun p hp => k.fin (ds := [.str "read"]) (by omega) hb3 f (.cons (.str _) .nil) (by decide +kernel) (by decide) (row0_true (by decide +kernel)) hp⟩
end
end Kin
namespace Kin
open PySem PySem.Spec PyProof.Rows L2
/-- what stands beside the box stands while a list there grows -/
theorem dp_grow {K : PySem.W.Frag} {x D : Addr} {G : Hp} {acc : List V} {o : HO} (hD : G D = some (.lst acc)) {d : PyData} {v : V} (hn : noL d = true) (h : Dp K (off x x G) v d) : Dp K (off x x (upd G D o)) v d := dp_noL (fun b xs => sqT_mut hD b xs) hn h
theorem dpA_grow {K : PySem.W.Frag} {x D : Addr} {G : Hp} {acc : List V} {o : HO} (hD : G D = some (.lst acc)) {ds : List PyData} {vs : List V} (hn : ∀ d ∈ ds, noL d = true) (h : DpAll K (off x x G) vs ds) : DpAll K (off x x (upd G D o)) vs ds := dpA_noL (fun b xs => sqT_mut hD b xs) (noLAll_of hn) h
section
variable {P : Program} {w : World} {K : PySem.W.Frag} {mg : Str → Option Value} {base : Heap} {tL : Tok} {es : Array DictEntry} {nF : Nat}
def spBRows (K : PySem.W.Frag) : Sp := fun vs H Q _ => ∃ (x t : Addr) (n : Nat) (kinds : Int) (ts : List Str), vs = [.ref x, .ref t, .int kinds] ∧ Box n x H ∧ n ≤ 100000 ∧ t ≠ x ∧ H t = some (.lst (ts.map V.str)) ∧ tits ts ∧
  ∀ q xs ds H', Box (n + 200) x H' → Off x x H H' → SqT K (off x x H') q xs → DpAll K (off x x H') xs ds → 0 < ds.length → ds.length ≤ 9 → (∀ d ∈ ds, rowOk d ∧ pRow d ds.length = true) → Q (.ref q) H'
abbrev s__law_rows : Stmt := topS 60
theorem sc__law_rows : FnScope [("_law_box_here" : Str), ("_law_titles" : Str), ("_law_kinds" : Str), ("_law_size" : Str), ("_law_found" : Str), ("_law_k" : Str), ("_law_way" : Str)] ["_law_box_here", "_law_titles", "_law_kinds"] (defScope s__law_rows) := ⟨rfl, rfl, rfl, by decide +kernel, rfl, by decide +kernel, by decide +kernel⟩
theorem ok__law_rows {f : Addr} {fd : FuncData} (F : FnP K "_law_rows" s__law_rows f fd) (T : Bi K w mg tL es nF) (c__law_take : Cal P w K mg base "_law_take" ["_law_box_here", "_law_many"] 1 spTake) (c__law_signal_row : Cal P w K mg base "_law_signal_row" ["_law_box_here", "_law_size"] 3 (spSigRow K)) (c__law_group_row : Cal P w K mg base "_law_group_row" ["_law_box_here"] 2 (spGrpRow K)) (c__law_kin_row : Cal P w K mg base "_law_kin_row" ["_law_box_here", "_law_size", "_law_titles"] 2 (spKinRow K)) : FnOk P w K mg base CX0 4 f fd ["_law_box_here", "_law_titles", "_law_kinds"] (spBRows K) := by
  refine F.ok sc__law_rows (fun vs H Q E h => ?_) (fun cdv A outer s H vs Q E hr h => ?_)
  · obtain ⟨x, t, n, kinds, ts, rfl, _⟩ := h
    rfl
  · obtain ⟨x, t, n, kinds, ts, rfl, hb, hn, htx, ht, hts, k⟩ := h
    refine ⟨_, PSs.nox (pss_cons (ps_par (i := 3) (j := 4) rfl sc__law_rows.nd rfl rfl (by decide) rfl rfl (pa_cons (pe_op op_add pe_int (pe_cal c__law_take (hr.mono (by decide)) (by rfl) pass0 (pa_cons (pv 0) (pa_cons pe_int pa_nil)))) (pa_cons (pe_lst pa_nil) pa_nil)) (by rfl)) (pss_cons (ps_for PassesOwn.never rfl (pi_range1 (by rfl) T.n_range (pa_cons (pv 3) pa_nil)) (pg_name (i := 5) sc__law_rows.nd rfl (by first | exact .inl rfl | exact .inr rfl)) (pss_cons (ps_set (i := 6) sc__law_rows.nd rfl (by first | exact .inl rfl | exact .inr rfl) (pe_cal c__law_take (hr.mono (by decide)) (by rfl) pass0 (pa_cons (pv 0) (pa_cons pe_int pa_nil)))) (pss_one (ps_if (PW.pt (pw_and (pt_cmpR op_eq (pv 5) pe_int (nomark _)) (pw_and1 (pt_cmpR op_gt (pv 6) pe_int (nomark _))))) (pss_one (ps_expr (pe_bm PySem.F.plainAttrs_list PySem.F.slot_list_append PySem.F.type_list_append mt_append (pv 4) (pa_cons (pe_tup (pa_cons pe_str pa_nil)) pa_nil)))) (pss_one (ps_if (PW.pt (pw_and (pt_cmpR op_lt (pv 6) pe_int (nomark _)) (pw_and1 (pt_cmpR op_gt (pe_op op_mod (pv 2) pe_int) pe_int (nomark _))))) (pss_one (ps_expr (pe_bm PySem.F.plainAttrs_list PySem.F.slot_list_append PySem.F.type_list_append mt_append (pv 4) (pa_cons (pe_cal c__law_signal_row (hr.mono (by decide)) (by rfl) pass0 (pa_cons (pv 0) (pa_cons (pv 3) pa_nil))) pa_nil)))) (pss_one (ps_if (PW.pt (pw_and (pt_cmpR op_eq (pv 6) pe_int (nomark _)) (pw_and1 (pt_cmpR op_gt (pv 2) pe_int (nomark _))))) (pss_one (ps_expr (pe_bm PySem.F.plainAttrs_list PySem.F.slot_list_append PySem.F.type_list_append mt_append (pv 4) (pa_cons (pe_cal c__law_group_row (hr.mono (by decide)) (by rfl) pass0 (pa_cons (pv 0) pa_nil)) pa_nil)))) (pss_one (ps_expr (pe_bm PySem.F.plainAttrs_list PySem.F.slot_list_append PySem.F.type_list_append mt_append (pv 4) (pa_cons (pe_cal c__law_kin_row (hr.mono (by decide)) (by rfl) pass0 (pa_cons (pv 0) (pa_cons (pv 3) (pa_cons (pv 1) pa_nil)))) pa_nil)))))))))))) (pss_one (ps_ret (pe_callTy call_tuple_of (by rfl) T.n_tuple boot_tuple (pa_cons (pv 4) pa_nil)))))), ?_⟩
    refine ⟨_, rfl, x, n, 8, rfl, hb, by omega, by decide, by decide, fun sz H1 hz0 hz1 hb1 f1 => ?_⟩
    refine ⟨_, _, rfl, rfl, Nat.zero_le _, fun L hL => ?_⟩
    refine ⟨_, _, rfl, ?_⟩
    have nLx := hb1.nx hL
    have nLt : L ≠ t := (ne_of_none (f1 t _ htx htx ht) hL).symm
    have s2 := same_upd (o := .lst []) hL
    have hL0 : H L = none := f1.none nLx nLx hL
    refine ⟨_, rfl, 2 + sz, rfl, by omega, by omega, ?_⟩
    have hsz : (2 + sz).toNat ≤ 9 := by omega
    refine for_range (lo := 0) (n := (2 + sz).toNat) (fun i σ H' => ∃ y5 y6 acc ds, σ = [some (.ref x), some (.ref t), some (.int kinds), some (.int (2 + sz)), some (.ref L), y5, y6] ∧ Box (n + 1 + 17 * i) x H' ∧ Off x x H H' ∧ H' L = some (.lst acc) ∧ DpAll K (off x x H') acc ds ∧ ds.length = i ∧ ∀ d ∈ ds, rowOk d ∧ pRow d (2 + sz) = true)
      ⟨none, none, [], [], rfl, hb1.same s2, f1.trans (Off.of s2), upd_same, .nil, rfl, by simp⟩ ?_ ?_
    · rintro i σ H2 hi ⟨y5, y6, acc, ds, rfl, hb2, f2, hL2, hd2, hdl, hdr⟩
      have hal : acc.length = i := by rw [dpA_len hd2, hdl]
      have hno : ∀ d ∈ ds, noL d = true := fun d hd => row_noL (hdr d hd).2
      refine ⟨_, rfl, x, n + 1 + 17 * i, 6, rfl, hb2, by omega, by decide, by decide, fun way H3 hw0 hw1 hb3 f3 => ?_⟩
      have fin : ∀ r d G, Box (n + 1 + 17 * i + 17) x G → Off x x H3 G → Dp K (off x x G) r d → rowOk d → pRow d (2 + sz) = true → G L = some (.lst acc) ∧ acc.length < sizeLine ∧
          ∃ y5 y6 acc' ds', [some (V.ref x), some (.ref t), some (.int kinds), some (.int (2 + sz)), some (.ref L), some (.int (0 + (i : Int))), some (.int way)] = [some (V.ref x), some (.ref t), some (.int kinds), some (.int (2 + sz)), some (.ref L), y5, y6] ∧ Box (n + 1 + 17 * (i + 1)) x (upd G L (.lst (acc ++ [r]))) ∧ Off x x H (upd G L (.lst (acc ++ [r]))) ∧ (upd G L (.lst (acc ++ [r]))) L = some (.lst acc') ∧ DpAll K (off x x (upd G L (.lst (acc ++ [r])))) acc' ds' ∧ ds'.length = i + 1 ∧ ∀ d ∈ ds', rowOk d ∧ pRow d (2 + sz) = true := by
        intro r d G hbG fG hd ho hp
        have f4 := f3.trans fG
        have hLG := f4 L _ nLx nLx hL2
        refine ⟨hLG, by rw [hal]; exact Nat.lt_of_lt_of_le (show i < 10 by omega) (by decide), _, _, acc ++ [r], ds ++ [d], rfl, (hbG.mut nLx).mono (by omega), (f2.trans f4).mut hL0, upd_same, ?_, ?_, ?_⟩
        · exact dpA_app (dpA_grow hLG hno (dpA_mono f4.same hd2)) (.cons (dp_grow hLG (row_noL hp) hd) .nil)
        · rw [List.length_append, hdl]
          rfl
        · intro e he
          rcases List.mem_append.mp he with q | q
          · exact hdr e q
          · rw [List.mem_singleton.mp q]
            exact ⟨ho, hp⟩
      have hL3 := f3 L _ nLx nLx hL2
      have ht3 := (f2.trans f3) t _ htx htx ht
      have rk : RowK K x (n + 1 + 17 * i + 1) (2 + sz) H3 (fun r G => ∃ l xs y, V.ref L = .ref l ∧ [r] = [y] ∧ G l = some (.lst xs) ∧ xs.length < sizeLine ∧ ∃ y5 y6 acc' ds', [some (V.ref x), some (.ref t), some (.int kinds), some (.int (2 + sz)), some (.ref L), some (.int (0 + (i : Int))), some (.int way)] = [some (V.ref x), some (.ref t), some (.int kinds), some (.int (2 + sz)), some (.ref L), y5, y6] ∧ Box (n + 1 + 17 * (i + 1)) x (upd G l (.lst (xs ++ [y]))) ∧ Off x x H (upd G l (.lst (xs ++ [y]))) ∧ (upd G l (.lst (xs ++ [y]))) L = some (.lst acc') ∧ DpAll K (off x x (upd G l (.lst (xs ++ [y])))) acc' ds' ∧ ds'.length = i + 1 ∧ ∀ d ∈ ds', rowOk d ∧ pRow d (2 + sz) = true) := by
        intro r d G hbG fG hd ho hp
        obtain ⟨h1, h2, h3⟩ := fin r d G (hbG.mono (by omega)) fG hd ho hp
        exact ⟨L, _, _, rfl, rfl, h1, h2, h3⟩
      have ap : ∃ xs, SqL K H3 L xs := ⟨_, .inl (.inl hL3)⟩
      refine ⟨_, rfl, rfl, _, rfl, ?_⟩
      refine and_at (P1 := (0 + (i : Int)) = 0) (P2 := 0 < way) dec_int' (fun b => iteF b) (fun m => ⟨_, rfl, _, _, rfl, rfl, _, rfl, m⟩) (fun _ => ?_) (fun _ => ?_)
      · exact ⟨_, rfl, .inl ⟨rfl, ap⟩, (by show 1 ≤ sizeLine; decide), fun p hp => rk.fin (ds := [.str "fork"]) (by omega) hb3 Off.refl (.cons (.str _) .nil) (by decide +kernel) (by decide) (row0_true (by decide +kernel)) hp⟩
      refine ⟨_, rfl, _, _, rfl, rfl, _, rfl, ?_⟩
      refine and_at (P1 := way < 2) (P2 := 1 < kinds % 4) rfl (fun b => iteF b) (fun m => ⟨_, rfl, _, _, rfl, rfl, (by show (0 : Int) < 4; decide), _, _, rfl, rfl, _, rfl, m⟩) (fun _ => ?_) (fun _ => ?_)
      · exact ⟨_, rfl, .inl ⟨rfl, ap⟩, _, rfl, _, rfl, x, _, _, rfl, hb3, by omega, by omega, by omega, rk⟩
      refine ⟨_, rfl, rfl, _, rfl, ?_⟩
      refine and_at (P1 := way = 2) (P2 := 3 < kinds) dec_int' (fun b => iteF b) (fun m => ⟨_, rfl, _, _, rfl, rfl, _, rfl, m⟩) (fun _ => ?_) (fun _ => ?_)
      · exact ⟨_, rfl, .inl ⟨rfl, ap⟩, _, rfl, x, _, _, rfl, hb3, by omega, by omega, by omega, rk⟩
      · exact ⟨_, rfl, .inl ⟨rfl, ap⟩, _, rfl, _, rfl, _, rfl, x, t, _, _, ts, rfl, hb3, by omega, by omega, by omega, htx, ht3, hts, rk⟩
    · rintro σ H2 ⟨y5, y6, acc, ds, rfl, hb2, f2, hL2, hd2, hdl, hdr⟩
      refine ⟨_, rfl, L, _, rfl, .inl ⟨.inl (.inl hL2), fun q hq => ?_⟩⟩
      have s3 := same_upd (o := .tup acc) hq
      refine k q acc ds _ ((hb2.same s3).mono (by omega)) (f2.trans (Off.of s3)) (.inl (.inl (box_off hb2 hq))) (dpA_mono (Off.of s3).same hd2) (by omega) (by omega) fun d hd => ?_
      have := hdr d hd
      rw [hdl, show (((2 + sz).toNat : Nat) : Int) = 2 + sz by omega]
      exact this
end
end Kin
namespace Kin
open PySem PySem.Spec PyProof.Rows L2
section
variable {P : Program} {w : World} {K : PySem.W.Frag} {mg : Str → Option Value} {base : Heap} {tL : Tok} {es : Array DictEntry} {nF : Nat}
def spBBook (K : PySem.W.Frag) : Sp := fun vs H Q _ => ∃ (x : Addr) (n : Nat) (kinds : Int), vs = [.ref x, .int kinds] ∧ Box n x H ∧ n ≤ 10000 ∧
  ∀ b xs ps H', Box (n + 700) x H' → Off x x H H' → SqT K (off x x H') b xs → DpAll K (off x x H') xs ps → (∀ p ∈ ps, progOkN 9 p) → 0 < ps.length → ps.length ≤ 3 → rise (ps.map titleOf) = true → Q (.ref b) H'
theorem tits3 {c : Int} (h0 : 0 ≤ c) (h1 : c < 3) : ∃ ts : List Str, cutV [V.str "a", .str "b", .str "zzzzzzzz"] none (some (1 + c)) = ts.map V.str ∧ tits ts ∧ 0 < ts.length ∧ rise ts = true ∧ ∀ z ∈ ts, 1 ≤ z.length ∧ z.length ≤ 8 ∧ azAll z = true := by
  have hc : c = 0 ∨ c = 1 ∨ c = 2 := by omega
  rcases hc with rfl | rfl | rfl
  · exact ⟨["a"], rfl, ⟨by decide, by decide +kernel⟩, by decide, by decide +kernel, by decide +kernel⟩
  · exact ⟨["a", "b"], rfl, ⟨by decide, by decide +kernel⟩, by decide, by decide +kernel, by decide +kernel⟩
  · exact ⟨["a", "b", "zzzzzzzz"], rfl, ⟨by decide, by decide +kernel⟩, by decide, by decide +kernel, by decide +kernel⟩
theorem prog_noLN {u : Nat} {p : PyData} (h : progOkN u p) : noL p = true := by
  obtain ⟨z, rows, rfl, _, _, _, _, _, hr⟩ := h
  rw [noL, noLAll, noL, noLAll, noL, noLAll_of fun d hd => row_noL (hr d hd).2, noLAll]
  rfl
abbrev s__law_book : Stmt := topS 61
theorem sc__law_book : FnScope [("_law_box_here" : Str), ("_law_kinds" : Str), ("_law_titles" : Str), ("_law_title" : Str)] ["_law_box_here", "_law_kinds"] (defScope s__law_book) := ⟨rfl, rfl, rfl, by decide +kernel, rfl, by decide +kernel, by decide +kernel⟩
theorem ok__law_book {f : Addr} {fd : FuncData} (F : FnP K "_law_book" s__law_book f fd) (T : Bi K w mg tL es nF) (c__law_take : Cal P w K mg base "_law_take" ["_law_box_here", "_law_many"] 1 spTake) (c__law_rows : Cal P w K mg base "_law_rows" ["_law_box_here", "_law_titles", "_law_kinds"] 4 (spBRows K)) : FnOk P w K mg base CX0 5 f fd ["_law_box_here", "_law_kinds"] (spBBook K) := by
  refine F.ok sc__law_book (fun vs H Q E h => ?_) (fun cdv A outer s H vs Q E hr h => ?_)
  · obtain ⟨x, n, kinds, rfl, _⟩ := h
    rfl
  · obtain ⟨x, n, kinds, rfl, hb, hn, k⟩ := h
    refine ⟨_, PSs.nox (pss_cons (ps_set (i := 2) sc__law_book.nd rfl (by first | exact .inl rfl | exact .inr rfl) (pe_slice sl_list (pe_lst (pa_cons pe_str (pa_cons pe_str (pa_cons pe_str pa_nil)))) po_none (po_some (pe_op op_add pe_int (pe_cal c__law_take (hr.mono (by decide)) (by rfl) pass0 (pa_cons (pv 0) (pa_cons pe_int pa_nil))))))) (pss_one (ps_ret (pe_callTy call_tuple_of (by rfl) T.n_tuple boot_tuple (pa_cons (pe_lc (own := [(("_law_title" : Str), 3)]) (g := gName 3) (te := tTup (tCons (tVar 3) (tCons (tCall (spBRows K) [] E0 (tCons (tVar 0) (tCons (tVar 2) (tCons (tVar 1) tNil)))) tNil))) rfl sc__law_book.nd (pi_list (pv 2)) (blkOk_by (N := [("_law_box_here" : Str), ("_law_kinds" : Str), ("_law_titles" : Str), ("_law_title" : Str)]) (sc := defScope s__law_book) (by decide +kernel)) (fun _ _ _ _ _ => by exact (pg_name (i := 3) sc__law_book.nd rfl (by first | exact .inl rfl | exact .inr rfl))) (fun _ _ _ _ _ => pts_nil) (fun _ _ _ _ _ => (pe_tup (pa_cons (pv 3) (pa_cons (pe_cal c__law_rows (hr.mono (by decide)) (by rfl) pass0 (pa_cons (pv 0) (pa_cons (pv 2) (pa_cons (pv 1) pa_nil)))) pa_nil))))) pa_nil))))), ?_⟩
    refine ⟨(by show 3 ≤ sizeLine; decide), fun p1 hp1 => ?_⟩
    have s1 := same_upd (o := .lst [.str "a", .str "b", .str "zzzzzzzz"]) hp1
    have n1 := hb.nx hp1
    refine ⟨_, rfl, x, n, 3, rfl, hb.same s1, by omega, by decide, by decide, fun c H1 hc0 hc1 hb1 f1 => ?_⟩
    refine ⟨_, _, rfl, rfl, _, rfl, p1, _, rfl, .inl (.inl (f1 _ _ n1 n1 upd_same)), fun t ht => ?_⟩
    obtain ⟨ts, e, htt, ht0, htr, hta⟩ := tits3 hc0 hc1
    rw [e]
    have s2 := same_upd (o := .lst (ts.map V.str)) ht
    have ht2 : (upd H1 t (.lst (ts.map V.str))) t = some (.lst (ts.map V.str)) := upd_same
    have hb2 := hb1.same s2
    have ntx := hb1.nx ht
    have f2 : Off x x H (upd H1 t (.lst (ts.map V.str))) := (Off.of s1).trans (f1.trans (Off.of s2))
    generalize upd H1 t (.lst (ts.map V.str)) = H2 at hb2 ht2 f2 ⊢
    refine ⟨_, rfl, t, rfl, ⟨_, .inl (.inl ht2)⟩, fun D hD => ?_⟩
    have nDx := hb2.nx hD
    have nDt : D ≠ t := (ne_of_none ht2 hD).symm
    have hD0 : H D = none := f2.none nDx nDx hD
    refine lc_it (walk_list (K := K) (a := t) (xs := ts.map V.str)) (fun i H' => Box (n + 1 + 200 * i) x H' ∧ Off x x H H' ∧ H' t = some (.lst (ts.map V.str)) ∧ ∃ acc ps, H' D = some (.lst acc) ∧ DpAll K (off x x H') acc ps ∧ ps.map titleOf = ts.take i ∧ (∀ p ∈ ps, progOkN 9 p)) ?_ (fun i H' _ h => .inl (.inl h.2.2.1)) ?_ ?_
    · exact ⟨hb2.same (same_upd hD), f2.trans (Off.of (same_upd hD)), (same_upd hD) _ _ ht2, [], [], upd_same, .nil, rfl, by simp⟩
    · rintro i v H' H'' hi ⟨h1, h2, h3, acc, ps, h4, h5, h6, h7⟩ ⟨rfl, hv⟩
      rw [List.length_map] at hi
      rw [List.getElem?_map, List.getElem?_eq_getElem hi] at hv
      cases Option.some.inj hv
      have hi3 : i < 3 := Nat.lt_of_lt_of_le hi htt.1
      have hpl : ps.length = i := by
        have := congrArg List.length h6
        rw [List.length_map, List.length_take] at this
        omega
      refine ⟨rfl, _, rfl, _, rfl, _, rfl, _, rfl, x, t, _, kinds, ts, rfl, h1, by omega, ntx, h3, htt, fun q xs ds G hbG fG hq hds hl0 hl9 hrs => ?_⟩
      refine ⟨(by show 2 ≤ sizeLine; decide), fun r hr => ?_⟩
      have sr := same_upd (o := .tup [.str ts[i], .ref q]) hr
      have nrx := hbG.nx hr
      have hDG := fG D _ nDx nDx h4
      have hDr := sr _ _ hDG
      have az := hta _ (List.getElem_mem hi)
      have pk : progOkN 9 (.tuple [.str ts[i], .tuple ds]) := ⟨ts[i], ds, rfl, az.1, az.2.1, az.2.2, hl0, hl9, hrs⟩
      have dq : Dp K (off x x (upd G r (.tup [.str ts[i], .ref q]))) (.ref r) (.tuple [.str ts[i], .tuple ds]) := .tup (.inl (.inl (box_off hbG hr))) (.cons (.str _) (.cons (.tup (Same.tup (Off.of sr).same hq) (dpA_mono (Off.of sr).same hds)) .nil))
      have hal : acc.length = i := by rw [dpA_len h5, hpl]
      refine ⟨_, hDr, by rw [hal]; exact Nat.lt_of_lt_of_le hi3 (by decide), ?_, ?_, ?_, acc ++ [.ref r], ps ++ [.tuple [.str ts[i], .tuple ds]], upd_same, ?_, ?_, ?_⟩
      · exact ((hbG.same sr).mut nDx).mono (by omega)
      · exact (h2.trans (fG.trans (Off.of sr))).mut hD0
      · rw [upd_ne nDt.symm]
        exact sr _ _ (fG t _ ntx ntx h3)
      · exact dpA_app (dpA_grow hDr (fun d hd => prog_noLN (h7 d hd)) (dpA_mono (fG.trans (Off.of sr)).same h5)) (.cons (dp_grow hDr (prog_noLN pk) dq) .nil)
      · rw [List.map_append, h6, List.take_add_one, List.getElem?_eq_getElem hi]
        rfl
      · intro p hp
        rcases List.mem_append.mp hp with z | z
        · exact h7 p z
        · rw [List.mem_singleton.mp z]
          exact pk
    · rintro H3 ⟨h1, h2, h3, acc, ps, h4, h5, h6, h7⟩
      rw [List.length_map] at h1 h6
      rw [List.take_length] at h6
      have hpl : ps.length = ts.length := by
        have := congrArg List.length h6
        rw [List.length_map] at this
        exact this
      have h3l := htt.1
      refine ⟨D, _, rfl, .inl ⟨.inl (.inl h4), fun q hq => ?_⟩⟩
      have s4 := same_upd (o := .tup acc) hq
      exact k q acc ps _ ((h1.same s4).mono (by omega)) (h2.trans (Off.of s4)) (.inl (.inl (box_off h1 hq))) (dpA_mono (Off.of s4).same h5) h7 (by omega) (by omega) (by rw [h6]; exact htr)
end
end Kin
namespace Kin
open PySem PySem.Spec PyProof.Rows L2
section
variable {P : Program} {w : World} {K : PySem.W.Frag} {mg : Str → Option Value} {base : Heap} {tL : Tok} {es : Array DictEntry} {nF : Nat} {dvT : V}
def spLaw (K : PySem.W.Frag) : Sp := fun vs H Q _ => ∃ (a : Addr) (ns : List Int), vs = [.ref a] ∧ SqL K H a (ns.map V.int) ∧ ns.length ≤ 63 ∧ ∀ H', Q (.bl true) H'
theorem dp_nats {H : Hp} (l : List Nat) : DpAll K H (l.map fun (k : Nat) => V.int (k : Int)) (l.map fun (k : Nat) => PyData.int (k : Int)) := by
  induction l with
  | nil => exact .nil
  | cons k r ih => exact .cons (.int _) ih
theorem bk_of {u : Nat} : ∀ {ps : List PyData}, (∀ p ∈ ps, progOkN u p) → ∃ bk : List (Str × List PyData), ps = bk.map (fun p => PyData.tuple [.str p.1, .tuple p.2]) ∧ ∀ p ∈ bk, 1 ≤ p.1.length ∧ p.1.length ≤ 8 ∧ azAll p.1 = true ∧ 0 < p.2.length ∧ p.2.length ≤ u ∧ ∀ r ∈ p.2, rowOk r ∧ pRow r p.2.length = true
  | [], _ => ⟨[], rfl, by simp⟩
  | p :: r, h => by
    obtain ⟨z, rows, rfl, h1⟩ := h p List.mem_cons_self
    obtain ⟨bk, e, hb⟩ := bk_of fun q hq => h q (List.mem_cons_of_mem _ hq)
    refine ⟨(z, rows) :: bk, by rw [e]; rfl, fun q hq => ?_⟩
    rcases List.mem_cons.mp hq with rfl | q
    · exact h1
    · exact hb _ q
theorem twAll_le {B : Nat} : ∀ {ds : List PyData}, (∀ d ∈ ds, tw d ≤ B) → twAll ds ≤ ds.length * B
  | [], _ => by rw [twAll_nil]; exact Nat.zero_le _
  | d :: r, h => by
    rw [twAll_cons, List.length_cons, Nat.succ_mul]
    have h1 := h d List.mem_cons_self
    have h2 := twAll_le fun e he => h e (List.mem_cons_of_mem _ he)
    omega
theorem depthAll_le {B : Nat} : ∀ {ds : List PyData}, (∀ d ∈ ds, d.depth ≤ B) → PyData.depthAll ds ≤ B
  | [], _ => by rw [PyData.depthAll]; exact Nat.zero_le _
  | d :: r, h => by
    rw [PyData.depthAll]
    have h1 := h d List.mem_cons_self
    have h2 := depthAll_le fun e he => h e (List.mem_cons_of_mem _ he)
    omega
theorem bk_sz {bk : List (Str × List PyData)} (h : ∀ p ∈ bk, 1 ≤ p.1.length ∧ p.1.length ≤ 8 ∧ azAll p.1 = true ∧ 0 < p.2.length ∧ p.2.length ≤ 9 ∧ ∀ r ∈ p.2, rowOk r ∧ pRow r p.2.length = true) (hl : bk.length ≤ 3) : gd 1000000000 (bkD bk) = true ∧ tw (bkD bk) ≤ 10000 ∧ (bkD bk).depth ≤ 10 := by
  have hp : ∀ d ∈ bk.map (fun p => PyData.tuple [.str p.1, .tuple p.2]), gd 1000000000 d = true ∧ tw d ≤ 2000 ∧ d.depth ≤ 5 := fun d hd => by
    obtain ⟨p, hp, rfl⟩ := List.mem_map.mp hd
    obtain ⟨h1, h2, h3, h4, h5, h6⟩ := h p hp
    have hr : ∀ r ∈ p.2, gd 1000000000 r = true ∧ tw r ≤ 220 ∧ r.depth ≤ 3 := fun r hr => by
      obtain ⟨a1, a2⟩ := row_tw (h6 r hr).2 (by omega) (h6 r hr).1.2.2.2.2
      exact ⟨a1, a2, (row_sz (h6 r hr).2 (by omega) (h6 r hr).1.2.2.2.2).2.1⟩
    have t1 := twAll_le fun r hr' => (hr r hr').2.1
    have d1 := depthAll_le fun r hr' => (hr r hr').2.2
    refine ⟨gd_tup fun e he => ?_, ?_, ?_⟩
    · simp only [List.mem_cons, List.not_mem_nil, or_false] at he
      rcases he with rfl | rfl
      · exact gd_str (az_ch h3)
      · exact gd_tup fun r hr' => (hr r hr').1
    · rw [tw_tup, twAll_cons, twAll_cons, twAll_nil, tw_str, tw_tup]
      have : p.2.length * 220 ≤ 9 * 220 := Nat.mul_le_mul_right _ h5
      omega
    · rw [PyData.depth, PyData.depthAll, PyData.depthAll, PyData.depthAll, PyData.depth, PyData.depth]
      omega
  have t2 := twAll_le fun d hd => (hp d hd).2.1
  have d2 := depthAll_le fun d hd => (hp d hd).2.2
  rw [List.length_map] at t2
  refine ⟨gd_tup fun e he => (hp e he).1, ?_, ?_⟩
  · unfold bkD
    rw [tw_tup]
    have : bk.length * 2000 ≤ 3 * 2000 := Nat.mul_le_mul_right _ hl
    omega
  · unfold bkD
    rw [PyData.depth]
    omega
theorem bk_ok {bk : List (Str × List PyData)} {ps : List PyData} (e : ps = bk.map (fun p => PyData.tuple [.str p.1, .tuple p.2])) (hp : ∀ p ∈ bk, 1 ≤ p.1.length ∧ p.1.length ≤ 8 ∧ azAll p.1 = true ∧ 0 < p.2.length ∧ p.2.length ≤ 9 ∧ ∀ r ∈ p.2, rowOk r ∧ pRow r p.2.length = true) (h0 : 0 < ps.length) (h3 : ps.length ≤ 3) (hr : rise (ps.map titleOf) = true) : BkOk bk := by
  have hl : bk.length = ps.length := by rw [e, List.length_map]
  refine ⟨?_, len_tw (by have := (bk_sz hp (by omega)).2.1; omega), by omega⟩
  show (!(bk.map fun p => PyData.tuple [.str p.1, .tuple p.2]).isEmpty && ((bk.map fun p => PyData.tuple [.str p.1, .tuple p.2]).all pProg && rise ((bk.map fun p => PyData.tuple [.str p.1, .tuple p.2]).map titleOf))) = true
  rw [← e, hr, Bool.and_true]
  have h1 : ps.isEmpty = false := by
    cases ps with
    | nil => cases h0
    | cons _ _ => rfl
  rw [h1, e]
  show (bk.map fun p => PyData.tuple [.str p.1, .tuple p.2]).all pProg = true
  rw [List.all_eq_true]
  intro d hd
  obtain ⟨p, hp', rfl⟩ := List.mem_map.mp hd
  obtain ⟨h1, h2, h3, h4, h5, h6⟩ := hp p hp'
  show (pTitle (.str p.1) && (!p.2.isEmpty && p.2.all fun r => pRow r p.2.length)) = true
  have t : pTitle (.str p.1) = true := by
    show (decide (1 ≤ p.1.length) && decide (p.1.length ≤ 8) && azAll p.1) = true
    rw [decide_eq_true h1, decide_eq_true h2, h3]
    rfl
  have r : (p.2.all fun r => pRow r p.2.length) = true := List.all_eq_true.mpr fun r hr => (h6 r hr).2
  have n : p.2.isEmpty = false := by
    cases q : p.2 with
    | nil => rw [q] at h4; cases h4
    | cons _ _ => rfl
  rw [t, r, n]
  rfl
theorem make_same {G H' : Hp} {x dx C : Addr} (nx : G x = none) (nd : G dx = none) (ne : dx ≠ x) (o : Off x x (upd (upd G dx (.own x)) x (.ins C dx [])) H') : Same G H' := fun b u e => by
  have b1 : b ≠ x := ne_of_none e nx
  have b2 : b ≠ dx := ne_of_none e nd
  exact o b u b1 b1 (by rw [upd_ne b1, upd_ne b2]; exact e)
theorem make_old {G : Hp} {x dx C : Addr} (nx : G x = none) (nd : G dx = none) (ne : dx ≠ x) : Same G (upd (upd G dx (.own x)) x (.ins C dx [])) := make_same nx nd ne Off.refl
theorem rising1 {H : Hp} {n : Nm} {ks : List (Addr × Nm)} (h : Rising H [n] ks) : ∃ b, ks = [(b, n)] ∧ H b = some (.tup (nmV n)) := by
  obtain ⟨h1, _, h3⟩ := h
  have e := List.perm_singleton.mp h1
  match ks, e with
  | [(b, m)], e =>
    have e : m = n := (List.cons.inj e).1
    subst e
    exact ⟨b, rfl, h3 _ List.mem_cons_self⟩
  | [], e => cases e
  | _ :: _ :: _, e => cases (List.cons.inj e).2
/-- what is told of a house that begins -/
def dueD (title : Str) (ty : List Nat) : PyData := .list [.tuple [nmD []], .tuple (ps0 none [] [] title).ds, .tuple [nmD []], nmD [], qD ty, .int 1]
theorem due_sh {title : Str} {ty : List Nat} (h1 : title.length ≤ 8) (h2 : azAll title = true) (h3 : ty.length ≤ 3) (h4 : ∀ k ∈ ty, k ≤ 99) : shOk (dueD title ty) := by
  have hq : gd 1000 (qD ty) = true ∧ tw (qD ty) ≤ 10 ∧ (qD ty).depth ≤ 1 := by
    refine ⟨gd_tup fun d hd => ?_, ?_, ?_⟩
    · obtain ⟨k, hk, rfl⟩ := List.mem_map.mp hd
      have := h4 k hk
      exact gd_int (by omega)
    · unfold qD
      rw [tw_tup]
      have := twAll_le (B := 1) (ds := ty.map fun (k : Nat) => PyData.int (k : Int)) fun d hd => by
        obtain ⟨k, hk, rfl⟩ := List.mem_map.mp hd
        rw [tw]
        exact Nat.le_refl _
      rw [List.length_map] at this
      omega
    · unfold qD
      rw [PyData.depth]
      have := depthAll_le (B := 0) (ds := ty.map fun (k : Nat) => PyData.int (k : Int)) fun d hd => by
        obtain ⟨k, hk, rfl⟩ := List.mem_map.mp hd
        rw [PyData.depth]
        exact Nat.le_refl _
      omega
  have hn : gd 1000 (nmD []) = true ∧ tw (nmD []) ≤ 10 ∧ (nmD []).depth ≤ 1 := by decide +kernel
  have hd : ∀ d ∈ (ps0 none [] [] title).ds, gd 1000 d = true ∧ tw d ≤ 10 ∧ d.depth ≤ 1 := by
    intro d hd
    have e : (ps0 none [] [] title).ds = [.none, nmD [], nmD [], .str "runs", .none, .str title, .int 0, .int 0, .tuple [], .tuple [], .tuple [], .tuple [], .int 0, .bool false, .bool false, .none] := rfl
    rw [e] at hd
    simp only [List.mem_cons, List.not_mem_nil, or_false] at hd
    rcases hd with rfl | rfl | rfl | rfl | rfl | rfl | rfl | rfl | rfl | rfl | rfl | rfl | rfl | rfl | rfl | rfl
    all_goals first
      | decide +kernel
      | exact ⟨gd_str (az_ch h2), by show tw (.str title) ≤ 10; rw [tw_str]; omega, by show PyData.depth (.str title) ≤ 1; rw [PyData.depth]; decide⟩
  have ht : gd 1000 (.tuple (ps0 none [] [] title).ds) = true ∧ tw (.tuple (ps0 none [] [] title).ds) ≤ 200 ∧ (PyData.tuple (ps0 none [] [] title).ds).depth ≤ 3 := by
    refine ⟨gd_tup fun d hd' => (hd d hd').1, ?_, ?_⟩
    · rw [tw_tup]
      have := twAll_le fun d hd' => (hd d hd').2.1
      have e : (ps0 none [] [] title).ds.length = 16 := rfl
      rw [e] at this
      omega
    · rw [PyData.depth]
      have := depthAll_le fun d hd' => (hd d hd').2.2
      omega
  have hn1 : gd 1000 (.tuple [nmD []]) = true ∧ tw (.tuple [nmD []]) ≤ 20 ∧ (PyData.tuple [nmD []]).depth ≤ 3 := by decide +kernel
  have hi : gd 1000 (.int 1) = true ∧ tw (.int 1) ≤ 1 ∧ (PyData.int 1).depth ≤ 0 := by decide +kernel
  refine sh_ok (b := 1000) (by decide) (gd_list fun d hd' => ?_) ?_ ?_
  · simp only [List.mem_cons, List.not_mem_nil, or_false] at hd'
    rcases hd' with rfl | rfl | rfl | rfl | rfl | rfl
    · exact hn1.1
    · exact ht.1
    · exact hn1.1
    · exact hn.1
    · exact hq.1
    · exact hi.1
  · unfold dueD
    rw [tw_list, twAll_cons, twAll_cons, twAll_cons, twAll_cons, twAll_cons, twAll_cons, twAll_nil]
    have := hn1.2.1; have := ht.2.1; have := hn.2.1; have := hq.2.1; have := hi.2.1
    omega
  · unfold dueD
    rw [PyData.depth, PyData.depthAll, PyData.depthAll, PyData.depthAll, PyData.depthAll, PyData.depthAll, PyData.depthAll, PyData.depthAll]
    have := hn1.2.2; have := ht.2.2; have := hn.2.2; have := hq.2.2; have := hi.2.2
    omega
abbrev s_law : Stmt := topS 62
theorem sc_law : FnScope [("_law_script" : Str), ("_law_k" : Str), ("_law_box_here" : Str), ("_law_book_here" : Str), ("_law_kept" : Str), ("_law_title" : Str), ("_law_numbers" : Str), ("_law_turn" : Str), ("_law_due" : Str), ("_law_house" : Str), ("_law_told" : Str), ("_law_found" : Str)] ["_law_script"] (defScope s_law) := ⟨rfl, rfl, rfl, by decide +kernel, rfl, by decide +kernel, by decide +kernel⟩
theorem ok_law {f : Addr} {fd : FuncData} (F : FnP K "law" s_law f fd) (T : Bi K w mg tL es nF) (Z : Cz K mg) (hT : ∀ H, Dp K H dvT (qD [])) (mods : ∃ mm, base.Ns sysModules mm) (c__law_box : Cal P w K mg base "_law_box" ["_law_script", "_law_k"] 1 (spBox K)) (c__law_book : Cal P w K mg base "_law_book" ["_law_box_here", "_law_kinds"] 5 (spBBook K)) (c__law_take : Cal P w K mg base "_law_take" ["_law_box_here", "_law_many"] 1 spTake) (k_House : CalH P w K mg base (He.ga K "House") ["self", "book", "title", "typed"] "typed" 2 dvT 10 (spIniH K)) (m_House_names : CalM P w K mg base (He.ga K "House") "names" ["self"] 1 (spNames K)) (m_House_person : CalM P w K mg base (He.ga K "House") "person" ["self", "name"] 4 (spPerson K)) (m_House_sessions : CalM P w K mg base (He.ga K "House") "sessions" ["self"] 1 (spSessions K)) (m_House_front : CalM P w K mg base (He.ga K "House") "front" ["self", "session"] 5 (spFront K)) (m_House_typed : CalM P w K mg base (He.ga K "House") "typed" ["self", "session"] 5 (spTyped K)) (m_House___len__ : CalM P w K mg base (He.ga K "House") "__len__" ["self"] 1 (spLen K)) : FnG P w K mg base CX0 12 f fd ["_law_script"] (spLaw K) := by
  refine okG F sc_law (fun vs H Q E h => ?_) (fun cdv A outer s H vs Q E hG hr h => ?_)
  · obtain ⟨a, ns, rfl, _⟩ := h
    rfl
  · obtain ⟨a, ns, rfl, ha, hns, kk⟩ := h
    refine ⟨_, PSs.nox (pss_cons (ps_for PassesOwn.never rfl (pi_range1 (by rfl) T.n_range (pa_cons (pe_op op_add pe_int (pe_callB call_len_seq (by rfl) T.n_len PySem.boot_len (pa_cons (pe_slice sl_list (pv 0) po_none (po_some pe_int)) pa_nil))) pa_nil)) (pg_name (i := 1) sc_law.nd rfl (by first | exact .inl rfl | exact .inr rfl)) (pss_cons (ps_set (i := 2) sc_law.nd rfl (by first | exact .inl rfl | exact .inr rfl) (pe_cal c__law_box (hr.mono (by decide)) (by rfl) pass0 (pa_cons (pv 0) (pa_cons (pv 1) pa_nil)))) (pss_cons (ps_set (i := 3) sc_law.nd rfl (by first | exact .inl rfl | exact .inr rfl) (pe_cal c__law_book (hr.mono (by decide)) (by rfl) pass0 (pa_cons (pv 2) (pa_cons pe_int pa_nil)))) (pss_cons (ps_par (i := 4) (j := 5) rfl sc_law.nd rfl rfl (by decide) rfl rfl (pa_cons (pe_callB (call_reprD hr hG mods) (by rfl) T.n_repr boot_repr (pa_cons (pv 3) pa_nil)) (pa_cons (pe_ix ix_tup (pe_ix ix_tup (pv 3) (pe_cal c__law_take (hr.mono (by decide)) (by rfl) pass0 (pa_cons (pv 2) (pa_cons (pe_callB call_len_seq (by rfl) T.n_len PySem.boot_len (pa_cons (pv 3) pa_nil)) pa_nil))) (fun _ _ => rfl)) pe_int (fun _ _ => rfl)) pa_nil)) (by rfl)) (pss_cons (ps_set (i := 6) sc_law.nd rfl (by first | exact .inl rfl | exact .inr rfl) (pe_callTy call_tuple_of (by rfl) T.n_tuple boot_tuple (pa_cons (pe_lc (own := [(("_law_turn" : Str), 7)]) (g := gName 7) (te := tOp (rIxL K) (tLst (tCons (tC (.int 0)) (tCons (tC (.int 99)) (tCons (tCall spTake [] E0 (tCons (tVar 2) (tCons (tC (.int 100)) tNil))) tNil)))) (tCall spTake [] E0 (tCons (tVar 2) (tCons (tC (.int 3)) tNil)))) rfl sc_law.nd (pi_range1 (by rfl) T.n_range (pa_cons (pe_cal c__law_take (hr.mono (by decide)) (by rfl) pass0 (pa_cons (pv 2) (pa_cons pe_int pa_nil))) pa_nil)) (blkOk_by (N := [("_law_script" : Str), ("_law_k" : Str), ("_law_box_here" : Str), ("_law_book_here" : Str), ("_law_kept" : Str), ("_law_title" : Str), ("_law_numbers" : Str), ("_law_turn" : Str), ("_law_due" : Str), ("_law_house" : Str), ("_law_told" : Str), ("_law_found" : Str)]) (sc := defScope s_law) (by decide +kernel)) (fun _ _ _ _ _ => by exact (pg_name (i := 7) sc_law.nd rfl (by first | exact .inl rfl | exact .inr rfl))) (fun _ _ _ _ _ => pts_nil) (fun _ _ _ _ _ => (pe_ix ix_list (pe_lst (pa_cons pe_int (pa_cons pe_int (pa_cons (pe_cal c__law_take (hr.mono (by decide)) (by rfl) pass0 (pa_cons (pv 2) (pa_cons pe_int pa_nil))) pa_nil)))) (pe_cal c__law_take (hr.mono (by decide)) (by rfl) pass0 (pa_cons (pv 2) (pa_cons pe_int pa_nil))) (fun _ _ => rfl)))) pa_nil))) (pss_cons (ps_set (i := 8) sc_law.nd rfl (by first | exact .inl rfl | exact .inr rfl) (pe_tup (pa_cons pe_non (pa_cons (pe_tup pa_nil) (pa_cons (pe_tup pa_nil) (pa_cons pe_str (pa_cons pe_non (pa_cons (pv 5) (pa_cons pe_int (pa_cons pe_int (pa_cons (pe_tup pa_nil) (pa_cons (pe_tup pa_nil) (pa_cons (pe_tup pa_nil) (pa_cons (pe_tup pa_nil) (pa_cons pe_int (pa_cons pe_bl (pa_cons pe_bl (pa_cons pe_non pa_nil)))))))))))))))))) (pss_one (ps_for PassesOwn.never rfl (pi_list (pe_lst (pa_cons (pe_tup (pa_cons (pe_calHk k_House (hr.mono (by decide)) (by rfl) Z.gH pass0 (pa_cons (pv 3) (pa_cons (pv 5) pa_nil)) (pk_cons (pv 6) pk_nil)) (pa_cons (pv 6) pa_nil))) (pa_cons (pe_tup (pa_cons (pe_calH k_House (hr.mono (by decide)) (by rfl) Z.gH pass0 (pa_cons (pv 3) (pa_cons (pv 5) pa_nil))) (pa_cons (pe_tup pa_nil) pa_nil))) pa_nil)))) (pg_tup rfl (pgs_cons (pg_name (i := 9) sc_law.nd rfl (by first | exact .inl rfl | exact .inr rfl)) (pgs_cons (pg_name (i := 10) sc_law.nd rfl (by first | exact .inl rfl | exact .inr rfl)) pgs_nil))) (pss_cons (ps_set (i := 11) sc_law.nd rfl (by first | exact .inl rfl | exact .inr rfl) (pe_lst (pa_cons (pe_calM0 m_House_names (hr.mono (by decide)) pass0 (pv 9)) (pa_cons (pe_calM m_House_person (hr.mono (by decide)) pass0 (pv 9) (pa_cons (pe_tup pa_nil) pa_nil)) (pa_cons (pe_calM0 m_House_sessions (hr.mono (by decide)) pass0 (pv 9)) (pa_cons (pe_calM m_House_front (hr.mono (by decide)) pass0 (pv 9) (pa_cons (pe_tup pa_nil) pa_nil)) (pa_cons (pe_calM m_House_typed (hr.mono (by decide)) pass0 (pv 9) (pa_cons (pe_tup pa_nil) pa_nil)) (pa_cons (pe_callB (call_lenC m_House___len__ (hr.mono (by decide)) pass0) (by rfl) T.n_len PySem.boot_len (pa_cons (pv 9) pa_nil)) pa_nil)))))))) (pss_one (ps_if (PW.pt (pw_or (pt_cmpR op_ne (pe_callB (call_reprD hr hG mods) (by rfl) T.n_repr boot_repr (pa_cons (pv 11) pa_nil)) (pe_callB (call_reprD hr hG mods) (by rfl) T.n_repr boot_repr (pa_cons (pe_lst (pa_cons (pe_tup (pa_cons (pe_tup pa_nil) pa_nil)) (pa_cons (pv 8) (pa_cons (pe_tup (pa_cons (pe_tup pa_nil) pa_nil)) (pa_cons (pe_tup pa_nil) (pa_cons (pv 10) (pa_cons pe_int pa_nil))))))) pa_nil)) (nomark _)) (pw_or1 (pt_cmpR op_ne (pe_callB (call_reprD hr hG mods) (by rfl) T.n_repr boot_repr (pa_cons (pv 3) pa_nil)) (pv 4) (nomark _))))) (pss_one (ps_ret pe_bl)) pss_nil))))))))))) (pss_one (ps_ret pe_bl))), ?_⟩
    refine ⟨_, rfl, _, rfl, a, _, rfl, ha, fun p0 np0 => ?_⟩
    have sp0 := same_upd (o := .lst (cutV (ns.map V.int) none (some 4))) np0
    refine ⟨p0, _, rfl, .inl sqL_new, _, _, rfl, rfl, _, rfl, by omega, ?_, ?_⟩
    · have := cutV_length (ns.map V.int) none (some 4)
      rw [List.length_map] at this
      omega
    have hcl : (cutV (ns.map V.int) none (some 4)).length ≤ 63 := by
      have := cutV_length (ns.map V.int) none (some 4)
      rw [List.length_map] at this
      omega
    generalize (cutV (ns.map V.int) none (some 4)).length = cl at hcl ⊢
    refine for_range (lo := 0) (n := (1 + (cl : Int)).toNat) (fun i σ H' => ∃ y1 y2 y3 y4 y5 y6 y7 y8 y9 y10 y11, σ = [some (.ref a), y1, y2, y3, y4, y5, y6, y7, y8, y9, y10, y11] ∧ SqL K H' a (ns.map V.int))
      ⟨none, none, none, none, none, none, none, none, none, none, none, rfl, sp0.seq ha⟩ ?_ (fun σ H' _ => kk H')
    rintro i0 σ G0 hi ⟨y1, y2, y3, y4, y5, y6, y7, y8, y9, y10, y11, rfl, hsc⟩
    refine ⟨_, rfl, _, rfl, a, ns, 0 + (i0 : Int), rfl, hsc, by omega, by omega, fun x G1 s1 nx hb => ?_⟩
    refine ⟨_, rfl, x, 0, 7, rfl, hb, by decide, fun b xs ps G2 hb2 f2 hsq hds hpk hp0 hp3 hri => ?_⟩
    obtain ⟨bk, hbk, hbr⟩ : ∃ bk : List (Str × List PyData), ps = bk.map (fun p => PyData.tuple [.str p.1, .tuple p.2]) ∧ ∀ p ∈ bk, 1 ≤ p.1.length ∧ p.1.length ≤ 8 ∧ azAll p.1 = true ∧ 0 < p.2.length ∧ p.2.length ≤ 9 ∧ ∀ r ∈ p.2, rowOk r ∧ pRow r p.2.length = true := bk_of hpk
    have hbo : BkOk bk := bk_ok hbk hbr hp0 hp3 hri
    have hgb : gd 1000000000 (bkD bk) = true ∧ tw (bkD bk) ≤ 10000 ∧ (bkD bk).depth ≤ 10 := bk_sz hbr (by rw [hbk, List.length_map] at hp3; exact hp3)
    have hshb : shOk (bkD bk) := sh_ok (by decide) hgb.1 (by omega) (by omega)
    have dbk : Dp K (off x x G2) (.ref b) (bkD bk) := .tup hsq (by rw [← hbk]; exact hds)
    -- kept, title
    refine ⟨_, rfl, _, _, rfl, dp_off dbk, hshb, ?_⟩
    have hxl := dpA_len hds
    refine ⟨_, rfl, _, rfl, _, rfl, b, _, rfl, .inr (Same.tup off_sub hsq), x, 700, _, rfl, hb2, by decide, by omega, by omega, fun j G3 hj0 hj1 hb3 f3 => ?_⟩
    obtain ⟨v, hv, hvm⟩ := atI_l (xs := xs) hj0 hj1
    obtain ⟨vi, hvi⟩ := List.getElem?_of_mem hvm
    obtain ⟨dv, hdv1, hdv2⟩ := dpA_get hds hvi
    rw [hbk] at hdv1
    obtain ⟨p, hp, rfl⟩ : ∃ p ∈ bk, dv = PyData.tuple [.str p.1, .tuple p.2] := by
      obtain ⟨p, hp, e⟩ := List.mem_map.mp (List.mem_of_getElem? hdv1)
      exact ⟨p, hp, e.symm⟩
    obtain ⟨q, rv, rfl, hq, hrv⟩ := prog_inv hdv2
    refine ⟨b, xs, j, .ref q, rfl, rfl, Same.tup off_sub (Same.tup f3.same hsq), hv, ?_⟩
    refine ⟨q, _, 0, .str p.1, rfl, rfl, Same.tup off_sub (Same.tup f3.same hq), rfl, ?_⟩
    refine ⟨_, _, rfl, ?_⟩
    -- numbers
    refine ⟨_, rfl, x, 701, 4, rfl, hb3, by decide, by decide, by decide, fun m G4 hm0 hm1 hb4 f4 => ⟨m, rfl, by omega, by omega, fun D hD => ?_⟩⟩
    have nDx := hb4.nx hD
    refine lc_it (walk_range (lo := 0) (n := m.toNat)) (fun i H' => Box (702 + 2 * i) x H' ∧ Off x x G4 H' ∧ ∃ ty : List Nat, H' D = some (.lst (ty.map fun (k : Nat) => V.int (k : Int))) ∧ ty.length = i ∧ ∀ k ∈ ty, k ≤ 99) ⟨hb4.same (same_upd hD), Off.of (same_upd hD), [], upd_same, rfl, by simp⟩ (fun _ _ _ _ => True.intro) ?_ ?_
    · rintro i v H' H'' hi' ⟨h1, h2, ty, h3, h4, h5⟩ ⟨rfl, rfl⟩
      refine ⟨rfl, ?_⟩
      refine ⟨_, rfl, x, _, 100, rfl, h1, by omega, by decide, by decide, fun c G5 hc0 hc1 hb5 f5 => ?_⟩
      refine ⟨(by show 3 ≤ sizeLine; decide), fun l1 nl1 => ?_⟩
      have s6 := same_upd (o := .lst [.int 0, .int 99, .int c]) nl1
      refine ⟨_, rfl, x, _, 3, rfl, hb5.same s6, by omega, by decide, by decide, fun i2 G6 hi0 hi1 hb6 f6 => ?_⟩
      obtain ⟨v, hv, hvm⟩ := atI_l (xs := [V.int 0, .int 99, .int c]) hi0 hi1
      refine ⟨l1, _, i2, v, rfl, rfl, .inl (.inl (f6 _ _ (hb5.nx nl1) (hb5.nx nl1) upd_same)), hv, ?_⟩
      obtain ⟨e, rfl, he⟩ : ∃ e : Nat, v = .int (e : Int) ∧ e ≤ 99 := by
        simp only [List.mem_cons, List.not_mem_nil, or_false] at hvm
        rcases hvm with rfl | rfl | rfl
        · exact ⟨0, rfl, by decide⟩
        · exact ⟨99, rfl, by decide⟩
        · exact ⟨c.toNat, by rw [Int.toNat_of_nonneg hc0], by omega⟩
      have fA := f5.trans ((Off.of s6).trans f6)
      refine ⟨_, fA D _ nDx nDx h3, ?_, (hb6.mut nDx).mono (by omega), (h2.trans fA).mut hD, ty ++ [e], ?_, ?_, ?_⟩
      · rw [List.length_map, h4]
        exact Nat.lt_of_lt_of_le (show i < 10 by omega) (by decide)
      · rw [upd_same, List.map_append]
        rfl
      · rw [List.length_append, h4]
        rfl
      · intro k hk
        rcases List.mem_append.mp hk with z | z
        · exact h5 k z
        · rw [List.mem_singleton.mp z]
          exact he
    rintro G5 ⟨hb5, f5, ty, h3, h4, h5⟩
    refine ⟨D, _, rfl, .inl ⟨.inl (.inl h3), fun tn ntn => ?_⟩⟩
    have s6 := same_upd (o := .tup (ty.map fun (k : Nat) => V.int (k : Int))) ntn
    have ftot : Off x x G2 (upd G5 tn (.tup (ty.map fun (k : Nat) => V.int (k : Int)))) := f3.trans (f4.trans (f5.trans (Off.of s6)))
    have hsc6 : SqL K (upd G5 tn (.tup (ty.map fun (k : Nat) => V.int (k : Int)))) a (ns.map V.int) := by
      have fs : Same G0 (upd G5 tn (.tup (ty.map fun (k : Nat) => V.int (k : Int)))) := fun c o e => (f2.trans ftot) c o (ne_of_none e nx) (ne_of_none e nx) (s1 _ _ e)
      exact fs.seq hsc
    have dbk6 : Dp K (upd G5 tn (.tup (ty.map fun (k : Nat) => V.int (k : Int)))) (.ref b) (bkD bk) := dp_off (dp_mono ftot.same dbk)
    have dtn : Dp K (upd G5 tn (.tup (ty.map fun (k : Nat) => V.int (k : Int)))) (.ref tn) (qD ty) := .tup (.inl (.inl upd_same)) (dp_nats ty)
    generalize upd G5 tn (.tup (ty.map fun (k : Nat) => V.int (k : Int))) = G6 at hsc6 dbk6 dtn ⊢
    have htl : ty.length ≤ 3 := by omega
    clear s6 ftot h3 f5 hb5 hb4 f4 hb3 f3 hb2 f2 hb s1 ntn hD nDx
    obtain ⟨htz1, htz2, htz3, _⟩ := hbr p hp
    have hmem : p.1 ∈ bk.map (·.1) := List.mem_map.mpr ⟨p, hp, rfl⟩
    have hnil : nmOk [] := ⟨by decide, fun k hk => by cases hk⟩
    -- due
    refine ⟨Nat.zero_le _, fun t1 n1 => ?_⟩
    have u1 := same_upd (o := .tup []) n1
    refine ⟨Nat.zero_le _, fun t2 n2 => ?_⟩
    have u2 := same_upd (o := .tup []) n2
    refine ⟨_, rfl, Nat.zero_le _, fun t3 n3 => ?_⟩
    have u3 := same_upd (o := .tup []) n3
    refine ⟨Nat.zero_le _, fun t4 n4 => ?_⟩
    have u4 := same_upd (o := .tup []) n4
    refine ⟨Nat.zero_le _, fun t5 n5 => ?_⟩
    have u5 := same_upd (o := .tup []) n5
    refine ⟨Nat.zero_le _, fun t6 n6 => ?_⟩
    have u6 := same_upd (o := .tup []) n6
    refine ⟨(show (16 : Nat) ≤ sizeLine by decide), fun td ntd => ?_⟩
    have u7 := same_upd (o := .tup [.non, .ref t1, .ref t2, .str "runs", .non, .str p.1, .int 0, .int 0, .ref t3, .ref t4, .ref t5, .ref t6, .int 0, .bl false, .bl false, .non]) ntd
    have dd : Dp K (upd (upd (upd (upd (upd (upd (upd G6 t1 (.tup [])) t2 (.tup [])) t3 (.tup [])) t4 (.tup [])) t5 (.tup [])) t6 (.tup [])) td (.tup [.non, .ref t1, .ref t2, .str "runs", .non, .str p.1, .int 0, .int 0, .ref t3, .ref t4, .ref t5, .ref t6, .int 0, .bl false, .bl false, .non])) (.ref td) (.tuple (ps0 none [] [] p.1).ds) := by
      refine .tup sqT_new ?_
      have z1 : Dp K (upd (upd (upd (upd (upd (upd (upd G6 t1 (.tup [])) t2 (.tup [])) t3 (.tup [])) t4 (.tup [])) t5 (.tup [])) t6 (.tup [])) td (.tup [.non, .ref t1, .ref t2, .str "runs", .non, .str p.1, .int 0, .int 0, .ref t3, .ref t4, .ref t5, .ref t6, .int 0, .bl false, .bl false, .non])) (.ref t1) (.tuple []) := .tup (Same.tup (u2.trans (u3.trans (u4.trans (u5.trans (u6.trans u7))))) sqT_new) .nil
      have z2 : Dp K (upd (upd (upd (upd (upd (upd (upd G6 t1 (.tup [])) t2 (.tup [])) t3 (.tup [])) t4 (.tup [])) t5 (.tup [])) t6 (.tup [])) td (.tup [.non, .ref t1, .ref t2, .str "runs", .non, .str p.1, .int 0, .int 0, .ref t3, .ref t4, .ref t5, .ref t6, .int 0, .bl false, .bl false, .non])) (.ref t2) (.tuple []) := .tup (Same.tup (u3.trans (u4.trans (u5.trans (u6.trans u7)))) sqT_new) .nil
      have z3 : Dp K (upd (upd (upd (upd (upd (upd (upd G6 t1 (.tup [])) t2 (.tup [])) t3 (.tup [])) t4 (.tup [])) t5 (.tup [])) t6 (.tup [])) td (.tup [.non, .ref t1, .ref t2, .str "runs", .non, .str p.1, .int 0, .int 0, .ref t3, .ref t4, .ref t5, .ref t6, .int 0, .bl false, .bl false, .non])) (.ref t3) (.tuple []) := .tup (Same.tup (u4.trans (u5.trans (u6.trans u7))) sqT_new) .nil
      have z4 : Dp K (upd (upd (upd (upd (upd (upd (upd G6 t1 (.tup [])) t2 (.tup [])) t3 (.tup [])) t4 (.tup [])) t5 (.tup [])) t6 (.tup [])) td (.tup [.non, .ref t1, .ref t2, .str "runs", .non, .str p.1, .int 0, .int 0, .ref t3, .ref t4, .ref t5, .ref t6, .int 0, .bl false, .bl false, .non])) (.ref t4) (.tuple []) := .tup (Same.tup (u5.trans (u6.trans u7)) sqT_new) .nil
      have z5 : Dp K (upd (upd (upd (upd (upd (upd (upd G6 t1 (.tup [])) t2 (.tup [])) t3 (.tup [])) t4 (.tup [])) t5 (.tup [])) t6 (.tup [])) td (.tup [.non, .ref t1, .ref t2, .str "runs", .non, .str p.1, .int 0, .int 0, .ref t3, .ref t4, .ref t5, .ref t6, .int 0, .bl false, .bl false, .non])) (.ref t5) (.tuple []) := .tup (Same.tup (u6.trans u7) sqT_new) .nil
      have z6 : Dp K (upd (upd (upd (upd (upd (upd (upd G6 t1 (.tup [])) t2 (.tup [])) t3 (.tup [])) t4 (.tup [])) t5 (.tup [])) t6 (.tup [])) td (.tup [.non, .ref t1, .ref t2, .str "runs", .non, .str p.1, .int 0, .int 0, .ref t3, .ref t4, .ref t5, .ref t6, .int 0, .bl false, .bl false, .non])) (.ref t6) (.tuple []) := .tup (Same.tup u7 sqT_new) .nil
      exact .cons .non (.cons z1 (.cons z2 (.cons (.str _) (.cons .non (.cons (.str _) (.cons (.int _) (.cons (.int _) (.cons z3 (.cons z4 (.cons z5 (.cons z6 (.cons (.int _) (.cons (.bl _) (.cons (.bl _) (.cons .non .nil)))))))))))))))
    have u : Same G6 (upd (upd (upd (upd (upd (upd (upd G6 t1 (.tup [])) t2 (.tup [])) t3 (.tup [])) t4 (.tup [])) t5 (.tup [])) t6 (.tup [])) td (.tup [.non, .ref t1, .ref t2, .str "runs", .non, .str p.1, .int 0, .int 0, .ref t3, .ref t4, .ref t5, .ref t6, .int 0, .bl false, .bl false, .non])) := u1.trans (u2.trans (u3.trans (u4.trans (u5.trans (u6.trans u7)))))
    generalize upd (upd (upd (upd (upd (upd (upd G6 t1 (.tup [])) t2 (.tup [])) t3 (.tup [])) t4 (.tup [])) t5 (.tup [])) t6 (.tup [])) td (.tup [.non, .ref t1, .ref t2, .str "runs", .non, .str p.1, .int 0, .int 0, .ref t3, .ref t4, .ref t5, .ref t6, .int 0, .bl false, .bl false, .non]) = G7 at u dd ⊢
    clear u1 u2 u3 u4 u5 u6 u7
    have hsc7 := u.seq hsc6
    have dbk7 := dp_mono u dbk6
    have dtn7 := dp_mono u dtn
    -- two houses
    refine ⟨_, rfl, _, rfl, _, rfl, rfl, rfl, fun h1 dx1 nh1 nd1 ne1 => ?_⟩
    have w1 := make_old (C := He.ga K "House") nh1 nd1 ne1
    refine ⟨h1, dx1, _, _, bk, p.1, ty, rfl, upd_same, dp_mono w1 dbk7, hbo, hmem, dp_mono w1 dtn7, h5, by omega, fun d1 G8 o8 _ hA1 => ⟨rfl, ?_⟩⟩
    have s8 := make_same nh1 nd1 ne1 o8
    refine ⟨_, rfl, (by show 2 ≤ sizeLine; decide), fun q1 nq1 => ?_⟩
    have s9 := same_upd (o := .tup [.ref h1, .ref tn]) nq1
    have hq1 : (upd G8 q1 (.tup [.ref h1, .ref tn])) q1 = some (.tup [.ref h1, .ref tn]) := upd_same
    have hA1' := hA1.keep s9
    have s79 := s8.trans s9
    generalize upd G8 q1 (.tup [.ref h1, .ref tn]) = G9 at hq1 hA1' s79 ⊢
    clear s8 s9 o8 hA1 w1
    refine ⟨_, rfl, _, rfl, fun h2 dx2 nh2 nd2 ne2 => ?_⟩
    have w2 := make_old (C := He.ga K "House") nh2 nd2 ne2
    refine ⟨h2, dx2, _, _, bk, p.1, [], rfl, upd_same, dp_mono w2 (dp_mono s79 dbk7), hbo, hmem, hT _, by simp, by decide, fun d2 G10 o10 _ hA2 => ⟨rfl, ?_⟩⟩
    have s10 := make_same nh2 nd2 ne2 o10
    refine ⟨Nat.zero_le _, fun e0 ne0 => ?_⟩
    have s11 := same_upd (o := .tup []) ne0
    refine ⟨(by show 2 ≤ sizeLine; decide), fun q2 nq2 => ?_⟩
    have s12 := same_upd (o := .tup [.ref h2, .ref e0]) nq2
    refine ⟨(by show 2 ≤ sizeLine; decide), fun L nL => ?_⟩
    have s13 := same_upd (o := .lst [.ref q1, .ref q2]) nL
    have hL : (upd (upd (upd G10 e0 (.tup [])) q2 (.tup [.ref h2, .ref e0])) L (.lst [.ref q1, .ref q2])) L = some (.lst [.ref q1, .ref q2]) := upd_same
    have hq2 := s13 _ _ (upd_same (H := upd G10 e0 (.tup [])) (a := q2) (o := .tup [.ref h2, .ref e0]))
    have he0 := (s12.trans s13) _ _ (upd_same (H := G10) (a := e0) (o := .tup []))
    have hA2' := hA2.keep (s11.trans (s12.trans s13))
    have hA1'' := hA1'.keep (s10.trans (s11.trans (s12.trans s13)))
    have hq1' := (s10.trans (s11.trans (s12.trans s13))) _ _ hq1
    have sall := s79.trans (s10.trans (s11.trans (s12.trans s13)))
    generalize upd (upd (upd G10 e0 (.tup [])) q2 (.tup [.ref h2, .ref e0])) L (.lst [.ref q1, .ref q2]) = G11 at hL hq2 he0 hA2' hA1'' hq1' sall ⊢
    clear s10 s11 s12 s13 hA2 hA1' w2 o10
    have dbk11 := dp_mono sall dbk7
    have dd11 := dp_mono sall dd
    have each : ∀ (i : Nat) (v : V), [V.ref q1, V.ref q2][i]? = some v → ∃ (q h : Addr) (tv : V) (tz : List Nat) (d : Hd), v = .ref q ∧ G11 q = some (.tup [.ref h, tv]) ∧ HouseAt K G11 h (hs0 bk p.1 tz) d ∧ Dp K G11 tv (qD tz) ∧ tz.length ≤ 3 ∧ ∀ k ∈ tz, k ≤ 99 := by
      intro i v hv
      match i with
      | 0 =>
        cases hv
        exact ⟨q1, h1, _, ty, d1, rfl, hq1', hA1'', dp_mono sall dtn7, htl, h5⟩
      | 1 =>
        cases hv
        exact ⟨q2, h2, _, [], d2, rfl, hq2, hA2', .tup (.inl (.inl he0)) .nil, by decide, by simp⟩
      | i + 2 => simp at hv
    clear hA1'' hA2' hq1' hq2 he0
    refine ⟨L, rfl, ⟨_, .inl (.inl hL)⟩, ?_⟩
    refine for_list (K := K) (a := L) (xs := [.ref q1, .ref q2]) (fun i σ H' => ∃ z9 z10 z11, σ = [some (.ref a), some (.int (0 + (i0 : Int))), some (.ref x), some (.ref b), some (.str (bkD bk).shown), some (.str p.1), some (.ref tn), y7, some (.ref td), z9, z10, z11] ∧ Same G11 H')
      ⟨y9, y10, y11, rfl, Same.refl _⟩ (fun i σ H' _ ⟨_, _, _, _, h⟩ => .inl (.inl (h _ _ hL))) ?_ ?_
    · rintro i v σ W0 hv ⟨z9, z10, z11, rfl, r0⟩
      obtain ⟨q, h, tv, tz, d, rfl, hq, hA, htv, hz1, hz2⟩ := each i v hv
      refine ⟨q, _, rfl, .inl (.inl (r0 _ _ hq)), rfl, _, _, rfl, _, _, rfl, rfl, ?_⟩
      have hA0 := hA.keep r0
      -- names
      refine ⟨_, rfl, h, d.dh, _, rfl, hA0.hh, rfl, h, _, d, rfl, hA0, fun p hp => ?_, (by show 1 < 64; decide), fun f1 ks1 W1 r1 nf1 hf1 hr1 => ?_⟩
      · rw [List.mem_singleton.mp hp]
        exact hnil
      obtain ⟨b1, rfl, hb1⟩ := rising1 (n := []) hr1
      have hA1 := hA0.keep r1
      -- person
      refine ⟨_, rfl, h, d.dh, _, rfl, hA1.hh, rfl, Nat.zero_le _, fun e1 ne1' => ?_⟩
      have r2 := same_upd (o := .tup []) ne1'
      refine ⟨h, _, d, _, [], _, rfl, hA1.keep r2, ⟨e1, rfl, upd_same⟩, hnil, rfl, fun f2 vs2 W3 r3 nf2 hf2 hd2 => ?_⟩
      have hA3 := (hA1.keep r2).keep r3
      -- sessions
      refine ⟨_, rfl, h, d.dh, _, rfl, hA3.hh, rfl, h, _, d, rfl, hA3, fun p hp => ?_, (by show 1 < 64; decide), fun f3 ks3 W4 r4 nf3 hf3 hr3 => ?_⟩
      · rw [List.mem_singleton.mp hp]
        exact hnil
      obtain ⟨b3, rfl, hb3⟩ := rising1 (n := []) hr3
      have hA4 := hA3.keep r4
      -- front
      refine ⟨_, rfl, h, d.dh, _, rfl, hA4.hh, rfl, Nat.zero_le _, fun e2 ne2' => ?_⟩
      have r5 := same_upd (o := .tup []) ne2'
      refine ⟨h, _, d, _, [], some [], rfl, hA4.keep r5, ⟨e2, rfl, upd_same⟩, hnil, rfl, fun x4 W6 r6 hx4 => ?_⟩
      have hA6 := (hA4.keep r5).keep r6
      have hx4 : NmAt W6 x4 [] := hx4
      -- typed
      refine ⟨_, rfl, h, d.dh, _, rfl, hA6.hh, rfl, Nat.zero_le _, fun e3 ne3' => ?_⟩
      have r7 := same_upd (o := .tup []) ne3'
      refine ⟨h, _, d, _, [], some [], tz, rfl, hA6.keep r7, ⟨e3, rfl, upd_same⟩, hnil, rfl, rfl, fun x5 W8 r8 hx5 => ?_⟩
      have hA8 := (hA6.keep r7).keep r8
      -- len
      refine ⟨_, rfl, h, d.dh, _, rfl, hA8.hh, h, _, d, rfl, hA8, 1, rfl, by decide, by decide, ?_⟩
      refine ⟨(by show 6 ≤ sizeLine; decide), fun F nF => ?_⟩
      have r9 := same_upd (o := .lst [.ref f1, .ref f2, .ref f3, x4, x5, .int 1]) nF
      have dF : Dp K (upd W8 F (.lst [.ref f1, .ref f2, .ref f3, x4, x5, .int 1])) (.ref F) (dueD p.1 tz) := by
        have c1 := r2.trans (r3.trans (r4.trans (r5.trans (r6.trans (r7.trans (r8.trans r9))))))
        have c3 := r4.trans (r5.trans (r6.trans (r7.trans (r8.trans r9))))
        have c4 := r5.trans (r6.trans (r7.trans (r8.trans r9)))
        have c6 := r7.trans (r8.trans r9)
        refine .lst sqL_new (.cons ?_ (.cons ?_ (.cons ?_ (.cons ?_ (.cons ?_ (.cons (.int 1) .nil))))))
        · exact .tup (.inl (.inl (c1 _ _ hf1))) (.cons (.tup (.inl (.inl (c1 _ _ hb1))) .nil) .nil)
        · exact .tup (.inl (.inl (c3 _ _ hf2))) (dpA_mono c3 hd2)
        · exact .tup (.inl (.inl (c4 _ _ hf3))) (.cons (.tup (.inl (.inl (c4 _ _ hb3))) .nil) .nil)
        · exact (NmAt.ts (.of c6) hx4).dp
        · exact dp_mono r9 hx5
      have rr : Same G11 (upd W8 F (.lst [.ref f1, .ref f2, .ref f3, x4, x5, .int 1])) := r0.trans (r1.trans (r2.trans (r3.trans (r4.trans (r5.trans (r6.trans (r7.trans (r8.trans r9))))))))
      generalize upd W8 F (.lst [.ref f1, .ref f2, .ref f3, x4, x5, .int 1]) = W9 at dF rr ⊢
      clear r1 r2 r3 r4 r5 r6 r7 r8 r9 hA0 hA1 hA3 hA4 hA6 hA8
      have hsh := due_sh htz2 htz3 hz1 hz2
      -- repr
      refine ⟨_, rfl, _, _, rfl, dF, hsh, ?_⟩
      refine ⟨Nat.zero_le _, fun g1 ng1 => ?_⟩
      have v1 := same_upd (o := .tup []) ng1
      refine ⟨(by show 1 ≤ sizeLine; decide), fun g2 ng2 => ?_⟩
      have v2 := same_upd (o := .tup [.ref g1]) ng2
      refine ⟨_, rfl, Nat.zero_le _, fun g3 ng3 => ?_⟩
      have v3 := same_upd (o := .tup []) ng3
      refine ⟨(by show 1 ≤ sizeLine; decide), fun g4 ng4 => ?_⟩
      have v4 := same_upd (o := .tup [.ref g3]) ng4
      refine ⟨Nat.zero_le _, fun g5 ng5 => ?_⟩
      have v5 := same_upd (o := .tup []) ng5
      refine ⟨_, rfl, (by show 6 ≤ sizeLine; decide), fun g6 ng6 => ?_⟩
      have v6 := same_upd (o := .lst [.ref g2, .ref td, .ref g4, .ref g5, tv, .int 1]) ng6
      have dG : Dp K (upd (upd (upd (upd (upd (upd W9 g1 (.tup [])) g2 (.tup [.ref g1])) g3 (.tup [])) g4 (.tup [.ref g3])) g5 (.tup [])) g6 (.lst [.ref g2, .ref td, .ref g4, .ref g5, tv, .int 1])) (.ref g6) (dueD p.1 tz) := by
        refine .lst sqL_new (.cons ?_ (.cons ?_ (.cons ?_ (.cons ?_ (.cons ?_ (.cons (.int 1) .nil))))))
        · exact .tup (Same.tup (v3.trans (v4.trans (v5.trans v6))) sqT_new) (.cons (.tup (Same.tup (v2.trans (v3.trans (v4.trans (v5.trans v6)))) sqT_new) .nil) .nil)
        · exact dp_mono (rr.trans (v1.trans (v2.trans (v3.trans (v4.trans (v5.trans v6)))))) dd11
        · exact .tup (Same.tup (v5.trans v6) sqT_new) (.cons (.tup (Same.tup (v4.trans (v5.trans v6)) sqT_new) .nil) .nil)
        · exact .tup (Same.tup v6 sqT_new) .nil
        · exact dp_mono (rr.trans (v1.trans (v2.trans (v3.trans (v4.trans (v5.trans v6)))))) htv
      have rv : Same G11 (upd (upd (upd (upd (upd (upd W9 g1 (.tup [])) g2 (.tup [.ref g1])) g3 (.tup [])) g4 (.tup [.ref g3])) g5 (.tup [])) g6 (.lst [.ref g2, .ref td, .ref g4, .ref g5, tv, .int 1])) := rr.trans (v1.trans (v2.trans (v3.trans (v4.trans (v5.trans v6)))))
      generalize upd (upd (upd (upd (upd (upd W9 g1 (.tup [])) g2 (.tup [.ref g1])) g3 (.tup [])) g4 (.tup [.ref g3])) g5 (.tup [])) g6 (.lst [.ref g2, .ref td, .ref g4, .ref g5, tv, .int 1]) = W10 at dG rv ⊢
      refine ⟨_, _, rfl, dG, hsh, rfl, _, rfl, ?_⟩
      rw [decide_eq_true rfl]
      refine iteF ⟨_, rfl, _, _, rfl, dp_mono rv dbk11, hshb, _, rfl, rfl, _, rfl, ?_⟩
      rw [decide_eq_true rfl]
      exact iteF ⟨_, _, _, rfl, rv⟩
    · rintro σ G12 ⟨z9, z10, z11, rfl, s12⟩
      exact ⟨_, _, _, _, _, _, _, _, _, _, _, rfl, (sall.trans s12).seq hsc7⟩
end
end Kin
namespace Kin
open PySem PySem.Spec PyProof.Rows L2
section
variable {P : Program} {w : World} {K : PySem.W.Frag} {mg : Str → Option Value} {base : Heap} {tL : Tok} {es : Array DictEntry} {nF : Nat}
abbrev s_is_part : Stmt := topS 32
theorem sc_is_part : FnScope [("kind" : Str), ("part" : Str), ("size" : Str)] ["kind", "part", "size"] (defScope s_is_part) := ⟨rfl, rfl, rfl, by decide +kernel, rfl, by decide +kernel, by decide +kernel⟩
theorem ok_is_part {f : Addr} {fd : FuncData} (F : FnP K "is_part" s_is_part f fd) (T : Bi K w mg tL es nF) (c_is_title : Cal P w K mg base "is_title" ["thing"] 1 (spDL K pTitle)) (c_is_small : Cal P w K mg base "is_small" ["thing"] 2 (spD K pSmall)) (c_is_whole : Cal P w K mg base "is_whole" ["thing"] 1 (spD K pWhole)) (c_is_row_number : Cal P w K mg base "is_row_number" ["thing", "size"] 3 (spDI K pRowNo)) (c_is_signal : Cal P w K mg base "is_signal" ["thing"] 2 (spD K fun d => pOne d sig9))
    (c_is_loose : Cal P w K mg base "is_loose" ["thing"] 3 (spD K pLoose)) (c_are_loose : Cal P w K mg base "are_loose" ["thing"] 4 (spD K pAre)) (c_is_one_of : Cal P w K mg base "is_one_of" ["thing", "words"] 1 (spOne K)) (c_is_handler : Cal P w K mg base "is_handler" ["thing", "size"] 5 (spDI K pHandler)) (c_is_child_part : Cal P w K mg base "is_child_part" ["kind", "part"] 3 (spChild K)) : FnOk P w K mg base CX0 6 f fd ["kind", "part", "size"] (spPart K) := by
  refine F.ok sc_is_part (fun vs H Q E h => ?_) (fun cdv A outer s H vs Q E hr h => ?_)
  · obtain ⟨x, d, kd, n, rfl, _⟩ := h
    rfl
  · obtain ⟨x, d, kd, n, rfl, hd, hok, k⟩ := h
    refine ⟨_, PSs.nox (pss_cons (ps_if (pt_cmpR op_eq (pv 0) pe_str (nomark _)) (pss_one (ps_ret (pe_cal c_is_title (hr.mono (by decide)) (by rfl) pass0 (pa_cons (pv 1) pa_nil)))) pss_nil) (pss_cons (ps_if (pt_cmpR op_eq (pv 0) pe_str (nomark _)) (pss_one (ps_ret (pe_cal c_is_small (hr.mono (by decide)) (by rfl) pass0 (pa_cons (pv 1) pa_nil)))) pss_nil) (pss_cons (ps_if (pt_cmpR op_eq (pv 0) pe_str (nomark _)) (pss_one (ps_ret (pe_cal c_is_whole (hr.mono (by decide)) (by rfl) pass0 (pa_cons (pv 1) pa_nil)))) pss_nil) (pss_cons (ps_if (pt_cmpR op_eq (pv 0) pe_str (nomark _)) (pss_one (ps_ret (pe_callB call_isi (by rfl) T.n_isinstance boot_isinstance (pa_cons (pv 1) (pa_cons (pe_bltn (v := .ty "bool") (by rfl) T.n_bool boot_bool rfl) pa_nil))))) pss_nil) (pss_cons (ps_if (pt_cmpR op_eq (pv 0) pe_str (nomark _)) (pss_one (ps_ret (pe_cal c_is_row_number (hr.mono (by decide)) (by rfl) pass0 (pa_cons (pv 1) (pa_cons (pv 2) pa_nil))))) pss_nil) (pss_cons (ps_if (pt_cmpR op_eq (pv 0) pe_str (nomark _)) (pss_one (ps_ret (pe_cal c_is_signal (hr.mono (by decide)) (by rfl) pass0 (pa_cons (pv 1) pa_nil)))) pss_nil) (pss_cons (ps_if (pt_cmpR op_eq (pv 0) pe_str (nomark _)) (pss_one (ps_ret (pe_cal c_is_loose (hr.mono (by decide)) (by rfl) pass0 (pa_cons (pv 1) pa_nil)))) pss_nil) (pss_cons (ps_if (pt_cmpR op_eq (pv 0) pe_str (nomark _)) (pss_one (ps_ret (pe_cal c_are_loose (hr.mono (by decide)) (by rfl) pass0 (pa_cons (pv 1) pa_nil)))) pss_nil) (pss_cons (ps_if (pt_cmpR op_eq (pv 0) pe_str (nomark _)) (pss_one (ps_ret (pe_or (pe_cal c_is_one_of (hr.mono (by decide)) (by rfl) pass0 (pa_cons (pv 1) (pa_cons (pe_tup (pa_cons pe_str (pa_cons pe_str pa_nil))) pa_nil))) (pe_one (pe_cal c_is_handler (hr.mono (by decide)) (by rfl) pass0 (pa_cons (pv 1) (pa_cons (pv 2) pa_nil))))))) pss_nil) (pss_cons (ps_if (pt_cmpR op_eq (pv 0) pe_str (nomark _)) (pss_one (ps_ret (pe_cal c_is_one_of (hr.mono (by decide)) (by rfl) pass0 (pa_cons (pv 1) (pa_cons (pe_tup (pa_cons pe_str (pa_cons pe_str pa_nil))) pa_nil))))) pss_nil) (pss_one (ps_ret (pe_cal c_is_child_part (hr.mono (by decide)) (by rfl) pass0 (pa_cons (pv 0) (pa_cons (pv 1) pa_nil))))))))))))))), ?_⟩
    unfold pPart at k
    refine ⟨_, rfl, rfl, _, rfl, ?_⟩
    rw [dec_str]
    refine ite2 (fun e => ?_) (fun e => ?_)
    · rw [if_pos (of_decide_eq_true e)] at k
      exact ⟨x, rfl, x, d, rfl, hd, hok, fun H1 s1 => k H1 s1⟩
    rw [if_neg (fun z => e (decide_eq_true z))] at k
    refine ⟨_, rfl, rfl, _, rfl, ?_⟩
    rw [dec_str]
    refine ite2 (fun e => ?_) (fun e => ?_)
    · rw [if_pos (of_decide_eq_true e)] at k
      exact ⟨x, rfl, x, d, rfl, hd, fun H1 s1 => k H1 s1⟩
    rw [if_neg (fun z => e (decide_eq_true z))] at k
    refine ⟨_, rfl, rfl, _, rfl, ?_⟩
    rw [dec_str]
    refine ite2 (fun e => ?_) (fun e => ?_)
    · rw [if_pos (of_decide_eq_true e)] at k
      exact ⟨x, rfl, x, d, rfl, hd, fun H1 s1 => k H1 s1⟩
    rw [if_neg (fun z => e (decide_eq_true z))] at k
    refine ⟨_, rfl, rfl, _, rfl, ?_⟩
    rw [dec_str]
    refine ite2 (fun e => ?_) (fun e => ?_)
    · rw [if_pos (of_decide_eq_true e)] at k
      refine ⟨x, rfl, x, _, _, _, _, rfl, .ty _, tyx_of hd, kit_bool (nd_of hd), ?_⟩
      have q := k H (Same.refl H)
      cases hd <;> exact q
    rw [if_neg (fun z => e (decide_eq_true z))] at k
    refine ⟨_, rfl, rfl, _, rfl, ?_⟩
    rw [dec_str]
    refine ite2 (fun e => ?_) (fun e => ?_)
    · rw [if_pos (of_decide_eq_true e)] at k
      exact ⟨x, rfl, _, rfl, x, d, n, rfl, hd, fun H1 s1 => k H1 s1⟩
    rw [if_neg (fun z => e (decide_eq_true z))] at k
    refine ⟨_, rfl, rfl, _, rfl, ?_⟩
    rw [dec_str]
    refine ite2 (fun e => ?_) (fun e => ?_)
    · rw [if_pos (of_decide_eq_true e)] at k
      exact ⟨x, rfl, x, d, rfl, hd, fun H1 s1 => k H1 s1⟩
    rw [if_neg (fun z => e (decide_eq_true z))] at k
    refine ⟨_, rfl, rfl, _, rfl, ?_⟩
    rw [dec_str]
    refine ite2 (fun e => ?_) (fun e => ?_)
    · rw [if_pos (of_decide_eq_true e)] at k
      exact ⟨x, rfl, x, d, rfl, hd, fun H1 s1 => k H1 s1⟩
    rw [if_neg (fun z => e (decide_eq_true z))] at k
    refine ⟨_, rfl, rfl, _, rfl, ?_⟩
    rw [dec_str]
    refine ite2 (fun e => ?_) (fun e => ?_)
    · rw [if_pos (of_decide_eq_true e)] at k
      exact ⟨x, rfl, x, d, rfl, hd, fun H1 s1 => k H1 s1⟩
    rw [if_neg (fun z => e (decide_eq_true z))] at k
    refine ⟨_, rfl, rfl, _, rfl, ?_⟩
    rw [dec_str]
    refine ite2 (fun e => ?_) (fun e => ?_)
    · rw [if_pos (of_decide_eq_true e)] at k
      refine ⟨x, rfl, (by show 2 ≤ sizeLine; decide), fun p hp => ⟨x, d, p, ["plain", "ignore"], rfl, dp_mono (same_upd hp) hd, .inr sqT_new, fun H2 s2 => ⟨_, rfl, ?_⟩⟩⟩
      cases e1 : pOne d ["plain", "ignore"] with
      | true =>
        rw [e1] at k
        exact iteT (k H2 ((same_upd hp).trans s2))
      | false =>
        rw [e1] at k
        exact iteF ⟨x, rfl, _, rfl, x, d, n, rfl, dp_mono ((same_upd hp).trans s2) hd, fun H3 s3 => k H3 (((same_upd hp).trans s2).trans s3)⟩
    rw [if_neg (fun z => e (decide_eq_true z))] at k
    refine ⟨_, rfl, rfl, _, rfl, ?_⟩
    rw [dec_str]
    refine ite2 (fun e => ?_) (fun e => ?_)
    · rw [if_pos (of_decide_eq_true e)] at k
      exact ⟨x, rfl, (by show 2 ≤ sizeLine; decide), fun p hp => ⟨x, d, p, ["new", "mine"], rfl, dp_mono (same_upd hp) hd, .inr sqT_new, fun H2 s2 => k H2 ((same_upd hp).trans s2)⟩⟩
    rw [if_neg (fun z => e (decide_eq_true z))] at k
    exact ⟨_, rfl, x, rfl, x, d, kd, rfl, hd, k⟩
end
end Kin
namespace Kin
open PySem PySem.Spec PyProof.Rows L2
section
variable {P : Program} {w : World} {K : PySem.W.Frag} {mg : Str → Option Value} {base : Heap} {tL : Tok} {es : Array DictEntry} {nF : Nat}
abbrev s_is_handler : Stmt := topS 30
theorem sc_is_handler : FnScope [("thing" : Str), ("size" : Str)] ["thing", "size"] (defScope s_is_handler) := ⟨rfl, rfl, rfl, by decide +kernel, rfl, by decide +kernel, by decide +kernel⟩
theorem ok_is_handler {f : Addr} {fd : FuncData} (F : FnP K "is_handler" s_is_handler f fd) (T : Bi K w mg tL es nF) (c_is_row_number : Cal P w K mg base "is_row_number" ["thing", "size"] 3 (spDI K pRowNo)) (c_are_loose : Cal P w K mg base "are_loose" ["thing"] 4 (spD K pAre)) : FnOk P w K mg base CX0 5 f fd ["thing", "size"] (spDI K pHandler) := by
  refine F.ok sc_is_handler (fun vs H Q E h => ?_) (fun cdv A outer s H vs Q E hr h => ?_)
  · obtain ⟨x, d, n, rfl, _⟩ := h
    rfl
  · obtain ⟨x, d, n, rfl, hd, k⟩ := h
    refine ⟨_, PSs.nox (pss_cons (ps_if (PW.pt (pw_or (pt_not (pt_val (pe_callB call_isi (by rfl) T.n_isinstance boot_isinstance (pa_cons (pv 0) (pa_cons (pe_bltn (v := .ty "tuple") (by rfl) T.n_tuple boot_tuple rfl) pa_nil))))) (pw_or1 (pt_cmpR op_ne (pe_callB call_len_seq (by rfl) T.n_len PySem.boot_len (pa_cons (pv 0) pa_nil)) pe_int (nomark _))))) (pss_one (ps_ret pe_bl)) pss_nil) (pss_one (ps_ret (pe_and (pe_cal c_is_row_number (hr.mono (by decide)) (by rfl) pass0 (pa_cons (pe_ix ix_tup (pv 0) pe_int (fun _ _ => rfl)) (pa_cons (pv 1) pa_nil))) (pe_one (pe_cal c_are_loose (hr.mono (by decide)) (by rfl) pass0 (pa_cons (pe_ix ix_tup (pv 0) pe_int (fun _ _ => rfl)) pa_nil))))))), ?_⟩
    refine ⟨x, rfl, x, _, _, _, _, rfl, .ty _, tyx_of hd, kit_tup (nd_of hd), _, rfl, ?_⟩
    cases hd with
    | @tup a xs ds ha hds =>
      refine iteF ⟨_, rfl, a, xs, rfl, .inr ha, rfl, _, rfl, ?_⟩
      have hl := dpA_len hds
      refine iteLen (fun hne => ?_) (fun heq => ?_)
      · have e : pHandler (.tuple ds) n = false := by
          match ds, hl with
          | [], _ => rfl
          | [_], _ => rfl
          | [_, _], hl =>
            rw [hl] at hne
            exact absurd rfl hne
          | _ :: _ :: _ :: _, _ => rfl
        have q := k H (Same.refl H)
        rw [e] at q
        exact q
      · have hl2 : xs.length = 2 := by omega
        obtain ⟨x1, x2, rfl⟩ : ∃ x1 x2, xs = [x1, x2] := by
          match xs, hl2 with
          | [x1, x2], _ => exact ⟨x1, x2, rfl⟩
        cases hds with
        | @cons _ _ d1 _ h1 ht =>
          cases ht with
          | @cons _ _ d2 _ h2 ht2 =>
            cases ht2
            refine ⟨_, rfl, a, _, 0, x1, rfl, rfl, ha, rfl, _, rfl, x1, d1, n, rfl, h1, fun H1 s1 => ⟨_, rfl, ?_⟩⟩
            have q0 : ∀ H', Same H H' → Q (.bl (pRowNo d1 n && pAre d2)) H' := k
            cases e : pRowNo d1 n with
            | true =>
              refine iteT ⟨_, rfl, a, _, 1, x2, rfl, rfl, Same.tup s1 ha, rfl, x2, d2, rfl, dp_mono s1 h2, fun H2 s2 => ?_⟩
              have q := q0 H2 (s1.trans s2)
              rw [e] at q
              exact q
            | false =>
              have q := q0 H1 s1
              rw [e] at q
              exact iteF q
    | _ => exact iteT (k H (Same.refl H))
end
end Kin
namespace Kin
open PySem PySem.Spec PyProof.Rows L2
section
variable {P : Program} {w : World} {K : PySem.W.Frag} {mg : Str → Option Value} {base : Heap} {tL : Tok} {es : Array DictEntry} {nF : Nat}
abbrev s_is_child_part : Stmt := topS 31
theorem sc_is_child_part : FnScope [("kind" : Str), ("part" : Str)] ["kind", "part"] (defScope s_is_child_part) := ⟨rfl, rfl, rfl, by decide +kernel, rfl, by decide +kernel, by decide +kernel⟩
theorem ok_is_child_part {f : Addr} {fd : FuncData} (F : FnP K "is_child_part" s_is_child_part f fd) (T : Bi K w mg tL es nF) (c_is_natural : Cal P w K mg base "is_natural" ["thing"] 2 (spD K pNat)) (c_is_one_of : Cal P w K mg base "is_one_of" ["thing", "words"] 1 (spOne K)) : FnOk P w K mg base CX0 3 f fd ["kind", "part"] (spChild K) := by
  refine F.ok sc_is_child_part (fun vs H Q E h => ?_) (fun cdv A outer s H vs Q E hr h => ?_)
  · obtain ⟨x, d, kd, rfl, _⟩ := h
    rfl
  · obtain ⟨x, d, kd, rfl, hd, k⟩ := h
    refine ⟨_, PSs.nox (pss_cons (ps_if (pt_val (pe_cal c_is_natural (hr.mono (by decide)) (by rfl) pass0 (pa_cons (pv 1) pa_nil))) (pss_one (ps_ret pe_bl)) pss_nil) (pss_cons (ps_if (pt_cmpR op_eq (pv 0) pe_str (nomark _)) (pss_one (ps_ret (pe_cmpR op_isN (pv 1) pe_non (nomark _)))) pss_nil) (pss_cons (ps_if (pt_cmpR op_eq (pv 0) pe_str (nomark _)) (pss_one (ps_ret (pe_cal c_is_one_of (hr.mono (by decide)) (by rfl) pass0 (pa_cons (pv 1) (pa_cons (pe_tup (pa_cons pe_str pa_nil)) pa_nil))))) pss_nil) (pss_one (ps_ret (pe_cal c_is_one_of (hr.mono (by decide)) (by rfl) pass0 (pa_cons (pv 1) (pa_cons (pe_tup (pa_cons pe_str (pa_cons pe_str (pa_cons pe_str pa_nil)))) pa_nil)))))))), ?_⟩
    refine ⟨x, rfl, x, d, rfl, hd, fun H1 s1 => ⟨_, rfl, ?_⟩⟩
    unfold pChild at k
    refine ite2 (fun e => ?_) (fun e => ?_)
    · rw [if_pos e] at k
      exact k H1 s1
    · rw [if_neg e] at k
      refine ⟨_, rfl, rfl, _, rfl, ?_⟩
      rw [dec_str]
      refine ite2 (fun e1 => ?_) (fun e1 => ?_)
      · rw [if_pos (of_decide_eq_true e1)] at k
        refine ⟨_, rfl, rfl, ?_⟩
        have q := k H1 s1
        cases hd <;> exact q
      · rw [if_neg (fun z => e1 (decide_eq_true z))] at k
        refine ⟨_, rfl, rfl, _, rfl, ?_⟩
        rw [dec_str]
        refine ite2 (fun e2 => ?_) (fun e2 => ?_)
        · rw [if_pos (of_decide_eq_true e2)] at k
          refine ⟨_, rfl, (by show 1 ≤ sizeLine; decide), fun p hp => ⟨x, d, p, ["self"], rfl, dp_mono (s1.trans (same_upd hp)) hd, .inr sqT_new, fun H2 s2 => k H2 ((s1.trans (same_upd hp)).trans s2)⟩⟩
        · rw [if_neg (fun z => e2 (decide_eq_true z))] at k
          refine ⟨_, rfl, (by show 3 ≤ sizeLine; decide), fun p hp => ⟨x, d, p, ["self", "parent", "group"], rfl, dp_mono (s1.trans (same_upd hp)) hd, .inr sqT_new, fun H2 s2 => k H2 ((s1.trans (same_upd hp)).trans s2)⟩⟩
end
end Kin
namespace Kin
open PySem PySem.Spec PyProof.Rows L2
section
variable {P : Program} {w : World} {K : PySem.W.Frag} {mg : Str → Option Value} {base : Heap} {tL : Tok} {es : Array DictEntry} {nF : Nat}
abbrev s_are_loose : Stmt := topS 24
theorem sc_are_loose : FnScope [("thing" : Str), ("least" : Str), ("signal" : Str), ("place" : Str)] ["thing"] (defScope s_are_loose) := ⟨rfl, rfl, rfl, by decide +kernel, rfl, by decide +kernel, by decide +kernel⟩
theorem ok_are_loose {f : Addr} {fd : FuncData} (F : FnP K "are_loose" s_are_loose f fd) (T : Bi K w mg tL es nF) (c_is_loose : Cal P w K mg base "is_loose" ["thing"] 3 (spD K pLoose)) : FnOk P w K mg base CX0 4 f fd ["thing"] (spD K pAre) := by
  refine F.ok sc_are_loose (fun vs H Q E h => ?_) (fun cdv A outer s H vs Q E hr h => ?_)
  · obtain ⟨x, d, rfl, _⟩ := h
    rfl
  · obtain ⟨x, d, rfl, hd, k⟩ := h
    refine ⟨_, PSs.nox (pss_cons (ps_if (pt_not (pt_val (pe_callB call_isi (by rfl) T.n_isinstance boot_isinstance (pa_cons (pv 0) (pa_cons (pe_bltn (v := .ty "tuple") (by rfl) T.n_tuple boot_tuple rfl) pa_nil))))) (pss_one (ps_ret pe_bl)) pss_nil) (pss_cons (ps_set (i := 1) sc_are_loose.nd rfl (by first | exact .inl rfl | exact .inr rfl) pe_int) (pss_cons (ps_for PassesOwn.never rfl (pi_tup (pv 0)) (pg_name (i := 2) sc_are_loose.nd rfl (by first | exact .inl rfl | exact .inr rfl)) (pss_cons (ps_if (pt_not (pt_val (pe_cal c_is_loose (hr.mono (by decide)) (by rfl) pass0 (pa_cons (pv 2) pa_nil)))) (pss_one (ps_ret pe_bl)) pss_nil) (pss_cons (ps_set (i := 3) sc_are_loose.nd rfl (by first | exact .inl rfl | exact .inr rfl) (pe_bm PySem.F.plainAttrs_tuple PySem.F.slot_tuple_index PySem.F.type_tuple_index mt_tup_index (pe_glob (by rfl) T.g_SIGNALS T.r_SIGNALS) (pa_cons (pv 2) pa_nil))) (pss_cons (ps_if (pt_cmpR op_lt (pv 3) (pv 1) (nomark _)) (pss_one (ps_ret pe_bl)) pss_nil) (pss_one (ps_set (i := 1) sc_are_loose.nd rfl (by first | exact .inl rfl | exact .inr rfl) (pe_op op_add (pv 3) pe_int))))))) (pss_one (ps_ret pe_bl))))), ?_⟩
    refine ⟨x, rfl, x, _, _, _, _, rfl, .ty _, tyx_of hd, kit_tup (nd_of hd), _, rfl, ?_⟩
    cases hd with
    | @tup a xs ds ha hds =>
      refine iteF ⟨_, rfl, a, rfl, ⟨xs, ha⟩, ?_⟩
      refine for_tup (K := K) (a := a) (xs := xs) (fun i σ H' => ∃ (least : Nat) (y z : Option V), σ = [some (.ref a), some (.int (least : Int)), y, z] ∧ Same H H' ∧ pLoop 0 ds = pLoop least (ds.drop i))
        ⟨0, none, none, rfl, Same.refl H, rfl⟩ (fun i σ H' _ ⟨_, _, _, _, s1, _⟩ => Same.tup s1 ha) ?_ ?_
      · rintro i v σ H' hi ⟨least, y, z, rfl, s1, e⟩
        obtain ⟨d, hd1, hd2⟩ := dpA_get hds hi
        have hdd : ds.drop i = d :: ds.drop (i + 1) := by
          have hl : i < ds.length := (List.getElem?_eq_some_iff.mp hd1).1
          rw [List.drop_eq_getElem_cons hl]
          rw [List.getElem?_eq_getElem hl] at hd1
          cases hd1
          rfl
        rw [hdd] at e
        refine ⟨v, rfl, v, d, rfl, dp_mono s1 hd2, fun H2 s2 => ⟨_, rfl, ?_⟩⟩
        cases hL : pLoose d with
        | false =>
          refine iteT ?_
          have e2 : pLoop least (d :: ds.drop (i + 1)) = false := by
            cases d with
            | str z => rw [pLoop_str, hL]; rfl
            | _ => rfl
          have q := k H2 (s1.trans s2)
          rw [show pAre (.tuple ds) = pLoop 0 ds from rfl, e, e2] at q
          exact q
        | true =>
          refine iteF ?_
          cases hd2 with
          | str w =>
            have hw : w ∈ sig9 := by
              have q : (decide (w ∈ sig9) && !decide (w ∈ sure)) = true := hL
              exact of_decide_eq_true (Bool.and_eq_true_iff.mp q).1
            have hlt : sig9.idxOf w < sig9.length := List.idxOf_lt_length_iff.mpr hw
            refine ⟨.inr (.inl ⟨rfl, T.sigK⟩), _, rfl, _, sig9, w, sig9.idxOf w, rfl, rfl, T.sig H2, ?_, ?_, ?_⟩
            · rw [List.getElem?_eq_getElem hlt, List.getElem_idxOf]
            · intro m hm
              exact idx_min hm
            · rw [pLoop_str, hL, if_pos rfl] at e
              refine ⟨_, rfl, _, rfl, _, _, rfl, rfl, _, rfl, ?_⟩
              by_cases hc : ((sig9.idxOf w : Nat) : Int) < (least : Int)
              · rw [decide_eq_true hc]
                refine iteT ?_
                rw [if_pos (by omega)] at e
                have q := k H2 (s1.trans s2)
                rw [show pAre (.tuple ds) = pLoop 0 ds from rfl, e] at q
                exact q
              · rw [decide_eq_false hc]
                refine iteF ?_
                rw [if_neg (by omega)] at e
                exact ⟨_, rfl, _, _, rfl, rfl, sig9.idxOf w + 1, some (.str w), some (.int (sig9.idxOf w : Nat)), rfl, s1.trans s2, e⟩
          | _ => cases hL
      · rintro σ H' ⟨least, y, z, rfl, s1, e⟩
        have hz : ds.drop xs.length = [] := List.drop_eq_nil_of_le (by rw [dpA_len hds]; exact Nat.le_refl _)
        rw [hz, pLoop_nil] at e
        have q := k H' s1
        rw [show pAre (.tuple ds) = pLoop 0 ds from rfl, e] at q
        exact q
    | _ => exact iteT (k H (Same.refl H))
end
end Kin
namespace Kin
open PySem PySem.Spec PyProof.Rows L2
section
variable {P : Program} {w : World} {K : PySem.W.Frag} {mg : Str → Option Value} {base : Heap} {tL : Tok} {es : Array DictEntry} {nF : Nat}
abbrev s_is_row_number : Stmt := topS 29
theorem sc_is_row_number : FnScope [("thing" : Str), ("size" : Str)] ["thing", "size"] (defScope s_is_row_number) := ⟨rfl, rfl, rfl, by decide +kernel, rfl, by decide +kernel, by decide +kernel⟩
theorem ok_is_row_number {f : Addr} {fd : FuncData} (F : FnP K "is_row_number" s_is_row_number f fd) (T : Bi K w mg tL es nF) (c_is_natural : Cal P w K mg base "is_natural" ["thing"] 2 (spD K pNat)) : FnOk P w K mg base CX0 3 f fd ["thing", "size"] (spDI K pRowNo) := by
  refine F.ok sc_is_row_number (fun vs H Q E h => ?_) (fun cdv A outer s H vs Q E hr h => ?_)
  · obtain ⟨x, d, n, rfl, _⟩ := h
    rfl
  · obtain ⟨x, d, n, rfl, hd, k⟩ := h
    refine ⟨_, PSs.nox (pss_one (ps_ret (pe_and (pe_cal c_is_natural (hr.mono (by decide)) (by rfl) pass0 (pa_cons (pv 0) pa_nil)) (pe_one (pe_cmpR op_lt (pv 0) (pv 1) (nomark _)))))), ?_⟩
    refine ⟨x, rfl, x, d, rfl, hd, fun H1 s1 => ⟨_, rfl, ?_⟩⟩
    have k := k H1 s1
    cases hd with
    | int i =>
      have k : Q (.bl (decide (0 ≤ i) && decide (i < n))) H1 := k
      show if decide (0 ≤ i) = true then _ else _
      cases e : decide (0 ≤ i) with
      | true =>
        rw [e] at k
        exact iteT ⟨_, rfl, _, rfl, _, _, rfl, rfl, k⟩
      | false =>
        rw [e] at k
        exact iteF k
    | _ => exact iteF k
end
end Kin
namespace Kin
open PySem PySem.Spec PyProof.Rows L2
section
variable {P : Program} {w : World} {K : PySem.W.Frag} {mg : Str → Option Value} {base : Heap} {tL : Tok} {es : Array DictEntry} {nF : Nat}
abbrev s_is_row : Stmt := topS 33
theorem sc_is_row : FnScope [("thing" : Str), ("size" : Str), ("word" : Str), ("kinds" : Str), ("kind" : Str), ("part" : Str)] ["thing", "size"] (defScope s_is_row) := ⟨rfl, rfl, rfl, by decide +kernel, rfl, by decide +kernel, by decide +kernel⟩
theorem mem_of_lookup {α : Type} {z : Str} {v : α} : ∀ {l : List (Str × α)}, l.lookup z = some v → (z, v) ∈ l
  | [], h => by cases h
  | (a, b) :: r, h => by
    rw [List.lookup_cons] at h
    by_cases e : z = a
    · subst e
      rw [beq_self_eq_true] at h
      cases Option.some.inj h
      exact List.mem_cons_self
    · have : (z == a) = false := by simpa using e
      rw [this] at h
      exact List.mem_cons_of_mem _ (mem_of_lookup h)
theorem pParts_all (n : Int) : ∀ (ks : List Str) (ps : List PyData), ps.length = ks.length → ((List.range ks.length).map fun i => (match ks[i]?, ps[i]? with | some k, some p => pPart k p n | _, _ => true)).all id = pParts n ks ps
  | [], [], _ => rfl
  | k :: ks, p :: ps, h => by
    rw [List.length_cons, List.range_succ_eq_map, List.map_cons, List.all_cons, List.map_map]
    have ih := pParts_all n ks ps (by simpa using h)
    show (pPart k p n && ((List.range ks.length).map fun i => (match ks[i]?, ps[i]? with | some k, some p => pPart k p n | _, _ => true)).all id) = (pPart k p n && pParts n ks ps)
    rw [ih]
  | [], _ :: _, h => by cases h
  | _ :: _, [], h => by cases h
theorem ok_is_row {f : Addr} {fd : FuncData} (F : FnP K "is_row" s_is_row f fd) (T : Bi K w mg tL es nF) (c_is_part : Cal P w K mg base "is_part" ["kind", "part", "size"] 6 (spPart K)) : FnOk P w K mg base CX0 7 f fd ["thing", "size"] (spRow K pRow) := by
  refine F.ok sc_is_row (fun vs H Q E h => ?_) (fun cdv A outer s H vs Q E hr h => ?_)
  · obtain ⟨x, d, n, rfl, _⟩ := h
    rfl
  · obtain ⟨x, d, n, rfl, hd, hok, k⟩ := h
    refine ⟨_, PSs.nox (pss_cons (ps_if (PW.pt (pw_or (pt_not (pt_val (pe_callB call_isi (by rfl) T.n_isinstance boot_isinstance (pa_cons (pv 0) (pa_cons (pe_bltn (v := .ty "tuple") (by rfl) T.n_tuple boot_tuple rfl) pa_nil))))) (pw_or1 (pt_cmpR op_eq (pe_callB call_len_seq (by rfl) T.n_len PySem.boot_len (pa_cons (pv 0) pa_nil)) pe_int (nomark _))))) (pss_one (ps_ret pe_bl)) pss_nil) (pss_cons (ps_set (i := 2) sc_is_row.nd rfl (by first | exact .inl rfl | exact .inr rfl) (pe_ix ix_tup (pv 0) pe_int (fun _ _ => rfl))) (pss_cons (ps_if (PW.pt (pw_or (pt_not (pt_val (pe_callB call_isi (by rfl) T.n_isinstance boot_isinstance (pa_cons (pv 2) (pa_cons (pe_bltn (v := .ty "str") (by rfl) T.n_str boot_str rfl) pa_nil))))) (pw_or1 (pt_cmpR (op_notIn_kd T.kd) (pv 2) (pe_glob (by rfl) T.g_FORMS T.r_FORMS) (by rfl))))) (pss_one (ps_ret pe_bl)) pss_nil) (pss_cons (ps_set (i := 3) sc_is_row.nd rfl (by first | exact .inl rfl | exact .inr rfl) (pe_ix ix_kdict (pe_glob (by rfl) T.g_FORMS T.r_FORMS) (pv 2) (fun _ _ => rfl))) (pss_cons (ps_if (pt_cmpR op_ne (pe_callB call_len_seq (by rfl) T.n_len PySem.boot_len (pa_cons (pv 0) pa_nil)) (pe_op op_add (pe_callB call_len_seq (by rfl) T.n_len PySem.boot_len (pa_cons (pv 3) pa_nil)) pe_int) (nomark _)) (pss_one (ps_ret pe_bl)) pss_nil) (pss_one (ps_ret (pe_callB (cr_all rfl) (by rfl) T.n_all boot_all (pa_cons (pe_lc (own := [(("kind" : Str), 4), (("part" : Str), 5)]) (g := gTup K 2 (gCons (gName 4) (gCons (gName 5) (gNil)))) rfl sc_is_row.nd (RZ.pi_zipA (by rfl) T.n_zip (pa_cons (pv 3) (pa_cons (pe_slice sl_tupA (pv 0) (po_some pe_int) po_none) pa_nil))) (blkOk_by (N := [("thing" : Str), ("size" : Str), ("word" : Str), ("kinds" : Str), ("kind" : Str), ("part" : Str)]) (sc := defScope s_is_row) (by decide +kernel)) (fun _ _ _ _ _ => by exact (pg_tup rfl (pgs_cons (pg_name (i := 4) sc_is_row.nd rfl (by first | exact .inl rfl | exact .inr rfl)) (pgs_cons (pg_name (i := 5) sc_is_row.nd rfl (by first | exact .inl rfl | exact .inr rfl)) pgs_nil)))) (fun _ _ _ _ _ => pts_nil) (fun _ _ _ _ _ => (pe_cal c_is_part (hr.mono (by decide)) (by rfl) pass0 (pa_cons (pv 4) (pa_cons (pv 5) (pa_cons (pv 1) pa_nil)))))) pa_nil))))))))), ?_⟩
    refine ⟨x, rfl, x, _, _, _, _, rfl, .ty _, tyx_of hd, kit_tup (nd_of hd), _, rfl, ?_⟩
    cases hd with
    | @tup a xs ds ha hds =>
      refine iteF ⟨_, rfl, a, xs, rfl, .inr ha, rfl, _, rfl, ?_⟩
      refine iteLenE (fun h0 => ?_) (fun h0 => ?_)
      · have hx : xs = [] := List.length_eq_zero_iff.mp (by omega)
        subst hx
        cases hds
        exact k H (Same.refl H)
      · obtain ⟨x1, xr, rfl⟩ : ∃ x1 xr, xs = x1 :: xr := by
          cases xs with
          | nil => exact absurd rfl h0
          | cons x1 xr => exact ⟨x1, xr, rfl⟩
        cases hds with
        | @cons _ _ d1 dr h1 ht =>
          refine ⟨_, rfl, a, _, 0, x1, rfl, rfl, ha, at0 _ _, ?_⟩
          refine ⟨x1, rfl, x1, _, _, _, _, rfl, .ty _, tyx_of h1, kit_str (nd_of h1), _, rfl, ?_⟩
          cases h1 with
          | str wd =>
            cases hf : forms.lookup wd with
            | none =>
              refine iteF ⟨_, rfl, _, _, rfl, rfl, T.fno wd hf, _, rfl, iteT ?_⟩
              have q := k H (Same.refl H)
              rw [show pRow (.tuple (.str wd :: dr)) n = (match forms.lookup wd with | some ks => decide (dr.length = ks.length) && pParts n ks dr | none => false) from rfl, hf] at q
              exact q
            | some ks =>
              have k : ∀ H', Same H H' → Q (.bl (decide (dr.length = ks.length) && pParts n ks dr)) H' := fun H' s1 => by
                have q := k H' s1
                rw [show pRow (.tuple (.str wd :: dr)) n = (match forms.lookup wd with | some ks => decide (dr.length = ks.length) && pParts n ks dr | none => false) from rfl, hf] at q
                exact q
              obtain ⟨aF, hF, hT⟩ := T.fyes wd ks hf
              refine iteF ⟨_, rfl, _, _, rfl, rfl, hF, _, rfl, iteF ?_⟩
              refine ⟨_, rfl, _, _, .ref aF, rfl, rfl, ⟨_, _, _, T.kd.at_, T.kd.lit, hF, rfl⟩, ?_⟩
              refine ⟨_, rfl, a, _, rfl, .inr ha, _, rfl, aF, _, rfl, .inr (hT H), _, _, rfl, rfl, rfl, _, rfl, ?_⟩
              have hlr := dpA_len ht
              refine iteLen (fun hne => ?_) (fun heq => ?_)
              · have q := k H (Same.refl H)
                rw [decide_eq_false (show ¬ dr.length = ks.length by
                  intro z
                  apply hne
                  rw [List.length_cons, hlr, z, List.length_map]
                  omega)] at q
                exact q
              · have hl : dr.length = ks.length := by
                  rw [List.length_cons, hlr, List.length_map] at heq
                  omega
                refine ⟨_, rfl, _, rfl, _, rfl, a, _, rfl, ha, fun z => absurd z sIx1, fun _ p hp => ?_⟩
                have sp := same_upd (o := .tup (cutV (V.str wd :: xr) (some 1) none)) hp
                refine ⟨aF, p, _, xr, rfl, .inr ⟨hT _, sqT_cut1, fun D hD => ?_⟩⟩
                refine lc_vals (walk_zipT (xs := ks.map V.str) (ys := xr) (n := ks.length) (by rw [List.length_map, hlr, hl]; simp)) (fun i => .bl (match ks[i]?, dr[i]? with | some k, some p => pPart k p n | _, _ => true)) hD ?_ (fun H' s1 => ⟨hT _, Same.tup s1 sqT_cut1⟩) ?_ ?_
                · have : ks.length ≤ 2 := by
                    have hm : ∀ q ∈ forms, q.2.length ≤ 2 := by decide +kernel
                    exact hm (wd, ks) (mem_of_lookup hf)
                  omega
                · rintro i v H' H'' Qe hi s1 ⟨tp, y1, y2, rfl, htp, rfl, hk1, hk2⟩ q
                  have hkl : ks[i]? = some ks[i] := List.getElem?_eq_getElem hi
                  have hk1 : (ks.map V.str)[i]? = some y1 := hk1
                  have hk2 : xr[i]? = some y2 := hk2
                  have e1 : y1 = .str ks[i] := by
                    rw [List.getElem?_map, hkl] at hk1
                    exact (Option.some.inj hk1).symm
                  obtain ⟨dd, hdd, hdp⟩ := dpA_get ht hk2
                  have sT := same_upd (o := .tup [y1, y2]) htp
                  refine ⟨tp, [y1, y2], rfl, sqT_new, rfl, y1, [y2], rfl, y2, [], rfl, rfl, rfl, ?_⟩
                  subst e1
                  have hlo : lenOk dd = true := by
                    exact lenAll_mem (lenOk_tup hok).2 (List.mem_cons_of_mem _ (List.mem_of_getElem? hdd))
                  refine ⟨_, rfl, _, rfl, _, rfl, y2, dd, ks[i], n, rfl, dp_mono ((sp.trans s1).trans sT) hdp, hlo, fun H4 s4 => ?_⟩
                  have q := q H4 (sT.trans s4)
                  rw [hkl, hdd] at q
                  exact q
                · intro H' s1 hlst
                  refine ⟨D, (List.range ks.length).map fun i => (match ks[i]?, dr[i]? with | some k, some p => pPart k p n | _, _ => true), rfl, .inl (.inl ?_), ?_⟩
                  · rw [hlst, List.map_map]
                    rfl
                  · rw [pParts_all n ks dr hl]
                    have q := k H' (sp.trans s1)
                    rw [decide_eq_true hl] at q
                    exact q
          | _ => exact iteT (k H (Same.refl H))
    | _ => exact iteT (k H (Same.refl H))
end
end Kin
namespace Kin
open PySem PySem.Spec PyProof.Rows L2
section
variable {P : Program} {w : World} {K : PySem.W.Frag} {mg : Str → Option Value} {base : Heap} {tL : Tok} {es : Array DictEntry} {nF : Nat}
abbrev s_is_title : Stmt := topS 28
theorem sc_is_title : FnScope [("thing" : Str), ("letter" : Str)] ["thing"] (defScope s_is_title) := ⟨rfl, rfl, rfl, by decide +kernel, rfl, by decide +kernel, by decide +kernel⟩
theorem title_le (c : Nat) : ((!decide ((⟨#[c]⟩ : Str).cps.toList < ("a" : Str).cps.toList)) && (!decide (("z" : Str).cps.toList < (⟨#[c]⟩ : Str).cps.toList))) = (decide (97 ≤ c) && decide (c ≤ 122)) := by
  have ea : ("a" : Str).cps.toList = [97] := by decide +kernel
  have ez : ("z" : Str).cps.toList = [122] := by decide +kernel
  rw [ea, ez]
  show ((!decide (([c] : List Nat) < [97])) && (!decide (([122] : List Nat) < [c]))) = _
  rw [lt1, lt1]
  by_cases h1 : c < 97
  · rw [decide_eq_true h1, decide_eq_false (show ¬ 97 ≤ c by omega)]
    rfl
  · rw [decide_eq_false h1, decide_eq_true (show 97 ≤ c by omega)]
    by_cases h2 : 122 < c
    · rw [decide_eq_true h2, decide_eq_false (show ¬ c ≤ 122 by omega)]
      rfl
    · rw [decide_eq_false h2, decide_eq_true (show c ≤ 122 by omega)]
      rfl
theorem ok_is_title {f : Addr} {fd : FuncData} (F : FnP K "is_title" s_is_title f fd) (T : Bi K w mg tL es nF) : FnOk P w K mg base CX0 1 f fd ["thing"] (spDL K pTitle) := by
  refine F.ok sc_is_title (fun vs H Q E h => ?_) (fun cdv A outer s H vs Q E hr h => ?_)
  · obtain ⟨x, d, rfl, _⟩ := h
    rfl
  · obtain ⟨x, d, rfl, hd, hok, k⟩ := h
    refine ⟨_, PSs.nox (pss_cons (ps_if (PW.pt (pw_or (pt_not (pt_val (pe_callB call_isi (by rfl) T.n_isinstance boot_isinstance (pa_cons (pv 0) (pa_cons (pe_bltn (v := .ty "str") (by rfl) T.n_str boot_str rfl) pa_nil))))) (pw_or1 (pt_not (pt_chain op_le op_le pe_int (pe_callB call_len_str (by rfl) T.n_len PySem.boot_len (pa_cons (pv 0) pa_nil)) (pe_glob (by rfl) T.g_LONGEST_TITLE T.r_LONGEST_TITLE)))))) (pss_one (ps_ret pe_bl)) pss_nil) (pss_one (ps_ret (pe_callB (cr_all rfl) (by rfl) T.n_all boot_all (pa_cons (pe_lc (own := [(("letter" : Str), 1)]) (g := gName 1) rfl sc_is_title.nd (pi_str (pv 0)) (blkOk_by (N := [("thing" : Str), ("letter" : Str)]) (sc := defScope s_is_title) (by decide +kernel)) (fun _ _ _ _ _ => by exact (pg_name (i := 1) sc_is_title.nd rfl (by first | exact .inl rfl | exact .inr rfl))) (fun _ _ _ _ _ => pts_nil) (fun _ _ _ _ _ => (pe_chain op_le_str op_le_str pe_str (pv 1) pe_str))) pa_nil))))), ?_⟩
    refine ⟨x, rfl, x, _, _, _, _, rfl, .ty _, tyx_of hd, kit_str (nd_of hd), _, rfl, ?_⟩
    cases hd with
    | str z =>
      have k : ∀ H', Same H H' → Q (.bl (decide (1 ≤ z.length) && decide (z.length ≤ 8) && azAll z)) H' := k
      have hz : z.length ≤ 1000000 := lenOk_str hok
      have hf : Q (.bl (decide (1 ≤ z.length) && decide (z.length ≤ 8) && azAll z)) H := k H (Same.refl H)
      refine iteF ⟨_, rfl, z, rfl, Nat.le_trans hz (by decide), _, _, rfl, rfl, _, rfl, ?_⟩
      refine ite2 (fun e1 => ?_) (fun e1 => ?_)
      · have e1 : (1 : Int) ≤ (z.length : Int) := of_decide_eq_true e1
        refine ⟨_, _, rfl, rfl, _, rfl, ?_⟩
        by_cases e2 : (z.length : Int) ≤ 8
        · rw [decide_eq_true e2]
          refine iteF ⟨_, rfl, z, rfl, fun D hD => ?_⟩
          refine lc_vals (walk_str (z := z)) (fun i => .bl ((z.cps.toList[i]?.map fun c => decide (97 ≤ c) && decide (c ≤ 122)).getD true)) hD ?_ (fun _ _ => True.intro) ?_ ?_
          · exact Nat.le_trans hz (by decide)
          · rintro i v H' H'' Qe hi s1 ⟨rfl, c, hc, rfl⟩ q
            refine ⟨rfl, ?_⟩
            have q := q H'' (Same.refl H'')
            have ec : z.cps.toList[i]? = some c := by rw [Array.getElem?_toList]; exact hc
            rw [ec] at q
            have q : Qe (.bl (decide (97 ≤ c) && decide (c ≤ 122))) H'' := q
            rw [← title_le c] at q
            refine ⟨_, rfl, _, _, rfl, rfl, _, rfl, ?_⟩
            cases e3 : (!decide ((⟨#[c]⟩ : Str).cps.toList < ("a" : Str).cps.toList)) with
            | true =>
              rw [e3] at q
              exact iteT ⟨_, _, rfl, rfl, q⟩
            | false =>
              rw [e3] at q
              exact iteF q
          · intro H' s1 hl
            refine ⟨D, (List.range z.cps.size).map fun i => (z.cps.toList[i]?.map fun c => decide (97 ≤ c) && decide (c ≤ 122)).getD true, rfl, .inl (.inl ?_), ?_⟩
            · rw [hl, List.map_map]
              rfl
            · have em : (List.range z.cps.size).map (fun i => (z.cps.toList[i]?.map fun c => decide (97 ≤ c) && decide (c ≤ 122)).getD true) = z.cps.toList.map fun c => decide (97 ≤ c) && decide (c ≤ 122) := by
                rw [show z.cps.size = z.cps.toList.length by simp]
                exact map_range_eq fun i x hx => by rw [hx]; rfl
              rw [em, all_id]
              have q := k H' s1
              rw [decide_eq_true (show 1 ≤ z.length by omega), decide_eq_true (show z.length ≤ 8 by omega)] at q
              exact q
        · rw [decide_eq_false e2]
          refine iteT ?_
          rw [decide_eq_false (show ¬ z.length ≤ 8 by omega), Bool.and_false] at hf
          exact hf
      · have e1 : ¬ (1 : Int) ≤ (z.length : Int) := fun q => e1 (decide_eq_true q)
        refine ⟨_, rfl, ?_⟩
        refine iteT ?_
        rw [decide_eq_false (show ¬ 1 ≤ z.length by omega)] at hf
        exact hf
    | _ => exact iteT (k H (Same.refl H))
end
end Kin
namespace Kin
open PySem PySem.Spec PyProof.Rows L2

theorem nsIn_free {K : PySem.W.Frag} {P : Params} {a : Addr} {ks : List Str} (h : He.dicW K a = some (He.keysIn P ks)) {z : Str} (hz : ¬ z ∈ ks) : PySem.W.nsIn K a z = some none := by
  unfold He.dicW at h
  cases q : K.lookup a with
  | none =>
    rw [q] at h
    cases h
  | some o =>
    obtain ⟨oc, od, dt, osl⟩ := o
    rw [q] at h
    cases oc with
    | type c =>
      cases od with
      | none =>
        cases dt with
        | dict es n =>
          have h1 : (match decide (c = "dict") && (osl.isEmpty && !(a == sysModules)) with
            | true => some (es.toList.map He.keyOf)
            | false => none) = some (He.keysIn P ks) := h
          cases zz : decide (c = "dict") && (osl.isEmpty && !(a == sysModules)) with
          | false =>
            rw [zz] at h1
            cases h1
          | true =>
            rw [zz] at h1
            have h2 : es.toList.map He.keyOf = He.keysIn P ks := Option.some.inj h1
            have hk : ∀ e ∈ es.toList, ∃ x t, e.key = .str x t ∧ x ∈ ks := by
              intro e he
              have hm : He.keyOf e ∈ He.keysIn P ks := by
                rw [← h2]
                exact List.mem_map.mpr ⟨e, he, rfl⟩
              obtain ⟨y, hy, ey⟩ := List.mem_map.mp hm
              unfold He.keyOf at ey
              split at ey
              · rename_i x t qk
                have e1 := Option.some.inj ey
                have e2 : y = x := (Prod.mk.inj e1).1
                exact ⟨x, t, qk, e2 ▸ hy⟩
              · cases ey
            unfold PySem.W.nsIn
            rw [q]
            have hf : es.toList.find? (fun e => e.key.isStr z) = none := by
              rw [List.find?_eq_none]
              intro e he hs
              obtain ⟨x, t, ek, hx⟩ := hk e he
              rw [ek] at hs
              have : x = z := eq_of_beq hs
              exact hz (this ▸ hx)
            have hr : es.toList.any (fun e => e.refKey) = false := by
              rw [List.any_eq_false]
              intro e he
              obtain ⟨x, t, ek, hx⟩ := hk e he
              unfold DictEntry.refKey
              rw [ek]
              simp
            show (match es.toList.find? (fun e => e.key.isStr z) with
              | some e => some (some e.val)
              | none => if es.toList.any (fun e => e.refKey) then none else some none) = _
            rw [hf, hr]
            rfl
        | _ => cases h
      | some b => cases dt <;> cases h
    | _ => cases od <;> cases dt <;> cases h
theorem forms_yes {K : PySem.W.Frag} (h : formsB K = true) {z : Str} {ks : List Str} (hz : forms.lookup z = some ks) : ∃ a, PySem.W.nsIn K (He.ga K "FORMS") z = some (some (.ref a)) ∧ ∀ H, SqT K H a (ks.map V.str) := by
  have h1 := (List.all_eq_true.mp h) (z, ks) (mem_of_lookup hz)
  dsimp only at h1
  split at h1
  · rename_i a ha
    split at h1
    · rename_i c od its m osl hl
      obtain ⟨h2, h3⟩ := He.ba h1
      obtain ⟨h4, h5⟩ := He.ba h3
      exact ⟨a, ha, fun H => .inr ⟨_, its, m, hl, congrArg Value.type (of_decide_eq_true h2), rfl, of_decide_eq_true h4, He.relAll_ok h5⟩⟩
    · cases h1
  · cases h1
theorem plain_ok {K : PySem.W.Frag} (h : plainB K = true) : ∃ o, K.lookup (He.ga K "SIGNALS") = some o ∧ o.cls = .type "tuple" ∧ o.dict = none := by
  unfold plainB at h
  split at h
  · rename_i c dt osl hl
    exact ⟨_, hl, congrArg Value.type (of_decide_eq_true h), rfl⟩
  · cases h
theorem none_ok {K : PySem.W.Frag} {a : Addr} (h : noneB K a = true) (H : Hp) : Dp K H (.ref a) (qD []) := by
  unfold noneB at h
  split at h
  · rename_i c od its n osl hl
    obtain ⟨h1, h2⟩ := He.ba h
    have h2 := of_decide_eq_true h2
    subst h2
    exact .tup (.inr ⟨_, #[], n, hl, congrArg Value.type (of_decide_eq_true h1), rfl, Nat.zero_le _, .nil⟩) .nil
  · cases h
theorem facts {l : PySem.W.OpenLaw} {w : World} {K : PySem.W.Frag} {h : Heap} {mg : Str → Option Value} {fl : Addr} (X : K.In h) (G : h.Ns mainGlobals mg) (hfl : mg "law" = some (.ref fl)) (c : He.SaysX fa fn ts [] ex w h K) :
    ∃ fd : FuncData, (∀ (s : Shared) (v : Value), BindsTo s fd ⟨[v], []⟩ [("_law_script", v)]) ∧ ∀ base : Heap, K.In base → base.Ns mainGlobals mg → (∃ mm, base.Ns sysModules mm) → FnG l.prog w K mg base CX0 12 fl fd ["_law_script"] (spLaw K) := by
  obtain ⟨es, nF, kd⟩ := c.t.tab 0 (t := (fun K => He.ga K "FORMS", forms.map (·.1))) rfl
  obtain ⟨tL, gL⟩ := He.int_ok X G (c.t.d.fact 18 (f := .int "LONGEST_TITLE" 8) rfl)
  have hdw : He.dicW K (He.ga K "FORMS") = some (He.keysIn w.params (forms.map (·.1))) := by
    have e : ts.map (fun t => He.dicW K (t.1 K)) = ts.map fun t => some (He.keysIn w.params t.2) := congrArg (fun z : He.AlT => z.2) c.t
    exact (List.cons.inj e).1
  obtain ⟨hx1, hx2⟩ := He.ba c.more
  obtain ⟨hx0, hx1⟩ := He.ba hx1
  obtain ⟨hx3, hx4⟩ := He.ba hx2
  obtain ⟨hx5, hx6⟩ := He.ba hx4
  have hT : ∀ H, Dp K H (.ref (typA K)) (qD []) := none_ok hx0
  have T : Bi K w mg tL es nF := {
    n_isinstance := He.free_ok X G (c.t.d.fact 0 (f := .free "isinstance") rfl)
    n_int := He.free_ok X G (c.t.d.fact 1 (f := .free "int") rfl)
    n_bool := He.free_ok X G (c.t.d.fact 2 (f := .free "bool") rfl)
    n_str := He.free_ok X G (c.t.d.fact 3 (f := .free "str") rfl)
    n_tuple := He.free_ok X G (c.t.d.fact 4 (f := .free "tuple") rfl)
    n_list := He.free_ok X G (c.t.d.fact 5 (f := .free "list") rfl)
    n_len := He.free_ok X G (c.t.d.fact 6 (f := .free "len") rfl)
    n_all := He.free_ok X G (c.t.d.fact 7 (f := .free "all") rfl)
    n_zip := He.free_ok X G (c.t.d.fact 8 (f := .free "zip") rfl)
    n_enumerate := He.free_ok X G (c.t.d.fact 9 (f := .free "enumerate") rfl)
    n_range := He.free_ok X G (c.t.d.fact 10 (f := .free "range") rfl)
    n_sorted := He.free_ok X G (c.t.d.fact 11 (f := .free "sorted") rfl)
    n_set := He.free_ok X G (c.t.d.fact 12 (f := .free "set") rfl)
    n_repr := He.free_ok X G (c.t.d.fact 13 (f := .free "repr") rfl)
    g_SIGNALS := He.glo_ok X G (c.t.d.fact 15 (f := .glo "SIGNALS") rfl)
    g_SURE := He.glo_ok X G (c.t.d.fact 16 (f := .glo "SURE") rfl)
    g_FORMS := He.glo_ok X G (c.t.d.fact 17 (f := .glo "FORMS") rfl)
    g_LONGEST_TITLE := gL
    sig := fun H => He.tupB_ok hx1 H
    sigK := plain_ok hx6
    sur := fun H => He.tupB_ok hx3 H
    kd := kd
    fno := fun z hz => nsIn_free hdw (fun q => by
      obtain ⟨⟨z', ks⟩, hm, e⟩ := List.mem_map.mp q
      have e : z' = z := e
      subst e
      have hs : ∀ q ∈ forms, (forms.lookup q.1).isSome = true := by decide +kernel
      have := hs _ hm
      rw [hz] at this
      cases this)
    fyes := fun z ks hz => forms_yes hx5 hz }
  have hab := He.free_ok X G (c.t.d.fact 14 (f := .free "abs") rfl)
  have Z : Cz K mg := {
    gP := He.glo_ok X G (c.t.d.fact 61 (f := .glo "Person") rfl)
    clP := He.cls_ok (c.t.d.fact 63 (f := .cls "Person") rfl)
    noP := fun f hf => by
      simp only [persF, List.mem_cons, List.not_mem_nil, or_false] at hf
      rcases hf with rfl | rfl | rfl | rfl | rfl | rfl | rfl | rfl | rfl | rfl | rfl | rfl | rfl | rfl | rfl | rfl
      · exact He.noat_ok (c.t.d.fact 67 (f := .noat "Person" "parent") rfl)
      · exact He.noat_ok (c.t.d.fact 68 (f := .noat "Person" "group") rfl)
      · exact He.noat_ok (c.t.d.fact 69 (f := .noat "Person" "session") rfl)
      · exact He.noat_ok (c.t.d.fact 70 (f := .noat "Person" "how") rfl)
      · exact He.noat_ok (c.t.d.fact 71 (f := .noat "Person" "word") rfl)
      · exact He.noat_ok (c.t.d.fact 72 (f := .noat "Person" "title") rfl)
      · exact He.noat_ok (c.t.d.fact 73 (f := .noat "Person" "row") rfl)
      · exact He.noat_ok (c.t.d.fact 74 (f := .noat "Person" "last") rfl)
      · exact He.noat_ok (c.t.d.fact 75 (f := .noat "Person" "mask") rfl)
      · exact He.noat_ok (c.t.d.fact 76 (f := .noat "Person" "held") rfl)
      · exact He.noat_ok (c.t.d.fact 77 (f := .noat "Person" "handlers") rfl)
      · exact He.noat_ok (c.t.d.fact 78 (f := .noat "Person" "pile") rfl)
      · exact He.noat_ok (c.t.d.fact 79 (f := .noat "Person" "born") rfl)
      · exact He.noat_ok (c.t.d.fact 80 (f := .noat "Person" "taker") rfl)
      · exact He.noat_ok (c.t.d.fact 81 (f := .noat "Person" "changed") rfl)
      · exact He.noat_ok (c.t.d.fact 82 (f := .noat "Person" "news") rfl)
    gH := He.glo_ok X G (c.t.d.fact 62 (f := .glo "House") rfl)
    clH := He.cls_ok (c.t.d.fact 64 (f := .cls "House") rfl)
    noH := fun f hf => by
      simp only [houseF, List.mem_cons, List.not_mem_nil, or_false] at hf
      rcases hf with rfl | rfl | rfl | rfl | rfl
      · exact He.noat_ok (c.t.d.fact 83 (f := .noat "House" "book") rfl)
      · exact He.noat_ok (c.t.d.fact 84 (f := .noat "House" "programs") rfl)
      · exact He.noat_ok (c.t.d.fact 85 (f := .noat "House" "people") rfl)
      · exact He.noat_ok (c.t.d.fact 86 (f := .noat "House" "fronts") rfl)
      · exact He.noat_ok (c.t.d.fact 87 (f := .noat "House" "queues") rfl) }
  have hlaw := hfl.symm.trans (He.glo_ok X G (c.t.d.fact 60 (f := .glo "law") rfl))
  cases hlaw
  obtain ⟨fd_law, F_law⟩ := c.t.d.def_ 41 (d := mkD "law" 62) rfl
  refine ⟨fd_law, fun s v => FunD.bindsA (ps := ["_law_script"]) F_law (fun _ _ _ _ _ _ us hl => match us, hl with | [_], _ => rfl) s [v] rfl, fun base _ _ mods => ?_⟩
  obtain ⟨fd__law_box, F__law_box⟩ := c.t.d.def_ 32 (d := mkD "_law_box" 53) rfl
  have m__law_box := He.glo_ok X G (c.t.d.fact 51 (f := .glo "_law_box") rfl)
  have c__law_box : Cal l.prog w K mg base "_law_box" ["_law_script", "_law_k"] 1 (spBox K) := ⟨_, _, ok__law_box F__law_box T hab, m__law_box, F__law_box.kp, FunD.bindsN (ps := ["_law_script", "_law_k"]) F__law_box (fun _ _ _ _ _ _ us hl => match us, hl with | [_, _], _ => rfl)⟩
  obtain ⟨fd__law_take, F__law_take⟩ := c.t.d.def_ 33 (d := mkD "_law_take" 54) rfl
  have m__law_take := He.glo_ok X G (c.t.d.fact 52 (f := .glo "_law_take") rfl)
  have c__law_take : Cal l.prog w K mg base "_law_take" ["_law_box_here", "_law_many"] 1 spTake := ⟨_, _, ok__law_take F__law_take T, m__law_take, F__law_take.kp, FunD.bindsN (ps := ["_law_box_here", "_law_many"]) F__law_take (fun _ _ _ _ _ _ us hl => match us, hl with | [_, _], _ => rfl)⟩
  obtain ⟨fd__law_order, F__law_order⟩ := c.t.d.def_ 34 (d := mkD "_law_order" 55) rfl
  have m__law_order := He.glo_ok X G (c.t.d.fact 53 (f := .glo "_law_order") rfl)
  have c__law_order : Cal l.prog w K mg base "_law_order" [] 1 spOrder := ⟨_, _, ok__law_order F__law_order T, m__law_order, F__law_order.kp, FunD.bindsN (ps := []) F__law_order (fun _ _ _ _ _ _ us hl => match us, hl with | [], _ => rfl)⟩
  obtain ⟨fd__law_few, F__law_few⟩ := c.t.d.def_ 35 (d := mkD "_law_few" 56) rfl
  have m__law_few := He.glo_ok X G (c.t.d.fact 54 (f := .glo "_law_few") rfl)
  have c__law_few : Cal l.prog w K mg base "_law_few" ["_law_box_here"] 2 spFew := ⟨_, _, ok__law_few F__law_few T c__law_take c__law_order, m__law_few, F__law_few.kp, FunD.bindsN (ps := ["_law_box_here"]) F__law_few (fun _ _ _ _ _ _ us hl => match us, hl with | [_], _ => rfl)⟩
  obtain ⟨fd__law_signal_row, F__law_signal_row⟩ := c.t.d.def_ 37 (d := mkD "_law_signal_row" 58) rfl
  have m__law_signal_row := He.glo_ok X G (c.t.d.fact 56 (f := .glo "_law_signal_row") rfl)
  have c__law_signal_row : Cal l.prog w K mg base "_law_signal_row" ["_law_box_here", "_law_size"] 3 (spSigRow K) := ⟨_, _, ok__law_signal_row F__law_signal_row T c__law_take c__law_order c__law_few, m__law_signal_row, F__law_signal_row.kp, FunD.bindsN (ps := ["_law_box_here", "_law_size"]) F__law_signal_row (fun _ _ _ _ _ _ us hl => match us, hl with | [_, _], _ => rfl)⟩
  obtain ⟨fd__law_group_row, F__law_group_row⟩ := c.t.d.def_ 38 (d := mkD "_law_group_row" 59) rfl
  have m__law_group_row := He.glo_ok X G (c.t.d.fact 57 (f := .glo "_law_group_row") rfl)
  have c__law_group_row : Cal l.prog w K mg base "_law_group_row" ["_law_box_here"] 2 (spGrpRow K) := ⟨_, _, ok__law_group_row F__law_group_row T c__law_take, m__law_group_row, F__law_group_row.kp, FunD.bindsN (ps := ["_law_box_here"]) F__law_group_row (fun _ _ _ _ _ _ us hl => match us, hl with | [_], _ => rfl)⟩
  obtain ⟨fd__law_kin_row, F__law_kin_row⟩ := c.t.d.def_ 36 (d := mkD "_law_kin_row" 57) rfl
  have m__law_kin_row := He.glo_ok X G (c.t.d.fact 55 (f := .glo "_law_kin_row") rfl)
  have c__law_kin_row : Cal l.prog w K mg base "_law_kin_row" ["_law_box_here", "_law_size", "_law_titles"] 2 (spKinRow K) := ⟨_, _, ok__law_kin_row F__law_kin_row T c__law_take, m__law_kin_row, F__law_kin_row.kp, FunD.bindsN (ps := ["_law_box_here", "_law_size", "_law_titles"]) F__law_kin_row (fun _ _ _ _ _ _ us hl => match us, hl with | [_, _, _], _ => rfl)⟩
  obtain ⟨fd__law_rows, F__law_rows⟩ := c.t.d.def_ 39 (d := mkD "_law_rows" 60) rfl
  have m__law_rows := He.glo_ok X G (c.t.d.fact 58 (f := .glo "_law_rows") rfl)
  have c__law_rows : Cal l.prog w K mg base "_law_rows" ["_law_box_here", "_law_titles", "_law_kinds"] 4 (spBRows K) := ⟨_, _, ok__law_rows F__law_rows T c__law_take c__law_signal_row c__law_group_row c__law_kin_row, m__law_rows, F__law_rows.kp, FunD.bindsN (ps := ["_law_box_here", "_law_titles", "_law_kinds"]) F__law_rows (fun _ _ _ _ _ _ us hl => match us, hl with | [_, _, _], _ => rfl)⟩
  obtain ⟨fd__law_book, F__law_book⟩ := c.t.d.def_ 40 (d := mkD "_law_book" 61) rfl
  have m__law_book := He.glo_ok X G (c.t.d.fact 59 (f := .glo "_law_book") rfl)
  have c__law_book : Cal l.prog w K mg base "_law_book" ["_law_box_here", "_law_kinds"] 5 (spBBook K) := ⟨_, _, ok__law_book F__law_book T c__law_take c__law_rows, m__law_book, F__law_book.kp, FunD.bindsN (ps := ["_law_box_here", "_law_kinds"]) F__law_book (fun _ _ _ _ _ _ us hl => match us, hl with | [_, _], _ => rfl)⟩
  obtain ⟨fd_is_title, F_is_title⟩ := c.t.d.def_ 11 (d := mkD "is_title" 28) rfl
  have m_is_title := He.glo_ok X G (c.t.d.fact 30 (f := .glo "is_title") rfl)
  have c_is_title : Cal l.prog w K mg base "is_title" ["thing"] 1 (spDL K pTitle) := ⟨_, _, ok_is_title F_is_title T, m_is_title, F_is_title.kp, FunD.bindsN (ps := ["thing"]) F_is_title (fun _ _ _ _ _ _ us hl => match us, hl with | [_], _ => rfl)⟩
  obtain ⟨fd_is_whole, F_is_whole⟩ := c.t.d.def_ 2 (d := mkD "is_whole" 13) rfl
  have m_is_whole := He.glo_ok X G (c.t.d.fact 21 (f := .glo "is_whole") rfl)
  have c_is_whole : Cal l.prog w K mg base "is_whole" ["thing"] 1 (spD K pWhole) := ⟨_, _, ok_is_whole F_is_whole T, m_is_whole, F_is_whole.kp, FunD.bindsN (ps := ["thing"]) F_is_whole (fun _ _ _ _ _ _ us hl => match us, hl with | [_], _ => rfl)⟩
  obtain ⟨fd_is_small, F_is_small⟩ := c.t.d.def_ 4 (d := mkD "is_small" 15) rfl
  have m_is_small := He.glo_ok X G (c.t.d.fact 23 (f := .glo "is_small") rfl)
  have c_is_small : Cal l.prog w K mg base "is_small" ["thing"] 2 (spD K pSmall) := ⟨_, _, ok_is_small F_is_small T c_is_whole, m_is_small, F_is_small.kp, FunD.bindsN (ps := ["thing"]) F_is_small (fun _ _ _ _ _ _ us hl => match us, hl with | [_], _ => rfl)⟩
  obtain ⟨fd_is_natural, F_is_natural⟩ := c.t.d.def_ 3 (d := mkD "is_natural" 14) rfl
  have m_is_natural := He.glo_ok X G (c.t.d.fact 22 (f := .glo "is_natural") rfl)
  have c_is_natural : Cal l.prog w K mg base "is_natural" ["thing"] 2 (spD K pNat) := ⟨_, _, ok_is_natural F_is_natural T c_is_whole, m_is_natural, F_is_natural.kp, FunD.bindsN (ps := ["thing"]) F_is_natural (fun _ _ _ _ _ _ us hl => match us, hl with | [_], _ => rfl)⟩
  obtain ⟨fd_is_row_number, F_is_row_number⟩ := c.t.d.def_ 12 (d := mkD "is_row_number" 29) rfl
  have m_is_row_number := He.glo_ok X G (c.t.d.fact 31 (f := .glo "is_row_number") rfl)
  have c_is_row_number : Cal l.prog w K mg base "is_row_number" ["thing", "size"] 3 (spDI K pRowNo) := ⟨_, _, ok_is_row_number F_is_row_number T c_is_natural, m_is_row_number, F_is_row_number.kp, FunD.bindsN (ps := ["thing", "size"]) F_is_row_number (fun _ _ _ _ _ _ us hl => match us, hl with | [_, _], _ => rfl)⟩
  obtain ⟨fd_is_one_of, F_is_one_of⟩ := c.t.d.def_ 5 (d := mkD "is_one_of" 16) rfl
  have m_is_one_of := He.glo_ok X G (c.t.d.fact 24 (f := .glo "is_one_of") rfl)
  have c_is_one_of : Cal l.prog w K mg base "is_one_of" ["thing", "words"] 1 (spOne K) := ⟨_, _, ok_is_one_of F_is_one_of T, m_is_one_of, F_is_one_of.kp, FunD.bindsN (ps := ["thing", "words"]) F_is_one_of (fun _ _ _ _ _ _ us hl => match us, hl with | [_, _], _ => rfl)⟩
  obtain ⟨fd_is_signal, F_is_signal⟩ := c.t.d.def_ 8 (d := mkD "is_signal" 22) rfl
  have m_is_signal := He.glo_ok X G (c.t.d.fact 27 (f := .glo "is_signal") rfl)
  have c_is_signal : Cal l.prog w K mg base "is_signal" ["thing"] 2 (spD K fun d => pOne d sig9) := ⟨_, _, ok_is_signal F_is_signal T c_is_one_of, m_is_signal, F_is_signal.kp, FunD.bindsN (ps := ["thing"]) F_is_signal (fun _ _ _ _ _ _ us hl => match us, hl with | [_], _ => rfl)⟩
  obtain ⟨fd_is_loose, F_is_loose⟩ := c.t.d.def_ 9 (d := mkD "is_loose" 23) rfl
  have m_is_loose := He.glo_ok X G (c.t.d.fact 28 (f := .glo "is_loose") rfl)
  have c_is_loose : Cal l.prog w K mg base "is_loose" ["thing"] 3 (spD K pLoose) := ⟨_, _, ok_is_loose F_is_loose T c_is_signal, m_is_loose, F_is_loose.kp, FunD.bindsN (ps := ["thing"]) F_is_loose (fun _ _ _ _ _ _ us hl => match us, hl with | [_], _ => rfl)⟩
  obtain ⟨fd_are_loose, F_are_loose⟩ := c.t.d.def_ 10 (d := mkD "are_loose" 24) rfl
  have m_are_loose := He.glo_ok X G (c.t.d.fact 29 (f := .glo "are_loose") rfl)
  have c_are_loose : Cal l.prog w K mg base "are_loose" ["thing"] 4 (spD K pAre) := ⟨_, _, ok_are_loose F_are_loose T c_is_loose, m_are_loose, F_are_loose.kp, FunD.bindsN (ps := ["thing"]) F_are_loose (fun _ _ _ _ _ _ us hl => match us, hl with | [_], _ => rfl)⟩
  obtain ⟨fd_is_handler, F_is_handler⟩ := c.t.d.def_ 13 (d := mkD "is_handler" 30) rfl
  have m_is_handler := He.glo_ok X G (c.t.d.fact 32 (f := .glo "is_handler") rfl)
  have c_is_handler : Cal l.prog w K mg base "is_handler" ["thing", "size"] 5 (spDI K pHandler) := ⟨_, _, ok_is_handler F_is_handler T c_is_row_number c_are_loose, m_is_handler, F_is_handler.kp, FunD.bindsN (ps := ["thing", "size"]) F_is_handler (fun _ _ _ _ _ _ us hl => match us, hl with | [_, _], _ => rfl)⟩
  obtain ⟨fd_is_child_part, F_is_child_part⟩ := c.t.d.def_ 14 (d := mkD "is_child_part" 31) rfl
  have m_is_child_part := He.glo_ok X G (c.t.d.fact 33 (f := .glo "is_child_part") rfl)
  have c_is_child_part : Cal l.prog w K mg base "is_child_part" ["kind", "part"] 3 (spChild K) := ⟨_, _, ok_is_child_part F_is_child_part T c_is_natural c_is_one_of, m_is_child_part, F_is_child_part.kp, FunD.bindsN (ps := ["kind", "part"]) F_is_child_part (fun _ _ _ _ _ _ us hl => match us, hl with | [_, _], _ => rfl)⟩
  obtain ⟨fd_is_part, F_is_part⟩ := c.t.d.def_ 15 (d := mkD "is_part" 32) rfl
  have m_is_part := He.glo_ok X G (c.t.d.fact 34 (f := .glo "is_part") rfl)
  have c_is_part : Cal l.prog w K mg base "is_part" ["kind", "part", "size"] 6 (spPart K) := ⟨_, _, ok_is_part F_is_part T c_is_title c_is_small c_is_whole c_is_row_number c_is_signal c_is_loose c_are_loose c_is_one_of c_is_handler c_is_child_part, m_is_part, F_is_part.kp, FunD.bindsN (ps := ["kind", "part", "size"]) F_is_part (fun _ _ _ _ _ _ us hl => match us, hl with | [_, _, _], _ => rfl)⟩
  obtain ⟨fd_is_row, F_is_row⟩ := c.t.d.def_ 16 (d := mkD "is_row" 33) rfl
  have m_is_row := He.glo_ok X G (c.t.d.fact 35 (f := .glo "is_row") rfl)
  have c_is_row : Cal l.prog w K mg base "is_row" ["thing", "size"] 7 (spRow K pRow) := ⟨_, _, ok_is_row F_is_row T c_is_part, m_is_row, F_is_row.kp, FunD.bindsN (ps := ["thing", "size"]) F_is_row (fun _ _ _ _ _ _ us hl => match us, hl with | [_, _], _ => rfl)⟩
  obtain ⟨fd_is_program, F_is_program⟩ := c.t.d.def_ 17 (d := mkD "is_program" 34) rfl
  have m_is_program := He.glo_ok X G (c.t.d.fact 36 (f := .glo "is_program") rfl)
  have c_is_program : Cal l.prog w K mg base "is_program" ["thing"] 8 (spDL K pProg) := ⟨_, _, ok_is_program F_is_program T c_is_title c_is_row, m_is_program, F_is_program.kp, FunD.bindsN (ps := ["thing"]) F_is_program (fun _ _ _ _ _ _ us hl => match us, hl with | [_], _ => rfl)⟩
  obtain ⟨fd_is_book, F_is_book⟩ := c.t.d.def_ 18 (d := mkD "is_book" 35) rfl
  have m_is_book := He.glo_ok X G (c.t.d.fact 37 (f := .glo "is_book") rfl)
  have c_is_book : Cal l.prog w K mg base "is_book" ["thing"] 9 (spBook K pBook) := ⟨_, _, ok_is_book F_is_book T c_is_program, m_is_book, F_is_book.kp, FunD.bindsN (ps := ["thing"]) F_is_book (fun _ _ _ _ _ _ us hl => match us, hl with | [_], _ => rfl)⟩
  obtain ⟨fd_are_small, F_are_small⟩ := c.t.d.def_ 7 (d := mkD "are_small" 18) rfl
  have m_are_small := He.glo_ok X G (c.t.d.fact 26 (f := .glo "are_small") rfl)
  have c_are_small : Cal l.prog w K mg base "are_small" ["thing"] 3 (spDL K pSmalls) := ⟨_, _, ok_are_small F_are_small T c_is_small, m_are_small, F_are_small.kp, FunD.bindsN (ps := ["thing"]) F_are_small (fun _ _ _ _ _ _ us hl => match us, hl with | [_], _ => rfl)⟩
  obtain ⟨fd_Person___init__, F_Person___init__⟩ := c.t.d.def_ 42 (d := mkM "Person" "__init__" "Person.__init__" 9 0) rfl
  have k_Person : CalK l.prog w K mg base (He.ga K "Person") ["self", "parent", "group", "session", "title"] 1 (spIniP K) := ⟨_, _, He.mkr_ok (c.t.d.fact 65 (f := .mkr "Person") rfl), ok_Person___init__ F_Person___init__ Z, FunD.bindsN (ps := ["self", "parent", "group", "session", "title"]) F_Person___init__ (fun _ _ _ _ _ _ us hl => match us, hl with | [_, _, _, _, _], _ => rfl)⟩
  obtain ⟨fd_first_one, F_first_one⟩ := c.t.d.def_ 0 (d := mkD "first_one" 10) rfl
  have m_first_one := He.glo_ok X G (c.t.d.fact 19 (f := .glo "first_one") rfl)
  have c_first_one : Cal l.prog w K mg base "first_one" ["title"] 3 (spFirst K) := ⟨_, _, ok_first_one F_first_one Z k_Person, m_first_one, F_first_one.kp, FunD.bindsN (ps := ["title"]) F_first_one (fun _ _ _ _ _ _ us hl => match us, hl with | [_], _ => rfl)⟩
  obtain ⟨fd_House___init__, F_House___init__⟩ := c.t.d.def_ 43 (d := mkK "House" "__init__" "House.__init__" 51 0) rfl
  obtain ⟨dsH, vdH, bdH⟩ := FunD.binds0 (ps := ["self", "book", "title", "typed"]) F_House___init__ 3 (fun z => nomatch z) rfl (fun _ _ _ _ _ _ us ks h1 h2 => match us, ks, h1, h2 with | [_, _, _], [_], _, _ => ⟨_, _, _, _, _, _, rfl, rfl, rfl⟩)
  obtain ⟨_, kbH⟩ := FunD.kbinds0 (ps := ["self", "book", "title", "typed"]) F_House___init__ 3 ["typed"] [] (fun us _ ws => us ++ ws) (fun z => nomatch z) (fun q hq => nomatch hq) (fun r1 _ r3 => r1.append r3) (fun _ _ _ _ _ _ us mv ws h1 h2 h3 => match us, mv, ws, h1, h2, h3 with | [_, _, _], [], [_], _, _, _ => rfl)
  have k_House : CalH l.prog w K mg base (He.ga K "House") ["self", "book", "title", "typed"] "typed" 2 (.ref (typA K)) 10 (spIniH K) := ⟨_, _, dsH, _, He.mkr_ok (c.t.d.fact 66 (f := .mkr "House") rfl), ok_House___init__ F_House___init__ T Z c_is_book c_are_small c_first_one, vdH, bdH, kbH⟩
  obtain ⟨fd_House_names, F_House_names⟩ := c.t.d.def_ 45 (d := mkM "House" "names" "House.names" 51 2) rfl
  have m_House_names : CalM l.prog w K mg base (He.ga K "House") "names" ["self"] 1 (spNames K) := ⟨_, _, Z.clH, He.meth_ok (c.t.d.fact 88 (f := .meth "House" "names") rfl), ok_House_names F_House_names T Z, FunD.bindsN (ps := ["self"]) F_House_names (fun _ _ _ _ _ _ us hl => match us, hl with | [_], _ => rfl)⟩
  obtain ⟨fd_is_name, F_is_name⟩ := c.t.d.def_ 6 (d := mkD "is_name" 17) rfl
  have m_is_name := He.glo_ok X G (c.t.d.fact 25 (f := .glo "is_name") rfl)
  have c_is_name : Cal l.prog w K mg base "is_name" ["thing"] 3 (spDL K pName) := ⟨_, _, ok_is_name F_is_name T c_is_natural, m_is_name, F_is_name.kp, FunD.bindsN (ps := ["thing"]) F_is_name (fun _ _ _ _ _ _ us hl => match us, hl with | [_], _ => rfl)⟩
  obtain ⟨fd_things_of, F_things_of⟩ := c.t.d.def_ 1 (d := mkD "things_of" 11) rfl
  have m_things_of := He.glo_ok X G (c.t.d.fact 20 (f := .glo "things_of") rfl)
  have c_things_of : Cal l.prog w K mg base "things_of" ["person"] 1 (spThings K) := ⟨_, _, ok_things_of F_things_of Z, m_things_of, F_things_of.kp, FunD.bindsN (ps := ["person"]) F_things_of (fun _ _ _ _ _ _ us hl => match us, hl with | [_], _ => rfl)⟩
  obtain ⟨fd_House_person, F_House_person⟩ := c.t.d.def_ 44 (d := mkM "House" "person" "House.person" 51 1) rfl
  have m_House_person : CalM l.prog w K mg base (He.ga K "House") "person" ["self", "name"] 4 (spPerson K) := ⟨_, _, Z.clH, He.meth_ok (c.t.d.fact 89 (f := .meth "House" "person") rfl), ok_House_person F_House_person T Z c_is_name c_things_of, FunD.bindsN (ps := ["self", "name"]) F_House_person (fun _ _ _ _ _ _ us hl => match us, hl with | [_, _], _ => rfl)⟩
  obtain ⟨fd_House_sessions, F_House_sessions⟩ := c.t.d.def_ 49 (d := mkM "House" "sessions" "House.sessions" 51 6) rfl
  have m_House_sessions : CalM l.prog w K mg base (He.ga K "House") "sessions" ["self"] 1 (spSessions K) := ⟨_, _, Z.clH, He.meth_ok (c.t.d.fact 90 (f := .meth "House" "sessions") rfl), ok_House_sessions F_House_sessions T Z, FunD.bindsN (ps := ["self"]) F_House_sessions (fun _ _ _ _ _ _ us hl => match us, hl with | [_], _ => rfl)⟩
  obtain ⟨fd_House_check_session, F_House_check_session⟩ := c.t.d.def_ 48 (d := mkM "House" "check_session" "House.check_session" 51 5) rfl
  have m_House_check_session : CalM l.prog w K mg base (He.ga K "House") "check_session" ["self", "session"] 4 (spCheck K) := ⟨_, _, Z.clH, He.meth_ok (c.t.d.fact 93 (f := .meth "House" "check_session") rfl), ok_House_check_session F_House_check_session T Z c_is_name, FunD.bindsN (ps := ["self", "session"]) F_House_check_session (fun _ _ _ _ _ _ us hl => match us, hl with | [_, _], _ => rfl)⟩
  obtain ⟨fd_House_front, F_House_front⟩ := c.t.d.def_ 46 (d := mkM "House" "front" "House.front" 51 3) rfl
  have m_House_front : CalM l.prog w K mg base (He.ga K "House") "front" ["self", "session"] 5 (spFront K) := ⟨_, _, Z.clH, He.meth_ok (c.t.d.fact 91 (f := .meth "House" "front") rfl), ok_House_front F_House_front T Z m_House_check_session, FunD.bindsN (ps := ["self", "session"]) F_House_front (fun _ _ _ _ _ _ us hl => match us, hl with | [_, _], _ => rfl)⟩
  obtain ⟨fd_House_typed, F_House_typed⟩ := c.t.d.def_ 47 (d := mkM "House" "typed" "House.typed" 51 4) rfl
  have m_House_typed : CalM l.prog w K mg base (He.ga K "House") "typed" ["self", "session"] 5 (spTyped K) := ⟨_, _, Z.clH, He.meth_ok (c.t.d.fact 92 (f := .meth "House" "typed") rfl), ok_House_typed F_House_typed T Z m_House_check_session, FunD.bindsN (ps := ["self", "session"]) F_House_typed (fun _ _ _ _ _ _ us hl => match us, hl with | [_, _], _ => rfl)⟩
  obtain ⟨fd_House___len__, F_House___len__⟩ := c.t.d.def_ 50 (d := mkM "House" "__len__" "House.__len__" 51 10) rfl
  have m_House___len__ : CalM l.prog w K mg base (He.ga K "House") "__len__" ["self"] 1 (spLen K) := ⟨_, _, Z.clH, He.meth_ok (c.t.d.fact 94 (f := .meth "House" "__len__") rfl), ok_House___len__ F_House___len__ T Z, FunD.bindsN (ps := ["self"]) F_House___len__ (fun _ _ _ _ _ _ us hl => match us, hl with | [_], _ => rfl)⟩
  exact ok_law F_law T Z hT mods c__law_box c__law_book c__law_take k_House m_House_names m_House_person m_House_sessions m_House_front m_House_typed m_House___len__
end Kin
open PySem PySem.W PySem.Calls PyProof.Rows
set_option maxRecDepth 100000 in
set_option maxHeartbeats 0 in
theorem PySem.Challenge.cw_kinsignals_k09_how_a_house_begins_holds : PySem.Challenge.rw_kinsignals_k09_how_a_house_begins.Holds := by
  w_on; o_law
  refine HandSHeadRun.head_any (r := OpenLaw.row PySem.Challenge.rw_kinsignals_k09_how_a_house_begins) (q := view (OpenLaw.row PySem.Challenge.rw_kinsignals_k09_how_a_house_begins).prog [62]) (H := Kin.hk) (ob := Kin.ob) (M := 12000) (loose := Kin.loose) (d := HandSHeadRun.topDef (OpenLaw.row PySem.Challenge.rw_kinsignals_k09_how_a_house_begins).prog 62) (kwd := []) Kin.ob_eq
    (by kernel_rfl) (fun s => by kernel_rfl) Kin.run (by kernel_rfl) (by kernel_rfl) (by kernel_rfl) (by rfl) (by first | assumption | decide +kernel) (by decide +kernel) ⟨rfl, rfl, rfl, rfl, rfl, by decide +kernel⟩ ?hw ?hc
  case hw => w_witness2
  case hc =>
    refine Kin.walkG (l := PySem.Challenge.rw_kinsignals_k09_how_a_house_begins) (n := 63) (k := 12) (x := "_law_script") rfl (by decide) (by kernel_rfl) ⟨rfl, by decide, by decide⟩ ?F (by kernel_rfl)
    intro w mg fl h Y G hmg0
    obtain ⟨K, KX, c⟩ := Y
    have hmg : mg ("law" : PySem.Str) = some (.ref fl) := by
      have e : (HandSHeadRun.topDef (OpenLaw.row PySem.Challenge.rw_kinsignals_k09_how_a_house_begins).prog 62).name = ("law" : PySem.Str) := by kernel_rfl
      rw [← e]
      exact hmg0
    obtain ⟨fd, hb, hF⟩ := Kin.facts (l := PySem.Challenge.rw_kinsignals_k09_how_a_house_begins) (w := w) KX G hmg c
    exact ⟨K, fd, Kin.spLaw K, KX, hb, fun H a ns hl _ hS => ⟨a, ns, rfl, hS, hl, fun _ => rfl⟩, hF⟩
