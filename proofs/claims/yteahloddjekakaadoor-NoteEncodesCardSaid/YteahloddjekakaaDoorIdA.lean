/-
  Texts of earlier layers that this seat's laws call, in one text (by program): IMath, IBase, IHead, IBack, ICheck, IMake, IIsin, IRef, IRefIsin, IKnown, IMember.
-/
import Derived.Test.YteahloddjekakaaDoorRows
import Derived.WalkKit
import Derived.WalkSpells
import Derived.WalkLawsBesides
import Derived.Deep.Draws
import Derived.Below
import Derived.Deep.LoopGhost
import Derived.Deep.CutBlock
import Derived.Deep.QuietTactic
import Derived.BigQuiet
import Derived.Lib.Hide
import Derived.Outline
import Derived.IntWalk
import Derived.Laws.BytesString
import Derived.Laws.IdiomStrings
import Derived.RangeFuncNested
import Derived.RangeFuncBound
import Derived.RangeFuncCalls
import Derived.RangeFuncLeaves
import Derived.RangeFuncBox
import Derived.Shelf.Abstract
import Derived.Shelf.RegionOpen
import Derived.OwnWalkIn
import Derived.TacticsInMore
import Derived.LoopNIn
import Derived.LoopIn
import Derived.Laws.Runes
import Derived.Deep.RegionHeld3
import Derived.Maps.AppendAt
import Derived.OwnWalk
namespace Go.Proofs.YteahloddjekakaaDoor.Id
def smB (c : Int) : Bool := decide (97 ≤ c) && decide (c ≤ 122)
def grB (c : Int) : Bool := decide (65 ≤ c) && decide (c ≤ 90)
def dgB (c : Int) : Bool := decide (48 ≤ c) && decide (c ≤ 57)
theorem grB_iff (c : Int) : grB c = true ↔ 65 ≤ c ∧ c ≤ 90 := by simp [grB]
theorem dgB_iff (c : Int) : dgB c = true ↔ 48 ≤ c ∧ c ≤ 57 := by simp [dgB]

/-- What a great letter or a digit becomes. -/
def numC (c : Int) : Int := if dgB c then c - 48 else c - 55
def digs1 (c : Int) : List Int := if 10 ≤ numC c then [numC c / 10, numC c % 10] else [numC c]
/-- The digits in a row. -/
def rowF (l : List Int) : List Int := l.flatMap digs1
/-- What a digit gives, doubled or not. -/
def gD (b : Bool) (d : Int) : Int := if b then (2 * d) / 10 + (2 * d) % 10 else d
def stp (st : Bool × Int) (d : Int) : Bool × Int := (!st.1, st.2 + gD st.1 d)
def stB (l : List Int) : Bool × Int := l.foldl stp (true, 0)
theorem stB_snoc (l : List Int) (d : Int) : stB (l ++ [d]) = stp (stB l) d := by simp [stB]
/-- Is a digit doubled that has so many behind it? -/
def ev (n : Nat) : Bool := n % 2 == 0
theorem ev_succ (n : Nat) : ev (n + 1) = !ev n := by
  unfold ev
  rcases (by omega : n % 2 = 0 ∨ n % 2 = 1) with h | h
  · rw [h, show (n + 1) % 2 = 1 by omega]; rfl
  · rw [h, show (n + 1) % 2 = 0 by omega]; rfl
/-- The sum of the digits. -/
def RF : List Int → Int
  | [] => 0
  | d :: t => gD (ev t.length) d + RF t
theorem stB_rev (l : List Int) : stB l.reverse = (ev l.length, RF l) := by
  induction l with
  | nil => rfl
  | cons d t ih =>
    rw [List.reverse_cons, stB_snoc, ih]
    simp only [stp, RF, List.length_cons, ev_succ]
    rw [Int.add_comm]
/-- The check digit. -/
def chkD (l : List Int) : Int := (10 - RF (rowF l) % 10) % 10
theorem chkD_range (l : List Int) : 0 ≤ chkD l ∧ chkD l ≤ 9 := by unfold chkD; omega

/-- May the byte stand at that place of the first 11? -/
def okAt (l : List Int) (i : Nat) : Bool := grB (l.getD i 0) || (decide (2 ≤ i) && dgB (l.getD i 0))
def headB (l : List Int) : Bool := (l.length == 11) && (List.range 11).all (okAt l)
theorem headB_iff (l : List Int) : headB l = true ↔ l.length = 11 ∧ ∀ i, i < 11 → okAt l i = true := by
  unfold headB
  rw [Bool.and_eq_true, List.all_eq_true]
  simp
theorem headB_len {l : List Int} (h : headB l = true) : l.length = 11 := ((headB_iff l).1 h).1
theorem head_char {l : List Int} (h : headB l = true) (i : Nat) (hi : i < 11) : (48 ≤ l.getD i 0 ∧ l.getD i 0 ≤ 57) ∨ (65 ≤ l.getD i 0 ∧ l.getD i 0 ≤ 90) := by
  have := ((headB_iff l).1 h).2 i hi
  unfold okAt at this
  rw [Bool.or_eq_true, Bool.and_eq_true, grB_iff, dgB_iff] at this
  omega
theorem numC_range {c : Int} (h : (48 ≤ c ∧ c ≤ 57) ∨ (65 ≤ c ∧ c ≤ 90)) : 0 ≤ numC c ∧ numC c ≤ 35 := by
  unfold numC
  by_cases hd : dgB c = true
  · have := (dgB_iff c).1 hd
    rw [if_pos hd]; omega
  · have : ¬ (48 ≤ c ∧ c ≤ 57) := fun h => hd ((dgB_iff c).2 h)
    rw [if_neg hd]; omega

/-- What Isin must tell. -/
def isinN (l : List Int) : Int := if l.length = 12 ∧ headB (l.take 11) = true ∧ dgB (l.getD 11 0) = true then (if l.getD 11 0 = 48 + chkD (l.take 11) then 0 else 11) else 3

/-- The row of a list that is cut. -/
theorem rowF_append (a b : List Int) : rowF (a ++ b) = rowF a ++ rowF b := by simp [rowF]
theorem rowF_drop {l : List Int} {k : Nat} (h : k < l.length) : rowF (l.drop k) = digs1 (l.getD k 0) ++ rowF (l.drop (k + 1)) := by
  rw [List.drop_eq_getElem_cons h, List.getD_eq_getElem?_getD, List.getElem?_eq_getElem h]
  simp only [rowF, List.flatMap_cons, Option.getD_some]
theorem rowF_take {l : List Int} {k : Nat} (h : k < l.length) : rowF (l.take (k + 1)) = rowF (l.take k) ++ digs1 (l.getD k 0) := by
  rw [List.take_succ_eq_append_getElem h, rowF_append, List.getD_eq_getElem?_getD, List.getElem?_eq_getElem h]
  simp [rowF]
theorem digs1_len (c : Int) : (digs1 c).length ≤ 2 := by unfold digs1; split <;> simp
theorem rowF_len (l : List Int) : (rowF l).length ≤ 2 * l.length := by
  induction l with
  | nil => simp [rowF]
  | cons a t ih =>
    have : rowF (a :: t) = digs1 a ++ rowF t := by simp [rowF]
    rw [this, List.length_append, List.length_cons]
    have := digs1_len a
    omega
/-- Each digit of the row is one. -/
theorem rowF_digit {l : List Int} (h : ∀ c ∈ l, (48 ≤ c ∧ c ≤ 57) ∨ (65 ≤ c ∧ c ≤ 90)) : ∀ d ∈ rowF l, 0 ≤ d ∧ d ≤ 9 := by
  intro d hd
  simp only [rowF, List.mem_flatMap] at hd
  obtain ⟨c, hc, hd⟩ := hd
  have hr := numC_range (h c hc)
  unfold digs1 at hd
  split at hd <;> simp at hd <;> omega
theorem head_mem {l : List Int} (h : headB l = true) : ∀ c ∈ l, (48 ≤ c ∧ c ≤ 57) ∨ (65 ≤ c ∧ c ≤ 90) := by
  intro c hc
  obtain ⟨i, hi, rfl⟩ := List.getElem_of_mem hc
  have := head_char h i (by rw [headB_len h] at hi; exact hi)
  rwa [List.getD_eq_getElem?_getD, List.getElem?_eq_getElem hi] at this

theorem digs1_digit {c : Int} (h : dgB c = true) : digs1 c = [c - 48] := by
  have := (dgB_iff c).1 h
  unfold digs1 numC
  rw [if_pos h, if_neg (by omega)]
/-- The sum over the row's digits behind the first k, the loop's own way. -/
theorem RF_drop {l : List Int} {k : Nat} (h : k < l.length) : RF (l.drop k) = gD (ev (l.length - (k + 1))) (l.getD k 0) + RF (l.drop (k + 1)) := by
  rw [List.drop_eq_getElem_cons h, List.getD_eq_getElem?_getD, List.getElem?_eq_getElem h]
  simp only [RF, List.length_drop]
  rfl
theorem gD_big (d : Int) (h : 5 ≤ d) (h9 : d ≤ 9) : gD true d = 2 * d - 9 := by unfold gD; simp; omega
theorem gD_small (d : Int) (h0 : 0 ≤ d) (h : d ≤ 4) : gD true d = 2 * d := by unfold gD; simp; omega
theorem gD_plain (d : Int) : gD false d = d := by simp [gD]
end Go.Proofs.YteahloddjekakaaDoor.Id
namespace Go.Proofs.YteahloddjekakaaDoor.Id
open Go.RowKit
theorem below_drewN {B : Nat} {a w : World} (h : Below B a w) (n : Nat) : Below B a (w.drewN n) := ⟨h.os, h.tape, h.output, h.size, h.block⟩
theorem ret_int {k : IntKind} {a b : Int} (h : a = b) : Ending.returned (.int k a) = .returned (.int k b) := by rw [h]
theorem ret_bool {a b : Bool} (h : a = b) : Ending.returned (.bool a) = .returned (.bool b) := by rw [h]
theorem block_kept {W w' : World} {b : Nat} {o : Obj} (hb : W.heap[b]? = some o) (hcl : Below W.heap.size W w') : w'.heap[b]? = some o :=
  (hcl.block b (Array.getElem?_eq_some_iff.1 hb).1).trans hb
theorem block_new (w : World) (o : Obj) : (w.alloc o).heap[w.heap.size]? = some o := heap_alloc_new w o
theorem block_old {w : World} {b : Nat} {x : Obj} (h : w.heap[b]? = some x) (o : Obj) : (w.alloc o).heap[b]? = some x := by
  rw [Below.heap_alloc w o b (Array.getElem?_eq_some_iff.1 h).1]; exact h
theorem block_set {w : World} {b : Nat} {x : Obj} (h : w.heap[b]? = some x) {p : Addr} (hne : b ≠ p.block) (u : Value) : (w.setCell p u).heap[b]? = some x :=
  (Below.heap_setCell w p u b hne).trans h
theorem block_cell {w : World} {b : Nat} {x : Value} {t : TypeId} (h : w.heap[b]? = some (.cells #[x] t (0, 0))) : w.cell? ⟨b, 0, none⟩ = some x ∧ w.frozen? ⟨b, 0, none⟩ = false :=
  ⟨by simp [World.cell?, h], by simp [World.frozen?, h]⟩
theorem block_put {w : World} {b : Nat} {x : Value} {t : TypeId} (h : w.heap[b]? = some (.cells #[x] t (0, 0))) (u : Value) : (w.setCell ⟨b, 0, none⟩ u).heap[b]? = some (.cells #[u] t (0, 0)) := by
  simp only [World.setCell, Array.getElem?_modify, if_true]; rw [h]; rfl

/-- A string's bytes as numbers. -/
def sb (s : ByteArray) : List Int := s.data.toList.map fun b => (b.toNat : Int)
theorem sb_len (s : ByteArray) : (sb s).length = s.size := by simp [sb]
theorem sb_range (s : ByteArray) (k : Nat) : 0 ≤ (sb s).getD k 0 ∧ (sb s).getD k 0 ≤ 255 := by
  rw [List.getD_eq_getElem?_getD]
  rcases Nat.lt_or_ge k (sb s).length with h | h
  · rw [List.getElem?_eq_getElem h]
    simp only [sb, List.getElem_map, Option.getD_some]
    have := UInt8.toNat_lt (s.data.toList[k]'(by simpa [sb] using h))
    omega
  · rw [List.getElem?_eq_none h]; exact ⟨by decide, by decide⟩
theorem sb_get (s : ByteArray) (k : Nat) (h : k < s.size) : ((s[k]'h).toNat : Int) = (sb s).getD k 0 := by
  rw [List.getD_eq_getElem?_getD, List.getElem?_eq_getElem (by rw [sb_len]; exact h)]
  simp [sb]
  rfl
theorem sb_take (s : ByteArray) (n : Nat) : sb (s.extract 0 n) = (sb s).take n := by
  unfold sb
  rw [ByteArray.data_extract, ← List.map_take]
  congr 1
  simp [Array.toList_extract, List.extract_eq_take_drop]
/-- A string's bytes laid in memory. -/
theorem str_bytes (s : ByteArray) : ∃ (cv : World → Nat) (cw : World → World), (∀ W, (convert 9 45 (.string s)).run Tryd.prog W = .ok (.slice (some ⟨W.heap.size, 0, none⟩) s.size (cv W)) (cw W)) ∧
    (∀ W, Below W.heap.size W (cw W) ∧ W.heap.size < (cw W).heap.size ∧ ∀ i, i < s.size → (cw W).cell? ⟨W.heap.size, i, none⟩ = some (.int .u8 ((sb s).getD i 0))) := by
  refine ⟨_, _, fun W => run_bytes_of_string (P := Tryd.prog) W 9 45 5 s Tryd.underlying9 Tryd.underlying45 Tryd.underlying5, fun W => ⟨((Below.refl _ _).drew).alloc (Nat.le_refl _) _, ?_, ?_⟩⟩
  · simp
  · intro i hi
    have h1 := heap_alloc_new W.drew (.cells (bytesRow s (grownCap W s.size 0 5)) 5 ((bytesRow s (grownCap W s.size 0 5)).size, (bytesRow s (grownCap W s.size 0 5)).size + 1))
    rw [cell_of_row _ W.heap.size i _ _ _ h1]
    have hi2 : i < s.data.size := hi
    simp only [bytesRow, sb, List.getD_eq_getElem?_getD, List.getElem?_map]
    rw [Array.getElem?_append_left (by simpa using hi2)]
    simp only [Array.getElem?_map, Array.getElem?_toList]
    rw [Array.getElem?_eq_getElem hi2]
    rfl
theorem slice_to (s : ByteArray) (n : Nat) (h : n ≤ s.size) (w : World) : (Instr.slice 9 (.string s) none (some (.int .i64 (n : Int))) none).run Tryd.prog w = .ok (.string (s.extract 0 n)) w := by
  have h2 : (n : Int) ≤ (s.size : Int) := by omega
  simp [Instr.slice, Instr.sliceBounds, Instr.sliceBound, asIntOf, run_underlying Tryd.underlying9, h]

set_option maxRecDepth 100000 in
theorem isDigit_any (c : Int) (w : World) (h0 : 0 ≤ c) (h1 : c ≤ 255) : Calls Tryd.prog 84 #[.int .u8 c] w fun e w' => e = .returned (.bool (dgB c)) ∧ w = w' := by
  by_cases h : 48 ≤ c
  · go_enter Tryd.func84, Tryd.ntmps84
    go_wp2
    go_ret
    exact ⟨ret_bool (by unfold dgB; simp [h]), rfl⟩
  · go_enter Tryd.func84, Tryd.ntmps84
    go_wp2
    go_ret
    exact ⟨ret_bool (by unfold dgB; simp; omega), rfl⟩
set_option maxRecDepth 100000 in
theorem isGreat_any (c : Int) (w : World) (h0 : 0 ≤ c) (h1 : c ≤ 255) : Calls Tryd.prog 105 #[.int .u8 c] w fun e w' => e = .returned (.bool (grB c)) ∧ w = w' := by
  by_cases h : 65 ≤ c
  · go_enter Tryd.func105, Tryd.ntmps105
    go_wp2
    go_ret
    exact ⟨ret_bool (by unfold grB; simp [h]), rfl⟩
  · go_enter Tryd.func105, Tryd.ntmps105
    go_wp2
    go_ret
    exact ⟨ret_bool (by unfold grB; simp; omega), rfl⟩
set_option maxRecDepth 100000 in
theorem isSmall_any (c : Int) (w : World) (h0 : 0 ≤ c) (h1 : c ≤ 255) : Calls Tryd.prog 86 #[.int .u8 c] w fun e w' => e = .returned (.bool (smB c)) ∧ w = w' := by
  by_cases h : 97 ≤ c
  · go_enter Tryd.func86, Tryd.ntmps86
    go_wp2
    go_ret
    exact ⟨ret_bool (by unfold smB; simp [h]), rfl⟩
  · go_enter Tryd.func86, Tryd.ntmps86
    go_wp2
    go_ret
    exact ⟨ret_bool (by unfold smB; simp; omega), rfl⟩
set_option maxRecDepth 100000 in
theorem digit_any (c : Int) (w : World) (h0 : 0 ≤ c) (h1 : c ≤ 255) : Calls Tryd.prog 63 #[.int .u8 c] w fun e w' => e = .returned (.bool (dgB c)) ∧ w = w' := by
  by_cases h : 48 ≤ c
  · go_enter Tryd.func63, Tryd.ntmps63
    go_wp2
    go_ret
    exact ⟨ret_bool (by unfold dgB; simp [h]), rfl⟩
  · go_enter Tryd.func63, Tryd.ntmps63
    go_wp2
    go_ret
    exact ⟨ret_bool (by unfold dgB; simp; omega), rfl⟩
set_option maxRecDepth 100000 in
theorem letter_great (c : Int) (w : World) (h0 : 0 ≤ c) (h1 : c ≤ 255) : Calls Tryd.prog 62 #[.int .u8 c, .int .u8 65] w fun e w' => e = .returned (.bool (grB c)) ∧ w = w' := by
  by_cases h : 65 ≤ c
  · go_enter Tryd.func62, Tryd.ntmps62
    go_wp2
    go_ret
    exact ⟨ret_bool (by unfold grB; simp [h]), rfl⟩
  · go_enter Tryd.func62, Tryd.ntmps62
    go_wp2
    go_ret
    exact ⟨ret_bool (by unfold grB; simp; omega), rfl⟩
set_option maxRecDepth 100000 in
theorem letter_small (c : Int) (w : World) (h0 : 0 ≤ c) (h1 : c ≤ 255) : Calls Tryd.prog 62 #[.int .u8 c, .int .u8 97] w fun e w' => e = .returned (.bool (smB c)) ∧ w = w' := by
  by_cases h : 97 ≤ c
  · go_enter Tryd.func62, Tryd.ntmps62
    go_wp2
    go_ret
    exact ⟨ret_bool (by unfold smB; simp [h]), rfl⟩
  · go_enter Tryd.func62, Tryd.ntmps62
    go_wp2
    go_ret
    exact ⟨ret_bool (by unfold smB; simp; omega), rfl⟩

set_option maxRecDepth 100000 in
theorem number_any (c : Int) (w : World) (h : (48 ≤ c ∧ c ≤ 57) ∨ (65 ≤ c ∧ c ≤ 90)) : Calls Tryd.prog 108 #[.int .u8 c] w fun e w' => e = .returned (.int .i64 (numC c)) ∧ w = w' := by
  rcases h with ⟨h0, h1⟩ | ⟨h0, h1⟩
  · have hd : dgB c = true := (dgB_iff c).2 ⟨h0, h1⟩
    have HD := Lib.hid hd
    have cd : ∀ w, Calls Tryd.prog 84 #[.int .u8 c] w fun e w' => e = .returned (.bool true) ∧ w = w' := fun w => by
      rw [← hd]; exact isDigit_any c w (by omega) (by omega)
    have CD := Lib.hid cd
    clear cd hd
    go_enter Tryd.func108, Tryd.ntmps108
    go_wp2_with (go_at_call 84; refine (CD.out _).mono ?_; rintro e w' ⟨rfl, rfl⟩)
    go_ret
    exact ⟨ret_int (by unfold numC; rw [if_pos HD.out]), rfl⟩
  · have hd : dgB c = false := by
      cases h : dgB c
      · rfl
      · have := (dgB_iff c).1 h; omega
    have HD := Lib.hid hd
    have cd : ∀ w, Calls Tryd.prog 84 #[.int .u8 c] w fun e w' => e = .returned (.bool false) ∧ w = w' := fun w => by
      rw [← hd]; exact isDigit_any c w (by omega) (by omega)
    have CD := Lib.hid cd
    clear cd hd
    go_enter Tryd.func108, Tryd.ntmps108
    go_wp2_with (go_at_call 84; refine (CD.out _).mono ?_; rintro e w' ⟨rfl, rfl⟩)
    go_ret
    exact ⟨ret_int (by unfold numC; rw [if_neg (by rw [HD.out]; decide)]; omega), rfl⟩
end Go.Proofs.YteahloddjekakaaDoor.Id
namespace Go.Proofs.YteahloddjekakaaDoor.Id
open Go.RowKit
theorem head_no_len {l : List Int} (h : l.length ≠ 11) : headB l = false := by
  cases hh : headB l
  · rfl
  · exact absurd (headB_len hh) h
theorem head_no_at {l : List Int} {k : Nat} (hk : k < 11) (h : okAt l k = false) : headB l = false := by
  cases hh : headB l
  · rfl
  · rw [((headB_iff l).1 hh).2 k hk] at h; cases h

set_option maxRecDepth 100000 in
set_option maxHeartbeats 1000000 in
theorem headed_any (w : World) (s : ByteArray) (hs : s.size ≤ 100000) :
    Calls Tryd.prog 83 #[.string s] w fun e w' => e = .returned (.bool (headB (sb s))) ∧ Below w.heap.size w w' := by
  by_cases h11 : s.size = 11
  · obtain ⟨cv, cw, hcv, hcp⟩ := str_bytes s
    have HCP := Lib.hid (hcp w)
    have H11 := Lib.hid h11
    have h11a : s.size ≤ 11 := by omega
    have h11b : 11 ≤ s.size := by omega
    have n11 : ((s.size : Int) != 11) = false := by simp; omega
    clear hcp h11
    go_enter Tryd.func83, Tryd.ntmps83
    go_wp2
    obtain ⟨W0, hW0⟩ : ∃ W0, W0 = cw w := ⟨_, rfl⟩
    rw [← hW0] at HCP ⊢
    clear hW0 hcv
    go_loopg [11] s.size (fun (g : Nat) si wx => W0 = wx ∧ ∃ k : Nat, g = s.size - k ∧ k ≤ s.size ∧ si = .int .i64 (k : Int) ∧ Hid (∀ i, i < k → okAt (sb s) i = true))
    case atStart => exact ⟨rfl, 0, rfl, Nat.zero_le _, rfl, fun i hi => by omega⟩
    case round =>
      obtain ⟨rfl, k, rfl, hk, rfl, hall⟩ := hrel
      by_cases hlt : k < s.size
      · obtain ⟨d, hd⟩ : ∃ d, d = (sb s).getD k 0 := ⟨_, rfl⟩
        have hc := HCP.out.2.2 k hlt
        have hr := sb_range s k
        rw [← hd] at hc hr
        obtain ⟨r0, r1⟩ := hr
        have HD := Lib.hid hd
        clear hd
        obtain ⟨g, hg⟩ : ∃ g, g = grB d := ⟨_, rfl⟩
        obtain ⟨q, hq⟩ : ∃ q, q = dgB d := ⟨_, rfl⟩
        have cg : ∀ w, Calls Tryd.prog 105 #[.int .u8 d] w fun e w' => e = .returned (.bool g) ∧ w = w' := fun w => by
          rw [hg]; exact isGreat_any d w r0 r1
        have cq : ∀ w, Calls Tryd.prog 84 #[.int .u8 d] w fun e w' => e = .returned (.bool q) ∧ w = w' := fun w => by
          rw [hq]; exact isDigit_any d w r0 r1
        have CG := Lib.hid cg
        have CQ := Lib.hid cq
        have hok : Hid (okAt (sb s) k = (g || (decide (2 ≤ k) && q))) := by
          show _ = _
          unfold okAt
          rw [← HD.out, hg, hq]
        clear cg cq hg hq
        have hbad : Hid (g = false → (k < 2 ∨ q = false) → headB (sb s) = false) := by
          intro e1 e2
          refine head_no_at (k := k) (by omega) ?_
          rw [hok.out, e1]
          rcases e2 with e2 | e2
          · rw [decide_eq_false (by omega)]; rfl
          · rw [e2]; simp
        have hgood : Hid ((g = true ∨ (2 ≤ k ∧ q = true)) → ∀ i, i < k + 1 → okAt (sb s) i = true) := by
          intro e i hi
          rcases Nat.lt_or_ge i k with h | h
          · exact hall.out i h
          · have : i = k := by omega
            subst this
            rw [hok.out]
            rcases e with e | ⟨e1, e2⟩
            · rw [e]; rfl
            · rw [e2, decide_eq_true e1]; simp
        cases g
        · by_cases h2 : k < 2
          · go_wp2_with (first | (go_at_call 105; refine (CG.out _).mono ?_; rintro e w' ⟨rfl, rfl⟩) | (go_at_call 84; refine (CQ.out _).mono ?_; rintro e w' ⟨rfl, rfl⟩))
            go_ret
            exact ⟨ret_bool (hbad.out (by trivial) (.inl h2)).symm, HCP.out.1⟩
          · have h2' : 2 ≤ k := by omega
            cases q
            · go_wp2_with (first | (go_at_call 105; refine (CG.out _).mono ?_; rintro e w' ⟨rfl, rfl⟩) | (go_at_call 84; refine (CQ.out _).mono ?_; rintro e w' ⟨rfl, rfl⟩))
              go_ret
              exact ⟨ret_bool (hbad.out (by trivial) (.inr (by trivial))).symm, HCP.out.1⟩
            · go_wp2_with (first | (go_at_call 105; refine (CG.out _).mono ?_; rintro e w' ⟨rfl, rfl⟩) | (go_at_call 84; refine (CQ.out _).mono ?_; rintro e w' ⟨rfl, rfl⟩))
              go_roundg (s.size - (k + 1))
              case measure => omega
              case rel => exact ⟨rfl, k + 1, rfl, by omega, by go_num, hgood.out (.inr ⟨h2', by trivial⟩)⟩
        · go_wp2_with (first | (go_at_call 105; refine (CG.out _).mono ?_; rintro e w' ⟨rfl, rfl⟩) | (go_at_call 84; refine (CQ.out _).mono ?_; rintro e w' ⟨rfl, rfl⟩))
          go_roundg (s.size - (k + 1))
          case measure => omega
          case rel => exact ⟨rfl, k + 1, rfl, by omega, by go_num, hgood.out (.inl (by trivial))⟩
      · have hks : k = s.size := by omega
        have hgood : Hid (headB (sb s) = true) := (headB_iff _).2 ⟨by rw [sb_len]; exact H11.out, fun i hi => hall.out i (by omega)⟩
        clear hks
        go_wp2
        go_ret
        exact ⟨ret_bool hgood.out.symm, HCP.out.1⟩
  · have h : Hid (headB (sb s) = false) := head_no_len (by rw [sb_len]; exact h11)
    have h11' : ((s.size : Int) == 11) = false := by simp; omega
    have h12' : ((s.size : Int) != 11) = true := by simp; omega
    clear h11
    go_enter Tryd.func83, Tryd.ntmps83
    go_wp2
    go_ret
    exact ⟨ret_bool h.out.symm, Below.refl _ _⟩
end Go.Proofs.YteahloddjekakaaDoor.Id
namespace Go.Proofs.YteahloddjekakaaDoor.Id
open Go.RowKit Go.Shelf
attribute [local go_sem] Oper.semAt_some

/-- A digit. -/
abbrev Dg := { x : Int // 0 ≤ x ∧ x ≤ 9 }
def vals (l : List Dg) : List Int := l.map (·.1)
theorem vals_snoc (l : List Dg) (x : Dg) : vals (l ++ [x]) = vals l ++ [x.1] := by simp [vals]
theorem vals_len (l : List Dg) : (vals l).length = l.length := by simp [vals]
/-- A round keeps the block. -/
def KeepB (b : Nat) (W W' : World) : Prop := W'.heap[b]? = W.heap[b]?
theorem keepB_t {b : Nat} {A B C : World} (h : KeepB b A B) (k : KeepB b B C) : KeepB b A C := k.trans h
theorem keepB_b {b : Nat} {w : World} (hb : b < w.heap.size) (W : World) (l : Nat) (o o' : Obj) (hl : w.heap.size ≤ l) (_ : W.heap[l]? = some o) (_ : o.isCells = false) (_ : o.isWalk = false) : KeepB b W (W.putObj l o') :=
  World.putObj_heap_other (by omega)

set_option maxHeartbeats 1000000 in
theorem digitsBack_any (s : ByteArray) (w : World) :
    Calls Tryd.prog 106 #[.string s] w fun e w' => e = .returned (.func (.func 107) #[] #[.pointer (some ⟨w.heap.size, 0, none⟩)]) ∧ w' = w.alloc (.cells #[.string s] 9) := by
  go_enter Tryd.func106, Tryd.ntmps106
  go_wp2
  go_ret
  exact ⟨rfl, rfl⟩

theorem digs1_small {c : Int} (h : numC c < 10) (h0 : 0 ≤ numC c) : digs1 c = [numC c % 10] := by
  unfold digs1
  rw [if_neg (by omega), Int.emod_eq_of_lt h0 h]
theorem digs1_big {c : Int} (h : 10 ≤ numC c) : digs1 c = [numC c / 10, numC c % 10] := by
  unfold digs1
  rw [if_pos h]
theorem back_len {s : ByteArray} (k : Nat) (pre : List Dg) (h : vals pre = (rowF ((sb s).drop k)).reverse) (hs : s.size ≤ 11) : pre.length + 2 * k ≤ 22 ∨ 11 < k := by
  have h1 := congrArg List.length h
  rw [vals_len, List.length_reverse] at h1
  have h2 := rowF_len ((sb s).drop k)
  rw [List.length_drop, sb_len] at h2
  omega

set_option maxRecDepth 100000 in
set_option maxHeartbeats 2000000 in
theorem back1_in (n : Nat) (hn : 1 ≤ n) (l Bs : Nat) (s : ByteArray) (h : headB (sb s) = true) (J Jx : List Dg → World → Prop)
    (hY : ∀ pre x W, J pre W → pre.length < 22 → YieldAt Fence.wide (n - 1) Tryd.prog l #[.int .i64 x.1] W fun e W' =>
      (e = .returned (.bool true) ∧ J (pre ++ [x]) W' ∧ KeepB Bs W W') ∨ (e = .returned (.bool false) ∧ Jx (pre ++ [x]) W'))
    (W : World) (hBs : W.heap[Bs]? = some (.cells #[.string s] 9 (0, 0))) (h0 : J [] W) :
    CallsIn Fence.wide n Tryd.prog 107 #[.func (.yield l) #[] #[], .pointer (some ⟨Bs, 0, none⟩)] W fun e W' => (∃ v, e = .returned v) ∧
      ((∃ ys, vals ys = (rowF (sb s)).reverse ∧ J ys W') ∨ (∃ pre, True ∧ Jx pre W')) := by
  have hsz : s.size = 11 := by rw [← sb_len]; exact headB_len h
  have hs1 : s.size ≤ 11 := by omega
  have hs2 : 11 ≤ s.size := by omega
  have HH := Lib.hid h
  have cS := (block_cell hBs).1
  clear hsz h
  refine callsIn_of_wp Tryd.func107 rfl trivial ?_ rfl
  simp only [Tryd.ntmps107, List.size_toArray, List.length_cons, List.length_nil, Nat.reduceAdd, Nat.reduceSub, Array.replicate_succ, Array.replicate_zero, List.push_toArray, List.append_toArray, List.nil_append, List.cons_append]
  gi_wp2
  gi_loopw [3] (fun p wr => ∃ (k : Nat) (pre : List Dg), k ≤ s.size ∧ p = .int .i64 ((k : Int) - 1) ∧ Hid (vals pre = (rowF ((sb s).drop k)).reverse ∧ J pre wr ∧ wr.heap[Bs]? = some (.cells #[.string s] 9 (0, 0))))
    (fun p _ => (intOf p + 1).toNat)
  case atStart => exact ⟨s.size, [], Nat.le_refl _, rfl, by rw [List.drop_of_length_le (by rw [sb_len]; exact Nat.le_refl _)]; rfl, h0, hBs⟩
  case round =>
    obtain ⟨k, pre, hk, rfl, hinv⟩ := hrel
    have cS1 := (block_cell hinv.out.2.2).1
    rcases Nat.eq_zero_or_pos k with rfl | hpos
    · have hend : Hid (vals pre = (rowF (sb s)).reverse) := by show _ = _; rw [hinv.out.1]; rfl
      gi_wp2
      go_end0
      exact ⟨⟨_, rfl⟩, .inl ⟨pre, hend.out, hinv.out.2.1⟩⟩
    · obtain ⟨m, rfl⟩ : ∃ m, k = m + 1 := ⟨k - 1, by omega⟩
      have em : ((m + 1 : Nat) : Int) - 1 = (m : Int) := by omega
      rw [em]
      have hlt : m < s.size := by omega
      obtain ⟨c, hc⟩ : ∃ c, c = ((s[m]'hlt).toNat : Int) := ⟨_, rfl⟩
      have hcr : (48 ≤ c ∧ c ≤ 57) ∨ (65 ≤ c ∧ c ≤ 90) := by
        rw [hc, sb_get s m hlt]
        exact head_char HH.out m (by omega)
      have hnr := numC_range hcr
      have hrow : Hid (rowF ((sb s).drop m) = digs1 c ++ rowF ((sb s).drop (m + 1))) := by
        show _ = _
        rw [rowF_drop (by rw [sb_len]; exact hlt), hc, sb_get s m hlt]
      have cn : ∀ w, CallsIn Fence.wide (n - 1) Tryd.prog 108 #[.int .u8 ((s[m]'hlt).toNat : Int)] w fun e w' => e = .returned (.int .i64 (numC c)) ∧ w = w' := fun w => by
        rw [← hc]; exact callsIn_wide.2 (number_any c w hcr)
      have CN := Lib.hid cn
      have hlen : pre.length + 2 * (m + 1) ≤ 22 := by
        rcases back_len _ _ hinv.out.1 hs1 with h | h <;> omega
      obtain ⟨d, hd⟩ : ∃ d, d = numC c := ⟨_, rfl⟩
      rw [← hd] at hnr
      obtain ⟨d0, d1⟩ := hnr
      have x0 : 0 ≤ d % 10 ∧ d % 10 ≤ 9 := by omega
      obtain ⟨fn, tmps, assign, body, hy, hR⟩ := hY pre ⟨d % 10, x0⟩ wr hinv.out.2.1 (by omega)
      dsimp only at hy
      rw [← hd] at CN
      have HD := Lib.hid hd
      clear hc hcr cn em hd
      gi_wp2_with (refine ⟨trivial, ?_⟩; gi_at_call 108; refine (CN.out _).mono ?_; rintro e w' ⟨rfl, rfl⟩)
      refine hR.mono ?_
      rintro e W3 (⟨rfl, hJ3, hk3⟩ | ⟨rfl, hJx3⟩)
      · have hk4 : wr.heap[Bs]? = some (.cells #[.string s] 9 (0, 0)) → W3.heap[Bs]? = some (.cells #[.string s] 9 (0, 0)) := fun h => hk3.trans h
        have hB3 := Lib.hid (hk4 hinv.out.2.2)
        have HJ3 := Lib.hid hJ3
        have hv3 : Hid (vals (pre ++ [⟨d % 10, x0⟩]) = (rowF ((sb s).drop (m + 1))).reverse ++ [d % 10]) := by show _ = _; rw [vals_snoc, hinv.out.1]
        clear hk3 hk4 hR hy cS1
        by_cases hten : 10 ≤ d
        · have x2 : 0 ≤ d / 10 ∧ d / 10 ≤ 9 := by omega
          obtain ⟨fn, tmps, assign, body, hy, hR⟩ := hY _ ⟨d / 10, x2⟩ W3 HJ3.out (by rw [List.length_append]; simp; omega)
          dsimp only at hy
          have hv4 : Hid (vals (pre ++ [⟨d % 10, x0⟩] ++ [⟨d / 10, x2⟩]) = (rowF ((sb s).drop m)).reverse) := by
            show _ = _
            rw [vals_snoc, hv3.out, hrow.out, digs1_big (by rw [← HD.out]; exact hten), ← HD.out]
            simp
          gi_wp2
          refine hR.mono ?_
          rintro e W4 (⟨rfl, hJ4, hk4⟩ | ⟨rfl, hJx4⟩)
          · have hk5 : W3.heap[Bs]? = some (.cells #[.string s] 9 (0, 0)) → W4.heap[Bs]? = some (.cells #[.string s] 9 (0, 0)) := fun h => hk4.trans h
            have hB4 := Lib.hid (hk5 hB3.out)
            clear hk4 hk5 hR hy
            gi_wp2
            go_roundw
            case rel => exact ⟨m, _, by omega, rfl, hv4.out, hJ4, hB4.out⟩
            case measure => simp [intOf]
          · gi_wp2
            refine bodyPost_ret (results_none rfl _ _ _) rfl ?_
            exact ⟨⟨_, rfl⟩, .inr ⟨_, trivial, hJx4⟩⟩
        · have hv4 : Hid (vals (pre ++ [⟨d % 10, x0⟩]) = (rowF ((sb s).drop m)).reverse) := by
            show _ = _
            rw [hv3.out, hrow.out, digs1_small (by rw [← HD.out]; omega) (by rw [← HD.out]; exact d0), ← HD.out]
            simp
          gi_wp2
          refine ⟨fun _ h => (by cases h), ?_⟩
          gi_wp2
          go_roundw
          case rel => exact ⟨m, _, by omega, rfl, hv4.out, HJ3.out, hB3.out⟩
          case measure => simp [intOf]
      · gi_wp2
        refine bodyPost_ret (results_none rfl _ _ _) rfl ?_
        exact ⟨⟨_, rfl⟩, .inr ⟨_, trivial, hJx3⟩⟩

/-- The function value keeps its contract. -/
theorem back_stops (n : Nat) (hn : 1 ≤ n) (Bs : Nat) (s : ByteArray) (h : headB (sb s) = true) (w : World) (hBs : w.heap[Bs]? = some (.cells #[.string s] 9 (0, 0))) :
    SeqStopsK Fence.wide n Tryd.prog 107 #[.pointer (some ⟨Bs, 0, none⟩)] (fun x : Dg => #[Value.int .i64 x.1]) (KeepB Bs) (fun ys => vals ys = (rowF (sb s)).reverse) (fun _ => True) 22 w :=
  fun l J Jx W hW _ _ hY h0 => back1_in n hn l Bs s h J Jx hY W (block_kept hBs hW) h0
end Go.Proofs.YteahloddjekakaaDoor.Id
namespace Go.Proofs.YteahloddjekakaaDoor.Id
open Go.RowKit Go.Shelf
attribute [local go_sem] Oper.semAt_some

theorem gD_range (b : Bool) {d : Int} (h0 : 0 ≤ d) (h1 : d ≤ 9) : 0 ≤ gD b d ∧ gD b d ≤ 9 := by
  unfold gD
  cases b <;> simp <;> omega
theorem stB_range (l : List Dg) : 0 ≤ (stB (vals l)).2 ∧ (stB (vals l)).2 ≤ 9 * l.length := by
  have : ∀ (m : List Dg) (b : Bool) (x : Int), 0 ≤ x → x ≤ ((vals m).foldl stp (b, x)).2 ∧ ((vals m).foldl stp (b, x)).2 ≤ x + 9 * m.length := by
    intro m
    induction m with
    | nil => intro b x hx; simp [vals]
    | cons d t ih =>
      intro b x hx
      have hd := gD_range b d.2.1 d.2.2
      have h := ih (!b) (x + gD b d.1) (by omega)
      show x ≤ ((vals t).foldl stp (stp (b, x) d.1)).2 ∧ ((vals t).foldl stp (stp (b, x) d.1)).2 ≤ x + 9 * ((t.length + 1 : Nat) : Int)
      have e : stp (b, x) d.1 = (!b, x + gD b d.1) := rfl
      rw [e]
      omega
  have h := this l true 0 (by omega)
  unfold stB
  omega

set_option maxRecDepth 100000 in
set_option maxHeartbeats 2000000 in
theorem check_any (w : World) (s : ByteArray) (h : headB (sb s) = true) :
    Calls Tryd.prog 85 #[.string s] w fun e w' => e = .returned (.int .u8 (48 + chkD (sb s))) ∧ Below w.heap.size w w' := by
  have HH := Lib.hid h
  clear h
  refine (callsIn_wide (n := 3)).1 ?_
  refine callsIn_of_wp_marks Tryd.func85 rfl trivial ?_ rfl
  simp only [Tryd.ntmps85, List.size_toArray, List.length_cons, List.length_nil, Nat.reduceAdd, Nat.reduceSub, Array.replicate_succ, Array.replicate_zero, List.push_toArray, List.append_toArray, List.nil_append, List.cons_append]
  gi_wp2_with (refine ⟨trivial, ?_⟩; gi_at_call 106; refine (callsIn_wide.2 (digitsBack_any s _)).mono ?_; rintro e w' ⟨rfl, rfl⟩)
  have hz : ((w.alloc (.cells #[.int .i64 0] 3)).alloc (.cells #[.bool true] 4)).heap.size = w.heap.size + 1 + 1 := by simp
  obtain ⟨W0, hW0⟩ : ∃ W0, W0 = ((w.alloc (.cells #[.int .i64 0] 3)).alloc (.cells #[.bool true] 4)).alloc (.cells #[.string s] 9) := ⟨_, rfl⟩
  have b1 : Boxed W0 w.heap.size 3 (.int .i64 0) := by rw [hW0]; exact ((Boxed.new w _ _).alloc _).alloc _
  have b2 : Boxed W0 (w.heap.size + 1) 4 (.bool true) := by
    rw [hW0]
    have := Boxed.new (w.alloc (.cells #[.int .i64 0] 3)) 4 (.bool true)
    rw [World.size_alloc] at this
    exact this.alloc _
  have b3 : W0.heap[w.heap.size + 1 + 1]? = some (.cells #[.string s] 9 (0, 0)) := by
    rw [hW0, ← hz]
    exact block_new _ _
  have hB0 : Below w.heap.size w W0 := by
    rw [hW0]
    exact (((Below.refl _ w).alloc (Nat.le_refl _) _).alloc (by simp) _).alloc (by simp; omega) _
  have hsz : w.heap.size + 1 + 1 < W0.heap.size := by rw [hW0]; simp
  rw [← hW0]
  clear hW0 hz
  refine wpIn_rangeFunc_ownF rfl (by omega) (gf := 107) (lb := #[.pointer (some ⟨w.heap.size + 1 + 1, 0, none⟩)]) rfl trivial (enters_of Tryd.func107 (by kernel_rfl) rfl)
    (back_stops _ (by omega) (w.heap.size + 1 + 1) s HH.out W0 b3) (fun h k => keepB_t h k) (keepB_b hsz) (Below.refl _ _) (fun _ => rfl)
    (fun pre W => (Boxed W w.heap.size 3 (.int .i64 (stB (vals pre)).2) ∧ Boxed W (w.heap.size + 1) 4 (.bool (stB (vals pre)).1)) ∧ Below w.heap.size w W)
    (fun _ _ _ => False)
    (OwnFrom.and (OwnFrom.and (Own.from (boxed_own _ _ _) _) (Own.from (boxed_own _ _ _) _)) (ownFrom_below (Nat.le_refl _) (by omega)))
    (fun _ _ _ _ _ hs _ _ => hs)
    ⟨⟨b1, b2⟩, hB0⟩
    (fun x => { tmps := #[.string s, undef, .int .u8 0, .pointer (some ⟨w.heap.size, 0, none⟩), .pointer (some ⟨w.heap.size + 1, 0, none⟩), .int .i64 x.1, .string s, .func (.func 107) #[] #[.pointer (some ⟨w.heap.size + 1 + 1, 0, none⟩)], .int .i64 x.1,
      undef, undef, undef, undef, undef, undef, undef, undef, undef, undef, undef, undef, undef, undef, undef, undef, undef, undef], defers := [] }) ?assign ?body ?done ?stop
  case assign =>
    intro l x W K hK
    gi_wp2
    exact hK
  case body =>
    rintro l pre x W ⟨⟨c1, c2⟩, hB⟩ hlen
    obtain ⟨x, x0, x1⟩ := x
    have hr := stB_range pre
    have hsn : Hid (stB (vals (pre ++ [⟨x, x0, x1⟩])) = (!(stB (vals pre)).1, (stB (vals pre)).2 + gD (stB (vals pre)).1 x)) := by show _ = _; rw [vals_snoc, stB_snoc]; rfl
    obtain ⟨t, ht⟩ : ∃ t, t = (stB (vals pre)).2 := ⟨_, rfl⟩
    obtain ⟨b, hb⟩ : ∃ b, b = (stB (vals pre)).1 := ⟨_, rfl⟩
    rw [← ht, ← hb] at hsn
    rw [← ht] at hr c1
    rw [← hb] at c2
    obtain ⟨t0, t1⟩ := hr
    have t2 : t ≤ 198 := by omega
    have d1 := c1.cell
    have f1 := c1.frozen
    have d2 := c2.cell
    have f2 := c2.frozen
    clear ht hb t1 hlen b1 b2 b3 hB0
    have fin : ∀ u, u = gD b x → KeepsOthers W ((W.setCell ⟨w.heap.size, 0, none⟩ (.int .i64 (t + u))).setCell ⟨w.heap.size + 1, 0, none⟩ (.bool (!b))) ∧
        KeepB (w.heap.size + 1 + 1) W ((W.setCell ⟨w.heap.size, 0, none⟩ (.int .i64 (t + u))).setCell ⟨w.heap.size + 1, 0, none⟩ (.bool (!b))) ∧
        (Boxed ((W.setCell ⟨w.heap.size, 0, none⟩ (.int .i64 (t + u))).setCell ⟨w.heap.size + 1, 0, none⟩ (.bool (!b))) w.heap.size 3 (.int .i64 (stB (vals (pre ++ [⟨x, x0, x1⟩]))).2) ∧
          Boxed ((W.setCell ⟨w.heap.size, 0, none⟩ (.int .i64 (t + u))).setCell ⟨w.heap.size + 1, 0, none⟩ (.bool (!b))) (w.heap.size + 1) 4 (.bool (stB (vals (pre ++ [⟨x, x0, x1⟩]))).1)) ∧
        Below w.heap.size w ((W.setCell ⟨w.heap.size, 0, none⟩ (.int .i64 (t + u))).setCell ⟨w.heap.size + 1, 0, none⟩ (.bool (!b))) := by
      rintro u rfl
      refine ⟨(KeepsOthers.setCell _ _ _).trans (KeepsOthers.setCell _ _ _), ?_, ⟨?_, ?_⟩, (hB.setCell (p := ⟨w.heap.size, 0, none⟩) (Nat.le_refl _) _).setCell (p := ⟨w.heap.size + 1, 0, none⟩) (Nat.le_succ _) _⟩
      · exact (Below.heap_setCell _ _ _ _ (by simp)).trans (Below.heap_setCell _ _ _ _ (by simp; omega))
      · rw [hsn.out]; exact (c1.set _).other (by omega) _
      · rw [hsn.out]; exact (c2.other (by omega) _).set _
    have FIN := Lib.hid fin
    clear fin c1 c2
    cases b
    · gi_wp2
      exact FIN.out _ (by unfold gD; simp; omega)
    · gi_wp2
      exact FIN.out _ (by unfold gD; simp; omega)
  case done =>
    rintro D ys W hD hys ⟨⟨c1, _⟩, hB⟩ hK
    have e : Hid ((stB (vals ys)).2 = RF (rowF (sb s))) := by show _ = _; rw [hys, stB_rev]
    have hr := stB_range ys
    obtain ⟨t, ht⟩ : ∃ t, t = (stB (vals ys)).2 := ⟨_, rfl⟩
    rw [← ht] at hr c1 e
    have d1 := c1.cell
    clear ht hys
    gi_wp2
    refine ⟨by simp, .inl ⟨_, _, rfl, run_takeDeferred hK, ?_⟩⟩
    refine ⟨_, results_tmp rfl _ _ _, ?_, hB.trans (belowK_b (w := w) (Nat.le_refl _) W D _ _ (by omega) hK rfl rfl)⟩
    exact ret_int (by unfold chkD; rw [← e.out]; omega)
  case stop =>
    rintro D c pre W _ _ h _
    exact h.elim
end Go.Proofs.YteahloddjekakaaDoor.Id
namespace Go.Proofs.YteahloddjekakaaDoor.Id
open Go.RowKit
/-- A string of one byte. -/
def one (c : Int) : ByteArray := ⟨#[UInt8.ofNat c.toNat]⟩
end Go.Proofs.YteahloddjekakaaDoor.Id
namespace Go.Proofs.YteahloddjekakaaDoor.Id
open Go.RowKit
theorem isin_len {l : List Int} (h : l.length ≠ 12) : isinN l = 3 := by unfold isinN; rw [if_neg (fun k => h k.1)]
theorem isin_head {l : List Int} (h : headB (l.take 11) = false) : isinN l = 3 := by unfold isinN; rw [if_neg (fun k => by rw [h] at k; cases k.2.1)]
theorem isin_digit {l : List Int} (h : dgB (l.getD 11 0) = false) : isinN l = 3 := by unfold isinN; rw [if_neg (fun k => by rw [h] at k; cases k.2.2)]
theorem isin_sum {l : List Int} (h0 : l.length = 12) (h1 : headB (l.take 11) = true) (h2 : dgB (l.getD 11 0) = true) : isinN l = if l.getD 11 0 = 48 + chkD (l.take 11) then 0 else 11 := by unfold isinN; rw [if_pos ⟨h0, h1, h2⟩]

theorem slice_11 (s : ByteArray) (h : 11 ≤ s.size) (w : World) : (Instr.slice 9 (.string s) none (some (.int .i64 11)) none).run Tryd.prog w = .ok (.string (s.extract 0 11)) w := slice_to s 11 h w

set_option maxRecDepth 100000 in
set_option maxHeartbeats 2000000 in
theorem isin_all (w : World) (s : ByteArray) :
    Calls Tryd.prog 57 #[.string s] w fun e w' => e = .returned (.int .i64 (isinN (sb s))) ∧ Below w.heap.size w w' := by
  by_cases h12 : s.size = 12
  · have n12 : ((s.size : Int) != 12) = false := by simp; omega
    have s0 : 12 ≤ s.size := by omega
    have s1 : s.size ≤ 12 := by omega
    have hlt : 11 < s.size := by omega
    have H12 := Lib.hid h12
    have hsl := fun W => slice_11 s (by omega) W
    obtain ⟨t, ht⟩ : ∃ t, t = s.extract 0 11 := ⟨_, rfl⟩
    have htb : sb t = (sb s).take 11 := by rw [ht]; exact sb_take s 11
    rw [← ht] at hsl
    have htl : t.size = 11 := by rw [← sb_len, htb, List.length_take, sb_len]; omega
    have htl' : t.size ≤ 100000 := by omega
    obtain ⟨c, hc⟩ : ∃ c, c = ((s[11]'hlt).toNat : Int) := ⟨_, rfl⟩
    have hcb : c = (sb s).getD 11 0 := by rw [hc]; exact sb_get s 11 (by omega)
    have hcr := sb_range s 11
    rw [← hcb] at hcr
    obtain ⟨c0, c1⟩ := hcr
    have HTB := Lib.hid htb
    have HCB := Lib.hid hcb
    have HC := Lib.hid hc
    clear ht htb htl h12 hcb
    obtain ⟨g, hg⟩ : ∃ g, g = headB (sb t) := ⟨_, rfl⟩
    obtain ⟨q, hq⟩ : ∃ q, q = dgB c := ⟨_, rfl⟩
    have cg : ∀ w, Calls Tryd.prog 83 #[.string t] w fun e w' => e = .returned (.bool g) ∧ Below w.heap.size w w' := fun w => by
      rw [hg]; exact headed_any w t htl'
    have cq : ∀ w, Calls Tryd.prog 84 #[.int .u8 ((s[11]'hlt).toNat : Int)] w fun e w' => e = .returned (.bool q) ∧ w = w' := fun w => by
      rw [hq, ← hc]; exact isDigit_any c w c0 c1
    have CG := Lib.hid cg
    have CQ := Lib.hid cq
    have HG := Lib.hid hg
    have HQ := Lib.hid hq
    clear cg cq hg hq hc
    cases g
    · have hres : Hid (isinN (sb s) = 3) := isin_head (by rw [← HTB.out]; exact HG.out.symm)
      go_enter Tryd.func57, Tryd.ntmps57
      go_wp2_with (go_at_call 83; refine (CG.out _).mono ?_; rintro e w1 ⟨rfl, hb1⟩)
      go_ret
      exact ⟨ret_int hres.out.symm, hb1⟩
    · cases q
      · have hres : Hid (isinN (sb s) = 3) := isin_digit (by rw [← HCB.out]; exact HQ.out.symm)
        go_enter Tryd.func57, Tryd.ntmps57
        go_wp2_with (first | (go_at_call 83; refine (CG.out _).mono ?_; rintro e w1 ⟨rfl, hb1⟩) | (go_at_call 84; refine (CQ.out _).mono ?_; rintro e w' ⟨rfl, rfl⟩))
        go_ret
        exact ⟨ret_int hres.out.symm, hb1⟩
      · have hres : Hid (isinN (sb s) = if c = 48 + chkD (sb t) then 0 else 11) := by
          show _ = _
          rw [isin_sum (by rw [sb_len]; exact H12.out) (by rw [← HTB.out]; exact HG.out.symm) (by rw [← HCB.out]; exact HQ.out.symm), ← HCB.out, ← HTB.out]
        have cc : ∀ w, Calls Tryd.prog 85 #[.string t] w fun e w' => e = .returned (.int .u8 (48 + chkD (sb t))) ∧ Below w.heap.size w w' := fun w => check_any w t HG.out.symm
        have hr := chkD_range (sb t)
        obtain ⟨x, hx⟩ : ∃ x, x = 48 + chkD (sb t) := ⟨_, rfl⟩
        rw [← hx] at cc hres
        have CC := Lib.hid cc
        have hc := HC.out
        obtain ⟨b, hb⟩ : ∃ b, b = (((s[11]'hlt).toNat : Int) != x) := ⟨_, rfl⟩
        have hres2 : Hid (isinN (sb s) = if b then 11 else 0) := by
          show _ = _
          rw [hres.out, hb, ← hc]
          by_cases e : c = x
          · simp [e]
          · simp [e]
        have HB := Lib.hid hb
        clear cc hc hx hr hb
        go_enter Tryd.func57, Tryd.ntmps57
        go_wp2_with (first | (go_at_call 83; refine (CG.out _).mono ?_; rintro e w1 ⟨rfl, hb1⟩) | (go_at_call 84; refine (CQ.out _).mono ?_; rintro e w' ⟨rfl, rfl⟩))
        have S0 : w.heap.size ≤ w1.heap.size := hb1.size
        go_region_held3 (fun w' => w.heap.size ≤ w'.heap.size) (first | assumption | (simp [go_sem]; done))
          (first
            | (go_at_call 85; refine (CC.out _).mono ?_; rintro e w2 ⟨rfl, hb2⟩; have hw2 : w.heap.size ≤ w2.heap.size := Nat.le_trans S0 hb2.size))
        all_goals
          rw [← HB.out]
          have hb3 : Below w.heap.size w w2 := (below_drewN hb1 1).trans (hb2.mono hb1.size)
          cases b
          · go_wp2
            go_ret
            exact ⟨ret_int (by rw [hres2.out]; rfl), hb3⟩
          · go_wp2
            go_ret
            exact ⟨ret_int (by rw [hres2.out]; rfl), hb3⟩
  · have h : Hid (isinN (sb s) = 3) := isin_len (by rw [sb_len]; exact h12)
    have h12' : ((s.size : Int) != 12) = true := by simp; omega
    clear h12
    go_enter Tryd.func57, Tryd.ntmps57
    go_wp2
    go_ret
    exact ⟨ret_int h.out.symm, Below.refl _ _⟩
theorem isin_any (w : World) (s : ByteArray) (_hs : s.size ≤ 100000) :
    Calls Tryd.prog 57 #[.string s] w fun e w' => e = .returned (.int .i64 (isinN (sb s))) ∧ Below w.heap.size w w' := isin_all w s
end Go.Proofs.YteahloddjekakaaDoor.Id
namespace Go.Proofs.YteahloddjekakaaDoor.Id
open Go.RowKit
/-- What the reference's Digit tells. -/
def rdN (l : List Int) : Int := if headB l then chkD l else -1
theorem rd_no {l : List Int} (h : headB l = false) : rdN l = -1 := by unfold rdN; rw [h]; rfl
theorem rd_yes {l : List Int} (h : headB l = true) : rdN l = chkD l := by unfold rdN; rw [h]; rfl

theorem info_int : (Tryd.prog.info? 3).map (fun i => (i.zero, i.size, i.bytes)) = some (some (.int .i64 0), 1, 8) := by kernel_rfl
def ints (l : List Int) : List Value := l.map (Value.int .i64)
theorem cell_two_new (w : World) (a b : Value) (t : TypeId) : ∀ (j : Nat) (u : Value), [a, b][j]? = some u → (w.alloc (.cells #[a, b] t)).cell? ((⟨w.heap.size, 0, none⟩ : Addr).add j) = some u := by
  intro j u hj
  match j, hj with
  | 0, hj => simp at hj; subst hj; simp [Addr.add]
  | 1, hj => simp at hj; subst hj; simp [Addr.add]
  | j + 2, hj => simp at hj

theorem ok_of_parts {l : List Int} {k : Nat} {g q : Bool} (hg : g = grB (l.getD k 0)) (hq : q = dgB (l.getD k 0)) : okAt l k = (g || (decide (2 ≤ k) && q)) := by unfold okAt; rw [hg, hq]

theorem rowF_ge (l : List Int) : l.length ≤ (rowF l).length := by
  induction l with
  | nil => simp
  | cons a t ih =>
    have e : rowF (a :: t) = digs1 a ++ rowF t := by simp [rowF]
    have h1 : 1 ≤ (digs1 a).length := by unfold digs1; split <;> simp
    rw [e, List.length_append, List.length_cons]
    omega
theorem par_ev (n k : Nat) (h : k < n) : (((n : Int) - (k : Int)) % 2 == 1) = ev (n - (k + 1)) := by
  unfold ev
  rw [Bool.eq_iff_iff]
  simp
  omega
theorem getD_digit {L : List Int} (h : ∀ d ∈ L, 0 ≤ d ∧ d ≤ 9) (k : Nat) (hk : k < L.length) : 0 ≤ L.getD k 0 ∧ L.getD k 0 ≤ 9 := by
  rw [List.getD_eq_getElem?_getD, List.getElem?_eq_getElem hk]
  exact h _ (List.getElem_mem hk)
theorem ints_get (L : List Int) (k : Nat) (hk : k < L.length) : (ints L)[k]? = some (.int .i64 (L.getD k 0)) := by
  rw [List.getD_eq_getElem?_getD, ints, List.getElem?_map, List.getElem?_eq_getElem hk]
  rfl

set_option maxRecDepth 100000 in
set_option maxHeartbeats 4000000 in
theorem refDigit_any (w : World) (s : ByteArray) (hs : s.size ≤ 100000) :
    Calls Tryd.prog 64 #[.string s] w fun e w' => e = .returned (.int .i64 (rdN (sb s))) ∧ Below w.heap.size w w' := by
  by_cases h11 : s.size = 11
  · have H11 := Lib.hid h11
    have h11a : s.size ≤ 11 := by omega
    have h11b : 11 ≤ s.size := by omega
    have n11 : ((s.size : Int) != 11) = false := by simp; omega
    clear h11
    obtain ⟨i0, hi, hz0, hz1, hz2⟩ := info_parts info_int
    go_enter Tryd.func64, Tryd.ntmps64
    go_wp2
    go_loopg [3, 4] 11 (fun (g : Nat) sv si wx => ∃ k : Nat, g = 11 - k ∧ k ≤ 11 ∧ si = .int .i64 (k : Int) ∧ Hid ((∀ i, i < k → okAt (sb s) i = true) ∧ wx.ownsRow w.heap.size 3 1 sv (rowF ((sb s).take k)).length (ints (rowF ((sb s).take k))) ∧ Below w.heap.size w wx))
    case atStart => exact ⟨0, rfl, Nat.zero_le _, rfl, fun i hi => by omega, World.ownsRow_nil _ _ _ _, Below.refl _ _⟩
    case round =>
      obtain ⟨k, rfl, hk, rfl, hinv⟩ := hrel
      by_cases hlt : k < 11
      · have hls : k < s.size := by omega
        obtain ⟨d, hd⟩ : ∃ d, d = (sb s).getD k 0 := ⟨_, rfl⟩
        have hget := sb_get s k hls
        rw [← hd] at hget
        have hr := sb_range s k
        rw [← hd] at hr
        obtain ⟨r0, r1⟩ := hr
        obtain ⟨g, hg⟩ : ∃ g, g = grB d := ⟨_, rfl⟩
        obtain ⟨q, hq⟩ : ∃ q, q = dgB d := ⟨_, rfl⟩
        have cg : ∀ w, Calls Tryd.prog 62 #[.int .u8 d, .int .u8 65] w fun e w' => e = .returned (.bool g) ∧ w = w' := fun w => by
          rw [hg]; exact letter_great d w r0 r1
        have cq : ∀ w, Calls Tryd.prog 63 #[.int .u8 d] w fun e w' => e = .returned (.bool q) ∧ w = w' := fun w => by
          rw [hq]; exact digit_any d w r0 r1
        have CG := Lib.hid cg
        have CQ := Lib.hid cq
        have HG := Lib.hid hg
        have HQ := Lib.hid hq
        have HD := Lib.hid hd
        have hok : Hid (okAt (sb s) k = (g || (decide (2 ≤ k) && q))) := ok_of_parts (by rw [← hd]; exact hg) (by rw [← hd]; exact hq)
        have hlen : (rowF ((sb s).take k)).length ≤ 22 := by
          have := rowF_len ((sb s).take k)
          have : ((sb s).take k).length ≤ k := List.length_take_le _ _
          omega
        have hrow : Hid (rowF ((sb s).take (k + 1)) = rowF ((sb s).take k) ++ digs1 d) := by
          show _ = _
          rw [rowF_take (by rw [sb_len]; exact hls), ← hd]
        clear cg cq hg hq hd
        obtain ⟨v, hv⟩ : ∃ v, u3 = v := ⟨_, rfl⟩
        subst hv
        have hok2 := hinv.out.1
        have hrw := hinv.out.2.1
        have hbw := hinv.out.2.2
        have hsw := hbw.size
        have HOK2 := Lib.hid hok2
        clear hok2
        obtain ⟨n, hn⟩ : ∃ n, n = (rowF ((sb s).take k)).length := ⟨_, rfl⟩
        rw [← hn] at hrw hlen
        have HN := Lib.hid hn
        have HRW := Lib.hid hrw
        have HBW := Lib.hid hbw
        clear hn hrw hbw
        have hnext : Hid ((g = true ∨ (2 ≤ k ∧ q = true)) → ∀ i, i < k + 1 → okAt (sb s) i = true) := by
          intro e i hi
          rcases Nat.lt_or_ge i k with h | h
          · exact HOK2.out i h
          · have : i = k := by omega
            subst this
            rw [hok.out]
            rcases e with e | ⟨e1, e2⟩
            · rw [e]; rfl
            · rw [e2, decide_eq_true e1]; simp
        have hbad : Hid (g = false → (k < 2 ∨ q = false) → rdN (sb s) = -1) := by
          intro e1 e2
          refine rd_no (head_no_at (k := k) hlt ?_)
          rw [hok.out, e1]
          rcases e2 with e2 | e2
          · rw [decide_eq_false (by omega)]; rfl
          · rw [e2]; simp
        cases g
        · cases q
          · go_wp2_with (first | (go_at_call 62; refine (CG.out _).mono ?_; rintro e w' ⟨rfl, rfl⟩) | (go_at_call 63; refine (CQ.out _).mono ?_; rintro e w' ⟨rfl, rfl⟩))
            go_ret
            exact ⟨ret_int (hbad.out (by trivial) (.inr (by trivial))).symm, HBW.out⟩
          · by_cases h2 : k < 2
            · go_wp2_with (first | (go_at_call 62; refine (CG.out _).mono ?_; rintro e w' ⟨rfl, rfl⟩) | (go_at_call 63; refine (CQ.out _).mono ?_; rintro e w' ⟨rfl, rfl⟩))
              go_ret
              exact ⟨ret_int (hbad.out (by trivial) (.inl h2)).symm, HBW.out⟩
            · have h2' : 2 ≤ k := by omega
              have hqr := (dgB_iff d).1 HQ.out.symm
              obtain ⟨g0, g1⟩ := hqr
              have hdig : Hid (digs1 d = [d - 48]) := digs1_digit HQ.out.symm
              go_wp2_with (first
                | (go_at_call 62; refine (CG.out _).mono ?_; rintro e w' ⟨rfl, rfl⟩) | (go_at_call 63; refine (CQ.out _).mono ?_; rintro e w' ⟨rfl, rfl⟩)
                | (at_builtin; refine wpList_append_own _ rfl _ _ 125 rfl w.heap.size 3 i0 (.int .i64 0) 1 8 Tryd.underlying125 hi hz0 hz1 hz2 rfl (by decide) _ _ _ rfl (HRW.out.alloc _) ⟨wr.heap.size, 0, none⟩ 1 1 [.int .i64 (d - 48)] rfl rfl (cell_one_new _ _ _) (by simp [Value.oneCell']) (by unfold maxLen; omega) (by omega) (by simp; omega) ?_; intro v' w2 hown' hgrow hnil))
              have hb2 : Below w.heap.size w w2 := (HBW.out.alloc hsw _).grown hgrow (by simp; omega) (fun j hj => (HRW.out.lt j hj).1)
              go_roundg (11 - (k + 1))
              case measure => omega
              case rel => exact ⟨k + 1, rfl, by omega, by go_num, hnext.out (.inr ⟨h2', by trivial⟩), by rw [hrow.out, hdig.out, List.length_append, ← HN.out]; simpa [ints] using hown', hb2⟩
        · have hgr := (grB_iff d).1 HG.out.symm
          obtain ⟨g0, g1⟩ := hgr
          have hdig : Hid (digs1 d = [(d - 55) / 10, (d - 55) % 10]) := by
            show _ = _
            have hn : numC d = d - 55 := by
              unfold numC
              rw [if_neg]
              intro h
              have := (dgB_iff d).1 h
              omega
            unfold digs1
            rw [hn, if_pos (by omega)]
          have e1 : 0 ≤ (d - 55) / 10 := by omega
          go_wp2_with (first
            | (go_at_call 62; refine (CG.out _).mono ?_; rintro e w' ⟨rfl, rfl⟩)
            | (at_builtin; refine wpList_append_own _ rfl _ _ 125 rfl w.heap.size 3 i0 (.int .i64 0) 1 8 Tryd.underlying125 hi hz0 hz1 hz2 rfl (by decide) _ _ _ rfl (HRW.out.alloc _) ⟨wr.heap.size, 0, none⟩ 2 2 [.int .i64 ((d - 55) / 10), .int .i64 ((d - 55) % 10)] rfl rfl (cell_two_new _ _ _ _) (by simp [Value.oneCell']) (by unfold maxLen; omega) (by omega) (by simp; omega) ?_; intro v' w2 hown' hgrow hnil))
          have hb2 : Below w.heap.size w w2 := (HBW.out.alloc hsw _).grown hgrow (by simp; omega) (fun j hj => (HRW.out.lt j hj).1)
          go_roundg (11 - (k + 1))
          case measure => omega
          case rel => exact ⟨k + 1, rfl, by omega, by go_num, hnext.out (.inl (by trivial)), by rw [hrow.out, hdig.out, List.length_append, ← HN.out]; simpa [ints] using hown', hb2⟩
      · obtain rfl : k = 11 := by omega
        have htk : (sb s).take 11 = sb s := List.take_of_length_le (by rw [sb_len, H11.out]; exact Nat.le_refl _)
        have hh : headB (sb s) = true := (headB_iff _).2 ⟨by rw [sb_len]; exact H11.out, hinv.out.1⟩
        have hown := hinv.out.2.1
        have hbw := hinv.out.2.2
        rw [htk] at hown
        obtain ⟨L, hL⟩ : ∃ L, L = rowF (sb s) := ⟨_, rfl⟩
        rw [← hL] at hown
        have hdig : ∀ d ∈ L, 0 ≤ d ∧ d ≤ 9 := by rw [hL]; exact rowF_digit (head_mem hh)
        have hll : L.length ≤ 22 := by
          have := rowF_len (sb s)
          rw [sb_len, H11.out, ← hL] at this
          exact this
        have hl0 : 0 < L.length := by
          have := rowF_ge (sb s)
          rw [sb_len, H11.out, ← hL] at this
          omega
        have hres : Hid (rdN (sb s) = (10 - RF L % 10) % 10) := by show _ = _; rw [rd_yes hh, hL]; rfl
        clear hL htk hh hinv
        rcases hown.2 with ⟨_, h0⟩ | ⟨g, cap, cur, rfl, _⟩
        · omega
        obtain ⟨n, hn⟩ : ∃ n, n = L.length := ⟨_, rfl⟩
        have HN := Lib.hid hn
        have hcell : Hid (∀ k, k < n → wr.cell? ⟨g, k, none⟩ = some (.int .i64 (L.getD k 0))) := fun k hk => by
          rw [hown.cellAt k (by omega), ints_get L k (by omega)]
        rw [← hn] at hll hl0 ⊢
        have HDG := Lib.hid hdig
        have HBW := Lib.hid hbw
        clear hown hn hdig hbw
        go_wp2
        go_loopg [6, 7] n (fun (gg : Nat) tv iv wx => wr = wx ∧ ∃ (k : Nat) (t : Int), gg = n - k ∧ k ≤ n ∧ iv = .int .i64 (k : Int) ∧ tv = .int .i64 t ∧ 0 ≤ t ∧ t ≤ 9 * (k : Int) ∧ Hid (t + RF (L.drop k) = RF L))
        case atStart => exact ⟨rfl, 0, 0, rfl, Nat.zero_le _, rfl, rfl, by omega, by omega, by show (0 : Int) + RF (L.drop 0) = RF L; simp⟩
        case round =>
          obtain ⟨rfl, k, t, rfl, hk, rfl, rfl, t0, t1, hsum⟩ := hrel
          by_cases hlt : k < n
          · obtain ⟨d, hd⟩ : ∃ d, d = L.getD k 0 := ⟨_, rfl⟩
            have hc := hcell.out k hlt
            have hdr := getD_digit HDG.out k (by rw [← HN.out]; exact hlt)
            have hpar := par_ev n k hlt
            have hstep : Hid (RF (L.drop k) = gD (ev (n - (k + 1))) d + RF (L.drop (k + 1))) := by
              show _ = _
              rw [RF_drop (by rw [← HN.out]; exact hlt), ← HN.out, ← hd]
            rw [← hd] at hc hdr
            obtain ⟨d0, d1⟩ := hdr
            obtain ⟨b, hb⟩ : ∃ b, b = ev (n - (k + 1)) := ⟨_, rfl⟩
            rw [← hb] at hpar hstep
            clear hd hb
            have hend : Hid (∀ u, u = gD b d → t + u + RF (L.drop (k + 1)) = RF L) := by
              rintro u rfl
              have := hsum.out
              rw [hstep.out] at this
              omega
            cases b
            · go_wp2
              go_roundg (n - (k + 1))
              case measure => omega
              case rel => exact ⟨rfl, k + 1, t + d, rfl, by omega, by go_num, rfl, by omega, by push_cast; omega, hend.out d (gD_plain d).symm⟩
            · by_cases h5 : 5 ≤ d
              · go_wp2
                go_roundg (n - (k + 1))
                case measure => omega
                case rel => exact ⟨rfl, k + 1, t + (2 * d - 9), rfl, by omega, by go_num, rfl, by omega, by push_cast; omega, hend.out _ (gD_big d h5 d1).symm⟩
              · go_wp2
                go_roundg (n - (k + 1))
                case measure => omega
                case rel => exact ⟨rfl, k + 1, t + 2 * d, rfl, by omega, by go_num, rfl, by omega, by push_cast; omega, hend.out _ (gD_small d d0 (by omega)).symm⟩
          · obtain rfl : k = n := by omega
            have hfin : Hid (t = RF L) := by
              have := hsum.out
              rw [List.drop_of_length_le (by rw [← HN.out]; exact Nat.le_refl _)] at this
              simp only [RF] at this
              show _ = _
              omega
            have t2 : t ≤ 198 := by omega
            clear hsum t1
            go_wp2
            go_loopg [9] 10 (fun (gg : Nat) cv wx => wr = wx ∧ ∃ (c : Nat), gg = 10 - c ∧ c ≤ 10 ∧ cv = .int .i64 (c : Int) ∧ Hid (∀ x : Int, 0 ≤ x → x < (c : Int) → (t + x) % 10 ≠ 0))
            case atStart => exact ⟨rfl, 0, rfl, by omega, rfl, fun x h0 h1 => by omega⟩
            case round =>
              obtain ⟨rfl, c, rfl, hc, rfl, hno⟩ := hrel
              by_cases hlt : c < 10
              · by_cases hz : (t + (c : Int)) % 10 = 0
                · have hz2 : ((t + (c : Int)) % 10 == 0) = true := by simpa using hz
                  have hret : Hid (rdN (sb s) = (c : Int)) := by
                    show _ = _
                    rw [hres.out, ← hfin.out]
                    omega
                  clear hz
                  go_wp2
                  go_ret
                  exact ⟨ret_int hret.out.symm, HBW.out⟩
                · have hz2 : ((t + (c : Int)) % 10 == 0) = false := by simpa using hz
                  have hnx : Hid (∀ x : Int, 0 ≤ x → x < ((c + 1 : Nat) : Int) → (t + x) % 10 ≠ 0) := fun x h0 h1 => by
                    by_cases e : x = c
                    · rw [e]; exact hz
                    · exact hno.out x h0 (by omega)
                  clear hz
                  go_wp2
                  go_roundg (10 - (c + 1))
                  case measure => omega
                  case rel => exact ⟨rfl, c + 1, rfl, by omega, by go_num, hnx.out⟩
              · exfalso
                have := hno.out ((10 - t % 10) % 10) (by omega) (by omega)
                omega
  · have h : Hid (rdN (sb s) = -1) := rd_no (head_no_len (by rw [sb_len]; exact h11))
    have h11' : ((s.size : Int) != 11) = true := by simp; omega
    clear h11
    go_enter Tryd.func64, Tryd.ntmps64
    go_wp2
    go_ret
    exact ⟨ret_int h.out.symm, Below.refl _ _⟩
end Go.Proofs.YteahloddjekakaaDoor.Id
namespace Go.Proofs.YteahloddjekakaaDoor.Id
open Go.RowKit
theorem rd_range (l : List Int) : -1 ≤ rdN l ∧ rdN l ≤ 9 := by
  unfold rdN
  have := chkD_range l
  split <;> omega

set_option maxRecDepth 100000 in
set_option maxHeartbeats 2000000 in
theorem refIsin_all (w : World) (s : ByteArray) :
    Calls Tryd.prog 37 #[.string s] w fun e w' => e = .returned (.int .i64 (isinN (sb s))) ∧ Below w.heap.size w w' := by
  by_cases h12 : s.size = 12
  · have n12 : ((s.size : Int) != 12) = false := by simp; omega
    have s0 : 12 ≤ s.size := by omega
    have s1 : s.size ≤ 12 := by omega
    have hlt : 11 < s.size := by omega
    have H12 := Lib.hid h12
    have hsl := fun W => slice_11 s (by omega) W
    obtain ⟨t, ht⟩ : ∃ t, t = s.extract 0 11 := ⟨_, rfl⟩
    have htb : sb t = (sb s).take 11 := by rw [ht]; exact sb_take s 11
    rw [← ht] at hsl
    have htl : t.size = 11 := by rw [← sb_len, htb, List.length_take, sb_len]; omega
    have htl' : t.size ≤ 100000 := by omega
    have hcr := sb_range s 11
    obtain ⟨c, hc⟩ : ∃ c, c = (sb s).getD 11 0 := ⟨_, rfl⟩
    have hget : ((s[11]'hlt).toNat : Int) = c := by rw [hc]; exact sb_get s 11 hlt
    rw [← hc] at hcr
    obtain ⟨c0, c1⟩ := hcr
    have HTB := Lib.hid htb
    have HCB := Lib.hid hc
    clear ht htb htl h12 hc
    obtain ⟨q, hq⟩ : ∃ q, q = dgB c := ⟨_, rfl⟩
    obtain ⟨x, hx⟩ : ∃ x, x = rdN (sb t) := ⟨_, rfl⟩
    have hxr := rd_range (sb t)
    have cg : ∀ w, Calls Tryd.prog 64 #[.string t] w fun e w' => e = .returned (.int .i64 x) ∧ Below w.heap.size w w' := fun w => by
      rw [hx]; exact refDigit_any w t htl'
    rw [← hx] at hxr
    obtain ⟨x0, x1⟩ := hxr
    have cq : ∀ w, Calls Tryd.prog 63 #[.int .u8 c] w fun e w' => e = .returned (.bool q) ∧ w = w' := fun w => by
      rw [hq]; exact digit_any c w c0 c1
    have CG := Lib.hid cg
    have CQ := Lib.hid cq
    have HX := Lib.hid hx
    have HQ := Lib.hid hq
    clear cg cq hq hx
    cases q
    · have hres : Hid (isinN (sb s) = 3) := isin_digit (by rw [← HCB.out]; exact HQ.out.symm)
      go_enter Tryd.func37, Tryd.ntmps37
      go_wp2_with (go_at_call 63; refine (CQ.out _).mono ?_; rintro e w' ⟨rfl, rfl⟩)
      go_ret
      exact ⟨ret_int hres.out.symm, Below.refl _ _⟩
    · by_cases hxn : x < 0
      · have hres : Hid (isinN (sb s) = 3) := isin_head (by
          rw [← HTB.out]
          cases hh : headB (sb t)
          · rfl
          · have e := HX.out
            rw [rd_yes hh] at e
            have := chkD_range (sb t)
            omega)
        go_enter Tryd.func37, Tryd.ntmps37
        go_wp2_with (first
          | (go_at_call 64; refine (CG.out _).mono ?_; rintro e w1 ⟨rfl, hb1⟩)
          | (go_at_call 63; refine (CQ.out _).mono ?_; rintro e w' ⟨rfl, rfl⟩))
        go_ret
        exact ⟨ret_int hres.out.symm, hb1⟩
      · have hh : headB (sb t) = true := by
          cases hh : headB (sb t)
          · have e := HX.out
            rw [rd_no hh] at e
            omega
          · rfl
        obtain ⟨b, hb⟩ : ∃ b, b = (x != c - 48) := ⟨_, rfl⟩
        have hres : Hid (isinN (sb s) = if b then 11 else 0) := by
          show _ = _
          rw [isin_sum (by rw [sb_len]; exact H12.out) (by rw [← HTB.out]; exact hh) (by rw [← HCB.out]; exact HQ.out.symm), ← HCB.out, ← HTB.out]
          have e := HX.out
          rw [rd_yes hh] at e
          rw [← e, hb]
          by_cases e2 : c = 48 + x
          · have : x = c - 48 := by omega
            rw [if_pos e2, ← this]; simp
          · have : (x != c - 48) = true := by simp; omega
            rw [if_neg e2, this]; rfl
        have HB := Lib.hid hb
        clear hb hh
        have x0' : 0 ≤ x := by omega
        go_enter Tryd.func37, Tryd.ntmps37
        go_wp2_with (first
          | (go_at_call 64; refine (CG.out _).mono ?_; rintro e w1 ⟨rfl, hb1⟩)
          | (go_at_call 63; refine (CQ.out _).mono ?_; rintro e w' ⟨rfl, rfl⟩))
        have S0 : w.heap.size ≤ w1.heap.size := hb1.size
        have ec : IntKind.i64.wrap c = c := IntWalk.i64_in _ (by omega)
        have e48 : IntKind.i64.wrap (c - 48) = c - 48 := IntWalk.i64_in _ (by omega)
        go_region_held3 (fun w' => w.heap.size ≤ w'.heap.size) (first | assumption | (simp [go_sem]; done))
          (first
            | (go_at_call 64; refine (CG.out _).mono ?_; rintro e w2 ⟨rfl, hb2⟩; have hw2 : w.heap.size ≤ w2.heap.size := Nat.le_trans S0 hb2.size))
        all_goals
          try rw [ec]
          try rw [e48]
          rw [← HB.out]
          have hb3 : Below w.heap.size w w2 := (below_drewN hb1 1).trans (hb2.mono hb1.size)
          clear e48 ec
          cases b
          · go_wp2
            go_ret
            exact ⟨ret_int (by rw [hres.out]; rfl), hb3⟩
          · go_wp2
            go_ret
            exact ⟨ret_int (by rw [hres.out]; rfl), hb3⟩
  · have h : Hid (isinN (sb s) = 3) := isin_len (by rw [sb_len]; exact h12)
    have h12' : ((s.size : Int) != 12) = true := by simp; omega
    clear h12
    go_enter Tryd.func37, Tryd.ntmps37
    go_wp2
    go_ret
    exact ⟨ret_int h.out.symm, Below.refl _ _⟩
theorem refIsin_any (w : World) (s : ByteArray) (_hs : s.size ≤ 100000) :
    Calls Tryd.prog 37 #[.string s] w fun e w' => e = .returned (.int .i64 (isinN (sb s))) ∧ Below w.heap.size w w' := refIsin_all w s
end Go.Proofs.YteahloddjekakaaDoor.Id
namespace Go.Proofs.YteahloddjekakaaDoor.Id
open Go.RowKit
end Go.Proofs.YteahloddjekakaaDoor.Id
namespace Go.Proofs.YteahloddjekakaaDoor.Id
open Go.RowKit
/-- May the byte stand in a member's name? -/
def okM (c : Int) : Bool := smB c || dgB c
/-- Is it a member's name? -/
def memB (l : List Int) : Bool := decide (1 ≤ l.length) && decide (l.length ≤ 8) && smB (l.getD 0 0) && l.all okM
def memE (l : List Int) : Int := if memB l then 0 else 3
theorem mem_iff (l : List Int) : memB l = true ↔ 1 ≤ l.length ∧ l.length ≤ 8 ∧ smB (l.getD 0 0) = true ∧ ∀ i, i < l.length → okM (l.getD i 0) = true := by
  unfold memB
  simp only [Bool.and_eq_true, decide_eq_true_eq, List.all_eq_true]
  constructor
  · rintro ⟨⟨⟨h1, h2⟩, h3⟩, h4⟩
    refine ⟨h1, h2, h3, fun i hi => ?_⟩
    rw [List.getD_eq_getElem?_getD, List.getElem?_eq_getElem hi]
    exact h4 _ (List.getElem_mem hi)
  · rintro ⟨h1, h2, h3, h4⟩
    refine ⟨⟨⟨h1, h2⟩, h3⟩, fun c hc => ?_⟩
    obtain ⟨i, hi, rfl⟩ := List.getElem_of_mem hc
    have h := h4 i hi
    rwa [List.getD_eq_getElem?_getD, List.getElem?_eq_getElem hi] at h
theorem memE_no {l : List Int} (h : memB l = false) : memE l = 3 := by unfold memE; rw [h]; rfl
theorem memE_yes {l : List Int} (h : memB l = true) : memE l = 0 := by unfold memE; rw [h]; rfl
theorem mem_not {l : List Int} (h : ¬ (1 ≤ l.length ∧ l.length ≤ 8 ∧ smB (l.getD 0 0) = true ∧ ∀ i, i < l.length → okM (l.getD i 0) = true)) : memE l = 3 := by
  refine memE_no ?_
  cases hh : memB l
  · rfl
  · exact absurd ((mem_iff l).1 hh) h

theorem toList_len (s : ByteArray) : s.toList.length = s.size := by rw [ByteArray.toList_eq]; simp
theorem empty_yes {s : ByteArray} (h : s.size = 0) : s.toList.isEmpty = true := by
  have := toList_len s
  match hl : s.toList with
  | [] => rfl
  | a :: r => rw [hl, List.length_cons] at this; omega
theorem empty_no {s : ByteArray} (h : 0 < s.size) : s.toList.isEmpty = false := by
  have := toList_len s
  match hl : s.toList with
  | [] => rw [hl, List.length_nil] at this; omega
  | a :: r => rfl

set_option maxRecDepth 100000 in
set_option maxHeartbeats 1000000 in
theorem member_all (w : World) (s : ByteArray) :
    Calls Tryd.prog 58 #[.string s] w fun e w' => e = .returned (.int .i64 (memE (sb s))) ∧ Below w.heap.size w w' := by
  by_cases h0 : s.size = 0
  · have hres : Hid (memE (sb s) = 3) := mem_not (fun h => by have := h.1; rw [sb_len] at this; omega)
    have he : s.toList.isEmpty = true := empty_yes h0
    have he2 : s.toList = [] := by simpa using he
    clear h0
    go_enter Tryd.func58, Tryd.ntmps58
    go_wp2
    go_ret
    exact ⟨ret_int hres.out.symm, Below.refl _ _⟩
  · have hp : 0 < s.size := by omega
    have he : s.toList.isEmpty = false := empty_no hp
    by_cases h8 : 8 < s.size
    · have hres : Hid (memE (sb s) = 3) := mem_not (fun h => by have := h.2.1; rw [sb_len] at this; omega)
      clear h0
      go_enter Tryd.func58, Tryd.ntmps58
      go_wp2
      go_ret
      exact ⟨ret_int hres.out.symm, Below.refl _ _⟩
    · have hr := sb_range s 0
      have hget := sb_get s 0 hp
      obtain ⟨c, hc⟩ : ∃ c, c = (sb s).getD 0 0 := ⟨_, rfl⟩
      rw [← hc] at hr hget
      obtain ⟨c0, c1⟩ := hr
      obtain ⟨b, hb⟩ : ∃ b, b = smB c := ⟨_, rfl⟩
      have cs : ∀ w, Calls Tryd.prog 86 #[.int .u8 c] w fun e w' => e = .returned (.bool b) ∧ w = w' := fun w => by
        rw [hb]; exact isSmall_any c w c0 c1
      have CS := Lib.hid cs
      have HC := Lib.hid hc
      have HB := Lib.hid hb
      have s8 : s.size ≤ 8 := by omega
      clear cs hc hb h0 h8
      cases b
      · have hres : Hid (memE (sb s) = 3) := mem_not (fun h => by have := h.2.2.1; rw [← HC.out, ← HB.out] at this; cases this)
        go_enter Tryd.func58, Tryd.ntmps58
        go_wp2_with (go_at_call 86; refine (CS.out _).mono ?_; rintro e w' ⟨rfl, rfl⟩)
        go_ret
        exact ⟨ret_int hres.out.symm, Below.refl _ _⟩
      · obtain ⟨cv, cw, hcv, hcp⟩ := str_bytes s
        have HCP := Lib.hid (hcp w)
        have HS1 : Hid (smB ((sb s).getD 0 0) = true) := by show _ = _; rw [← HC.out, ← HB.out]
        clear hcp HB
        go_enter Tryd.func58, Tryd.ntmps58
        go_wp2_with (go_at_call 86; refine (CS.out _).mono ?_; rintro e w' ⟨rfl, rfl⟩)
        obtain ⟨W0, hW0⟩ : ∃ W0, W0 = cw w := ⟨_, rfl⟩
        rw [← hW0] at HCP ⊢
        clear hW0 hcv CS hget HC c0 c1
        go_loopg [21] s.size (fun (g : Nat) si wx => W0 = wx ∧ ∃ k : Nat, g = s.size - k ∧ k ≤ s.size ∧ si = .int .i64 (k : Int) ∧ Hid (∀ i, i < k → okM ((sb s).getD i 0) = true))
        case atStart => exact ⟨rfl, 0, rfl, Nat.zero_le _, rfl, fun i hi => by omega⟩
        case round =>
          obtain ⟨rfl, k, rfl, hk, rfl, hall⟩ := hrel
          by_cases hlt : k < s.size
          · obtain ⟨d, hd⟩ : ∃ d, d = (sb s).getD k 0 := ⟨_, rfl⟩
            have hc := HCP.out.2.2 k hlt
            have hr := sb_range s k
            rw [← hd] at hc hr
            obtain ⟨r0, r1⟩ := hr
            have HD := Lib.hid hd
            clear hd
            obtain ⟨g, hg⟩ : ∃ g, g = smB d := ⟨_, rfl⟩
            obtain ⟨q, hq⟩ : ∃ q, q = dgB d := ⟨_, rfl⟩
            have cg : ∀ w, Calls Tryd.prog 86 #[.int .u8 d] w fun e w' => e = .returned (.bool g) ∧ w = w' := fun w => by
              rw [hg]; exact isSmall_any d w r0 r1
            have cq : ∀ w, Calls Tryd.prog 84 #[.int .u8 d] w fun e w' => e = .returned (.bool q) ∧ w = w' := fun w => by
              rw [hq]; exact isDigit_any d w r0 r1
            have CG := Lib.hid cg
            have CQ := Lib.hid cq
            have hok : Hid (okM ((sb s).getD k 0) = (g || q)) := by show _ = _; rw [← HD.out, hg, hq]; rfl
            clear cg cq hg hq
            have hgood : Hid ((g || q) = true → ∀ i, i < k + 1 → okM ((sb s).getD i 0) = true) := by
              intro e i hi
              rcases Nat.lt_or_ge i k with h | h
              · exact hall.out i h
              · have : i = k := by omega
                subst this
                rw [hok.out]; exact e
            cases g
            · cases q
              · have hres : Hid (memE (sb s) = 3) := mem_not (fun h => by
                  have := h.2.2.2 k (by rw [sb_len]; exact hlt)
                  rw [hok.out] at this; cases this)
                go_wp2_with (first | (go_at_call 86; refine (CG.out _).mono ?_; rintro e w' ⟨rfl, rfl⟩) | (go_at_call 84; refine (CQ.out _).mono ?_; rintro e w' ⟨rfl, rfl⟩))
                go_ret
                exact ⟨ret_int hres.out.symm, HCP.out.1⟩
              · go_wp2_with (first | (go_at_call 86; refine (CG.out _).mono ?_; rintro e w' ⟨rfl, rfl⟩) | (go_at_call 84; refine (CQ.out _).mono ?_; rintro e w' ⟨rfl, rfl⟩))
                go_roundg (s.size - (k + 1))
                case measure => omega
                case rel => exact ⟨rfl, k + 1, rfl, by omega, by go_num, hgood.out (by trivial)⟩
            · go_wp2_with (first | (go_at_call 86; refine (CG.out _).mono ?_; rintro e w' ⟨rfl, rfl⟩) | (go_at_call 84; refine (CQ.out _).mono ?_; rintro e w' ⟨rfl, rfl⟩))
              go_roundg (s.size - (k + 1))
              case measure => omega
              case rel => exact ⟨rfl, k + 1, rfl, by omega, by go_num, hgood.out (by trivial)⟩
          · have hks : k = s.size := by omega
            have hres : Hid (memE (sb s) = 0) := memE_yes ((mem_iff _).2 ⟨by rw [sb_len]; omega, by rw [sb_len]; exact s8, HS1.out, fun i hi => hall.out i (by rw [hks, ← sb_len]; exact hi)⟩)
            clear hks
            go_wp2
            go_ret
            exact ⟨ret_int hres.out.symm, HCP.out.1⟩

set_option maxRecDepth 100000 in
set_option maxHeartbeats 1000000 in
theorem refMember_all (w : World) (s : ByteArray) :
    Calls Tryd.prog 36 #[.string s] w fun e w' => e = .returned (.int .i64 (memE (sb s))) ∧ w = w' := by
  by_cases h0 : s.size = 0
  · have hres : Hid (memE (sb s) = 3) := mem_not (fun h => by have := h.1; rw [sb_len] at this; omega)
    have h0' : s.size ≤ 0 := by omega
    clear h0
    go_enter Tryd.func36, Tryd.ntmps36
    go_wp2
    go_ret
    exact ⟨ret_int hres.out.symm, rfl⟩
  · have hp : 0 < s.size := by omega
    by_cases h8 : 8 < s.size
    · have hres : Hid (memE (sb s) = 3) := mem_not (fun h => by have := h.2.1; rw [sb_len] at this; omega)
      clear h0
      go_enter Tryd.func36, Tryd.ntmps36
      go_wp2
      go_ret
      exact ⟨ret_int hres.out.symm, rfl⟩
    · have hr := sb_range s 0
      have hget := sb_get s 0 hp
      obtain ⟨c, hc⟩ : ∃ c, c = (sb s).getD 0 0 := ⟨_, rfl⟩
      rw [← hc] at hr hget
      obtain ⟨c0, c1⟩ := hr
      obtain ⟨b, hb⟩ : ∃ b, b = smB c := ⟨_, rfl⟩
      have cs : ∀ w, Calls Tryd.prog 62 #[.int .u8 c, .int .u8 97] w fun e w' => e = .returned (.bool b) ∧ w = w' := fun w => by
        rw [hb]; exact letter_small c w c0 c1
      have CS := Lib.hid cs
      have HC := Lib.hid hc
      have HB := Lib.hid hb
      have s8 : s.size ≤ 8 := by omega
      clear cs hc hb h0 h8
      cases b
      · have hres : Hid (memE (sb s) = 3) := mem_not (fun h => by have := h.2.2.1; rw [← HC.out, ← HB.out] at this; cases this)
        go_enter Tryd.func36, Tryd.ntmps36
        go_wp2_with (go_at_call 62; refine (CS.out _).mono ?_; rintro e w' ⟨rfl, rfl⟩)
        go_ret
        exact ⟨ret_int hres.out.symm, rfl⟩
      · have HS1 : Hid (smB ((sb s).getD 0 0) = true) := by show _ = _; rw [← HC.out, ← HB.out]
        clear HB
        go_enter Tryd.func36, Tryd.ntmps36
        go_wp2_with (go_at_call 62; refine (CS.out _).mono ?_; rintro e w' ⟨rfl, rfl⟩)
        clear CS hget HC c0 c1
        go_loopg [3] s.size (fun (g : Nat) si wx => w = wx ∧ ∃ k : Nat, g = s.size - k ∧ k ≤ s.size ∧ si = .int .i64 (k : Int) ∧ Hid (∀ i, i < k → okM ((sb s).getD i 0) = true))
        case atStart => exact ⟨rfl, 0, rfl, Nat.zero_le _, rfl, fun i hi => by omega⟩
        case round =>
          obtain ⟨rfl, k, rfl, hk, rfl, hall⟩ := hrel
          by_cases hlt : k < s.size
          · obtain ⟨d, hd⟩ : ∃ d, d = (sb s).getD k 0 := ⟨_, rfl⟩
            have hget := sb_get s k hlt
            have hr := sb_range s k
            rw [← hd] at hget hr
            obtain ⟨r0, r1⟩ := hr
            have HD := Lib.hid hd
            clear hd
            obtain ⟨g, hg⟩ : ∃ g, g = smB d := ⟨_, rfl⟩
            obtain ⟨q, hq⟩ : ∃ q, q = dgB d := ⟨_, rfl⟩
            have cg : ∀ w, Calls Tryd.prog 62 #[.int .u8 d, .int .u8 97] w fun e w' => e = .returned (.bool g) ∧ w = w' := fun w => by
              rw [hg]; exact letter_small d w r0 r1
            have cq : ∀ w, Calls Tryd.prog 63 #[.int .u8 d] w fun e w' => e = .returned (.bool q) ∧ w = w' := fun w => by
              rw [hq]; exact digit_any d w r0 r1
            have CG := Lib.hid cg
            have CQ := Lib.hid cq
            have hok : Hid (okM ((sb s).getD k 0) = (g || q)) := by show _ = _; rw [← HD.out, hg, hq]; rfl
            clear cg cq hg hq
            have hgood : Hid ((g || q) = true → ∀ i, i < k + 1 → okM ((sb s).getD i 0) = true) := by
              intro e i hi
              rcases Nat.lt_or_ge i k with h | h
              · exact hall.out i h
              · have : i = k := by omega
                subst this
                rw [hok.out]; exact e
            cases g
            · cases q
              · have hres : Hid (memE (sb s) = 3) := mem_not (fun h => by
                  have := h.2.2.2 k (by rw [sb_len]; exact hlt)
                  rw [hok.out] at this; cases this)
                go_wp2_with (first | (go_at_call 62; refine (CG.out _).mono ?_; rintro e w' ⟨rfl, rfl⟩) | (go_at_call 63; refine (CQ.out _).mono ?_; rintro e w' ⟨rfl, rfl⟩))
                go_ret
                exact ⟨ret_int hres.out.symm, rfl⟩
              · go_wp2_with (first | (go_at_call 62; refine (CG.out _).mono ?_; rintro e w' ⟨rfl, rfl⟩) | (go_at_call 63; refine (CQ.out _).mono ?_; rintro e w' ⟨rfl, rfl⟩))
                go_roundg (s.size - (k + 1))
                case measure => omega
                case rel => exact ⟨rfl, k + 1, rfl, by omega, by go_num, hgood.out (by trivial)⟩
            · go_wp2_with (first | (go_at_call 62; refine (CG.out _).mono ?_; rintro e w' ⟨rfl, rfl⟩) | (go_at_call 63; refine (CQ.out _).mono ?_; rintro e w' ⟨rfl, rfl⟩))
              go_roundg (s.size - (k + 1))
              case measure => omega
              case rel => exact ⟨rfl, k + 1, rfl, by omega, by go_num, hgood.out (by trivial)⟩
          · have hks : k = s.size := by omega
            have hres : Hid (memE (sb s) = 0) := memE_yes ((mem_iff _).2 ⟨by rw [sb_len]; omega, by rw [sb_len]; exact s8, HS1.out, fun i hi => hall.out i (by rw [hks, ← sb_len]; exact hi)⟩)
            clear hks
            go_wp2
            go_ret
            exact ⟨ret_int hres.out.symm, rfl⟩
theorem member_any (w : World) (s : ByteArray) (_hs : s.size ≤ 100000) :
    Calls Tryd.prog 58 #[.string s] w fun e w' => e = .returned (.int .i64 (memE (sb s))) ∧ Below w.heap.size w w' := member_all w s
theorem refMember_any (w : World) (s : ByteArray) (_hs : s.size ≤ 100000) :
    Calls Tryd.prog 36 #[.string s] w fun e w' => e = .returned (.int .i64 (memE (sb s))) ∧ w = w' := refMember_all w s
end Go.Proofs.YteahloddjekakaaDoor.Id
