/-
  The contracts of the writer's Wide, Text and Done. Conditions: what is written has room, or there is a mistake.
-/
import Derived.Test.YteahloddjekakaaDoorOWrite
import Derived.Shelf.Bytes.SlClone
namespace Go.Proofs.YteahloddjekakaaDoor.Oc
open Go.RowKit

/-- The k lowest bytes of a word, the highest first. -/
def wordF : Nat → Nat → List Int
  | 0, _ => []
  | k + 1, x => ((x / 256 ^ k % 256 : Nat) : Int) :: wordF k x
theorem wordF_len (k x : Nat) : (wordF k x).length = k := by
  induction k with
  | zero => rfl
  | succ k ih => simp [wordF, ih]
/-- The word's bytes while they are written: k are to come. -/
def WideI (w : World) (b : Nat) (er : Int) (v : Value) (l all : List Int) (lo k : Nat) (wx : World) : Prop :=
  ∃ acc, WrTo b v w er (addB er l acc) wx ∧ acc ++ wordF k lo = all
theorem WideI.block {w wx : World} {b : Nat} {er : Int} {v : Value} {l all : List Int} {lo k a : Nat} {o : Obj} (h : WideI w b er v l all lo k wx) (ha : w.heap[a]? = some o) (hb : a ≠ b) (hv : v.ownBlock ≠ some a) : wx.heap[a]? = some o := by
  obtain ⟨acc, ⟨v', _, h2⟩, _⟩ := h
  exact (h2.block a (Array.getElem?_eq_some_iff.1 ha).1 hb hv).trans ha
set_option maxRecDepth 100000 in
set_option maxHeartbeats 4000000 in
theorem wide_any (w : World) (b : Nat) (er hi : Int) (lo : Nat) (l : List Int) (v : Value) (h : WrR w b er l v) (h1 : -9223372036854775808 ≤ hi) (h2 : hi < 9223372036854775808) (_h3 : lo < 18446744073709551616)
    (hr : er = 0 → l.length + (grp (fold hi)).length + 8 ≤ 1048576) :
    Calls Tryd.prog 44 #[.pointer (some ⟨b, 0, none⟩), .agg #[.int .i64 hi, .int .u64 (lo : Int)]] w fun e w' => e = .returned (.pointer (some ⟨b, 0, none⟩)) ∧ WrTo b v w er (addB er l (grp (fold hi) ++ wordF 8 lo)) w' := by
  have HB : Hid (Below w.heap.size w (w.alloc (.cells #[.int .i64 hi, .int .u64 (lo : Int)] 31))) := (Below.refl _ _).alloc (Nat.le_refl _) _
  have HA : Hid ((w.alloc (.cells #[.int .i64 hi, .int .u64 (lo : Int)] 31)).heap[w.heap.size]? = some (.cells #[.int .i64 hi, .int .u64 (lo : Int)] 31 (0, 0))) := block_new _ _
  have HN := Lib.hid (number_any _ b er hi l v (h.below HB.out) h1 h2 (fun e => by have := hr e; omega))
  have hlt := h.lt
  have HW := Lib.hid h
  clear h
  go_enter Tryd.func44, Tryd.ntmps44
  go_wp2_with (go_at_call 42; refine HN.out.mono ?_; rintro e w1 ⟨rfl, h1⟩; have H1 := Lib.hid h1; clear h1)
  have HL : Hid (er = 0 → l.length + (grp (fold hi)).length + 8 ≤ 1048576) := hr
  have HI : Hid (WideI (w.alloc (.cells #[.int .i64 hi, .int .u64 (lo : Int)] 31)) b er v l (grp (fold hi) ++ wordF 8 lo) lo 8 w1) := ⟨_, H1.out, rfl⟩
  clear hr H1 HN
  go_loopg [5] 8 (fun k s5 wx => ∃ j : Int, j = 8 * (k : Int) - 8 ∧ k ≤ 8 ∧ s5 = .int .i64 j ∧ Hid (WideI (w.alloc (.cells #[.int .i64 hi, .int .u64 (lo : Int)] 31)) b er v l (grp (fold hi) ++ wordF 8 lo) lo k wx))
  case atStart => exact ⟨_, rfl, Nat.le_refl _, rfl, HI⟩
  case round =>
    clear HI
    obtain ⟨j, hj, hk, rfl, hinv⟩ := hrel
    have hA := WideI.block hinv.out HA.out (by simp; omega) (fun e => by have := (HW.out.2.1.lt _ e).2; omega)
    obtain ⟨⟨c1, c2⟩, _⟩ := block_cell2 hA
    have HJ := Lib.hid hj
    cases gk with
    | zero =>
      have t1 : ¬ 0 ≤ j := by omega
      clear hj
      go_wp2
      go_ret
      obtain ⟨acc, h4, h5⟩ := hinv.out
      refine ⟨rfl, ?_⟩
      rw [← h5]
      exact WrTo.trans (.of_below HB.out) (by simpa [wordF] using h4)
    | succ k =>
      have t1 : 0 ≤ j := by omega
      have t2 : j ≤ 56 := by omega
      obtain ⟨q, hq⟩ : ∃ q, q = lo / 256 ^ k := ⟨_, rfl⟩
      have hsh : (lo : Int) / 2 ^ j.toNat = (q : Int) := by
        have e1 : j.toNat = 8 * k := by omega
        rw [e1, hq, Int.pow_mul]
        simp
      have HQ : Hid (((q : Int) % 256) :: wordF k lo = wordF (k + 1) lo) := by show _ = _; rw [hq]; rfl
      obtain ⟨acc, h4, h5⟩ := hinv.out
      have HE : Hid ((acc ++ [(q : Int) % 256]) ++ wordF k lo = grp (fold hi) ++ wordF 8 lo) := by show _ = _; rw [← h5, ← HQ.out]; simp
      have HEN : Hid (er = 0 → (addB er l acc).length + 1 ≤ 1048576) := by
        intro e0
        have h6 := HL.out e0
        have h7 := congrArg List.length h5
        rw [e0, addB_no]
        simp only [List.length_append, wordF_len] at h7 ⊢
        omega
      obtain ⟨v1, hw1, hf1⟩ := h4
      have HBY := Lib.hid (byte_any wr b er ((q : Int) % 256) (addB er l acc) v1 hw1 HEN.out)
      have HF1 := Lib.hid hf1
      clear hj hq h5 hw1 hf1 hinv hA
      go_wp2_with (go_at_call 38; refine HBY.out.mono ?_; rintro e w2 ⟨rfl, h2⟩; have H2 := Lib.hid (WrTo.trans HF1.out h2); clear h2)
      go_roundg k
      case measure => omega
      case rel => exact ⟨j - 8, by have := HJ.out; omega, by omega, by go_num, ⟨acc ++ [(q : Int) % 256], by rw [← addB_addB]; exact H2.out, HE.out⟩⟩
end Go.Proofs.YteahloddjekakaaDoor.Oc
