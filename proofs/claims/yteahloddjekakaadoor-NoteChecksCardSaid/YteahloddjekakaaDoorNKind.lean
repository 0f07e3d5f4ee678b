/-
  The contracts of the reference's What, asks and Word, and of Message. Conditions: none.
-/
import Derived.Test.YteahloddjekakaaDoorNBase
namespace Go.Proofs.YteahloddjekakaaDoor.Nt
open Go.RowKit Td

/-- What a kind asks for, as letters. -/
def whB : Nat → ByteArray
  | 1 => ⟨#[116]⟩
  | 3 => ⟨#[110, 97]⟩
  | 4 => ⟨#[100]⟩
  | 5 => ⟨#[110, 97]⟩
  | 6 => ⟨#[110, 97]⟩
  | 7 => ⟨#[110]⟩
  | 8 => ⟨#[112]⟩
  | 9 => ⟨#[112, 100, 116]⟩
  | 10 => ⟨#[112, 100, 114]⟩
  | 11 => ⟨#[112, 100, 114, 99]⟩
  | 12 => ⟨#[112]⟩
  | _ => ⟨#[]⟩
def whatS (k : Int) : ByteArray := if isK k = true then whB k.toNat else ⟨#[63]⟩
def sRow (f : Nat → ByteArray) : Array Value := #[.string (f 0), .string (f 1), .string (f 2), .string (f 3), .string (f 4), .string (f 5), .string (f 6), .string (f 7), .string (f 8), .string (f 9), .string (f 10), .string (f 11), .string (f 12)]
theorem sRow_cell {w : World} {b : Nat} {f : Nat → ByteArray} {t : TypeId} (h : w.heap[b]? = some (.cells (sRow f) t (0, 0))) (k : Nat) (hk : k ≤ 12) : w.cell? ⟨b, k, none⟩ = some (.string (f k)) := by
  rw [cell_of_row w b k _ _ _ h]
  have hk' : k = 0 ∨ k = 1 ∨ k = 2 ∨ k = 3 ∨ k = 4 ∨ k = 5 ∨ k = 6 ∨ k = 7 ∨ k = 8 ∨ k = 9 ∨ k = 10 ∨ k = 11 ∨ k = 12 := by omega
  rcases hk' with rfl | rfl | rfl | rfl | rfl | rfl | rfl | rfl | rfl | rfl | rfl | rfl | rfl <;> rfl
set_option maxRecDepth 100000 in
set_option maxHeartbeats 4000000 in
theorem what_any (w : World) (k : Int) {s : ByteArray} (hs : Hid (s = whatS k)) : Calls Tryd.prog 33 #[.int .i64 k] w fun e w' => e = .returned (.string s) ∧ Below w.heap.size w w' := by
  cases hb : isK k
  · obtain rfl : s = ⟨#[63]⟩ := by rw [hs.out]; unfold whatS; rw [hb]; rfl
    rcases isK_no hb with h1 | ⟨h1, h2⟩
    · go_enter Tryd.func33, Tryd.ntmps33
      go_wp2
      go_ret
      exact ⟨rfl, Below.refl _ _⟩
    · go_enter Tryd.func33, Tryd.ntmps33
      go_wp2
      go_ret
      exact ⟨rfl, Below.refl _ _⟩
  · obtain rfl : s = whB k.toNat := by rw [hs.out]; unfold whatS; rw [hb]; rfl
    obtain ⟨m, rfl, h1, h2⟩ := isK_yes hb
    rw [Int.toNat_natCast]
    have h3 : ¬ (m : Int) < 1 := by omega
    have h4 : ¬ 12 < (m : Int) := by omega
    have h5 : (m : Int) < 13 := by omega
    have h6 : (0 : Int) ≤ (m : Int) := by omega
    have HC := Lib.hid (sRow_cell (block_new w (.cells (sRow whB) 72)) m h2)
    have HB : Hid (Below w.heap.size w (w.alloc (.cells (sRow whB) 72))) := (Below.refl _ _).alloc (Nat.le_refl _) _
    obtain ⟨z, hz⟩ : ∃ z, z = whB m := ⟨_, rfl⟩
    rw [← hz] at HC ⊢
    clear hb hs h1 h2 hz
    go_enter Tryd.func33, Tryd.ntmps33
    go_upto_region 4 with fail
    have c1 := HC.out
    simp only [sRow, whB] at c1 HB
    generalize w.alloc _ = W1 at c1 HB ⊢
    clear HC
    go_wp2
    go_ret
    exact ⟨rfl, HB.out⟩
/-- Does a kind ask for a letter? -/
def askB (k c : Int) : Bool := (Id.sb (whatS k)).any fun x => (x == c)
theorem any_drop (l : List Int) (i : Nat) (h : i < l.length) (c : Int) : (l.drop i).any (fun x => (x == c)) = ((l.getD i 0 == c) || (l.drop (i + 1)).any (fun x => (x == c))) := by
  rw [List.drop_eq_getElem_cons h, List.any_cons, List.getD_eq_getElem?_getD, List.getElem?_eq_getElem h]
  rfl
theorem whB_len (k : Nat) : (whB k).size ≤ 4 := by unfold whB; split <;> decide
theorem what_len (k : Int) : (whatS k).size ≤ 4 := by
  unfold whatS; split
  · exact whB_len _
  · decide
set_option maxRecDepth 100000 in
set_option maxHeartbeats 4000000 in
theorem asks_any (w : World) (k c : Int) {r : Bool} (hr : Hid (r = askB k c)) : Calls Tryd.prog 34 #[.int .i64 k, .int .u8 c] w fun e w' => e = .returned (.bool r) ∧ Below w.heap.size w w' := by
  obtain ⟨s, hs⟩ : ∃ s, s = whatS k := ⟨_, rfl⟩
  have HW := Lib.hid fun W => what_any W k (Lib.hid hs)
  have hl : s.size ≤ 4 := by rw [hs]; exact what_len k
  have HR : Hid (r = (Id.sb s).any fun x => (x == c)) := by show _ = _; rw [hr.out]; unfold askB; rw [hs]
  clear hr hs
  go_enter Tryd.func34, Tryd.ntmps34
  go_wp2_with (go_at_call 33; (with_reducible refine (HW.out _).mono ?_); rintro e w1 ⟨rfl, hb⟩; have HB := Lib.hid hb; clear hb)
  go_loopg [6] s.size (fun (gh : Nat) si wx => ∃ i : Nat, gh = s.size - i ∧ i ≤ s.size ∧ si = .int .i64 (i : Int) ∧ wx = w1 ∧ Hid (r = ((Id.sb s).drop i).any fun x => (x == c)))
  case atStart => exact ⟨0, rfl, Nat.zero_le _, rfl, rfl, by show _ = _; rw [HR.out, List.drop_zero]⟩
  case round =>
    obtain ⟨i, rfl, hi, rfl, rfl, hinv⟩ := hrel
    by_cases hlt : i < s.size
    · have t1 : (i : Int) < (s.size : Int) := by omega
      have t2 : (0 : Int) ≤ (i : Int) := by omega
      have hlen : i < (Id.sb s).length := by rw [Id.sb_len]; exact hlt
      have hinv2 := any_drop (Id.sb s) i hlen c
      obtain ⟨x, hx⟩ : ∃ x, x = (Id.sb s).getD i 0 := ⟨_, rfl⟩
      have hix := Id.sb_get s i hlt
      rw [← hx] at hix hinv2
      obtain ⟨b, hbq⟩ : ∃ b, (x == c) = b := ⟨_, rfl⟩
      rw [hbq] at hinv2
      have HD : Hid (r = (b || ((Id.sb s).drop (i + 1)).any fun x => (x == c))) := by show _ = _; rw [hinv.out, hinv2]
      clear hinv hinv2 hx hlen
      cases b
      · have HD' : Hid (r = ((Id.sb s).drop (i + 1)).any fun x => (x == c)) := HD
        clear HD
        go_wp2
        go_roundg (s.size - (i + 1))
        case measure => omega
        case rel => exact ⟨i + 1, rfl, hlt, by go_num, rfl, HD'⟩
      · obtain rfl : r = true := HD.out
        go_wp2
        go_ret
        exact ⟨rfl, HB.out⟩
    · have : i = s.size := by omega
      subst this
      have : r = false := by
        rw [hinv.out, List.drop_eq_nil_of_le (by rw [Id.sb_len]; exact Nat.le_refl _)]; rfl
      subst this
      clear hinv
      go_wp2
      go_ret
      exact ⟨rfl, HB.out⟩
/-- Is it a message? -/
def isM (k : Int) : Bool := decide (9 ≤ k) && decide (k ≤ 12)
set_option maxRecDepth 100000 in
theorem message_any (w : World) (x : Nt) (A : Option Addr) (n c : Nat) {r : Bool} (hr : Hid (r = isM x.k)) : Calls Tryd.prog 12 #[.agg #[.int .i64 x.k, .int .i64 x.p, .int .i64 x.d, .int .i64 x.t.n, .string x.t.b, .string x.t.s, .string x.t.i, .int .i64 x.t.q, .int .i64 x.t.p, .string x.n, .int .i64 x.a, .slice A n c, .int .i64 x.hi, .int .u64 x.lo]] w fun e w' => e = .returned (.bool r) ∧ Below w.heap.size w w' := by
  have h0 := (blk14 (block_new w (.cells #[.int .i64 x.k, .int .i64 x.p, .int .i64 x.d, .int .i64 x.t.n, .string x.t.b, .string x.t.s, .string x.t.i, .int .i64 x.t.q, .int .i64 x.t.p, .string x.n, .int .i64 x.a, .slice A n c, .int .i64 x.hi, .int .u64 x.lo] 33))).1.1
  have HB : Hid (Below w.heap.size w (w.alloc (.cells #[.int .i64 x.k, .int .i64 x.p, .int .i64 x.d, .int .i64 x.t.n, .string x.t.b, .string x.t.s, .string x.t.i, .int .i64 x.t.q, .int .i64 x.t.p, .string x.n, .int .i64 x.a, .slice A n c, .int .i64 x.hi, .int .u64 x.lo] 33))) := (Below.refl _ _).alloc (Nat.le_refl _) _
  obtain ⟨b1, h1⟩ : ∃ b, decide (9 ≤ x.k) = b := ⟨_, rfl⟩
  obtain ⟨b2, h2⟩ : ∃ b, decide (x.k ≤ 12) = b := ⟨_, rfl⟩
  have HR : Hid (r = (b1 && b2)) := by show _ = _; rw [hr.out]; unfold isM; rw [h1, h2]
  clear hr
  cases b1
  · have e1 := of_decide_eq_false h1
    obtain rfl : r = false := HR.out
    go_enter Tryd.func12, Tryd.ntmps12
    go_wp2
    go_ret
    exact ⟨rfl, HB.out⟩
  · have e1 := of_decide_eq_true h1
    obtain rfl : r = b2 := HR.out
    go_enter Tryd.func12, Tryd.ntmps12
    go_wp2
    go_ret
    exact ⟨rfl, HB.out⟩
set_option maxRecDepth 100000 in
set_option maxHeartbeats 4000000 in
theorem rword_any (w : World) (k : Int) {s : ByteArray} (hs : Hid (s = wordB k)) : Calls Tryd.prog 14 #[.int .i64 k] w fun e w' => e = .returned (.string s) ∧ Below w.heap.size w w' := by
  have hbl := block_new w (.cells (sRow kwB) 72)
  have HB : Hid (Below w.heap.size w (w.alloc (.cells (sRow kwB) 72))) := (Below.refl _ _).alloc (Nat.le_refl _) _
  by_cases h1 : k < 0
  · obtain rfl : s = ⟨#[]⟩ := by rw [hs.out]; unfold wordB isK; rw [if_neg (by simp; omega)]
    clear hbl hs
    simp only [sRow, kwB] at HB
    go_enter Tryd.func14, Tryd.ntmps14
    go_wp2
    go_ret
    exact ⟨rfl, HB.out⟩
  · by_cases h2 : 12 < k
    · obtain rfl : s = ⟨#[]⟩ := by rw [hs.out]; unfold wordB isK; rw [if_neg (by simp; omega)]
      clear hbl hs
      simp only [sRow, kwB] at HB
      go_enter Tryd.func14, Tryd.ntmps14
      go_wp2
      go_ret
      exact ⟨rfl, HB.out⟩
    · obtain ⟨m, rfl⟩ : ∃ m : Nat, k = (m : Int) := ⟨k.toNat, by omega⟩
      have hm : m ≤ 12 := by omega
      have hz : s = kwB m := by
        rw [hs.out]; unfold wordB
        by_cases h : isK (m : Int) = true
        · rw [if_pos h, Int.toNat_natCast]
        · rw [if_neg h]
          have : m = 0 := by
            simp only [isK, Bool.and_eq_true, decide_eq_true_eq] at h; omega
          subst this; rfl
      have c1 := sRow_cell hbl m hm
      rw [← hz] at c1
      have h5 : (m : Int) < 13 := by omega
      have h6 : (0 : Int) ≤ (m : Int) := by omega
      clear hz hs hbl hm
      simp only [sRow, kwB] at HB c1
      go_enter Tryd.func14, Tryd.ntmps14
      go_wp2
      go_ret
      exact ⟨rfl, HB.out⟩
end Go.Proofs.YteahloddjekakaaDoor.Nt
