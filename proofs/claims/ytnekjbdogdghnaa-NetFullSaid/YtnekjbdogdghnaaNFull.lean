/-
  The law NetFull answers true: its walk. Conditions: none.
-/
import Derived.Test.YtnekjbdogdghnaaNNil
namespace Go.Proofs.Ytnekjbdogdghnaa.Ne
open Go.RowKit Go.Conc Bx
open Fr (BAt bok bv)

theorem sfr_byte (n0 : Nat) (w : World) (x : Int) (hx : 0 ≤ x ∧ x < 256) : SFr n0 ((w.alloc (.cells #[.int .u8 x] 5)).alloc (.cells #[.slice (some ⟨w.heap.size, 0, none⟩) 1 1] 37)) (.slice (some ⟨w.heap.size + 1, 0, none⟩) 1 1) [[x]] := by
  have := sfr_one (n0 := n0) (bfr_one (n0 := n0) (block_new w (.cells #[.int .u8 x] 5)) hx)
  rwa [World.size_alloc] at this
theorem sfr_nils (n0 : Nat) (w : World) : SFr n0 (w.alloc (.cells #[.slice none 0 0, .slice none 0 0] 37)) (.slice (some ⟨w.heap.size, 0, none⟩) 2 2) [[], []] := by
  have b0 := block_new w (.cells #[.slice none 0 0, .slice none 0 0] 37)
  have hn : BFr n0 (w.alloc (.cells #[.slice none 0 0, .slice none 0 0] 37)) (.slice none 0 0) [] := ⟨none, 0, rfl, Nat.le_refl _, fun _ h => absurd h List.not_mem_nil, fun h => absurd h (by decide)⟩
  refine ⟨_, _, rfl, by simp, fun _ => ⟨_, 0, rfl, free_new b0 (.inr rfl), fun i m hl => ?_⟩⟩
  obtain ⟨⟨c0, c1⟩, _⟩ := block_cell2 b0
  match i, hl with
  | 0, hl => cases hl; exact ⟨_, c0, hn⟩
  | 1, hl => cases hl; exact ⟨_, c1, hn⟩
  | i + 2, hl => simp at hl
/-- What is known behind j sends. -/
def FS (w W : World) (R j : Nat) : Prop := ∃ g cp arr bs l, l.length = min j R ∧ NetB w.heap.size W w.heap.size R [[], [], l] ((j - R : Nat) : Int) g cp arr bs
theorem FS.new {w W : World} {R g cp : Nat} {arr : Array Value} {bs : List (Nat × Nat)} (h : NetB w.heap.size W w.heap.size R (List.replicate 3 []) 0 g cp arr bs) : FS w W R 0 :=
  ⟨g, cp, arr, bs, [], by simp, by rw [Nat.zero_sub]; exact h⟩
theorem FS.below {w W W' : World} {R j : Nat} (h : FS w W R j) (hb : Below W.heap.size W W') : FS w W' R j := by
  obtain ⟨g, cp, arr, bs, l, h1, h2⟩ := h
  exact ⟨g, cp, arr, bs, l, h1, h2.below hb⟩
theorem FS.send {w W : World} {R j : Nat} (h : FS w W R j) (hj : j < 40) (x : Int) (hx : 0 ≤ x ∧ x < 256) : Calls Try.prog 12 #[.pointer (some ⟨w.heap.size, 0, none⟩), .int .i64 2, .slice (some ⟨W.heap.size + 1, 0, none⟩) 1 1] ((W.alloc (.cells #[.int .u8 x] 5)).alloc (.cells #[.slice (some ⟨W.heap.size, 0, none⟩) 1 1] 37)) fun e w' => e = .returned (.int .i64 (if j < R then 1 else 0)) ∧ FS w w' R (j + 1) ∧ Ch w.heap.size W w' := by
  obtain ⟨g, cp, arr, bs, l, h1, h2⟩ := h
  have hb : Below W.heap.size W ((W.alloc (.cells #[.int .u8 x] 5)).alloc (.cells #[.slice (some ⟨W.heap.size, 0, none⟩) 1 1] 37)) := ((Below.refl _ _).alloc (Nat.le_refl _) _).alloc (by simp) _
  have e1 : sendN R [[], [], l] 2 1 = if j < R then 1 else 0 := by
    show sendK R l 1 = _
    unfold sendK
    rw [h1]
    split <;> omega
  have e2 : sendL R [[], [], l] 2 [[x]] = [[], [], l ++ news ([[x]].take (sendK R l 1))] := rfl
  have := nSend_any (h2.below hb) 2 _ 1 1 [[x]] rfl (sfr_byte _ _ x hx) (by omega) (by omega) (by omega)
  rw [e1, e2] at this
  refine this.mono fun e w' ⟨k1, k2, k3⟩ => ⟨?_, ⟨g, cp, arr, bs, l ++ news ([[x]].take (sendK R l 1)), ?_, ?_⟩, (Ch.of_below hb).trans k3⟩
  · rw [k1]; split <;> rfl
  · simp only [List.length_append, news, List.length_map, List.length_take, List.length_singleton]
    unfold sendK
    omega
  · have e3 : (((j - R : Nat) : Int) + (((1 : Nat) : Int) - ((if j < R then 1 else 0 : Nat) : Int))) = ((j + 1 - R : Nat) : Int) := by split <;> omega
    rw [e3] at k2
    exact k2
theorem FS.len {w W : World} {R j : Nat} (h : FS w W R j) : Calls Try.prog 26 #[.pointer (some ⟨w.heap.size, 0, none⟩), .int .i64 2] W fun e w' => e = .returned (.int .i64 ((min R j : Nat) : Int)) ∧ Below W.heap.size W w' := by
  obtain ⟨g, cp, arr, bs, l, h1, h2⟩ := h
  have := nLen_yes h2 (i := 2) (l := l) rfl
  rwa [h1, Nat.min_comm] at this
theorem FS.lost {w W : World} {R j : Nat} (h : FS w W R j) : Calls Try.prog 27 #[.pointer (some ⟨w.heap.size, 0, none⟩)] W fun e w' => e = .returned (.int .i64 ((j - R : Nat) : Int)) ∧ W = w' := by
  obtain ⟨g, cp, arr, bs, l, h1, h2⟩ := h
  exact lost_any h2
theorem FS.double {w W : World} {R j : Nat} (h : FS w W R j) (hR : 1 ≤ R) (hj : R ≤ j) : Calls Try.prog 20 #[.pointer (some ⟨w.heap.size, 0, none⟩), .int .i64 2] W fun e w' => e = .returned (.int .i64 7) ∧ FS w w' R j ∧ Ch w.heap.size W w' := by
  obtain ⟨g, cp, arr, bs, l, h1, h2⟩ := h
  obtain _ | ⟨x, r⟩ := l
  · simp at h1; omega
  have hl : R ≤ (x :: r).length := by omega
  have e1 : dblE R [[], [], x :: r] 2 = 7 := by
    show (if R ≤ (x :: r).length then (7 : Int) else 0) = 7
    rw [if_pos hl]
  have e2 : dblL R [[], [], x :: r] 2 = [[], [], x :: r] := by
    unfold dblL
    rw [show wayF [[], [], x :: r] 2 = some (x :: r) from rfl]
    simp only [if_pos hl]
  have := double_any h2 2
  rw [e1, e2] at this
  exact this.mono fun e w' ⟨k1, k2, k3⟩ => ⟨k1, ⟨g, cp, arr, bs, x :: r, h1, k2⟩, k3⟩
theorem FS.nowhere {w W : World} {R j : Nat} (h : FS w W R j) (hj : j ≤ 40) : Calls Try.prog 12 #[.pointer (some ⟨w.heap.size, 0, none⟩), .int .i64 3, .slice (some ⟨W.heap.size, 0, none⟩) 2 2] (W.alloc (.cells #[.slice none 0 0, .slice none 0 0] 37)) fun e w' => e = .returned (.int .i64 0) ∧ (∃ ls g cp arr bs, NetB w.heap.size w' w.heap.size R ls (((j - R : Nat) : Int) + 2) g cp arr bs) ∧ Ch w.heap.size W w' := by
  obtain ⟨g, cp, arr, bs, l, h1, h2⟩ := h
  have hb : Below W.heap.size W (W.alloc (.cells #[.slice none 0 0, .slice none 0 0] 37)) := (Below.refl _ _).alloc (Nat.le_refl _) _
  have := nSend_any (h2.below hb) 3 _ 2 2 [[], []] rfl (sfr_nils _ _) (by omega) (by omega) (by omega)
  exact this.mono fun e w' ⟨k1, k2, k3⟩ => ⟨k1, ⟨_, g, cp, arr, bs, k2⟩, (Ch.of_below hb).trans k3⟩
set_option maxRecDepth 100000 in
set_option maxHeartbeats 8000000 in
theorem law_full (w : World) (x y : Int) : Calls Try.prog 5 #[.int .i64 x, .int .i64 y] w fun e w' => e = .returned (.bool true) ∧ Below w.heap.size w w' := by
  have hx : 0 ≤ (IntKind.u64.wrap x).tmod 40 ∧ (IntKind.u64.wrap x).tmod 40 ≤ 39 := by
    have h1 : 0 ≤ IntKind.u64.wrap x := by rw [IntKind.wrap_u64]; omega
    rw [Int.tmod_eq_emod_of_nonneg h1]; omega
  obtain ⟨a, ha⟩ : ∃ a : Nat, (IntKind.u64.wrap x).tmod 40 = (a : Int) := ⟨((IntKind.u64.wrap x).tmod 40).toNat, by omega⟩
  have hy : 0 ≤ (IntKind.u64.wrap y).tmod 40 ∧ (IntKind.u64.wrap y).tmod 40 ≤ 39 := by
    have h1 : 0 ≤ IntKind.u64.wrap y := by rw [IntKind.wrap_u64]; omega
    rw [Int.tmod_eq_emod_of_nonneg h1]; omega
  obtain ⟨m, hm⟩ : ∃ m : Nat, (IntKind.u64.wrap y).tmod 40 = (m : Int) := ⟨((IntKind.u64.wrap y).tmod 40).toNat, by omega⟩
  have e1 : IntKind.i64.wrap (a : Int) = (a : Int) := by rw [IntKind.wrap_i64]; omega
  have e2 : IntKind.i64.wrap (m : Int) = (m : Int) := by rw [IntKind.wrap_i64]; omega
  obtain ⟨R, hR⟩ : ∃ R, R = a + 1 := ⟨_, rfl⟩
  have e3 : IntKind.i64.wrap (1 + (a : Int)) = (R : Int) := by rw [IntKind.wrap_i64]; omega
  have HRM : Hid (1 ≤ R ∧ R ≤ 40 ∧ m ≤ 39) := by refine ⟨?_, ?_, ?_⟩ <;> omega
  have CN : Hid (Calls Try.prog 8 #[.int .i64 3, .int .i64 (R : Int)] w fun e w' => e = .returned (.tuple #[.pointer (some ⟨w.heap.size, 0, none⟩), .int .i64 0]) ∧ (∃ g cp arr bs, NetB w.heap.size w' w.heap.size R (List.replicate 3 []) 0 g cp arr bs) ∧ Below w.heap.size w w') := nNew_any w 3 R (by omega) (by omega) (by omega) (by omega)
  clear hx hy hR
  go_enter Try.func5, Try.ntmps5
  go_wp2_with (first
    | (go_at_call 8; (with_reducible refine CN.out.mono ?_); rintro e w1 ⟨rfl, ⟨g, cp, arr, bs, n1⟩, k1⟩
       have F1 := Lib.hid (FS.new n1)
       have K1 := Lib.hid k1
       clear n1 k1))
  go_loopg [7] m (fun (gh : Nat) s7 wx => ∃ j : Nat, gh = m - j ∧ j ≤ m ∧ s7 = .int .i64 (j : Int) ∧ Hid (FS w wx R j) ∧ Hid (Ch w.heap.size w1 wx))
  case atStart => exact ⟨0, rfl, Nat.zero_le _, rfl, F1, Ch.refl _ _⟩
  case round =>
    clear F1 CN
    obtain ⟨j, rfl, hj, rfl, HF, HC⟩ := hrel
    by_cases hlt : j < m
    · have t1 : (j : Int) < (m : Int) := by omega
      have hm40 := HRM.out
      have e4 : IntKind.u8.wrap (j : Int) = (j : Int) := by rw [IntKind.wrap_u8]; omega
      have e5 : IntKind.i64.wrap ((j : Int) - (R : Int)) = (j : Int) - (R : Int) := by rw [IntKind.wrap_i64]; omega
      have e6 : IntKind.i64.wrap ((j : Int) - (R : Int) + 1) = (j : Int) - (R : Int) + 1 := by rw [IntKind.wrap_i64]; omega
      have e7 : IntKind.i64.wrap ((j : Int) + 1) = ((j + 1 : Nat) : Int) := by rw [IntKind.wrap_i64]; omega
      have HS := Lib.hid (HF.out.send (by omega) (j : Int) (by omega))
      by_cases hr : j < R
      · rw [if_pos hr] at HS
        have e8 : max ((j : Int) - (R : Int) + 1) 0 = 0 := by omega
        have e8b : (if (j : Int) - (R : Int) + 1 < 0 then (0 : Int) else (j : Int) - (R : Int) + 1) = 0 := by split <;> omega
        clear hr hm40
        go_wp2_with (first
          | (go_at_call 12; (with_reducible refine HS.out.mono ?_); rintro e w2 ⟨rfl, f2, c2⟩; have F2 := Lib.hid f2; have C2 := Lib.hid c2; clear f2 c2))
        go_roundg (m - (j + 1))
        case measure => omega
        case rel => exact ⟨j + 1, rfl, hlt, by first | rfl | go_num, F2, HC.out.trans C2.out⟩
      · rw [if_neg hr] at HS
        have e8 : max ((j : Int) - (R : Int) + 1) 0 = (j : Int) - (R : Int) + 1 := by omega
        have e9 : min ((j : Int) - (R : Int) + 1) 1 = 1 := by omega
        have e9b : (if (1 : Int) < (j : Int) - (R : Int) + 1 then (1 : Int) else (j : Int) - (R : Int) + 1) = 1 := by split <;> omega
        have e9c : (if (j : Int) - (R : Int) + 1 < 1 then (j : Int) - (R : Int) + 1 else (1 : Int)) = 1 := by split <;> omega
        clear hr hm40
        go_wp2_with (first
          | (go_at_call 12; (with_reducible refine HS.out.mono ?_); rintro e w2 ⟨rfl, f2, c2⟩; have F2 := Lib.hid f2; have C2 := Lib.hid c2; clear f2 c2))
        go_roundg (m - (j + 1))
        case measure => omega
        case rel => exact ⟨j + 1, rfl, hlt, by first | rfl | go_num, F2, HC.out.trans C2.out⟩
    · obtain rfl : j = m := by omega
      have t1 : ¬ (j : Int) < (j : Int) := by omega
      have hm40 := HRM.out
      have e5 : IntKind.i64.wrap ((j : Int) - (R : Int)) = (j : Int) - (R : Int) := by rw [IntKind.wrap_i64]; omega
      have HD := HF
      have KE : ∀ W, Ch w.heap.size w1 W → Below w.heap.size w W := fun W hW => K1.out.trans (hW.below K1.out.size)
      have KEH := Lib.hid KE
      clear KE
      have H0 : Hid (∀ W, FS w W R j → Calls Try.prog 12 #[.pointer (some ⟨w.heap.size, 0, none⟩), .int .i64 3, .slice (some ⟨W.heap.size, 0, none⟩) 2 2] (W.alloc (.cells #[.slice none 0 0, .slice none 0 0] 37)) fun e w' => e = .returned (.int .i64 0) ∧ (∃ ls g cp arr bs, NetB w.heap.size w' w.heap.size R ls (((j - R : Nat) : Int) + 2) g cp arr bs) ∧ Ch w.heap.size W w') := fun W hW => hW.nowhere (by omega)
      have HL : Hid (∀ W, FS w W R j → Calls Try.prog 26 #[.pointer (some ⟨w.heap.size, 0, none⟩), .int .i64 2] W fun e w' => e = .returned (.int .i64 ((min R j : Nat) : Int)) ∧ Below W.heap.size W w') := fun W hW => hW.len
      have HO : Hid (∀ W, FS w W R j → Calls Try.prog 27 #[.pointer (some ⟨w.heap.size, 0, none⟩)] W fun e w' => e = .returned (.int .i64 ((j - R : Nat) : Int)) ∧ W = w') := fun W hW => hW.lost
      by_cases hr : j < R
      · have t2 : (j : Int) < (R : Int) := by omega
        rw [show min R j = j by omega] at HL
        rw [show j - R = 0 by omega] at HO H0
        have e6 : min (R : Int) (j : Int) = (j : Int) := by omega
        have e6b : (if (j : Int) < (R : Int) then (j : Int) else (R : Int)) = (j : Int) := by rw [if_pos t2]
        have e7 : max ((j : Int) - (R : Int)) 0 = 0 := by omega
        have e7b : (if (j : Int) - (R : Int) < 0 then (0 : Int) else (j : Int) - (R : Int)) = 0 := by rw [if_pos (by omega)]
        clear hr hm40
        go_wp2_with (first
          | (go_at_call 27; obtain ⟨ls5, g5, cp5, arr5, bs5, n5⟩ := N5.out; refine (lost_any n5).mono ?_; rintro e w6 ⟨rfl, rfl⟩; clear n5)
          | (go_at_call 12; (with_reducible refine (H0.out _ F4.out).mono ?_); rintro e w5 ⟨rfl, n5, c5⟩; have N5 := Lib.hid n5; have C5 := Lib.hid c5; clear n5 c5)
          | (go_at_call 27; (with_reducible refine (HO.out _ F3.out).mono ?_); rintro e w4 ⟨rfl, rfl⟩; have F4 := F3)
          | (go_at_call 26; (with_reducible refine (HL.out _ F2.out).mono ?_); rintro e w3 ⟨rfl, k3⟩; have F3 := Lib.hid (F2.out.below k3); have C3 : Hid (Ch w.heap.size w1 w3) := C2.out.trans (.of_below k3); clear k3)
          | (go_at_call 10; refine (known_any _).mono ?_; rintro e w2 ⟨rfl, k2⟩; have F2 := Lib.hid (HF.out.below k2); have C2 : Hid (Ch w.heap.size w1 w2) := HC.out.trans (.of_below k2); clear k2))
        go_ret
        exact ⟨rfl, KEH.out _ (C3.out.trans C5.out)⟩
      · have t2 : ¬ (j : Int) < (R : Int) := by omega
        have HDB : Hid (∀ W, FS w W R j → Calls Try.prog 20 #[.pointer (some ⟨w.heap.size, 0, none⟩), .int .i64 2] W fun e w' => e = .returned (.int .i64 7) ∧ FS w w' R j ∧ Ch w.heap.size W w') := fun W hW => hW.double hm40.1 (by omega)
        rw [show min R j = R by omega] at HL
        rw [show ((j - R : Nat) : Int) = (j : Int) - (R : Int) by omega] at HO H0
        have e6 : min (R : Int) (j : Int) = (R : Int) := by omega
        have e6b : (if (j : Int) < (R : Int) then (j : Int) else (R : Int)) = (R : Int) := by rw [if_neg t2]
        have e7 : max ((j : Int) - (R : Int)) 0 = (j : Int) - (R : Int) := by omega
        have e7b : (if (j : Int) - (R : Int) < 0 then (0 : Int) else (j : Int) - (R : Int)) = (j : Int) - (R : Int) := by rw [if_neg (by omega)]
        have e8 : IntKind.i64.wrap ((j : Int) - (R : Int) + 2) = (j : Int) - (R : Int) + 2 := by rw [IntKind.wrap_i64]; omega
        clear hr hm40
        go_wp2_with (first
          | (go_at_call 27; obtain ⟨ls5, g5, cp5, arr5, bs5, n5⟩ := N5.out; refine (lost_any n5).mono ?_; rintro e w6 ⟨rfl, rfl⟩; clear n5)
          | (go_at_call 12; (with_reducible refine (H0.out _ F5.out).mono ?_); rintro e w5 ⟨rfl, n5, c5⟩; have N5 := Lib.hid n5; have C5 := Lib.hid c5; clear n5 c5)
          | (go_at_call 20; (with_reducible refine (HDB.out _ F4.out).mono ?_); rintro e w5 ⟨rfl, f5, c5⟩; have F5 := Lib.hid f5; have C4 := Lib.hid c5; clear f5 c5)
          | (go_at_call 27; (with_reducible refine (HO.out _ F3.out).mono ?_); rintro e w4 ⟨rfl, rfl⟩; have F4 := F3)
          | (go_at_call 26; (with_reducible refine (HL.out _ F2.out).mono ?_); rintro e w3 ⟨rfl, k3⟩; have F3 := Lib.hid (F2.out.below k3); have C3 : Hid (Ch w.heap.size w1 w3) := C2.out.trans (.of_below k3); clear k3)
          | (go_at_call 10; refine (known_any _).mono ?_; rintro e w2 ⟨rfl, k2⟩; have F2 := Lib.hid (HF.out.below k2); have C2 : Hid (Ch w.heap.size w1 w2) := HC.out.trans (.of_below k2); clear k2))
        go_ret
        exact ⟨rfl, KEH.out _ ((C3.out.trans C4.out).trans C5.out)⟩
end Go.Proofs.Ytnekjbdogdghnaa.Ne
