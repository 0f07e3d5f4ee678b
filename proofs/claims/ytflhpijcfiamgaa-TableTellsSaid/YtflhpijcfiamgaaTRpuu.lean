/-
  The contract of the reference's Put, whatever the table holds. Conditions: at most a thousand rows; a table of one's own.
-/
import Derived.Test.YtflhpijcfiamgaaTRput
namespace Go.Proofs.Ytflhpijcfiamgaa.Tb.Rf
open Go.RowKit
open Ii (cells cells_len cells_get cells_one cells_append cells_cons cells_inv getL)
theorem own_cap {base : Nat} {w : World} {e : TypeId} {size n g cap : Nat} {xs : List Value} (h : w.ownsRow base e size (.slice (some ⟨g, 0, none⟩) n cap) n xs) : n ≤ cap := by
  rcases h.2 with ⟨h, _⟩ | ⟨g', cap', cur, h', _, _, h1, h2, _⟩
  · simp at h
  · simp only [Value.slice.injEq] at h'
    obtain ⟨_, _, rfl⟩ := h'
    exact h1
set_option maxRecDepth 100000 in
set_option maxHeartbeats 4000000 in
theorem put_nil (base : Nat) (w : World) (b : Nat) (k v : Int) (hT : TabV base w b (.slice none 0 0) []) (hbase : base ≤ w.heap.size) :
    Calls Try.prog 9 #[.pointer (some ⟨b, 0, none⟩), .int .i64 k, .int .i64 v] w fun e w' => e = .returned (.bool true) ∧ Changed base w b [(k, v)] w' := by
  obtain ⟨i0, hi0, hz0, hz1, hz2⟩ := info_parts rowI
  have HF : Hid (Calls Try.prog 39 #[.pointer (some ⟨b, 0, none⟩), .int .i64 k] w fun e w' => e = .returned (.tuple #[.int .i64 ((0 : Nat) : Int), .bool false]) ∧ Below w.heap.size w w') := place_any base w b _ [] k hT List.Pairwise.nil (Nat.zero_le _)
  have HT := Lib.hid hT
  have hlt := hT.2.1.lt
  clear hT
  go_enter Try.func9, Try.ntmps9
  go_wp2_with (first
    | (go_at_call 39; refine HF.out.mono ?_; rintro e w1 ⟨rfl, hb1⟩; have HB1 := Lib.hid hb1; have c1 := (((HT.out.below hb1).2.1)).cell; have z1 := hb1.size; have lb1 : b < w1.heap.size := Nat.lt_of_lt_of_le hlt z1; clear hb1)
    | (at_builtin; refine Lib.wpList_append_run _ rfl _ _ 28 28 rfl _ _ rfl rfl _ _ (app_nil _ _ g3 1 cp3 h3.out) ?_)
    | (at_builtin; refine wpList_append_own _ rfl _ _ 28 rfl w1.heap.size 53 i0 _ 2 16 Try.underlying28 hi0 hz0 hz1 hz2 rfl (by decide) _ _ _ rfl (O2.out.alloc _) ⟨w2.heap.size, 0, none⟩ 1 1 [.int .i64 k, .int .i64 v] rfl rfl (World.news_of_block (cs := #[.int .i64 k, .int .i64 v]) (t := 53) (fr := (0, 0)) (heap_alloc_new w2 _)) (cells_one [(k, v)]) (by unfold maxLen; omega) (by omega) (by (try simp); (try omega)) ?_; intro v3 w3 hown3 hg3 hnil3; obtain ⟨g3, cp3, rfl⟩ := (Go.Joins.ownsRow_forms hown3).resolve_left (fun h => absurd (hnil3.1 h.1).1 (by intro hh; cases hh)); have O3 := Lib.hid hown3; have h3 : Hid (1 ≤ cp3) := own_cap hown3; have K3 := Lib.hid ((B2.out.alloc z2 _).grown hg3 (by simp; omega) (fun x e => by cases e; omega)); clear hown3 hg3 hnil3; have c3 := ((HT.out.below K3.out).2.1).cell; have f3 := ((HT.out.below K3.out).2.1).frozen)
    | (at_builtin; refine Lib.wpList_append_run _ rfl _ _ 28 28 rfl _ _ rfl rfl _ _ (app_nil _ _ w1.heap.size 0 0 (Nat.le_refl _)) ?_; obtain ⟨w2, hw2⟩ : ∃ w2, w2 = w1.alloc (.cells #[] 53) := ⟨_, rfl⟩; have O2 := Lib.hid (World.ownsRow_made (size := 2) (e := 53) w1 #[] 0 (Nat.le_refl _) (Nat.zero_le _) rfl); have B2 := Lib.hid (HB1.out.alloc z1 (.cells #[] 53)); have z2 : w.heap.size ≤ (w1.alloc (.cells #[] 53)).heap.size ∧ w1.heap.size ≤ (w1.alloc (.cells #[] 53)).heap.size := by simp; omega
       rw [← hw2] at O2 B2 z2; rw [← hw2]; obtain ⟨z2, y2⟩ := z2; clear hw2))
  have FIN : Hid (Changed base w b [(k, v)] (w3.setCell ⟨b, 0, none⟩ (.slice (some ⟨g3, 0, none⟩) 1 cp3))) := put_fin (l := []) (l2 := [(k, v)]) (p := 0) (d := 0) HT.out trivial K3.out z1 (by simpa [cells] using O3.out) (Nat.le_refl _) (Nat.le_refl _) rfl hbase
  clear HT HF
  go_ret
  exact ⟨rfl, FIN.out⟩
theorem put_any (base : Nat) (w : World) (b : Nat) (sv : Value) (l : List R) (k v : Int) (hT : TabV base w b sv l) (ha : asc l) (hn : l.length ≤ 1000) (hbase : base ≤ w.heap.size) :
    Calls Try.prog 9 #[.pointer (some ⟨b, 0, none⟩), .int .i64 k, .int .i64 v] w fun e w' => e = .returned (.bool (!hasB l k)) ∧ Changed base w b (putL l k v) w' := by
  rcases Go.Joins.ownsRow_forms hT.2.2 with ⟨rfl, h0⟩ | ⟨g, cap, rfl⟩
  · have hl : l = [] := List.length_eq_zero_iff.1 h0
    subst hl
    exact put_nil base w b k v hT hbase
  · exact put_some base w b g cap l k v hT ha hn hbase
end Go.Proofs.Ytflhpijcfiamgaa.Tb.Rf
