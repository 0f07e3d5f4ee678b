/-
  A nil store's answers. Conditions: none.
-/
import Derived.Test.YtjijgoflbjbnfaaGreatVM14
namespace Go.Proofs.YtjijgoflbjbnfaaGreat.Sr
open Go.RowKit Fr

theorem nil_blk (w : World) : (w.alloc (blk nilS none)).heap[w.heap.size]? = some (blk nilS none) := block_new _ _
theorem nil_bel (w : World) : Below w.heap.size w (w.alloc (blk nilS none)) := (Below.refl _ _).alloc (Nat.le_refl _) _

set_option maxRecDepth 100000 in
theorem nil_arm (w : World) (n : Int) : Calls Tryz.prog 13 #[.pointer none, .int .i64 n] w fun e w' => e = .returned (.tuple #[]) ∧ Below w.heap.size w w' := by
  have HO := Lib.hid (orDown_nil w)
  have HA := Lib.hid (arm_any (w.alloc (blk nilS none)) w.heap.size nilS none n (nil_blk w))
  go_enter Tryz.func13, Tryz.ntmps13
  go_wp2_with (first
    | (go_at_call 35; (with_reducible refine HO.out.mono ?_); rintro e w' ⟨rfl, rfl⟩)
    | (go_at_call 36; (with_reducible refine HA.out.mono ?_); rintro e w2 ⟨rfl, h1⟩; have H1 := Lib.hid h1; clear h1))
  go_end0
  exact ⟨rfl, (nil_bel w).grown H1.out.2.1 (by simp) (fun i e => by cases e; exact Nat.le_refl _)⟩
set_option maxRecDepth 100000 in
theorem nil_revive (w : World) : Calls Tryz.prog 14 #[.pointer none] w fun e w' => e = .returned (.tuple #[]) ∧ Below w.heap.size w w' := by
  have HO := Lib.hid (orDown_nil w)
  obtain ⟨W, hW⟩ : ∃ W, W = w.alloc (blk nilS none) := ⟨_, rfl⟩
  have hb := nil_blk w
  have hl := nil_bel w
  rw [← hW] at HO hb hl
  obtain ⟨⟨c0, c1, c2, c3, c4, c5⟩, f0, f1, f2, f3, f4, f5⟩ := blk_cells hb
  have HL := Lib.hid hl
  clear hb hl hW
  go_enter Tryz.func14, Tryz.ntmps14
  go_wp2_with (go_at_call 35; (with_reducible refine HO.out.mono ?_); rintro e w' ⟨rfl, rfl⟩)
  go_end0
  exact ⟨rfl, ((HL.out.setCell (Nat.le_refl _) _).setCell (Nat.le_refl _) _).setCell (Nat.le_refl _) _⟩
set_option maxRecDepth 100000 in
theorem nil_down (w : World) : Calls Tryz.prog 48 #[.pointer none] w fun e w' => e = .returned (.bool true) ∧ Below w.heap.size w w' := by
  have HO := Lib.hid (orDown_nil w)
  have hs : Calls Tryz.prog 45 #[.pointer (some ⟨w.heap.size, 0, none⟩)] (w.alloc (blk nilS none)) fun e w' => e = .returned (.int .i64 14) ∧ w.alloc (blk nilS none) = w' := state_any (w.alloc (blk nilS none)) w.heap.size nilS none (nil_blk w)
  have HS := Lib.hid hs
  clear hs
  go_enter Tryz.func48, Tryz.ntmps48
  go_wp2_with (first
    | (go_at_call 35; (with_reducible refine HO.out.mono ?_); rintro e w' ⟨rfl, rfl⟩)
    | (go_at_call 45; (with_reducible refine HS.out.mono ?_); rintro e w' ⟨rfl, rfl⟩))
  go_ret
  exact ⟨rfl, nil_bel w⟩
set_option maxRecDepth 100000 in
theorem nil_room (w : World) : Calls Tryz.prog 32 #[.pointer none] w fun e w' => e = .returned (.int .i64 0) ∧ Below w.heap.size w w' := by
  have HO := Lib.hid (orDown_nil w)
  have c3 : (w.alloc (blk nilS none)).cell? ⟨w.heap.size, 3, none⟩ = some (.int .i64 0) := (blk_cells (nil_blk w)).1.2.2.2.1
  have hl := nil_bel w
  generalize w.alloc (blk nilS none) = W at HO c3 hl
  have HL := Lib.hid hl
  clear hl
  go_enter Tryz.func32, Tryz.ntmps32
  go_wp2_with (go_at_call 35; (with_reducible refine HO.out.mono ?_); rintro e w' ⟨rfl, rfl⟩)
  go_ret
  exact ⟨rfl, HL.out⟩
set_option maxRecDepth 100000 in
theorem nil_used (w : World) : Calls Tryz.prog 21 #[.pointer none] w fun e w' => e = .returned (.int .i64 0) ∧ Below w.heap.size w w' := by
  have HO := Lib.hid (orDown_nil w)
  have c4 : (w.alloc (blk nilS none)).cell? ⟨w.heap.size, 4, none⟩ = some (.int .i64 0) := (blk_cells (nil_blk w)).1.2.2.2.2.1
  have hl := nil_bel w
  generalize w.alloc (blk nilS none) = W at HO c4 hl
  have HL := Lib.hid hl
  clear hl
  go_enter Tryz.func21, Tryz.ntmps21
  go_wp2_with (go_at_call 35; (with_reducible refine HO.out.mono ?_); rintro e w' ⟨rfl, rfl⟩)
  go_ret
  exact ⟨rfl, HL.out⟩
set_option maxRecDepth 100000 in
theorem clone_nil (w : World) (n c : Nat) : Calls Tryz.prog 38 #[.slice none n c] w fun e w' => e = .returned (.slice none 0 0) ∧ w = w' := by
  have q22 : ∀ (w : World) (a : Option Addr) (n c n' c' : Nat), (binOp .eql 32 (.slice a n c) (.slice none n' c')).run Tryz.prog w = .ok (.bool a.isNone) w := fun w a n c n' c' => Lib.run_eql_slice_nil w _ _ a n c n' c' Tryz.underlying32
  go_enter Tryz.func38, Tryz.ntmps38
  go_wp2
  go_ret
  exact ⟨rfl, rfl⟩
set_option maxRecDepth 100000 in
theorem nil_read (w : World) (k : ByteArray) : Calls Tryz.prog 25 #[.pointer none, .string k] w fun e w' => e = .returned (.tuple #[.slice none 0 0, .bool false]) ∧ Below w.heap.size w w' := by
  have HO := Lib.hid (orDown_nil w)
  have c5 : (w.alloc (blk nilS none)).cell? ⟨w.heap.size, 5, none⟩ = some (.map none) := (blk_cells (nil_blk w)).1.2.2.2.2.2
  have hl := nil_bel w
  generalize w.alloc (blk nilS none) = W at HO c5 hl
  have hlk : (Instr.lookup 56 (.map none) (.string k) true).run Tryz.prog W = .ok (.tuple #[.slice none 0 0, .bool false]) W := lookup_run (w := W) (mb := none) (L := []) rfl k true
  have HC := Lib.hid (clone_nil W 0 0)
  have HL := Lib.hid hl
  clear hl
  go_enter Tryz.func25, Tryz.ntmps25
  go_wp2_with (first
    | (go_at_call 35; (with_reducible refine HO.out.mono ?_); rintro e w' ⟨rfl, rfl⟩)
    | (go_at_call 38; (with_reducible refine HC.out.mono ?_); rintro e w' ⟨rfl, rfl⟩))
  go_ret2
  exact ⟨rfl, HL.out⟩
set_option maxRecDepth 100000 in
theorem nil_ready (w : World) (v : Value) : Calls Tryz.prog 42 #[.pointer none, v] w fun e w' => e = .returned (.int .i64 14) ∧ Below w.heap.size w w' := by
  have HD := Lib.hid (nil_down w)
  go_enter Tryz.func42, Tryz.ntmps42
  go_wp2_with (go_at_call 48; (with_reducible refine HD.out.mono ?_); rintro e w1 ⟨rfl, hb1⟩; have HB1 := Lib.hid hb1; clear hb1)
  go_ret
  exact ⟨rfl, HB1.out⟩
set_option maxRecDepth 100000 in
theorem nil_append (w : World) (k : ByteArray) (v : Value) : Calls Tryz.prog 90 #[.pointer none, .string k, v] w fun e w' => e = .returned (.int .i64 14) ∧ Below w.heap.size w w' := by
  have hr := fun W v => nil_ready W v
  have HR := Lib.hid hr
  clear hr
  go_enter Tryz.func90, Tryz.ntmps90
  go_wp2_with (go_at_call 42; (with_reducible refine (HR.out _ _).mono ?_); rintro e w1 ⟨rfl, hb1⟩; have HB1 := Lib.hid hb1; clear hb1)
  go_ret
  exact ⟨rfl, ((Below.refl _ _).alloc (Nat.le_refl _) _).trans (HB1.out.mono (by simp))⟩
set_option maxRecDepth 100000 in
theorem nil_write (w : World) (k : ByteArray) (v : Value) : Calls Tryz.prog 23 #[.pointer none, .string k, v] w fun e w' => e = .returned (.int .i64 14) ∧ Below w.heap.size w w' := by
  have hr := fun W v => nil_ready W v
  have HR := Lib.hid hr
  clear hr
  go_enter Tryz.func23, Tryz.ntmps23
  go_wp2_with (go_at_call 42; (with_reducible refine (HR.out _ _).mono ?_); rintro e w1 ⟨rfl, hb1⟩; have HB1 := Lib.hid hb1; clear hb1)
  go_ret
  exact ⟨rfl, ((Below.refl _ _).alloc (Nat.le_refl _) _).trans (HB1.out.mono (by simp))⟩
/-- Slices of strings of which nothing is known but their form. -/
theorem str_append (w : World) (v : Value) (ns : List ByteArray) (h : w.ownsRow 0 9 1 v ns.length (sv ns)) (hn : ns.length ≤ 100) (k : ByteArray) :
    ∃ v' w', (Builtin.append_ #[79, 79] 79 #[v, .slice (some ⟨w.heap.size, 0, none⟩) 1 1]).run Tryz.prog (w.alloc (.cells #[.string k] 9)) = .ok v' w' ∧ w'.ownsRow 0 9 1 v' (ns ++ [k]).length (sv (ns ++ [k])) ∧ (w.alloc (.cells #[.string k] 9)).grownBy w' v.ownBlock := by
  obtain ⟨i0, hi0, hz0, hz1, hz2⟩ := info_parts strInf
  obtain ⟨v', w', h1, h2, h3, _⟩ := run_append_own (P := Tryz.prog) (w.alloc (.cells #[.string k] 9)) 0 79 79 9 i0 _ 1 16 Tryz.underlying79 hi0 hz0 hz1 hz2 rfl (by decide) v ns.length (sv ns) (h.alloc _) ⟨w.heap.size, 0, none⟩ 1 1 [.string k] rfl (World.news_of_block (cs := #[.string k]) (t := 9) (fr := (0, 0)) (heap_alloc_new _ _)) (by simp [Value.oneCell']) (by unfold maxLen; omega) (by omega) (Nat.zero_le _)
  refine ⟨v', w', h1, ?_, h3⟩
  have e : sv ns ++ [.string k] = sv (ns ++ [k]) := by simp [sv]
  rw [← e, List.length_append]
  exact h2

set_option maxRecDepth 100000 in
theorem nil_find (w : World) (k : ByteArray) (v : Value) (ns : List ByteArray) (h : w.ownsRow 0 9 1 v ns.length (sv ns)) (hn : ns.length ≤ 100) (n0 : Nat) (hb : ∀ i, v.ownBlock = some i → n0 ≤ i) (hn0 : n0 ≤ w.heap.size) :
    Calls Tryz.prog 82 #[.pointer none, .string k, v] w fun e w' => e = .returned (.int .i64 14) ∧ Below n0 w w' := by
  have hr := fun W v => nil_ready W v
  have HR := Lib.hid hr
  obtain ⟨v', w1, hr1, _, hg1⟩ := str_append w v ns h hn k
  have HR1 := Lib.hid hr1
  have HB1 : Hid (Below n0 w w1) := ((Below.refl _ _).alloc hn0 _).grown hg1 (by simp; omega) hb
  clear hr hr1 hg1 h hb
  go_enter Tryz.func82, Tryz.ntmps82
  go_wp2_with (first
    | (at_builtin; refine Lib.wpList_append_run _ rfl _ _ 79 79 rfl _ _ rfl rfl _ _ HR1.out ?_)
    | (go_at_call 42; (with_reducible refine (HR.out _ _).mono ?_); rintro e w2 ⟨rfl, hb2⟩; have HB2 := Lib.hid hb2; clear hb2))
  go_ret
  exact ⟨rfl, HB1.out.trans (HB2.out.mono (Nat.le_trans hn0 HB1.out.size))⟩
theorem own_lit (w : World) (k : ByteArray) : (w.alloc (.cells #[.string k] 9)).ownsRow 0 9 1 (.slice (some ⟨w.heap.size, 0, none⟩) 1 1) [k].length (sv [k]) :=
  World.ownsRow_lit (e := 9) (size := 1) (base := 0) w #[.string k] 1 (Nat.zero_le _) (by decide) rfl
set_option maxRecDepth 100000 in
theorem nil_cut (w : World) (k : ByteArray) (n : Int) : Calls Tryz.prog 52 #[.pointer none, .string k, .int .i64 n] w fun e w' => e = .returned (.int .i64 14) ∧ Below w.heap.size w w' := by
  have HF := Lib.hid (nil_find w k (.slice none 0 0) [] (World.ownsRow_nil _ _ _ _) (by simp) w.heap.size (fun i e => by cases e) (Nat.le_refl _))
  go_enter Tryz.func52, Tryz.ntmps52
  go_wp2_with (go_at_call 82; (with_reducible refine HF.out.mono ?_); rintro e w1 ⟨rfl, hb1⟩; have HB1 := Lib.hid hb1; clear hb1)
  go_ret
  exact ⟨rfl, HB1.out⟩
set_option maxRecDepth 100000 in
theorem nil_rename (w : World) (k tn : ByteArray) : Calls Tryz.prog 92 #[.pointer none, .string k, .string tn] w fun e w' => e = .returned (.int .i64 14) ∧ Below w.heap.size w w' := by
  have HF := Lib.hid (nil_find (w.alloc (.cells #[.string tn] 9)) k _ [tn] (own_lit w tn) (by simp) w.heap.size (fun i e => by cases e; exact Nat.le_refl _) (by simp))
  go_enter Tryz.func92, Tryz.ntmps92
  go_wp2_with (go_at_call 82; (with_reducible refine HF.out.mono ?_); rintro e w1 ⟨rfl, hb1⟩; have HB1 := Lib.hid hb1; clear hb1)
  go_ret
  exact ⟨rfl, ((Below.refl _ _).alloc (Nat.le_refl _) _).trans HB1.out⟩
end Go.Proofs.YtjijgoflbjbnfaaGreat.Sr

namespace Go.Proofs.YtjijgoflbjbnfaaGreat.Sr
open Go.RowKit Fr

set_option maxRecDepth 100000 in
set_option maxHeartbeats 2000000 in
theorem find_none (w : World) (p : Nat) (s : S) (mb : Option Nat) (L : List Fi) (k : ByteArray) (h : StR w p s mb L) :
    Calls Tryz.prog 82 #[.pointer (some ⟨p, 0, none⟩), .string k, .slice none 0 0] w fun e w' => e = .returned (.int .i64 (fnd s.d L k [k])) ∧ Below w.heap.size w w' := by
  obtain ⟨v1, w1, hr1, ho1, hg1⟩ := str_append w (.slice none 0 0) [] (World.ownsRow_nil _ _ _ _) (by simp) k
  have HS := Lib.hid h
  have HR1 := Lib.hid hr1
  have HB1 : Hid (Below w.heap.size w w1) := ((Below.refl _ _).alloc (Nat.le_refl _) _).grown hg1 (by simp) (fun i e => by cases e)
  obtain ⟨g1, c1, hv1, hn1⟩ := nrow_own (ns := [k]) ho1 (Nat.succ_pos _)
  have hv1 : v1 = .slice (some ⟨g1, 0, none⟩) 1 c1 := hv1
  subst hv1
  have HN1 := Lib.hid hn1
  have hrd : Calls Tryz.prog 42 #[.pointer (some ⟨p, 0, none⟩), .slice (some ⟨g1, 0, none⟩) 1 c1] w1 fun e w' => e = .returned (.int .i64 (rdy s.d [k])) ∧ Below w1.heap.size w1 w' := ready_any w1 p s mb g1 c1 [k] (h.below HB1.out).blk hn1 (by simp)
  have hlk : ∀ W1, StR W1 p s mb L → (Instr.lookup 56 (.map mb) (.string k) true).run Tryz.prog W1 = .ok (.tuple #[valL L k, .bool (hasL L k)]) W1 := fun W1 h2 => by
    have := lookup_run (w := W1) h2.map k true
    rw [if_pos rfl] at this; exact this
  obtain ⟨r, hr⟩ : ∃ r, r = rdy s.d [k] := ⟨_, rfl⟩
  obtain ⟨hh, hhh⟩ : ∃ hh, hh = hasL L k := ⟨_, rfl⟩
  have HF : Hid (fnd s.d L k [k] = if r ≠ 0 then r else if hh = true then 0 else 13) := by
    show _ = _
    rw [hr, hhh]; rfl
  rw [← hr] at hrd
  rw [← hhh] at hlk
  have HRD := Lib.hid hrd
  have HLK := Lib.hid hlk
  clear h hr1 ho1 hg1 hn1 hrd hlk hr hhh
  by_cases hr0 : r = 0
  · subst hr0
    have HF2 : Hid (fnd s.d L k [k] = if hh = true then 0 else 13) := by
      show _ = _
      rw [HF.out, if_neg (by decide)]
    clear HF
    cases hh
    · go_enter Tryz.func82, Tryz.ntmps82
      go_wp2_with (first
      | (at_builtin; refine Lib.wpList_append_run _ rfl _ _ 79 79 rfl _ _ rfl rfl _ _ HR1.out ?_)
      | (go_at_call 42; (with_reducible refine HRD.out.mono ?_); rintro e3 w3 ⟨rfl, hb3⟩
         have HB3 : Hid (Below w.heap.size w w3) := HB1.out.trans (hb3.mono HB1.out.size)
         have c5 := (blk_cells (HS.out.below HB3.out).blk).1.2.2.2.2.2
         have hlk := HLK.out w3 (HS.out.below HB3.out)
         clear hb3))
      go_ret
      exact ⟨ret_int HF2.out.symm, HB3.out⟩
    · go_enter Tryz.func82, Tryz.ntmps82
      go_wp2_with (first
      | (at_builtin; refine Lib.wpList_append_run _ rfl _ _ 79 79 rfl _ _ rfl rfl _ _ HR1.out ?_)
      | (go_at_call 42; (with_reducible refine HRD.out.mono ?_); rintro e3 w3 ⟨rfl, hb3⟩
         have HB3 : Hid (Below w.heap.size w w3) := HB1.out.trans (hb3.mono HB1.out.size)
         have c5 := (blk_cells (HS.out.below HB3.out).blk).1.2.2.2.2.2
         have hlk := HLK.out w3 (HS.out.below HB3.out)
         clear hb3))
      go_ret
      exact ⟨ret_int HF2.out.symm, HB3.out⟩
  · have hrb : (r != 0) = true := by simpa using hr0
    have HF2 : Hid (fnd s.d L k [k] = r) := by
      show _ = _
      rw [HF.out, if_pos hr0]
    clear HF
    go_enter Tryz.func82, Tryz.ntmps82
    go_wp2_with (first
      | (at_builtin; refine Lib.wpList_append_run _ rfl _ _ 79 79 rfl _ _ rfl rfl _ _ HR1.out ?_)
      | (go_at_call 42; (with_reducible refine HRD.out.mono ?_); rintro e3 w3 ⟨rfl, hb3⟩
         have HB3 : Hid (Below w.heap.size w w3) := HB1.out.trans (hb3.mono HB1.out.size)
         have c5 := (blk_cells (HS.out.below HB3.out).blk).1.2.2.2.2.2
         have hlk := HLK.out w3 (HS.out.below HB3.out)
         clear hb3))
    go_ret
    exact ⟨ret_int HF2.out.symm, HB3.out⟩
end Go.Proofs.YtjijgoflbjbnfaaGreat.Sr

namespace Go.Proofs.YtjijgoflbjbnfaaGreat.Sr
open Go.RowKit Fr

theorem fnd_of {d : Bool} {L : List Fi} {k : ByteArray} {ns : List ByteArray} (h : fnd d L k ns = 0) : rdy d ns = 0 ∧ hasL L k = true := by
  unfold fnd at h
  by_cases h1 : rdy d ns ≠ 0
  · rw [if_pos h1] at h; exact absurd h h1
  · rw [if_neg h1] at h
    refine ⟨Decidable.not_not.1 h1, ?_⟩
    cases hh : hasL L k with
    | true => rfl
    | false => rw [hh] at h; cases h
set_option maxRecDepth 100000 in
set_option maxHeartbeats 2000000 in
theorem cut_bad (w : World) (p : Nat) (s : S) (mb : Option Nat) (L : List Fi) (k : ByteArray) (x : Int) (h : StR w p s mb L) (hr : fnd s.d L k [k] ≠ 0) :
    Calls Tryz.prog 52 #[.pointer (some ⟨p, 0, none⟩), .string k, .int .i64 x] w fun e w' => e = .returned (.int .i64 (fnd s.d L k [k])) ∧ Mv w w' p mb L s mb L := by
  have HR := Lib.hid (find_none w p s mb L k h)
  obtain ⟨r, hr2⟩ : ∃ r, r = fnd s.d L k [k] := ⟨_, rfl⟩
  rw [← hr2] at HR hr ⊢
  have hb : (r != 0) = true := by simpa using hr
  have HS := Lib.hid h
  clear h hr hr2
  go_enter Tryz.func52, Tryz.ntmps52
  go_wp2_with (go_at_call 82; refine HR.out.mono ?_; rintro e w1 ⟨rfl, hb1⟩; have HB1 := Lib.hid hb1; clear hb1)
  go_ret
  exact ⟨rfl, Mv.of_below HS.out HB1.out⟩
set_option maxRecDepth 100000 in
set_option maxHeartbeats 2000000 in
theorem cut_arg (w : World) (p : Nat) (s : S) (mb : Option Nat) (L : List Fi) (k : ByteArray) (x : Int) (h : StR w p s mb L) (hr : fnd s.d L k [k] = 0) (hx : x < 0 ∨ ((bytL L k).length : Int) < x) :
    Calls Tryz.prog 52 #[.pointer (some ⟨p, 0, none⟩), .string k, .int .i64 x] w fun e w' => e = .returned (.int .i64 1) ∧ Mv w w' p mb L s mb L := by
  have HR := Lib.hid (find_none w p s mb L k h)
  rw [hr] at HR
  have HS := Lib.hid h
  obtain ⟨A0, n0, cc, hval, hn0⟩ : ∃ A0 n0 cc, valL L k = .slice A0 n0 cc ∧ n0 = (bytL L k).length := by
    obtain ⟨A0, cc, e, _⟩ := BAt.of_own (val_row h.rows k); exact ⟨A0, _, cc, e, rfl⟩
  have hlk : ∀ W, StR W p s mb L → (Instr.lookup 56 (.map mb) (.string k) false).run Tryz.prog W = .ok (.slice A0 n0 cc) W := fun W h2 => by
    rw [← hval]; exact lookup_run (w := W) h2.map k false
  have HLK := Lib.hid hlk
  rw [← hn0] at hx
  have e0 : (0 : Int) ≤ (n0 : Int) := by omega
  clear h hr hlk hval hn0
  rcases hx with hx | hx
  · go_enter Tryz.func52, Tryz.ntmps52
    go_wp2_with (go_at_call 82; (with_reducible refine HR.out.mono ?_); rintro e w1 ⟨rfl, hb1⟩; have HB1 := Lib.hid hb1; have c5 := (blk_cells (HS.out.below HB1.out).blk).1.2.2.2.2.2; have hlk := HLK.out w1 (HS.out.below HB1.out); clear hb1)
    go_ret
    exact ⟨rfl, Mv.of_below HS.out HB1.out⟩
  · have hx0 : ¬ x < 0 := by omega
    go_enter Tryz.func52, Tryz.ntmps52
    go_wp2_with (go_at_call 82; (with_reducible refine HR.out.mono ?_); rintro e w1 ⟨rfl, hb1⟩; have HB1 := Lib.hid hb1; have c5 := (blk_cells (HS.out.below HB1.out).blk).1.2.2.2.2.2; have hlk := HLK.out w1 (HS.out.below HB1.out); clear hb1)
    go_ret
    exact ⟨rfl, Mv.of_below HS.out HB1.out⟩
set_option maxRecDepth 100000 in
set_option maxHeartbeats 2000000 in
theorem cut_down (w : World) (p : Nat) (s : S) (mb : Option Nat) (L : List Fi) (k : ByteArray) (x : Int) (h : StR w p s mb L) (hr : fnd s.d L k [k] = 0) (hx : 0 ≤ x ∧ x ≤ ((bytL L k).length : Int)) (hm : useN s 1 = 0) :
    Calls Tryz.prog 52 #[.pointer (some ⟨p, 0, none⟩), .string k, .int .i64 x] w fun e w' => e = .returned (.int .i64 (dwn (useS s 1))) ∧ Mv w w' p mb L (useS s 1) mb L := by
  have HR := Lib.hid (find_none w p s (mb) L k h)
  rw [hr] at HR
  have HS := Lib.hid h
  have huse : ∀ W, Below w.heap.size w W → Calls Tryz.prog 43 #[.pointer (some ⟨p, 0, none⟩), .int .i64 1] W fun e w' => e = .returned (.int .i64 0) ∧ Own W w' p (useS s 1) (mb) := fun W hW => by
    have := use_any W p s (mb) 1 ((h.below hW).blk) (by decide) h.left
    rw [hm] at this; exact this
  have HUS := Lib.hid huse
  have hkeep := Lib.hid (useS_keeps s 1 (by decide) h.left)
  obtain ⟨s1, hs1⟩ : ∃ s1, s1 = useS s 1 := ⟨_, rfl⟩
  rw [← hs1] at HUS hkeep ⊢
  obtain ⟨d1, hd1⟩ : ∃ d1, d1 = dwn s1 := ⟨_, rfl⟩
  rw [← hd1]
  have hst : ∀ W, W.heap[p]? = some (blk s1 mb) → Calls Tryz.prog 45 #[.pointer (some ⟨p, 0, none⟩)] W fun e w' => e = .returned (.int .i64 d1) ∧ W = w' := fun W hW => by
    rw [hd1]; exact state_any W p s1 mb hW
  have HST := Lib.hid hst
  obtain ⟨A0, n0, cc, hval, hn0⟩ : ∃ A0 n0 cc, valL L k = .slice A0 n0 cc ∧ n0 = (bytL L k).length := by
    obtain ⟨A0, cc, e, _⟩ := BAt.of_own (val_row h.rows k); exact ⟨A0, _, cc, e, rfl⟩
  have hlk : ∀ W, StR W p s mb L → (Instr.lookup 56 (.map mb) (.string k) false).run Tryz.prog W = .ok (.slice A0 n0 cc) W := fun W h2 => by
    rw [← hval]; exact lookup_run (w := W) h2.map k false
  have HLK := Lib.hid hlk
  rw [← hn0] at hx
  have e0 : (0 : Int) ≤ (n0 : Int) := by omega
  have x0 : ¬ x < 0 := by omega
  have x1 : ¬ (n0 : Int) < x := by omega
  clear h hr huse hm hst hs1 hd1 hlk hval hn0 hx
  go_enter Tryz.func52, Tryz.ntmps52
  go_wp2_with (first
    | (go_at_call 45; (with_reducible refine (HST.out _ HOW.out.hp).mono ?_); rintro e w3 ⟨rfl, rfl⟩)
    | (go_at_call 43; (with_reducible refine (HUS.out _ HB1.out).mono ?_); rintro e w2 ⟨rfl, how⟩; have HOW := Lib.hid how; clear how)
    | (go_at_call 82; (with_reducible refine HR.out.mono ?_); rintro e w1 ⟨rfl, hb1⟩; have HB1 := Lib.hid hb1; have c5 := (blk_cells (HS.out.below HB1.out).blk).1.2.2.2.2.2; have hlk := HLK.out w1 (HS.out.below HB1.out); clear hb1))
  go_ret
  exact ⟨rfl, (Mv.of_below HS.out HB1.out).trans (Mv.of_own (HS.out.below HB1.out) HOW.out hkeep.out.1 hkeep.out.2.1 hkeep.out.2.2)⟩
set_option maxRecDepth 100000 in
set_option maxHeartbeats 2000000 in
theorem cut_put (w : World) (p : Nat) (s : S) (mb : Option Nat) (L : List Fi) (k : ByteArray) (x : Int) (m : Nat) (h : StR w p s mb L) (hr : fnd s.d L k [k] = 0) (hx : x = (m : Int)) (hxm : m ≤ (bytL L k).length) (hm : useN s 1 = 1) :
    Calls Tryz.prog 52 #[.pointer (some ⟨p, 0, none⟩), .string k, .int .i64 x] w fun e w' => e = .returned (.int .i64 (dwn (useS s 1))) ∧ ∃ mb' v', Mv w w' p mb L { useS s 1 with used := s.used + ((m : Int) - ((bytL L k).length : Int)) } mb' (putL L k (v', (bytL L k).take m)) := by
  subst hx
  have hks := (okN_of (fnd_of hr).1).2
  have HR := Lib.hid (find_none w p s (mb) L k h)
  rw [hr] at HR
  have HS := Lib.hid h
  have huse : ∀ W, Below w.heap.size w W → Calls Tryz.prog 43 #[.pointer (some ⟨p, 0, none⟩), .int .i64 1] W fun e w' => e = .returned (.int .i64 1) ∧ Own W w' p (useS s 1) (mb) := fun W hW => by
    have := use_any W p s (mb) 1 ((h.below hW).blk) (by decide) h.left
    rw [hm] at this; exact this
  have HUS := Lib.hid huse
  have hkeep := Lib.hid (useS_keeps s 1 (by decide) h.left)
  obtain ⟨s1, hs1⟩ : ∃ s1, s1 = useS s 1 := ⟨_, rfl⟩
  rw [← hs1] at HUS hkeep ⊢
  obtain ⟨d1, hd1⟩ : ∃ d1, d1 = dwn s1 := ⟨_, rfl⟩
  rw [← hd1]
  have hst : ∀ W mb' u, W.heap[p]? = some (blk { s1 with used := u } mb') → Calls Tryz.prog 45 #[.pointer (some ⟨p, 0, none⟩)] W fun e w' => e = .returned (.int .i64 d1) ∧ W = w' := fun W mb' u hW => by
    rw [hd1]; exact state_any W p { s1 with used := u } mb' hW
  have HST := Lib.hid hst
  obtain ⟨A0, n0, cc, hval, hn0⟩ : ∃ A0 n0 cc, valL L k = .slice A0 n0 cc ∧ n0 = (bytL L k).length := by
    obtain ⟨A0, cc, e, _⟩ := BAt.of_own (val_row h.rows k); exact ⟨A0, _, cc, e, rfl⟩
  have hlk : ∀ W, StR W p s mb L → (Instr.lookup 56 (.map mb) (.string k) false).run Tryz.prog W = .ok (.slice A0 n0 cc) W := fun W h2 => by
    rw [← hval]; exact lookup_run (w := W) h2.map k false
  have HLK := Lib.hid hlk
  have HVAL := Lib.hid hval
  have HN0 := Lib.hid hn0
  have hroom := h.room
  have hused := h.used
  have hle := byt_used L k
  have hcap : n0 ≤ cc := by
    have := BAt.of_own (val_row h.rows k)
    rw [hval] at this
    exact this.len.2
  have hmn : m ≤ n0 := by omega
  have hsl : ∀ W : World, (Instr.slice 32 (.slice A0 n0 cc) none (some (.int .i64 (m : Int))) none).run Tryz.prog W = .ok (.slice A0 m cc) W := slice_to A0 n0 cc m (by omega)
  have hmin : ((bytL L k).take m).length = m := by rw [List.length_take]; omega
  have HMN := Lib.hid hmn
  have HMIN := Lib.hid hmin
  have e0 : (0 : Int) ≤ (n0 : Int) := by omega
  have x0 : ¬ (m : Int) < 0 := by omega
  have x1 : ¬ n0 < m := by omega
  have hroomN : Hid (((usedL L : Int) - (bytL L k).length + ((bytL L k).take m).length) ≤ s.room) := by
    show _ ≤ _
    rw [hmin]; omega
  have hused0 : Hid (0 ≤ s.used ∧ s.used ≤ 4000000 ∧ n0 ≤ 4000000 ∧ m ≤ 4000000) := by
    show _ ∧ _
    omega
  have hstep : ∀ w2 w3 w5 A4 c4, StR w2 p s1 mb L → Below w2.heap.size w2 w3 → w3.ownsRow w2.heap.size 5 1 (.slice A4 m c4) ((bytL L k).take m).length (bv ((bytL L k).take m)) → PutTo w3 w5 p s1 mb L k (.slice A4 m c4) ((bytL L k).take m) m →
      ∃ mb' v', Mv w2 w5 p mb L { s1 with used := s.used + ((m : Int) - ((bytL L k).length : Int)) } mb' (putL L k (v', (bytL L k).take m)) := by
    intro w2 w3 w5 A4 c4 h2 hb3 ho hp
    have h3 := h2.below hb3
    have hp2 : PutTo w3 w5 p s1 mb L k (.slice A4 m c4) ((bytL L k).take m) ((bytL L k).take m).length := by rw [hmin]; exact hp
    obtain ⟨mb', v', hmv⟩ := put_step (w2 := w3) h2 (Off.of_below _ hb3) h3.blk h3.map (fun x hx _ => h3.rows x hx) (row_zero ho) (fun i hi => .inr (ho.lt i hi).1) rfl rfl h2.left (by rw [hkeep.out.2.1]; exact hroomN.out) hp2
    refine ⟨mb', v', ?_⟩
    rw [hmin, hkeep.out.1] at hmv; exact hmv
  have HSTEP := Lib.hid hstep
  have hcl : ∀ W, StR W p s1 mb L → Calls Tryz.prog 38 #[.slice A0 m cc] W fun e w' => ∃ v', e = .returned v' ∧ w'.ownsRow W.heap.size 5 1 v' ((bytL L k).take m).length (bv ((bytL L k).take m)) ∧ Below W.heap.size W w' := fun W hW => by
    have h9 := BAt.of_own (val_row hW.rows k)
    rw [hval] at h9
    exact clone_any W (.slice A0 m cc) ((bytL L k).take m) (h9.take m hmn).1 (by rw [hmin]; omega)
  have HCL := Lib.hid hcl
  have hput : ∀ w2 w3 A4 c4, StR w2 p s1 mb L → Below w2.heap.size w2 w3 → Calls Tryz.prog 44 #[.pointer (some ⟨p, 0, none⟩), .string k, .slice A4 m c4] w3 fun e w' => e = .returned (.tuple #[]) ∧ PutTo w3 w' p s1 mb L k (.slice A4 m c4) ((bytL L k).take m) m := by
    intro w2 w3 A4 c4 h2 hb
    have h3 := h2.below hb
    refine put_any w3 p mb s1 L k A4 A0 m c4 n0 cc ((bytL L k).take m) h3.blk h3.map hks HVAL.out HN0.out ?_
    rw [hkeep.out.1]; exact hused0.out
  have HPUT := Lib.hid hput
  clear h hr huse hm hst hs1 hd1 hstep hmn hcap hmin hval hn0 hroom hused hle hcl hput hxm hlk
  go_enter Tryz.func52, Tryz.ntmps52
  go_wp2_with (first
    | (go_at_call 45; (with_reducible refine (HST.out _ _ _ HMV5.out.st.blk).mono ?_); rintro e w6 ⟨rfl, rfl⟩)
    | (go_at_call 44; (with_reducible refine (HPUT.out _ _ _ _ HMV.out.st HB3.out).mono ?_); rintro e w5 ⟨rfl, hp5⟩
       obtain ⟨mb', v', hmv5⟩ := HSTEP.out w2 w3 w5 A4 c4 HMV.out.st HB3.out HO3.out hp5
       have HMV5 := Lib.hid hmv5
       clear hp5 hmv5)
    | (go_at_call 38; (with_reducible refine (HCL.out _ HMV.out.st).mono ?_); rintro e w3 ⟨v3, rfl, ho3, hb3⟩
       obtain ⟨A4, c4, hv4, _⟩ := BAt.of_own ho3
       rw [HMIN.out] at hv4
       subst hv4
       have HO3 := Lib.hid ho3
       have HB3 := Lib.hid hb3
       clear ho3 hb3)
    | (go_at_call 43; (with_reducible refine (HUS.out _ HB1.out).mono ?_); rintro e w2 ⟨rfl, how⟩
       have HMV : Hid (Mv w w2 p mb L s1 mb L) := (Mv.of_below HS.out HB1.out).trans (Mv.of_own (HS.out.below HB1.out) how hkeep.out.1 hkeep.out.2.1 hkeep.out.2.2)
       clear how)
    | (go_at_call 82; (with_reducible refine HR.out.mono ?_); rintro e w1 ⟨rfl, hb1⟩; have HB1 := Lib.hid hb1; have c5 := (blk_cells (HS.out.below HB1.out).blk).1.2.2.2.2.2; have hlk := HLK.out w1 (HS.out.below HB1.out); clear hb1))
  go_ret
  exact ⟨rfl, mb', v', HMV.out.trans HMV5.out⟩
end Go.Proofs.YtjijgoflbjbnfaaGreat.Sr
