/-
  A nil store's answers. Conditions: none.
-/
import Derived.Test.YtklngdmpledgeaaPB14
import Derived.Test.YtklngdmpledgeaaSRnm
namespace Go.Proofs.Ytklngdmpledgeaa.Sr
open Go.RowKit Fr

theorem nil_blk (w : World) : (w.alloc (blk nilS none)).heap[w.heap.size]? = some (blk nilS none) := block_new _ _
theorem nil_bel (w : World) : Below w.heap.size w (w.alloc (blk nilS none)) := (Below.refl _ _).alloc (Nat.le_refl _) _

set_option maxRecDepth 100000 in
theorem nil_arm (w : World) (n : Int) : Calls Try.prog 25 #[.pointer none, .int .i64 n] w fun e w' => e = .returned (.tuple #[]) ∧ Below w.heap.size w w' := by
  have HO := Lib.hid (orDown_nil w)
  have HA := Lib.hid (arm_any (w.alloc (blk nilS none)) w.heap.size nilS none n (nil_blk w))
  go_enter Try.func25, Try.ntmps25
  go_wp2_with (first
    | (go_at_call 75; (with_reducible refine HO.out.mono ?_); rintro e w' ⟨rfl, rfl⟩)
    | (go_at_call 76; (with_reducible refine HA.out.mono ?_); rintro e w2 ⟨rfl, h1⟩; have H1 := Lib.hid h1; clear h1))
  go_end0
  exact ⟨rfl, (nil_bel w).grown H1.out.2.1 (by simp) (fun i e => by cases e; exact Nat.le_refl _)⟩
set_option maxRecDepth 100000 in
theorem nil_revive (w : World) : Calls Try.prog 26 #[.pointer none] w fun e w' => e = .returned (.tuple #[]) ∧ Below w.heap.size w w' := by
  have HO := Lib.hid (orDown_nil w)
  obtain ⟨W, hW⟩ : ∃ W, W = w.alloc (blk nilS none) := ⟨_, rfl⟩
  have hb := nil_blk w
  have hl := nil_bel w
  rw [← hW] at HO hb hl
  obtain ⟨⟨c0, c1, c2, c3, c4, c5⟩, f0, f1, f2, f3, f4, f5⟩ := blk_cells hb
  have HL := Lib.hid hl
  clear hb hl hW
  go_enter Try.func26, Try.ntmps26
  go_wp2_with (go_at_call 75; (with_reducible refine HO.out.mono ?_); rintro e w' ⟨rfl, rfl⟩)
  go_end0
  exact ⟨rfl, ((HL.out.setCell (Nat.le_refl _) _).setCell (Nat.le_refl _) _).setCell (Nat.le_refl _) _⟩
set_option maxRecDepth 100000 in
theorem nil_down (w : World) : Calls Try.prog 33 #[.pointer none] w fun e w' => e = .returned (.bool true) ∧ Below w.heap.size w w' := by
  have HO := Lib.hid (orDown_nil w)
  have hs : Calls Try.prog 63 #[.pointer (some ⟨w.heap.size, 0, none⟩)] (w.alloc (blk nilS none)) fun e w' => e = .returned (.int .i64 14) ∧ w.alloc (blk nilS none) = w' := state_any (w.alloc (blk nilS none)) w.heap.size nilS none (nil_blk w)
  have HS := Lib.hid hs
  clear hs
  go_enter Try.func33, Try.ntmps33
  go_wp2_with (first
    | (go_at_call 75; (with_reducible refine HO.out.mono ?_); rintro e w' ⟨rfl, rfl⟩)
    | (go_at_call 63; (with_reducible refine HS.out.mono ?_); rintro e w' ⟨rfl, rfl⟩))
  go_ret
  exact ⟨rfl, nil_bel w⟩
set_option maxRecDepth 100000 in
theorem nil_room (w : World) : Calls Try.prog 30 #[.pointer none] w fun e w' => e = .returned (.int .i64 0) ∧ Below w.heap.size w w' := by
  have HO := Lib.hid (orDown_nil w)
  have c3 : (w.alloc (blk nilS none)).cell? ⟨w.heap.size, 3, none⟩ = some (.int .i64 0) := (blk_cells (nil_blk w)).1.2.2.2.1
  have hl := nil_bel w
  generalize w.alloc (blk nilS none) = W at HO c3 hl
  have HL := Lib.hid hl
  clear hl
  go_enter Try.func30, Try.ntmps30
  go_wp2_with (go_at_call 75; (with_reducible refine HO.out.mono ?_); rintro e w' ⟨rfl, rfl⟩)
  go_ret
  exact ⟨rfl, HL.out⟩
set_option maxRecDepth 100000 in
theorem nil_used (w : World) : Calls Try.prog 34 #[.pointer none] w fun e w' => e = .returned (.int .i64 0) ∧ Below w.heap.size w w' := by
  have HO := Lib.hid (orDown_nil w)
  have c4 : (w.alloc (blk nilS none)).cell? ⟨w.heap.size, 4, none⟩ = some (.int .i64 0) := (blk_cells (nil_blk w)).1.2.2.2.2.1
  have hl := nil_bel w
  generalize w.alloc (blk nilS none) = W at HO c4 hl
  have HL := Lib.hid hl
  clear hl
  go_enter Try.func34, Try.ntmps34
  go_wp2_with (go_at_call 75; (with_reducible refine HO.out.mono ?_); rintro e w' ⟨rfl, rfl⟩)
  go_ret
  exact ⟨rfl, HL.out⟩
set_option maxRecDepth 100000 in
theorem nil_copy (w : World) : Calls Try.prog 27 #[.pointer none] w fun e w' => e = .returned (.pointer none) ∧ w = w' := by
  go_enter Try.func27, Try.ntmps27
  go_wp2
  go_ret
  exact ⟨rfl, rfl⟩
set_option maxRecDepth 100000 in
theorem clone_nil (w : World) (n c : Nat) : Calls Try.prog 69 #[.slice none n c] w fun e w' => e = .returned (.slice none 0 0) ∧ w = w' := by
  have q22 : ∀ (w : World) (a : Option Addr) (n c n' c' : Nat), (binOp .eql 32 (.slice a n c) (.slice none n' c')).run Try.prog w = .ok (.bool a.isNone) w := fun w a n c n' c' => Lib.run_eql_slice_nil w _ _ a n c n' c' Try.underlying32
  go_enter Try.func69, Try.ntmps69
  go_wp2
  go_ret
  exact ⟨rfl, rfl⟩
set_option maxRecDepth 100000 in
theorem nil_read (w : World) (k : ByteArray) : Calls Try.prog 28 #[.pointer none, .string k] w fun e w' => e = .returned (.tuple #[.slice none 0 0, .bool false]) ∧ Below w.heap.size w w' := by
  have HO := Lib.hid (orDown_nil w)
  have c5 : (w.alloc (blk nilS none)).cell? ⟨w.heap.size, 5, none⟩ = some (.map none) := (blk_cells (nil_blk w)).1.2.2.2.2.2
  have hl := nil_bel w
  generalize w.alloc (blk nilS none) = W at HO c5 hl
  have hlk : (Instr.lookup 94 (.map none) (.string k) true).run Try.prog W = .ok (.tuple #[.slice none 0 0, .bool false]) W := lookup_run (w := W) (mb := none) (L := []) rfl k true
  have HC := Lib.hid (clone_nil W 0 0)
  have HL := Lib.hid hl
  clear hl
  go_enter Try.func28, Try.ntmps28
  go_wp2_with (first
    | (go_at_call 75; (with_reducible refine HO.out.mono ?_); rintro e w' ⟨rfl, rfl⟩)
    | (go_at_call 69; (with_reducible refine HC.out.mono ?_); rintro e w' ⟨rfl, rfl⟩))
  go_ret2
  exact ⟨rfl, HL.out⟩
set_option maxRecDepth 100000 in
theorem nil_ready (w : World) (v : Value) : Calls Try.prog 60 #[.pointer none, v] w fun e w' => e = .returned (.int .i64 14) ∧ Below w.heap.size w w' := by
  have HD := Lib.hid (nil_down w)
  go_enter Try.func60, Try.ntmps60
  go_wp2_with (go_at_call 33; (with_reducible refine HD.out.mono ?_); rintro e w1 ⟨rfl, hb1⟩; have HB1 := Lib.hid hb1; clear hb1)
  go_ret
  exact ⟨rfl, HB1.out⟩
set_option maxRecDepth 100000 in
theorem nil_append (w : World) (k : ByteArray) (v : Value) : Calls Try.prog 15 #[.pointer none, .string k, v] w fun e w' => e = .returned (.int .i64 14) ∧ Below w.heap.size w w' := by
  have hr := fun W v => nil_ready W v
  have HR := Lib.hid hr
  clear hr
  go_enter Try.func15, Try.ntmps15
  go_wp2_with (go_at_call 60; (with_reducible refine (HR.out _ _).mono ?_); rintro e w1 ⟨rfl, hb1⟩; have HB1 := Lib.hid hb1; clear hb1)
  go_ret
  exact ⟨rfl, ((Below.refl _ _).alloc (Nat.le_refl _) _).trans (HB1.out.mono (by simp))⟩
set_option maxRecDepth 100000 in
theorem nil_write (w : World) (k : ByteArray) (v : Value) : Calls Try.prog 17 #[.pointer none, .string k, v] w fun e w' => e = .returned (.int .i64 14) ∧ Below w.heap.size w w' := by
  have hr := fun W v => nil_ready W v
  have HR := Lib.hid hr
  clear hr
  go_enter Try.func17, Try.ntmps17
  go_wp2_with (go_at_call 60; (with_reducible refine (HR.out _ _).mono ?_); rintro e w1 ⟨rfl, hb1⟩; have HB1 := Lib.hid hb1; clear hb1)
  go_ret
  exact ⟨rfl, ((Below.refl _ _).alloc (Nat.le_refl _) _).trans (HB1.out.mono (by simp))⟩
/-- Slices of strings of which nothing is known but their form. -/
theorem str_append (w : World) (v : Value) (ns : List ByteArray) (h : w.ownsRow 0 9 1 v ns.length (sv ns)) (hn : ns.length ≤ 100) (k : ByteArray) :
    ∃ v' w', (Builtin.append_ #[54, 54] 54 #[v, .slice (some ⟨w.heap.size, 0, none⟩) 1 1]).run Try.prog (w.alloc (.cells #[.string k] 9)) = .ok v' w' ∧ w'.ownsRow 0 9 1 v' (ns ++ [k]).length (sv (ns ++ [k])) ∧ (w.alloc (.cells #[.string k] 9)).grownBy w' v.ownBlock := by
  obtain ⟨i0, hi0, hz0, hz1, hz2⟩ := info_parts strInf
  obtain ⟨v', w', h1, h2, h3, _⟩ := run_append_own (P := Try.prog) (w.alloc (.cells #[.string k] 9)) 0 54 54 9 i0 _ 1 16 Try.underlying54 hi0 hz0 hz1 hz2 rfl (by decide) v ns.length (sv ns) (h.alloc _) ⟨w.heap.size, 0, none⟩ 1 1 [.string k] rfl (World.news_of_block (cs := #[.string k]) (t := 9) (fr := (0, 0)) (heap_alloc_new _ _)) (by simp [Value.oneCell']) (by unfold maxLen; omega) (by omega) (Nat.zero_le _)
  refine ⟨v', w', h1, ?_, h3⟩
  have e : sv ns ++ [.string k] = sv (ns ++ [k]) := by simp [sv]
  rw [← e, List.length_append]
  exact h2

set_option maxRecDepth 100000 in
theorem nil_find (w : World) (k : ByteArray) (v : Value) (ns : List ByteArray) (h : w.ownsRow 0 9 1 v ns.length (sv ns)) (hn : ns.length ≤ 100) (n0 : Nat) (hb : ∀ i, v.ownBlock = some i → n0 ≤ i) (hn0 : n0 ≤ w.heap.size) :
    Calls Try.prog 71 #[.pointer none, .string k, v] w fun e w' => e = .returned (.int .i64 14) ∧ Below n0 w w' := by
  have hr := fun W v => nil_ready W v
  have HR := Lib.hid hr
  obtain ⟨v', w1, hr1, _, hg1⟩ := str_append w v ns h hn k
  have HR1 := Lib.hid hr1
  have HB1 : Hid (Below n0 w w1) := ((Below.refl _ _).alloc hn0 _).grown hg1 (by simp; omega) hb
  clear hr hr1 hg1 h hb
  go_enter Try.func71, Try.ntmps71
  go_wp2_with (first
    | (at_builtin; refine Lib.wpList_append_run _ rfl _ _ 54 54 rfl _ _ rfl rfl _ _ HR1.out ?_)
    | (go_at_call 60; (with_reducible refine (HR.out _ _).mono ?_); rintro e w2 ⟨rfl, hb2⟩; have HB2 := Lib.hid hb2; clear hb2))
  go_ret
  exact ⟨rfl, HB1.out.trans (HB2.out.mono (Nat.le_trans hn0 HB1.out.size))⟩
theorem own_lit (w : World) (k : ByteArray) : (w.alloc (.cells #[.string k] 9)).ownsRow 0 9 1 (.slice (some ⟨w.heap.size, 0, none⟩) 1 1) [k].length (sv [k]) :=
  World.ownsRow_lit (e := 9) (size := 1) (base := 0) w #[.string k] 1 (Nat.zero_le _) (by decide) rfl
set_option maxRecDepth 100000 in
theorem nil_cut (w : World) (k : ByteArray) (n : Int) : Calls Try.prog 19 #[.pointer none, .string k, .int .i64 n] w fun e w' => e = .returned (.int .i64 14) ∧ Below w.heap.size w w' := by
  have HF := Lib.hid (nil_find w k (.slice none 0 0) [] (World.ownsRow_nil _ _ _ _) (by simp) w.heap.size (fun i e => by cases e) (Nat.le_refl _))
  go_enter Try.func19, Try.ntmps19
  go_wp2_with (go_at_call 71; (with_reducible refine HF.out.mono ?_); rintro e w1 ⟨rfl, hb1⟩; have HB1 := Lib.hid hb1; clear hb1)
  go_ret
  exact ⟨rfl, HB1.out⟩
set_option maxRecDepth 100000 in
theorem nil_rename (w : World) (k tn : ByteArray) : Calls Try.prog 21 #[.pointer none, .string k, .string tn] w fun e w' => e = .returned (.int .i64 14) ∧ Below w.heap.size w w' := by
  have HF := Lib.hid (nil_find (w.alloc (.cells #[.string tn] 9)) k _ [tn] (own_lit w tn) (by simp) w.heap.size (fun i e => by cases e; exact Nat.le_refl _) (by simp))
  go_enter Try.func21, Try.ntmps21
  go_wp2_with (go_at_call 71; (with_reducible refine HF.out.mono ?_); rintro e w1 ⟨rfl, hb1⟩; have HB1 := Lib.hid hb1; clear hb1)
  go_ret
  exact ⟨rfl, ((Below.refl _ _).alloc (Nat.le_refl _) _).trans HB1.out⟩
set_option maxRecDepth 100000 in
theorem nil_drop1 (w : World) (k : ByteArray) : Calls Try.prog 74 #[.pointer none, .string k] w fun e w' => e = .returned (.int .i64 14) ∧ Below w.heap.size w w' := by
  have HF := Lib.hid (nil_find w k (.slice none 0 0) [] (World.ownsRow_nil _ _ _ _) (by simp) w.heap.size (fun i e => by cases e) (Nat.le_refl _))
  go_enter Try.func74, Try.ntmps74
  go_wp2_with (go_at_call 71; (with_reducible refine HF.out.mono ?_); rintro e w1 ⟨rfl, hb1⟩; have HB1 := Lib.hid hb1; clear hb1)
  go_ret
  exact ⟨rfl, HB1.out⟩
end Go.Proofs.Ytklngdmpledgeaa.Sr

namespace Go.Proofs.Ytklngdmpledgeaa.Sr
open Go.RowKit Fr

set_option maxRecDepth 100000 in
set_option maxHeartbeats 2000000 in
theorem find_none (w : World) (p : Nat) (s : S) (mb : Option Nat) (L : List Fi) (k : ByteArray) (h : StR w p s mb L) :
    Calls Try.prog 71 #[.pointer (some ⟨p, 0, none⟩), .string k, .slice none 0 0] w fun e w' => e = .returned (.int .i64 (fnd s.d L k [k])) ∧ Below w.heap.size w w' := by
  obtain ⟨v1, w1, hr1, ho1, hg1⟩ := str_append w (.slice none 0 0) [] (World.ownsRow_nil _ _ _ _) (by simp) k
  have HS := Lib.hid h
  have HR1 := Lib.hid hr1
  have HB1 : Hid (Below w.heap.size w w1) := ((Below.refl _ _).alloc (Nat.le_refl _) _).grown hg1 (by simp) (fun i e => by cases e)
  obtain ⟨g1, c1, hv1, hn1⟩ := nrow_own (ns := [k]) ho1 (Nat.succ_pos _)
  have hv1 : v1 = .slice (some ⟨g1, 0, none⟩) 1 c1 := hv1
  subst hv1
  have HN1 := Lib.hid hn1
  have hrd : Calls Try.prog 60 #[.pointer (some ⟨p, 0, none⟩), .slice (some ⟨g1, 0, none⟩) 1 c1] w1 fun e w' => e = .returned (.int .i64 (rdy s.d [k])) ∧ Below w1.heap.size w1 w' := ready_any w1 p s mb g1 c1 [k] (h.below HB1.out).blk hn1 (by simp)
  have hlk : ∀ W1, StR W1 p s mb L → (Instr.lookup 94 (.map mb) (.string k) true).run Try.prog W1 = .ok (.tuple #[valL L k, .bool (hasL L k)]) W1 := fun W1 h2 => by
    have := lookup_run (w := W1) h2.map k true
    rw [if_pos rfl] at this; exact this
  obtain ⟨r, hr⟩ : ∃ r, r = rdy s.d [k] := ⟨_, rfl⟩
  obtain ⟨hh, hhh⟩ : ∃ hh, hh = hasL L k := ⟨_, rfl⟩
  have HF : Hid (fnd s.d L k [k] = if r ≠ 0 then r else if hh = true then 0 else 13) := by
    show _ = _
    rw [hr, hhh]; rfl
  rw [← hr] at hrd
  rw [← hhh] at hlk
  have HRD := Lib.hid hrd
  have HLK := Lib.hid hlk
  clear h hr1 ho1 hg1 hn1 hrd hlk hr hhh
  by_cases hr0 : r = 0
  · subst hr0
    have HF2 : Hid (fnd s.d L k [k] = if hh = true then 0 else 13) := by
      show _ = _
      rw [HF.out, if_neg (by decide)]
    clear HF
    cases hh
    · go_enter Try.func71, Try.ntmps71
      go_wp2_with (first
      | (at_builtin; refine Lib.wpList_append_run _ rfl _ _ 54 54 rfl _ _ rfl rfl _ _ HR1.out ?_)
      | (go_at_call 60; (with_reducible refine HRD.out.mono ?_); rintro e3 w3 ⟨rfl, hb3⟩
         have HB3 : Hid (Below w.heap.size w w3) := HB1.out.trans (hb3.mono HB1.out.size)
         have c5 := (blk_cells (HS.out.below HB3.out).blk).1.2.2.2.2.2
         have hlk := HLK.out w3 (HS.out.below HB3.out)
         clear hb3))
      go_ret
      exact ⟨ret_int HF2.out.symm, HB3.out⟩
    · go_enter Try.func71, Try.ntmps71
      go_wp2_with (first
      | (at_builtin; refine Lib.wpList_append_run _ rfl _ _ 54 54 rfl _ _ rfl rfl _ _ HR1.out ?_)
      | (go_at_call 60; (with_reducible refine HRD.out.mono ?_); rintro e3 w3 ⟨rfl, hb3⟩
         have HB3 : Hid (Below w.heap.size w w3) := HB1.out.trans (hb3.mono HB1.out.size)
         have c5 := (blk_cells (HS.out.below HB3.out).blk).1.2.2.2.2.2
         have hlk := HLK.out w3 (HS.out.below HB3.out)
         clear hb3))
      go_ret
      exact ⟨ret_int HF2.out.symm, HB3.out⟩
  · have hrb : (r != 0) = true := by simpa using hr0
    have HF2 : Hid (fnd s.d L k [k] = r) := by
      show _ = _
      rw [HF.out, if_pos hr0]
    clear HF
    go_enter Try.func71, Try.ntmps71
    go_wp2_with (first
      | (at_builtin; refine Lib.wpList_append_run _ rfl _ _ 54 54 rfl _ _ rfl rfl _ _ HR1.out ?_)
      | (go_at_call 60; (with_reducible refine HRD.out.mono ?_); rintro e3 w3 ⟨rfl, hb3⟩
         have HB3 : Hid (Below w.heap.size w w3) := HB1.out.trans (hb3.mono HB1.out.size)
         have c5 := (blk_cells (HS.out.below HB3.out).blk).1.2.2.2.2.2
         have hlk := HLK.out w3 (HS.out.below HB3.out)
         clear hb3))
    go_ret
    exact ⟨ret_int HF2.out.symm, HB3.out⟩
end Go.Proofs.Ytklngdmpledgeaa.Sr
