/-
  A nil journal's answers; no store, no journal. Conditions: none.
-/
import Derived.Test.YtjijgoflbjbnfaaGreatVM23
import Derived.Test.YtjijgoflbjbnfaaGreatVM15
import Derived.Test.YtjijgoflbjbnfaaGreatVM28
import Derived.Test.YtjijgoflbjbnfaaGreatVM30
namespace Go.Proofs.YtjijgoflbjbnfaaGreat.Jo
open Go.RowKit Go.Shelf Fr Sr
attribute [local go_sem] Oper.semAt_some

def nilJ : Obj := .cells #[.pointer none, .bool false, .pointer none, .int .i64 0] 95
theorem nilj_blk (w : World) : (w.alloc nilJ).heap[w.heap.size]? = some (.cells #[.pointer none, .bool false, .pointer none, .int .i64 0] 95 (0, 0)) := block_new _ _
theorem nilj_bel (w : World) : Below w.heap.size w (w.alloc nilJ) := alloc_below _ _
set_option maxRecDepth 100000 in
theorem orNone_nil (w : World) : Calls Tryz.prog 64 #[.pointer none] w fun e w' => e = .returned (.pointer (some ⟨w.heap.size, 0, none⟩)) ∧ w' = w.alloc nilJ := by
  go_enter Tryz.func64, Tryz.ntmps64
  go_wp2
  go_ret
  exact ⟨rfl, rfl⟩
set_option maxRecDepth 100000 in
theorem sound_nil (w : World) : Calls Tryz.prog 56 #[.pointer none] w fun e w' => e = .returned (.bool false) ∧ Below w.heap.size w w' := by
  obtain ⟨W, hW⟩ : ∃ W, W = w.alloc nilJ := ⟨_, rfl⟩
  have ho := orNone_nil w
  have hb := nilj_blk w
  have hl := nilj_bel w
  rw [← hW] at ho hb hl
  obtain ⟨⟨c0, c1, c2, c3⟩, _⟩ := four hb
  have HO := Lib.hid ho
  have HL := Lib.hid hl
  clear ho hb hl hW
  go_enter Tryz.func56, Tryz.ntmps56
  go_wp2_with (go_at_call 64; (with_reducible refine HO.out.mono ?_); rintro e w' ⟨rfl, rfl⟩)
  go_ret
  exact ⟨rfl, HL.out⟩
set_option maxRecDepth 100000 in
theorem next_nil (w : World) : Calls Tryz.prog 40 #[.pointer none] w fun e w' => e = .returned (.int .i64 0) ∧ Below w.heap.size w w' := by
  obtain ⟨W, hW⟩ : ∃ W, W = w.alloc nilJ := ⟨_, rfl⟩
  have ho := orNone_nil w
  have hb := nilj_blk w
  have hl := nilj_bel w
  rw [← hW] at ho hb hl
  obtain ⟨⟨c0, c1, c2, c3⟩, _⟩ := four hb
  have HO := Lib.hid ho
  have HL := Lib.hid hl
  clear ho hb hl hW
  go_enter Tryz.func40, Tryz.ntmps40
  go_wp2_with (go_at_call 64; (with_reducible refine HO.out.mono ?_); rintro e w' ⟨rfl, rfl⟩)
  go_ret
  exact ⟨rfl, HL.out⟩
set_option maxRecDepth 100000 in
theorem append_nil (w : World) (v : Value) : Calls Tryz.prog 29 #[.pointer none, v] w fun e w' => e = .returned (.tuple #[.int .i64 0, .int .i64 10]) ∧ Below w.heap.size w w' := by
  have HS := Lib.hid (sound_nil w)
  go_enter Tryz.func29, Tryz.ntmps29
  go_wp2_with (go_at_call 56; (with_reducible refine HS.out.mono ?_); rintro e w' ⟨rfl, hb⟩; have HB := Lib.hid hb; clear hb)
  go_ret2
  exact ⟨rfl, HB.out⟩
set_option maxRecDepth 100000 in
theorem start_nil (w : World) (n : Int) : Calls Tryz.prog 55 #[.pointer none, .int .i64 n] w fun e w' => e = .returned (.int .i64 10) ∧ Below w.heap.size w w' := by
  have HS := Lib.hid (sound_nil w)
  go_enter Tryz.func55, Tryz.ntmps55
  go_wp2_with (go_at_call 56; (with_reducible refine HS.out.mono ?_); rintro e w' ⟨rfl, hb⟩; have HB := Lib.hid hb; clear hb)
  go_ret
  exact ⟨rfl, HB.out⟩
set_option maxRecDepth 100000 in
theorem trim_nil (w : World) (n : Int) : Calls Tryz.prog 34 #[.pointer none, .int .i64 n] w fun e w' => e = .returned (.int .i64 10) ∧ Below w.heap.size w w' := by
  have HS := Lib.hid (sound_nil w)
  go_enter Tryz.func34, Tryz.ntmps34
  go_wp2_with (go_at_call 56; (with_reducible refine HS.out.mono ?_); rintro e w' ⟨rfl, hb⟩; have HB := Lib.hid hb; clear hb)
  go_ret
  exact ⟨rfl, HB.out⟩
set_option maxRecDepth 100000 in
theorem get_nil (w : World) (n : Int) : Calls Tryz.prog 39 #[.pointer none, .int .i64 n] w fun e w' => e = .returned (.tuple #[.slice none 0 0, .int .i64 13]) ∧ Below w.heap.size w w' := by
  obtain ⟨W, hW⟩ : ∃ W, W = w.alloc nilJ := ⟨_, rfl⟩
  have ho := orNone_nil w
  have hb := nilj_blk w
  have hl := nilj_bel w
  rw [← hW] at ho hb hl
  obtain ⟨⟨c0, c1, c2, c3⟩, _⟩ := four hb
  have hg : Calls Tryz.prog 65 #[.pointer none, .int .i64 n] W fun e w' => e = .returned (.tuple #[Tb.Ib.ev (Tb.Ib.getL ([] : List Xr) n), .bool false]) ∧ Below W.heap.size W w' := Tb.Ib.get_any W none [] n (.inl ⟨rfl, rfl⟩) List.Pairwise.nil (Nat.zero_le _)
  have HG := Lib.hid hg
  have HO := Lib.hid ho
  have HL := Lib.hid hl
  clear ho hb hl hW hg
  go_enter Tryz.func39, Tryz.ntmps39
  go_wp2_with (first
    | (go_at_call 65; (with_reducible refine HG.out.mono ?_); rintro e w2 ⟨rfl, hb⟩; have HB := Lib.hid hb; clear hb)
    | (go_at_call 64; (with_reducible refine HO.out.mono ?_); rintro e w' ⟨rfl, rfl⟩))
  go_ret2
  exact ⟨rfl, HL.out.trans (HB.out.mono HL.out.size)⟩
set_option maxRecDepth 100000 in
theorem first_nil (w : World) : Calls Tryz.prog 54 #[.pointer none] w fun e w' => e = .returned (.int .i64 0) ∧ Below w.heap.size w w' := by
  obtain ⟨W, hW⟩ : ∃ W, W = w.alloc nilJ := ⟨_, rfl⟩
  have ho := orNone_nil w
  have hb := nilj_blk w
  have hl := nilj_bel w
  rw [← hW] at ho hb hl
  obtain ⟨⟨c0, c1, c2, c3⟩, _⟩ := four hb
  have hg : Calls Tryz.prog 84 #[.pointer none, .int .i64 0] W fun e w' => e = .returned (.tuple #[.agg #[.int .i64 0, .slice none 0 0], .bool false]) ∧ Below W.heap.size W w' := Tb.Ib.at_none W none [] 0 (.inl ⟨rfl, rfl⟩) (Nat.zero_le _) (.inr (Int.le_refl _))
  have HG := Lib.hid hg
  have HO := Lib.hid ho
  have HL := Lib.hid hl
  clear ho hb hl hW hg
  go_enter Tryz.func54, Tryz.ntmps54
  go_wp2_with (first
    | (go_at_call 40; (with_reducible refine HN.out.mono ?_); rintro e w5 ⟨rfl, hb⟩; have HB := Lib.hid hb; clear hb)
    | (go_at_call 84; (with_reducible refine HG.out.mono ?_); rintro e w2 ⟨rfl, hb⟩
       have HB2 := Lib.hid hb
       clear hb
       have HN := Lib.hid (next_nil (w2.alloc (.cells #[.int .i64 0, .slice none 0 0] 100))))
    | (go_at_call 64; (with_reducible refine HO.out.mono ?_); rintro e w' ⟨rfl, rfl⟩))
  go_ret
  have h1 := HL.out.size
  have h2 := HB2.out.size
  exact ⟨rfl, HL.out.trans ((HB2.out.mono h1).trans (((alloc_below w2 _).mono (Nat.le_trans h1 h2)).trans (HB.out.mono (by simp; omega))))⟩
set_option maxRecDepth 100000 in
theorem open_nil (w : World) : Calls Tryz.prog 26 #[.pointer none] w fun e w' => e = .returned (.tuple #[.pointer none, .int .i64 14]) ∧ Below w.heap.size w w' := by
  obtain ⟨W, hW⟩ : ∃ W, W = w.alloc (.cells #[.pointer none, .bool true] 91) := ⟨_, rfl⟩
  have hd := nil_down W
  have hl : Below w.heap.size w W := by rw [hW]; exact alloc_below _ _
  have c0 : W.cell? ⟨w.heap.size, 0, none⟩ = some (.pointer none) := by
    rw [hW]; exact (block_cell2 (block_new w (.cells #[.pointer none, .bool true] 91))).1.1
  have HD := Lib.hid hd
  have HL := Lib.hid hl
  have HW := Lib.hid hW
  clear hd hl hW
  go_enter Tryz.func26, Tryz.ntmps26
  go_upto_region 2 with fail
  rw [← HW.out]
  go_wp2_with (go_at_call 48; (with_reducible refine HD.out.mono ?_); rintro e w2 ⟨rfl, hb⟩; have HB := Lib.hid hb; clear hb)
  go_ret2
  exact ⟨rfl, HL.out.trans (HB.out.mono HL.out.size)⟩
set_option maxRecDepth 100000 in
/-- Of a store that is down there is no journal. -/
theorem open_down {w : World} {p : Nat} {st : S} {mb : Option Nat} {L : List Fi} (h : StR w p st mb L) (hd : st.d = true) : Calls Tryz.prog 26 #[.pointer (some ⟨p, 0, none⟩)] w fun e w' => e = .returned (.tuple #[.pointer none, .int .i64 14]) ∧ Below w.heap.size w w' := by
  obtain ⟨W, hW⟩ : ∃ W, W = w.alloc (.cells #[.pointer (some ⟨p, 0, none⟩), .bool true] 91) := ⟨_, rfl⟩
  have hl : Below w.heap.size w W := by rw [hW]; exact alloc_below _ _
  have hdn := down_own W p st mb (h.below hl).blk
  rw [hd] at hdn
  have c0 : W.cell? ⟨w.heap.size, 0, none⟩ = some (.pointer (some ⟨p, 0, none⟩)) := by
    rw [hW]; exact (block_cell2 (block_new w (.cells #[.pointer (some ⟨p, 0, none⟩), .bool true] 91))).1.1
  have HD := Lib.hid hdn
  have HL := Lib.hid hl
  have HW := Lib.hid hW
  clear hdn hl hW h hd
  go_enter Tryz.func26, Tryz.ntmps26
  go_upto_region 2 with fail
  rw [← HW.out]
  go_wp2_with (go_at_call 48; (with_reducible refine HD.out.mono ?_); rintro e w2 ⟨rfl, rfl⟩)
  go_ret2
  exact ⟨rfl, HL.out⟩
end Go.Proofs.YtjijgoflbjbnfaaGreat.Jo

namespace Go.Proofs.YtjijgoflbjbnfaaGreat.Jo
open Go.RowKit Go.Shelf Fr Sr
attribute [local go_sem] Oper.semAt_some

def NI (w : World) (s : List Xr) (W : World) : Prop := s = [] ∧ Boxed W w.heap.size 31 (.slice none 0 0) ∧ Below w.heap.size w W
theorem NI.from {w : World} {N : Nat} (hN : w.heap.size ≤ N) : OwnFrom N (NI w) := fun s X Y row h hg hr => by
  obtain ⟨h1, h2, h3⟩ := h
  have ho : Off (fun i => row = some i) X Y := Off.of_grown (T := fun i => row = some i) hg fun i e => e
  refine ⟨h1, (ho.2 _ h2.lt (fun e => ?_)).trans h2, h3.trans ⟨ho.1.os, ho.1.tape, ho.1.output, ho.1.size, fun i hi => ho.2 i (Nat.lt_of_lt_of_le hi h3.size) (fun e => by have := (hr i e).1; omega)⟩⟩
  obtain ⟨_, o, h4, h5⟩ := hr _ e
  have h6 : X.heap[w.heap.size]? = some (.cells #[.slice none 0 0] 31 (0, 0)) := h2
  rw [h6] at h4
  cases h4; cases h5
set_option maxRecDepth 100000 in
set_option maxHeartbeats 4000000 in
theorem records_nil (w : World) (k : Int) : Calls Tryz.prog 97 #[.pointer none, .int .i64 k] w fun e w' => e = .returned (.slice none 0 0) ∧ Below w.heap.size w w' := by
  obtain ⟨W1, hW1⟩ : ∃ W1, W1 = w.alloc (.cells #[.slice none 0 0] 31) := ⟨_, rfl⟩
  have hal : Below w.heap.size w W1 := by rw [hW1]; exact alloc_below _ _
  have hlb : Boxed W1 w.heap.size 31 (.slice none 0 0) := by rw [hW1]; exact Boxed.new _ _ _
  obtain ⟨W2, hW2⟩ : ∃ W2, W2 = W1.alloc nilJ := ⟨_, rfl⟩
  have hb2 := nilj_blk W1
  have hl2 := nilj_bel W1
  have hno := orNone_nil W1
  have hz1 : W1.heap.size = w.heap.size + 1 := by rw [hW1]; simp
  rw [← hW2] at hb2 hl2 hno
  obtain ⟨⟨c0, c1, c2, c3⟩, _⟩ := four hb2
  have HW1 := Lib.hid hW1
  have HZ1 := Lib.hid hz1
  have HNO := Lib.hid hno
  have H2 : Hid (Below w.heap.size w W2) := hal.trans (hl2.mono hal.size)
  have HL2 := Lib.hid (block_kept hlb hl2)
  clear hW1 hal hlb hW2 hb2 hl2 hno hz1 c0 c1 c3
  refine (callsIn_wide (n := 10)).1 ?_
  refine callsIn_of_wp_marks Tryz.func97 rfl trivial ?_ rfl
  simp only [Tryz.ntmps97, List.size_toArray, List.length_cons, List.length_nil, Nat.reduceAdd, Nat.reduceSub, Array.replicate_succ, Array.replicate_zero, List.push_toArray, List.append_toArray, List.nil_append, List.cons_append]
  gi_wp2_with (first
    | (refine ⟨trivial, ?_⟩; gi_at_call 60; refine (callsIn_wide.2 (Tb.Ib.from_any _ _ _)).mono ?_; rintro e w' ⟨rfl, rfl⟩)
    | (refine ⟨trivial, ?_⟩; gi_at_call 64; rw [← HW1.out]; refine (callsIn_wide.2 HNO.out).mono ?_; rintro e w' ⟨rfl, hw'⟩; have hw2 := hw'.symm; clear hw'; subst hw2))
  obtain ⟨W3, hW3⟩ : ∃ W3, W3 = (W2.alloc (.cells #[.pointer none] 92)).alloc (.cells #[.int .i64 k] 3) := ⟨_, rfl⟩
  have h23 : Below W2.heap.size W2 W3 := by rw [hW3]; exact ((Below.refl _ _).alloc (Nat.le_refl _) _).alloc (by simp) _
  have hw3 : Below w.heap.size w W3 := H2.out.trans (h23.mono H2.out.size)
  have b1 : W3.heap[W2.heap.size]? = some (.cells #[.pointer none] 92 (0, 0)) := by
    rw [hW3]; exact block_old (block_new W2 _) _
  have b2 : W3.heap[W2.heap.size + 1]? = some (.cells #[.int .i64 k] 3 (0, 0)) := by
    rw [hW3]
    have := block_new (W2.alloc (.cells #[.pointer none] 92)) (.cells #[.int .i64 k] 3)
    rwa [World.size_alloc] at this
  have hz3 : W3.heap.size = W2.heap.size + 1 + 1 := by rw [hW3]; simp
  have hz2 : w.heap.size ≤ W2.heap.size := H2.out.size
  rw [← hW3]
  clear hW3
  have hI0 : NI w [] W3 := ⟨rfl, block_kept HL2.out h23, hw3⟩
  have hseq := from1_g (10 - 1) (by decide) (fun s : List Xr => s) (fun _ k => k ≠ w.heap.size) W2.heap.size w W3 none k [] (.inl ⟨rfl, rfl⟩) List.Pairwise.nil (Nat.zero_le _) hw3 b1 b2
  refine' range_g (β := List Xr) (seen := fun s => s) (K := fun _ k => k ≠ w.heap.size) (C := Lo w.heap.size) (E := fun _ _ => True) (key := tkey) (R := tR) (S := Tb.fromL [] k) (fun h _ => h) rfl (by decide) (gf := 93) (lb := #[.pointer (some ⟨W2.heap.size, 0, none⟩), .pointer (some ⟨W2.heap.size + 1, 0, none⟩)]) rfl trivial (enters_of Tryz.func93 (by kernel_rfl) rfl)
    (B := w.heap.size) (by omega) hseq rfl (NI w) (fun _ _ _ => False) (NI.from (by omega)) (fun _ _ _ _ _ h _ _ => h) (fun s W' h i hi => by have := h.2.1.lt; omega) (fun _ _ _ _ _ _ => trivial) [] rfl hI0 (fun i hi => by omega) _ ?assign ?body ?done ?stop
  case assign =>
    intro l x v W K hK
    gi_wp2
    exact hK
  case stop =>
    rintro D c s r W _ _ h _
    exact h.elim
  case body =>
    rintro l2 s x u W hI hu ⟨r, hr⟩
    have h1 : Tb.fromL ([] : List Xr) k = [] := by simp [Tb.fromL]
    rw [h1] at hr
    simp at hr
  case done =>
    rintro D s W hD hs hI hK
    have x0 := hI.2.1.cell
    have HI := Lib.hid hI
    have HK := Lib.hid hK
    have HD := Lib.hid hD
    clear hs hI hK hD
    gi_wp2
    refine ⟨by simp, .inl ⟨_, _, rfl, run_takeDeferred HK.out, ?_⟩⟩
    refine ⟨_, results_tmp rfl _ _ _, rfl, ?_⟩
    exact ((NI.from (Nat.le_refl w.heap.size)).putObj (.deferred none) HI.out (by have := HD.out; omega) HK.out rfl).2.2
end Go.Proofs.YtjijgoflbjbnfaaGreat.Jo

namespace Go.Proofs.YtjijgoflbjbnfaaGreat.Vt
open Go.RowKit Go.Shelf Fr Sr Jo
attribute [local go_sem] Oper.semAt_some

def nilV : Obj := .cells #[.pointer none, .slice none 0 0, .pointer none, .int .i64 0, .bool false] 67
theorem nilv_blk (w : World) : (w.alloc nilV).heap[w.heap.size]? = some (.cells #[.pointer none, .slice none 0 0, .pointer none, .int .i64 0, .bool false] 67 (0, 0)) := block_new _ _
theorem nilv_bel (w : World) : Below w.heap.size w (w.alloc nilV) := alloc_below _ _
set_option maxRecDepth 100000 in
theorem vorNone_nil (w : World) : Calls Tryz.prog 31 #[.pointer none] w fun e w' => e = .returned (.pointer (some ⟨w.heap.size, 0, none⟩)) ∧ w' = w.alloc nilV := by
  go_enter Tryz.func31, Tryz.ntmps31
  go_wp2
  go_ret
  exact ⟨rfl, rfl⟩
set_option maxRecDepth 100000 in
theorem vsound_nil (w : World) : Calls Tryz.prog 19 #[.pointer none] w fun e w' => e = .returned (.bool false) ∧ Below w.heap.size w w' := by
  obtain ⟨W, hW⟩ : ∃ W, W = w.alloc nilV := ⟨_, rfl⟩
  have ho := vorNone_nil w
  have hb := nilv_blk w
  have hl := nilv_bel w
  rw [← hW] at ho hb hl
  obtain ⟨⟨c0, c1, c2, c3, c4⟩, _⟩ := five hb
  have HO := Lib.hid ho
  have HL := Lib.hid hl
  clear ho hb hl hW
  go_enter Tryz.func19, Tryz.ntmps19
  go_wp2_with (go_at_call 31; (with_reducible refine HO.out.mono ?_); rintro e w' ⟨rfl, rfl⟩)
  go_ret
  exact ⟨rfl, HL.out⟩
set_option maxRecDepth 100000 in
theorem vadd_nil (w : World) (v : Value) : Calls Tryz.prog 10 #[.pointer none, v] w fun e w' => e = .returned (.int .i64 10) ∧ Below w.heap.size w w' := by
  have HS := Lib.hid (vsound_nil w)
  go_enter Tryz.func10, Tryz.ntmps10
  go_wp2_with (go_at_call 19; (with_reducible refine HS.out.mono ?_); rintro e w' ⟨rfl, hb⟩; have HB := Lib.hid hb; clear hb)
  go_ret
  exact ⟨rfl, HB.out⟩
set_option maxRecDepth 100000 in
theorem vpack_nil (w : World) : Calls Tryz.prog 12 #[.pointer none] w fun e w' => e = .returned (.int .i64 10) ∧ Below w.heap.size w w' := by
  have HS := Lib.hid (vsound_nil w)
  go_enter Tryz.func12, Tryz.ntmps12
  go_wp2_with (go_at_call 19; (with_reducible refine HS.out.mono ?_); rintro e w' ⟨rfl, hb⟩; have HB := Lib.hid hb; clear hb)
  go_ret
  exact ⟨rfl, HB.out⟩
set_option maxRecDepth 100000 in
theorem vlen_nil (w : World) : Calls Tryz.prog 20 #[.pointer none] w fun e w' => e = .returned (.int .i64 0) ∧ Below w.heap.size w w' := by
  obtain ⟨W, hW⟩ : ∃ W, W = w.alloc nilV := ⟨_, rfl⟩
  have ho := vorNone_nil w
  have hb := nilv_blk w
  have hl := nilv_bel w
  rw [← hW] at ho hb hl
  obtain ⟨⟨c0, c1, c2, c3, c4⟩, _⟩ := five hb
  have HN := Lib.hid (next_nil W)
  have HO := Lib.hid ho
  have HL := Lib.hid hl
  clear ho hb hl hW
  go_enter Tryz.func20, Tryz.ntmps20
  go_wp2_with (first
    | (go_at_call 40; (with_reducible refine HN.out.mono ?_); rintro e w2 ⟨rfl, hb⟩; have HB := Lib.hid hb; clear hb)
    | (go_at_call 31; (with_reducible refine HO.out.mono ?_); rintro e w' ⟨rfl, rfl⟩))
  go_ret
  exact ⟨rfl, HL.out.trans (HB.out.mono HL.out.size)⟩
set_option maxRecDepth 100000 in
theorem vget_nil (w : World) (i : Int) : Calls Tryz.prog 17 #[.pointer none, .int .i64 i] w fun e w' => e = .returned (.tuple #[.slice none 0 0, .int .i64 13]) ∧ Below w.heap.size w w' := by
  obtain ⟨W, hW⟩ : ∃ W, W = w.alloc nilV := ⟨_, rfl⟩
  have ho := vorNone_nil w
  have hb := nilv_blk w
  have hl := nilv_bel w
  rw [← hW] at ho hb hl
  obtain ⟨⟨c0, c1, c2, c3, c4⟩, _⟩ := five hb
  have HN := Lib.hid (get_nil W i)
  have HO := Lib.hid ho
  have HL := Lib.hid hl
  clear ho hb hl hW
  have hc : i < 0 ∨ (0 ≤ i ∧ ¬ i < 0) := by omega
  rcases hc with t1 | ⟨t1, t2⟩
  · have t2 : ¬ 0 ≤ i := by omega
    go_enter Tryz.func17, Tryz.ntmps17
    go_wp2_with (first
      | (go_at_call 39; (with_reducible refine HN.out.mono ?_); rintro e w2 ⟨rfl, hb⟩; have HB := Lib.hid hb; clear hb)
      | (go_at_call 31; (with_reducible refine HO.out.mono ?_); rintro e w' ⟨rfl, rfl⟩))
    go_ret2
    exact ⟨rfl, HL.out.trans (HB.out.mono HL.out.size)⟩
  · go_enter Tryz.func17, Tryz.ntmps17
    go_wp2_with (first
      | (go_at_call 39; (with_reducible refine HN.out.mono ?_); rintro e w2 ⟨rfl, hb⟩; have HB := Lib.hid hb; clear hb)
      | (go_at_call 31; (with_reducible refine HO.out.mono ?_); rintro e w' ⟨rfl, rfl⟩))
    go_ret2
    exact ⟨rfl, HL.out.trans (HB.out.mono HL.out.size)⟩
set_option maxRecDepth 100000 in
theorem vspare_nil (w : World) : Calls Tryz.prog 11 #[.pointer none] w fun e w' => e = .returned (.int .i64 0) ∧ Below w.heap.size w w' := by
  obtain ⟨W, hW⟩ : ∃ W, W = w.alloc nilV := ⟨_, rfl⟩
  have ho := vorNone_nil w
  have hb := nilv_blk w
  have hl := nilv_bel w
  rw [← hW] at ho hb hl
  obtain ⟨⟨c0, c1, c2, c3, c4⟩, _⟩ := five hb
  obtain ⟨W1, hW1⟩ : ∃ W1, W1 = W.alloc (.cells #[.pointer none, .slice none 0 0] 63) := ⟨_, rfl⟩
  have hal : Below W.heap.size W W1 := by rw [hW1]; exact alloc_below _ _
  have c9 : W1.cell? ⟨W.heap.size, 0, none⟩ = some (.pointer none) := by rw [hW1]; exact (block_cell2 (block_new W (.cells #[.pointer none, .slice none 0 0] 63))).1.1
  have HRM : ∀ V : InW W1, Calls Tryz.prog 32 #[.pointer none] V.val fun e w'' => e = .returned (.int .i64 0) ∧ ∃ q : InW W1, w'' = q.val := fun V => calls_in (nil_room V.val)
  have HUS : ∀ V : InW W1, Calls Tryz.prog 21 #[.pointer none] V.val fun e w'' => e = .returned (.int .i64 0) ∧ ∃ q : InW W1, w'' = q.val := fun V => calls_in (nil_used V.val)
  have D9 : ∀ V : InW W1, V.val.cell? ⟨W.heap.size, 0, none⟩ = some (.pointer none) := fun V => V.cell c9
  have HO := Lib.hid ho
  have HL := Lib.hid (hl.trans (hal.mono hl.size))
  have HW1 := Lib.hid hW1
  clear ho hb hl hW hal c9 hW1
  go_enter Tryz.func11, Tryz.ntmps11
  go_upto_region 2 with (go_at_call 31; (with_reducible refine HO.out.mono ?_); rintro e w' ⟨rfl, rfl⟩)
  rw [← HW1.out]
  refine wp_region_below (W := W1) (by kernel_rfl) (by kernel_rfl) (Below.refl _ _) ?_
  repeat (go_big_quiet_step ((first | (go_at_call 32; with_reducible exact HRM _) | (go_at_call 21; with_reducible exact HUS _))))
  refine wpQuiet_nil ?_
  rintro _ ⟨qq, rfl⟩
  obtain ⟨w8, hb8⟩ := qq
  try dsimp only
  have HB := Lib.hid (HL.out.trans (hb8.mono HL.out.size))
  clear hb8 D9 HRM HUS
  go_wp2
  go_ret
  exact ⟨rfl, HB.out⟩
set_option maxRecDepth 100000 in
theorem vopen_nil (w : World) : Calls Tryz.prog 9 #[.pointer none] w fun e w' => e = .returned (.tuple #[.pointer none, .int .i64 14]) ∧ Below w.heap.size w w' := by
  have HO := Lib.hid (open_nil w)
  go_enter Tryz.func9, Tryz.ntmps9
  go_wp2_with (go_at_call 26; (with_reducible refine HO.out.mono ?_); rintro e w2 ⟨rfl, hb⟩; have HB := Lib.hid hb; clear hb)
  go_ret2
  exact ⟨rfl, HB.out⟩
set_option maxRecDepth 100000 in
theorem vrest_nil (w : World) (b : Nat) (h : w.heap[b]? = some (.cells #[.pointer none, .slice none 0 0, .pointer none, .int .i64 0, .bool false] 67 (0, 0))) : Calls Tryz.prog 63 #[.pointer (some ⟨b, 2, none⟩)] w fun e w' => e = .returned (.slice none 0 0) ∧ Below w.heap.size w w' := by
  obtain ⟨⟨c0, c1, c2, c3, c4⟩, _⟩ := five h
  have hvl : b < w.drew.heap.size := (Array.getElem?_eq_some_iff.1 h).1
  have HR := Lib.hid (records_nil w.drew 0)
  clear h
  go_enter Tryz.func63, Tryz.ntmps63
  go_upto_region 1 with fail
  go_region_held3 (fun w' => w'.cell? ⟨b, 2, none⟩ = some (.pointer none) ∧ w'.cell? ⟨b, 3, none⟩ = some (.int .i64 0))
    (first | (exact ⟨D2, D3⟩) | (exact ⟨c2, c3⟩) | go_keep)
    ((go_at_call 97; (with_reducible refine HR.out.mono ?_); rintro e w2 ⟨rfl, hb⟩; have D2 := (hb.cell (p := ⟨b, 2, none⟩) hvl).trans c2; have D3 := (hb.cell (p := ⟨b, 3, none⟩) hvl).trans c3; have HB := Lib.hid hb; clear hb))
  go_wp2
  go_ret
  exact ⟨rfl, ((Below.refl _ _).drew).trans HB.out⟩
end Go.Proofs.YtjijgoflbjbnfaaGreat.Vt

namespace Go.Proofs.YtjijgoflbjbnfaaGreat.Vt
open Go.RowKit Go.Shelf Fr Sr Jo
attribute [local go_sem] Oper.semAt_some
variable {β : Type}

set_option maxRecDepth 100000 in
set_option maxHeartbeats 4000000 in
theorem each1_nil (n : Nat) (hn6 : 6 ≤ n) (seen : β → List (List Int)) (K : β → Nat → Prop) (R : (Nat → Prop) → List Int → Value → World → Prop) (Bs b : Nat) {w : World} (hb : w.heap[b]? = some (.cells #[.pointer none, .slice none 0 0, .pointer none, .int .i64 0, .bool false] 67 (0, 0))) (hBs : w.heap[Bs]? = some (.cells #[.pointer (some ⟨b, 0, none⟩)] 28 (0, 0))) :
    VSeq seen K (fun _ => True) (fun _ _ => True) R Fence.wide n Tryz.prog 62 #[.pointer (some ⟨Bs, 0, none⟩)] [] w := by
  intro l J Jx W hW hJ hJx hJK _ hY s0 hs0 h0 hC
  have hb1 := (block_cell (block_kept hBs hW)).1
  have hbW := block_kept hb hW
  obtain ⟨⟨c0, c1, c2, c3, c4⟩, _⟩ := five hbW
  have HRE := Lib.hid (vrest_nil W b hbW)
  have HJ := Lib.hid hJ
  have H0 := Lib.hid (And.intro hs0 h0)
  have hn2 : 1 ≤ n := by omega
  clear hb hBs hY hJ hJx hJK h0 hs0 hW hbW hC
  refine callsIn_of_wp Tryz.func62 rfl trivial ?_ rfl
  simp only [Tryz.ntmps62, List.size_toArray, List.length_cons, List.length_nil, Nat.reduceAdd, Nat.reduceSub, Array.replicate_succ, Array.replicate_zero, List.push_toArray, List.append_toArray, List.nil_append, List.cons_append]
  gi_wp2
  gi_loopw [13] (fun i wr => i = .int .i64 0 ∧ W = wr) (fun _ _ => 0)
  case atStart => exact ⟨rfl, rfl⟩
  case round =>
    obtain ⟨rfl, rfl⟩ := hrel
    gi_wp2_with (refine ⟨trivial, ?_⟩; gi_at_call 63; refine (callsIn_wide.2 HRE.out).mono ?_; rintro e w4 ⟨rfl, hb4⟩; have HB4 := Lib.hid hb4; clear hb4)
    gi_loopw [28] (fun i wx => i = .int .i64 0 ∧ w4 = wx) (fun _ _ => 0)
    case atStart => exact ⟨rfl, rfl⟩
    case round =>
      obtain ⟨rfl, rfl⟩ := hrel
      gi_wp2
      go_end0
      exact ⟨⟨_, rfl⟩, .inl ⟨s0, H0.out.1, own_below HJ.out H0.out.2 HB4.out⟩⟩
def NIa (w : World) (s : List (List Int)) (W : World) : Prop := s = [] ∧ Boxed W w.heap.size 31 (.slice none 0 0) ∧ Below w.heap.size w W
theorem NIa.from {w : World} {N : Nat} (hN : w.heap.size ≤ N) : OwnFrom N (NIa w) := fun s X Y row h hg hr => by
  obtain ⟨h1, h2, h3⟩ := h
  have ho : Off (fun i => row = some i) X Y := Off.of_grown (T := fun i => row = some i) hg fun i e => e
  refine ⟨h1, (ho.2 _ h2.lt (fun e => ?_)).trans h2, h3.trans ⟨ho.1.os, ho.1.tape, ho.1.output, ho.1.size, fun i hi => ho.2 i (Nat.lt_of_lt_of_le hi h3.size) (fun e => by have := (hr i e).1; omega)⟩⟩
  obtain ⟨_, o, h4, h5⟩ := hr _ e
  have h6 : X.heap[w.heap.size]? = some (.cells #[.slice none 0 0] 31 (0, 0)) := h2
  rw [h6] at h4
  cases h4; cases h5
set_option maxRecDepth 100000 in
set_option maxHeartbeats 4000000 in
theorem vall_nil (w : World) : Calls Tryz.prog 16 #[.pointer none] w fun e w' => e = .returned (.slice none 0 0) ∧ Below w.heap.size w w' := by
  obtain ⟨W1, hW1⟩ : ∃ W1, W1 = w.alloc (.cells #[.slice none 0 0] 31) := ⟨_, rfl⟩
  have hal : Below w.heap.size w W1 := by rw [hW1]; exact alloc_below _ _
  have hlb : Boxed W1 w.heap.size 31 (.slice none 0 0) := by rw [hW1]; exact Boxed.new _ _ _
  obtain ⟨W2, hW2⟩ : ∃ W2, W2 = W1.alloc nilV := ⟨_, rfl⟩
  have hno := vorNone_nil W1
  have hb2 := nilv_blk W1
  have hl2 := nilv_bel W1
  have hz1 : W1.heap.size = w.heap.size + 1 := by rw [hW1]; simp
  rw [← hW2] at hb2 hl2 hno
  have HW1 := Lib.hid hW1
  have HNO := Lib.hid hno
  have HB2 := Lib.hid hb2
  have H2 : Hid (Below w.heap.size w W2) := hal.trans (hl2.mono hal.size)
  have HL2 := Lib.hid (block_kept hlb hl2)
  have HZ := Lib.hid (And.intro hz1 hl2.size)
  clear hW1 hal hlb hW2 hb2 hl2 hno hz1
  refine (callsIn_wide (n := 10)).1 ?_
  refine callsIn_of_wp_marks Tryz.func16 rfl trivial ?_ rfl
  simp only [Tryz.ntmps16, List.size_toArray, List.length_cons, List.length_nil, Nat.reduceAdd, Nat.reduceSub, Array.replicate_succ, Array.replicate_zero, List.push_toArray, List.append_toArray, List.nil_append, List.cons_append]
  gi_wp2_with (first
    | (refine ⟨trivial, ?_⟩; gi_at_call 37; refine (callsIn_wide.2 (veach_any _ _)).mono ?_; rintro e w' ⟨rfl, rfl⟩)
    | (refine ⟨trivial, ?_⟩; gi_at_call 31; rw [← HW1.out]; refine (callsIn_wide.2 HNO.out).mono ?_; rintro e w' ⟨rfl, hw'⟩; have hw2 := hw'.symm; clear hw'; subst hw2))
  obtain ⟨W3, hW3⟩ : ∃ W3, W3 = W2.alloc (.cells #[.pointer (some ⟨W1.heap.size, 0, none⟩)] 28) := ⟨_, rfl⟩
  have h23 : Below W2.heap.size W2 W3 := by rw [hW3]; exact alloc_below _ _
  have hw3 : Below w.heap.size w W3 := H2.out.trans (h23.mono H2.out.size)
  have b1 : W3.heap[W2.heap.size]? = some (.cells #[.pointer (some ⟨W1.heap.size, 0, none⟩)] 28 (0, 0)) := by
    rw [hW3]; exact block_new _ _
  have hz3 : w.heap.size < W3.heap.size := by have := HZ.out.1; have := HZ.out.2; have := h23.size; omega
  rw [← hW3]
  clear hW3
  have hI0 : NIa w [] W3 := ⟨rfl, block_kept HL2.out h23, hw3⟩
  have hseq := each1_nil (10 - 1) (by decide) (fun s : List (List Int) => s) (fun _ k => k ≠ w.heap.size) (eR 0) W2.heap.size W1.heap.size (block_kept HB2.out h23) b1
  refine' range_v (β := List (List Int)) (seen := fun s => s) (K := fun _ k => k ≠ w.heap.size) (C := fun _ => True) (E := fun _ _ => True) (R := eR 0) (S := []) (fun h hk => eR_put h hk) rfl (by decide) (gf := 62) (lb := #[.pointer (some ⟨W2.heap.size, 0, none⟩)]) rfl trivial (enters_of Tryz.func62 (by kernel_rfl) rfl)
    (B := w.heap.size) (by omega) hseq rfl (NIa w) (fun _ _ _ => False) (NIa.from (by omega)) (fun _ _ _ _ _ h _ _ => h) (fun s W' h i hi => by have := h.2.1.lt; omega) (fun _ _ _ _ _ _ => trivial) [] rfl hI0 trivial _ ?assign ?body ?done ?stop
  case assign =>
    intro l x v W K hK
    gi_wp2
    exact hK
  case stop =>
    rintro D c s r W _ _ h _
    exact h.elim
  case body =>
    rintro l2 s x u W hI hu ⟨r, hr⟩
    simp at hr
  case done =>
    rintro D s W hD hs hI hK
    have x0 := hI.2.1.cell
    have HI := Lib.hid hI
    have HK := Lib.hid hK
    have HD := Lib.hid hD
    clear hs hI hK hD
    gi_wp2
    refine ⟨by simp, .inl ⟨_, _, rfl, run_takeDeferred HK.out, ?_⟩⟩
    refine ⟨_, results_tmp rfl _ _ _, rfl, ?_⟩
    exact ((NIa.from (Nat.le_refl w.heap.size)).putObj (.deferred none) HI.out (by have := HD.out; omega) HK.out rfl).2.2
end Go.Proofs.YtjijgoflbjbnfaaGreat.Vt

namespace Go.Proofs.YtjijgoflbjbnfaaGreat.Jo
open Go.RowKit Fr Sr

set_option maxRecDepth 100000 in
set_option maxHeartbeats 2000000 in
theorem bsame_any (w : World) (u v : Value) (l m : List Int) (hu : BAt w u l) (hv : BAt w v m) (hn : l.length ≤ 2000000) (hm : m.length ≤ 2000000) :
    Calls Tryz.prog 18 #[u, v] w fun e w' => e = .returned (.bool (decide (l = m))) ∧ Below w.heap.size w w' := by
  obtain ⟨A, cap, rfl, k1, h1⟩ := hu
  obtain ⟨A', cap', rfl, k2, h2⟩ := hv
  obtain ⟨n, hn2⟩ : ∃ n, n = l.length := ⟨_, rfl⟩
  obtain ⟨n', hn3⟩ : ∃ n', n' = m.length := ⟨_, rfl⟩
  obtain ⟨q, hq⟩ : ∃ q, q = decide (l = m) := ⟨_, rfl⟩
  rw [← hn2] at h1 hn k1 ⊢
  rw [← hn3] at h2 hm k2 ⊢
  rw [← hq]
  have H1 := Lib.hid h1
  have H2 := Lib.hid h2
  have HQ := Lib.hid hq
  have HL := Lib.hid (And.intro hn2 hn3)
  have e0 : (0 : Int) ≤ (n : Int) := by omega
  clear h1 h2 hn2 hn3 hq
  by_cases hnn : n = n'
  · subst hnn
    go_enter Tryz.func18, Tryz.ntmps18
    go_wp2
    go_loopg [5] n (fun (gh : Nat) s5 wx => ∃ i : Nat, gh = n - i ∧ i ≤ n ∧ s5 = .int .i64 (i : Int) ∧ Below w.heap.size w wx ∧ Hid (∀ k, k < i → l.getD k 0 = m.getD k 0))
    case atStart => exact ⟨0, rfl, Nat.zero_le _, rfl, Below.refl _ _, fun k hk => absurd hk (Nat.not_lt_zero _)⟩
    case round =>
      obtain ⟨i, rfl, hi, rfl, hbel, HAll⟩ := hrel
      by_cases hlt : i < n
      · have t1 : (i : Int) < (n : Int) := by omega
        have t2 : (0 : Int) ≤ (i : Int) := by omega
        obtain ⟨g, o, rfl, lg, hc1⟩ := H1.out (by omega)
        obtain ⟨g', o', rfl, lg', hc3⟩ := H2.out (by omega)
        obtain ⟨r, hr⟩ : ∃ r, r = l.getD i 0 := ⟨_, rfl⟩
        obtain ⟨r', hr'⟩ : ∃ r', r' = m.getD i 0 := ⟨_, rfl⟩
        have c1 : wr.cell? ⟨g, o + i, none⟩ = some (.int .u8 r) := by rw [hr]; exact (hbel.cell (p := ⟨g, o + i, none⟩) lg).trans (hc1 i hlt)
        have c3 : wr.cell? ⟨g', o' + i, none⟩ = some (.int .u8 r') := by rw [hr']; exact (hbel.cell (p := ⟨g', o' + i, none⟩) lg').trans (hc3 i hlt)
        have HB := Lib.hid hbel
        have HR := Lib.hid (And.intro hr hr')
        clear hbel hr hr' hc1 hc3
        by_cases hrr : r = r'
        · have HRR := Lib.hid hrr
          subst hrr
          go_wp2_with fail
          go_quiet (fail)
          go_wp2
          go_roundg (n - (i + 1))
          case measure => omega
          case rel =>
            refine ⟨i + 1, rfl, hlt, by go_num, ⟨HB.out.os, HB.out.tape, HB.out.output, HB.out.size, HB.out.block⟩, fun k hk => ?_⟩
            by_cases hki : k = i
            · rw [hki, ← HR.out.1, ← HR.out.2]
            · exact HAll.out k (by omega)
        · have hq : q = false := by
            rw [HQ.out]
            refine decide_eq_false fun e => hrr ?_
            rw [HR.out.1, HR.out.2, e]
          have HQF := Lib.hid hq
          have hrb1 : (r == r') = false := by simpa using hrr
          have hrb2 : (r != r') = true := by simpa using hrr
          clear hq
          go_wp2_with fail
          go_quiet (fail)
          go_wp2
          go_ret
          exact ⟨by rw [HQF.out]; rfl, ⟨HB.out.os, HB.out.tape, HB.out.output, HB.out.size, HB.out.block⟩⟩
      · have hil : i = n := by omega
        subst hil
        have t1 : decide ((i : Int) < (i : Int)) = false := by simp
        have HB := Lib.hid hbel
        have hq : q = true := by
          rw [HQ.out]
          refine decide_eq_true (List.ext_getElem (by rw [← HL.out.1, ← HL.out.2]) fun k h3 h4 => ?_)
          have h5 := HAll.out k (by rw [HL.out.1]; exact h3)
          rw [List.getD_eq_getElem?_getD, List.getD_eq_getElem?_getD, List.getElem?_eq_getElem h3, List.getElem?_eq_getElem h4] at h5
          exact h5
        have HQT := Lib.hid hq
        clear hbel hq
        go_wp2
        go_ret
        exact ⟨by rw [HQT.out]; rfl, HB.out⟩
  · have hq : q = false := by
      rw [HQ.out]
      refine decide_eq_false fun e => hnn ?_
      rw [HL.out.1, HL.out.2, e]
    have hne : ¬ (n : Int) = (n' : Int) := by omega
    have HQF := Lib.hid hq
    clear hq
    go_enter Tryz.func18, Tryz.ntmps18
    go_wp2
    go_ret
    exact ⟨by rw [HQF.out]; rfl, Below.refl _ _⟩
end Go.Proofs.YtjijgoflbjbnfaaGreat.Jo

namespace Go.Proofs.YtjijgoflbjbnfaaGreat.Jo
open Go.RowKit Fr Sr

/-- A slice of slices that hold these bytes. -/
def RowsA (w : World) (v : Value) (bs : List (List Int)) : Prop := ∃ A cap, v = .slice A bs.length cap ∧ (0 < bs.length → ∃ g o, A = some ⟨g, o, none⟩ ∧ g < w.heap.size ∧ ∀ (i : Nat) (b : List Int), bs[i]? = some b → ∃ u, w.cell? ⟨g, o + i, none⟩ = some u ∧ BAt w u b)
/-- A slice of records. -/
def RecA (w : World) (v : Value) (rs : List Re) : Prop := ∃ A cap, v = .slice A rs.length cap ∧ (0 < rs.length → ∃ g o, A = some ⟨g, o, none⟩ ∧ g < w.heap.size ∧ ∀ (i : Nat) (r : Re), rs[i]? = some r → ∃ u, w.cell? ⟨g, o + i * 2, none⟩ = some (.int .i64 (r.1 : Int)) ∧ w.cell? ⟨g, o + i * 2 + 1, none⟩ = some u ∧ BAt w u r.2)
theorem RowsA.below {w w' : World} {v : Value} {bs : List (List Int)} (h : RowsA w v bs) (hb : Below w.heap.size w w') : RowsA w' v bs := by
  obtain ⟨A, cap, e, h1⟩ := h
  refine ⟨A, cap, e, fun hp => ?_⟩
  obtain ⟨g, o, e2, hg, h2⟩ := h1 hp
  refine ⟨g, o, e2, Nat.lt_of_lt_of_le hg hb.size, fun i b hi => ?_⟩
  obtain ⟨u, h3, h4⟩ := h2 i b hi
  exact ⟨u, (hb.cell (p := ⟨g, o + i, none⟩) hg).trans h3, h4.kept hb⟩
theorem RecA.below {w w' : World} {v : Value} {rs : List Re} (h : RecA w v rs) (hb : Below w.heap.size w w') : RecA w' v rs := by
  obtain ⟨A, cap, e, h1⟩ := h
  refine ⟨A, cap, e, fun hp => ?_⟩
  obtain ⟨g, o, e2, hg, h2⟩ := h1 hp
  refine ⟨g, o, e2, Nat.lt_of_lt_of_le hg hb.size, fun i r hi => ?_⟩
  obtain ⟨u, h3, h4, h5⟩ := h2 i r hi
  exact ⟨u, (hb.cell (p := ⟨g, o + i * 2, none⟩) hg).trans h3, (hb.cell (p := ⟨g, o + i * 2 + 1, none⟩) hg).trans h4, h5.kept hb⟩
theorem RowsB.toA {w : World} {base : Nat} {T : Nat → Prop} {v : Value} {bs : List (List Int)} (h : RowsB w base T v bs) : RowsA w v bs := by
  obtain ⟨us, h1, h2⟩ := h
  rcases h1.2 with ⟨e, h0⟩ | ⟨g, cap, cur, e, hg, hh, _⟩
  · exact ⟨none, 0, by rw [e, h0], fun hp => by omega⟩
  · refine ⟨_, cap, e, fun hp => ⟨g, 0, rfl, (Array.getElem?_eq_some_iff.1 hh).1, fun i b hi => ?_⟩⟩
    have hl : us.length = bs.length := by have := h1.1; simpa using this
    have hi2 : i < us.length := by rw [hl]; exact (List.getElem?_eq_some_iff.1 hi).1
    have hu : us[i]? = some us[i] := List.getElem?_eq_getElem hi2
    refine ⟨us[i], ?_, (h2 i _ b hu hi).1⟩
    have h3 := h1.cells (g := g) (by rw [e]; rfl) i _ hu
    rwa [show (⟨g, 0, none⟩ : Addr).add i = ⟨g, 0 + i, none⟩ from by unfold Addr.add; split <;> simp_all] at h3
end Go.Proofs.YtjijgoflbjbnfaaGreat.Jo

namespace Go.Proofs.YtjijgoflbjbnfaaGreat.Jo
open Go.RowKit Fr Sr

theorem wpList_app_run {P : Program} (w : World) {ops : Array Oper} {rest : List Oper} {o : Oper} {a : Act} {Q : Exit → Act → World → Prop} (hgd : o.guard = none) (s x : Operand) (t : TypeId)
    (ho : o.op = .call { callee := .builtin .append, args := #[s, x], argTypes := #[t, t] }) (vs vx : Value) (hs : a.eval s = vs) (hx : a.eval x = vx)
    (v' : Value) (w' : World) (hr : (Builtin.append_ #[t, t] o.type #[vs, vx]).run P w = .ok v' w') (h : wpList P ops Q rest (a.put o.dst v') w') : wpList P ops Q (o :: rest) a w :=
  wpList_plain hgd fun _ hK => by
    unfold Oper.wp execOp
    simp only [ho, resolve, invoke, builtin, Sem.run_bind, Sem.run_pure, Result.andThen_ok, List.map_toArray, List.map_cons, List.map_nil, hs, hx, hr]
    exact hK _ _ h
theorem add_off (g i : Nat) : (⟨g, 0, none⟩ : Addr).add i = ⟨g, 0 + i, none⟩ := by unfold Addr.add; split <;> simp_all
theorem recInf : (Tryz.prog.info? 89).map (fun i => (i.zero, i.size, i.bytes)) = some (some (.agg #[.int .i64 0, .slice none 0 0]), 2, 32) := by kernel_rfl
/-- A row of one's own with records whose bytes lie in w. -/
def RecO (w W : World) (v : Value) (rs : List Re) : Prop := ∃ us, W.ownsRow w.heap.size 89 2 v rs.length us ∧ ∀ (i : Nat) (r : Re), rs[i]? = some r → ∃ u, us[i * 2]? = some (.int .i64 (r.1 : Int)) ∧ us[i * 2 + 1]? = some u ∧ BAt w u r.2
theorem RecO.nil (w W : World) : RecO w W (.slice none 0 0) [] := ⟨[], World.ownsRow_nil _ _ _ _, fun i r hi => by simp at hi⟩
theorem RecO.toA {w W : World} {v : Value} {rs : List Re} (h : RecO w W v rs) (hb : Below w.heap.size w W) : RecA W v rs := by
  obtain ⟨us, h1, h2⟩ := h
  rcases h1.2 with ⟨e, h0⟩ | ⟨g, cap, cur, e, hg, hh, _⟩
  · exact ⟨none, 0, by rw [e, h0], fun hp => by omega⟩
  · refine ⟨_, cap, e, fun hp => ⟨g, 0, rfl, (Array.getElem?_eq_some_iff.1 hh).1, fun i r hi => ?_⟩⟩
    obtain ⟨u, a1, a2, a3⟩ := h2 i r hi
    refine ⟨u, ?_, ?_, a3.kept hb⟩
    · have h3 := h1.cells (g := g) (by rw [e]; rfl) _ _ a1
      rwa [add_off] at h3
    · have h3 := h1.cells (g := g) (by rw [e]; rfl) _ _ a2
      rwa [add_off] at h3
/-- One record behind the others. -/
theorem app_reco {w W : World} {v u : Value} {rs : List Re} {r : Re} (h : RecO w W v rs) (hw : Below w.heap.size w W) (hn : rs.length ≤ 1000) (hu : u.oneCell' = true) (hb : BAt w u r.2) :
    ∃ A' n' c' w', (Builtin.append_ #[85, 85] 85 #[v, .slice (some ⟨W.heap.size, 0, none⟩) 1 1]).run Tryz.prog (W.alloc (.cells #[.int .i64 (r.1 : Int), u] 89)) = .ok (.slice A' n' c') w' ∧ RecO w w' (.slice A' n' c') (rs ++ [r]) ∧ Below w.heap.size w w' ∧ Off (fun i => v.ownBlock = some i) W w' ∧ ∀ i, (Value.slice A' n' c').ownBlock = some i → v.ownBlock = some i ∨ W.heap.size ≤ i := by
  obtain ⟨us, h1, h2⟩ := h
  obtain ⟨i0, hi0, hz0, hz1, hz2⟩ := info_parts recInf
  have hal := alloc_below W (.cells #[.int .i64 (r.1 : Int), u] 89)
  have hown := Oc.ownsRow_kept h1 (fun g hg => hal.block g (h1.lt g hg).2)
  have hblk := block_new W (.cells #[.int .i64 (r.1 : Int), u] 89)
  obtain ⟨v', w', hr, ho, hgr, _, hat⟩ := run_append_own_at (P := Tryz.prog) _ w.heap.size 85 85 89 i0 _ 2 32 Tryz.underlying85 hi0 hz0 hz1 hz2 rfl (by decide) v rs.length us hown ⟨W.heap.size, 0, none⟩ 1 1 [.int .i64 (r.1 : Int), u] rfl (World.news_of_block (cs := #[.int .i64 (r.1 : Int), u]) hblk) (by simp [hu]; rfl) (by unfold maxLen; omega) (by omega) (by have := hw.size; have := hal.size; omega)
  obtain ⟨A, m, c, rfl⟩ : ∃ A n c, v' = .slice A n c := by
    rcases ho.2 with ⟨h7, _⟩ | ⟨g, cap, cur, h7, _⟩
    · exact ⟨none, 0, 0, h7⟩
    · exact ⟨_, _, _, h7⟩
  have hul : us.length = rs.length * 2 := h1.1
  refine ⟨A, m, c, w', hr, ⟨us ++ [.int .i64 (r.1 : Int), u], by rw [List.length_append]; exact ho, fun i q hi => ?_⟩, ?_, ?_, ?_⟩
  · rw [List.getElem?_append] at hi
    split at hi
    · rename_i hlt
      obtain ⟨y, a1, a2, a3⟩ := h2 i q hi
      exact ⟨y, by rw [List.getElem?_append_left (by omega)]; exact a1, by rw [List.getElem?_append_left (by omega)]; exact a2, a3⟩
    · rename_i hlt
      have e3 : i - rs.length = 0 := by
        have := (List.getElem?_eq_some_iff.1 hi).1
        simp at this; omega
      rw [e3] at hi
      simp at hi
      subst hi
      have e4 : i = rs.length := by omega
      subst e4
      refine ⟨u, ?_, ?_, hb⟩
      · rw [List.getElem?_append_right (by omega)]
        have : rs.length * 2 - us.length = 0 := by omega
        rw [this]; rfl
      · rw [List.getElem?_append_right (by omega)]
        have : rs.length * 2 + 1 - us.length = 1 := by omega
        rw [this]; rfl
  · have hb2 : Below w.heap.size w (W.alloc (.cells #[.int .i64 (r.1 : Int), u] 89)) := hw.trans (hal.mono hw.size)
    exact hb2.grown hgr hb2.size (fun i e => (hown.lt i e).1)
  · exact off_two (Off.of_below (fun _ => False) hal) (Off.of_grown (T := fun i => v.ownBlock = some i) hgr fun i e => e) (fun _ e => e.elim) (fun _ e => .inl e)
  · intro i hi
    rcases hat with h2 | h2
    · exact .inl (h2.symm.trans hi)
    · rw [h2] at hi; cases hi; exact .inr hal.size
end Go.Proofs.YtjijgoflbjbnfaaGreat.Jo
