/-
  A nil journal's answers; no store, no journal. Conditions: none.
-/
import Derived.Test.YtffeinbbgfogoaaJTrim
import Derived.Test.YtffeinbbgfogoaaJM17
import Derived.Test.YtffeinbbgfogoaaJM25
import Derived.Test.YtffeinbbgfogoaaSBytes
import Derived.ProofKit
import Derived.OpenShut
import Derived.ChangeOld
import Derived.Lib.SmallJoins
import Derived.ChangeMaps5
namespace Go.Proofs.Ytffeinbbgfogoaa.Jo
open Go.RowKit Go.Shelf Fr Sr
attribute [local go_sem] Oper.semAt_some

def nilJ : Obj := .cells #[.pointer none, .bool false, .pointer none, .int .i64 0] 102
theorem nilj_blk (w : World) : (w.alloc nilJ).heap[w.heap.size]? = some (.cells #[.pointer none, .bool false, .pointer none, .int .i64 0] 102 (0, 0)) := block_new _ _
theorem nilj_bel (w : World) : Below w.heap.size w (w.alloc nilJ) := alloc_below _ _
set_option maxRecDepth 100000 in
theorem orNone_nil (w : World) : Calls Try.prog 73 #[.pointer none] w fun e w' => e = .returned (.pointer (some ⟨w.heap.size, 0, none⟩)) ∧ w' = w.alloc nilJ := by
  go_enter Try.func73, Try.ntmps73
  go_wp2
  go_ret
  exact ⟨rfl, rfl⟩
set_option maxRecDepth 100000 in
theorem sound_nil (w : World) : Calls Try.prog 41 #[.pointer none] w fun e w' => e = .returned (.bool false) ∧ Below w.heap.size w w' := by
  obtain ⟨W, hW⟩ : ∃ W, W = w.alloc nilJ := ⟨_, rfl⟩
  have ho := orNone_nil w
  have hb := nilj_blk w
  have hl := nilj_bel w
  rw [← hW] at ho hb hl
  obtain ⟨⟨c0, c1, c2, c3⟩, _⟩ := four hb
  have HO := Lib.hid ho
  have HL := Lib.hid hl
  clear ho hb hl hW
  go_enter Try.func41, Try.ntmps41
  go_wp2_with (go_at_call 73; (with_reducible refine HO.out.mono ?_); rintro e w' ⟨rfl, rfl⟩)
  go_ret
  exact ⟨rfl, HL.out⟩
set_option maxRecDepth 100000 in
theorem next_nil (w : World) : Calls Try.prog 44 #[.pointer none] w fun e w' => e = .returned (.int .i64 0) ∧ Below w.heap.size w w' := by
  obtain ⟨W, hW⟩ : ∃ W, W = w.alloc nilJ := ⟨_, rfl⟩
  have ho := orNone_nil w
  have hb := nilj_blk w
  have hl := nilj_bel w
  rw [← hW] at ho hb hl
  obtain ⟨⟨c0, c1, c2, c3⟩, _⟩ := four hb
  have HO := Lib.hid ho
  have HL := Lib.hid hl
  clear ho hb hl hW
  go_enter Try.func44, Try.ntmps44
  go_wp2_with (go_at_call 73; (with_reducible refine HO.out.mono ?_); rintro e w' ⟨rfl, rfl⟩)
  go_ret
  exact ⟨rfl, HL.out⟩
set_option maxRecDepth 100000 in
theorem append_nil (w : World) (v : Value) : Calls Try.prog 35 #[.pointer none, v] w fun e w' => e = .returned (.tuple #[.int .i64 0, .int .i64 10]) ∧ Below w.heap.size w w' := by
  have HS := Lib.hid (sound_nil w)
  go_enter Try.func35, Try.ntmps35
  go_wp2_with (go_at_call 41; (with_reducible refine HS.out.mono ?_); rintro e w' ⟨rfl, hb⟩; have HB := Lib.hid hb; clear hb)
  go_ret2
  exact ⟨rfl, HB.out⟩
set_option maxRecDepth 100000 in
theorem start_nil (w : World) (n : Int) : Calls Try.prog 45 #[.pointer none, .int .i64 n] w fun e w' => e = .returned (.int .i64 10) ∧ Below w.heap.size w w' := by
  have HS := Lib.hid (sound_nil w)
  go_enter Try.func45, Try.ntmps45
  go_wp2_with (go_at_call 41; (with_reducible refine HS.out.mono ?_); rintro e w' ⟨rfl, hb⟩; have HB := Lib.hid hb; clear hb)
  go_ret
  exact ⟨rfl, HB.out⟩
set_option maxRecDepth 100000 in
theorem trim_nil (w : World) (n : Int) : Calls Try.prog 36 #[.pointer none, .int .i64 n] w fun e w' => e = .returned (.int .i64 10) ∧ Below w.heap.size w w' := by
  have HS := Lib.hid (sound_nil w)
  go_enter Try.func36, Try.ntmps36
  go_wp2_with (go_at_call 41; (with_reducible refine HS.out.mono ?_); rintro e w' ⟨rfl, hb⟩; have HB := Lib.hid hb; clear hb)
  go_ret
  exact ⟨rfl, HB.out⟩
set_option maxRecDepth 100000 in
theorem get_nil (w : World) (n : Int) : Calls Try.prog 42 #[.pointer none, .int .i64 n] w fun e w' => e = .returned (.tuple #[.slice none 0 0, .int .i64 13]) ∧ Below w.heap.size w w' := by
  obtain ⟨W, hW⟩ : ∃ W, W = w.alloc nilJ := ⟨_, rfl⟩
  have ho := orNone_nil w
  have hb := nilj_blk w
  have hl := nilj_bel w
  rw [← hW] at ho hb hl
  obtain ⟨⟨c0, c1, c2, c3⟩, _⟩ := four hb
  have hg : Calls Try.prog 74 #[.pointer none, .int .i64 n] W fun e w' => e = .returned (.tuple #[Tb.Ib.ev (Tb.Ib.getL ([] : List Xr) n), .bool false]) ∧ Below W.heap.size W w' := Tb.Ib.get_any W none [] n (.inl ⟨rfl, rfl⟩) List.Pairwise.nil (Nat.zero_le _)
  have HG := Lib.hid hg
  have HO := Lib.hid ho
  have HL := Lib.hid hl
  clear ho hb hl hW hg
  go_enter Try.func42, Try.ntmps42
  go_wp2_with (first
    | (go_at_call 74; (with_reducible refine HG.out.mono ?_); rintro e w2 ⟨rfl, hb⟩; have HB := Lib.hid hb; clear hb)
    | (go_at_call 73; (with_reducible refine HO.out.mono ?_); rintro e w' ⟨rfl, rfl⟩))
  go_ret2
  exact ⟨rfl, HL.out.trans (HB.out.mono HL.out.size)⟩
set_option maxRecDepth 100000 in
theorem first_nil (w : World) : Calls Try.prog 43 #[.pointer none] w fun e w' => e = .returned (.int .i64 0) ∧ Below w.heap.size w w' := by
  obtain ⟨W, hW⟩ : ∃ W, W = w.alloc nilJ := ⟨_, rfl⟩
  have ho := orNone_nil w
  have hb := nilj_blk w
  have hl := nilj_bel w
  rw [← hW] at ho hb hl
  obtain ⟨⟨c0, c1, c2, c3⟩, _⟩ := four hb
  have hg : Calls Try.prog 75 #[.pointer none, .int .i64 0] W fun e w' => e = .returned (.tuple #[.agg #[.int .i64 0, .slice none 0 0], .bool false]) ∧ Below W.heap.size W w' := Tb.Ib.at_none W none [] 0 (.inl ⟨rfl, rfl⟩) (Nat.zero_le _) (.inr (Int.le_refl _))
  have HG := Lib.hid hg
  have HO := Lib.hid ho
  have HL := Lib.hid hl
  clear ho hb hl hW hg
  go_enter Try.func43, Try.ntmps43
  go_wp2_with (first
    | (go_at_call 44; (with_reducible refine HN.out.mono ?_); rintro e w5 ⟨rfl, hb⟩; have HB := Lib.hid hb; clear hb)
    | (go_at_call 75; (with_reducible refine HG.out.mono ?_); rintro e w2 ⟨rfl, hb⟩
       have HB2 := Lib.hid hb
       clear hb
       have HN := Lib.hid (next_nil (w2.alloc (.cells #[.int .i64 0, .slice none 0 0] 107))))
    | (go_at_call 73; (with_reducible refine HO.out.mono ?_); rintro e w' ⟨rfl, rfl⟩))
  go_ret
  have h1 := HL.out.size
  have h2 := HB2.out.size
  exact ⟨rfl, HL.out.trans ((HB2.out.mono h1).trans (((alloc_below w2 _).mono (Nat.le_trans h1 h2)).trans (HB.out.mono (by simp; omega))))⟩
set_option maxRecDepth 100000 in
theorem open_nil (w : World) : Calls Try.prog 34 #[.pointer none] w fun e w' => e = .returned (.tuple #[.pointer none, .int .i64 14]) ∧ Below w.heap.size w w' := by
  obtain ⟨W, hW⟩ : ∃ W, W = w.alloc (.cells #[.pointer none, .bool true] 98) := ⟨_, rfl⟩
  have hd := nil_down W
  have hl : Below w.heap.size w W := by rw [hW]; exact alloc_below _ _
  have c0 : W.cell? ⟨w.heap.size, 0, none⟩ = some (.pointer none) := by
    rw [hW]; exact (block_cell2 (block_new w (.cells #[.pointer none, .bool true] 98))).1.1
  have HD := Lib.hid hd
  have HL := Lib.hid hl
  have HW := Lib.hid hW
  clear hd hl hW
  go_enter Try.func34, Try.ntmps34
  go_upto_region 2 with fail
  rw [← HW.out]
  go_wp2_with (go_at_call 29; (with_reducible refine HD.out.mono ?_); rintro e w2 ⟨rfl, hb⟩; have HB := Lib.hid hb; clear hb)
  go_ret2
  exact ⟨rfl, HL.out.trans (HB.out.mono HL.out.size)⟩
set_option maxRecDepth 100000 in
/-- Of a store that is down there is no journal. -/
theorem open_down {w : World} {p : Nat} {st : S} {mb : Option Nat} {L : List Fi} (h : StR w p st mb L) (hd : st.d = true) : Calls Try.prog 34 #[.pointer (some ⟨p, 0, none⟩)] w fun e w' => e = .returned (.tuple #[.pointer none, .int .i64 14]) ∧ Below w.heap.size w w' := by
  obtain ⟨W, hW⟩ : ∃ W, W = w.alloc (.cells #[.pointer (some ⟨p, 0, none⟩), .bool true] 98) := ⟨_, rfl⟩
  have hl : Below w.heap.size w W := by rw [hW]; exact alloc_below _ _
  have hdn := down_own W p st mb (h.below hl).blk
  rw [hd] at hdn
  have c0 : W.cell? ⟨w.heap.size, 0, none⟩ = some (.pointer (some ⟨p, 0, none⟩)) := by
    rw [hW]; exact (block_cell2 (block_new w (.cells #[.pointer (some ⟨p, 0, none⟩), .bool true] 98))).1.1
  have HD := Lib.hid hdn
  have HL := Lib.hid hl
  have HW := Lib.hid hW
  clear hdn hl hW h hd
  go_enter Try.func34, Try.ntmps34
  go_upto_region 2 with fail
  rw [← HW.out]
  go_wp2_with (go_at_call 29; (with_reducible refine HD.out.mono ?_); rintro e w2 ⟨rfl, rfl⟩)
  go_ret2
  exact ⟨rfl, HL.out⟩
end Go.Proofs.Ytffeinbbgfogoaa.Jo

namespace Go.Proofs.Ytffeinbbgfogoaa.Jo
open Go.RowKit Go.Shelf Fr Sr
attribute [local go_sem] Oper.semAt_some

def NI (w : World) (s : List Xr) (W : World) : Prop := s = [] ∧ Boxed W w.heap.size 60 (.slice none 0 0) ∧ Below w.heap.size w W
theorem NI.from {w : World} {N : Nat} (hN : w.heap.size ≤ N) : OwnFrom N (NI w) := fun s X Y row h hg hr => by
  obtain ⟨h1, h2, h3⟩ := h
  have ho : Off (fun i => row = some i) X Y := Off.of_grown (T := fun i => row = some i) hg fun i e => e
  refine ⟨h1, (ho.2 _ h2.lt (fun e => ?_)).trans h2, h3.trans ⟨ho.1.os, ho.1.tape, ho.1.output, ho.1.size, fun i hi => ho.2 i (Nat.lt_of_lt_of_le hi h3.size) (fun e => by have := (hr i e).1; omega)⟩⟩
  obtain ⟨_, o, h4, h5⟩ := hr _ e
  have h6 : X.heap[w.heap.size]? = some (.cells #[.slice none 0 0] 60 (0, 0)) := h2
  rw [h6] at h4
  cases h4; cases h5
set_option maxRecDepth 100000 in
set_option maxHeartbeats 4000000 in
theorem records_nil (w : World) (k : Int) : Calls Try.prog 38 #[.pointer none, .int .i64 k] w fun e w' => e = .returned (.slice none 0 0) ∧ Below w.heap.size w w' := by
  obtain ⟨W1, hW1⟩ : ∃ W1, W1 = w.alloc (.cells #[.slice none 0 0] 60) := ⟨_, rfl⟩
  have hal : Below w.heap.size w W1 := by rw [hW1]; exact alloc_below _ _
  have hlb : Boxed W1 w.heap.size 60 (.slice none 0 0) := by rw [hW1]; exact Boxed.new _ _ _
  obtain ⟨W2, hW2⟩ : ∃ W2, W2 = W1.alloc nilJ := ⟨_, rfl⟩
  have hb2 := nilj_blk W1
  have hl2 := nilj_bel W1
  have hno := orNone_nil W1
  have hz1 : W1.heap.size = w.heap.size + 1 := by rw [hW1]; simp
  rw [← hW2] at hb2 hl2 hno
  obtain ⟨⟨c0, c1, c2, c3⟩, _⟩ := four hb2
  have HW1 := Lib.hid hW1
  have HZ1 := Lib.hid hz1
  have HNO := Lib.hid hno
  have H2 : Hid (Below w.heap.size w W2) := hal.trans (hl2.mono hal.size)
  have HL2 := Lib.hid (block_kept hlb hl2)
  clear hW1 hal hlb hW2 hb2 hl2 hno hz1 c0 c1 c3
  refine (callsIn_wide (n := 10)).1 ?_
  refine callsIn_of_wp_marks Try.func38 rfl trivial ?_ rfl
  simp only [Try.ntmps38, List.size_toArray, List.length_cons, List.length_nil, Nat.reduceAdd, Nat.reduceSub, Array.replicate_succ, Array.replicate_zero, List.push_toArray, List.append_toArray, List.nil_append, List.cons_append]
  gi_wp2_with (first
    | (refine ⟨trivial, ?_⟩; gi_at_call 71; refine (callsIn_wide.2 (Tb.Ib.from_any _ _ _)).mono ?_; rintro e w' ⟨rfl, rfl⟩)
    | (refine ⟨trivial, ?_⟩; gi_at_call 73; rw [← HW1.out]; refine (callsIn_wide.2 HNO.out).mono ?_; rintro e w' ⟨rfl, hw'⟩; have hw2 := hw'.symm; clear hw'; subst hw2))
  obtain ⟨W3, hW3⟩ : ∃ W3, W3 = (W2.alloc (.cells #[.pointer none] 99)).alloc (.cells #[.int .i64 k] 3) := ⟨_, rfl⟩
  have h23 : Below W2.heap.size W2 W3 := by rw [hW3]; exact ((Below.refl _ _).alloc (Nat.le_refl _) _).alloc (by simp) _
  have hw3 : Below w.heap.size w W3 := H2.out.trans (h23.mono H2.out.size)
  have b1 : W3.heap[W2.heap.size]? = some (.cells #[.pointer none] 99 (0, 0)) := by
    rw [hW3]; exact block_old (block_new W2 _) _
  have b2 : W3.heap[W2.heap.size + 1]? = some (.cells #[.int .i64 k] 3 (0, 0)) := by
    rw [hW3]
    have := block_new (W2.alloc (.cells #[.pointer none] 99)) (.cells #[.int .i64 k] 3)
    rwa [World.size_alloc] at this
  have hz3 : W3.heap.size = W2.heap.size + 1 + 1 := by rw [hW3]; simp
  have hz2 : w.heap.size ≤ W2.heap.size := H2.out.size
  rw [← hW3]
  clear hW3
  have hI0 : NI w [] W3 := ⟨rfl, block_kept HL2.out h23, hw3⟩
  have hseq := from1_g (10 - 1) (by decide) (fun s : List Xr => s) (fun _ k => k ≠ w.heap.size) W2.heap.size w W3 none k [] (.inl ⟨rfl, rfl⟩) List.Pairwise.nil (Nat.zero_le _) hw3 b1 b2
  refine' range_g (β := List Xr) (seen := fun s => s) (K := fun _ k => k ≠ w.heap.size) (C := Lo w.heap.size) (E := fun _ _ => True) (key := tkey) (R := tR) (S := Tb.fromL [] k) (fun h _ => h) rfl (by decide) (gf := 94) (lb := #[.pointer (some ⟨W2.heap.size, 0, none⟩), .pointer (some ⟨W2.heap.size + 1, 0, none⟩)]) rfl trivial (enters_of Try.func94 (by kernel_rfl) rfl)
    (B := w.heap.size) (by omega) hseq rfl (NI w) (fun _ _ _ => False) (NI.from (by omega)) (fun _ _ _ _ _ h _ _ => h) (fun s W' h i hi => by have := h.2.1.lt; omega) (fun _ _ _ _ _ _ => trivial) [] rfl hI0 (fun i hi => by omega) _ ?assign ?body ?done ?stop
  case assign =>
    intro l x v W K hK
    gi_wp2
    exact hK
  case stop =>
    rintro D c s r W _ _ h _
    exact h.elim
  case body =>
    rintro l2 s x u W hI hu ⟨r, hr⟩
    have h1 : Tb.fromL ([] : List Xr) k = [] := by simp [Tb.fromL]
    rw [h1] at hr
    simp at hr
  case done =>
    rintro D s W hD hs hI hK
    have x0 := hI.2.1.cell
    have HI := Lib.hid hI
    have HK := Lib.hid hK
    have HD := Lib.hid hD
    clear hs hI hK hD
    gi_wp2
    refine ⟨by simp, .inl ⟨_, _, rfl, run_takeDeferred HK.out, ?_⟩⟩
    refine ⟨_, results_tmp rfl _ _ _, rfl, ?_⟩
    exact ((NI.from (Nat.le_refl w.heap.size)).putObj (.deferred none) HI.out (by have := HD.out; omega) HK.out rfl).2.2
end Go.Proofs.Ytffeinbbgfogoaa.Jo

namespace Go.Proofs.Ytffeinbbgfogoaa.Jo
open Go.RowKit Fr Sr

set_option maxRecDepth 100000 in
set_option maxHeartbeats 4000000 in
theorem law_nil (w : World) (A : Option Addr) (n c : Nat) (l : List Int) (_ : BAt w (.slice A n c) l) (_ : bok l) (x : Int) :
    Calls Try.prog 9 #[.slice A n c, .int .i64 x] w fun e w' => e = .returned (.bool true) ∧ Below w.heap.size w w' := by
  have hk : ∀ W, Below w.heap.size w W → Calls Try.prog 39 #[] W fun e w' => e = .returned (.bool true) ∧ Below w.heap.size w w' := fun W hW => (known_any W).mono fun e w' ⟨he, hb⟩ => ⟨he, hW.trans (hb.mono hW.size)⟩
  have h1 : ∀ W, Below w.heap.size w W → Calls Try.prog 35 #[.pointer none, .slice A n c] W fun e w' => e = .returned (.tuple #[.int .i64 0, .int .i64 10]) ∧ Below w.heap.size w w' := fun W hW => (append_nil W _).mono fun e w' ⟨he, hb⟩ => ⟨he, hW.trans (hb.mono hW.size)⟩
  have h2 : ∀ W, Below w.heap.size w W → Calls Try.prog 42 #[.pointer none, .int .i64 x] W fun e w' => e = .returned (.tuple #[.slice none 0 0, .int .i64 13]) ∧ Below w.heap.size w w' := fun W hW => (get_nil W x).mono fun e w' ⟨he, hb⟩ => ⟨he, hW.trans (hb.mono hW.size)⟩
  have h3 : ∀ W, Below w.heap.size w W → Calls Try.prog 34 #[.pointer none] W fun e w' => e = .returned (.tuple #[.pointer none, .int .i64 14]) ∧ Below w.heap.size w w' := fun W hW => (open_nil W).mono fun e w' ⟨he, hb⟩ => ⟨he, hW.trans (hb.mono hW.size)⟩
  have h4 : ∀ W, Below w.heap.size w W → Calls Try.prog 10 #[.int .i64 10] W fun e w' => ∃ p, e = .returned (.tuple #[.pointer (some ⟨p, 0, none⟩), .int .i64 0]) ∧ StR w' p ⟨false, 0, false, 10, 0⟩ none [] ∧ w.heap.size ≤ p ∧ Below w.heap.size w w' := fun W hW => (Sr.new_any W 10 (by decide) (by decide)).mono fun e w' ⟨he, hs, hb, _⟩ => ⟨W.heap.size, he, hs, hW.size, hW.trans (hb.mono hW.size)⟩
  have h5 : ∀ W p, Below w.heap.size w W → w.heap.size ≤ p → StR W p ⟨false, 0, false, 10, 0⟩ none [] → Calls Try.prog 21 #[.pointer (some ⟨p, 0, none⟩), .int .i64 0] W fun e w' => e = .returned (.tuple #[]) ∧ StR w' p ⟨true, 0, false, 10, 0⟩ none [] ∧ Below w.heap.size w w' := fun W p hW hp hs => (Arm_any W p _ none [] 0 hs (by decide)).mono fun e w' ⟨he, hm⟩ => ⟨he, hm.st, hW.trans (hm.off.below (fun i hi => by rw [own_nil hi]; exact hp) hW.size)⟩
  have h6 : ∀ W p, Below w.heap.size w W → w.heap.size ≤ p → StR W p ⟨true, 0, false, 10, 0⟩ none [] → Calls Try.prog 11 #[.pointer (some ⟨p, 0, none⟩), .string klog, .slice (some ⟨W.heap.size, 0, none⟩) 1 1] (W.alloc (.cells #[.int .u8 1] 5)) fun e w' => e = .returned (.int .i64 14) ∧ (∃ s mb L, StR w' p s mb L ∧ s.d = true) ∧ Below w.heap.size w w' := fun W p hW hp hs => by
    obtain ⟨g1, g2⟩ := lit_free hs [1] (0, 0)
    refine (Append_any klog g1 (by decide) rfl g2).mono ?_
    rintro e w' ⟨rfl, mb', L', mv, _⟩
    refine ⟨rfl, ⟨_, mb', L', mv.st, rfl⟩, hW.trans (((alloc_below W _).mono hW.size).trans (mv.off.below (fun i hi => by rw [own_nil hi]; exact hp) (by have := hW.size; simp; omega)))⟩
  have h7 : ∀ W p s mb L, Below w.heap.size w W → StR W p s mb L → s.d = true → Calls Try.prog 34 #[.pointer (some ⟨p, 0, none⟩)] W fun e w' => e = .returned (.tuple #[.pointer none, .int .i64 14]) ∧ Below w.heap.size w w' := fun W p s mb L hW hs hd => (open_down hs hd).mono fun e w' ⟨he, hb⟩ => ⟨he, hW.trans (hb.mono hW.size)⟩
  have h8 : ∀ W, Below w.heap.size w W → Calls Try.prog 43 #[.pointer none] W fun e w' => e = .returned (.int .i64 0) ∧ Below w.heap.size w w' := fun W hW => (first_nil W).mono fun e w' ⟨he, hb⟩ => ⟨he, hW.trans (hb.mono hW.size)⟩
  have h9 : ∀ W, Below w.heap.size w W → Calls Try.prog 44 #[.pointer none] W fun e w' => e = .returned (.int .i64 0) ∧ Below w.heap.size w w' := fun W hW => (next_nil W).mono fun e w' ⟨he, hb⟩ => ⟨he, hW.trans (hb.mono hW.size)⟩
  have h10 : ∀ W, Below w.heap.size w W → Calls Try.prog 45 #[.pointer none, .int .i64 x] W fun e w' => e = .returned (.int .i64 10) ∧ Below w.heap.size w w' := fun W hW => (start_nil W x).mono fun e w' ⟨he, hb⟩ => ⟨he, hW.trans (hb.mono hW.size)⟩
  have h11 : ∀ W, Below w.heap.size w W → Calls Try.prog 38 #[.pointer none, .int .i64 x] W fun e w' => e = .returned (.slice none 0 0) ∧ Below w.heap.size w w' := fun W hW => (records_nil W x).mono fun e w' ⟨he, hb⟩ => ⟨he, hW.trans (hb.mono hW.size)⟩
  have h12 : ∀ W, Below w.heap.size w W → Calls Try.prog 36 #[.pointer none, .int .i64 x] W fun e w' => e = .returned (.int .i64 10) ∧ Below w.heap.size w w' := fun W hW => (trim_nil W x).mono fun e w' ⟨he, hb⟩ => ⟨he, hW.trans (hb.mono hW.size)⟩
  have h13 : ∀ W, Below w.heap.size w W → Calls Try.prog 41 #[.pointer none] W fun e w' => e = .returned (.bool false) ∧ Below w.heap.size w w' := fun W hW => (sound_nil W).mono fun e w' ⟨he, hb⟩ => ⟨he, hW.trans (hb.mono hW.size)⟩
  have HK := Lib.hid hk
  have H1 := Lib.hid h1
  have H2 := Lib.hid h2
  have H3 := Lib.hid h3
  have H4 := Lib.hid h4
  have H5 := Lib.hid h5
  have H6 := Lib.hid h6
  have H7 := Lib.hid h7
  have H8 := Lib.hid h8
  have H9 := Lib.hid h9
  have H10 := Lib.hid h10
  have H11 := Lib.hid h11
  have H12 := Lib.hid h12
  have H13 := Lib.hid h13
  clear hk h1 h2 h3 h4 h5 h6 h7 h8 h9 h10 h11 h12 h13
  go_enter Try.func9, Try.ntmps9
  go_wp2_with (first
    | (go_at_call 41; (with_reducible refine (H13.out _ B12.out).mono ?_); rintro e w13 ⟨rfl, hb⟩; have B13 := Lib.hid hb; clear hb)
    | (go_at_call 36; (with_reducible refine (H12.out _ B11.out).mono ?_); rintro e w12 ⟨rfl, hb⟩; have B12 := Lib.hid hb; clear hb)
    | (go_at_call 38; (with_reducible refine (H11.out _ B10.out).mono ?_); rintro e w11 ⟨rfl, hb⟩; have B11 := Lib.hid hb; clear hb)
    | (go_at_call 45; (with_reducible refine (H10.out _ B9.out).mono ?_); rintro e w10 ⟨rfl, hb⟩; have B10 := Lib.hid hb; clear hb)
    | (go_at_call 44; (with_reducible refine (H9.out _ B8.out).mono ?_); rintro e w9 ⟨rfl, hb⟩; have B9 := Lib.hid hb; clear hb)
    | (go_at_call 43; (with_reducible refine (H8.out _ BK.out).mono ?_); rintro e w8 ⟨rfl, hb⟩; have B8 := Lib.hid hb; clear hb)
    | (go_at_call 39; (with_reducible refine (HK.out _ B7.out).mono ?_); rintro e wk ⟨rfl, hb⟩; have BK := Lib.hid hb; clear hb)
    | (go_at_call 34; (with_reducible refine (H7.out _ _ _ _ _ B6.out S6.out.1 S6.out.2).mono ?_); rintro e w7 ⟨rfl, hb⟩; have B7 := Lib.hid hb; clear hb)
    | (go_at_call 11; (with_reducible refine (H6.out _ _ B5.out P4.out S5.out).mono ?_); rintro e w6 ⟨rfl, ⟨s6, mb6, L6, hs⟩, hb⟩; have B6 := Lib.hid hb; have S6 := Lib.hid hs; clear hb hs)
    | (go_at_call 21; (with_reducible refine (H5.out _ _ B4.out P4.out S4.out).mono ?_); rintro e w5 ⟨rfl, hs, hb⟩; have B5 := Lib.hid hb; have S5 := Lib.hid hs; clear hb hs)
    | (go_at_call 10; (with_reducible refine (H4.out _ B3.out).mono ?_); rintro e w4 ⟨p, rfl, hs, hp, hb⟩; have B4 := Lib.hid hb; have S4 := Lib.hid hs; have P4 := Lib.hid hp; clear hb hs hp)
    | (go_at_call 34; (with_reducible refine (H3.out _ B2.out).mono ?_); rintro e w3 ⟨rfl, hb⟩; have B3 := Lib.hid hb; clear hb)
    | (go_at_call 42; (with_reducible refine (H2.out _ B1.out).mono ?_); rintro e w2 ⟨rfl, hb⟩; have B2 := Lib.hid hb; clear hb)
    | (go_at_call 35; (with_reducible refine (H1.out w (Below.refl _ _)).mono ?_); rintro e w1 ⟨rfl, hb⟩; have B1 := Lib.hid hb; clear hb))
  go_ret
  exact ⟨rfl, B13.out⟩
end Go.Proofs.Ytffeinbbgfogoaa.Jo

namespace Go.Proofs.Ytffeinbbgfogoaa.Fr
open Go.ChangeShapes Go.WideShapes Go.ChangeAt Go.RowKit Go.Joins Go.Deep

/-- A slice of bytes that came in holds bytes. -/
theorem open_bytes {H : Type} {enc : TypeId × Value → H} {w : World} {held : Bool} {fuel : Nat} {cs : List Value} {x : DataW H × List MemPlace} (h : DataW.trod enc Try.prog w 0 (fun _ => true) held fuel 32 cs = some x) :
    ∃ A len cap l, cs = [.slice A len cap] ∧ BAt w (.slice A len cap) l ∧ bok l := by
  rcases open_ints Try.underlying32 Try.underlying5 (by kernel_rfl) h with ⟨hcs, _⟩ | ⟨a, len, c, zs, hcs, _, hl, hm, hz, _, hcell, hwz⟩
  · exact ⟨none, 0, 0, [], hcs, BAt.nil w, fun x hx => absurd hx (List.not_mem_nil)⟩
  · have hzl : len ≤ zs.length := by simp at hz; omega
    have hll : (zs.take len).length = len := by rw [List.length_take]; omega
    refine ⟨some a, len, c, zs.take len, hcs, ⟨some a, c, by rw [hll], by rw [hll]; omega, fun hp => ?_⟩, fun y hy => ?_⟩
    · rw [hll] at hp ⊢
      obtain ⟨b, off, spot⟩ := a
      have hc := hcell 0 (by omega)
      have hspot : spot = none := by simpa [Addr.add] using World.cell?_spot hc
      subst hspot
      refine ⟨b, off, rfl, ?_, fun i hi => ?_⟩
      · have := World.block_lt_of_cell? _ _ hc
        simpa [Addr.add] using this
      · have := hcell i (by omega)
        rw [show (Addr.mk b off none).add i = ⟨b, off + i, none⟩ by unfold Addr.add; split <;> simp_all] at this
        rw [this, getD_take hi]
    · have := hwz y (List.mem_of_mem_take hy)
      simp [Lit.wf, IntKind.min, IntKind.max, IntKind.signed, IntKind.bits] at this
      omega
end Go.Proofs.Ytffeinbbgfogoaa.Fr
