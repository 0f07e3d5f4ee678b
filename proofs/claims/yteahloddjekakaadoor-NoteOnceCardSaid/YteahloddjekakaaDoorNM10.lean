/-
  The contracts of the writer's Wide, Text and Done. Conditions: what is written has room, or there is a mistake.
-/
import Derived.Test.YteahloddjekakaaDoorOWrite
import Derived.Shelf.Bytes.SlClone
import Derived.Lib.AppendZeros
import Derived.Deep.RegionHeld3
import Derived.Test.YteahloddjekakaaDoorNM3
import Derived.Test.YteahloddjekakaaDoorNAnd
namespace Go.Proofs.YteahloddjekakaaDoor.Oc
open Go.RowKit

/-- The k lowest bytes of a word, the highest first. -/
def wordF : Nat → Nat → List Int
  | 0, _ => []
  | k + 1, x => ((x / 256 ^ k % 256 : Nat) : Int) :: wordF k x
theorem wordF_len (k x : Nat) : (wordF k x).length = k := by
  induction k with
  | zero => rfl
  | succ k ih => simp [wordF, ih]
/-- The word's bytes while they are written: k are to come. -/
def WideI (w : World) (b : Nat) (er : Int) (v : Value) (l all : List Int) (lo k : Nat) (wx : World) : Prop :=
  ∃ acc, WrTo b v w er (addB er l acc) wx ∧ acc ++ wordF k lo = all
theorem WideI.block {w wx : World} {b : Nat} {er : Int} {v : Value} {l all : List Int} {lo k a : Nat} {o : Obj} (h : WideI w b er v l all lo k wx) (ha : w.heap[a]? = some o) (hb : a ≠ b) (hv : v.ownBlock ≠ some a) : wx.heap[a]? = some o := by
  obtain ⟨acc, ⟨v', _, h2⟩, _⟩ := h
  exact (h2.block a (Array.getElem?_eq_some_iff.1 ha).1 hb hv).trans ha
set_option maxRecDepth 100000 in
set_option maxHeartbeats 4000000 in
theorem wide_any (w : World) (b : Nat) (er hi : Int) (lo : Nat) (l : List Int) (v : Value) (h : WrR w b er l v) (h1 : -9223372036854775808 ≤ hi) (h2 : hi < 9223372036854775808) (_h3 : lo < 18446744073709551616)
    (hr : er = 0 → l.length + (grp (fold hi)).length + 8 ≤ 1048576) :
    Calls Tryd.prog 44 #[.pointer (some ⟨b, 0, none⟩), .agg #[.int .i64 hi, .int .u64 (lo : Int)]] w fun e w' => e = .returned (.pointer (some ⟨b, 0, none⟩)) ∧ WrTo b v w er (addB er l (grp (fold hi) ++ wordF 8 lo)) w' := by
  have HB : Hid (Below w.heap.size w (w.alloc (.cells #[.int .i64 hi, .int .u64 (lo : Int)] 31))) := (Below.refl _ _).alloc (Nat.le_refl _) _
  have HA : Hid ((w.alloc (.cells #[.int .i64 hi, .int .u64 (lo : Int)] 31)).heap[w.heap.size]? = some (.cells #[.int .i64 hi, .int .u64 (lo : Int)] 31 (0, 0))) := block_new _ _
  have HN := Lib.hid (number_any _ b er hi l v (h.below HB.out) h1 h2 (fun e => by have := hr e; omega))
  have hlt := h.lt
  have HW := Lib.hid h
  clear h
  go_enter Tryd.func44, Tryd.ntmps44
  go_wp2_with (go_at_call 42; refine HN.out.mono ?_; rintro e w1 ⟨rfl, h1⟩; have H1 := Lib.hid h1; clear h1)
  have HL : Hid (er = 0 → l.length + (grp (fold hi)).length + 8 ≤ 1048576) := hr
  have HI : Hid (WideI (w.alloc (.cells #[.int .i64 hi, .int .u64 (lo : Int)] 31)) b er v l (grp (fold hi) ++ wordF 8 lo) lo 8 w1) := ⟨_, H1.out, rfl⟩
  clear hr H1 HN
  go_loopg [5] 8 (fun k s5 wx => ∃ j : Int, j = 8 * (k : Int) - 8 ∧ k ≤ 8 ∧ s5 = .int .i64 j ∧ Hid (WideI (w.alloc (.cells #[.int .i64 hi, .int .u64 (lo : Int)] 31)) b er v l (grp (fold hi) ++ wordF 8 lo) lo k wx))
  case atStart => exact ⟨_, rfl, Nat.le_refl _, rfl, HI⟩
  case round =>
    clear HI
    obtain ⟨j, hj, hk, rfl, hinv⟩ := hrel
    have hA := WideI.block hinv.out HA.out (by simp; omega) (fun e => by have := (HW.out.2.1.lt _ e).2; omega)
    obtain ⟨⟨c1, c2⟩, _⟩ := block_cell2 hA
    have HJ := Lib.hid hj
    cases gk with
    | zero =>
      have t1 : ¬ 0 ≤ j := by omega
      clear hj
      go_wp2
      go_ret
      obtain ⟨acc, h4, h5⟩ := hinv.out
      refine ⟨rfl, ?_⟩
      rw [← h5]
      exact WrTo.trans (.of_below HB.out) (by simpa [wordF] using h4)
    | succ k =>
      have t1 : 0 ≤ j := by omega
      have t2 : j ≤ 56 := by omega
      obtain ⟨q, hq⟩ : ∃ q, q = lo / 256 ^ k := ⟨_, rfl⟩
      have hsh : (lo : Int) / 2 ^ j.toNat = (q : Int) := by
        have e1 : j.toNat = 8 * k := by omega
        rw [e1, hq, Int.pow_mul]
        simp
      have HQ : Hid (((q : Int) % 256) :: wordF k lo = wordF (k + 1) lo) := by show _ = _; rw [hq]; rfl
      obtain ⟨acc, h4, h5⟩ := hinv.out
      have HE : Hid ((acc ++ [(q : Int) % 256]) ++ wordF k lo = grp (fold hi) ++ wordF 8 lo) := by show _ = _; rw [← h5, ← HQ.out]; simp
      have HEN : Hid (er = 0 → (addB er l acc).length + 1 ≤ 1048576) := by
        intro e0
        have h6 := HL.out e0
        have h7 := congrArg List.length h5
        rw [e0, addB_no]
        simp only [List.length_append, wordF_len] at h7 ⊢
        omega
      obtain ⟨v1, hw1, hf1⟩ := h4
      have HBY := Lib.hid (byte_any wr b er ((q : Int) % 256) (addB er l acc) v1 hw1 HEN.out)
      have HF1 := Lib.hid hf1
      clear hj hq h5 hw1 hf1 hinv hA
      go_wp2_with (go_at_call 38; refine HBY.out.mono ?_; rintro e w2 ⟨rfl, h2⟩; have H2 := Lib.hid (WrTo.trans HF1.out h2); clear h2)
      go_roundg k
      case measure => omega
      case rel => exact ⟨j - 8, by have := HJ.out; omega, by omega, by go_num, ⟨acc ++ [(q : Int) % 256], by rw [← addB_addB]; exact H2.out, HE.out⟩⟩
end Go.Proofs.YteahloddjekakaaDoor.Oc

namespace Go.Proofs.YteahloddjekakaaDoor.Oc
open Go.RowKit

/-- Ahead of the one text, or behind it. -/
def TextI (w : World) (P : World → Prop) (k : Nat) (i : Int) (wx : World) : Prop := (k = 1 ∧ i = 0 ∧ wx = w) ∨ (k = 0 ∧ i = 1 ∧ P wx)
theorem WFr.at {b : Nat} {v v' : Value} {w w' : World} (h : WFr b v v' w w') {a : Nat} {o : Obj} (ha : w.heap[a]? = some o) (hb : a ≠ b) (hv : v.ownBlock ≠ some a) : w'.heap[a]? = some o :=
  (h.block a (Array.getElem?_eq_some_iff.1 ha).1 hb hv).trans ha
set_option maxRecDepth 100000 in
set_option maxHeartbeats 4000000 in
theorem text_ok (w : World) (b g : Nat) (s : ByteArray) (l : List Int) (v : Value) (h : WrR w b 0 l v) (hg : w.heap[g]? = some (.cells #[.string s] 9 (0, 0))) (hr : l.length + (grp s.size).length + s.size ≤ 1048576) :
    Calls Tryd.prog 41 #[.pointer (some ⟨b, 0, none⟩), .slice (some ⟨g, 0, none⟩) 1 1] w fun e w' => e = .returned (.pointer (some ⟨b, 0, none⟩)) ∧ WrTo b v w 0 (l ++ (grp s.size ++ sb s)) w' := by
  obtain ⟨c1, _⟩ := block_cell hg
  obtain ⟨n, hn⟩ : ∃ n, n = s.size := ⟨_, rfl⟩
  have hn2 : s.size = n := hn.symm
  have HC := Lib.hid (count_any w b 0 n l v h (by omega) (fun _ => by rw [hn]; omega))
  have HR : Hid (l.length + (grp n).length + n ≤ 1048576) := by rw [hn]; exact hr
  have hnn : n ≤ 1048576 := by omega
  have HI : Hid (TextI w (fun wx => WrTo b v w 0 (l ++ (grp n ++ sb s)) wx) 1 0 w) := .inl ⟨rfl, rfl, rfl⟩
  rw [hn2]
  clear h hg hr hn
  go_enter Tryd.func41, Tryd.ntmps41
  go_wp2
  go_loopg [9] 1 (fun k s9 wx => ∃ i : Int, s9 = .int .i64 i ∧ Hid (TextI w (fun wx => WrTo b v w 0 (l ++ (grp n ++ sb s)) wx) k i wx))
  case atStart => exact ⟨0, rfl, HI⟩
  case round =>
    clear HI
    obtain ⟨i, rfl, hi⟩ := hrel
    rcases hi.out with ⟨rfl, rfl, rfl⟩ | ⟨rfl, rfl, hp⟩
    · clear hi
      go_wp2_with (first
        | (at_builtin; refine Lib.wpList_append_run _ rfl _ _ _ _ rfl _ _ rfl rfl _ _ hrun ?_)
        | (go_at_call 68; refine HT.out.mono ?_; rintro e w3 ⟨rfl, rfl⟩)
        | (go_at_call 39; refine HC.out.mono ?_; rintro e w2 ⟨rfl, v2, hw2, hf2⟩
           rw [addB_no] at hw2
           have HT := Lib.hid (takes_ok w2 b n _ v2 hw2 (by rw [List.length_append]; exact HR.out))
           have HW2 := Lib.hid hw2
           have HF2 := Lib.hid hf2
           obtain ⟨v4, w4, hrun, ho4, hg4, hn4⟩ := app_str w2 (b + 1) v2 _ hw2.2.1 s (by rw [List.length_append, hn2]; exact HR.out) hw2.lt
           have hs4 := wr_grown hw2 ho4 hg4 hn4 (by rw [sb_len, List.length_append, hn2]; exact HR.out)
           obtain ⟨A4, n4, c4, rfl⟩ : ∃ A n c, v4 = Value.slice A n c := by obtain ⟨A, c, h⟩ := WrR.shape hs4.1; exact ⟨A, _, c, h⟩
           have hb4 : w4.heap[b]? = some (.cells #[.int .i64 0, v2] 77 (0, 0)) := (hg4.block b hw2.lt (fun e => by have := (hw2.2.1.lt b e.symm).1; omega)).trans hw2.1
           obtain ⟨⟨d1, d2⟩, _⟩ := block_cell2 hw2.1
           obtain ⟨_, _, e2⟩ := block_cell2 hb4
           have HS4 := Lib.hid hs4
           clear hw2 hf2 ho4 hg4 hn4 hs4 hb4))
      go_roundg 0
      case measure => omega
      case rel => exact ⟨1, rfl, .inr ⟨rfl, rfl, by rw [← List.append_assoc]; exact ⟨_, HS4.out.1, HF2.out.trans HS4.out.2⟩⟩⟩
    · have HP := Lib.hid hp
      clear hi hp
      go_wp2
      go_ret
      exact ⟨rfl, HP.out⟩
set_option maxRecDepth 100000 in
set_option maxHeartbeats 4000000 in
theorem text_bad (w : World) (b g : Nat) (er : Int) (s : ByteArray) (l : List Int) (v : Value) (h : WrR w b er l v) (he : ¬ er = 0) (hg : w.heap[g]? = some (.cells #[.string s] 9 (0, 0))) (hs : s.size ≤ 1000000) :
    Calls Tryd.prog 41 #[.pointer (some ⟨b, 0, none⟩), .slice (some ⟨g, 0, none⟩) 1 1] w fun e w' => e = .returned (.pointer (some ⟨b, 0, none⟩)) ∧ WrTo b v w er l w' := by
  obtain ⟨c1, _⟩ := block_cell hg
  obtain ⟨n, hn⟩ : ∃ n, n = s.size := ⟨_, rfl⟩
  have hn2 : s.size = n := hn.symm
  have HC := Lib.hid (count_any w b er n l v h (by omega) (fun e => absurd e he))
  have HI : Hid (TextI w (fun wx => WrTo b v w er l wx) 1 0 w) := .inl ⟨rfl, rfl, rfl⟩
  clear h hg hs hn
  go_enter Tryd.func41, Tryd.ntmps41
  go_wp2
  go_loopg [9] 1 (fun k s9 wx => ∃ i : Int, s9 = .int .i64 i ∧ Hid (TextI w (fun wx => WrTo b v w er l wx) k i wx))
  case atStart => exact ⟨0, rfl, HI⟩
  case round =>
    clear HI
    obtain ⟨i, rfl, hi⟩ := hrel
    rcases hi.out with ⟨rfl, rfl, rfl⟩ | ⟨rfl, rfl, hp⟩
    · clear hi
      go_wp2_with (first
        | (go_at_call 68; refine HT.out.mono ?_; rintro e w3 ⟨rfl, rfl⟩)
        | (go_at_call 39; refine HC.out.mono ?_; rintro e w2 ⟨rfl, hw2⟩
           rw [addB_yes he] at hw2
           have HW2 := Lib.hid hw2
           obtain ⟨v2, hw3, _⟩ := hw2
           have HT := Lib.hid (takes_bad w2 b er n _ v2 hw3 he)
           clear hw3))
      go_roundg 0
      case measure => omega
      case rel => exact ⟨1, rfl, .inr ⟨rfl, rfl, HW2.out⟩⟩
    · have HP := Lib.hid hp
      clear hi hp
      go_wp2
      go_ret
      exact ⟨rfl, HP.out⟩
set_option maxRecDepth 100000 in
set_option maxHeartbeats 4000000 in
theorem text_big (w : World) (b g : Nat) (s : ByteArray) (l : List Int) (v : Value) (h : WrR w b 0 l v) (hg : w.heap[g]? = some (.cells #[.string s] 9 (0, 0))) (hr : l.length + (grp s.size).length ≤ 1048576) (hr2 : 1048576 < l.length + (grp s.size).length + s.size) (hs : s.size ≤ 2000000) :
    Calls Tryd.prog 41 #[.pointer (some ⟨b, 0, none⟩), .slice (some ⟨g, 0, none⟩) 1 1] w fun e w' => e = .returned (.pointer (some ⟨b, 0, none⟩)) ∧ WrTo b v w 2 [] w' := by
  obtain ⟨c1, _⟩ := block_cell hg
  obtain ⟨n, hn⟩ : ∃ n, n = s.size := ⟨_, rfl⟩
  have hn2 : s.size = n := hn.symm
  have HC := Lib.hid (count_any w b 0 n l v h (by omega) (fun _ => by rw [hn]; omega))
  have HI : Hid (TextI w (fun wx => WrTo b v w 2 [] wx) 1 0 w) := .inl ⟨rfl, rfl, rfl⟩
  have HR : Hid (1048576 < l.length + (grp n).length + n ∧ n < 9223372036854775808) := by rw [hn]; exact ⟨hr2, by omega⟩
  clear h hg hr hr2 hs hn
  go_enter Tryd.func41, Tryd.ntmps41
  go_wp2
  go_loopg [9] 1 (fun k s9 wx => ∃ i : Int, s9 = .int .i64 i ∧ Hid (TextI w (fun wx => WrTo b v w 2 [] wx) k i wx))
  case atStart => exact ⟨0, rfl, HI⟩
  case round =>
    clear HI
    obtain ⟨i, rfl, hi⟩ := hrel
    rcases hi.out with ⟨rfl, rfl, rfl⟩ | ⟨rfl, rfl, hp⟩
    · clear hi
      go_wp2_with (first
        | (go_at_call 68; refine HT.out.mono ?_; rintro e w3 ⟨rfl, hw3⟩; have HW3 := Lib.hid (WrTo.trans HF2.out hw3); clear hw3)
        | (go_at_call 39; refine HC.out.mono ?_; rintro e w2 ⟨rfl, v2, hw2, hf2⟩
           rw [addB_no] at hw2
           have HF2 := Lib.hid hf2
           have HT := Lib.hid (takes_big w2 b n _ v2 hw2 (by rw [List.length_append]; exact HR.out.1) HR.out.2)
           clear hw2 hf2))
      go_roundg 0
      case measure => omega
      case rel => exact ⟨1, rfl, .inr ⟨rfl, rfl, HW3.out⟩⟩
    · have HP := Lib.hid hp
      clear hi hp
      go_wp2
      go_ret
      exact ⟨rfl, HP.out⟩
end Go.Proofs.YteahloddjekakaaDoor.Oc

namespace Go.Proofs.YteahloddjekakaaDoor.Oc
open Go.RowKit

/-- The slice v holds the bytes l. -/
def BAt (w : World) (v : Value) (l : List Int) : Prop :=
  ∃ A cap, v = .slice A l.length cap ∧ l.length ≤ cap ∧ (0 < l.length → ∃ g o, A = some ⟨g, o, none⟩ ∧ g < w.heap.size ∧ ∀ i, i < l.length → w.cell? ⟨g, o + i, none⟩ = some (.int .u8 (l.getD i 0)))
theorem BAt.of_own {w : World} {base : Nat} {v : Value} {l : List Int} (h : w.ownsRow base 5 1 v l.length (bv l)) : BAt w v l := by
  rcases h.2 with ⟨h1, h2⟩ | ⟨g, cap, cur, h1, _, h3, h4, _⟩
  · exact ⟨none, 0, by rw [h1, h2], by omega, fun h => by omega⟩
  · refine ⟨_, cap, h1, h4, fun _ => ⟨g, 0, rfl, (Array.getElem?_eq_some_iff.1 h3).1, fun i hi => ?_⟩⟩
    have := h.cells (g := g) (by rw [h1]; rfl) i _ (bv_getD hi)
    rw [show (Addr.mk g 0 none).add i = ⟨g, 0 + i, none⟩ by unfold Addr.add; split <;> simp_all] at this
    exact this
theorem BAt.kept {w w' : World} {v : Value} {l : List Int} (h : BAt w v l) (hb : Below w.heap.size w w') : BAt w' v l := by
  obtain ⟨A, cap, h1, h2, h3⟩ := h
  refine ⟨A, cap, h1, h2, fun hp => ?_⟩
  obtain ⟨g, o, h4, h5, h6⟩ := h3 hp
  exact ⟨g, o, h4, Nat.lt_of_lt_of_le h5 hb.size, fun i hi => (hb.cell (p := ⟨g, o + i, none⟩) h5).trans (h6 i hi)⟩

set_option maxRecDepth 100000 in
theorem clone_any (w : World) (v : Value) (l : List Int) (h : BAt w v l) (hl : l.length ≤ 2000000) :
    Calls Tryd.prog 70 #[v] w fun e w' => ∃ v', e = .returned v' ∧ w'.ownsRow w.heap.size 5 1 v' l.length (bv l) ∧ Below w.heap.size w w' := by
  obtain ⟨A, cap, rfl, _, hc⟩ := h
  obtain ⟨i0, hi0, hz0, hz1, hz2⟩ := info_parts u8Inf
  have q22 : ∀ (w : World) (a : Option Addr) (n c n' c' : Nat), (binOp .eql 45 (.slice a n c) (.slice none n' c')).run Tryd.prog w = .ok (.bool a.isNone) w := fun w a n c n' c' => Lib.run_eql_slice_nil w _ _ a n c n' c' Tryd.underlying45
  obtain ⟨n, hn⟩ : ∃ n, n = l.length := ⟨_, rfl⟩
  have HN := Lib.hid hn
  rw [← hn] at hc hl ⊢
  cases A with
  | none =>
    have h0 : l = [] := by
      cases l with
      | nil => rfl
      | cons x r => obtain ⟨g, o, h1, _⟩ := hc (by rw [hn]; simp); cases h1
    subst h0
    have HO : Hid (w.ownsRow w.heap.size 5 1 (.slice none 0 0) n (bv [])) := by
      show World.ownsRow _ _ _ _ _ _ _
      rw [hn]; exact World.ownsRow_nil _ _ _ _
    clear hn hc
    go_enter Tryd.func70, Tryd.ntmps70
    go_wp2
    go_ret
    exact ⟨_, rfl, HO.out, Below.refl _ _⟩
  | some a =>
    have HC : Hid (∀ j u, (bv l)[j]? = some u → (w.alloc (.cells #[] 5)).cell? (a.add j) = some u) := by
      intro j u hu
      have hj : j < n := by have := (List.getElem?_eq_some_iff.1 hu).1; rw [bv_len] at this; omega
      obtain ⟨g, o, h1, h2, h3⟩ := hc (by omega)
      cases h1
      rw [show (Addr.mk g o none).add j = ⟨g, o + j, none⟩ by unfold Addr.add; split <;> simp_all, bv_get hu]
      exact Lib.cell?_alloc_some _ (h3 j hj)
    clear hn hc
    go_enter Tryd.func70, Tryd.ntmps70
    go_wp2_with (at_builtin; refine wpList_append_own _ rfl _ _ 45 rfl w.heap.size 5 i0 (.int .u8 0) 1 1 Tryd.underlying45 hi0 hz0 hz1 hz2 rfl (by decide) _ _ _ rfl (World.ownsRow_made w #[] 0 (Nat.le_refl _) (Nat.zero_le _) rfl) a n cap (bv l) rfl (by rw [bv_len, HN.out]; omega) HC.out (bv_one _) (by unfold maxLen; omega) (by omega) (by simp) ?_; intro v' w1 hown hgrow hnil)
    go_ret
    exact ⟨v', rfl, by simpa using hown, ((Below.refl _ w).alloc (Nat.le_refl _) _).grown hgrow (by simp) (by intro k hk; have hk2 : w.heap.size = k := Option.some.inj hk; omega)⟩

set_option maxRecDepth 100000 in
theorem wdone_nil (w : World) : Calls Tryd.prog 45 #[.pointer none] w fun e w' => e = .returned (.tuple #[.slice none 0 0, .int .i64 10]) ∧ w = w' := by
  go_enter Tryd.func45, Tryd.ntmps45
  go_wp2
  go_ret2
  exact ⟨rfl, rfl⟩
set_option maxRecDepth 100000 in
set_option maxHeartbeats 4000000 in
theorem wdone_any (w : World) (b : Nat) (er : Int) (l : List Int) (v : Value) (h : WrR w b er l v) :
    Calls Tryd.prog 45 #[.pointer (some ⟨b, 0, none⟩)] w fun e w' => ∃ A cap, e = .returned (.tuple #[.slice A l.length cap, .int .i64 er]) ∧ w'.ownsRow w.heap.size 5 1 (.slice A l.length cap) l.length (bv l) ∧ Below w.heap.size w w' := by
  have HC := Lib.hid (clone_any w.drew v l ((BAt.of_own h.2.1).kept (Below.refl _ w).drew) (by have := h.2.2; omega))
  obtain ⟨⟨c1, c2⟩, _⟩ := block_cell2 h.1
  have hlt := h.lt
  have HW := Lib.hid h
  clear h
  go_enter Tryd.func45, Tryd.ntmps45
  go_wp2_with fail
  go_region_held3 (fun w' => w'.cell? ⟨b, 0, none⟩ = some (.int .i64 er) ∧ w'.cell? ⟨b, 1, none⟩ = some v)
    (first
      | (exact ⟨d1, d2⟩)
      | go_keep)
    (first
      | (go_at_call 70; refine HC.out.mono ?_; rintro e w1 ⟨v', rfl, ho1, hb1⟩
         obtain ⟨A1, n1, c1', rfl⟩ : ∃ A n c, v' = Value.slice A n c := by obtain ⟨A, c, h, _⟩ := BAt.of_own ho1; exact ⟨A, _, c, h⟩
         have d1 : w1.cell? ⟨b, 0, none⟩ = some (.int .i64 er) := (hb1.cell (p := ⟨b, 0, none⟩) hlt).trans c1
         have d2 : w1.cell? ⟨b, 1, none⟩ = some v := (hb1.cell (p := ⟨b, 1, none⟩) hlt).trans c2
         have O1 := Lib.hid ho1
         have B1 := Lib.hid hb1
         clear ho1 hb1))
  all_goals
    go_wp2
    go_ret2
    obtain ⟨A, c, h1, _⟩ := BAt.of_own O1.out
    cases h1
    exact ⟨_, _, rfl, O1.out, (Below.refl _ w).drew.trans B1.out⟩

set_option maxRecDepth 100000 in
/-- The reference's Same at equal bytes. -/
theorem same_eq (w : World) (u v : Value) (l : List Int) (hu : BAt w u l) (hv : BAt w v l) (hn : l.length ≤ 2000000) :
    Calls Tryd.prog 19 #[u, v] w fun e w' => e = .returned (.bool true) ∧ Below w.heap.size w w' := by
  obtain ⟨A, cap, rfl, k1, h1⟩ := hu
  obtain ⟨A', cap', rfl, k2, h2⟩ := hv
  obtain ⟨n, hn2⟩ : ∃ n, n = l.length := ⟨_, rfl⟩
  rw [← hn2] at h1 h2 hn k1 k2 ⊢
  have H1 := Lib.hid h1
  have H2 := Lib.hid h2
  have e0 : (0 : Int) ≤ (n : Int) := by omega
  clear h1 h2 hn2
  go_enter Tryd.func19, Tryd.ntmps19
  go_wp2
  go_loopg [5] n (fun (gh : Nat) s5 wx => ∃ i : Nat, gh = n - i ∧ i ≤ n ∧ s5 = .int .i64 (i : Int) ∧ Below w.heap.size w wx)
  case atStart => exact ⟨0, rfl, Nat.zero_le _, rfl, Below.refl _ _⟩
  case round =>
    obtain ⟨i, rfl, hi, rfl, hbel⟩ := hrel
    by_cases hlt : i < n
    · have t1 : (i : Int) < (n : Int) := by omega
      have t2 : (0 : Int) ≤ (i : Int) := by omega
      obtain ⟨g, o, rfl, lg, hc1⟩ := H1.out (by omega)
      obtain ⟨g', o', rfl, lg', hc3⟩ := H2.out (by omega)
      obtain ⟨r, hr⟩ : ∃ r, r = l.getD i 0 := ⟨_, rfl⟩
      have c1 : wr.cell? ⟨g, o + i, none⟩ = some (.int .u8 r) := by rw [hr]; exact (hbel.cell (p := ⟨g, o + i, none⟩) lg).trans (hc1 i hlt)
      have c3 : wr.cell? ⟨g', o' + i, none⟩ = some (.int .u8 r) := by rw [hr]; exact (hbel.cell (p := ⟨g', o' + i, none⟩) lg').trans (hc3 i hlt)
      have HB := Lib.hid hbel
      clear hbel hr hc1 hc3
      go_wp2_with fail
      go_quiet (fail)
      go_wp2
      go_roundg (n - (i + 1))
      case measure => omega
      case rel => exact ⟨i + 1, rfl, hlt, by go_num, ⟨HB.out.os, HB.out.tape, HB.out.output, HB.out.size, HB.out.block⟩⟩
    · have hil : i = n := by omega
      subst hil
      have t1 : decide ((i : Int) < (i : Int)) = false := by simp
      have HB := Lib.hid hbel
      clear hbel
      go_wp2
      go_ret
      exact ⟨rfl, HB.out⟩
end Go.Proofs.YteahloddjekakaaDoor.Oc

namespace Go.Proofs.YteahloddjekakaaDoor.Nt
open Go.RowKit Td

/-- The writer b has the bytes l; the blocks nb and ab are as they were laid, and not its own. -/
structure EncS (w0 : World) (b nb ab : Nat) (o1 o2 : Obj) (l : List Int) (v : Value) (w : World) : Prop where
  wr : Oc.WrR w b 0 l v
  bel : Below w0.heap.size w0 w
  h1 : w.heap[nb]? = some o1
  h2 : w.heap[ab]? = some o2
  n1 : nb ≠ b
  n2 : ab ≠ b
  v1 : v.ownBlock ≠ some nb
  v2 : v.ownBlock ≠ some ab
  hb : w0.heap.size ≤ b
theorem EncS.step {w0 w w' : World} {b nb ab : Nat} {o1 o2 : Obj} {l l' : List Int} {v : Value} (S : EncS w0 b nb ab o1 o2 l v w) (h : Oc.WrTo b v w 0 l' w') : ∃ v', EncS w0 b nb ab o1 o2 l' v' w' := by
  obtain ⟨v', hw, hf⟩ := h
  have own : ∀ k, k < w.heap.size → v.ownBlock ≠ some k → v'.ownBlock ≠ some k := fun k hk hn e => by
    rcases hf.own k e with h1 | h1
    · exact hn h1
    · omega
  exact ⟨v', hw, S.bel.trans (hf.below S.wr S.hb), hf.at S.h1 S.n1 S.v1, hf.at S.h2 S.n2 S.v2, S.n1, S.n2, own nb (Array.getElem?_eq_some_iff.1 S.h1).1 S.v1, own ab (Array.getElem?_eq_some_iff.1 S.h2).1 S.v2, S.hb⟩
theorem EncS.kept {w0 w w' : World} {b nb ab : Nat} {o1 o2 : Obj} {l : List Int} {v : Value} (S : EncS w0 b nb ab o1 o2 l v w) (h : Below w.heap.size w w') : EncS w0 b nb ab o1 o2 l v w' :=
  ⟨S.wr.below h, S.bel.trans (h.mono S.bel.size), block_kept S.h1 h, block_kept S.h2 h, S.n1, S.n2, S.v1, S.v2, S.hb⟩
theorem wr_new (w : World) : Oc.WrR (w.alloc (.cells #[.int .i64 0, .slice none 0 0] 77)) w.heap.size 0 [] (.slice none 0 0) :=
  ⟨block_new w _, World.ownsRow_nil _ _ _ _, by simp⟩
/-- The first byte is written, then a block is laid. -/
theorem enc_first {w0 w1 w2 : World} {nb : Nat} {o1 : Obj} {l : List Int} (h1 : w1.heap[nb]? = some o1) (hb1 : Below w0.heap.size w0 w1) (h : Oc.WrTo w1.heap.size (.slice none 0 0) (w1.alloc (.cells #[.int .i64 0, .slice none 0 0] 77)) 0 l w2) :
    Below w1.heap.size w1 w2 ∧ ∀ (cs : Array Value) (t : TypeId), ∃ v, EncS w0 w1.heap.size nb w2.heap.size o1 (.cells cs t (0, 0)) l v (w2.alloc (.cells cs t)) := by
  obtain ⟨v, hw, hf⟩ := h
  have hlt := (Array.getElem?_eq_some_iff.1 h1).1
  have hA : Below w1.heap.size w1 (w1.alloc (.cells #[.int .i64 0, .slice none 0 0] 77)) := (Below.refl _ _).alloc (Nat.le_refl _) _
  have hB : Below w1.heap.size w1 w2 := hA.trans (hf.below (wr_new w1) (Nat.le_refl _))
  refine ⟨hB, fun cs t => ⟨v, hw.below ((Below.refl _ _).alloc (Nat.le_refl _) _), (hb1.trans (hB.mono hb1.size)).alloc (Nat.le_trans hb1.size hB.size) _, block_old (block_kept h1 hB) _, block_new _ _, by omega, ?_, ?_, ?_, hb1.size⟩⟩
  · have := hw.lt; omega
  · intro e
    have := (hw.2.1.lt _ e).1
    omega
  · intro e
    have := (hw.2.1.lt _ e).2
    omega

end Go.Proofs.YteahloddjekakaaDoor.Nt

namespace Go.Proofs.YteahloddjekakaaDoor.Nt
open Go.RowKit Td

/-- A text's bytes: how long it is, and what it is. -/
def tx (s : ByteArray) : List Int := Oc.grp s.size ++ Oc.sb s
def txs (ss : List ByteArray) : List Int := ss.flatMap tx
theorem txs_take_succ {ss : List ByteArray} {i : Nat} {s : ByteArray} (h : ss[i]? = some s) : txs (ss.take (i + 1)) = txs (ss.take i) ++ tx s := by
  have hlt := (List.getElem?_eq_some_iff.1 h).1
  have he := (List.getElem?_eq_some_iff.1 h).2
  rw [List.take_succ_eq_append_getElem hlt, txs, List.flatMap_append, he]
  simp [txs]
theorem txs_take_len (ss : List ByteArray) (i : Nat) : (txs (ss.take i)).length ≤ (txs ss).length := by
  have : txs ss = txs (ss.take i) ++ txs (ss.drop i) := by rw [txs, txs, txs, ← List.flatMap_append, List.take_append_drop]
  rw [this, List.length_append]; omega
theorem tx_len (s : ByteArray) : (tx s).length = (Oc.grp s.size).length + s.size := by simp [tx, Oc.sb_len]
theorem cell_blk {w w' : World} {g : Nat} (h : w'.heap[g]? = w.heap[g]?) (o : Nat) : w'.cell? ⟨g, o, none⟩ = w.cell? ⟨g, o, none⟩ := by unfold World.cell?; rw [h]
/-- Texts at the head of a block. -/
def SAt (w : World) (g : Nat) (ss : List ByteArray) : Prop := ∀ i s, ss[i]? = some s → w.cell? ⟨g, i, none⟩ = some (.string s)

set_option maxRecDepth 100000 in
set_option maxHeartbeats 8000000 in
theorem texts_any (w : World) (b g n : Nat) (ss : List ByteArray) (l : List Int) (v : Value) (h : Oc.WrR w b 0 l v) (hn : ss.length = n) (hg : SAt w g ss) (hgl : g < w.heap.size) (hgb : g ≠ b) (hgv : v.ownBlock ≠ some g) (hr : l.length + (txs ss).length ≤ 1048576) (hn4 : n < 4) :
    Calls Tryd.prog 41 #[.pointer (some ⟨b, 0, none⟩), .slice (some ⟨g, 0, none⟩) n n] w fun e w' => e = .returned (.pointer (some ⟨b, 0, none⟩)) ∧ Oc.WrTo b v w 0 (l ++ txs ss) w' := by
  have HS := Lib.hid hg
  have HL := Lib.hid hgl
  have HB := Lib.hid hgb
  have HV := Lib.hid hgv
  have HR := Lib.hid hr
  have HN := Lib.hid hn
  have HI : Hid (Oc.WrTo b v w 0 (l ++ txs (ss.take 0)) w) := ⟨v, by simpa [txs] using h, Oc.WFr.refl _ _ _⟩
  clear h hg hr hn hgl hgb hgv
  go_enter Tryd.func41, Tryd.ntmps41
  go_wp2
  go_loopg [9] n (fun (gh : Nat) s9 wx => ∃ i : Nat, gh = n - i ∧ i ≤ n ∧ s9 = .int .i64 (i : Int) ∧ Hid (Oc.WrTo b v w 0 (l ++ txs (ss.take i)) wx))
  case atStart => exact ⟨0, rfl, Nat.zero_le _, rfl, HI⟩
  case round =>
    clear HI
    obtain ⟨i, rfl, hi, rfl, hp⟩ := hrel
    by_cases hlt : i < n
    · have t1 : (i : Int) < (n : Int) := by omega
      have t2 : (0 : Int) ≤ (i : Int) := by omega
      obtain ⟨s, hs⟩ : ∃ s, ss[i]? = some s := ⟨_, List.getElem?_eq_getElem (by rw [HN.out]; exact hlt)⟩
      obtain ⟨v1, hw1, hf1⟩ := hp.out
      have c1 : wr.cell? ⟨g, i, none⟩ = some (.string s) := by
        exact (cell_blk (hf1.block g HL.out HB.out HV.out) i).trans (HS.out i s hs)
      have hA : (l ++ txs (ss.take i)).length + (Oc.grp s.size).length + s.size ≤ 1048576 := by
        have h1 := HR.out
        have h2 := txs_take_len ss (i + 1)
        rw [txs_take_succ hs, List.length_append, tx_len] at h2
        rw [List.length_append]; omega
      obtain ⟨m, hm⟩ : ∃ m, m = s.size := ⟨_, rfl⟩
      have hm2 : s.size = m := hm.symm
      have HA : Hid ((l ++ txs (ss.take i)).length + (Oc.grp m).length + m ≤ 1048576) := by rw [hm]; exact hA
      have hmm : m ≤ 1048576 := by omega
      have HC := Lib.hid (Oc.count_any wr b 0 m _ v1 hw1 (by omega) (fun _ => by have := HA.out; omega))
      have HF1 := Lib.hid hf1
      have he : l ++ txs (ss.take i) ++ (Oc.grp m ++ Oc.sb s) = l ++ txs (ss.take (i + 1)) := by
        rw [txs_take_succ hs, tx, hm, List.append_assoc]
      have HE := Lib.hid he
      clear he
      clear hp hw1 hf1 hA hm hs
      go_wp2_with (first
        | (at_builtin; refine Lib.wpList_append_run _ rfl _ _ _ _ rfl _ _ rfl rfl _ _ hrun ?_)
        | (go_at_call 68; refine HT.out.mono ?_; rintro e w3 ⟨rfl, rfl⟩)
        | (go_at_call 39; refine HC.out.mono ?_; rintro e w2 ⟨rfl, v2, hw2, hf2⟩
           rw [Oc.addB_no] at hw2
           have HT := Lib.hid (Oc.takes_ok w2 b m _ v2 hw2 (by have := HA.out; rw [List.length_append]; omega))
           have HF2 := Lib.hid hf2
           obtain ⟨v4, w4, hrun, ho4, hg4, hn4⟩ := Oc.app_str w2 (b + 1) v2 _ hw2.2.1 s (by have := HA.out; rw [List.length_append, hm2]; omega) hw2.lt
           have hs4 := Oc.wr_grown hw2 ho4 hg4 hn4 (by have := HA.out; rw [Oc.sb_len, List.length_append, hm2]; omega)
           obtain ⟨A4, n4, c4, rfl⟩ : ∃ A n c, v4 = Value.slice A n c := by obtain ⟨A, c, h⟩ := Oc.WrR.shape hs4.1; exact ⟨A, _, c, h⟩
           have hb4 : w4.heap[b]? = some (.cells #[.int .i64 0, v2] 77 (0, 0)) := (hg4.block b hw2.lt (fun e => by have := (hw2.2.1.lt b e.symm).1; omega)).trans hw2.1
           obtain ⟨⟨d1, d2⟩, _⟩ := Oc.block_cell2 hw2.1
           obtain ⟨_, _, e2⟩ := Oc.block_cell2 hb4
           have HS4 := Lib.hid hs4
           clear hw2 hf2 ho4 hg4 hs4 hb4))
      go_roundg (n - (i + 1))
      case measure => omega
      case rel => exact ⟨i + 1, rfl, hlt, by simp, by rw [← HE.out, ← List.append_assoc]; exact ⟨_, HS4.out.1, HF1.out.trans (HF2.out.trans HS4.out.2)⟩⟩
    · obtain rfl : i = n := by omega
      have t1 : ¬ (i : Int) < (i : Int) := by omega
      have hp2 := hp.out
      rw [List.take_of_length_le (by rw [HN.out]; exact Nat.le_refl _)] at hp2
      have HP := Lib.hid hp2
      clear hp hp2
      go_wp2
      go_ret
      exact ⟨rfl, HP.out⟩
end Go.Proofs.YteahloddjekakaaDoor.Nt
