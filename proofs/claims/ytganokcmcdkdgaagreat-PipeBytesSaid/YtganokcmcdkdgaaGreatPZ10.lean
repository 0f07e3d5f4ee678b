/-
  The contracts of the writer's Wide, Text and Done. Conditions: what is written has room, or there is a mistake.
-/
import Derived.Test.YtganokcmcdkdgaaGreatOWrite
import Derived.Shelf.Bytes.SlClone
import Derived.Lib.AppendZeros
import Derived.Deep.RegionHeld3
namespace Go.Proofs.YtganokcmcdkdgaaGreat.Oc
open Go.RowKit

/-- The k lowest bytes of a word, the highest first. -/
def wordF : Nat → Nat → List Int
  | 0, _ => []
  | k + 1, x => ((x / 256 ^ k % 256 : Nat) : Int) :: wordF k x
theorem wordF_len (k x : Nat) : (wordF k x).length = k := by
  induction k with
  | zero => rfl
  | succ k ih => simp [wordF, ih]
/-- The word's bytes while they are written: k are to come. -/
def WideI (w : World) (b : Nat) (er : Int) (v : Value) (l all : List Int) (lo k : Nat) (wx : World) : Prop :=
  ∃ acc, WrTo b v w er (addB er l acc) wx ∧ acc ++ wordF k lo = all
theorem WideI.block {w wx : World} {b : Nat} {er : Int} {v : Value} {l all : List Int} {lo k a : Nat} {o : Obj} (h : WideI w b er v l all lo k wx) (ha : w.heap[a]? = some o) (hb : a ≠ b) (hv : v.ownBlock ≠ some a) : wx.heap[a]? = some o := by
  obtain ⟨acc, ⟨v', _, h2⟩, _⟩ := h
  exact (h2.block a (Array.getElem?_eq_some_iff.1 ha).1 hb hv).trans ha
end Go.Proofs.YtganokcmcdkdgaaGreat.Oc

namespace Go.Proofs.YtganokcmcdkdgaaGreat.Oc
open Go.RowKit

/-- Ahead of the one text, or behind it. -/
def TextI (w : World) (P : World → Prop) (k : Nat) (i : Int) (wx : World) : Prop := (k = 1 ∧ i = 0 ∧ wx = w) ∨ (k = 0 ∧ i = 1 ∧ P wx)
theorem WFr.at {b : Nat} {v v' : Value} {w w' : World} (h : WFr b v v' w w') {a : Nat} {o : Obj} (ha : w.heap[a]? = some o) (hb : a ≠ b) (hv : v.ownBlock ≠ some a) : w'.heap[a]? = some o :=
  (h.block a (Array.getElem?_eq_some_iff.1 ha).1 hb hv).trans ha
set_option maxRecDepth 100000 in
set_option maxHeartbeats 4000000 in
theorem text_ok (w : World) (b g : Nat) (s : ByteArray) (l : List Int) (v : Value) (h : WrR w b 0 l v) (hg : w.heap[g]? = some (.cells #[.string s] 9 (0, 0))) (hr : l.length + (grp s.size).length + s.size ≤ 1048576) :
    Calls Tryz.prog 19 #[.pointer (some ⟨b, 0, none⟩), .slice (some ⟨g, 0, none⟩) 1 1] w fun e w' => e = .returned (.pointer (some ⟨b, 0, none⟩)) ∧ WrTo b v w 0 (l ++ (grp s.size ++ sb s)) w' := by
  obtain ⟨c1, _⟩ := block_cell hg
  obtain ⟨n, hn⟩ : ∃ n, n = s.size := ⟨_, rfl⟩
  have hn2 : s.size = n := hn.symm
  have HC := Lib.hid (count_any w b 0 n l v h (by omega) (fun _ => by rw [hn]; omega))
  have HR : Hid (l.length + (grp n).length + n ≤ 1048576) := by rw [hn]; exact hr
  have hnn : n ≤ 1048576 := by omega
  have HI : Hid (TextI w (fun wx => WrTo b v w 0 (l ++ (grp n ++ sb s)) wx) 1 0 w) := .inl ⟨rfl, rfl, rfl⟩
  rw [hn2]
  clear h hg hr hn
  go_enter Tryz.func19, Tryz.ntmps19
  go_wp2
  go_loopg [9] 1 (fun k s9 wx => ∃ i : Int, s9 = .int .i64 i ∧ Hid (TextI w (fun wx => WrTo b v w 0 (l ++ (grp n ++ sb s)) wx) k i wx))
  case atStart => exact ⟨0, rfl, HI⟩
  case round =>
    clear HI
    obtain ⟨i, rfl, hi⟩ := hrel
    rcases hi.out with ⟨rfl, rfl, rfl⟩ | ⟨rfl, rfl, hp⟩
    · clear hi
      go_wp2_with (first
        | (at_builtin; refine Lib.wpList_append_run _ rfl _ _ _ _ rfl _ _ rfl rfl _ _ hrun ?_)
        | (go_at_call 46; refine HT.out.mono ?_; rintro e w3 ⟨rfl, rfl⟩)
        | (go_at_call 18; refine HC.out.mono ?_; rintro e w2 ⟨rfl, v2, hw2, hf2⟩
           rw [addB_no] at hw2
           have HT := Lib.hid (takes_ok w2 b n _ v2 hw2 (by rw [List.length_append]; exact HR.out))
           have HW2 := Lib.hid hw2
           have HF2 := Lib.hid hf2
           obtain ⟨v4, w4, hrun, ho4, hg4, hn4⟩ := app_str w2 (b + 1) v2 _ hw2.2.1 s (by rw [List.length_append, hn2]; exact HR.out) hw2.lt
           have hs4 := wr_grown hw2 ho4 hg4 hn4 (by rw [sb_len, List.length_append, hn2]; exact HR.out)
           obtain ⟨A4, n4, c4, rfl⟩ : ∃ A n c, v4 = Value.slice A n c := by obtain ⟨A, c, h⟩ := WrR.shape hs4.1; exact ⟨A, _, c, h⟩
           have hb4 : w4.heap[b]? = some (.cells #[.int .i64 0, v2] 48 (0, 0)) := (hg4.block b hw2.lt (fun e => by have := (hw2.2.1.lt b e.symm).1; omega)).trans hw2.1
           obtain ⟨⟨d1, d2⟩, _⟩ := block_cell2 hw2.1
           obtain ⟨_, _, e2⟩ := block_cell2 hb4
           have HS4 := Lib.hid hs4
           clear hw2 hf2 ho4 hg4 hn4 hs4 hb4))
      go_roundg 0
      case measure => omega
      case rel => exact ⟨1, rfl, .inr ⟨rfl, rfl, by rw [← List.append_assoc]; exact ⟨_, HS4.out.1, HF2.out.trans HS4.out.2⟩⟩⟩
    · have HP := Lib.hid hp
      clear hi hp
      go_wp2
      go_ret
      exact ⟨rfl, HP.out⟩
set_option maxRecDepth 100000 in
set_option maxHeartbeats 4000000 in
theorem text_bad (w : World) (b g : Nat) (er : Int) (s : ByteArray) (l : List Int) (v : Value) (h : WrR w b er l v) (he : ¬ er = 0) (hg : w.heap[g]? = some (.cells #[.string s] 9 (0, 0))) (hs : s.size ≤ 1000000) :
    Calls Tryz.prog 19 #[.pointer (some ⟨b, 0, none⟩), .slice (some ⟨g, 0, none⟩) 1 1] w fun e w' => e = .returned (.pointer (some ⟨b, 0, none⟩)) ∧ WrTo b v w er l w' := by
  obtain ⟨c1, _⟩ := block_cell hg
  obtain ⟨n, hn⟩ : ∃ n, n = s.size := ⟨_, rfl⟩
  have hn2 : s.size = n := hn.symm
  have HC := Lib.hid (count_any w b er n l v h (by omega) (fun e => absurd e he))
  have HI : Hid (TextI w (fun wx => WrTo b v w er l wx) 1 0 w) := .inl ⟨rfl, rfl, rfl⟩
  clear h hg hs hn
  go_enter Tryz.func19, Tryz.ntmps19
  go_wp2
  go_loopg [9] 1 (fun k s9 wx => ∃ i : Int, s9 = .int .i64 i ∧ Hid (TextI w (fun wx => WrTo b v w er l wx) k i wx))
  case atStart => exact ⟨0, rfl, HI⟩
  case round =>
    clear HI
    obtain ⟨i, rfl, hi⟩ := hrel
    rcases hi.out with ⟨rfl, rfl, rfl⟩ | ⟨rfl, rfl, hp⟩
    · clear hi
      go_wp2_with (first
        | (go_at_call 46; refine HT.out.mono ?_; rintro e w3 ⟨rfl, rfl⟩)
        | (go_at_call 18; refine HC.out.mono ?_; rintro e w2 ⟨rfl, hw2⟩
           rw [addB_yes he] at hw2
           have HW2 := Lib.hid hw2
           obtain ⟨v2, hw3, _⟩ := hw2
           have HT := Lib.hid (takes_bad w2 b er n _ v2 hw3 he)
           clear hw3))
      go_roundg 0
      case measure => omega
      case rel => exact ⟨1, rfl, .inr ⟨rfl, rfl, HW2.out⟩⟩
    · have HP := Lib.hid hp
      clear hi hp
      go_wp2
      go_ret
      exact ⟨rfl, HP.out⟩
set_option maxRecDepth 100000 in
set_option maxHeartbeats 4000000 in
theorem text_big (w : World) (b g : Nat) (s : ByteArray) (l : List Int) (v : Value) (h : WrR w b 0 l v) (hg : w.heap[g]? = some (.cells #[.string s] 9 (0, 0))) (hr : l.length + (grp s.size).length ≤ 1048576) (hr2 : 1048576 < l.length + (grp s.size).length + s.size) (hs : s.size ≤ 2000000) :
    Calls Tryz.prog 19 #[.pointer (some ⟨b, 0, none⟩), .slice (some ⟨g, 0, none⟩) 1 1] w fun e w' => e = .returned (.pointer (some ⟨b, 0, none⟩)) ∧ WrTo b v w 2 [] w' := by
  obtain ⟨c1, _⟩ := block_cell hg
  obtain ⟨n, hn⟩ : ∃ n, n = s.size := ⟨_, rfl⟩
  have hn2 : s.size = n := hn.symm
  have HC := Lib.hid (count_any w b 0 n l v h (by omega) (fun _ => by rw [hn]; omega))
  have HI : Hid (TextI w (fun wx => WrTo b v w 2 [] wx) 1 0 w) := .inl ⟨rfl, rfl, rfl⟩
  have HR : Hid (1048576 < l.length + (grp n).length + n ∧ n < 9223372036854775808) := by rw [hn]; exact ⟨hr2, by omega⟩
  clear h hg hr hr2 hs hn
  go_enter Tryz.func19, Tryz.ntmps19
  go_wp2
  go_loopg [9] 1 (fun k s9 wx => ∃ i : Int, s9 = .int .i64 i ∧ Hid (TextI w (fun wx => WrTo b v w 2 [] wx) k i wx))
  case atStart => exact ⟨0, rfl, HI⟩
  case round =>
    clear HI
    obtain ⟨i, rfl, hi⟩ := hrel
    rcases hi.out with ⟨rfl, rfl, rfl⟩ | ⟨rfl, rfl, hp⟩
    · clear hi
      go_wp2_with (first
        | (go_at_call 46; refine HT.out.mono ?_; rintro e w3 ⟨rfl, hw3⟩; have HW3 := Lib.hid (WrTo.trans HF2.out hw3); clear hw3)
        | (go_at_call 18; refine HC.out.mono ?_; rintro e w2 ⟨rfl, v2, hw2, hf2⟩
           rw [addB_no] at hw2
           have HF2 := Lib.hid hf2
           have HT := Lib.hid (takes_big w2 b n _ v2 hw2 (by rw [List.length_append]; exact HR.out.1) HR.out.2)
           clear hw2 hf2))
      go_roundg 0
      case measure => omega
      case rel => exact ⟨1, rfl, .inr ⟨rfl, rfl, HW3.out⟩⟩
    · have HP := Lib.hid hp
      clear hi hp
      go_wp2
      go_ret
      exact ⟨rfl, HP.out⟩
end Go.Proofs.YtganokcmcdkdgaaGreat.Oc

namespace Go.Proofs.YtganokcmcdkdgaaGreat.Oc
open Go.RowKit

/-- The slice v holds the bytes l. -/
def BAt (w : World) (v : Value) (l : List Int) : Prop :=
  ∃ A cap, v = .slice A l.length cap ∧ l.length ≤ cap ∧ (0 < l.length → ∃ g o, A = some ⟨g, o, none⟩ ∧ g < w.heap.size ∧ ∀ i, i < l.length → w.cell? ⟨g, o + i, none⟩ = some (.int .u8 (l.getD i 0)))
theorem BAt.of_own {w : World} {base : Nat} {v : Value} {l : List Int} (h : w.ownsRow base 5 1 v l.length (bv l)) : BAt w v l := by
  rcases h.2 with ⟨h1, h2⟩ | ⟨g, cap, cur, h1, _, h3, h4, _⟩
  · exact ⟨none, 0, by rw [h1, h2], by omega, fun h => by omega⟩
  · refine ⟨_, cap, h1, h4, fun _ => ⟨g, 0, rfl, (Array.getElem?_eq_some_iff.1 h3).1, fun i hi => ?_⟩⟩
    have := h.cells (g := g) (by rw [h1]; rfl) i _ (bv_getD hi)
    rw [show (Addr.mk g 0 none).add i = ⟨g, 0 + i, none⟩ by unfold Addr.add; split <;> simp_all] at this
    exact this
theorem BAt.kept {w w' : World} {v : Value} {l : List Int} (h : BAt w v l) (hb : Below w.heap.size w w') : BAt w' v l := by
  obtain ⟨A, cap, h1, h2, h3⟩ := h
  refine ⟨A, cap, h1, h2, fun hp => ?_⟩
  obtain ⟨g, o, h4, h5, h6⟩ := h3 hp
  exact ⟨g, o, h4, Nat.lt_of_lt_of_le h5 hb.size, fun i hi => (hb.cell (p := ⟨g, o + i, none⟩) h5).trans (h6 i hi)⟩

set_option maxRecDepth 100000 in
theorem clone_any (w : World) (v : Value) (l : List Int) (h : BAt w v l) (hl : l.length ≤ 2000000) :
    Calls Tryz.prog 47 #[v] w fun e w' => ∃ v', e = .returned v' ∧ w'.ownsRow w.heap.size 5 1 v' l.length (bv l) ∧ Below w.heap.size w w' := by
  obtain ⟨A, cap, rfl, _, hc⟩ := h
  obtain ⟨i0, hi0, hz0, hz1, hz2⟩ := info_parts u8Inf
  have q22 : ∀ (w : World) (a : Option Addr) (n c n' c' : Nat), (binOp .eql 22 (.slice a n c) (.slice none n' c')).run Tryz.prog w = .ok (.bool a.isNone) w := fun w a n c n' c' => Lib.run_eql_slice_nil w _ _ a n c n' c' Tryz.underlying22
  obtain ⟨n, hn⟩ : ∃ n, n = l.length := ⟨_, rfl⟩
  have HN := Lib.hid hn
  rw [← hn] at hc hl ⊢
  cases A with
  | none =>
    have h0 : l = [] := by
      cases l with
      | nil => rfl
      | cons x r => obtain ⟨g, o, h1, _⟩ := hc (by rw [hn]; simp); cases h1
    subst h0
    have HO : Hid (w.ownsRow w.heap.size 5 1 (.slice none 0 0) n (bv [])) := by
      show World.ownsRow _ _ _ _ _ _ _
      rw [hn]; exact World.ownsRow_nil _ _ _ _
    clear hn hc
    go_enter Tryz.func47, Tryz.ntmps47
    go_wp2
    go_ret
    exact ⟨_, rfl, HO.out, Below.refl _ _⟩
  | some a =>
    have HC : Hid (∀ j u, (bv l)[j]? = some u → (w.alloc (.cells #[] 5)).cell? (a.add j) = some u) := by
      intro j u hu
      have hj : j < n := by have := (List.getElem?_eq_some_iff.1 hu).1; rw [bv_len] at this; omega
      obtain ⟨g, o, h1, h2, h3⟩ := hc (by omega)
      cases h1
      rw [show (Addr.mk g o none).add j = ⟨g, o + j, none⟩ by unfold Addr.add; split <;> simp_all, bv_get hu]
      exact Lib.cell?_alloc_some _ (h3 j hj)
    clear hn hc
    go_enter Tryz.func47, Tryz.ntmps47
    go_wp2_with (at_builtin; refine wpList_append_own _ rfl _ _ 22 rfl w.heap.size 5 i0 (.int .u8 0) 1 1 Tryz.underlying22 hi0 hz0 hz1 hz2 rfl (by decide) _ _ _ rfl (World.ownsRow_made w #[] 0 (Nat.le_refl _) (Nat.zero_le _) rfl) a n cap (bv l) rfl (by rw [bv_len, HN.out]; omega) HC.out (bv_one _) (by unfold maxLen; omega) (by omega) (by simp) ?_; intro v' w1 hown hgrow hnil)
    go_ret
    exact ⟨v', rfl, by simpa using hown, ((Below.refl _ w).alloc (Nat.le_refl _) _).grown hgrow (by simp) (by intro k hk; have hk2 : w.heap.size = k := Option.some.inj hk; omega)⟩

set_option maxRecDepth 100000 in
theorem wdone_nil (w : World) : Calls Tryz.prog 20 #[.pointer none] w fun e w' => e = .returned (.tuple #[.slice none 0 0, .int .i64 10]) ∧ w = w' := by
  go_enter Tryz.func20, Tryz.ntmps20
  go_wp2
  go_ret2
  exact ⟨rfl, rfl⟩
set_option maxRecDepth 100000 in
set_option maxHeartbeats 4000000 in
theorem wdone_any (w : World) (b : Nat) (er : Int) (l : List Int) (v : Value) (h : WrR w b er l v) :
    Calls Tryz.prog 20 #[.pointer (some ⟨b, 0, none⟩)] w fun e w' => ∃ A cap, e = .returned (.tuple #[.slice A l.length cap, .int .i64 er]) ∧ w'.ownsRow w.heap.size 5 1 (.slice A l.length cap) l.length (bv l) ∧ Below w.heap.size w w' := by
  have HC := Lib.hid (clone_any w.drew v l ((BAt.of_own h.2.1).kept (Below.refl _ w).drew) (by have := h.2.2; omega))
  obtain ⟨⟨c1, c2⟩, _⟩ := block_cell2 h.1
  have hlt := h.lt
  have HW := Lib.hid h
  clear h
  go_enter Tryz.func20, Tryz.ntmps20
  go_wp2_with fail
  go_region_held3 (fun w' => w'.cell? ⟨b, 0, none⟩ = some (.int .i64 er) ∧ w'.cell? ⟨b, 1, none⟩ = some v)
    (first
      | (exact ⟨d1, d2⟩)
      | go_keep)
    (first
      | (go_at_call 47; refine HC.out.mono ?_; rintro e w1 ⟨v', rfl, ho1, hb1⟩
         obtain ⟨A1, n1, c1', rfl⟩ : ∃ A n c, v' = Value.slice A n c := by obtain ⟨A, c, h, _⟩ := BAt.of_own ho1; exact ⟨A, _, c, h⟩
         have d1 : w1.cell? ⟨b, 0, none⟩ = some (.int .i64 er) := (hb1.cell (p := ⟨b, 0, none⟩) hlt).trans c1
         have d2 : w1.cell? ⟨b, 1, none⟩ = some v := (hb1.cell (p := ⟨b, 1, none⟩) hlt).trans c2
         have O1 := Lib.hid ho1
         have B1 := Lib.hid hb1
         clear ho1 hb1))
  all_goals
    go_wp2
    go_ret2
    obtain ⟨A, c, h1, _⟩ := BAt.of_own O1.out
    cases h1
    exact ⟨_, _, rfl, O1.out, (Below.refl _ w).drew.trans B1.out⟩

set_option maxRecDepth 100000 in
/-- The reference's Same at equal bytes. -/
theorem same_eq (w : World) (u v : Value) (l : List Int) (hu : BAt w u l) (hv : BAt w v l) (hn : l.length ≤ 2000000) :
    Calls Tryz.prog 12 #[u, v] w fun e w' => e = .returned (.bool true) ∧ Below w.heap.size w w' := by
  obtain ⟨A, cap, rfl, k1, h1⟩ := hu
  obtain ⟨A', cap', rfl, k2, h2⟩ := hv
  obtain ⟨n, hn2⟩ : ∃ n, n = l.length := ⟨_, rfl⟩
  rw [← hn2] at h1 h2 hn k1 k2 ⊢
  have H1 := Lib.hid h1
  have H2 := Lib.hid h2
  have e0 : (0 : Int) ≤ (n : Int) := by omega
  clear h1 h2 hn2
  go_enter Tryz.func12, Tryz.ntmps12
  go_wp2
  go_loopg [5] n (fun (gh : Nat) s5 wx => ∃ i : Nat, gh = n - i ∧ i ≤ n ∧ s5 = .int .i64 (i : Int) ∧ Below w.heap.size w wx)
  case atStart => exact ⟨0, rfl, Nat.zero_le _, rfl, Below.refl _ _⟩
  case round =>
    obtain ⟨i, rfl, hi, rfl, hbel⟩ := hrel
    by_cases hlt : i < n
    · have t1 : (i : Int) < (n : Int) := by omega
      have t2 : (0 : Int) ≤ (i : Int) := by omega
      obtain ⟨g, o, rfl, lg, hc1⟩ := H1.out (by omega)
      obtain ⟨g', o', rfl, lg', hc3⟩ := H2.out (by omega)
      obtain ⟨r, hr⟩ : ∃ r, r = l.getD i 0 := ⟨_, rfl⟩
      have c1 : wr.cell? ⟨g, o + i, none⟩ = some (.int .u8 r) := by rw [hr]; exact (hbel.cell (p := ⟨g, o + i, none⟩) lg).trans (hc1 i hlt)
      have c3 : wr.cell? ⟨g', o' + i, none⟩ = some (.int .u8 r) := by rw [hr]; exact (hbel.cell (p := ⟨g', o' + i, none⟩) lg').trans (hc3 i hlt)
      have HB := Lib.hid hbel
      clear hbel hr hc1 hc3
      go_wp2_with fail
      go_quiet (fail)
      go_wp2
      go_roundg (n - (i + 1))
      case measure => omega
      case rel => exact ⟨i + 1, rfl, hlt, by go_num, ⟨HB.out.os, HB.out.tape, HB.out.output, HB.out.size, HB.out.block⟩⟩
    · have hil : i = n := by omega
      subst hil
      have t1 : decide ((i : Int) < (i : Int)) = false := by simp
      have HB := Lib.hid hbel
      clear hbel
      go_wp2
      go_ret
      exact ⟨rfl, HB.out⟩
end Go.Proofs.YtganokcmcdkdgaaGreat.Oc
