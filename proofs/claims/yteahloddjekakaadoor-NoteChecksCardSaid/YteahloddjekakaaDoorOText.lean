/-
  The contracts of the writer's Text, of one text. Conditions: what is written has room, or there is a mistake; or the text's bytes alone have no room any more.
-/
import Derived.Test.YteahloddjekakaaDoorOWide
import Derived.Lib.AppendZeros
namespace Go.Proofs.YteahloddjekakaaDoor.Oc
open Go.RowKit

/-- Ahead of the one text, or behind it. -/
def TextI (w : World) (P : World → Prop) (k : Nat) (i : Int) (wx : World) : Prop := (k = 1 ∧ i = 0 ∧ wx = w) ∨ (k = 0 ∧ i = 1 ∧ P wx)
theorem WFr.at {b : Nat} {v v' : Value} {w w' : World} (h : WFr b v v' w w') {a : Nat} {o : Obj} (ha : w.heap[a]? = some o) (hb : a ≠ b) (hv : v.ownBlock ≠ some a) : w'.heap[a]? = some o :=
  (h.block a (Array.getElem?_eq_some_iff.1 ha).1 hb hv).trans ha
set_option maxRecDepth 100000 in
set_option maxHeartbeats 4000000 in
theorem text_ok (w : World) (b g : Nat) (s : ByteArray) (l : List Int) (v : Value) (h : WrR w b 0 l v) (hg : w.heap[g]? = some (.cells #[.string s] 9 (0, 0))) (hr : l.length + (grp s.size).length + s.size ≤ 1048576) :
    Calls Tryd.prog 41 #[.pointer (some ⟨b, 0, none⟩), .slice (some ⟨g, 0, none⟩) 1 1] w fun e w' => e = .returned (.pointer (some ⟨b, 0, none⟩)) ∧ WrTo b v w 0 (l ++ (grp s.size ++ sb s)) w' := by
  obtain ⟨c1, _⟩ := block_cell hg
  obtain ⟨n, hn⟩ : ∃ n, n = s.size := ⟨_, rfl⟩
  have hn2 : s.size = n := hn.symm
  have HC := Lib.hid (count_any w b 0 n l v h (by omega) (fun _ => by rw [hn]; omega))
  have HR : Hid (l.length + (grp n).length + n ≤ 1048576) := by rw [hn]; exact hr
  have hnn : n ≤ 1048576 := by omega
  have HI : Hid (TextI w (fun wx => WrTo b v w 0 (l ++ (grp n ++ sb s)) wx) 1 0 w) := .inl ⟨rfl, rfl, rfl⟩
  rw [hn2]
  clear h hg hr hn
  go_enter Tryd.func41, Tryd.ntmps41
  go_wp2
  go_loopg [9] 1 (fun k s9 wx => ∃ i : Int, s9 = .int .i64 i ∧ Hid (TextI w (fun wx => WrTo b v w 0 (l ++ (grp n ++ sb s)) wx) k i wx))
  case atStart => exact ⟨0, rfl, HI⟩
  case round =>
    clear HI
    obtain ⟨i, rfl, hi⟩ := hrel
    rcases hi.out with ⟨rfl, rfl, rfl⟩ | ⟨rfl, rfl, hp⟩
    · clear hi
      go_wp2_with (first
        | (at_builtin; refine Lib.wpList_append_run _ rfl _ _ _ _ rfl _ _ rfl rfl _ _ hrun ?_)
        | (go_at_call 68; refine HT.out.mono ?_; rintro e w3 ⟨rfl, rfl⟩)
        | (go_at_call 39; refine HC.out.mono ?_; rintro e w2 ⟨rfl, v2, hw2, hf2⟩
           rw [addB_no] at hw2
           have HT := Lib.hid (takes_ok w2 b n _ v2 hw2 (by rw [List.length_append]; exact HR.out))
           have HW2 := Lib.hid hw2
           have HF2 := Lib.hid hf2
           obtain ⟨v4, w4, hrun, ho4, hg4, hn4⟩ := app_str w2 (b + 1) v2 _ hw2.2.1 s (by rw [List.length_append, hn2]; exact HR.out) hw2.lt
           have hs4 := wr_grown hw2 ho4 hg4 hn4 (by rw [sb_len, List.length_append, hn2]; exact HR.out)
           obtain ⟨A4, n4, c4, rfl⟩ : ∃ A n c, v4 = Value.slice A n c := by obtain ⟨A, c, h⟩ := WrR.shape hs4.1; exact ⟨A, _, c, h⟩
           have hb4 : w4.heap[b]? = some (.cells #[.int .i64 0, v2] 77 (0, 0)) := (hg4.block b hw2.lt (fun e => by have := (hw2.2.1.lt b e.symm).1; omega)).trans hw2.1
           obtain ⟨⟨d1, d2⟩, _⟩ := block_cell2 hw2.1
           obtain ⟨_, _, e2⟩ := block_cell2 hb4
           have HS4 := Lib.hid hs4
           clear hw2 hf2 ho4 hg4 hn4 hs4 hb4))
      go_roundg 0
      case measure => omega
      case rel => exact ⟨1, rfl, .inr ⟨rfl, rfl, by rw [← List.append_assoc]; exact ⟨_, HS4.out.1, HF2.out.trans HS4.out.2⟩⟩⟩
    · have HP := Lib.hid hp
      clear hi hp
      go_wp2
      go_ret
      exact ⟨rfl, HP.out⟩
set_option maxRecDepth 100000 in
set_option maxHeartbeats 4000000 in
theorem text_bad (w : World) (b g : Nat) (er : Int) (s : ByteArray) (l : List Int) (v : Value) (h : WrR w b er l v) (he : ¬ er = 0) (hg : w.heap[g]? = some (.cells #[.string s] 9 (0, 0))) (hs : s.size ≤ 1000000) :
    Calls Tryd.prog 41 #[.pointer (some ⟨b, 0, none⟩), .slice (some ⟨g, 0, none⟩) 1 1] w fun e w' => e = .returned (.pointer (some ⟨b, 0, none⟩)) ∧ WrTo b v w er l w' := by
  obtain ⟨c1, _⟩ := block_cell hg
  obtain ⟨n, hn⟩ : ∃ n, n = s.size := ⟨_, rfl⟩
  have hn2 : s.size = n := hn.symm
  have HC := Lib.hid (count_any w b er n l v h (by omega) (fun e => absurd e he))
  have HI : Hid (TextI w (fun wx => WrTo b v w er l wx) 1 0 w) := .inl ⟨rfl, rfl, rfl⟩
  clear h hg hs hn
  go_enter Tryd.func41, Tryd.ntmps41
  go_wp2
  go_loopg [9] 1 (fun k s9 wx => ∃ i : Int, s9 = .int .i64 i ∧ Hid (TextI w (fun wx => WrTo b v w er l wx) k i wx))
  case atStart => exact ⟨0, rfl, HI⟩
  case round =>
    clear HI
    obtain ⟨i, rfl, hi⟩ := hrel
    rcases hi.out with ⟨rfl, rfl, rfl⟩ | ⟨rfl, rfl, hp⟩
    · clear hi
      go_wp2_with (first
        | (go_at_call 68; refine HT.out.mono ?_; rintro e w3 ⟨rfl, rfl⟩)
        | (go_at_call 39; refine HC.out.mono ?_; rintro e w2 ⟨rfl, hw2⟩
           rw [addB_yes he] at hw2
           have HW2 := Lib.hid hw2
           obtain ⟨v2, hw3, _⟩ := hw2
           have HT := Lib.hid (takes_bad w2 b er n _ v2 hw3 he)
           clear hw3))
      go_roundg 0
      case measure => omega
      case rel => exact ⟨1, rfl, .inr ⟨rfl, rfl, HW2.out⟩⟩
    · have HP := Lib.hid hp
      clear hi hp
      go_wp2
      go_ret
      exact ⟨rfl, HP.out⟩
set_option maxRecDepth 100000 in
set_option maxHeartbeats 4000000 in
theorem text_big (w : World) (b g : Nat) (s : ByteArray) (l : List Int) (v : Value) (h : WrR w b 0 l v) (hg : w.heap[g]? = some (.cells #[.string s] 9 (0, 0))) (hr : l.length + (grp s.size).length ≤ 1048576) (hr2 : 1048576 < l.length + (grp s.size).length + s.size) (hs : s.size ≤ 2000000) :
    Calls Tryd.prog 41 #[.pointer (some ⟨b, 0, none⟩), .slice (some ⟨g, 0, none⟩) 1 1] w fun e w' => e = .returned (.pointer (some ⟨b, 0, none⟩)) ∧ WrTo b v w 2 [] w' := by
  obtain ⟨c1, _⟩ := block_cell hg
  obtain ⟨n, hn⟩ : ∃ n, n = s.size := ⟨_, rfl⟩
  have hn2 : s.size = n := hn.symm
  have HC := Lib.hid (count_any w b 0 n l v h (by omega) (fun _ => by rw [hn]; omega))
  have HI : Hid (TextI w (fun wx => WrTo b v w 2 [] wx) 1 0 w) := .inl ⟨rfl, rfl, rfl⟩
  have HR : Hid (1048576 < l.length + (grp n).length + n ∧ n < 9223372036854775808) := by rw [hn]; exact ⟨hr2, by omega⟩
  clear h hg hr hr2 hs hn
  go_enter Tryd.func41, Tryd.ntmps41
  go_wp2
  go_loopg [9] 1 (fun k s9 wx => ∃ i : Int, s9 = .int .i64 i ∧ Hid (TextI w (fun wx => WrTo b v w 2 [] wx) k i wx))
  case atStart => exact ⟨0, rfl, HI⟩
  case round =>
    clear HI
    obtain ⟨i, rfl, hi⟩ := hrel
    rcases hi.out with ⟨rfl, rfl, rfl⟩ | ⟨rfl, rfl, hp⟩
    · clear hi
      go_wp2_with (first
        | (go_at_call 68; refine HT.out.mono ?_; rintro e w3 ⟨rfl, hw3⟩; have HW3 := Lib.hid (WrTo.trans HF2.out hw3); clear hw3)
        | (go_at_call 39; refine HC.out.mono ?_; rintro e w2 ⟨rfl, v2, hw2, hf2⟩
           rw [addB_no] at hw2
           have HF2 := Lib.hid hf2
           have HT := Lib.hid (takes_big w2 b n _ v2 hw2 (by rw [List.length_append]; exact HR.out.1) HR.out.2)
           clear hw2 hf2))
      go_roundg 0
      case measure => omega
      case rel => exact ⟨1, rfl, .inr ⟨rfl, rfl, HW3.out⟩⟩
    · have HP := Lib.hid hp
      clear hi hp
      go_wp2
      go_ret
      exact ⟨rfl, HP.out⟩
end Go.Proofs.YteahloddjekakaaDoor.Oc
