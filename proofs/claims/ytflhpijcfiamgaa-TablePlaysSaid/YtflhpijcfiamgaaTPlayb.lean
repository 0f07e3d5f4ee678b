/-
  The two functions that the law hands to Change, Change with each, and a copy that is changed. Conditions: at most a thousand rows.
-/
import Derived.Test.YtflhpijcfiamgaaTPlaya
namespace Go.Proofs.Ytflhpijcfiamgaa.Tb
open Go.RowKit

set_option maxRecDepth 100000 in
theorem plays1_any (v : Int) (h : Bool) (wc ic ok ab : Nat) (kd ky va : Int) (x : Value) (W : World) (hw : Boxed W wc 3 (.int .i64 v)) (hi : Boxed W ic 4 (.bool h)) (ho : Boxed W ok 4 x) (ha : W.heap[ab]? = some (.cells #[.int .i64 kd, .int .i64 ky, .int .i64 va] 32 (0, 0))) (_hoi : ok ≠ ic) :
    Calls Try.prog 15 #[.int .i64 v, .bool h, .pointer (some ⟨wc, 0, none⟩), .pointer (some ⟨ic, 0, none⟩), .pointer (some ⟨ok, 0, none⟩), .pointer (some ⟨ab, 0, none⟩)] W fun e w' => e = .returned (.tuple #[.int .i64 va, .bool true]) ∧ Kept (fun x => x = ok) W w' ∧ Boxed w' ok 4 (.bool true) := by
  have c1 := hw.cell
  have c2 := hi.cell
  have c3 := ho.cell
  have f3 := ho.frozen
  have hoa : ok ≠ ab := fun e => by
    have := ho
    unfold Boxed at this
    rw [e, ha] at this
    simp at this
  have c4 : W.cell? ⟨ab, 2, none⟩ = some (.int .i64 va) := cell_of_row _ _ _ _ _ _ ha
  have c5 : (W.setCell ⟨ok, 0, none⟩ (.bool true)).cell? ⟨ab, 2, none⟩ = some (.int .i64 va) := cell_of_row _ _ _ _ _ _ (block_set ha (fun e => hoa e.symm) _)
  have e1 : (h == h) = true := by simp
  have FIN : Hid (Kept (fun x => x = ok) W (W.setCell ⟨ok, 0, none⟩ (.bool true)) ∧ Boxed (W.setCell ⟨ok, 0, none⟩ (.bool true)) ok 4 (.bool true)) := ⟨Kept.of_set W ⟨ok, 0, none⟩ _, ho.set _⟩
  clear hw hi ho ha _hoi hoa
  cases h
  all_goals (
    go_enter Try.func15, Try.ntmps15
    go_wp2
    go_ret2
    exact ⟨rfl, FIN.out⟩)
set_option maxRecDepth 100000 in
theorem plays2_any (v : Int) (h : Bool) (ab : Nat) (kd ky va : Int) (W : World) (ha : W.heap[ab]? = some (.cells #[.int .i64 kd, .int .i64 ky, .int .i64 va] 32 (0, 0))) :
    Calls Try.prog 16 #[.int .i64 v, .bool h, .pointer (some ⟨ab, 0, none⟩)] W fun e w' => e = .returned (.tuple #[.int .i64 va, .bool false]) ∧ W = w' := by
  have c4 : W.cell? ⟨ab, 2, none⟩ = some (.int .i64 va) := cell_of_row _ _ _ _ _ _ ha
  clear ha
  go_enter Try.func16, Try.ntmps16
  go_wp2
  go_ret2
  exact ⟨rfl, rfl⟩

theorem change_t1 {base tb db wc ic ok ab : Nat} {kd ky va : Int} {x : Value} {w : World} {rs rs2 : List (Int × Int)} (h : St base tb db w rs rs2) (ha : asc rs) (hn : rs.length ≤ 1000) (hb : base ≤ w.heap.size) (hok : base ≤ ok)
    (hw : Boxed w wc 3 (.int .i64 (Ii.getL rs ky))) (hi : Boxed w ic 4 (.bool (hasB rs ky))) (ho : Boxed w ok 4 x) (hA : w.heap[ab]? = some (.cells #[.int .i64 kd, .int .i64 ky, .int .i64 va] 32 (0, 0))) (hoi : ok ≠ ic) :
    Calls Try.prog 14 #[.pointer (some ⟨tb, 0, none⟩), .int .i64 ky, .func (.func 15) #[] #[.pointer (some ⟨wc, 0, none⟩), .pointer (some ⟨ic, 0, none⟩), .pointer (some ⟨ok, 0, none⟩), .pointer (some ⟨ab, 0, none⟩)]] w fun e w' =>
      e = .returned (.tuple #[]) ∧ St base tb db w' (putL rs ky va) rs2 ∧ KT base w w' ∧ Boxed w' ok 4 (.bool true) := by
  obtain ⟨tv, dv, h1, h2⟩ := h
  have hno := own_not h1 ho
  have hnd : ok ≠ db := fun e => by
    have a := h2.2.1
    unfold Boxed at a ho
    rw [← e, ho] at a
    simp at a
  have hnr : ∀ g, dv.ownBlock = some g → g ≠ ok := fun g hg e => ho.not_row (e := 53) (by decide) h2.2.2 (by rw [hg, e])
  refine (Ii.change_any base w tb tv rs ky h1 ha hn hb 15 #[.pointer (some ⟨wc, 0, none⟩), .pointer (some ⟨ic, 0, none⟩), .pointer (some ⟨ok, 0, none⟩), .pointer (some ⟨ab, 0, none⟩)] (enters_of Try.func15 (by kernel_rfl) rfl) va true
    (fun x => x = ok) (fun e => hno (.inl e.symm)) (fun g hg e => hno (.inr (by rw [hg, e]))) (fun W => Boxed W ok 4 (.bool true))
    (fun W W' _ hq hk => Kept.heap hk hq hno) (fun W hW => plays1_any _ _ wc ic ok ab kd ky va x W (block_kept hw hW) (block_kept hi hW) (block_kept ho hW) (block_kept hA hW) hoi)).mono ?_
  rintro e w' ⟨rfl, tv', h3, h4, _, h5⟩
  obtain ⟨a, b, c, d⟩ := sep h1 h2
  refine ⟨rfl, ⟨tv', dv, h3, h2.kept h4 ?_ ?_⟩, KT.of_kept h4 ?_, h5⟩
  · rintro ((e | e) | e)
    · exact a e.symm
    · exact b _ e rfl
    · exact hnd e.symm
  · rintro g hg ((e | e) | e)
    · exact c _ hg e
    · exact d _ e _ hg rfl
    · exact hnr g hg e
  · rintro x _ (e | rfl)
    · exact ts_own h1 x e
    · exact ⟨hok, _, _, ho, .inr (.inr (.inr (.inr rfl)))⟩
theorem change_t2 {base tb db ok ab : Nat} {kd ky va : Int} {w : World} {rs rs2 : List (Int × Int)} (h : St base tb db w rs rs2) (ha : asc rs) (hn : rs.length ≤ 1000) (hb : base ≤ w.heap.size)
    (ho : Boxed w ok 4 (.bool true)) (hA : w.heap[ab]? = some (.cells #[.int .i64 kd, .int .i64 ky, .int .i64 va] 32 (0, 0))) :
    Calls Try.prog 14 #[.pointer (some ⟨tb, 0, none⟩), .int .i64 ky, .func (.func 16) #[] #[.pointer (some ⟨ab, 0, none⟩)]] w fun e w' =>
      e = .returned (.tuple #[]) ∧ St base tb db w' (dropL rs ky) rs2 ∧ KT base w w' ∧ Boxed w' ok 4 (.bool true) := by
  obtain ⟨tv, dv, h1, h2⟩ := h
  have hno := own_not h1 ho
  refine (Ii.change_any base w tb tv rs ky h1 ha hn hb 16 #[.pointer (some ⟨ab, 0, none⟩)] (enters_of Try.func16 (by kernel_rfl) rfl) va false
    (fun _ => False) (fun e => e) (fun g hg e => e) (fun W => Boxed W ok 4 (.bool true))
    (fun W W' _ hq hk => Kept.heap hk hq hno) (fun W hW => (plays2_any _ _ ab kd ky va W (block_kept hA hW)).mono (by rintro e w' ⟨rfl, rfl⟩; exact ⟨rfl, Kept.refl _ _, block_kept ho hW⟩))).mono ?_
  rintro e w' ⟨rfl, tv', h3, h4, _, h5⟩
  have h4' : Kept (Ii.OwnS tb tv) w w' := h4.mono (fun k _ h => h.elim id (fun h => h.elim))
  exact ⟨rfl, ⟨tv', dv, h3, keep_d h1 h2 h4' (fun _ h => h)⟩, KT.of_kept h4' (fun x _ => ts_own h1 x), h5⟩

theorem change3 {base tb db ok ab : Nat} {kd ky va : Int} {x : Value} {w : World} {rs rs2 : List (Int × Int)} (h : St base tb db w rs rs2) (ha : asc rs) (hn : rs.length ≤ 1000) (hb : base ≤ w.heap.size) (hok : base ≤ ok)
    (ho : Boxed w ok 4 x) (hA : w.heap[ab]? = some (.cells #[.int .i64 kd, .int .i64 ky, .int .i64 va] 32 (0, 0))) :
    Calls Try.prog 14 #[.pointer (some ⟨tb, 0, none⟩), .int .i64 ky, .func (.func 15) #[] #[.pointer (some ⟨w.heap.size, 0, none⟩), .pointer (some ⟨w.heap.size + 1, 0, none⟩), .pointer (some ⟨ok, 0, none⟩), .pointer (some ⟨ab, 0, none⟩)]]
      ((w.alloc (.cells #[.int .i64 (Ii.getL rs ky)] 3)).alloc (.cells #[.bool (hasB rs ky)] 4)) fun e w' =>
      e = .returned (.tuple #[]) ∧ St base tb db w' (putL rs ky va) rs2 ∧ KT base w w' ∧ Boxed w' ok 4 (.bool true) := by
  have hbb : Below w.heap.size w ((w.alloc (.cells #[.int .i64 (Ii.getL rs ky)] 3)).alloc (.cells #[.bool (hasB rs ky)] 4)) := ((Below.refl _ _).alloc (Nat.le_refl _) _).alloc (by simp) _
  have L1 : Boxed ((w.alloc (.cells #[.int .i64 (Ii.getL rs ky)] 3)).alloc (.cells #[.bool (hasB rs ky)] 4)) w.heap.size 3 (.int .i64 (Ii.getL rs ky)) := (Boxed.new _ _ _).alloc _
  have L2 : Boxed ((w.alloc (.cells #[.int .i64 (Ii.getL rs ky)] 3)).alloc (.cells #[.bool (hasB rs ky)] 4)) (w.heap.size + 1) 4 (.bool (hasB rs ky)) := by
    have := Boxed.new (w.alloc (.cells #[.int .i64 (Ii.getL rs ky)] 3)) 4 (.bool (hasB rs ky))
    rwa [World.size_alloc] at this
  have lt := ho.lt
  refine (change_t1 (h.below hbb) ha hn (Nat.le_trans hb hbb.size) hok L1 L2 (block_kept ho hbb) (block_kept hA hbb) (by omega)).mono ?_
  rintro e w' ⟨rfl, h1, h2, h3⟩
  exact ⟨rfl, h1, (KT.of_below hbb).trans h2, h3⟩

/-- A copy that is changed leaves all as it was. -/
theorem copy_t {base tb db : Nat} {w : World} {rs rs2 : List (Int × Int)} (h : St base tb db w rs rs2) (hn : rs.length ≤ 900) (ha : asc rs) (ky va : Int) :
    Calls Try.prog 17 #[.pointer (some ⟨tb, 0, none⟩)] w fun e w1 => ∃ cb, e = .returned (.pointer (some ⟨cb, 0, none⟩)) ∧ Below w.heap.size w w1 ∧
      Calls Try.prog 8 #[.pointer (some ⟨cb, 0, none⟩), .int .i64 ky, .int .i64 va] w1 fun e w2 => e = .returned (.bool (!hasB rs ky)) ∧ Below w.heap.size w w2 ∧
        Calls Try.prog 12 #[.pointer (some ⟨cb, 0, none⟩), .int .i64 va] w2 fun e w3 => e = .returned (.bool (hasB (putL rs ky va) va)) ∧ Below w.heap.size w w3 := by
  obtain ⟨tv, dv, h1, h2⟩ := h
  refine (Ii.copy_any w _ rs h1.read (by omega)).mono ?_
  rintro e w1 ⟨cb, rfl, ⟨hc, cv, hbx, hown⟩, hb⟩
  have hT : Ii.TabV w.heap.size w1 cb cv rs := ⟨hc, hbx, hown⟩
  refine ⟨cb, rfl, hb, ?_⟩
  refine (Ii.put_any w.heap.size w1 cb cv rs ky va hT ha (by omega) hb.size).mono ?_
  rintro e w2 ⟨rfl, cv2, hT2, hk2, _⟩
  have hb2 : Below w.heap.size w w2 := hb.trans ((KT.of_kept (base := w.heap.size) hk2 (fun x _ => ts_own hT x)).below hb.size)
  refine ⟨rfl, hb2, ?_⟩
  refine (Ii.drop_any w.heap.size w2 cb cv2 (putL rs ky va) va hT2 (asc_putL rs ky va ha) (by have := (len_putL rs ky va).2; omega)).mono ?_
  rintro e w3 ⟨rfl, cv3, hT3, hk3, _⟩
  exact ⟨rfl, hb2.trans ((KT.of_kept (base := w.heap.size) hk3 (fun x _ => ts_own hT2 x)).below hb2.size)⟩
end Go.Proofs.Ytflhpijcfiamgaa.Tb
