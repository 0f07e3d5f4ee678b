/-
  The contract of the law's rows: a table's rows as the document's, as new memory. Conditions: at most a thousand rows.
-/
import Derived.Test.YtflhpijcfiamgaaTRdrop
import Derived.Test.YtflhpijcfiamgaaTRwsIi
import Derived.Deep.AppendLies
namespace Go.Proofs.Ytflhpijcfiamgaa.Tb.Rf
open Go.RowKit
open Ii (cells cells_len cells_get cells_one cells_append cells_cons cells_inv getL)

set_option maxRecDepth 100000 in
set_option maxHeartbeats 4000000 in
theorem lrows_any (w : World) (v : Value) (l : List R) (h : Ii.RowsR w v l) (hn : l.length ≤ 1000) :
    Calls Try.prog 20 #[v] w fun e w' => ∃ u, e = .returned u ∧ w'.ownsRow w.heap.size 53 2 u l.length (cells l) ∧ Below w.heap.size w w' := by
  obtain ⟨i0, hi0, hz0, hz1, hz2⟩ := info_parts rowI
  have own0 : w.ownsRow w.heap.size 53 2 (.slice none 0 0) 0 [] := World.ownsRow_nil _ _ _ _
  obtain ⟨A, cap, rfl, hc, hA, ⟨rfl, rfl⟩ | ⟨g, o, rfl, hg, hcell⟩⟩ := h
  · have hcap := hA rfl
    subst hcap
    clear hA hc
    go_enter Try.func20, Try.ntmps20
    go_wp2
    refine wp_loop_rounds 1 ?_
    rw [rounds_succ]
    go_wp2
    go_ret
    exact ⟨_, rfl, own0, Below.refl _ _⟩
  · clear hA
    have HC := Lib.hid hcell
    have e0 : (0 : Int) ≤ (l.length : Int) := by omega
    clear hcell
    go_enter Try.func20, Try.ntmps20
    go_wp2
    go_loopg [3, 4] l.length (fun (gh : Nat) s3 s4 wx => ∃ i : Nat, gh = l.length - i ∧ i ≤ l.length ∧ s4 = .int .i64 (i : Int) ∧ wx.ownsRow w.heap.size 53 2 s3 i (cells (l.take i)) ∧ Below w.heap.size w wx)
    case atStart => exact ⟨0, rfl, Nat.zero_le _, rfl, own0, Below.refl _ _⟩
    case round =>
      obtain ⟨i, rfl, hi, rfl, hown, hbel⟩ := hrel
      by_cases hlt : i < l.length
      · have t1 : (i : Int) < (l.length : Int) := by omega
        have t2 : (0 : Int) ≤ (i : Int) := by omega
        obtain ⟨r, hr⟩ : ∃ r, l[i]? = some r := ⟨_, List.getElem?_eq_getElem hlt⟩
        have hc2 := HC.out i r hr
        have hgw : g < wr.heap.size := Nat.lt_of_lt_of_le hg hbel.size
        have b1 := bcell hbel
        have c1 : wr.cell? ⟨g, o + i * 2, none⟩ = some (.int .i64 r.1) := (b1.1 g _ hg).trans hc2.1
        have c2 : wr.cell? ⟨g, o + i * 2 + 1, none⟩ = some (.int .i64 r.2) := (b1.1 g _ hg).trans hc2.2
        have hz := hbel.size
        have ag : some g ≠ u3.ownBlock := fun e => by have := (hown.lt g e.symm).1; omega
        have HB := Lib.hid hbel
        have HO := Lib.hid hown
        have HTK : Hid (cells (l.take (i + 1)) = cells (l.take i) ++ [.int .i64 r.1, .int .i64 r.2]) := by
          show _ = _
          rw [List.take_add_one, hr, cells_append]
          rfl
        clear hc2 b1 hbel hown hr
        go_wp2
        go_region_held3 (fun w' => w'.cell? ⟨g, o + i * 2, none⟩ = some (.int .i64 r.1) ∧ w'.cell? ⟨g, o + i * 2 + 1, none⟩ = some (.int .i64 r.2))
          (first
            | go_keep
            | (go_split_ands
               refine ⟨?_, ?_⟩
               · (rw [hgrow.cell_far _ (by simp; omega) ag]; assumption)
               · (rw [hgrow.cell_far _ (by simp; omega) ag]; assumption)))
          ((refine step_append_lies _ (by rfl) _ _ _ (by rfl) w.heap.size 53 i0 _ 2 16 Try.underlying28 hi0 hz0 hz1 hz2 rfl (by omega) u3 i (cells (l.take i)) (by rfl) ((HO.out.alloc _).drew) ⟨wr.heap.size, 0, none⟩ 1 1 [.int .i64 r.1, .int .i64 r.2] (by rfl) (by rfl) (World.news_of_block (cs := #[.int .i64 r.1, .int .i64 r.2]) (t := 53) (fr := (0, 0)) (heap_alloc_new wr _)) (by simp [Value.oneCell']) (by omega) (by unfold maxLen; omega) (by omega) (by simp; omega) (wr.heap.size + 1) (by simp) ?_; intro gg cap' w1 hown1 hgrow hat hlt1))
        have O1 := Lib.hid hown1
        have B1 := Lib.hid (((HB.out.alloc HB.out.size _).drew).grown hgrow (by simp; omega) (fun k e => (HO.out.lt k e).1))
        have hi1 := hlt
        clear hown1 hgrow hat c1 c2
        go_wp2
        go_roundg (l.length - (i + 1))
        case measure => omega
        case rel => exact ⟨i + 1, rfl, hi1, by go_num, by rw [HTK.out]; exact O1.out, B1.out⟩
      · have hil : i = l.length := by omega
        subst hil
        have t1 : decide ((l.length : Int) < (l.length : Int)) = false := by simp
        have HB := Lib.hid hbel
        have HO := Lib.hid hown
        clear hbel hown
        rw [List.take_of_length_le (Nat.le_refl _)] at HO
        go_wp2
        go_ret
        exact ⟨_, rfl, HO.out, HB.out⟩
end Go.Proofs.Ytflhpijcfiamgaa.Tb.Rf
