/-
  The contract of the reference's Compare. Conditions: none.
-/
import Derived.Test.YtkohpiahcffbaaaDoorYCmp
namespace Go.Proofs.YtkohpiahcffbaaaDoor.Td
open Go.RowKit

set_option maxRecDepth 100000 in
set_option maxHeartbeats 4000000 in
theorem rcompare_any (w : World) (x y : Tr) {r : Int} (hr : Hid (r = tcmp x y)) :
    Calls Tryd.prog 16 #[.agg #[.int .i64 x.n, .string x.b, .string x.s, .string x.i, .int .i64 x.q, .int .i64 x.p], .agg #[.int .i64 y.n, .string y.b, .string y.s, .string y.i, .int .i64 y.q, .int .i64 y.p]] w fun e w' => e = .returned (.int .i64 r) ∧ Below w.heap.size w w' := by
  obtain ⟨c1, h1⟩ : ∃ z, z = cmpI x.n y.n := ⟨_, rfl⟩
  obtain ⟨c2, h2⟩ : ∃ z, z = cmpS x.b y.b := ⟨_, rfl⟩
  obtain ⟨c3, h3⟩ : ∃ z, z = cmpS x.s y.s := ⟨_, rfl⟩
  obtain ⟨c4, h4⟩ : ∃ z, z = cmpS x.i y.i := ⟨_, rfl⟩
  obtain ⟨c5, h5⟩ : ∃ z, z = cmpI x.q y.q := ⟨_, rfl⟩
  obtain ⟨c6, h6⟩ : ∃ z, z = cmpI x.p y.p := ⟨_, rfl⟩
  have HR : Hid (r = orL [c1, c2, c3, c4, c5, c6]) := by
    show _ = _
    rw [hr.out, h1, h2, h3, h4, h5, h6]; rfl
  have H1 := Lib.hid h1
  have H2 := Lib.hid h2
  have H3 := Lib.hid h3
  have H4 := Lib.hid h4
  have H5 := Lib.hid h5
  have H6 := Lib.hid h6
  clear h1 h2 h3 h4 h5 h6 hr
  go_enter Tryd.func16, Tryd.ntmps16
  go_upto_region 1 with fail
  obtain ⟨W0, hW0⟩ : ∃ W0, W0 = (w.alloc (.cells #[.int .i64 x.n, .string x.b, .string x.s, .string x.i, .int .i64 x.q, .int .i64 x.p] 23)).alloc (.cells #[.int .i64 y.n, .string y.b, .string y.s, .string y.i, .int .i64 y.q, .int .i64 y.p] 23) := ⟨_, rfl⟩
  rw [← hW0]
  have j := two_new2 w (.cells #[.int .i64 x.n, .string x.b, .string x.s, .string x.i, .int .i64 x.q, .int .i64 x.p] 23) (.cells #[.int .i64 y.n, .string y.b, .string y.s, .string y.i, .int .i64 y.q, .int .i64 y.p] 23)
  rw [← hW0] at j
  clear hW0
  obtain ⟨x0, x1, x2, x3, x4, x5⟩ := blk6 j.1
  obtain ⟨y0, y1, y2, y3, y4, y5⟩ := blk6 j.2.1
  have HB := Lib.hid j.2.2
  clear j
  go_cut [5] from 7 (fun s5 wx => s5 = .pointer (some ⟨W0.heap.size, 0, none⟩) ∧ wx = (W0.alloc (.cells #[.int .i64 c1, .int .i64 c2, .int .i64 c3, .int .i64 c4, .int .i64 c5, .int .i64 c6] 66)).drew)
  case first =>
   go_region_held3 (fun w' => w'.cell? ⟨w.heap.size, 0, none⟩ = some (.int .i64 x.n) ∧ w'.cell? ⟨w.heap.size, 1, none⟩ = some (.string x.b) ∧ w'.cell? ⟨w.heap.size, 2, none⟩ = some (.string x.s) ∧ w'.cell? ⟨w.heap.size, 3, none⟩ = some (.string x.i) ∧ w'.cell? ⟨w.heap.size, 4, none⟩ = some (.int .i64 x.q) ∧ w'.cell? ⟨w.heap.size, 5, none⟩ = some (.int .i64 x.p) ∧
      w'.cell? ⟨w.heap.size + 1, 0, none⟩ = some (.int .i64 y.n) ∧ w'.cell? ⟨w.heap.size + 1, 1, none⟩ = some (.string y.b) ∧ w'.cell? ⟨w.heap.size + 1, 2, none⟩ = some (.string y.s) ∧ w'.cell? ⟨w.heap.size + 1, 3, none⟩ = some (.string y.i) ∧ w'.cell? ⟨w.heap.size + 1, 4, none⟩ = some (.int .i64 y.q) ∧ w'.cell? ⟨w.heap.size + 1, 5, none⟩ = some (.int .i64 y.p)) (first | assumption | exact ⟨x0, x1, x2, x3, x4, x5, y0, y1, y2, y3, y4, y5⟩ | exact twelve_alloc ⟨x0, x1, x2, x3, x4, x5, y0, y1, y2, y3, y4, y5⟩ _)
    (first
      | (go_at_call 35; (with_reducible refine (number_any x.n y.n H1 _).mono ?_); rintro e w1 ⟨rfl, rfl⟩)
      | (go_at_call 35; (with_reducible refine (number_any x.q y.q H5 _).mono ?_); rintro e w1 ⟨rfl, rfl⟩)
      | (go_at_call 35; (with_reducible refine (number_any x.p y.p H6 _).mono ?_); rintro e w1 ⟨rfl, rfl⟩)
      | (go_at_call 36; (with_reducible refine (text_any x.b y.b H2 _).mono ?_); rintro e w1 ⟨rfl, rfl⟩)
      | (go_at_call 36; (with_reducible refine (text_any x.s y.s H3 _).mono ?_); rintro e w1 ⟨rfl, rfl⟩)
      | (go_at_call 36; (with_reducible refine (text_any x.i y.i H4 _).mono ?_); rintro e w1 ⟨rfl, rfl⟩))
   all_goals (go_wp2; go_meet)
   all_goals (case rel => exact ⟨rfl, rfl⟩)
  case rest =>
   obtain ⟨rfl, rfl⟩ := hcut
   have hrow := row6 W0 c1 c2 c3 c4 c5 c6 66
   obtain ⟨l, hl⟩ : ∃ l, l = [c1, c2, c3, c4, c5, c6] := ⟨_, rfl⟩
   have hl6 : l.length = 6 := by rw [hl]; rfl
   rw [← hl] at hrow HR
   obtain ⟨W1, hW1⟩ : ∃ W1, W1 = (W0.alloc (.cells #[.int .i64 c1, .int .i64 c2, .int .i64 c3, .int .i64 c4, .int .i64 c5, .int .i64 c6] 66)).drew := ⟨_, rfl⟩
   have hb1 : Below w.heap.size w W1 := by rw [hW1]; exact (HB.out.alloc HB.out.size _).drew
   rw [← hW1] at hrow ⊢
   have HB1 := Lib.hid hb1
   have HROW := Lib.hid hrow
   have HL6 := Lib.hid hl6
   clear hl hW1 hb1 hrow hl6 x0 x1 x2 x3 x4 x5 y0 y1 y2 y3 y4 y5 H1 H2 H3 H4 H5 H6 HB
   obtain ⟨B, hB⟩ : ∃ B, B = W0.heap.size := ⟨_, rfl⟩
   rw [← hB] at HROW ⊢
   clear hB
   go_wp2
   go_loopg [6] 6 (fun (g : Nat) i wx => ∃ k : Nat, wx = W1 ∧ g = 6 - k ∧ k ≤ 6 ∧ i = .int .i64 (k : Int) ∧ Hid (r = orL (l.drop k)))
   case atStart => exact ⟨0, rfl, rfl, Nat.zero_le _, rfl, HR.out⟩
   case round =>
    obtain ⟨k, rfl, rfl, hk, rfl, hv⟩ := hrel
    by_cases hlt : k < 6
    · obtain ⟨x, hx⟩ : ∃ x, x = l.getD k 0 := ⟨_, rfl⟩
      have hc : wr.cell? ⟨B, k, none⟩ = some (.int .i64 x) := by rw [hx]; exact HROW.out k (by rw [HL6.out]; exact hlt)
      have hd := orL_drop l k (by rw [HL6.out]; exact hlt)
      rw [← hx] at hd
      have HD := Lib.hid hd
      clear hx hd
      by_cases hz : x = 0
      · have hv2 : Hid (r = orL (l.drop (k + 1))) := by show _ = _; rw [hv.out, HD.out, if_pos hz]
        go_wp2
        go_roundg (6 - (k + 1))
        case measure => omega
        case rel => exact ⟨k + 1, rfl, rfl, by omega, by go_num, hv2.out⟩
      · obtain rfl : r = x := by rw [hv.out, HD.out, if_neg hz]
        go_wp2
        go_ret
        exact ⟨rfl, HB1.out⟩
    · obtain rfl : k = 6 := by omega
      obtain rfl : r = 0 := by rw [hv.out, List.drop_of_length_le (by rw [HL6.out]; exact Nat.le_refl _)]; rfl
      go_wp2
      go_ret
      exact ⟨rfl, HB1.out⟩
end Go.Proofs.YtkohpiahcffbaaaDoor.Td
