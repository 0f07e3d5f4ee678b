/-
  The laws' fixed question answers true. Conditions: none.
-/
import Derived.Test.YtaidihilhblhgaaWOxS
namespace Go.Proofs.Ytaidihilhblhgaa.Wi
open Go.RowKit Tb S

abbrev sa : ByteArray := ⟨#[97]⟩
abbrev sb : ByteArray := ⟨#[98]⟩
abbrev sc : ByteArray := ⟨#[99]⟩
abbrev sx : ByteArray := ⟨#[120]⟩
abbrev sy : ByteArray := ⟨#[121]⟩
abbrev sz : ByteArray := ⟨#[122]⟩
theorem kn1 : offE 3 [] 5 = 0 ∧ offL 3 [] 5 sx = [(5, sx)] := ⟨rfl, rfl⟩
theorem kn2 : hasB [((5 : Int), sx)] 3 = false := rfl
theorem kn3 : offE 3 [(5, sx)] 3 = 0 ∧ offL 3 [(5, sx)] 3 sy = [(3, sy), (5, sx)] := ⟨rfl, rfl⟩
theorem kn4 : offE 3 [(3, sy), (5, sx)] 4 = 0 ∧ offL 3 [(3, sy), (5, sx)] 4 sz = [(3, sy), (4, sz), (5, sx)] := ⟨rfl, rfl⟩
theorem kn5 : hasB [((3 : Int), sy), (4, sz), (5, sx)] 3 = true ∧ dropL [((3 : Int), sy), (4, sz), (5, sx)] 3 = [(4, sz), (5, sx)] ∧ rdy 3 [(3, sy), (4, sz), (5, sx)] = sy := ⟨rfl, rfl, rfl⟩
theorem kn6 : hasB [((4 : Int), sz), (5, sx)] 4 = true ∧ dropL [((4 : Int), sz), (5, sx)] 4 = [(5, sx)] ∧ rdy 4 [(4, sz), (5, sx)] = sz := ⟨rfl, rfl, rfl⟩
theorem kn7 : hasB [((5 : Int), sx)] 5 = true ∧ dropL [((5 : Int), sx)] 5 = [] ∧ rdy 5 [(5, sx)] = sx := ⟨rfl, rfl, rfl⟩
theorem knw : winL [sa, sb, sc] 1 = [sb, sc] ∧ ackN 0 3 1 = 1 := ⟨rfl, rfl⟩

set_option maxRecDepth 100000 in
set_option maxHeartbeats 2000000 in
theorem known_any (w : World) : Calls Try.prog 17 #[] w fun e w' => e = .returned (.bool true) ∧ Below w.heap.size w w' := by
  have h0 := oo_new w
  have HV : Hid (∀ W : World, At (W.alloc (.cells #[.string sa, .string sb, .string sc] 9)) (.slice (some ⟨W.heap.size, 0, none⟩) 3 3) [sa, sb, sc]) := fun W => by
    refine ⟨_, _, rfl, Nat.le_refl _, fun _ => ⟨_, 0, rfl, by simp, fun i x hi => ?_⟩⟩
    have hb := block_new W (.cells #[.string sa, .string sb, .string sc] 9)
    match i with
    | 0 => simp at hi; subst hi; exact cell_of_row _ _ _ _ _ _ hb
    | 1 => simp at hi; subst hi; exact cell_of_row _ _ _ _ _ _ hb
    | 2 => simp at hi; subst hi; exact cell_of_row _ _ _ _ _ _ hb
    | i + 3 => simp at hi
  have CP : Hid (Calls Try.prog 30 #[.pointer (some ⟨w.heap.size, 0, none⟩), .slice (some ⟨w.heap.size + 1, 0, none⟩) 3 3] ((w.alloc (.cells #[.slice none 0 0, .int .i64 0] 68)).alloc (.cells #[.string sa, .string sb, .string sc] 9)) fun e w' => e = .returned (.int .i64 3) ∧ ∃ so', OO w w' w.heap.size so' 0 [sa, sb, sc]) := by
    have h1 := HV.out (w.alloc (.cells #[.slice none 0 0, .int .i64 0] 68))
    have hz : (w.alloc (.cells #[.slice none 0 0, .int .i64 0] 68)).heap.size = w.heap.size + 1 := by simp
    rw [hz] at h1
    exact oo_push (h0.below ((Below.refl _ _).alloc (Nat.le_refl _) _)) h1 (by simp)
  clear h0 HV
  have hs : (sy ++ sz ++ sx).toList = [121, 122, 120] := by kernel_rfl
  go_enter Try.func17, Try.ntmps17
  go_wp2_with (first
    | (go_at_call 36; (with_reducible refine CP3.out.mono ?_); rintro e w12 ⟨rfl, si12, i12, f12⟩; have CN : Hid (Calls Try.prog 37 #[.pointer (some ⟨w3.heap.size, 0, none⟩)] w12 (fun e w' => e = .returned (.int .i64 6) ∧ w12 = w')) := next_any i12.i; have q1 : w12.cell? ⟨g3, o3, none⟩ = some (.string ⟨#[98]⟩) := f12.cell 0 sb rfl; have I12 := Lib.hid i12; clear i12 f12)
    | (go_at_call 36; (with_reducible refine CP2.out.mono ?_); rintro e w11 ⟨rfl, si11, i11, f11⟩; have CP3 : Hid (Calls Try.prog 36 #[.pointer (some ⟨w3.heap.size, 0, none⟩)] w11 (fun e w' => e = .returned (.tuple #[.string sx, .bool true]) ∧ ∃ si', IX w w' w3.heap.size 6 si' [] ∧ Fr w' (.slice (some ⟨g3, o3, none⟩) 2 c3) [sb, sc] (Own w3.heap.size si'))) := ix_popy i11 f11 kn7.1 (by decide); clear i11 f11)
    | (go_at_call 36; (with_reducible refine CP1.out.mono ?_); rintro e w10 ⟨rfl, si10, i10, f10⟩; have CP2 : Hid (Calls Try.prog 36 #[.pointer (some ⟨w3.heap.size, 0, none⟩)] w10 (fun e w' => e = .returned (.tuple #[.string sz, .bool true]) ∧ ∃ si', IX w w' w3.heap.size 5 si' [(5, sx)] ∧ Fr w' (.slice (some ⟨g3, o3, none⟩) 2 c3) [sb, sc] (Own w3.heap.size si'))) := ix_popy i10 f10 kn6.1 (by decide); clear i10 f10)
    | (go_at_call 37; (with_reducible refine CN.out.mono ?_); rintro e w13 ⟨rfl, rfl⟩)
    | (go_at_call 34; (with_reducible refine CO3.out.mono ?_); rintro e w9 ⟨rfl, si9, i9, f9⟩; have CP1 : Hid (Calls Try.prog 36 #[.pointer (some ⟨w3.heap.size, 0, none⟩)] w9 (fun e w' => e = .returned (.tuple #[.string sy, .bool true]) ∧ ∃ si', IX w w' w3.heap.size 4 si' [(4, sz), (5, sx)] ∧ Fr w' (.slice (some ⟨g3, o3, none⟩) 2 c3) [sb, sc] (Own w3.heap.size si'))) := ix_popy i9 f9 kn5.1 (by decide); clear i9 f9)
    | (go_at_call 34; (with_reducible refine CO2.out.mono ?_); rintro e w8 ⟨rfl, si8, i8, f8⟩; have CO3 : Hid (Calls Try.prog 34 #[.pointer (some ⟨w3.heap.size, 0, none⟩), .int .i64 4, .string sz] w8 (fun e w' => e = .returned (.int .i64 0) ∧ ∃ si', IX w w' w3.heap.size 3 si' [(3, sy), (4, sz), (5, sx)] ∧ Fr w' (.slice (some ⟨g3, o3, none⟩) 2 c3) [sb, sc] (Own w3.heap.size si'))) := ix_offer i8 f8 4 (by decide) sz; clear i8 f8)
    | (go_at_call 35; (with_reducible refine CR.out.mono ?_); rintro e w7 ⟨rfl, i7, f7⟩; have CO2 : Hid (Calls Try.prog 34 #[.pointer (some ⟨w3.heap.size, 0, none⟩), .int .i64 3, .string sy] w7 (fun e w' => e = .returned (.int .i64 0) ∧ ∃ si', IX w w' w3.heap.size 3 si' [(3, sy), (5, sx)] ∧ Fr w' (.slice (some ⟨g3, o3, none⟩) 2 c3) [sb, sc] (Own w3.heap.size si'))) := ix_offer i7 f7 3 (by decide) sy; clear i7 f7)
    | (go_at_call 34; (with_reducible refine CO1.out.mono ?_); rintro e w6 ⟨rfl, si6, i6, f6⟩; have CR : Hid (Calls Try.prog 35 #[.pointer (some ⟨w3.heap.size, 0, none⟩)] w6 (fun e w' => e = .returned (.tuple #[.string ByteArray.empty, .bool false]) ∧ IX w w' w3.heap.size 3 si6 [(5, sx)] ∧ Fr w' (.slice (some ⟨g3, o3, none⟩) 2 c3) [sb, sc] (Own w3.heap.size si6))) := ix_ready i6 f6; clear i6 f6)
    | (go_at_call 33; (with_reducible refine CS.out.mono ?_); rintro e w5 ⟨rfl, i5, f5⟩; have CO1 : Hid (Calls Try.prog 34 #[.pointer (some ⟨w3.heap.size, 0, none⟩), .int .i64 5, .string sx] w5 (fun e w' => e = .returned (.int .i64 0) ∧ ∃ si', IX w w' w3.heap.size 3 si' [(5, sx)] ∧ Fr w' (.slice (some ⟨g3, o3, none⟩) 2 c3) [sb, sc] (Own w3.heap.size si'))) := ix_offer i5 f5 5 (by decide) sx; clear i5 f5)
    | (go_at_call 32; (with_reducible refine CW.out.mono ?_); rintro e w3 ⟨A3, c3, rfl, o3', r3, b3⟩; have f3 : Fr w3 _ _ (fun _ => False) := Fr.of_own r3 (fun _ h => h.elim); obtain ⟨g3, o3, rfl⟩ := f3.some (by decide); obtain ⟨i4, f4⟩ := ix_new w w3 o3'.bel f3; have CS := Lib.hid (ix_start i4 f4 3 (by decide) (by decide)); clear o3' r3 b3 f3 i4 f4)
    | (go_at_call 31; (with_reducible refine CA.out.mono ?_); rintro e w2 ⟨rfl, o2⟩; have CW : Hid (Calls Try.prog 32 #[.pointer (some ⟨w.heap.size, 0, none⟩)] w2 (fun e w' => ∃ A c, e = .returned (.tuple #[.int .i64 1, .slice A 2 c]) ∧ OO w w' w.heap.size so1 1 [sa, sb, sc] ∧ rowOf w' w2.heap.size (.slice A 2 c) [sb, sc] ∧ Below w2.heap.size w2 w')) := oo_window o2; clear o2)
    | (go_at_call 30; (with_reducible refine CP.out.mono ?_); rintro e w1 ⟨rfl, so1, o1⟩; have CA : Hid (Calls Try.prog 31 #[.pointer (some ⟨w.heap.size, 0, none⟩), .int .i64 1] w1 (fun e w' => e = .returned (.int .i64 1) ∧ OO w w' w.heap.size so1 1 [sa, sb, sc])) := oo_ack o1 1; clear o1))
  go_ret
  exact ⟨rfl, I12.out.bel⟩
end Go.Proofs.Ytaidihilhblhgaa.Wi
