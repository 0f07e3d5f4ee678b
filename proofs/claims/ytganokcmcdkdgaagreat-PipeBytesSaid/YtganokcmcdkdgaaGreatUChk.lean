/-
  Which packets may be, in both; cmp.Or. Conditions: none.
-/
import Derived.Test.YtganokcmcdkdgaaGreatUPipe
namespace Go.Proofs.YtganokcmcdkdgaaGreat.Pi
open Go.RowKit Wi Tb Wi.S

def kdB (k : Int) : Bool := decide (k = 1) || decide (k = 2)
/-- What is wrong with a packet's kind, number or bytes. -/
def partE (k n : Int) (q : Nat) : Int := if (k = 1 ∨ k = 2) ∧ 0 ≤ n ∧ n ≤ 1099511627776 ∧ ¬ (k = 2 ∧ 0 < q) then 0 else 1
def chkE (k f t n : Int) (q : Nat) : Int := if partE k n q = 0 then endE f t else 1
set_option maxRecDepth 100000 in
theorem isKind_any (w : World) (k : Int) : Calls Tryz.prog 41 #[.int .i64 k] w fun e w' => e = .returned (.bool (kdB k)) ∧ w = w' := by
  by_cases h1 : k = 1
  · subst h1
    go_enter Tryz.func41, Tryz.ntmps41
    go_wp2
    go_ret
    exact ⟨rfl, rfl⟩
  · have e : kdB k = decide (k = 2) := by unfold kdB; rw [decide_eq_false h1]; rfl
    have e1 : (k == 1) = false := by simpa using h1
    by_cases h2 : k = 2
    · have e2 : (k == 2) = true := by simpa using h2
      rw [e, decide_eq_true h2]
      clear e h1 h2
      go_enter Tryz.func41, Tryz.ntmps41
      go_wp2
      go_ret
      exact ⟨rfl, rfl⟩
    · have e2 : (k == 2) = false := by simpa using h2
      rw [e, decide_eq_false h2]
      clear e h1 h2
      go_enter Tryz.func41, Tryz.ntmps41
      go_wp2
      go_ret
      exact ⟨rfl, rfl⟩
theorem kdB_yes {k : Int} (h : kdB k = true) : k = 1 ∨ k = 2 := by unfold kdB at h; simpa using h
theorem kdB_no {k : Int} (h : kdB k = false) : ¬ (k = 1 ∨ k = 2) := by unfold kdB at h; simpa using h
set_option maxRecDepth 100000 in
set_option maxHeartbeats 4000000 in
theorem parts_any (w : World) (k f t n : Int) (A : Option Addr) (q c : Nat) : Calls Tryz.prog 15 #[.agg #[.int .i64 k, .int .i64 f, .int .i64 t, .int .i64 n, .slice A q c]] w fun e w' => e = .returned (.int .i64 (partE k n q)) ∧ Below w.heap.size w w' := by
  have HI := Lib.hid (isKind_any (w.alloc (.cells #[.int .i64 k, .int .i64 f, .int .i64 t, .int .i64 n, .slice A q c] 25)) k)
  obtain ⟨c0, c1, c2, c3, c4⟩ := blk5 (Tb.block_new w (.cells #[.int .i64 k, .int .i64 f, .int .i64 t, .int .i64 n, .slice A q c] 25))
  have HB0 : Hid (Below w.heap.size w (w.alloc (.cells #[.int .i64 k, .int .i64 f, .int .i64 t, .int .i64 n, .slice A q c] 25))) := Lib.hid ((Below.refl _ _).alloc (Nat.le_refl _) _)
  obtain ⟨z, hz⟩ : ∃ z, z = partE k n q := ⟨_, rfl⟩
  rw [← hz]
  unfold partE at hz
  cases hk : kdB k
  · have h9 := kdB_no hk
    obtain rfl : z = 1 := by rw [hz, if_neg (fun h => h9 h.1)]
    rw [hk] at HI
    clear hz h9 hk
    go_enter Tryz.func15, Tryz.ntmps15
    go_wp2_with (go_at_call 41; (with_reducible refine HI.out.mono ?_); rintro e w1 ⟨rfl, rfl⟩)
    go_ret
    exact ⟨rfl, HB0.out⟩
  have h9 := kdB_yes hk
  rw [hk] at HI
  by_cases h1 : n < 0
  · obtain rfl : z = 1 := by rw [hz, if_neg (fun h => by omega)]
    clear hz h9 hk
    go_enter Tryz.func15, Tryz.ntmps15
    go_wp2_with (go_at_call 41; (with_reducible refine HI.out.mono ?_); rintro e w1 ⟨rfl, rfl⟩)
    go_ret
    exact ⟨rfl, HB0.out⟩
  by_cases h2 : 1099511627776 < n
  · obtain rfl : z = 1 := by rw [hz, if_neg (fun h => by omega)]
    clear hz h9 hk
    go_enter Tryz.func15, Tryz.ntmps15
    go_wp2_with (go_at_call 41; (with_reducible refine HI.out.mono ?_); rintro e w1 ⟨rfl, rfl⟩)
    go_ret
    exact ⟨rfl, HB0.out⟩
  by_cases h3 : k = 2
  · by_cases h4 : 0 < q
    · obtain rfl : z = 1 := by rw [hz, if_neg (fun h => h.2.2.2 ⟨h3, h4⟩)]
      have h5 : (0 : Int) < (q : Int) := by omega
      subst h3
      clear hz h9 hk
      go_enter Tryz.func15, Tryz.ntmps15
      go_wp2_with (go_at_call 41; (with_reducible refine HI.out.mono ?_); rintro e w1 ⟨rfl, rfl⟩)
      go_ret
      exact ⟨rfl, HB0.out⟩
    · obtain rfl : z = 0 := by rw [hz, if_pos ⟨h9, by omega, by omega, fun h => h4 h.2⟩]
      obtain rfl : q = 0 := by omega
      subst h3
      clear hz h9 hk
      go_enter Tryz.func15, Tryz.ntmps15
      go_wp2_with (go_at_call 41; (with_reducible refine HI.out.mono ?_); rintro e w1 ⟨rfl, rfl⟩)
      go_ret
      exact ⟨rfl, HB0.out⟩
  · obtain rfl : z = 0 := by rw [hz, if_pos ⟨h9, by omega, by omega, fun h => h3 h.1⟩]
    have e3 : (k == 2) = false := by simpa using h3
    clear hz h9 hk h3
    go_enter Tryz.func15, Tryz.ntmps15
    go_wp2_with (go_at_call 41; (with_reducible refine HI.out.mono ?_); rintro e w1 ⟨rfl, rfl⟩)
    go_ret
    exact ⟨rfl, HB0.out⟩
set_option maxRecDepth 100000 in
set_option maxHeartbeats 1000000 in
theorem pair_any (w : World) (a b : Int) : Calls Tryz.prog 31 #[.int .i64 a, .int .i64 b] w fun e w' => e = .returned (.bool (decide (endE a b = 0))) ∧ w = w' := by
  obtain ⟨z, hz⟩ : ∃ z, z = decide (endE a b = 0) := ⟨_, rfl⟩
  rw [← hz]
  unfold endE at hz
  by_cases h1 : 0 ≤ a
  · by_cases h2 : a < 3
    · by_cases h3 : 0 ≤ b
      · by_cases h4 : b < 3
        · by_cases h5 : a = b
          · obtain rfl : z = false := by rw [hz, if_neg (fun h => h.2.2.2.2 h5)]; rfl
            subst h5
            clear hz
            go_enter Tryz.func31, Tryz.ntmps31
            go_wp2
            go_ret
            exact ⟨by simp, rfl⟩
          · obtain rfl : z = true := by rw [hz, if_pos ⟨h1, h2, h3, h4, h5⟩]; rfl
            have e5 : (a != b) = true := by simpa using h5
            clear hz
            go_enter Tryz.func31, Tryz.ntmps31
            go_wp2
            go_ret
            exact ⟨by simp, rfl⟩
        · obtain rfl : z = false := by rw [hz, if_neg (fun h => h4 h.2.2.2.1)]; rfl
          clear hz
          go_enter Tryz.func31, Tryz.ntmps31
          go_wp2
          go_ret
          exact ⟨rfl, rfl⟩
      · obtain rfl : z = false := by rw [hz, if_neg (fun h => h3 h.2.2.1)]; rfl
        clear hz
        go_enter Tryz.func31, Tryz.ntmps31
        go_wp2
        go_ret
        exact ⟨rfl, rfl⟩
    · obtain rfl : z = false := by rw [hz, if_neg (fun h => h2 h.2.1)]; rfl
      clear hz
      go_enter Tryz.func31, Tryz.ntmps31
      go_wp2
      go_ret
      exact ⟨rfl, rfl⟩
  · obtain rfl : z = false := by rw [hz, if_neg (fun h => h1 h.1)]; rfl
    clear hz
    go_enter Tryz.func31, Tryz.ntmps31
    go_wp2
    go_ret
    exact ⟨rfl, rfl⟩
theorem endE_two (a b : Int) : endE a b = 0 ∨ endE a b = 5 := by unfold endE; split <;> simp
set_option maxRecDepth 100000 in
set_option maxHeartbeats 4000000 in
theorem rcheck_any (w : World) (k f t n : Int) (A : Option Addr) (q c : Nat) : Calls Tryz.prog 10 #[.agg #[.int .i64 k, .int .i64 f, .int .i64 t, .int .i64 n, .slice A q c]] w fun e w' => e = .returned (.int .i64 (chkE k f t n q)) ∧ Below w.heap.size w w' := by
  have HP := Lib.hid (pair_any (w.alloc (.cells #[.int .i64 k, .int .i64 f, .int .i64 t, .int .i64 n, .slice A q c] 24)) f t)
  obtain ⟨c0, c1, c2, c3, c4⟩ := blk5 (Tb.block_new w (.cells #[.int .i64 k, .int .i64 f, .int .i64 t, .int .i64 n, .slice A q c] 24))
  have HB0 : Hid (Below w.heap.size w (w.alloc (.cells #[.int .i64 k, .int .i64 f, .int .i64 t, .int .i64 n, .slice A q c] 24))) := Lib.hid ((Below.refl _ _).alloc (Nat.le_refl _) _)
  have he2 := endE_two f t
  obtain ⟨z, hz⟩ : ∃ z, z = chkE k f t n q := ⟨_, rfl⟩
  obtain ⟨y, hy⟩ : ∃ y, y = endE f t := ⟨_, rfl⟩
  rw [← hz]
  unfold chkE partE at hz
  rw [← hy] at hz HP he2
  clear hy
  by_cases h1 : k < 1
  · obtain rfl : z = 1 := by rw [hz]; rw [if_neg (c := (k = 1 ∨ k = 2) ∧ _) (fun h => by omega)]; rfl
    clear hz he2 HP
    go_enter Tryz.func10, Tryz.ntmps10
    go_wp2
    go_ret
    exact ⟨rfl, HB0.out⟩
  by_cases h2 : 2 < k
  · obtain rfl : z = 1 := by rw [hz]; rw [if_neg (c := (k = 1 ∨ k = 2) ∧ _) (fun h => by omega)]; rfl
    clear hz he2 HP
    go_enter Tryz.func10, Tryz.ntmps10
    go_wp2
    go_ret
    exact ⟨rfl, HB0.out⟩
  by_cases h3 : n < 0
  · obtain rfl : z = 1 := by rw [hz]; rw [if_neg (c := (k = 1 ∨ k = 2) ∧ _) (fun h => by omega)]; rfl
    clear hz he2 HP
    go_enter Tryz.func10, Tryz.ntmps10
    go_wp2
    go_ret
    exact ⟨rfl, HB0.out⟩
  by_cases h4 : 1099511627776 < n
  · obtain rfl : z = 1 := by rw [hz]; rw [if_neg (c := (k = 1 ∨ k = 2) ∧ _) (fun h => by omega)]; rfl
    clear hz he2 HP
    go_enter Tryz.func10, Tryz.ntmps10
    go_wp2
    go_ret
    exact ⟨rfl, HB0.out⟩
  by_cases h5 : k = 2 ∧ 0 < q
  · obtain rfl : z = 1 := by rw [hz]; rw [if_neg (c := (k = 1 ∨ k = 2) ∧ _) (fun h => h.2.2.2 h5)]; rfl
    obtain ⟨rfl, h6⟩ := h5
    have h7 : (0 : Int) < (q : Int) := by omega
    clear hz he2 HP
    go_enter Tryz.func10, Tryz.ntmps10
    go_wp2
    go_ret
    exact ⟨rfl, HB0.out⟩
  obtain rfl : z = y := by rw [hz]; rw [if_pos (c := (k = 1 ∨ k = 2) ∧ _) ⟨by omega, by omega, by omega, h5⟩]; rfl
  have hk : k = 1 ∨ (k = 2 ∧ q = 0) := by
    by_cases hk2 : k = 2
    · exact .inr ⟨hk2, by have : ¬ 0 < q := fun h => h5 ⟨hk2, h⟩; omega⟩
    · exact .inl (by omega)
  clear hz h5 h1 h2
  rcases hk with rfl | ⟨rfl, rfl⟩
  all_goals
    rcases he2 with rfl | rfl
    all_goals
      go_enter Tryz.func10, Tryz.ntmps10
      go_wp2_with (go_at_call 31; (with_reducible refine HP.out.mono ?_); rintro e w1 ⟨rfl, rfl⟩)
      go_ret
      exact ⟨rfl, HB0.out⟩
/-! ### The first mistake -/
def orL : List Int → Int
  | [] => 0
  | a :: r => if a = 0 then orL r else a
theorem orL_drop (l : List Int) (k : Nat) (h : k < l.length) : orL (l.drop k) = if l.getD k 0 = 0 then orL (l.drop (k + 1)) else l.getD k 0 := by
  rw [List.drop_eq_getElem_cons h, List.getD_eq_getElem?_getD, List.getElem?_eq_getElem h]
  rfl
def RowAt (w : World) (b : Nat) (l : List Int) : Prop := ∀ j, j < l.length → w.cell? ⟨b, j, none⟩ = some (.int .i64 (l.getD j 0))
set_option maxRecDepth 100000 in
set_option maxHeartbeats 1000000 in
theorem orE_any (w : World) (b n : Nat) (l : List Int) (r : Int) (h : RowAt w b l) (hn : l.length = n) (hr : Hid (r = orL l)) (hm : n ≤ 1000) :
    Calls Tryz.prog 14 #[.slice (some ⟨b, 0, none⟩) n n] w fun e w' => e = .returned (.int .i64 r) ∧ w' = w := by
  have H := Lib.hid h
  have HN := Lib.hid hn
  clear h hn
  go_enter Tryz.func14, Tryz.ntmps14
  go_wp2
  go_loopg [8] n (fun (g : Nat) i wx => ∃ k : Nat, wx = w ∧ g = n - k ∧ k ≤ n ∧ i = .int .i64 (k : Int) ∧ Hid (r = orL (l.drop k)))
  case atStart => exact ⟨0, rfl, rfl, Nat.zero_le _, rfl, hr.out⟩
  case round =>
    obtain ⟨k, rfl, rfl, hk, rfl, hv⟩ := hrel
    by_cases hlt : k < n
    · obtain ⟨x, hx⟩ : ∃ x, x = l.getD k 0 := ⟨_, rfl⟩
      have hc : wr.cell? ⟨b, k, none⟩ = some (.int .i64 x) := by rw [hx]; exact H.out k (by rw [HN.out]; exact hlt)
      have hd := orL_drop l k (by rw [HN.out]; exact hlt)
      rw [← hx] at hd
      have HD := Lib.hid hd
      clear hx hd
      by_cases hz : x = 0
      · have hv2 : Hid (r = orL (l.drop (k + 1))) := by show _ = _; rw [hv.out, HD.out, if_pos hz]
        go_wp2
        go_roundg (n - (k + 1))
        case measure => omega
        case rel => exact ⟨k + 1, rfl, rfl, by omega, by go_num, hv2.out⟩
      · obtain rfl : r = x := by rw [hv.out, HD.out, if_neg hz]
        go_wp2
        go_ret
        exact ⟨rfl, rfl⟩
    · obtain rfl : k = n := by omega
      obtain rfl : r = 0 := by rw [hv.out, List.drop_of_length_le (by rw [HN.out]; exact Nat.le_refl _)]; rfl
      go_wp2
      go_ret
      exact ⟨rfl, rfl⟩
theorem or_two (w : World) (a b : Int) : Calls Tryz.prog 14 #[.slice (some ⟨w.heap.size, 0, none⟩) 2 2] (w.alloc (.cells #[.int .i64 a, .int .i64 b] 28)) fun e w' => e = .returned (.int .i64 (if a = 0 then b else a)) ∧ w' = w.alloc (.cells #[.int .i64 a, .int .i64 b] 28) := by
  have h := Tb.block_new w (.cells #[.int .i64 a, .int .i64 b] 28)
  have hr : RowAt (w.alloc (.cells #[.int .i64 a, .int .i64 b] 28)) w.heap.size [a, b] := by
    intro j hj
    match j, hj with
    | 0, _ => rw [cell_of_row _ _ 0 _ _ _ h]; rfl
    | 1, _ => rw [cell_of_row _ _ 1 _ _ _ h]; rfl
  refine (orE_any _ _ 2 [a, b] (if a = 0 then b else a) hr rfl ?_ (by decide)).mono fun e w' h => h
  show _ = orL [a, b]
  unfold orL orL orL
  by_cases ha : a = 0
  · rw [if_pos ha, if_pos ha]
    by_cases hb : b = 0
    · rw [if_pos hb]; exact hb
    · rw [if_neg hb]
  · rw [if_neg ha, if_neg ha]
end Go.Proofs.YtganokcmcdkdgaaGreat.Pi
