/-
  The short calls of a vault beside a law's list; bytes that are spoilt in memory of one's own. Conditions: at most ninety-nine records of at most sixty bytes.
-/
import Derived.Test.YtjijgoflbjbnfaaGreatVM32
import Derived.Lib.AppendZeros
namespace Go.Proofs.YtjijgoflbjbnfaaGreat.Vt
open Go.RowKit Fr Sr Jo
section
variable {w W : World} {X : List (Nat × Obj)} {p vb g : Nat} {v : Value} {R : Int} {ls hs : List (List Int)} {s : S} {sd : Bool}
theorem lv_addno (h : LV w W p vb v R ls hs s false g X) (u : Value) : Calls Tryz.prog 10 #[.pointer (some ⟨vb, 0, none⟩), u] W fun e W' => e = .returned (.int .i64 10) ∧ W = W' := by
  obtain ⟨Z, lg, im, h1, _⟩ := h
  exact vv_addno h1 u
theorem lv_packno (h : LV w W p vb v R ls hs s false g X) : Calls Tryz.prog 12 #[.pointer (some ⟨vb, 0, none⟩)] W fun e W' => e = .returned (.int .i64 10) ∧ W = W' := by
  obtain ⟨Z, lg, im, h1, _⟩ := h
  exact vv_packno h1
theorem lv_getno (h : LV w W p vb v R ls hs s sd g X) (k : Int) (hk : k < 0 ∨ (ls.length : Int) ≤ k) : Calls Tryz.prog 17 #[.pointer (some ⟨vb, 0, none⟩), .int .i64 k] W fun e W' => e = .returned (.tuple #[.slice none 0 0, .int .i64 13]) ∧ Below W.heap.size W W' := by
  obtain ⟨Z, lg, im, h1, _⟩ := h
  exact vv_getno h1 k hk
theorem lv_getyes (h : LV w W p vb v R ls hs s sd g X) (i : Nat) {l : List Int} (hl : ls[i]? = some l) : Calls Tryz.prog 17 #[.pointer (some ⟨vb, 0, none⟩), .int .i64 (i : Int)] W fun e W' => ∃ A n c, e = .returned (.tuple #[.slice A n c, .int .i64 0]) ∧ BAt W' (.slice A n c) l ∧ Below W.heap.size W W' := by
  obtain ⟨Z, lg, im, h1, _⟩ := h
  exact vv_getyes h1 i hl
theorem lv_sound (h : LV w W p vb v R ls hs s sd g X) : Calls Tryz.prog 19 #[.pointer (some ⟨vb, 0, none⟩)] W fun e W' => e = .returned (.bool sd) ∧ W = W' := by
  obtain ⟨Z, lg, im, h1, _⟩ := h
  exact vv_sound h1
theorem lv_len (h : LV w W p vb v R ls hs s sd g X) : Calls Tryz.prog 20 #[.pointer (some ⟨vb, 0, none⟩)] W fun e W' => e = .returned (.int .i64 (ls.length : Int)) ∧ W = W' := by
  obtain ⟨Z, lg, im, h1, _⟩ := h
  exact vv_len h1
theorem lv_spare (h : LV w W p vb v R ls hs s sd g X) : Calls Tryz.prog 11 #[.pointer (some ⟨vb, 0, none⟩)] W fun e W' => e = .returned (.int .i64 (R - s.used)) ∧ Below W.heap.size W W' := by
  obtain ⟨Z, lg, im, h1, _⟩ := h
  exact vv_spare h1
theorem lv_used (h : LV w W p vb v R ls hs s sd g X) : Calls Tryz.prog 21 #[.pointer (some ⟨p, 0, none⟩)] W fun e W' => e = .returned (.int .i64 s.used) ∧ W = W' := by
  obtain ⟨Z, lg, im, h1, _⟩ := h
  exact vv_used h1
/-- The law's list, as a slice. -/
theorem lv_slice (h : LV w W p vb v R ls hs s sd g X) : ∃ A c, v = .slice A hs.length c := by
  obtain ⟨Z, lg, im, h1, h2, h3, ⟨⟨⟨us, k1, _⟩, _⟩, _⟩, _⟩ := h
  rcases k1.2 with ⟨e, h0⟩ | ⟨g, cap, cur, e, _⟩
  · exact ⟨none, 0, by rw [e, h0]⟩
  · exact ⟨_, cap, e⟩
/-- Record i of the law's list. -/
theorem lv_at (h : LV w W p vb v R ls hs s sd g X) {i : Nat} {l : List Int} (hl : hs[i]? = some l) : ∃ g A n c, (∃ cap, v = .slice (some ⟨g, 0, none⟩) hs.length cap) ∧ W.cell? ⟨g, i, none⟩ = some (.slice A n c) ∧ BAt W (.slice A n c) l := by
  obtain ⟨Z, lg, im, h1, h2, h3, ⟨⟨⟨us, k1, k2⟩, _⟩, _⟩, h5⟩ := h
  have hil : i < hs.length := (List.getElem?_eq_some_iff.1 hl).1
  have hul : us.length = hs.length := by have := k1.1; omega
  obtain ⟨u, hu⟩ : ∃ u, us[i]? = some u := ⟨us[i], List.getElem?_eq_getElem (by omega)⟩
  obtain ⟨b1, A, n, c, rfl⟩ := k2 i u l hu hl
  rcases k1.2 with ⟨e, h0⟩ | ⟨g, cap, cur, e, _⟩
  · omega
  · have h7 := k1.cells (g := g) (by rw [e]; rfl) i _ hu
    rw [show (Addr.mk g 0 none).add i = ⟨g, 0 + i, none⟩ by unfold Addr.add; split <;> simp_all, Nat.zero_add] at h7
    exact ⟨g, A, n, c, ⟨cap, e⟩, h7, b1.kept h5⟩
/-- One more, and what the law's other list is then. -/
theorem lv_more1 (h : LV w W p vb v R ls hs s sd g X) {A1 : Option Addr} {n1 c1 : Nat} {l : List Int} (hb : BAt w (.slice A1 n1 c1) l) (hl : hs.length ≤ 1000) :
    ∃ A n c w', (Builtin.append_ #[31, 31] 31 #[.slice (some ⟨W.heap.size, 0, none⟩) 0 0, v]).run Tryz.prog (W.alloc (.cells #[] 32)) = .ok (.slice A n c) w' ∧
      ∃ A2 n2 c2 w2, (Builtin.append_ #[31, 31] 31 #[.slice A n c, .slice (some ⟨w'.heap.size, 0, none⟩) 1 1]).run Tryz.prog (w'.alloc (.cells #[.slice A1 n1 c1] 32)) = .ok (.slice A2 n2 c2) w2 ∧ LV w w2 p vb v R ls hs s sd g X := by
  have h0 := h
  obtain ⟨Z, lg, im, h1, h2, h3, ⟨⟨⟨us, k1, k2⟩, _⟩, hx⟩, h5⟩ := h
  obtain ⟨A, n, c, w', hr, hf⟩ := app_allV k1 k2 h5 hl
  obtain ⟨A2, n2, c2, w2, hr2, hf2⟩ := fi_app hf (hb.kept h5) rfl hl
  exact ⟨A, n, c, w', hr, A2, n2, c2, w2, hr2, h0.below hf2.2⟩
end
/-- A byte is spoilt somewhere: a row of bytes is one still. -/
theorem eo_set {N : Nat} {w : World} {u : Value} {b : List Int} (h : EO N w u b) (gb m : Nat) : ∃ b', b'.length = b.length ∧ EO N (w.setCell ⟨gb, m, none⟩ (.int .u8 1)) u b' := by
  rcases h.2 with ⟨h1, h2⟩ | ⟨g0, cap, cur, h1, h2, h3, h4, h5, h6, h7⟩
  · exact ⟨b, rfl, h.1, .inl ⟨h1, h2⟩⟩
  · by_cases hg : g0 = gb
    · subst hg
      refine ⟨b.set m 1, by simp, by rw [List.length_set]; simp [bv], .inr ⟨g0, cap, cur.setIfInBounds m (.int .u8 1), by rw [List.length_set]; exact h1, h2, ?_, by rw [List.length_set]; exact h4, h5, by rw [Array.size_setIfInBounds]; exact h6, ?_⟩⟩
      · simp only [World.setCell, Array.getElem?_modify, if_true]; rw [h3]
        rfl
      · rw [Array.toList_setIfInBounds, List.length_set, List.take_set, h7]
        simp [bv, List.map_set]
    · exact ⟨b, rfl, h.1, .inr ⟨g0, cap, cur, h1, h2, (Below.heap_setCell _ _ _ _ (by show g0 ≠ gb; exact hg)).trans h3, h4, h5, h6, h7⟩⟩
/-- Rows of bytes of these lengths, whatever they are. -/
def RL (w : World) (N : Nat) (v : Value) (ns : List Nat) : Prop := ∃ us : List Value, w.ownsRow N 32 1 v ns.length us ∧ ∀ (i : Nat) (u : Value) (n : Nat), us[i]? = some u → ns[i]? = some n → ∃ b, b.length = n ∧ EO N w u b
theorem RowsO.toL {w : World} {N : Nat} {T : Nat → Prop} {v : Value} {bs : List (List Int)} (h : RowsO w N T v bs) : RL w N v (bs.map (·.length)) := by
  obtain ⟨us, h1, h2⟩ := h
  refine ⟨us, by rw [List.length_map]; exact h1, fun i u n hu hn => ?_⟩
  rw [List.getElem?_map] at hn
  cases hb : bs[i]? with
  | none => rw [hb] at hn; cases hn
  | some b =>
    rw [hb] at hn
    exact ⟨b, Option.some.inj hn, (h2 i u b hu hb).1⟩
/-- Row i: where it lies. -/
theorem RL.at {w : World} {N : Nat} {v : Value} {ns : List Nat} (h : RL w N v ns) {i n : Nat} (hi : ns[i]? = some n) : ∃ g cap A c, v = .slice (some ⟨g, 0, none⟩) ns.length cap ∧ w.cell? ⟨g, i, none⟩ = some (.slice A n c) ∧ (0 < n → ∃ gb, A = some ⟨gb, 0, none⟩ ∧ N ≤ gb ∧ ∀ m, m < n → (∃ x, w.cell? ⟨gb, m, none⟩ = some x) ∧ w.frozen? ⟨gb, m, none⟩ = false ∧ RL (w.setCell ⟨gb, m, none⟩ (.int .u8 1)) N v ns) := by
  obtain ⟨us, h1, h2⟩ := h
  have hil : i < ns.length := (List.getElem?_eq_some_iff.1 hi).1
  have hul : us.length = ns.length := by have := h1.1; omega
  obtain ⟨u, hu⟩ : ∃ u, us[i]? = some u := ⟨us[i], List.getElem?_eq_getElem (by omega)⟩
  obtain ⟨b, hb, hE⟩ := h2 i u n hu hi
  rcases h1.2 with ⟨e, h0⟩ | ⟨g, cap, cur, e, hg1, hg2, hg3, hg4, hg5, hg6⟩
  · omega
  · have h7 := h1.cells (g := g) (by rw [e]; rfl) i _ hu
    rw [show (Addr.mk g 0 none).add i = ⟨g, 0 + i, none⟩ by unfold Addr.add; split <;> simp_all, Nat.zero_add] at h7
    rcases hE.2 with ⟨e1, e0⟩ | ⟨gb, cap2, cur2, e1, hb1, hb2, hb3, hb4, hb5, hb6⟩
    · subst e1
      rw [hb] at e0
      subst e0
      exact ⟨g, cap, none, 0, e, h7, fun h => absurd h (Nat.lt_irrefl 0)⟩
    · rw [hb] at e1 hb3
      subst e1
      refine ⟨g, cap, some ⟨gb, 0, none⟩, cap2, e, h7, fun hn => ⟨gb, rfl, hb1, fun m hm => ⟨⟨cur2[m]'(by omega), ?_⟩, by simp [World.frozen?, hb2], us, ?_, fun j x k hx hk => ?_⟩⟩⟩
      · simp only [World.cell?, hb2]
        exact Array.getElem?_eq_getElem (by omega)
      · have hne : g ≠ gb := fun h => by
          rw [h, hb2] at hg2
          simp only [Option.some.injEq, Obj.cells.injEq] at hg2
          exact absurd hg2.2.1 (by decide)
        exact Oc.ownsRow_kept h1 (fun q hq => Below.heap_setCell _ _ _ _ (by
          rw [e] at hq
          cases hq
          show g ≠ gb; exact hne))
      · obtain ⟨b2, hb2', hE2⟩ := h2 j x k hx hk
        obtain ⟨b3, h31, h32⟩ := eo_set hE2 gb m
        exact ⟨b3, h31.trans hb2', h32⟩
end Go.Proofs.YtjijgoflbjbnfaaGreat.Vt
