/-
  The contract of unseal. Conditions: at most a thousand bytes.
-/
import Derived.Test.YtganokcmcdkdgaaGreatPZ13
import Derived.Test.YtganokcmcdkdgaaGreatPZ14
import Derived.Test.YtganokcmcdkdgaaGreatORTxt
import Derived.Lib.ConvBytes
namespace Go.Proofs.YtganokcmcdkdgaaGreat.Jo
open Go.RowKit Fr
attribute [local go_sem] Oper.semAt_some

/-- A record's body: its number and its bytes. -/
def dec (l : List Int) : Option (Nat × List Int) := if (Oc.rg l).1 = 0 ∧ (Oc.rg l).2.1 ≤ 4611686018427387903 then some (Oc.rg l).2 else none
/-- Count at most the greatest: the mistake, the number, what is left. -/
theorem count_at {w : World} {b : Nat} {l : List Int} {v : Value} (h : Oc.RdR w b 0 l v) :
    ∃ (er : Int) (z : Nat) (r : List Int), Calls Tryz.prog 52 #[.pointer (some ⟨b, 0, none⟩), .int .i64 4611686018427387903] w (fun e w' => e = .returned (.int .i64 (z : Int)) ∧ Oc.RdTo b w er r w') ∧ z ≤ 4611686018427387903 ∧ (er = 0 → dec l = some (z, r)) ∧ (¬ er = 0 → dec l = none ∧ r = l ∧ z = 0) := by
  by_cases hg : (Oc.rg l).1 = 0
  · by_cases hn : (Oc.rg l).2.1 ≤ 4611686018427387903
    · have e1 : Oc.rg l = (0, (Oc.rg l).2.1, (Oc.rg l).2.2) := by rw [← hg]
      exact ⟨0, _, _, Oc.rcount_ok w b _ _ l _ v h e1 (by omega) (by decide), hn, fun _ => by unfold dec; rw [if_pos ⟨hg, hn⟩], fun h => absurd rfl h⟩
    · have e1 : Oc.rg l = (0, (Oc.rg l).2.1, (Oc.rg l).2.2) := by rw [← hg]
      exact ⟨_, 0, l, Oc.rcount_long w b _ _ l _ v h e1 (by omega) (by decide) (by decide), by omega, fun h => absurd h (Oc.longE_ne _), fun _ => ⟨by unfold dec; rw [if_neg (fun h => hn h.2)], rfl, rfl⟩⟩
  · exact ⟨_, 0, l, Oc.rcount_err w b _ l v h hg (by decide) (by decide), by omega, fun h => absurd h hg, fun _ => ⟨by unfold dec; rw [if_neg (fun h => hg h.1)], rfl, rfl⟩⟩
/-- What unseal tells. -/
def Uns (w : World) (v : Value) (l : List Int) (e : Ending) (w' : World) : Prop :=
  Below w.heap.size w w' ∧ ∃ (z : Nat) (A : Option Addr) (k c : Nat) (ok : Bool), e = .returned (.tuple #[.agg #[.int .i64 (z : Int), .slice A k c], .bool ok]) ∧ z ≤ 4611686018427387903 ∧
    ((ok = true ∧ ∃ r, dec l = some (z, r) ∧ BAt w' (.slice A k c) r ∧ ∀ K, BK K v l → BK K (.slice A k c) r) ∨ (ok = false ∧ dec l = none))
theorem rg_back {l r : List Int} {n : Nat} (hb : bok l) (h : Oc.rg l = (0, n, r)) : r.length ≤ l.length ∧ l.drop (l.length - r.length) = r := by
  obtain ⟨_, h2⟩ := Oc.rg_inv hb h
  rw [h2, List.length_append]
  refine ⟨by omega, ?_⟩
  rw [Nat.add_sub_cancel, List.drop_left' rfl]
theorem dec_back {l r : List Int} {n : Nat} (hb : bok l) (h : dec l = some (n, r)) : r.length ≤ l.length ∧ l.drop (l.length - r.length) = r := by
  unfold dec at h
  split at h
  · rename_i hc
    have h2 := Option.some.inj h
    exact rg_back hb (n := n) (by rw [← hc.1, ← h2])
  · cases h
end Go.Proofs.YtganokcmcdkdgaaGreat.Jo

namespace Go.Proofs.YtganokcmcdkdgaaGreat.Sp
open Go.RowKit Fr
attribute [local go_sem] Oper.semAt_some

/-- Count at most ten thousand. -/
theorem count_at {w : World} {b : Nat} {l : List Int} {v : Value} (h : Oc.RdR w b 0 l v) :
    Calls Tryz.prog 52 #[.pointer (some ⟨b, 0, none⟩), .int .i64 10000] w (fun e w' => e = .returned (.int .i64 ((cntS l).2.1 : Int)) ∧ Oc.RdTo b w (cntS l).1 (cntS l).2.2 w') := by
  by_cases hg : (Oc.rg l).1 = 0
  · have e1 : Oc.rg l = (0, (Oc.rg l).2.1, (Oc.rg l).2.2) := by rw [← hg]
    by_cases hn : ((Oc.rg l).2.1 : Int) ≤ 10000
    · have e2 : cntS l = (0, (Oc.rg l).2.1, (Oc.rg l).2.2) := by unfold cntS; rw [if_neg (fun h => h hg), if_neg (fun h => h hn)]
      rw [e2]
      exact Oc.rcount_ok w b _ _ l _ v h e1 hn (by decide)
    · have e2 : cntS l = (Oc.longE (Oc.rg l).2.1, 0, l) := by unfold cntS; rw [if_neg (fun h => h hg), if_pos hn]
      rw [e2]
      exact Oc.rcount_long w b _ _ l _ v h e1 hn (by decide) (by decide)
  · have e2 : cntS l = ((Oc.rg l).1, 0, l) := by unfold cntS; rw [if_pos hg]
    rw [e2]
    exact Oc.rcount_err w b _ l v h hg (by decide) (by decide)
theorem longE_ne (n : Nat) : ¬ Oc.longE n = 0 := Oc.longE_ne n
/-- Text of at most so many bytes. -/
theorem text_at {w : World} {b : Nat} {l : List Int} {v : Value} (h : Oc.RdR w b 0 l v) :
    Calls Tryz.prog 54 #[.pointer (some ⟨b, 0, none⟩), .int .i64 1048576] w (fun e w' => e = .returned (.string (Oc.strOf (txt l).2.1)) ∧ Oc.RdTo b w (txt l).1 (txt l).2.2 w') := by
  have e0 : Oc.strOf ([] : List Int) = ByteArray.empty := rfl
  by_cases hg : (Oc.rg l).1 = 0
  · have e1 : Oc.rg l = (0, (Oc.rg l).2.1, (Oc.rg l).2.2) := by rw [← hg]
    by_cases hn : ((Oc.rg l).2.1 : Int) ≤ 1048576
    · by_cases hs : (Oc.rg l).2.2.length < (Oc.rg l).2.1
      · have e2 : txt l = (12, [], l) := by unfold txt; rw [if_neg (fun h => h hg), if_neg (fun h => h hn), if_pos hs]
        rw [e2]
        exact Oc.rtext_short w b _ _ l _ v h e1 hn (by decide) hs
      · have e2 : txt l = (0, (Oc.rg l).2.2.take (Oc.rg l).2.1, (Oc.rg l).2.2.drop (Oc.rg l).2.1) := by unfold txt; rw [if_neg (fun h => h hg), if_neg (fun h => h hn), if_neg hs]
        rw [e2]
        exact Oc.rtext_ok w b _ _ l _ v h e1 hn (by decide) (by omega)
    · have e2 : txt l = (Oc.longE (Oc.rg l).2.1, [], l) := by unfold txt; rw [if_neg (fun h => h hg), if_pos hn]
      rw [e2]
      exact Oc.rtext_err w b _ _ l v h (longE_ne _) (fun W hW => Oc.rcount_long W b _ _ l _ v hW e1 hn (by decide) (by decide))
  · have e2 : txt l = ((Oc.rg l).1, [], l) := by unfold txt; rw [if_pos hg]
    rw [e2]
    exact Oc.rtext_err w b _ _ l v h hg (fun W hW => Oc.rcount_err W b _ l v hW hg (by decide) (by decide))
/-- Bytes of a text, in a block of their own. -/
theorem conv_str (w : World) (l : List Int) (hb : bok l) : ∃ c w', (convert 9 22 (.string (Oc.strOf l))).run Tryz.prog w = .ok (.slice (some ⟨w.heap.size, 0, none⟩) l.length c) w' ∧ BAt w' (.slice (some ⟨w.heap.size, 0, none⟩) l.length c) l ∧ Below w.heap.size w w' := by
  have e1 : (Oc.strOf l).size = l.length := Oc.strOf_len l
  have hr := Lib.run_convert_string_bytes (P := Tryz.prog) w 9 22 5 (Oc.strOf l) Tryz.underlying9 Tryz.underlying22 Tryz.underlying5
  rw [e1] at hr
  refine ⟨_, _, hr, ⟨_, _, rfl, ?_, fun hp => ⟨w.heap.size, 0, rfl, ?_, fun j hj => ?_⟩⟩, ?_⟩
  · exact grownCap_ge w _ _ _
  · rw [Lib.bytesWorld_size]; omega
  · rw [Nat.zero_add, Lib.bytesWorld_cell _ _ _ _ (by omega)]
    have hj2 : j < (Oc.strOf l).data.toList.length := by
      have : (Oc.strOf l).data.toList.length = (Oc.strOf l).size := Array.length_toList
      omega
    have h1 := Oc.sb_strOf hb
    have h2 : l.getD j 0 = ((Oc.sb (Oc.strOf l)).getD j 0) := by rw [h1]
    rw [h2]
    unfold Oc.sb
    simp only [List.getD, List.getElem?_map, List.getElem?_eq_getElem hj2, Option.map_some, Option.getD_some]
  · exact ⟨rfl, rfl, rfl, by rw [Lib.bytesWorld_size]; omega, fun k hk => Lib.bytesWorld_at_old w _ _ k hk⟩
end Go.Proofs.YtganokcmcdkdgaaGreat.Sp

namespace Go.Proofs.YtganokcmcdkdgaaGreat.Sp
open Go.RowKit Fr
attribute [local go_sem] Oper.semAt_some

theorem rowsInf : (Tryz.prog.info? 22).map (fun i => (i.zero, i.size, i.bytes)) = some (some (.slice none 0 0), 1, 24) := by kernel_rfl
/-- One slice of bytes behind the row. -/
theorem app_row {w : World} {base : Nat} {v u : Value} {us : List Value} {n g : Nat} (h : w.ownsRow base 22 1 v n us) (hn : n ≤ 100000) (hb : base ≤ w.heap.size) (hg : w.heap[g]? = some (.cells #[u] 22 (0, 0))) (hu : u.oneCell' = true) :
    ∃ A' n' c' w', (Builtin.append_ #[115, 115] 115 #[v, .slice (some ⟨g, 0, none⟩) 1 1]).run Tryz.prog w = .ok (.slice A' n' c') w' ∧ w'.ownsRow base 22 1 (.slice A' n' c') (n + 1) (us ++ [u]) ∧ w.grownBy w' v.ownBlock ∧ ∀ i, (Value.slice A' n' c').ownBlock = some i → v.ownBlock = some i ∨ w.heap.size ≤ i := by
  obtain ⟨i0, hi0, hz0, hz1, hz2⟩ := info_parts rowsInf
  obtain ⟨v', w', hr, ho, hgr, _, hat⟩ := run_append_own_at (P := Tryz.prog) w base 115 115 22 i0 (.slice none 0 0) 1 24 Tryz.underlying115 hi0 hz0 hz1 hz2 rfl (by decide) v n us h ⟨g, 0, none⟩ 1 1 [u] rfl (World.news_of_block (cs := #[u]) hg) (by simpa using hu) (by unfold maxLen; omega) (by omega) hb
  obtain ⟨A5, n5, c5, rfl⟩ : ∃ A n c, v' = .slice A n c := by
    rcases ho.2 with ⟨h7, _⟩ | ⟨g, cap, cur, h7, _⟩
    · exact ⟨none, 0, 0, h7⟩
    · exact ⟨_, _, _, h7⟩
  refine ⟨A5, n5, c5, w', hr, ho, hgr, fun i hi => ?_⟩
  rcases hat with h2 | h2
  · exact .inl (h2.symm.trans hi)
  · rw [h2] at hi; cases hi; exact .inr (Nat.le_refl _)
/-- What is read so far: an own row of own bytes, beside the reader b. -/
structure LI (w : World) (b : Nat) (W : World) (v : Value) (bs : List (List Int)) : Prop where
  row : ∃ us : List Value, W.ownsRow w.heap.size 22 1 v bs.length us ∧ ∀ (i : Nat) (u : Value) (l : List Int), us[i]? = some u → bs[i]? = some l → BAt W u l ∧ BK (fun k => v.ownBlock ≠ some k ∧ k ≠ b ∧ w.heap.size ≤ k) u l
  bel : w.grownBy W (some b)
theorem LI.nil {w : World} {b : Nat} {W : World} (h : w.grownBy W (some b)) : LI w b W (.slice none 0 0) [] := ⟨⟨[], World.ownsRow_nil _ _ _ _, fun i u l hu => by simp at hu⟩, h⟩
theorem LI.toF {w : World} {b : Nat} {W : World} {v : Value} {bs : List (List Int)} (h : LI w b W v bs) : RowsF w.heap.size W v bs := by
  obtain ⟨us, h1, h2⟩ := h.row
  rcases h1.2 with ⟨e, h0⟩ | ⟨g, cap, cur, e, hg, hh, _⟩
  · exact ⟨none, 0, by rw [e, h0], fun hp => by omega⟩
  · refine ⟨_, cap, e, fun hp => ⟨g, 0, rfl, hg, (Array.getElem?_eq_some_iff.1 hh).1, fun i l hi => ?_⟩⟩
    have hl : us.length = bs.length := by have := h1.1; simpa using this
    have hi2 : i < us.length := by rw [hl]; exact (List.getElem?_eq_some_iff.1 hi).1
    have hu : us[i]? = some us[i] := List.getElem?_eq_getElem hi2
    refine ⟨us[i], ?_, (h2 i _ l hu hi).1, fun hp a n c ha => ((h2 i _ l hu hi).2 hp a n c ha).2.2⟩
    have h3 := h1.cells (g := g) (by rw [e]; rfl) i _ hu
    rwa [show (⟨g, 0, none⟩ : Addr).add i = ⟨g, 0 + i, none⟩ from by unfold Addr.add; split <;> simp_all] at h3
theorem LI.step {w W W3 : World} {b : Nat} {v u : Value} {bs : List (List Int)} {l : List Int} (h : LI w b W v bs) (hbw : b < w.heap.size) (hg : W.grownBy W3 (some b)) (hu : BAt W3 u l) (hk : BK (fun k => W.heap.size ≤ k) u l) (hu1 : u.oneCell' = true) (hn : bs.length ≤ 100000) :
    ∃ A n c W5, (Builtin.append_ #[115, 115] 115 #[v, .slice (some ⟨W3.heap.size, 0, none⟩) 1 1]).run Tryz.prog (W3.alloc (.cells #[u] 22)) = .ok (.slice A n c) W5 ∧ LI w b W5 (.slice A n c) (bs ++ [l]) ∧ ∀ k, k ≤ b → W5.heap[k]? = W3.heap[k]? := by
  obtain ⟨us, h1, h2⟩ := h.row
  have hvb : ∀ i, v.ownBlock = some i → w.heap.size ≤ i ∧ i < W.heap.size := fun i hi => h1.lt i hi
  have hs1 := h.bel.size
  have hs2 := hg.size
  have hal := Jo.alloc_below W3 (.cells #[u] 22)
  have hsz : (W3.alloc (.cells #[u] 22)).heap.size = W3.heap.size + 1 := by simp
  have own3 : (W3.alloc (.cells #[u] 22)).ownsRow w.heap.size 22 1 v bs.length us := Oc.ownsRow_kept h1 (fun g hgg => by
    have h3 := hvb g hgg
    rw [hal.block g (by omega), hg.block g h3.2 (fun e => by cases e; omega)])
  obtain ⟨A, n, c, W5, hr, ho, hg5, hn5⟩ := app_row (u := u) own3 hn (by omega) (block_new W3 _) hu1
  have k5 : ∀ k, k < W3.heap.size → v.ownBlock ≠ some k → W5.heap[k]? = W3.heap[k]? := fun k hk hv => (hg5.block k (by omega) (fun e => hv e.symm)).trans (hal.block k hk)
  refine ⟨A, n, c, W5, hr, ⟨⟨us ++ [u], by rw [List.length_append]; exact ho, fun i x y hx hy => ?_⟩, ?_⟩, fun k hkb => k5 k (by omega) (fun e => by have := (hvb k e).1; omega)⟩
  · have hul : us.length = bs.length := by have := h1.1; simpa using this
    rw [List.getElem?_append] at hx hy
    split at hx
    · rename_i hi
      rw [if_pos (by omega)] at hy
      obtain ⟨a1, a2⟩ := h2 i x y hx hy
      have a3 : BAt W3 x y := bat_kept a1 (fun hp a n c e => by
        have h5 := a2 hp a n c e
        exact hg.block _ (bat_lt a1 hp e) (fun e2 => h5.2.1 (Option.some.inj e2)))
      refine ⟨bat_kept a3 (fun hp a n c e => k5 _ (bat_lt a3 hp e) (a2 hp a n c e).1), fun hp a n c e => ⟨fun e3 => ?_, (a2 hp a n c e).2⟩⟩
      rcases hn5 _ e3 with h7 | h7
      · exact (a2 hp a n c e).1 h7
      · have := bat_lt a1 hp e; omega
    · rename_i hi
      rw [if_neg (by omega)] at hy
      have e3 : i - us.length = 0 := by
        have := (List.getElem?_eq_some_iff.1 hx).1
        simp at this; omega
      rw [e3] at hx
      rw [← hul, e3] at hy
      simp at hx hy
      subst hx hy
      refine ⟨bat_kept hu (fun hp a n c e => k5 _ (bat_lt hu hp e) (fun e4 => by have := hk hp a n c e; have := (hvb _ e4).2; omega)), fun hp a n c e => ⟨fun e4 => ?_, fun e4 => by have := hk hp a n c e; omega, by have := hk hp a n c e; omega⟩⟩
      have h8 := hk hp a n c e
      have h9 := bat_lt hu hp e
      rcases hn5 _ e4 with h7 | h7
      · have := (hvb _ h7).2; omega
      · omega
  · exact ⟨hg5.os.trans (hal.os.trans (hg.os.trans h.bel.os)), hg5.tape.trans (hal.tape.trans (hg.tape.trans h.bel.tape)), hg5.output.trans (hal.output.trans (hg.output.trans h.bel.output)), by have := hg5.size; omega, fun k hk1 hk2 => (k5 k (by omega) (fun e => by have := (hvb k e).1; omega)).trans ((hg.block k (by omega) hk2).trans (h.bel.block k hk1 hk2))⟩
theorem txt_bok {l : List Int} (h : bok l) : bok (txt l).2.1 := by
  unfold txt
  split
  · intro x hx; cases hx
  · split
    · intro x hx; cases hx
    · split
      · intro x hx; cases hx
      · rename_i h1 h2 h3
        have h1' : (Oc.rg l).1 = 0 := Classical.byContradiction h1
        have e1 : Oc.rg l = (0, (Oc.rg l).2.1, (Oc.rg l).2.2) := by rw [← h1']
        have e2 := (Oc.rg_inv h e1).2
        exact fun x hx => h x (by rw [e2]; exact List.mem_append_right _ (List.mem_of_mem_take hx))
theorem txt_err {l : List Int} (h : ¬ (txt l).1 = 0) : (txt l).2.1 = [] ∧ (txt l).2.2 = l := by
  unfold txt at h ⊢
  split
  · exact ⟨rfl, rfl⟩
  · rename_i h1
    rw [if_neg h1] at h
    split
    · exact ⟨rfl, rfl⟩
    · rename_i h2
      rw [if_neg h2] at h
      split
      · exact ⟨rfl, rfl⟩
      · rename_i h3
        rw [if_neg h3] at h
        exact absurd rfl h
end Go.Proofs.YtganokcmcdkdgaaGreat.Sp
