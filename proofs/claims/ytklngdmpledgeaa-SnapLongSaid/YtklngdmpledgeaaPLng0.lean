/-
  SnapLong: long records, many records, a nil store, a store of little room. Conditions: as each says.
-/
import Derived.Test.YtklngdmpledgeaaPEnd0
import Derived.Test.YtklngdmpledgeaaPL18
import Derived.Test.YtklngdmpledgeaaPL14
import Derived.Deep.OwnRows
namespace Go.Proofs.Ytklngdmpledgeaa.Sp
open Go.RowKit Fr Sr
attribute [local go_sem] Oper.semAt_some

theorem u8Inf' : (Try.prog.info? 5).map (fun i => (i.zero, i.size, i.bytes)) = some (some (.int .u8 0), 1, 1) := by kernel_rfl
theorem made_get (z : Value) (n i : Nat) (h : i < n) : (madeCells #[z] n)[i]? = some z := by
  rw [← Array.getElem?_toList, toList_madeCells_one, List.getElem?_replicate, if_pos h]
theorem mkB (n : Nat) (h : n ≤ 2000000) (w : World) : (Instr.makeSlice 32 (.int .i64 (n : Int)) (.int .i64 (n : Int))).run Try.prog w = .ok (.slice (some ⟨w.heap.size, 0, none⟩) n n) (w.alloc (.cells (madeCells #[.int .u8 0] n) 5)) :=
  run_make_row' 32 5 (.int .u8 0) 1 Try.underlying32 u8Inf' rfl .i64 .i64 n (by omega) (by omega) w
theorem mkR (n : Nat) (h : n ≤ 2000000) (w : World) : (Instr.makeSlice 60 (.int .i64 (n : Int)) (.int .i64 (n : Int))).run Try.prog w = .ok (.slice (some ⟨w.heap.size, 0, none⟩) n n) (w.alloc (.cells (madeCells #[.slice none 0 0] n) 32)) :=
  run_make_row' 60 32 (.slice none 0 0) 24 Try.underlying60 rowsInf rfl .i64 .i64 n (by omega) (by omega) w
theorem zeros_at (w : World) (n : Nat) : BAt (w.alloc (.cells (madeCells #[.int .u8 0] n) 5)) (.slice (some ⟨w.heap.size, 0, none⟩) n n) (List.replicate n 0) := by
  refine ⟨_, n, by rw [List.length_replicate], by rw [List.length_replicate]; exact Nat.le_refl _, fun _ => ⟨w.heap.size, 0, rfl, by simp, fun i hi => ?_⟩⟩
  rw [List.length_replicate] at hi
  have hb := block_new w (.cells (madeCells #[.int .u8 0] n) 5)
  simp only [World.cell?, Nat.zero_add]
  rw [hb]
  have h1 : (List.replicate n (0 : Int)).getD i 0 = 0 := by simp [List.getD, hi]
  rw [h1]
  exact made_get _ _ _ hi
theorem nils_at (w : World) (n : Nat) : RowsA (w.alloc (.cells (madeCells #[.slice none 0 0] n) 32)) (.slice (some ⟨w.heap.size, 0, none⟩) n n) (List.replicate n []) := by
  refine ⟨_, n, by rw [List.length_replicate], fun _ => ⟨w.heap.size, 0, rfl, by simp, fun i b hi => ?_⟩⟩
  rw [List.getElem?_replicate] at hi
  split at hi
  · rename_i hlt
    cases hi
    have hb := block_new w (.cells (madeCells #[.slice none 0 0] n) 32)
    refine ⟨.slice none 0 0, ?_, BAt.nil _⟩
    simp only [World.cell?, Nat.zero_add]
    rw [hb]
    exact made_get _ _ _ hlt
  · cases hi
theorem rows_one {w : World} {u : Value} {l : List Int} (h : BAt w u l) : RowsA (w.alloc (.cells #[u] 32)) (.slice (some ⟨w.heap.size, 0, none⟩) 1 1) [l] := by
  refine ⟨_, 1, rfl, fun _ => ⟨w.heap.size, 0, rfl, by simp, fun i b hi => ?_⟩⟩
  have h2 : i = 0 := by have := (List.getElem?_eq_some_iff.1 hi).1; simp at this; omega
  subst h2
  simp at hi; subst hi
  have hb := block_new w (.cells #[u] 32)
  exact ⟨u, by simp only [World.cell?, Nat.zero_add]; rw [hb]; rfl, h.kept (Jo.alloc_below w _)⟩
abbrev zW (w : World) (n : Nat) : World := (w.alloc (.cells (madeCells #[.int .u8 0] n) 5)).alloc (.cells #[.slice (some ⟨w.heap.size, 0, none⟩) n n] 32)
theorem zW_below (w : World) (n : Nat) : Below w.heap.size w (zW w n) := ((Below.refl _ _).alloc (Nat.le_refl _) _).alloc (by simp) _
theorem zW_rows (w : World) (n : Nat) : RowsA (zW w n) (.slice (some ⟨w.heap.size + 1, 0, none⟩) 1 1) [List.replicate n 0] := by
  have := rows_one (zeros_at w n)
  simpa [zW] using this
theorem z_tot (n : Nat) (h1 : 16384 ≤ n) (h2 : n < 2097152) : tot [List.replicate n 0] = n + 12 := by
  have e1 : (Oc.grp n).length = 3 := by
    have a1 : ¬ n < 128 := by omega
    have a2 : ¬ n / 128 < 128 := by omega
    have a3 : n / 128 / 128 < 128 := by omega
    simp [Oc.grp, Oc.grpF, a1, a2, a3]
  have e2 : (Oc.grp 1).length = 1 := by decide
  simp [tot, bodyS, flat, recB, e1, e2]
  omega
theorem z_bok (n : Nat) (h : n ≤ 2000000) : ∀ l ∈ [List.replicate n (0 : Int)], bok l ∧ l.length ≤ 2000000 := fun l hl => by
  simp at hl; subst hl
  exact ⟨fun x hx => by rw [(List.mem_replicate.1 hx).2]; decide, by simpa using h⟩
theorem z_fits (n : Nat) (h1 : 16384 ≤ n) (h2 : n < 2097152) : fitsS [List.replicate n (0 : Int)] = decide (n + 12 ≤ 1048576) := by
  unfold fitsS
  rw [z_tot n h1 h2]
  simp
theorem z_enc (w : World) (n : Nat) (E : Int) (h1 : 16384 ≤ n) (h2 : n < 2000000) (hE : E = if n + 12 ≤ 1048576 then 0 else 2) :
    Calls Try.prog 51 #[.slice (some ⟨w.heap.size + 1, 0, none⟩) 1 1] (zW w n) fun e w' => ∃ A q c, e = .returned (.tuple #[.slice A q c, .int .i64 E]) ∧ Below w.heap.size w w' := by
  have hf := z_fits n h1 (by omega)
  have hzb := zW_below w n
  by_cases hn : n + 12 ≤ 1048576
  · rw [decide_eq_true hn] at hf
    rw [hE, if_pos hn]
    refine (encode_ok _ _ 1 1 _ (zW_rows w n) (z_bok n (by omega)) hf).mono ?_
    rintro e w' ⟨A, q, c, rfl, _, _, hb⟩
    exact ⟨A, q, c, rfl, hzb.trans (hb.mono hzb.size)⟩
  · rw [decide_eq_false hn] at hf
    rw [hE, if_neg hn]
    refine (encode_bad _ _ 1 1 _ (zW_rows w n) (fun l hl => (z_bok n (by omega) l hl).2) (by decide) hf).mono ?_
    rintro e w' ⟨rfl, hb⟩
    exact ⟨none, 0, 0, rfl, hzb.trans (hb.mono hzb.size)⟩
theorem z_size (w : World) (n : Nat) (E : Int) (h1 : 16384 ≤ n) (h2 : n < 2000000) (hE : E = if n + 12 ≤ 1048576 then ((n + 12 : Nat) : Int) else -1) :
    Calls Try.prog 56 #[.slice (some ⟨w.heap.size + 1, 0, none⟩) 1 1] (zW w n) fun e w' => e = .returned (.int .i64 E) ∧ Below w.heap.size w w' := by
  have hf := z_fits n h1 (by omega)
  have hzb := zW_below w n
  have e : sizeE [List.replicate n 0] = E := by
    unfold sizeE
    rw [hf, z_tot n h1 (by omega), hE]
    by_cases hn : n + 12 ≤ 1048576
    · rw [decide_eq_true hn, if_pos hn]; rfl
    · rw [decide_eq_false hn, if_neg hn]; rfl
  have h := size_any (zW w n) _ 1 1 _ (zW_rows w n) (fun l hl => (z_bok n (by omega) l hl).2) (by decide)
  rw [e] at h
  refine h.mono ?_
  rintro e w' ⟨rfl, hb⟩
  exact ⟨rfl, hzb.trans (hb.mono hzb.size)⟩
theorem flat_nils (n : Nat) : (flat (List.replicate n [])).length = n := by
  induction n with
  | zero => rfl
  | succ n ih =>
    have e : flat (List.replicate (n + 1) ([] : List Int)) = recB [] ++ flat (List.replicate n []) := by simp [flat, List.replicate_succ]
    rw [e, List.length_append, ih]
    have : (recB []).length = 1 := by decide
    omega
theorem nils_bok (n : Nat) : ∀ l ∈ List.replicate n ([] : List Int), bok l ∧ l.length ≤ 2000000 := fun l hl => by
  rw [(List.mem_replicate.1 hl).2]
  exact ⟨fun x hx => (by cases hx), (by decide)⟩
theorem nils_fit (n : Nat) (h : n ≤ 10000) : fitsS (List.replicate n []) = true := by
  have e1 : (Oc.grp n).length ≤ 10 := (Oc.grp_len n).1
  unfold fitsS
  refine decide_eq_true ⟨by rw [List.length_replicate]; exact h, ?_⟩
  unfold tot bodyS
  rw [List.length_append, flat_nils, List.length_replicate]
  omega
theorem nils_not (n : Nat) (h : 10000 < n) : fitsS (List.replicate n []) = false := by
  unfold fitsS
  refine decide_eq_false fun h2 => ?_
  have := h2.1
  rw [List.length_replicate] at this
  omega
theorem nil_encM (w : World) : Calls Try.prog 51 #[.slice (some ⟨w.heap.size, 0, none⟩) 10001 10001] (w.alloc (.cells (madeCells #[.slice none 0 0] 10001) 32)) fun e w' => ∃ A q c, e = .returned (.tuple #[.slice A q c, .int .i64 2]) ∧ Below w.heap.size w w' := by
  have hal := Jo.alloc_below w (.cells (madeCells #[.slice none 0 0] 10001) 32)
  have hf := nils_not 10001 (by decide)
  refine (encode_bad _ _ 10001 10001 _ (nils_at w 10001) (fun l hl => (nils_bok 10001 l hl).2) (by decide) hf).mono ?_
  rintro e w' ⟨rfl, hb⟩
  exact ⟨none, 0, 0, rfl, hal.trans (hb.mono hal.size)⟩
theorem nil_encN (w : World) : Calls Try.prog 51 #[.slice (some ⟨w.heap.size, 0, none⟩) 10000 10000] (w.alloc (.cells (madeCells #[.slice none 0 0] 10000) 32)) fun e w' => ∃ A q c, e = .returned (.tuple #[.slice A q c, .int .i64 0]) ∧ Below w.heap.size w w' := by
  have hal := Jo.alloc_below w (.cells (madeCells #[.slice none 0 0] 10000) 32)
  have hf := nils_fit 10000 (by decide)
  refine (encode_ok _ _ 10000 10000 _ (nils_at w 10000) (nils_bok 10000) hf).mono ?_
  rintro e w' ⟨A, q, c, rfl, _, _, hb⟩
  exact ⟨A, q, c, rfl, hal.trans (hb.mono hal.size)⟩

/-! ### A nil store -/
set_option maxRecDepth 100000 in
set_option maxHeartbeats 2000000 in
theorem save_nil (w : World) : Calls Try.prog 59 #[.pointer none, .slice none 0 0] w fun e w' => e = .returned (.int .i64 14) ∧ Below w.heap.size w w' := by
  have HEN := Lib.hid (encode_ok w none 0 0 [] (RowsA.nil w 0 none) (fun l hl => by cases hl) (by decide +kernel))
  go_enter Try.func59, Try.ntmps59
  go_wp2_with (first
    | (go_at_call 17; (with_reducible refine (nil_write w1 _ _).mono ?_); rintro e w2 ⟨rfl, hb2⟩; have HB2 := Lib.hid (HB1.out.trans (hb2.mono HB1.out.size)); clear hb2)
    | (go_at_call 51; (with_reducible refine HEN.out.mono ?_); rintro e w1 ⟨A1, q1, c1, rfl, _, _, hb1⟩; have HB1 := Lib.hid hb1; clear hb1))
  go_ret
  exact ⟨rfl, HB2.out⟩
set_option maxRecDepth 100000 in
set_option maxHeartbeats 2000000 in
theorem load_nil (w : World) : Calls Try.prog 58 #[.pointer none] w fun e w' => e = .returned (.tuple #[.slice none 0 0, .int .i64 13]) ∧ Below w.heap.size w w' := by
  have e12 : decE [] = 12 := by decide +kernel
  go_enter Try.func58, Try.ntmps58
  go_wp2_with (first
    | (go_at_call 52; (with_reducible refine HDE.out.mono ?_); rintro e w2 ⟨⟨A2, n2, c2, rfl, _⟩, hb2⟩; have HB2 := Lib.hid (HB1.out.trans (hb2.mono HB1.out.size)); clear hb2)
    | (go_at_call 28; (with_reducible refine (nil_read w _).mono ?_); rintro e w1 ⟨rfl, hb1⟩
       have HB1 := Lib.hid hb1
       have hde := decode_any w1 none 0 0 [] (BAt.nil w1) (fun x hx => by cases hx) (by decide)
       unfold DecR at hde
       rw [e12] at hde
       have HDE := Lib.hid hde
       clear hb1 hde))
  go_ret2
  exact ⟨rfl, HB2.out⟩

/-! ### A store of little room -/
abbrev aW (w : World) : World := (w.alloc (.cells #[.int .u8 97, .int .u8 98, .int .u8 99] 5 (3, 4))).alloc (.cells #[.slice (some ⟨w.heap.size, 0, none⟩) 3 3] 32)
theorem abc_tot : tot [[97, 98, 99]] = 13 ∧ fitsS [[97, 98, 99]] = true := by decide +kernel
theorem abc_save {W0 W : World} {p r : Nat} {M : Nat} {G : Int} (h : St W0 p ⟨false, 0, false, (r : Int), 0⟩ [] M W) (hG : G = if 13 ≤ r then 0 else 7) :
    Calls Try.prog 59 #[.pointer (some ⟨p, 0, none⟩), .slice (some ⟨W.heap.size + 1, 0, none⟩) 1 1] (aW W) fun e W' => e = .returned (.int .i64 G) ∧ Below W0.heap.size W0 W' := by
  obtain ⟨mb, h1, h2, h3⟩ := h
  have hab : Below W.heap.size W (aW W) := ((Below.refl _ _).alloc (Nat.le_refl _) _).alloc (by simp) _
  have hrow : RowsA (aW W) (.slice (some ⟨W.heap.size + 1, 0, none⟩) 1 1) [[97, 98, 99]] := by
    have := rows_one (lit_at W [97, 98, 99] (3, 4))
    simpa [bv, aW] using this
  have hlen := encS_len [[97, 98, 99]]
  rw [abc_tot.1] at hlen
  have hE : svE ⟨false, 0, false, (r : Int), 0⟩ [] (encS [[97, 98, 99]]) = G := by
    by_cases h13 : 13 ≤ r
    · rw [hG, if_pos h13]
      exact (sv_ok rfl rfl (by show ¬ (r : Int) < 0 - ((bytL [] knew).length : Int) + _; rw [hlen]; simp [bytL]; omega)).1
    · rw [hG, if_neg h13]
      have e1 : rdy false [knew] = 0 := by decide
      have hw : wriE ⟨false, 0, false, (r : Int), 0⟩ [] knew (encS [[97, 98, 99]]).length = 7 := by
        unfold wriE
        rw [if_neg (fun h => h e1), if_pos (by show (r : Int) < 0 - ((bytL [] knew).length : Int) + _; rw [hlen]; simp [bytL]; omega)]
      unfold svE
      rw [hw, if_neg (by decide)]
  have hs := save_any (h1.below hab) hrow (fun l hl => by
    simp at hl; subst hl
    exact ⟨fun x hx => by simp at hx; omega, by decide⟩) abc_tot.2 (by rw [abc_tot.1]; decide)
  rw [hE] at hs
  refine hs.mono ?_
  rintro e W' ⟨rfl, mb', L', hm, _⟩
  have h4 := h2.trans (hab.mono h2.size)
  exact ⟨rfl, h4.trans (hm.off.below (fun k hk => (h3 k hk).1) h4.size)⟩
end Go.Proofs.Ytklngdmpledgeaa.Sp
