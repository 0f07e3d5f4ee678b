/-
  A roster of one's own; the contracts of list and admit. Conditions: at most 999 rows.
-/
import Derived.Test.YtkoihpfgleboiaaRPutSi
import Derived.Test.YtkoihpfgleboiaaRPutSu
import Derived.Test.YtkoihpfgleboiaaROwn
import Derived.Test.YtkoihpfgleboiaaIdA
import Derived.Test.YtkoihpfgleboiaaShelf
namespace Go.Proofs.Ytkoihpfgleboiaa.Ro
open Go.RowKit Tb

/-- A roster of one's own lies in block b. -/
def RosO (base : Nat) (w : World) (b : Nat) (n : Int) (I : List (ByteArray × Unit)) (M : List (ByteArray × Int)) : Prop :=
  ∃ v1 v2, Su.TabB base w b n v2 v1 I ∧ Si.TabB base w b n v1 v2 M
theorem RosO.read {base : Nat} {w : World} {b : Nat} {n : Int} {I : List (ByteArray × Unit)} {M : List (ByteArray × Int)} (h : RosO base w b n I M) : RosS w b n I M :=
  let ⟨v1, v2, h1, h2⟩ := h
  ⟨v1, v2, h1.2.1, Su.RowsR.of_own h1.2.2, Si.RowsR.of_own h2.2.2⟩
theorem RosO.below {base : Nat} {w w' : World} {b : Nat} {n : Int} {I : List (ByteArray × Unit)} {M : List (ByteArray × Int)} (h : RosO base w b n I M) (hb : Below w.heap.size w w') : RosO base w' b n I M :=
  let ⟨v1, v2, h1, h2⟩ := h
  ⟨v1, v2, h1.below hb, h2.below hb⟩
theorem RosO.drew {base : Nat} {w : World} {b : Nat} {n : Int} {I : List (ByteArray × Unit)} {M : List (ByteArray × Int)} (h : RosO base w b n I M) : RosO base w.drew b n I M := h.below (Below.refl _ _).drew
theorem RosO.lt {base : Nat} {w : World} {b : Nat} {n : Int} {I : List (ByteArray × Unit)} {M : List (ByteArray × Int)} (h : RosO base w b n I M) : b < w.heap.size := h.read.lt
/-- The two tables' rows lie apart. -/
theorem rows_apart {w : World} {base b : Nat} {n : Int} {v1 v2 : Value} {I : List (ByteArray × Unit)} {M : List (ByteArray × Int)} (h1 : Su.TabB base w b n v2 v1 I) (h2 : Si.TabB base w b n v1 v2 M) {g : Nat} (e1 : v1.ownBlock = some g) (e2 : v2.ownBlock = some g) : False := by
  obtain ⟨_, c1, k1⟩ := Su.row_blk h1.2.2 e1
  obtain ⟨_, c2, k2⟩ := Si.row_blk h2.2.2 e2
  rw [k1] at k2
  simp at k2
theorem put_isin {base : Nat} {w w' : World} {b : Nat} {n : Int} {v1 v2 : Value} {I I' : List (ByteArray × Unit)} {M : List (ByteArray × Int)} (h1 : Su.TabB base w b n v2 v1 I) (h2 : Si.TabB base w b n v1 v2 M) (hB : base ≤ w.heap.size) (h : Su.Changed base w b n v2 v1 I' w') :
    RosO base w' b n I' M ∧ Below base w w' := by
  obtain ⟨v', h3, hk⟩ := h
  refine ⟨⟨v', v2, h3, h2.1, h3.2.1, ?_⟩, hk.below hB fun k hk0 hs => ?_⟩
  · refine ⟨h2.2.2.1, ?_⟩
    rcases h2.2.2.2 with e | ⟨g, cap, cur, e, hg, hh, h5⟩
    · exact .inl e
    · refine .inr ⟨g, cap, cur, e, hg, hk.heap hh ?_, h5⟩
      rintro (rfl | e1)
      · exact h2.ne (by rw [e]; rfl)
      · exact rows_apart h1 h2 e1 (by rw [e]; rfl)
  · rcases hs with rfl | e1
    · have := h1.1; omega
    · have := (Su.row_blk h1.2.2 e1).1; omega
theorem put_home {base : Nat} {w w' : World} {b : Nat} {n : Int} {v1 v2 : Value} {I : List (ByteArray × Unit)} {M M' : List (ByteArray × Int)} (h1 : Su.TabB base w b n v2 v1 I) (h2 : Si.TabB base w b n v1 v2 M) (hB : base ≤ w.heap.size) (h : Si.Changed base w b n v1 v2 M' w') :
    RosO base w' b n I M' ∧ Below base w w' := by
  obtain ⟨v', h3, hk⟩ := h
  refine ⟨⟨v1, v', ⟨h1.1, h3.2.1, ?_⟩, h3⟩, hk.below hB fun k hk0 hs => ?_⟩
  · refine ⟨h1.2.2.1, ?_⟩
    rcases h1.2.2.2 with e | ⟨g, cap, cur, e, hg, hh, h5⟩
    · exact .inl e
    · refine .inr ⟨g, cap, cur, e, hg, hk.heap hh ?_, h5⟩
      rintro (rfl | e1)
      · exact h1.ne (by rw [e]; rfl)
      · exact rows_apart h1 h2 (by rw [e]; rfl) e1
  · rcases hs with rfl | e1
    · have := h2.1; omega
    · have := (Si.row_blk h2.2.2 e1).1; omega

set_option maxRecDepth 100000 in
theorem clone_any (w : World) (s : ByteArray) (hs : s.size ≤ 281474976710656) : Calls Try.prog 56 #[.string s] w fun e w' => e = .returned (.string s) ∧ Below w.heap.size w w' := by
  have HC := Lib.hid (Try.stringslite_Clone s w hs)
  go_enter Try.func56, Try.ntmps56
  go_wp2_with (go_at_call 68; refine HC.out.mono ?_; rintro e w' ⟨rfl, hb⟩)
  go_ret
  exact ⟨rfl, hb⟩

def listE (I : List (ByteArray × Unit)) (s : ByteArray) : Int := if Id.isinN (Id.sb s) = 0 then (if hasB I s = true then 6 else 0) else Id.isinN (Id.sb s)
theorem listE_bad {I : List (ByteArray × Unit)} {s : ByteArray} (h : Id.isinN (Id.sb s) ≠ 0) : listE I s = Id.isinN (Id.sb s) := if_neg h
theorem listE_two {I : List (ByteArray × Unit)} {s : ByteArray} (h : Id.isinN (Id.sb s) = 0) (h2 : hasB I s = true) : listE I s = 6 := by unfold listE; rw [if_pos h, if_pos h2]
theorem listE_ok {I : List (ByteArray × Unit)} {s : ByteArray} (h : Id.isinN (Id.sb s) = 0) (h2 : hasB I s = false) : listE I s = 0 := by unfold listE; rw [if_pos h, h2]; rfl
theorem isin_size {s : ByteArray} (h : Id.isinN (Id.sb s) = 0) : s.size = 12 := by
  by_cases h12 : s.size = 12
  · exact h12
  · rw [Id.isin_len (by rw [Id.sb_len]; exact h12)] at h; cases h
set_option maxRecDepth 100000 in
set_option maxHeartbeats 1000000 in
theorem list_any (base : Nat) (w : World) (b : Nat) (n : Int) (I : List (ByteArray × Unit)) (M : List (ByteArray × Int)) (s : ByteArray) (h : RosO base w b n I M) (ha : asc I) (hn : I.length ≤ 999) (hB : base ≤ w.heap.size) :
    Calls Try.prog 39 #[.pointer (some ⟨b, 0, none⟩), .string s] w fun e w' => e = .returned (.int .i64 (listE I s)) ∧ Below base w w' ∧ (listE I s = 0 → RosO base w' b n (putL I s ()) M) := by
  have HI := Lib.hid (Id.isin_all w s)
  by_cases h0 : Id.isinN (Id.sb s) = 0
  · have hC := fun W => clone_any W s (by have := isin_size h0; omega)
    have hP : ∀ W, Below w.heap.size w W → Calls Try.prog 55 #[.pointer (some ⟨b, 1, none⟩), .string s, .agg #[]] W fun e w' => e = .returned (.bool (!hasB I s)) ∧ RosO base w' b n (putL I s ()) M ∧ Below base w w' := fun W hW => by
      obtain ⟨v1, v2, h1, h2⟩ := h.below hW
      refine (Su.put_any base W b n v2 v1 I s () h1 ha (by omega) (by have := hW.size; omega)).mono ?_
      rintro e w' ⟨rfl, hc⟩
      have hx := put_isin h1 h2 (by have := hW.size; omega) hc
      exact ⟨rfl, hx.1, (hW.mono hB).trans hx.2⟩
    have HC := Lib.hid hC
    have HP := Lib.hid hP
    rw [h0] at HI
    have hE : hasB I s = true → listE I s = 6 := listE_two h0
    have hE2 : hasB I s = false → listE I s = 0 := listE_ok h0
    obtain ⟨q, hq⟩ : ∃ q, q = hasB I s := ⟨_, rfl⟩
    rw [← hq] at HP hE hE2
    obtain ⟨r, hr⟩ : ∃ r, r = listE I s := ⟨_, rfl⟩
    rw [← hr] at hE hE2 ⊢
    clear hC hP h0 hq hr h
    cases q
    · have HR := Lib.hid (hE2 rfl)
      clear hE hE2
      go_enter Try.func39, Try.ntmps39
      go_wp2_with (go_at_call 54; refine HI.out.mono ?_; rintro e w1 ⟨rfl, hb1⟩; have HB1 := Lib.hid hb1; clear hb1)
      go_region_held3 (fun _ => True) (exact trivial)
        (first
          | (go_at_call 56; (with_reducible refine (HC.out _).mono ?_); rintro e w2 ⟨rfl, hb2⟩; have HB2 : Hid (Below w.heap.size w w2) := HB1.out.drew.trans (hb2.mono HB1.out.size); clear hb2)
          | (go_at_call 55; (with_reducible refine (HP.out _ HB2.out).mono ?_); rintro e w3 ⟨rfl, hR3, hb3⟩; have HR3 := Lib.hid hR3; have HB3 := Lib.hid hb3; clear hR3 hb3))
      go_wp2
      go_ret
      exact ⟨ret_int HR.out.symm, HB3.out, fun _ => HR3.out⟩
    · have HR := Lib.hid (hE rfl)
      clear hE hE2
      go_enter Try.func39, Try.ntmps39
      go_wp2_with (go_at_call 54; refine HI.out.mono ?_; rintro e w1 ⟨rfl, hb1⟩; have HB1 := Lib.hid hb1; clear hb1)
      go_region_held3 (fun _ => True) (exact trivial)
        (first
          | (go_at_call 56; (with_reducible refine (HC.out _).mono ?_); rintro e w2 ⟨rfl, hb2⟩; have HB2 : Hid (Below w.heap.size w w2) := HB1.out.drew.trans (hb2.mono HB1.out.size); clear hb2)
          | (go_at_call 55; (with_reducible refine (HP.out _ HB2.out).mono ?_); rintro e w3 ⟨rfl, hR3, hb3⟩; have HR3 := Lib.hid hR3; have HB3 := Lib.hid hb3; clear hR3 hb3))
      go_wp2
      go_ret
      exact ⟨ret_int HR.out.symm, HB3.out, fun _ => HR3.out⟩
  · have HR := Lib.hid (listE_bad (I := I) h0)
    have hne : Id.isinN (Id.sb s) ≠ 0 := h0
    obtain ⟨r, hr⟩ : ∃ r, r = Id.isinN (Id.sb s) := ⟨_, rfl⟩
    rw [← hr] at HR HI hne h0
    have hb : (r != 0) = true := by simpa using hne
    clear hr h h0
    go_enter Try.func39, Try.ntmps39
    go_wp2_with (go_at_call 54; refine HI.out.mono ?_; rintro e w1 ⟨rfl, hb1⟩; have HB1 := Lib.hid hb1; clear hb1)
    go_ret
    rw [HR.out]
    exact ⟨rfl, HB1.out.mono hB, fun e => absurd e hne⟩

def admitE (n : Int) (M : List (ByteArray × Int)) (m : ByteArray × Int) : Int := if Id.memE (Id.sb m.1) = 0 then (if hasB M m.1 = true then 6 else if nodeB n m.2 = true then 0 else 5) else Id.memE (Id.sb m.1)
theorem mem_size {s : ByteArray} (h : Id.memE (Id.sb s) = 0) : s.size ≤ 8 := by
  by_cases h8 : s.size ≤ 8
  · exact h8
  · rw [Id.mem_not (fun h => by have := h.2.1; rw [Id.sb_len] at this; omega)] at h; cases h
theorem admitE_bad {n : Int} {M : List (ByteArray × Int)} {m : ByteArray × Int} (h : Id.memE (Id.sb m.1) ≠ 0) : admitE n M m = Id.memE (Id.sb m.1) := if_neg h
theorem admitE_two {n : Int} {M : List (ByteArray × Int)} {m : ByteArray × Int} (h : Id.memE (Id.sb m.1) = 0) (h2 : hasB M m.1 = true) : admitE n M m = 6 := by unfold admitE; rw [if_pos h, if_pos h2]
theorem admitE_ok {n : Int} {M : List (ByteArray × Int)} {m : ByteArray × Int} (h : Id.memE (Id.sb m.1) = 0) (h2 : hasB M m.1 = false) (h3 : nodeB n m.2 = true) : admitE n M m = 0 := by unfold admitE; rw [if_pos h, if_neg (by rw [h2]; decide), if_pos h3]
theorem admitE_home {n : Int} {M : List (ByteArray × Int)} {m : ByteArray × Int} (h : Id.memE (Id.sb m.1) = 0) (h2 : hasB M m.1 = false) (h3 : nodeB n m.2 = false) : admitE n M m = 5 := by unfold admitE; rw [if_pos h, if_neg (by rw [h2]; decide), if_neg (by rw [h3]; decide)]
theorem kept_mem {base : Nat} {w w' : World} {b : Nat} {n : Int} {u sv : Value} {rs rs' : List (ByteArray × Int)} (h : Si.TabB base w b n u sv rs) (hc : Si.Changed base w b n u sv rs' w') {k : Nat} {cur : Array Value} (hk : w.heap[k]? = some (.cells cur 64 (0, 0))) : w'.heap[k]? = some (.cells cur 64 (0, 0)) := by
  obtain ⟨v', _, hkk⟩ := hc
  refine hkk.heap hk ?_
  rintro (rfl | e)
  · have := h.2.1
    rw [hk] at this
    simp at this
  · obtain ⟨_, c2, k2⟩ := Si.row_blk h.2.2 e
    rw [hk] at k2
    simp at k2
theorem mem_cells {w : World} {k : Nat} {x y : Value} {t : TypeId} (h : w.heap[k]? = some (.cells #[x, y] t (0, 0))) : w.cell? ⟨k, 0, none⟩ = some x ∧ w.cell? ⟨k, 1, none⟩ = some y :=
  ⟨by rw [cell_of_row _ _ _ _ _ _ h]; rfl, by rw [cell_of_row _ _ _ _ _ _ h]; rfl⟩

set_option maxRecDepth 100000 in
set_option maxHeartbeats 2000000 in
theorem admit_any (base : Nat) (w : World) (b : Nat) (n : Int) (I : List (ByteArray × Unit)) (M : List (ByteArray × Int)) (m : ByteArray × Int) (h : RosO base w b n I M) (ha : asc M) (hn : M.length ≤ 999) (hB : base ≤ w.heap.size) :
    Calls Try.prog 40 #[.pointer (some ⟨b, 0, none⟩), .agg #[.string m.1, .int .i64 m.2]] w fun e w' => e = .returned (.int .i64 (admitE n M m)) ∧ Below base w w' ∧ (admitE n M m = 0 → RosO base w' b n I (putL M m.1 m.2)) := by
  have hB0 : Below w.heap.size w (w.alloc (.cells #[.string m.1, .int .i64 m.2] 64)) := (Below.refl _ _).alloc (Nat.le_refl _) _
  have hbx := block_new w (.cells #[.string m.1, .int .i64 m.2] 64)
  have HI := Lib.hid (Id.member_all (w.alloc (.cells #[.string m.1, .int .i64 m.2] 64)) m.1)
  by_cases h0 : Id.memE (Id.sb m.1) = 0
  · have hC := fun W => clone_any W m.1 (by have := mem_size h0; omega)
    have hP : ∀ W, Below (w.alloc (.cells #[.string m.1, .int .i64 m.2] 64)).heap.size (w.alloc (.cells #[.string m.1, .int .i64 m.2] 64)) W → Calls Try.prog 57 #[.pointer (some ⟨b, 2, none⟩), .string m.1, .int .i64 m.2] W fun e w' =>
        e = .returned (.bool (!hasB M m.1)) ∧ RosO base w' b n I (putL M m.1 m.2) ∧ Below base w w' ∧ w'.heap[w.heap.size]? = some (.cells #[.string m.1, .int .i64 m.2] 64 (0, 0)) := fun W hW => by
      have hWs := hW.size
      have hws := hB0.size
      have hbW : Below w.heap.size w W := hB0.trans (hW.mono hws)
      obtain ⟨v1, v2, h1, h2⟩ := h.below hbW
      refine (Si.put_any base W b n v1 v2 M m.1 m.2 h2 ha (by omega) (by omega)).mono ?_
      rintro e w' ⟨rfl, hc⟩
      have hx := put_home h1 h2 (by omega) hc
      exact ⟨rfl, hx.1, (hbW.mono hB).trans hx.2, kept_mem h2 hc (block_kept hbx hW)⟩
    have hN : ∀ W, RosO base W b n I (putL M m.1 m.2) → Calls Try.prog 37 #[.pointer (some ⟨b, 0, none⟩), .int .i64 m.2] W fun e w' => e = .returned (.bool (nodeB n m.2)) ∧ Below W.heap.size W w' := fun W hW =>
      isNode_any W _ n m.2 I _ (.inr ⟨b, rfl, hW.read⟩)
    have HC := Lib.hid hC
    have HP := Lib.hid hP
    have HN := Lib.hid hN
    have HBX := Lib.hid hbx
    have HB0 := Lib.hid hB0
    rw [h0] at HI
    have hE : hasB M m.1 = true → admitE n M m = 6 := admitE_two h0
    have hE2 : hasB M m.1 = false → nodeB n m.2 = true → admitE n M m = 0 := admitE_ok h0
    have hE3 : hasB M m.1 = false → nodeB n m.2 = false → admitE n M m = 5 := admitE_home h0
    obtain ⟨q, hq⟩ : ∃ q, q = hasB M m.1 := ⟨_, rfl⟩
    rw [← hq] at HP hE hE2 hE3
    obtain ⟨z, hz⟩ : ∃ z, z = nodeB n m.2 := ⟨_, rfl⟩
    rw [← hz] at HN hE2 hE3
    obtain ⟨r, hr⟩ : ∃ r, r = admitE n M m := ⟨_, rfl⟩
    rw [← hr] at hE hE2 hE3 ⊢
    obtain ⟨nm, home⟩ := m
    simp only at HI HC HP HN HBX HB0 ⊢
    clear hC hP hN h0 hq hz hr h hbx hB0
    obtain ⟨W0, hW0⟩ : ∃ W0, W0 = w.alloc (.cells #[.string nm, .int .i64 home] 64) := ⟨_, rfl⟩
    have c0 : (w.alloc (.cells #[.string nm, .int .i64 home] 64)).cell? ⟨w.heap.size, 0, none⟩ = some (.string nm) := (mem_cells HBX.out).1
    have HR0 : Hid (q = true → r = 6) := hE
    have HR1 : Hid (q = false → z = true → r = 0) := hE2
    have HR2 : Hid (q = false → z = false → r = 5) := hE3
    clear hE hE2 hE3
    go_enter Try.func40, Try.ntmps40
    go_wp2_with (go_at_call 53; refine HI.out.mono ?_; rintro e w1 ⟨rfl, hb1⟩; have HB1 := Lib.hid hb1; clear hb1)
    have b1 := block_kept HBX.out HB1.out
    have C1 := Lib.hid (mem_cells b1)
    obtain ⟨c1, c2⟩ := C1.out
    have C1d : Hid (w1.drew.cell? ⟨w.heap.size, 0, none⟩ = some (.string nm) ∧ w1.drew.cell? ⟨w.heap.size, 1, none⟩ = some (.int .i64 home)) := C1
    have l1 : w.heap.size < w1.heap.size := (Array.getElem?_eq_some_iff.1 b1).1
    clear b1
    cases q
    · cases z
      · have HR := Lib.hid (HR2.out rfl rfl)
        clear HR0 HR1 HR2
        go_region_held3 (fun w' => w'.cell? ⟨w.heap.size, 0, none⟩ = some (.string nm) ∧ w'.cell? ⟨w.heap.size, 1, none⟩ = some (.int .i64 home)) (first | (with_reducible exact C1d.out) | (with_reducible exact C2.out) | (with_reducible exact C3.out))
          (first
            | (go_at_call 56; (with_reducible refine (HC.out _).mono ?_); rintro e w2 ⟨rfl, hb2⟩; have HB2 := Lib.hid (HB1.out.drew.trans (hb2.mono HB1.out.size)); have C2 := Lib.hid (mem_cells (block_kept HBX.out HB2.out)); clear hb2)
            | (go_at_call 57; (with_reducible refine (HP.out _ HB2.out).mono ?_); rintro e w3 ⟨rfl, hR3, hb3, hx3⟩; have HR3 := Lib.hid hR3; have HB3 := Lib.hid hb3; have C3 := Lib.hid (mem_cells hx3); clear hR3 hb3 hx3))
        obtain ⟨c5, c6⟩ := C3.out
        go_wp2_with (go_at_call 37; refine (HN.out _ HR3.out).mono ?_; rintro e w4 ⟨rfl, hb4⟩; have HB4 := Lib.hid hb4; clear hb4)
        go_ret
        rw [HR.out]
        exact ⟨rfl, HB3.out.trans (HB4.out.mono (by have := HB3.out.size; omega)), fun e => by cases e⟩
      · have HR := Lib.hid (HR1.out rfl rfl)
        clear HR0 HR1 HR2
        go_region_held3 (fun w' => w'.cell? ⟨w.heap.size, 0, none⟩ = some (.string nm) ∧ w'.cell? ⟨w.heap.size, 1, none⟩ = some (.int .i64 home)) (first | (with_reducible exact C1d.out) | (with_reducible exact C2.out) | (with_reducible exact C3.out))
          (first
            | (go_at_call 56; (with_reducible refine (HC.out _).mono ?_); rintro e w2 ⟨rfl, hb2⟩; have HB2 := Lib.hid (HB1.out.drew.trans (hb2.mono HB1.out.size)); have C2 := Lib.hid (mem_cells (block_kept HBX.out HB2.out)); clear hb2)
            | (go_at_call 57; (with_reducible refine (HP.out _ HB2.out).mono ?_); rintro e w3 ⟨rfl, hR3, hb3, hx3⟩; have HR3 := Lib.hid hR3; have HB3 := Lib.hid hb3; have C3 := Lib.hid (mem_cells hx3); clear hR3 hb3 hx3))
        obtain ⟨c5, c6⟩ := C3.out
        go_wp2_with (go_at_call 37; refine (HN.out _ HR3.out).mono ?_; rintro e w4 ⟨rfl, hb4⟩; have HB4 := Lib.hid hb4; clear hb4)
        go_ret
        rw [HR.out]
        exact ⟨rfl, HB3.out.trans (HB4.out.mono (by have := HB3.out.size; omega)), fun _ => HR3.out.below HB4.out⟩
    · have HR := Lib.hid (HR0.out rfl)
      clear HR0 HR1 HR2
      go_region_held3 (fun w' => w'.cell? ⟨w.heap.size, 0, none⟩ = some (.string nm) ∧ w'.cell? ⟨w.heap.size, 1, none⟩ = some (.int .i64 home)) (first | (with_reducible exact C1d.out) | (with_reducible exact C2.out) | (with_reducible exact C3.out))
        (first
          | (go_at_call 56; (with_reducible refine (HC.out _).mono ?_); rintro e w2 ⟨rfl, hb2⟩; have HB2 := Lib.hid (HB1.out.drew.trans (hb2.mono HB1.out.size)); have C2 := Lib.hid (mem_cells (block_kept HBX.out HB2.out)); clear hb2)
          | (go_at_call 57; (with_reducible refine (HP.out _ HB2.out).mono ?_); rintro e w3 ⟨rfl, hR3, hb3, hx3⟩; have HR3 := Lib.hid hR3; have HB3 := Lib.hid hb3; have C3 := Lib.hid (mem_cells hx3); clear hR3 hb3 hx3))
      go_wp2
      go_ret
      rw [HR.out]
      exact ⟨rfl, HB3.out, fun e => by cases e⟩
  · have HR := Lib.hid (admitE_bad (n := n) (M := M) h0)
    have hne : Id.memE (Id.sb m.1) ≠ 0 := h0
    obtain ⟨r, hr⟩ : ∃ r, r = Id.memE (Id.sb m.1) := ⟨_, rfl⟩
    rw [← hr] at HR HI hne h0
    have hb : (r != 0) = true := by simpa using hne
    have HB0 := Lib.hid hB0
    have c0 : (w.alloc (.cells #[.string m.1, .int .i64 m.2] 64)).cell? ⟨w.heap.size, 0, none⟩ = some (.string m.1) := (mem_cells hbx).1
    clear hr h h0 hbx hB0
    go_enter Try.func40, Try.ntmps40
    go_wp2_with (go_at_call 53; refine HI.out.mono ?_; rintro e w1 ⟨rfl, hb1⟩; have HB1 := Lib.hid hb1; clear hb1)
    go_ret
    rw [HR.out]
    exact ⟨rfl, (HB0.out.trans (HB1.out.mono HB0.out.size)).mono hB, fun e => absurd e hne⟩
end Go.Proofs.Ytkoihpfgleboiaa.Ro
