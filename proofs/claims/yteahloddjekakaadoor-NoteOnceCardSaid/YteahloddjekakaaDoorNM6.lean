/-
  The contract of Sorted. Conditions: at most a thousand rows.
-/
import Derived.Test.YteahloddjekakaaDoorNM3
import Derived.BigQuiet
import Derived.Test.YteahloddjekakaaDoorIdA
namespace Go.Proofs.YteahloddjekakaaDoor.Nt
open Go.RowKit Td

set_option maxRecDepth 100000 in
set_option maxHeartbeats 4000000 in
theorem sortedP (w : World) (A : Option Addr) (n c : Nat) (l : List Rw) (hl : Hid (RR w A l)) (hn : Hid (n = l.length)) (hm : n ≤ 1000) {r : Bool} (hr : Hid (r = srtB l)) :
    Calls Tryd.prog 15 #[.slice A n c] w fun e w' => e = .returned (.bool r) ∧ Below w.heap.size w w' := by
  go_enter Tryd.func15, Tryd.ntmps15
  go_wp2
  go_loopg [3] n (fun (gh : Nat) si wx => ∃ i : Nat, gh = n + 1 - i ∧ i ≤ n + 1 ∧ 1 ≤ i ∧ si = .int .i64 (i : Int) ∧ Hid (Below w.heap.size w wx) ∧ Hid (r = srtB (l.drop (i - 1))))
  case atStart => exact ⟨1, by omega, by omega, by omega, rfl, Below.refl _ _, hr⟩
  case round =>
    obtain ⟨i, rfl, hi, hi1, rfl, HB, HS⟩ := hrel
    by_cases hlt : i < n
    · have t1 : (i : Int) < (n : Int) := by omega
      have t2 : (0 : Int) ≤ (i : Int) := by omega
      have t3 : (0 : Int) ≤ (i : Int) - 1 := by omega
      have t4 : (i : Int) - 1 < (n : Int) := by omega
      obtain ⟨y, hy⟩ : ∃ y, l[i]? = some y := ⟨_, List.getElem?_eq_getElem (by rw [← hn.out]; exact hlt)⟩
      obtain ⟨x, hx⟩ : ∃ x, l[i - 1]? = some x := ⟨_, List.getElem?_eq_getElem (by rw [← hn.out]; omega)⟩
      have hstep := srt_step hx (show l[i - 1 + 1]? = some y by rw [show i - 1 + 1 = i by omega]; exact hy)
      rw [show i - 1 + 1 = i by omega] at hstep
      obtain ⟨g, o, rfl, hg, cy, _⟩ := (hl.out.below HB.out).at hy
      obtain ⟨g', o', e', _, cx, _⟩ := (hl.out.below HB.out).at hx
      cases e'
      obtain ⟨j, hj⟩ : ∃ j, j = i - 1 := ⟨_, rfl⟩
      rw [← hj] at cx
      have hji : (i : Int) - 1 = (j : Int) := by omega
      have hjn : (j : Int) < (n : Int) := by omega
      have hj0 : (0 : Int) ≤ (j : Int) := by omega
      have HX : Hid (r = (ltS x.1 y.1 && srtB (l.drop i))) := by show _ = _; rw [HS.out, hstep]
      clear hstep hx hy hj t3 t4 HS
      cases hq : ltS x.1 y.1
      · obtain rfl : r = false := by rw [HX.out, hq]; rfl
        clear HX
        cases q2 : Op.bytesLess y.1.toList x.1.toList
        · have q3 : (y.1.toList == x.1.toList) = true := by rw [beqS]; exact decide_eq_true (bytes_inj (bl_tri _ _ q2 hq))
          clear hq
          go_wp2
          go_quiet (fail)
          go_wp2
          go_ret
          exact ⟨rfl, (Id.below_drewN HB.out _)⟩
        · clear hq
          go_wp2
          go_quiet (fail)
          go_wp2
          go_ret
          exact ⟨rfl, (Id.below_drewN HB.out _)⟩
      · have HX' : Hid (r = srtB (l.drop i)) := by show _ = _; rw [HX.out, hq]; rfl
        clear HX
        have q2 : Op.bytesLess y.1.toList x.1.toList = false := by
          cases h : Op.bytesLess y.1.toList x.1.toList
          · rfl
          · have := bl_tr _ _ _ hq h
            rw [bl_irr] at this; cases this
        have q3 : (y.1.toList == x.1.toList) = false := by
          rw [beqS]; refine decide_eq_false fun e => ?_
          have h : Op.bytesLess x.1.toList y.1.toList = true := hq
          rw [e, bl_irr] at h; cases h
        clear hq
        go_wp2
        go_quiet (fail)
        go_wp2
        go_roundg (n + 1 - (i + 1))
        case measure => omega
        case rel => exact ⟨i + 1, rfl, by omega, by omega, by go_num, (Id.below_drewN HB.out _), HX'⟩
    · have hq : srtB (l.drop (i - 1)) = true := srt_end (by rw [← hn.out]; omega)
      obtain rfl : r = true := by rw [HS.out, hq]
      clear hq
      go_wp2
      go_ret
      exact ⟨rfl, HB.out⟩
end Go.Proofs.YteahloddjekakaaDoor.Nt

namespace Go.Proofs.YteahloddjekakaaDoor.Nt
open Go.RowKit Td

/-- The first row's place whose number is no price; -1, if there is none. -/
def dearI : List Rw → Nat → Int
  | [], _ => -1
  | m :: r, i => if isP m.2 = true then dearI r (i + 1) else (i : Int)
def dearB (l : List Rw) : Bool := l.any fun m => !(isP m.2)
theorem dearI_step {l : List Rw} {i : Nat} {m : Rw} (h : l[i]? = some m) : dearI (l.drop i) i = if isP m.2 = true then dearI (l.drop (i + 1)) (i + 1) else (i : Int) := by
  obtain ⟨k1, rfl⟩ := List.getElem?_eq_some_iff.1 h
  rw [List.drop_eq_getElem_cons k1]; rfl
theorem dearI_end {l : List Rw} {i : Nat} (h : l.length ≤ i) : dearI (l.drop i) i = -1 := by
  rw [List.drop_eq_nil_of_le h]; rfl
theorem dear_bool (l : List Rw) (i : Nat) : dearB l = decide (0 ≤ dearI l i) := by
  induction l generalizing i with
  | nil => rfl
  | cons m r ih =>
    unfold dearB dearI
    rw [List.any_cons]
    cases h : isP m.2
    · simp
    · have := ih (i + 1)
      unfold dearB at this
      simp [this]
theorem dearI_rng (l : List Rw) (i : Nat) : -1 ≤ dearI l i ∧ dearI l i ≤ i + l.length := by
  induction l generalizing i with
  | nil => simp [dearI]
  | cons m r ih =>
    have := ih (i + 1)
    unfold dearI
    split
    · simp only [List.length_cons]; omega
    · simp only [List.length_cons]; omega

set_option maxRecDepth 100000 in
theorem dear_any (w : World) (m : Rw) {r : Bool} (hr : Hid (r = isP m.2)) : Calls Tryd.prog 60 #[.agg #[.string m.1, .int .i64 m.2]] w fun e w' => e = .returned (.bool (!r)) ∧ Below w.heap.size w w' := by
  have HP := Lib.hid fun W => isPrice_any W m.2 hr
  have HB : Hid (Below w.heap.size w (w.alloc (.cells #[.string m.1, .int .i64 m.2] 58))) := (Below.refl _ _).alloc (Nat.le_refl _) _
  go_enter Tryd.func60, Tryd.ntmps60
  go_wp2_with (go_at_call 59; (with_reducible refine (HP.out _).mono ?_); rintro e w1 ⟨rfl, rfl⟩)
  go_ret
  exact ⟨rfl, HB.out⟩
set_option maxRecDepth 100000 in
set_option maxHeartbeats 2000000 in
theorem index_any (w : World) (A : Option Addr) (n c : Nat) (l : List Rw) (hl : Hid (RR w A l)) (hn : Hid (n = l.length)) (hm : n ≤ 1000) {r : Int} (hr : Hid (r = dearI l 0)) :
    Calls Tryd.prog 87 #[.slice A n c, .func (.func 60) #[] #[]] w fun e w' => e = .returned (.int .i64 r) ∧ Below w.heap.size w w' := by
  go_enter Tryd.func87, Tryd.ntmps87
  go_wp2
  go_loopg [8] n (fun (gh : Nat) si wx => ∃ i : Nat, gh = n - i ∧ i ≤ n ∧ si = .int .i64 (i : Int) ∧ Hid (Below w.heap.size w wx) ∧ Hid (r = dearI (l.drop i) i))
  case atStart => exact ⟨0, by omega, by omega, rfl, Below.refl _ _, by show _ = _; rw [hr.out, List.drop_zero]⟩
  case round =>
    obtain ⟨i, rfl, hi, rfl, HB, HS⟩ := hrel
    by_cases hlt : i < n
    · have t1 : (i : Int) < (n : Int) := by omega
      have t2 : (0 : Int) ≤ (i : Int) := by omega
      obtain ⟨m, hx⟩ : ∃ m, l[i]? = some m := ⟨_, List.getElem?_eq_getElem (by rw [← hn.out]; exact hlt)⟩
      have hstep := dearI_step hx
      obtain ⟨g, o, rfl, hg, cx, dx⟩ := (hl.out.below HB.out).at hx
      obtain ⟨b, hb⟩ : ∃ b, b = isP m.2 := ⟨_, rfl⟩
      rw [← hb] at hstep
      have HX : Hid (r = if b = true then dearI (l.drop (i + 1)) (i + 1) else (i : Int)) := by show _ = _; rw [HS.out, hstep]
      have HD := Lib.hid fun W => dear_any W m (Lib.hid hb)
      clear hstep hx HS hb
      cases b
      · obtain rfl : r = (i : Int) := HX.out
        clear HX
        go_wp2_with (go_at_call 60; (with_reducible refine (HD.out _).mono ?_); rintro e w1 ⟨rfl, hb⟩; have HB1 := Lib.hid (HB.out.trans (hb.mono HB.out.size)); clear hb)
        go_ret
        exact ⟨rfl, HB1.out⟩
      · have HX' : Hid (r = dearI (l.drop (i + 1)) (i + 1)) := HX
        clear HX
        go_wp2_with (go_at_call 60; (with_reducible refine (HD.out _).mono ?_); rintro e w1 ⟨rfl, hb⟩; have HB1 := Lib.hid (HB.out.trans (hb.mono HB.out.size)); clear hb)
        go_roundg (n - (i + 1))
        case measure => omega
        case rel => exact ⟨i + 1, rfl, by omega, by go_num, HB1.out, HX'⟩
    · have hq := dearI_end (l := l) (i := i) (by rw [← hn.out]; omega)
      obtain rfl : r = -1 := by rw [HS.out, hq]
      clear hq
      go_wp2
      go_ret
      exact ⟨rfl, HB.out⟩
set_option maxRecDepth 100000 in
theorem contains_any (w : World) (A : Option Addr) (n c : Nat) (l : List Rw) (hl : Hid (RR w A l)) (hn : Hid (n = l.length)) (hm : n ≤ 1000) {r : Bool} (hr : Hid (r = dearB l)) :
    Calls Tryd.prog 61 #[.slice A n c, .func (.func 60) #[] #[]] w fun e w' => e = .returned (.bool r) ∧ Below w.heap.size w w' := by
  obtain ⟨z, hz⟩ : ∃ z, z = dearI l 0 := ⟨_, rfl⟩
  have HI := Lib.hid (index_any w A n c l hl hn hm (Lib.hid hz))
  have hd := dear_bool l 0
  rw [← hz, ← hr.out] at hd
  have hd2 : decide (0 ≤ z) = r := hd.symm
  clear hr hz hl hn hd
  go_enter Tryd.func61, Tryd.ntmps61
  go_wp2_with (go_at_call 87; (with_reducible refine HI.out.mono ?_); rintro e w1 ⟨rfl, hb⟩; have HB1 := Lib.hid hb; clear hb)
  go_ret
  exact ⟨by rw [← hd2]; rfl, HB1.out⟩

/-- The first name's error. -/
def isE : List Rw → Int
  | [] => 0
  | m :: r => if Id.isinN (Id.sb m.1) = 0 then isE r else Id.isinN (Id.sb m.1)
theorem isE_step {l : List Rw} {i : Nat} {m : Rw} (h : l[i]? = some m) : isE (l.drop i) = if Id.isinN (Id.sb m.1) = 0 then isE (l.drop (i + 1)) else Id.isinN (Id.sb m.1) := by
  obtain ⟨k1, rfl⟩ := List.getElem?_eq_some_iff.1 h
  rw [List.drop_eq_getElem_cons k1]; rfl
/-- What is wrong with the rows of a note of the kind k. -/
def rowsE (k : Int) (l : List Rw) : Int := if 32 < l.length then 2 else if isE l ≠ 0 then isE l else if srtB l = false then 8 else unl ((k != 10) || !dearB l) 2
def SmR (l : List Rw) : Prop := ∀ m ∈ l, m.1.size ≤ 100000

set_option maxRecDepth 100000 in
set_option maxHeartbeats 4000000 in
theorem checkRows_any (w : World) (x : Nt) (A : Option Addr) (n c : Nat) (l : List Rw) (hl : Hid (RR w A l)) (hn : Hid (n = l.length)) (hm : n ≤ 1000) (hs : Hid (SmR l)) {r : Int} (hr : Hid (r = rowsE x.k l)) :
    Calls Tryd.prog 32 #[.agg #[.int .i64 x.k, .int .i64 x.p, .int .i64 x.d, .int .i64 x.t.n, .string x.t.b, .string x.t.s, .string x.t.i, .int .i64 x.t.q, .int .i64 x.t.p, .string x.n, .int .i64 x.a, .slice A n c, .int .i64 x.hi, .int .u64 x.lo]] w fun e w' => e = .returned (.int .i64 r) ∧ Below w.heap.size w w' := by
  have E0 := block_new w (.cells #[.int .i64 x.k, .int .i64 x.p, .int .i64 x.d, .int .i64 x.t.n, .string x.t.b, .string x.t.s, .string x.t.i, .int .i64 x.t.q, .int .i64 x.t.p, .string x.n, .int .i64 x.a, .slice A n c, .int .i64 x.hi, .int .u64 x.lo] 33)
  have HB0 : Hid (Below w.heap.size w (w.alloc (.cells #[.int .i64 x.k, .int .i64 x.p, .int .i64 x.d, .int .i64 x.t.n, .string x.t.b, .string x.t.s, .string x.t.i, .int .i64 x.t.q, .int .i64 x.t.p, .string x.n, .int .i64 x.a, .slice A n c, .int .i64 x.hi, .int .u64 x.lo] 33))) := (Below.refl _ _).alloc (Nat.le_refl _) _
  by_cases h32 : 32 < n
  · obtain rfl : r = 2 := by rw [hr.out]; unfold rowsE; rw [if_pos (by rw [← hn.out]; exact h32)]
    have x11 := (blk14 E0).2.2.2.2.2.1
    have t0 : (32 : Int) < (n : Int) := by omega
    clear E0 hr hn hl hs
    go_enter Tryd.func32, Tryd.ntmps32
    go_wp2
    go_ret
    exact ⟨rfl, HB0.out⟩
  · have HR : Hid (r = if isE l ≠ 0 then isE l else if srtB l = false then 8 else unl ((x.k != 10) || !dearB l) 2) := by show _ = _; rw [hr.out]; unfold rowsE; rw [if_neg (by rw [← hn.out]; exact h32)]
    have t0 : ¬ (32 : Int) < (n : Int) := by omega
    have HL := Lib.hid (hl.out.below HB0.out)
    clear hr hl
    go_enter Tryd.func32, Tryd.ntmps32
    go_upto_region 1 with fail
    generalize w.alloc _ = W0 at E0 HB0 HL ⊢
    have HE0 := Lib.hid E0
    have x11 := (blk14 E0).2.2.2.2.2.1
    clear E0
    go_wp2
    go_loopg [14] n (fun (gh : Nat) si wx => ∃ i : Nat, gh = n - i ∧ i ≤ n ∧ si = .int .i64 (i : Int) ∧ Hid (Below W0.heap.size W0 wx) ∧ Hid (isE l = isE (l.drop i)))
    case atStart => exact ⟨0, by omega, by omega, rfl, Below.refl _ _, by show _ = _; rw [List.drop_zero]⟩
    case round =>
      obtain ⟨i, rfl, hi, rfl, HB, HS⟩ := hrel
      by_cases hlt : i < n
      · have t1 : (i : Int) < (n : Int) := by omega
        have t2 : (0 : Int) ≤ (i : Int) := by omega
        obtain ⟨m, hx⟩ : ∃ m, l[i]? = some m := ⟨_, List.getElem?_eq_getElem (by rw [← hn.out]; exact hlt)⟩
        have hstep := isE_step hx
        have hmem : m ∈ l := List.mem_of_getElem? hx
        have hsz := hs.out m hmem
        obtain ⟨g, o, rfl, hg, cx, dx⟩ := (HL.out.below HB.out).at hx
        obtain ⟨z, hz⟩ : ∃ z, z = Id.isinN (Id.sb m.1) := ⟨_, rfl⟩
        rw [← hz] at hstep
        have HI : Hid (∀ W, Calls Tryd.prog 57 #[.string m.1] W fun e w' => e = .returned (.int .i64 z) ∧ Below W.heap.size W w') := fun W => by rw [hz]; exact Id.isin_any W m.1 hsz
        have HX : Hid (isE l = if z = 0 then isE (l.drop (i + 1)) else z) := by show _ = _; rw [HS.out, hstep]
        have E1 := block_new wr (.cells #[.string m.1, .int .i64 m.2] 58)
        have y0 : (wr.alloc (.cells #[.string m.1, .int .i64 m.2] 58)).cell? ⟨wr.heap.size, 0, none⟩ = some (.string m.1) := by rw [cell_of_row _ _ 0 _ _ _ E1]; rfl
        have HB1 : Hid (Below W0.heap.size W0 (wr.alloc (.cells #[.string m.1, .int .i64 m.2] 58))) := HB.out.alloc HB.out.size _
        clear hstep hx HS hz hmem hsz E1
        by_cases h0 : z = 0
        · have HX' : Hid (isE l = isE (l.drop (i + 1))) := by show _ = _; rw [HX.out, if_pos h0]
          subst h0
          clear HX
          go_wp2_with (go_at_call 57; (with_reducible refine (HI.out _).mono ?_); rintro e w1 ⟨rfl, hb⟩; have HB2 := Lib.hid (HB1.out.trans (hb.mono HB1.out.size)); clear hb)
          go_roundg (n - (i + 1))
          case measure => omega
          case rel => exact ⟨i + 1, rfl, by omega, by go_num, HB2.out, HX'⟩
        · have hz2 : (z != 0) = true := by simpa using h0
          obtain rfl : r = z := by rw [HR.out, HX.out, if_neg h0, if_pos h0]
          clear HX HR
          go_wp2_with (go_at_call 57; (with_reducible refine (HI.out _).mono ?_); rintro e w1 ⟨rfl, hb⟩; have HB2 := Lib.hid (HB1.out.trans (hb.mono HB1.out.size)); clear hb)
          go_ret
          exact ⟨rfl, HB0.out.trans (HB2.out.mono HB0.out.size)⟩
      · have hq : isE l = 0 := by rw [HS.out, List.drop_eq_nil_of_le (by rw [← hn.out]; omega)]; rfl
        have HR2 : Hid (r = if srtB l = false then 8 else unl ((x.k != 10) || !dearB l) 2) := by show _ = _; rw [HR.out, hq]; rfl
        have X := blk14 (block_kept HE0.out HB.out)
        have z0 := X.1.1
        have z11 := X.2.2.2.2.2.1
        obtain ⟨b, hb⟩ : ∃ b, b = srtB l := ⟨_, rfl⟩
        have HSo := Lib.hid fun (W : World) (hW : Below wr.heap.size wr W) => sortedP W A n c l ((HL.out.below HB.out).below hW) hn hm (Lib.hid hb)
        rw [← hb] at HR2
        clear hq HR hb X x11
        cases b
        · obtain rfl : r = 8 := HR2.out
          go_wp2_with (go_at_call 15; (with_reducible refine (HSo.out _ (Below.refl _ _)).mono ?_); rintro e w1 ⟨rfl, hb⟩; have HB2 := Lib.hid (HB.out.trans (hb.mono HB.out.size)); clear hb)
          go_ret
          exact ⟨rfl, HB0.out.trans (HB2.out.mono HB0.out.size)⟩
        · have HR3 : Hid (r = unl ((x.k != 10) || !dearB l) 2) := HR2
          obtain ⟨d, hd⟩ : ∃ d, d = dearB l := ⟨_, rfl⟩
          have HCo := Lib.hid fun (W : World) (hW : Below wr.heap.size wr W) => contains_any W A n c l ((HL.out.below HB.out).below hW) hn hm (Lib.hid hd)
          rw [← hd] at HR3
          obtain ⟨q, hq⟩ : ∃ q, (x.k != 10) = q := ⟨_, rfl⟩
          rw [hq] at HR3
          have HU := Lib.hid fun W => unless_any W (q || !d) 2 HR3
          clear hd HR2
          cases q
          · have HU1 : Hid (∀ W, Calls Tryd.prog 28 #[.bool (!d), .int .i64 2] W fun e w' => e = .returned (.int .i64 r) ∧ W = w') := HU
            clear HU HR3
            go_wp2_with (first
              | (go_at_call 15; (with_reducible refine (HSo.out _ (Below.refl _ _)).mono ?_); rintro e w1 ⟨rfl, hb⟩; have HB2 := Lib.hid (HB.out.trans (hb.mono HB.out.size)); have hbk := hb; have y0 := (hb.cell (World.block_lt_of_cell? _ _ z0)).trans z0; have y11 := (hb.cell (World.block_lt_of_cell? _ _ z11)).trans z11; have HW1 := Lib.hid hb; clear hb hbk)
              | (go_at_call 61; (with_reducible refine (HCo.out _ HW1.out).mono ?_); rintro e w2 ⟨rfl, hb⟩; have HB3 := Lib.hid (HB2.out.trans (hb.mono HB2.out.size)); clear hb)
              | (go_at_call 28; (with_reducible refine (HU1.out _).mono ?_); rintro e w3 ⟨rfl, rfl⟩))
            go_ret
            exact ⟨rfl, HB0.out.trans (HB3.out.mono HB0.out.size)⟩
          · have HU2 : Hid (∀ W, Calls Tryd.prog 28 #[.bool true, .int .i64 2] W fun e w' => e = .returned (.int .i64 r) ∧ W = w') := HU
            clear HU HR3
            go_wp2_with (first
              | (go_at_call 15; (with_reducible refine (HSo.out _ (Below.refl _ _)).mono ?_); rintro e w1 ⟨rfl, hb⟩; have HB2 := Lib.hid (HB.out.trans (hb.mono HB.out.size)); have y0 := (hb.cell (World.block_lt_of_cell? _ _ z0)).trans z0; clear hb)
              | (go_at_call 28; (with_reducible refine (HU2.out _).mono ?_); rintro e w3 ⟨rfl, rfl⟩))
            go_ret
            exact ⟨rfl, HB0.out.trans (HB2.out.mono HB0.out.size)⟩
end Go.Proofs.YteahloddjekakaaDoor.Nt
