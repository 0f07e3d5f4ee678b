/-
  The contracts of Fill, Either, Pour and of the reference's Same, at int. Conditions: the boxes are open; of Either and Pour one is nil.
-/
import Derived.Test.YtlhdhgagglpphaaBTakeI
import Derived.Lib.SmallJoins
import Derived.Lib.OwnKind
namespace Go.Proofs.Ytlhdhgagglpphaa.Bx.I
open Go.RowKit Go.Conc

set_option maxRecDepth 100000 in
theorem fill_nil (w : World) (g n cp : Nat) (x : Int) (hn : 0 < n) (hx : w.cell? ⟨g, 0, none⟩ = some (.int .i64 x)) : Calls Try.prog 19 #[.pointer none, .slice (some ⟨g, 0, none⟩) n cp] w fun e w' => e = .returned (.int .i64 0) ∧ Below w.heap.size w w' := by
  have t0 : (0 : Int) < (n : Int) := by omega
  go_enter Try.func19, Try.ntmps19
  go_wp2
  refine wp_loop_rounds 1 ?_
  rw [rounds_succ]
  go_wp2_with (go_at_call 12; refine (put_nil _ x).mono ?_; rintro e w1 ⟨rfl, hb⟩)
  go_ret
  exact ⟨rfl, hb⟩

set_option maxRecDepth 100000 in
set_option maxHeartbeats 1000000 in
theorem fill_any (n0 : Nat) (w : World) (b c cap : Nat) (l : List V) (h : BoxR n0 w b c cap l) (hl : l.length ≤ cap) (_hcap : cap ≤ 5000) (g cp : Nat) (xs : List V) (hgc : g ≠ c) (hg : g < w.heap.size) (hxs : xs.length ≤ 5000)
    (hx : ∀ i x, xs[i]? = some x → w.cell? ⟨g, i, none⟩ = some (ev x)) :
    Calls Try.prog 19 #[.pointer (some ⟨b, 0, none⟩), .slice (some ⟨g, 0, none⟩) xs.length cp] w fun e w' =>
      e = .returned (.int .i64 ((min xs.length (cap - l.length) : Nat) : Int)) ∧ BoxR n0 w' b c cap (l ++ xs.take (min xs.length (cap - l.length))) ∧ w.grownBy w' (some c) := by
  have HX := Lib.hid hx
  clear hx
  have h0 : Hid (BoxR n0 w b c cap (l ++ xs.take 0)) := by
    show BoxR n0 w b c cap (l ++ xs.take 0)
    simpa using h
  clear h
  go_enter Try.func19, Try.ntmps19
  go_wp2
  go_loopg [9] xs.length (fun (gh : Nat) s9 wx => ∃ i : Nat, gh = xs.length - i ∧ i ≤ xs.length ∧ i ≤ cap - l.length ∧ s9 = .int .i64 (i : Int) ∧ Hid (BoxR n0 wx b c cap (l ++ xs.take i)) ∧ w.grownBy wx (some c))
  case atStart => exact ⟨0, rfl, Nat.zero_le _, Nat.zero_le _, rfl, h0, grownBy_refl _ _⟩
  case round =>
    clear h0
    obtain ⟨i, rfl, hi, hic, rfl, hbx, hgr⟩ := hrel
    by_cases hlt : i < xs.length
    · have t1 : (i : Int) < (xs.length : Int) := by omega
      have t2 : (0 : Int) ≤ (i : Int) := by omega
      have hget : xs[i]? = some xs[i] := List.getElem?_eq_getElem hlt
      obtain ⟨x, hxd⟩ : ∃ x, x = xs[i] := ⟨_, rfl⟩
      rw [← hxd] at hget
      have c1 : wr.cell? ⟨g, i, none⟩ = some (.int .i64 x) := by
        have h1 := HX.out i x hget
        have h2 := hgr.block g hg (fun e => hgc (Option.some.inj e))
        simp only [World.cell?, h2] at h1 ⊢
        exact h1
      have htk : Hid (xs.take (i + 1) = xs.take i ++ [x]) := by
        show _ = _
        rw [List.take_succ_eq_append_getElem hlt, hxd]
      have HG := Lib.hid hgr
      clear hgr hxd
      by_cases hr : i < cap - l.length
      · have hlen : (l ++ xs.take i).length < cap := by rw [List.length_append, List.length_take]; omega
        clear hget
        go_wp2_with (go_at_call 12; refine (put_room n0 _ b c cap _ x hbx.out hlen).mono ?_; rintro e w1 ⟨rfl, hb1, hg1⟩)
        go_roundg (xs.length - (i + 1))
        case measure => omega
        case rel =>
          refine ⟨i + 1, rfl, hlt, by omega, by go_num, ?_, grownBy_trans HG.out hg1⟩
          show BoxR n0 _ b c cap (l ++ xs.take (i + 1))
          rw [htk.out, ← List.append_assoc]
          exact hb1
      · have hie : Hid (i = cap - l.length) := by show i = cap - l.length; omega
        have hlen : cap ≤ (l ++ xs.take i).length := by rw [List.length_append, List.length_take]; omega
        clear hget
        go_wp2_with (go_at_call 12; refine (put_full n0 _ b c cap _ x hbx.out hlen).mono ?_; rintro e w1 ⟨rfl, hb1, hg1⟩)
        go_ret
        have e1 : min xs.length (cap - l.length) = i := by have := hie.out; omega
        rw [e1]
        exact ⟨rfl, hb1, grownBy_trans HG.out (grownBy_of_below _ hg1)⟩
    · have hil : i = xs.length := by omega
      subst hil
      have t1 : decide ((xs.length : Int) < (xs.length : Int)) = false := by simp
      have HG := Lib.hid hgr
      clear hgr
      go_wp2
      go_ret
      have e1 : min xs.length (cap - l.length) = xs.length := by omega
      rw [e1]
      exact ⟨rfl, hbx.out, HG.out⟩

theorem ptr_ne (a : Addr) (W : World) : (binOp .eql 32 (.pointer none) (.pointer (some a))).run Try.prog W = .ok (.bool false) W := by
  have h : ∀ d : Nat, (Op.equalIn (d + 1) 32 (.pointer none) (.pointer (some a))).run Try.prog W = .ok false W := fun d => by
    simp [Op.equalIn, run_underlying Try.underlying32]
  simp only [binOp]
  simp [Op.equal, Op.maxDepth, h 9999]
set_option maxRecDepth 100000 in
theorem pour_from_nil (n0 : Nat) (w : World) (b c cap : Nat) (l : List V) (h : BoxR n0 w b c cap l) (hl : l.length ≤ cap) (hcap : cap ≤ 5000) : Calls Try.prog 20 #[.pointer none, .pointer (some ⟨b, 0, none⟩)] w fun e w' => e = .returned (.int .i64 0) ∧ w = w' := by
  have hL := Lib.hid (left_any n0 w b c cap l h hl hcap)
  obtain ⟨k, hk⟩ : ∃ k : Nat, k = cap - l.length := ⟨_, rfl⟩
  rw [← hk] at hL
  clear hk
  have hp := ptr_ne ⟨b, 0, none⟩
  have t1 : ¬ ((k : Int) < 0) := by omega
  have t2 : (0 : Int) ≤ (k : Int) := by omega
  go_enter Try.func20, Try.ntmps20
  go_wp2_with (first
    | (go_at_call 14; refine (len_nil _).mono ?_; rintro e w1 ⟨rfl, rfl⟩)
    | (go_at_call 27; refine hL.out.mono ?_; rintro e w1 ⟨rfl, rfl⟩))
  refine wp_loop_rounds 1 ?_
  rw [rounds_succ]
  go_wp2
  go_ret
  exact ⟨rfl, rfl⟩
set_option maxRecDepth 100000 in
theorem pour_to_nil (n0 : Nat) (w : World) (b c cap : Nat) (l : List V) (h : BoxR n0 w b c cap l) : Calls Try.prog 20 #[.pointer (some ⟨b, 0, none⟩), .pointer none] w fun e w' => e = .returned (.int .i64 0) ∧ w = w' := by
  have hL := Lib.hid (len_any n0 w b c cap l h)
  obtain ⟨k, hk⟩ : ∃ k : Nat, k = l.length := ⟨_, rfl⟩
  rw [← hk] at hL
  clear hk
  obtain ⟨z, hz⟩ : ∃ z : Int, z = (k : Int) := ⟨_, rfl⟩
  rw [← hz] at hL
  by_cases t2 : 0 < z
  · have t3 : 0 ≤ z := by omega
    clear hz
    go_enter Try.func20, Try.ntmps20
    go_wp2_with (first
      | (go_at_call 14; refine hL.out.mono ?_; rintro e w1 ⟨rfl, rfl⟩)
      | (go_at_call 27; refine (left_nil _).mono ?_; rintro e w1 ⟨rfl, rfl⟩))
    refine wp_loop_rounds 1 ?_
    rw [rounds_succ]
    go_wp2
    go_ret
    exact ⟨rfl, rfl⟩
  · obtain rfl : z = 0 := by omega
    clear hz
    go_enter Try.func20, Try.ntmps20
    go_wp2_with (first
      | (go_at_call 14; refine hL.out.mono ?_; rintro e w1 ⟨rfl, rfl⟩)
      | (go_at_call 27; refine (left_nil _).mono ?_; rintro e w1 ⟨rfl, rfl⟩))
    refine wp_loop_rounds 1 ?_
    rw [rounds_succ]
    go_wp2
    go_ret
    exact ⟨rfl, rfl⟩
set_option maxRecDepth 100000 in
theorem either_nils (w : World) : Calls Try.prog 16 #[.pointer none, .pointer none] w fun e w' => e = .returned (.tuple #[.int .i64 0, .int .i64 0, .int .i64 13]) ∧ Below w.heap.size w w' := by
  go_enter Try.func16, Try.ntmps16
  go_wp2
  have hb := block_cell2 (block_new w (.cells #[.pointer none, .pointer none] 32))
  obtain ⟨⟨c1, c2⟩, _⟩ := hb
  have HB : Hid (Below w.heap.size w (w.alloc (.cells #[.pointer none, .pointer none] 32))) := (Below.refl _ _).alloc (Nat.le_refl _) _
  generalize w.alloc (.cells #[.pointer none, .pointer none] 32) = W1 at c1 c2 HB ⊢
  refine wp_loop_rounds 3 ?_
  rw [rounds_succ]
  go_wp2_with (go_at_call 13; refine (take_nil _).mono ?_; rintro e w1 ⟨rfl, rfl⟩)
  rw [rounds_succ]
  go_wp2_with (go_at_call 13; refine (take_nil _).mono ?_; rintro e w1 ⟨rfl, rfl⟩)
  rw [rounds_succ]
  go_wp2
  go_ret3
  exact ⟨rfl, HB.out⟩
set_option maxRecDepth 100000 in
theorem either_second (n0 : Nat) (w : World) (b c cap : Nat) (x : V) (l : List V) (h : BoxR n0 w b c cap (x :: l)) : Calls Try.prog 16 #[.pointer none, .pointer (some ⟨b, 0, none⟩)] w fun e w' =>
    e = .returned (.tuple #[.int .i64 x, .int .i64 1, .int .i64 0]) ∧ BoxR n0 w' b c cap l ∧ w.grownBy w' (some c) := by
  have HX := Lib.hid (h.alloc (.cells #[.pointer none, .pointer (some ⟨b, 0, none⟩)] 32))
  clear h
  go_enter Try.func16, Try.ntmps16
  go_wp2
  have hb := block_cell2 (block_new w (.cells #[.pointer none, .pointer (some ⟨b, 0, none⟩)] 32))
  obtain ⟨⟨c1, c2⟩, _⟩ := hb
  have HB : Hid (w.grownBy (w.alloc (.cells #[.pointer none, .pointer (some ⟨b, 0, none⟩)] 32)) (some c)) := grownBy_alloc _ _ _
  generalize w.alloc (.cells #[.pointer none, .pointer (some ⟨b, 0, none⟩)] 32) = W1 at c1 c2 HB HX ⊢
  refine wp_loop_rounds 3 ?_
  rw [rounds_succ]
  go_wp2_with (go_at_call 13; refine (take_nil _).mono ?_; rintro e w1 ⟨rfl, rfl⟩)
  rw [rounds_succ]
  go_wp2_with (go_at_call 13; refine (take_some n0 _ b c cap x l HX.out).mono ?_; rintro e w1 ⟨rfl, hb1, hg1⟩)
  go_ret3
  exact ⟨rfl, hb1, grownBy_trans HB.out hg1⟩

/-- The reference's Same at two rows of one's own that hold the same. -/
theorem same_eq (w : World) (b1 b2 : Nat) (u v : Value) (l : List Int) (hu : w.ownsRow b1 3 1 u l.length (l.map ev)) (hv : w.ownsRow b2 3 1 v l.length (l.map ev)) (hn : l.length ≤ 1000) (hpos : 0 < l.length) :
    Calls Try.prog 21 #[u, v] w fun e w' => e = .returned (.bool true) ∧ Below w.heap.size w w' := by
  obtain ⟨g, cap, rfl⟩ := Go.Joins.ownsRow_form hu (by omega)
  obtain ⟨g', cap', rfl⟩ := Go.Joins.ownsRow_form hv (by omega)
  have HU := Lib.hid hu
  have HV := Lib.hid hv
  have e0 : (0 : Int) ≤ (l.length : Int) := by omega
  have lg := (hu.lt g rfl).2
  have lg' := (hv.lt g' rfl).2
  clear hu hv hpos
  go_enter Try.func21, Try.ntmps21
  go_wp2
  go_loopg [5] l.length (fun (gh : Nat) s5 wx => ∃ i : Nat, gh = l.length - i ∧ i ≤ l.length ∧ s5 = .int .i64 (i : Int) ∧ Below w.heap.size w wx)
  case atStart => exact ⟨0, rfl, Nat.zero_le _, rfl, Below.refl _ _⟩
  case round =>
    obtain ⟨i, rfl, hi, rfl, hbel⟩ := hrel
    by_cases hlt : i < l.length
    · have t1 : (i : Int) < (l.length : Int) := by omega
      have t2 : (0 : Int) ≤ (i : Int) := by omega
      obtain ⟨r, hr⟩ : ∃ r, l[i]? = some r := ⟨_, List.getElem?_eq_getElem hlt⟩
      have hcg : (l.map ev)[i]? = some (.int .i64 r) := by rw [List.getElem?_map, hr]; rfl
      have c1 : wr.cell? ⟨g, i, none⟩ = some (.int .i64 r) := (hbel.cell (p := ⟨g, i, none⟩) lg).trans ((HU.out.cellAt i (by omega)).trans hcg)
      have c3 : wr.cell? ⟨g', i, none⟩ = some (.int .i64 r) := (hbel.cell (p := ⟨g', i, none⟩) lg').trans ((HV.out.cellAt i (by omega)).trans hcg)
      have HB := Lib.hid hbel
      clear hcg hbel hr
      go_wp2_with fail
      go_quiet (fail)
      go_wp2
      go_roundg (l.length - (i + 1))
      case measure => omega
      case rel => exact ⟨i + 1, rfl, hlt, by go_num, ⟨HB.out.os, HB.out.tape, HB.out.output, HB.out.size, HB.out.block⟩⟩
    · have hil : i = l.length := by omega
      subst hil
      have t1 : decide ((l.length : Int) < (l.length : Int)) = false := by simp
      have HB := Lib.hid hbel
      clear hbel
      go_wp2
      go_ret
      exact ⟨rfl, HB.out⟩
end Go.Proofs.Ytlhdhgagglpphaa.Bx.I
