/-
  WindowOrder's law. Conditions: none.
-/
import Derived.Test.YtaidihilhblhgaaWKno
import Derived.Test.YtaidihilhblhgaaWAct
import Derived.Deep.CutBlock
namespace Go.Proofs.Ytaidihilhblhgaa.Wi
open Go.RowKit Tb I

/-- The squares below n. -/
def sqs (n : Nat) : List Int := (List.range n).map fun (k : Nat) => (k : Int) * (k : Int)
theorem sqs_len (n : Nat) : (sqs n).length = n := by simp [sqs]
theorem sqs_get {n i : Nat} {x : Int} (h : (sqs n)[i]? = some x) : i < n ∧ x = (i : Int) * (i : Int) := by
  unfold sqs at h
  rw [List.getElem?_map] at h
  obtain ⟨k, hk, rfl⟩ := Option.map_eq_some_iff.1 h
  obtain ⟨h1, h2⟩ := List.getElem?_eq_some_iff.1 hk
  simp at h1 h2
  exact ⟨h1, by rw [h2]⟩
theorem sqs_snoc (n : Nat) : sqs n ++ [(n : Int) * (n : Int)] = sqs (n + 1) := by
  unfold sqs
  rw [List.range_succ, List.map_append]; rfl
/-- What is kept is squares. -/
def Sq (n : Nat) (l : List Rw) : Prop := ∀ r ∈ l, r.1 < (n : Int) ∧ r.2 = r.1 * r.1
theorem Sq.nil (n : Nat) : Sq n [] := fun _ h => (by cases h)
theorem Sq.off {n : Nat} {nx : Int} {l : List Rw} (h : Sq n l) {a k : Nat} {x : Int} (hx : (winL (sqs n) a)[k]? = some x) : Sq n (offL nx l ((a + k : Nat) : Int) x) := by
  unfold winL at hx
  rw [List.getElem?_take] at hx
  split at hx
  · rw [List.getElem?_drop] at hx
    obtain ⟨h1, h2⟩ := sqs_get hx
    unfold offL
    split
    · intro r hr
      rcases putL_mem l _ x r hr with h3 | h3
      · rw [h3]; exact ⟨by show ((a + k : Nat) : Int) < _; omega, h2⟩
      · exact h r h3
    · exact h
  · cases hx
theorem Sq.drop {n : Nat} {nx : Int} {l : List Rw} (h : Sq n l) (ha : asc l) : Sq n (dropL l nx) := fun r hr => h r (dropL_mem l nx ha r hr).1
theorem Sq.rdy {n : Nat} {nx : Int} {l : List Rw} (h : Sq n l) (hh : hasB l nx = true) : rdy nx l = nx * nx ∧ nx < (n : Int) := by
  have h1 := Ii.getL_has l nx hh
  have h2 := h _ (List.mem_of_getElem? h1)
  exact ⟨h2.2, h2.1⟩
theorem has_iff (l : List Rw) (ha : asc l) (k : Int) : hasB l k = true ↔ ∃ r ∈ l, r.1 = k := by
  constructor
  · intro h
    obtain ⟨_, v, hv⟩ := has_lt l k h
    exact ⟨_, List.mem_of_getElem? hv, rfl⟩
  · rintro ⟨r, hr, rfl⟩
    cases hb : hasB l r.1
    · exfalso
      have h0 := dropL_mem l r.1 ha r (by unfold dropL; rw [hb]; simpa using hr)
      exact h0.2 rfl
    · rfl
theorem off_has {nx : Int} {l : List Rw} (ha : asc l) {n : Int} {x : Int} (h : hasB l nx = true) : hasB (offL nx l n x) nx = true := by
  unfold offL
  split
  · rw [has_iff _ (asc_putL l n x ha)]
    obtain ⟨r, hr, h1⟩ := (has_iff l ha nx).1 h
    by_cases e : n = nx
    · exact ⟨(n, x), by unfold putL; simp, e⟩
    · refine ⟨r, ?_, h1⟩
      have h2 := look_putL l n x ha nx
      rw [if_neg e] at h2
      have h3 := look_mem l ha r hr
      rw [h1] at h3
      rw [h3] at h2
      have := look_some _ _ _ h2
      rw [show r = (nx, r.2) from Prod.ext h1 rfl]
      exact this
  · exact h
theorem off_now {nx : Int} {l : List Rw} (ha : asc l) (x : Int) : hasB (offL nx l nx x) nx = true := by
  by_cases h : hasB l nx = true
  · exact off_has ha h
  · have e : offE nx l nx = 0 := by unfold offE; rw [if_neg (by omega), if_neg (by omega), if_neg h]
    unfold offL
    rw [e, if_pos rfl, has_iff _ (asc_putL l nx x ha)]
    exact ⟨(nx, x), by unfold putL; simp, rfl⟩
theorem ox_of {w0 W : World} {bo a : Nat} {so : Value} {xs : List Int} (h : OO w0 W bo so a xs) : OX w0 (W.alloc (.cells #[.slice none 0 0, .int .i64 0] 50)) bo so a xs W.heap.size 0 (.slice none 0 0) [] := by
  refine ⟨h.o.below ((Below.refl _ _).alloc (Nat.le_refl _) _), InR.new W 0 (by decide), fun k h2 h3 => ?_, h.ao, fun k h2 => ?_, h.bel.alloc h.bel.size _⟩
  · have := h.o.lt k h2
    rcases h3 with h3 | h3
    · omega
    · cases h3
  · rcases h2 with h2 | h2
    · have := h.bel.size; omega
    · cases h2

theorem tmod_bd (x k : Int) (hk : 0 < k) : -k < x.tmod k ∧ x.tmod k < k := by
  rcases Int.le_total 0 x with h | h
  · rw [Int.tmod_eq_emod_of_nonneg h]
    have h1 := Int.emod_nonneg x (show k ≠ 0 by omega)
    have h2 := Int.emod_lt_of_pos x hk
    omega
  · have e : x = -(-x) := by omega
    rw [e, Int.neg_tmod, Int.tmod_eq_emod_of_nonneg (show 0 ≤ -x by omega)]
    have h1 := Int.emod_nonneg (-x) (show k ≠ 0 by omega)
    have h2 := Int.emod_lt_of_pos (-x) hk
    omega
theorem ack_now {a n t : Nat} (h1 : a ≤ t) (h2 : t ≤ n) : ackN a n (t : Int) = t := by
  unfold ackN
  split <;> omega
/-- Both, while what was said is heard. -/
def Hr (w W : World) (bo bi n tk a : Nat) (so si : Value) (l : List Rw) : Prop := OX w W bo so a (sqs n) bi (tk : Int) si l ∧ Sq n l ∧ a ≤ tk ∧ tk ≤ n
def HrF (w W : World) (bo bi n tk a : Nat) (so si : Value) (l : List Rw) (v : Value) : Prop := Hr w W bo bi n tk a so si l ∧ Fr W v (winL (sqs n) a) (OwnX bo so bi si)
section
variable {w W : World} {bo bi n tk a : Nat} {so si : Value} {l : List Rw}
theorem hr_window (h : Hr w W bo bi n tk a so si l) {L : Nat} (hL : L = min 16 (n - a)) : Calls Try.prog 11 #[.pointer (some ⟨bo, 0, none⟩)] W fun e w' => ∃ A c, e = .returned (.tuple #[.int .i64 (a : Int), .slice A L c]) ∧ HrF w w' bo bi n tk a so si l (.slice A L c) := by
  have h1 := ox_window h.1
  rw [winL_len, sqs_len, ← hL] at h1
  exact h1.mono fun _ _ ⟨A, c, h2, h3, h4⟩ => ⟨A, c, h2, ⟨h3, h.2⟩, h4⟩
theorem hrf_cell {A : Option Addr} {L c : Nat} (h : HrF w W bo bi n tk a so si l (.slice A L c)) (hp : 0 < L) : ∃ g o, A = some ⟨g, o, none⟩ ∧ ∀ k, k < L → ∃ x, (winL (sqs n) a)[k]? = some x ∧ W.cell? ⟨g, o + k, none⟩ = some (.int .i64 x) := by
  obtain ⟨A', c', h1⟩ := h.2.1.form
  simp only [Value.slice.injEq] at h1
  obtain ⟨_, h2, _⟩ := h1
  obtain ⟨g, o, h3⟩ := h.2.some (by omega)
  refine ⟨g, o, h3, fun k hk => ?_⟩
  have hf := h.2
  rw [h3] at hf
  exact ⟨_, List.getElem?_eq_getElem (by omega), hf.cell k _ (List.getElem?_eq_getElem (by omega))⟩
theorem hrf_offer {v : Value} (h : HrF w W bo bi n tk a so si l v) (hn : n ≤ 59) {k : Nat} {x : Int} (hx : (winL (sqs n) a)[k]? = some x) : Calls Try.prog 19 #[.pointer (some ⟨bi, 0, none⟩), .int .i64 ((a : Int) + (k : Int)), .int .i64 x] W fun e w' => ∃ q, e = .returned (.int .i64 q) ∧ ∃ si' l', HrF w w' bo bi n tk a so si' l' v ∧ (hasB l tk = true → hasB l' tk = true) ∧ (a + k = tk → hasB l' tk = true) := by
  have h1 := h.1.1.o.le
  have h2 : k < 16 := by
    have := (List.getElem?_eq_some_iff.1 hx).1
    rw [winL_len] at this; omega
  have ha : a ≤ 59 := by have := h.1.2.2; omega
  rw [show (a : Int) + (k : Int) = ((a + k : Nat) : Int) by omega]
  refine (ox_offer h.1.1 h.2 ((a + k : Nat) : Int) (by omega) x).mono ?_
  rintro e w' ⟨h3, si', h4, h5⟩
  refine ⟨_, h3, si', _, ⟨⟨h4, h.1.2.1.off (by exact hx), h.1.2.2⟩, h5⟩, off_has h.1.1.i.asc, fun e => ?_⟩
  rw [e]
  exact off_now h.1.1.i.asc x
theorem hr_popn (h : Hr w W bo bi n tk a so si l) (hh : hasB l (tk : Int) = false) : Calls Try.prog 21 #[.pointer (some ⟨bi, 0, none⟩)] W fun e w' => e = .returned (.tuple #[.int .i64 0, .bool false]) ∧ Hr w w' bo bi n tk a so si l :=
  (ox_popn h.1 hh).mono fun _ _ ⟨h1, h2⟩ => ⟨h1, h2, h.2⟩
theorem hr_popy (h : Hr w W bo bi n tk a so si l) (hn : n ≤ 59) (hh : hasB l (tk : Int) = true) : Calls Try.prog 21 #[.pointer (some ⟨bi, 0, none⟩)] W fun e w' => e = .returned (.tuple #[.int .i64 ((tk : Int) * (tk : Int)), .bool true]) ∧ ∃ si' l', Hr w w' bo bi n (tk + 1) a so si' l' := by
  obtain ⟨h1, h2⟩ := h.2.1.rdy hh
  have hz : Fr W (.slice none 0 0) [] (OwnX bo so bi si) := ⟨⟨none, 0, rfl, Nat.le_refl _, fun h => by cases h⟩, fun a n c e => by cases e⟩
  have h3 := ox_popy h.1 hh (by have := h.2.2; omega) hz
  rw [h1] at h3
  refine h3.mono ?_
  rintro e w' ⟨h4, si', h5, _⟩
  exact ⟨h4, si', _, h5, h.2.1.drop h.1.i.asc, by have := h.2.2; omega, by omega⟩
theorem hr_pop (h : Hr w W bo bi n tk a so si l) (hn : n ≤ 59) : Calls Try.prog 21 #[.pointer (some ⟨bi, 0, none⟩)] W fun e w' => (e = .returned (.tuple #[.int .i64 0, .bool false]) ∧ hasB l (tk : Int) = false ∧ Hr w w' bo bi n tk a so si l) ∨ (e = .returned (.tuple #[.int .i64 ((tk : Int) * (tk : Int)), .bool true]) ∧ ∃ si' l', Hr w w' bo bi n (tk + 1) a so si' l') := by
  cases hh : hasB l (tk : Int)
  · exact (hr_popn h hh).mono fun _ _ ⟨h1, h2⟩ => .inl ⟨h1, rfl, h2⟩
  · exact (hr_popy h hn hh).mono fun _ _ h1 => .inr h1
theorem hr_next (h : Hr w W bo bi n tk a so si l) : Calls Try.prog 25 #[.pointer (some ⟨bi, 0, none⟩)] W fun e w' => e = .returned (.int .i64 (tk : Int)) ∧ W = w' := next_any h.1.i
theorem hr_ack (h : Hr w W bo bi n tk a so si l) : Calls Try.prog 9 #[.pointer (some ⟨bo, 0, none⟩), .int .i64 (tk : Int)] W fun e w' => e = .returned (.int .i64 (tk : Int)) ∧ Hr w w' bo bi n tk tk so si l := by
  have h1 := ox_ack h.1 (tk : Int)
  rw [sqs_len, ack_now h.2.2.1 h.2.2.2] at h1
  exact h1.mono fun _ _ ⟨h2, h3⟩ => ⟨h2, h3, h.2.1, Nat.le_refl _, h.2.2.2⟩
theorem Hr.below {W' : World} (h : Hr w W bo bi n tk a so si l) (hb : Below W.heap.size W W') : Hr w W' bo bi n tk a so si l := ⟨h.1.below hb, h.2⟩
theorem hr_waiting (h : Hr w W bo bi n n n so si l) : Calls Try.prog 16 #[.pointer (some ⟨bo, 0, none⟩)] W fun e w' => e = .returned (.int .i64 0) ∧ W = w' := by
  have h1 := waiting_any h.1.o
  rw [sqs_len, Nat.sub_self] at h1
  exact h1
theorem hr_next1 (h : Hr w W bo bi n (tk + 1) a so si l) : Calls Try.prog 25 #[.pointer (some ⟨bi, 0, none⟩)] W fun e w' => e = .returned (.int .i64 ((tk : Int) + 1)) ∧ W = w' := hr_next h
theorem hr_ack1 (h : Hr w W bo bi n (tk + 1) a so si l) : Calls Try.prog 9 #[.pointer (some ⟨bo, 0, none⟩), .int .i64 ((tk : Int) + 1)] W fun e w' => e = .returned (.int .i64 ((tk : Int) + 1)) ∧ Hr w w' bo bi n (tk + 1) (tk + 1) so si l := hr_ack h
end

set_option maxRecDepth 100000 in
set_option maxHeartbeats 4000000 in
theorem law_order (w : World) (x : Int) (A : Option Addr) (pn pc : Nat) (pl : List Int) (hp : At w (.slice A pn pc) pl) (hb : i64s pl) :
    Calls Try.prog 5 #[.int .i64 x, .slice A pn pc] w fun e w' => e = .returned (.bool true) ∧ Below w.heap.size w w' := by
  have hm0 : 0 ≤ (IntKind.u64.wrap x).tmod 60 ∧ (IntKind.u64.wrap x).tmod 60 ≤ 59 := by
    have h1 : 0 ≤ IntKind.u64.wrap x := by rw [IntKind.wrap_u64]; omega
    rw [Int.tmod_eq_emod_of_nonneg h1]; omega
  obtain ⟨m, hm⟩ : ∃ m, (IntKind.u64.wrap x).tmod 60 = m := ⟨_, rfl⟩
  rw [hm] at hm0
  obtain ⟨n, rfl⟩ : ∃ n : Nat, m = (n : Int) := ⟨m.toNat, by omega⟩
  have hwm : IntKind.i64.wrap (n : Int) = (n : Int) := by rw [IntKind.wrap_i64]; omega
  have hn : n ≤ 59 := by omega
  have hnew := Lib.hid (oo_new w)
  have HP := Lib.hid hp
  have HB := Lib.hid hb
  clear hm0 hp hb
  go_enter Try.func5, Try.ntmps5
  go_wp2
  go_loopg [6] n (fun (gh : Nat) s4 wx => ∃ (i : Nat) (so : Value), gh = n - i ∧ i ≤ n ∧ s4 = .int .i64 (i : Int) ∧ Hid (OO w wx w.heap.size so 0 (sqs i)))
  case atStart => exact ⟨0, _, rfl, Nat.zero_le _, rfl, hnew⟩
  case round =>
    obtain ⟨i, so, rfl, hi, rfl, HO⟩ := hrel
    by_cases hlt : i < n
    · have t1 : (i : Int) < (n : Int) := by omega
      obtain ⟨q, hq⟩ : ∃ q, (i : Int) * (i : Int) = q := ⟨_, rfl⟩
      have hq2 : q ≤ 3600 ∧ 0 ≤ q := by
        have h1 : (i : Int) * (i : Int) ≤ 60 * 60 := Int.mul_le_mul (by omega) (by omega) (by omega) (by omega)
        have h2 : 0 ≤ (i : Int) * (i : Int) := Int.mul_nonneg (by omega) (by omega)
        omega
      have e1 : IntKind.i64.wrap ((i : Int) * (i : Int)) = q := by rw [hq, IntKind.wrap_i64]; omega
      have e1' : wrap64 ((i : Int) * (i : Int)) = q := (IntWalk.i64_left _).symm.trans e1
      have HC : Hid (Calls Try.prog 7 #[.pointer (some ⟨w.heap.size, 0, none⟩), .slice (some ⟨wr.heap.size, 0, none⟩) 1 1] (wr.alloc (.cells #[.int .i64 q] 3)) (fun e w' => e = .returned (.int .i64 ((i + 1 : Nat) : Int)) ∧ ∃ so', OO w w' w.heap.size so' 0 (sqs (i + 1)))) := by
        have h1 := oo_push (HO.out.below ((Below.refl _ _).alloc (Nat.le_refl _) (.cells #[.int .i64 q] 3))) (v := .slice (some ⟨wr.heap.size, 0, none⟩) 1 1) (m := [q]) ⟨_, _, rfl, Nat.le_refl _, fun _ => ⟨_, 0, rfl, by simp, fun j y hj => by
          match j with
          | 0 => simp at hj; subst hj; exact cell_of_row _ _ _ _ _ _ (block_new wr _)
          | j + 1 => simp at hj⟩⟩ (by rw [sqs_len]; simp; omega)
        rw [← hq, sqs_snoc, sqs_len] at h1
        rw [← hq]
        exact h1
      have EM := Lib.hid (show (n - (i + 1) < n - i) by omega)
      clear hq hi
      go_wp2_with (go_at_call 7; (with_reducible refine HC.out.mono ?_); rintro e w2 ⟨rfl, so', ho⟩)
      go_roundg (n - (i + 1))
      case measure => exact EM.out
      case rel => exact ⟨i + 1, so', rfl, hlt, by go_num, ho⟩
    · obtain rfl : i = n := by omega
      have HX : Hid (∀ wr', wr' = wr.alloc (.cells #[.slice none 0 0, .int .i64 0] 50) → Hr w wr' w.heap.size wr.heap.size i 0 0 so (.slice none 0 0) []) := fun _ e => by subst e; exact ⟨ox_of HO.out, Sq.nil _, Nat.le_refl _, Nat.zero_le _⟩
      go_upto_block 2 with fail
      obtain ⟨W1, hW1⟩ : ∃ W1, W1 = wr.alloc (.cells #[.slice none 0 0, .int .i64 0] 50) := ⟨_, rfl⟩
      have H1 := Lib.hid (HX.out _ hW1)
      rw [← hW1]
      obtain ⟨bi, hbi⟩ : ∃ bi, bi = wr.heap.size := ⟨_, rfl⟩
      rw [← hbi] at H1 ⊢
      clear HX hW1 hbi HO
      go_cut [8, 9, 10, 11, 12, 13, 14] from 40 to 108 (fun s8 _ _ _ _ _ _ wx => ∃ (tk a : Nat) (si : Value) (l : List Rw), s8 = .int .i64 (tk : Int) ∧ Hid (Hr w wx w.heap.size bi i tk a so si l))
      case first =>
        obtain ⟨N, hN⟩ : ∃ N, N = min pn 200 := ⟨_, rfl⟩
        have HN := Lib.hid hN
        have hN2 : N ≤ 200 := by omega
        have hN3 : N ≤ pn := by omega
        clear hN
        go_wp2_with fail
        go_loopg [8, 9] N (fun (gh : Nat) s8 s9 wx => ∃ (j tk a : Nat) (si : Value) (l : List Rw), gh = N - j ∧ j ≤ N ∧ s8 = .int .i64 (tk : Int) ∧ s9 = .int .i64 (j : Int) ∧ Hid (Hr w wx w.heap.size bi i tk a so si l))
        case atStart => exact ⟨0, 0, 0, _, _, rfl, Nat.zero_le _, rfl, rfl, H1⟩
        case round =>
          obtain ⟨j, tk, a, si, l, rfl, hj, rfl, rfl, HH⟩ := hrel
          by_cases hlt : j < N
          · have t1 : (j : Int) < (pn : Int) := by omega
            have t2 : (j : Int) < 200 := by omega
            have t3 : (0 : Int) ≤ (j : Int) := by omega
            have e9 : IntKind.i64.wrap ((j : Int) + 1) = ((j + 1 : Nat) : Int) := by rw [IntKind.wrap_i64]; omega
            have hlen : pl.length = pn := by
              obtain ⟨A', c', h1⟩ := HP.out.form
              simp only [Value.slice.injEq] at h1
              exact h1.2.1.symm
            obtain ⟨pv, hpv⟩ : ∃ pv, pl[j]? = some pv := ⟨_, List.getElem?_eq_getElem (by omega)⟩
            have hpb := HB.out pv (List.mem_of_getElem? hpv)
            obtain ⟨gp, op, rfl, cp⟩ : ∃ g o, A = some ⟨g, o, none⟩ ∧ ∀ W, Below w.heap.size w W → W.cell? ⟨g, o + j, none⟩ = some (.int .i64 pv) := by
              obtain ⟨A', c', h1, _, h3⟩ := HP.out
              cases h1
              obtain ⟨g, o, h4, h5, h6⟩ := h3 (by omega)
              exact ⟨g, o, h4, fun W hW => (hW.cell (p := ⟨g, o + j, none⟩) h5).trans (h6 j pv hpv)⟩
            have CP := Lib.hid cp
            clear cp
            have EM := Lib.hid (show (N - (j + 1) < N - j) by omega)
            obtain ⟨L, hL⟩ : ∃ L, L = min 16 (i - a) := ⟨_, rfl⟩
            have HW := Lib.hid (hr_window HH.out hL)
            have hai : a ≤ i := by have := HH.out.2.2; omega
            have hti : tk ≤ i := by have := HH.out.2.2; omega
            have hL16 : L ≤ 16 := by omega
            clear hL hj hlen hpv HH
            by_cases h0 : L = 0
            · subst h0
              go_wp2_with (go_at_call 11; (with_reducible refine HW.out.mono ?_); rintro e w2 ⟨A1, c2, rfl, hf⟩; have H2 := Lib.hid hf.1; clear hf)
              go_meet
              exact ⟨tk, a, si, l, rfl, H2⟩
            · have h0' : ¬ (L : Int) = 0 := by omega
              have eL : IntKind.u64.wrap (L : Int) = (L : Int) := by rw [IntKind.wrap_u64]; omega
              have hkb : 0 ≤ (IntKind.u64.wrap pv).tmod (L : Int) ∧ (IntKind.u64.wrap pv).tmod (L : Int) < (L : Int) := by
                have h1 : 0 ≤ IntKind.u64.wrap pv := by rw [IntKind.wrap_u64]; omega
                rw [Int.tmod_eq_emod_of_nonneg h1]
                exact ⟨Int.emod_nonneg _ h0', Int.emod_lt_of_pos _ (by omega)⟩
              obtain ⟨k, hk⟩ : ∃ k : Nat, (IntKind.u64.wrap pv).tmod (L : Int) = (k : Int) := ⟨((IntKind.u64.wrap pv).tmod (L : Int)).toNat, by omega⟩
              rw [hk] at hkb
              have hkL : k < L := by omega
              have ek : IntKind.i64.wrap (k : Int) = (k : Int) := by rw [IntKind.wrap_i64]; omega
              have eku : IntKind.u64.wrap (k : Int) = (k : Int) := by rw [IntKind.wrap_u64]; omega
              have e3 : IntKind.i64.wrap ((a : Int) + (k : Int)) = (a : Int) + (k : Int) := by rw [IntKind.wrap_i64]; omega
              have t4 : (0 : Int) ≤ (k : Int) := by omega
              have t5 : (k : Int) < (L : Int) := by omega
              obtain ⟨r3, hr3⟩ : ∃ r3, pv.tmod 3 = r3 := ⟨_, rfl⟩
              obtain ⟨r5, hr5⟩ : ∃ r5, pv.tmod 5 = r5 := ⟨_, rfl⟩
              have hr3b : -3 < r3 ∧ r3 < 3 := by
                rw [← hr3]; exact tmod_bd pv 3 (by decide)
              have hr5b : -5 < r5 ∧ r5 < 5 := by
                rw [← hr5]; exact tmod_bd pv 5 (by decide)
              have er3 : IntKind.i64.wrap r3 = r3 := by rw [IntKind.wrap_i64]; omega
              have er5 : IntKind.i64.wrap r5 = r5 := by rw [IntKind.wrap_i64]; omega
              obtain ⟨sq, hsq⟩ : ∃ sq, (tk : Int) * (tk : Int) = sq := ⟨_, rfl⟩
              have esq : IntKind.i64.wrap sq = sq := by
                have h1 : (tk : Int) * (tk : Int) ≤ 60 * 60 := Int.mul_le_mul (by omega) (by omega) (by omega) (by omega)
                have h2 : 0 ≤ (tk : Int) * (tk : Int) := Int.mul_nonneg (by omega) (by omega)
                rw [IntKind.wrap_i64]; omega
              have etk : IntKind.i64.wrap ((tk : Int) + 1) = ((tk + 1 : Nat) : Int) := by rw [IntKind.wrap_i64]; omega
              clear hkb h0 hr3b hr5b
              by_cases q3 : r3 = 0
              all_goals by_cases q5 : r5 = 0
              all_goals
                first | subst q3 | skip
                first | subst q5 | skip
                go_wp2_with (first
                  | (go_at_call 11; (with_reducible refine HW.out.mono ?_); rintro e w2 ⟨A1, c2, rfl, hf⟩; have p2 := CP.out _ hf.1.1.bel; obtain ⟨g1, o1, rfl, hcl⟩ := hrf_cell hf (by omega); obtain ⟨xk, hxk, hck⟩ := hcl k hkL; have HOF := Lib.hid (hrf_offer hf hn hxk); clear hf hcl hxk)
                  | (go_at_call 19; (with_reducible refine HOF.out.mono ?_); rintro e w3 ⟨z3, rfl, si3, l3, hf3, _⟩; have p3 := CP.out _ hf3.1.1.bel; have HPP := hr_pop hf3.1 hn; rw [hsq] at HPP; have HNX := Lib.hid (hr_next hf3.1); have HAK := Lib.hid (hr_ack hf3.1); have H3 := Lib.hid hf3.1; have HPP := Lib.hid HPP; clear hf3)
                  | (go_at_call 9; (with_reducible refine HAK.out.mono ?_); rintro e w5 ⟨rfl, h5⟩; have H3 := Lib.hid h5; clear h5)
                  | (go_at_call 25; (with_reducible refine HNX.out.mono ?_); rintro e w6 ⟨rfl, rfl⟩)
                  | (go_at_call 21; (with_reducible refine HPP.out.mono ?_); rintro e w4 (⟨rfl, _, h4⟩ | ⟨rfl, si4, l4, h4⟩) <;> (have p4 := CP.out _ h4.1.bel; first | (have HNX := Lib.hid (hr_next1 h4); have HAK := Lib.hid (hr_ack1 h4); have H3 := Lib.hid h4; clear h4) | (have HNX := Lib.hid (hr_next h4); have HAK := Lib.hid (hr_ack h4); have H3 := Lib.hid h4; clear h4))))
              all_goals
                go_roundg (N - (j + 1))
                case measure => exact EM.out
                case rel => exact ⟨j + 1, _, _, _, _, rfl, hlt, by go_num, by go_num, H3⟩
          · obtain rfl : j = N := by omega
            have hst : ¬ ((j : Int) < (pn : Int)) ∨ ((j : Int) < (pn : Int) ∧ ¬ ((j : Int) < 200)) := by have := HN.out; omega
            rcases hst with s1 | ⟨s1, s2⟩
            all_goals
              go_wp2_with fail
              go_meet
              exact ⟨tk, a, si, l, rfl, HH⟩
      case rest =>
        obtain ⟨tk0, a0, si0, l0, rfl, H0⟩ := hcut
        clear H1
        go_wp2
        go_loopg [8, 15] 200 (fun (gh : Nat) s8 s15 wx => ∃ (j tk a : Nat) (si : Value) (l : List Rw), gh = 200 - j ∧ j ≤ 200 ∧ s8 = .int .i64 (tk : Int) ∧ s15 = .int .i64 (j : Int) ∧ Hid (Hr w wx w.heap.size bi i tk a so si l) ∧ Hid ((1 ≤ j → a = tk) ∧ (j ≤ tk + 1 ∨ tk = i)))
        case atStart => exact ⟨0, tk0, a0, si0, l0, rfl, by omega, rfl, rfl, H0, fun h => by omega, .inl (by omega)⟩
        case round =>
          obtain ⟨j, tk, a, si, l, rfl, hj, rfl, rfl, HH, HJ⟩ := hrel
          clear H0
          by_cases hlt : j < 200
          · have t1 : (j : Int) < 200 := by omega
            have e9 : IntKind.i64.wrap ((j : Int) + 1) = ((j + 1 : Nat) : Int) := by rw [IntKind.wrap_i64]; omega
            obtain ⟨L, hL⟩ : ∃ L, L = min 16 (i - a) := ⟨_, rfl⟩
            have HW := Lib.hid (hr_window HH.out hL)
            have hti : tk ≤ i := by have := HH.out.2.2; omega
            have hai : a ≤ tk := by have := HH.out.2.2; omega
            have hL16 : L ≤ 16 := by omega
            have HLL := Lib.hid hL
            have EM := Lib.hid (show (200 - (j + 1) < 200 - j) by omega)
            obtain ⟨sq, hsq⟩ : ∃ sq, (tk : Int) * (tk : Int) = sq := ⟨_, rfl⟩
            have esq : IntKind.i64.wrap sq = sq := by
              have h1 : (tk : Int) * (tk : Int) ≤ 60 * 60 := Int.mul_le_mul (by omega) (by omega) (by omega) (by omega)
              have h2 : 0 ≤ (tk : Int) * (tk : Int) := Int.mul_nonneg (by omega) (by omega)
              rw [IntKind.wrap_i64]; omega
            clear hL hj HH
            go_wp2_with (go_at_call 11; (with_reducible refine HW.out.mono ?_); rintro e w2 ⟨A1, c2, rfl, hf⟩; have HF := Lib.hid hf; clear hf)
            go_loopg [18] L (fun (gh : Nat) s18 wx => ∃ (k : Nat) (si : Value) (l : List Rw), gh = L - k ∧ k ≤ L ∧ s18 = .int .i64 (k : Int) ∧ Hid (HrF w wx w.heap.size bi i tk a so si l (.slice A1 L c2)) ∧ Hid (tk < a + k → hasB l (tk : Int) = true))
            case atStart => exact ⟨0, _, _, rfl, Nat.zero_le _, rfl, HF, fun h => by omega⟩
            case round =>
              obtain ⟨k, si1, l1, rfl, hk, rfl, H1, HK⟩ := hrel
              clear HF HW
              by_cases hkl : k < L
              · have t5 : (k : Int) < (L : Int) := by omega
                have t4 : (0 : Int) ≤ (k : Int) := by omega
                have e3 : IntKind.i64.wrap ((a : Int) + (k : Int)) = (a : Int) + (k : Int) := by rw [IntKind.wrap_i64]; omega
                have e4 : IntKind.i64.wrap ((k : Int) + 1) = ((k + 1 : Nat) : Int) := by rw [IntKind.wrap_i64]; omega
                obtain ⟨g1, o1, rfl, hcl⟩ := hrf_cell H1.out (by omega)
                obtain ⟨xk, hxk, hck⟩ := hcl k hkl
                have HOF := Lib.hid (hrf_offer H1.out hn hxk)
                have EK := Lib.hid (show (L - (k + 1) < L - k) by omega)
                clear hcl hxk H1 hk
                go_wp2_with (go_at_call 19; (with_reducible refine HOF.out.mono ?_); rintro e w3 ⟨z3, rfl, si3, l3, hf3, hk3, hk4⟩; have H3 := Lib.hid hf3; have HK3 := Lib.hid (And.intro hk3 hk4); clear hf3 hk3 hk4)
                go_roundg (L - (k + 1))
                case measure => exact EK.out
                case rel => exact ⟨k + 1, si3, l3, rfl, hkl, by go_num, H3, fun h => by
                  by_cases h5 : a + k = tk
                  · exact HK3.out.2 h5
                  · exact HK3.out.1 (HK.out (by omega))⟩
              · obtain rfl : k = L := by omega
                have HPP := hr_pop H1.out.1 hn
                rw [hsq] at HPP
                have HPP := Lib.hid HPP
                clear hk H1
                go_wp2_with (first
                  | (go_at_call 9; (with_reducible refine HAK.out.mono ?_); rintro e w5 ⟨rfl, h5⟩; have H5 := Lib.hid h5; clear h5)
                  | (go_at_call 25; (with_reducible refine HNX.out.mono ?_); rintro e w6 ⟨rfl, rfl⟩)
                  | (go_at_call 21; (with_reducible refine HPP.out.mono ?_); rintro e w4 (⟨rfl, hno, h4⟩ | ⟨rfl, si4, l4, h4⟩) <;> (first | (have HNX := Lib.hid (hr_next1 h4); have HAK := Lib.hid (hr_ack1 h4); have H4 := Lib.hid h4; clear h4) | (have HNO := Lib.hid hno; have HNX := Lib.hid (hr_next h4); have HAK := Lib.hid (hr_ack h4); have H4 := Lib.hid h4; clear h4 hno))))
                · go_roundg (200 - (j + 1))
                  case measure => exact EM.out
                  case rel => exact ⟨j + 1, _, _, _, _, rfl, hlt, by go_num, by go_num, H5, fun _ => rfl, by
                    have h1 : ¬ tk < a + k := fun h => by have := HK.out h; rw [HNO.out] at this; cases this
                    have h2 := HJ.out
                    have h3 := HLL.out
                    omega⟩
                · go_roundg (200 - (j + 1))
                  case measure => exact EM.out
                  case rel => exact ⟨j + 1, _, _, _, _, rfl, hlt, by go_num, by go_num, H5, fun _ => rfl, by
                    have h2 := HJ.out
                    have h3 := H5.out.2.2.2
                    omega⟩
          · obtain rfl : j = 200 := by omega
            obtain ⟨e1, e2⟩ : a = tk ∧ tk = i := by have h1 := HJ.out; have h2 := HH.out.2.2.2; omega
            subst e1
            subst e2
            have HQ := Lib.hid (fun W hW => hr_waiting (HH.out.below (W' := W) hW))
            have HBL := Lib.hid HH.out.1.bel
            clear HJ HH
            go_wp2_with (first
              | (go_at_call 17; refine (known_any _).mono ?_; rintro e w2 ⟨rfl, k2⟩)
              | (go_at_call 16; (with_reducible refine (HQ.out _ k2).mono ?_); rintro e w3 ⟨rfl, rfl⟩))
            go_ret
            exact ⟨rfl, HBL.out.trans (k2.mono HBL.out.size)⟩
end Go.Proofs.Ytaidihilhblhgaa.Wi
