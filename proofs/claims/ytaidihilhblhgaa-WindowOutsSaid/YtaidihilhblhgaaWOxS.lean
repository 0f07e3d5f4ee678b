/-
  What goes out and what comes in, in one world, all of it new since w0. Conditions: as the calls'.
-/
import Derived.Test.YtaidihilhblhgaaWOutS
import Derived.Test.YtaidihilhblhgaaWInS
namespace Go.Proofs.Ytaidihilhblhgaa.Wi.S
open Go.RowKit Tb

theorem sep_step {W : World} {b b2 : Nat} {v v' v2 : Value} (hs : ∀ i, Own b v i → ¬ Own b2 v2 i) (hn : Nw W v v') (hl : ∀ i, Own b2 v2 i → i < W.heap.size) : ∀ i, Own b v' i → ¬ Own b2 v2 i := fun i hi h2 => by
  rcases hi with hi | hi
  · exact hs i (.inl hi) h2
  · rcases hn i hi with h3 | h3
    · exact hs i (.inr h3) h2
    · have := hl i h2; omega
theorem ab_step {W : World} {b n0 : Nat} {v v' : Value} (ha : ∀ i, Own b v i → n0 ≤ i) (hn : Nw W v v') (hz : n0 ≤ W.heap.size) : ∀ i, Own b v' i → n0 ≤ i := fun i hi => by
  rcases hi with hi | hi
  · exact ha i (.inl hi)
  · rcases hn i hi with h3 | h3
    · exact ha i (.inr h3)
    · omega
theorem below_step {w0 W W' : World} {b : Nat} {v : Value} (hb : Below w0.heap.size w0 W) (hk : Kept (Own b v) W W') (ha : ∀ i, Own b v i → w0.heap.size ≤ i) : Below w0.heap.size w0 W' :=
  hb.trans (hk.below hb.size (fun k hk hS => by have := ha k hS; omega))
/-- A slice that lies outside of T. -/
def Fr (W : World) (v : Value) (xs : List E) (T : Nat → Prop) : Prop := At W v xs ∧ ∀ a n c, v = .slice (some a) n c → ¬ T a.block ∧ a.block < W.heap.size
theorem Fr.step {W W' : World} {v : Value} {xs : List E} {S T T' : Nat → Prop} (h : Fr W v xs T) (hk : Kept S W W') (hS : ∀ i, S i → T i) (hT : ∀ i, T' i → T i ∨ W.heap.size ≤ i) : Fr W' v xs T' :=
  ⟨h.1.keep hk (fun a n c e hs => (h.2 a n c e).1 (hS _ hs)), fun a n c e => ⟨fun ht => (hT _ ht).elim (h.2 a n c e).1 (fun h3 => by have := (h.2 a n c e).2; omega), Nat.lt_of_lt_of_le (h.2 a n c e).2 hk.size⟩⟩
theorem Fr.of_own {W W' : World} {v : Value} {xs : List E} {T : Nat → Prop} (h : rowOf W' W.heap.size v xs) (hT : ∀ i, T i → i < W.heap.size) : Fr W' v xs T :=
  ⟨At.of_own h, fun a n c e => by
    rcases h.2 with ⟨h1, _⟩ | ⟨g, cap, cur, h1, h2, h3, _⟩
    · rw [h1] at e; cases e
    · rw [h1] at e; cases e
      exact ⟨fun ht => by have h9 : g < W.heap.size := hT _ ht; omega, (Array.getElem?_eq_some_iff.1 h3).1⟩⟩

theorem Fr.cell {W : World} {g o n c : Nat} {xs : List E} {T : Nat → Prop} (h : Fr W (.slice (some ⟨g, o, none⟩) n c) xs T) (i : Nat) (x : E) (hi : xs[i]? = some x) : W.cell? ⟨g, o + i, none⟩ = some (el x) := by
  obtain ⟨A, cap, h1, _, h3⟩ := h.1
  cases h1
  obtain ⟨g', o', h4, _, h6⟩ := h3 (by have := (List.getElem?_eq_some_iff.1 hi).1; omega)
  cases h4
  exact h6 i x hi
theorem Fr.some {W : World} {A : Option Addr} {n c : Nat} {xs : List E} {T : Nat → Prop} (h : Fr W (.slice A n c) xs T) (hp : 0 < xs.length) : ∃ g o, A = some ⟨g, o, none⟩ := by
  obtain ⟨A', cap, h1, _, h3⟩ := h.1
  cases h1
  obtain ⟨g', o', h4, _⟩ := h3 hp
  exact ⟨g', o', h4⟩
structure OX (w0 W : World) (bo : Nat) (so : Value) (a : Nat) (xs : List E) (bi : Nat) (nx : Int) (si : Value) (l : List Rw) : Prop where
  o : OutR W bo so a xs
  i : InR W bi nx si l
  sep : ∀ k, Own bo so k → ¬ Own bi si k
  ao : ∀ k, Own bo so k → w0.heap.size ≤ k
  ai : ∀ k, Own bi si k → w0.heap.size ≤ k
  bel : Below w0.heap.size w0 W
/-- All blocks of both. -/
def OwnX (bo : Nat) (so : Value) (bi : Nat) (si : Value) : Nat → Prop := fun k => Own bo so k ∨ Own bi si k
section
variable {w0 W W' : World} {bo bi a a' : Nat} {so so' si si' : Value} {xs xs' : List E} {nx nx' : Int} {l l' : List Rw}
theorem OX.lt (h : OX w0 W bo so a xs bi nx si l) : ∀ k, OwnX bo so bi si k → k < W.heap.size := fun k hk => hk.elim (h.o.lt k) (h.i.lt k)
theorem OX.stepO (h : OX w0 W bo so a xs bi nx si l) (ho : OutR W' bo so' a' xs') (hk : Kept (Own bo so) W W') (hn : Nw W so so') : OX w0 W' bo so' a' xs' bi nx si l :=
  ⟨ho, h.i.keep hk (fun k hk hs => h.sep k hs hk), sep_step h.sep hn h.i.lt, ab_step h.ao hn h.bel.size, h.ai, below_step h.bel hk h.ao⟩
theorem OX.stepI (h : OX w0 W bo so a xs bi nx si l) (hi : InR W' bi nx' si' l') (hk : Kept (Own bi si) W W') (hn : Nw W si si') : OX w0 W' bo so a xs bi nx' si' l' :=
  ⟨h.o.keep hk (fun k hk hs => h.sep k hk hs), hi, fun k h1 h2 => sep_step (fun i h3 h4 => h.sep i h4 h3) hn h.o.lt k h2 h1, h.ao, ab_step h.ai hn h.bel.size, below_step h.bel hk h.ai⟩
theorem OX.below (h : OX w0 W bo so a xs bi nx si l) (hb : Below W.heap.size W W') : OX w0 W' bo so a xs bi nx si l :=
  ⟨h.o.below hb, h.i.below hb, h.sep, h.ao, h.ai, h.bel.trans (hb.mono h.bel.size)⟩
theorem ownX_step {S : Nat → Prop} (_hk : Kept S W W') (hn : Nw W si si') : ∀ i, OwnX bo so bi si' i → OwnX bo so bi si i ∨ W.heap.size ≤ i := fun i hi => by
  rcases hi with hi | hi | hi
  · exact .inl (.inl hi)
  · exact .inl (.inr (.inl hi))
  · exact (hn i hi).imp (fun h => .inr (.inr h)) id
theorem ownX_stepO {S : Nat → Prop} (_hk : Kept S W W') (hn : Nw W so so') : ∀ i, OwnX bo so' bi si i → OwnX bo so bi si i ∨ W.heap.size ≤ i := fun i hi => by
  rcases hi with (hi | hi) | hi
  · exact .inl (.inl (.inl hi))
  · exact (hn i hi).imp (fun h => .inl (.inr h)) id
  · exact .inl (.inr hi)
theorem ox_new (w : World) : OX w ((w.alloc (.cells #[.slice none 0 0, .int .i64 0] 68)).alloc (.cells #[.slice none 0 0, .int .i64 0] 79)) w.heap.size (.slice none 0 0) 0 [] (w.heap.size + 1) 0 (.slice none 0 0) [] := by
  have hz : (w.alloc (.cells #[.slice none 0 0, .int .i64 0] 68)).heap.size = w.heap.size + 1 := by simp
  have h1 := InR.new (w.alloc (.cells #[.slice none 0 0, .int .i64 0] 68)) 0 (by decide)
  rw [hz] at h1
  refine ⟨(OutR.new w).below ((Below.refl _ _).alloc (Nat.le_refl _) _), h1, fun k h2 h3 => ?_, fun k h2 => ?_, fun k h2 => ?_, ((Below.refl _ _).alloc (Nat.le_refl _) _).alloc (by simp) _⟩
  · rcases h2 with h2 | h2
    · rcases h3 with h3 | h3
      · omega
      · cases h3
    · cases h2
  · rcases h2 with h2 | h2
    · omega
    · cases h2
  · rcases h2 with h2 | h2
    · omega
    · cases h2
theorem ox_push (h : OX w0 W bo so a xs bi nx si l) {v : Value} {m : List E} (hv : At W v m) (hm : xs.length + m.length ≤ 5000) : Calls Try.prog 30 #[.pointer (some ⟨bo, 0, none⟩), v] W fun e w' => e = .returned (.int .i64 ((xs.length + m.length : Nat) : Int)) ∧ ∃ so', OX w0 w' bo so' a (xs ++ m) bi nx si l :=
  (push_any h.o hv hm).mono fun _ _ ⟨h1, so', h2, h3, h4⟩ => ⟨h1, so', h.stepO h2 h3 h4⟩
theorem ox_ack (h : OX w0 W bo so a xs bi nx si l) (x : Int) : Calls Try.prog 31 #[.pointer (some ⟨bo, 0, none⟩), .int .i64 x] W fun e w' => e = .returned (.int .i64 ((ackN a xs.length x : Nat) : Int)) ∧ OX w0 w' bo so (ackN a xs.length x) xs bi nx si l :=
  (ack_any h.o x).mono fun _ _ ⟨h1, h2, h3⟩ => ⟨h1, h.stepO h2 (h3.mono fun _ _ e => .inl e) (Nw.refl _ _)⟩
theorem ox_window (h : OX w0 W bo so a xs bi nx si l) : Calls Try.prog 32 #[.pointer (some ⟨bo, 0, none⟩)] W fun e w' => ∃ A c, e = .returned (.tuple #[.int .i64 (a : Int), .slice A (winL xs a).length c]) ∧ OX w0 w' bo so a xs bi nx si l ∧ Fr w' (.slice A (winL xs a).length c) (winL xs a) (OwnX bo so bi si) :=
  (window_any h.o).mono fun _ _ ⟨A, c, h1, h2, h3⟩ => ⟨A, c, h1, h.below h3, Fr.of_own h2 h.lt⟩
theorem ox_start (h : OX w0 W bo so a xs bi nx si l) (x : Int) (h0 : 0 ≤ x) (h1 : x ≤ 1099511627776) : Calls Try.prog 33 #[.pointer (some ⟨bi, 0, none⟩), .int .i64 x] W fun e w' => e = .returned (.int .i64 0) ∧ OX w0 w' bo so a xs bi x (.slice none 0 0) [] ∧ Kept (Own bi si) W w' :=
  (start_ok h.i x h0 h1).mono fun _ _ ⟨h1, h2, h3⟩ => ⟨h1, h.stepI h2 (h3.mono fun _ _ e => .inl e) (fun i hi => by cases hi), h3.mono fun _ _ e => .inl e⟩
theorem ox_offer (h : OX w0 W bo so a xs bi nx si l) {v : Value} {m : List E} (hf : Fr W v m (OwnX bo so bi si)) (n : Int) (hn : n ≤ 9223372036854775807) (x : E) : Calls Try.prog 34 #[.pointer (some ⟨bi, 0, none⟩), .int .i64 n, Value.string x] W fun e w' => e = .returned (.int .i64 (offE nx l n)) ∧ ∃ si', OX w0 w' bo so a xs bi nx si' (offL nx l n x) ∧ Fr w' v m (OwnX bo so bi si') :=
  (offer_any h.i n hn x).mono fun _ _ ⟨h1, si', h2, h3, h4⟩ => ⟨h1, si', h.stepI h2 h3 h4, hf.step h3 (fun _ hi => .inr hi) (ownX_step h3 h4)⟩
theorem ox_ready (h : OX w0 W bo so a xs bi nx si l) {v : Value} {m : List E} (hf : Fr W v m (OwnX bo so bi si)) : Calls Try.prog 35 #[.pointer (some ⟨bi, 0, none⟩)] W fun e w' => e = .returned (.tuple #[el (rdy nx l), .bool (hasB l nx)]) ∧ OX w0 w' bo so a xs bi nx si l ∧ Fr w' v m (OwnX bo so bi si) :=
  (ready_any h.i).mono fun _ _ ⟨h1, h2⟩ => ⟨h1, h.below h2, hf.step (Kept.of_below h2) (S := fun _ => False) (fun _ h => h.elim) (fun _ h => .inl h)⟩
theorem ox_popn (h : OX w0 W bo so a xs bi nx si l) (hh : hasB l nx = false) : Calls Try.prog 36 #[.pointer (some ⟨bi, 0, none⟩)] W fun e w' => e = .returned (.tuple #[.string ByteArray.empty, .bool false]) ∧ OX w0 w' bo so a xs bi nx si l :=
  (pop_no h.i hh).mono fun _ _ ⟨h1, h2⟩ => ⟨h1, h.below h2⟩
theorem ox_popy (h : OX w0 W bo so a xs bi nx si l) (hh : hasB l nx = true) (hle : nx < 4398046511104) {v : Value} {m : List E} (hf : Fr W v m (OwnX bo so bi si)) : Calls Try.prog 36 #[.pointer (some ⟨bi, 0, none⟩)] W fun e w' => e = .returned (.tuple #[el (rdy nx l), .bool true]) ∧ ∃ si', OX w0 w' bo so a xs bi (nx + 1) si' (dropL l nx) ∧ Fr w' v m (OwnX bo so bi si') :=
  (pop_yes h.i hh hle).mono fun _ _ ⟨h1, si', h2, h3, h4⟩ => ⟨h1, si', h.stepI h2 h3 h4, hf.step h3 (fun _ hi => .inr hi) (ownX_step h3 h4)⟩
end
/-- What comes in, all of it new since w0. -/
structure IX (w0 W : World) (bi : Nat) (nx : Int) (si : Value) (l : List Rw) : Prop where
  i : InR W bi nx si l
  ai : ∀ k, Own bi si k → w0.heap.size ≤ k
  bel : Below w0.heap.size w0 W
section
variable {w0 W W' : World} {bi : Nat} {si si' : Value} {nx nx' : Int} {l l' : List Rw} {v : Value} {m : List E}
theorem IX.step (h : IX w0 W bi nx si l) (hi : InR W' bi nx' si' l') (hk : Kept (Own bi si) W W') (hn : Nw W si si') : IX w0 W' bi nx' si' l' :=
  ⟨hi, ab_step h.ai hn h.bel.size, below_step h.bel hk h.ai⟩
theorem IX.below (h : IX w0 W bi nx si l) (hb : Below W.heap.size W W') : IX w0 W' bi nx si l := ⟨h.i.below hb, h.ai, h.bel.trans (hb.mono h.bel.size)⟩
theorem own_step {S : Nat → Prop} {W W' : World} {b : Nat} {v v' : Value} (_hk : Kept S W W') (hn : Nw W v v') : ∀ i, Own b v' i → Own b v i ∨ W.heap.size ≤ i := fun i hi => by
  rcases hi with hi | hi
  · exact .inl (.inl hi)
  · exact (hn i hi).imp (fun h => .inr h) id
theorem ix_new (w0 w : World) (hb : Below w0.heap.size w0 w) (hf : Fr w v m (fun _ => False)) : IX w0 (w.alloc (.cells #[.slice none 0 0, .int .i64 0] 79)) w.heap.size 0 (.slice none 0 0) [] ∧ Fr (w.alloc (.cells #[.slice none 0 0, .int .i64 0] 79)) v m (Own w.heap.size (.slice none 0 0)) :=
  ⟨⟨InR.new w 0 (by decide), fun k hk => hk.elim (fun e => by have := hb.size; omega) (fun e => by cases e), hb.alloc hb.size _⟩,
    hf.step (Kept.of_alloc (fun _ => False) w _) (fun _ h => h) (fun k hk => hk.elim (fun e => .inr (by omega)) (fun e => by cases e))⟩
theorem ix_start (h : IX w0 W bi nx si l) (hf : Fr W v m (Own bi si)) (x : Int) (h0 : 0 ≤ x) (h1 : x ≤ 1099511627776) : Calls Try.prog 33 #[.pointer (some ⟨bi, 0, none⟩), .int .i64 x] W fun e w' => e = .returned (.int .i64 0) ∧ IX w0 w' bi x (.slice none 0 0) [] ∧ Fr w' v m (Own bi (.slice none 0 0)) :=
  (start_ok h.i x h0 h1).mono fun _ _ ⟨h1, h2, h3⟩ => ⟨h1, h.step h2 (h3.mono fun _ _ e => .inl e) (fun i hi => by cases hi), hf.step h3 (fun _ e => .inl e) (fun i hi => hi.elim (fun e => .inl (.inl e)) (fun e => by cases e))⟩
theorem ix_offer (h : IX w0 W bi nx si l) (hf : Fr W v m (Own bi si)) (n : Int) (hn : n ≤ 9223372036854775807) (x : E) : Calls Try.prog 34 #[.pointer (some ⟨bi, 0, none⟩), .int .i64 n, Value.string x] W fun e w' => e = .returned (.int .i64 (offE nx l n)) ∧ ∃ si', IX w0 w' bi nx si' (offL nx l n x) ∧ Fr w' v m (Own bi si') :=
  (offer_any h.i n hn x).mono fun _ _ ⟨h1, si', h2, h3, h4⟩ => ⟨h1, si', h.step h2 h3 h4, hf.step h3 (fun _ hi => hi) (own_step h3 h4)⟩
theorem ix_ready (h : IX w0 W bi nx si l) (hf : Fr W v m (Own bi si)) : Calls Try.prog 35 #[.pointer (some ⟨bi, 0, none⟩)] W fun e w' => e = .returned (.tuple #[el (rdy nx l), .bool (hasB l nx)]) ∧ IX w0 w' bi nx si l ∧ Fr w' v m (Own bi si) :=
  (ready_any h.i).mono fun _ _ ⟨h1, h2⟩ => ⟨h1, h.below h2, hf.step (Kept.of_below h2) (S := fun _ => False) (fun _ h => h.elim) (fun _ h => .inl h)⟩
theorem ix_popn (h : IX w0 W bi nx si l) (hf : Fr W v m (Own bi si)) (hh : hasB l nx = false) : Calls Try.prog 36 #[.pointer (some ⟨bi, 0, none⟩)] W fun e w' => e = .returned (.tuple #[.string ByteArray.empty, .bool false]) ∧ IX w0 w' bi nx si l ∧ Fr w' v m (Own bi si) :=
  (pop_no h.i hh).mono fun _ _ ⟨h1, h2⟩ => ⟨h1, h.below h2, hf.step (Kept.of_below h2) (S := fun _ => False) (fun _ h => h.elim) (fun _ h => .inl h)⟩
theorem ix_popy (h : IX w0 W bi nx si l) (hf : Fr W v m (Own bi si)) (hh : hasB l nx = true) (hle : nx < 4398046511104) : Calls Try.prog 36 #[.pointer (some ⟨bi, 0, none⟩)] W fun e w' => e = .returned (.tuple #[el (rdy nx l), .bool true]) ∧ ∃ si', IX w0 w' bi (nx + 1) si' (dropL l nx) ∧ Fr w' v m (Own bi si') :=
  (pop_yes h.i hh hle).mono fun _ _ ⟨h1, si', h2, h3, h4⟩ => ⟨h1, si', h.step h2 h3 h4, hf.step h3 (fun _ hi => hi) (own_step h3 h4)⟩
end
/-- What goes out, all of it new since w0. -/
structure OO (w0 W : World) (bo : Nat) (so : Value) (a : Nat) (xs : List E) : Prop where
  o : OutR W bo so a xs
  ao : ∀ k, Own bo so k → w0.heap.size ≤ k
  bel : Below w0.heap.size w0 W
section
variable {w0 W W' : World} {bo a a' : Nat} {so so' : Value} {xs xs' : List E}
theorem OO.step (h : OO w0 W bo so a xs) (ho : OutR W' bo so' a' xs') (hk : Kept (Own bo so) W W') (hn : Nw W so so') : OO w0 W' bo so' a' xs' :=
  ⟨ho, ab_step h.ao hn h.bel.size, below_step h.bel hk h.ao⟩
theorem OO.below (h : OO w0 W bo so a xs) (hb : Below W.heap.size W W') : OO w0 W' bo so a xs := ⟨h.o.below hb, h.ao, h.bel.trans (hb.mono h.bel.size)⟩
theorem oo_new (w : World) : OO w (w.alloc (.cells #[.slice none 0 0, .int .i64 0] 68)) w.heap.size (.slice none 0 0) 0 [] :=
  ⟨OutR.new w, fun k hk => hk.elim (fun e => by omega) (fun e => by cases e), (Below.refl _ _).alloc (Nat.le_refl _) _⟩
theorem oo_push (h : OO w0 W bo so a xs) {v : Value} {m : List E} (hv : At W v m) (hm : xs.length + m.length ≤ 5000) : Calls Try.prog 30 #[.pointer (some ⟨bo, 0, none⟩), v] W fun e w' => e = .returned (.int .i64 ((xs.length + m.length : Nat) : Int)) ∧ ∃ so', OO w0 w' bo so' a (xs ++ m) :=
  (push_any h.o hv hm).mono fun _ _ ⟨h1, so', h2, h3, h4⟩ => ⟨h1, so', h.step h2 h3 h4⟩
theorem oo_ack (h : OO w0 W bo so a xs) (x : Int) : Calls Try.prog 31 #[.pointer (some ⟨bo, 0, none⟩), .int .i64 x] W fun e w' => e = .returned (.int .i64 ((ackN a xs.length x : Nat) : Int)) ∧ OO w0 w' bo so (ackN a xs.length x) xs :=
  (ack_any h.o x).mono fun _ _ ⟨h1, h2, h3⟩ => ⟨h1, h.step h2 (h3.mono fun _ _ e => .inl e) (Nw.refl _ _)⟩
theorem oo_window (h : OO w0 W bo so a xs) : Calls Try.prog 32 #[.pointer (some ⟨bo, 0, none⟩)] W fun e w' => ∃ A c, e = .returned (.tuple #[.int .i64 (a : Int), .slice A (winL xs a).length c]) ∧ OO w0 w' bo so a xs ∧ rowOf w' W.heap.size (.slice A (winL xs a).length c) (winL xs a) ∧ Below W.heap.size W w' :=
  (window_any h.o).mono fun _ _ ⟨A, c, h1, h2, h3⟩ => ⟨A, c, h1, h.below h3, h2, h3⟩
end
end Go.Proofs.Ytaidihilhblhgaa.Wi.S
