/-
  What FrameAlls keeps: two boxes that are written, all else as it lay. Conditions: none.
-/
import Derived.Test.YtmcoinfdgidblaaFRAll
import Derived.Test.YtmcoinfdgidblaaFAll1
import Derived.Test.YtmcoinfdgidblaaFWhole
namespace Go.Proofs.Ytmcoinfdgidblaa.Fr
open Go.RowKit Go.Shelf

theorem own_form {w : World} {base : Nat} {e : TypeId} {size n : Nat} {v : Value} {xs : List Value} (h : w.ownsRow base e size v n xs) : ∃ A c, v = .slice A n c := by
  rcases h.2 with ⟨h1, h2⟩ | ⟨g, cap, _, h1, _⟩
  · exact ⟨none, 0, by rw [h1, h2]⟩
  · exact ⟨_, _, h1⟩
theorem rall_at (w : World) (A : Option Addr) (m cap N : Nat) (L : List Int) (hL : BAt w (.slice A m cap) L) (hb : bok L) (hm : m ≤ 1000) (hN : (allF L).length = N) :
    Calls Try.prog 17 #[.slice A m cap] w fun e w' => ∃ A1 c1 A2 c2 us q, e = .returned (.tuple #[.slice A1 N c1, .slice A2 N c2]) ∧ RaI w L (allF L) us (.slice A1 N c1) (.slice A2 N c2) q w' :=
  (rall_any w A m cap L hL hb hm).mono fun e w' ⟨v1, v2, us, q, h1, h2⟩ => by
    obtain ⟨A1, c1, h3⟩ := own_form h2.ints
    obtain ⟨A2, c2, h4⟩ := own_form h2.rows
    rw [hN] at h3 h4
    subst h3 h4
    exact ⟨A1, c1, A2, c2, us, q, h1, h2⟩
theorem own_place {w : World} {base : Nat} {e : TypeId} {n cap N : Nat} {A : Option Addr} {xs : List Value} (h : w.ownsRow base e 1 (.slice A N cap) n xs) {j : Nat} {u : Value} (hu : xs[j]? = some u) : ∃ g, A = some ⟨g, 0, none⟩ ∧ w.cell? ⟨g, j, none⟩ = some u ∧ g < w.heap.size := by
  have hj : j < xs.length := (List.getElem?_eq_some_iff.1 hu).1
  rcases h.2 with ⟨h1, h2⟩ | ⟨g, cap', cur, h1, _, h3, _⟩
  · have := h.1; omega
  · cases h1
    have h5 := h.cells (g := g) rfl j u hu
    rw [show (Addr.mk g 0 none).add j = ⟨g, 0 + j, none⟩ by unfold Addr.add; split <;> simp_all, Nat.zero_add] at h5
    exact ⟨g, rfl, h5, (Array.getElem?_eq_some_iff.1 h3).1⟩
/-- The frame j, as All has gathered it. -/
theorem RaI.get {w w2 : World} {L : List Int} {us : List Value} {A1 A2 : Option Addr} {N c1 c2 q : Nat} (h : RaI w L (allF L) us (.slice A1 N c1) (.slice A2 N c2) q w2) {pre r : List Fr} {x : Fr} (hf : allF L = pre ++ x :: r) :
    (∃ g, A1 = some ⟨g, 0, none⟩ ∧ w2.cell? ⟨g, pre.length, none⟩ = some (.int .i64 (x.1 : Int)) ∧ g < w2.heap.size) ∧ ∃ g u, A2 = some ⟨g, 0, none⟩ ∧ w2.cell? ⟨g, pre.length, none⟩ = some u ∧ g < w2.heap.size ∧ BAt w u x.2 := by
  have hlt : pre.length < (allF L).length := by rw [hf]; simp
  have hx : (allF L)[pre.length]? = some x := by rw [hf]; simp
  refine ⟨?_, ?_⟩
  · have h1 : (ivs (allF L))[pre.length]? = some (.int .i64 (x.1 : Int)) := by simp only [ivs, List.getElem?_map]; rw [hx]; rfl
    exact own_place h.ints h1
  · have h2 : pre.length < us.length := by rw [h.len]; exact hlt
    obtain ⟨g, h3, h4, h5⟩ := own_place h.rows (List.getElem?_eq_getElem h2)
    refine ⟨g, _, h3, h4, h5, ?_⟩
    have h6 := h.bat _ _ (List.getElem?_eq_getElem h2)
    rw [show (allF L).getD pre.length (0, []) = x by simp only [List.getD]; rw [hx]; rfl] at h6
    exact h6
theorem BAt.bk {w : World} {v : Value} {l : List Int} (h : BAt w v l) : BK (fun k => k < w.heap.size) v l := fun hp a n c ha => by
  obtain ⟨A, cap, h1, h2, h3⟩ := h
  obtain ⟨g, o, h4, h5, _⟩ := h3 hp
  rw [h1, h4] at ha
  cases ha
  exact h5

/-- All but two boxes lies as it lay. -/
structure Xc (b7 b9 : Nat) (W4 W : World) : Prop where
  os : W.os = W4.os
  tape : W.tape = W4.tape
  output : W.output = W4.output
  size : W4.heap.size ≤ W.heap.size
  block : ∀ k, k < W4.heap.size → k ≠ b7 → k ≠ b9 → W.heap[k]? = W4.heap[k]?
theorem Xc.refl (b7 b9 : Nat) (W : World) : Xc b7 b9 W W := ⟨rfl, rfl, rfl, Nat.le_refl _, fun _ _ _ _ => rfl⟩
theorem Xc.below {b7 b9 : Nat} {W4 W W' : World} (h : Xc b7 b9 W4 W) (hb : Below W.heap.size W W') : Xc b7 b9 W4 W' :=
  ⟨hb.os.trans h.os, hb.tape.trans h.tape, hb.output.trans h.output, Nat.le_trans h.size hb.size, fun k h1 h2 h3 => (hb.block k (Nat.lt_of_lt_of_le h1 h.size)).trans (h.block k h1 h2 h3)⟩
theorem Xc.set {b7 b9 : Nat} {W4 W : World} (h : Xc b7 b9 W4 W) {p : Addr} (hp : p.block = b7 ∨ p.block = b9) (u : Value) : Xc b7 b9 W4 (W.setCell p u) :=
  ⟨h.os, h.tape, h.output, Nat.le_trans h.size (by simp [World.setCell]), fun k h1 h2 h3 => (Below.heap_setCell _ _ _ _ (fun e => by rcases hp with h4 | h4 <;> omega)).trans (h.block k h1 h2 h3)⟩
theorem Xc.cell {b7 b9 : Nat} {W4 W : World} (h : Xc b7 b9 W4 W) {g o : Nat} {u : Value} (hc : W4.cell? ⟨g, o, none⟩ = some u) (h7 : g ≠ b7) (h9 : g ≠ b9) : W.cell? ⟨g, o, none⟩ = some u := by
  have hg : g < W4.heap.size := World.block_lt_of_cell? _ _ hc
  simp only [World.cell?] at hc ⊢
  rw [h.block g hg h7 h9]
  exact hc
theorem Xc.ks {b7 b9 n0 : Nat} {W4 W : World} (h : Xc b7 b9 W4 W) (h7 : n0 ≤ b7) (h9 : n0 ≤ b9) : KS (fun k => k < n0) W4 W :=
  ⟨h.size, fun k (h1 : k < n0) h2 => h.block k h2 (by omega) (by omega)⟩
theorem Xc.to {b7 b9 n0 : Nat} {W4 W : World} (h : Xc b7 b9 W4 W) (h7 : n0 ≤ b7) (h9 : n0 ≤ b9) (h4 : n0 ≤ W4.heap.size) : Below n0 W4 W :=
  ⟨h.os, h.tape, h.output, h.size, fun k hk => h.block k (by omega) (by omega) (by omega)⟩
theorem Xc.own {b7 b9 B : Nat} {W4 : World} {β : Type} (hB : W4.heap.size ≤ B) : OwnFrom B (fun (_ : β) W => Xc b7 b9 W4 W) := fun _ X Y row hs hg hr =>
  ⟨hg.os.trans hs.os, hg.tape.trans hs.tape, hg.output.trans hs.output, Nat.le_trans hs.size hg.size, fun k h1 h2 h3 => (hg.block k (Nat.lt_of_lt_of_le h1 hs.size) (fun e => by have := (hr k e.symm).1; omega)).trans (hs.block k h1 h2 h3)⟩
theorem boxed_kept {W W' : World} {b : Nat} {t : TypeId} {v : Value} (h : Boxed W b t v) (hb : Below W.heap.size W W') : Boxed W' b t v := block_kept h hb
theorem ownFrom_pure2 {β : Type} (B : Nat) (p : β → Prop) : OwnFrom B (fun s (_ : World) => p s) := fun _ _ _ _ hs _ _ => hs
/-- What holds between two rounds. -/
def AlI (b7 b9 _st : Nat) (W4 : World) (pre : List Fr) (W : World) : Prop :=
  (Boxed W b7 3 (.int .i64 (pre.length : Int)) ∧ Boxed W b9 4 (.bool true)) ∧ Xc b7 b9 W4 W
theorem AlI.own {b7 b9 st B : Nat} {W4 : World} (hB : W4.heap.size ≤ B) : OwnFrom B (AlI b7 b9 st W4) :=
  OwnFrom.and (OwnFrom.and (Own.from (boxed_own b7 3 (fun pre : List Fr => .int .i64 (pre.length : Int))) _) (Own.from (boxed_own b9 4 (fun _ : List Fr => .bool true)) _)) (Xc.own hB)
/-- One round: both boxes are written. -/
theorem AlI.step {b7 b9 st lo : Nat} {W4 W w6 : World} {pre : List Fr} {x : Fr} (h : AlI b7 b9 st W4 pre W) (hb : Below W.heap.size W w6) (h7 : b7 < lo) (h9 : b9 < lo) (hne : b7 ≠ b9) :
    KS (fun k => lo ≤ k) W ((w6.setCell ⟨b9, 0, none⟩ (.bool true)).setCell ⟨b7, 0, none⟩ (.int .i64 ((pre.length + 1 : Nat) : Int))) ∧
      AlI b7 b9 st W4 (pre ++ [x]) ((w6.setCell ⟨b9, 0, none⟩ (.bool true)).setCell ⟨b7, 0, none⟩ (.int .i64 ((pre.length + 1 : Nat) : Int))) := by
  obtain ⟨⟨k7, k9⟩, hx⟩ := h
  refine ⟨((KS.of_below hb).trans (KS.set (by show ¬ lo ≤ b9; omega) _)).trans (KS.set (by show ¬ lo ≤ b7; omega) _), ⟨?_, ?_⟩, ((hx.below hb).set (p := ⟨b9, 0, none⟩) (.inr rfl) _).set (p := ⟨b7, 0, none⟩) (.inl rfl) _⟩
  · show Boxed _ _ _ (.int .i64 ((pre ++ [x]).length : Int))
    rw [List.length_append]
    exact ((boxed_kept k7 hb).other hne _).set _
  · exact ((boxed_kept k9 hb).set _).other (fun e => hne e.symm) _
theorem whF_take {xs : List Fr} {i : Nat} (h : i < xs.length) : whF (xs.take (i + 1)) = whF (xs.take i) + (xs[i].2.length + 8) := by
  rw [List.take_succ_eq_append_getElem h, whF_snoc]
theorem split_fit {xs : List Fr} {i : Nat} (h : i < xs.length) : xs = xs.take i ++ xs[i] :: xs.drop (i + 1) := by
  rw [← List.drop_eq_getElem_cons h, List.take_append_drop]
end Go.Proofs.Ytmcoinfdgidblaa.Fr
