/-
  The contracts of seal and unseal. Conditions: at most a thousand bytes.
-/
import Derived.Test.YtganokcmcdkdgaaGreatPZ9
import Derived.Test.YtganokcmcdkdgaaGreatORCnt
import Derived.Test.YtganokcmcdkdgaaGreatOWrite
import Derived.Test.YtganokcmcdkdgaaGreatPZ10
namespace Go.Proofs.YtganokcmcdkdgaaGreat.Jo
open Go.RowKit Fr
attribute [local go_sem] Oper.semAt_some

theorem oc_at {w : World} {v : Value} {l : List Int} (h : BAt w v l) : Oc.BAt w v l := h
theorem grp_bok {n : Nat} (h : n < 18446744073709551616) : bok (Oc.grp n) := Oc.grp_bok h
theorem alloc_below (w : World) (o : Obj) : Below w.heap.size w (w.alloc o) := (Below.refl _ _).alloc (Nat.le_refl _) _
/-- The bytes of a record's frame. -/
def recF (n : Nat) (l : List Int) : List Int := frF (Oc.grp n ++ l)
theorem recF_len (n : Nat) (l : List Int) : (recF n l).length = (Oc.grp n).length + l.length + 8 := by
  unfold recF; rw [frF_len, List.length_append]
/-- Bytes behind a row, with the length by name. -/
theorem app_named {w : World} {base k m p : Nat} {v x : Value} {l b : List Int} (hown : w.ownsRow base 5 1 v k (bv l)) (hk : k = l.length) (hx : BAt w x b) (hm : b.length = m) (hp : p = k + m) (hb : p ≤ 4000000) (hbase : base ≤ w.heap.size) :
    ∃ A cap w', (Builtin.append_ #[22, 22] 22 #[v, x]).run Tryz.prog w = .ok (.slice A p cap) w' ∧ BAt w' (.slice A p cap) (l ++ b) ∧ w'.ownsRow base 5 1 (.slice A p cap) (l ++ b).length (bv (l ++ b)) ∧ w.grownBy w' v.ownBlock := by
  subst hk hm hp
  obtain ⟨A, cap, w', h1, h2, h3⟩ := app_any w base v l hown x b hx hb hbase
  exact ⟨A, cap, w', h1, BAt.of_own h2, h2, h3⟩
theorem make_atK (w : World) (A : Option Addr) (m c q : Nat) (l : List Int) (h : BAt w (.slice A m c) l) (hb : bok l) (hm : m ≤ 1048568) (hq : q = m + 8) :
    Calls Tryz.prog 21 #[.slice A m c] w fun e w' => ∃ A' c', e = .returned (.tuple #[.slice A' q c', .int .i64 0]) ∧ (BAt w' (.slice A' q c') (frF l) ∧ BK (fun k => w.heap.size ≤ k) (.slice A' q c') (frF l)) ∧ Below w.heap.size w w' := by
  have hl := h.len.1
  refine (make_any w _ l h hb (by omega)).mono fun e w' ⟨⟨A', c', h1, h2⟩, h3⟩ => ?_
  rw [hl, ← hq] at h1 h2
  refine ⟨A', c', h1, ⟨BAt.of_own h2, fun _ a n c ha => ?_⟩, h3⟩
  cases ha
  exact (h2.lt a.block rfl).1
end Go.Proofs.YtganokcmcdkdgaaGreat.Jo

namespace Go.Proofs.YtganokcmcdkdgaaGreat.Sp
open Go.RowKit Fr

/-- A slice of slices that hold these bytes. -/
def RowsA (w : World) (v : Value) (bs : List (List Int)) : Prop := ∃ A cap, v = .slice A bs.length cap ∧ (0 < bs.length → ∃ g o, A = some ⟨g, o, none⟩ ∧ g < w.heap.size ∧ ∀ (i : Nat) (b : List Int), bs[i]? = some b → ∃ u, w.cell? ⟨g, o + i, none⟩ = some u ∧ BAt w u b)
theorem RowsA.below {w w' : World} {v : Value} {bs : List (List Int)} (h : RowsA w v bs) (hb : Below w.heap.size w w') : RowsA w' v bs := by
  obtain ⟨A, cap, e, h1⟩ := h
  refine ⟨A, cap, e, fun hp => ?_⟩
  obtain ⟨g, o, e2, hg, h2⟩ := h1 hp
  refine ⟨g, o, e2, Nat.lt_of_lt_of_le hg hb.size, fun i b hi => ?_⟩
  obtain ⟨u, h3, h4⟩ := h2 i b hi
  exact ⟨u, (hb.cell (p := ⟨g, o + i, none⟩) hg).trans h3, h4.kept hb⟩
theorem rows_len {w : World} {A : Option Addr} {n c : Nat} {ls : List (List Int)} (h : RowsA w (.slice A n c) ls) : n = ls.length := by
  obtain ⟨A', cap, e, _⟩ := h
  cases e; rfl
/-- Record i of the slice. -/
theorem rows_at {w : World} {A : Option Addr} {n c i : Nat} {ls : List (List Int)} (h : RowsA w (.slice A n c) ls) (hi : i < n) : ∃ (g o : Nat) (Au : Option Addr) (q cu : Nat) (l : List Int), A = some ⟨g, o, none⟩ ∧ ls[i]? = some l ∧ q = l.length ∧ w.cell? ⟨g, o + i, none⟩ = some (.slice Au q cu) ∧ BAt w (.slice Au q cu) l := by
  have hl := rows_len h
  obtain ⟨A', cap, e, h1⟩ := h
  cases e
  obtain ⟨g, o, e2, hg, h2⟩ := h1 (by omega)
  have h3 : ls[i]? = some ls[i] := List.getElem?_eq_getElem (by omega)
  obtain ⟨u, h4, h5⟩ := h2 i _ h3
  obtain ⟨Au, cu, e5, h6⟩ := id h5
  subst e5
  exact ⟨g, o, Au, _, cu, _, e2, h3, rfl, h4, h5⟩
theorem RowsA.nil (w : World) (c : Nat) (A : Option Addr) : RowsA w (.slice A 0 c) [] := ⟨A, c, rfl, fun h => absurd h (Nat.lt_irrefl 0)⟩
/-- The same, in blocks from N on. -/
def RowsF (N : Nat) (w : World) (v : Value) (bs : List (List Int)) : Prop := ∃ A cap, v = .slice A bs.length cap ∧ (0 < bs.length → ∃ g o, A = some ⟨g, o, none⟩ ∧ N ≤ g ∧ g < w.heap.size ∧ ∀ (i : Nat) (b : List Int), bs[i]? = some b → ∃ u, w.cell? ⟨g, o + i, none⟩ = some u ∧ BAt w u b ∧ BK (fun k => N ≤ k) u b)
theorem RowsF.toA {N : Nat} {w : World} {v : Value} {bs : List (List Int)} (h : RowsF N w v bs) : RowsA w v bs := by
  obtain ⟨A, cap, e, h1⟩ := h
  refine ⟨A, cap, e, fun hp => ?_⟩
  obtain ⟨g, o, e2, _, hg, h2⟩ := h1 hp
  refine ⟨g, o, e2, hg, fun i b hi => ?_⟩
  obtain ⟨u, h3, h4, _⟩ := h2 i b hi
  exact ⟨u, h3, h4⟩
theorem RowsF.from {M N : Nat} {w : World} {v : Value} {bs : List (List Int)} (h : RowsF N w v bs) (hm : M ≤ N) : RowsF M w v bs := by
  obtain ⟨A, cap, e, h1⟩ := h
  refine ⟨A, cap, e, fun hp => ?_⟩
  obtain ⟨g, o, e2, hN, hg, h2⟩ := h1 hp
  refine ⟨g, o, e2, Nat.le_trans hm hN, hg, fun i b hi => ?_⟩
  obtain ⟨u, h3, h4, h5⟩ := h2 i b hi
  exact ⟨u, h3, h4, fun hp a n c ha => Nat.le_trans hm (h5 hp a n c ha)⟩
theorem RowsF.nil (N : Nat) (w : World) (c : Nat) (A : Option Addr) : RowsF N w (.slice A 0 c) [] := ⟨A, c, rfl, fun h => absurd h (Nat.lt_irrefl 0)⟩
theorem bat_kept {w w' : World} {v : Value} {l : List Int} (h : BAt w v l) (hk : ∀ (_hp : 0 < l.length) a n c, v = .slice (some a) n c → w'.heap[a.block]? = w.heap[a.block]?) : BAt w' v l := by
  obtain ⟨A, cap, e1, e2, e3⟩ := h
  refine ⟨A, cap, e1, e2, fun hp => ?_⟩
  obtain ⟨g, o, e4, e5, e6⟩ := e3 hp
  have h1 := hk hp ⟨g, o, none⟩ _ _ (by rw [e1, e4])
  refine ⟨g, o, e4, ?_, fun i hi => ?_⟩
  · rcases Nat.lt_or_ge g w'.heap.size with h2 | h2
    · exact h2
    · rw [Array.getElem?_eq_none h2, Array.getElem?_eq_getElem e5] at h1; cases h1
  · have := e6 i hi
    simp only [World.cell?] at this ⊢
    rw [h1]; exact this
theorem bat_lt {w : World} {v : Value} {l : List Int} (h : BAt w v l) (hp : 0 < l.length) {a : Addr} {n c : Nat} (e : v = .slice (some a) n c) : a.block < w.heap.size := by
  obtain ⟨A, cap, e1, _, e3⟩ := h
  obtain ⟨g, o, e4, e5, _⟩ := e3 hp
  rw [e1, e4] at e
  cases e; exact e5
theorem RowsF.kept {N : Nat} {w w' : World} {v : Value} {bs : List (List Int)} (h : RowsF N w v bs) (hk : ∀ k, N ≤ k → k < w.heap.size → w'.heap[k]? = w.heap[k]?) (hs : w.heap.size ≤ w'.heap.size) : RowsF N w' v bs := by
  obtain ⟨A, cap, e, h1⟩ := h
  refine ⟨A, cap, e, fun hp => ?_⟩
  obtain ⟨g, o, e2, hN, hg, h2⟩ := h1 hp
  refine ⟨g, o, e2, hN, Nat.lt_of_lt_of_le hg hs, fun i b hi => ?_⟩
  obtain ⟨u, h3, h4, h5⟩ := h2 i b hi
  refine ⟨u, ?_, bat_kept h4 (fun hp a n c ha => hk _ (h5 hp a n c ha) (bat_lt h4 hp ha)), h5⟩
  have h6 := hk g hN hg
  simp only [World.cell?] at h3 ⊢
  rw [h6]; exact h3
end Go.Proofs.YtganokcmcdkdgaaGreat.Sp

namespace Go.Proofs.YtganokcmcdkdgaaGreat.Sp
open Go.RowKit Fr
attribute [local go_sem] Oper.semAt_some

theorem three {w : World} {b : Nat} {x y z : Value} {t : TypeId} (h : w.heap[b]? = some (.cells #[x, y, z] t (0, 0))) :
    (w.cell? ⟨b, 0, none⟩ = some x ∧ w.cell? ⟨b, 1, none⟩ = some y ∧ w.cell? ⟨b, 2, none⟩ = some z) ∧ w.frozen? ⟨b, 0, none⟩ = false ∧ w.frozen? ⟨b, 1, none⟩ = false ∧ w.frozen? ⟨b, 2, none⟩ = false :=
  ⟨⟨by simp [World.cell?, h], by simp [World.cell?, h], by simp [World.cell?, h]⟩, by simp [World.frozen?, h], by simp [World.frozen?, h], by simp [World.frozen?, h]⟩
theorem three_set {w : World} {b : Nat} {x y z u : Value} {t : TypeId} (h : w.heap[b]? = some (.cells #[x, y, z] t (0, 0))) :
    (w.setCell ⟨b, 1, none⟩ u).heap[b]? = some (.cells #[x, u, z] t (0, 0)) ∧ (w.setCell ⟨b, 2, none⟩ u).heap[b]? = some (.cells #[x, y, u] t (0, 0)) := by
  constructor
  · simp only [World.setCell, Array.getElem?_modify, if_true]; rw [h]; simp [Array.setIfInBounds]
  · simp only [World.setCell, Array.getElem?_modify, if_true]; rw [h]; simp [Array.setIfInBounds]
/-- The reference's reader b over the bytes D stands at m, with the mistake er. -/
def Qd (w : World) (b m : Nat) (er : Int) (D : List Int) : Prop :=
  ∃ A n c, w.heap[b]? = some (.cells #[.slice A n c, .int .i64 (m : Int), .int .i64 er] 62 (0, 0)) ∧ BAt w (.slice A n c) D ∧ BK (fun k => k < b) (.slice A n c) D ∧ bok D ∧ D.length ≤ 2000000 ∧ m ≤ D.length
theorem Qd.lt {w : World} {b m : Nat} {er : Int} {D : List Int} (h : Qd w b m er D) : b < w.heap.size := by
  obtain ⟨A, n, c, h1, _⟩ := h
  exact (Array.getElem?_eq_some_iff.1 h1).1
theorem Qd.upto {w w' : World} {b m : Nat} {er : Int} {D : List Int} (h : Qd w b m er D) (hk : ∀ k, k ≤ b → w'.heap[k]? = w.heap[k]?) : Qd w' b m er D := by
  obtain ⟨A, n, c, h1, h2, h3, h4⟩ := h
  exact ⟨A, n, c, (hk b (Nat.le_refl _)).trans h1, bat_kept h2 (fun hp a n c e => hk _ (Nat.le_of_lt (h3 hp a n c e))), h3, h4⟩
theorem Qd.below {w w' : World} {b m : Nat} {er : Int} {D : List Int} (h : Qd w b m er D) (hb : Below w.heap.size w w') : Qd w' b m er D := h.upto (fun k hk => hb.block k (Nat.lt_of_le_of_lt hk h.lt))
theorem Qd.set1 {w : World} {b m : Nat} {er : Int} {D : List Int} (h : Qd w b m er D) (k : Nat) (hk : k ≤ D.length) : Qd (w.setCell ⟨b, 1, none⟩ (.int .i64 (k : Int))) b k er D ∧ w.grownBy (w.setCell ⟨b, 1, none⟩ (.int .i64 (k : Int))) (some b) := by
  obtain ⟨A, n, c, h1, h2, h3, h4, h5, _⟩ := h
  have hg := grownBy_set w ⟨b, 1, none⟩ (.int .i64 (k : Int))
  refine ⟨⟨A, n, c, (three_set h1).1, bat_kept h2 (fun hp a n c e => ?_), h3, h4, h5, hk⟩, hg⟩
  have h6 := h3 hp a n c e
  exact hg.block _ (bat_lt h2 hp e) (fun e2 => by have h7 : a.block = b := Option.some.inj e2; omega)
theorem Qd.set2 {w : World} {b m : Nat} {er : Int} {D : List Int} (h : Qd w b m er D) (x : Int) : Qd (w.setCell ⟨b, 2, none⟩ (.int .i64 x)) b m x D ∧ w.grownBy (w.setCell ⟨b, 2, none⟩ (.int .i64 x)) (some b) := by
  obtain ⟨A, n, c, h1, h2, h3, h4, h5, h6⟩ := h
  have hg := grownBy_set w ⟨b, 2, none⟩ (.int .i64 x)
  refine ⟨⟨A, n, c, (three_set h1).2, bat_kept h2 (fun hp a n c e => ?_), h3, h4, h5, h6⟩, hg⟩
  have h6 := h3 hp a n c e
  exact hg.block _ (bat_lt h2 hp e) (fun e2 => by have h7 : a.block = b := Option.some.inj e2; omega)
/-- Behind a step of the reader. -/
def QTo (b : Nat) (w : World) (m : Nat) (er : Int) (D : List Int) (w' : World) : Prop := Qd w' b m er D ∧ w.grownBy w' (some b)
theorem QTo.trans {b m : Nat} {w w1 w2 : World} {er : Int} {D : List Int} (h : w.grownBy w1 (some b)) (k : QTo b w1 m er D w2) : QTo b w m er D w2 := ⟨k.1, grownBy_trans h k.2⟩
theorem QTo.refl {b m : Nat} {w : World} {er : Int} {D : List Int} (h : Qd w b m er D) : QTo b w m er D w := ⟨h, grownBy_of_below _ (Below.refl _ _)⟩
set_option maxRecDepth 100000 in
theorem qfail_yes {w : World} {b m : Nat} {D : List Int} (h : Qd w b m 0 D) (x : Int) (was : Nat) (hw : was ≤ D.length) :
    Calls Tryz.prog 58 #[.pointer (some ⟨b, 0, none⟩), .int .i64 x, .int .i64 (was : Int)] w fun e w' => e = .returned (.tuple #[]) ∧ QTo b w was x D w' := by
  have HH := Lib.hid h
  obtain ⟨A, n, c, h1, _⟩ := h
  obtain ⟨⟨c0, c1, c2⟩, f0, f1, f2⟩ := three h1
  have f1' : (w.setCell ⟨b, 2, none⟩ (.int .i64 x)).frozen? ⟨b, 1, none⟩ = false := (three (three_set (u := .int .i64 x) h1).2).2.2.1
  clear h1
  go_enter Tryz.func58, Tryz.ntmps58
  go_wp2
  go_end0
  have h2 := HH.out.set2 x
  have h3 := h2.1.set1 was hw
  exact ⟨rfl, h3.1, grownBy_trans h2.2 h3.2⟩
theorem rg_len {k at' acc : Nat} : ∀ {l : List Int}, (Oc.rgF k at' acc l).2.2.length ≤ l.length := by
  induction k generalizing at' acc with
  | zero => intro l; exact Nat.le_refl _
  | succ k ih =>
    intro l
    cases l with
    | nil => exact Nat.le_refl _
    | cons x r =>
      unfold Oc.rgF
      split
      · have := @ih (at' + 1) (acc + (x - 128).toNat * 128 ^ at') r
        rw [List.length_cons]; omega
      · split
        · rw [List.length_cons]; exact Nat.le_succ _
        · rw [List.length_cons]; exact Nat.le_succ _
/-- While the reference reads groups: i are read. -/
structure QI (D : List Int) (m i acc : Nat) : Prop where
  eq : Oc.rgF (10 - i) i acc (D.drop (m + i)) = Oc.rg (D.drop m)
  lt : acc < 128 ^ i
theorem pow_le {i : Nat} (h : i ≤ 9) : 128 ^ i ≤ 9223372036854775808 := by
  have : (128 : Nat) ^ i ≤ 128 ^ 9 := Nat.pow_le_pow_right (by decide) h
  have e9 : (128 : Nat) ^ 9 = 9223372036854775808 := by decide
  omega
end Go.Proofs.YtganokcmcdkdgaaGreat.Sp
