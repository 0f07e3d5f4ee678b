/-
  The contracts of seal and unseal. Conditions: at most a thousand bytes.
-/
import Derived.Test.YtklngdmpledgeaaPB2
import Derived.Test.YtklngdmpledgeaaORCnt
import Derived.Test.YtklngdmpledgeaaOWrite
import Derived.Test.YtklngdmpledgeaaPB3
namespace Go.Proofs.Ytklngdmpledgeaa.Jo
open Go.RowKit Fr
attribute [local go_sem] Oper.semAt_some

theorem oc_at {w : World} {v : Value} {l : List Int} (h : BAt w v l) : Oc.BAt w v l := h
theorem grp_bok {n : Nat} (h : n < 18446744073709551616) : bok (Oc.grp n) := Oc.grp_bok h
theorem alloc_below (w : World) (o : Obj) : Below w.heap.size w (w.alloc o) := (Below.refl _ _).alloc (Nat.le_refl _) _
/-- The bytes of a record's frame. -/
def recF (n : Nat) (l : List Int) : List Int := frF (Oc.grp n ++ l)
theorem recF_len (n : Nat) (l : List Int) : (recF n l).length = (Oc.grp n).length + l.length + 8 := by
  unfold recF; rw [frF_len, List.length_append]
/-- Bytes behind a row, with the length by name. -/
theorem app_named {w : World} {base k m p : Nat} {v x : Value} {l b : List Int} (hown : w.ownsRow base 5 1 v k (bv l)) (hk : k = l.length) (hx : BAt w x b) (hm : b.length = m) (hp : p = k + m) (hb : p ≤ 4000000) (hbase : base ≤ w.heap.size) :
    ∃ A cap w', (Builtin.append_ #[32, 32] 32 #[v, x]).run Try.prog w = .ok (.slice A p cap) w' ∧ BAt w' (.slice A p cap) (l ++ b) ∧ w'.ownsRow base 5 1 (.slice A p cap) (l ++ b).length (bv (l ++ b)) ∧ w.grownBy w' v.ownBlock := by
  subst hk hm hp
  obtain ⟨A, cap, w', h1, h2, h3⟩ := app_any w base v l hown x b hx hb hbase
  exact ⟨A, cap, w', h1, BAt.of_own h2, h2, h3⟩
theorem make_atK (w : World) (A : Option Addr) (m c q : Nat) (l : List Int) (h : BAt w (.slice A m c) l) (hb : bok l) (hm : m ≤ 1048568) (hq : q = m + 8) :
    Calls Try.prog 94 #[.slice A m c] w fun e w' => ∃ A' c', e = .returned (.tuple #[.slice A' q c', .int .i64 0]) ∧ (BAt w' (.slice A' q c') (frF l) ∧ BK (fun k => w.heap.size ≤ k) (.slice A' q c') (frF l)) ∧ Below w.heap.size w w' := by
  have hl := h.len.1
  refine (make_any w _ l h hb (by omega)).mono fun e w' ⟨⟨A', c', h1, h2⟩, h3⟩ => ?_
  rw [hl, ← hq] at h1 h2
  refine ⟨A', c', h1, ⟨BAt.of_own h2, fun _ a n c ha => ?_⟩, h3⟩
  cases ha
  exact (h2.lt a.block rfl).1
set_option maxRecDepth 100000 in
set_option maxHeartbeats 4000000 in
theorem seal_any (w : World) (n : Nat) (A : Option Addr) (m c : Nat) (l : List Int) (h : BAt w (.slice A m c) l) (hb : bok l) (hm : m ≤ 1000) (hn : n < 9223372036854775808) :
    Calls Try.prog 83 #[.int .i64 (n : Int), .slice A m c] w fun e w' => ∃ A' q c', e = .returned (.tuple #[.slice A' q c', .int .i64 0]) ∧ q = (recF n l).length ∧ (BAt w' (.slice A' q c') (recF n l) ∧ BK (fun k => w.heap.size ≤ k) (.slice A' q c') (recF n l)) ∧ Below w.heap.size w w' := by
  obtain ⟨b, hbz⟩ : ∃ b, b = w.heap.size := ⟨_, rfl⟩
  have hw0 : Oc.WrR (w.alloc (.cells #[.int .i64 0, .slice none 0 0] 137)) b 0 [] (.slice none 0 0) := ⟨by rw [hbz]; exact block_new _ _, World.ownsRow_nil _ _ _ _, by simp⟩
  obtain ⟨hg1, hg2⟩ := Oc.grp_len n
  have HC := Lib.hid (Oc.count_any _ b 0 n [] _ hw0 hn (fun _ => by simp; omega))
  have HB0 : Hid (Below b w (w.alloc (.cells #[.int .i64 0, .slice none 0 0] 137))) := by rw [hbz]; exact alloc_below _ _
  have HW0 := Lib.hid hw0
  have HL := Lib.hid h
  have hlm := h.len.1
  obtain ⟨k, hk⟩ : ∃ k, k = (Oc.grp n).length := ⟨_, rfl⟩
  obtain ⟨p, hp⟩ : ∃ p, p = k + m := ⟨_, rfl⟩
  obtain ⟨q, hq⟩ : ∃ q, q = p + 8 := ⟨_, rfl⟩
  have HD : Hid (k = (Oc.grp n).length ∧ p = k + m ∧ q = p + 8 ∧ l.length = m ∧ k ≤ 10 ∧ bok l) := ⟨hk, hp, hq, hlm, by omega, hb⟩
  have hfin : q = (recF n l).length := by rw [recF_len]; omega
  have HF := Lib.hid hfin
  have hp2 : p ≤ 1010 := by omega
  subst hbz
  clear hw0 h hb hg1 hg2 hlm hk hp hq hfin hm
  go_enter Try.func83, Try.ntmps83
  go_wp2_with (first
    | (go_at_call 94; (with_reducible refine HM.out.mono ?_); rintro e w5 ⟨A5, c5, rfl, ha5, hb5⟩; have HA5 := Lib.hid ha5; have HB5 := Lib.hid (HB4.out.trans (hb5.mono HB4.out.size)); clear ha5 hb5)
    | (at_builtin; refine Lib.wpList_append_run _ rfl _ _ 32 32 rfl _ _ rfl rfl _ _ HR.out ?_)
    | (go_at_call 93; (with_reducible refine HDN.out.mono ?_); rintro e w3 ⟨A3, c3, rfl, ho3, hb3⟩
       have HB3 : Hid (Below w.heap.size w w3) := HB2.out.trans (hb3.mono HB2.out.size)
       obtain ⟨A4, c4, w4, hr4, hb4, ho4, hg4⟩ := app_named (p := p) ho3 HD.out.1 (HL.out.kept HB3.out) HD.out.2.2.2.1 HD.out.2.1 (by omega) hb3.size
       have HR := Lib.hid hr4
       have HB4 : Hid (Below w.heap.size w w4) := HB3.out.grown hg4 HB3.out.size (fun j hj => by have := (ho3.lt j hj).1; have := HB2.out.size; omega)
       have hm4 := make_atK w4 A4 p c4 q (Oc.grp n ++ l) hb4 (bok_app (grp_bok (by omega)) HD.out.2.2.2.2.2) (by omega) HD.out.2.2.1
       have HM := Lib.hid hm4
       clear ho3 hb3 ho4 hg4 hr4 hm4 hb4)
    | (go_at_call 91; (with_reducible refine HC.out.mono ?_); rintro e w2 ⟨rfl, h2⟩
       obtain ⟨v2, hw2, hf2⟩ := h2
       have hw2' : Oc.WrR w2 w.heap.size 0 (Oc.grp n) v2 := by
         have e : Oc.addB 0 [] (Oc.grp n) = Oc.grp n := by rw [Oc.addB_no]; rfl
         rw [e] at hw2; exact hw2
       have HB2 : Hid (Below w.heap.size w w2) := HB0.out.trans (hf2.below HW0.out (Nat.le_refl _))
       have hdn := Oc.wdone_any w2 w.heap.size 0 (Oc.grp n) v2 hw2'
       rw [← HD.out.1] at hdn
       have HDN := Lib.hid hdn
       clear hw2 hf2 hw2' hdn))
  go_ret2
  exact ⟨A5, q, c5, rfl, HF.out, ⟨HA5.out.1, fun hp a n c ha => Nat.le_trans HB4.out.size (HA5.out.2 hp a n c ha)⟩, HB5.out⟩
end Go.Proofs.Ytklngdmpledgeaa.Jo

namespace Go.Proofs.Ytklngdmpledgeaa.Sp
open Go.RowKit Fr

/-- A slice of slices that hold these bytes. -/
def RowsA (w : World) (v : Value) (bs : List (List Int)) : Prop := ∃ A cap, v = .slice A bs.length cap ∧ (0 < bs.length → ∃ g o, A = some ⟨g, o, none⟩ ∧ g < w.heap.size ∧ ∀ (i : Nat) (b : List Int), bs[i]? = some b → ∃ u, w.cell? ⟨g, o + i, none⟩ = some u ∧ BAt w u b)
theorem RowsA.below {w w' : World} {v : Value} {bs : List (List Int)} (h : RowsA w v bs) (hb : Below w.heap.size w w') : RowsA w' v bs := by
  obtain ⟨A, cap, e, h1⟩ := h
  refine ⟨A, cap, e, fun hp => ?_⟩
  obtain ⟨g, o, e2, hg, h2⟩ := h1 hp
  refine ⟨g, o, e2, Nat.lt_of_lt_of_le hg hb.size, fun i b hi => ?_⟩
  obtain ⟨u, h3, h4⟩ := h2 i b hi
  exact ⟨u, (hb.cell (p := ⟨g, o + i, none⟩) hg).trans h3, h4.kept hb⟩
theorem rows_len {w : World} {A : Option Addr} {n c : Nat} {ls : List (List Int)} (h : RowsA w (.slice A n c) ls) : n = ls.length := by
  obtain ⟨A', cap, e, _⟩ := h
  cases e; rfl
/-- Record i of the slice. -/
theorem rows_at {w : World} {A : Option Addr} {n c i : Nat} {ls : List (List Int)} (h : RowsA w (.slice A n c) ls) (hi : i < n) : ∃ (g o : Nat) (Au : Option Addr) (q cu : Nat) (l : List Int), A = some ⟨g, o, none⟩ ∧ ls[i]? = some l ∧ q = l.length ∧ w.cell? ⟨g, o + i, none⟩ = some (.slice Au q cu) ∧ BAt w (.slice Au q cu) l := by
  have hl := rows_len h
  obtain ⟨A', cap, e, h1⟩ := h
  cases e
  obtain ⟨g, o, e2, hg, h2⟩ := h1 (by omega)
  have h3 : ls[i]? = some ls[i] := List.getElem?_eq_getElem (by omega)
  obtain ⟨u, h4, h5⟩ := h2 i _ h3
  obtain ⟨Au, cu, e5, h6⟩ := id h5
  subst e5
  exact ⟨g, o, Au, _, cu, _, e2, h3, rfl, h4, h5⟩
theorem RowsA.nil (w : World) (c : Nat) (A : Option Addr) : RowsA w (.slice A 0 c) [] := ⟨A, c, rfl, fun h => absurd h (Nat.lt_irrefl 0)⟩
/-- The same, in blocks from N on. -/
def RowsF (N : Nat) (w : World) (v : Value) (bs : List (List Int)) : Prop := ∃ A cap, v = .slice A bs.length cap ∧ (0 < bs.length → ∃ g o, A = some ⟨g, o, none⟩ ∧ N ≤ g ∧ g < w.heap.size ∧ ∀ (i : Nat) (b : List Int), bs[i]? = some b → ∃ u, w.cell? ⟨g, o + i, none⟩ = some u ∧ BAt w u b ∧ BK (fun k => N ≤ k) u b)
theorem RowsF.toA {N : Nat} {w : World} {v : Value} {bs : List (List Int)} (h : RowsF N w v bs) : RowsA w v bs := by
  obtain ⟨A, cap, e, h1⟩ := h
  refine ⟨A, cap, e, fun hp => ?_⟩
  obtain ⟨g, o, e2, _, hg, h2⟩ := h1 hp
  refine ⟨g, o, e2, hg, fun i b hi => ?_⟩
  obtain ⟨u, h3, h4, _⟩ := h2 i b hi
  exact ⟨u, h3, h4⟩
theorem RowsF.from {M N : Nat} {w : World} {v : Value} {bs : List (List Int)} (h : RowsF N w v bs) (hm : M ≤ N) : RowsF M w v bs := by
  obtain ⟨A, cap, e, h1⟩ := h
  refine ⟨A, cap, e, fun hp => ?_⟩
  obtain ⟨g, o, e2, hN, hg, h2⟩ := h1 hp
  refine ⟨g, o, e2, Nat.le_trans hm hN, hg, fun i b hi => ?_⟩
  obtain ⟨u, h3, h4, h5⟩ := h2 i b hi
  exact ⟨u, h3, h4, fun hp a n c ha => Nat.le_trans hm (h5 hp a n c ha)⟩
theorem RowsF.nil (N : Nat) (w : World) (c : Nat) (A : Option Addr) : RowsF N w (.slice A 0 c) [] := ⟨A, c, rfl, fun h => absurd h (Nat.lt_irrefl 0)⟩
theorem bat_kept {w w' : World} {v : Value} {l : List Int} (h : BAt w v l) (hk : ∀ (_hp : 0 < l.length) a n c, v = .slice (some a) n c → w'.heap[a.block]? = w.heap[a.block]?) : BAt w' v l := by
  obtain ⟨A, cap, e1, e2, e3⟩ := h
  refine ⟨A, cap, e1, e2, fun hp => ?_⟩
  obtain ⟨g, o, e4, e5, e6⟩ := e3 hp
  have h1 := hk hp ⟨g, o, none⟩ _ _ (by rw [e1, e4])
  refine ⟨g, o, e4, ?_, fun i hi => ?_⟩
  · rcases Nat.lt_or_ge g w'.heap.size with h2 | h2
    · exact h2
    · rw [Array.getElem?_eq_none h2, Array.getElem?_eq_getElem e5] at h1; cases h1
  · have := e6 i hi
    simp only [World.cell?] at this ⊢
    rw [h1]; exact this
theorem bat_lt {w : World} {v : Value} {l : List Int} (h : BAt w v l) (hp : 0 < l.length) {a : Addr} {n c : Nat} (e : v = .slice (some a) n c) : a.block < w.heap.size := by
  obtain ⟨A, cap, e1, _, e3⟩ := h
  obtain ⟨g, o, e4, e5, _⟩ := e3 hp
  rw [e1, e4] at e
  cases e; exact e5
theorem RowsF.kept {N : Nat} {w w' : World} {v : Value} {bs : List (List Int)} (h : RowsF N w v bs) (hk : ∀ k, N ≤ k → k < w.heap.size → w'.heap[k]? = w.heap[k]?) (hs : w.heap.size ≤ w'.heap.size) : RowsF N w' v bs := by
  obtain ⟨A, cap, e, h1⟩ := h
  refine ⟨A, cap, e, fun hp => ?_⟩
  obtain ⟨g, o, e2, hN, hg, h2⟩ := h1 hp
  refine ⟨g, o, e2, hN, Nat.lt_of_lt_of_le hg hs, fun i b hi => ?_⟩
  obtain ⟨u, h3, h4, h5⟩ := h2 i b hi
  refine ⟨u, ?_, bat_kept h4 (fun hp a n c ha => hk _ (h5 hp a n c ha) (bat_lt h4 hp ha)), h5⟩
  have h6 := hk g hN hg
  simp only [World.cell?] at h3 ⊢
  rw [h6]; exact h3
end Go.Proofs.Ytklngdmpledgeaa.Sp
