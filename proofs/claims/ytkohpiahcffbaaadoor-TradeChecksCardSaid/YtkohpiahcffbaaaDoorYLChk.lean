/-
  The law TradeChecks answers true: its walk. Conditions: the library's variable internal/bytealg.MaxLen holds a number.
-/
import Derived.Test.YtkohpiahcffbaaaDoorYKno
import Derived.Test.YtkohpiahcffbaaaDoorYTo
import Derived.Test.YtkohpiahcffbaaaDoorYOrd
import Derived.Test.YtkohpiahcffbaaaDoorYRCmp
import Derived.Test.YtkohpiahcffbaaaDoorYRChk
namespace Go.Proofs.YtkohpiahcffbaaaDoor.Td
open Go.RowKit

/-- Two trades lie in two blocks; what was there lies as it lay. -/
def Laid2 (w W : World) (b c : Nat) (x y : Tr) (t : TypeId) : Prop := W.heap[b]? = some (.cells #[.int .i64 x.n, .string x.b, .string x.s, .string x.i, .int .i64 x.q, .int .i64 x.p] t (0, 0)) ∧ W.heap[c]? = some (.cells #[.int .i64 y.n, .string y.b, .string y.s, .string y.i, .int .i64 y.q, .int .i64 y.p] t (0, 0)) ∧ Below w.heap.size w W
theorem Laid2.mk {w W W0 : World} {b c : Nat} {x y : Tr} {t : TypeId} (h : Below w.heap.size w W0) (hb : Below W0.heap.size W0 W) (h1 : W.heap[b]? = some (.cells #[.int .i64 x.n, .string x.b, .string x.s, .string x.i, .int .i64 x.q, .int .i64 x.p] t (0, 0))) (h2 : W.heap[c]? = some (.cells #[.int .i64 y.n, .string y.b, .string y.s, .string y.i, .int .i64 y.q, .int .i64 y.p] t (0, 0))) : Laid2 w W b c x y t :=
  ⟨h1, h2, h.trans (hb.mono h.size)⟩
theorem Laid2.next {w W W' : World} {b c : Nat} {x y : Tr} {t : TypeId} (h : Laid2 w W b c x y t) (hb : Below W.heap.size W W') : Laid2 w W' b c x y t := ⟨block_kept h.1 hb, block_kept h.2.1 hb, h.2.2.trans (hb.mono h.2.2.size)⟩

/-- Two trades that aren't the same: the first part that differs. -/
theorem differ {x y : Tr} (h : ¬ x = y) : ((x.n == y.n) = false) ∨ ((x.n == y.n) = true ∧ (x.b.toList == y.b.toList) = false) ∨ ((x.n == y.n) = true ∧ (x.b.toList == y.b.toList) = true ∧ (x.s.toList == y.s.toList) = false) ∨ ((x.n == y.n) = true ∧ (x.b.toList == y.b.toList) = true ∧ (x.s.toList == y.s.toList) = true ∧ (x.i.toList == y.i.toList) = false) ∨ ((x.n == y.n) = true ∧ (x.b.toList == y.b.toList) = true ∧ (x.s.toList == y.s.toList) = true ∧ (x.i.toList == y.i.toList) = true ∧ (x.q == y.q) = false) ∨ ((x.n == y.n) = true ∧ (x.b.toList == y.b.toList) = true ∧ (x.s.toList == y.s.toList) = true ∧ (x.i.toList == y.i.toList) = true ∧ (x.q == y.q) = true ∧ (x.p == y.p) = false) := by
  by_cases h1 : x.n = y.n
  · by_cases h2 : x.b = y.b
    · by_cases h3 : x.s = y.s
      · by_cases h4 : x.i = y.i
        · by_cases h5 : x.q = y.q
          · by_cases h6 : x.p = y.p
            · exfalso
              apply h
              cases x; cases y
              simp only at h1 h2 h3 h4 h5 h6
              subst h1; subst h2; subst h3; subst h4; subst h5; subst h6
              rfl
            · exact .inr (.inr (.inr (.inr (.inr ⟨by simpa using h1, by rw [beqS]; exact decide_eq_true h2, by rw [beqS]; exact decide_eq_true h3, by rw [beqS]; exact decide_eq_true h4, by simpa using h5, by simpa using h6⟩))))
          · exact .inr (.inr (.inr (.inr (.inl ⟨by simpa using h1, by rw [beqS]; exact decide_eq_true h2, by rw [beqS]; exact decide_eq_true h3, by rw [beqS]; exact decide_eq_true h4, by simpa using h5⟩))))
        · exact .inr (.inr (.inr (.inl ⟨by simpa using h1, by rw [beqS]; exact decide_eq_true h2, by rw [beqS]; exact decide_eq_true h3, by rw [beqS]; exact decide_eq_false h4⟩)))
      · exact .inr (.inr (.inl ⟨by simpa using h1, by rw [beqS]; exact decide_eq_true h2, by rw [beqS]; exact decide_eq_false h3⟩))
    · exact .inr (.inl ⟨by simpa using h1, by rw [beqS]; exact decide_eq_false h2⟩)
  · exact .inl (by simpa using h1)

theorem heap_at {W : World} {o : Obj} {k : Nat} (hk : k = W.heap.size) : (W.alloc o).heap[k]? = some o := by rw [hk]; exact block_new _ _
theorem below_step {W V : World} (h : Below W.heap.size W V) (o : Obj) : Below W.heap.size W (V.alloc o) := h.alloc h.size o
theorem heap_drew {W : World} {k : Nat} {r : Option Obj} (h : W.heap[k]? = r) : W.drew.heap[k]? = r := h

set_option maxRecDepth 100000 in
set_option maxHeartbeats 40000000 in
theorem law_checks (w : World) (m : Int) (hm : w.cell? ⟨0, 0, none⟩ = some (.int .i64 m)) (a b : Tr) (ha : I64 a.q ∧ I64 a.p) :
    Calls Tryd.prog 3 #[.agg #[.int .i64 a.n, .string a.b, .string a.s, .string a.i, .int .i64 a.q, .int .i64 a.p], .agg #[.int .i64 b.n, .string b.b, .string b.s, .string b.i, .int .i64 b.q, .int .i64 b.p]] w fun e w' => e = .returned (.bool true) ∧ Below w.heap.size w w' := by
  obtain ⟨x, hx⟩ : ∃ x, x = cutT a := ⟨_, rfl⟩
  obtain ⟨y, hy⟩ : ∃ y, y = cutT b := ⟨_, rfl⟩
  have HX := Lib.hid hx
  have HY := Lib.hid hy
  have SX : Hid (Sm x) := by rw [hx]; exact ⟨Nat.le_trans (cut40_size _) (by decide), Nat.le_trans (cut40_size _) (by decide), Nat.le_trans (cut40_size _) (by decide)⟩
  have QX : Hid (I64 x.q ∧ I64 x.p) := by rw [hx]; exact ha
  have HM := Lib.hid hm
  clear hx hy hm ha
  have E0 := two_new2 w (.cells #[.int .i64 a.n, .string a.b, .string a.s, .string a.i, .int .i64 a.q, .int .i64 a.p] 23) (.cells #[.int .i64 b.n, .string b.b, .string b.s, .string b.i, .int .i64 b.q, .int .i64 b.p] 23)
  go_enter Tryd.func3, Tryd.ntmps3
  go_upto_region 1 with fail
  obtain ⟨W0, hW0⟩ : ∃ W0, W0 = (w.alloc (.cells #[.int .i64 a.n, .string a.b, .string a.s, .string a.i, .int .i64 a.q, .int .i64 a.p] 23)).alloc (.cells #[.int .i64 b.n, .string b.b, .string b.s, .string b.i, .int .i64 b.q, .int .i64 b.p] 23) := ⟨_, rfl⟩
  rw [← hW0] at E0 ⊢
  clear hW0
  obtain ⟨p0, p1, p2, p3, p4, p5⟩ := blk6 E0.1
  obtain ⟨q0, q1, q2, q3, q4, q5⟩ := blk6 E0.2.1
  have HB0 := Lib.hid E0.2.2
  clear E0
  have S0 : W0.cell? ⟨w.heap.size, 0, none⟩ = some (.int .i64 a.n) ∧ W0.cell? ⟨w.heap.size, 1, none⟩ = some (.string a.b) ∧ W0.cell? ⟨w.heap.size, 2, none⟩ = some (.string a.s) ∧ W0.cell? ⟨w.heap.size, 3, none⟩ = some (.string a.i) ∧ W0.cell? ⟨w.heap.size, 4, none⟩ = some (.int .i64 a.q) ∧ W0.cell? ⟨w.heap.size, 5, none⟩ = some (.int .i64 a.p) ∧ W0.cell? ⟨w.heap.size + 1, 0, none⟩ = some (.int .i64 b.n) ∧ W0.cell? ⟨w.heap.size + 1, 1, none⟩ = some (.string b.b) ∧ W0.cell? ⟨w.heap.size + 1, 2, none⟩ = some (.string b.s) ∧ W0.cell? ⟨w.heap.size + 1, 3, none⟩ = some (.string b.i) ∧ W0.cell? ⟨w.heap.size + 1, 4, none⟩ = some (.int .i64 b.q) ∧ W0.cell? ⟨w.heap.size + 1, 5, none⟩ = some (.int .i64 b.p) := ⟨p0, p1, p2, p3, p4, p5, q0, q1, q2, q3, q4, q5⟩
  clear p0 p1 p2 p3 p4 p5 q0 q1 q2 q3 q4 q5
  go_cut [5, 6] from 9 (fun s5 s6 wx => ∃ b c, s5 = .pointer (some ⟨b, 0, none⟩) ∧ s6 = .pointer (some ⟨c, 0, none⟩) ∧ Hid (Laid2 w wx b c x y 24))
  case first =>
   go_region_held3 (fun w' => w'.cell? ⟨w.heap.size, 0, none⟩ = some (.int .i64 a.n) ∧ w'.cell? ⟨w.heap.size, 1, none⟩ = some (.string a.b) ∧ w'.cell? ⟨w.heap.size, 2, none⟩ = some (.string a.s) ∧ w'.cell? ⟨w.heap.size, 3, none⟩ = some (.string a.i) ∧ w'.cell? ⟨w.heap.size, 4, none⟩ = some (.int .i64 a.q) ∧ w'.cell? ⟨w.heap.size, 5, none⟩ = some (.int .i64 a.p) ∧ w'.cell? ⟨w.heap.size + 1, 0, none⟩ = some (.int .i64 b.n) ∧ w'.cell? ⟨w.heap.size + 1, 1, none⟩ = some (.string b.b) ∧ w'.cell? ⟨w.heap.size + 1, 2, none⟩ = some (.string b.s) ∧ w'.cell? ⟨w.heap.size + 1, 3, none⟩ = some (.string b.i) ∧ w'.cell? ⟨w.heap.size + 1, 4, none⟩ = some (.int .i64 b.q) ∧ w'.cell? ⟨w.heap.size + 1, 5, none⟩ = some (.int .i64 b.p)) (repeat (first | (with_reducible refine twelve_drew ?_) | (with_reducible refine twelve_alloc ?_ _) | (with_reducible exact S0)))
    (first
      | (go_at_call 6; (with_reducible refine (to_exact _ a x HX).mono ?_); rintro e w1 ⟨rfl, rfl⟩)
      | (go_at_call 6; (with_reducible refine (to_exact _ b y HY).mono ?_); rintro e w1 ⟨rfl, rfl⟩))
   all_goals (go_wp2; go_meet)
   all_goals (case rel =>
     refine ⟨_, _, rfl, rfl, Laid2.mk HB0.out ?_ ?_ ?_⟩
     · repeat (first | exact Below.refl _ _ | (refine Below.drew ?_) | (refine below_step ?_ _))
     · repeat (first | (with_reducible refine heap_drew ?_) | (refine heap_at ?_; simp; done) | (refine block_old ?_ _))
     · repeat (first | (with_reducible refine heap_drew ?_) | (refine heap_at ?_; simp; done) | (refine block_old ?_ _)))
  case rest =>
   obtain ⟨b5, b6, rfl, rfl, hk⟩ := hcut
   clear S0 HX HY
   obtain ⟨W1, hW1⟩ : ∃ W1, W1 = wc := ⟨_, rfl⟩
   rw [← hW1] at hk ⊢
   clear hW1
   obtain ⟨p0, p1, p2, p3, p4, p5⟩ := blk6 hk.out.1
   obtain ⟨q0, q1, q2, q3, q4, q5⟩ := blk6 hk.out.2.1
   have S1 : W1.cell? ⟨b5, 0, none⟩ = some (.int .i64 x.n) ∧ W1.cell? ⟨b5, 1, none⟩ = some (.string x.b) ∧ W1.cell? ⟨b5, 2, none⟩ = some (.string x.s) ∧ W1.cell? ⟨b5, 3, none⟩ = some (.string x.i) ∧ W1.cell? ⟨b5, 4, none⟩ = some (.int .i64 x.q) ∧ W1.cell? ⟨b5, 5, none⟩ = some (.int .i64 x.p) ∧ W1.cell? ⟨b6, 0, none⟩ = some (.int .i64 y.n) ∧ W1.cell? ⟨b6, 1, none⟩ = some (.string y.b) ∧ W1.cell? ⟨b6, 2, none⟩ = some (.string y.s) ∧ W1.cell? ⟨b6, 3, none⟩ = some (.string y.i) ∧ W1.cell? ⟨b6, 4, none⟩ = some (.int .i64 y.q) ∧ W1.cell? ⟨b6, 5, none⟩ = some (.int .i64 y.p) := ⟨p0, p1, p2, p3, p4, p5, q0, q1, q2, q3, q4, q5⟩
   clear p0 p1 p2 p3 p4 p5 q0 q1 q2 q3 q4 q5
   go_upto_region 2 with fail
   go_cut [7, 8] from 9 (fun s7 s8 wx => ∃ d e, s7 = .pointer (some ⟨d, 0, none⟩) ∧ s8 = .pointer (some ⟨e, 0, none⟩) ∧ Hid (Laid2 w wx b5 b6 x y 24 ∧ Laid2 w wx d e x y 23))
   case first =>
    go_region_held3 (fun w' => w'.cell? ⟨b5, 0, none⟩ = some (.int .i64 x.n) ∧ w'.cell? ⟨b5, 1, none⟩ = some (.string x.b) ∧ w'.cell? ⟨b5, 2, none⟩ = some (.string x.s) ∧ w'.cell? ⟨b5, 3, none⟩ = some (.string x.i) ∧ w'.cell? ⟨b5, 4, none⟩ = some (.int .i64 x.q) ∧ w'.cell? ⟨b5, 5, none⟩ = some (.int .i64 x.p) ∧ w'.cell? ⟨b6, 0, none⟩ = some (.int .i64 y.n) ∧ w'.cell? ⟨b6, 1, none⟩ = some (.string y.b) ∧ w'.cell? ⟨b6, 2, none⟩ = some (.string y.s) ∧ w'.cell? ⟨b6, 3, none⟩ = some (.string y.i) ∧ w'.cell? ⟨b6, 4, none⟩ = some (.int .i64 y.q) ∧ w'.cell? ⟨b6, 5, none⟩ = some (.int .i64 y.p)) (repeat (first | (with_reducible refine twelve_drew ?_) | (with_reducible refine twelve_alloc ?_ _) | (with_reducible exact S1)))
     (first
      | (go_at_call 7; (with_reducible refine (of_exact _ x).mono ?_); rintro e w1 ⟨rfl, rfl⟩)
      | (go_at_call 7; (with_reducible refine (of_exact _ y).mono ?_); rintro e w1 ⟨rfl, rfl⟩))
    all_goals (go_wp2; go_meet)
    all_goals (case rel =>
     have hb : ∀ W, Below W1.heap.size W1 W → Laid2 w W b5 b6 x y 24 := fun W h => hk.out.next h
     refine ⟨_, _, rfl, rfl, ?_⟩
     show _ ∧ _
     refine ⟨hb _ ?_, Laid2.mk hk.out.2.2 ?_ ?_ ?_⟩
     · repeat (first | exact Below.refl _ _ | (refine Below.drew ?_) | (refine below_step ?_ _))
     · repeat (first | exact Below.refl _ _ | (refine Below.drew ?_) | (refine below_step ?_ _))
     · repeat (first | (with_reducible refine heap_drew ?_) | (refine heap_at ?_; simp; done) | (refine block_old ?_ _))
     · repeat (first | (with_reducible refine heap_drew ?_) | (refine heap_at ?_; simp; done) | (refine block_old ?_ _)))
   case rest =>
    obtain ⟨b7, b8, rfl, rfl, hk2⟩ := hcut
    obtain ⟨r, hr⟩ : ∃ r, r = chk x := ⟨_, rfl⟩
    obtain ⟨z, hz⟩ : ∃ z, z = x.q * x.p := ⟨_, rfl⟩
    obtain ⟨c, hc⟩ : ∃ c, c = tcmp x y := ⟨_, rfl⟩
    obtain ⟨d, hd⟩ : ∃ d, d = tcmp y x := ⟨_, rfl⟩
    have cck : ∀ W, Calls Tryd.prog 9 #[.agg #[.int .i64 x.n, .string x.b, .string x.s, .string x.i, .int .i64 x.q, .int .i64 x.p]] W fun e w' => e = .returned (.int .i64 r) ∧ Below W.heap.size W w' := fun W => check_any W x SX.out hr
    have crk : ∀ W, Calls Tryd.prog 10 #[.agg #[.int .i64 x.n, .string x.b, .string x.s, .string x.i, .int .i64 x.q, .int .i64 x.p]] W fun e w' => e = .returned (.int .i64 r) ∧ Below W.heap.size W w' := fun W => rcheck_any W x SX.out hr
    have cva : ∀ W, Calls Tryd.prog 13 #[.agg #[.int .i64 x.n, .string x.b, .string x.s, .string x.i, .int .i64 x.q, .int .i64 x.p]] W fun e w' => ∃ h l, e = .returned (.agg #[.int .i64 h, .int .u64 l]) ∧ Hid (WOk h l ∧ Hid (z = wv h l)) ∧ Below W.heap.size W w' := fun W => value_any W x QX.out.1 QX.out.2 hz
    have cnu : ∀ (W : World) (h l : Int), Hid (WOk h l ∧ Hid (z = wv h l)) → Calls Tryd.prog 12 #[.agg #[.int .i64 h, .int .u64 l]] W fun e w' => ∃ u, e = .returned u ∧ NumIs w' u z ∧ Below W.heap.size W w' := fun W h l hs => num_is W h l hs.out.1 hs.out.2
    have crv : ∀ W, Calls Tryd.prog 14 #[.agg #[.int .i64 x.n, .string x.b, .string x.s, .string x.i, .int .i64 x.q, .int .i64 x.p]] W fun e w' => ∃ u, e = .returned u ∧ NumIs w' u z ∧ Below W.heap.size W w' := fun W => rvalue_any W x QX.out.1 QX.out.2 hz
    have ccp : ∀ W, Calls Tryd.prog 15 #[.agg #[.int .i64 x.n, .string x.b, .string x.s, .string x.i, .int .i64 x.q, .int .i64 x.p], .agg #[.int .i64 y.n, .string y.b, .string y.s, .string y.i, .int .i64 y.q, .int .i64 y.p]] W fun e w' => e = .returned (.int .i64 c) ∧ Below W.heap.size W w' := fun W => compare_any W x y hc
    have ccq : ∀ W, Calls Tryd.prog 15 #[.agg #[.int .i64 y.n, .string y.b, .string y.s, .string y.i, .int .i64 y.q, .int .i64 y.p], .agg #[.int .i64 x.n, .string x.b, .string x.s, .string x.i, .int .i64 x.q, .int .i64 x.p]] W fun e w' => e = .returned (.int .i64 d) ∧ Below W.heap.size W w' := fun W => compare_any W y x hd
    have crc : ∀ W, Calls Tryd.prog 16 #[.agg #[.int .i64 x.n, .string x.b, .string x.s, .string x.i, .int .i64 x.q, .int .i64 x.p], .agg #[.int .i64 y.n, .string y.b, .string y.s, .string y.i, .int .i64 y.q, .int .i64 y.p]] W fun e w' => e = .returned (.int .i64 c) ∧ Below W.heap.size W w' := fun W => rcompare_any W x y hc
    obtain ⟨W2, hW2⟩ : ∃ W2, W2 = wc := ⟨_, rfl⟩
    rw [← hW2] at hk2 ⊢
    clear hW2 S1
    go_upto_region 3 with fail
    have hm2 : W2.drew.cell? ⟨0, 0, none⟩ = some (.int .i64 m) := (hk2.out.1.2.2.cell (World.block_lt_of_cell? _ _ HM.out)).trans HM.out
    have CKN := Lib.hid (known_any W2.drew m hm2)
    have CCK := Lib.hid cck
    have CRK := Lib.hid crk
    have CVA := Lib.hid cva
    have CNU := Lib.hid cnu
    have CRV := Lib.hid crv
    have CCP := Lib.hid ccp
    have CCQ := Lib.hid ccq
    have CRC := Lib.hid crc
    have l5 : b5 < W2.heap.size := (Array.getElem?_eq_some_iff.1 hk2.out.1.1).1
    have l6 : b6 < W2.heap.size := (Array.getElem?_eq_some_iff.1 hk2.out.1.2.1).1
    have l7 : b7 < W2.heap.size := (Array.getElem?_eq_some_iff.1 hk2.out.2.1).1
    have l8 : b8 < W2.heap.size := (Array.getElem?_eq_some_iff.1 hk2.out.2.2.1).1
    obtain ⟨p0, p1, p2, p3, p4, p5⟩ := blk6 hk2.out.1.1
    obtain ⟨q0, q1, q2, q3, q4, q5⟩ := blk6 hk2.out.1.2.1
    obtain ⟨s0, s1, s2, s3, s4, s5⟩ := blk6 hk2.out.2.1
    obtain ⟨t0, t1, t2, t3, t4, t5⟩ := blk6 hk2.out.2.2.1
    have HBW := Lib.hid hk2.out.1.2.2
    have HBB : Hid (Below W2.heap.size W2 W2.drew) := (Below.refl _ _).drew
    have SS0 : ∀ b o, b < W2.heap.size → W2.drew.cell? ⟨b, o, none⟩ = W2.cell? ⟨b, o, none⟩ := fun _ _ _ => rfl
    have hdc : d = -c := by rw [hd, hc]; exact tcmp_opp x y
    have hrg := tcmp_rng x y
    rw [← hc] at hrg
    have hwr : IntKind.i64.wrap (-c) = d := by rw [i64_wrap, hdc]; omega
    clear hm2 cck crk cva cnu crv ccp ccq crc hr hz hd hdc hrg hk hk2 SX QX HM
    by_cases h0 : c = 0
    · obtain rfl : x = y := tcmp_zero (hc.symm.trans h0)
      have hz0 : (c == 0) = true := by simpa using h0
      clear h0 hc
      go_region_held3 (fun w' => ∀ b o, b < W2.heap.size → w'.cell? ⟨b, o, none⟩ = W2.cell? ⟨b, o, none⟩) (first | assumption)
       (first
        | (go_at_call 16; (with_reducible refine (CRC.out w11).mono ?_); rintro e w12 ⟨rfl, hb⟩; have HB12 := Lib.hid (HB11.out.trans (hb.mono HB11.out.size)); have SS12 := (bcell HB12.out).1; clear hb SS11 )
        | (go_at_call 16; (with_reducible refine (CRC.out w10).mono ?_); rintro e w11 ⟨rfl, hb⟩; have HB11 := Lib.hid (HB10.out.trans (hb.mono HB10.out.size)); have SS11 := (bcell HB11.out).1; clear hb SS10 )
        | (go_at_call 16; (with_reducible refine (CRC.out w8).mono ?_); rintro e w9 ⟨rfl, hb⟩; have HB9 := Lib.hid (HB8.out.trans (hb.mono HB8.out.size)); have SS9 := (bcell HB9.out).1; clear hb SS8 )
        | (go_at_call 15; (with_reducible refine (CCP.out w7).mono ?_); rintro e w8 ⟨rfl, hb⟩; have HB8 := Lib.hid (HB7.out.trans (hb.mono HB7.out.size)); have SS8 := (bcell HB8.out).1; clear hb SS7 )
        | (go_at_call 15; (with_reducible refine (CCQ.out w9).mono ?_); rintro e w10 ⟨rfl, hb⟩; have HB10 := Lib.hid (HB9.out.trans (hb.mono HB9.out.size)); have SS10 := (bcell HB10.out).1; clear hb SS9 )
        | (go_at_call 11; (with_reducible refine (num_same w6 _ _ z N56.out N6.out).mono ?_); rintro e w7 ⟨rfl, hb⟩; have HB7 := Lib.hid (HB6.out.trans (hb.mono HB6.out.size)); have SS7 := (bcell HB7.out).1; clear hb SS6 )
        | (go_at_call 14; (with_reducible refine (CRV.out w5).mono ?_); rintro e w6 ⟨u, rfl, ⟨A6, n6, c6, rfl, hd⟩, hb⟩; have HB6 := Lib.hid (HB5.out.trans (hb.mono HB5.out.size)); have SS6 := (bcell HB6.out).1; have N6 : Hid (NumIs w6 (.agg #[.bool (decide (z < 0)), .slice A6 n6 c6]) z) := (⟨A6, n6, c6, rfl, hd⟩ : NumIs w6 (.agg #[.bool (decide (z < 0)), .slice A6 n6 c6]) z); have N56 := Lib.hid (NumIs.below N5.out hb (Nat.le_refl _)); clear hb SS5 hd)
        | (go_at_call 12; (with_reducible refine (CNU.out w4 h l hs).mono ?_); rintro e w5 ⟨u, rfl, ⟨A5, n5, c5, rfl, hd⟩, hb⟩; have HB5 := Lib.hid (HB4.out.trans (hb.mono HB4.out.size)); have SS5 := (bcell HB5.out).1; have N5 : Hid (NumIs w5 (.agg #[.bool (decide (z < 0)), .slice A5 n5 c5]) z) := (⟨A5, n5, c5, rfl, hd⟩ : NumIs w5 (.agg #[.bool (decide (z < 0)), .slice A5 n5 c5]) z); clear hb SS4 hd)
        | (go_at_call 13; (with_reducible refine (CVA.out w3).mono ?_); rintro e w4 ⟨h, l, rfl, hs, hb⟩; have HB4 := Lib.hid (HB3.out.trans (hb.mono HB3.out.size)); have SS4 := (bcell HB4.out).1; clear hb SS3 )
        | (go_at_call 10; (with_reducible refine (CRK.out w2).mono ?_); rintro e w3 ⟨rfl, hb⟩; have HB3 := Lib.hid (HB2.out.trans (hb.mono HB2.out.size)); have SS3 := (bcell HB3.out).1; clear hb SS2 )
        | (go_at_call 9; (with_reducible refine (CCK.out w1).mono ?_); rintro e w2 ⟨rfl, hb⟩; have HB2 := Lib.hid (HB1.out.trans (hb.mono HB1.out.size)); have SS2 := (bcell HB2.out).1; clear hb SS1 )
        | (go_at_call 8; (with_reducible refine (CKN.out).mono ?_); rintro e w1 ⟨rfl, hb⟩; have HB1 := Lib.hid (HBB.out.trans (hb.mono HBB.out.size)); have SS1 := (bcell HB1.out).1; clear hb ))
      go_wp2
      go_ret
      exact ⟨rfl, HBW.out.trans (HB12.out.mono HBW.out.size)⟩
    · have hz0 : (c == 0) = false := by simpa using h0
      have hne : ¬ x = y := fun e => h0 (by rw [hc, e]; exact tcmp_self y)
      have hdf := differ hne
      clear h0 hc hne
      rcases hdf with g0 | ⟨g0, g1⟩ | ⟨g0, g1, g2⟩ | ⟨g0, g1, g2, g3⟩ | ⟨g0, g1, g2, g3, g4⟩ | ⟨g0, g1, g2, g3, g4, g5⟩
      · go_region_held3 (fun w' => ∀ b o, b < W2.heap.size → w'.cell? ⟨b, o, none⟩ = W2.cell? ⟨b, o, none⟩) (first | assumption)
         (first
          | (go_at_call 16; (with_reducible refine (CRC.out w11).mono ?_); rintro e w12 ⟨rfl, hb⟩; have HB12 := Lib.hid (HB11.out.trans (hb.mono HB11.out.size)); have SS12 := (bcell HB12.out).1; clear hb SS11 )
          | (go_at_call 16; (with_reducible refine (CRC.out w10).mono ?_); rintro e w11 ⟨rfl, hb⟩; have HB11 := Lib.hid (HB10.out.trans (hb.mono HB10.out.size)); have SS11 := (bcell HB11.out).1; clear hb SS10 )
          | (go_at_call 16; (with_reducible refine (CRC.out w8).mono ?_); rintro e w9 ⟨rfl, hb⟩; have HB9 := Lib.hid (HB8.out.trans (hb.mono HB8.out.size)); have SS9 := (bcell HB9.out).1; clear hb SS8 )
          | (go_at_call 15; (with_reducible refine (CCP.out w7).mono ?_); rintro e w8 ⟨rfl, hb⟩; have HB8 := Lib.hid (HB7.out.trans (hb.mono HB7.out.size)); have SS8 := (bcell HB8.out).1; clear hb SS7 )
          | (go_at_call 15; (with_reducible refine (CCQ.out w9).mono ?_); rintro e w10 ⟨rfl, hb⟩; have HB10 := Lib.hid (HB9.out.trans (hb.mono HB9.out.size)); have SS10 := (bcell HB10.out).1; clear hb SS9 )
          | (go_at_call 11; (with_reducible refine (num_same w6 _ _ z N56.out N6.out).mono ?_); rintro e w7 ⟨rfl, hb⟩; have HB7 := Lib.hid (HB6.out.trans (hb.mono HB6.out.size)); have SS7 := (bcell HB7.out).1; clear hb SS6 )
          | (go_at_call 14; (with_reducible refine (CRV.out w5).mono ?_); rintro e w6 ⟨u, rfl, ⟨A6, n6, c6, rfl, hd⟩, hb⟩; have HB6 := Lib.hid (HB5.out.trans (hb.mono HB5.out.size)); have SS6 := (bcell HB6.out).1; have N6 : Hid (NumIs w6 (.agg #[.bool (decide (z < 0)), .slice A6 n6 c6]) z) := (⟨A6, n6, c6, rfl, hd⟩ : NumIs w6 (.agg #[.bool (decide (z < 0)), .slice A6 n6 c6]) z); have N56 := Lib.hid (NumIs.below N5.out hb (Nat.le_refl _)); clear hb SS5 hd)
          | (go_at_call 12; (with_reducible refine (CNU.out w4 h l hs).mono ?_); rintro e w5 ⟨u, rfl, ⟨A5, n5, c5, rfl, hd⟩, hb⟩; have HB5 := Lib.hid (HB4.out.trans (hb.mono HB4.out.size)); have SS5 := (bcell HB5.out).1; have N5 : Hid (NumIs w5 (.agg #[.bool (decide (z < 0)), .slice A5 n5 c5]) z) := (⟨A5, n5, c5, rfl, hd⟩ : NumIs w5 (.agg #[.bool (decide (z < 0)), .slice A5 n5 c5]) z); clear hb SS4 hd)
          | (go_at_call 13; (with_reducible refine (CVA.out w3).mono ?_); rintro e w4 ⟨h, l, rfl, hs, hb⟩; have HB4 := Lib.hid (HB3.out.trans (hb.mono HB3.out.size)); have SS4 := (bcell HB4.out).1; clear hb SS3 )
          | (go_at_call 10; (with_reducible refine (CRK.out w2).mono ?_); rintro e w3 ⟨rfl, hb⟩; have HB3 := Lib.hid (HB2.out.trans (hb.mono HB2.out.size)); have SS3 := (bcell HB3.out).1; clear hb SS2 )
          | (go_at_call 9; (with_reducible refine (CCK.out w1).mono ?_); rintro e w2 ⟨rfl, hb⟩; have HB2 := Lib.hid (HB1.out.trans (hb.mono HB1.out.size)); have SS2 := (bcell HB2.out).1; clear hb SS1 )
          | (go_at_call 8; (with_reducible refine (CKN.out).mono ?_); rintro e w1 ⟨rfl, hb⟩; have HB1 := Lib.hid (HBB.out.trans (hb.mono HBB.out.size)); have SS1 := (bcell HB1.out).1; clear hb ))
        go_wp2
        go_ret
        exact ⟨rfl, HBW.out.trans (HB12.out.mono HBW.out.size)⟩
      · go_region_held3 (fun w' => ∀ b o, b < W2.heap.size → w'.cell? ⟨b, o, none⟩ = W2.cell? ⟨b, o, none⟩) (first | assumption)
         (first
          | (go_at_call 16; (with_reducible refine (CRC.out w11).mono ?_); rintro e w12 ⟨rfl, hb⟩; have HB12 := Lib.hid (HB11.out.trans (hb.mono HB11.out.size)); have SS12 := (bcell HB12.out).1; clear hb SS11 )
          | (go_at_call 16; (with_reducible refine (CRC.out w10).mono ?_); rintro e w11 ⟨rfl, hb⟩; have HB11 := Lib.hid (HB10.out.trans (hb.mono HB10.out.size)); have SS11 := (bcell HB11.out).1; clear hb SS10 )
          | (go_at_call 16; (with_reducible refine (CRC.out w8).mono ?_); rintro e w9 ⟨rfl, hb⟩; have HB9 := Lib.hid (HB8.out.trans (hb.mono HB8.out.size)); have SS9 := (bcell HB9.out).1; clear hb SS8 )
          | (go_at_call 15; (with_reducible refine (CCP.out w7).mono ?_); rintro e w8 ⟨rfl, hb⟩; have HB8 := Lib.hid (HB7.out.trans (hb.mono HB7.out.size)); have SS8 := (bcell HB8.out).1; clear hb SS7 )
          | (go_at_call 15; (with_reducible refine (CCQ.out w9).mono ?_); rintro e w10 ⟨rfl, hb⟩; have HB10 := Lib.hid (HB9.out.trans (hb.mono HB9.out.size)); have SS10 := (bcell HB10.out).1; clear hb SS9 )
          | (go_at_call 11; (with_reducible refine (num_same w6 _ _ z N56.out N6.out).mono ?_); rintro e w7 ⟨rfl, hb⟩; have HB7 := Lib.hid (HB6.out.trans (hb.mono HB6.out.size)); have SS7 := (bcell HB7.out).1; clear hb SS6 )
          | (go_at_call 14; (with_reducible refine (CRV.out w5).mono ?_); rintro e w6 ⟨u, rfl, ⟨A6, n6, c6, rfl, hd⟩, hb⟩; have HB6 := Lib.hid (HB5.out.trans (hb.mono HB5.out.size)); have SS6 := (bcell HB6.out).1; have N6 : Hid (NumIs w6 (.agg #[.bool (decide (z < 0)), .slice A6 n6 c6]) z) := (⟨A6, n6, c6, rfl, hd⟩ : NumIs w6 (.agg #[.bool (decide (z < 0)), .slice A6 n6 c6]) z); have N56 := Lib.hid (NumIs.below N5.out hb (Nat.le_refl _)); clear hb SS5 hd)
          | (go_at_call 12; (with_reducible refine (CNU.out w4 h l hs).mono ?_); rintro e w5 ⟨u, rfl, ⟨A5, n5, c5, rfl, hd⟩, hb⟩; have HB5 := Lib.hid (HB4.out.trans (hb.mono HB4.out.size)); have SS5 := (bcell HB5.out).1; have N5 : Hid (NumIs w5 (.agg #[.bool (decide (z < 0)), .slice A5 n5 c5]) z) := (⟨A5, n5, c5, rfl, hd⟩ : NumIs w5 (.agg #[.bool (decide (z < 0)), .slice A5 n5 c5]) z); clear hb SS4 hd)
          | (go_at_call 13; (with_reducible refine (CVA.out w3).mono ?_); rintro e w4 ⟨h, l, rfl, hs, hb⟩; have HB4 := Lib.hid (HB3.out.trans (hb.mono HB3.out.size)); have SS4 := (bcell HB4.out).1; clear hb SS3 )
          | (go_at_call 10; (with_reducible refine (CRK.out w2).mono ?_); rintro e w3 ⟨rfl, hb⟩; have HB3 := Lib.hid (HB2.out.trans (hb.mono HB2.out.size)); have SS3 := (bcell HB3.out).1; clear hb SS2 )
          | (go_at_call 9; (with_reducible refine (CCK.out w1).mono ?_); rintro e w2 ⟨rfl, hb⟩; have HB2 := Lib.hid (HB1.out.trans (hb.mono HB1.out.size)); have SS2 := (bcell HB2.out).1; clear hb SS1 )
          | (go_at_call 8; (with_reducible refine (CKN.out).mono ?_); rintro e w1 ⟨rfl, hb⟩; have HB1 := Lib.hid (HBB.out.trans (hb.mono HBB.out.size)); have SS1 := (bcell HB1.out).1; clear hb ))
        go_wp2
        go_ret
        exact ⟨rfl, HBW.out.trans (HB12.out.mono HBW.out.size)⟩
      · go_region_held3 (fun w' => ∀ b o, b < W2.heap.size → w'.cell? ⟨b, o, none⟩ = W2.cell? ⟨b, o, none⟩) (first | assumption)
         (first
          | (go_at_call 16; (with_reducible refine (CRC.out w11).mono ?_); rintro e w12 ⟨rfl, hb⟩; have HB12 := Lib.hid (HB11.out.trans (hb.mono HB11.out.size)); have SS12 := (bcell HB12.out).1; clear hb SS11 )
          | (go_at_call 16; (with_reducible refine (CRC.out w10).mono ?_); rintro e w11 ⟨rfl, hb⟩; have HB11 := Lib.hid (HB10.out.trans (hb.mono HB10.out.size)); have SS11 := (bcell HB11.out).1; clear hb SS10 )
          | (go_at_call 16; (with_reducible refine (CRC.out w8).mono ?_); rintro e w9 ⟨rfl, hb⟩; have HB9 := Lib.hid (HB8.out.trans (hb.mono HB8.out.size)); have SS9 := (bcell HB9.out).1; clear hb SS8 )
          | (go_at_call 15; (with_reducible refine (CCP.out w7).mono ?_); rintro e w8 ⟨rfl, hb⟩; have HB8 := Lib.hid (HB7.out.trans (hb.mono HB7.out.size)); have SS8 := (bcell HB8.out).1; clear hb SS7 )
          | (go_at_call 15; (with_reducible refine (CCQ.out w9).mono ?_); rintro e w10 ⟨rfl, hb⟩; have HB10 := Lib.hid (HB9.out.trans (hb.mono HB9.out.size)); have SS10 := (bcell HB10.out).1; clear hb SS9 )
          | (go_at_call 11; (with_reducible refine (num_same w6 _ _ z N56.out N6.out).mono ?_); rintro e w7 ⟨rfl, hb⟩; have HB7 := Lib.hid (HB6.out.trans (hb.mono HB6.out.size)); have SS7 := (bcell HB7.out).1; clear hb SS6 )
          | (go_at_call 14; (with_reducible refine (CRV.out w5).mono ?_); rintro e w6 ⟨u, rfl, ⟨A6, n6, c6, rfl, hd⟩, hb⟩; have HB6 := Lib.hid (HB5.out.trans (hb.mono HB5.out.size)); have SS6 := (bcell HB6.out).1; have N6 : Hid (NumIs w6 (.agg #[.bool (decide (z < 0)), .slice A6 n6 c6]) z) := (⟨A6, n6, c6, rfl, hd⟩ : NumIs w6 (.agg #[.bool (decide (z < 0)), .slice A6 n6 c6]) z); have N56 := Lib.hid (NumIs.below N5.out hb (Nat.le_refl _)); clear hb SS5 hd)
          | (go_at_call 12; (with_reducible refine (CNU.out w4 h l hs).mono ?_); rintro e w5 ⟨u, rfl, ⟨A5, n5, c5, rfl, hd⟩, hb⟩; have HB5 := Lib.hid (HB4.out.trans (hb.mono HB4.out.size)); have SS5 := (bcell HB5.out).1; have N5 : Hid (NumIs w5 (.agg #[.bool (decide (z < 0)), .slice A5 n5 c5]) z) := (⟨A5, n5, c5, rfl, hd⟩ : NumIs w5 (.agg #[.bool (decide (z < 0)), .slice A5 n5 c5]) z); clear hb SS4 hd)
          | (go_at_call 13; (with_reducible refine (CVA.out w3).mono ?_); rintro e w4 ⟨h, l, rfl, hs, hb⟩; have HB4 := Lib.hid (HB3.out.trans (hb.mono HB3.out.size)); have SS4 := (bcell HB4.out).1; clear hb SS3 )
          | (go_at_call 10; (with_reducible refine (CRK.out w2).mono ?_); rintro e w3 ⟨rfl, hb⟩; have HB3 := Lib.hid (HB2.out.trans (hb.mono HB2.out.size)); have SS3 := (bcell HB3.out).1; clear hb SS2 )
          | (go_at_call 9; (with_reducible refine (CCK.out w1).mono ?_); rintro e w2 ⟨rfl, hb⟩; have HB2 := Lib.hid (HB1.out.trans (hb.mono HB1.out.size)); have SS2 := (bcell HB2.out).1; clear hb SS1 )
          | (go_at_call 8; (with_reducible refine (CKN.out).mono ?_); rintro e w1 ⟨rfl, hb⟩; have HB1 := Lib.hid (HBB.out.trans (hb.mono HBB.out.size)); have SS1 := (bcell HB1.out).1; clear hb ))
        go_wp2
        go_ret
        exact ⟨rfl, HBW.out.trans (HB12.out.mono HBW.out.size)⟩
      · go_region_held3 (fun w' => ∀ b o, b < W2.heap.size → w'.cell? ⟨b, o, none⟩ = W2.cell? ⟨b, o, none⟩) (first | assumption)
         (first
          | (go_at_call 16; (with_reducible refine (CRC.out w11).mono ?_); rintro e w12 ⟨rfl, hb⟩; have HB12 := Lib.hid (HB11.out.trans (hb.mono HB11.out.size)); have SS12 := (bcell HB12.out).1; clear hb SS11 )
          | (go_at_call 16; (with_reducible refine (CRC.out w10).mono ?_); rintro e w11 ⟨rfl, hb⟩; have HB11 := Lib.hid (HB10.out.trans (hb.mono HB10.out.size)); have SS11 := (bcell HB11.out).1; clear hb SS10 )
          | (go_at_call 16; (with_reducible refine (CRC.out w8).mono ?_); rintro e w9 ⟨rfl, hb⟩; have HB9 := Lib.hid (HB8.out.trans (hb.mono HB8.out.size)); have SS9 := (bcell HB9.out).1; clear hb SS8 )
          | (go_at_call 15; (with_reducible refine (CCP.out w7).mono ?_); rintro e w8 ⟨rfl, hb⟩; have HB8 := Lib.hid (HB7.out.trans (hb.mono HB7.out.size)); have SS8 := (bcell HB8.out).1; clear hb SS7 )
          | (go_at_call 15; (with_reducible refine (CCQ.out w9).mono ?_); rintro e w10 ⟨rfl, hb⟩; have HB10 := Lib.hid (HB9.out.trans (hb.mono HB9.out.size)); have SS10 := (bcell HB10.out).1; clear hb SS9 )
          | (go_at_call 11; (with_reducible refine (num_same w6 _ _ z N56.out N6.out).mono ?_); rintro e w7 ⟨rfl, hb⟩; have HB7 := Lib.hid (HB6.out.trans (hb.mono HB6.out.size)); have SS7 := (bcell HB7.out).1; clear hb SS6 )
          | (go_at_call 14; (with_reducible refine (CRV.out w5).mono ?_); rintro e w6 ⟨u, rfl, ⟨A6, n6, c6, rfl, hd⟩, hb⟩; have HB6 := Lib.hid (HB5.out.trans (hb.mono HB5.out.size)); have SS6 := (bcell HB6.out).1; have N6 : Hid (NumIs w6 (.agg #[.bool (decide (z < 0)), .slice A6 n6 c6]) z) := (⟨A6, n6, c6, rfl, hd⟩ : NumIs w6 (.agg #[.bool (decide (z < 0)), .slice A6 n6 c6]) z); have N56 := Lib.hid (NumIs.below N5.out hb (Nat.le_refl _)); clear hb SS5 hd)
          | (go_at_call 12; (with_reducible refine (CNU.out w4 h l hs).mono ?_); rintro e w5 ⟨u, rfl, ⟨A5, n5, c5, rfl, hd⟩, hb⟩; have HB5 := Lib.hid (HB4.out.trans (hb.mono HB4.out.size)); have SS5 := (bcell HB5.out).1; have N5 : Hid (NumIs w5 (.agg #[.bool (decide (z < 0)), .slice A5 n5 c5]) z) := (⟨A5, n5, c5, rfl, hd⟩ : NumIs w5 (.agg #[.bool (decide (z < 0)), .slice A5 n5 c5]) z); clear hb SS4 hd)
          | (go_at_call 13; (with_reducible refine (CVA.out w3).mono ?_); rintro e w4 ⟨h, l, rfl, hs, hb⟩; have HB4 := Lib.hid (HB3.out.trans (hb.mono HB3.out.size)); have SS4 := (bcell HB4.out).1; clear hb SS3 )
          | (go_at_call 10; (with_reducible refine (CRK.out w2).mono ?_); rintro e w3 ⟨rfl, hb⟩; have HB3 := Lib.hid (HB2.out.trans (hb.mono HB2.out.size)); have SS3 := (bcell HB3.out).1; clear hb SS2 )
          | (go_at_call 9; (with_reducible refine (CCK.out w1).mono ?_); rintro e w2 ⟨rfl, hb⟩; have HB2 := Lib.hid (HB1.out.trans (hb.mono HB1.out.size)); have SS2 := (bcell HB2.out).1; clear hb SS1 )
          | (go_at_call 8; (with_reducible refine (CKN.out).mono ?_); rintro e w1 ⟨rfl, hb⟩; have HB1 := Lib.hid (HBB.out.trans (hb.mono HBB.out.size)); have SS1 := (bcell HB1.out).1; clear hb ))
        go_wp2
        go_ret
        exact ⟨rfl, HBW.out.trans (HB12.out.mono HBW.out.size)⟩
      · go_region_held3 (fun w' => ∀ b o, b < W2.heap.size → w'.cell? ⟨b, o, none⟩ = W2.cell? ⟨b, o, none⟩) (first | assumption)
         (first
          | (go_at_call 16; (with_reducible refine (CRC.out w11).mono ?_); rintro e w12 ⟨rfl, hb⟩; have HB12 := Lib.hid (HB11.out.trans (hb.mono HB11.out.size)); have SS12 := (bcell HB12.out).1; clear hb SS11 )
          | (go_at_call 16; (with_reducible refine (CRC.out w10).mono ?_); rintro e w11 ⟨rfl, hb⟩; have HB11 := Lib.hid (HB10.out.trans (hb.mono HB10.out.size)); have SS11 := (bcell HB11.out).1; clear hb SS10 )
          | (go_at_call 16; (with_reducible refine (CRC.out w8).mono ?_); rintro e w9 ⟨rfl, hb⟩; have HB9 := Lib.hid (HB8.out.trans (hb.mono HB8.out.size)); have SS9 := (bcell HB9.out).1; clear hb SS8 )
          | (go_at_call 15; (with_reducible refine (CCP.out w7).mono ?_); rintro e w8 ⟨rfl, hb⟩; have HB8 := Lib.hid (HB7.out.trans (hb.mono HB7.out.size)); have SS8 := (bcell HB8.out).1; clear hb SS7 )
          | (go_at_call 15; (with_reducible refine (CCQ.out w9).mono ?_); rintro e w10 ⟨rfl, hb⟩; have HB10 := Lib.hid (HB9.out.trans (hb.mono HB9.out.size)); have SS10 := (bcell HB10.out).1; clear hb SS9 )
          | (go_at_call 11; (with_reducible refine (num_same w6 _ _ z N56.out N6.out).mono ?_); rintro e w7 ⟨rfl, hb⟩; have HB7 := Lib.hid (HB6.out.trans (hb.mono HB6.out.size)); have SS7 := (bcell HB7.out).1; clear hb SS6 )
          | (go_at_call 14; (with_reducible refine (CRV.out w5).mono ?_); rintro e w6 ⟨u, rfl, ⟨A6, n6, c6, rfl, hd⟩, hb⟩; have HB6 := Lib.hid (HB5.out.trans (hb.mono HB5.out.size)); have SS6 := (bcell HB6.out).1; have N6 : Hid (NumIs w6 (.agg #[.bool (decide (z < 0)), .slice A6 n6 c6]) z) := (⟨A6, n6, c6, rfl, hd⟩ : NumIs w6 (.agg #[.bool (decide (z < 0)), .slice A6 n6 c6]) z); have N56 := Lib.hid (NumIs.below N5.out hb (Nat.le_refl _)); clear hb SS5 hd)
          | (go_at_call 12; (with_reducible refine (CNU.out w4 h l hs).mono ?_); rintro e w5 ⟨u, rfl, ⟨A5, n5, c5, rfl, hd⟩, hb⟩; have HB5 := Lib.hid (HB4.out.trans (hb.mono HB4.out.size)); have SS5 := (bcell HB5.out).1; have N5 : Hid (NumIs w5 (.agg #[.bool (decide (z < 0)), .slice A5 n5 c5]) z) := (⟨A5, n5, c5, rfl, hd⟩ : NumIs w5 (.agg #[.bool (decide (z < 0)), .slice A5 n5 c5]) z); clear hb SS4 hd)
          | (go_at_call 13; (with_reducible refine (CVA.out w3).mono ?_); rintro e w4 ⟨h, l, rfl, hs, hb⟩; have HB4 := Lib.hid (HB3.out.trans (hb.mono HB3.out.size)); have SS4 := (bcell HB4.out).1; clear hb SS3 )
          | (go_at_call 10; (with_reducible refine (CRK.out w2).mono ?_); rintro e w3 ⟨rfl, hb⟩; have HB3 := Lib.hid (HB2.out.trans (hb.mono HB2.out.size)); have SS3 := (bcell HB3.out).1; clear hb SS2 )
          | (go_at_call 9; (with_reducible refine (CCK.out w1).mono ?_); rintro e w2 ⟨rfl, hb⟩; have HB2 := Lib.hid (HB1.out.trans (hb.mono HB1.out.size)); have SS2 := (bcell HB2.out).1; clear hb SS1 )
          | (go_at_call 8; (with_reducible refine (CKN.out).mono ?_); rintro e w1 ⟨rfl, hb⟩; have HB1 := Lib.hid (HBB.out.trans (hb.mono HBB.out.size)); have SS1 := (bcell HB1.out).1; clear hb ))
        go_wp2
        go_ret
        exact ⟨rfl, HBW.out.trans (HB12.out.mono HBW.out.size)⟩
      · go_region_held3 (fun w' => ∀ b o, b < W2.heap.size → w'.cell? ⟨b, o, none⟩ = W2.cell? ⟨b, o, none⟩) (first | assumption)
         (first
          | (go_at_call 16; (with_reducible refine (CRC.out w11).mono ?_); rintro e w12 ⟨rfl, hb⟩; have HB12 := Lib.hid (HB11.out.trans (hb.mono HB11.out.size)); have SS12 := (bcell HB12.out).1; clear hb SS11 )
          | (go_at_call 16; (with_reducible refine (CRC.out w10).mono ?_); rintro e w11 ⟨rfl, hb⟩; have HB11 := Lib.hid (HB10.out.trans (hb.mono HB10.out.size)); have SS11 := (bcell HB11.out).1; clear hb SS10 )
          | (go_at_call 16; (with_reducible refine (CRC.out w8).mono ?_); rintro e w9 ⟨rfl, hb⟩; have HB9 := Lib.hid (HB8.out.trans (hb.mono HB8.out.size)); have SS9 := (bcell HB9.out).1; clear hb SS8 )
          | (go_at_call 15; (with_reducible refine (CCP.out w7).mono ?_); rintro e w8 ⟨rfl, hb⟩; have HB8 := Lib.hid (HB7.out.trans (hb.mono HB7.out.size)); have SS8 := (bcell HB8.out).1; clear hb SS7 )
          | (go_at_call 15; (with_reducible refine (CCQ.out w9).mono ?_); rintro e w10 ⟨rfl, hb⟩; have HB10 := Lib.hid (HB9.out.trans (hb.mono HB9.out.size)); have SS10 := (bcell HB10.out).1; clear hb SS9 )
          | (go_at_call 11; (with_reducible refine (num_same w6 _ _ z N56.out N6.out).mono ?_); rintro e w7 ⟨rfl, hb⟩; have HB7 := Lib.hid (HB6.out.trans (hb.mono HB6.out.size)); have SS7 := (bcell HB7.out).1; clear hb SS6 )
          | (go_at_call 14; (with_reducible refine (CRV.out w5).mono ?_); rintro e w6 ⟨u, rfl, ⟨A6, n6, c6, rfl, hd⟩, hb⟩; have HB6 := Lib.hid (HB5.out.trans (hb.mono HB5.out.size)); have SS6 := (bcell HB6.out).1; have N6 : Hid (NumIs w6 (.agg #[.bool (decide (z < 0)), .slice A6 n6 c6]) z) := (⟨A6, n6, c6, rfl, hd⟩ : NumIs w6 (.agg #[.bool (decide (z < 0)), .slice A6 n6 c6]) z); have N56 := Lib.hid (NumIs.below N5.out hb (Nat.le_refl _)); clear hb SS5 hd)
          | (go_at_call 12; (with_reducible refine (CNU.out w4 h l hs).mono ?_); rintro e w5 ⟨u, rfl, ⟨A5, n5, c5, rfl, hd⟩, hb⟩; have HB5 := Lib.hid (HB4.out.trans (hb.mono HB4.out.size)); have SS5 := (bcell HB5.out).1; have N5 : Hid (NumIs w5 (.agg #[.bool (decide (z < 0)), .slice A5 n5 c5]) z) := (⟨A5, n5, c5, rfl, hd⟩ : NumIs w5 (.agg #[.bool (decide (z < 0)), .slice A5 n5 c5]) z); clear hb SS4 hd)
          | (go_at_call 13; (with_reducible refine (CVA.out w3).mono ?_); rintro e w4 ⟨h, l, rfl, hs, hb⟩; have HB4 := Lib.hid (HB3.out.trans (hb.mono HB3.out.size)); have SS4 := (bcell HB4.out).1; clear hb SS3 )
          | (go_at_call 10; (with_reducible refine (CRK.out w2).mono ?_); rintro e w3 ⟨rfl, hb⟩; have HB3 := Lib.hid (HB2.out.trans (hb.mono HB2.out.size)); have SS3 := (bcell HB3.out).1; clear hb SS2 )
          | (go_at_call 9; (with_reducible refine (CCK.out w1).mono ?_); rintro e w2 ⟨rfl, hb⟩; have HB2 := Lib.hid (HB1.out.trans (hb.mono HB1.out.size)); have SS2 := (bcell HB2.out).1; clear hb SS1 )
          | (go_at_call 8; (with_reducible refine (CKN.out).mono ?_); rintro e w1 ⟨rfl, hb⟩; have HB1 := Lib.hid (HBB.out.trans (hb.mono HBB.out.size)); have SS1 := (bcell HB1.out).1; clear hb ))
        go_wp2
        go_ret
        exact ⟨rfl, HBW.out.trans (HB12.out.mono HBW.out.size)⟩
end Go.Proofs.YtkohpiahcffbaaaDoor.Td
