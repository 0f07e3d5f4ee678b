/-
  The contract of the reference's 'Mul': the product. Conditions: each number has at most 1000 digits to the base 65536.
-/
import Derived.Test.YtjnohdkpkbiclaaSum
import Derived.Deep.Cut
import Derived.Deep.OwnRows
import Derived.BigRegion
namespace Go.Proofs.Ytjnohdkpkbiclaa
open Go.RowKit

theorem mul_step (V T P K ai bk X o m s p : Int) (hs : s = o + p + m) (hp : p = ai * bk) (h : V + P * K * m = T + P * (ai * X)) :
    V + P * K * (s % 65536 - o) + 65536 * (P * K) * (s / 65536) = T + P * (ai * (X + K * bk)) := by
  have e : s = s % 65536 + 65536 * (s / 65536) := by omega
  have e1 : P * K * s = P * K * (s % 65536) + P * K * (65536 * (s / 65536)) := by rw [← Int.mul_add, ← e]
  have e2 : P * K * s = P * K * o + P * K * p + P * K * m := by rw [hs, Int.mul_add, Int.mul_add]
  have e3 : P * K * (65536 * (s / 65536)) = 65536 * (P * K) * (s / 65536) := by rw [← Int.mul_assoc, Int.mul_comm (P * K) 65536]
  have e4 : P * (ai * (X + K * bk)) = P * (ai * X) + P * K * p := by
    rw [hp, Int.mul_add, Int.mul_add]
    congr 1
    rw [Int.mul_assoc P K, Int.mul_left_comm K ai bk]
  rw [e4, Int.mul_sub]
  omega
theorem mul_more (V T P K ai X m _B : Int) (hV : 0 ≤ V) (hm : 0 ≤ m) (hPK : 0 < P * K) (h : V + P * K * m = T + P * (ai * X)) (hlt : T + P * (ai * X) < P * K) : m = 0 := by
  rcases Int.lt_or_le 0 m with h1 | h1
  · have : P * K * 1 ≤ P * K * m := Int.mul_le_mul_of_nonneg_left (by omega) (by omega)
    omega
  · omega
theorem mul_all {da db : List Int} {i k : Nat} {V m ai : Int} (hai : ai = da.getD i 0) (hk : db.length ≤ k)
    (h : V + bp i * bp k * m = val (da.take i) * val db + bp i * (ai * val (db.take k))) : V + bp i * bp k * m = val (da.take (i + 1)) * val db := by
  rw [val_take_all hk] at h
  rw [h, val_take_succ, ← hai, Int.add_mul, Int.mul_assoc]
theorem mul_done {da db : List Int} {i : Nat} {V m ai : Int} (ha : InR da) (hb : InR db) (hai : ai = da.getD i 0) (hV : 0 ≤ V) (hm : 0 ≤ m)
    (h : V + bp i * bp (db.length + 1) * m = val (da.take i) * val db + bp i * (ai * val (db.take (db.length + 1)))) : m = 0 := by
  have h1 := mul_all hai (by omega) h
  have hx := val_take_lt ha (i + 1)
  have hy := val_lt hb
  have hy0 := val_nonneg hb
  have hQ := bp_pos db.length
  have hP := bp_pos i
  have e1 : val (da.take (i + 1)) * val db ≤ val (da.take (i + 1)) * bp db.length := Int.mul_le_mul_of_nonneg_left (by omega) hx.1
  have e2 : val (da.take (i + 1)) * bp db.length < bp (i + 1) * bp db.length := Int.mul_lt_mul_of_pos_right hx.2 hQ
  have e3 : bp (i + 1) * bp db.length = bp i * bp (db.length + 1) := by
    simp only [bp]; rw [Int.mul_comm 65536 (bp i), Int.mul_assoc]
  have hPQ : 0 < bp i * bp (db.length + 1) := Int.mul_pos hP (bp_pos _)
  rcases Int.lt_or_le 0 m with h2 | h2
  · have : bp i * bp (db.length + 1) * 1 ≤ bp i * bp (db.length + 1) * m := Int.mul_le_mul_of_nonneg_left (by omega) (by omega)
    omega
  · omega
theorem mul_sign (x y : Int) : x * y = if (!(decide (x < 0) == decide (y < 0))) = true then - ((x.natAbs : Int) * y.natAbs) else (x.natAbs : Int) * y.natAbs := by
  have cx : (x < 0 ∧ (x.natAbs : Int) = -x) ∨ (¬ x < 0 ∧ (x.natAbs : Int) = x) := by omega
  have cy : (y < 0 ∧ (y.natAbs : Int) = -y) ∨ (¬ y < 0 ∧ (y.natAbs : Int) = y) := by omega
  rcases cx with ⟨hx, ex⟩ | ⟨hx, ex⟩ <;> rcases cy with ⟨hy, ey⟩ | ⟨hy, ey⟩ <;> rw [ex, ey] <;> simp [hx, hy, Int.neg_mul, Int.mul_neg]
theorem prod_bound {d e : Int} (h0 : 0 ≤ d) (h1 : d < 65536) (h2 : 0 ≤ e) (h3 : e < 65536) : 0 ≤ d * e ∧ d * e ≤ 4294836225 := by
  refine ⟨Int.mul_nonneg h0 h2, ?_⟩
  have := Int.mul_le_mul (show d ≤ 65535 by omega) (show e ≤ 65535 by omega) h2 (by omega)
  omega

theorem made_zero (n : Nat) : madeCells #[Value.int .i64 0] n = (ints (List.replicate n 0)).toArray := by
  apply Array.ext
  · simp [madeCells, ints]
  · intro i h1 h2
    simp [madeCells, ints, Nat.mod_one]
theorem ints_set (os : List Int) (j : Nat) (d : Int) : (ints os).toArray.setIfInBounds j (.int .i64 d) = (ints (os.set j d)).toArray := by
  simp [ints, List.map_set]
theorem row_cell {w : World} {g : Nat} {os : List Int} (h : w.heap[g]? = some (.cells (ints os).toArray 3 (0, 0))) (j : Nat) (hj : j < os.length) :
    w.cell? ⟨g, j, none⟩ = some (.int .i64 (os.getD j 0)) ∧ w.frozen? ⟨g, j, none⟩ = false := by
  refine ⟨?_, by simp [World.frozen?, h]⟩
  rw [cell_of_row w g j _ _ _ h]
  simp only [ints, List.getElem?_toArray, List.getElem?_map, List.getD_eq_getElem?_getD, List.getElem?_eq_getElem hj]
  rfl
theorem row_set {w : World} {g : Nat} {os : List Int} (h : w.heap[g]? = some (.cells (ints os).toArray 3 (0, 0))) (j : Nat) (d : Int) :
    (w.setCell ⟨g, j, none⟩ (.int .i64 d)).heap[g]? = some (.cells (ints (os.set j d)).toArray 3 (0, 0)) := by
  simp only [World.setCell, Array.getElem?_modify, if_true]
  rw [h, ← ints_set]; rfl

/-- The world within Mul: the two arguments' structs, the result's, the product's and its row of digits. -/
def MulW (w wx : World) (b g : Nat) (b1 b2 : Bool) (A A' : Option Addr) (n n' c c' : Nat) (os : List Int) : Prop :=
  wx.heap[b]? = some (.cells #[.bool (!(b1 == b2)), .slice (some ⟨g, 0, none⟩) (n + n' + 1) (n + n' + 1)] 25 (0, 0)) ∧ wx.heap[g]? = some (.cells (ints os).toArray 3 (0, 0)) ∧
      wx.heap[w.heap.size]? = some (.cells #[.bool b1, .slice A n c] 25 (0, 0)) ∧ wx.heap[w.heap.size + 1]? = some (.cells #[.bool b2, .slice A' n' c'] 25 (0, 0)) ∧ wx.heap[w.heap.size + 1 + 1]? = some (.cells #[.bool false, .slice none 0 0] 25 (0, 0)) ∧ Below w.heap.size w wx
theorem MulW.set_ {w wx : World} {b g : Nat} {b1 b2 : Bool} {A A' : Option Addr} {n n' c c' : Nat} {os : List Int} (h : MulW w wx b g b1 b2 A A' n n' c c' os) (hb : b ≠ g) (hg : w.heap.size + 1 + 1 < g) (j : Nat) (d : Int) :
    MulW w (wx.setCell ⟨g, j, none⟩ (.int .i64 d)) b g b1 b2 A A' n n' c c' (os.set j d) := by
  obtain ⟨h1, h2, h3, h4, h5, h6⟩ := h
  exact ⟨block_set h1 hb _, row_set h2 j d, block_set h3 (p := ⟨g, j, none⟩) (by show w.heap.size ≠ g; omega) _, block_set h4 (p := ⟨g, j, none⟩) (by show w.heap.size + 1 ≠ g; omega) _, block_set h5 (p := ⟨g, j, none⟩) (by show w.heap.size + 1 + 1 ≠ g; omega) _, h6.setCell (p := ⟨g, j, none⟩) (by show w.heap.size ≤ g; omega) _⟩
theorem MulW.drewN {w wx : World} {b g : Nat} {b1 b2 : Bool} {A A' : Option Addr} {n n' c c' : Nat} {os : List Int} (h : MulW w wx b g b1 b2 A A' n n' c c' os) (k : Nat) : MulW w (wx.drewN k) b g b1 b2 A A' n n' c c' os :=
  ⟨h.1, h.2.1, h.2.2.1, h.2.2.2.1, h.2.2.2.2.1, below_drewN h.2.2.2.2.2 k⟩

/-- Five new blocks. -/
theorem five_new (w : World) (o1 o2 o3 o4 o5 : Obj) :
    (((((w.alloc o1).alloc o2).alloc o3).alloc o4).alloc o5).drew.heap[w.heap.size]? = some o1 ∧ (((((w.alloc o1).alloc o2).alloc o3).alloc o4).alloc o5).drew.heap[w.heap.size + 1]? = some o2 ∧
    (((((w.alloc o1).alloc o2).alloc o3).alloc o4).alloc o5).drew.heap[w.heap.size + 1 + 1]? = some o3 ∧ (((((w.alloc o1).alloc o2).alloc o3).alloc o4).alloc o5).drew.heap[w.heap.size + 1 + 1 + 1]? = some o4 ∧
    (((((w.alloc o1).alloc o2).alloc o3).alloc o4).alloc o5).drew.heap[w.heap.size + 1 + 1 + 1 + 1]? = some o5 ∧ Below w.heap.size w (((((w.alloc o1).alloc o2).alloc o3).alloc o4).alloc o5).drew := by
  have e1 : (w.alloc o1).heap.size = w.heap.size + 1 := by simp
  have e2 : ((w.alloc o1).alloc o2).heap.size = w.heap.size + 1 + 1 := by simp
  have e3 : (((w.alloc o1).alloc o2).alloc o3).heap.size = w.heap.size + 1 + 1 + 1 := by simp
  have e4 : ((((w.alloc o1).alloc o2).alloc o3).alloc o4).heap.size = w.heap.size + 1 + 1 + 1 + 1 := by simp
  have hd : (((((w.alloc o1).alloc o2).alloc o3).alloc o4).alloc o5).drew.heap = (((((w.alloc o1).alloc o2).alloc o3).alloc o4).alloc o5).heap := rfl
  rw [hd]
  refine ⟨?_, ?_, ?_, ?_, ?_, ?_⟩
  · exact block_old (block_old (block_old (block_old (block_new _ _) _) _) _) _
  · rw [← e1]; exact block_old (block_old (block_old (block_new _ _) _) _) _
  · rw [← e2]; exact block_old (block_old (block_new _ _) _) _
  · rw [← e3]; exact block_old (block_new _ _) _
  · rw [← e4]; exact block_new _ _
  · exact ((((((Below.refl _ _).alloc (Nat.le_refl _) _).alloc (by rw [e1]; omega) _).alloc (by rw [e2]; omega) _).alloc (by rw [e3]; omega) _).alloc (by rw [e4]; omega) _).drew

set_option maxRecDepth 100000 in
set_option maxHeartbeats 2000000 in
theorem mul_any (w : World) (u v : Value) (x y : Int) (h : NumIs w u x) (h' : NumIs w v y) (hf : Few x) (hf' : Few y) :
    Calls Try.prog 17 #[u, v] w fun e w' => ∃ u, e = .returned u ∧ NumIs w' u (x * y) ∧ Below w.heap.size w w' := by
  obtain ⟨A, n, c, rfl, hd⟩ := h
  obtain ⟨A', n', c', rfl, hd'⟩ := h'
  have HL := Lib.hid hd.len.1
  have HL' := Lib.hid hd'.len.1
  have hn : n ≤ 1000 := by have := HL.out; unfold Few at hf; omega
  have hn' : n' ≤ 1000 := by have := HL'.out; unfold Few at hf'; omega
  have H := Lib.hid hd
  have H' := Lib.hid hd'
  clear hd hd' hf hf'
  obtain ⟨b1, hb1⟩ : ∃ b, b = decide (x < 0) := ⟨_, rfl⟩
  obtain ⟨b2, hb2⟩ : ∃ b, b = decide (y < 0) := ⟨_, rfl⟩
  rw [← hb1, ← hb2]
  have HB1 := Lib.hid hb1
  have HB2 := Lib.hid hb2
  clear hb1 hb2
  have hmk : ∀ W : World, (Instr.makeSlice 23 (.int .i64 ((n : Int) + n' + 1)) (.int .i64 ((n : Int) + n' + 1))).run Try.prog W = .ok (.slice (some ⟨W.heap.size, 0, none⟩) (n + n' + 1) (n + n' + 1)) (W.alloc (.cells (ints (List.replicate (n + n' + 1) 0)).toArray 3)) := by
    intro W
    have h := run_make_row' (P := Try.prog) 23 3 (.int .i64 0) 8 Try.underlying23 info_int rfl .i64 .i64 (n + n' + 1) (by omega) (by omega) W
    rw [made_zero] at h
    simpa using h
  go_enter Try.func17, Try.ntmps17
  go_wp2
  go_cut [5] from 10 (fun s5 wx => ∃ (b g : Nat), s5 = .pointer (some ⟨b, 0, none⟩) ∧ w.heap.size + 1 + 1 < b ∧ w.heap.size + 1 + 1 < g ∧ b ≠ g ∧ Hid (MulW w wx b g b1 b2 A A' n n' c c' (List.replicate (n + n' + 1) 0)))
  case first =>
    go_region
    · go_wp2
      go_meet
      case rel =>
        obtain ⟨h1, h2, h3, h4, h5, h6⟩ := five_new w (.cells #[.bool b1, .slice A n c] 25) (.cells #[.bool b2, .slice A' n' c'] 25) (.cells #[.bool false, .slice none 0 0] 25) (.cells (ints (List.replicate (n + n' + 1) 0)).toArray 3) (.cells #[.bool (!(b1 == b2)), .slice (some ⟨w.heap.size + 1 + 1 + 1, 0, none⟩) (n + n' + 1) (n + n' + 1)] 25)
        exact ⟨w.heap.size + 1 + 1 + 1 + 1, w.heap.size + 1 + 1 + 1, rfl, by omega, by omega, by omega, h5, h4, h1, h2, h3, h6⟩
    · go_wp2
      go_meet
      case rel =>
        obtain ⟨h1, h2, h3, h4, h5, h6⟩ := five_new w (.cells #[.bool b1, .slice A n c] 25) (.cells #[.bool b2, .slice A' n' c'] 25) (.cells #[.bool false, .slice none 0 0] 25) (.cells #[.bool (!(b1 == b2)), .slice (some ⟨w.heap.size + 1 + 1 + 1 + 1, 0, none⟩) (n + n' + 1) (n + n' + 1)] 25) (.cells (ints (List.replicate (n + n' + 1) 0)).toArray 3)
        exact ⟨w.heap.size + 1 + 1 + 1, w.heap.size + 1 + 1 + 1 + 1, rfl, by omega, by omega, by omega, h4, h5, h1, h2, h3, h6⟩
  case rest =>
    obtain ⟨b, g, rfl, hb, hg, hbg, hW⟩ := hcut
    go_wp2
    go_loopg [6] n (fun gh si wx => ∃ (i : Nat) (os : List Int), gh = n - i ∧ i ≤ n ∧ si = .int .i64 (i : Int) ∧ os.length = n + n' + 1 ∧ Hid (MulW w wx b g b1 b2 A A' n n' c c' os ∧ InR os ∧ val os = val ((digs x.natAbs).take i) * val (digs y.natAbs)))
    case atStart => exact ⟨0, _, rfl, Nat.zero_le _, rfl, by simp, hW, InR.rep _, by rw [val_rep]; simp [val]⟩
    case round =>
      obtain ⟨i, os, rfl, hi, rfl, hol, hinv⟩ := hrel
      obtain ⟨a0, a1, _, _⟩ := blk2 hinv.out.1.2.2.1
      by_cases hlt : i < n
      · obtain ⟨G, rfl, hG, hcell⟩ := H.out.some (by omega)
        obtain ⟨ai, hai⟩ : ∃ d, d = (digs x.natAbs).getD i 0 := ⟨_, rfl⟩
        have hair := (digs_inR x.natAbs).getD i
        rw [← hai] at hair
        obtain ⟨hai0, hai1⟩ := hair
        have hci := hcell i hlt
        rw [← hai] at hci
        have HAI := Lib.hid hai
        clear hai hcell
        obtain ⟨wo, rfl⟩ : ∃ wo : World, wo = wr := ⟨_, rfl⟩
        go_wp2
        go_loopg [7, 8] (n' + 2) (fun gh sm sk wx => ∃ (k : Nat) (m : Int) (os2 : List Int), gh = n' + 2 - k ∧ k ≤ n' + 1 ∧ sm = .int .i64 m ∧ 0 ≤ m ∧ m ≤ 65535 ∧ sk = .int .i64 (k : Int) ∧ os2.length = n + n' + 1 ∧
            Hid (MulW w wx b g b1 b2 (some ⟨G, 0, none⟩) A' n n' c c' os2 ∧ InR os2 ∧ val os2 + bp i * bp k * m = val ((digs x.natAbs).take i) * val (digs y.natAbs) + bp i * (ai * val ((digs y.natAbs).take k))))
        case atStart => exact ⟨0, 0, os, rfl, by omega, rfl, by decide, by decide, rfl, hol, hinv.out.1, hinv.out.2.1, by rw [hinv.out.2.2]; simp [val]⟩
        case round =>
          obtain ⟨k, m, os2, rfl, hk, rfl, hm0, hm1, rfl, hol2, hinv2⟩ := hrel
          obtain ⟨a0, a1, _, _⟩ := blk2 hinv2.out.1.2.2.1
          obtain ⟨b0, b1', _, _⟩ := blk2 hinv2.out.1.2.2.2.1
          obtain ⟨o0, o1, _, _⟩ := blk2 hinv2.out.1.1
          have hbw := Lib.hid hinv2.out.1.2.2.2.2.2
          have hmore : k = n' + 1 → m = 0 := by
            intro hkk
            obtain ⟨_, h2, h3⟩ := hinv2.out
            rw [hkk, HL'.out] at h3
            exact mul_done (digs_inR _) (digs_inR _) HAI.out (val_nonneg h2) hm0 h3
          have hck : wr.cell? ⟨G, i, none⟩ = some (.int .i64 ai) := by rw [hbw.out.cell (p := ⟨G, i, none⟩) hG]; exact hci
          by_cases hlk : k < n' ∨ 0 < m
          · have hkn : k ≤ n' := by
              rcases Nat.lt_or_ge n' k with h | h
              · have := hmore (by omega); omega
              · exact h
            obtain ⟨bk, hbk⟩ : ∃ d, d = (digs y.natAbs).getD k 0 := ⟨_, rfl⟩
            have hbkr := (digs_inR y.natAbs).getD k
            rw [← hbk] at hbkr
            obtain ⟨hbk0, hbk1⟩ := hbkr
            have HBK := Lib.hid hbk
            obtain ⟨o, ho⟩ : ∃ d, d = os2.getD (i + k) 0 := ⟨_, rfl⟩
            have hor := (hinv2.out.2.1).getD (i + k)
            rw [← ho] at hor
            obtain ⟨ho0, ho1⟩ := hor
            obtain ⟨hco, hfo⟩ := row_cell hinv2.out.1.2.1 (i + k) (by omega)
            rw [← ho] at hco
            have HOO := Lib.hid ho
            have hp := prod_bound hai0 hai1 hbk0 hbk1
            obtain ⟨p, hpp⟩ : ∃ p, p = ai * bk := ⟨_, rfl⟩
            rw [← hpp] at hp
            obtain ⟨hp0, hp1⟩ := hp
            have HdB := Lib.hid (H'.out.below hbw.out (Nat.le_refl _))
            have HP := Lib.hid hpp
            clear hbk ho hmore
            have hx1 : (0 : Int) ≤ (i : Int) + k := by omega
            have hx2 : (i : Int) + k < (n : Int) + n' + 1 := by omega
            have hw0 : IntKind.i64.wrap ((i : Int) + k) = (i : Int) + k := IntWalk.i64_in _ (by omega)
            have hw1 : IntKind.i64.wrap (ai * bk) = p := by rw [← hpp]; exact IntWalk.i64_in _ (by omega)
            have hw2 : IntKind.i64.wrap (o + p) = o + p := IntWalk.i64_in _ (by omega)
            have hw3 : IntKind.i64.wrap (o + p + m) = o + p + m := IntWalk.i64_in _ (by omega)
            have hw4 : ((i : Int) + k).toNat = i + k := by omega
            clear hpp
            rcases (by omega : k < n' ∨ (¬ k < n' ∧ 0 < m)) with hka | ⟨hka, hkb⟩
            all_goals
              go_wp2
              go_quiet ((go_at_call 38; with_reducible exact Calls.quiet_of_same (at_is (HdB.out.drewN _) _ HBK)))
              obtain ⟨wq, hwq⟩ : ∃ wq, wq = wr.drewN nq := ⟨_, rfl⟩
              rw [← hwq]
              have hinv3 : Hid (MulW w wq b g b1 b2 (some ⟨G, 0, none⟩) A' n n' c c' os2) := by rw [hwq]; exact hinv2.out.1.drewN _
              clear hwq hco hfo o0 o1 a0 a1 b0 b1' hck hw1 hw2 hw3 hbw
              obtain ⟨hco, hfo⟩ := row_cell hinv3.out.2.1 (i + k) (by omega)
              obtain ⟨o0, o1, _, _⟩ := blk2 hinv3.out.1
              obtain ⟨s, hs⟩ : ∃ s, s = o + p + m := ⟨_, rfl⟩
              rw [← hs]
              have hs0 : 0 ≤ s := by omega
              have hs1 : s ≤ 4294967295 := by omega
              have HS := Lib.hid hs
              clear hs
              go_wp2
              have hnew := hinv3.out.set_ hbg hg (i + k) (s % 65536)
              have hr2 : InR (os2.set (i + k) (s % 65536)) := hinv2.out.2.1.set _ (by omega) (by omega)
              have hv2 : val (os2.set (i + k) (s % 65536)) + bp i * bp (k + 1) * (s / 65536) = val ((digs x.natAbs).take i) * val (digs y.natAbs) + bp i * (ai * val ((digs y.natAbs).take (k + 1))) := by
                rw [val_set _ _ _ (by omega), ← HOO.out, val_take_succ, ← HBK.out, bp_add]
                have h5 := mul_step (val os2) _ (bp i) (bp k) ai bk _ o m s p HS.out HP.out hinv2.out.2.2
                have e3 : bp i * bp (k + 1) = 65536 * (bp i * bp k) := by simp only [bp]; rw [Int.mul_left_comm]
                rw [e3]; exact h5
              clear hco hfo o0 o1
              go_roundg (n' + 2 - (k + 1))
              case measure => omega
              case rel => exact ⟨k + 1, s / 65536, os2.set (i + k) (s % 65536), rfl, by omega, rfl, by omega, by omega, by go_num, by simpa using hol2, hnew, hr2, hv2⟩
          · have hm2 : m = 0 := by omega
            have hkn : ¬ k < n' := by omega
            have hv := mul_all HAI.out (by have := HL'.out; omega) hinv2.out.2.2
            subst hm2
            have hinv4 : Hid (MulW w wr b g b1 b2 (some ⟨G, 0, none⟩) A' n n' c c' os2 ∧ InR os2 ∧ val os2 = val ((digs x.natAbs).take (i + 1)) * val (digs y.natAbs)) := ⟨hinv2.out.1, hinv2.out.2.1, by rw [Int.mul_zero, Int.add_zero] at hv; exact hv⟩
            clear hmore hck hlk hv hinv2
            go_wp2
            go_roundg (n - (i + 1))
            case measure => omega
            case rel => exact ⟨i + 1, os2, rfl, by omega, by go_num, hol2, hinv4⟩
      · have hin : i = n := by omega
        have hz : Hid (x * y = if (!(b1 == b2)) = true then - val os else val os) := by
          have h3 := hinv.out.2.2
          rw [val_take_all (by have := HL.out; omega), val_digs, val_digs] at h3
          show x * y = _
          rw [h3, HB1.out, HB2.out]
          exact mul_sign x y
        have hdig : Digs wr (.slice (some ⟨g, 0, none⟩) (n + n' + 1) (n + n' + 1)) os := by
          rw [← hol]
          exact Digs.of_row hinv.out.1.2.1 (by rw [List.take_of_length_le (by simp [ints])]) (Nat.le_refl _) (by rw [hol]; unfold maxLen; omega)
        obtain ⟨o0, o1, _, _⟩ := blk2 hinv.out.1.1
        have HD := Lib.hid hdig
        clear hdig
        go_wp2_with (go_at_call 39; refine (clean_num _ _ _ os _ HD.out hinv.out.2.1 hz.out).mono ?_; rintro e w' ⟨u, rfl, ⟨A2, n2, c2', rfl, hdig2⟩, hbel2⟩; have hres3 := block_kept hinv.out.1.2.2.2.2.1 hbel2; obtain ⟨dd0, dd1, gg0, gg1⟩ := blk2 hres3)
        refine bodyPost_ret (v := .agg #[.bool (decide (x * y < 0)), .slice A2 n2 c2']) (by simp [results, Try.results17, go_sem, dd0, dd1]) rfl ⟨_, rfl, num_stored ⟨_, _, _, rfl, hdig2⟩ hres3 _ _, ?_⟩
        exact below_stored (hinv.out.1.2.2.2.2.2.trans (hbel2.mono hinv.out.1.2.2.2.2.2.size)) (by omega) _ _
end Go.Proofs.Ytjnohdkpkbiclaa
