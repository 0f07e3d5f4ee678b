/-
  The contracts of move and Sum: the check sum. Conditions: bytes.
-/
import Derived.Test.YtganokcmcdkdgaaGreatFMath
namespace Go.Proofs.YtganokcmcdkdgaaGreat.Fr
open Go.RowKit

theorem bits_xor32 (a b : Nat) (ha : a < 4294967296) (hb : b < 4294967296) : bits .xor .u32 (a : Int) (b : Int) = ((a ^^^ b : Nat) : Int) := by
  show IntKind.u32.wrap ((BitVec.ofInt 32 (a : Int) ^^^ BitVec.ofInt 32 (b : Int)).toNat : Int) = _
  have := lt_xor ha hb
  have e1 : (BitVec.ofInt 32 (a : Int)).toNat = a := by rw [BitVec.toNat_ofInt]; omega
  have e2 : (BitVec.ofInt 32 (b : Int)).toNat = b := by rw [BitVec.toNat_ofInt]; omega
  rw [BitVec.toNat_xor, e1, e2]
  simp [IntKind.wrap, IntKind.bits, IntKind.signed]
  omega
set_option maxRecDepth 100000 in
theorem move_any (w : World) (r b : Nat) (hr : r < 4294967296) (hb : b < 256) :
    Calls Tryz.prog 77 #[.int .u32 (r : Int), .int .u8 (b : Int)] w fun e w' => e = .returned (.int .u32 (mvF r b : Int)) ∧ w = w' := by
  obtain ⟨q, hq⟩ : ∃ q, q = r ^^^ b := ⟨_, rfl⟩
  have hx := bits_xor32 r b hr (by omega)
  rw [← hq] at hx
  have hq2 : q < 4294967296 := by rw [hq]; exact lt_xor hr (by omega)
  have HM : Hid (stps 8 q = mvF r b) := by show _ = _; rw [hq]; rfl
  clear hq
  go_enter Tryz.func77, Tryz.ntmps77
  go_wp2
  go_loopg [0, 9] 8 (fun (gh : Nat) s0 s9 wx => ∃ k m : Nat, gh = 8 - k ∧ k ≤ 8 ∧ s0 = .int .u32 (m : Int) ∧ s9 = .int .i64 (k : Int) ∧ Hid (m < 4294967296 ∧ stps (8 - k) m = mvF r b) ∧ wx = w)
  case atStart => exact ⟨0, q, rfl, by omega, rfl, rfl, ⟨hq2, HM.out⟩, rfl⟩
  case round =>
    obtain ⟨k, m, rfl, hk, rfl, rfl, hm, rfl⟩ := hrel
    by_cases hlt : k < 8
    · have t1 : (k : Int) < 8 := by omega
      have hm2 := hm.out.1
      obtain ⟨y, hy⟩ : ∃ y, y = m / 2 := ⟨_, rfl⟩
      have e1 : (m : Int) / 2 = (y : Int) := by omega
      have hy2 : y < 4294967296 := by omega
      have HS : Hid (∀ z : Nat, z = stp m → z < 4294967296 ∧ stps (8 - (k + 1)) z = mvF r b) := by
        rintro z rfl
        refine ⟨stp_lt hm2, ?_⟩
        have h1 := hm.out.2
        rw [show 8 - k = 8 - (k + 1) + 1 by omega] at h1
        exact h1
      rcases Nat.mod_two_eq_zero_or_one m with hp | hp
      · have e2 : (m : Int) % 2 = 0 := by omega
        have e3 : bits .xor .u32 (y : Int) 0 = (y : Int) := by
          have := bits_xor32 y 0 hy2 (by decide)
          simpa using this
        have HZ := Lib.hid (HS.out y (by unfold stp; rw [hp, hy]; simp))
        clear hy hm HS
        go_wp2
        go_roundg (8 - (k + 1))
        case measure => omega
        case rel => exact ⟨k + 1, y, rfl, hlt, rfl, by go_num, HZ.out, rfl⟩
      · have e2 : (m : Int) % 2 = 1 := by omega
        obtain ⟨z, hz⟩ : ∃ z, z = y ^^^ 3988292384 := ⟨_, rfl⟩
        have e3 : bits .xor .u32 (y : Int) 3988292384 = (z : Int) := by
          have := bits_xor32 y 3988292384 hy2 (by decide)
          rw [hz]
          exact this
        have HZ := Lib.hid (HS.out z (by unfold stp; rw [hp, hz, hy]))
        clear hy hm HS hz
        go_wp2
        go_roundg (8 - (k + 1))
        case measure => omega
        case rel => exact ⟨k + 1, z, rfl, hlt, rfl, by go_num, HZ.out, rfl⟩
    · obtain rfl : k = 8 := by omega
      have HE : Hid (m = mvF r b) := hm.out.2
      go_wp2
      go_ret
      exact ⟨by rw [HE.out]; rfl, rfl⟩

/-- The slice v holds slices that hold the bytes ls. -/
def PAt (w : World) (v : Value) (ls : List (List Int)) : Prop :=
  ∃ A cap, v = .slice A ls.length cap ∧ ls.length ≤ cap ∧ (0 < ls.length → ∃ g o, A = some ⟨g, o, none⟩ ∧ g < w.heap.size ∧ ∀ i, i < ls.length → ∃ u, w.cell? ⟨g, o + i, none⟩ = some u ∧ BAt w u (ls.getD i []))
theorem PAt.one {w : World} {u : Value} {l : List Int} (h : BAt w u l) : PAt (w.alloc (.cells #[u] 22)) (.slice (some ⟨w.heap.size, 0, none⟩) 1 1) [l] :=
  ⟨_, 1, rfl, Nat.le_refl _, fun _ => ⟨w.heap.size, 0, rfl, by simp, fun i hi => by
    obtain rfl : i = 0 := by simp at hi; omega
    exact ⟨u, (block_cell (block_new w _)).1, h.kept ((Below.refl _ w).alloc (Nat.le_refl _) _)⟩⟩⟩
theorem PAt.kept {w w' : World} {v : Value} {ls : List (List Int)} (h : PAt w v ls) (hb : Below w.heap.size w w') : PAt w' v ls := by
  obtain ⟨A, cap, h1, h2, h3⟩ := h
  refine ⟨A, cap, h1, h2, fun hp => ?_⟩
  obtain ⟨g, o, h4, h5, h6⟩ := h3 hp
  refine ⟨g, o, h4, Nat.lt_of_lt_of_le h5 hb.size, fun i hi => ?_⟩
  obtain ⟨u, h7, h8⟩ := h6 i hi
  exact ⟨u, (hb.cell (p := ⟨g, o + i, none⟩) h5).trans h7, h8.kept hb⟩
theorem crcF_snoc {l : List Int} {j : Nat} (h : j < l.length) (r : Nat) : crcF r (l.take (j + 1)) = mvF (crcF r (l.take j)) (l.getD j 0).toNat := by
  rw [List.take_succ_eq_append_getElem h, crcF_app]
  show mvF _ _ = _
  simp [List.getD, List.getElem?_eq_getElem h]
theorem flat_snoc {ls : List (List Int)} {i : Nat} (h : i < ls.length) : (ls.take (i + 1)).flatten = (ls.take i).flatten ++ ls.getD i [] := by
  have e : ls.getD i [] = ls[i] := by simp [List.getD, List.getElem?_eq_getElem h]
  rw [List.take_succ_eq_append_getElem h, List.flatten_append, e, List.flatten_cons, List.flatten_nil, List.append_nil]
def boks (ls : List (List Int)) : Prop := ls.length ≤ 1000 ∧ ∀ l ∈ ls, bok l ∧ l.length ≤ 2000000
theorem boks_at {ls : List (List Int)} (h : boks ls) (i : Nat) : bok (ls.getD i []) ∧ (ls.getD i []).length ≤ 2000000 := by
  by_cases hi : i < ls.length
  · have e : ls.getD i [] = ls[i] := by simp [List.getD, List.getElem?_eq_getElem hi]
    rw [e]; exact h.2 _ (List.getElem_mem hi)
  · have e : ls.getD i [] = [] := by simp [List.getD, List.getElem?_eq_none (Nat.le_of_not_lt hi)]
    rw [e]; exact ⟨fun x hx => absurd hx (List.not_mem_nil), by decide⟩
theorem boks_flat {ls : List (List Int)} (h : boks ls) : bok ls.flatten := fun x hx => by
  obtain ⟨l, hl, hx2⟩ := List.mem_flatten.1 hx
  exact (h.2 l hl).1 x hx2
theorem boks_take {ls : List (List Int)} (h : boks ls) (i : Nat) : boks (ls.take i) := ⟨by have := h.1; rw [List.length_take]; omega, fun l hl => h.2 l (List.mem_of_mem_take hl)⟩
theorem boks_one {l : List Int} (h : bok l) (hl : l.length ≤ 2000000) : boks [l] := ⟨by simp, fun m hm => by rw [List.mem_singleton] at hm; subst hm; exact ⟨h, hl⟩⟩
theorem not32 (r : Nat) (h : r < 4294967296) : bits .xor .u32 IntKind.u32.max (r : Int) = ((4294967295 - r : Nat) : Int) := by
  show IntKind.u32.wrap ((BitVec.ofInt 32 IntKind.u32.max ^^^ BitVec.ofInt 32 (r : Int)).toNat : Int) = _
  have h3 : BitVec.ofInt 32 IntKind.u32.max = BitVec.allOnes 32 := by decide
  rw [h3, BitVec.allOnes_xor, BitVec.toNat_not, BitVec.toNat_ofInt]
  simp [IntKind.wrap, IntKind.bits, IntKind.signed]
  omega

set_option maxRecDepth 100000 in
set_option maxHeartbeats 4000000 in
theorem sum_any (w : World) (v : Value) (ls : List (List Int)) (h : PAt w v ls) (hb : boks ls) :
    Calls Tryz.prog 49 #[v] w fun e w' => e = .returned (.int .u32 (crc ls.flatten : Int)) ∧ w = w' := by
  obtain ⟨A, cap, rfl, _, hc⟩ := h
  obtain ⟨n, hn⟩ : ∃ n, n = ls.length := ⟨_, rfl⟩
  rw [← hn] at hc ⊢
  have HC := Lib.hid hc
  have HB := Lib.hid hb
  have HN := Lib.hid hn
  have hnl : n ≤ 1000 := by have := hb.1; omega
  clear hc hb hn
  go_enter Tryz.func49, Tryz.ntmps49
  go_wp2
  go_loopg [3, 10] n (fun (gh : Nat) s3 s10 wx => ∃ i r : Nat, gh = n - i ∧ i ≤ n ∧ s3 = .int .u32 (r : Int) ∧ s10 = .int .i64 (i : Int) ∧ Hid (r = crcF 4294967295 (ls.take i).flatten) ∧ wx = w)
  case atStart => exact ⟨0, 4294967295, rfl, Nat.zero_le _, rfl, rfl, rfl, rfl⟩
  case round =>
    obtain ⟨i, r, rfl, hi, rfl, rfl, hr, rfl⟩ := hrel
    by_cases hlt : i < n
    · have t1 : (i : Int) < (n : Int) := by omega
      obtain ⟨g, o, rfl, lg, hcell⟩ := HC.out (by omega)
      obtain ⟨u, hu, hub⟩ := hcell i hlt
      obtain ⟨A2, c2, rfl, _, hc2⟩ := hub
      obtain ⟨m, hm⟩ : ∃ m, m = (ls.getD i []).length := ⟨_, rfl⟩
      rw [← hm] at hc2 hu
      have HC2 := Lib.hid hc2
      have HM := Lib.hid hm
      have hbl := (boks_at HB.out i).1
      have hml : m ≤ 2000000 := by have := (boks_at HB.out i).2; omega
      have hrl : r < 4294967296 := by rw [hr.out]; exact crcF_lt (boks_flat (boks_take HB.out i)) (by decide)
      clear hc2 hcell hm
      go_wp2
      go_loopg [3, 16] m (fun (gh : Nat) s3 s16 wx => ∃ j q : Nat, gh = m - j ∧ j ≤ m ∧ s3 = .int .u32 (q : Int) ∧ s16 = .int .i64 (j : Int) ∧ Hid (q = crcF r ((ls.getD i []).take j)) ∧ wx = wr)
      case atStart => exact ⟨0, r, rfl, Nat.zero_le _, rfl, rfl, rfl, rfl⟩
      case round =>
        obtain ⟨j, q, rfl, hj, rfl, rfl, hq, rfl⟩ := hrel
        by_cases hlt2 : j < m
        · have t2 : (j : Int) < (m : Int) := by omega
          obtain ⟨g2, o2, rfl, _, hcc⟩ := HC2.out (by omega)
          obtain ⟨b, hb⟩ : ∃ b, b = ((ls.getD i []).getD j 0).toNat := ⟨_, rfl⟩
          have hbr := bok_at hbl (i := j) (by rw [← HM.out]; exact hlt2)
          have hcb := hcc j hlt2
          rw [show (ls.getD i []).getD j 0 = (b : Int) by omega] at hcb
          have hb2 : b < 256 := by omega
          have hql : q < 4294967296 := by rw [hq.out]; exact crcF_lt (bok_take hbl j) hrl
          have HMV := Lib.hid (move_any wr q b hql hb2)
          have HQ : Hid (mvF q b = crcF r ((ls.getD i []).take (j + 1))) := by
            show _ = _
            rw [crcF_snoc (by rw [← HM.out]; exact hlt2), ← hq.out, hb]
          clear hcc hb hbr hr hq
          go_wp2_with (go_at_call 77; refine HMV.out.mono ?_; rintro e w1 ⟨rfl, rfl⟩)
          go_roundg (m - (j + 1))
          case measure => omega
          case rel => exact ⟨j + 1, mvF q b, rfl, hlt2, rfl, by go_num, HQ.out, rfl⟩
        · obtain rfl : j = m := by omega
          have HQ : Hid (q = crcF 4294967295 (ls.take (i + 1)).flatten) := by
            show _ = _
            rw [flat_snoc (by rw [← HN.out]; exact hlt), crcF_app, ← hr.out, hq.out, HM.out, List.take_of_length_le (Nat.le_refl _)]
          clear hr hq
          go_wp2
          go_roundg (n - (i + 1))
          case measure => omega
          case rel => exact ⟨i + 1, q, rfl, hlt, rfl, by go_num, HQ.out, rfl⟩
    · obtain rfl : i = n := by omega
      have hrl : r < 4294967296 := by rw [hr.out]; exact crcF_lt (boks_flat (boks_take HB.out i)) (by decide)
      have HE : Hid (4294967295 - r = crc ls.flatten) := by
        show _ = _
        unfold crc
        rw [hr.out, HN.out, List.take_of_length_le (Nat.le_refl _)]
      clear hr
      have hx := not32 r hrl
      rw [HE.out] at hx
      go_wp2
      go_ret
      all_goals simp_all
end Go.Proofs.YtganokcmcdkdgaaGreat.Fr

namespace Go.Proofs.YtganokcmcdkdgaaGreat.Fr
open Go.RowKit

theorem numF_snoc {l : List Int} {j : Nat} (h : j < l.length) (a : Nat) : numF a (l.take (j + 1)) = numF a (l.take j) * 256 + (l.getD j 0).toNat := by
  have e : l.getD j 0 = l[j] := by simp [List.getD, List.getElem?_eq_getElem h]
  rw [List.take_succ_eq_append_getElem h, e]
  generalize l[j] = x
  generalize l.take j = m
  induction m generalizing a with
  | nil => rfl
  | cons y m ih => exact ih _
theorem numF_bound {l : List Int} (h : bok l) (j : Nat) (hj : j ≤ l.length) : numF 0 (l.take j) < 256 ^ j := by
  induction j with
  | zero => simp [numF]
  | succ j ih =>
    have h1 := ih (by omega)
    have h2 := bok_at h (i := j) (by omega)
    rw [numF_snoc (by omega), Nat.pow_succ]
    omega
set_option maxRecDepth 100000 in
set_option maxHeartbeats 1000000 in
theorem number_any (w : World) (v : Value) (l : List Int) (h : BAt w v l) (hb : bok l) (h4 : l.length = 4) :
    Calls Tryz.prog 96 #[v] w fun e w' => e = .returned (.int .u32 (numF 0 l : Int)) ∧ w = w' := by
  obtain ⟨A, cap, rfl, _, hc⟩ := h
  rw [h4] at hc ⊢
  have HC := Lib.hid hc
  have HB := Lib.hid hb
  have HL := Lib.hid h4
  clear hc hb h4
  go_enter Tryz.func96, Tryz.ntmps96
  go_wp2
  go_loopg [3, 8] 4 (fun (gh : Nat) s3 s8 wx => ∃ j q : Nat, gh = 4 - j ∧ j ≤ 4 ∧ s3 = .int .u32 (q : Int) ∧ s8 = .int .i64 (j : Int) ∧ Hid (q = numF 0 (l.take j)) ∧ wx = w)
  case atStart => exact ⟨0, 0, rfl, Nat.zero_le _, rfl, rfl, rfl, rfl⟩
  case round =>
    obtain ⟨j, q, rfl, hj, rfl, rfl, hq, rfl⟩ := hrel
    by_cases hlt : j < 4
    · have t1 : (j : Int) < 4 := by omega
      obtain ⟨g, o, rfl, _, hcc⟩ := HC.out (by omega)
      obtain ⟨b, hb⟩ : ∃ b, b = (l.getD j 0).toNat := ⟨_, rfl⟩
      have hbr := bok_at HB.out (i := j) (by rw [HL.out]; exact hlt)
      have hcb := hcc j hlt
      rw [show l.getD j 0 = (b : Int) by omega] at hcb
      have hb2 : b < 256 := by omega
      have hq2 : q * 256 ≤ 4294967040 := by
        have h1 := numF_bound HB.out j (by rw [HL.out]; exact hj)
        rw [← hq.out] at h1
        have h2 : 256 ^ j ≤ 256 ^ 3 := Nat.pow_le_pow_right (by decide) (by omega)
        have h3 : (256 : Nat) ^ 3 = 16777216 := by decide
        omega
      have HQ : Hid (q * 256 + b = numF 0 (l.take (j + 1))) := by
        show _ = _
        rw [numF_snoc (by rw [HL.out]; exact hlt), ← hq.out, hb]
      clear hcc hb hbr hq
      go_wp2
      go_roundg (4 - (j + 1))
      case measure => omega
      case rel => exact ⟨j + 1, q * 256 + b, rfl, hlt, by go_num, by go_num, HQ.out, rfl⟩
    · obtain rfl : j = 4 := by omega
      have HE : Hid (q = numF 0 l) := by show _ = _; rw [hq.out, List.take_of_length_le (Nat.le_of_eq HL.out)]
      clear hq
      go_wp2
      go_ret
      exact ⟨by rw [← HE.out]; rfl, rfl⟩

theorem byte_of (n k : Nat) : IntKind.u8.wrap ((n / k : Nat) : Int) = ((n / k % 256 : Nat) : Int) := by rw [IntKind.wrap_u8]; omega
set_option maxRecDepth 100000 in
set_option maxHeartbeats 4000000 in
theorem put_own (w : World) (base : Nat) (v : Value) (l : List Int) (n : Nat) (hown : w.ownsRow base 5 1 v l.length (bv l)) (hbase : base ≤ w.heap.size) (hl : l.length ≤ 2000000) (_hn : n < 4294967296) :
    Calls Tryz.prog 48 #[v, .int .u32 (n : Int)] w fun e w' => ∃ A cap, e = .returned (.slice A (l.length + 4) cap) ∧ w'.ownsRow base 5 1 (.slice A (l.length + 4) cap) (l ++ num4 n).length (bv (l ++ num4 n)) ∧ Below base w w' := by
  obtain ⟨i0, hi0, hz0, hz1, hz2⟩ := info_parts u8Inf
  have HO := Lib.hid hown
  obtain ⟨A, n0, c0, rfl⟩ : ∃ A n c, v = Value.slice A n c := by obtain ⟨A, c, h, _⟩ := BAt.of_own hown; exact ⟨A, _, c, h⟩
  obtain ⟨a, ha⟩ : ∃ a, a = n / 16777216 % 256 := ⟨_, rfl⟩
  obtain ⟨b, hb⟩ : ∃ b, b = n / 65536 % 256 := ⟨_, rfl⟩
  obtain ⟨c, hc⟩ : ∃ c, c = n / 256 % 256 := ⟨_, rfl⟩
  obtain ⟨d, hd⟩ : ∃ d, d = n % 256 := ⟨_, rfl⟩
  have HN : Hid (num4 n = [(a : Int), (b : Int), (c : Int), (d : Int)]) := by show _ = _; rw [ha, hb, hc, hd]; rfl
  have ea : IntKind.u8.wrap ((n : Int) / 16777216) = (a : Int) := by rw [IntKind.wrap_u8]; omega
  have eb : IntKind.u8.wrap ((n : Int) / 65536) = (b : Int) := by rw [IntKind.wrap_u8]; omega
  have ec : IntKind.u8.wrap ((n : Int) / 256) = (c : Int) := by rw [IntKind.wrap_u8]; omega
  have ed : IntKind.u8.wrap (n : Int) = (d : Int) := by rw [IntKind.wrap_u8]; omega
  clear hown ha hb hc hd
  go_enter Tryz.func48, Tryz.ntmps48
  go_wp2_with (at_builtin; refine wpList_append_lies _ rfl _ _ 22 rfl base 5 i0 _ 1 1 Tryz.underlying22 hi0 hz0 hz1 hz2 rfl (by decide) _ _ _ rfl (HO.out.alloc _) ⟨w.heap.size, 0, none⟩ 4 4 [.int .u8 (a : Int), .int .u8 (b : Int), .int .u8 (c : Int), .int .u8 (d : Int)] rfl rfl (World.news_of_block (heap_alloc_new w _)) (by simp [Value.oneCell']) (by decide) (by unfold maxLen; omega) (by omega) (by simp; omega) _ rfl ?_; intro gg cp w2 hown2 hgrow hat hlt2)
  go_ret
  refine ⟨_, _, rfl, ?_, (((Below.refl _ w).mono hbase).alloc hbase _).grown hgrow (by simp; omega) (fun j hj => (HO.out.lt j hj).1)⟩
  rw [HN.out, List.length_append, bv_app]
  exact hown2
end Go.Proofs.YtganokcmcdkdgaaGreat.Fr
