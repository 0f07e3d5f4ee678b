/-
  The contract of the program's Plus of 128 bits. Conditions: the list has at most 1000 numbers.
-/
import Derived.Test.YtjnohdkpkbiclaaWides
import Derived.Test.YtjnohdkpkbiclaaSums2
import Derived.Deep.LoopGhost
import Derived.Outline
namespace Go.Proofs.Ytjnohdkpkbiclaa
open Go.RowKit

/-- The sum of a list of wide numbers. -/
def wtot : List (Int × Int) → Int
  | [] => 0
  | z :: r => wv z.1 z.2 + wtot r
theorem wtot_snoc (l : List (Int × Int)) (z : Int × Int) : wtot (l ++ [z]) = wtot l + wv z.1 z.2 := by
  induction l with
  | nil => simp [wtot]
  | cons a t ih => simp only [List.cons_append, wtot, ih]; omega
theorem wtot_take_succ (l : List (Int × Int)) (k : Nat) (h : k < l.length) : wtot (l.take (k + 1)) = wtot (l.take k) + wv (l.getD k (0, 0)).1 (l.getD k (0, 0)).2 := by
  rw [List.take_succ_eq_append_getElem h, wtot_snoc, List.getD_eq_getElem?_getD, List.getElem?_eq_getElem h]
  rfl
/-- Numbers of 128 bits in memory. -/
def Pairs (w : World) (A : Option Addr) (n : Nat) (ps : List (Int × Int)) : Prop :=
  ps.length = n ∧ (∀ k, WOk (ps.getD k (0, 0)).1 (ps.getD k (0, 0)).2) ∧
    (0 < n → ∃ b o, A = some ⟨b, o, none⟩ ∧ b < w.heap.size ∧ ∀ i, i < n → w.cell? ⟨b, o + i * 2, none⟩ = some (.int .i64 (ps.getD i (0, 0)).1) ∧ w.cell? ⟨b, o + i * 2 + 1, none⟩ = some (.int .u64 (ps.getD i (0, 0)).2))
theorem Pairs.below {w w' : World} {A : Option Addr} {n : Nat} {ps : List (Int × Int)} (h : Pairs w A n ps) (hb : Below w.heap.size w w') : Pairs w' A n ps := by
  obtain ⟨h1, h2, h3⟩ := h
  refine ⟨h1, h2, fun h0 => ?_⟩
  obtain ⟨b, o, e, hl, hc⟩ := h3 h0
  exact ⟨b, o, e, Nat.lt_of_lt_of_le hl hb.size, fun i hi => ⟨(hb.cell (p := ⟨b, o + i * 2, none⟩) hl).trans (hc i hi).1, (hb.cell (p := ⟨b, o + i * 2 + 1, none⟩) hl).trans (hc i hi).2⟩⟩

/-- What stands in the three words behind k numbers. -/
def PInv (ps : List (Int × Int)) (k : Nat) (t h l : Int) : Prop := -(k : Int) ≤ t ∧ t ≤ k ∧ 0 ≤ h ∧ h ≤ 18446744073709551615 ∧ 0 ≤ l ∧ l ≤ 18446744073709551615 ∧ 340282366920938463463374607431768211456 * t + wv h l = wtot (ps.take k)

set_option maxRecDepth 100000 in
set_option maxHeartbeats 2000000 in
theorem fplus_any (w : World) (A : Option Addr) (n c : Nat) (ps : List (Int × Int)) (h : Pairs w A n ps) (hn : n ≤ 1000) :
    Calls Try.prog 20 #[.slice A n c] w fun e w' => ∃ h l er, e = .returned (.tuple #[.agg #[.int .i64 h, .int .u64 l], .int .i64 er]) ∧ Hid (WSpec (wtot ps) h l er) ∧ Below w.heap.size w w' := by
  have H := Lib.hid h
  clear h
  go_enter Try.func20, Try.ntmps20
  go_wp2
  obtain ⟨W0, hW0⟩ : ∃ W0, W0 = w.alloc (.cells #[.int .i64 0, .int .u64 0] 38) := ⟨_, rfl⟩
  have j := one_new w (.cells #[.int .i64 0, .int .u64 0] 38)
  rw [← hW0] at j ⊢
  have J := Lib.hid j
  clear hW0 j
  go_loopg [4, 5, 6, 12] n (fun (g : Nat) st sh sl si wx => ∃ (k : Nat) (t h l : Int), g = n - k ∧ k ≤ n ∧ st = .int .i64 t ∧ sh = .int .u64 h ∧ sl = .int .u64 l ∧ si = .int .i64 (k : Int) ∧
    Hid (wx.heap[w.heap.size]? = some (.cells #[.int .i64 0, .int .u64 0] 38 (0, 0)) ∧ PInv ps k t h l ∧ Below w.heap.size w wx))
  case atStart => exact ⟨0, 0, 0, 0, rfl, Nat.zero_le _, rfl, rfl, rfl, rfl, J.out.1, ⟨by decide, by decide, by decide, by decide, by decide, by decide, rfl⟩, J.out.2⟩
  case round =>
    obtain ⟨k, t, h, l, rfl, hk, rfl, rfl, rfl, rfl, hinv⟩ := hrel
    obtain ⟨t0, t1, tf0, tf1⟩ := blk2 hinv.out.1
    by_cases hlt : k < n
    · obtain ⟨b, o, rfl, hbl, hcs⟩ := H.out.2.2 (by omega)
      obtain ⟨p, hp⟩ : ∃ z, z = (ps.getD k (0, 0)).1 := ⟨_, rfl⟩
      obtain ⟨q, hq⟩ : ∃ z, z = (ps.getD k (0, 0)).2 := ⟨_, rfl⟩
      have hcp : wr.cell? ⟨b, o + k * 2, none⟩ = some (.int .i64 p) := by rw [hp]; exact (hinv.out.2.2.cell (p := ⟨b, o + k * 2, none⟩) hbl).trans (hcs k hlt).1
      have hcq : wr.cell? ⟨b, o + k * 2 + 1, none⟩ = some (.int .u64 q) := by rw [hq]; exact (hinv.out.2.2.cell (p := ⟨b, o + k * 2 + 1, none⟩) hbl).trans (hcs k hlt).2
      have hok := H.out.2.1 k
      rw [← hp, ← hq] at hok
      have HT : Hid (wtot (ps.take (k + 1)) = wtot (ps.take k) + wv p q) := by show _ = _; rw [hp, hq]; exact wtot_take_succ _ _ (by rw [H.out.1]; exact hlt)
      have BW : Hid (Below w.heap.size w wr) := hinv.out.2.2
      have KB := Lib.hid hinv.out.1
      obtain ⟨i0, i1, i2, i3, i4, i5, i6⟩ := hinv.out.2.1
      have I6 := Lib.hid i6
      obtain ⟨o0, o1, o2, o3⟩ := hok
      clear hp hq hcs hinv i6
      -- the words
      obtain ⟨up, hup⟩ : ∃ x, x = p % 18446744073709551616 := ⟨_, rfl⟩
      have wp : IntKind.u64.wrap p = up := by rw [u64_wrap, hup]
      obtain ⟨l', hl'⟩ : ∃ x, x = (l + q) % 18446744073709551616 := ⟨_, rfl⟩
      obtain ⟨c1, hc1⟩ : ∃ x, x = (l + q) / 18446744073709551616 := ⟨_, rfl⟩
      obtain ⟨h', hh'⟩ : ∃ x, x = (h + up + c1) % 18446744073709551616 := ⟨_, rfl⟩
      obtain ⟨c2, hc2⟩ : ∃ x, x = (h + up + c1) / 18446744073709551616 := ⟨_, rfl⟩
      have c10 : 0 ≤ c1 := by omega
      have c11 : c1 ≤ 1 := by omega
      have c20 : 0 ≤ c2 := by omega
      have c21 : c2 ≤ 1 := by omega
      have s0 : ∀ w, (callFunc 42 #[.int .u64 l, .int .u64 q, .int .u64 0]).run Try.prog w = .ok (.value (.tuple #[.int .u64 l', .int .u64 c1])) w := by
        intro w
        have := add64 l q 0 i4 o2 i5 o3 (by decide) (by decide) w
        rw [show l + q + 0 = l + q by omega, ← hl', ← hc1] at this
        exact this
      have s1 : ∀ w, (callFunc 42 #[.int .u64 h, .int .u64 up, .int .u64 c1]).run Try.prog w = .ok (.value (.tuple #[.int .u64 h', .int .u64 c2])) w := by
        intro w
        have := add64 h up c1 i2 (by omega) i3 (by omega) c10 c11 w
        rw [← hh', ← hc2] at this
        exact this
      have wc2 : IntKind.i64.wrap c2 = c2 := by rw [i64_wrap]; omega
      obtain ⟨sp, hsp⟩ : ∃ x, x = p / 9223372036854775808 := ⟨_, rfl⟩
      have hsp' : p / 9223372036854775808 = sp := hsp.symm
      obtain ⟨t', ht'⟩ : ∃ x, x = t + (sp + c2) := ⟨_, rfl⟩
      have hsp0 : -1 ≤ sp := by omega
      have hsp1 : sp ≤ 0 := by omega
      have INV : Hid (PInv ps (k + 1) t' h' l') := by
        show PInv _ _ _ _ _
        unfold PInv
        rw [HT.out, ← I6.out]
        unfold wv
        refine ⟨?_, ?_, ?_, ?_, ?_, ?_, ?_⟩ <;> omega
      have HT' := Lib.hid ht'
      clear hup hl' hc1 hh' hc2 hsp ht' I6 HT
      go_wp2_with (first | simp only [s0] | simp only [s1])
      rw [HT'.out.symm]
      go_roundg (n - (k + 1))
      case measure => omega
      case rel => exact ⟨k + 1, t', h', l', rfl, by omega, rfl, rfl, rfl, by go_num, block_old KB.out _, INV.out, BW.out.alloc BW.out.size _⟩
    · obtain rfl : k = n := by omega
      have BW : Hid (Below w.heap.size w wr) := hinv.out.2.2
      obtain ⟨i0, i1, i2, i3, i4, i5, i6⟩ := hinv.out.2.1
      have hall : ps.take k = ps := List.take_of_length_le (by rw [H.out.1]; omega)
      rw [hall] at i6
      obtain ⟨hs, hhs⟩ : ∃ x, x = (h + 9223372036854775808) % 18446744073709551616 - 9223372036854775808 := ⟨_, rfl⟩
      have wh : IntKind.i64.wrap h = hs := by rw [i64_wrap, hhs]
      obtain ⟨ss, hss⟩ : ∃ x, x = hs / 9223372036854775808 := ⟨_, rfl⟩
      have hss' : hs / 9223372036854775808 = ss := hss.symm
      have hs0 : -9223372036854775808 ≤ hs := by omega
      have hs1 : hs ≤ 9223372036854775807 := by omega
      have hss0 : -1 ≤ ss := by omega
      have hss1 : ss ≤ 0 := by omega
      by_cases ht : t = ss
      · have SP : Hid (WSpec (wtot ps) hs l 0) := by
          left
          rw [← i6]
          unfold In128 WOk wv
          refine ⟨⟨?_, ?_⟩, ⟨?_, ?_, ?_, ?_⟩, ?_, rfl⟩ <;> omega
        have hb : (t != ss) = false := by rw [ht]; simp
        clear hhs hss i6 ht hall hinv
        go_wp2
        refine bodyPost_ret (v := .tuple #[.agg #[.int .i64 hs, .int .u64 l], .int .i64 0]) (by simp [results, Try.results20, go_sem, t0, t1]) rfl ⟨_, _, _, rfl, SP, below_stored BW.out (Nat.le_refl _) _ _⟩
      · have SP : Hid (WSpec (wtot ps) 0 0 4) := by
          right
          rw [← i6]
          unfold In128 wv
          refine ⟨?_, rfl, rfl, rfl⟩
          omega
        have hb : (t != ss) = true := by rw [bne_iff_ne]; exact ht
        clear hhs hss i6 hall hinv
        go_wp2
        refine bodyPost_ret (v := .tuple #[.agg #[.int .i64 0, .int .u64 0], .int .i64 4]) (by simp [results, Try.results20, go_sem, t0, t1]) rfl ⟨_, _, _, rfl, SP, below_stored BW.out (Nat.le_refl _) _ _⟩
end Go.Proofs.Ytjnohdkpkbiclaa
