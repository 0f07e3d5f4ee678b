/-
  The contracts of number, bytes.Clone and put. Conditions: four bytes; at most two million bytes.
-/
import Derived.Test.YtmcoinfdgidblaaFSum
namespace Go.Proofs.Ytmcoinfdgidblaa.Fr
open Go.RowKit

theorem numF_snoc {l : List Int} {j : Nat} (h : j < l.length) (a : Nat) : numF a (l.take (j + 1)) = numF a (l.take j) * 256 + (l.getD j 0).toNat := by
  have e : l.getD j 0 = l[j] := by simp [List.getD, List.getElem?_eq_getElem h]
  rw [List.take_succ_eq_append_getElem h, e]
  generalize l[j] = x
  generalize l.take j = m
  induction m generalizing a with
  | nil => rfl
  | cons y m ih => exact ih _
theorem numF_bound {l : List Int} (h : bok l) (j : Nat) (hj : j ≤ l.length) : numF 0 (l.take j) < 256 ^ j := by
  induction j with
  | zero => simp [numF]
  | succ j ih =>
    have h1 := ih (by omega)
    have h2 := bok_at h (i := j) (by omega)
    rw [numF_snoc (by omega), Nat.pow_succ]
    omega
set_option maxRecDepth 100000 in
set_option maxHeartbeats 1000000 in
theorem number_any (w : World) (v : Value) (l : List Int) (h : BAt w v l) (hb : bok l) (h4 : l.length = 4) :
    Calls Try.prog 29 #[v] w fun e w' => e = .returned (.int .u32 (numF 0 l : Int)) ∧ w = w' := by
  obtain ⟨A, cap, rfl, _, hc⟩ := h
  rw [h4] at hc ⊢
  have HC := Lib.hid hc
  have HB := Lib.hid hb
  have HL := Lib.hid h4
  clear hc hb h4
  go_enter Try.func29, Try.ntmps29
  go_wp2
  go_loopg [3, 8] 4 (fun (gh : Nat) s3 s8 wx => ∃ j q : Nat, gh = 4 - j ∧ j ≤ 4 ∧ s3 = .int .u32 (q : Int) ∧ s8 = .int .i64 (j : Int) ∧ Hid (q = numF 0 (l.take j)) ∧ wx = w)
  case atStart => exact ⟨0, 0, rfl, Nat.zero_le _, rfl, rfl, rfl, rfl⟩
  case round =>
    obtain ⟨j, q, rfl, hj, rfl, rfl, hq, rfl⟩ := hrel
    by_cases hlt : j < 4
    · have t1 : (j : Int) < 4 := by omega
      obtain ⟨g, o, rfl, _, hcc⟩ := HC.out (by omega)
      obtain ⟨b, hb⟩ : ∃ b, b = (l.getD j 0).toNat := ⟨_, rfl⟩
      have hbr := bok_at HB.out (i := j) (by rw [HL.out]; exact hlt)
      have hcb := hcc j hlt
      rw [show l.getD j 0 = (b : Int) by omega] at hcb
      have hb2 : b < 256 := by omega
      have hq2 : q * 256 ≤ 4294967040 := by
        have h1 := numF_bound HB.out j (by rw [HL.out]; exact hj)
        rw [← hq.out] at h1
        have h2 : 256 ^ j ≤ 256 ^ 3 := Nat.pow_le_pow_right (by decide) (by omega)
        have h3 : (256 : Nat) ^ 3 = 16777216 := by decide
        omega
      have HQ : Hid (q * 256 + b = numF 0 (l.take (j + 1))) := by
        show _ = _
        rw [numF_snoc (by rw [HL.out]; exact hlt), ← hq.out, hb]
      clear hcc hb hbr hq
      go_wp2
      go_roundg (4 - (j + 1))
      case measure => omega
      case rel => exact ⟨j + 1, q * 256 + b, rfl, hlt, by go_num, by go_num, HQ.out, rfl⟩
    · obtain rfl : j = 4 := by omega
      have HE : Hid (q = numF 0 l) := by show _ = _; rw [hq.out, List.take_of_length_le (Nat.le_of_eq HL.out)]
      clear hq
      go_wp2
      go_ret
      exact ⟨by rw [← HE.out]; rfl, rfl⟩

set_option maxRecDepth 100000 in
theorem clone_any (w : World) (v : Value) (l : List Int) (h : BAt w v l) (hl : l.length ≤ 2000000) :
    Calls Try.prog 25 #[v] w fun e w' => ∃ v', e = .returned v' ∧ w'.ownsRow w.heap.size 5 1 v' l.length (bv l) ∧ Below w.heap.size w w' := by
  obtain ⟨A, cap, rfl, _, hc⟩ := h
  obtain ⟨i0, hi0, hz0, hz1, hz2⟩ := info_parts u8Inf
  have q22 : ∀ (w : World) (a : Option Addr) (n c n' c' : Nat), (binOp .eql 23 (.slice a n c) (.slice none n' c')).run Try.prog w = .ok (.bool a.isNone) w := fun w a n c n' c' => Lib.run_eql_slice_nil w _ _ a n c n' c' Try.underlying23
  obtain ⟨n, hn⟩ : ∃ n, n = l.length := ⟨_, rfl⟩
  have HN := Lib.hid hn
  rw [← hn] at hc hl ⊢
  cases A with
  | none =>
    have h0 : l = [] := by
      cases l with
      | nil => rfl
      | cons x r => obtain ⟨g, o, h1, _⟩ := hc (by rw [hn]; simp); cases h1
    subst h0
    have HO : Hid (w.ownsRow w.heap.size 5 1 (.slice none 0 0) n (bv [])) := by
      show World.ownsRow _ _ _ _ _ _ _
      rw [hn]; exact World.ownsRow_nil _ _ _ _
    clear hn hc
    go_enter Try.func25, Try.ntmps25
    go_wp2
    go_ret
    exact ⟨_, rfl, HO.out, Below.refl _ _⟩
  | some a =>
    have HC : Hid (∀ j u, (bv l)[j]? = some u → (w.alloc (.cells #[] 5)).cell? (a.add j) = some u) := by
      intro j u hu
      have hj : j < n := by have := (List.getElem?_eq_some_iff.1 hu).1; rw [bv_len] at this; omega
      obtain ⟨g, o, h1, h2, h3⟩ := hc (by omega)
      cases h1
      rw [show (Addr.mk g o none).add j = ⟨g, o + j, none⟩ by unfold Addr.add; split <;> simp_all, bv_get hu]
      exact Lib.cell?_alloc_some _ (h3 j hj)
    clear hn hc
    go_enter Try.func25, Try.ntmps25
    go_wp2_with (at_builtin; refine wpList_append_own _ rfl _ _ 23 rfl w.heap.size 5 i0 (.int .u8 0) 1 1 Try.underlying23 hi0 hz0 hz1 hz2 rfl (by decide) _ _ _ rfl (World.ownsRow_made w #[] 0 (Nat.le_refl _) (Nat.zero_le _) rfl) a n cap (bv l) rfl (by rw [bv_len, HN.out]; omega) HC.out (bv_one _) (by unfold maxLen; omega) (by omega) (by simp) ?_; intro v' w1 hown hgrow hnil)
    go_ret
    exact ⟨v', rfl, by simpa using hown, ((Below.refl _ w).alloc (Nat.le_refl _) _).grown hgrow (by simp) (by intro k hk; have hk2 : w.heap.size = k := Option.some.inj hk; omega)⟩

theorem byte_of (n k : Nat) : IntKind.u8.wrap ((n / k : Nat) : Int) = ((n / k % 256 : Nat) : Int) := by rw [IntKind.wrap_u8]; omega
set_option maxRecDepth 100000 in
set_option maxHeartbeats 4000000 in
theorem put_own (w : World) (base : Nat) (v : Value) (l : List Int) (n : Nat) (hown : w.ownsRow base 5 1 v l.length (bv l)) (hbase : base ≤ w.heap.size) (hl : l.length ≤ 2000000) (_hn : n < 4294967296) :
    Calls Try.prog 21 #[v, .int .u32 (n : Int)] w fun e w' => ∃ A cap, e = .returned (.slice A (l.length + 4) cap) ∧ w'.ownsRow base 5 1 (.slice A (l.length + 4) cap) (l ++ num4 n).length (bv (l ++ num4 n)) ∧ Below base w w' := by
  obtain ⟨i0, hi0, hz0, hz1, hz2⟩ := info_parts u8Inf
  have HO := Lib.hid hown
  obtain ⟨A, n0, c0, rfl⟩ : ∃ A n c, v = Value.slice A n c := by obtain ⟨A, c, h, _⟩ := BAt.of_own hown; exact ⟨A, _, c, h⟩
  obtain ⟨a, ha⟩ : ∃ a, a = n / 16777216 % 256 := ⟨_, rfl⟩
  obtain ⟨b, hb⟩ : ∃ b, b = n / 65536 % 256 := ⟨_, rfl⟩
  obtain ⟨c, hc⟩ : ∃ c, c = n / 256 % 256 := ⟨_, rfl⟩
  obtain ⟨d, hd⟩ : ∃ d, d = n % 256 := ⟨_, rfl⟩
  have HN : Hid (num4 n = [(a : Int), (b : Int), (c : Int), (d : Int)]) := by show _ = _; rw [ha, hb, hc, hd]; rfl
  have ea : IntKind.u8.wrap ((n : Int) / 16777216) = (a : Int) := by rw [IntKind.wrap_u8]; omega
  have eb : IntKind.u8.wrap ((n : Int) / 65536) = (b : Int) := by rw [IntKind.wrap_u8]; omega
  have ec : IntKind.u8.wrap ((n : Int) / 256) = (c : Int) := by rw [IntKind.wrap_u8]; omega
  have ed : IntKind.u8.wrap (n : Int) = (d : Int) := by rw [IntKind.wrap_u8]; omega
  clear hown ha hb hc hd
  go_enter Try.func21, Try.ntmps21
  go_wp2_with (at_builtin; refine wpList_append_lies _ rfl _ _ 23 rfl base 5 i0 _ 1 1 Try.underlying23 hi0 hz0 hz1 hz2 rfl (by decide) _ _ _ rfl (HO.out.alloc _) ⟨w.heap.size, 0, none⟩ 4 4 [.int .u8 (a : Int), .int .u8 (b : Int), .int .u8 (c : Int), .int .u8 (d : Int)] rfl rfl (World.news_of_block (heap_alloc_new w _)) (by simp [Value.oneCell']) (by decide) (by unfold maxLen; omega) (by omega) (by simp; omega) _ rfl ?_; intro gg cp w2 hown2 hgrow hat hlt2)
  go_ret
  refine ⟨_, _, rfl, ?_, (((Below.refl _ w).mono hbase).alloc hbase _).grown hgrow (by simp; omega) (fun j hj => (HO.out.lt j hj).1)⟩
  rw [HN.out, List.length_append, bv_app]
  exact hown2
end Go.Proofs.Ytmcoinfdgidblaa.Fr
