/-
  The reference's From. Conditions: at most a thousand records.
-/
import Derived.Test.YtklngdmpledgeaaGreatJZ25
import Derived.Test.YtklngdmpledgeaaGreatJZ2
namespace Go.Proofs.YtklngdmpledgeaaGreat.Jo
open Go.RowKit Fr Sr

theorem wpList_app_run {P : Program} (w : World) {ops : Array Oper} {rest : List Oper} {o : Oper} {a : Act} {Q : Exit → Act → World → Prop} (hgd : o.guard = none) (s x : Operand) (t : TypeId)
    (ho : o.op = .call { callee := .builtin .append, args := #[s, x], argTypes := #[t, t] }) (vs vx : Value) (hs : a.eval s = vs) (hx : a.eval x = vx)
    (v' : Value) (w' : World) (hr : (Builtin.append_ #[t, t] o.type #[vs, vx]).run P w = .ok v' w') (h : wpList P ops Q rest (a.put o.dst v') w') : wpList P ops Q (o :: rest) a w :=
  wpList_plain hgd fun _ hK => by
    unfold Oper.wp execOp
    simp only [ho, resolve, invoke, builtin, Sem.run_bind, Sem.run_pure, Result.andThen_ok, List.map_toArray, List.map_cons, List.map_nil, hs, hx, hr]
    exact hK _ _ h
theorem add_off (g i : Nat) : (⟨g, 0, none⟩ : Addr).add i = ⟨g, 0 + i, none⟩ := by unfold Addr.add; split <;> simp_all
theorem recInf : (Tryz.prog.info? 42).map (fun i => (i.zero, i.size, i.bytes)) = some (some (.agg #[.int .i64 0, .slice none 0 0]), 2, 32) := by kernel_rfl
/-- A row of one's own with records whose bytes lie in w. -/
def RecO (w W : World) (v : Value) (rs : List Re) : Prop := ∃ us, W.ownsRow w.heap.size 42 2 v rs.length us ∧ ∀ (i : Nat) (r : Re), rs[i]? = some r → ∃ u, us[i * 2]? = some (.int .i64 (r.1 : Int)) ∧ us[i * 2 + 1]? = some u ∧ BAt w u r.2
theorem RecO.nil (w W : World) : RecO w W (.slice none 0 0) [] := ⟨[], World.ownsRow_nil _ _ _ _, fun i r hi => by simp at hi⟩
theorem RecO.toA {w W : World} {v : Value} {rs : List Re} (h : RecO w W v rs) (hb : Below w.heap.size w W) : RecA W v rs := by
  obtain ⟨us, h1, h2⟩ := h
  rcases h1.2 with ⟨e, h0⟩ | ⟨g, cap, cur, e, hg, hh, _⟩
  · exact ⟨none, 0, by rw [e, h0], fun hp => by omega⟩
  · refine ⟨_, cap, e, fun hp => ⟨g, 0, rfl, (Array.getElem?_eq_some_iff.1 hh).1, fun i r hi => ?_⟩⟩
    obtain ⟨u, a1, a2, a3⟩ := h2 i r hi
    refine ⟨u, ?_, ?_, a3.kept hb⟩
    · have h3 := h1.cells (g := g) (by rw [e]; rfl) _ _ a1
      rwa [add_off] at h3
    · have h3 := h1.cells (g := g) (by rw [e]; rfl) _ _ a2
      rwa [add_off] at h3
/-- One record behind the others. -/
theorem app_reco {w W : World} {v u : Value} {rs : List Re} {r : Re} (h : RecO w W v rs) (hw : Below w.heap.size w W) (hn : rs.length ≤ 1000) (hu : u.oneCell' = true) (hb : BAt w u r.2) :
    ∃ A' n' c' w', (Builtin.append_ #[28, 28] 28 #[v, .slice (some ⟨W.heap.size, 0, none⟩) 1 1]).run Tryz.prog (W.alloc (.cells #[.int .i64 (r.1 : Int), u] 42)) = .ok (.slice A' n' c') w' ∧ RecO w w' (.slice A' n' c') (rs ++ [r]) ∧ Below w.heap.size w w' ∧ Off (fun i => v.ownBlock = some i) W w' ∧ ∀ i, (Value.slice A' n' c').ownBlock = some i → v.ownBlock = some i ∨ W.heap.size ≤ i := by
  obtain ⟨us, h1, h2⟩ := h
  obtain ⟨i0, hi0, hz0, hz1, hz2⟩ := info_parts recInf
  have hal := alloc_below W (.cells #[.int .i64 (r.1 : Int), u] 42)
  have hown := Oc.ownsRow_kept h1 (fun g hg => hal.block g (h1.lt g hg).2)
  have hblk := block_new W (.cells #[.int .i64 (r.1 : Int), u] 42)
  obtain ⟨v', w', hr, ho, hgr, _, hat⟩ := run_append_own_at (P := Tryz.prog) _ w.heap.size 28 28 42 i0 _ 2 32 Tryz.underlying28 hi0 hz0 hz1 hz2 rfl (by decide) v rs.length us hown ⟨W.heap.size, 0, none⟩ 1 1 [.int .i64 (r.1 : Int), u] rfl (World.news_of_block (cs := #[.int .i64 (r.1 : Int), u]) hblk) (by simp [hu]; rfl) (by unfold maxLen; omega) (by omega) (by have := hw.size; have := hal.size; omega)
  obtain ⟨A, m, c, rfl⟩ : ∃ A n c, v' = .slice A n c := by
    rcases ho.2 with ⟨h7, _⟩ | ⟨g, cap, cur, h7, _⟩
    · exact ⟨none, 0, 0, h7⟩
    · exact ⟨_, _, _, h7⟩
  have hul : us.length = rs.length * 2 := h1.1
  refine ⟨A, m, c, w', hr, ⟨us ++ [.int .i64 (r.1 : Int), u], by rw [List.length_append]; exact ho, fun i q hi => ?_⟩, ?_, ?_, ?_⟩
  · rw [List.getElem?_append] at hi
    split at hi
    · rename_i hlt
      obtain ⟨y, a1, a2, a3⟩ := h2 i q hi
      exact ⟨y, by rw [List.getElem?_append_left (by omega)]; exact a1, by rw [List.getElem?_append_left (by omega)]; exact a2, a3⟩
    · rename_i hlt
      have e3 : i - rs.length = 0 := by
        have := (List.getElem?_eq_some_iff.1 hi).1
        simp at this; omega
      rw [e3] at hi
      simp at hi
      subst hi
      have e4 : i = rs.length := by omega
      subst e4
      refine ⟨u, ?_, ?_, hb⟩
      · rw [List.getElem?_append_right (by omega)]
        have : rs.length * 2 - us.length = 0 := by omega
        rw [this]; rfl
      · rw [List.getElem?_append_right (by omega)]
        have : rs.length * 2 + 1 - us.length = 1 := by omega
        rw [this]; rfl
  · have hb2 : Below w.heap.size w (W.alloc (.cells #[.int .i64 (r.1 : Int), u] 42)) := hw.trans (hal.mono hw.size)
    exact hb2.grown hgr hb2.size (fun i e => (hown.lt i e).1)
  · exact off_two (Off.of_below (fun _ => False) hal) (Off.of_grown (T := fun i => v.ownBlock = some i) hgr fun i e => e) (fun _ e => e.elim) (fun _ e => .inl e)
  · intro i hi
    rcases hat with h2 | h2
    · exact .inl (h2.symm.trans hi)
    · rw [h2] at hi; cases hi; exact .inr hal.size
end Go.Proofs.YtklngdmpledgeaaGreat.Jo

namespace Go.Proofs.YtklngdmpledgeaaGreat.Fr
open Go.RowKit

theorem bits_xor64 (a b : Nat) (ha : a < 4294967296) (hb : b < 4294967296) : bits .xor .i64 (a : Int) (b : Int) = ((a ^^^ b : Nat) : Int) := by
  show IntKind.i64.wrap ((BitVec.ofInt 64 (a : Int) ^^^ BitVec.ofInt 64 (b : Int)).toNat : Int) = _
  have := lt_xor ha hb
  have e1 : (BitVec.ofInt 64 (a : Int)).toNat = a := by rw [BitVec.toNat_ofInt]; omega
  have e2 : (BitVec.ofInt 64 (b : Int)).toNat = b := by rw [BitVec.toNat_ofInt]; omega
  rw [BitVec.toNat_xor, e1, e2, IntKind.wrap_i64]
  omega
/-- A step of the register, bit by bit. -/
theorem stp_eq {c d : Nat} (h : c % 2 = d % 2) : stp (c ^^^ d) = (c / 2) ^^^ (d / 2) := by
  have h1 : (c ^^^ d) % 2 = 0 := by
    rcases Nat.mod_two_eq_zero_or_one (c ^^^ d) with h2 | h2
    · exact h2
    · rw [Nat.xor_mod_two_eq_one] at h2
      omega
  unfold stp
  rw [h1, Nat.xor_div_two]
  simp
theorem stp_ne {c d : Nat} (h : ¬ c % 2 = d % 2) : stp (c ^^^ d) = ((c / 2) ^^^ 3988292384) ^^^ (d / 2) := by
  have h1 : (c ^^^ d) % 2 = 1 := by
    rw [Nat.xor_mod_two_eq_one]
    omega
  unfold stp
  rw [h1, Nat.xor_div_two, Nat.mul_one, Nat.xor_assoc, Nat.xor_assoc, Nat.xor_comm (d / 2)]
/-- The register and the byte's bits that are left, behind k steps. -/
def BitI (r b k c d : Nat) : Prop := c < 4294967296 ∧ d < 2 ^ (8 - k) ∧ stps (8 - k) (c ^^^ d) = mvF r b
theorem BitI.eq {r b k c d : Nat} (h : BitI r b k c d) (hk : k < 8) (hp : c % 2 = d % 2) : BitI r b (k + 1) (c / 2) (d / 2) := by
  obtain ⟨h1, h2, h3⟩ := h
  have e : 8 - k = 8 - (k + 1) + 1 := by omega
  rw [e] at h2 h3
  rw [Nat.pow_succ] at h2
  refine ⟨by omega, by omega, ?_⟩
  have : stps (8 - (k + 1)) (stp (c ^^^ d)) = mvF r b := h3
  rw [stp_eq hp] at this
  exact this
theorem BitI.ne {r b k c d : Nat} (h : BitI r b k c d) (hk : k < 8) (hp : ¬ c % 2 = d % 2) : BitI r b (k + 1) (c / 2 ^^^ 3988292384) (d / 2) := by
  obtain ⟨h1, h2, h3⟩ := h
  have e : 8 - k = 8 - (k + 1) + 1 := by omega
  rw [e] at h2 h3
  rw [Nat.pow_succ] at h2
  refine ⟨lt_xor (by omega) (by decide), by omega, ?_⟩
  have : stps (8 - (k + 1)) (stp (c ^^^ d)) = mvF r b := h3
  rw [stp_ne hp] at this
  exact this
theorem BitI.done {r b c d : Nat} (h : BitI r b 8 c d) : c = mvF r b := by
  obtain ⟨_, h2, h3⟩ := h
  have h4 : d = 0 := by
    have : (2 : Nat) ^ (8 - 8) = 1 := by decide
    omega
  rw [h4, Nat.xor_zero] at h3
  exact h3

set_option maxRecDepth 100000 in
set_option maxHeartbeats 4000000 in
theorem rsum_any (w : World) (v : Value) (l : List Int) (h : BAt w v l) (hb : bok l) (hl : l.length ≤ 2000000) :
    Calls Tryz.prog 61 #[v] w fun e w' => e = .returned (.int .i64 (crc l : Int)) ∧ w = w' := by
  obtain ⟨A, cap, rfl, _, hc⟩ := h
  obtain ⟨n, hn⟩ : ∃ n, n = l.length := ⟨_, rfl⟩
  rw [← hn] at hc hl ⊢
  have HC := Lib.hid hc
  have HB := Lib.hid hb
  have HN := Lib.hid hn
  clear hc hb hn
  go_enter Tryz.func61, Tryz.ntmps61
  go_wp2
  go_loopg [3, 4] n (fun (gh : Nat) s3 s4 wx => ∃ i r : Nat, gh = n - i ∧ i ≤ n ∧ s3 = .int .i64 (r : Int) ∧ s4 = .int .i64 (i : Int) ∧ Hid (r = crcF 4294967295 (l.take i)) ∧ wx = w)
  case atStart => exact ⟨0, 4294967295, rfl, Nat.zero_le _, rfl, rfl, rfl, rfl⟩
  case round =>
    obtain ⟨i, r, rfl, hi, rfl, rfl, hr, rfl⟩ := hrel
    by_cases hlt : i < n
    · have t1 : (i : Int) < (n : Int) := by omega
      obtain ⟨g, o, rfl, _, hcc⟩ := HC.out (by omega)
      obtain ⟨b, hb⟩ : ∃ b, b = (l.getD i 0).toNat := ⟨_, rfl⟩
      have hbr := bok_at HB.out (i := i) (by rw [← HN.out]; exact hlt)
      have hcb := hcc i hlt
      rw [show l.getD i 0 = (b : Int) by omega] at hcb
      have hb2 : b < 256 := by omega
      have hrl : r < 4294967296 := by rw [hr.out]; exact crcF_lt (bok_take HB.out i) (by decide)
      have HR : Hid (mvF r b = crcF 4294967295 (l.take (i + 1))) := by
        show _ = _
        rw [crcF_snoc (by rw [← HN.out]; exact hlt), ← hr.out, hb]
      have H0 : Hid (BitI r b 0 r b) := ⟨hrl, hb2, rfl⟩
      clear hcc hb hbr hr
      go_wp2
      go_loopg [3, 5, 6] 8 (fun (gh : Nat) s3 s5 s6 wx => ∃ k c d : Nat, gh = 8 - k ∧ k ≤ 8 ∧ s3 = .int .i64 (c : Int) ∧ s5 = .int .i64 (d : Int) ∧ s6 = .int .i64 (k : Int) ∧ Hid (BitI r b k c d) ∧ wx = wr)
      case atStart => exact ⟨0, r, b, rfl, Nat.zero_le _, rfl, rfl, rfl, H0.out, rfl⟩
      case round =>
        clear H0
        obtain ⟨k, c, d, rfl, hk, rfl, rfl, rfl, hI, rfl⟩ := hrel
        by_cases hlt2 : k < 8
        · have t2 : (k : Int) < 8 := by omega
          have hc2 := hI.out.1
          have hd2 : d < 256 := by
            have h1 := hI.out.2.1
            have h2 : 2 ^ (8 - k) ≤ 2 ^ 8 := Nat.pow_le_pow_right (by decide) (by omega)
            have h3 : (2 : Nat) ^ 8 = 256 := by decide
            omega
          obtain ⟨y, hy⟩ : ∃ y, y = c / 2 := ⟨_, rfl⟩
          obtain ⟨z, hz⟩ : ∃ z, z = d / 2 := ⟨_, rfl⟩
          obtain ⟨u, hu⟩ : ∃ u : Nat, u = c % 2 := ⟨_, rfl⟩
          obtain ⟨v, hv⟩ : ∃ v : Nat, v = d % 2 := ⟨_, rfl⟩
          have e1 : (c : Int) / 2 = (y : Int) := by omega
          have e2 : (d : Int) / 2 = (z : Int) := by omega
          have e3 : (c : Int) % 2 = (u : Int) := by omega
          have e4 : (d : Int) % 2 = (v : Int) := by omega
          have e1' : (c : Int).tdiv 2 = (y : Int) := by rw [Int.tdiv_eq_ediv_of_nonneg (by omega)]; exact e1
          have e2' : (d : Int).tdiv 2 = (z : Int) := by rw [Int.tdiv_eq_ediv_of_nonneg (by omega)]; exact e2
          have e3' : (c : Int).tmod 2 = (u : Int) := by rw [Int.tmod_eq_emod_of_nonneg (by omega)]; exact e3
          have e4' : (d : Int).tmod 2 = (v : Int) := by rw [Int.tmod_eq_emod_of_nonneg (by omega)]; exact e4
          have hyb : y < 4294967296 := by omega
          by_cases huv : u = v
          · have HI : Hid (BitI r b (k + 1) y z) := by rw [hy, hz]; exact hI.out.eq hlt2 (by omega)
            subst huv
            clear hy hz hu hv hI
            go_wp2
            go_roundg (8 - (k + 1))
            case measure => omega
            case rel => exact ⟨k + 1, y, z, rfl, hlt2, rfl, rfl, by go_num, HI.out, rfl⟩
          · obtain ⟨x, hx⟩ : ∃ x, x = y ^^^ 3988292384 := ⟨_, rfl⟩
            have HI : Hid (BitI r b (k + 1) x z) := by rw [hx, hy, hz]; exact hI.out.ne hlt2 (by omega)
            have e5 : bits .xor .i64 (y : Int) 3988292384 = (x : Int) := by
              have := bits_xor64 y 3988292384 hyb (by decide)
              rw [hx]
              exact this
            have t3 : ¬ (u : Int) = (v : Int) := by omega
            clear hy hz hu hv hI hx
            go_wp2
            go_roundg (8 - (k + 1))
            case measure => omega
            case rel => exact ⟨k + 1, x, z, rfl, hlt2, rfl, rfl, by go_num, HI.out, rfl⟩
        · obtain rfl : k = 8 := by omega
          have HE : Hid (c = crcF 4294967295 (l.take (i + 1))) := by show _ = _; rw [hI.out.done, HR.out]
          clear hI
          go_wp2
          go_roundg (n - (i + 1))
          case measure => omega
          case rel => exact ⟨i + 1, c, rfl, hlt, rfl, by go_num, HE.out, rfl⟩
    · obtain rfl : i = n := by omega
      have hrl : r < 4294967296 := by rw [hr.out]; exact crcF_lt (bok_take HB.out i) (by decide)
      have HE : Hid ((4294967295 : Int) - (r : Int) = (crc l : Int)) := by
        show _ = _
        have h1 : r = crcF 4294967295 l := by rw [hr.out, HN.out, List.take_of_length_le (Nat.le_refl _)]
        unfold crc
        rw [← h1]
        omega
      clear hr
      go_wp2
      go_ret
      exact ⟨by rw [← HE.out]; rfl, rfl⟩
end Go.Proofs.YtklngdmpledgeaaGreat.Fr

namespace Go.Proofs.YtklngdmpledgeaaGreat.Fr
open Go.RowKit

set_option maxRecDepth 100000 in
theorem rword_any (w : World) (n : Nat) (hn : n < 4294967296) :
    Calls Tryz.prog 60 #[.int .i64 (n : Int)] w fun e w' => e = .returned (.slice (some ⟨w.heap.size, 0, none⟩) 4 4) ∧ w'.ownsRow w.heap.size 5 1 (.slice (some ⟨w.heap.size, 0, none⟩) 4 4) (num4 n).length (bv (num4 n)) ∧ Below w.heap.size w w' := by
  obtain ⟨a, ha⟩ : ∃ a, a = n / 16777216 % 256 := ⟨_, rfl⟩
  obtain ⟨b, hb⟩ : ∃ b, b = n / 65536 % 256 := ⟨_, rfl⟩
  obtain ⟨c, hc⟩ : ∃ c, c = n / 256 % 256 := ⟨_, rfl⟩
  obtain ⟨d, hd⟩ : ∃ d, d = n % 256 := ⟨_, rfl⟩
  have HN : Hid (num4 n = [(a : Int), (b : Int), (c : Int), (d : Int)]) := by show _ = _; rw [ha, hb, hc, hd]; rfl
  have q1 : (n : Int) / 16777216 = (a : Int) := by omega
  have q2 : (n : Int) / 65536 % 256 = (b : Int) := by omega
  have q3 : (n : Int) / 256 % 256 = (c : Int) := by omega
  have q4 : (n : Int) % 256 = (d : Int) := by omega
  have e1 : (n : Int).tdiv 16777216 = (a : Int) := by rw [Int.tdiv_eq_ediv_of_nonneg (by omega)]; exact q1
  have e2 : ((n : Int).tdiv 65536).tmod 256 = (b : Int) := by rw [Int.tdiv_eq_ediv_of_nonneg (by omega), Int.tmod_eq_emod_of_nonneg (by omega)]; exact q2
  have e3 : ((n : Int).tdiv 256).tmod 256 = (c : Int) := by rw [Int.tdiv_eq_ediv_of_nonneg (by omega), Int.tmod_eq_emod_of_nonneg (by omega)]; exact q3
  have e4 : (n : Int).tmod 256 = (d : Int) := by rw [Int.tmod_eq_emod_of_nonneg (by omega)]; exact q4
  have k1 : a < 256 := by omega
  have k2 : b < 256 := by omega
  have k3 : c < 256 := by omega
  have k4 : d < 256 := by omega
  clear ha hb hc hd
  go_enter Tryz.func60, Tryz.ntmps60
  go_wp2
  go_ret
  refine ⟨rfl, ?_, (Below.refl _ w).alloc (Nat.le_refl _) _⟩
  rw [HN.out]
  exact World.ownsRow_lit w #[.int .u8 (a : Int), .int .u8 (b : Int), .int .u8 (c : Int), .int .u8 (d : Int)] 4 (Nat.le_refl _) (by unfold maxLen; omega) rfl
set_option maxRecDepth 100000 in
set_option maxHeartbeats 4000000 in
theorem rnumber_any (w : World) (A : Option Addr) (cap : Nat) (l : List Int) (h : BAt w (.slice A 4 cap) l) (hb : bok l) :
    Calls Tryz.prog 63 #[.slice A 4 cap] w fun e w' => e = .returned (.int .i64 (numF 0 l : Int)) ∧ Below w.heap.size w w' := by
  obtain ⟨g, o, rfl⟩ := h.place (by decide)
  have hl := h.len.1
  obtain ⟨a, b, c, d, rfl⟩ := list4 hl
  have c0 : w.cell? ⟨g, o, none⟩ = some (.int .u8 a) := by obtain ⟨g', o', h1, h2, _⟩ := h.cell 0 (by decide); cases h1; exact h2
  have c1 : w.cell? ⟨g, o + 1, none⟩ = some (.int .u8 b) := by obtain ⟨g', o', h1, h2, _⟩ := h.cell 1 (by decide); cases h1; exact h2
  have c2 : w.cell? ⟨g, o + 2, none⟩ = some (.int .u8 c) := by obtain ⟨g', o', h1, h2, _⟩ := h.cell 2 (by decide); cases h1; exact h2
  have c3 : w.cell? ⟨g, o + 3, none⟩ = some (.int .u8 d) := by obtain ⟨g', o', h1, h2, _⟩ := h.cell 3 (by decide); cases h1; exact h2
  have h0 := hb a (by simp); have h1 := hb b (by simp); have h2 := hb c (by simp); have h3 := hb d (by simp)
  obtain ⟨a0, a1⟩ := h0
  obtain ⟨b0, b1⟩ := h1
  obtain ⟨d0, d1⟩ := h3
  obtain ⟨x0, x1⟩ := h2
  have HN : Hid (((a * 256 + b) * 256 + c) * 256 + d = (numF 0 [a, b, c, d] : Int)) := by
    show _ = _
    simp only [numF]
    omega
  clear h hb hl
  go_enter Tryz.func63, Tryz.ntmps63
  go_wp2_with fail
  go_quiet (fail)
  go_wp2
  go_ret
  exact ⟨by rw [← HN.out]; rfl, below_drewN (Below.refl _ w) _⟩

set_option maxRecDepth 100000 in
set_option maxHeartbeats 4000000 in
theorem rmake_any (w : World) (A : Option Addr) (n cap q : Nat) (l : List Int) (h : BAt w (.slice A n cap) l) (hb : bok l) (hn : n ≤ 1048568) (hq : q = n + 8) :
    Calls Tryz.prog 36 #[.slice A n cap] w fun e w' => ∃ A' c', e = .returned (.slice A' q c') ∧ BAt w' (.slice A' q c') (frF l) ∧ Below w.heap.size w w' := by
  have hl := h.len.1
  obtain ⟨k, hk⟩ : ∃ k, k = n + 4 := ⟨_, rfl⟩
  obtain ⟨c, hc⟩ : ∃ c, c = crc (hd l) := ⟨_, rfl⟩
  have hc2 : c < 4294967296 := by rw [hc]; exact crc_lt _
  have H := Lib.hid h
  have HL : Hid (n = l.length ∧ k = n + 4 ∧ q = k + 4 ∧ c = crc (hd l)) := ⟨hl.symm, hk, by omega, hc⟩
  have HB := Lib.hid (hd_bok hb)
  have HP1 := Lib.hid (rword_any w n (by omega))
  clear h hb hl hk hc hq
  go_enter Tryz.func36, Tryz.ntmps36
  go_wp2_with (first
    | (at_builtin; refine Lib.wpList_append_run _ rfl _ _ 22 22 rfl _ _ rfl rfl _ _ HR4.out ?_)
    | (go_at_call 60; (with_reducible refine (rword_any w2 c hc2).mono ?_); rintro e w3 ⟨rfl, ho3, hb3⟩
       obtain ⟨A4, c4, w4, hr4, ho4, hg4⟩ := app_any w3 w.heap.size _ (hd l) (own_same HO2.out hb3) _ (num4 c) (BAt.of_own ho3) (by rw [num4_len, hd_len]; have := HL.out.1; omega) (Nat.le_trans HB2.out.size hb3.size)
       have h4 : (hd l).length + (num4 c).length = q := by rw [num4_len, hd_len]; have := HL.out; omega
       rw [h4] at hr4 ho4
       have HR4 := Lib.hid hr4
       have HA4 : Hid (BAt w4 (.slice A4 q c4) (frF l)) := by unfold frF; rw [← HL.out.2.2.2]; exact BAt.of_own ho4
       have HB4 : Hid (Below w.heap.size w w4) := (HB2.out.trans (hb3.mono HB2.out.size)).grown hg4 (Nat.le_trans HB2.out.size hb3.size) (fun j hj => ((own_same HO2.out hb3).lt j hj).1)
       clear ho3 hb3 hr4 ho4 hg4 h4)
    | (go_at_call 61; (with_reducible refine (HS2.out).mono ?_); rintro e w2' ⟨rfl, rfl⟩)
    | (at_builtin; refine Lib.wpList_append_run _ rfl _ _ 22 22 rfl _ _ rfl rfl _ _ HR2.out ?_)
    | (go_at_call 60; (with_reducible refine HP1.out.mono ?_); rintro e w1 ⟨rfl, ho1, hb1⟩
       obtain ⟨A2, c2, w2, hr2, ho2, hg2⟩ := app_any w1 w.heap.size _ (num4 n) ho1 (.slice A n cap) l (H.out.kept hb1) (by rw [num4_len]; have := HL.out.1; omega) hb1.size
       have h2 : (num4 n).length + l.length = k := by rw [num4_len]; have := HL.out; omega
       rw [h2] at hr2 ho2
       have HR2 := Lib.hid hr2
       have HO2 : Hid (w2.ownsRow w.heap.size 5 1 (.slice A2 k c2) (hd l).length (bv (hd l))) := by unfold hd; rw [← HL.out.1]; exact ho2
       have HB2 : Hid (Below w.heap.size w w2) := hb1.grown hg2 hb1.size (fun j hj => (ho1.lt j hj).1)
       have HS2 : Hid (Calls Tryz.prog 61 #[.slice A2 k c2] w2 fun e w' => e = .returned (.int .i64 (c : Int)) ∧ w2 = w') := by
         have h5 := rsum_any w2 _ _ (BAt.of_own HO2.out) HB.out (by rw [hd_len]; have := HL.out.1; omega)
         rw [← HL.out.2.2.2] at h5
         exact h5
       clear ho1 hb1 hr2 ho2 hg2 h2))
  go_ret
  exact ⟨A4, c4, rfl, HA4.out, HB4.out⟩

set_option maxRecDepth 100000 in
theorem rnext_short (K : Nat → Prop) (w : World) (A : Option Addr) (n cap : Nat) (l : List Int) (h : BAt w (.slice A n cap) l) (hn : n < 8) :
    Calls Tryz.prog 40 #[.slice A n cap] w fun e w' => FstK K l e w' ∧ Below w.heap.size w w' := by
  have hl := h.len.1
  have HF := Lib.hid (fst_badK (l := l) (x := 12) (by unfold nxE; rw [if_pos (by omega)]) (by decide) K)
  have t1 : (n : Int) < 8 := by omega
  clear h hl
  go_enter Tryz.func40, Tryz.ntmps40
  go_wp2
  go_ret3
  exact ⟨HF.out w, Below.refl _ _⟩
set_option maxRecDepth 100000 in
set_option maxHeartbeats 4000000 in
theorem rnext_more (K : Nat → Prop) (w : World) (A : Option Addr) (n cap : Nat) (l : List Int) (h : BAt w (.slice A n cap) l) (hb : bok l) (hn : 8 ≤ n) (hn2 : n ≤ 2000000) (hK : BK K (.slice A n cap) l) :
    Calls Tryz.prog 40 #[.slice A n cap] w fun e w' => FstK K l e w' ∧ Below w.heap.size w w' := by
  obtain ⟨hl, hcap⟩ := h.len
  obtain ⟨g, o, rfl⟩ := h.place (by omega)
  have HKG : Hid (K g) := hK (by omega) ⟨g, o, none⟩ n cap rfl
  clear hK
  obtain ⟨m, hm⟩ : ∃ m, m = nn l := ⟨_, rfl⟩
  have h4 := (h.take 4 (by omega)).1
  have hm2 : m < 4294967296 := by rw [hm]; exact numF_lt (by rw [List.length_take]; omega) (bok_take hb 4)
  have HN : Hid (Calls Tryz.prog 63 #[.slice (some ⟨g, o, none⟩) 4 cap] w fun e w' => e = .returned (.int .i64 (m : Int)) ∧ Below w.heap.size w w') := by
    have := rnumber_any w _ _ _ h4 (bok_take hb 4)
    rw [hm]; exact this
  have hs1 : ∀ W : World, (Instr.slice 22 (.slice (some ⟨g, o, none⟩) n cap) none (some (.int .i64 4)) none).run Tryz.prog W = .ok (.slice (some ⟨g, o, none⟩) 4 cap) W := slice_to _ n cap 4 (by omega)
  have t1 : ¬ (n : Int) < 8 := by omega
  by_cases hlong : 1048568 < m
  · have t2 : (1048568 : Int) < (m : Int) := by omega
    have HF := Lib.hid (fst_badK (l := l) (x := 2) (by unfold nxE; rw [if_neg (by omega), if_pos (by omega)]) (by decide) K)
    clear h hl hm h4
    go_enter Tryz.func40, Tryz.ntmps40
    go_wp2_with (go_at_call 63; refine HN.out.mono ?_; rintro e w1 ⟨rfl, b1⟩; have B1 := Lib.hid b1; clear b1)
    go_ret3
    exact ⟨HF.out w1, B1.out⟩
  have t2 : ¬ (1048568 : Int) < (m : Int) := by omega
  obtain ⟨q, hq⟩ : ∃ q, q = m + 4 := ⟨_, rfl⟩
  obtain ⟨r, hr⟩ : ∃ r, r = m + 8 := ⟨_, rfl⟩
  have e1 : (m : Int) + 4 = (q : Int) := by omega
  have e2 : (m : Int) + 8 = (r : Int) := by omega
  by_cases hend : n < r
  · have t3 : (n : Int) < (r : Int) := by omega
    have HF := Lib.hid (fst_badK (l := l) (x := 12) (by unfold nxE; rw [if_neg (by omega), if_neg (by omega), if_pos (by omega)]) (by decide) K)
    have b1 : r ≤ 1048576 := by omega
    clear h hl hm h4 hq hr
    go_enter Tryz.func40, Tryz.ntmps40
    go_wp2_with (go_at_call 63; refine HN.out.mono ?_; rintro e w1 ⟨rfl, b1⟩; have B1 := Lib.hid b1; clear b1)
    go_ret3
    exact ⟨HF.out w1, B1.out⟩
  have t3 : ¬ (n : Int) < (r : Int) := by omega
  have b1 : r ≤ 1048576 := by omega
  have k1 : IntKind.i64.wrap (q : Int) = (q : Int) := by rw [IntKind.wrap_i64]; omega
  have k2 : IntKind.i64.wrap (r : Int) = (r : Int) := by rw [IntKind.wrap_i64]; omega
  have hs2 : ∀ W : World, (Instr.slice 22 (.slice (some ⟨g, o, none⟩) n cap) (some (.int .i64 (q : Int))) (some (.int .i64 (r : Int))) none).run Tryz.prog W = .ok (.slice (some ⟨g, o + q, none⟩) 4 (cap - q)) W := fun W => by
    have := slice_mid g o n cap q r (by omega) (by omega) (by omega) W
    rw [show r - q = 4 by omega] at this
    exact this
  have hs3 := slice_to (some ⟨g, o, none⟩) n cap q (by omega)
  have hs5 : ∀ W : World, (Instr.slice 22 (.slice (some ⟨g, o, none⟩) n cap) (some (.int .i64 4)) (some (.int .i64 (q : Int))) none).run Tryz.prog W = .ok (.slice (some ⟨g, o + 4, none⟩) m (cap - 4)) W := fun W => by
    have := slice_mid g o n cap 4 q (by omega) (by omega) (by omega) W
    rw [show q - 4 = m by omega] at this
    exact this
  have htl : BAt w (.slice (some ⟨g, o + q, none⟩) 4 (cap - q)) (tail4 l) := by
    have h1 := h.mid q r (cap - q) (some ⟨g, o + q, none⟩) (fun _ => rfl) (by omega) (by omega) (by omega)
    rw [show r - q = 4 by omega] at h1
    unfold tail4
    rw [← hm, ← hq]
    exact h1
  have htk := (h.take q (by omega)).1
  have hbd : BAt w (.slice (some ⟨g, o + 4, none⟩) m (cap - 4)) ((l.drop 4).take m) := by
    have h1 := h.mid 4 q (cap - 4) (some ⟨g, o + 4, none⟩) (fun _ => rfl) (by omega) (by omega) (by omega)
    rw [show q - 4 = m by omega] at h1
    exact h1
  obtain ⟨z, hz⟩ : ∃ z, z = numF 0 (tail4 l) := ⟨_, rfl⟩
  obtain ⟨x, hx⟩ : ∃ x, x = crc (l.take q) := ⟨_, rfl⟩
  have HN2 : Hid (∀ W, Below w.heap.size w W → Calls Tryz.prog 63 #[.slice (some ⟨g, o + q, none⟩) 4 (cap - q)] W fun e w' => e = .returned (.int .i64 (z : Int)) ∧ Below W.heap.size W w') := by
    intro W hW
    rw [hz]
    exact rnumber_any W _ _ _ (htl.kept hW) (by unfold tail4; exact bok_take (bok_drop hb _) _)
  have HSM : Hid (∀ W, Below w.heap.size w W → Calls Tryz.prog 61 #[.slice (some ⟨g, o, none⟩) q cap] W fun e w' => e = .returned (.int .i64 (x : Int)) ∧ W = w') := by
    intro W hW
    rw [hx]
    exact rsum_any W _ _ (htk.kept hW) (bok_take hb q) (by rw [List.length_take]; omega)
  have HBD := Lib.hid hbd
  have HOK : Hid (z = x → nxE l = 0) := fun hzx => nxE_mk (by omega) (by omega) (by rw [← hz, hzx, hx, hq, hm])
  have HNO : Hid (¬ z = x → nxE l = 11) := fun hzx => by
    unfold nxE
    rw [if_neg (by omega), if_neg (by omega), if_neg (by omega), if_neg (by rw [← hz, ← hm, ← hq, ← hx]; exact hzx)]
  have HQ : Hid (m = nn l ∧ r = m + 8) := ⟨hm, hr⟩
  clear h hl hm h4 hq hr htl htk hbd hz hx
  by_cases hzx : z = x
  · subst hzx
    have HE := HOK.out rfl
    have HF : Hid (∀ W, Below w.heap.size w W → FstK K l (.returned (.tuple #[.slice (some ⟨g, o + 4, none⟩) m (cap - 4), .int .i64 (r : Int), .int .i64 0])) W) := fun W hW => by
      have e1 : nxB l = (l.drop 4).take m := by unfold nxB; rw [if_pos HE, HQ.out.1]
      have e2 : nxN l = r := by unfold nxN; rw [if_pos HE, ← HQ.out.1, HQ.out.2]
      have e3 := HBD.out.len.1
      rw [← e1] at e3
      exact ⟨_, _, by rw [e2, HE, e3], by rw [e3, e1]; exact HBD.out.kept hW, fun _ a n c ha => by
        cases ha
        exact HKG.out⟩
    clear HE
    go_enter Tryz.func40, Tryz.ntmps40
    go_wp2_with (go_at_call 63; refine HN.out.mono ?_; rintro e w1 ⟨rfl, b1⟩; have B1 := Lib.hid b1; have BD := Lib.hid b1.drew; clear b1)
    go_region_held3 (fun _ => True) (trivial)
      (first
        | (go_at_call 61; (with_reducible refine (HSM.out _ B2.out).mono ?_); rintro e w3 ⟨rfl, rfl⟩)
        | (go_at_call 61; (with_reducible refine (HSM.out _ BD.out).mono ?_); rintro e w3 ⟨rfl, rfl⟩)
        | (go_at_call 63; (with_reducible refine (HN2.out _ BD.out).mono ?_); rintro e w2 ⟨rfl, b2⟩; have B2 := Lib.hid (BD.out.trans (b2.mono BD.out.size)); clear b2))
    all_goals
      go_wp2
      go_ret3
      exact ⟨HF.out _ B2.out, B2.out⟩
  · have HF := Lib.hid (fst_badK (l := l) (x := 11) (HNO.out hzx) (by decide) K)
    have t4 : ¬ (x : Int) = (z : Int) := by omega
    clear HOK HNO
    go_enter Tryz.func40, Tryz.ntmps40
    go_wp2_with (go_at_call 63; refine HN.out.mono ?_; rintro e w1 ⟨rfl, b1⟩; have B1 := Lib.hid b1; have BD := Lib.hid b1.drew; clear b1)
    go_region_held3 (fun _ => True) (trivial)
      (first
        | (go_at_call 61; (with_reducible refine (HSM.out _ B2.out).mono ?_); rintro e w3 ⟨rfl, rfl⟩)
        | (go_at_call 61; (with_reducible refine (HSM.out _ BD.out).mono ?_); rintro e w3 ⟨rfl, rfl⟩)
        | (go_at_call 63; (with_reducible refine (HN2.out _ BD.out).mono ?_); rintro e w2 ⟨rfl, b2⟩; have B2 := Lib.hid (BD.out.trans (b2.mono BD.out.size)); clear b2))
    all_goals
      go_wp2
      go_ret3
      exact ⟨HF.out _, B2.out⟩
theorem rnext_in (K : Nat → Prop) (w : World) (v : Value) (l : List Int) (h : BAt w v l) (hb : bok l) (hn : l.length ≤ 2000000) (hK : BK K v l) : Calls Tryz.prog 40 #[v] w fun e w' => FstK K l e w' ∧ Below w.heap.size w w' := by
  obtain ⟨A, cap, h1, h2, h3⟩ := h
  subst h1
  by_cases h8 : l.length < 8
  · exact rnext_short K w A l.length cap l ⟨A, cap, rfl, h2, h3⟩ h8
  · exact rnext_more K w A l.length cap l ⟨A, cap, rfl, h2, h3⟩ hb (by omega) hn hK
theorem rnext_any (w : World) (v : Value) (l : List Int) (h : BAt w v l) (hb : bok l) (hn : l.length ≤ 2000000) : Calls Tryz.prog 40 #[v] w fun e w' => Fst l e w' ∧ Below w.heap.size w w' :=
  (rnext_in (fun _ => True) w v l h hb hn (fun _ _ _ _ _ => trivial)).mono fun _ _ h => ⟨h.1.fst, h.2⟩
end Go.Proofs.YtklngdmpledgeaaGreat.Fr
