/-
  The contract of the reference's Digits. Conditions: the text has at most 1000 bytes.
-/
import Derived.Test.YtjnohdkpkbiclaaParse
import Derived.Test.YtjnohdkpkbiclaaSums
import Derived.Deep.LoopGhost
import Derived.Outline
namespace Go.Proofs.Ytjnohdkpkbiclaa
open Go.RowKit

theorem sb_get (s : ByteArray) (k : Nat) (h : k < s.size) : (sb s).getD k 0 = ((s[k]'h).toNat : Int) := by
  rw [List.getD_eq_getElem?_getD, List.getElem?_eq_getElem (by rw [sb_len]; exact h)]
  simp [sb]
  rfl
theorem sb_tail (s : ByteArray) : sb (s.extract 1 s.size) = (sb s).tail := by
  unfold sb
  rw [ByteArray.data_extract, ← List.map_tail]
  congr 1
  simp only [Array.toList_extract, List.extract_eq_take_drop, List.drop_one]
  exact List.take_of_length_le (by simp [List.length_tail])
theorem slice_one (s : ByteArray) (h : 1 ≤ s.size) (w : World) : (Instr.slice 9 (.string s) (some (.int .i64 1)) none none).run Try.prog w = .ok (.string (s.extract 1 s.size)) w := by
  have h2 : (1 : Int) ≤ (s.size : Int) := by omega
  simp [Instr.slice, Instr.sliceBounds, Instr.sliceBound, asIntOf, run_underlying Try.underlying9, h2]
theorem slice_to (s : ByteArray) (n : Nat) (h : n ≤ s.size) (w : World) : (Instr.slice 9 (.string s) none (some (.int .i64 (n : Int))) none).run Try.prog w = .ok (.string (s.extract 0 n)) w := by
  have h2 : (n : Int) ≤ (s.size : Int) := by omega
  simp [Instr.slice, Instr.sliceBounds, Instr.sliceBound, asIntOf, run_underlying Try.underlying9, h]

theorem blk_store1 {w : World} {b : Nat} {x y : Value} {t : TypeId} (h : w.heap[b]? = some (.cells #[x, y] t (0, 0))) (u : Value) : (w.setCell ⟨b, 0, none⟩ u).heap[b]? = some (.cells #[u, y] t (0, 0)) := by
  simp only [World.setCell, Array.getElem?_modify, if_true]; rw [h]; rfl
theorem nil_num (w : World) : NumIs w (.agg #[.bool false, .slice none 0 0]) 0 := ⟨none, 0, 0, rfl, by rw [show (0 : Int).natAbs = 0 from rfl, digs_zero]; exact Digs.nil w⟩
theorem num_dig {w : World} {b : Bool} {A : Option Addr} {n c : Nat} {z : Int} (h : NumIs w (.agg #[.bool b, .slice A n c]) z) : Digs w (.slice A n c) (digs z.natAbs) := by
  obtain ⟨A', n', c', e, hd⟩ := h
  simp only [Value.agg.injEq, Array.mk.injEq, List.cons.injEq, and_true] at e
  rw [e.2]; exact hd
theorem num_bound {ds : List Int} {k : Nat} (h : ∀ i, i < k → 48 ≤ ds.getD i 0 ∧ ds.getD i 0 ≤ 57) (hk : k ≤ ds.length) : 0 ≤ numOf (ds.take k) ∧ numOf (ds.take k) < bp k := by
  induction k with
  | zero => simp [numOf, bp]
  | succ k ih =>
    have h1 := ih (fun i hi => h i (by omega)) (by omega)
    have h2 := h k (by omega)
    rw [numOf_take_succ _ _ (by omega)]
    have h3 := bp_pos k
    unfold bp
    omega

/-- What Digits must tell. -/
def DSpec (bs : List Int) (w : World) (u : Value) (b : Bool) : Prop :=
  (b = true ∧ plainB (digsOf bs) = true ∧ ¬ (negB bs = true ∧ digsOf bs = [48]) ∧ NumIs w u (if negB bs then - numOf (digsOf bs) else numOf (digsOf bs))) ∨
  (b = false ∧ u = .agg #[.bool false, .slice none 0 0] ∧ (plainB (digsOf bs) = false ∨ (negB bs = true ∧ digsOf bs = [48])))

/-- What Digits leaves. -/
def DPost (s : ByteArray) (w : World) (e : Ending) (w' : World) : Prop := ∃ u b, e = .returned (.tuple #[u, .bool b]) ∧ Hid (DSpec (sb s) w' u b) ∧ Below w.heap.size w w'
theorem DPost.no {s : ByteArray} {w w' : World} (h : plainB (digsOf (sb s)) = false ∨ (negB (sb s) = true ∧ digsOf (sb s) = [48])) (b : Below w.heap.size w w') :
    DPost s w (.returned (.tuple #[.agg #[.bool false, .slice none 0 0], .bool false])) w' := ⟨_, _, rfl, .inr ⟨rfl, rfl, h⟩, b⟩
theorem DPost.yes {s : ByteArray} {w w' : World} {u : Value} (h1 : plainB (digsOf (sb s)) = true) (h2 : ¬ (negB (sb s) = true ∧ digsOf (sb s) = [48])) (h : NumIs w' u (if negB (sb s) then - numOf (digsOf (sb s)) else numOf (digsOf (sb s)))) (b : Below w.heap.size w w') :
    DPost s w (.returned (.tuple #[u, .bool true])) w' := ⟨_, _, rfl, .inl ⟨rfl, h1, h2, h⟩, b⟩

/-- What is no number's text at its head: nothing, a nought ahead, a nought below 0. -/
def shapeB (bs : List Int) (ng : Bool) : Bool := bs.isEmpty || (bs.head? == some 48 && (decide (1 < bs.length) || ng))
theorem shape_bad {bs : List Int} {ng : Bool} (h : shapeB bs ng = true) : plainB bs = false ∨ (ng = true ∧ bs = [48]) := by
  unfold shapeB at h
  match bs, h with
  | [], _ => exact .inl rfl
  | [c], h =>
    simp at h
    obtain ⟨rfl, rfl⟩ := h
    exact .inr ⟨rfl, rfl⟩
  | c :: c2 :: r, h =>
    simp at h
    subst h
    left
    unfold plainB
    simp
theorem shape_good {bs : List Int} {ng : Bool} (h : shapeB bs ng = false) : bs.head? ≠ some 48 ∨ (bs.length = 1 ∧ ng = false) := by
  unfold shapeB at h
  match bs, h with
  | [], h => cases h
  | [c], h =>
    simp at h
    by_cases hc : c = 48
    · exact .inr ⟨rfl, h hc⟩
    · exact .inl (by simp [hc])
  | c :: c2 :: r, h =>
    simp at h
    exact .inl (by simp [h])

set_option maxRecDepth 100000 in
set_option maxHeartbeats 2000000 in
theorem digits_walk (w : World) (s : ByteArray) (hs : s.size ≤ 1000) :
    Calls Try.prog 32 #[.string s] w fun e w' => DPost s w e w' := by
  have hs1 := fun h W => slice_one s h W
  go_enter Try.func32, Try.ntmps32
  go_upto_region 1 with fail
  go_cut [4] from 7 to 14 (fun s4 wx => s4 = .bool (negB (sb s)) ∧ wx = w.alloc (.cells #[.bool false, .slice none 0 0] 25))
  case first =>
    by_cases h0 : s.size = 0
    · have e : Hid (negB (sb s) = false) := by
        have e : sb s = [] := List.eq_nil_of_length_eq_zero (by rw [sb_len]; exact h0)
        show _ = _
        rw [e]; rfl
      go_wp2
      go_meet
      case rel => rw [e.out]; exact ⟨rfl, rfl⟩
    · have hp : 0 < s.size := by omega
      obtain ⟨d, hd⟩ : ∃ d : Int, ((s[0]'hp).toNat : Int) = d := ⟨_, rfl⟩
      have hhead : Hid (negB (sb s) = (d == 45)) := by show _ = _; unfold negB; rw [sb_head s hp, hd]; rfl
      go_wp2
      go_meet
      case rel => rw [hhead.out]; exact ⟨rfl, rfl⟩
  case rest =>
  obtain ⟨rfl, rfl⟩ := hcut
  obtain ⟨ng, hng⟩ : ∃ ng, ng = negB (sb s) := ⟨_, rfl⟩
  rw [← hng]
  have HNG := Lib.hid hng
  clear hng
  go_upto_if 15 with (fail)
  go_cut [0] from 15 to 17 (fun s0 wx => ∃ (t : ByteArray), s0 = .string t ∧ wx = w.alloc (.cells #[.bool false, .slice none 0 0] 25) ∧ Hid (sb t = digsOf (sb s)))
  case first =>
    cases ng
    · have hk : Hid (sb s = digsOf (sb s)) := by
        show _ = _
        unfold digsOf
        rw [← HNG.out]; rfl
      go_wp2
      go_meet
      case rel => exact ⟨s, rfl, rfl, hk⟩
    · have hp : 1 ≤ s.size := by
        rcases Nat.lt_or_ge 0 s.size with h | h
        · exact h
        · have e : sb s = [] := List.eq_nil_of_length_eq_zero (by rw [sb_len]; omega)
          have := HNG.out
          rw [e] at this; cases this
      have hsl := hs1 hp
      have hk : Hid (sb (s.extract 1 s.size) = digsOf (sb s)) := by
        show _ = _
        unfold digsOf
        rw [← HNG.out, sb_tail]; rfl
      go_wp2
      go_meet
      case rel => exact ⟨_, rfl, rfl, hk⟩
  case rest =>
  obtain ⟨t, rfl, rfl, hsp0⟩ := hcut
  have hsp : Hid (sb t = digsOf (sb s) ∧ ng = negB (sb s)) := ⟨hsp0.out, HNG.out⟩
  clear hsp0
  have zero : Hid (∀ W, W = w.alloc (.cells #[.bool false, .slice none 0 0] 25) → Below w.heap.size w W) := by rintro W rfl; exact (Below.refl _ _).alloc (Nat.le_refl _) _
  go_upto_region 4 with fail
  go_cut [33] from 18 to 33 (fun s33 wx => s33 = .bool (shapeB (sb t) ng) ∧ wx = w.alloc (.cells #[.bool false, .slice none 0 0] 25))
  case first =>
    by_cases h0 : t.size = 0
    · have hk : Hid (shapeB (sb t) ng = true) := by
        have e : sb t = [] := List.eq_nil_of_length_eq_zero (by rw [sb_len]; exact h0)
        show _ = _
        rw [e]; rfl
      go_wp2
      go_meet
      case rel => rw [hk.out]; exact ⟨rfl, rfl⟩
    · have hp : 0 < t.size := by omega
      have h0b : ((t.size : Int) == 0) = false := by rw [beq_eq_false_iff_ne]; omega
      obtain ⟨d, hd⟩ : ∃ d : Int, ((t[0]'hp).toNat : Int) = d := ⟨_, rfl⟩
      have hhead : Hid ((sb t).head? = some d) := by show _ = _; rw [sb_head t hp, hd]
      have hlen : Hid ((sb t).length = t.size) := sb_len t
      have hne : Hid ((sb t).isEmpty = false) := by
        show _ = _
        rw [List.isEmpty_eq_false_iff]
        intro e; have := hhead.out; rw [e] at this; cases this
      by_cases h48 : d = 48
      · subst h48
        by_cases h1 : 1 < t.size
        · have h1' : (1 : Int) < (t.size : Int) := by omega
          have hk : Hid (shapeB (sb t) ng = true) := by
            show _ = _
            unfold shapeB
            rw [hne.out, hhead.out, hlen.out, decide_eq_true h1]; rfl
          go_wp2
          go_meet
          case rel => rw [hk.out]; exact ⟨rfl, rfl⟩
        · have h1' : ¬ (1 : Int) < (t.size : Int) := by omega
          have hk : Hid (shapeB (sb t) ng = ng) := by
            show _ = _
            unfold shapeB
            rw [hne.out, hhead.out, hlen.out, decide_eq_false h1]; simp
          go_wp2
          go_meet
          case rel => rw [hk.out]; exact ⟨rfl, rfl⟩
      · have h48b : (d == 48) = false := by simp [h48]
        have hk : Hid (shapeB (sb t) ng = false) := by
          show _ = _
          unfold shapeB
          rw [hne.out, hhead.out]; simp [h48]
        go_wp2
        go_meet
        case rel => rw [hk.out]; exact ⟨rfl, rfl⟩
  case rest =>
  obtain ⟨rfl, rfl⟩ := hcut
  cases hsh : shapeB (sb t) ng
  case true =>
    have hbad : Hid (plainB (digsOf (sb s)) = false ∨ (negB (sb s) = true ∧ digsOf (sb s) = [48])) := by
      show _ ∨ _
      rw [← hsp.out.1, ← hsp.out.2]
      exact shape_bad hsh
    clear hsh
    go_wp2
    refine bodyPost_ret (v := .tuple #[.agg #[.bool false, .slice none 0 0], .bool false]) (by simp [results, Try.results32, go_sem]) rfl (DPost.no hbad.out (zero.out _ rfl))
  case false =>
  have hp : 0 < t.size := by
    rcases Nat.lt_or_ge 0 t.size with h | h
    · exact h
    · have e : sb t = [] := List.eq_nil_of_length_eq_zero (by rw [sb_len]; omega)
      rw [e] at hsh; cases hsh
  have hhd : Hid ((sb t).head? ≠ some 48 ∨ (t.size = 1 ∧ ng = false)) := by
    show _ ∨ _
    rw [← sb_len]
    exact shape_good hsh
  clear hsh
  have htl : t.size ≤ 1000 := by
    rw [← sb_len, hsp.out.1]
    unfold digsOf
    split
    · rw [List.length_tail, sb_len]; omega
    · rw [sb_len]; exact hs
  clear zero hs1
  go_wp2
  obtain ⟨W0, hW0⟩ : ∃ W0, W0 = (w.alloc (.cells #[.bool false, .slice none 0 0] 25)).alloc (.cells #[.bool false, .slice none 0 0] 25) := ⟨_, rfl⟩
  rw [← hW0]
  have j := two_new w (.cells #[.bool false, .slice none 0 0] 25) (.cells #[.bool false, .slice none 0 0] 25)
  rw [← hW0] at j
  have J := Lib.hid j
  clear hW0 j
  go_loopg [6] t.size (fun (g : Nat) si wx => ∃ (k : Nat), g = t.size - k ∧ k ≤ t.size ∧ si = .int .i64 (k : Int) ∧
    Hid (wx.heap[w.heap.size]? = some (.cells #[.bool false, .slice none 0 0] 25 (0, 0)) ∧ NumAt wx (w.heap.size + 1) (numOf ((sb t).take k)) ∧ Below w.heap.size w wx ∧ ∀ i, i < k → 48 ≤ (sb t).getD i 0 ∧ (sb t).getD i 0 ≤ 57))
  case atStart => exact ⟨0, rfl, Nat.zero_le _, rfl, J.out.1, ⟨none, 0, 0, J.out.2.1, nil_num _⟩, J.out.2.2, fun i hi => by omega⟩
  case round =>
    obtain ⟨k, rfl, hk, rfl, hinv⟩ := hrel
    obtain ⟨v, hv⟩ : ∃ v, v = numOf ((sb t).take k) := ⟨_, rfl⟩
    have hb := num_bound (fun i hi => hinv.out.2.2.2 i hi) (show k ≤ (sb t).length by rw [sb_len]; exact hk)
    have hinv2 := hinv
    rw [← hv] at hinv2 hb
    obtain ⟨kr, ⟨A3, n3, c3, kt, nt⟩, bw, hall⟩ := hinv2.out
    clear hinv2 hinv
    have HALL := Lib.hid hall
    have KR := Lib.hid kr
    obtain ⟨r0, r1, rf0, rf1⟩ := blk2 kr
    have hv0 : decide (v < 0) = false := decide_eq_false (by omega)
    rw [hv0] at kt nt
    obtain ⟨t0, t1, tf0, tf1⟩ := blk2 kt
    have KT := Lib.hid kt
    have NT := Lib.hid nt
    have BW := Lib.hid bw
    have HV := Lib.hid hv
    clear kr kt nt bw hall hv hv0
    by_cases hlt : k < t.size
    · obtain ⟨d, hd⟩ : ∃ d : Int, ((t[k]'hlt).toNat : Int) = d := ⟨_, rfl⟩
      have HD : Hid ((sb t).getD k 0 = d) := by show _ = _; rw [sb_get t k hlt, hd]
      have hdr := sb_range t k
      rw [HD.out] at hdr
      obtain ⟨dr0, dr1⟩ := hdr
      have hki : (k : Int) < (t.size : Int) := by omega
      have hbad : Hid ((d < 48 ∨ 57 < d) → plainB (digsOf (sb s)) = false) := by
        intro hb
        have hm : d ∈ sb t := by
          rw [← HD.out, List.getD_eq_getElem?_getD, List.getElem?_eq_getElem (by rw [sb_len]; exact hlt)]
          exact List.getElem_mem _
        rw [← hsp.out.1]
        unfold plainB
        have : (sb t).all (fun c => decide (48 ≤ c) && decide (c ≤ 57)) = false := by
          rw [List.all_eq_false]
          exact ⟨d, hm, by simp; omega⟩
        rw [this]; rfl
      rcases (by omega : d < 48 ∨ (¬ d < 48 ∧ 57 < d) ∨ (¬ d < 48 ∧ ¬ 57 < d)) with h1 | ⟨h1, h2⟩ | ⟨h1, h2⟩
      · go_wp2
        refine bodyPost_ret (v := .tuple #[.agg #[.bool false, .slice none 0 0], .bool false]) (by simp [results, Try.results32, go_sem, r0, r1]) rfl (DPost.no (.inl (hbad.out (.inl h1))) (below_stored BW.out (Nat.le_refl _) _ _))
      · go_wp2
        refine bodyPost_ret (v := .tuple #[.agg #[.bool false, .slice none 0 0], .bool false]) (by simp [results, Try.results32, go_sem, r0, r1]) rfl (DPost.no (.inl (hbad.out (.inr h2))) (below_stored BW.out (Nat.le_refl _) _ _))
      · obtain ⟨m, hm⟩ : ∃ m, m = v * 10 := ⟨_, rfl⟩
        obtain ⟨e8, he8⟩ : ∃ e, e = d - 48 := ⟨_, rfl⟩
        obtain ⟨v', hv'⟩ : ∃ v', v' = m + e8 := ⟨_, rfl⟩
        have HV' : Hid (numOf ((sb t).take (k + 1)) = v') := by show _ = _; rw [numOf_take_succ _ _ (by rw [sb_len]; exact hlt), HD.out, hv', hm, he8, HV.out]
        have FV : Hid (Few v) := few_of_lt (k := k) (by omega) (by omega)
        have FM : Hid (Few m) := few_of_lt (k := k + 1) (by omega) (by rw [hm]; unfold bp; omega)
        have F10 : Hid (Few 10) := few_of_lt (k := 1) (by decide) (by decide)
        have FE : Hid (Few e8) := few_of_lt (k := 1) (by decide) (by rw [he8, show bp 1 = 65536 by decide]; omega)
        have wd : IntKind.i64.wrap d = d := by rw [i64_wrap]; omega
        have we : IntKind.i64.wrap (d - 48) = e8 := by rw [i64_wrap, he8]; omega
        have RE : Hid (-1000000 ≤ e8 ∧ e8 ≤ 1000000) := by show _ ∧ _; omega
        have HM := Lib.hid hm
        have HV2 := Lib.hid hv'
        have BWd : Hid (Below w.heap.size w wr.drew) := BW.out.drew
        have KTd : Hid (wr.drew.heap[w.heap.size + 1]? = some (.cells #[.bool false, .slice A3 n3 c3] 25 (0, 0))) := KT
        have KRd : Hid (wr.drew.heap[w.heap.size]? = some (.cells #[.bool false, .slice none 0 0] 25 (0, 0))) := KR
        have NTd : Hid (NumIs wr.drew (.agg #[.bool false, .slice A3 n3 c3]) v) := ⟨A3, n3, c3, by rw [decide_eq_false (by omega)], num_dig NT.out⟩
        have HDI : Hid (48 ≤ d ∧ d ≤ 57) := by show _ ∧ _; omega
        clear hm he8 hv' KT NT KR BW r0 r1 rf0 rf1 hb
        go_upto_region 12 with fail
        go_region_with (first
          | (go_at_call 54; (with_reducible refine (small_any wr.drew 10 (by decide) (by decide)).mono ?_); rintro e w1 ⟨u1, rfl, ⟨A4, n4, c4, rfl, hd4⟩, hb⟩; have KT1 := Lib.hid (block_kept KTd.out hb); have KR1 := Lib.hid (block_kept KRd.out hb); obtain ⟨m0, m1, _, _⟩ := blk2 KT1.out; have NV1 := Lib.hid (NumIs.below NTd.out hb (Nat.le_refl _)); have N10 : Hid (NumIs w1 (.agg #[.bool false, .slice A4 n4 c4]) 10) := (⟨A4, n4, c4, rfl, hd4⟩ : NumIs w1 (.agg #[.bool false, .slice A4 n4 c4]) 10); have BW1 := Lib.hid (BWd.out.trans (hb.mono BWd.out.size)); clear hb hd4)
          | (go_at_call 17; (with_reducible refine (mul_is w1 _ _ v 10 HM NV1.out N10.out FV.out F10.out).mono ?_); rintro e w2 ⟨u2, rfl, ⟨A5, n5, c5, rfl, hd5⟩, hb⟩; have KT2 := Lib.hid (block_kept KT1.out hb); have KR2 := Lib.hid (block_kept KR1.out hb); have NM2 : Hid (NumIs w2 (.agg #[.bool (decide (m < 0)), .slice A5 n5 c5]) m) := (⟨A5, n5, c5, rfl, hd5⟩ : NumIs w2 (.agg #[.bool (decide (m < 0)), .slice A5 n5 c5]) m); have BW2 := Lib.hid (BW1.out.trans (hb.mono BW1.out.size)); clear hb hd5)
          | (go_at_call 54; (with_reducible refine (small_any w2 e8 RE.out.1 RE.out.2).mono ?_); rintro e w3 ⟨u3, rfl, ⟨A6, n6, c6, rfl, hd6⟩, hb⟩; have KT3 := Lib.hid (block_kept KT2.out hb); have KR3 := Lib.hid (block_kept KR2.out hb); have NM3 := Lib.hid (NumIs.below NM2.out hb (Nat.le_refl _)); have NE3 : Hid (NumIs w3 (.agg #[.bool (decide (e8 < 0)), .slice A6 n6 c6]) e8) := (⟨A6, n6, c6, rfl, hd6⟩ : NumIs w3 (.agg #[.bool (decide (e8 < 0)), .slice A6 n6 c6]) e8); have BW3 := Lib.hid (BW2.out.trans (hb.mono BW2.out.size)); clear hb hd6)
          | (go_at_call 13; (with_reducible refine (add_is w3 _ _ m e8 HV2 NM3.out NE3.out FM.out FE.out).mono ?_); rintro e w4 ⟨u4, rfl, ⟨A7, n7, c7, rfl, hd7⟩, hb⟩; have KT4 := Lib.hid (block_kept KT3.out hb); have KR4 := Lib.hid (block_kept KR3.out hb); obtain ⟨_, _, mf0, mf1⟩ := blk2 KT4.out; have NS4 : Hid (NumIs w4 (.agg #[.bool (decide (v' < 0)), .slice A7 n7 c7]) v') := (⟨A7, n7, c7, rfl, hd7⟩ : NumIs w4 (.agg #[.bool (decide (v' < 0)), .slice A7 n7 c7]) v'); have BW4 := Lib.hid (BW3.out.trans (hb.mono BW3.out.size)); clear hb hd7))
        all_goals
          go_wp2
          go_roundg (t.size - (k + 1))
          case measure => omega
          case rel => exact ⟨k + 1, rfl, by omega, by go_num, block_set (block_set KR4.out (p := ⟨w.heap.size + 1, 0, none⟩) (by simp) _) (p := ⟨w.heap.size + 1, 1, none⟩) (by simp) _, by rw [HV'.out]; exact ⟨A7, n7, c7, blk_store2 KT4.out _ _, num_stored NS4.out KT4.out _ _⟩, below_stored BW4.out (Nat.le_succ _) _ _, fun i hi => by
            rcases Nat.lt_or_ge i k with h | h
            · exact HALL.out i h
            · obtain rfl : i = k := by omega
              rw [HD.out]; exact HDI.out⟩
    · have hkn : k = t.size := by omega
      have hvz : Hid (numOf (digsOf (sb s)) = v) := by show _ = _; rw [HV.out, ← hsp.out.1, List.take_of_length_le (by rw [sb_len]; omega)]
      have hgood : Hid (plainB (digsOf (sb s)) = true ∧ ¬ (negB (sb s) = true ∧ digsOf (sb s) = [48])) := by
        show _ ∧ _
        rw [← hsp.out.1, ← hsp.out.2]
        have hall : (sb t).all (fun c => decide (48 ≤ c) && decide (c ≤ 57)) = true := by
          rw [List.all_eq_true]
          intro c hc
          obtain ⟨i, hi, rfl⟩ := List.getElem_of_mem hc
          have h := HALL.out i (by rw [hkn, ← sb_len]; exact hi)
          rw [List.getD_eq_getElem?_getD, List.getElem?_eq_getElem hi] at h
          simpa using h
        unfold plainB
        rw [hall]
        have hh := sb_head t hp
        rcases hhd.out with h | ⟨h, rfl⟩
        · rw [hh] at h ⊢
          refine ⟨by simp; exact .inr (by simpa using h), ?_⟩
          rintro ⟨_, e⟩
          rw [e] at hh
          simp at hh h
          exact h hh.symm
        · refine ⟨?_, by simp⟩
          by_cases h48 : (sb t).head? = some 48
          · have hl : (sb t).length = 1 := by rw [sb_len]; exact h
            match hm : sb t, hl, h48 with
            | [c], _, h48 =>
              have : c = 48 := by simpa using h48
              rw [this]; rfl
          · rw [hh] at h48 ⊢
            simp; exact .inr (by simpa using h48)
      obtain ⟨z, hz⟩ : ∃ z, z = if ng then - (v.natAbs : Int) else v.natAbs := ⟨_, rfl⟩
      have hva : Hid ((v.natAbs : Int) = v) := by show _ = _; omega
      have HZ : Hid (z = if ng then - val (digs v.natAbs) else val (digs v.natAbs)) := by show _ = _; rw [val_digs]; exact hz
      have HZ2 : Hid (z = if negB (sb s) then - numOf (digsOf (sb s)) else numOf (digsOf (sb s))) := by show _ = _; rw [hvz.out, ← hsp.out.2, hz, hva.out]
      have HR : Hid (InR (digs v.natAbs)) := digs_inR _
      clear hz hb
      go_upto_region 14 with fail
      obtain ⟨Wc, hWc⟩ : ∃ Wc, Wc = wr.setCell ⟨w.heap.size + 1, 0, none⟩ (.bool ng) := ⟨_, rfl⟩
      rw [← hWc]
      have KN : Wc.heap[w.heap.size + 1]? = some (.cells #[.bool ng, .slice A3 n3 c3] 25 (0, 0)) := by rw [hWc]; exact blk_store1 KT.out _
      have KC : Hid (Wc.heap[w.heap.size]? = some (.cells #[.bool false, .slice none 0 0] 25 (0, 0))) := by rw [hWc]; exact block_set KR.out (p := ⟨w.heap.size + 1, 0, none⟩) (by simp) _
      have DC : Hid (Digs Wc (.slice A3 n3 c3) (digs v.natAbs)) := by rw [hWc]; exact (num_dig NT.out).keep ((IntKept.refl wr).setCell (p := ⟨w.heap.size + 1, 0, none⟩) KT.out (by decide) _)
      have BC : Hid (Below w.heap.size w Wc) := by rw [hWc]; exact BW.out.setCell (p := ⟨w.heap.size + 1, 0, none⟩) (Nat.le_succ _) _
      clear hWc r0 r1 rf0 rf1 t0 t1 tf0 tf1 KT KR NT BW
      obtain ⟨s0, s1, _, _⟩ := blk2 KN
      go_wp2_with (go_at_call 39; (with_reducible refine (clean_num Wc ng _ (digs v.natAbs) z DC.out HR.out HZ.out).mono ?_); rintro e w5 ⟨u, rfl, ⟨A9, n9, c9, rfl, hd9⟩, hb⟩; have K5 := block_kept KC.out hb; obtain ⟨r0, r1, rf0, rf1⟩ := blk2 K5; have N5 : Hid (NumIs w5 (.agg #[.bool (decide (z < 0)), .slice A9 n9 c9]) z) := (⟨A9, n9, c9, rfl, hd9⟩ : NumIs w5 (.agg #[.bool (decide (z < 0)), .slice A9 n9 c9]) z); have B5 := Lib.hid (BC.out.trans (hb.mono BC.out.size)); clear hb hd9)
      refine bodyPost_ret (v := .tuple #[.agg #[.bool (decide (z < 0)), .slice A9 n9 c9], .bool true]) (by simp [results, Try.results32, go_sem, r0, r1]) rfl (DPost.yes hgood.out.1 hgood.out.2 ?_ (below_stored B5.out (Nat.le_refl _) _ _))
      rw [← HZ2.out]
      exact num_stored N5.out K5 _ _
end Go.Proofs.Ytjnohdkpkbiclaa
