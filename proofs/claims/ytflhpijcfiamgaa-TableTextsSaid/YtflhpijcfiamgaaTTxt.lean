/-
  Texts put one behind the other with their places, and the law TableTexts: its walk. Conditions: the texts fit memory.
-/
import Derived.Test.YtflhpijcfiamgaaTKnown
import Derived.Test.YtflhpijcfiamgaaTPutSi
import Derived.Test.YtflhpijcfiamgaaTRwsSi
import Derived.Test.YtflhpijcfiamgaaTGetSi
namespace Go.Proofs.Ytflhpijcfiamgaa.Tb
open Go.RowKit

section
variable {κ V : Type} [Ky κ]
theorem has_iff (l : List (κ × V)) (k : κ) (hl : asc l) : hasB l k = true ↔ ∃ v, (k, v) ∈ l := by
  constructor
  · intro h
    obtain ⟨_, v, hv⟩ := has_lt l k h
    exact ⟨v, List.mem_of_getElem? hv⟩
  · rintro ⟨v, hv⟩
    obtain ⟨i, hi, e⟩ := List.mem_iff_getElem.1 hv
    have h1 := pl_iff l k hl i _ (List.getElem?_eq_getElem hi)
    rw [e, Ky.irr] at h1
    have hge : pl l k ≤ i := by
      rcases Nat.lt_or_ge i (pl l k) with h | h
      · exact absurd (h1.2 h) (by decide)
      · exact h
    have heq : pl l k = i := by
      rcases Nat.lt_or_ge (pl l k) i with h | h
      · have h2 := List.pairwise_iff_getElem.1 hl (pl l k) i (by omega) hi h
        rw [e] at h2
        have h3 := (pl_iff l k hl (pl l k) _ (List.getElem?_eq_getElem (by omega))).1 h2
        omega
      · omega
    unfold hasB
    rw [heq, List.getElem?_eq_getElem hi, e]
    simp
end
def tx (ss : List ByteArray) : Nat → List (ByteArray × Int)
  | 0 => []
  | i + 1 => putL (tx ss i) (ss.getD i ByteArray.empty) (i : Int)
theorem tx_asc (ss : List ByteArray) : ∀ i, asc (tx ss i)
  | 0 => List.Pairwise.nil
  | i + 1 => asc_putL _ _ _ (tx_asc ss i)
theorem tx_len (ss : List ByteArray) : ∀ i, (tx ss i).length ≤ i
  | 0 => Nat.le_refl _
  | i + 1 => by
    have h1 := tx_len ss i
    have h2 := (len_putL (tx ss i) (ss.getD i ByteArray.empty) (i : Int)).2
    show (putL (tx ss i) (ss.getD i ByteArray.empty) (i : Int)).length ≤ i + 1
    omega
theorem tx_look (ss : List ByteArray) (k : ByteArray) : ∀ i, (∀ v, look (tx ss i) k = some v → ∃ j, j < i ∧ v = (j : Int) ∧ ss.getD j ByteArray.empty = k) ∧ ((∃ j, j < i ∧ ss.getD j ByteArray.empty = k) → ∃ v, look (tx ss i) k = some v)
  | 0 => ⟨fun v h => by simp [tx, look] at h, fun ⟨j, h, _⟩ => by omega⟩
  | i + 1 => by
    have ih := tx_look ss k i
    have e : look (tx ss (i + 1)) k = if ss.getD i ByteArray.empty = k then some (i : Int) else look (tx ss i) k := look_putL _ _ _ (tx_asc ss i) k
    rw [e]
    by_cases h : ss.getD i ByteArray.empty = k
    · rw [if_pos h]
      exact ⟨fun v hv => ⟨i, by omega, (Option.some.inj hv).symm, h⟩, fun _ => ⟨_, rfl⟩⟩
    · rw [if_neg h]
      refine ⟨fun v hv => ?_, fun ⟨j, hj, hk⟩ => ih.2 ⟨j, ?_, hk⟩⟩
      · obtain ⟨j, hj, h2⟩ := ih.1 v hv
        exact ⟨j, by omega, h2⟩
      · rcases Nat.lt_or_ge j i with h1 | h1
        · exact h1
        · obtain rfl : j = i := by omega
          exact absurd hk h
theorem tx_has (ss : List ByteArray) (i : Nat) (k : ByteArray) : hasB (tx ss i) k = true ↔ ∃ j, j < i ∧ ss.getD j ByteArray.empty = k := by
  rw [has_iff _ _ (tx_asc ss i)]
  constructor
  · rintro ⟨v, hv⟩
    have h := look_mem _ (tx_asc ss i) _ hv
    obtain ⟨j, h1, _, h2⟩ := (tx_look ss k i).1 v h
    exact ⟨j, h1, h2⟩
  · intro h
    obtain ⟨v, hv⟩ := (tx_look ss k i).2 h
    exact ⟨v, look_some _ _ _ hv⟩
theorem tx_get (ss : List ByteArray) (n i : Nat) (r : ByteArray × Int) (h : (tx ss n)[i]? = some r) : ∃ j : Nat, j < n ∧ r.2 = (j : Int) ∧ ss.getD j ByteArray.empty = r.1 :=
  (tx_look ss r.1 n).1 r.2 (look_mem _ (tx_asc ss n) r (List.mem_of_getElem? h))
/-- Is x one of the first k texts? -/
def mtB (ss : List ByteArray) (x : ByteArray) : Nat → Bool
  | 0 => false
  | k + 1 => mtB ss x k || ((ss.getD k ByteArray.empty).toList == x.toList)
theorem mt_iff (ss : List ByteArray) (x : ByteArray) : ∀ k, mtB ss x k = true ↔ ∃ j, j < k ∧ ss.getD j ByteArray.empty = x
  | 0 => ⟨fun h => (by cases h), fun ⟨j, h, _⟩ => by omega⟩
  | k + 1 => by
    unfold mtB
    rw [Bool.or_eq_true, mt_iff ss x k, beqS, decide_eq_true_eq]
    constructor
    · rintro (⟨j, h1, h2⟩ | h)
      · exact ⟨j, by omega, h2⟩
      · exact ⟨k, by omega, h⟩
    · rintro ⟨j, h1, h2⟩
      rcases Nat.lt_or_ge j k with h | h
      · exact .inl ⟨j, h, h2⟩
      · obtain rfl : j = k := by omega
        exact .inr h2

/-- Texts in memory. -/
def StrsIn (w : World) (A : Option Addr) (len n : Nat) (ss : List ByteArray) : Prop :=
  n ≤ len ∧ (0 < n → ∃ b o, A = some ⟨b, o, none⟩ ∧ b < w.heap.size ∧ ∀ i, i < n → w.cell? ⟨b, o + i, none⟩ = some (.string (ss.getD i ByteArray.empty)))
/-- What is kept while the texts are put. -/
def TxI (w : World) (T : List (ByteArray × Int)) (wx : World) : Prop := Below w.heap.size w wx ∧ ∃ sv, Si.TabV w.heap.size wx w.heap.size sv T
theorem TxI.drewN {w wx : World} {T : List (ByteArray × Int)} (h : TxI w T wx) (n : Nat) : TxI w T (wx.drewN n) := ⟨below_drewN h.1 n, h.2⟩
theorem TxI.below {w wx wy : World} {T : List (ByteArray × Int)} (h : TxI w T wx) (hb : Below wx.heap.size wx wy) : TxI w T wy :=
  ⟨h.1.trans (hb.mono h.1.size), let ⟨sv, h2⟩ := h.2; ⟨sv, h2.below hb⟩⟩

theorem TxI.changed {w wx wy : World} {T T2 : List (ByteArray × Int)} {sv : Value} (h : Below w.heap.size w wx) (hT : Si.TabV w.heap.size wx w.heap.size sv T) (hc : Si.Changed w.heap.size wx w.heap.size sv T2 wy) : TxI w T2 wy := by
  obtain ⟨sv', h1, h2, _⟩ := hc
  exact ⟨h.trans (h2.below h.size (fun k hk e => by
    rcases e with e | e
    · omega
    · have := (hT.2.2.lt k e).1; omega)), sv', h1⟩
set_option maxRecDepth 100000 in
set_option maxHeartbeats 4000000 in
theorem law_texts (w : World) (A : Option Addr) (len cap n : Nat) (ss : List ByteArray) (hnl : n = min len 30) (hin : StrsIn w A len n ss) :
    Calls Try.prog 6 #[.slice A len cap] w fun e w' => e = .returned (.bool true) ∧ Below w.heap.size w w' := by
  have HIN := Lib.hid hin
  have hn30 : n ≤ 30 := by omega
  have hnlen : n ≤ len := by omega
  have hstop : n < 30 → n = len := by omega
  have hfst : Hid ((n < len ∧ ¬ n < 30) ∨ ¬ n < len) := by show _ ∨ _; omega
  clear hin hstop hnl
  go_enter Try.func6, Try.ntmps6
  go_wp2
  have h0 : Hid (TxI w (tx ss 0) (w.alloc (.cells #[.slice none 0 0] 67))) :=
    ⟨(Below.refl _ _).alloc (Nat.le_refl _) _, _, Nat.le_refl _, Boxed.new _ _ _, World.ownsRow_nil _ _ _ _⟩
  go_loopg [4] n (fun (gh : Nat) si wx => ∃ i : Nat, gh = n - i ∧ i ≤ n ∧ si = .int .i64 (i : Int) ∧ Hid (TxI w (tx ss i) wx))
  case atStart => exact ⟨0, rfl, Nat.zero_le _, rfl, h0⟩
  case round =>
    clear h0
    obtain ⟨i, rfl, hi, rfl, hinv⟩ := hrel
    by_cases hlt : i < n
    · have t1 : (i : Int) < (len : Int) := by omega
      have t2 : (i : Int) < 30 := by omega
      obtain ⟨b, o, rfl, hbl, hcell⟩ := HIN.out.2 (by omega)
      obtain ⟨x, hx⟩ : ∃ x, x = ss.getD i ByteArray.empty := ⟨_, rfl⟩
      have HC : Hid (∀ W, Below w.heap.size w W → ∀ j, j < n → W.cell? ⟨b, o + j, none⟩ = some (.string (ss.getD j ByteArray.empty))) := fun W hW j hj => (hW.cell (p := ⟨b, o + j, none⟩) hbl).trans (hcell j hj)
      have HX := Lib.hid hx
      clear hcell hx
      go_wp2_with fail
      go_loopg [5, 6] i (fun (gh : Nat) sm sk wy => ∃ k : Nat, gh = i - k ∧ k ≤ i ∧ sm = .bool (mtB ss x k) ∧ sk = .int .i64 (k : Int) ∧ Hid (TxI w (tx ss i) wy))
      case atStart => exact ⟨0, rfl, Nat.zero_le _, rfl, rfl, hinv⟩
      case round =>
        obtain ⟨k, rfl, hk, rfl, rfl, hinv2⟩ := hrel
        by_cases hki : k < i
        · have t3 : (k : Int) < (i : Int) := by omega
          have t4 : (k : Int) < (len : Int) := by omega
          have t5 : (0 : Int) ≤ (k : Int) := by omega
          have t6 : (0 : Int) ≤ (i : Int) := by omega
          have c1 := HC.out wr hinv2.out.1 k (by omega)
          have c2 := HC.out wr hinv2.out.1 i (by omega)
          rw [← HX.out] at c2
          obtain ⟨y, hy⟩ : ∃ y, y = ss.getD k ByteArray.empty := ⟨_, rfl⟩
          rw [← hy] at c1
          have hm : Hid (mtB ss x (k + 1) = (mtB ss x k || (y.toList == x.toList))) := by show _ = _; rw [hy]; rfl
          obtain ⟨m, hmm⟩ : ∃ m, m = mtB ss x k := ⟨_, rfl⟩
          rw [← hmm] at hm ⊢
          clear hy hmm
          cases m
          · obtain ⟨q, hq⟩ : ∃ q, q = (y.toList == x.toList) := ⟨_, rfl⟩
            have hq' : (y.toList == x.toList) = q := hq.symm
            rw [← hq] at hm
            clear hq
            go_wp2_with fail
            go_quiet (fail)
            go_wp2
            go_roundg (i - (k + 1))
            case measure => omega
            case rel => exact ⟨k + 1, rfl, by omega, by rw [hm.out]; rfl, by go_num, hinv2.out.drewN _⟩
          · go_wp2_with fail
            go_quiet (fail)
            go_wp2
            go_roundg (i - (k + 1))
            case measure => omega
            case rel => exact ⟨k + 1, rfl, by omega, by rw [hm.out]; rfl, by go_num, hinv2.out.drewN _⟩
        · obtain rfl : k = i := by omega
          obtain ⟨hb, sv, hT⟩ := hinv2.out
          have c2 := HC.out wr hb k (by omega)
          rw [← HX.out] at c2
          have hmt : Hid (mtB ss x k = hasB (tx ss k) x) := by
            show _ = _
            rw [Bool.eq_iff_iff, mt_iff, tx_has]
          obtain ⟨m, hmm⟩ : ∃ m, m = mtB ss x k := ⟨_, rfl⟩
          rw [← hmm] at hmt ⊢
          have hp := Lib.hid (Si.put_any w.heap.size wr w.heap.size sv (tx ss k) x (k : Int) hT (tx_asc ss k) (by have := tx_len ss k; omega) hb.size)
          have HB := Lib.hid hb
          have HTT := Lib.hid hT
          have htx : Hid (tx ss (k + 1) = putL (tx ss k) x (k : Int)) := by show _ = _; rw [HX.out]; rfl
          clear hmm hT hb
          have hmt' := hmt.out
          rw [← hmt'] at hp
          clear hmt'
          have t3 : ¬ ((k : Int) < (k : Int)) := by omega
          have t4 : (0 : Int) ≤ (k : Int) := by omega
          cases m
          · go_wp2_with (go_at_call 31; refine hp.out.mono ?_; rintro e w2 ⟨rfl, hc⟩)
            have hx2 := Lib.hid (TxI.changed HB.out HTT.out hc)
            clear hc
            go_wp2
            go_roundg (n - (k + 1))
            case measure => omega
            case rel => exact ⟨k + 1, rfl, by omega, by go_num, by rw [htx.out]; exact hx2.out⟩
          · go_wp2_with (go_at_call 31; refine hp.out.mono ?_; rintro e w2 ⟨rfl, hc⟩)
            have hx2 := Lib.hid (TxI.changed HB.out HTT.out hc)
            clear hc
            go_wp2
            go_roundg (n - (k + 1))
            case measure => omega
            case rel => exact ⟨k + 1, rfl, by omega, by go_num, by rw [htx.out]; exact hx2.out⟩
    · obtain rfl : i = n := by omega
      obtain ⟨hb, sv, hT⟩ := hinv.out
      have hTl := tx_len ss i
      have hr := Lib.hid (Si.rows_any wr _ (tx ss i) hT.read (by omega))
      have HB := Lib.hid hb
      have HT := Lib.hid hT
      clear hT hb hinv
      rcases hfst.out with ⟨hA, hA2⟩ | hA
      all_goals
        go_wp2_with (go_at_call 32; refine hr.out.mono ?_; rintro e w2 ⟨v, rfl, ho, hnn, hb2⟩; obtain ⟨g7, c7, rfl⟩ := (Go.Joins.ownsRow_forms ho).resolve_left (fun h => hnn h.1); have HO := Lib.hid ho; have HB2 := Lib.hid hb2; clear ho hnn hb2)
        have Z2 := HB2.out.size
        have HBW : Hid (Below w.heap.size w w2) := HB.out.trans (HB2.out.mono HB.out.size)
        have hg7 := (HO.out.lt g7 rfl).2
        have HTA := Lib.hid (tx_asc ss i)
        have HTG := Lib.hid (fun j r h => tx_get ss i j r h)
        have HTH := Lib.hid (fun k => tx_has ss i k)
        have HTR : Hid (Si.TabR w2 (some ⟨w.heap.size, 0, none⟩) (tx ss i)) := HT.out.read.below HB2.out
        obtain ⟨T, hTn⟩ : ∃ T, T = tx ss i := ⟨_, rfl⟩
        rw [← hTn] at hTl HO HTA HTG HTH HTR ⊢
        clear hTn hr HT HB HB2
        go_loopg [8] T.length (fun (gh : Nat) si wx => ∃ j : Nat, gh = T.length - j ∧ j ≤ T.length ∧ si = .int .i64 (j : Int) ∧ Hid (Below w2.heap.size w2 wx))
        case atStart => exact ⟨0, rfl, Nat.zero_le _, rfl, Below.refl _ _⟩
        case round =>
          obtain ⟨j, rfl, hj, rfl, hinv⟩ := hrel
          by_cases hjl : j < T.length
          · obtain ⟨r, hr⟩ : ∃ r, T[j]? = some r := ⟨_, List.getElem?_eq_getElem hjl⟩
            obtain ⟨q, hq1, hq2, hq3⟩ := HTG.out j r hr
            obtain ⟨b, o, rfl, hbl, hcell⟩ := HIN.out.2 (by omega)
            have hcs := hcell q hq1
            rw [hq3] at hcs
            have cs := (HBW.out.trans (hinv.out.mono (by have := HBW.out.size; omega))).cell (p := ⟨b, o + q, none⟩) hbl |>.trans hcs
            have hcg := Si.cells_get T j r hr
            rw [Si.ev, hq2] at hcg
            have c1 : wr.cell? ⟨g7, j * 2, none⟩ = some (.string r.1) := ((hinv.out.cell (p := ⟨g7, j * 2, none⟩) hg7).trans (HO.out.cellAt (j * 2) (by omega))).trans hcg.1
            have c2 : wr.cell? ⟨g7, j * 2 + 1, none⟩ = some (.int .i64 (q : Int)) := ((hinv.out.cell (p := ⟨g7, j * 2 + 1, none⟩) hg7).trans (HO.out.cellAt (j * 2 + 1) (by omega))).trans hcg.2
            have e1 : (r.1.toList == r.1.toList) = true := by simp
            have e2 : (q : Int) < (len : Int) := by omega
            have e3 : (0 : Int) ≤ (q : Int) := by omega
            have e4 : (j : Int) < (T.length : Int) := by omega
            have e5 : (0 : Int) ≤ (j : Int) := by omega
            have e6 : decide ((q : Int) < 0) = false := decide_eq_false (by omega)
            have e7 : decide ((len : Int) ≤ (q : Int)) = false := decide_eq_false (by omega)
            have e7' : decide (len ≤ q) = false := decide_eq_false (by omega)
            have e8 : (q : Int).toNat = q := by omega
            clear hcell
            rcases Nat.eq_zero_or_pos j with hj0 | hj0
            · have e9 : decide (0 < (j : Int)) = false := decide_eq_false (by omega)
              have e10 : decide (0 < j) = false := decide_eq_false (by omega)
              clear hcs hcg hr hq2 hq3 hj0
              go_wp2_with fail
              go_quiet (fail)
              go_wp2_with fail
              go_roundg (T.length - (j + 1))
              case measure => omega
              case rel => exact ⟨j + 1, rfl, by omega, by go_num, below_drewN hinv.out _⟩
            · obtain ⟨m, rfl⟩ : ∃ m, j = m + 1 := ⟨j - 1, by omega⟩
              obtain ⟨r0, hr0⟩ : ∃ r, T[m]? = some r := ⟨_, List.getElem?_eq_getElem (by omega)⟩
              have hcg0 := Si.cells_get T m r0 hr0
              have c3 : wr.cell? ⟨g7, m * 2, none⟩ = some (.string r0.1) := ((hinv.out.cell (p := ⟨g7, m * 2, none⟩) hg7).trans (HO.out.cellAt (m * 2) (by omega))).trans hcg0.1
              have hls := List.pairwise_iff_getElem.1 HTA.out m (m + 1) (by omega) hjl (by omega)
              rw [List.getElem?_eq_getElem (by omega)] at hr0
              rw [List.getElem?_eq_getElem hjl] at hr
              rw [Option.some.inj hr0, Option.some.inj hr, ltS] at hls
              have e9 : (0 : Int) < ((m : Int) + 1) := by omega
              have e10 : (0 : Int) ≤ (m : Int) := by omega
              have e11 : (m : Int) < (T.length : Int) := by omega
              have e12 : IntKind.i64.wrap (m : Int) = (m : Int) := by rw [IntKind.wrap_i64]; omega
              have e13 : (m : Int) + 1 - 1 = (m : Int) := by omega
              clear hcs hcg hr hq2 hq3 hj0 hr0 hcg0
              go_wp2_with fail
              go_quiet (fail)
              go_wp2_with fail
              go_roundg (T.length - (m + 1 + 1))
              case measure => omega
              case rel => exact ⟨m + 1 + 1, rfl, by omega, by go_num, below_drewN hinv.out _⟩
          · obtain rfl : j = T.length := by omega
            have HI2 := Lib.hid hinv.out
            clear hinv
            go_wp2_with fail
            go_loopg [9] i (fun (gh : Nat) si wx => ∃ j : Nat, gh = i - j ∧ j ≤ i ∧ si = .int .i64 (j : Int) ∧ Hid (Below w2.heap.size w2 wx))
            case atStart => exact ⟨0, rfl, Nat.zero_le _, rfl, HI2.out⟩
            case round =>
              obtain ⟨j, rfl, hj, rfl, hinv⟩ := hrel
              by_cases hjl : j < i
              · obtain ⟨b, o, rfl, hbl, hcell⟩ := HIN.out.2 (by omega)
                have cs := (HBW.out.trans (hinv.out.mono (by have := HBW.out.size; omega))).cell (p := ⟨b, o + j, none⟩) hbl |>.trans (hcell j hjl)
                have hhas := (HTH.out (ss.getD j ByteArray.empty)).2 ⟨j, hjl, rfl⟩
                have hg := Si.get_any wr _ T (ss.getD j ByteArray.empty) (HTR.out.below hinv.out) HTA.out (by omega)
                rw [hhas] at hg
                obtain ⟨x, hx⟩ : ∃ x, x = ss.getD j ByteArray.empty := ⟨_, rfl⟩
                rw [← hx] at cs hg
                have HG := Lib.hid hg
                have t1 : (j : Int) < (len : Int) := by omega
                have t2 : (j : Int) < 30 := by omega
                clear hcell hhas hg hx
                go_wp2_with (go_at_call 33; refine HG.out.mono ?_; rintro e w3 ⟨rfl, hb3⟩)
                have HB3 := Lib.hid hb3
                clear hb3
                go_wp2
                go_roundg (i - (j + 1))
                case measure => omega
                case rel => exact ⟨j + 1, rfl, by omega, by go_num, hinv.out.trans (HB3.out.mono hinv.out.size)⟩
              · obtain rfl : j = i := by omega
                have HI3 := Lib.hid hinv.out
                clear hinv
                go_wp2_with (go_at_call 22; refine (known_any _).mono ?_; rintro e w4 ⟨rfl, hb4⟩)
                have HB4 := Lib.hid hb4
                clear hb4
                go_ret
                have s1 := HBW.out.size
                have s2 := HI3.out.size
                exact ⟨rfl, (HBW.out.trans (HI3.out.mono (by omega))).trans (HB4.out.mono (by omega))⟩
end Go.Proofs.Ytflhpijcfiamgaa.Tb
