/-
  The symmetric merge of two parts of more than one row each: the search, the rotate, the two calls of itself. Conditions: the parts are sorted; shorter merges keep the contract.
-/
import Derived.Test.YtflhpijcfiamgaaTSymbIi
import Derived.Deep.CutRange
namespace Go.Proofs.Ytflhpijcfiamgaa.Tb.Ii
open Go.RowKit Go.Sort

/-- The symmetric merge keeps its contract over at most n rows. -/
def SymOK (w0 : World) (blk off cap N n : Nat) : Prop :=
  ∀ (a m b : Nat) (w : World) (d : Array R) (A L M B : List R), b - a ≤ n → SWK enc 2 w0 blk off d w → d.size = N → d.toList = A ++ (L ++ (M ++ B)) → 0 < L.length → 0 < M.length → a = A.length → m = a + L.length → b = m + M.length → srt L → srt M →
    Calls Try.prog 91 #[.slice (some ⟨blk, off, none⟩) N cap, .int .i64 a, .int .i64 m, .int .i64 b, .func (.func 70) #[] #[]] w (SymP w0 blk off A L M B)

/-- What stands behind the search and the rotate, and behind the first call. -/
def SymR (w0 : World) (blk off N : Nat) (A L1 M1 L2 M2 B : List R) (wx : World) : Prop := ∃ d1 : Array R, d1.toList = A ++ (L1 ++ (M1 ++ (L2 ++ (M2 ++ B)))) ∧ d1.size = N ∧ SWK enc 2 w0 blk off d1 wx
def SymC (w0 : World) (blk off N : Nat) (A L1 M1 L2 M2 B : List R) (wx : World) : Prop := ∃ (d1 : Array R) (C1 : List R), d1.toList = A ++ (C1 ++ (L2 ++ (M2 ++ B))) ∧ Mrg L1 M1 C1 ∧ d1.size = N ∧ SWK enc 2 w0 blk off d1 wx
theorem wrap_nat (k : Nat) (h : k < 4611686018427387904) : IntKind.i64.wrap (k : Int) = (k : Int) := wrap_fits _ (by omega)

set_option maxRecDepth 1000000 in
set_option maxHeartbeats 8000000 in
theorem sym_step (w0 w : World) (blk off cap N n a m b : Nat) (d0 d : Array R) (A L M B : List R) (IH : SymOK w0 blk off cap N n) (S : SWK enc 2 w0 blk off d w) (Rw : RowK enc 2 w0 blk off d0) (hs : N = d0.size) (hN : d.size = N) (hsz : N < 1000000000)
    (hd : d.toList = A ++ (L ++ (M ++ B))) (hL : 1 < L.length) (hM : 1 < M.length) (ha : a = A.length) (hm : m = a + L.length) (hb : b = m + M.length) (hsL : srt L) (hsM : srt M) (hn : b - a ≤ n + 1) :
    Calls Try.prog 91 #[.slice (some ⟨blk, off, none⟩) N cap, .int .i64 a, .int .i64 m, .int .i64 b, .func (.func 70) #[] #[]] w (SymP w0 blk off A L M B) := by
  have hlen := size_of_list hd
  simp only [List.length_append] at hlen
  have hd2 : d.toList = (A ++ L) ++ (M ++ B) := by rw [hd]; simp
  have lAL : (A ++ L).length = m := by rw [List.length_append]; omega
  have sL : SIn d a m := by rw [hm, ha]; exact sin_of hd hsL
  have sM : SIn d m b := by have := sin_of hd2 hsM; rwa [lAL, ← hb] at this
  have am : a < m := by omega
  have mb : m < b := by omega
  have bN : b ≤ N := by omega
  have rng := sym_rng am mb
  have hst := SymS.start d am mb
  have hpt := fun s (h : SymS d a m b s s) => SymS.parts hd ha hm hb am mb hsL hsM h
  obtain ⟨lo, hlo⟩ : ∃ lo, lo = symLo a m b := ⟨_, rfl⟩
  obtain ⟨hi, hhi⟩ : ∃ hi, hi = symHi a m b := ⟨_, rfl⟩
  have glo : if (a + b) / 2 < m then lo = (a + b) / 2 + m - b ∧ hi = (a + b) / 2 else lo = a ∧ hi = m := by
    rw [hlo, hhi]
    unfold symLo symHi
    split <;> exact ⟨rfl, rfl⟩
  rw [← hlo, ← hhi] at rng hst
  obtain ⟨mid, hmid⟩ : ∃ mid, mid = (a + b) / 2 := ⟨_, rfl⟩
  have hup := fun s r c (h : SymS d a m b s r) (h1 : s ≤ c) (h2 : c < r) h3 => SymS.up am mb sL sM h h1 h2 h3
  have hdn := fun s r c (h : SymS d a m b s r) (h1 : s ≤ c) (h2 : c < r) h3 => SymS.down am mb sL sM h h1 h2 h3
  have hbd : ∀ s r, SymS d a m b s r → lo ≤ s ∧ s ≤ r ∧ r ≤ hi := fun s r h => ⟨by rw [hlo]; exact h.1, h.2.1, by rw [hhi]; exact h.2.2.1⟩
  rw [← hmid] at glo rng hpt hup hdn
  obtain ⟨nn, hnn⟩ : ∃ nn, nn = mid + m := ⟨_, rfl⟩
  obtain ⟨pp, hpp⟩ : ∃ pp, pp = nn - 1 := ⟨_, rfl⟩
  have iM : ((a : Int) + (b : Int)) / 2 = (mid : Int) := by omega
  have iN : (mid : Int) + (m : Int) = (nn : Int) := by omega
  have iP : (nn : Int) - 1 = (pp : Int) := by omega
  have wM := wrap_nat mid (by omega)
  have wN := wrap_nat nn (by omega)
  have wP := wrap_nat pp (by omega)
  have e1 : ((m : Int) - (a : Int) == 1) = false := by simp; omega
  have e2 : IntKind.i64.wrap ((m : Int) - (a : Int)) = (m : Int) - (a : Int) := wrap_fits _ (by omega)
  have e3 : ((b : Int) - (m : Int) == 1) = false := by simp; omega
  have e4 : IntKind.i64.wrap ((b : Int) - (m : Int)) = (b : Int) - (m : Int) := wrap_fits _ (by omega)
  have S0 := Lib.hid S
  have HR := Lib.hid Rw
  have HD := Lib.hid hd
  have HS := Lib.hid (show d.size = d0.size ∧ d.size = N by omega)
  have HX := Lib.hid (show a = A.length ∧ m = a + L.length ∧ b = m + M.length ∧ N < 1000000000 ∧ nn = mid + m ∧ pp = nn - 1 ∧ b - a ≤ n + 1 ∧ a < mid by omega)
  have HG := Lib.hid rng
  have HLO := Lib.hid glo
  have HST := Lib.hid hst
  have HPT := Lib.hid hpt
  have HUP := Lib.hid hup
  have HDN := Lib.hid hdn
  have HBD := Lib.hid hbd
  have HI := Lib.hid IH
  have HSL := Lib.hid (And.intro hsL hsM)
  clear S Rw hd hd2 hs lAL sL sM hlen hN ha hm hb hL hM hsL hsM rng hst hpt hup hdn hbd glo hlo hhi hmid hnn hpp IH hn
  go_enter Try.func91, Try.ntmps91
  go_upto_if 140 with (fail)
  go_cut [20, 21] from 140 to 146 (fun s20 s21 wx => s20 = .int .i64 (lo : Int) ∧ s21 = .int .i64 (hi : Int) ∧ wx = w)
  case first =>
    have g := HLO.out
    have g2 := HG.out
    have g3 := HX.out
    by_cases hc : mid < m
    · rw [if_pos hc] at g
      have t : (mid : Int) < (m : Int) := by omega
      have iL : (nn : Int) - (b : Int) = (lo : Int) := by omega
      have wL := wrap_nat lo (by omega)
      have HH := Lib.hid g.2
      clear g g2 g3 hc
      go_wp2
      go_meet
      case rel => exact ⟨rfl, by rw [HH.out], rfl⟩
    · rw [if_neg hc] at g
      have t : ¬ (mid : Int) < (m : Int) := by omega
      have HH := Lib.hid g
      clear g g2 g3 hc
      go_wp2
      go_meet
      case rel => exact ⟨by rw [HH.out.1], by rw [HH.out.2], rfl⟩
  case rest =>
    obtain ⟨rfl, rfl, rfl⟩ := hcut
    clear e1 e2 e3 e4 iM iN wM wN HLO
    go_wp2
    clear iP wP
    go_loopg [20, 21] (hi - lo) (fun (gh : Nat) s20 s21 wx => ∃ s r : Nat, gh = r - s ∧ s20 = .int .i64 (s : Int) ∧ s21 = .int .i64 (r : Int) ∧ Hid (SymS d a m b s r) ∧ Hid (SWK enc 2 w0 blk off d wx))
    case atStart => exact ⟨lo, hi, rfl, rfl, rfl, HST, S0⟩
    case round =>
      clear S0 HST
      obtain ⟨s, r, rfl, rfl, rfl, HY, S1⟩ := hrel
      obtain ⟨k1, k2, k3⟩ := HBD.out s r HY.out
      obtain ⟨g1, g2, g3, g4, g5, g6, g7⟩ := HG.out
      obtain ⟨x1, x2, x3, x4, x5, x6, x7⟩ := HX.out
      have x8 := HS.out
      by_cases hlt : s < r
      · obtain ⟨c, hc⟩ : ∃ c, c = (s + r) / 2 := ⟨_, rfl⟩
        obtain ⟨q, hq⟩ : ∃ q, q = mid + m - 1 - c := ⟨_, rfl⟩
        obtain ⟨y, hy⟩ : ∃ y, d[q]! = y := ⟨_, rfl⟩
        obtain ⟨x, hx⟩ : ∃ x, d[c]! = x := ⟨_, rfl⟩
        have qN : q < N := by omega
        have cN : c < N := by omega
        have fr1 := row_facts S1.out HR.out x8.1 q (by omega) y hy
        have fr2 := row_facts S1.out HR.out x8.1 c (by omega) x hx
        have c1 : ∀ n os, (grow (wr.drewN n) os).cell? ⟨blk, off + q * 2, none⟩ = some (Value.int .i64 y.1) := fun n os => (fr1 n os).1
        have c2 : ∀ n os, (grow (wr.drewN n) os).cell? ⟨blk, off + q * 2 + 1, none⟩ = some (Value.int .i64 y.2) := fun n os => (fr1 n os).2
        have c3 : ∀ n os, (grow (wr.drewN n) os).cell? ⟨blk, off + c * 2, none⟩ = some (Value.int .i64 x.1) := fun n os => (fr2 n os).1
        have c4 : ∀ n os, (grow (wr.drewN n) os).cell? ⟨blk, off + c * 2 + 1, none⟩ = some (Value.int .i64 x.2) := fun n os => (fr2 n os).2
        have hcall := fun W => cmpc_any y x W
        have hneg := cmpK_neg y.1 x.1
        obtain ⟨z, hz⟩ : ∃ z, z = cmpK y.1 x.1 := ⟨_, rfl⟩
        rw [← hz] at hcall hneg
        have hu := HUP.out s r c HY.out (by omega) (by omega)
        have hd' := HDN.out s r c HY.out (by omega) (by omega)
        rw [← hq, hx, hy] at hu hd'
        have HC := Lib.hid hcall
        have HNG := Lib.hid hneg
        have HU := Lib.hid hu
        have HW := Lib.hid hd'
        have mixed : Try.prog.follows .mixedOrders = true := by kernel_rfl
        have iC : ((s : Int) + (r : Int)) / 2 = (c : Int) := by omega
        have iQ : (pp : Int) - (c : Int) = (q : Int) := by omega
        have wQ := wrap_nat q (by omega)
        have wC := wrap_nat c (by omega)
        have q1 : (q : Int) < (N : Int) := by omega
        have q2 : (c : Int) < (N : Int) := by omega
        have q3 : (s : Int) < (r : Int) := by omega
        have q4 : (r : Int) < 1000000000 := by omega
        have HM1 := Lib.hid (show r - (c + 1) < r - s ∧ c - s < r - s by omega)
        clear fr1 fr2 hcall hneg hz hu hd' hy hx hq hc k1 k2 k3 g1 g2 g3 g4 g5 g6 g7 x1 x2 x3 x4 x5 x6 x7 x8 qN cN hlt
        by_cases hx : z < 0
        · have hx2 : ¬ 0 ≤ z := by omega
          go_wp2_with fail
          go_quiet_grown (first | (go_at_call 70; refine Calls.grown_of (HC.out _)))
          have S2 := Lib.hid (S1.out.grown nq osq)
          go_wp2
          go_roundg (c - s)
          case measure => exact HM1.out.2
          case rel => exact ⟨s, c, rfl, rfl, rfl, HW.out (HNG.out.1 hx), S2⟩
        · have hx2 : 0 ≤ z := by omega
          have hx3 : decide (z < 0) = false := by simp; omega
          have HF : Hid (Ky.lt y.1 x.1 = false) := by
            show _ = _
            cases f : Ky.lt y.1 x.1
            · rfl
            · exact absurd (HNG.out.2 f) hx
          go_wp2_with fail
          go_quiet_grown (first | (go_at_call 70; refine Calls.grown_of (HC.out _)))
          have S2 := Lib.hid (S1.out.grown nq osq)
          go_wp2
          go_roundg (r - (c + 1))
          case measure => exact HM1.out.1
          case rel => exact ⟨c + 1, r, rfl, by go_num, rfl, HU.out HF.out, S2⟩
      · obtain rfl : s = r := by omega
        obtain ⟨en, hen⟩ : ∃ en, en = nn - s := ⟨_, rfl⟩
        have hpt := HPT.out s HY.out
        rw [show mid + m - s - m = en - m by omega] at hpt
        obtain ⟨L1, hL1⟩ : ∃ L1, L1 = L.take (s - a) := ⟨_, rfl⟩
        obtain ⟨L2, hL2⟩ : ∃ L2, L2 = L.drop (s - a) := ⟨_, rfl⟩
        obtain ⟨M1, hM1⟩ : ∃ M1, M1 = M.take (en - m) := ⟨_, rfl⟩
        obtain ⟨M2, hM2⟩ : ∃ M2, M2 = M.drop (en - m) := ⟨_, rfl⟩
        rw [← hL1, ← hL2, ← hM1, ← hM2] at hpt
        have HLL : Hid (L = L1 ++ L2) := by show _ = _; rw [hL1, hL2, List.take_append_drop]
        have HMM : Hid (M = M1 ++ M2) := by show _ = _; rw [hM1, hM2, List.take_append_drop]
        have l1 : L1.length = s - a := by rw [hL1, List.length_take]; omega
        have l2 : L2.length = m - s := by rw [hL2, List.length_drop]; omega
        have l3 : M1.length = en - m := by rw [hM1, List.length_take]; omega
        have l4 : M2.length = b - en := by rw [hM2, List.length_drop]; omega
        have HP := Lib.hid hpt
        have HN := Lib.hid (show a ≤ s ∧ s ≤ m ∧ s ≤ mid ∧ mid ≤ en ∧ m ≤ en ∧ en ≤ b ∧ en = mid + m - s ∧ L1.length = s - a ∧ L2.length = m - s ∧ M1.length = en - m ∧ M2.length = b - en ∧ a = A.length ∧ mid < b ∧ a ≤ mid ∧ b ≤ N by have := size_of_list HD.out; simp only [List.length_append] at this; omega)
        have t0 : decide ((s : Int) < (s : Int)) = false := by simp
        have iE : (nn : Int) - (s : Int) = (en : Int) := by omega
        have wE := wrap_nat en (by have := HN.out; omega)
        clear hpt hL1 hL2 hM1 hM2 l1 l2 l3 l4 hen k1 k2 k3 g1 g2 g3 g4 g5 g6 g7 x1 x2 x3 x4 x5 x6 x7 x8 hlt HPT HUP HDN HBD HG HY
        go_upto_region 39 with fail
        go_cut [185] from 178 to 185 (fun sv wx => sv = .bool (decide (s < m ∧ m < en)) ∧ wr = wx)
        case first =>
          by_cases h1 : s < m
          · have i1 : (s : Int) < (m : Int) := by omega
            by_cases h2 : m < en
            · have i2 : (m : Int) < (en : Int) := by omega
              have hb : Hid (decide (s < m ∧ m < en) = true) := decide_eq_true ⟨h1, h2⟩
              clear h1 h2
              go_wp2
              go_meet
              case rel => exact ⟨by rw [hb.out], rfl⟩
            · have i2 : ¬ (m : Int) < (en : Int) := by omega
              have hb : Hid (decide (s < m ∧ m < en) = false) := decide_eq_false fun h => h2 h.2
              clear h1 h2
              go_wp2
              go_meet
              case rel => exact ⟨by rw [hb.out], rfl⟩
          · have i1 : ¬ (s : Int) < (m : Int) := by omega
            have hb : Hid (decide (s < m ∧ m < en) = false) := decide_eq_false fun h => h1 h.1
            clear h1
            go_wp2
            go_meet
            case rel => exact ⟨by rw [hb.out], rfl⟩
        case rest =>
        obtain ⟨rfl, rfl⟩ := hcut
        obtain ⟨bb, hbb⟩ : ∃ bb, bb = decide (s < m ∧ m < en) := ⟨_, rfl⟩
        rw [← hbb]
        have HBB := Lib.hid hbb
        clear hbb
        go_upto_if 185 with (fail)
        go_cut [] from 186 to 191 (fun wx => Hid (SymR w0 blk off N A L1 M1 L2 M2 B wx))
        case first =>
          have hx := HN.out
          have x8 := HS.out
          cases bb
          · have hno := of_decide_eq_false HBB.out.symm
            have hrel : Hid (SymR w0 blk off N A L1 M1 L2 M2 B wr) := by
              refine ⟨d, ?_, x8.2, S1.out⟩
              rw [HD.out, HLL.out, HMM.out]
              by_cases h2 : s < m
              · have : M1 = [] := List.length_eq_zero_iff.1 (by omega)
                rw [this]; simp only [List.append_assoc, List.nil_append]
              · have : L2 = [] := List.length_eq_zero_iff.1 (by omega)
                rw [this]; simp only [List.append_assoc, List.nil_append, List.append_nil]
            clear hno hx x8
            go_wp2
            go_meet
            case rel => exact hrel
          · have hyes := of_decide_eq_true HBB.out.symm
            have HC := Lib.hid (rotate_any w0 wr blk off cap N s m en (.func (.func 70) #[] #[]) d0 d (A ++ L1) L2 M1 (M2 ++ B) S1.out HR.out x8.1 x8.2 (by omega) (by rw [HD.out, HLL.out, HMM.out]; simp only [List.append_assoc]) (by omega) (by omega) (by rw [List.length_append]; omega) (by rw [List.length_append]; omega) (by rw [List.length_append]; omega))
            clear hyes hx
            go_wp2_with (go_at_call 95; refine HC.out.mono ?_; rintro e w2 ⟨rfl, d2, hd2, hs2⟩)
            have hrel : Hid (SymR w0 blk off N A L1 M1 L2 M2 B w2) := by
              refine ⟨d2, by rw [hd2]; simp only [List.append_assoc], ?_, hs2⟩
              have e1 := size_of_list hd2
              have e2 := size_of_list HD.out
              have e3 := HLL.out
              have e4 := HMM.out
              rw [e3, e4] at e2
              simp only [List.length_append] at e1 e2
              omega
            clear hd2 hs2 x8
            go_wp2
            go_meet
            case rel => exact hrel
        case rest =>
        clear S1 HBB
        obtain ⟨d1, hd1, hdN, hS1⟩ := hcut.out
        have S1 := Lib.hid hS1
        have HD1 := Lib.hid hd1
        have HDN := Lib.hid hdN
        clear hcut hS1 hd1 hdN
        obtain ⟨W1, rfl⟩ : ∃ W1, W1 = wc := ⟨_, rfl⟩
        have HSR : Hid ((srt L1 ∧ srt L2) ∧ srt M1 ∧ srt M2) := by
          have h1 := HSL.out.1
          have h2 := HSL.out.2
          rw [HLL.out] at h1
          rw [HMM.out] at h2
          have h1 := List.pairwise_append.1 h1
          have h2 := List.pairwise_append.1 h2
          exact ⟨⟨h1.1, h1.2.1⟩, h2.1, h2.2.1⟩
        go_upto_region 41 with fail
        go_cut [199] from 192 to 199 (fun sv wx => sv = .bool (decide (a < s ∧ s < mid)) ∧ W1 = wx)
        case first =>
          by_cases h1 : a < s
          · have i1 : (a : Int) < (s : Int) := by omega
            by_cases h2 : s < mid
            · have i2 : (s : Int) < (mid : Int) := by omega
              have hb : Hid (decide (a < s ∧ s < mid) = true) := decide_eq_true ⟨h1, h2⟩
              clear h1 h2
              go_wp2
              go_meet
              case rel => exact ⟨by rw [hb.out], rfl⟩
            · have i2 : ¬ (s : Int) < (mid : Int) := by omega
              have hb : Hid (decide (a < s ∧ s < mid) = false) := decide_eq_false fun h => h2 h.2
              clear h1 h2
              go_wp2
              go_meet
              case rel => exact ⟨by rw [hb.out], rfl⟩
          · have i1 : ¬ (a : Int) < (s : Int) := by omega
            have hb : Hid (decide (a < s ∧ s < mid) = false) := decide_eq_false fun h => h1 h.1
            clear h1
            go_wp2
            go_meet
            case rel => exact ⟨by rw [hb.out], rfl⟩
        case rest =>
        obtain ⟨rfl, rfl⟩ := hcut
        obtain ⟨bb, hbb⟩ : ∃ bb, bb = decide (a < s ∧ s < mid) := ⟨_, rfl⟩
        rw [← hbb]
        have HBB := Lib.hid hbb
        clear hbb
        go_upto_if 199 with (fail)
        go_cut [] from 200 to 205 (fun wx => Hid (SymC w0 blk off N A L1 M1 L2 M2 B wx))
        case first =>
          have hx := HN.out
          have hx7 := HX.out.2.2.2.2.2.2
          have hsr := HSR.out
          cases bb
          · have hno := of_decide_eq_false HBB.out.symm
            have hrel : Hid (SymC w0 blk off N A L1 M1 L2 M2 B W1) := by
              by_cases h2 : a < s
              · have : M1 = [] := List.length_eq_zero_iff.1 (by omega)
                subst this
                exact ⟨d1, L1, by rw [HD1.out]; simp only [List.nil_append], Mrg.left hsr.1.1, HDN.out, S1.out⟩
              · have : L1 = [] := List.length_eq_zero_iff.1 (by omega)
                subst this
                exact ⟨d1, M1, by rw [HD1.out]; simp only [List.nil_append], Mrg.right hsr.2.1, HDN.out, S1.out⟩
            clear hno hx hx7 hsr
            go_wp2
            go_meet
            case rel => exact hrel
          · have hyes := of_decide_eq_true HBB.out.symm
            have HC := Lib.hid (HI.out a s mid W1 d1 A L1 M1 (L2 ++ (M2 ++ B)) (by omega) S1.out HDN.out HD1.out (by omega) (by omega) (by omega) (by omega) (by omega) hsr.1.1 hsr.2.1)
            clear hyes hx hx7 hsr
            go_wp2_with (go_at_call 91; refine HC.out.mono ?_; rintro e w2 ⟨rfl, d2, C1, hd2, hm2, hs2⟩)
            have hrel : Hid (SymC w0 blk off N A L1 M1 L2 M2 B w2) := by
              refine ⟨d2, C1, hd2, hm2, ?_, hs2⟩
              have e1 := size_of_list hd2
              have e2 := size_of_list HD1.out
              have e3 := hm2.1
              have e4 := HDN.out
              simp only [List.length_append] at e1 e2
              omega
            clear hd2 hs2 hm2
            go_wp2
            go_meet
            case rel => exact hrel
        case rest =>
        clear S1 HBB HDN HD1
        obtain ⟨W2, rfl⟩ : ∃ W2, W2 = wc := ⟨_, rfl⟩
        obtain ⟨d3, C1, hd3, hC1, hdN3, hS3⟩ := hcut.out
        have S3 := Lib.hid hS3
        have HD3 := Lib.hid hd3
        have HDN := Lib.hid hdN3
        have HC1 := Lib.hid hC1
        clear hcut hS3 hd3 hdN3 hC1
        have HE : Hid (∀ (d' : Array R) (C2 : List R) (W : World), d'.toList = A ++ (C1 ++ (C2 ++ B)) → Mrg L2 M2 C2 → SWK enc 2 w0 blk off d' W → SymP w0 blk off A L M B (.returned (.tuple #[])) W) := by
          intro d' C2 W h1 h2 h3
          refine ⟨rfl, d', C1 ++ C2, by rw [h1]; simp only [List.append_assoc], ?_, h3⟩
          have k1 := HSL.out.1
          have k2 := HSL.out.2
          have k3 := HP.out
          rw [HLL.out] at k1 ⊢
          rw [HMM.out] at k2 ⊢
          exact Mrg.split k1 k2 k3.1 k3.2 HC1.out h2
        go_upto_region 43 with fail
        go_cut [213] from 206 to 213 (fun sv wx => sv = .bool (decide (mid < en ∧ en < b)) ∧ W2 = wx)
        case first =>
          by_cases h1 : mid < en
          · have i1 : (mid : Int) < (en : Int) := by omega
            by_cases h2 : en < b
            · have i2 : (en : Int) < (b : Int) := by omega
              have hb : Hid (decide (mid < en ∧ en < b) = true) := decide_eq_true ⟨h1, h2⟩
              clear h1 h2
              go_wp2
              go_meet
              case rel => exact ⟨by rw [hb.out], rfl⟩
            · have i2 : ¬ (en : Int) < (b : Int) := by omega
              have hb : Hid (decide (mid < en ∧ en < b) = false) := decide_eq_false fun h => h2 h.2
              clear h1 h2
              go_wp2
              go_meet
              case rel => exact ⟨by rw [hb.out], rfl⟩
          · have i1 : ¬ (mid : Int) < (en : Int) := by omega
            have hb : Hid (decide (mid < en ∧ en < b) = false) := decide_eq_false fun h => h1 h.1
            clear h1
            go_wp2
            go_meet
            case rel => exact ⟨by rw [hb.out], rfl⟩
        case rest =>
        obtain ⟨rfl, rfl⟩ := hcut
        obtain ⟨bb, hbb⟩ : ∃ bb, bb = decide (mid < en ∧ en < b) := ⟨_, rfl⟩
        rw [← hbb]
        have HBB := Lib.hid hbb
        clear hbb
        have hx := HN.out
        have hx7 := HX.out.2.2.2.2.2.2
        have hsr := HSR.out
        cases bb
        · have hno := of_decide_eq_false HBB.out.symm
          have hrel : Hid (SymP w0 blk off A L M B (.returned (.tuple #[])) W2) := by
            by_cases h2 : mid < en
            · have : M2 = [] := List.length_eq_zero_iff.1 (by omega)
              subst this
              exact HE.out d3 L2 _ (by rw [HD3.out]; simp only [List.nil_append]) (Mrg.left hsr.1.2) S3.out
            · have : L2 = [] := List.length_eq_zero_iff.1 (by omega)
              subst this
              exact HE.out d3 M2 _ (by rw [HD3.out]; simp only [List.nil_append]) (Mrg.right hsr.2.2) S3.out
          clear hno hx hx7 hsr
          go_wp2
          go_end0
          exact hrel.out
        · have hyes := of_decide_eq_true HBB.out.symm
          have hcl := HC1.out.1
          have HC := Lib.hid (HI.out mid en b W2 d3 (A ++ C1) L2 M2 B (by omega) S3.out HDN.out (by rw [HD3.out]; simp only [List.append_assoc]) (by omega) (by omega) (by rw [List.length_append]; omega) (by omega) (by omega) hsr.1.2 hsr.2.2)
          clear hyes hx hx7 hsr hcl
          go_wp2_with (go_at_call 91; refine HC.out.mono ?_; rintro e w2 ⟨rfl, d4, C2, hd4, hm4, hs4⟩)
          have hrel : Hid (SymP w0 blk off A L M B (.returned (.tuple #[])) w2) := HE.out d4 C2 w2 (by rw [hd4]; simp only [List.append_assoc]) hm4 hs4
          clear hd4 hs4 hm4
          go_end0
          exact hrel.out
end Go.Proofs.Ytflhpijcfiamgaa.Tb.Ii
