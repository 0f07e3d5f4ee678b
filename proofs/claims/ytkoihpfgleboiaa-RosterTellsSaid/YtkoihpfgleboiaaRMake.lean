/-
  The contract of roster's New, whatever it is handed. Conditions: none.
-/
import Derived.Test.YtkoihpfgleboiaaRNew
namespace Go.Proofs.Ytkoihpfgleboiaa.Ro
open Go.RowKit Tb

/-- Texts in memory. -/
def SRd (w : World) (A : Option Addr) (ss : List ByteArray) : Prop := ss = [] ∨ ∃ g o, A = some ⟨g, o, none⟩ ∧ g < w.heap.size ∧ ∀ i s, ss[i]? = some s → w.cell? ⟨g, o + i, none⟩ = some (.string s)
/-- Members in memory. -/
def MRd (w : World) (A : Option Addr) (ms : List (ByteArray × Int)) : Prop := ms = [] ∨ ∃ g o, A = some ⟨g, o, none⟩ ∧ g < w.heap.size ∧ ∀ i m, ms[i]? = some m → w.cell? ⟨g, o + i * 2, none⟩ = some (.string m.1) ∧ w.cell? ⟨g, o + i * 2 + 1, none⟩ = some (.int .i64 m.2)
theorem SRd.below {w w' : World} {A : Option Addr} {ss : List ByteArray} (h : SRd w A ss) (hb : Below w.heap.size w w') : SRd w' A ss :=
  h.imp id fun ⟨g, o, e, hg, hc⟩ => ⟨g, o, e, Nat.lt_of_lt_of_le hg hb.size, fun i s hi => (hb.cell (p := ⟨g, o + i, none⟩) hg).trans (hc i s hi)⟩
theorem MRd.below {w w' : World} {A : Option Addr} {ms : List (ByteArray × Int)} (h : MRd w A ms) (hb : Below w.heap.size w w') : MRd w' A ms :=
  h.imp id fun ⟨g, o, e, hg, hc⟩ => ⟨g, o, e, Nat.lt_of_lt_of_le hg hb.size, fun i m hi => ⟨(hb.cell (p := ⟨g, o + i * 2, none⟩) hg).trans (hc i m hi).1, (hb.cell (p := ⟨g, o + i * 2 + 1, none⟩) hg).trans (hc i m hi).2⟩⟩

/-- The instruments' table, the members' table. -/
def isL (ss : List ByteArray) : List (ByteArray × Unit) := putAll (ss.map fun s => (s, ()))
def meL (ms : List (ByteArray × Int)) : List (ByteArray × Int) := putAll ms
theorem isL_asc (ss : List ByteArray) : asc (isL ss) := asc_putAll _
theorem meL_asc (ms : List (ByteArray × Int)) : asc (meL ms) := asc_putAll _
theorem isL_len (ss : List ByteArray) : (isL ss).length ≤ ss.length := by have := len_putAll (ss.map fun s => (s, ())); rw [List.length_map] at this; exact this
theorem meL_len (ms : List (ByteArray × Int)) : (meL ms).length ≤ ms.length := len_putAll ms
theorem isL_step {ss : List ByteArray} {i : Nat} {s : ByteArray} (h : ss[i]? = some s) : isL (ss.take (i + 1)) = putL (isL (ss.take i)) s () := by
  have hl := (List.getElem?_eq_some_iff.1 h).1
  have he := (List.getElem?_eq_some_iff.1 h).2
  unfold isL
  rw [List.take_succ_eq_append_getElem hl, List.map_append, he]
  exact putAll_snoc _ _
theorem meL_step {ms : List (ByteArray × Int)} {i : Nat} {m : ByteArray × Int} (h : ms[i]? = some m) : meL (ms.take (i + 1)) = putL (meL (ms.take i)) m.1 m.2 := by
  have hl := (List.getElem?_eq_some_iff.1 h).1
  have he := (List.getElem?_eq_some_iff.1 h).2
  unfold meL
  rw [List.take_succ_eq_append_getElem hl, he]
  exact putAll_snoc _ _
/-- The first mistake of the instruments, of the members. -/
def goI (T : List (ByteArray × Unit)) : List ByteArray → Int
  | [] => 0
  | s :: r => if listE T s = 0 then goI (putL T s ()) r else listE T s
def goM (n : Int) (T : List (ByteArray × Int)) : List (ByteArray × Int) → Int
  | [] => 0
  | m :: r => if admitE n T m = 0 then goM n (putL T m.1 m.2) r else admitE n T m
theorem goI_step {ss : List ByteArray} {i : Nat} {s : ByteArray} (T : List (ByteArray × Unit)) (h : ss[i]? = some s) : goI T (ss.drop i) = if listE T s = 0 then goI (putL T s ()) (ss.drop (i + 1)) else listE T s := by
  have hl := (List.getElem?_eq_some_iff.1 h).1
  have he := (List.getElem?_eq_some_iff.1 h).2
  rw [List.drop_eq_getElem_cons hl, he]; rfl
theorem goM_step {ms : List (ByteArray × Int)} {i : Nat} {m : ByteArray × Int} (n : Int) (T : List (ByteArray × Int)) (h : ms[i]? = some m) : goM n T (ms.drop i) = if admitE n T m = 0 then goM n (putL T m.1 m.2) (ms.drop (i + 1)) else admitE n T m := by
  have hl := (List.getElem?_eq_some_iff.1 h).1
  have he := (List.getElem?_eq_some_iff.1 h).2
  rw [List.drop_eq_getElem_cons hl, he]; rfl
/-- What New tells. -/
def newE (n : Int) (ss : List ByteArray) (ms : List (ByteArray × Int)) : Int :=
  if n < 1 ∨ 3 < n then 1 else if 32 < ss.length ∨ 64 < ms.length then 2 else if goI [] ss = 0 then goM n [] ms else goI [] ss
def NewP (w : World) (n : Int) (ss : List ByteArray) (ms : List (ByteArray × Int)) (r : Int) (e : Ending) (w' : World) : Prop :=
  Below w.heap.size w w' ∧ ((r = 0 ∧ ∃ b, e = .returned (.tuple #[.pointer (some ⟨b, 0, none⟩), .int .i64 0]) ∧ RosS w' b n (isL ss) (meL ms)) ∨ (r ≠ 0 ∧ e = .returned (.tuple #[.pointer none, .int .i64 r])))

theorem RosO.start (w : World) (n : Int) : RosO w.heap.size (w.alloc (.cells #[.int .i64 n, .slice none 0 0, .slice none 0 0] 77)) w.heap.size n [] [] :=
  ⟨_, _, ⟨Nat.le_refl _, block_new w _, World.ownsRow_nil _ _ _ _⟩, ⟨Nat.le_refl _, block_new w _, World.ownsRow_nil _ _ _ _⟩⟩

set_option maxRecDepth 100000 in
set_option maxHeartbeats 4000000 in
theorem new_any (w : World) (n : Int) (A : Option Addr) (c1 : Nat) (ss : List ByteArray) (B : Option Addr) (c2 : Nat) (ms : List (ByteArray × Int)) (hs : SRd w A ss) (hm : MRd w B ms) :
    Calls Try.prog 29 #[.int .i64 n, .slice A ss.length c1, .slice B ms.length c2] w (NewP w n ss ms (newE n ss ms)) := by
  obtain ⟨r, hr⟩ : ∃ r, r = newE n ss ms := ⟨_, rfl⟩
  rw [← hr]
  by_cases h1 : n < 1
  · have h1r : r = 1 := by rw [hr]; unfold newE; rw [if_pos (.inl h1)]
    clear hr hs hm
    subst h1r
    go_enter Try.func29, Try.ntmps29
    go_wp2
    go_ret2
    exact ⟨Below.refl _ _, .inr ⟨by decide, rfl⟩⟩
  by_cases h2 : 3 < n
  · have h1r : r = 1 := by rw [hr]; unfold newE; rw [if_pos (.inr h2)]
    clear hr hs hm
    subst h1r
    go_enter Try.func29, Try.ntmps29
    go_wp2
    go_ret2
    exact ⟨Below.refl _ _, .inr ⟨by decide, rfl⟩⟩
  have h12 : ¬ (n < 1 ∨ 3 < n) := by omega
  by_cases h3 : 32 < ss.length
  · have h1r : r = 2 := by rw [hr]; unfold newE; rw [if_neg h12, if_pos (.inl h3)]
    clear hr hs hm h12
    subst h1r
    have h3' : (32 : Int) < (ss.length : Int) := by omega
    go_enter Try.func29, Try.ntmps29
    go_wp2
    go_ret2
    exact ⟨Below.refl _ _, .inr ⟨by decide, rfl⟩⟩
  by_cases h4 : 64 < ms.length
  · have h1r : r = 2 := by rw [hr]; unfold newE; rw [if_neg h12, if_pos (.inr h4)]
    clear hr hs hm h12
    subst h1r
    have h3' : ¬ (32 : Int) < (ss.length : Int) := by omega
    have h4' : (64 : Int) < (ms.length : Int) := by omega
    go_enter Try.func29, Try.ntmps29
    go_wp2
    go_ret2
    exact ⟨Below.refl _ _, .inr ⟨by decide, rfl⟩⟩
  have hr2 : r = if goI [] ss = 0 then goM n [] ms else goI [] ss := by rw [hr]; unfold newE; rw [if_neg h12, if_neg (by omega)]
  have HR := Lib.hid hr2
  have HS := Lib.hid hs
  have HM := Lib.hid hm
  have l3 : ss.length ≤ 32 := by omega
  have l4 : ms.length ≤ 64 := by omega
  have h3' : ¬ (32 : Int) < (ss.length : Int) := by omega
  have h4' : ¬ (64 : Int) < (ms.length : Int) := by omega
  have O0 : Hid (RosO w.heap.size (w.alloc (.cells #[.int .i64 n, .slice none 0 0, .slice none 0 0] 77)) w.heap.size n [] []) := RosO.start w n
  have B0 : Hid (Below w.heap.size w (w.alloc (.cells #[.int .i64 n, .slice none 0 0, .slice none 0 0] 77))) := (Below.refl _ _).alloc (Nat.le_refl _) _
  clear hr hr2 hs hm h12 h3 h4
  go_enter Try.func29, Try.ntmps29
  go_wp2
  go_loopg [34] ss.length (fun (gh : Nat) si wx => ∃ i : Nat, gh = ss.length - i ∧ i ≤ ss.length ∧ si = .int .i64 (i : Int) ∧ Hid (RosO w.heap.size wx w.heap.size n (isL (ss.take i)) [] ∧ Below w.heap.size w wx ∧ goI (isL (ss.take i)) (ss.drop i) = goI [] ss))
  case atStart => exact ⟨0, rfl, Nat.zero_le _, rfl, O0.out, B0.out, rfl⟩
  case round =>
    clear O0 B0
    obtain ⟨i, rfl, hi, rfl, hinv⟩ := hrel
    by_cases hlt : i < ss.length
    · obtain ⟨s, hs⟩ : ∃ s, ss[i]? = some s := ⟨_, List.getElem?_eq_getElem hlt⟩
      rcases HS.out with h0 | ⟨g, o, rfl, hg, hcell⟩
      · rw [h0] at hs; simp at hs
      have c1 := (hinv.out.2.1.cell (p := ⟨g, o + i, none⟩) hg).trans (hcell i s hs)
      have HL := Lib.hid (list_any w.heap.size wr w.heap.size n (isL (ss.take i)) [] s hinv.out.1 (isL_asc _) (by have := isL_len (ss.take i); rw [List.length_take] at this; omega) hinv.out.2.1.size)
      have hst := goI_step (isL (ss.take i)) hs
      rw [hinv.out.2.2] at hst
      have hT := isL_step hs
      obtain ⟨q, hq⟩ : ∃ q, q = listE (isL (ss.take i)) s := ⟨_, rfl⟩
      rw [← hq] at HL hst
      have HST := Lib.hid hst
      have HT := Lib.hid hT
      have t1 : (i : Int) < (ss.length : Int) := by omega
      have t2 : (0 : Int) ≤ (i : Int) := by omega
      clear hst hT hq hs hcell
      by_cases hq : q = 0
      · subst hq
        go_wp2_with (go_at_call 39; refine HL.out.mono ?_; rintro e w2 ⟨rfl, hb2, ho2⟩; have HB2 := Lib.hid hb2; have HO2 := Lib.hid (ho2 rfl); clear hb2 ho2)
        go_roundg (ss.length - (i + 1))
        case measure => omega
        case rel => exact ⟨i + 1, rfl, by omega, by go_num, by rw [HT.out]; exact HO2.out, hinv.out.2.1.trans HB2.out, by rw [HT.out, HST.out]; simp⟩
      · have hb : (q != 0) = true := by simpa using hq
        have HQ : Hid (r = q) := by
          show _ = _
          have h1 := HST.out
          rw [if_neg hq] at h1
          rw [HR.out, if_neg (by rw [h1]; exact hq), h1]
        go_wp2_with (go_at_call 39; refine HL.out.mono ?_; rintro e w2 ⟨rfl, hb2, ho2⟩; have HB2 := Lib.hid hb2; clear hb2 ho2)
        go_ret2
        rw [HQ.out]
        exact ⟨hinv.out.2.1.trans HB2.out, .inr ⟨hq, rfl⟩⟩
    · obtain rfl : i = ss.length := by omega
      have hx := hinv.out
      rw [List.take_of_length_le (Nat.le_refl _), List.drop_of_length_le (Nat.le_refl _)] at hx
      have hz : goI [] ss = 0 := hx.2.2.symm
      have HR2 : Hid (r = goM n [] ms) := by show _ = _; rw [HR.out, if_pos hz]
      have O1 := Lib.hid hx.1
      have B1 := Lib.hid hx.2.1
      clear hx hz hinv
      go_wp2
      go_loopg [47] ms.length (fun (gh : Nat) si wx => ∃ i : Nat, gh = ms.length - i ∧ i ≤ ms.length ∧ si = .int .i64 (i : Int) ∧ Hid (RosO w.heap.size wx w.heap.size n (isL ss) (meL (ms.take i)) ∧ Below w.heap.size w wx ∧ goM n (meL (ms.take i)) (ms.drop i) = goM n [] ms))
      case atStart => exact ⟨0, rfl, Nat.zero_le _, rfl, O1.out, B1.out, rfl⟩
      case round =>
        clear O1 B1
        obtain ⟨i, rfl, hi, rfl, hinv⟩ := hrel
        by_cases hlt : i < ms.length
        · obtain ⟨m, hs⟩ : ∃ m, ms[i]? = some m := ⟨_, List.getElem?_eq_getElem hlt⟩
          rcases HM.out with h0 | ⟨g, o, rfl, hg, hcell⟩
          · rw [h0] at hs; simp at hs
          have hcm := hcell i m hs
          have c1 := (hinv.out.2.1.cell (p := ⟨g, o + i * 2, none⟩) hg).trans hcm.1
          have c2 := (hinv.out.2.1.cell (p := ⟨g, o + i * 2 + 1, none⟩) hg).trans hcm.2
          have hBx : Below wr.heap.size wr (wr.alloc (.cells #[.string m.1, .int .i64 m.2] 64)) := (Below.refl _ _).alloc (Nat.le_refl _) _
          have HL := Lib.hid (admit_any w.heap.size (wr.alloc (.cells #[.string m.1, .int .i64 m.2] 64)) w.heap.size n (isL ss) (meL (ms.take i)) m (hinv.out.1.below hBx) (meL_asc _) (by have := meL_len (ms.take i); rw [List.length_take] at this; omega) (by have := hinv.out.2.1.size; have := hBx.size; omega))
          have HBX : Hid (Below w.heap.size w (wr.alloc (.cells #[.string m.1, .int .i64 m.2] 64))) := hinv.out.2.1.trans (hBx.mono hinv.out.2.1.size)
          have hst := goM_step n (meL (ms.take i)) hs
          rw [hinv.out.2.2] at hst
          have hT := meL_step hs
          obtain ⟨q, hq⟩ : ∃ q, q = admitE n (meL (ms.take i)) m := ⟨_, rfl⟩
          rw [← hq] at HL hst
          have HST := Lib.hid hst
          have HT := Lib.hid hT
          have t1 : (i : Int) < (ms.length : Int) := by omega
          have t2 : (0 : Int) ≤ (i : Int) := by omega
          clear hst hT hq hs hcell hcm hBx
          by_cases hq : q = 0
          · subst hq
            go_wp2_with (go_at_call 40; refine HL.out.mono ?_; rintro e w2 ⟨rfl, hb2, ho2⟩; have HB2 := Lib.hid hb2; have HO2 := Lib.hid (ho2 rfl); clear hb2 ho2)
            go_roundg (ms.length - (i + 1))
            case measure => omega
            case rel => exact ⟨i + 1, rfl, by omega, by go_num, by rw [HT.out]; exact HO2.out, HBX.out.trans HB2.out, by rw [HT.out, HST.out]; simp⟩
          · have hb : (q != 0) = true := by simpa using hq
            have HQ : Hid (r = q) := by
              show _ = _
              have h1 := HST.out
              rw [if_neg hq] at h1
              rw [HR2.out, h1]
            go_wp2_with (go_at_call 40; refine HL.out.mono ?_; rintro e w2 ⟨rfl, hb2, ho2⟩; have HB2 := Lib.hid hb2; clear hb2 ho2)
            go_ret2
            rw [HQ.out]
            exact ⟨HBX.out.trans HB2.out, .inr ⟨hq, rfl⟩⟩
        · obtain rfl : i = ms.length := by omega
          have hx := hinv.out
          rw [List.take_of_length_le (Nat.le_refl _), List.drop_of_length_le (Nat.le_refl _)] at hx
          have hz : r = 0 := HR2.out.trans hx.2.2.symm
          have O2 := Lib.hid hx.1
          have B2 := Lib.hid hx.2.1
          clear hx hinv HR HR2
          subst hz
          go_wp2
          go_ret2
          exact ⟨B2.out, .inl ⟨rfl, _, rfl, O2.out.read⟩⟩

theorem new_ok (w : World) (n : Int) (A : Option Addr) (c1 : Nat) (ss : List ByteArray) (B : Option Addr) (c2 : Nat) (ms : List (ByteArray × Int)) (hs : SRd w A ss) (hm : MRd w B ms) (h : newE n ss ms = 0) :
    Calls Try.prog 29 #[.int .i64 n, .slice A ss.length c1, .slice B ms.length c2] w fun e w' => ∃ b, e = .returned (.tuple #[.pointer (some ⟨b, 0, none⟩), .int .i64 0]) ∧ RosS w' b n (isL ss) (meL ms) ∧ Below w.heap.size w w' := by
  refine (new_any w n A c1 ss B c2 ms hs hm).mono ?_
  rintro e w' ⟨hb, ⟨_, b, rfl, h2⟩ | ⟨hn, _⟩⟩
  · exact ⟨b, rfl, h2, hb⟩
  · exact absurd h hn
theorem new_bad (w : World) (n : Int) (A : Option Addr) (c1 : Nat) (ss : List ByteArray) (B : Option Addr) (c2 : Nat) (ms : List (ByteArray × Int)) (hs : SRd w A ss) (hm : MRd w B ms) {r : Int} (hr : r = newE n ss ms) (h : r ≠ 0) :
    Calls Try.prog 29 #[.int .i64 n, .slice A ss.length c1, .slice B ms.length c2] w fun e w' => e = .returned (.tuple #[.pointer none, .int .i64 r]) ∧ Below w.heap.size w w' := by
  subst hr
  refine (new_any w n A c1 ss B c2 ms hs hm).mono ?_
  rintro e w' ⟨hb, ⟨hn, _⟩ | ⟨_, rfl⟩⟩
  · exact absurd hn h
  · exact ⟨rfl, hb⟩
end Go.Proofs.Ytkoihpfgleboiaa.Ro
