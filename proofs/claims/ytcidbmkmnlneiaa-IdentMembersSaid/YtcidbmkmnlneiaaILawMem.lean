/-
  The law IdentMembers answers true: its walk. Conditions: the strings fit memory.
-/
import Derived.Deep.AppendLies
import Derived.SliceStrings
import Derived.Test.YtcidbmkmnlneiaaIRefMems
namespace Go.Proofs.Ytcidbmkmnlneiaa.Id
open Go.RowKit

/-- A name cut to 20 bytes. -/
def cutS (s : ByteArray) : ByteArray := s.extract 0 (min s.size 20)
theorem cutS_size (s : ByteArray) : (cutS s).size ≤ 20 := by
  rw [← sb_len, cutS, sb_take, List.length_take]
  omega
def strsV (ss : List ByteArray) : List Value := ss.map Value.string
theorem strInfo : (Try.prog.info? 9).map (fun i => (i.zero, i.size, i.bytes)) = some (some (.string ByteArray.empty), 1, 16) := by kernel_rfl

/-- Strings in memory. -/
def StrsIn (w : World) (A : Option Addr) (n : Nat) (os : List ByteArray) : Prop :=
  os.length = n ∧ (∀ s ∈ os, s.size ≤ 9223372036854775807) ∧ (0 < n → ∃ b o, A = some ⟨b, o, none⟩ ∧ b < w.heap.size ∧ ∀ i, i < n → w.cell? ⟨b, o + i, none⟩ = some (.string (os.getD i ByteArray.empty)))

theorem cut_get {os : List ByteArray} {k : Nat} (hk : k < os.length) : (os.map cutS).getD k ByteArray.empty = cutS (os.getD k ByteArray.empty) := by
  simp [List.getD_eq_getElem?_getD, List.getElem?_map, List.getElem?_eq_getElem hk]
theorem take_succ_get {ss : List ByteArray} {k : Nat} (hk : k < ss.length) : ss.take (k + 1) = ss.take k ++ [ss.getD k ByteArray.empty] := by
  rw [List.take_succ_eq_append_getElem hk, List.getD_eq_getElem?_getD, List.getElem?_eq_getElem hk]
  rfl

set_option maxRecDepth 100000 in
set_option maxHeartbeats 4000000 in
theorem members_walk0 (w : World) (A : Option Addr) (cap : Nat) :
    Calls Try.prog 6 #[.slice A 0 cap] w fun e w' => e = .returned (.bool true) ∧ Below w.heap.size w w' := by
  go_enter Try.func6, Try.ntmps6
  go_wp2
  refine wp_loop_rounds 1 ?_
  rw [rounds_succ]
  go_wp2_with (first
    | (go_at_call 11; refine (known_any _).mono ?_; rintro e w1 ⟨rfl, hb1⟩)
    | (go_at_call 19; refine (members_none _).mono ?_; rintro e w2 ⟨rfl, hb2⟩)
    | (go_at_call 20; refine (refMembers_none _).mono ?_; rintro e w3 ⟨rfl, hb3⟩))
  go_ret
  have k2 := hb1.trans (hb2.mono hb1.size)
  exact ⟨rfl, k2.trans (hb3.mono k2.size)⟩

set_option maxRecDepth 100000 in
set_option maxHeartbeats 4000000 in
theorem members_walk (w : World) (A : Option Addr) (len cap n : Nat) (os : List ByteArray) (hmin : (if (30 : Int) < (len : Int) then 30 else (len : Int)) = (n : Int)) (hcap : n ≤ cap) (hn : n ≤ 30) (h0 : 0 < n) (hin : StrsIn w A n os) :
    Calls Try.prog 6 #[.slice A len cap] w fun e w' => e = .returned (.bool true) ∧ Below w.heap.size w w' := by
  obtain ⟨hol, hosz, hoc⟩ := hin
  obtain ⟨g, o, rfl, hg, hcell⟩ := hoc h0
  obtain ⟨i0, hi, hz0, hz1, hz2⟩ := info_parts strInfo
  obtain ⟨ss, hss⟩ : ∃ ss, ss = os.map cutS := ⟨_, rfl⟩
  have hsl : Hid (ss.length = n) := by show _ = _; rw [hss, List.length_map, hol]
  have hs20 : Hid (∀ s ∈ ss, s.size ≤ 20) := fun s hs => by
    rw [hss] at hs
    obtain ⟨x, _, rfl⟩ := List.mem_map.1 hs
    exact cutS_size x
  have HOL := Lib.hid hol
  have HOS := Lib.hid hosz
  have HCE := Lib.hid hcell
  have HSS := Lib.hid hss
  clear hol hosz hoc hcell hss
  go_enter Try.func6, Try.ntmps6
  go_wp2_with fail
  go_loopg [3, 4] n (fun (gh : Nat) sv si wx => ∃ k : Nat, gh = n - k ∧ k ≤ n ∧ si = .int .i64 (k : Int) ∧ Hid (wx.ownsRow w.heap.size 9 1 sv k (strsV (ss.take k)) ∧ Below w.heap.size w wx))
  case atStart => exact ⟨0, rfl, Nat.zero_le _, rfl, World.ownsRow_nil _ _ _ _, Below.refl _ _⟩
  case round =>
    obtain ⟨k, rfl, hk, rfl, hinv⟩ := hrel
    have hrow := hinv.out.1
    have hbw := hinv.out.2
    have hsw := hbw.size
    by_cases hlt : k < n
    · obtain ⟨s, hs⟩ : ∃ s, s = os.getD k ByteArray.empty := ⟨_, rfl⟩
      have hc : wr.cell? ⟨g, o + k, none⟩ = some (.string s) := by rw [hs]; exact (hbw.cell (p := ⟨g, o + k, none⟩) hg).trans (HCE.out k hlt)
      obtain ⟨q, hq⟩ : ∃ q, q = min s.size 20 := ⟨_, rfl⟩
      have hmin2 : (if (20 : Int) < (s.size : Int) then 20 else (s.size : Int)) = (q : Int) := by split <;> omega
      have hsl2 := fun W => slice_to s q (by omega) W
      obtain ⟨t, ht⟩ : ∃ t, t = s.extract 0 q := ⟨_, rfl⟩
      rw [← ht] at hsl2
      have htk : Hid (ss.take (k + 1) = ss.take k ++ [t]) := by
        show _ = _
        rw [take_succ_get (by rw [hsl.out]; exact hlt), HSS.out, cut_get (by rw [HOL.out]; exact hlt), ← hs, ht, hq]
        rfl
      have hsz : s.size ≤ 9223372036854775807 := by
        rw [hs, List.getD_eq_getElem?_getD, List.getElem?_eq_getElem (by rw [HOL.out]; exact hlt)]
        exact HOS.out _ (List.getElem_mem _)
      have HBW := Lib.hid hbw
      clear hs hq ht hinv hbw
      have hgl : g < wr.heap.size := by omega
      have S0 : wr.cell? ⟨g, o + k, none⟩ = some (.string s) := hc
      go_wp2_with fail
      go_region_held3 (fun w' => w'.cell? ⟨g, o + k, none⟩ = some (.string s))
        (first | assumption | (simp [go_sem]; done) | exact (World.cell?_alloc_lt wr _ ⟨g, o + k, none⟩ hgl).trans hc | (rw [hgrow.cell_far _ (by simp; omega) (fun e => by have := (hrow.lt g e.symm).1; omega)]; assumption))
        ((refine step_append_lies _ (by rfl) _ _ _ (by rfl) w.heap.size 9 i0 _ 1 16 Try.underlying38 hi hz0 hz1 hz2 rfl (by omega) _ k (strsV (ss.take k)) (by rfl) ((hrow.alloc _).drew) ⟨wr.heap.size, 0, none⟩ 1 1 [.string t] (by rfl) (by rfl) (World.news_of_block (cs := #[.string t]) (t := 9) (fr := (0, 0)) (heap_alloc_new wr _)) (by simp [Value.oneCell']) (by omega) (by unfold maxLen; omega) (by omega) (by simp; omega) (wr.heap.size + 1) (by simp) ?_; intro gg cp w1 hown1 hgrow hat hlt1))
      all_goals
        have s1 := hgrow.size
        simp at s1
        have hb2 : Below w.heap.size w w1 := ((below_drewN (HBW.out.alloc hsw _) 1).grown hgrow (by simp; omega) (fun j hj => (hrow.lt j hj).1))
        go_wp2
        go_roundg (n - (k + 1))
        case measure => omega
        case rel => exact ⟨k + 1, rfl, by omega, by go_num, by rw [htk.out]; simpa [strsV] using hown1, hb2⟩
    · obtain rfl : k = n := by omega
      obtain ⟨gg, cp, rfl⟩ : ∃ gg cp, u3 = .slice (some ⟨gg, 0, none⟩) k cp := by
        obtain ⟨gg, cp, e, _⟩ := hrow.form h0
        exact ⟨gg, cp, e⟩
      have hgl := (hrow.lt gg rfl).2
      rw [List.take_of_length_le (by rw [hsl.out]; exact Nat.le_refl _)] at hrow
      have hstr : Hid (StrRow wr gg ss) := fun j hj => by
        rw [hrow.cellAt j (by rw [hsl.out] at hj; omega), strsV, List.getElem?_map, List.getElem?_eq_getElem hj, List.getD_eq_getElem?_getD, List.getElem?_eq_getElem hj]
        rfl
      have HBW := Lib.hid hbw
      have e1 : k = ss.length := hsl.out.symm
      have c1 : ∀ W, Below wr.heap.size wr W → Calls Try.prog 19 #[.slice (some ⟨gg, 0, none⟩) k cp] W fun e w' => e = .returned (.int .i64 (memsN ss)) ∧ Below W.heap.size W w' := fun W hW => by
        rw [e1]
        exact members_some W gg cp ss (by omega) (by omega) (Nat.lt_of_lt_of_le hgl hW.size) (hstr.out.below hW hgl) hs20.out
      have c2 : ∀ W, Below wr.heap.size wr W → Calls Try.prog 20 #[.slice (some ⟨gg, 0, none⟩) k cp] W fun e w' => e = .returned (.int .i64 (memsN ss)) ∧ Below W.heap.size W w' := fun W hW => by
        rw [e1]
        exact refMembers_some W gg cp ss (by omega) (by omega) (Nat.lt_of_lt_of_le hgl hW.size) (hstr.out.below hW hgl) hs20.out
      obtain ⟨v, hv⟩ : ∃ v, v = memsN ss := ⟨_, rfl⟩
      rw [← hv] at c1 c2
      have C1 := Lib.hid c1
      have C2 := Lib.hid c2
      clear hinv hrow hbw e1 c1 c2 hv
      go_wp2_with (first
        | (go_at_call 11; refine (known_any _).mono ?_; rintro e w1 ⟨rfl, hb1⟩)
        | (go_at_call 19; refine (C1.out _ hb1).mono ?_; rintro e w2 ⟨rfl, hb2⟩; have hb3 := hb1.trans (hb2.mono hb1.size))
        | (go_at_call 20; refine (C2.out _ hb3).mono ?_; rintro e w3 ⟨rfl, hb4⟩))
      go_ret
      have k3 := hb3.trans (hb4.mono hb3.size)
      exact ⟨rfl, HBW.out.trans (k3.mono HBW.out.size)⟩
end Go.Proofs.Ytcidbmkmnlneiaa.Id
