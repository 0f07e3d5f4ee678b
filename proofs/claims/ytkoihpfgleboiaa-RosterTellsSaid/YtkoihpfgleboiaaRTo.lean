/-
  The contract of the law's To: a roster of at most forty ISINs and seventy members. Conditions: none.
-/
import Derived.Test.YtkoihpfgleboiaaRMake
import Derived.Test.YtkoihpfgleboiaaRPeer
import Derived.Deep.AppendLies
import Derived.StillTailTactics
import Derived.Deep.RegionHeld3
namespace Go.Proofs.Ytkoihpfgleboiaa.Ro
open Go.RowKit Tb

def memc (ms : List (ByteArray × Int)) : List Value := ms.flatMap fun m => [.string m.1, .int .i64 m.2]
theorem memc_append (a b : List (ByteArray × Int)) : memc (a ++ b) = memc a ++ memc b := by simp [memc]
theorem memc_len : ∀ ms : List (ByteArray × Int), (memc ms).length = ms.length * 2
  | [] => rfl
  | m :: ms => by
    have := memc_len ms
    show ([_, _] ++ memc ms).length = _
    simp; omega
theorem memc_get : ∀ (ms : List (ByteArray × Int)) (i : Nat) (m : ByteArray × Int), ms[i]? = some m → (memc ms)[i * 2]? = some (.string m.1) ∧ (memc ms)[i * 2 + 1]? = some (.int .i64 m.2)
  | [], _, _, h => by simp at h
  | a :: ms, 0, m, h => by simp at h; subst h; exact ⟨rfl, rfl⟩
  | a :: ms, i + 1, m, h => by
    have := memc_get ms i m (by simpa using h)
    show ([_, _] ++ memc ms)[_]? = _ ∧ ([_, _] ++ memc ms)[_]? = _
    rw [show (i + 1) * 2 = i * 2 + 1 + 1 by omega]
    simpa using this
theorem infoM : (Try.prog.info? 64).map (fun i => (i.zero, i.size, i.bytes)) = some (some (.agg #[.string ByteArray.empty, .int .i64 0]), 2, 24) := by kernel_rfl
theorem own_mrd {w : World} {base : Nat} {v : Value} {ms : List (ByteArray × Int)} (h : w.ownsRow base 64 2 v ms.length (memc ms)) : ∃ A cap, v = .slice A ms.length cap ∧ MRd w A ms := by
  rcases h.2 with ⟨rfl, h0⟩ | ⟨g, cap, cur, rfl, _, hh, _, _, hs, ht⟩
  · obtain rfl : ms = [] := List.length_eq_zero_iff.1 h0
    exact ⟨none, 0, rfl, .inl rfl⟩
  · refine ⟨_, cap, rfl, .inr ⟨g, 0, rfl, (Array.getElem?_eq_some_iff.1 hh).1, fun i m hi => ?_⟩⟩
    have hlt : i < ms.length := (List.getElem?_eq_some_iff.1 hi).1
    have hc := memc_get ms i m hi
    rw [← ht, List.getElem?_take, if_pos (by omega), List.getElem?_take, if_pos (by omega)] at hc
    rw [Nat.zero_add, cell_of_row _ g (i * 2) _ _ _ hh, cell_of_row _ g (i * 2 + 1) _ _ _ hh]
    simpa using hc
theorem srd_take {w : World} {A : Option Addr} {ss : List ByteArray} (h : SRd w A ss) (k : Nat) : SRd w A (ss.take k) := by
  rcases h with rfl | ⟨g, o, e, hg, hc⟩
  · exact .inl (by simp)
  · exact .inr ⟨g, o, e, hg, fun i s hi => hc i s (by rw [List.getElem?_take] at hi; split at hi; exact hi; cases hi)⟩
theorem mrd_take {w : World} {A : Option Addr} {ss : List (ByteArray × Int)} (h : MRd w A ss) (k : Nat) : MRd w A (ss.take k) := by
  rcases h with rfl | ⟨g, o, e, hg, hc⟩
  · exact .inl (by simp)
  · exact .inr ⟨g, o, e, hg, fun i s hi => hc i s (by rw [List.getElem?_take] at hi; split at hi; exact hi; cases hi)⟩
theorem cut_strs (A : Option Addr) (n cap k : Nat) (h1 : k ≤ n) (h2 : n ≤ cap) (W : World) : (Instr.slice 22 (.slice A n cap) none (some (.int .i64 (k : Int))) none).run Try.prog W = .ok (.slice A k cap) W := by
  have h3 : (k : Int) ≤ (cap : Int) := by omega
  have h4 : k ≤ cap := by omega
  cases A with
  | none => simp [Instr.slice, Instr.sliceBounds, Instr.sliceBound, asIntOf, run_underlying Try.underlying22, h4]
  | some a =>
    simp [Instr.slice, Instr.sliceBounds, Instr.sliceBound, asIntOf, run_underlying Try.underlying22, h4]
    intro _; rfl
theorem cut_mems (A : Option Addr) (n cap k : Nat) (h1 : k ≤ n) (h2 : n ≤ cap) (W : World) : (Instr.slice 23 (.slice A n cap) none (some (.int .i64 (k : Int))) none).run Try.prog W = .ok (.slice A k cap) W := by
  have h3 : (k : Int) ≤ (cap : Int) := by omega
  have h4 : k ≤ cap := by omega
  cases A with
  | none => simp [Instr.slice, Instr.sliceBounds, Instr.sliceBound, asIntOf, run_underlying Try.underlying23, h4]
  | some a =>
    simp [Instr.slice, Instr.sliceBounds, Instr.sliceBound, asIntOf, run_underlying Try.underlying23, h4]
    intro _; rfl

/-- A roster as a value. -/
abbrev rosC (n : Int) (A : Option Addr) (k1 c1 : Nat) (B : Option Addr) (k2 c2 : Nat) : Array Value := #[.int .i64 n, .slice A k1 c1, .slice B k2 c2]
def ToP (w : World) (n : Int) (A : Option Addr) (c1 : Nat) (B : Option Addr) (c2 : Nat) (ss : List ByteArray) (ms : List (ByteArray × Int)) (r : Int) (e : Ending) (w' : World) : Prop :=
  Below w.heap.size w w' ∧ ((r = 0 ∧ ∃ b, e = .returned (.tuple #[.pointer (some ⟨b, 0, none⟩), .agg #[.int .i64 n, .slice A ss.length c1, .slice B ms.length c2], .int .i64 0]) ∧ RosS w' b n (isL ss) (meL ms)) ∨
    (r ≠ 0 ∧ e = .returned (.tuple #[.pointer none, .agg #[.int .i64 n, .slice A ss.length c1, .slice B ms.length c2], .int .i64 r])))
theorem blk3 {w : World} {b : Nat} {x y z : Value} {t : TypeId} (h : w.heap[b]? = some (.cells #[x, y, z] t (0, 0))) :
    (w.cell? ⟨b, 0, none⟩ = some x ∧ w.cell? ⟨b, 1, none⟩ = some y ∧ w.cell? ⟨b, 2, none⟩ = some z) ∧ (w.frozen? ⟨b, 0, none⟩ = false ∧ w.frozen? ⟨b, 1, none⟩ = false ∧ w.frozen? ⟨b, 2, none⟩ = false) :=
  ⟨⟨by rw [cell_of_row _ _ _ _ _ _ h]; rfl, by rw [cell_of_row _ _ _ _ _ _ h]; rfl, by rw [cell_of_row _ _ _ _ _ _ h]; rfl⟩, ⟨frozen_of_row _ _ _ _ _ h, frozen_of_row _ _ _ _ _ h, frozen_of_row _ _ _ _ _ h⟩⟩
theorem two_box (w : World) (o1 o2 : Obj) : ((w.alloc o1).alloc o2).heap[w.heap.size]? = some o1 ∧ ((w.alloc o1).alloc o2).heap[w.heap.size + 1]? = some o2 ∧ Below w.heap.size w ((w.alloc o1).alloc o2) := by
  have h1 : Below w.heap.size w (w.alloc o1) := (Below.refl _ _).alloc (Nat.le_refl _) _
  refine ⟨block_old (block_new w o1) _, ?_, h1.alloc h1.size _⟩
  have := block_new (w.alloc o1) o2
  rw [World.size_alloc] at this
  exact this

theorem su_kept {w w' : World} {v : Value} {l : List (ByteArray × Unit)} {c : Nat} {cur : Array Value} (h : Su.RowsR w v l) (hk : Kept (fun k => k = c) w w') (hc : w.heap[c]? = some (.cells cur 25 (0, 0))) : Su.RowsR w' v l := by
  obtain ⟨A, cap, e, h1, h2, h3⟩ := h
  refine ⟨A, cap, e, h1, h2, ?_⟩
  rcases h3 with h3 | ⟨g, o, e, hg, hcell, cu, hcu⟩
  · exact .inl h3
  · have hne : ¬ g = c := fun e => by subst e; rw [hcu] at hc; simp at hc
    exact .inr ⟨g, o, e, Nat.lt_of_lt_of_le hg hk.size, fun i r hi => (World.cell?_of_block (w := w) (a := ⟨g, o + i, none⟩) (hk.block g hg hne)).trans (hcell i r hi), cu, hk.heap hcu hne⟩
theorem no_str {x y z : Value} {j : Nat} {s : ByteArray} (hx : ∀ s, x ≠ .string s) (hy : ∀ s, y ≠ .string s) (hz : ∀ s, z ≠ .string s) : (#[x, y, z] : Array Value)[j]? ≠ some (.string s) := fun h => by
  match j, h with
  | 0, h => exact hx s (by simpa using h)
  | 1, h => exact hy s (by simpa using h)
  | 2, h => exact hz s (by simpa using h)
  | j + 3, h => simp at h
theorem si_kept {w w' : World} {v : Value} {l : List (ByteArray × Int)} {c : Nat} {x y z : Value} (h : Si.RowsR w v l) (hk : Kept (fun k => k = c) w w') (hc : w.heap[c]? = some (.cells #[x, y, z] 25 (0, 0))) (hx : ∀ s, x ≠ .string s) (hy : ∀ s, y ≠ .string s) (hz : ∀ s, z ≠ .string s) : Si.RowsR w' v l := by
  obtain ⟨A, cap, e, h1, h2, h3⟩ := h
  refine ⟨A, cap, e, h1, h2, ?_⟩
  rcases h3 with h3 | ⟨g, o, e, hg, hcell⟩
  · exact .inl h3
  · refine .inr ⟨g, o, e, Nat.lt_of_lt_of_le hg hk.size, fun i r hi => ?_⟩
    have hci := hcell i r hi
    have hne : ¬ g = c := fun e => by
      subst e
      have := hci.1
      rw [cell_of_row _ _ _ _ _ _ hc] at this
      exact no_str hx hy hz this
    exact ⟨(World.cell?_of_block (w := w) (a := ⟨g, o + i * 2, none⟩) (hk.block g hg hne)).trans hci.1, (World.cell?_of_block (w := w) (a := ⟨g, o + i * 2 + 1, none⟩) (hk.block g hg hne)).trans hci.2⟩
/-- A roster lies as it lay, where one block of another type alone is written. -/
theorem rosS_kept {w w' : World} {b c : Nat} {n : Int} {I : List (ByteArray × Unit)} {M : List (ByteArray × Int)} {x y z : Value} (h : RosS w b n I M) (hk : Kept (fun k => k = c) w w') (hc : w.heap[c]? = some (.cells #[x, y, z] 25 (0, 0))) (hx : ∀ s, x ≠ .string s) (hy : ∀ s, y ≠ .string s) (hz : ∀ s, z ≠ .string s) : RosS w' b n I M := by
  obtain ⟨v1, v2, h1, h2, h3⟩ := h
  refine ⟨v1, v2, hk.heap h1 (fun e => ?_), ?_, ?_⟩
  · subst e; rw [h1] at hc; simp at hc
  · exact su_kept h2 hk hc
  · exact si_kept h3 hk hc hx hy hz
set_option maxRecDepth 100000 in
set_option maxHeartbeats 8000000 in
theorem to_any (w : World) (n : Int) (A : Option Addr) (c1 : Nat) (ss0 : List ByteArray) (B : Option Addr) (c2 : Nat) (ms0 : List (ByteArray × Int)) (hs0 : SRd w A ss0) (hm0 : MRd w B ms0) (hc1 : ss0.length ≤ c1) (hc2 : ms0.length ≤ c2) :
    Calls Try.prog 8 #[.agg #[.int .i64 n, .slice A ss0.length c1, .slice B ms0.length c2]] w (ToP w n A c1 B c2 (ss0.take 40) (ms0.take 70) (newE n (ss0.take 40) (ms0.take 70))) := by
  obtain ⟨ss, hss⟩ : ∃ ss, ss = ss0.take 40 := ⟨_, rfl⟩
  obtain ⟨ms, hms⟩ : ∃ ms, ms = ms0.take 70 := ⟨_, rfl⟩
  have hs : SRd w A ss := by rw [hss]; exact srd_take hs0 40
  have hm : MRd w B ms := by rw [hms]; exact mrd_take hm0 70
  have hl1 : ss.length = min ss0.length 40 := by rw [hss, List.length_take, Nat.min_comm]
  have hl2 : ms.length = min ms0.length 70 := by rw [hms, List.length_take, Nat.min_comm]
  rw [← hss, ← hms]
  obtain ⟨n1, hn1⟩ : ∃ n1, n1 = ss0.length := ⟨_, rfl⟩
  obtain ⟨n2, hn2⟩ : ∃ n2, n2 = ms0.length := ⟨_, rfl⟩
  rw [← hn1] at hc1 hl1 ⊢
  rw [← hn2] at hc2 hl2 ⊢
  have hk1 : min (n1 : Int) 40 = (ss.length : Int) := by omega
  have hk2 : min (n2 : Int) 70 = (ms.length : Int) := by omega
  have hq1 := fun W => cut_strs A n1 c1 ss.length (by omega) hc1 W
  have hq2 := fun W => cut_mems B n2 c2 ms.length (by omega) hc2 W
  have hms70 : ms.length ≤ 70 := by omega
  have HS := Lib.hid hs
  have HM := Lib.hid hm
  have E0 := two_box w (.cells #[.int .i64 n, .slice A n1 c1, .slice B n2 c2] 25) (.cells #[.int .i64 0, .slice none 0 0, .slice none 0 0] 25)
  clear hss hms hs0 hm0 hs hm hl1 hl2 hn1 hn2 hc1 hc2
  go_enter Try.func8, Try.ntmps8
  go_upto_region 1 with fail
  obtain ⟨W0, hW0⟩ : ∃ W0, W0 = (w.alloc (.cells #[.int .i64 n, .slice A n1 c1, .slice B n2 c2] 25)).alloc (.cells #[.int .i64 0, .slice none 0 0, .slice none 0 0] 25) := ⟨_, rfl⟩
  rw [← hW0] at E0 ⊢
  clear hW0
  obtain ⟨⟨x0, x1, x2⟩, f0, f1, f2⟩ := blk3 E0.1
  go_wp2_with fail
  obtain ⟨W1, hW1⟩ : ∃ W1, W1 = (W0.setCell ⟨w.heap.size, 1, none⟩ (.slice A ss.length c1)).setCell ⟨w.heap.size, 2, none⟩ (.slice B ms.length c2) := ⟨_, rfl⟩
  have r1 : W1.heap[w.heap.size]? = some (.cells #[.int .i64 n, .slice A ss.length c1, .slice B ms.length c2] 25 (0, 0)) := by
    rw [hW1]
    exact heap_setCell_same _ w.heap.size 2 _ _ _ (heap_setCell_same W0 w.heap.size 1 _ _ _ E0.1)
  have r2 : W1.heap[w.heap.size + 1]? = some (.cells #[.int .i64 0, .slice none 0 0, .slice none 0 0] 25 (0, 0)) := by
    rw [hW1]
    exact block_set (block_set E0.2.1 (by simp) _) (by simp) _
  have rB : Below w.heap.size w W1 := by
    rw [hW1]
    exact (E0.2.2.setCell (p := ⟨w.heap.size, 1, none⟩) (Nat.le_refl _) _).setCell (p := ⟨w.heap.size, 2, none⟩) (Nat.le_refl _) _
  have l1 : w.heap.size < W1.heap.size := (Array.getElem?_eq_some_iff.1 r1).1
  have l2 : w.heap.size + 1 < W1.heap.size := (Array.getElem?_eq_some_iff.1 r2).1
  have R1 := Lib.hid r1
  have R2 := Lib.hid r2
  have RB := Lib.hid rB
  have HS1 := Lib.hid (HS.out.below rB)
  have HM1 := Lib.hid (HM.out.below rB)
  rw [← hW1]
  obtain ⟨i0, hi0, hz0, hz1, hz2⟩ := info_parts infoM
  clear hW1 E0 x0 x1 x2 f0 f1 f2 r1 r2 rB hq1 hq2 hk1 hk2 HS HM
  go_loopg [6, 5] ms.length (fun (gh : Nat) si sv wx => ∃ i : Nat, gh = ms.length - i ∧ i ≤ ms.length ∧ si = .int .i64 (i : Int) ∧ Hid (wx.ownsRow W1.heap.size 64 2 sv i (memc (ms.take i)) ∧ Below W1.heap.size W1 wx))
  case atStart => exact ⟨0, rfl, Nat.zero_le _, rfl, World.ownsRow_nil _ _ _ _, Below.refl _ _⟩
  case round =>
    obtain ⟨i, rfl, hi, rfl, hinv⟩ := hrel
    have hbel := hinv.out.2
    have hown := hinv.out.1
    have rr := (blk3 (block_kept R1.out hbel)).1
    by_cases hlt : i < ms.length
    · have t1 : (i : Int) < (ms.length : Int) := by omega
      have t2 : (0 : Int) ≤ (i : Int) := by omega
      obtain ⟨m, hm⟩ : ∃ m, ms[i]? = some m := ⟨_, List.getElem?_eq_getElem hlt⟩
      rcases HM1.out with h0 | ⟨g, o, rfl, hg, hcell⟩
      · rw [h0] at hm; simp at hm
      have hcm := hcell i m hm
      have c0 := rr.2.2
      have c1' : wr.cell? ⟨g, o + i * 2, none⟩ = some (.string m.1) := (hbel.cell (p := ⟨g, o + i * 2, none⟩) hg).trans hcm.1
      have c2' : wr.cell? ⟨g, o + i * 2 + 1, none⟩ = some (.int .i64 m.2) := (hbel.cell (p := ⟨g, o + i * 2 + 1, none⟩) hg).trans hcm.2
      have hz := hbel.size
      have hgw : g < wr.heap.size := by omega
      have hrw : w.heap.size < wr.heap.size := by omega
      obtain ⟨v, hv⟩ : ∃ v, u5 = v := ⟨_, rfl⟩
      subst hv
      have ag : some g ≠ u5.ownBlock := fun e => by have := (hown.lt g e.symm).1; omega
      have ag2 : some w.heap.size ≠ u5.ownBlock := fun e => by have := (hown.lt _ e.symm).1; omega
      have HB := Lib.hid hbel
      have HO := Lib.hid hown
      have HTK : Hid (memc (ms.take (i + 1)) = memc (ms.take i) ++ [.string m.1, .int .i64 m.2]) := by
        show _ = _
        rw [List.take_add_one, hm, memc_append]
        rfl
      clear hcm hbel hown hm hcell rr hinv
      go_wp2
      go_region_held3 (fun w' => w'.cell? ⟨g, o + i * 2, none⟩ = some (.string m.1) ∧ w'.cell? ⟨g, o + i * 2 + 1, none⟩ = some (.int .i64 m.2) ∧ w'.cell? ⟨w.heap.size, 2, none⟩ = some (.slice (some ⟨g, o, none⟩) ms.length c2))
        (first
          | go_keep
          | (go_split_ands
             refine ⟨?_, ?_, ?_⟩
             · (rw [hgrow.cell_far _ (by simp; omega) ag]; assumption)
             · (rw [hgrow.cell_far _ (by simp; omega) ag]; assumption)
             · (rw [hgrow.cell_far _ (by simp; omega) ag2]; assumption)))
        ((refine step_append_lies _ (by rfl) _ _ _ (by rfl) W1.heap.size 64 i0 _ 2 24 Try.underlying61 hi0 hz0 hz1 hz2 rfl (by omega) u5 i (memc (ms.take i)) (by rfl) ((HO.out.alloc _).drew) ⟨wr.heap.size, 0, none⟩ 1 1 [.string m.1, .int .i64 m.2] (by rfl) (by rfl) (World.news_of_block (cs := #[.string m.1, .int .i64 m.2]) (t := 64) (fr := (0, 0)) (heap_alloc_new wr _)) (by simp [Value.oneCell']) (by omega) (by unfold maxLen; omega) (by omega) (by simp; omega) (wr.heap.size + 1) (by simp) ?_; intro gg cap' w1 hown1 hgrow hat hlt1))
      have O1 := Lib.hid hown1
      have B1 := Lib.hid (((HB.out.alloc HB.out.size _).drew).grown hgrow (by simp; omega) (fun k e => (HO.out.lt k e).1))
      have hi1 := hlt
      clear hown1 hgrow hat c0 c1' c2'
      go_wp2
      go_roundg (ms.length - (i + 1))
      case measure => omega
      case rel => exact ⟨i + 1, rfl, hi1, by go_num, by rw [HTK.out]; exact O1.out, B1.out⟩
    · have hil : i = ms.length := by omega
      subst hil
      rw [List.take_of_length_le (Nat.le_refl _)] at hown
      obtain ⟨A2, cap2, rfl, hmr⟩ := own_mrd hown
      obtain ⟨q0, q1, q2⟩ := rr
      have HB := Lib.hid hbel
      have HMR := Lib.hid hmr
      have HN := Lib.hid (new_any wr n A c1 ss A2 cap2 ms (HS1.out.below hbel) hmr)
      obtain ⟨r, hr⟩ : ∃ r, r = newE n ss ms := ⟨_, rfl⟩
      rw [← hr] at HN ⊢
      have BR1 := Lib.hid (block_kept R1.out hbel)
      have BR2 := Lib.hid (block_kept R2.out hbel)
      have HRR := Lib.hid hr
      have hs1 := RB.out.size
      have hs2 := HB.out.size
      clear hown hbel hmr hinv hr
      by_cases hz : r = 0
      · subst hz
        have HN2 : Hid (Calls Try.prog 29 #[.int .i64 n, .slice A ss.length c1, .slice A2 ms.length cap2] wr fun e w' => ∃ b, e = .returned (.tuple #[.pointer (some ⟨b, 0, none⟩), .int .i64 0]) ∧ RosS w' b n (isL ss) (meL ms) ∧ Below wr.heap.size wr w') := HN.out.mono (by
          rintro e w' ⟨hb, ⟨_, b, rfl, h⟩ | ⟨h, _⟩⟩
          · exact ⟨b, rfl, h, hb⟩
          · exact absurd rfl h)
        clear HN
        go_wp2_with (go_at_call 29; refine HN2.out.mono ?_; rintro e w2 ⟨b, rfl, hS, hb⟩; have HS2 := Lib.hid hS; have HB2 := Lib.hid hb; clear hS hb)
        have P1 := block_kept BR1.out HB2.out
        have P2 := block_kept BR2.out HB2.out
        obtain ⟨⟨p0, p1, p2⟩, _⟩ := blk3 P1
        obtain ⟨⟨y0, y1, y2⟩, g0, g1, g2⟩ := blk3 P2
        have HP2 := Lib.hid P2
        clear P1 P2 q0 q1 q2
        go_region
        go_wp2
        obtain ⟨W3, hW3⟩ : ∃ W3, W3 = (((w2.setCell ⟨w.heap.size + 1, 0, none⟩ (.int .i64 n)).setCell ⟨w.heap.size + 1, 1, none⟩ (.slice A ss.length c1)).setCell ⟨w.heap.size + 1, 2, none⟩ (.slice B ms.length c2)).drew := ⟨_, rfl⟩
        rw [← hW3]
        have r3 : W3.heap[w.heap.size + 1]? = some (.cells #[.int .i64 n, .slice A ss.length c1, .slice B ms.length c2] 25 (0, 0)) := by
          rw [hW3]
          exact heap_setCell_same _ (w.heap.size + 1) 2 _ _ _ (heap_setCell_same _ (w.heap.size + 1) 1 _ _ _ (heap_setCell_same w2 (w.heap.size + 1) 0 _ _ _ HP2.out))
        have hbw : Below w.heap.size w w2 := RB.out.trans ((HB.out.trans (HB2.out.mono hs2)).mono hs1)
        have hb3 : Below w.heap.size w W3 := by
          rw [hW3]
          exact (((hbw.setCell (p := ⟨w.heap.size + 1, 0, none⟩) (Nat.le_succ _) _).setCell (p := ⟨w.heap.size + 1, 1, none⟩) (Nat.le_succ _) _).setCell (p := ⟨w.heap.size + 1, 2, none⟩) (Nat.le_succ _) _).drew
        obtain ⟨⟨z0, z1, z2⟩, _⟩ := blk3 r3
        have hS3 : RosS W3 b n (isL ss) (meL ms) := by
          have hk : Kept (fun k => k = w.heap.size + 1) w2 W3 := by
            rw [hW3]
            exact (((Kept.of_set w2 ⟨w.heap.size + 1, 0, none⟩ _).trans (Kept.of_set _ ⟨w.heap.size + 1, 1, none⟩ _)).trans (Kept.of_set _ ⟨w.heap.size + 1, 2, none⟩ _)).drew
          exact rosS_kept HS2.out hk HP2.out (fun _ h => by cases h) (fun _ h => by cases h) (fun _ h => by cases h)
        refine bodyPost_ret (v := .tuple #[.pointer (some ⟨b, 0, none⟩), .agg #[.int .i64 n, .slice A ss.length c1, .slice B ms.length c2], .int .i64 0]) (by simp [results, Try.results8, go_sem, z0, z1, z2]) rfl ⟨hb3, .inl ⟨HRR.out.symm, b, rfl, hS3⟩⟩
      · have HN2 : Hid (Calls Try.prog 29 #[.int .i64 n, .slice A ss.length c1, .slice A2 ms.length cap2] wr fun e w' => e = .returned (.tuple #[.pointer none, .int .i64 r]) ∧ Below wr.heap.size wr w') := HN.out.mono (by
          rintro e w' ⟨hb, ⟨h, _⟩ | ⟨_, rfl⟩⟩
          · exact absurd h hz
          · exact ⟨rfl, hb⟩)
        clear HN
        go_wp2_with (go_at_call 29; refine HN2.out.mono ?_; rintro e w2 ⟨rfl, hb⟩; have HB2 := Lib.hid hb; clear hb)
        have P1 := block_kept BR1.out HB2.out
        have P2 := block_kept BR2.out HB2.out
        obtain ⟨⟨p0, p1, p2⟩, _⟩ := blk3 P1
        obtain ⟨⟨y0, y1, y2⟩, g0, g1, g2⟩ := blk3 P2
        have HP2 := Lib.hid P2
        clear P1 P2 q0 q1 q2
        go_region
        go_wp2
        obtain ⟨W3, hW3⟩ : ∃ W3, W3 = (((w2.setCell ⟨w.heap.size + 1, 0, none⟩ (.int .i64 n)).setCell ⟨w.heap.size + 1, 1, none⟩ (.slice A ss.length c1)).setCell ⟨w.heap.size + 1, 2, none⟩ (.slice B ms.length c2)).drew := ⟨_, rfl⟩
        rw [← hW3]
        have r3 : W3.heap[w.heap.size + 1]? = some (.cells #[.int .i64 n, .slice A ss.length c1, .slice B ms.length c2] 25 (0, 0)) := by
          rw [hW3]
          exact heap_setCell_same _ (w.heap.size + 1) 2 _ _ _ (heap_setCell_same _ (w.heap.size + 1) 1 _ _ _ (heap_setCell_same w2 (w.heap.size + 1) 0 _ _ _ HP2.out))
        have hbw : Below w.heap.size w w2 := RB.out.trans ((HB.out.trans (HB2.out.mono hs2)).mono hs1)
        have hb3 : Below w.heap.size w W3 := by
          rw [hW3]
          exact (((hbw.setCell (p := ⟨w.heap.size + 1, 0, none⟩) (Nat.le_succ _) _).setCell (p := ⟨w.heap.size + 1, 1, none⟩) (Nat.le_succ _) _).setCell (p := ⟨w.heap.size + 1, 2, none⟩) (Nat.le_succ _) _).drew
        obtain ⟨⟨z0, z1, z2⟩, _⟩ := blk3 r3
        refine bodyPost_ret (v := .tuple #[.pointer none, .agg #[.int .i64 n, .slice A ss.length c1, .slice B ms.length c2], .int .i64 r]) (by simp [results, Try.results8, go_sem, z0, z1, z2]) rfl ⟨hb3, .inr ⟨by rw [← HRR.out]; exact hz, by rw [← HRR.out]⟩⟩
end Go.Proofs.Ytkoihpfgleboiaa.Ro
