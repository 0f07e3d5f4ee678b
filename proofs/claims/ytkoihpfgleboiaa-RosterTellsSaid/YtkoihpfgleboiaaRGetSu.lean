/-
  The contract of Get. Conditions: at most a thousand rows.
-/
import Derived.Test.YtkoihpfgleboiaaRRowSu
namespace Go.Proofs.Ytkoihpfgleboiaa.Tb.Su
open Go.RowKit

def zv : V := ()
def zk : K := ByteArray.empty
def getL (l : List R) (k : K) : V := match l[pl l k]? with | some r => if r.1 = k then r.2 else zv | none => zv
theorem getL_has (l : List R) (k : K) (h : hasB l k = true) : l[pl l k]? = some (k, getL l k) := by
  obtain ⟨_, v, hv⟩ := has_lt l k h
  rw [hv]
theorem getL_not (l : List R) (k : K) (_h : hasB l k = false) : getL l k = zv := rfl

set_option maxRecDepth 100000 in
set_option maxHeartbeats 1000000 in
theorem get_any (w : World) (p : Option Addr) (l : List R) (k : K) (h : TabR w p l) (ha : asc l) (hn : l.length ≤ 1000) :
    Calls Try.prog 36 #[.pointer p, ek k] w fun e w' => e = .returned (.tuple #[ev (getL l k), .bool (hasB l k)]) ∧ Below w.heap.size w w' := by
  have h0 : Below w.heap.size w (w.alloc (.cells #[] 87)) := (Below.refl _ _).alloc (Nat.le_refl _) _
  have hf := find_any (w.alloc (.cells #[] 87)) p l k (h.below h0) ha hn
  have H0 := Lib.hid h0
  clear h0
  cases hh : hasB l k
  · rw [hh] at hf
    have HF := Lib.hid hf
    clear hf hh ha h
    go_enter Try.func36, Try.ntmps36
    go_wp2_with (go_at_call 51; refine HF.out.mono ?_; rintro e w' ⟨rfl, hb⟩)
    refine bodyPost_ret (v := .tuple #[ev (), .bool false]) (by simp [results, Try.results36, go_sem, ev]) rfl ⟨?_, ?_⟩
    · rfl
    exact (H0.out.trans (hb.mono H0.out.size)).alloc (H0.out.trans (hb.mono H0.out.size)).size _
  · have hg := getL_has l k hh
    have hlt := (has_lt l k hh).1
    rw [hh] at hf
    rcases h with ⟨rfl, rfl⟩ | ⟨b, q, v, rfl, hbl, hc, hr⟩
    · simp at hlt
    · obtain ⟨A, cap, rfl, _, _, h3⟩ := hr
      rcases h3 with ⟨rfl, rfl⟩ | ⟨g, o, rfl, hg0, hcell, cur, hcur⟩
      · simp at hlt
      have HF := Lib.hid hf
      have HC := Lib.hid hc
      have HCUR := Lib.hid hcur
      have z0 := H0.out.size
      clear hf hg hh ha hc hcell hcur
      go_enter Try.func36, Try.ntmps36
      go_wp2_with (go_at_call 51; refine HF.out.mono ?_; rintro e w' ⟨rfl, hb⟩; have HB := Lib.hid (H0.out.trans (hb.mono H0.out.size)); clear hb; have c0 := (HB.out.cell (p := ⟨b, q, none⟩) hbl).trans HC.out; have hpt := part_row _ g (o + pl l k) _ _ (block_kept HCUR.out HB.out))
      refine bodyPost_ret (v := .tuple #[ev (), .bool true]) (by simp [results, Try.results36, go_sem, ev]) rfl ⟨?_, ?_⟩
      · rfl
      exact HB.out
end Go.Proofs.Ytkoihpfgleboiaa.Tb.Su
