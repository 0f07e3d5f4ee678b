/-
  The contract of Get. Conditions: at most a thousand rows.
-/
import Derived.Test.YtganokcmcdkdgaaTRowIs
namespace Go.Proofs.Ytganokcmcdkdgaa.Tb.Is
open Go.RowKit

def zv : V := ByteArray.empty
def zk : K := (0 : Int)
def getL (l : List R) (k : K) : V := match l[pl l k]? with | some r => if r.1 = k then r.2 else zv | none => zv
theorem getL_has (l : List R) (k : K) (h : hasB l k = true) : l[pl l k]? = some (k, getL l k) := by
  obtain ⟨_, v, hv⟩ := has_lt l k h
  rw [hv]
  unfold getL
  rw [hv]
  simp
theorem getL_not (l : List R) (k : K) (h : hasB l k = false) : getL l k = zv := by
  unfold hasB at h
  unfold getL
  cases e : l[pl l k]? with
  | none => rfl
  | some r =>
    rw [e] at h
    have : ¬ r.1 = k := by simpa using h
    simp [this]

set_option maxRecDepth 100000 in
set_option maxHeartbeats 1000000 in
theorem get_any (w : World) (p : Option Addr) (l : List R) (k : K) (h : TabR w p l) (ha : asc l) (hn : l.length ≤ 1000) :
    Calls Try.prog 47 #[.pointer p, ek k] w fun e w' => e = .returned (.tuple #[ev (getL l k), .bool (hasB l k)]) ∧ Below w.heap.size w w' := by
  have hf := find_any w p l k h ha hn
  cases hh : hasB l k
  · have hg := getL_not l k hh
    rw [hh] at hf
    have HF := Lib.hid hf
    have HG := Lib.hid hg
    clear hf hg hh ha h
    go_enter Try.func47, Try.ntmps47
    go_wp2_with (go_at_call 51; refine HF.out.mono ?_; rintro e w' ⟨rfl, hb⟩)
    go_ret2
    rw [HG.out]
    exact ⟨rfl, hb⟩
  · have hg := getL_has l k hh
    have hlt := (has_lt l k hh).1
    rw [hh] at hf
    rcases h with ⟨rfl, rfl⟩ | ⟨b, v, rfl, hbl, hc, hr⟩
    · simp at hlt
    · obtain ⟨A, cap, rfl, _, _, h3⟩ := hr
      rcases h3 with ⟨rfl, rfl⟩ | ⟨g, o, rfl, hg0, hcell⟩
      · simp at hlt
      have hce := hcell _ _ hg
      have HF := Lib.hid hf
      have HC := Lib.hid hc
      have HCE := Lib.hid hce
      clear hf hg hh ha hc hce hcell
      go_enter Try.func47, Try.ntmps47
      go_wp2_with (go_at_call 51; refine HF.out.mono ?_; rintro e w' ⟨rfl, hb⟩; have c0 := (hb.cell (p := ⟨b, 4, none⟩) hbl).trans HC.out; have c1 := (hb.cell (p := ⟨g, o + pl l k * 2, none⟩) hg0).trans HCE.out.1; have c2 := (hb.cell (p := ⟨g, o + pl l k * 2 + 1, none⟩) hg0).trans HCE.out.2)
      go_ret2
      exact ⟨rfl, hb⟩

end Go.Proofs.Ytganokcmcdkdgaa.Tb.Is
