/-
  The contract of Peers; texts and numbers in rows of one's own. Conditions: at most a thousand CCPs.
-/
import Derived.Test.YtkoihpfgleboiaaRMake
namespace Go.Proofs.Ytkoihpfgleboiaa.Ro
open Go.RowKit Tb

def strs (L : List ByteArray) : List Value := L.map Value.string
def nums (L : List Int) : List Value := L.map (Value.int .i64)
theorem infoS : (Try.prog.info? 9).map (fun i => (i.zero, i.size, i.bytes)) = some (some (.string ByteArray.empty), 1, 16) := by kernel_rfl
theorem infoI : (Try.prog.info? 3).map (fun i => (i.zero, i.size, i.bytes)) = some (some (.int .i64 0), 1, 8) := by kernel_rfl
theorem one_new (w : World) (x : Value) (t : TypeId) : ∀ j v, ([x] : List Value)[j]? = some v → (w.alloc (.cells #[x] t)).cell? ((⟨w.heap.size, 0, none⟩ : Addr).add j) = some v := fun j v h => by
  match j, h with
  | 0, h =>
    simp only [List.getElem?_cons_zero, Option.some.injEq] at h
    subst h
    rw [Addr.add_lit, Nat.zero_add, cell_of_row _ _ _ _ _ _ (block_new w _)]; rfl
  | j + 1, h => simp at h
theorem below_grown {B : Nat} {w w1 : World} {v : Value} {base n : Nat} {e : TypeId} {size : Nat} {xs : List Value} {a : World} (h : Below B a w) (ho : w.ownsRow base e size v n xs) (hb : B ≤ base) (hs : B ≤ w.heap.size) (hg : w.grownBy w1 v.ownBlock) : Below B a w1 :=
  h.grown hg hs (fun j hj => Nat.le_trans hb (ho.lt j hj).1)
theorem own_base {w : World} {base base' n : Nat} {e : TypeId} {size : Nat} {v : Value} {xs : List Value} (h : w.ownsRow base e size v n xs) (hb : base' ≤ base) : w.ownsRow base' e size v n xs :=
  ⟨h.1, h.2.imp id fun ⟨g, cap, cur, e, h1, h2⟩ => ⟨g, cap, cur, e, Nat.le_trans hb h1, h2⟩⟩
theorem own_below {w w' : World} {base n : Nat} {e : TypeId} {size : Nat} {v : Value} {xs : List Value} (h : w.ownsRow base e size v n xs) (hb : Below w.heap.size w w') : w'.ownsRow base e size v n xs :=
  h.kept (row := none) ⟨hb.os, hb.tape, hb.output, hb.size, fun i hi _ => hb.block i hi⟩ (by
    rcases hv : v.ownBlock with _ | g
    · exact .inl rfl
    · exact .inr (by simp))

/-- The other CCPs below i. -/
def prL (k : Int) (i : Nat) : List Int := ((List.range i).map fun j : Nat => (j : Int)).filter fun x => decide (x ≠ k)
def peersL (n k : Int) : List Int := if nodeB n k = true then prL k n.toNat else []
theorem prL_step (k : Int) (i : Nat) : prL k (i + 1) = prL k i ++ if (i : Int) = k then [] else [(i : Int)] := by
  unfold prL
  rw [List.range_succ, List.map_append, List.filter_append]
  congr 1
  by_cases h : (i : Int) = k
  · simp [h]
  · simp [h]
theorem prL_len (k : Int) (i : Nat) : (prL k i).length ≤ i := by
  have := List.length_filter_le (fun x => decide (x ≠ k)) ((List.range i).map fun j : Nat => (j : Int))
  simpa [prL] using this

set_option maxRecDepth 100000 in
set_option maxHeartbeats 2000000 in
theorem peers_any (w : World) (p : Option Addr) (n k : Int) (I : List (ByteArray × Unit)) (M : List (ByteArray × Int)) (h : RosR w p n I M) (hn : n ≤ 1000) :
    Calls Try.prog 22 #[.pointer p, .int .i64 k] w fun e w' => ∃ v, e = .returned v ∧ w'.ownsRow w.heap.size 3 1 v (peersL n k).length (nums (peersL n k)) ∧ Below w.heap.size w w' := by
  have HN := Lib.hid (isNode_any w p n k I M h)
  obtain ⟨q, hq⟩ : ∃ q, q = nodeB n k := ⟨_, rfl⟩
  rw [← hq] at HN
  cases q
  · have hl : Hid (peersL n k = []) := by show _ = _; unfold peersL; rw [← hq]; rfl
    clear hq h
    go_enter Try.func22, Try.ntmps22
    go_wp2_with (go_at_call 37; refine HN.out.mono ?_; rintro e w1 ⟨rfl, hb1⟩; have HB1 := Lib.hid hb1; clear hb1)
    go_ret
    rw [hl.out]
    exact ⟨_, rfl, World.ownsRow_nil _ _ _ _, HB1.out⟩
  · have hl : Hid (peersL n k = prL k n.toNat) := by show _ = _; unfold peersL; rw [← hq]; rfl
    have hk : 0 ≤ k ∧ k < n := by simpa [nodeB] using hq.symm
    rcases h with ⟨_, rfl, _⟩ | ⟨b, rfl, hS⟩
    · omega
    obtain ⟨m, rfl⟩ : ∃ m : Nat, n = (m : Int) := ⟨n.toNat, by omega⟩
    have HS := Lib.hid hS
    have hm : m ≤ 1000 := by omega
    have hlt := hS.lt
    obtain ⟨i0, hi, hz0, hz1, hz2⟩ := info_parts infoI
    have HL : Hid (peersL (m : Int) k = prL k m) := by show _ = _; rw [hl.out]; congr 1
    clear hq hl hk hS hn
    go_enter Try.func22, Try.ntmps22
    go_wp2_with (go_at_call 37; refine HN.out.mono ?_; rintro e w1 ⟨rfl, hb1⟩; have HB1 := Lib.hid hb1; clear hb1; have c0 := (HS.out.below HB1.out).num)
    go_loopg [15, 5] m (fun (gh : Nat) si sv wx => ∃ i : Nat, gh = m - i ∧ i ≤ m ∧ si = .int .i64 (i : Int) ∧ Hid (wx.ownsRow w.heap.size 3 1 sv (prL k i).length (nums (prL k i)) ∧ Below w.heap.size w wx))
    case atStart => exact ⟨0, rfl, Nat.zero_le _, rfl, World.ownsRow_nil _ _ _ _, HB1.out⟩
    case round =>
      obtain ⟨i, rfl, him, rfl, hinv⟩ := hrel
      by_cases hlti : i < m
      · have t1 : (i : Int) < (m : Int) := by omega
        obtain ⟨v, hv⟩ : ∃ v, u5 = v := ⟨_, rfl⟩
        subst hv
        have HR := Lib.hid hinv.out.1
        have HB := Lib.hid hinv.out.2
        have hsz := hinv.out.2.size
        have hlen := prL_len k i
        have hst := prL_step k i
        obtain ⟨nn, hnn⟩ : ∃ nn, nn = (prL k i).length := ⟨_, rfl⟩
        rw [← hnn] at HR hlen
        have HNN := Lib.hid hnn
        clear hinv hnn
        by_cases hik : (i : Int) = k
        · rw [if_pos hik, List.append_nil] at hst
          have HST := Lib.hid hst
          have hne : ((i : Int) != k) = false := by simpa using hik
          clear hst hik
          go_wp2
          go_roundg (m - (i + 1))
          case measure => omega
          case rel => exact ⟨i + 1, rfl, by omega, by go_num, by rw [HST.out, ← HNN.out]; exact HR.out, HB.out⟩
        · rw [if_neg hik] at hst
          have HST := Lib.hid hst
          have hne : ((i : Int) != k) = true := by simpa using hik
          clear hst hik
          go_wp2_with (at_builtin; refine wpList_append_own _ rfl _ _ 37 rfl w.heap.size 3 i0 (.int .i64 0) 1 8 Try.underlying37 hi hz0 hz1 hz2 rfl (by decide) _ _ _ rfl (HR.out.alloc _) ⟨wr.heap.size, 0, none⟩ 1 1 [.int .i64 (i : Int)] rfl rfl (one_new _ _ _) (by simp [Value.oneCell']) (by unfold maxLen; omega) (by omega) (by simp; omega) ?_; intro v' w2 hown' hgrow hnil)
          have hb2 : Below w.heap.size w w2 := below_grown (HB.out.alloc hsz _) (HR.out.alloc _) (Nat.le_refl _) (by simp; omega) hgrow
          go_roundg (m - (i + 1))
          case measure => omega
          case rel => exact ⟨i + 1, rfl, by omega, by go_num, by rw [HST.out, List.length_append, ← HNN.out]; simpa [nums] using hown', hb2⟩
      · obtain rfl : i = m := by omega
        have HR := Lib.hid hinv.out.1
        have HB := Lib.hid hinv.out.2
        clear hinv
        go_wp2
        go_ret
        rw [HL.out]
        exact ⟨_, rfl, HR.out, HB.out⟩
end Go.Proofs.Ytkoihpfgleboiaa.Ro
