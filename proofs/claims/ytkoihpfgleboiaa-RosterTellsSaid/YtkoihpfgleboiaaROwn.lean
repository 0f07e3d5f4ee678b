/-
  A roster in memory; the contracts of roster's small methods: orEmpty, Nodes, Home, Has, isNode. Conditions: at most a thousand rows.
-/
import Derived.Test.YtkoihpfgleboiaaRGetSi
import Derived.Test.YtkoihpfgleboiaaRGetSu
import Derived.Lib.MinMax
namespace Go.Proofs.Ytkoihpfgleboiaa.Ro
open Go.RowKit Tb

/-- A roster lies in block b. -/
def RosS (w : World) (b : Nat) (n : Int) (I : List (ByteArray × Unit)) (M : List (ByteArray × Int)) : Prop :=
  ∃ v1 v2, w.heap[b]? = some (.cells #[.int .i64 n, v1, v2] 77 (0, 0)) ∧ Su.RowsR w v1 I ∧ Si.RowsR w v2 M
/-- The pointer p reads as a roster. -/
def RosR (w : World) (p : Option Addr) (n : Int) (I : List (ByteArray × Unit)) (M : List (ByteArray × Int)) : Prop :=
  (p = none ∧ n = 0 ∧ I = [] ∧ M = []) ∨ ∃ b, p = some ⟨b, 0, none⟩ ∧ RosS w b n I M
theorem RosS.below {w w' : World} {b : Nat} {n : Int} {I : List (ByteArray × Unit)} {M : List (ByteArray × Int)} (h : RosS w b n I M) (hb : Below w.heap.size w w') : RosS w' b n I M :=
  let ⟨v1, v2, h1, h2, h3⟩ := h
  ⟨v1, v2, block_kept h1 hb, h2.below hb, h3.below hb⟩
theorem RosR.below {w w' : World} {p : Option Addr} {n : Int} {I : List (ByteArray × Unit)} {M : List (ByteArray × Int)} (h : RosR w p n I M) (hb : Below w.heap.size w w') : RosR w' p n I M :=
  h.imp id fun ⟨b, e, h⟩ => ⟨b, e, h.below hb⟩
theorem RosS.lt {w : World} {b : Nat} {n : Int} {I : List (ByteArray × Unit)} {M : List (ByteArray × Int)} (h : RosS w b n I M) : b < w.heap.size :=
  let ⟨_, _, h1, _⟩ := h
  (Array.getElem?_eq_some_iff.1 h1).1
theorem RosS.num {w : World} {b : Nat} {n : Int} {I : List (ByteArray × Unit)} {M : List (ByteArray × Int)} (h : RosS w b n I M) : w.cell? ⟨b, 0, none⟩ = some (.int .i64 n) := by
  obtain ⟨v1, v2, h1, _⟩ := h
  rw [cell_of_row _ _ _ _ _ _ h1]; rfl
theorem RosS.isins {w : World} {b : Nat} {n : Int} {I : List (ByteArray × Unit)} {M : List (ByteArray × Int)} (h : RosS w b n I M) : Su.TabR w (some ⟨b, 1, none⟩) I := by
  obtain ⟨v1, v2, h1, h2, _⟩ := h
  exact .inr ⟨b, 1, v1, rfl, (Array.getElem?_eq_some_iff.1 h1).1, by rw [cell_of_row _ _ _ _ _ _ h1]; rfl, h2⟩
theorem RosS.homes {w : World} {b : Nat} {n : Int} {I : List (ByteArray × Unit)} {M : List (ByteArray × Int)} (h : RosS w b n I M) : Si.TabR w (some ⟨b, 2, none⟩) M := by
  obtain ⟨v1, v2, h1, _, h3⟩ := h
  exact .inr ⟨b, 2, v2, rfl, (Array.getElem?_eq_some_iff.1 h1).1, by rw [cell_of_row _ _ _ _ _ _ h1]; rfl, h3⟩
/-- The empty roster. -/
theorem RosS.new (w : World) (o : Obj) (ho : o = .cells #[.int .i64 0, .slice none 0 0, .slice none 0 0] 77) : RosS (w.alloc o) w.heap.size 0 [] [] := by
  subst ho
  exact ⟨_, _, block_new w _, Su.RowsR.nil _, Si.RowsR.nil _⟩

set_option maxRecDepth 100000 in
theorem orEmpty_none (w : World) : Calls Try.prog 32 #[.pointer none] w fun e w' => e = .returned (.pointer (some ⟨w.heap.size, 0, none⟩)) ∧ w' = w.alloc (.cells #[.int .i64 0, .slice none 0 0, .slice none 0 0] 77) := by
  go_enter Try.func32, Try.ntmps32
  go_wp2
  go_ret
  exact ⟨rfl, rfl⟩
set_option maxRecDepth 100000 in
theorem orEmpty_some (w : World) (b : Nat) : Calls Try.prog 32 #[.pointer (some ⟨b, 0, none⟩)] w fun e w' => e = .returned (.pointer (some ⟨b, 0, none⟩)) ∧ w = w' := by
  go_enter Try.func32, Try.ntmps32
  go_wp2
  go_ret
  exact ⟨rfl, rfl⟩
theorem orEmpty_any (w : World) (p : Option Addr) (n : Int) (I : List (ByteArray × Unit)) (M : List (ByteArray × Int)) (h : RosR w p n I M) :
    Calls Try.prog 32 #[.pointer p] w fun e w' => ∃ b, e = .returned (.pointer (some ⟨b, 0, none⟩)) ∧ RosS w' b n I M ∧ Below w.heap.size w w' := by
  rcases h with ⟨rfl, rfl, rfl, rfl⟩ | ⟨b, rfl, h⟩
  · refine (orEmpty_none w).mono ?_
    rintro e w' ⟨rfl, rfl⟩
    exact ⟨_, rfl, RosS.new w _ rfl, (Below.refl _ _).alloc (Nat.le_refl _) _⟩
  · refine (orEmpty_some w b).mono ?_
    rintro e w' ⟨rfl, rfl⟩
    exact ⟨b, rfl, h, Below.refl _ _⟩

/-- Is that number a CCP's? -/
def nodeB (n k : Int) : Bool := decide (0 ≤ k) && decide (k < n)
def errB (b : Bool) : Int := if b = true then 0 else 5

set_option maxRecDepth 100000 in
theorem nodes_any (w : World) (p : Option Addr) (n : Int) (I : List (ByteArray × Unit)) (M : List (ByteArray × Int)) (h : RosR w p n I M) :
    Calls Try.prog 11 #[.pointer p] w fun e w' => e = .returned (.int .i64 n) ∧ Below w.heap.size w w' := by
  have HO := Lib.hid (orEmpty_any w p n I M h)
  clear h
  go_enter Try.func11, Try.ntmps11
  go_wp2_with (go_at_call 32; refine HO.out.mono ?_; rintro e w1 ⟨b, rfl, hS, hb⟩; have c0 := hS.num)
  go_ret
  exact ⟨rfl, hb⟩
set_option maxRecDepth 100000 in
theorem isNode_any (w : World) (p : Option Addr) (n k : Int) (I : List (ByteArray × Unit)) (M : List (ByteArray × Int)) (h : RosR w p n I M) :
    Calls Try.prog 37 #[.pointer p, .int .i64 k] w fun e w' => e = .returned (.bool (nodeB n k)) ∧ Below w.heap.size w w' := by
  have HO := Lib.hid (nodes_any w p n I M h)
  clear h
  by_cases h1 : (0 : Int) ≤ k
  · have hr : Hid (nodeB n k = decide (k < n)) := by show _ = _; unfold nodeB; rw [decide_eq_true h1]; rfl
    go_enter Try.func37, Try.ntmps37
    go_wp2_with (go_at_call 11; refine HO.out.mono ?_; rintro e w1 ⟨rfl, hb⟩)
    go_ret
    exact ⟨ret_bool hr.out.symm, hb⟩
  · have hr : Hid (nodeB n k = false) := by show _ = _; unfold nodeB; rw [decide_eq_false h1]; rfl
    go_enter Try.func37, Try.ntmps37
    go_wp2
    go_ret
    exact ⟨ret_bool hr.out.symm, Below.refl _ _⟩
set_option maxRecDepth 100000 in
theorem home_any (w : World) (p : Option Addr) (n : Int) (I : List (ByteArray × Unit)) (M : List (ByteArray × Int)) (s : ByteArray) (h : RosR w p n I M) (ha : asc M) (hn : M.length ≤ 1000) :
    Calls Try.prog 12 #[.pointer p, .string s] w fun e w' => e = .returned (.tuple #[.int .i64 (Si.getL M s), .int .i64 (errB (hasB M s))]) ∧ Below w.heap.size w w' := by
  have HO := Lib.hid (orEmpty_any w p n I M h)
  have HG : Hid (∀ w1 b, RosS w1 b n I M → Calls Try.prog 33 #[.pointer (some ⟨b, 2, none⟩), .string s] w1 fun e w' => e = .returned (.tuple #[.int .i64 (Si.getL M s), .bool (hasB M s)]) ∧ Below w1.heap.size w1 w') := fun w1 b hS =>
    Si.get_any w1 _ M s hS.homes ha hn
  have HZ := Lib.hid (Si.getL_not M s)
  clear h ha hn
  obtain ⟨q, hq⟩ : ∃ q, q = hasB M s := ⟨_, rfl⟩
  obtain ⟨g, hg⟩ : ∃ g, g = Si.getL M s := ⟨_, rfl⟩
  rw [← hq, ← hg] at HG HZ ⊢
  clear hq hg
  cases q
  · have hz : Hid (g = 0) := HZ.out rfl
    go_enter Try.func12, Try.ntmps12
    go_wp2_with (first
      | (go_at_call 32; refine HO.out.mono ?_; rintro e w1 ⟨b, rfl, hS, hb⟩; have HS := Lib.hid hS; clear hS)
      | (go_at_call 33; refine (HG.out _ _ HS.out).mono ?_; rintro e w2 ⟨rfl, hb2⟩))
    go_ret2
    rw [hz.out]
    exact ⟨rfl, hb.trans (hb2.mono hb.size)⟩
  · go_enter Try.func12, Try.ntmps12
    go_wp2_with (first
      | (go_at_call 32; refine HO.out.mono ?_; rintro e w1 ⟨b, rfl, hS, hb⟩; have HS := Lib.hid hS; clear hS)
      | (go_at_call 33; refine (HG.out _ _ HS.out).mono ?_; rintro e w2 ⟨rfl, hb2⟩))
    go_ret2
    exact ⟨rfl, hb.trans (hb2.mono hb.size)⟩
set_option maxRecDepth 100000 in
theorem has_any (w : World) (p : Option Addr) (n : Int) (I : List (ByteArray × Unit)) (M : List (ByteArray × Int)) (s : ByteArray) (h : RosR w p n I M) (ha : asc I) (hn : I.length ≤ 1000) :
    Calls Try.prog 19 #[.pointer p, .string s] w fun e w' => e = .returned (.bool (hasB I s)) ∧ Below w.heap.size w w' := by
  have HO := Lib.hid (orEmpty_any w p n I M h)
  have HG : Hid (∀ w1 b, RosS w1 b n I M → Calls Try.prog 36 #[.pointer (some ⟨b, 1, none⟩), .string s] w1 fun e w' => e = .returned (.tuple #[.agg #[], .bool (hasB I s)]) ∧ Below w1.heap.size w1 w') := fun w1 b hS =>
    Su.get_any w1 _ I s hS.isins ha hn
  clear h ha hn
  go_enter Try.func19, Try.ntmps19
  go_wp2_with (first
    | (go_at_call 32; refine HO.out.mono ?_; rintro e w1 ⟨b, rfl, hS, hb⟩; have HS := Lib.hid hS; clear hS)
    | (go_at_call 36; refine (HG.out _ _ HS.out).mono ?_; rintro e w2 ⟨rfl, hb2⟩))
  go_ret
  exact ⟨rfl, (hb.trans (hb2.mono hb.size)).alloc (hb.trans (hb2.mono hb.size)).size _⟩
end Go.Proofs.Ytkoihpfgleboiaa.Ro
