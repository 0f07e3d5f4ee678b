/-
  How many packets are on their way behind each call, and how great they are. Conditions: none.
-/
import Derived.Test.YtnekjbdogdghnaaNOpen
import Derived.Test.YtnekjbdogdghnaaNBig
namespace Go.Proofs.Ytnekjbdogdghnaa.Ne
open Go.RowKit Go.Conc Bx
open Fr (BAt bok bv)

def tot (ls : List (List V)) : Nat := (ls.map List.length).sum
def Fit (ls : List (List V)) : Prop := ∀ l ∈ ls, ∀ x ∈ l, x.1.size ≤ 140737488351232
theorem tot_set : ∀ (ls : List (List V)) (i : Nat) (l l' : List V), ls[i]? = some l → tot (ls.set i l') + l.length = tot ls + l'.length
  | [], i, l, l', h => by simp at h
  | a :: r, 0, l, l', h => by simp at h; subst h; simp [tot]; omega
  | a :: r, i + 1, l, l', h => by
    have ih := tot_set r i l l' (by simpa using h)
    simp [tot] at ih ⊢
    omega
theorem fit_set {ls : List (List V)} {i : Nat} {l' : List V} (h : Fit ls) (h' : ∀ x ∈ l', x.1.size ≤ 140737488351232) : Fit (ls.set i l') := fun l hl => by
  rcases List.mem_or_eq_of_mem_set hl with h1 | h1
  · exact h l h1
  · rw [h1]; exact h'
/-- What the calls of the law make of it: as many ways, small packets, so many more and so many fewer. -/
def Got (ls ls' : List (List V)) (up dn : Nat) : Prop := ls'.length = ls.length ∧ Fit ls' ∧ tot ls' + dn = tot ls + up
theorem got_same {ls : List (List V)} (h : Fit ls) : Got ls ls 0 0 := ⟨rfl, h, rfl⟩
theorem got_set {ls : List (List V)} (h : Fit ls) {i up dn : Nat} {l l' : List V} (hl : ls[i]? = some l) (h' : ∀ x ∈ l', x.1.size ≤ 140737488351232) (hn : l'.length + dn = l.length + up) : Got ls (ls.set i l') up dn :=
  ⟨by simp, fit_set h h', by have := tot_set ls i l l' hl; omega⟩
theorem got_send {ls : List (List V)} (h : Fit ls) (R : Nat) (d : Int) (ts : List (List Int)) (ht : ∀ t ∈ ts, t.length ≤ 140737488351232) : Got ls (sendL R ls d ts) (sendN R ls d ts.length) 0 := by
  unfold sendL sendN
  cases hw : wayF ls d with
  | none => exact got_same h
  | some l =>
    obtain ⟨i, rfl, hl, _⟩ := wayF_some hw
    refine got_set h hl (fun x hx => ?_) ?_
    · rcases List.mem_append.1 hx with h1 | h1
      · exact h l (List.mem_of_getElem? hl) x h1
      · obtain ⟨t, ht', rfl⟩ := List.mem_map.1 h1
        show (strOf t).size ≤ _
        rw [strOf_len]; exact ht t (List.mem_of_mem_take ht')
    · simp [news, sendK]
theorem got_next {ls : List (List V)} (h : Fit ls) (d : Int) : Got ls (nextL ls d) 0 (if mayF ls d = 0 then 1 else 0) := by
  by_cases hm : mayF ls d = 0
  · obtain ⟨i, x, r, rfl, hw, hl⟩ := mayF_zero hm
    have e1 : nextL ls (i : Int) = ls.set i r := by unfold nextL; rw [hw]; simp
    rw [e1, if_pos hm]
    exact got_set h hl (fun y hy => h _ (List.mem_of_getElem? hl) y (List.mem_cons_of_mem _ hy)) (by simp)
  · rw [(bad_eq hm).1, if_neg hm]; exact got_same h
theorem got_turn {ls : List (List V)} (h : Fit ls) (d : Int) : Got ls (turnL ls d) 0 0 := by
  unfold turnL
  split
  · rename_i x r hw
    obtain ⟨i, rfl, hl, _⟩ := wayF_some hw
    have hf := h _ (List.mem_of_getElem? hl)
    refine got_set h hl (fun y hy => ?_) (by simp)
    rcases List.mem_append.1 hy with h1 | h1
    · exact hf y (List.mem_cons_of_mem _ h1)
    · rw [List.mem_singleton.1 h1]; exact hf x (List.mem_cons_self ..)
  · exact got_same h
theorem got_double {ls : List (List V)} (h : Fit ls) (R : Nat) (d : Int) : Got ls (dblL R ls d) (if dblE R ls d = 0 then 1 else 0) 0 := by
  unfold dblL dblE
  cases hw : wayF ls d with
  | none => exact got_same h
  | some l =>
    cases l with
    | nil => exact got_same h
    | cons x r =>
      obtain ⟨i, rfl, hl, _⟩ := wayF_some hw
      have hf := h _ (List.mem_of_getElem? hl)
      by_cases hR : R ≤ (x :: r).length
      · simp only [if_pos hR]; exact got_same h
      · simp only [if_neg hR]
        refine got_set h hl (fun y hy => ?_) (by simp)
        rcases List.mem_append.1 hy with h1 | h1
        · exact hf y h1
        · rw [List.mem_singleton.1 h1]; exact hf x (List.mem_cons_self ..)
theorem pbV_size {x : V} {a b : Int} (h : pbE x a b = 0) : (pbV x a b).1.size = x.1.size := by
  unfold pbV
  rw [if_pos h]
  show (strOf _).size = _
  rw [strOf_len, Fr.bend_len, sb_len]
theorem got_bend {ls : List (List V)} (h : Fit ls) (d a b : Int) : Got ls (bendL ls d a b) 0 0 := by
  unfold bendL
  split
  · rename_i x r hw
    obtain ⟨i, rfl, hl, _⟩ := wayF_some hw
    have hf := h _ (List.mem_of_getElem? hl)
    by_cases hp : pbE x a b = 0
    · rw [if_pos hp]
      refine got_set h hl (fun y hy => ?_) (by simp)
      rcases List.mem_append.1 hy with h1 | h1
      · exact hf y (List.mem_cons_of_mem _ h1)
      · rw [List.mem_singleton.1 h1, pbV_size hp]; exact hf x (List.mem_cons_self ..)
    · rw [if_neg hp]; exact got_same h
  · exact got_same h
theorem tot_three {ls : List (List V)} (h : ls.length = 3) : ∃ a b c, ls[0]? = some a ∧ ls[1]? = some b ∧ ls[2]? = some c ∧ tot ls = a.length + b.length + c.length := by
  match ls, h with
  | [a, b, c], _ => exact ⟨a, b, c, rfl, rfl, rfl, by simp [tot]; omega⟩
/-- What is known behind i rounds. -/
def CS (w W : World) (i P G : Nat) (ls : List (List V)) (lost : Int) : Prop := ∃ g cp arr bs, NetB w.heap.size W w.heap.size 20 ls lost g cp arr bs ∧ (ls.length = 3 ∧ Fit ls ∧ tot ls + G = P ∧ P ≤ 10 * i) ∧ (0 ≤ lost ∧ lost ≤ 10 * (i : Int)) ∧ Below w.heap.size w W
section
variable {w W W' : World} {i P G : Nat} {ls : List (List V)} {lost : Int}
theorem CS.step {ls' : List (List V)} {lost' : Int} {up dn g cp : Nat} {arr : Array Value} {bs : List (Nat × Nat)} (h : CS w W i P G ls lost) (hg : Got ls ls' up dn) (hu : up ≤ 10) (hl : lost ≤ lost' ∧ lost' ≤ lost + 10) (hn : NetB w.heap.size W' w.heap.size 20 ls' lost' g cp arr bs) (hc : Ch w.heap.size W W') : CS w W' (i + 1) (P + up) (G + dn) ls' lost' := by
  obtain ⟨_, _, _, _, h1, ⟨h2, h3, h4, h5⟩, h6, h7⟩ := h
  obtain ⟨k1, k2, k3⟩ := hg
  exact ⟨g, cp, arr, bs, hn, ⟨by omega, k2, by omega, by omega⟩, by omega, h7.trans (hc.below h7.size)⟩
theorem CS.below (h : CS w W i P G ls lost) (hb : Below W.heap.size W W') : CS w W' i P G ls lost := by
  obtain ⟨g, cp, arr, bs, h1, h2, h6, h7⟩ := h
  exact ⟨g, cp, arr, bs, h1.below hb, h2, h6, h7.trans (hb.mono h7.size)⟩
theorem CS.lostc (h : CS w W i P G ls lost) : Calls Try.prog 27 #[.pointer (some ⟨w.heap.size, 0, none⟩)] W fun e w' => e = .returned (.int .i64 lost) ∧ W = w' := by
  obtain ⟨g, cp, arr, bs, h1, _⟩ := h
  exact lost_any h1
theorem CS.len (h : CS w W i P G ls lost) {j : Nat} {l : List V} (hl : ls[j]? = some l) : Calls Try.prog 26 #[.pointer (some ⟨w.heap.size, 0, none⟩), .int .i64 (j : Int)] W fun e w' => e = .returned (.int .i64 (l.length : Int)) ∧ CS w w' i P G ls lost := by
  obtain ⟨g, cp, arr, bs, h1, _⟩ := id h
  exact (nLen_yes h1 hl).mono fun e w' ⟨k1, k2⟩ => ⟨k1, h.below k2⟩
theorem CS.send (h : CS w W i P G ls lost) (hi : i < 80) (d : Int) (A : Option Addr) (m c : Nat) (ts : List (List Int)) (hm : ts.length = m) (hs : SFr w.heap.size W (.slice A m c) ts) (h10 : m ≤ 10) (ht : ∀ t ∈ ts, t.length ≤ 140737488351232) : Calls Try.prog 12 #[.pointer (some ⟨w.heap.size, 0, none⟩), .int .i64 d, .slice A m c] W fun e w' => ∃ (k : Nat) (ls' : List (List V)), e = .returned (.int .i64 (k : Int)) ∧ k ≤ m ∧ CS w w' (i + 1) (P + k) G ls' (lost + ((m : Int) - (k : Int))) := by
  obtain ⟨g, cp, arr, bs, h1, ⟨_, h3, _⟩, h6, _⟩ := id h
  have hg := got_send h3 20 d ts ht
  rw [hm] at hg
  have hk : sendN 20 ls d m ≤ m := by
    unfold sendN
    split
    · unfold sendK; omega
    · omega
  exact (nSend_any h1 d A m c ts hm hs (by omega) (by omega) (by omega)).mono fun e w' ⟨k1, k2, k3⟩ => ⟨_, _, k1, hk, h.step hg (by omega) (by omega) k2 k3⟩
theorem CS.next (h : CS w W i P G ls lost) (d : Int) : Calls Try.prog 13 #[.pointer (some ⟨w.heap.size, 0, none⟩), .int .i64 d] W fun e w' => ∃ u m ls', e = .returned (.tuple #[u, .int .i64 m]) ∧ CS w w' (i + 1) P (G + if m = 0 then 1 else 0) ls' lost := by
  obtain ⟨g, cp, arr, bs, h1, ⟨_, h3, _⟩, h6, _⟩ := id h
  have hg := got_next h3 d
  by_cases hm : mayF ls d = 0
  · obtain ⟨j, x, r, rfl, hw, hl⟩ := mayF_zero hm
    have e1 : nextL ls (j : Int) = ls.set j r := by unfold nextL; rw [hw]; simp
    rw [e1, if_pos hm] at hg
    exact (next_ok h1 hl).mono fun e w' ⟨u, k1, _, k2, k3⟩ => ⟨u, 0, _, k1, h.step hg (by omega) (by omega) k2 k3⟩
  · rw [(bad_eq hm).1, if_neg hm] at hg
    exact (next_bad h1 hm).mono fun e w' ⟨k1, k2⟩ => ⟨_, _, _, k1, by rw [if_neg hm]; exact h.step hg (by omega) (by omega) (h1.below k2) (.of_below k2)⟩
theorem CS.turn (h : CS w W i P G ls lost) (d : Int) : Calls Try.prog 16 #[.pointer (some ⟨w.heap.size, 0, none⟩), .int .i64 d] W fun e w' => ∃ m ls', e = .returned (.int .i64 m) ∧ CS w w' (i + 1) P G ls' lost := by
  obtain ⟨g, cp, arr, bs, h1, ⟨_, h3, _⟩, h6, _⟩ := id h
  exact (turn_any h1 d).mono fun e w' ⟨k1, k2, k3⟩ => ⟨_, _, k1, h.step (got_turn h3 d) (by omega) (by omega) k2 k3⟩
theorem CS.lose (h : CS w W i P G ls lost) (hi : i < 80) (d : Int) : Calls Try.prog 18 #[.pointer (some ⟨w.heap.size, 0, none⟩), .int .i64 d] W fun e w' => e = .returned (.int .i64 (mayF ls d)) ∧ CS w w' (i + 1) P (G + if mayF ls d = 0 then 1 else 0) (nextL ls d) (if mayF ls d = 0 then lost + 1 else lost) := by
  obtain ⟨g, cp, arr, bs, h1, ⟨_, h3, _⟩, h6, _⟩ := id h
  exact (nlose_any h1 d (by omega) (by omega)).mono fun e w' ⟨k1, k2, k3⟩ => ⟨k1, h.step (got_next h3 d) (by omega) (by split <;> omega) k2 k3⟩
theorem CS.double (h : CS w W i P G ls lost) (d : Int) : Calls Try.prog 20 #[.pointer (some ⟨w.heap.size, 0, none⟩), .int .i64 d] W fun e w' => e = .returned (.int .i64 (dblE 20 ls d)) ∧ CS w w' (i + 1) (P + if dblE 20 ls d = 0 then 1 else 0) G (dblL 20 ls d) lost := by
  obtain ⟨g, cp, arr, bs, h1, ⟨_, h3, _⟩, h6, _⟩ := id h
  exact (double_any h1 d).mono fun e w' ⟨k1, k2, k3⟩ => ⟨k1, h.step (got_double h3 20 d) (by split <;> omega) (by omega) k2 k3⟩
theorem CS.bend (h : CS w W i P G ls lost) (d a b : Int) (hb : 0 ≤ b ∧ b < 256) : Calls Try.prog 22 #[.pointer (some ⟨w.heap.size, 0, none⟩), .int .i64 d, .int .i64 a, .int .u8 b] W fun e w' => ∃ m ls', e = .returned (.int .i64 m) ∧ CS w w' (i + 1) P G ls' lost := by
  obtain ⟨g, cp, arr, bs, h1, ⟨_, h3, _⟩, h6, _⟩ := id h
  exact (nbend_big h1 d a b hb h3).mono fun e w' ⟨k1, k2, k3⟩ => ⟨_, _, k1, h.step (got_bend h3 d a b) (by omega) (by omega) k2 k3⟩
end
/-- Slices of bytes, the first so many. -/
theorem SFr.take {n0 : Nat} {w : World} {A : Option Addr} {q c : Nat} {ts : List (List Int)} (h : SFr n0 w (.slice A q c) ts) (m : Nat) (hm : m ≤ q) : SFr n0 w (.slice A m c) (ts.take m) := by
  obtain ⟨A', c', e, h2, h3⟩ := h
  cases e
  have hl : (ts.take m).length = m := by rw [List.length_take]; omega
  refine ⟨A, c, by rw [hl], by rw [hl]; omega, fun hp => ?_⟩
  rw [hl] at hp
  obtain ⟨g, o, h5, h6, h7⟩ := h3 (by omega)
  refine ⟨g, o, h5, h6, fun i l hi => h7 i l ?_⟩
  have hi2 := (List.getElem?_eq_some_iff.1 hi).1
  rw [hl] at hi2
  rw [List.getElem?_take_of_lt (by omega)] at hi
  exact hi
theorem slice_bb (A : Option Addr) (n cap q : Nat) (h : q ≤ cap) : ∀ W : World, (Instr.slice 33 (.slice A n cap) none (some (.int .i64 (q : Int))) none).run Try.prog W = .ok (.slice A q cap) W := fun W => by
  cases A with
  | none => simp [Instr.slice, Instr.sliceBounds, Instr.sliceBound, asIntOf, run_underlying Try.underlying33, h]
  | some a =>
    obtain ⟨g, o, f⟩ := a
    simp [Instr.slice, Instr.sliceBounds, Instr.sliceBound, asIntOf, run_underlying Try.underlying33, h]
    try (unfold Addr.add; simp)
end Go.Proofs.Ytnekjbdogdghnaa.Ne
