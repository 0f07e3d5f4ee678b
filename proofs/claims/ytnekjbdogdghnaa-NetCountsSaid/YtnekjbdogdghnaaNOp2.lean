/-
  The contracts of Lose, first, Double, bend, Bend, All. Conditions: those of the network; at most two million bytes.
-/
import Derived.Test.YtnekjbdogdghnaaNOps
namespace Go.Proofs.Ytnekjbdogdghnaa.Ne
open Go.RowKit Go.Conc Bx
open Fr (BAt bok)

/-- The first one of a way is gone. -/
def nextL (ls : List (List V)) (d : Int) : List (List V) := match wayF ls d with
  | some (_ :: r) => ls.set d.toNat r
  | _ => ls
def dblE (R : Nat) (ls : List (List V)) (d : Int) : Int := match wayF ls d with
  | none => 5
  | some [] => 13
  | some (x :: r) => if R ≤ (x :: r).length then 7 else 0
def dblL (R : Nat) (ls : List (List V)) (d : Int) : List (List V) := match wayF ls d with
  | some (x :: r) => if R ≤ (x :: r).length then ls else ls.set d.toNat (x :: r ++ [x])
  | _ => ls
def pbE (x : V) (at_ by_ : Int) : Int := if by_ = 0 ∨ at_ < 0 ∨ (x.1.size : Int) ≤ at_ then 1 else if x.2 = true then 10 else 0
def pbV (x : V) (at_ by_ : Int) : V := if pbE x at_ by_ = 0 then (strOf (Fr.bend (sb x.1) at_ by_), true) else (ByteArray.empty, false)
def bendE (ls : List (List V)) (d at_ by_ : Int) : Int := match wayF ls d with
  | none => 5
  | some [] => 13
  | some (x :: _) => pbE x at_ by_
def bendL (ls : List (List V)) (d at_ by_ : Int) : List (List V) := match wayF ls d with
  | some (x :: r) => if pbE x at_ by_ = 0 then ls.set d.toNat (r ++ [pbV x at_ by_]) else ls
  | _ => ls
theorem bad_eq {ls : List (List V)} {d : Int} (hm : mayF ls d ≠ 0) : nextL ls d = ls ∧ (∀ R, dblE R ls d = mayF ls d ∧ dblL R ls d = ls) ∧ (∀ a b, bendE ls d a b = mayF ls d ∧ bendL ls d a b = ls) := by
  unfold nextL dblE dblL bendE bendL
  unfold mayF at hm ⊢
  split
  · rename_i hw; rw [hw] at hm; exact absurd rfl hm
  · rename_i h1
    cases hw : wayF ls d with
    | none => exact ⟨rfl, fun _ => ⟨rfl, rfl⟩, fun _ _ => ⟨rfl, rfl⟩⟩
    | some l =>
      cases l with
      | nil => exact ⟨rfl, fun _ => ⟨rfl, rfl⟩, fun _ _ => ⟨rfl, rfl⟩⟩
      | cons x r => exact absurd hw (h1 x r)
section
variable {n0 p R g cp : Nat} {w w' : World} {ls : List (List V)} {lost : Int} {arr : Array Value} {bs : List (Nat × Nat)}
set_option maxRecDepth 100000 in
theorem nlose_any (h : NetB n0 w p R ls lost g cp arr bs) (d : Int) (h1 : -4611686018427387904 ≤ lost) (h2 : lost ≤ 4611686018427387904) : Calls Try.prog 18 #[.pointer (some ⟨p, 0, none⟩), .int .i64 d] w fun e w' => e = .returned (.int .i64 (mayF ls d)) ∧ NetB n0 w' p R (nextL ls d) (if mayF ls d = 0 then lost + 1 else lost) g cp arr bs ∧ Ch n0 w w' := by
  by_cases hm : mayF ls d = 0
  · obtain ⟨i, x, r, rfl, hw, hl⟩ := mayF_zero hm
    have e1 : nextL ls (i : Int) = ls.set i r := by unfold nextL; rw [hw]; simp
    rw [hm, e1, if_pos rfl]
    clear hm hw e1
    have HN := Lib.hid (next_ok h hl)
    have HL : Hid (∀ W, NetB n0 W p R (ls.set i r) lost g cp arr bs → Calls Try.prog 31 #[.pointer (some ⟨p, 0, none⟩), .int .i64 1] W fun e w' => e = .returned (.tuple #[]) ∧ NetB n0 w' p R (ls.set i r) (lost + 1) g cp arr bs ∧ Ch n0 W w') := fun W hW => lose_any hW 1 h1 h2 (by omega)
    clear h hl h1 h2
    go_enter Try.func18, Try.ntmps18
    go_wp2_with (first
      | (go_at_call 13; refine HN.out.mono ?_; rintro e w1 ⟨u, rfl, _, n1, c1⟩; have N1 := Lib.hid n1; have C1 := Lib.hid c1; clear n1 c1)
      | (go_at_call 31; refine (HL.out _ N1.out).mono ?_; rintro e w2 ⟨rfl, n2, c2⟩; have N2 := Lib.hid n2; have C2 := Lib.hid c2; clear n2 c2))
    go_ret
    exact ⟨rfl, N2.out, C1.out.trans C2.out⟩
  · rw [(bad_eq hm).1, if_neg hm]
    have H := Lib.hid (next_bad h hm)
    obtain ⟨m, hmm⟩ : ∃ m, m = mayF ls d := ⟨_, rfl⟩
    rw [← hmm] at H hm ⊢
    have HN := Lib.hid h
    clear h hmm h1 h2
    go_enter Try.func18, Try.ntmps18
    go_wp2_with (go_at_call 13; refine H.out.mono ?_; rintro e w1 ⟨rfl, k1⟩)
    go_ret
    exact ⟨rfl, HN.out.below k1, .of_below k1⟩
/-- The first one of a way that has one. -/
theorem first_any (h : NetB n0 w p R ls lost g cp arr bs) {i : Nat} {b : Nat × Nat} {x : V} {r : List V} (hb : bs[i]? = some b) (hl : ls[i]? = some (x :: r)) : Calls Try.prog 36 #[.agg #[.pointer (some ⟨b.1, 0, none⟩)]] w fun e w' => e = .returned (.agg #[.string x.1, .bool x.2]) ∧ (NetB n0 w' p R ls lost g cp arr bs ∧ Ch n0 w w') ∧ w.grownBy w' (some b.2) := by
  obtain ⟨b', hb', hx, hr⟩ := h.at_ hl
  rw [hb] at hb'
  cases hb'
  have hR := h.le.1
  have lb : b.2 < w.heap.size := hx.lt.2.2
  have k0 : Below w.heap.size w ((w.alloc (.cells #[.pointer (some ⟨b.1, 0, none⟩)] 67)).alloc (.cells #[.string ByteArray.empty, .bool false] 65)) := ((Below.refl _ _).alloc (Nat.le_refl _) _).alloc (by simp) _
  obtain ⟨x1, x2⟩ := x
  obtain ⟨s, rr, q, q0, q1, q2, q3, q4, q5⟩ := hx
  have HA := Lib.hid (all_q n0 _ b.1 b.2 R s rr ((x1, x2) :: r) q q0 (block_kept q3 k0) (block_kept q4 k0) (fun e he => ⟨(q5 e he).1, block_kept (q5 e he).2 k0⟩) hr (by omega))
  have HF : Hid (∀ W s' r', w.grownBy W (some b.2) → W.heap[b.2]? = some (.chan R (ptrs q) false s' r' false) → NetB n0 W p R ls lost g cp arr bs ∧ Ch n0 w W) := fun W s' r' hg hc => by
    have := h.set hb hl hg (box_of q1 q2 q3 q4 q5 hg hc (fun _ h => h) q0) hr
    have e : ls.set i ((x1, x2) :: r) = ls := by
      obtain ⟨hi, he⟩ := List.getElem?_eq_some_iff.1 hl
      rw [← he]; exact List.set_getElem_self hi
    rwa [e] at this
  have K0 : Hid (∀ W, ((w.alloc (.cells #[.pointer (some ⟨b.1, 0, none⟩)] 67)).alloc (.cells #[.string ByteArray.empty, .bool false] 65)).grownBy W (some b.2) → w.grownBy W (some b.2)) := fun W hW => grownBy_trans (grownBy_of_below _ k0) hW
  have z := block_new (w.alloc (.cells #[.pointer (some ⟨b.1, 0, none⟩)] 67)) (.cells #[.string ByteArray.empty, .bool false] 65)
  have Z := Lib.hid z
  have LB : Hid ((w.alloc (.cells #[.pointer (some ⟨b.1, 0, none⟩)] 67)).heap.size ≠ b.2) := (by show _ ≠ _; simp; omega)
  obtain ⟨b1, b2⟩ := b
  clear h hb hl hr hR k0 z lb q0 q1 q2 q3 q4 q5
  have t0 : (0 : Int) < ((((x1, x2) :: r).length : Nat) : Int) := by simp
  go_enter Try.func36, Try.ntmps36
  go_wp2_with (go_at_call 38; refine HA.out.mono ?_; rintro e w2 ⟨v, rfl, ho, ⟨s', r', hB⟩, hg⟩
               obtain ⟨g2, c2, rfl⟩ : ∃ g c, v = Value.slice (some ⟨g, 0, none⟩) ((x1, x2) :: r).length c := (by
                 rcases ho.2 with ⟨_, h2⟩ | ⟨g, c, cur, h2, _⟩
                 · simp at h2
                 · exact ⟨g, c, h2⟩)
               have r0 := ho.cells (g := g2) rfl 0 (.string x1) rfl
               have r1 := ho.cells (g := g2) rfl 1 (.bool x2) rfl
               rw [show (Addr.mk g2 0 none).add 0 = ⟨g2, 0, none⟩ by unfold Addr.add; split <;> simp_all] at r0
               rw [show (Addr.mk g2 0 none).add 1 = ⟨g2, 1, none⟩ by unfold Addr.add; split <;> simp_all] at r1
               obtain ⟨⟨z0, z1⟩, f0, f1⟩ := block_cell2 (block_grown Z.out hg LB.out)
               simp only [World.size_alloc] at z0 z1 f0 f1
               have HG := Lib.hid hg
               have HB := Lib.hid hB
               clear ho hg hB)
  refine bodyPost_ret (v := .agg #[.string x1, .bool x2]) (by simp [results, Try.results36, go_sem, z0, z1]) rfl ⟨rfl, ?_⟩
  have G : w.grownBy ((w2.setCell ⟨w.heap.size + 1, 0, none⟩ (.string x1)).setCell ⟨w.heap.size + 1, 1, none⟩ (.bool x2)) (some b2) := grownBy_setCell (grownBy_setCell (K0.out _ HG.out) (by omega) _ _) (by omega) _ _
  have ne : b2 ≠ w.heap.size + 1 := by have := LB.out; simp at this; omega
  exact ⟨HF.out _ s' r' G (by rw [Deep.blk_setCell_other _ _ _ _ ne, Deep.blk_setCell_other _ _ _ _ ne]; exact HB.out), G⟩
end
end Go.Proofs.Ytnekjbdogdghnaa.Ne
