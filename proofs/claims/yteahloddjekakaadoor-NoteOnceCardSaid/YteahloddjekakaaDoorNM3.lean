/-
  Notes as values and as blocks; the table of kinds; the contracts of isKind, isPrice, unless, Word, Message and of the reference's What and Word. Conditions: where the table is read: it holds what the program's text lays.
-/
import Derived.Test.YteahloddjekakaaDoorNM2
import Derived.BigQuiet
namespace Go.Proofs.YteahloddjekakaaDoor.Nt
open Go.RowKit Td

abbrev Rw := ByteArray × Int
/-- A note without its rows. -/
structure Nt where
  k : Int
  p : Int
  d : Int
  t : Tr
  n : ByteArray
  a : Int
  hi : Int
  lo : Int

/-- The fourteen cells of a block. -/
theorem blk14 {w : World} {b : Nat} {x0 x1 x2 x3 x4 x5 x6 x7 x8 x9 x10 x11 x12 x13 : Value} {t : TypeId} (h : w.heap[b]? = some (.cells #[x0, x1, x2, x3, x4, x5, x6, x7, x8, x9, x10, x11, x12, x13] t (0, 0))) :
    (w.cell? ⟨b, 0, none⟩ = some x0 ∧ w.cell? ⟨b, 1, none⟩ = some x1 ∧ w.cell? ⟨b, 2, none⟩ = some x2 ∧ w.cell? ⟨b, 3, none⟩ = some x3 ∧ w.cell? ⟨b, 4, none⟩ = some x4 ∧ w.cell? ⟨b, 5, none⟩ = some x5 ∧ w.cell? ⟨b, 6, none⟩ = some x6) ∧
    w.cell? ⟨b, 7, none⟩ = some x7 ∧ w.cell? ⟨b, 8, none⟩ = some x8 ∧ w.cell? ⟨b, 9, none⟩ = some x9 ∧ w.cell? ⟨b, 10, none⟩ = some x10 ∧ w.cell? ⟨b, 11, none⟩ = some x11 ∧ w.cell? ⟨b, 12, none⟩ = some x12 ∧ w.cell? ⟨b, 13, none⟩ = some x13 :=
  ⟨⟨by rw [cell_of_row w b 0 _ _ _ h]; rfl, by rw [cell_of_row w b 1 _ _ _ h]; rfl, by rw [cell_of_row w b 2 _ _ _ h]; rfl, by rw [cell_of_row w b 3 _ _ _ h]; rfl, by rw [cell_of_row w b 4 _ _ _ h]; rfl, by rw [cell_of_row w b 5 _ _ _ h]; rfl, by rw [cell_of_row w b 6 _ _ _ h]; rfl⟩,
    by rw [cell_of_row w b 7 _ _ _ h]; rfl, by rw [cell_of_row w b 8 _ _ _ h]; rfl, by rw [cell_of_row w b 9 _ _ _ h]; rfl, by rw [cell_of_row w b 10 _ _ _ h]; rfl, by rw [cell_of_row w b 11 _ _ _ h]; rfl, by rw [cell_of_row w b 12 _ _ _ h]; rfl, by rw [cell_of_row w b 13 _ _ _ h]; rfl⟩
theorem fro14 {w : World} {b : Nat} {cs : Array Value} {t : TypeId} (h : w.heap[b]? = some (.cells cs t (0, 0))) (j : Nat) : w.frozen? ⟨b, j, none⟩ = false := by simp [World.frozen?, h]
/-- The seven cells of a block. -/
theorem blk7 {w : World} {b : Nat} {x0 x1 x2 x3 x4 x5 x6 : Value} {t : TypeId} (h : w.heap[b]? = some (.cells #[x0, x1, x2, x3, x4, x5, x6] t (0, 0))) :
    w.cell? ⟨b, 0, none⟩ = some x0 ∧ w.cell? ⟨b, 1, none⟩ = some x1 ∧ w.cell? ⟨b, 2, none⟩ = some x2 ∧ w.cell? ⟨b, 3, none⟩ = some x3 ∧ w.cell? ⟨b, 4, none⟩ = some x4 ∧ w.cell? ⟨b, 5, none⟩ = some x5 ∧ w.cell? ⟨b, 6, none⟩ = some x6 :=
  ⟨by rw [cell_of_row w b 0 _ _ _ h]; rfl, by rw [cell_of_row w b 1 _ _ _ h]; rfl, by rw [cell_of_row w b 2 _ _ _ h]; rfl, by rw [cell_of_row w b 3 _ _ _ h]; rfl, by rw [cell_of_row w b 4 _ _ _ h]; rfl, by rw [cell_of_row w b 5 _ _ _ h]; rfl, by rw [cell_of_row w b 6 _ _ _ h]; rfl⟩

/-! ### Kinds -/
def kwB : Nat → ByteArray
  | 1 => ⟨#[97, 99, 99, 101, 112, 116]⟩
  | 2 => ⟨#[99, 117, 116]⟩
  | 3 => ⟨#[112, 114, 105, 99, 101]⟩
  | 4 => ⟨#[115, 101, 116, 116, 108, 101]⟩
  | 5 => ⟨#[112, 111, 115, 116]⟩
  | 6 => ⟨#[99, 97, 108, 108]⟩
  | 7 => ⟨#[97, 110, 115, 119, 101, 114]⟩
  | 8 => ⟨#[115, 116, 111, 112]⟩
  | 9 => ⟨#[108, 101, 103]⟩
  | 10 => ⟨#[109, 97, 114, 107]⟩
  | 11 => ⟨#[114, 101, 112, 111, 114, 116]⟩
  | 12 => ⟨#[104, 97, 108, 116]⟩
  | _ => ⟨#[]⟩
/-- What a kind asks for. -/
def kp (k : Nat) : Bool := decide (8 ≤ k)
def kd (k : Nat) : Bool := decide (k = 4) || (decide (9 ≤ k) && decide (k ≤ 11))
def kt (k : Nat) : Bool := decide (k = 1) || decide (k = 9)
def kn (k : Nat) : Bool := decide (k = 3) || (decide (5 ≤ k) && decide (k ≤ 7))
def ka (k : Nat) : Bool := decide (k = 3) || (decide (5 ≤ k) && decide (k ≤ 6))
def kr (k : Nat) : Bool := decide (k = 10) || decide (k = 11)
def kc (k : Nat) : Bool := decide (k = 11)
/-- The table of kinds lies as the program's text lays it. -/
def KinC (w : World) : Prop := 0 < w.heap.size ∧ ∀ k, k ≤ 12 → w.cell? ⟨0, k * 8, none⟩ = some (.string (kwB k)) ∧ w.cell? ⟨0, k * 8 + 1, none⟩ = some (.bool (kp k)) ∧ w.cell? ⟨0, k * 8 + 2, none⟩ = some (.bool (kd k)) ∧ w.cell? ⟨0, k * 8 + 3, none⟩ = some (.bool (kt k)) ∧
  w.cell? ⟨0, k * 8 + 4, none⟩ = some (.bool (kn k)) ∧ w.cell? ⟨0, k * 8 + 5, none⟩ = some (.bool (ka k)) ∧ w.cell? ⟨0, k * 8 + 6, none⟩ = some (.bool (kr k)) ∧ w.cell? ⟨0, k * 8 + 7, none⟩ = some (.bool (kc k))
theorem KinC.block {w w' : World} (h : KinC w) (hs : w.heap.size ≤ w'.heap.size) (h0 : w'.heap[0]? = w.heap[0]?) : KinC w' := by
  have hc : ∀ j, w'.cell? ⟨0, j, none⟩ = w.cell? ⟨0, j, none⟩ := fun j => by simp only [World.cell?]; rw [h0]
  refine ⟨Nat.lt_of_lt_of_le h.1 hs, fun k hk => ?_⟩
  simp only [hc]
  exact h.2 k hk
theorem KinC.below {w w' : World} {B : Nat} (h : KinC w) (hb : Below B w w') (hB : 0 < B) : KinC w' := h.block hb.size (hb.block 0 hB)
theorem KinC.kept {w w' : World} (h : KinC w) (hb : Below w.heap.size w w') : KinC w' := h.below hb h.1
theorem KinC.drew {w : World} (h : KinC w) : KinC w.drew := h.kept (Below.refl _ _).drew
theorem KinC.alloc {w : World} (h : KinC w) (o : Obj) : KinC (w.alloc o) := h.kept ((Below.refl _ _).alloc (Nat.le_refl _) _)

/-- Is it a kind? -/
def isK (k : Int) : Bool := decide (1 ≤ k) && decide (k ≤ 12)
theorem isK_yes {k : Int} (h : isK k = true) : ∃ m : Nat, k = (m : Int) ∧ 1 ≤ m ∧ m ≤ 12 := by
  simp only [isK, Bool.and_eq_true, decide_eq_true_eq] at h
  exact ⟨k.toNat, by omega, by omega, by omega⟩
theorem isK_no {k : Int} (h : isK k = false) : k < 1 ∨ (¬ k < 1 ∧ 12 < k) := by
  simp only [isK, Bool.and_eq_false_iff, decide_eq_false_iff_not] at h
  omega
theorem isK_nat {m : Nat} (h1 : 1 ≤ m) (h2 : m ≤ 12) : isK (m : Int) = true := by
  simp only [isK, Bool.and_eq_true, decide_eq_true_eq]; omega

set_option maxRecDepth 100000 in
theorem isKind_any (w : World) (k : Int) {r : Bool} (hr : Hid (r = isK k)) : Calls Tryd.prog 25 #[.int .i64 k] w fun e w' => e = .returned (.bool r) ∧ w = w' := by
  obtain ⟨b1, h1⟩ : ∃ b, decide (1 ≤ k) = b := ⟨_, rfl⟩
  obtain ⟨b2, h2⟩ : ∃ b, decide (k ≤ 12) = b := ⟨_, rfl⟩
  have HR : Hid (r = (b1 && b2)) := by show _ = _; rw [hr.out]; unfold isK; rw [h1, h2]
  clear hr
  cases b1
  · have e1 := of_decide_eq_false h1
    obtain rfl : r = false := HR.out
    go_enter Tryd.func25, Tryd.ntmps25
    go_wp2
    go_ret
    exact ⟨rfl, rfl⟩
  · have e1 := of_decide_eq_true h1
    obtain rfl : r = b2 := HR.out
    go_enter Tryd.func25, Tryd.ntmps25
    go_wp2
    go_ret
    exact ⟨rfl, rfl⟩
/-- May it be a price? -/
def isP (n : Int) : Bool := decide (0 ≤ n) && decide (n < 2147483648)
set_option maxRecDepth 100000 in
theorem isPrice_any (w : World) (n : Int) {r : Bool} (hr : Hid (r = isP n)) : Calls Tryd.prog 59 #[.int .i64 n] w fun e w' => e = .returned (.bool r) ∧ w = w' := by
  obtain ⟨b1, h1⟩ : ∃ b, decide (0 ≤ n) = b := ⟨_, rfl⟩
  obtain ⟨b2, h2⟩ : ∃ b, decide (n < 2147483648) = b := ⟨_, rfl⟩
  have HR : Hid (r = (b1 && b2)) := by show _ = _; rw [hr.out]; unfold isP; rw [h1, h2]
  clear hr
  cases b1
  · have e1 := of_decide_eq_false h1
    obtain rfl : r = false := HR.out
    go_enter Tryd.func59, Tryd.ntmps59
    go_wp2
    go_ret
    exact ⟨rfl, rfl⟩
  · have e1 := of_decide_eq_true h1
    obtain rfl : r = b2 := HR.out
    go_enter Tryd.func59, Tryd.ntmps59
    go_wp2
    go_ret
    exact ⟨rfl, rfl⟩
def unl (b : Bool) (e : Int) : Int := if b = true then 0 else e
set_option maxRecDepth 100000 in
theorem unless_any (w : World) (b : Bool) (x : Int) {r : Int} (hr : Hid (r = unl b x)) : Calls Tryd.prog 28 #[.bool b, .int .i64 x] w fun e w' => e = .returned (.int .i64 r) ∧ w = w' := by
  cases b
  · obtain rfl : r = x := hr.out
    go_enter Tryd.func28, Tryd.ntmps28
    go_wp2
    go_ret
    exact ⟨rfl, rfl⟩
  · obtain rfl : r = 0 := hr.out
    go_enter Tryd.func28, Tryd.ntmps28
    go_wp2
    go_ret
    exact ⟨rfl, rfl⟩
/-- A kind's word. -/
def wordB (k : Int) : ByteArray := if isK k = true then kwB k.toNat else ⟨#[]⟩
set_option maxRecDepth 100000 in
theorem word_any (w : World) (hk : KinC w) (k : Int) {s : ByteArray} (hs : Hid (s = wordB k)) : Calls Tryd.prog 13 #[.int .i64 k] w fun e w' => e = .returned (.string s) ∧ w = w' := by
  cases hb : isK k
  · obtain rfl : s = ⟨#[]⟩ := by rw [hs.out]; unfold wordB; rw [hb]; rfl
    have HI := Lib.hid fun W => isKind_any W k (Lib.hid hb.symm)
    clear hb hk
    go_enter Tryd.func13, Tryd.ntmps13
    go_wp2_with (go_at_call 25; (with_reducible refine (HI.out _).mono ?_); rintro e w1 ⟨rfl, rfl⟩)
    go_ret
    exact ⟨rfl, rfl⟩
  · have HI := Lib.hid fun W => isKind_any W k (Lib.hid hb.symm)
    obtain rfl : s = kwB k.toNat := by rw [hs.out]; unfold wordB; rw [hb]; rfl
    obtain ⟨m, rfl, h1, h2⟩ := isK_yes hb
    have hc := (hk.2 m h2).1
    rw [Int.toNat_natCast]
    have h3 : (m : Int) < 13 := by omega
    have h4 : (0 : Int) ≤ (m : Int) := by omega
    clear hb hk hs
    go_enter Tryd.func13, Tryd.ntmps13
    go_wp2_with (go_at_call 25; (with_reducible refine (HI.out _).mono ?_); rintro e w1 ⟨rfl, rfl⟩)
    go_ret
    exact ⟨rfl, rfl⟩
end Go.Proofs.YteahloddjekakaaDoor.Nt

namespace Go.Proofs.YteahloddjekakaaDoor.Nt
open Go.RowKit Td

/-- The address A begins the rows l. -/
def RR (w : World) (A : Option Addr) (l : List Rw) : Prop := l = [] ∨ ∃ g o, A = some ⟨g, o, none⟩ ∧ g < w.heap.size ∧ ∀ i m, l[i]? = some m → w.cell? ⟨g, o + i * 2, none⟩ = some (.string m.1) ∧ w.cell? ⟨g, o + i * 2 + 1, none⟩ = some (.int .i64 m.2)
theorem RR.below {w w' : World} {A : Option Addr} {l : List Rw} (h : RR w A l) (hb : Below w.heap.size w w') : RR w' A l := by
  rcases h with rfl | ⟨g, o, e, hg, hc⟩
  · exact .inl rfl
  · exact .inr ⟨g, o, e, Nat.lt_of_lt_of_le hg hb.size, fun i m hi => by
      have := hc i m hi
      exact ⟨(hb.cell (p := ⟨g, o + i * 2, none⟩) hg).trans this.1, (hb.cell (p := ⟨g, o + i * 2 + 1, none⟩) hg).trans this.2⟩⟩
theorem RR.drew {w : World} {A : Option Addr} {l : List Rw} (h : RR w A l) : RR w.drew A l := h.below (Below.refl _ _).drew
theorem RR.nil (w : World) (A : Option Addr) : RR w A [] := .inl rfl
theorem RR.take {w : World} {A : Option Addr} {l : List Rw} (h : RR w A l) (k : Nat) : RR w A (l.take k) := by
  rcases h with rfl | ⟨g, o, e, hg, hc⟩
  · exact .inl (by simp)
  · exact .inr ⟨g, o, e, hg, fun i s hi => hc i s (by rw [List.getElem?_take] at hi; split at hi; exact hi; cases hi)⟩
theorem RR.at {w : World} {A : Option Addr} {l : List Rw} (h : RR w A l) {i : Nat} {m : Rw} (hi : l[i]? = some m) : ∃ g o, A = some ⟨g, o, none⟩ ∧ g < w.heap.size ∧ w.cell? ⟨g, o + i * 2, none⟩ = some (.string m.1) ∧ w.cell? ⟨g, o + i * 2 + 1, none⟩ = some (.int .i64 m.2) := by
  rcases h with rfl | ⟨g, o, e, hg, hc⟩
  · simp at hi
  · exact ⟨g, o, e, hg, (hc i m hi).1, (hc i m hi).2⟩
/-- Rows as cells. -/
def rcl (l : List Rw) : List Value := l.flatMap fun m => [.string m.1, .int .i64 m.2]
theorem rcl_append (a b : List Rw) : rcl (a ++ b) = rcl a ++ rcl b := by simp [rcl]
theorem rcl_len : ∀ l : List Rw, (rcl l).length = l.length * 2
  | [] => rfl
  | m :: l => by
    have := rcl_len l
    show ([_, _] ++ rcl l).length = _
    simp; omega
theorem rcl_get : ∀ (l : List Rw) (i : Nat) (m : Rw), l[i]? = some m → (rcl l)[i * 2]? = some (.string m.1) ∧ (rcl l)[i * 2 + 1]? = some (.int .i64 m.2)
  | [], _, _, h => by simp at h
  | a :: l, 0, m, h => by simp at h; subst h; exact ⟨rfl, rfl⟩
  | a :: l, i + 1, m, h => by
    have := rcl_get l i m (by simpa using h)
    show ([_, _] ++ rcl l)[_]? = _ ∧ ([_, _] ++ rcl l)[_]? = _
    rw [show (i + 1) * 2 = i * 2 + 1 + 1 by omega]
    simpa using this
theorem rcl_one (l : List Rw) : ∀ u ∈ rcl l, u.oneCell' = true := fun u hu => by
  obtain ⟨r, _, h⟩ := List.mem_flatMap.1 hu
  simp at h
  rcases h with rfl | rfl <;> rfl
theorem RR.of_own {w : World} {base t : Nat} {v : Value} {l : List Rw} (h : w.ownsRow base t 2 v l.length (rcl l)) : ∃ A cap, v = .slice A l.length cap ∧ RR w A l ∧ l.length ≤ cap := by
  rcases h.2 with ⟨rfl, h0⟩ | ⟨g, cap, cur, rfl, _, hh, hc, _, hs, ht⟩
  · obtain rfl : l = [] := List.length_eq_zero_iff.1 h0
    exact ⟨none, 0, rfl, .inl rfl, Nat.le_refl _⟩
  · refine ⟨_, cap, rfl, .inr ⟨g, 0, rfl, (Array.getElem?_eq_some_iff.1 hh).1, fun i m hi => ?_⟩, hc⟩
    have hlt : i < l.length := (List.getElem?_eq_some_iff.1 hi).1
    have hc := rcl_get l i m hi
    rw [← ht, List.getElem?_take, if_pos (by omega), List.getElem?_take, if_pos (by omega)] at hc
    rw [Nat.zero_add, cell_of_row _ g (i * 2) _ _ _ hh, cell_of_row _ g (i * 2 + 1) _ _ _ hh]
    simpa using hc

/-! ### Do the names rise? -/
def srtB : List Rw → Bool
  | a :: b :: r => ltS a.1 b.1 && srtB (b :: r)
  | _ => true
theorem srt_step {l : List Rw} {i : Nat} {a b : Rw} (h1 : l[i]? = some a) (h2 : l[i + 1]? = some b) : srtB (l.drop i) = (ltS a.1 b.1 && srtB (l.drop (i + 1))) := by
  obtain ⟨k1, rfl⟩ := List.getElem?_eq_some_iff.1 h1
  obtain ⟨k2, rfl⟩ := List.getElem?_eq_some_iff.1 h2
  rw [List.drop_eq_getElem_cons k1, List.drop_eq_getElem_cons k2]
  rfl
theorem srt_end {l : List Rw} {i : Nat} (h : l.length ≤ i + 1) : srtB (l.drop i) = true := by
  have hl : (l.drop i).length ≤ 1 := by rw [List.length_drop]; omega
  match h2 : l.drop i with
  | [] => rfl
  | [_] => rfl
  | _ :: _ :: _ => rw [h2] at hl; simp at hl
end Go.Proofs.YteahloddjekakaaDoor.Nt

namespace Go.Proofs.YteahloddjekakaaDoor.Nt
open Go.RowKit Td

theorem eq_step {l m : List Rw} {i : Nat} {x y : Rw} (h1 : l[i]? = some x) (h2 : m[i]? = some y) : decide (l.drop i = m.drop i) = ((x.1.toList == y.1.toList) && ((x.2 == y.2) && decide (l.drop (i + 1) = m.drop (i + 1)))) := by
  obtain ⟨k1, rfl⟩ := List.getElem?_eq_some_iff.1 h1
  obtain ⟨k2, rfl⟩ := List.getElem?_eq_some_iff.1 h2
  rw [List.drop_eq_getElem_cons k1, List.drop_eq_getElem_cons k2, beqS, Bool.eq_iff_iff]
  simp only [decide_eq_true_eq, List.cons.injEq, Prod.ext_iff, Bool.and_eq_true, beq_iff_eq, and_assoc]
theorem eq_end {l m : List Rw} {i : Nat} (h : l.length = m.length) (hi : l.length ≤ i) : decide (l.drop i = m.drop i) = true := by
  rw [List.drop_eq_nil_of_le hi, List.drop_eq_nil_of_le (by omega)]; rfl
theorem eq_len {l m : List Rw} (h : ¬ l.length = m.length) : decide (l = m) = false := decide_eq_false fun e => h (by rw [e])

set_option maxRecDepth 100000 in
set_option maxHeartbeats 4000000 in
theorem sEqual_any (w : World) (A B : Option Addr) (n c n' c' : Nat) (l m : List Rw) (hl : Hid (RR w A l)) (hn : Hid (n = l.length)) (hl' : Hid (RR w B m)) (hn' : Hid (n' = m.length)) (hm : n ≤ 1000) {r : Bool} (hr : Hid (r = decide (l = m))) :
    Calls Tryd.prog 55 #[.slice A n c, .slice B n' c'] w fun e w' => e = .returned (.bool r) ∧ Below w.heap.size w w' := by
  by_cases hnn : n = n'
  · subst hnn
    have hlen : l.length = m.length := by rw [← hn.out, ← hn'.out]
    go_enter Tryd.func55, Tryd.ntmps55
    go_wp2
    go_loopg [13] n (fun (gh : Nat) si wx => ∃ i : Nat, gh = n - i ∧ i ≤ n ∧ si = .int .i64 (i : Int) ∧ Hid (Below w.heap.size w wx) ∧ Hid (r = decide (l.drop i = m.drop i)))
    case atStart => exact ⟨0, by omega, by omega, rfl, Below.refl _ _, by show _ = _; rw [hr.out, List.drop_zero, List.drop_zero]⟩
    case round =>
      obtain ⟨i, rfl, hi, rfl, HB, HS⟩ := hrel
      by_cases hlt : i < n
      · have t1 : (i : Int) < (n : Int) := by omega
        have t2 : (0 : Int) ≤ (i : Int) := by omega
        obtain ⟨x, hx⟩ : ∃ x, l[i]? = some x := ⟨_, List.getElem?_eq_getElem (by rw [← hn.out]; exact hlt)⟩
        obtain ⟨y, hy⟩ : ∃ y, m[i]? = some y := ⟨_, List.getElem?_eq_getElem (by rw [← hn'.out]; exact hlt)⟩
        have hstep := eq_step hx hy
        obtain ⟨g, o, rfl, hg, cx, dx⟩ := (hl.out.below HB.out).at hx
        obtain ⟨g', o', rfl, hg', cy, dy⟩ := (hl'.out.below HB.out).at hy
        obtain ⟨b1, h1⟩ : ∃ b, (x.1.toList == y.1.toList) = b := ⟨_, rfl⟩
        obtain ⟨b2, h2⟩ : ∃ b, (x.2 == y.2) = b := ⟨_, rfl⟩
        rw [h1, h2] at hstep
        have HX : Hid (r = (b1 && (b2 && decide (l.drop (i + 1) = m.drop (i + 1))))) := by show _ = _; rw [HS.out, hstep]
        clear hstep hx hy HS hlen
        cases b1
        · obtain rfl : r = false := HX.out
          clear HX
          go_wp2
          go_quiet (fail)
          go_wp2
          go_ret
          exact ⟨rfl, Id.below_drewN HB.out _⟩
        · cases b2
          · obtain rfl : r = false := HX.out
            clear HX
            go_wp2
            go_quiet (fail)
            go_wp2
            go_ret
            exact ⟨rfl, Id.below_drewN HB.out _⟩
          · have HX' : Hid (r = decide (l.drop (i + 1) = m.drop (i + 1))) := HX
            clear HX
            go_wp2
            go_quiet (fail)
            go_wp2
            go_roundg (n - (i + 1))
            case measure => omega
            case rel => exact ⟨i + 1, rfl, by omega, by go_num, Id.below_drewN HB.out _, HX'⟩
      · have hq := eq_end (i := i) hlen (by rw [← hn.out]; omega)
        obtain rfl : r = true := by rw [HS.out, hq]
        clear hq hlen
        go_wp2
        go_ret
        exact ⟨rfl, HB.out⟩
  · obtain rfl : r = false := by rw [hr.out]; exact eq_len (by rw [← hn.out, ← hn'.out]; exact hnn)
    have t1 : ((n : Int) != (n' : Int)) = true := by simp; omega
    clear hn hn'
    go_enter Tryd.func55, Tryd.ntmps55
    go_wp2
    go_ret
    exact ⟨rfl, Below.refl _ _⟩
end Go.Proofs.YteahloddjekakaaDoor.Nt
