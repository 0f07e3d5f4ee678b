/-
  The fixed question. Conditions: none.
-/
import Derived.Test.YtklngdmpledgeaaPB16
import Derived.Test.YtklngdmpledgeaaSWri
import Derived.Test.YtklngdmpledgeaaPB17
import Derived.Lib.SlBytesConst
import Derived.Laws.IdiomStrings
import Derived.Lib.BufferRead
namespace Go.Proofs.Ytklngdmpledgeaa.Sr
open Go.RowKit Fr

def u8s (l : List Int) : List UInt8 := l.map fun x => UInt8.ofNat x.toNat
def strOf (l : List Int) : ByteArray := ⟨(u8s l).toArray⟩
theorem conv_any {w : World} {u : Value} {l : List Int} (h : BAt w u l) (hb : bok l) : (convert 32 9 u).run Try.prog w = .ok (.string (strOf l)) w := by
  obtain ⟨A, cap, rfl, _, hc⟩ := h
  have hl : (u8s l).length = l.length := by simp [u8s]
  cases A with
  | none =>
    cases l with
    | nil => exact Lib.run_convert_nil_bytes w 32 9 5 cap Try.underlying32 Try.underlying5 Try.underlying9
    | cons x r => obtain ⟨g, o, h1, _⟩ := hc (by simp); cases h1
  | some a =>
    have := run_convert_bytes_back (P := Try.prog) w 32 9 5 a cap (u8s l) Try.underlying32 Try.underlying5 Try.underlying9 (fun j hj => by
      rw [hl] at hj
      obtain ⟨g, o, h1, _, h3⟩ := hc (by omega)
      cases h1
      rw [show (Addr.mk g o none).add j = ⟨g, o + j, none⟩ by unfold Addr.add; split <;> simp_all, h3 j hj]
      have hx : l.getD j 0 = l[j] := by simp [List.getD, List.getElem?_eq_getElem hj]
      have := hb l[j] (List.getElem_mem hj)
      rw [hx]
      simp [u8s]
      omega)
    rw [hl] at this
    exact this
/-- Bytes that lie in no block of T. -/
def Free (T : Nat → Prop) (v : Value) : Prop := ∀ a n c, v = .slice (some a) n c → ¬ T a.block
theorem bat_off {T : Nat → Prop} {w w' : World} {v : Value} {l : List Int} (h : BAt w v l) (ho : Off T w w') (hf : Free T v) : BAt w' v l := by
  obtain ⟨A, cap, rfl, h2, h3⟩ := h
  refine ⟨A, cap, rfl, h2, fun hp => ?_⟩
  obtain ⟨g, o, h4, h5, h6⟩ := h3 hp
  refine ⟨g, o, h4, Nat.lt_of_lt_of_le h5 ho.1.size, fun i hi => ?_⟩
  subst h4
  rw [World.cell?_of_block (w := w) (ho.2 g h5 (hf _ _ _ rfl))]; exact h6 i hi
theorem own_nil {p i : Nat} (h : own p none [] i) : i = p := by
  rcases h with h | h | ⟨x, hx, _⟩
  · exact h
  · cases h
  · cases hx
/-- A row that was laid behind a store's blocks is free of them. -/
theorem free_new {w w' : World} {p : Nat} {s : S} {mb : Option Nat} {L : List Fi} {v : Value} {n : Nat} {xs : List Value} (h : StR w p s mb L) (ho : w'.ownsRow w.heap.size 5 1 v n xs) : Free (own p mb L) v := by
  rintro a m c rfl hi
  have := (ho.lt a.block rfl).1
  have := own_lt h hi
  omega

theorem Arm_any (w : World) (p : Nat) (s : S) (mb : Option Nat) (L : List Fi) (n : Int) (h : StR w p s mb L) (hn : n ≤ 9223372036854775807) :
    Calls Try.prog 25 #[.pointer (some ⟨p, 0, none⟩), .int .i64 n] w fun e w' => e = .returned (.tuple #[]) ∧ Mv w w' p mb L (armS s n) mb L := by
  refine (Arm_own w p s mb n h.blk).mono ?_
  rintro e w' ⟨rfl, ho⟩
  exact ⟨rfl, Mv.of_own h ho rfl rfl fun e => ⟨of_decide_eq_true e, hn⟩⟩
theorem Revive_any (w : World) (p : Nat) (s : S) (mb : Option Nat) (L : List Fi) (h : StR w p s mb L) :
    Calls Try.prog 26 #[.pointer (some ⟨p, 0, none⟩)] w fun e w' => e = .returned (.tuple #[]) ∧ Mv w w' p mb L { s with a := false, n := 0, d := false } mb L := by
  refine (Revive_own w p s mb h.blk).mono ?_
  rintro e w' ⟨rfl, ho⟩
  exact ⟨rfl, Mv.of_own h ho rfl rfl fun e => by cases e⟩
theorem new_any (w : World) (n : Int) (h0 : 0 ≤ n) (h1 : n ≤ 1048576) :
    Calls Try.prog 14 #[.int .i64 n] w fun e w' => e = .returned (.tuple #[.pointer (some ⟨w.heap.size, 0, none⟩), .int .i64 0]) ∧ StR w' w.heap.size ⟨false, 0, false, n, 0⟩ none [] ∧ Below w.heap.size w w' ∧ w.heap.size < w'.heap.size := by
  refine (new_ok w n h0 h1).mono ?_
  rintro e w' ⟨rfl, rfl⟩
  exact ⟨rfl, ⟨block_new _ _, rfl, fun x hx => (by cases hx), List.Pairwise.nil, List.Pairwise.nil, rfl, ⟨h0, h1⟩, fun e => by cases e⟩, (Below.refl _ _).alloc (Nat.le_refl _) _, by simp⟩

/-- Bytes that the call has laid ahead of a change. -/
theorem lit_free {w : World} {p : Nat} {s : S} {mb : Option Nat} {L : List Fi} (h : StR w p s mb L) (l : List Int) (fr : Nat × Nat) :
    StR (w.alloc (.cells (bv l).toArray 5 fr)) p s mb L ∧ ∀ w', Off (own p mb L) (w.alloc (.cells (bv l).toArray 5 fr)) w' → BAt w' (.slice (some ⟨w.heap.size, 0, none⟩) l.length l.length) l := by
  refine ⟨h.below ((Below.refl _ _).alloc (Nat.le_refl _) _), fun w' ho => bat_off (lit_at w l fr) ho ?_⟩
  rintro a n c e hi
  cases e
  have := own_lt h hi
  exact absurd this (Nat.lt_irrefl _)
theorem mv_alloc {w w' : World} {o : Obj} {p : Nat} {mb mb' : Option Nat} {L L' : List Fi} {s s' : S} (hs : StR w p s mb L) (h : Mv (w.alloc o) w' p mb L s' mb' L') : Mv w w' p mb L s' mb' L' :=
  (Mv.of_below hs ((Below.refl _ _).alloc (Nat.le_refl _) _)).trans h

theorem okLog : rdy false [({ data := #[108, 111, 103] } : ByteArray)] = 0 := by decide

theorem k_app1 (w : World) (p : Nat) (h : StR w p ⟨true, 2, false, 10, 0⟩ none []) :
    Calls Try.prog 15 #[.pointer (some ⟨p, 0, none⟩), .string ({ data := #[108, 111, 103] } : ByteArray), .slice (some ⟨w.heap.size, 0, none⟩) 3 3] (w.alloc (.cells #[.int .u8 97, .int .u8 98, .int .u8 99] 5 (3, 4))) fun e w' =>
      e = .returned (.int .i64 14) ∧ ∃ mb v, Mv w w' p none [] ⟨true, 0, true, 10, 2⟩ mb [(({ data := #[108, 111, 103] } : ByteArray), v, [97, 98])] := by
  obtain ⟨h1, h2⟩ := lit_free h [97, 98, 99] (3, 4)
  have := append_put _ p _ none [] ({ data := #[108, 111, 103] } : ByteArray) _ 3 3 [97, 98, 99] 2 h1 okLog (by decide) (by decide) rfl (by simp [useN]) (by decide) h2
  refine this.mono ?_
  rintro e w' ⟨rfl, mb', v', hm⟩
  exact ⟨by simp [useS, dwn], mb', v', mv_alloc h hm⟩
theorem k_app2 (w : World) (p : Nat) (mb : Option Nat) (v : Value) (h : StR w p ⟨false, 0, false, 10, 2⟩ mb [(({ data := #[108, 111, 103] } : ByteArray), v, [97, 98])]) :
    Calls Try.prog 15 #[.pointer (some ⟨p, 0, none⟩), .string ({ data := #[108, 111, 103] } : ByteArray), .slice (some ⟨w.heap.size, 0, none⟩) 1 1] (w.alloc (.cells #[.int .u8 99] 5 (1, 2))) fun e w' =>
      e = .returned (.int .i64 0) ∧ ∃ mb' v', Mv w w' p mb [(({ data := #[108, 111, 103] } : ByteArray), v, [97, 98])] ⟨false, 0, false, 10, 3⟩ mb' [(({ data := #[108, 111, 103] } : ByteArray), v', [97, 98, 99])] := by
  obtain ⟨h1, h2⟩ := lit_free h [99] (1, 2)
  have := append_put _ p _ mb _ ({ data := #[108, 111, 103] } : ByteArray) _ 1 1 [99] 1 h1 okLog (by decide) (by decide) rfl (by simp [useN]) (by decide) h2
  refine this.mono ?_
  rintro e w' ⟨rfl, mb', v', hm⟩
  refine ⟨by simp [useS, dwn], mb', v', ?_⟩
  have e2 : putL [(({ data := #[108, 111, 103] } : ByteArray), v, [97, 98])] ({ data := #[108, 111, 103] } : ByteArray) (v', bytL [(({ data := #[108, 111, 103] } : ByteArray), v, [97, 98])] ({ data := #[108, 111, 103] } : ByteArray) ++ [99].take 1) = [(({ data := #[108, 111, 103] } : ByteArray), v', [97, 98, 99])] := by simp [putL, bytL]
  rw [e2] at hm
  exact mv_alloc h hm
theorem k_wri (w : World) (p : Nat) (mb : Option Nat) (v : Value) (h : StR w p ⟨true, 0, false, 10, 3⟩ mb [(({ data := #[108, 111, 103] } : ByteArray), v, [97, 98, 99])]) :
    Calls Try.prog 17 #[.pointer (some ⟨p, 0, none⟩), .string ({ data := #[108, 111, 103] } : ByteArray), .slice none 0 0] w fun e w' =>
      e = .returned (.int .i64 14) ∧ Mv w w' p mb [(({ data := #[108, 111, 103] } : ByteArray), v, [97, 98, 99])] ⟨true, 0, true, 10, 3⟩ mb [(({ data := #[108, 111, 103] } : ByteArray), v, [97, 98, 99])] := by
  have := write_down _ p _ mb _ ({ data := #[108, 111, 103] } : ByteArray) none 0 0 h okLog (by simp [bytL]) (by decide) (by simp [useN])
  refine this.mono ?_
  rintro e w' ⟨rfl, hm⟩
  refine ⟨by simp [useS, dwn], ?_⟩
  have e1 : useS ⟨true, 0, false, 10, 3⟩ (1 + ((0 : Nat) : Int)) = ⟨true, 0, true, 10, 3⟩ := by simp [useS]
  rw [e1] at hm
  exact hm
theorem k_read (w : World) (p : Nat) (s : S) (mb : Option Nat) (v : Value) (l : List Int) (n : Nat) (hn : l.length = n) (h : StR w p s mb [(({ data := #[108, 111, 103] } : ByteArray), v, l)]) :
    Calls Try.prog 28 #[.pointer (some ⟨p, 0, none⟩), .string ({ data := #[108, 111, 103] } : ByteArray)] w fun e w' => ∃ A c, e = .returned (.tuple #[.slice A n c, .bool true]) ∧ BAt w' (.slice A n c) l ∧ Free (own p mb [(({ data := #[108, 111, 103] } : ByteArray), v, l)]) (.slice A n c) ∧ Below w.heap.size w w' := by
  refine (read_any w p s mb _ ({ data := #[108, 111, 103] } : ByteArray) h).mono ?_
  rintro e w' ⟨A, m, c, rfl, hm, ho, hb⟩
  have e1 : hasL [(({ data := #[108, 111, 103] } : ByteArray), v, l)] ({ data := #[108, 111, 103] } : ByteArray) = true := by simp [hasL]
  have e2 : bytL [(({ data := #[108, 111, 103] } : ByteArray), v, l)] ({ data := #[108, 111, 103] } : ByteArray) = l := by simp [bytL]
  rw [e2] at hm ho
  have hmn : m = n := hm.trans hn
  subst hmn
  rw [e1]
  exact ⟨A, c, rfl, BAt.of_own ho, free_new h ho, hb⟩

set_option maxRecDepth 100000 in
set_option maxHeartbeats 4000000 in
theorem known_any (w : World) : Calls Try.prog 31 #[] w fun e w' => e = .returned (.bool true) ∧ Below w.heap.size w w' := by
  have HN := Lib.hid (new_any w 10 (by decide) (by decide))
  have kc := fun (w : World) (C : Array Value) (n c : Nat) => Lib.run_convert_bytes_const (P := Try.prog) w 32 5 C n c Try.underlying32 Try.underlying5
  obtain ⟨p, hp⟩ : ∃ p, p = w.heap.size := ⟨_, rfl⟩
  rw [← hp] at HN
  have HP := Lib.hid hp
  clear hp
  go_enter Try.func31, Try.ntmps31
  go_wp2_with (first
    | (go_at_call 28; (with_reducible refine (k_read w8 p _ _ _ [97, 98, 99] 3 rfl H8.out.st).mono ?_); rintro e w9 ⟨A9, c9, rfl, ha9, hf9, hb9⟩
       have q9 : (convert 32 9 (.slice A9 3 c9)).run Try.prog w9 = .ok (.string { data := #[97, 98, 99] }) w9 := (conv_any ha9 (fun x hx => by simp at hx; omega))
       have HB9 := Lib.hid hb9
       have q3 : (convert 32 9 (.slice A4 2 c4)).run Try.prog w9 = .ok (.string { data := #[97, 98] }) w9 := (conv_any ((bat_off HR3.out.1 (((H5.out.trans H6.out).trans H7.out).trans H8.out).off HR3.out.2).kept hb9) (fun x hx => by simp at hx; omega))
       clear ha9 hf9 hb9)
    | (go_at_call 17; (with_reducible refine (k_wri w7 p _ _ H7.out.st).mono ?_); rintro e w8 ⟨rfl, h8⟩; have H8 := Lib.hid h8; clear h8)
    | (go_at_call 25; (with_reducible refine (Arm_any w6 p _ _ _ 0 H6.out.st (by decide)).mono ?_); rintro e w7 ⟨rfl, h7⟩; have H7 : Hid (Mv w6 w7 p mb6 [(({ data := #[108, 111, 103] } : ByteArray), v6, [97, 98, 99])] ⟨true, 0, false, 10, 3⟩ mb6 [(({ data := #[108, 111, 103] } : ByteArray), v6, [97, 98, 99])]) := h7; clear h7)
    | (go_at_call 15; (with_reducible refine (k_app2 w5 p _ _ H5.out.st).mono ?_); rintro e w6 ⟨rfl, mb6, v6, h6⟩; have H6 := Lib.hid h6; clear h6)
    | (go_at_call 26; (with_reducible refine (Revive_any w4 p _ _ _ HS4.out).mono ?_); rintro e w5 ⟨rfl, h5⟩; have H5 : Hid (Mv w4 w5 p mb3 [(({ data := #[108, 111, 103] } : ByteArray), v3, [97, 98])] ⟨false, 0, false, 10, 2⟩ mb3 [(({ data := #[108, 111, 103] } : ByteArray), v3, [97, 98])]) := h5; clear h5)
    | (go_at_call 33; (with_reducible refine (down_own w4 p _ _ HS4.out.blk).mono ?_); rintro e w' ⟨rfl, rfl⟩)
    | (go_at_call 28; (with_reducible refine (k_read w3 p _ _ _ [97, 98] 2 rfl H3.out.st).mono ?_); rintro e w4 ⟨A4, c4, rfl, ha4, hf4, hb4⟩
       have HR3 := Lib.hid (And.intro ha4 hf4)
       have HS4 := Lib.hid (H3.out.st.below hb4)
       have H4 := Lib.hid (Mv.of_below H3.out.st hb4)
       clear ha4 hf4 hb4)
    | (go_at_call 15; (with_reducible refine (k_app1 w2 p H2.out.st).mono ?_); rintro e w3 ⟨rfl, mb3, v3, h3⟩; have H3 := Lib.hid h3; clear h3)
    | (go_at_call 25; (with_reducible refine (Arm_any w1 p _ _ _ 2 H1.out.1 (by decide)).mono ?_); rintro e w2 ⟨rfl, h2⟩; have H2 : Hid (Mv w1 w2 p none [] ⟨true, 2, false, 10, 0⟩ none []) := h2; clear h2)
    | (go_at_call 14; (with_reducible refine HN.out.mono ?_); rintro e w1 ⟨rfl, h1⟩; have H1 := Lib.hid h1; clear h1))
  have HFIN : Hid (Below w.heap.size w w9) := by
    have h2 : Mv w1 w9 p none [] _ _ _ := ((((((H2.out.trans H3.out).trans H4.out).trans H5.out).trans H6.out).trans H7.out).trans H8.out).trans (Mv.of_below H8.out.st HB9.out)
    have h3 : Below p w1 w9 := h2.off.below (fun i hi => by rw [own_nil hi]; exact Nat.le_refl _) (Nat.le_of_lt H1.out.2.2)
    rw [← HP.out]; exact H1.out.2.1.trans h3
  go_ret
  exact ⟨rfl, HFIN.out⟩
end Go.Proofs.Ytklngdmpledgeaa.Sr
