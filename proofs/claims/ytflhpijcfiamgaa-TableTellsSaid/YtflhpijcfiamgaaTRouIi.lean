/-
  The contract of the sort's rotate: A, X, Y, B becomes A, Y, X, B. Conditions: neither X nor Y is empty.
-/
import Derived.Test.YtflhpijcfiamgaaTRotIi
namespace Go.Proofs.Ytflhpijcfiamgaa.Tb.Ii
open Go.RowKit Go.Sort

theorem size_of_list {d : Array R} {l : List R} (h : d.toList = l) : d.size = l.length := by rw [← h]; simp
theorem wrap_fits (z : Int) (h : -4611686018427387904 ≤ z ∧ z ≤ 9223372036854775807) : IntKind.i64.wrap z = z := by rw [IntKind.wrap_i64]; omega

/-- What holds between rotate's rounds: the parts still to be exchanged are of p and q elements. -/
def RotI (w0 : World) (blk off N m : Nat) (A X Y B : List R) (p q : Nat) (wx : World) : Prop :=
  ∃ (D1 X' Y' D2 : List R) (dj : Array R), p = X'.length ∧ q = Y'.length ∧ 0 < p ∧ 0 < q ∧ dj.toList = A ++ (D1 ++ (X' ++ (Y' ++ (D2 ++ B)))) ∧ D1 ++ (Y' ++ (X' ++ D2)) = Y ++ X ∧ m = A.length + D1.length + p ∧ m + q ≤ N ∧ dj.size = N ∧ SWK enc 2 w0 blk off dj wx

theorem RotI.more (w0 _wr w2 : World) (blk off N m : Nat) (A X Y B : List R) (p q : Nat) (hgt : q < p) (dj : Array R) (D1 X' Y' D2 : List R) (hp : p = X'.length) (hq : q = Y'.length) (hq0 : 0 < q) (hdj : dj.toList = A ++ (D1 ++ (X' ++ (Y' ++ (D2 ++ B))))) (heq : D1 ++ (Y' ++ (X' ++ D2)) = Y ++ X) (hm : m = A.length + D1.length + p) (hN : m + q ≤ N) (hs : dj.size = N)
    (hS : SWK enc 2 w0 blk off (swR (m - p) m q dj) w2) : RotI w0 blk off N m A X Y B (p - q) q w2 := by
  refine ⟨D1 ++ Y', X'.drop q, X'.take q, D2, swR (m - p) m q dj, by rw [List.length_drop]; omega, by rw [List.length_take]; omega, by omega, hq0, ?_, ?_, by rw [List.length_append]; omega, hN, by rw [size_swR]; exact hs, hS⟩
  · have h := swR_list q dj (A ++ D1) (X'.take q) (X'.drop q) Y' (D2 ++ B) (by rw [List.length_take]; omega) hq.symm (by rw [hdj]; simp only [List.append_assoc]; rw [← List.append_assoc (X'.take q), List.take_append_drop])
    rw [show (A ++ D1).length + q + (X'.drop q).length = m by rw [List.length_append, List.length_drop]; omega, show (A ++ D1).length = m - p by rw [List.length_append]; omega] at h
    rw [h]
    simp only [List.append_assoc]
  · rw [← heq]
    simp only [List.append_assoc]
    rw [← List.append_assoc (X'.take q), List.take_append_drop]
theorem RotI.less (w0 _wr w2 : World) (blk off N m : Nat) (A X Y B : List R) (p q : Nat) (hlt : p < q) (dj : Array R) (D1 X' Y' D2 : List R) (hp : p = X'.length) (hq : q = Y'.length) (hp0 : 0 < p) (hdj : dj.toList = A ++ (D1 ++ (X' ++ (Y' ++ (D2 ++ B))))) (heq : D1 ++ (Y' ++ (X' ++ D2)) = Y ++ X) (hm : m = A.length + D1.length + p) (hN : m + q ≤ N) (hs : dj.size = N)
    (hS : SWK enc 2 w0 blk off (swR (m - p) (m + q - p) p dj) w2) : RotI w0 blk off N m A X Y B p (q - p) w2 := by
  refine ⟨D1, Y'.drop (q - p), Y'.take (q - p), X' ++ D2, swR (m - p) (m + q - p) p dj, by rw [List.length_drop]; omega, by rw [List.length_take]; omega, hp0, by omega, ?_, ?_, hm, by omega, by rw [size_swR]; exact hs, hS⟩
  · have h := swR_list p dj (A ++ D1) X' (Y'.take (q - p)) (Y'.drop (q - p)) (D2 ++ B) hp.symm (by rw [List.length_drop]; omega) (by rw [hdj]; simp only [List.append_assoc]; rw [← List.append_assoc (Y'.take (q - p)), List.take_append_drop])
    rw [show (A ++ D1).length + p + (Y'.take (q - p)).length = m + q - p by rw [List.length_append, List.length_take]; omega, show (A ++ D1).length = m - p by rw [List.length_append]; omega] at h
    rw [h]
    simp only [List.append_assoc]
  · rw [← heq]
    simp only [← List.append_assoc]
    rw [List.append_assoc D1, List.take_append_drop]
theorem RotI.last (w0 w2 : World) (blk off _N m : Nat) (A X Y B : List R) (p : Nat) (dj : Array R) (D1 X' Y' D2 : List R) (hp : p = X'.length) (hq : p = Y'.length) (hdj : dj.toList = A ++ (D1 ++ (X' ++ (Y' ++ (D2 ++ B))))) (heq : D1 ++ (Y' ++ (X' ++ D2)) = Y ++ X) (hm : m = A.length + D1.length + p)
    (hS : SWK enc 2 w0 blk off (swR (m - p) m p dj) w2) : ∃ d' : Array R, d'.toList = A ++ (Y ++ (X ++ B)) ∧ SWK enc 2 w0 blk off d' w2 := by
  refine ⟨_, ?_, hS⟩
  have h := swR_list p dj (A ++ D1) X' [] Y' (D2 ++ B) hp.symm hq.symm (by rw [hdj]; simp only [List.append_assoc, List.nil_append])
  rw [show (A ++ D1).length + p + ([] : List R).length = m by rw [List.length_append]; simp; omega, show (A ++ D1).length = m - p by rw [List.length_append]; omega] at h
  rw [h]
  simp only [List.append_assoc, List.nil_append]
  rw [← List.append_assoc X' D2 B, ← List.append_assoc Y' (X' ++ D2) B, ← List.append_assoc D1 _ B, heq]
  simp only [List.append_assoc]

set_option maxRecDepth 1000000 in
set_option maxHeartbeats 2000000 in
theorem rotate_any (w0 w : World) (blk off cap N a m b : Nat) (f : Value) (d0 d : Array R) (A X Y B : List R) (S : SWK enc 2 w0 blk off d w) (Rw : RowK enc 2 w0 blk off d0) (hs : d.size = d0.size) (hN : d.size = N) (hsz : N < 4611686018427387904)
    (hd : d.toList = A ++ (X ++ (Y ++ B))) (hX : 0 < X.length) (hY : 0 < Y.length) (ha : a = A.length) (hm : m = A.length + X.length) (hb : b = A.length + X.length + Y.length) :
    Calls Try.prog 95 #[.slice (some ⟨blk, off, none⟩) N cap, .int .i64 a, .int .i64 m, .int .i64 b, f] w fun e w' => e = .returned (.tuple #[]) ∧ ∃ d' : Array R, d'.toList = A ++ (Y ++ (X ++ B)) ∧ SWK enc 2 w0 blk off d' w' := by
  have hlen := size_of_list hd
  simp only [List.length_append] at hlen
  have I0 : Hid (RotI w0 blk off N m A X Y B X.length Y.length w) := ⟨[], X, Y, [], d, rfl, rfl, hX, hY, by simpa using hd, by simp, by simp [hm], by omega, hN, S⟩
  obtain ⟨x, hx⟩ : ∃ x, x = X.length := ⟨_, rfl⟩
  obtain ⟨y, hy⟩ : ∃ y, y = Y.length := ⟨_, rfl⟩
  rw [← hx, ← hy] at I0
  have e1 : (m : Int) - (a : Int) = (x : Int) := by omega
  have e2 : (b : Int) - (m : Int) = (y : Int) := by omega
  have r1 : IntKind.i64.wrap (x : Int) = (x : Int) := wrap_fits _ (by omega)
  have r2 : IntKind.i64.wrap (y : Int) = (y : Int) := wrap_fits _ (by omega)
  have HM := Lib.hid (show m + y ≤ N by omega)
  have HR := Lib.hid Rw
  have HD0 := Lib.hid (show N = d0.size by omega)
  clear S Rw hs hN hd hX hY ha hm hb hx hy hlen
  go_enter Try.func95, Try.ntmps95
  go_wp2
  go_loopg [10, 11] (x + y) (fun (gh : Nat) s10 s11 wx => ∃ (p q : Nat), gh = p + q ∧ s10 = .int .i64 (p : Int) ∧ s11 = .int .i64 (q : Int) ∧ Hid (RotI w0 blk off N m A X Y B p q wx))
  case atStart => exact ⟨x, y, rfl, rfl, rfl, I0⟩
  case round =>
    clear I0 e1 e2 r1 r2
    obtain ⟨p, q, rfl, rfl, rfl, hinv⟩ := hrel
    obtain ⟨D1, X', Y', D2, dj, hp, hq, hp0, hq0, hdj, heq, hm, hmN, hjs, S1⟩ := hinv.out
    rcases Nat.lt_trichotomy p q with hlt | heq2 | hgt
    · have HC := Lib.hid (swapRange_any w0 wr blk off cap (m - p) (m + q - p) p f d0 dj S1 HR.out (by rw [hjs]; exact HD0.out) (by omega) (by omega) (by omega))
      rw [hjs, show ((m - p : Nat) : Int) = (m : Int) - (p : Int) by omega, show ((m + q - p : Nat) : Int) = (m : Int) + (q : Int) - (p : Int) by omega] at HC
      have HN := Lib.hid (fun w2 => RotI.less w0 wr w2 blk off N m A X Y B p q hlt dj D1 X' Y' D2 hp hq hp0 hdj heq hm hmN hjs)
      have z2 : ((q - p : Nat) : Int) = (q : Int) - (p : Int) := by omega
      have t2 : ¬ (p : Int) = (q : Int) := by omega
      have t3 : ¬ (q : Int) < (p : Int) := by omega
      have r1 : IntKind.i64.wrap ((m : Int) - (p : Int)) = (m : Int) - (p : Int) := wrap_fits _ (by omega)
      have r2 : IntKind.i64.wrap ((q : Int) - (p : Int)) = (q : Int) - (p : Int) := wrap_fits _ (by omega)
      have r3 : IntKind.i64.wrap ((m : Int) + (q : Int)) = (m : Int) + (q : Int) := wrap_fits _ (by omega)
      have r4 : IntKind.i64.wrap ((m : Int) + (q : Int) - (p : Int)) = (m : Int) + (q : Int) - (p : Int) := wrap_fits _ (by omega)
      have HG := Lib.hid (show p + (q - p) < p + q by omega)
      clear hinv hp hq hp0 hq0 hdj heq hm hmN hjs S1 hlt
      go_wp2_with (go_at_call 97; refine HC.out.mono ?_; rintro e w2 ⟨rfl, h2⟩; have S2 := Lib.hid (HN.out _ h2); clear h2)
      go_roundg (p + (q - p))
      case measure => exact HG.out
      case rel => exact ⟨p, q - p, rfl, rfl, by rw [z2], S2⟩
    · subst heq2
      have HC := Lib.hid (swapRange_any w0 wr blk off cap (m - p) m p f d0 dj S1 HR.out (by rw [hjs]; exact HD0.out) (by omega) (by omega) (by omega))
      rw [hjs, show ((m - p : Nat) : Int) = (m : Int) - (p : Int) by omega] at HC
      have HN := Lib.hid (fun w2 => RotI.last w0 w2 blk off N m A X Y B p dj D1 X' Y' D2 hp hq hdj heq hm)
      have r1 : IntKind.i64.wrap ((m : Int) - (p : Int)) = (m : Int) - (p : Int) := wrap_fits _ (by omega)
      clear hinv hp hq hp0 hq0 hdj heq hm hmN hjs S1
      go_wp2_with (go_at_call 97; refine HC.out.mono ?_; rintro e w2 ⟨rfl, h2⟩; have S2 := Lib.hid (HN.out _ h2); clear h2)
      go_end0
      exact ⟨rfl, S2.out⟩
    · have HC := Lib.hid (swapRange_any w0 wr blk off cap (m - p) m q f d0 dj S1 HR.out (by rw [hjs]; exact HD0.out) (by omega) (by omega) (by omega))
      rw [hjs, show ((m - p : Nat) : Int) = (m : Int) - (p : Int) by omega] at HC
      have HN := Lib.hid (fun w2 => RotI.more w0 wr w2 blk off N m A X Y B p q hgt dj D1 X' Y' D2 hp hq hq0 hdj heq hm hmN hjs)
      have z2 : ((p - q : Nat) : Int) = (p : Int) - (q : Int) := by omega
      have t2 : ¬ (p : Int) = (q : Int) := by omega
      have t3 : (q : Int) < (p : Int) := by omega
      have r1 : IntKind.i64.wrap ((m : Int) - (p : Int)) = (m : Int) - (p : Int) := wrap_fits _ (by omega)
      have r2 : IntKind.i64.wrap ((p : Int) - (q : Int)) = (p : Int) - (q : Int) := wrap_fits _ (by omega)
      have HG := Lib.hid (show p - q + q < p + q by omega)
      clear hinv hp hq hp0 hq0 hdj heq hm hmN hjs S1 hgt
      go_wp2_with (go_at_call 97; refine HC.out.mono ?_; rintro e w2 ⟨rfl, h2⟩; have S2 := Lib.hid (HN.out _ h2); clear h2)
      go_roundg (p - q + q)
      case measure => exact HG.out
      case rel => exact ⟨p - q, q, rfl, by rw [z2], rfl, S2⟩
end Go.Proofs.Ytflhpijcfiamgaa.Tb.Ii
