/-
  The check sum's register, byte by byte: a byte that is turned turns it; numbers as four bytes; frames, and what is read of bytes. Conditions: none.
-/
import Derived.Test.YtnekjbdogdghnaaFBase
namespace Go.Proofs.Ytnekjbdogdghnaa.Fr

/-- One step of the register. -/
def stp (r : Nat) : Nat := (r / 2) ^^^ (3988292384 * (r % 2))
def stps : Nat → Nat → Nat
  | 0, r => r
  | k + 1, r => stps k (stp r)
def mvF (r b : Nat) : Nat := stps 8 (r ^^^ b)
def crcF : Nat → List Int → Nat
  | r, [] => r
  | r, x :: l => crcF (mvF r x.toNat) l
def crc (l : List Int) : Nat := 4294967295 - crcF 4294967295 l

theorem lt_xor {a b : Nat} (h : a < 4294967296) (k : b < 4294967296) : a ^^^ b < 4294967296 := Nat.xor_lt_two_pow (n := 32) h k
theorem stp_lt {r : Nat} (h : r < 4294967296) : stp r < 4294967296 := by
  refine lt_xor (by omega) ?_
  have : r % 2 < 2 := Nat.mod_lt _ (by decide)
  omega
theorem stps_lt (k : Nat) {r : Nat} (h : r < 4294967296) : stps k r < 4294967296 := by
  induction k generalizing r with
  | zero => exact h
  | succ k ih => exact ih (stp_lt h)
theorem mvF_lt {r b : Nat} (h : r < 4294967296) (k : b < 256) : mvF r b < 4294967296 := stps_lt 8 (lt_xor h (by omega))
theorem bok_nat {x : Int} (h : 0 ≤ x ∧ x < 256) : x.toNat < 256 := by omega
theorem crcF_lt {l : List Int} (hl : bok l) {r : Nat} (h : r < 4294967296) : crcF r l < 4294967296 := by
  induction l generalizing r with
  | nil => exact h
  | cons x l ih => exact ih (fun y hy => hl y (List.mem_cons_of_mem _ hy)) (mvF_lt h (bok_nat (hl x (List.mem_cons_self ..))))
theorem crcF_app (r : Nat) (l m : List Int) : crcF r (l ++ m) = crcF (crcF r l) m := by
  induction l generalizing r with
  | nil => rfl
  | cons x l ih => exact ih _
theorem crc_lt (l : List Int) : crc l < 4294967296 := by unfold crc; omega

theorem top_bit {r : Nat} (h : r < 4294967296) : (stp r).testBit 31 = decide (r % 2 = 1) := by
  unfold stp
  rw [Nat.testBit_xor]
  have h1 : (r / 2).testBit 31 = false := Nat.testBit_lt_two_pow (by omega)
  rw [h1]
  have h2 : r % 2 = 0 ∨ r % 2 = 1 := by omega
  rcases h2 with h2 | h2 <;> rw [h2] <;> decide
theorem xor_cancel {a b c : Nat} (h : a ^^^ c = b ^^^ c) : a = b := by
  have := congrArg (· ^^^ c) h
  simpa [Nat.xor_assoc] using this
theorem xor_cancel' {a b c : Nat} (h : c ^^^ a = c ^^^ b) : a = b := xor_cancel (c := c) (by rw [Nat.xor_comm a, Nat.xor_comm b]; exact h)
theorem stp_inj {r s : Nat} (hr : r < 4294967296) (hs : s < 4294967296) (h : stp r = stp s) : r = s := by
  have h1 := top_bit hr
  rw [h, top_bit hs] at h1
  have h2 : (s % 2 = 1) ↔ (r % 2 = 1) := by simpa using h1
  have h3 : r % 2 = s % 2 := by omega
  unfold stp at h
  rw [h3] at h
  have := xor_cancel h
  omega
theorem stps_inj (k : Nat) {r s : Nat} (hr : r < 4294967296) (hs : s < 4294967296) (h : stps k r = stps k s) : r = s := by
  induction k generalizing r s with
  | zero => exact h
  | succ k ih => exact stp_inj hr hs (ih (stp_lt hr) (stp_lt hs) h)
theorem mvF_inj {r s b c : Nat} (hr : r < 4294967296) (hs : s < 4294967296) (hb : b < 256) (hc : c < 256) (h : mvF r b = mvF s c) : r ^^^ b = s ^^^ c :=
  stps_inj 8 (lt_xor hr (by omega)) (lt_xor hs (by omega)) h
theorem crcF_inj {l : List Int} (hl : bok l) {r s : Nat} (hr : r < 4294967296) (hs : s < 4294967296) (h : crcF r l = crcF s l) : r = s := by
  induction l generalizing r s with
  | nil => exact h
  | cons x l ih =>
    have hx := bok_nat (hl x (List.mem_cons_self ..))
    have := ih (fun y hy => hl y (List.mem_cons_of_mem _ hy)) (mvF_lt hr hx) (mvF_lt hs hx) h
    exact xor_cancel (mvF_inj hr hs hx hx this)
/-- One byte of many is another one: so is the check sum. -/
theorem crc_other {l m : List Int} (hl : bok l) (hm : bok m) {x y : Int} (hx : 0 ≤ x ∧ x < 256) (hy : 0 ≤ y ∧ y < 256) (hne : x ≠ y) : crc (l ++ x :: m) ≠ crc (l ++ y :: m) := by
  intro h
  unfold crc at h
  have hz : (4294967295 : Nat) < 4294967296 := by decide
  have b1 : crcF 4294967295 (l ++ x :: m) < 4294967296 := crcF_lt (bok_app hl (fun z hzz => by rcases List.mem_cons.1 hzz with rfl | h2; exact hx; exact hm z h2)) hz
  have b2 : crcF 4294967295 (l ++ y :: m) < 4294967296 := crcF_lt (bok_app hl (fun z hzz => by rcases List.mem_cons.1 hzz with rfl | h2; exact hy; exact hm z h2)) hz
  have h2 : crcF 4294967295 (l ++ x :: m) = crcF 4294967295 (l ++ y :: m) := by omega
  rw [crcF_app, crcF_app] at h2
  have hL := crcF_lt hl hz
  have h3 := crcF_inj hm (mvF_lt hL (bok_nat hx)) (mvF_lt hL (bok_nat hy)) h2
  have h4 := xor_cancel' (mvF_inj hL hL (bok_nat hx) (bok_nat hy) h3)
  omega

/-! ### A number's four bytes -/
def num4 (n : Nat) : List Int := [((n / 16777216 % 256 : Nat) : Int), ((n / 65536 % 256 : Nat) : Int), ((n / 256 % 256 : Nat) : Int), ((n % 256 : Nat) : Int)]
def numF : Nat → List Int → Nat
  | a, [] => a
  | a, x :: l => numF (a * 256 + x.toNat) l
theorem num4_len (n : Nat) : (num4 n).length = 4 := rfl
theorem num4_bok (n : Nat) : bok (num4 n) := fun x hx => by
  simp only [num4, List.mem_cons, List.not_mem_nil, or_false] at hx
  omega
theorem numF_num4 {n : Nat} (h : n < 4294967296) : numF 0 (num4 n) = n := by
  simp only [num4, numF]
  omega
theorem list4 {l : List Int} (h : l.length = 4) : ∃ a b c d, l = [a, b, c, d] := by
  match l, h with
  | [a, b, c, d], _ => exact ⟨a, b, c, d, rfl⟩
theorem numF_inj {l m : List Int} (hl : l.length = 4) (hm : m.length = 4) (bl : bok l) (bm : bok m) (h : numF 0 l = numF 0 m) : l = m := by
  obtain ⟨a, b, c, d, rfl⟩ := list4 hl
  obtain ⟨a', b', c', d', rfl⟩ := list4 hm
  have h1 := bl a (by simp); have h2 := bl b (by simp); have h3 := bl c (by simp); have h4 := bl d (by simp)
  have k1 := bm a' (by simp); have k2 := bm b' (by simp); have k3 := bm c' (by simp); have k4 := bm d' (by simp)
  simp only [numF] at h
  have e1 : a = a' := by omega
  have e2 : b = b' := by omega
  have e3 : c = c' := by omega
  have e4 : d = d' := by omega
  rw [e1, e2, e3, e4]
theorem numF_lt {l : List Int} (hl : l.length = 4) (bl : bok l) : numF 0 l < 4294967296 := by
  obtain ⟨a, b, c, d, rfl⟩ := list4 hl
  have h1 := bl a (by simp); have h2 := bl b (by simp); have h3 := bl c (by simp); have h4 := bl d (by simp)
  simp only [numF]
  omega

/-! ### Frames -/
def hd (body : List Int) : List Int := num4 body.length ++ body
def frF (body : List Int) : List Int := hd body ++ num4 (crc (hd body))
/-- The number at the beginning. -/
def nn (l : List Int) : Nat := numF 0 (l.take 4)
def tail4 (l : List Int) : List Int := (l.drop (nn l + 4)).take 4
/-- What is wrong with the frame at the beginning. -/
def nxE (l : List Int) : Int :=
  if l.length < 8 then 12 else if 1048568 < nn l then 2 else if l.length < nn l + 8 then 12 else if numF 0 (tail4 l) = crc (l.take (nn l + 4)) then 0 else 11
def nxB (l : List Int) : List Int := if nxE l = 0 then (l.drop 4).take (nn l) else []
def nxN (l : List Int) : Nat := if nxE l = 0 then nn l + 8 else 0
def opE (l : List Int) : Int := if nxE l = 0 ∧ nn l + 8 < l.length then 3 else nxE l
def opB (l : List Int) : List Int := if opE l = 0 then (l.drop 4).take (nn l) else []
theorem frF_len (body : List Int) : (frF body).length = body.length + 8 := by
  simp [frF, hd, num4_len]; omega
theorem hd_len (body : List Int) : (hd body).length = body.length + 4 := by
  simp [hd, num4_len]; omega
theorem hd_bok {body : List Int} (h : bok body) : bok (hd body) := bok_app (num4_bok _) h
theorem frF_bok {body : List Int} (h : bok body) : bok (frF body) := bok_app (hd_bok h) (num4_bok _)
theorem nxE_ok {l : List Int} (h : nxE l = 0) : 8 ≤ l.length ∧ nn l ≤ 1048568 ∧ nn l + 8 ≤ l.length ∧ numF 0 (tail4 l) = crc (l.take (nn l + 4)) := by
  unfold nxE at h
  split at h
  · cases h
  split at h
  · cases h
  split at h
  · cases h
  split at h
  · exact ⟨by omega, by omega, by omega, by assumption⟩
  · cases h
theorem nxE_mk {l : List Int} (h1 : nn l ≤ 1048568) (h2 : nn l + 8 ≤ l.length) (h3 : numF 0 (tail4 l) = crc (l.take (nn l + 4))) : nxE l = 0 := by
  unfold nxE
  rw [if_neg (by omega), if_neg (by omega), if_neg (by omega), if_pos h3]
theorem frF_nn {body : List Int} (h : body.length ≤ 1048568) : nn (frF body) = body.length := by
  have e : (frF body).take 4 = num4 body.length := by
    show (num4 body.length ++ body ++ num4 _).take 4 = _
    rw [List.append_assoc, List.take_left' (num4_len _)]
  unfold nn
  rw [e, numF_num4 (by omega)]
theorem frF_hd {body : List Int} : (frF body).take (body.length + 4) = hd body := List.take_left' (hd_len body)
theorem frF_tail {body : List Int} (h : body.length ≤ 1048568) : tail4 (frF body) = num4 (crc (hd body)) := by
  unfold tail4
  rw [frF_nn h]
  show ((hd body ++ num4 _).drop _).take 4 = _
  rw [List.drop_left' (hd_len body), List.take_of_length_le (Nat.le_of_eq (num4_len _))]
theorem frF_nxE {body : List Int} (h : body.length ≤ 1048568) : nxE (frF body) = 0 := by
  refine nxE_mk (by rw [frF_nn h]; exact h) (by rw [frF_nn h, frF_len]; omega) ?_
  rw [frF_tail h, frF_nn h, frF_hd, numF_num4 (crc_lt _)]
theorem frF_body {body : List Int} (h : body.length ≤ 1048568) : ((frF body).drop 4).take (nn (frF body)) = body := by
  rw [frF_nn h]
  show ((num4 body.length ++ body ++ num4 _).drop 4).take _ = _
  rw [List.append_assoc, List.drop_left' (num4_len _), List.take_left' rfl]
theorem frF_opE {body : List Int} (h : body.length ≤ 1048568) : opE (frF body) = 0 := by
  unfold opE
  rw [frF_nxE h, frF_nn h, frF_len, if_neg (by omega)]
theorem frF_opB {body : List Int} (h : body.length ≤ 1048568) : opB (frF body) = body := by
  unfold opB
  rw [if_pos (frF_opE h), frF_body h]
theorem nxB_len (l : List Int) (h : nxE l = 0) : (nxB l).length = nn l := by
  obtain ⟨h1, h2, h3, _⟩ := nxE_ok h
  unfold nxB
  rw [if_pos h, List.length_take, List.length_drop]
  omega

/-! ### A byte that is turned -/
def xb (a b : Int) : Int := ((a.toNat ^^^ b.toNat : Nat) : Int)
def bend (l : List Int) (at' : Int) (by' : Int) : List Int := if 0 ≤ at' ∧ at' < l.length then l.set at'.toNat (xb (l.getD at'.toNat 0) by') else l
theorem xb_bok {a b : Int} (ha : 0 ≤ a ∧ a < 256) (hb : 0 ≤ b ∧ b < 256) : 0 ≤ xb a b ∧ xb a b < 256 := by
  have : a.toNat ^^^ b.toNat < 256 := Nat.xor_lt_two_pow (n := 8) (by omega) (by omega)
  unfold xb
  omega
theorem xb_zero {a : Int} (ha : 0 ≤ a) : xb a 0 = a := by unfold xb; simp; omega
theorem xb_twice {a b : Int} (ha : 0 ≤ a) (_hb : 0 ≤ b) : xb (xb a b) b = a := by
  unfold xb
  rw [Int.toNat_natCast, Nat.xor_assoc, Nat.xor_self, Nat.xor_zero]
  omega
theorem xb_ne {a b : Int} (ha : 0 ≤ a) (hb : 0 ≤ b) (h : ¬ b = 0) : xb a b ≠ a := by
  intro hh
  have h1 := congrArg (fun z => xb z b) hh
  have h2 : xb (xb a b) b = xb a b := h1
  rw [xb_twice ha hb] at h2
  unfold xb at hh
  have h3 : a.toNat ^^^ b.toNat = a.toNat ^^^ 0 := by rw [Nat.xor_zero]; omega
  have := xor_cancel' h3
  omega
theorem bend_len (l : List Int) (a b : Int) : (bend l a b).length = l.length := by
  unfold bend
  split <;> simp
theorem set_bok {l : List Int} (h : bok l) (i : Nat) {x : Int} (hx : 0 ≤ x ∧ x < 256) : bok (l.set i x) := fun y hy => by
  rcases List.mem_or_eq_of_mem_set hy with h1 | rfl
  · exact h y h1
  · exact hx
theorem bend_bok {l : List Int} (h : bok l) (a : Int) {b : Int} (hb : 0 ≤ b ∧ b < 256) : bok (bend l a b) := by
  unfold bend
  split
  · rename_i hc
    exact set_bok h _ (xb_bok (bok_at h (by omega)) hb)
  · exact h
theorem bend_out {l : List Int} {a b : Int} (h : ¬ (0 ≤ a ∧ a < l.length)) : bend l a b = l := if_neg h
theorem set_same {l : List Int} {i : Nat} (h : i < l.length) : l.set i (l.getD i 0) = l := by
  rw [show l.getD i 0 = l[i] by simp [List.getD, List.getElem?_eq_getElem h]]
  exact List.set_getElem_self h
theorem bend_zero {l : List Int} (h : bok l) (a : Int) : bend l a 0 = l := by
  unfold bend
  split
  · rename_i hc
    rw [xb_zero (bok_at h (by omega)).1, set_same (by omega)]
  · rfl
theorem bend_twice {l : List Int} (h : bok l) (a : Int) {b : Int} (hb : 0 ≤ b ∧ b < 256) : bend (bend l a b) a b = l := by
  by_cases hc : 0 ≤ a ∧ a < l.length
  · have hc2 : 0 ≤ a ∧ a < (bend l a b).length := by rw [bend_len]; exact hc
    have e : bend l a b = l.set a.toNat (xb (l.getD a.toNat 0) b) := if_pos hc
    have e2 : bend (bend l a b) a b = (bend l a b).set a.toNat (xb ((bend l a b).getD a.toNat 0) b) := if_pos hc2
    rw [e2, e]
    have hlt : a.toNat < l.length := by omega
    have g : (l.set a.toNat (xb (l.getD a.toNat 0) b)).getD a.toNat 0 = xb (l.getD a.toNat 0) b := by simp [List.getD, hlt]
    rw [g, xb_twice (bok_at h hlt).1 hb.1, List.set_set, set_same hlt]
  · rw [bend_out hc, bend_out hc]
theorem split_at {l : List Int} {i : Nat} (h : i < l.length) : l = l.take i ++ l.getD i 0 :: l.drop (i + 1) := by
  rw [show l.getD i 0 = l[i] by simp [List.getD, List.getElem?_eq_getElem h], ← List.drop_eq_getElem_cons h, List.take_append_drop]
theorem set_split {l : List Int} {i : Nat} (h : i < l.length) (x : Int) : l.set i x = l.take i ++ x :: l.drop (i + 1) := List.set_eq_take_append_cons_drop.trans (if_pos h)
theorem crc_set {l : List Int} (h : bok l) {i : Nat} (hi : i < l.length) {x : Int} (hx : 0 ≤ x ∧ x < 256) (hne : x ≠ l.getD i 0) : crc (l.set i x) ≠ crc l := by
  have e1 := set_split hi x
  have e2 := split_at hi
  rw [e1]
  intro hh
  have hh2 : crc (l.take i ++ x :: l.drop (i + 1)) = crc (l.take i ++ l.getD i 0 :: l.drop (i + 1)) := by rw [hh]; exact congrArg crc e2
  exact crc_other (bok_take h i) (bok_drop h (i + 1)) hx (bok_at h hi) hne hh2
/-- A frame of which one byte is turned is none. -/
theorem bend_none {body : List Int} (hb : bok body) (hl : body.length ≤ 1048568) {a b : Int} (ha : 0 ≤ a ∧ a < (frF body).length) (hby : 0 ≤ b ∧ b < 256) (hne : ¬ b = 0) : ¬ opE (bend (frF body) a b) = 0 := by
  intro h
  obtain ⟨i, hi⟩ : ∃ i, i = a.toNat := ⟨_, rfl⟩
  have hF := frF_bok hb
  have hil : i < (frF body).length := by omega
  obtain ⟨x, hx⟩ : ∃ x, x = xb ((frF body).getD i 0) b := ⟨_, rfl⟩
  have hxb : 0 ≤ x ∧ x < 256 := by rw [hx]; exact xb_bok (bok_at hF hil) hby
  have hxn : x ≠ (frF body).getD i 0 := by rw [hx]; exact xb_ne (bok_at hF hil).1 hby.1 hne
  have e : bend (frF body) a b = (frF body).set i x := by rw [hx, hi]; exact if_pos ha
  rw [e] at h
  have hlen : ((frF body).set i x).length = body.length + 8 := by rw [List.length_set, frF_len]
  have h0 : nxE ((frF body).set i x) = 0 ∧ ¬ nn ((frF body).set i x) + 8 < ((frF body).set i x).length := by
    unfold opE at h
    split at h
    · cases h
    · rename_i h1
      exact ⟨h, fun h2 => h1 ⟨h, h2⟩⟩
  obtain ⟨hn, hs⟩ := h0
  obtain ⟨_, _, h3, h4⟩ := nxE_ok hn
  have hnn : nn ((frF body).set i x) = body.length := by omega
  rw [frF_len] at hil
  -- the number's bytes
  by_cases c1 : i < 4
  · have h5 : ((frF body).set i x).take 4 = (frF body).take 4 := by
      refine numF_inj ?_ ?_ (bok_take (set_bok hF _ hxb) _) (bok_take hF _) ?_
      · rw [List.length_take]; omega
      · rw [List.length_take, frF_len]; omega
      · show nn _ = nn _
        rw [hnn, frF_nn hl]
    have h6 : (((frF body).set i x).take 4).getD i 0 = ((frF body).take 4).getD i 0 := congrArg (fun l => l.getD i 0) h5
    rw [getD_take c1, getD_take c1] at h6
    refine hxn ?_
    rw [← h6]
    simp [List.getD, frF_len, hil]
  · unfold tail4 at h4
    rw [hnn] at h4
    by_cases c2 : i < body.length + 4
    · have h5 : ((frF body).set i x).drop (body.length + 4) = (frF body).drop (body.length + 4) := List.drop_set_of_lt c2
      have h6 : ((frF body).set i x).take (body.length + 4) = (hd body).set i x := by rw [List.take_set, frF_hd]
      rw [h5, h6] at h4
      have h7 : ((frF body).drop (body.length + 4)).take 4 = num4 (crc (hd body)) := by rw [← frF_tail hl, tail4, frF_nn hl]
      rw [h7, numF_num4 (crc_lt _)] at h4
      refine crc_set (hd_bok hb) (i := i) (by rw [hd_len]; exact c2) hxb ?_ h4.symm
      rw [← frF_hd, getD_take c2]
      exact hxn
    · have h6 : ((frF body).set i x).take (body.length + 4) = hd body := by rw [List.take_set_of_le (by omega), frF_hd]
      rw [h6] at h4
      have h7 : ((frF body).drop (body.length + 4)).take 4 = num4 (crc (hd body)) := by rw [← frF_tail hl, tail4, frF_nn hl]
      have h8 : (((frF body).set i x).drop (body.length + 4)).take 4 = ((frF body).drop (body.length + 4)).take 4 := by
        refine numF_inj ?_ ?_ (bok_take (bok_drop (set_bok hF _ hxb) _) _) (bok_take (bok_drop hF _) _) ?_
        · rw [List.length_take, List.length_drop]; omega
        · rw [List.length_take, List.length_drop, frF_len]; omega
        · rw [h4, h7, numF_num4 (crc_lt _)]
      have h9 : ((((frF body).set i x).drop (body.length + 4)).take 4).getD (i - (body.length + 4)) 0 = (((frF body).drop (body.length + 4)).take 4).getD (i - (body.length + 4)) 0 := congrArg (fun l => l.getD (i - (body.length + 4)) 0) h8
      rw [getD_take (by omega), getD_take (by omega), getD_drop, getD_drop, show body.length + 4 + (i - (body.length + 4)) = i by omega] at h9
      refine hxn ?_
      rw [← h9]
      simp [List.getD, frF_len, hil]
end Go.Proofs.Ytnekjbdogdghnaa.Fr
