/-
  The check sum's register, byte by byte: a byte that is turned turns it; numbers as four bytes; frames, and what is read of bytes. Conditions: none.
-/
import Derived.Test.YtklngdmpledgeaaGreatSBytes
namespace Go.Proofs.YtklngdmpledgeaaGreat.Fr

/-- One step of the register. -/
def stp (r : Nat) : Nat := (r / 2) ^^^ (3988292384 * (r % 2))
def stps : Nat → Nat → Nat
  | 0, r => r
  | k + 1, r => stps k (stp r)
def mvF (r b : Nat) : Nat := stps 8 (r ^^^ b)
def crcF : Nat → List Int → Nat
  | r, [] => r
  | r, x :: l => crcF (mvF r x.toNat) l
def crc (l : List Int) : Nat := 4294967295 - crcF 4294967295 l

theorem lt_xor {a b : Nat} (h : a < 4294967296) (k : b < 4294967296) : a ^^^ b < 4294967296 := Nat.xor_lt_two_pow (n := 32) h k
theorem stp_lt {r : Nat} (h : r < 4294967296) : stp r < 4294967296 := by
  refine lt_xor (by omega) ?_
  have : r % 2 < 2 := Nat.mod_lt _ (by decide)
  omega
theorem stps_lt (k : Nat) {r : Nat} (h : r < 4294967296) : stps k r < 4294967296 := by
  induction k generalizing r with
  | zero => exact h
  | succ k ih => exact ih (stp_lt h)
theorem mvF_lt {r b : Nat} (h : r < 4294967296) (k : b < 256) : mvF r b < 4294967296 := stps_lt 8 (lt_xor h (by omega))
theorem bok_nat {x : Int} (h : 0 ≤ x ∧ x < 256) : x.toNat < 256 := by omega
theorem crcF_lt {l : List Int} (hl : bok l) {r : Nat} (h : r < 4294967296) : crcF r l < 4294967296 := by
  induction l generalizing r with
  | nil => exact h
  | cons x l ih => exact ih (fun y hy => hl y (List.mem_cons_of_mem _ hy)) (mvF_lt h (bok_nat (hl x (List.mem_cons_self ..))))
theorem crcF_app (r : Nat) (l m : List Int) : crcF r (l ++ m) = crcF (crcF r l) m := by
  induction l generalizing r with
  | nil => rfl
  | cons x l ih => exact ih _
theorem crc_lt (l : List Int) : crc l < 4294967296 := by unfold crc; omega

theorem top_bit {r : Nat} (h : r < 4294967296) : (stp r).testBit 31 = decide (r % 2 = 1) := by
  unfold stp
  rw [Nat.testBit_xor]
  have h1 : (r / 2).testBit 31 = false := Nat.testBit_lt_two_pow (by omega)
  rw [h1]
  have h2 : r % 2 = 0 ∨ r % 2 = 1 := by omega
  rcases h2 with h2 | h2 <;> rw [h2] <;> decide
theorem xor_cancel {a b c : Nat} (h : a ^^^ c = b ^^^ c) : a = b := by
  have := congrArg (· ^^^ c) h
  simpa [Nat.xor_assoc] using this
theorem xor_cancel' {a b c : Nat} (h : c ^^^ a = c ^^^ b) : a = b := xor_cancel (c := c) (by rw [Nat.xor_comm a, Nat.xor_comm b]; exact h)
theorem stp_inj {r s : Nat} (hr : r < 4294967296) (hs : s < 4294967296) (h : stp r = stp s) : r = s := by
  have h1 := top_bit hr
  rw [h, top_bit hs] at h1
  have h2 : (s % 2 = 1) ↔ (r % 2 = 1) := by simpa using h1
  have h3 : r % 2 = s % 2 := by omega
  unfold stp at h
  rw [h3] at h
  have := xor_cancel h
  omega
theorem stps_inj (k : Nat) {r s : Nat} (hr : r < 4294967296) (hs : s < 4294967296) (h : stps k r = stps k s) : r = s := by
  induction k generalizing r s with
  | zero => exact h
  | succ k ih => exact stp_inj hr hs (ih (stp_lt hr) (stp_lt hs) h)
theorem mvF_inj {r s b c : Nat} (hr : r < 4294967296) (hs : s < 4294967296) (hb : b < 256) (hc : c < 256) (h : mvF r b = mvF s c) : r ^^^ b = s ^^^ c :=
  stps_inj 8 (lt_xor hr (by omega)) (lt_xor hs (by omega)) h
theorem crcF_inj {l : List Int} (hl : bok l) {r s : Nat} (hr : r < 4294967296) (hs : s < 4294967296) (h : crcF r l = crcF s l) : r = s := by
  induction l generalizing r s with
  | nil => exact h
  | cons x l ih =>
    have hx := bok_nat (hl x (List.mem_cons_self ..))
    have := ih (fun y hy => hl y (List.mem_cons_of_mem _ hy)) (mvF_lt hr hx) (mvF_lt hs hx) h
    exact xor_cancel (mvF_inj hr hs hx hx this)
/-- One byte of many is another one: so is the check sum. -/
theorem crc_other {l m : List Int} (hl : bok l) (hm : bok m) {x y : Int} (hx : 0 ≤ x ∧ x < 256) (hy : 0 ≤ y ∧ y < 256) (hne : x ≠ y) : crc (l ++ x :: m) ≠ crc (l ++ y :: m) := by
  intro h
  unfold crc at h
  have hz : (4294967295 : Nat) < 4294967296 := by decide
  have b1 : crcF 4294967295 (l ++ x :: m) < 4294967296 := crcF_lt (bok_app hl (fun z hzz => by rcases List.mem_cons.1 hzz with rfl | h2; exact hx; exact hm z h2)) hz
  have b2 : crcF 4294967295 (l ++ y :: m) < 4294967296 := crcF_lt (bok_app hl (fun z hzz => by rcases List.mem_cons.1 hzz with rfl | h2; exact hy; exact hm z h2)) hz
  have h2 : crcF 4294967295 (l ++ x :: m) = crcF 4294967295 (l ++ y :: m) := by omega
  rw [crcF_app, crcF_app] at h2
  have hL := crcF_lt hl hz
  have h3 := crcF_inj hm (mvF_lt hL (bok_nat hx)) (mvF_lt hL (bok_nat hy)) h2
  have h4 := xor_cancel' (mvF_inj hL hL (bok_nat hx) (bok_nat hy) h3)
  omega

/-! ### A number's four bytes -/
def num4 (n : Nat) : List Int := [((n / 16777216 % 256 : Nat) : Int), ((n / 65536 % 256 : Nat) : Int), ((n / 256 % 256 : Nat) : Int), ((n % 256 : Nat) : Int)]
def numF : Nat → List Int → Nat
  | a, [] => a
  | a, x :: l => numF (a * 256 + x.toNat) l
theorem num4_len (n : Nat) : (num4 n).length = 4 := rfl
theorem num4_bok (n : Nat) : bok (num4 n) := fun x hx => by
  simp only [num4, List.mem_cons, List.not_mem_nil, or_false] at hx
  omega
theorem numF_num4 {n : Nat} (h : n < 4294967296) : numF 0 (num4 n) = n := by
  simp only [num4, numF]
  omega
theorem list4 {l : List Int} (h : l.length = 4) : ∃ a b c d, l = [a, b, c, d] := by
  match l, h with
  | [a, b, c, d], _ => exact ⟨a, b, c, d, rfl⟩
theorem numF_inj {l m : List Int} (hl : l.length = 4) (hm : m.length = 4) (bl : bok l) (bm : bok m) (h : numF 0 l = numF 0 m) : l = m := by
  obtain ⟨a, b, c, d, rfl⟩ := list4 hl
  obtain ⟨a', b', c', d', rfl⟩ := list4 hm
  have h1 := bl a (by simp); have h2 := bl b (by simp); have h3 := bl c (by simp); have h4 := bl d (by simp)
  have k1 := bm a' (by simp); have k2 := bm b' (by simp); have k3 := bm c' (by simp); have k4 := bm d' (by simp)
  simp only [numF] at h
  have e1 : a = a' := by omega
  have e2 : b = b' := by omega
  have e3 : c = c' := by omega
  have e4 : d = d' := by omega
  rw [e1, e2, e3, e4]
theorem numF_lt {l : List Int} (hl : l.length = 4) (bl : bok l) : numF 0 l < 4294967296 := by
  obtain ⟨a, b, c, d, rfl⟩ := list4 hl
  have h1 := bl a (by simp); have h2 := bl b (by simp); have h3 := bl c (by simp); have h4 := bl d (by simp)
  simp only [numF]
  omega

/-! ### Frames -/
def hd (body : List Int) : List Int := num4 body.length ++ body
def frF (body : List Int) : List Int := hd body ++ num4 (crc (hd body))
/-- The number at the beginning. -/
def nn (l : List Int) : Nat := numF 0 (l.take 4)
def tail4 (l : List Int) : List Int := (l.drop (nn l + 4)).take 4
/-- What is wrong with the frame at the beginning. -/
def nxE (l : List Int) : Int :=
  if l.length < 8 then 12 else if 1048568 < nn l then 2 else if l.length < nn l + 8 then 12 else if numF 0 (tail4 l) = crc (l.take (nn l + 4)) then 0 else 11
def nxB (l : List Int) : List Int := if nxE l = 0 then (l.drop 4).take (nn l) else []
def nxN (l : List Int) : Nat := if nxE l = 0 then nn l + 8 else 0
def opE (l : List Int) : Int := if nxE l = 0 ∧ nn l + 8 < l.length then 3 else nxE l
def opB (l : List Int) : List Int := if opE l = 0 then (l.drop 4).take (nn l) else []
theorem frF_len (body : List Int) : (frF body).length = body.length + 8 := by
  simp [frF, hd, num4_len]; omega
theorem hd_len (body : List Int) : (hd body).length = body.length + 4 := by
  simp [hd, num4_len]; omega
theorem hd_bok {body : List Int} (h : bok body) : bok (hd body) := bok_app (num4_bok _) h
theorem frF_bok {body : List Int} (h : bok body) : bok (frF body) := bok_app (hd_bok h) (num4_bok _)
theorem nxE_ok {l : List Int} (h : nxE l = 0) : 8 ≤ l.length ∧ nn l ≤ 1048568 ∧ nn l + 8 ≤ l.length ∧ numF 0 (tail4 l) = crc (l.take (nn l + 4)) := by
  unfold nxE at h
  split at h
  · cases h
  split at h
  · cases h
  split at h
  · cases h
  split at h
  · exact ⟨by omega, by omega, by omega, by assumption⟩
  · cases h
theorem nxE_mk {l : List Int} (h1 : nn l ≤ 1048568) (h2 : nn l + 8 ≤ l.length) (h3 : numF 0 (tail4 l) = crc (l.take (nn l + 4))) : nxE l = 0 := by
  unfold nxE
  rw [if_neg (by omega), if_neg (by omega), if_neg (by omega), if_pos h3]
theorem frF_nn {body : List Int} (h : body.length ≤ 1048568) : nn (frF body) = body.length := by
  have e : (frF body).take 4 = num4 body.length := by
    show (num4 body.length ++ body ++ num4 _).take 4 = _
    rw [List.append_assoc, List.take_left' (num4_len _)]
  unfold nn
  rw [e, numF_num4 (by omega)]
theorem frF_hd {body : List Int} : (frF body).take (body.length + 4) = hd body := List.take_left' (hd_len body)
theorem frF_tail {body : List Int} (h : body.length ≤ 1048568) : tail4 (frF body) = num4 (crc (hd body)) := by
  unfold tail4
  rw [frF_nn h]
  show ((hd body ++ num4 _).drop _).take 4 = _
  rw [List.drop_left' (hd_len body), List.take_of_length_le (Nat.le_of_eq (num4_len _))]
theorem frF_nxE {body : List Int} (h : body.length ≤ 1048568) : nxE (frF body) = 0 := by
  refine nxE_mk (by rw [frF_nn h]; exact h) (by rw [frF_nn h, frF_len]; omega) ?_
  rw [frF_tail h, frF_nn h, frF_hd, numF_num4 (crc_lt _)]
theorem frF_body {body : List Int} (h : body.length ≤ 1048568) : ((frF body).drop 4).take (nn (frF body)) = body := by
  rw [frF_nn h]
  show ((num4 body.length ++ body ++ num4 _).drop 4).take _ = _
  rw [List.append_assoc, List.drop_left' (num4_len _), List.take_left' rfl]
theorem frF_opE {body : List Int} (h : body.length ≤ 1048568) : opE (frF body) = 0 := by
  unfold opE
  rw [frF_nxE h, frF_nn h, frF_len, if_neg (by omega)]
theorem frF_opB {body : List Int} (h : body.length ≤ 1048568) : opB (frF body) = body := by
  unfold opB
  rw [if_pos (frF_opE h), frF_body h]
theorem nxB_len (l : List Int) (h : nxE l = 0) : (nxB l).length = nn l := by
  obtain ⟨h1, h2, h3, _⟩ := nxE_ok h
  unfold nxB
  rw [if_pos h, List.length_take, List.length_drop]
  omega

/-! ### A byte that is turned -/
def xb (a b : Int) : Int := ((a.toNat ^^^ b.toNat : Nat) : Int)
def bend (l : List Int) (at' : Int) (by' : Int) : List Int := if 0 ≤ at' ∧ at' < l.length then l.set at'.toNat (xb (l.getD at'.toNat 0) by') else l
theorem xb_bok {a b : Int} (ha : 0 ≤ a ∧ a < 256) (hb : 0 ≤ b ∧ b < 256) : 0 ≤ xb a b ∧ xb a b < 256 := by
  have : a.toNat ^^^ b.toNat < 256 := Nat.xor_lt_two_pow (n := 8) (by omega) (by omega)
  unfold xb
  omega
theorem xb_zero {a : Int} (ha : 0 ≤ a) : xb a 0 = a := by unfold xb; simp; omega
theorem xb_twice {a b : Int} (ha : 0 ≤ a) (_hb : 0 ≤ b) : xb (xb a b) b = a := by
  unfold xb
  rw [Int.toNat_natCast, Nat.xor_assoc, Nat.xor_self, Nat.xor_zero]
  omega
theorem xb_ne {a b : Int} (ha : 0 ≤ a) (hb : 0 ≤ b) (h : ¬ b = 0) : xb a b ≠ a := by
  intro hh
  have h1 := congrArg (fun z => xb z b) hh
  have h2 : xb (xb a b) b = xb a b := h1
  rw [xb_twice ha hb] at h2
  unfold xb at hh
  have h3 : a.toNat ^^^ b.toNat = a.toNat ^^^ 0 := by rw [Nat.xor_zero]; omega
  have := xor_cancel' h3
  omega
theorem bend_len (l : List Int) (a b : Int) : (bend l a b).length = l.length := by
  unfold bend
  split <;> simp
theorem set_bok {l : List Int} (h : bok l) (i : Nat) {x : Int} (hx : 0 ≤ x ∧ x < 256) : bok (l.set i x) := fun y hy => by
  rcases List.mem_or_eq_of_mem_set hy with h1 | rfl
  · exact h y h1
  · exact hx
theorem bend_bok {l : List Int} (h : bok l) (a : Int) {b : Int} (hb : 0 ≤ b ∧ b < 256) : bok (bend l a b) := by
  unfold bend
  split
  · rename_i hc
    exact set_bok h _ (xb_bok (bok_at h (by omega)) hb)
  · exact h
theorem bend_out {l : List Int} {a b : Int} (h : ¬ (0 ≤ a ∧ a < l.length)) : bend l a b = l := if_neg h
theorem set_same {l : List Int} {i : Nat} (h : i < l.length) : l.set i (l.getD i 0) = l := by
  rw [show l.getD i 0 = l[i] by simp [List.getD, List.getElem?_eq_getElem h]]
  exact List.set_getElem_self h
theorem bend_zero {l : List Int} (h : bok l) (a : Int) : bend l a 0 = l := by
  unfold bend
  split
  · rename_i hc
    rw [xb_zero (bok_at h (by omega)).1, set_same (by omega)]
  · rfl
theorem bend_twice {l : List Int} (h : bok l) (a : Int) {b : Int} (hb : 0 ≤ b ∧ b < 256) : bend (bend l a b) a b = l := by
  by_cases hc : 0 ≤ a ∧ a < l.length
  · have hc2 : 0 ≤ a ∧ a < (bend l a b).length := by rw [bend_len]; exact hc
    have e : bend l a b = l.set a.toNat (xb (l.getD a.toNat 0) b) := if_pos hc
    have e2 : bend (bend l a b) a b = (bend l a b).set a.toNat (xb ((bend l a b).getD a.toNat 0) b) := if_pos hc2
    rw [e2, e]
    have hlt : a.toNat < l.length := by omega
    have g : (l.set a.toNat (xb (l.getD a.toNat 0) b)).getD a.toNat 0 = xb (l.getD a.toNat 0) b := by simp [List.getD, hlt]
    rw [g, xb_twice (bok_at h hlt).1 hb.1, List.set_set, set_same hlt]
  · rw [bend_out hc, bend_out hc]
theorem split_at {l : List Int} {i : Nat} (h : i < l.length) : l = l.take i ++ l.getD i 0 :: l.drop (i + 1) := by
  rw [show l.getD i 0 = l[i] by simp [List.getD, List.getElem?_eq_getElem h], ← List.drop_eq_getElem_cons h, List.take_append_drop]
theorem set_split {l : List Int} {i : Nat} (h : i < l.length) (x : Int) : l.set i x = l.take i ++ x :: l.drop (i + 1) := List.set_eq_take_append_cons_drop.trans (if_pos h)
theorem crc_set {l : List Int} (h : bok l) {i : Nat} (hi : i < l.length) {x : Int} (hx : 0 ≤ x ∧ x < 256) (hne : x ≠ l.getD i 0) : crc (l.set i x) ≠ crc l := by
  have e1 := set_split hi x
  have e2 := split_at hi
  rw [e1]
  intro hh
  have hh2 : crc (l.take i ++ x :: l.drop (i + 1)) = crc (l.take i ++ l.getD i 0 :: l.drop (i + 1)) := by rw [hh]; exact congrArg crc e2
  exact crc_other (bok_take h i) (bok_drop h (i + 1)) hx (bok_at h hi) hne hh2
/-- A frame of which one byte is turned is none. -/
theorem bend_none {body : List Int} (hb : bok body) (hl : body.length ≤ 1048568) {a b : Int} (ha : 0 ≤ a ∧ a < (frF body).length) (hby : 0 ≤ b ∧ b < 256) (hne : ¬ b = 0) : ¬ opE (bend (frF body) a b) = 0 := by
  intro h
  obtain ⟨i, hi⟩ : ∃ i, i = a.toNat := ⟨_, rfl⟩
  have hF := frF_bok hb
  have hil : i < (frF body).length := by omega
  obtain ⟨x, hx⟩ : ∃ x, x = xb ((frF body).getD i 0) b := ⟨_, rfl⟩
  have hxb : 0 ≤ x ∧ x < 256 := by rw [hx]; exact xb_bok (bok_at hF hil) hby
  have hxn : x ≠ (frF body).getD i 0 := by rw [hx]; exact xb_ne (bok_at hF hil).1 hby.1 hne
  have e : bend (frF body) a b = (frF body).set i x := by rw [hx, hi]; exact if_pos ha
  rw [e] at h
  have hlen : ((frF body).set i x).length = body.length + 8 := by rw [List.length_set, frF_len]
  have h0 : nxE ((frF body).set i x) = 0 ∧ ¬ nn ((frF body).set i x) + 8 < ((frF body).set i x).length := by
    unfold opE at h
    split at h
    · cases h
    · rename_i h1
      exact ⟨h, fun h2 => h1 ⟨h, h2⟩⟩
  obtain ⟨hn, hs⟩ := h0
  obtain ⟨_, _, h3, h4⟩ := nxE_ok hn
  have hnn : nn ((frF body).set i x) = body.length := by omega
  rw [frF_len] at hil
  -- the number's bytes
  by_cases c1 : i < 4
  · have h5 : ((frF body).set i x).take 4 = (frF body).take 4 := by
      refine numF_inj ?_ ?_ (bok_take (set_bok hF _ hxb) _) (bok_take hF _) ?_
      · rw [List.length_take]; omega
      · rw [List.length_take, frF_len]; omega
      · show nn _ = nn _
        rw [hnn, frF_nn hl]
    have h6 : (((frF body).set i x).take 4).getD i 0 = ((frF body).take 4).getD i 0 := congrArg (fun l => l.getD i 0) h5
    rw [getD_take c1, getD_take c1] at h6
    refine hxn ?_
    rw [← h6]
    simp [List.getD, frF_len, hil]
  · unfold tail4 at h4
    rw [hnn] at h4
    by_cases c2 : i < body.length + 4
    · have h5 : ((frF body).set i x).drop (body.length + 4) = (frF body).drop (body.length + 4) := List.drop_set_of_lt c2
      have h6 : ((frF body).set i x).take (body.length + 4) = (hd body).set i x := by rw [List.take_set, frF_hd]
      rw [h5, h6] at h4
      have h7 : ((frF body).drop (body.length + 4)).take 4 = num4 (crc (hd body)) := by rw [← frF_tail hl, tail4, frF_nn hl]
      rw [h7, numF_num4 (crc_lt _)] at h4
      refine crc_set (hd_bok hb) (i := i) (by rw [hd_len]; exact c2) hxb ?_ h4.symm
      rw [← frF_hd, getD_take c2]
      exact hxn
    · have h6 : ((frF body).set i x).take (body.length + 4) = hd body := by rw [List.take_set_of_le (by omega), frF_hd]
      rw [h6] at h4
      have h7 : ((frF body).drop (body.length + 4)).take 4 = num4 (crc (hd body)) := by rw [← frF_tail hl, tail4, frF_nn hl]
      have h8 : (((frF body).set i x).drop (body.length + 4)).take 4 = ((frF body).drop (body.length + 4)).take 4 := by
        refine numF_inj ?_ ?_ (bok_take (bok_drop (set_bok hF _ hxb) _) _) (bok_take (bok_drop hF _) _) ?_
        · rw [List.length_take, List.length_drop]; omega
        · rw [List.length_take, List.length_drop, frF_len]; omega
        · rw [h4, h7, numF_num4 (crc_lt _)]
      have h9 : ((((frF body).set i x).drop (body.length + 4)).take 4).getD (i - (body.length + 4)) 0 = (((frF body).drop (body.length + 4)).take 4).getD (i - (body.length + 4)) 0 := congrArg (fun l => l.getD (i - (body.length + 4)) 0) h8
      rw [getD_take (by omega), getD_take (by omega), getD_drop, getD_drop, show body.length + 4 + (i - (body.length + 4)) = i by omega] at h9
      refine hxn ?_
      rw [← h9]
      simp [List.getD, frF_len, hil]
end Go.Proofs.YtklngdmpledgeaaGreat.Fr

namespace Go.Proofs.YtklngdmpledgeaaGreat.Fr
open Go.RowKit

theorem bits_xor32 (a b : Nat) (ha : a < 4294967296) (hb : b < 4294967296) : bits .xor .u32 (a : Int) (b : Int) = ((a ^^^ b : Nat) : Int) := by
  show IntKind.u32.wrap ((BitVec.ofInt 32 (a : Int) ^^^ BitVec.ofInt 32 (b : Int)).toNat : Int) = _
  have := lt_xor ha hb
  have e1 : (BitVec.ofInt 32 (a : Int)).toNat = a := by rw [BitVec.toNat_ofInt]; omega
  have e2 : (BitVec.ofInt 32 (b : Int)).toNat = b := by rw [BitVec.toNat_ofInt]; omega
  rw [BitVec.toNat_xor, e1, e2]
  simp [IntKind.wrap, IntKind.bits, IntKind.signed]
  omega
set_option maxRecDepth 100000 in
theorem move_any (w : World) (r b : Nat) (hr : r < 4294967296) (hb : b < 256) :
    Calls Tryz.prog 100 #[.int .u32 (r : Int), .int .u8 (b : Int)] w fun e w' => e = .returned (.int .u32 (mvF r b : Int)) ∧ w = w' := by
  obtain ⟨q, hq⟩ : ∃ q, q = r ^^^ b := ⟨_, rfl⟩
  have hx := bits_xor32 r b hr (by omega)
  rw [← hq] at hx
  have hq2 : q < 4294967296 := by rw [hq]; exact lt_xor hr (by omega)
  have HM : Hid (stps 8 q = mvF r b) := by show _ = _; rw [hq]; rfl
  clear hq
  go_enter Tryz.func100, Tryz.ntmps100
  go_wp2
  go_loopg [0, 9] 8 (fun (gh : Nat) s0 s9 wx => ∃ k m : Nat, gh = 8 - k ∧ k ≤ 8 ∧ s0 = .int .u32 (m : Int) ∧ s9 = .int .i64 (k : Int) ∧ Hid (m < 4294967296 ∧ stps (8 - k) m = mvF r b) ∧ wx = w)
  case atStart => exact ⟨0, q, rfl, by omega, rfl, rfl, ⟨hq2, HM.out⟩, rfl⟩
  case round =>
    obtain ⟨k, m, rfl, hk, rfl, rfl, hm, rfl⟩ := hrel
    by_cases hlt : k < 8
    · have t1 : (k : Int) < 8 := by omega
      have hm2 := hm.out.1
      obtain ⟨y, hy⟩ : ∃ y, y = m / 2 := ⟨_, rfl⟩
      have e1 : (m : Int) / 2 = (y : Int) := by omega
      have hy2 : y < 4294967296 := by omega
      have HS : Hid (∀ z : Nat, z = stp m → z < 4294967296 ∧ stps (8 - (k + 1)) z = mvF r b) := by
        rintro z rfl
        refine ⟨stp_lt hm2, ?_⟩
        have h1 := hm.out.2
        rw [show 8 - k = 8 - (k + 1) + 1 by omega] at h1
        exact h1
      rcases Nat.mod_two_eq_zero_or_one m with hp | hp
      · have e2 : (m : Int) % 2 = 0 := by omega
        have e3 : bits .xor .u32 (y : Int) 0 = (y : Int) := by
          have := bits_xor32 y 0 hy2 (by decide)
          simpa using this
        have HZ := Lib.hid (HS.out y (by unfold stp; rw [hp, hy]; simp))
        clear hy hm HS
        go_wp2
        go_roundg (8 - (k + 1))
        case measure => omega
        case rel => exact ⟨k + 1, y, rfl, hlt, rfl, by go_num, HZ.out, rfl⟩
      · have e2 : (m : Int) % 2 = 1 := by omega
        obtain ⟨z, hz⟩ : ∃ z, z = y ^^^ 3988292384 := ⟨_, rfl⟩
        have e3 : bits .xor .u32 (y : Int) 3988292384 = (z : Int) := by
          have := bits_xor32 y 3988292384 hy2 (by decide)
          rw [hz]
          exact this
        have HZ := Lib.hid (HS.out z (by unfold stp; rw [hp, hz, hy]))
        clear hy hm HS hz
        go_wp2
        go_roundg (8 - (k + 1))
        case measure => omega
        case rel => exact ⟨k + 1, z, rfl, hlt, rfl, by go_num, HZ.out, rfl⟩
    · obtain rfl : k = 8 := by omega
      have HE : Hid (m = mvF r b) := hm.out.2
      go_wp2
      go_ret
      exact ⟨by rw [HE.out]; rfl, rfl⟩

/-- The slice v holds slices that hold the bytes ls. -/
def PAt (w : World) (v : Value) (ls : List (List Int)) : Prop :=
  ∃ A cap, v = .slice A ls.length cap ∧ ls.length ≤ cap ∧ (0 < ls.length → ∃ g o, A = some ⟨g, o, none⟩ ∧ g < w.heap.size ∧ ∀ i, i < ls.length → ∃ u, w.cell? ⟨g, o + i, none⟩ = some u ∧ BAt w u (ls.getD i []))
theorem PAt.one {w : World} {u : Value} {l : List Int} (h : BAt w u l) : PAt (w.alloc (.cells #[u] 22)) (.slice (some ⟨w.heap.size, 0, none⟩) 1 1) [l] :=
  ⟨_, 1, rfl, Nat.le_refl _, fun _ => ⟨w.heap.size, 0, rfl, by simp, fun i hi => by
    obtain rfl : i = 0 := by simp at hi; omega
    exact ⟨u, (block_cell (block_new w _)).1, h.kept ((Below.refl _ w).alloc (Nat.le_refl _) _)⟩⟩⟩
theorem PAt.kept {w w' : World} {v : Value} {ls : List (List Int)} (h : PAt w v ls) (hb : Below w.heap.size w w') : PAt w' v ls := by
  obtain ⟨A, cap, h1, h2, h3⟩ := h
  refine ⟨A, cap, h1, h2, fun hp => ?_⟩
  obtain ⟨g, o, h4, h5, h6⟩ := h3 hp
  refine ⟨g, o, h4, Nat.lt_of_lt_of_le h5 hb.size, fun i hi => ?_⟩
  obtain ⟨u, h7, h8⟩ := h6 i hi
  exact ⟨u, (hb.cell (p := ⟨g, o + i, none⟩) h5).trans h7, h8.kept hb⟩
theorem crcF_snoc {l : List Int} {j : Nat} (h : j < l.length) (r : Nat) : crcF r (l.take (j + 1)) = mvF (crcF r (l.take j)) (l.getD j 0).toNat := by
  rw [List.take_succ_eq_append_getElem h, crcF_app]
  show mvF _ _ = _
  simp [List.getD, List.getElem?_eq_getElem h]
theorem flat_snoc {ls : List (List Int)} {i : Nat} (h : i < ls.length) : (ls.take (i + 1)).flatten = (ls.take i).flatten ++ ls.getD i [] := by
  have e : ls.getD i [] = ls[i] := by simp [List.getD, List.getElem?_eq_getElem h]
  rw [List.take_succ_eq_append_getElem h, List.flatten_append, e, List.flatten_cons, List.flatten_nil, List.append_nil]
def boks (ls : List (List Int)) : Prop := ls.length ≤ 1000 ∧ ∀ l ∈ ls, bok l ∧ l.length ≤ 2000000
theorem boks_at {ls : List (List Int)} (h : boks ls) (i : Nat) : bok (ls.getD i []) ∧ (ls.getD i []).length ≤ 2000000 := by
  by_cases hi : i < ls.length
  · have e : ls.getD i [] = ls[i] := by simp [List.getD, List.getElem?_eq_getElem hi]
    rw [e]; exact h.2 _ (List.getElem_mem hi)
  · have e : ls.getD i [] = [] := by simp [List.getD, List.getElem?_eq_none (Nat.le_of_not_lt hi)]
    rw [e]; exact ⟨fun x hx => absurd hx (List.not_mem_nil), by decide⟩
theorem boks_flat {ls : List (List Int)} (h : boks ls) : bok ls.flatten := fun x hx => by
  obtain ⟨l, hl, hx2⟩ := List.mem_flatten.1 hx
  exact (h.2 l hl).1 x hx2
theorem boks_take {ls : List (List Int)} (h : boks ls) (i : Nat) : boks (ls.take i) := ⟨by have := h.1; rw [List.length_take]; omega, fun l hl => h.2 l (List.mem_of_mem_take hl)⟩
theorem boks_one {l : List Int} (h : bok l) (hl : l.length ≤ 2000000) : boks [l] := ⟨by simp, fun m hm => by rw [List.mem_singleton] at hm; subst hm; exact ⟨h, hl⟩⟩
theorem not32 (r : Nat) (h : r < 4294967296) : bits .xor .u32 IntKind.u32.max (r : Int) = ((4294967295 - r : Nat) : Int) := by
  show IntKind.u32.wrap ((BitVec.ofInt 32 IntKind.u32.max ^^^ BitVec.ofInt 32 (r : Int)).toNat : Int) = _
  have h3 : BitVec.ofInt 32 IntKind.u32.max = BitVec.allOnes 32 := by decide
  rw [h3, BitVec.allOnes_xor, BitVec.toNat_not, BitVec.toNat_ofInt]
  simp [IntKind.wrap, IntKind.bits, IntKind.signed]
  omega

set_option maxRecDepth 100000 in
set_option maxHeartbeats 4000000 in
theorem sum_any (w : World) (v : Value) (ls : List (List Int)) (h : PAt w v ls) (hb : boks ls) :
    Calls Tryz.prog 83 #[v] w fun e w' => e = .returned (.int .u32 (crc ls.flatten : Int)) ∧ w = w' := by
  obtain ⟨A, cap, rfl, _, hc⟩ := h
  obtain ⟨n, hn⟩ : ∃ n, n = ls.length := ⟨_, rfl⟩
  rw [← hn] at hc ⊢
  have HC := Lib.hid hc
  have HB := Lib.hid hb
  have HN := Lib.hid hn
  have hnl : n ≤ 1000 := by have := hb.1; omega
  clear hc hb hn
  go_enter Tryz.func83, Tryz.ntmps83
  go_wp2
  go_loopg [3, 10] n (fun (gh : Nat) s3 s10 wx => ∃ i r : Nat, gh = n - i ∧ i ≤ n ∧ s3 = .int .u32 (r : Int) ∧ s10 = .int .i64 (i : Int) ∧ Hid (r = crcF 4294967295 (ls.take i).flatten) ∧ wx = w)
  case atStart => exact ⟨0, 4294967295, rfl, Nat.zero_le _, rfl, rfl, rfl, rfl⟩
  case round =>
    obtain ⟨i, r, rfl, hi, rfl, rfl, hr, rfl⟩ := hrel
    by_cases hlt : i < n
    · have t1 : (i : Int) < (n : Int) := by omega
      obtain ⟨g, o, rfl, lg, hcell⟩ := HC.out (by omega)
      obtain ⟨u, hu, hub⟩ := hcell i hlt
      obtain ⟨A2, c2, rfl, _, hc2⟩ := hub
      obtain ⟨m, hm⟩ : ∃ m, m = (ls.getD i []).length := ⟨_, rfl⟩
      rw [← hm] at hc2 hu
      have HC2 := Lib.hid hc2
      have HM := Lib.hid hm
      have hbl := (boks_at HB.out i).1
      have hml : m ≤ 2000000 := by have := (boks_at HB.out i).2; omega
      have hrl : r < 4294967296 := by rw [hr.out]; exact crcF_lt (boks_flat (boks_take HB.out i)) (by decide)
      clear hc2 hcell hm
      go_wp2
      go_loopg [3, 16] m (fun (gh : Nat) s3 s16 wx => ∃ j q : Nat, gh = m - j ∧ j ≤ m ∧ s3 = .int .u32 (q : Int) ∧ s16 = .int .i64 (j : Int) ∧ Hid (q = crcF r ((ls.getD i []).take j)) ∧ wx = wr)
      case atStart => exact ⟨0, r, rfl, Nat.zero_le _, rfl, rfl, rfl, rfl⟩
      case round =>
        obtain ⟨j, q, rfl, hj, rfl, rfl, hq, rfl⟩ := hrel
        by_cases hlt2 : j < m
        · have t2 : (j : Int) < (m : Int) := by omega
          obtain ⟨g2, o2, rfl, _, hcc⟩ := HC2.out (by omega)
          obtain ⟨b, hb⟩ : ∃ b, b = ((ls.getD i []).getD j 0).toNat := ⟨_, rfl⟩
          have hbr := bok_at hbl (i := j) (by rw [← HM.out]; exact hlt2)
          have hcb := hcc j hlt2
          rw [show (ls.getD i []).getD j 0 = (b : Int) by omega] at hcb
          have hb2 : b < 256 := by omega
          have hql : q < 4294967296 := by rw [hq.out]; exact crcF_lt (bok_take hbl j) hrl
          have HMV := Lib.hid (move_any wr q b hql hb2)
          have HQ : Hid (mvF q b = crcF r ((ls.getD i []).take (j + 1))) := by
            show _ = _
            rw [crcF_snoc (by rw [← HM.out]; exact hlt2), ← hq.out, hb]
          clear hcc hb hbr hr hq
          go_wp2_with (go_at_call 100; refine HMV.out.mono ?_; rintro e w1 ⟨rfl, rfl⟩)
          go_roundg (m - (j + 1))
          case measure => omega
          case rel => exact ⟨j + 1, mvF q b, rfl, hlt2, rfl, by go_num, HQ.out, rfl⟩
        · obtain rfl : j = m := by omega
          have HQ : Hid (q = crcF 4294967295 (ls.take (i + 1)).flatten) := by
            show _ = _
            rw [flat_snoc (by rw [← HN.out]; exact hlt), crcF_app, ← hr.out, hq.out, HM.out, List.take_of_length_le (Nat.le_refl _)]
          clear hr hq
          go_wp2
          go_roundg (n - (i + 1))
          case measure => omega
          case rel => exact ⟨i + 1, q, rfl, hlt, rfl, by go_num, HQ.out, rfl⟩
    · obtain rfl : i = n := by omega
      have hrl : r < 4294967296 := by rw [hr.out]; exact crcF_lt (boks_flat (boks_take HB.out i)) (by decide)
      have HE : Hid (4294967295 - r = crc ls.flatten) := by
        show _ = _
        unfold crc
        rw [hr.out, HN.out, List.take_of_length_le (Nat.le_refl _)]
      clear hr
      have hx := not32 r hrl
      rw [HE.out] at hx
      go_wp2
      go_ret
      all_goals simp_all
end Go.Proofs.YtklngdmpledgeaaGreat.Fr

namespace Go.Proofs.YtklngdmpledgeaaGreat.Fr
open Go.RowKit

theorem numF_snoc {l : List Int} {j : Nat} (h : j < l.length) (a : Nat) : numF a (l.take (j + 1)) = numF a (l.take j) * 256 + (l.getD j 0).toNat := by
  have e : l.getD j 0 = l[j] := by simp [List.getD, List.getElem?_eq_getElem h]
  rw [List.take_succ_eq_append_getElem h, e]
  generalize l[j] = x
  generalize l.take j = m
  induction m generalizing a with
  | nil => rfl
  | cons y m ih => exact ih _
theorem numF_bound {l : List Int} (h : bok l) (j : Nat) (hj : j ≤ l.length) : numF 0 (l.take j) < 256 ^ j := by
  induction j with
  | zero => simp [numF]
  | succ j ih =>
    have h1 := ih (by omega)
    have h2 := bok_at h (i := j) (by omega)
    rw [numF_snoc (by omega), Nat.pow_succ]
    omega
set_option maxRecDepth 100000 in
set_option maxHeartbeats 1000000 in
theorem number_any (w : World) (v : Value) (l : List Int) (h : BAt w v l) (hb : bok l) (h4 : l.length = 4) :
    Calls Tryz.prog 104 #[v] w fun e w' => e = .returned (.int .u32 (numF 0 l : Int)) ∧ w = w' := by
  obtain ⟨A, cap, rfl, _, hc⟩ := h
  rw [h4] at hc ⊢
  have HC := Lib.hid hc
  have HB := Lib.hid hb
  have HL := Lib.hid h4
  clear hc hb h4
  go_enter Tryz.func104, Tryz.ntmps104
  go_wp2
  go_loopg [3, 8] 4 (fun (gh : Nat) s3 s8 wx => ∃ j q : Nat, gh = 4 - j ∧ j ≤ 4 ∧ s3 = .int .u32 (q : Int) ∧ s8 = .int .i64 (j : Int) ∧ Hid (q = numF 0 (l.take j)) ∧ wx = w)
  case atStart => exact ⟨0, 0, rfl, Nat.zero_le _, rfl, rfl, rfl, rfl⟩
  case round =>
    obtain ⟨j, q, rfl, hj, rfl, rfl, hq, rfl⟩ := hrel
    by_cases hlt : j < 4
    · have t1 : (j : Int) < 4 := by omega
      obtain ⟨g, o, rfl, _, hcc⟩ := HC.out (by omega)
      obtain ⟨b, hb⟩ : ∃ b, b = (l.getD j 0).toNat := ⟨_, rfl⟩
      have hbr := bok_at HB.out (i := j) (by rw [HL.out]; exact hlt)
      have hcb := hcc j hlt
      rw [show l.getD j 0 = (b : Int) by omega] at hcb
      have hb2 : b < 256 := by omega
      have hq2 : q * 256 ≤ 4294967040 := by
        have h1 := numF_bound HB.out j (by rw [HL.out]; exact hj)
        rw [← hq.out] at h1
        have h2 : 256 ^ j ≤ 256 ^ 3 := Nat.pow_le_pow_right (by decide) (by omega)
        have h3 : (256 : Nat) ^ 3 = 16777216 := by decide
        omega
      have HQ : Hid (q * 256 + b = numF 0 (l.take (j + 1))) := by
        show _ = _
        rw [numF_snoc (by rw [HL.out]; exact hlt), ← hq.out, hb]
      clear hcc hb hbr hq
      go_wp2
      go_roundg (4 - (j + 1))
      case measure => omega
      case rel => exact ⟨j + 1, q * 256 + b, rfl, hlt, by go_num, by go_num, HQ.out, rfl⟩
    · obtain rfl : j = 4 := by omega
      have HE : Hid (q = numF 0 l) := by show _ = _; rw [hq.out, List.take_of_length_le (Nat.le_of_eq HL.out)]
      clear hq
      go_wp2
      go_ret
      exact ⟨by rw [← HE.out]; rfl, rfl⟩

theorem byte_of (n k : Nat) : IntKind.u8.wrap ((n / k : Nat) : Int) = ((n / k % 256 : Nat) : Int) := by rw [IntKind.wrap_u8]; omega
set_option maxRecDepth 100000 in
set_option maxHeartbeats 4000000 in
theorem put_own (w : World) (base : Nat) (v : Value) (l : List Int) (n : Nat) (hown : w.ownsRow base 5 1 v l.length (bv l)) (hbase : base ≤ w.heap.size) (hl : l.length ≤ 2000000) (_hn : n < 4294967296) :
    Calls Tryz.prog 82 #[v, .int .u32 (n : Int)] w fun e w' => ∃ A cap, e = .returned (.slice A (l.length + 4) cap) ∧ w'.ownsRow base 5 1 (.slice A (l.length + 4) cap) (l ++ num4 n).length (bv (l ++ num4 n)) ∧ Below base w w' := by
  obtain ⟨i0, hi0, hz0, hz1, hz2⟩ := info_parts u8Inf
  have HO := Lib.hid hown
  obtain ⟨A, n0, c0, rfl⟩ : ∃ A n c, v = Value.slice A n c := by obtain ⟨A, c, h, _⟩ := BAt.of_own hown; exact ⟨A, _, c, h⟩
  obtain ⟨a, ha⟩ : ∃ a, a = n / 16777216 % 256 := ⟨_, rfl⟩
  obtain ⟨b, hb⟩ : ∃ b, b = n / 65536 % 256 := ⟨_, rfl⟩
  obtain ⟨c, hc⟩ : ∃ c, c = n / 256 % 256 := ⟨_, rfl⟩
  obtain ⟨d, hd⟩ : ∃ d, d = n % 256 := ⟨_, rfl⟩
  have HN : Hid (num4 n = [(a : Int), (b : Int), (c : Int), (d : Int)]) := by show _ = _; rw [ha, hb, hc, hd]; rfl
  have ea : IntKind.u8.wrap ((n : Int) / 16777216) = (a : Int) := by rw [IntKind.wrap_u8]; omega
  have eb : IntKind.u8.wrap ((n : Int) / 65536) = (b : Int) := by rw [IntKind.wrap_u8]; omega
  have ec : IntKind.u8.wrap ((n : Int) / 256) = (c : Int) := by rw [IntKind.wrap_u8]; omega
  have ed : IntKind.u8.wrap (n : Int) = (d : Int) := by rw [IntKind.wrap_u8]; omega
  clear hown ha hb hc hd
  go_enter Tryz.func82, Tryz.ntmps82
  go_wp2_with (at_builtin; refine wpList_append_lies _ rfl _ _ 22 rfl base 5 i0 _ 1 1 Tryz.underlying22 hi0 hz0 hz1 hz2 rfl (by decide) _ _ _ rfl (HO.out.alloc _) ⟨w.heap.size, 0, none⟩ 4 4 [.int .u8 (a : Int), .int .u8 (b : Int), .int .u8 (c : Int), .int .u8 (d : Int)] rfl rfl (World.news_of_block (heap_alloc_new w _)) (by simp [Value.oneCell']) (by decide) (by unfold maxLen; omega) (by omega) (by simp; omega) _ rfl ?_; intro gg cp w2 hown2 hgrow hat hlt2)
  go_ret
  refine ⟨_, _, rfl, ?_, (((Below.refl _ w).mono hbase).alloc hbase _).grown hgrow (by simp; omega) (fun j hj => (HO.out.lt j hj).1)⟩
  rw [HN.out, List.length_append, bv_app]
  exact hown2
end Go.Proofs.YtklngdmpledgeaaGreat.Fr
