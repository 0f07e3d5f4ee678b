/-
  What the reference's Check tells, as numbers: that is what the program's Check tells. Conditions: none.
-/
import Derived.Test.YteahloddjekakaaDoorNChkZ
namespace Go.Proofs.YteahloddjekakaaDoor.Nt
open Go.RowKit Td

/-- Has the note something that its kind doesn't ask for? -/
def offB (x : Nt) (n : Nat) : Bool := (((((((!askB x.k 112 && (x.p != 0)) || (!askB x.k 100 && (x.d != 0))) || (!askB x.k 116 && hasT x)) || (!askB x.k 110 && decide (0 < x.n.size))) || (!askB x.k 97 && (x.a != 0))) || (!askB x.k 114 && decide (0 < n))) || (!askB x.k 99 && ((x.hi != 0) || (x.lo != 0))))
/-- What the reference tells of a note: something too much; day, trade wrong; a name asked for; amount wrong. -/
def chkR (b t8 t10 g3 t18 : Bool) (tc : Int) (x : Nt) (l : List Rw) : Int := if b = true then 1 else if pOk x = false then 5 else if t8 = true then 2 else if t10 = true then tc else if (g3 && (nameN x != 0)) = true then nameN x else if t18 = true then 2 else rowsE x.k l
def chkQ (x : Nt) (n : Nat) (l : List Rw) : Int := chkR (offB x n) (askB x.k 100 && !dOk x) (askB x.k 116 && (chk x.t != 0)) (askB x.k 110) (askB x.k 97 && !amtB x) (chk x.t) x l
theorem ask_all (m : Nat) (h1 : 1 ≤ m) (h2 : m ≤ 12) : askB (m : Int) 112 = kp m ∧ askB (m : Int) 100 = kd m ∧ askB (m : Int) 116 = kt m ∧ askB (m : Int) 110 = kn m ∧ askB (m : Int) 97 = ka m ∧ askB (m : Int) 114 = kr m ∧ askB (m : Int) 99 = kc m := by
  have hm : m = 1 ∨ m = 2 ∨ m = 3 ∨ m = 4 ∨ m = 5 ∨ m = 6 ∨ m = 7 ∨ m = 8 ∨ m = 9 ∨ m = 10 ∨ m = 11 ∨ m = 12 := by omega
  rcases hm with rfl | rfl | rfl | rfl | rfl | rfl | rfl | rfl | rfl | rfl | rfl | rfl <;> exact ⟨by kernel_rfl, by kernel_rfl, by kernel_rfl, by kernel_rfl, by kernel_rfl, by kernel_rfl, by kernel_rfl⟩
theorem fit_one (g q : Bool) : ((g || q) == g) = !(!g && q) := by cases g <;> cases q <;> rfl
theorem seven (a b c d e f g : Bool) : (!a && (!b && (!c && (!d && (!e && (!f && (!g && true))))))) = !((((((a || b) || c) || d) || e) || f) || g) := by
  cases a <;> cases b <;> cases c <;> cases d <;> cases e <;> cases f <;> cases g <;> rfl
theorem loop_len (s : ByteArray) : ∀ (k i : Nat) (r : List UInt8), s.size - i = k → (ByteArray.toList.loop s i r).length = r.length + k
  | 0, i, r, h => by
    unfold ByteArray.toList.loop
    rw [if_neg (by omega), List.length_reverse]
    rfl
  | k + 1, i, r, h => by
    unfold ByteArray.toList.loop
    rw [if_pos (by omega), loop_len s k (i + 1) _ (by omega), List.length_cons]
    omega
theorem nam_size (s : ByteArray) : (!s.toList.isEmpty) = decide (0 < s.size) := by
  have h : s.toList.length = s.size := by
    have := loop_len s s.size 0 [] rfl
    rw [List.length_nil, Nat.zero_add] at this
    unfold ByteArray.toList
    exact this
  cases hl : s.toList with
  | nil =>
    rw [hl] at h
    have e : s.size = 0 := h.symm
    rw [e]; rfl
  | cons a r =>
    rw [hl] at h
    rw [decide_eq_true (by rw [← h, List.length_cons]; omega)]; rfl
theorem cash_two (a b : Int) : (!((a == 0) && ((b == 0) && true))) = ((a != 0) || (b != 0)) := by
  simp only [bne, Bool.and_true]
  cases (a == 0) <;> cases (b == 0) <;> rfl
theorem off_fit (m : Nat) (h1 : 1 ≤ m) (h2 : m ≤ 12) (x : Nt) (n : Nat) (hk : x.k = (m : Int)) : fitB m x n = !offB x n := by
  obtain ⟨a0, a1, a2, a3, a4, a5, a6⟩ := ask_all m h1 h2
  unfold fitB offB
  rw [hk, a0, a1, a2, a3, a4, a5, a6, fit_one, fit_one, fit_one, fit_one, fit_one, fit_one, fit_one, seven, nam_size]
  unfold hasC
  rw [cash_two]
theorem chkQ_eq (x : Nt) (l : List Rw) (hk : isK x.k = true) : chkQ x l.length l = chkN x l := by
  obtain ⟨m, hm, h1, h2⟩ := isK_yes hk
  have hof := off_fit m h1 h2 x l.length hm
  obtain ⟨a0, a1, a2, a3, a4, a5, a6⟩ := ask_all m h1 h2
  have hp : kp m = false → offB x l.length = false → pOk x = true := by
    intro hp ho
    have e : (!askB x.k 112 && (x.p != 0)) = false := by
      unfold offB at ho
      simp only [Bool.or_eq_false_iff] at ho
      exact ho.1.1.1.1.1.1
    rw [hm, a0, hp] at e
    have e2 : x.p = 0 := by simpa using e
    unfold pOk; rw [e2]; rfl
  unfold chkQ chkN
  rw [if_pos hk, hm, Int.toNat_natCast, a1, a2, a3, a4, hof]
  cases hob : offB x l.length
  · have hp := fun h => hp h hob
    unfold chkR errL
    clear a0 a1 a2 a3 a4 a5 a6 hof hob h1 h2 hm hk
    generalize kp m = g0 at *
    generalize kd m = g1 at *
    generalize kt m = g2 at *
    generalize kn m = g3 at *
    generalize ka m = g4 at *
    generalize pOk x = P at *
    generalize dOk x = D at *
    generalize amtB x = M at *
    generalize chk x.t = T at *
    generalize nameN x = N at *
    generalize rowsE x.k l = R at *
    cases P
    · have : g0 = true := by
        cases g0
        · exact absurd (hp rfl) (by decide)
        · rfl
      subst this
      rfl
    · have u : unl (!g0 || true) 5 = 0 := by cases g0 <;> rfl
      rw [u]
      clear u hp
      cases g1 <;> cases D <;> cases g2 <;> cases g3 <;> cases g4 <;> cases M <;> by_cases hT : T = 0 <;> by_cases hN : N = 0 <;> by_cases hR : R = 0 <;> simp [orL, unl, hT, hN, hR]
  · rfl
end Go.Proofs.YteahloddjekakaaDoor.Nt
