/-
  A note's bytes are read as that note, and what is read as a right note is its bytes. Conditions: none.
-/
import Derived.Test.YteahloddjekakaaDoorNNote
import Derived.Test.YteahloddjekakaaDoorNEnc
import Derived.Test.YteahloddjekakaaDoorNM7
namespace Go.Proofs.YteahloddjekakaaDoor.Nt
open Go.RowKit Td

abbrev St := Int × List Int × Nt
def s0 (er : Int) (l : List Int) : St := ((kindF er l).1, (kindF er l).2.2, ntZ (kindF er l).2.1)
def s1 (q : Bool) (s : St) : St := if q = true then ((Oc.byteF s.1 s.2.1).1, (Oc.byteF s.1 s.2.1).2.2, { s.2.2 with p := (Oc.byteF s.1 s.2.1).2.1 }) else (s.1, s.2.1, s.2.2)
def s2 (q : Bool) (s : St) : St := if q = true then ((cntF 9223372036854775807 s.1 s.2.1).1, (cntF 9223372036854775807 s.1 s.2.1).2.2, { s.2.2 with d := (cntF 9223372036854775807 s.1 s.2.1).2.1 }) else (s.1, s.2.1, s.2.2)
def s3 (q : Bool) (s : St) : St := if q = true then ((trF s.1 s.2.1).1, (trF s.1 s.2.1).2.2, { s.2.2 with t := (trF s.1 s.2.1).2.1 }) else (s.1, s.2.1, s.2.2)
def s4 (q : Bool) (s : St) : St := if q = true then ((txtF 12 s.1 s.2.1).1, (txtF 12 s.1 s.2.1).2.2, { s.2.2 with n := (txtF 12 s.1 s.2.1).2.1 }) else (s.1, s.2.1, s.2.2)
def s5 (q : Bool) (s : St) : St := if q = true then ((numF s.1 s.2.1).1, (numF s.1 s.2.1).2.2, { s.2.2 with a := (numF s.1 s.2.1).2.1 }) else (s.1, s.2.1, s.2.2)
def s6 (q : Bool) (s : St) : Int × List Rw × List Int := if q = true then rowsF s.1 s.2.1 else (s.1, [], s.2.1)
def mK (er : Int) (l : List Int) : Nat := (kindF er l).2.1.toNat
/-- All but the rows and the wide number. -/
def five (er : Int) (l : List Int) : St := s5 (ka (mK er l)) (s4 (kn (mK er l)) (s3 (kt (mK er l)) (s2 (kd (mK er l)) (s1 (kp (mK er l)) (s0 er l)))))
def six (er : Int) (l : List Int) : Int × List Rw × List Int := s6 (kr (mK er l)) (five er l)
/-- What the reader's note is, its mistake and its rest. -/
def NoteR (er : Int) (l : List Int) (x : Nt) (e7 : Int) (l7 : List Int) : Prop :=
  (kc (mK er l) = false ∧ x = (five er l).2.2 ∧ e7 = (six er l).1 ∧ l7 = (six er l).2.2) ∨
  (kc (mK er l) = true ∧ wideOk (six er l).1 (six er l).2.2 ∧ e7 = 0 ∧ l7 = (Oc.rg (six er l).2.2).2.2.drop 8 ∧ x = { (five er l).2.2 with hi := Oc.unf (Oc.rg (six er l).2.2).2.1, lo := (Oc.valN 0 ((Oc.rg (six er l).2.2).2.2.take 8) : Int) }) ∨
  (kc (mK er l) = true ∧ ¬ wideOk (six er l).1 (six er l).2.2 ∧ ¬ e7 = 0 ∧ x = { (five er l).2.2 with hi := 0, lo := 0 })
theorem kind_rng (er : Int) (l : List Int) : 0 ≤ (kindF er l).2.1 ∧ (kindF er l).2.1 ≤ 12 := by
  unfold kindF
  split
  · rename_i h
    obtain ⟨m, h1, h2, h3⟩ := isK_yes h
    rw [h1]; omega
  · show (0 : Int) ≤ 0 ∧ (0 : Int) ≤ 12; omega
/-- The reader's note. -/
theorem note_any (w : World) (hk : KinC w) (b : Nat) (er : Int) (l : List Int) (hS : GS w b er l w) (h0b : 0 < b) :
    Calls Tryd.prog 47 #[.agg #[.pointer (some ⟨b, 0, none⟩)]] w fun e w' => ∃ (A : Option Addr) (n c : Nat) (x : Nt) (e7 : Int) (l7 : List Int), e = .returned (.agg #[.int .i64 x.k, .int .i64 x.p, .int .i64 x.d, .int .i64 x.t.n, .string x.t.b, .string x.t.s, .string x.t.i, .int .i64 x.t.q, .int .i64 x.t.p, .string x.n, .int .i64 x.a, .slice A n c, .int .i64 x.hi, .int .u64 x.lo]) ∧ n = (six er l).2.1.length ∧ (RR w' A (six er l).2.1 ∧ ∀ a, A = some a → w.heap.size ≤ a.block) ∧ GS w b e7 l7 w' ∧ NoteR er l x e7 l7 := by
  obtain ⟨h1, h2⟩ := kind_rng er l
  have hm : (kindF er l).2.1 = ((mK er l : Nat) : Int) := by unfold mK; omega
  have hm12 : mK er l ≤ 12 := by unfold mK; omega
  exact note_l w hk b er l hS h0b (mK er l) hm12 (s0 er l).1 (s1 (kp (mK er l)) (s0 er l)).1 (s2 (kd (mK er l)) (s1 (kp (mK er l)) (s0 er l))).1 (s3 (kt (mK er l)) (s2 (kd (mK er l)) (s1 (kp (mK er l)) (s0 er l)))).1 (s4 (kn (mK er l)) (s3 (kt (mK er l)) (s2 (kd (mK er l)) (s1 (kp (mK er l)) (s0 er l))))).1 (five er l).1 (six er l).1
    (s0 er l).2.1 (s1 (kp (mK er l)) (s0 er l)).2.1 (s2 (kd (mK er l)) (s1 (kp (mK er l)) (s0 er l))).2.1 (s3 (kt (mK er l)) (s2 (kd (mK er l)) (s1 (kp (mK er l)) (s0 er l)))).2.1 (s4 (kn (mK er l)) (s3 (kt (mK er l)) (s2 (kd (mK er l)) (s1 (kp (mK er l)) (s0 er l))))).2.1 (five er l).2.1 (six er l).2.2
    (s0 er l).2.2 (s1 (kp (mK er l)) (s0 er l)).2.2 (s2 (kd (mK er l)) (s1 (kp (mK er l)) (s0 er l))).2.2 (s3 (kt (mK er l)) (s2 (kd (mK er l)) (s1 (kp (mK er l)) (s0 er l)))).2.2 (s4 (kn (mK er l)) (s3 (kt (mK er l)) (s2 (kd (mK er l)) (s1 (kp (mK er l)) (s0 er l))))).2.2 (five er l).2.2 (six er l).2.1
    _ _ _ _ _ _ _ rfl rfl rfl rfl rfl rfl rfl (by rw [← hm]; rfl) (by rw [← hm]; rfl) rfl rfl rfl rfl rfl rfl
/-! ### What a right note is -/
structure Rit (m : Nat) (x : Nt) (lr : List Rw) : Prop where
  k : x.k = (m : Int)
  m1 : 1 ≤ m
  m12 : m ≤ 12
  p : 0 ≤ x.p ∧ x.p < 3
  pz : kp m = false → x.p = 0
  d : 0 ≤ x.d ∧ x.d ≤ 500
  dz : kd m = false → x.d = 0
  t : kt m = true → chk x.t = 0
  tz : kt m = false → x.t = zT
  n : x.n.size ≤ 12
  nz : kn m = false → x.n = { data := #[] }
  az : ka m = false → x.a = 0
  r : lr.length ≤ 32
  rz : kr m = false → lr = []
  rn : ∀ y ∈ lr, y.1.size ≤ 12
  hz : kc m = false → x.hi = 0 ∧ x.lo = 0
theorem ba_eq {a b : ByteArray} (h : (a.toList == b.toList) = true) : a = b := by
  obtain ⟨d⟩ := a
  obtain ⟨c⟩ := b
  rw [toList_data', toList_data'] at h
  have h2 : d.toList = c.toList := eq_of_beq h
  exact congrArg ByteArray.mk (Array.toList_inj.1 h2)
theorem eqT_eq {x y : Tr} (h : eqT x y = true) : x = y := by
  obtain ⟨xn, xb, xs, xi, xq, xp⟩ := x
  obtain ⟨yn, yb, ys, yi, yq, yp⟩ := y
  unfold eqT at h
  simp only [Bool.and_eq_true, Bool.and_true] at h
  obtain ⟨h1, h2, h3, h4, h5, h6⟩ := h
  rw [eq_of_beq h1, ba_eq h2, ba_eq h3, ba_eq h4, eq_of_beq h5, eq_of_beq h6]
theorem orL_zero : ∀ {l : List Int}, orL l = 0 → ∀ y ∈ l, y = 0
  | [], _, _, h => absurd h List.not_mem_nil
  | a :: r, h, y, hy => by
    unfold orL at h
    split at h
    · rename_i h0
      rcases List.mem_cons.1 hy with h1 | h1
      · rw [h1]; exact h0
      · exact orL_zero h y h1
    · rename_i h0; exact absurd h h0
theorem unl_zero {b : Bool} {e : Int} (h : unl b e = 0) (he : ¬ e = 0) : b = true := by
  cases b
  · exact absurd h he
  · rfl
theorem isin_size {l : List Int} (h : Id.isinN l = 0) : l.length = 12 := by
  unfold Id.isinN at h
  split at h
  · rename_i h1; exact h1.1
  · exact absurd h (by decide)
theorem mem_size {l : List Int} (h : Id.memE l = 0) : l.length ≤ 8 := by
  unfold Id.memE at h
  split at h
  · rename_i h1; exact ((Id.mem_iff l).1 h1).2.1
  · exact absurd h (by decide)
theorem isE_zero : ∀ {l : List Rw}, isE l = 0 → ∀ y ∈ l, y.1.size ≤ 12
  | [], _, _, h => absurd h List.not_mem_nil
  | m :: r, h, y, hy => by
    unfold isE at h
    split at h
    · rename_i h0
      rcases List.mem_cons.1 hy with h1 | h1
      · have := isin_size h0
        rw [Id.sb_len] at this
        rw [h1]; omega
      · exact isE_zero h y h1
    · rename_i h0; exact absurd h h0
theorem rit_of {x : Nt} {lr : List Rw} (h : chkN x lr = 0) (_hs : SmN x lr) : ∃ m, Rit m x lr := by
  unfold chkN at h
  split at h
  case isFalse => exact absurd h (by decide)
  rename_i hk
  obtain ⟨m, hm, h1, h2⟩ := isK_yes hk
  have hmn : x.k.toNat = m := by rw [hm]; rfl
  rw [hmn] at h
  split at h
  case isFalse => exact absurd h (by decide)
  rename_i hf
  have hz := orL_zero h
  unfold errL at hz
  have z0 := hz (unl (!kp m || pOk x) 5) (by simp)
  have z1 := hz (unl (!kd m || dOk x) 2) (by simp)
  have z2 := hz (if kt m = true then chk x.t else 0) (by simp)
  have z3 := hz (if kn m = true then nameN x else 0) (by simp)
  have z5 := hz (rowsE x.k lr) (by simp)
  have z0 := unl_zero z0 (by decide)
  have z1 := unl_zero z1 (by decide)
  unfold fitB at hf
  simp only [Bool.and_eq_true, Bool.and_true, beq_iff_eq] at hf
  obtain ⟨f0, f1, f2, f3, f4, f5, f6⟩ := hf
  have hrow : lr.length ≤ 32 ∧ isE lr = 0 := by
    unfold rowsE at z5
    split at z5
    · exact absurd z5 (by decide)
    · split at z5
      · rename_i hn; exact absurd z5 hn
      · rename_i hl hn; exact ⟨by omega, Classical.not_not.1 hn⟩
  have pz : kp m = false → x.p = 0 := fun hq => by rw [hq] at f0; simpa using f0
  have dz : kd m = false → x.d = 0 := fun hq => by rw [hq] at f1; simpa using f1
  have nz : kn m = false → x.n = { data := #[] } := fun hq => by
    rw [hq] at f3
    have f4 : x.n.toList = [] := by simpa using f3
    apply ba_eq
    rw [f4, toList_data']
    rfl
  refine ⟨m, hm, h1, h2, ?_, pz, ?_, dz, fun hq => ?_, fun hq => ?_, ?_, nz, fun hq => ?_, hrow.1, fun hq => ?_, isE_zero hrow.2, fun hq => ?_⟩
  · cases hq : kp m
    · rw [pz hq]; omega
    · rw [hq] at z0
      have z0 : pOk x = true := by simpa using z0
      unfold pOk at z0
      simpa using z0
  · cases hq : kd m
    · rw [dz hq]; omega
    · rw [hq] at z1
      have z1 : dOk x = true := by simpa using z1
      unfold dOk at z1
      simp at z1
      omega
  · rw [if_pos hq] at z2; exact z2
  · rw [hq] at f2
    have f2 : hasT x = false := by simpa using f2
    unfold hasT at f2
    exact eqT_eq (by simpa using f2)
  · cases hq : kn m
    · rw [nz hq]; exact Nat.zero_le _
    · rw [if_pos hq] at z3
      unfold nameN at z3
      rw [← Id.sb_len]
      split at z3
      · exact Nat.le_of_eq (isin_size z3)
      · have := mem_size z3; omega
  · rw [hq] at f4; simpa using f4
  · rw [hq] at f5
    have : ¬ 0 < lr.length := by simpa using f5
    exact List.length_eq_zero_iff.1 (by omega)
  · rw [hq] at f6
    have f6 : hasC x = false := by simpa using f6
    unfold hasC at f6
    simpa using f6
/-! ### Forwards -/
theorem s1_fwd (q : Bool) (p : Int) (r : List Int) (y : Nt) (h : q = false → p = y.p) : s1 q (0, pt q [p] ++ r, y) = (0, r, { y with p := p }) := by
  cases q
  · rw [h rfl]; rfl
  · rfl
theorem s2_fwd (q : Bool) (d : Int) (dn : Nat) (r : List Int) (y : Nt) (hd : d = (dn : Int)) (h2 : dn ≤ 500) (h : q = false → d = y.d) : s2 q (0, pt q (Oc.grp dn) ++ r, y) = (0, r, { y with d := d }) := by
  cases q
  · rw [h rfl]; rfl
  · have h3 := cnt_fwd 9223372036854775807 dn r (by omega) (by omega)
    unfold s2 pt
    rw [if_pos rfl]
    show ((cntF 9223372036854775807 0 (Oc.grp dn ++ r)).1, (cntF 9223372036854775807 0 (Oc.grp dn ++ r)).2.2, { y with d := (cntF 9223372036854775807 0 (Oc.grp dn ++ r)).2.1 }) = _
    rw [h3, hd]
theorem chk_size {t : Tr} (h : chk t = 0) : t.b.size ≤ 12 ∧ t.s.size ≤ 12 ∧ t.i.size ≤ 12 := by
  unfold chk at h
  split at h
  · exact absurd h (by decide)
  · split at h
    · rename_i hn; exact absurd h hn
    · rename_i hn
      have hz := orL_zero (Classical.not_not.1 hn)
      have h1 := mem_size (hz (Id.memE (Id.sb t.b)) (by simp))
      have h2 := mem_size (hz (Id.memE (Id.sb t.s)) (by simp))
      have h3 := isin_size (hz (Id.isinN (Id.sb t.i)) (by simp))
      rw [Id.sb_len] at h1 h2 h3
      omega
theorem trF_fwd (t : Tr) (r : List Int) (hc : chk t = 0) (h1 : I64 t.n) (h2 : I64 t.q) (h3 : I64 t.p) : trF 0 (trB t ++ r) = (0, t, r) := by
  obtain ⟨k1, k2, k3⟩ := chk_size hc
  have e : trB t ++ r = nb t.n ++ (tx t.b ++ (tx t.s ++ (tx t.i ++ (nb t.q ++ (nb t.p ++ r))))) := by
    unfold trB txs
    simp only [List.flatMap_cons, List.flatMap_nil, List.append_assoc, List.nil_append]
  have a := num_fwd t.n (tx t.b ++ (tx t.s ++ (tx t.i ++ (nb t.q ++ (nb t.p ++ r))))) h1
  have b := txt_fwd 12 t.b (tx t.s ++ (tx t.i ++ (nb t.q ++ (nb t.p ++ r)))) (by omega) (by omega)
  have c := txt_fwd 12 t.s (tx t.i ++ (nb t.q ++ (nb t.p ++ r))) (by omega) (by omega)
  have d := txt_fwd 12 t.i (nb t.q ++ (nb t.p ++ r)) (by omega) (by omega)
  have f := num_fwd t.q (nb t.p ++ r) h2
  have g := num_fwd t.p r h3
  unfold trF
  simp only [e, a, b, c, d, f, g]
  have he : Oc.errB 0 (chk t) = 0 := by rw [hc]; rfl
  rw [he, if_pos rfl]
theorem s3_fwd (q : Bool) (t : Tr) (r : List Int) (y : Nt) (hc : q = true → chk t = 0) (h1 : I64 t.n) (h2 : I64 t.q) (h3 : I64 t.p) (h : q = false → t = y.t) : s3 q (0, pt q (trB t) ++ r, y) = (0, r, { y with t := t }) := by
  cases q
  · rw [h rfl]; rfl
  · have h4 := trF_fwd t r (hc rfl) h1 h2 h3
    unfold s3 pt
    rw [if_pos rfl]
    show ((trF 0 (trB t ++ r)).1, (trF 0 (trB t ++ r)).2.2, { y with t := (trF 0 (trB t ++ r)).2.1 }) = _
    rw [h4]
theorem s4_fwd (q : Bool) (s : ByteArray) (r : List Int) (y : Nt) (hs : s.size ≤ 12) (h : q = false → s = y.n) : s4 q (0, pt q (tx s) ++ r, y) = (0, r, { y with n := s }) := by
  cases q
  · rw [h rfl]; rfl
  · have h4 := txt_fwd 12 s r (by omega) (by omega)
    unfold s4 pt
    rw [if_pos rfl]
    show ((txtF 12 0 (tx s ++ r)).1, (txtF 12 0 (tx s ++ r)).2.2, { y with n := (txtF 12 0 (tx s ++ r)).2.1 }) = _
    rw [h4]
theorem s5_fwd (q : Bool) (x : Int) (r : List Int) (y : Nt) (hx : I64 x) (h : q = false → x = y.a) : s5 q (0, pt q (nb x) ++ r, y) = (0, r, { y with a := x }) := by
  cases q
  · rw [h rfl]; rfl
  · have h4 := num_fwd x r hx
    unfold s5 pt
    rw [if_pos rfl]
    show ((numF 0 (nb x ++ r)).1, (numF 0 (nb x ++ r)).2.2, { y with a := (numF 0 (nb x ++ r)).2.1 }) = _
    rw [h4]
theorem rowF_fwd : ∀ (l : List Rw) (r : List Int) (acc : List Rw), (∀ m ∈ l, I64 m.2 ∧ m.1.size ≤ 12) → rowF l.length 0 (rwB l ++ r) acc = (0, acc ++ l, r)
  | [], r, acc, _ => by rw [List.append_nil]; rfl
  | m :: l, r, acc, h => by
    obtain ⟨h1, h2⟩ := h m (by simp)
    have e : rwB (m :: l) ++ r = tx m.1 ++ (nb m.2 ++ (rwB l ++ r)) := by
      unfold rwB
      simp only [List.flatMap_cons, List.append_assoc]
    have a := txt_fwd 12 m.1 (nb m.2 ++ (rwB l ++ r)) (by omega) (by omega)
    have b := num_fwd m.2 (rwB l ++ r) h1
    rw [List.length_cons, rowF, e]
    simp only [a, b]
    rw [rowF_fwd l r _ (fun y hy => h y (by simp [hy])), List.append_assoc]
    rfl
theorem s6_fwd (q : Bool) (lr : List Rw) (r : List Int) (y : Nt) (hl : lr.length ≤ 32) (hr : ∀ m ∈ lr, I64 m.2 ∧ m.1.size ≤ 12) (h : q = false → lr = []) : s6 q (0, pt q (rowsB lr) ++ r, y) = (0, lr, r) := by
  cases q
  · rw [h rfl]; rfl
  · have h3 := cnt_fwd 32 lr.length (rwB lr ++ r) (by omega) (by omega)
    have e : rowsB lr ++ r = Oc.grp lr.length ++ (rwB lr ++ r) := by unfold rowsB; rw [List.append_assoc]
    unfold s6 pt
    rw [if_pos rfl]
    show rowsF 0 (rowsB lr ++ r) = _
    unfold rowsF
    rw [e, h3]
    exact rowF_fwd lr r [] hr
/-- The numbers of a note are machine numbers. -/
structure Num (x : Nt) (lr : List Rw) : Prop where
  t : I64 x.t.n ∧ I64 x.t.q ∧ I64 x.t.p
  a : I64 x.a
  hi : I64 x.hi
  lo : 0 ≤ x.lo ∧ x.lo < 18446744073709551616
  r : ∀ m ∈ lr, I64 m.2
theorem enc_assoc (m : Nat) (x : Nt) (dn lo : Nat) (lr : List Rw) : encB m x dn lo lr = (m : Int) :: (pt (kp m) [x.p] ++ (pt (kd m) (Oc.grp dn) ++ (pt (kt m) (trB x.t) ++ (pt (kn m) (tx x.n) ++ (pt (ka m) (nb x.a) ++ (pt (kr m) (rowsB lr) ++ (pt (kc m) (wdB x.hi lo) ++ []))))))) := by
  unfold encB encQ
  simp only [List.append_assoc, List.cons_append, List.nil_append, List.append_nil]
  rfl
theorem kind_fwd (m : Nat) (h1 : 1 ≤ m) (h2 : m ≤ 12) (r : List Int) : kindF 0 ((m : Int) :: r) = (0, (m : Int), r) := by
  unfold kindF
  have e : Oc.byteF 0 ((m : Int) :: r) = (0, (m : Int), r) := rfl
  rw [e]
  show (if isK (m : Int) = true then _ else _) = _
  rw [if_pos (isK_nat h1 h2)]
theorem hilo {x : Nt} (h1 : x.hi = 0) (h2 : x.lo = 0) : ({ x with hi := 0, lo := 0 } : Nt) = x := by
  obtain ⟨a, b, c, d, e, f, g, i⟩ := x
  have h1 : g = 0 := h1
  have h2 : i = 0 := h2
  subst h1
  subst h2
  rfl
theorem fwd {m : Nat} {x : Nt} {lr : List Rw} (H : Rit m x lr) (N : Num x lr) (z : Nt) (e7 : Int) (l7 : List Int) :
    (six 0 (encB m x x.d.toNat x.lo.toNat lr)).2.1 = lr ∧ (NoteR 0 (encB m x x.d.toNat x.lo.toNat lr) z e7 l7 → z = x ∧ e7 = 0 ∧ l7 = []) := by
  have hd : x.d = (x.d.toNat : Int) := by have := H.d; omega
  have hlo : ((x.lo.toNat : Nat) : Int) = x.lo := by have := N.lo; omega
  obtain ⟨dn, hdn⟩ : ∃ d, d = x.d.toNat := ⟨_, rfl⟩
  obtain ⟨ln, hln⟩ : ∃ d, d = x.lo.toNat := ⟨_, rfl⟩
  rw [← hdn] at hd ⊢
  rw [← hln] at hlo ⊢
  have k0 := kind_fwd m H.m1 H.m12
  have hdb : dn ≤ 500 := by have := H.d; omega
  rw [enc_assoc]
  have em : ∀ r, mK 0 ((m : Int) :: r) = m := fun r => by unfold mK; rw [k0]; rfl
  have e0 : ∀ r, s0 0 ((m : Int) :: r) = (0, r, ntZ (m : Int)) := fun r => by unfold s0; rw [k0]
  have e5 : ∀ r, five 0 ((m : Int) :: (pt (kp m) [x.p] ++ (pt (kd m) (Oc.grp dn) ++ (pt (kt m) (trB x.t) ++ (pt (kn m) (tx x.n) ++ (pt (ka m) (nb x.a) ++ r)))))) = (0, r, { x with hi := 0, lo := 0 }) := fun r => by
    unfold five
    rw [em, e0, s1_fwd _ _ _ _ H.pz, s2_fwd _ _ _ _ _ hd hdb H.dz, s3_fwd _ _ _ _ H.t N.t.1 N.t.2.1 N.t.2.2 H.tz, s4_fwd _ _ _ _ H.n H.nz, s5_fwd _ _ _ _ N.a H.az]
    have := H.k
    unfold ntZ
    rw [← this]
  have e6 : ∀ r, six 0 ((m : Int) :: (pt (kp m) [x.p] ++ (pt (kd m) (Oc.grp dn) ++ (pt (kt m) (trB x.t) ++ (pt (kn m) (tx x.n) ++ (pt (ka m) (nb x.a) ++ (pt (kr m) (rowsB lr) ++ r))))))) = (0, lr, r) := fun r => by
    unfold six
    rw [em, e5, s6_fwd _ _ _ _ H.r (fun y hy => ⟨N.r y hy, H.rn y hy⟩) H.rz]
  refine ⟨by rw [e6], fun hN => ?_⟩
  unfold NoteR at hN
  rw [em, e5, e6] at hN
  cases hc : kc m
  · rw [hc] at hN
    rcases hN with ⟨_, h1, h2, h3⟩ | ⟨h0, _⟩ | ⟨h0, _⟩
    · obtain ⟨z1, z2⟩ := H.hz hc
      refine ⟨?_, h2, h3⟩
      rw [h1]
      exact hilo z1 z2
    · cases h0
    · cases h0
  · rw [hc] at hN
    obtain ⟨w1, w2, w3, w4⟩ := wide_fwd x.hi ln [] N.hi (by have := N.lo; omega)
    rcases hN with ⟨h0, _⟩ | ⟨_, _, h2, h3, h4⟩ | ⟨_, h1, _, _⟩
    · cases h0
    · refine ⟨?_, h2, ?_⟩
      · rw [h4]
        show ({ x with hi := Oc.unf (Oc.rg (wdB x.hi ln ++ [])).2.1, lo := (Oc.valN 0 ((Oc.rg (wdB x.hi ln ++ [])).2.2.take 8) : Int) } : Nt) = x
        rw [w2, w3, hlo]
      · rw [h3]; exact w4
    · exact absurd w1 h1
/-! ### What is left is bytes -/
theorem rg_bok {l : List Int} (hb : Oc.bok l) (h : (Oc.rg l).1 = 0) : Oc.bok (Oc.rg l).2.2 := by
  have hi := Oc.rg_inv hb (rg_eq h)
  exact fun x hx => hb x (by rw [hi.2]; exact List.mem_append_right _ hx)
theorem byte_bok {er : Int} {l : List Int} (hb : Oc.bok l) : Oc.bok (Oc.byteF er l).2.2 := by
  unfold Oc.byteF
  split
  · cases l with
    | nil => exact fun x hx => absurd hx List.not_mem_nil
    | cons y r => exact fun x hx => hb x (List.mem_cons_of_mem _ hx)
  · exact hb
theorem kind_bok {er : Int} {l : List Int} (hb : Oc.bok l) : Oc.bok (kindF er l).2.2 := by
  unfold kindF
  split
  · exact byte_bok hb
  · exact byte_bok hb
theorem cnt_bok {most er : Int} {l : List Int} (hb : Oc.bok l) : Oc.bok (cntF most er l).2.2 := by
  unfold cntF
  split
  · split
    · rename_i h
      split
      · exact rg_bok hb h
      · exact hb
    · exact hb
  · exact hb
theorem num_bok {er : Int} {l : List Int} (hb : Oc.bok l) : Oc.bok (numF er l).2.2 := by
  unfold numF
  split
  · split
    · rename_i h; exact rg_bok hb h
    · exact hb
  · exact hb
theorem txt_bok {most er : Int} {l : List Int} (hb : Oc.bok l) : Oc.bok (txtF most er l).2.2 := by
  unfold txtF
  split
  · split
    · rename_i h
      split
      · split
        · exact fun x hx => rg_bok hb h x (List.mem_of_mem_drop hx)
        · exact hb
      · exact hb
    · exact hb
  · exact hb
theorem trF_bok {er : Int} {l : List Int} (hb : Oc.bok l) : Oc.bok (trF er l).2.2 := num_bok (num_bok (txt_bok (txt_bok (txt_bok (num_bok hb)))))
theorem rowF_bok : ∀ (k : Nat) (er : Int) (l : List Int) (acc : List Rw), Oc.bok l → Oc.bok (rowF k er l acc).2.2
  | 0, _, _, _, h => h
  | k + 1, _, _, _, h => by rw [rowF]; exact rowF_bok k _ _ _ (num_bok (txt_bok h))
theorem rows_bok {er : Int} {l : List Int} (hb : Oc.bok l) : Oc.bok (rowsF er l).2.2 := rowF_bok _ _ _ _ (cnt_bok hb)
/-! ### Backwards -/
theorem byte_inv {er : Int} {l : List Int} (h : (Oc.byteF er l).1 = 0) : er = 0 ∧ l = (Oc.byteF er l).2.1 :: (Oc.byteF er l).2.2 := by
  unfold Oc.byteF at h ⊢
  split at h
  · rename_i he
    rw [if_pos he]
    cases l with
    | nil => exact absurd h (by decide)
    | cons x r => exact ⟨he, rfl⟩
  · rename_i he; exact absurd h he
theorem cnt_er {most er : Int} {l : List Int} (h : (cntF most er l).1 = 0) : er = 0 := by
  unfold cntF at h
  split at h
  · rename_i he; exact he
  · exact h
theorem num_er {er : Int} {l : List Int} (h : (numF er l).1 = 0) : er = 0 := by
  unfold numF at h
  split at h
  · rename_i he; exact he
  · exact h
theorem txt_er {most er : Int} {l : List Int} (h : (txtF most er l).1 = 0) : er = 0 := by
  unfold txtF at h
  split at h
  · rename_i he; exact he
  · exact h
theorem bok_app {a b : List Int} (h : Oc.bok (a ++ b)) : Oc.bok b := fun x hx => h x (List.mem_append_right _ hx)
theorem num_inv2 {er : Int} {l : List Int} (hb : Oc.bok l) (h : (numF er l).1 = 0) : er = 0 ∧ l = nb (numF er l).2.1 ++ (numF er l).2.2 := by
  have he := num_er h
  subst he
  have e : numF 0 l = (0, (numF 0 l).2.1, (numF 0 l).2.2) := Prod.ext h rfl
  exact ⟨rfl, (num_inv hb e).1⟩
theorem txt_inv2 {most er : Int} {l : List Int} (hb : Oc.bok l) (h : (txtF most er l).1 = 0) : er = 0 ∧ l = tx (txtF most er l).2.1 ++ (txtF most er l).2.2 := by
  have he := txt_er h
  subst he
  have e : txtF most 0 l = (0, (txtF most 0 l).2.1, (txtF most 0 l).2.2) := Prod.ext h rfl
  exact ⟨rfl, (txt_inv hb e).1⟩
theorem cnt_inv2 {most er : Int} {l : List Int} (hb : Oc.bok l) (h : (cntF most er l).1 = 0) : er = 0 ∧ l = Oc.grp (cntF most er l).2.1.toNat ++ (cntF most er l).2.2 := by
  have he := cnt_er h
  subst he
  have e : cntF most 0 l = (0, (cntF most 0 l).2.1, (cntF most 0 l).2.2) := Prod.ext h rfl
  obtain ⟨n, h1, h2, _⟩ := cnt_inv hb e
  rw [h1]
  exact ⟨rfl, h2⟩
theorem errB_zero {e x : Int} (h : Oc.errB e x = 0) : e = 0 ∧ x = 0 := by
  unfold Oc.errB at h
  split at h
  · rename_i he; exact ⟨he, h⟩
  · rename_i he; exact absurd h he
theorem trF_inv {er : Int} {l : List Int} (hb : Oc.bok l) (h : (trF er l).1 = 0) : er = 0 ∧ l = trB (trF er l).2.1 ++ (trF er l).2.2 := by
  unfold trF at h ⊢
  obtain ⟨a, ha⟩ : ∃ a, a = numF er l := ⟨_, rfl⟩
  obtain ⟨b, hbb⟩ : ∃ b, b = txtF 12 a.1 a.2.2 := ⟨_, rfl⟩
  obtain ⟨c, hc⟩ : ∃ c, c = txtF 12 b.1 b.2.2 := ⟨_, rfl⟩
  obtain ⟨d, hd⟩ : ∃ d, d = txtF 12 c.1 c.2.2 := ⟨_, rfl⟩
  obtain ⟨f, hf⟩ : ∃ f, f = numF d.1 d.2.2 := ⟨_, rfl⟩
  obtain ⟨g, hg⟩ : ∃ g, g = numF f.1 f.2.2 := ⟨_, rfl⟩
  simp only [← ha, ← hbb, ← hc, ← hd, ← hf, ← hg] at h ⊢
  obtain ⟨z1, z2⟩ := errB_zero h
  rw [h, if_pos rfl]
  have zf : f.1 = 0 := by rw [hg] at z1; exact num_er z1
  have zd : d.1 = 0 := by rw [hf] at zf; exact num_er zf
  have zc : c.1 = 0 := by rw [hd] at zd; exact txt_er zd
  have zb : b.1 = 0 := by rw [hc] at zc; exact txt_er zc
  have za : a.1 = 0 := by rw [hbb] at zb; exact txt_er zb
  have ia := num_inv2 hb (by rw [← ha]; exact za)
  rw [← ha] at ia
  have ka : Oc.bok a.2.2 := by have := hb; rw [ia.2] at this; exact bok_app this
  have ib := txt_inv2 (most := 12) (er := a.1) ka (by rw [← hbb]; exact zb)
  rw [← hbb] at ib
  have kb : Oc.bok b.2.2 := by have := ka; rw [ib.2] at this; exact bok_app this
  have ic := txt_inv2 (most := 12) (er := b.1) kb (by rw [← hc]; exact zc)
  rw [← hc] at ic
  have kc : Oc.bok c.2.2 := by have := kb; rw [ic.2] at this; exact bok_app this
  have id := txt_inv2 (most := 12) (er := c.1) kc (by rw [← hd]; exact zd)
  rw [← hd] at id
  have kd : Oc.bok d.2.2 := by have := kc; rw [id.2] at this; exact bok_app this
  have jf := num_inv2 (er := d.1) kd (by rw [← hf]; exact zf)
  rw [← hf] at jf
  have kf : Oc.bok f.2.2 := by have := kd; rw [jf.2] at this; exact bok_app this
  have ig := num_inv2 (er := f.1) kf (by rw [← hg]; exact z1)
  rw [← hg] at ig
  refine ⟨ia.1, ?_⟩
  unfold trB txs
  simp only [List.flatMap_cons, List.flatMap_nil, List.append_assoc, List.nil_append]
  rw [← ig.2, ← jf.2, ← id.2, ← ic.2, ← ib.2]
  exact ia.2
theorem s1_inv {q : Bool} {s : St} (h : (s1 q s).1 = 0) : s.1 = 0 ∧ s.2.1 = pt q [(s1 q s).2.2.p] ++ (s1 q s).2.1 ∧ (s1 q s).2.2 = { s.2.2 with p := (s1 q s).2.2.p } := by
  cases q
  · exact ⟨h, rfl, rfl⟩
  · have := byte_inv (er := s.1) (l := s.2.1) h
    exact ⟨this.1, this.2, rfl⟩
theorem s2_inv {q : Bool} {s : St} (hb : Oc.bok s.2.1) (h : (s2 q s).1 = 0) : s.1 = 0 ∧ s.2.1 = pt q (Oc.grp (s2 q s).2.2.d.toNat) ++ (s2 q s).2.1 ∧ (s2 q s).2.2 = { s.2.2 with d := (s2 q s).2.2.d } := by
  cases q
  · exact ⟨h, rfl, rfl⟩
  · have := cnt_inv2 (most := 9223372036854775807) (er := s.1) (l := s.2.1) hb h
    exact ⟨this.1, this.2, rfl⟩
theorem s3_inv {q : Bool} {s : St} (hb : Oc.bok s.2.1) (h : (s3 q s).1 = 0) : s.1 = 0 ∧ s.2.1 = pt q (trB (s3 q s).2.2.t) ++ (s3 q s).2.1 ∧ (s3 q s).2.2 = { s.2.2 with t := (s3 q s).2.2.t } := by
  cases q
  · exact ⟨h, rfl, rfl⟩
  · have := trF_inv (er := s.1) (l := s.2.1) hb h
    exact ⟨this.1, this.2, rfl⟩
theorem s4_inv {q : Bool} {s : St} (hb : Oc.bok s.2.1) (h : (s4 q s).1 = 0) : s.1 = 0 ∧ s.2.1 = pt q (tx (s4 q s).2.2.n) ++ (s4 q s).2.1 ∧ (s4 q s).2.2 = { s.2.2 with n := (s4 q s).2.2.n } := by
  cases q
  · exact ⟨h, rfl, rfl⟩
  · have := txt_inv2 (most := 12) (er := s.1) (l := s.2.1) hb h
    exact ⟨this.1, this.2, rfl⟩
theorem s5_inv {q : Bool} {s : St} (hb : Oc.bok s.2.1) (h : (s5 q s).1 = 0) : s.1 = 0 ∧ s.2.1 = pt q (nb (s5 q s).2.2.a) ++ (s5 q s).2.1 ∧ (s5 q s).2.2 = { s.2.2 with a := (s5 q s).2.2.a } := by
  cases q
  · exact ⟨h, rfl, rfl⟩
  · have := num_inv2 (er := s.1) (l := s.2.1) hb h
    exact ⟨this.1, this.2, rfl⟩
theorem rowF_inv : ∀ (k : Nat) (er : Int) (l : List Int) (acc : List Rw), Oc.bok l → (rowF k er l acc).1 = 0 → er = 0 ∧ ∃ rs : List Rw, rs.length = k ∧ (rowF k er l acc).2.1 = acc ++ rs ∧ l = rwB rs ++ (rowF k er l acc).2.2
  | 0, er, l, acc, _, h => ⟨h, [], rfl, (List.append_nil _).symm, rfl⟩
  | k + 1, er, l, acc, hb, h => by
    rw [rowF] at h ⊢
    obtain ⟨a, ha⟩ : ∃ a, a = txtF 12 er l := ⟨_, rfl⟩
    obtain ⟨b, hbb⟩ : ∃ b, b = numF a.1 a.2.2 := ⟨_, rfl⟩
    simp only [← ha, ← hbb] at h ⊢
    have hzb : b.1 = 0 := by
      by_cases hk : Oc.bok b.2.2
      · exact (rowF_inv k b.1 b.2.2 _ hk h).1
      · exfalso
        apply hk
        have h1 : Oc.bok a.2.2 := by rw [ha]; exact txt_bok hb
        rw [hbb]; exact num_bok h1
    have hza : a.1 = 0 := by rw [hbb] at hzb; exact num_er hzb
    have ia := txt_inv2 (most := 12) (er := er) hb (by rw [← ha]; exact hza)
    rw [← ha] at ia
    have ka : Oc.bok a.2.2 := by have := hb; rw [ia.2] at this; exact bok_app this
    have ib := num_inv2 (er := a.1) ka (by rw [← hbb]; exact hzb)
    rw [← hbb] at ib
    have kb : Oc.bok b.2.2 := by have := ka; rw [ib.2] at this; exact bok_app this
    obtain ⟨_, rs, h1, h2, h3⟩ := rowF_inv k b.1 b.2.2 _ kb h
    refine ⟨ia.1, (a.2.1, b.2.1) :: rs, by rw [List.length_cons, h1], by rw [h2, List.append_assoc]; rfl, ?_⟩
    have e : rwB ((a.2.1, b.2.1) :: rs) = tx a.2.1 ++ (nb b.2.1 ++ rwB rs) := by
      unfold rwB
      simp only [List.flatMap_cons, List.append_assoc]
    rw [e, List.append_assoc, List.append_assoc, ← h3, ← ib.2]
    exact ia.2
theorem s6_inv {q : Bool} {s : St} (hb : Oc.bok s.2.1) (h : (s6 q s).1 = 0) : s.1 = 0 ∧ s.2.1 = pt q (rowsB (s6 q s).2.1) ++ (s6 q s).2.2 := by
  cases q
  · exact ⟨h, rfl⟩
  · have h' : (rowsF s.1 s.2.1).1 = 0 := h
    show s.1 = 0 ∧ s.2.1 = rowsB (rowsF s.1 s.2.1).2.1 ++ (rowsF s.1 s.2.1).2.2
    unfold rowsF at h' ⊢
    have hk : Oc.bok (cntF 32 s.1 s.2.1).2.2 := cnt_bok hb
    obtain ⟨h0, rs, h1, h2, h3⟩ := rowF_inv _ _ _ _ hk h'
    have hc := cnt_inv2 hb h0
    refine ⟨hc.1, ?_⟩
    rw [h2, List.nil_append]
    unfold rowsB
    rw [h1, List.append_assoc, ← h3]
    exact hc.2
theorem kind_inv {l : List Int} (h : (kindF 0 l).1 = 0) : l = ((mK 0 l : Nat) : Int) :: (kindF 0 l).2.2 ∧ (kindF 0 l).2.1 = ((mK 0 l : Nat) : Int) ∧ 1 ≤ mK 0 l := by
  obtain ⟨h1, h2⟩ := kind_rng 0 l
  have hm : (kindF 0 l).2.1 = ((mK 0 l : Nat) : Int) := by unfold mK; omega
  refine ⟨?_, hm, ?_⟩
  · rw [← hm]
    unfold kindF at h ⊢
    split at h
    · rename_i hk; rw [if_pos hk]; exact (byte_inv h).2
    · exact absurd (errB_zero h).2 (by decide)
  · unfold kindF at h
    split at h
    · rename_i hk
      obtain ⟨m, h3, h4, _⟩ := isK_yes hk
      have h5 : (kindF 0 l).2.1 = (Oc.byteF 0 l).2.1 := by unfold kindF; rw [if_pos hk]
      unfold mK
      rw [h5, h3]; omega
    · exact absurd (errB_zero h).2 (by decide)
theorem bwd {l : List Int} (hb : Oc.bok l) {x : Nt} (h : NoteR 0 l x 0 []) : x.k = ((mK 0 l : Nat) : Int) ∧ 1 ≤ mK 0 l ∧ l = encB (mK 0 l) x x.d.toNat x.lo.toNat (six 0 l).2.1 := by
  have h6 : (six 0 l).1 = 0 ∧ (six 0 l).2.2 = pt (kc (mK 0 l)) (wdB x.hi x.lo.toNat) ++ [] ∨ ¬ Oc.bok (six 0 l).2.2 := by
    rcases h with ⟨h0, h1, h2, h3⟩ | ⟨h0, h1, _, h3, h4⟩ | ⟨_, _, h2, _⟩
    · left
      rw [h0]
      exact ⟨h2.symm, h3.symm⟩
    · by_cases hk : Oc.bok (six 0 l).2.2
      · left
        have he := h1.1
        refine ⟨he, ?_⟩
        rw [he] at h1
        have hw := wide_inv hk h1
        rw [← h3] at hw
        rw [h0, h4]
        exact hw
      · exact .inr hk
    · exact absurd rfl h2
  obtain ⟨m, hm⟩ : ∃ m, m = mK 0 l := ⟨_, rfl⟩
  have hkb : Oc.bok (kindF 0 l).2.2 := kind_bok hb
  have b1 : Oc.bok (s1 (kp m) (s0 0 l)).2.1 := by
    unfold s1; split
    · exact byte_bok hkb
    · exact hkb
  have b2 : Oc.bok (s2 (kd m) (s1 (kp m) (s0 0 l))).2.1 := by
    unfold s2; split
    · exact cnt_bok b1
    · exact b1
  have b3 : Oc.bok (s3 (kt m) (s2 (kd m) (s1 (kp m) (s0 0 l)))).2.1 := by
    unfold s3; split
    · exact trF_bok b2
    · exact b2
  have b4 : Oc.bok (s4 (kn m) (s3 (kt m) (s2 (kd m) (s1 (kp m) (s0 0 l))))).2.1 := by
    unfold s4; split
    · exact txt_bok b3
    · exact b3
  have b5 : Oc.bok (five 0 l).2.1 := by
    unfold five; rw [← hm]; unfold s5; split
    · exact num_bok b4
    · exact b4
  have b6 : Oc.bok (six 0 l).2.2 := by
    unfold six; unfold s6; split
    · exact rows_bok b5
    · exact b5
  rcases h6 with ⟨z6, e6⟩ | h6
  case inr => exact absurd b6 h6
  have i6 := s6_inv (q := kr (mK 0 l)) (s := five 0 l) b5 z6
  have z5 : (s5 (ka m) (s4 (kn m) (s3 (kt m) (s2 (kd m) (s1 (kp m) (s0 0 l)))))).1 = 0 := by rw [hm]; exact i6.1
  have i5 := s5_inv b4 z5
  have i4 := s4_inv b3 i5.1
  have i3 := s3_inv b2 i4.1
  have i2 := s2_inv b1 i3.1
  have i1 := s1_inv i2.1
  have i0 := kind_inv (l := l) i1.1
  have hx5 : x = { (five 0 l).2.2 with hi := x.hi, lo := x.lo } := by
    rcases h with ⟨_, h1, _, _⟩ | ⟨_, _, _, _, h4⟩ | ⟨_, _, h2, _⟩
    · rw [← h1]
    · rw [h4]
    · exact absurd rfl h2
  have hf : five 0 l = s5 (ka m) (s4 (kn m) (s3 (kt m) (s2 (kd m) (s1 (kp m) (s0 0 l))))) := by unfold five; rw [← hm]
  rw [hf] at hx5
  have x5a : (s5 (ka m) (s4 (kn m) (s3 (kt m) (s2 (kd m) (s1 (kp m) (s0 0 l)))))).2.2.a = x.a := by rw [hx5]
  have x4n : (s4 (kn m) (s3 (kt m) (s2 (kd m) (s1 (kp m) (s0 0 l))))).2.2.n = x.n := by rw [hx5, i5.2.2]
  have x3t : (s3 (kt m) (s2 (kd m) (s1 (kp m) (s0 0 l)))).2.2.t = x.t := by rw [hx5, i5.2.2, i4.2.2]
  have x2d : (s2 (kd m) (s1 (kp m) (s0 0 l))).2.2.d = x.d := by rw [hx5, i5.2.2, i4.2.2, i3.2.2]
  have x1p : (s1 (kp m) (s0 0 l)).2.2.p = x.p := by rw [hx5, i5.2.2, i4.2.2, i3.2.2, i2.2.2]
  have x0k : (s0 0 l).2.2.k = x.k := by rw [hx5, i5.2.2, i4.2.2, i3.2.2, i2.2.2, i1.2.2]
  refine ⟨by rw [← x0k]; exact i0.2.1, i0.2.2, ?_⟩
  rw [enc_assoc, ← hm]
  rw [← hm] at i6 e6
  rw [x5a] at i5
  rw [x4n] at i4
  rw [x3t] at i3
  rw [x2d] at i2
  rw [x1p] at i1
  rw [← e6]
  have j6 : (five 0 l).2.1 = pt (kr m) (rowsB (six 0 l).2.1) ++ (six 0 l).2.2 := by
    have := i6.2
    unfold six
    rw [← hm]
    exact this
  rw [← j6, hf, ← i5.2.1, ← i4.2.1, ← i3.2.1, ← i2.2.1, ← i1.2.1]
  rw [← hm] at i0
  exact i0.1
theorem note_fun {er e : Int} {l r : List Int} {x y : Nt} (he : e = 0) (h : NoteR er l x e r) (k : NoteR er l y e r) : x = y := by
  rcases h with ⟨h0, h1, _⟩ | ⟨h0, _, _, _, h4⟩ | ⟨_, _, h2, _⟩
  · rcases k with ⟨_, k1, _⟩ | ⟨k0, _⟩ | ⟨k0, _⟩
    · rw [h1, k1]
    · rw [h0] at k0; cases k0
    · rw [h0] at k0; cases k0
  · rcases k with ⟨k0, _⟩ | ⟨_, _, _, _, k4⟩ | ⟨_, _, k2, _⟩
    · rw [h0] at k0; cases k0
    · rw [h4, k4]
    · exact absurd he k2
  · exact absurd he h2
end Go.Proofs.YteahloddjekakaaDoor.Nt
