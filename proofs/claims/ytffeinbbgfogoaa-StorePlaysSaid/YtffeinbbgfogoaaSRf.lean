/-
  The reference's store in memory; its place and Read. Conditions: at most a thousand files.
-/
import Derived.Test.YtffeinbbgfogoaaSRMath
import Derived.Test.YtffeinbbgfogoaaSKnown
import Derived.Lib.SmallJoins
namespace Go.Proofs.Ytffeinbbgfogoaa.Sr
open Go.RowKit Fr

/-- The reference's cells: its slice, its files, room, left, down. -/
structure RS where
  sv : Value
  D : List Fi
  rm : Int
  lf : Int
  dn : Bool
def rblk (x : RS) : Obj := .cells #[x.sv, .int .i64 x.rm, .int .i64 x.lf, .bool x.dn] 31 (0, 0)
theorem rblk_cells {w : World} {q : Nat} {x : RS} (h : w.heap[q]? = some (rblk x)) :
    (w.cell? ⟨q, 0, none⟩ = some x.sv ∧ w.cell? ⟨q, 1, none⟩ = some (.int .i64 x.rm) ∧ w.cell? ⟨q, 2, none⟩ = some (.int .i64 x.lf) ∧ w.cell? ⟨q, 3, none⟩ = some (.bool x.dn)) ∧
    w.frozen? ⟨q, 0, none⟩ = false ∧ w.frozen? ⟨q, 1, none⟩ = false ∧ w.frozen? ⟨q, 2, none⟩ = false ∧ w.frozen? ⟨q, 3, none⟩ = false := by
  unfold rblk at h
  exact ⟨⟨by simp [World.cell?, h], by simp [World.cell?, h], by simp [World.cell?, h], by simp [World.cell?, h]⟩, by simp [World.frozen?, h], by simp [World.frozen?, h], by simp [World.frozen?, h], by simp [World.frozen?, h]⟩
def fc (D : List Fi) : List Value := D.flatMap fun y => [.string y.1, y.2.1]
theorem fc_len (D : List Fi) : (fc D).length = D.length * 2 := by
  induction D with
  | nil => rfl
  | cons y r ih =>
    have e : fc (y :: r) = [.string y.1, y.2.1] ++ fc r := rfl
    rw [e, List.length_append, ih, List.length_cons]; simp; omega
theorem fc_append (D E : List Fi) : fc (D ++ E) = fc D ++ fc E := by simp [fc]
theorem fc_get (D : List Fi) : ∀ (i : Nat) (y : Fi), D[i]? = some y → (fc D)[i * 2]? = some (.string y.1) ∧ (fc D)[i * 2 + 1]? = some y.2.1 := by
  induction D with
  | nil => intro i y h; simp at h
  | cons z r ih =>
    intro i y h
    have e : fc (z :: r) = .string z.1 :: z.2.1 :: fc r := rfl
    cases i with
    | zero => cases h; exact ⟨rfl, rfl⟩
    | succ i =>
      obtain ⟨h1, h2⟩ := ih i y h
      rw [e, show (i + 1) * 2 = i * 2 + 1 + 1 by omega]
      exact ⟨h1, h2⟩
theorem bat_slice {w : World} {v : Value} {l : List Int} (h : BAt w v l) : v.oneCell' = true := by
  obtain ⟨A, c, rfl, _⟩ := h; rfl
theorem fc_one {w : World} {D : List Fi} (h : ∀ y ∈ D, BAt w y.2.1 y.2.2) : ∀ u ∈ fc D, u.oneCell' = true := fun u hu => by
  unfold fc at hu
  obtain ⟨y, hy, hu⟩ := List.mem_flatMap.1 hu
  simp only [List.mem_cons, List.not_mem_nil, or_false] at hu
  rcases hu with rfl | rfl
  · rfl
  · exact bat_slice (h y hy)

/-- A slice's block, where it has bytes. -/
def vb (v : Value) (i : Nat) : Prop := ∃ a n c, v = .slice (some a) n c ∧ 0 < n ∧ a.block = i
theorem bat_kept {w w' : World} {T : Nat → Prop} {v : Value} {l : List Int} (h : BAt w v l) (ho : Off T w w') (hf : ∀ i, vb v i → ¬ T i) : BAt w' v l := by
  obtain ⟨A, cap, rfl, h2, h3⟩ := h
  refine ⟨A, cap, rfl, h2, fun hp => ?_⟩
  obtain ⟨g, o, h4, h5, h6⟩ := h3 hp
  refine ⟨g, o, h4, Nat.lt_of_lt_of_le h5 ho.1.size, fun i hi => ?_⟩
  subst h4
  rw [World.cell?_of_block (w := w) (ho.2 g h5 (hf g ⟨_, _, _, rfl, hp, rfl⟩))]; exact h6 i hi
theorem vb_lt {w : World} {v : Value} {l : List Int} {i : Nat} (h : BAt w v l) (hi : vb v i) : i < w.heap.size := by
  obtain ⟨A, cap, rfl, h2, h3⟩ := h
  obtain ⟨a, n, c, e, hn, rfl⟩ := hi
  cases e
  obtain ⟨g, o, h4, h5, _⟩ := h3 hn
  cases h4
  exact h5
/-- The blocks that the reference's store has. -/
def ro (q : Nat) (x : RS) (i : Nat) : Prop := i = q ∨ x.sv.ownBlock = some i ∨ ∃ y ∈ x.D, vb y.2.1 i
structure RfR (w : World) (q : Nat) (x : RS) : Prop where
  blk : w.heap[q]? = some (rblk x)
  row : w.ownsRow 0 91 2 x.sv x.D.length (fc x.D)
  bts : ∀ y ∈ x.D, BAt w y.2.1 y.2.2
  apart : ∀ y ∈ x.D, ¬ vb y.2.1 q
  srt : SrtL x.D
  few : x.D.length ≤ 1000
structure Rm (w w' : World) (q : Nat) (x x' : RS) : Prop where
  st : RfR w' q x'
  off : Off (fun i => i = q) w w'
  new : ∀ i, ro q x' i → ro q x i ∨ w.heap.size ≤ i
theorem RfR.lt {w : World} {q : Nat} {x : RS} (h : RfR w q x) {i : Nat} (hi : ro q x i) : i < w.heap.size := by
  rcases hi with rfl | hi | ⟨y, hy, hi⟩
  · exact (Array.getElem?_eq_some_iff.1 h.blk).1
  · exact (h.row.lt i hi).2
  · exact vb_lt (h.bts y hy) hi
theorem frow_kept {w w' : World} {v : Value} {n : Nat} {xs : List Value} (h : w.ownsRow 0 91 2 v n xs) (hb : ∀ i, v.ownBlock = some i → w'.heap[i]? = w.heap[i]?) : w'.ownsRow 0 91 2 v n xs := by
  refine ⟨h.1, ?_⟩
  rcases h.2 with h2 | ⟨g, cap, cur, rfl, h0, h2, h3⟩
  · exact .inl h2
  · exact .inr ⟨g, cap, cur, rfl, h0, by rw [hb g rfl]; exact h2, h3⟩
theorem RfR.row_ne {w : World} {q : Nat} {x : RS} (h : RfR w q x) : x.sv.ownBlock ≠ some q := by
  intro e
  rcases h.row.2 with ⟨h2, _⟩ | ⟨g, cap, cur, h2, h0, h3, _⟩
  · rw [h2] at e; cases e
  · rw [h2] at e
    cases e
    have := h.blk.symm.trans h3
    simp [rblk] at this
theorem RfR.kept {w w' : World} {q : Nat} {x : RS} {T : Nat → Prop} (h : RfR w q x) (ho : Off T w w') (hT : ∀ i, ro q x i → ¬ T i) : RfR w' q x := by
  have hb : ∀ i, ro q x i → w'.heap[i]? = w.heap[i]? := fun i hi => ho.2 i (h.lt hi) (hT i hi)
  exact ⟨(hb q (.inl rfl)).trans h.blk, frow_kept h.row fun i hi => hb i (.inr (.inl hi)), fun y hy => bat_kept (h.bts y hy) ho fun i hi => hT i (.inr (.inr ⟨y, hy, hi⟩)), h.apart, h.srt, h.few⟩
theorem RfR.below {w w' : World} {q : Nat} {x : RS} (h : RfR w q x) (hb : Below w.heap.size w w') : RfR w' q x := h.kept (T := fun _ => False) (Off.of_below _ hb) fun _ _ h => h
theorem Rm.refl {w : World} {q : Nat} {x : RS} (h : RfR w q x) : Rm w w q x x := ⟨h, Off.refl _ _, fun _ h => .inl h⟩
theorem Rm.of_below {w w' : World} {q : Nat} {x : RS} (h : RfR w q x) (hb : Below w.heap.size w w') : Rm w w' q x x := ⟨h.below hb, Off.of_below _ hb, fun _ h => .inl h⟩
theorem Rm.trans {a b c : World} {q : Nat} {x y z : RS} (h : Rm a b q x y) (k : Rm b c q y z) : Rm a c q x z :=
  ⟨k.st, h.off.trans k.off (fun _ e => .inl e), fun i hi => (k.new i hi).elim (h.new i) fun h2 => .inr (Nat.le_trans h.off.1.size h2)⟩
/-- A step that turns the store's own numbers alone. -/
theorem Rm.of_own {w w' : World} {q : Nat} {x : RS} {lf' : Int} {dn' : Bool} (h : RfR w q x) (hb : w'.heap[q]? = some (rblk { x with lf := lf', dn := dn' })) (hg : w.grownBy w' (some q)) : Rm w w' q x { x with lf := lf', dn := dn' } := by
  have ho : Off (fun i => i = q) w w' := Off.of_grown hg fun i e => (Option.some.inj e).symm
  refine ⟨⟨hb, frow_kept h.row fun i hi => ho.2 i (h.row.lt i hi).2 fun e => h.row_ne (by rw [← e]; exact hi), fun y hy => bat_kept (h.bts y hy) ho fun i hi e => h.apart y hy (by rw [← e]; exact hi), h.apart, h.srt, h.few⟩, ho, fun i hi => .inl hi⟩

set_option maxRecDepth 100000 in
set_option maxHeartbeats 4000000 in
theorem rplace_any {w : World} {q : Nat} {x : RS} (k : ByteArray) (h : RfR w q x) :
    Calls Try.prog 79 #[.pointer (some ⟨q, 0, none⟩), .string k] w fun e w' => e = .returned (.tuple #[.int .i64 (plS x.D k : Nat), .bool (hasL x.D k)]) ∧ Below w.heap.size w w' := by
  have hha := has_at (k := k) h.srt
  rw [hha]
  clear hha
  have HR := Lib.hid h.row
  obtain ⟨⟨c0, _⟩, _⟩ := rblk_cells h.blk
  have hn := h.few
  clear h
  obtain ⟨sv, D, rm, lf, dn⟩ := x
  dsimp only at HR c0 hn ⊢
  rcases Go.Joins.ownsRow_forms HR.out with ⟨rfl, h0⟩ | ⟨g, cap, rfl⟩
  · have hl : D = [] := List.length_eq_zero_iff.1 h0
    subst hl
    clear h0 HR
    go_enter Try.func79, Try.ntmps79
    go_wp2
    refine wp_loop_rounds 1 ?_
    rw [rounds_succ]
    go_wp2_with fail
    go_quiet (fail)
    go_wp2
    go_ret2
    exact ⟨rfl, below_drewN (Below.refl _ _) _⟩
  · have e0 : (0 : Int) ≤ (D.length : Int) := by omega
    go_enter Try.func79, Try.ntmps79
    go_wp2
    go_loopg [6] D.length (fun (gh : Nat) si wx => ∃ i : Nat, gh = D.length - i ∧ i ≤ plS D k ∧ si = .int .i64 (i : Int) ∧ wx = w)
    case atStart => exact ⟨0, rfl, Nat.zero_le _, rfl, rfl⟩
    case round =>
      obtain ⟨i, rfl, hi, rfl, rfl⟩ := hrel
      have hpl := pl_le D k
      by_cases hlt : i < D.length
      · obtain ⟨y, hy⟩ : ∃ y, D[i]? = some y := ⟨_, List.getElem?_eq_getElem hlt⟩
        have hcg := fc_get D i y hy
        have c1 : wr.cell? ⟨g, i * 2, none⟩ = some (.string y.1) := (HR.out.cellAt (i * 2) (by omega)).trans hcg.1
        have t1 : (i : Int) < (D.length : Int) := by omega
        have t2 : (0 : Int) ≤ (i : Int) := by omega
        by_cases hk : Op.bytesLess y.1.toList k.toList = true
        · have hip : i + 1 ≤ plS D k := by
            rcases Nat.lt_or_ge i (plS D k) with h | h
            · exact h
            · have e : i = plS D k := by omega
              subst e
              have := pl_at hy
              rw [show blt y.1 k = true from hk] at this; cases this
          clear hcg hy
          go_wp2
          go_roundg (D.length - (i + 1))
          case measure => omega
          case rel => exact ⟨i + 1, rfl, hip, by go_num, rfl⟩
        · have hip : i = plS D k := by
            rcases Nat.lt_or_ge i (plS D k) with h | h
            · exact absurd (pl_lt h hy) hk
            · omega
          have hhas : Hid (hasP D k = decide (y.1 = k)) := by
            show _ = _
            unfold hasP
            rw [← hip, hy]
          have HIP := Lib.hid hip
          obtain ⟨z, hz⟩ : ∃ z, z = y.1 := ⟨_, rfl⟩
          rw [← hz] at c1 hk hhas
          have hk' : Op.bytesLess z.toList k.toList = false := by simpa using hk
          have he' := beqS z k
          obtain ⟨r, hr⟩ : ∃ r, r = decide (z = k) := ⟨_, rfl⟩
          rw [← hr] at he' hhas
          clear hcg hy hip hz hi hpl hk hr
          go_wp2_with fail
          go_quiet (fail)
          go_wp2
          go_ret2
          rw [hhas.out, ← HIP.out]
          exact ⟨rfl, below_drewN (Below.refl _ _) _⟩
      · have hip : i = plS D k := by omega
        have hb : Hid (hasP D k = false) := by
          show _ = _
          unfold hasP
          rw [List.getElem?_eq_none (by omega)]
        have HIP := Lib.hid hip
        have t1 : decide ((i : Int) < (D.length : Int)) = false := decide_eq_false (by omega)
        have t2 : decide (i < D.length) = false := decide_eq_false (by omega)
        clear hip hi hpl
        go_wp2_with fail
        go_quiet (fail)
        go_wp2
        go_ret2
        rw [hb.out, ← HIP.out]
        exact ⟨rfl, below_drewN (Below.refl _ _) _⟩

theorem val_none {D : List Fi} {k : ByteArray} (h : hasL D k = false) : valL D k = .slice none 0 0 := by
  induction D with
  | nil => rfl
  | cons y r ih =>
    rw [has_cons] at h
    unfold valL
    split at h
    · cases h
    · rename_i hn; rw [if_neg hn]; exact ih h
set_option maxRecDepth 100000 in
set_option maxHeartbeats 1000000 in
theorem rread_any {w : World} {q : Nat} {x : RS} (k : ByteArray) (h : RfR w q x) :
    Calls Try.prog 52 #[.pointer (some ⟨q, 0, none⟩), .string k] w fun e w' => e = .returned (.tuple #[valL x.D k, .bool (hasL x.D k)]) ∧ Below w.heap.size w w' := by
  have hf := rplace_any k h
  cases hh : hasL x.D k
  · have hv : valL x.D k = .slice none 0 0 := val_none hh
    rw [hh] at hf
    rw [hv]
    have HF := Lib.hid hf
    clear hf hv hh h
    go_enter Try.func52, Try.ntmps52
    go_wp2_with (go_at_call 79; refine HF.out.mono ?_; rintro e w' ⟨rfl, hb⟩)
    go_ret2
    exact ⟨rfl, hb⟩
  · obtain ⟨y, hy, hk, hv, _⟩ := val_at h.srt hh
    have hlt := (List.getElem?_eq_some_iff.1 hy).1
    rw [hh] at hf
    obtain ⟨g, cap, hg⟩ := Go.Joins.ownsRow_form h.row (by omega)
    have hcg := (fc_get x.D _ _ hy).2
    rw [hv] at hcg
    have HC : Hid (∀ W, Below w.heap.size w W → W.cell? ⟨q, 0, none⟩ = some (.slice (some ⟨g, 0, none⟩) x.D.length cap) ∧ W.cell? ⟨g, plS x.D k * 2 + 1, none⟩ = some (valL x.D k)) := fun W hW => by
      have h2 := h.below hW
      have h3 := h2.row
      rw [hg] at h3
      exact ⟨by rw [← hg]; exact (rblk_cells h2.blk).1.1, (h3.cellAt (plS x.D k * 2 + 1) (by omega)).trans hcg⟩
    obtain ⟨p, hp⟩ : ∃ p, p = plS x.D k := ⟨_, rfl⟩
    obtain ⟨n, hn⟩ : ∃ n, n = x.D.length := ⟨_, rfl⟩
    obtain ⟨v, hv2⟩ : ∃ v, v = valL x.D k := ⟨_, rfl⟩
    have hone : v.oneCell' = true := by
      rw [hv2, ← hv]
      exact bat_slice (h.bts y (List.mem_of_getElem? hy))
    rw [← hp, ← hn] at HC hlt
    rw [← hp] at hf
    rw [← hv2] at HC ⊢
    have HF := Lib.hid hf
    have t1 : (p : Int) < (n : Int) := by omega
    have t2 : (0 : Int) ≤ (p : Int) := by omega
    clear hf hh h hcg hy hk hv hg hp hn hv2
    go_enter Try.func52, Try.ntmps52
    go_wp2_with (go_at_call 79; refine HF.out.mono ?_; rintro e w' ⟨rfl, hb⟩; obtain ⟨c0, c1⟩ := HC.out _ hb)
    go_ret2
    exact ⟨rfl, hb⟩
end Go.Proofs.Ytffeinbbgfogoaa.Sr
