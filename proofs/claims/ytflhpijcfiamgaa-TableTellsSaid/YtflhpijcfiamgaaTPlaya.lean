/-
  Two tables of one's own, the program's and the reference's, side by side: what each call leaves of both. Conditions: at most a thousand rows.
-/
import Derived.Test.YtflhpijcfiamgaaTChgIi
import Derived.Test.YtflhpijcfiamgaaTLrows
import Derived.Test.YtflhpijcfiamgaaTSame
import Derived.Test.YtflhpijcfiamgaaTMutIi
namespace Go.Proofs.Ytflhpijcfiamgaa.Tb
open Go.RowKit

/-- The program's table holds rs, the reference's rs2. -/
def St (base tb db : Nat) (w : World) (rs rs2 : List (Int × Int)) : Prop := ∃ tv dv, Ii.TabV base w tb tv rs ∧ Rf.TabV base w db dv rs2
/-- A block of a table's, or of a truth value's. -/
def TS (base : Nat) (w : World) (x : Nat) : Prop := base ≤ x ∧ ∃ cs ty, w.heap[x]? = some (.cells cs ty (0, 0)) ∧ (ty = 26 ∨ ty = 55 ∨ ty = 30 ∨ ty = 53 ∨ ty = 4)
/-- Only such blocks are written. -/
def KT (base : Nat) (w w' : World) : Prop := Kept (TS base w) w w'
theorem KT.refl (base : Nat) (w : World) : KT base w w := Kept.refl _ _
theorem KT.trans {base : Nat} {a b c : World} (h : KT base a b) (k : KT base b c) : KT base a c :=
  ⟨k.os.trans h.os, k.tape.trans h.tape, k.output.trans h.output, Nat.le_trans h.size k.size, fun i hi hn =>
    (k.block i (Nat.lt_of_lt_of_le hi h.size) (fun ⟨h1, cs, ty, h2, h3⟩ => hn ⟨h1, cs, ty, by rw [← h.block i hi hn]; exact h2, h3⟩)).trans (h.block i hi hn)⟩
theorem KT.of_below {base : Nat} {w w' : World} (h : Below w.heap.size w w') : KT base w w' := Kept.of_below h
theorem KT.of_kept {base : Nat} {w w' : World} {S : Nat → Prop} (h : Kept S w w') (hS : ∀ x, x < w.heap.size → S x → TS base w x) : KT base w w' := h.mono hS
theorem KT.below {base : Nat} {w w' : World} (h : KT base w w') (hb : base ≤ w.heap.size) : Below base w w' := Kept.below h hb (fun k hk hs => by have := hs.1; omega)
theorem KT.drew {base : Nat} {w w' : World} (h : KT base w w') : KT base w w'.drew := ⟨h.os, h.tape, h.output, h.size, h.block⟩
theorem KT.keeps {base : Nat} {w w' : World} (h : KT base w w') {B : Nat} {cs : Array Value} {ty : TypeId} (hb : w.heap[B]? = some (.cells cs ty (0, 0))) (hty : ¬ (ty = 26 ∨ ty = 55 ∨ ty = 30 ∨ ty = 53 ∨ ty = 4)) : w'.heap[B]? = some (.cells cs ty (0, 0)) :=
  Kept.heap h hb (fun ⟨_, cs', ty', h2, h3⟩ => by
    rw [hb] at h2
    simp only [Option.some.injEq, Obj.cells.injEq] at h2
    obtain ⟨_, rfl, _⟩ := h2
    exact hty h3)

theorem sep {base tb db : Nat} {w : World} {tv dv : Value} {rs rs2 : List (Int × Int)} (h1 : Ii.TabV base w tb tv rs) (h2 : Rf.TabV base w db dv rs2) :
    tb ≠ db ∧ (∀ g, tv.ownBlock = some g → g ≠ db) ∧ (∀ g, dv.ownBlock = some g → g ≠ tb) ∧ ∀ g, tv.ownBlock = some g → ∀ g', dv.ownBlock = some g' → g ≠ g' := by
  refine ⟨fun e => ?_, fun g hg e => ?_, fun g hg e => ?_, fun g hg g' hg' e => ?_⟩
  · have a := h1.2.1
    have b := h2.2.1
    unfold Boxed at a b
    rw [e, b] at a
    simp at a
  · exact h2.2.1.not_row (e := 55) (by decide) h1.2.2 (by rw [hg, e])
  · exact h1.2.1.not_row (e := 53) (by decide) h2.2.2 (by rw [hg, e])
  · subst e
    rcases h1.2.2.2 with ⟨rfl, _⟩ | ⟨g1, c1, cur1, rfl, _, hh1, _⟩
    · simp [Value.ownBlock] at hg
    · rcases h2.2.2.2 with ⟨rfl, _⟩ | ⟨g2, c2, cur2, rfl, _, hh2, _⟩
      · simp [Value.ownBlock] at hg'
      · simp only [Value.ownBlock, Option.some.injEq] at hg hg'
        subst hg; subst hg'
        rw [hh1] at hh2
        simp at hh2
theorem ts_own {base tb : Nat} {w : World} {tv : Value} {rs : List (Int × Int)} (h : Ii.TabV base w tb tv rs) : ∀ x, Ii.OwnS tb tv x → TS base w x := by
  rintro x (rfl | e)
  · exact ⟨h.1, _, _, h.2.1, .inl rfl⟩
  · rcases h.2.2.2 with ⟨rfl, _⟩ | ⟨g1, c1, cur1, rfl, hb, hh1, _⟩
    · simp [Value.ownBlock] at e
    · simp only [Value.ownBlock, Option.some.injEq] at e
      subst e
      exact ⟨hb, _, _, hh1, .inr (.inl rfl)⟩
theorem ts_db {base db : Nat} {w : World} {dv : Value} {rs : List (Int × Int)} (h : Rf.TabV base w db dv rs) : ∀ x, x = db → TS base w x := by
  rintro x rfl
  exact ⟨h.1, _, _, h.2.1, .inr (.inr (.inl rfl))⟩
theorem keep_d {base tb db : Nat} {w w' : World} {tv dv : Value} {rs rs2 : List (Int × Int)} {S : Nat → Prop} (h1 : Ii.TabV base w tb tv rs) (h2 : Rf.TabV base w db dv rs2) (hk : Kept S w w') (hS : ∀ x, S x → Ii.OwnS tb tv x) : Rf.TabV base w' db dv rs2 := by
  obtain ⟨a, b, c, d⟩ := sep h1 h2
  refine h2.kept hk (fun hs => ?_) (fun g hg hs => ?_)
  · rcases hS _ hs with e | e
    · exact a e.symm
    · exact b _ e rfl
  · rcases hS _ hs with e | e
    · exact c _ hg e
    · exact d _ e _ hg rfl
theorem keep_t {base tb db : Nat} {w w' : World} {tv dv : Value} {rs rs2 : List (Int × Int)} (h1 : Ii.TabV base w tb tv rs) (h2 : Rf.TabV base w db dv rs2) (hk : Kept (fun x => x = db) w w') : Ii.TabV base w' tb tv rs := by
  obtain ⟨a, b, _, _⟩ := sep h1 h2
  exact h1.kept hk a (fun g hg => b g hg)

theorem St.below {base tb db : Nat} {w w' : World} {rs rs2 : List (Int × Int)} (h : St base tb db w rs rs2) (hb : Below w.heap.size w w') : St base tb db w' rs rs2 := by
  obtain ⟨tv, dv, h1, h2⟩ := h
  exact ⟨tv, dv, h1.below hb, h2.below hb⟩
/-- Truth values in boxes are as they were. -/
def KO (w w' : World) : Prop := ∀ B x, Boxed w B 4 x → Boxed w' B 4 x
theorem own_not {base tb ok : Nat} {w : World} {tv x : Value} {rs : List (Int × Int)} (h : Ii.TabV base w tb tv rs) (ho : Boxed w ok 4 x) : ¬ Ii.OwnS tb tv ok := by
  rintro (e | e)
  · have a := h.2.1
    unfold Boxed at a ho
    rw [← e, ho] at a
    simp at a
  · exact ho.not_row (e := 55) (by decide) h.2.2 e.symm
theorem ko_t {base tb : Nat} {w w' : World} {tv : Value} {rs : List (Int × Int)} (h : Ii.TabV base w tb tv rs) (hk : Kept (Ii.OwnS tb tv) w w') : KO w w' := fun _ _ ho => Kept.heap hk ho (own_not h ho)
theorem ko_d {base db : Nat} {w w' : World} {dv : Value} {rs : List (Int × Int)} (h : Rf.TabV base w db dv rs) (hk : Kept (fun x => x = db) w w') : KO w w' := fun B x ho => Kept.heap hk ho (fun e => by
  have a := h.2.1
  unfold Boxed at a ho
  rw [← e, ho] at a
  simp at a)
theorem ko_b {w w' : World} (h : Below w.heap.size w w') : KO w w' := fun _ _ ho => block_kept ho h
theorem put_t {base tb db : Nat} {w : World} {rs rs2 : List (Int × Int)} (k v : Int) (h : St base tb db w rs rs2) (ha : asc rs) (hn : rs.length ≤ 1000) (hb : base ≤ w.heap.size) :
    Calls Try.prog 8 #[.pointer (some ⟨tb, 0, none⟩), .int .i64 k, .int .i64 v] w fun e w' => e = .returned (.bool (!hasB rs k)) ∧ St base tb db w' (putL rs k v) rs2 ∧ KT base w w' ∧ KO w w' := by
  obtain ⟨tv, dv, h1, h2⟩ := h
  refine (Ii.put_any base w tb tv rs k v h1 ha hn hb).mono ?_
  rintro e w' ⟨rfl, tv', h3, h4, _⟩
  exact ⟨rfl, ⟨tv', dv, h3, keep_d h1 h2 h4 (fun _ h => h)⟩, KT.of_kept h4 (fun x _ => ts_own h1 x), ko_t h1 h4⟩
theorem put_d {base tb db : Nat} {w : World} {rs rs2 : List (Int × Int)} (k v : Int) (h : St base tb db w rs rs2) (ha : asc rs2) (hn : rs2.length ≤ 1000) (hb : base ≤ w.heap.size) :
    Calls Try.prog 9 #[.pointer (some ⟨db, 0, none⟩), .int .i64 k, .int .i64 v] w fun e w' => e = .returned (.bool (!hasB rs2 k)) ∧ St base tb db w' rs (putL rs2 k v) ∧ KT base w w' ∧ KO w w' := by
  obtain ⟨tv, dv, h1, h2⟩ := h
  refine (Rf.put_any base w db dv rs2 k v h2 ha hn hb).mono ?_
  rintro e w' ⟨rfl, dv', h3, h4, _⟩
  exact ⟨rfl, ⟨tv, dv', keep_t h1 h2 h4, h3⟩, KT.of_kept h4 (fun x _ => ts_db h2 x), ko_d h2 h4⟩
theorem drop_t {base tb db : Nat} {w : World} {rs rs2 : List (Int × Int)} (k : Int) (h : St base tb db w rs rs2) (ha : asc rs) (hn : rs.length ≤ 1000) :
    Calls Try.prog 12 #[.pointer (some ⟨tb, 0, none⟩), .int .i64 k] w fun e w' => e = .returned (.bool (hasB rs k)) ∧ St base tb db w' (dropL rs k) rs2 ∧ KT base w w' ∧ KO w w' := by
  obtain ⟨tv, dv, h1, h2⟩ := h
  refine (Ii.drop_any base w tb tv rs k h1 ha hn).mono ?_
  rintro e w' ⟨rfl, tv', h3, h4, _⟩
  exact ⟨rfl, ⟨tv', dv, h3, keep_d h1 h2 h4 (fun _ h => h)⟩, KT.of_kept h4 (fun x _ => ts_own h1 x), ko_t h1 h4⟩
theorem drop_d {base tb db : Nat} {w : World} {rs rs2 : List (Int × Int)} (k : Int) (h : St base tb db w rs rs2) (ha : asc rs2) (hn : rs2.length ≤ 1000) (hb : base ≤ w.heap.size) :
    Calls Try.prog 13 #[.pointer (some ⟨db, 0, none⟩), .int .i64 k] w fun e w' => e = .returned (.bool (hasB rs2 k)) ∧ St base tb db w' rs (dropL rs2 k) ∧ KT base w w' ∧ KO w w' := by
  obtain ⟨tv, dv, h1, h2⟩ := h
  refine (Rf.drop_any base w db dv rs2 k h2 ha hn hb).mono ?_
  rintro e w' ⟨rfl, dv', h3, h4, _⟩
  exact ⟨rfl, ⟨tv, dv', keep_t h1 h2 h4, h3⟩, KT.of_kept h4 (fun x _ => ts_db h2 x), ko_d h2 h4⟩
theorem get_t {base tb db : Nat} {w : World} {rs rs2 : List (Int × Int)} (k : Int) (h : St base tb db w rs rs2) (ha : asc rs) (hn : rs.length ≤ 1000) :
    Calls Try.prog 10 #[.pointer (some ⟨tb, 0, none⟩), .int .i64 k] w fun e w' => e = .returned (.tuple #[.int .i64 (Ii.getL rs k), .bool (hasB rs k)]) ∧ Below w.heap.size w w' := by
  obtain ⟨tv, dv, h1, h2⟩ := h
  exact Ii.get_any w _ rs k h1.read ha hn
theorem get_d {base tb db : Nat} {w : World} {rs rs2 : List (Int × Int)} (k : Int) (h : St base tb db w rs rs2) (ha : asc rs2) (hn : rs2.length ≤ 1000) :
    Calls Try.prog 11 #[.pointer (some ⟨db, 0, none⟩), .int .i64 k] w fun e w' => e = .returned (.tuple #[.int .i64 (Ii.getL rs2 k), .bool (hasB rs2 k)]) ∧ Below w.heap.size w w' := by
  obtain ⟨tv, dv, h1, h2⟩ := h
  exact Rf.get_any base w db dv rs2 k h2 ha hn

theorem st_ok {base tb db ok : Nat} {w : World} {rs rs2 : List (Int × Int)} {x : Value} (h : St base tb db w rs rs2) (ho : Boxed w ok 4 x) (u : Value) : St base tb db (w.setCell ⟨ok, 0, none⟩ u) rs rs2 := by
  obtain ⟨tv, dv, h1, h2⟩ := h
  have hno := own_not h1 ho
  refine ⟨tv, dv, h1.kept (Kept.of_set w ⟨ok, 0, none⟩ u) (fun e => hno (.inl e.symm)) (fun g hg e => hno (.inr (by rw [hg, e]))), h2.kept (Kept.of_set w ⟨ok, 0, none⟩ u) (fun e => ?_) (fun g hg e => ho.not_row (e := 53) (by decide) h2.2.2 (by rw [hg, e]))⟩
  have a := h2.2.1
  unfold Boxed at a ho
  simp only at e
  rw [e, ho] at a
  simp at a
end Go.Proofs.Ytflhpijcfiamgaa.Tb
