/-
  Files in a map of the call's own: what they hold, and what a look-up, a store and a deletion do. Conditions: none.
-/
import Derived.Test.YtklngdmpledgeaaSBytes
import Derived.Maps.OwnOps
namespace Go.Proofs.Ytklngdmpledgeaa.Sr
open Go.RowKit Go.MapKept Go.ChangeMaps Fr

/-- A file: its name; the slice that holds its bytes; its bytes. -/
abbrev Fi := ByteArray × Value × List Int
def valL : List Fi → ByteArray → Value
  | [], _ => .slice none 0 0
  | x :: r, k => if x.1 = k then x.2.1 else valL r k
def bytL : List Fi → ByteArray → List Int
  | [], _ => []
  | x :: r, k => if x.1 = k then x.2.2 else bytL r k
def hasL : List Fi → ByteArray → Bool
  | [], _ => false
  | x :: r, k => if x.1 = k then true else hasL r k
def idxL : List Fi → ByteArray → Nat
  | [], _ => 0
  | x :: r, k => if x.1 = k then 0 else idxL r k + 1
def putL : List Fi → ByteArray → Value × List Int → List Fi
  | [], k, v => [(k, v)]
  | x :: r, k, v => if x.1 = k then (k, v) :: r else x :: putL r k v
def delL : List Fi → ByteArray → List Fi
  | [], _ => []
  | x :: r, k => if x.1 = k then r else x :: delL r k
def usedL : List Fi → Nat
  | [] => 0
  | x :: r => x.2.2.length + usedL r
def ents (l : List MapEntry) : List (Value × Value) := l.map fun e => (e.key, e.val)
def rows (L : List Fi) : List (Value × Value) := L.map fun x => (Value.string x.1, x.2.1)
def MapR (w : World) (b : Nat) (L : List Fi) : Prop := ∃ es clock, w.heap[b]? = some (.map es clock) ∧ Stamped es clock ∧ ents es.toList = rows L
/-- The map, or nil, holds these files. -/
def MapO (w : World) (mb : Option Nat) (L : List Fi) : Prop := match mb with
  | none => L = []
  | some b => MapR w b L

theorem find_ents (k : ByteArray) : ∀ (l : List MapEntry) (L : List Fi) (i : Nat), ents l = rows L → Instr.findNow .string (.string k) l i = some (if hasL L k then some (i + idxL L k, valL L k) else none) := by
  intro l
  induction l with
  | nil =>
    intro L i h
    cases L with
    | nil => rfl
    | cons x r => simp [ents, rows] at h
  | cons e l ih =>
    intro L i h
    cases L with
    | nil => simp [ents, rows] at h
    | cons x r =>
      simp only [ents, rows, List.map_cons, List.cons.injEq, Prod.mk.injEq] at h
      obtain ⟨⟨h1, h2⟩, h3⟩ := h
      unfold Instr.findNow hasL idxL valL
      rw [h1]
      by_cases hk : x.1 = k
      · have hb : (k == x.1) = true := (bytes_beq _ _).2 hk.symm
        simp only [Instr.sameNow, hb]
        rw [if_pos hk, if_pos rfl, if_pos hk, if_pos hk, h2]; rfl
      · have hb : (k == x.1) = false := by
          cases hq : k == x.1 with
          | false => rfl
          | true => exact absurd ((bytes_beq _ _).1 hq).symm hk
        simp only [Instr.sameNow, hb]
        rw [if_neg hk, if_neg hk, if_neg hk, ih r (i + 1) h3]
        split
        · congr 3; omega
        · rfl
theorem keys_ents {l : List MapEntry} {L : List Fi} (h : ents l = rows L) : ∀ x ∈ l, IsKey .string x.key := by
  intro x hx
  have : (x.key, x.val) ∈ ents l := List.mem_map.2 ⟨x, hx, rfl⟩
  rw [h] at this
  obtain ⟨y, _, hy⟩ := List.mem_map.1 this
  have h1 : Value.string y.1 = x.key := congrArg Prod.fst hy
  rw [← h1]; trivial

theorem mapT : Try.prog.underlying 94 = some (.map 9 32) := by kernel_rfl
theorem strT : Try.prog.underlying 9 = some .string := by kernel_rfl
theorem zeroB (w : World) : (zeroValue 32).run Try.prog w = .ok (.slice none 0 0) w := by simp [Try.zeroValue32]

theorem lookup_run {w : World} {mb : Option Nat} {L : List Fi} (h : MapO w mb L) (k : ByteArray) (c : Bool) :
    (Instr.lookup 94 (.map mb) (.string k) c).run Try.prog w = .ok (if c then .tuple #[valL L k, .bool (hasL L k)] else valL L k) w := by
  cases mb with
  | none =>
    cases (show L = [] from h)
    simp [Instr.lookup, run_underlying mapT, run_checkKey strT (show IsKey .string (.string k) from trivial), run_findKey strT (show Instr.findNow .string (.string k) [] 0 = some none from rfl), Result.andThen, valL, hasL]
  | some b =>
    obtain ⟨es, clock, hb, hs, he⟩ := h
    have hf := find_ents k es.toList L 0 he
    cases hh : hasL L k with
    | true =>
      rw [hh, if_pos rfl] at hf
      simp [Instr.lookup, run_underlying mapT, Go.MapKept.run_getObj_map hb, run_checkKey strT (show IsKey .string (.string k) from trivial), run_findKey strT hf, Result.andThen]
    | false =>
      have hv : valL L k = .slice none 0 0 := by
        clear hf he
        induction L with
        | nil => rfl
        | cons x r ih =>
          unfold hasL at hh; unfold valL
          split
          · rw [if_pos ‹_›] at hh; cases hh
          · rw [if_neg ‹_›] at hh; exact ih hh
      rw [hh] at hf
      simp [Instr.lookup, run_underlying mapT, Go.MapKept.run_getObj_map hb, run_checkKey strT (show IsKey .string (.string k) from trivial), run_findKey strT (show _ = some none from hf), Result.andThen, hv]

theorem ents_get {l : List MapEntry} {L : List Fi} (h : ents l = rows L) (k : ByteArray) (hh : hasL L k = true) : ∃ e, l[idxL L k]? = some e ∧ e.key = .string k := by
  induction L generalizing l with
  | nil => cases hh
  | cons x r ih =>
    cases l with
    | nil => simp [ents, rows] at h
    | cons e l =>
      simp only [ents, rows, List.map_cons, List.cons.injEq, Prod.mk.injEq] at h
      obtain ⟨⟨h1, h2⟩, h3⟩ := h
      unfold hasL at hh; unfold idxL
      by_cases hk : x.1 = k
      · rw [if_pos hk]; exact ⟨e, rfl, by rw [h1, hk]⟩
      · rw [if_neg hk] at hh; rw [if_neg hk]
        obtain ⟨e', h4, h5⟩ := ih h3 hh
        exact ⟨e', by simpa using h4, h5⟩
theorem ents_modify {l : List MapEntry} {L : List Fi} (h : ents l = rows L) (k : ByteArray) (v : Value) (bs : List Int) (hh : hasL L k = true) :
    ents (l.modify (idxL L k) fun e => { e with key := .string k, val := v }) = rows (putL L k (v, bs)) := by
  induction L generalizing l with
  | nil => cases hh
  | cons x r ih =>
    cases l with
    | nil => simp [ents, rows] at h
    | cons e l =>
      simp only [ents, rows, List.map_cons, List.cons.injEq, Prod.mk.injEq] at h
      obtain ⟨⟨h1, h2⟩, h3⟩ := h
      unfold hasL at hh; unfold idxL putL
      by_cases hk : x.1 = k
      · rw [if_pos hk, if_pos hk]
        simp only [List.modify_zero_cons, ents, rows, List.map_cons]
        rw [h3]
      · rw [if_neg hk] at hh; rw [if_neg hk, if_neg hk]
        simp only [List.modify_succ_cons, ents, rows, List.map_cons, h1, h2]
        have := ih h3 hh
        unfold ents rows at this
        rw [this]
theorem ents_push {l : List MapEntry} {L : List Fi} (h : ents l = rows L) (k : ByteArray) (v : Value) (bs : List Int) (c : Nat) (hh : hasL L k = false) :
    ents (l ++ [{ key := .string k, val := v, born := c }]) = rows (putL L k (v, bs)) := by
  have : putL L k (v, bs) = L ++ [(k, v, bs)] := by
    clear h
    induction L with
    | nil => rfl
    | cons x r ih =>
      unfold hasL at hh; unfold putL
      by_cases hk : x.1 = k
      · rw [if_pos hk] at hh; cases hh
      · rw [if_neg hk] at hh; rw [if_neg hk, ih hh]; rfl
  rw [this]
  unfold ents rows at h ⊢
  rw [List.map_append, List.map_append, h]; rfl
theorem ents_erase {l : List MapEntry} {L : List Fi} (h : ents l = rows L) (k : ByteArray) (hh : hasL L k = true) : ents (l.eraseIdx (idxL L k)) = rows (delL L k) := by
  induction L generalizing l with
  | nil => cases hh
  | cons x r ih =>
    cases l with
    | nil => simp [ents, rows] at h
    | cons e l =>
      simp only [ents, rows, List.map_cons, List.cons.injEq, Prod.mk.injEq] at h
      obtain ⟨⟨h1, h2⟩, h3⟩ := h
      unfold hasL at hh; unfold idxL delL
      by_cases hk : x.1 = k
      · rw [if_pos hk, if_pos hk]; exact h3
      · rw [if_neg hk] at hh; rw [if_neg hk, if_neg hk]
        simp only [List.eraseIdx_cons_succ, ents, rows, List.map_cons, h1, h2]
        have := ih h3 hh
        unfold ents rows at this
        rw [this]
theorem del_none {L : List Fi} {k : ByteArray} (hh : hasL L k = false) : delL L k = L := by
  induction L with
  | nil => rfl
  | cons x r ih =>
    unfold hasL at hh; unfold delL
    by_cases hk : x.1 = k
    · rw [if_pos hk] at hh; cases hh
    · rw [if_neg hk] at hh; rw [if_neg hk, ih hh]
theorem grown_block {w : World} {b : Nat} {es es' : Array MapEntry} {c c' : Nat} (hb : w.heap[b]? = some (.map es c)) : w.grownBy (setBlock w b (.map es' c')) (some b) :=
  ⟨rfl, rfl, rfl, by simp [setBlock], fun i _ hi => heap_setBlock_other hb _ (fun e1 => hi (by rw [e1]))⟩

theorem update_run {w : World} {b : Nat} {L : List Fi} (h : MapR w b L) (k : ByteArray) (v : Value) (bs : List Int) :
    ∃ w2, (Instr.mapUpdate 94 (.map (some b)) (.string k) v).run Try.prog w = .ok () w2 ∧ MapR w2 b (putL L k (v, bs)) ∧ w.grownBy w2 (some b) ∧ w2.heap.size = w.heap.size := by
  obtain ⟨es, clock, hb, hs, he⟩ := h
  have hf := find_ents k es.toList L 0 he
  have hkey : IsKey .string (.string k) := trivial
  cases hh : hasL L k with
  | true =>
    rw [hh, if_pos rfl, Nat.zero_add] at hf
    obtain ⟨e, h1, h2⟩ := ents_get he k hh
    have hj : es[idxL L k]? = some e := by simpa using h1
    refine ⟨setBlock w b (.map (es.modify (idxL L k) fun e => { e with key := .string k, val := v }) clock), ?_, ⟨_, _, heap_setBlock_same hb _, stamped_modify hs _ _ (fun _ _ => rfl) (fun e' _ he' => by rw [hj] at he'; cases he'; exact h2.symm), ?_⟩, grown_block hb, by simp [setBlock]⟩
    · simp [Instr.mapUpdate, run_underlying mapT, Go.MapKept.run_getObj_map hb, run_checkKey strT hkey, run_findKey strT hf, hj, h2, run_keyThatStays hkey, Go.MapKept.run_setObj_map _ hb, Result.andThen, setBlock]
    · rw [Array.toList_modify]; exact ents_modify he k v bs hh
  | false =>
    rw [hh] at hf
    have hf : Instr.findNow .string (.string k) es.toList 0 = some none := hf
    have hno : ∀ x ∈ es.toList, x.key ≠ .string k := by
      rcases findNow_spec hkey es.toList 0 (keys_ents he) with ⟨_, h2⟩ | ⟨j, e, h1, _⟩
      · exact h2
      · rw [hf] at h1; cases h1
    refine ⟨setBlock w b (.map (es.push { key := .string k, val := v, born := clock }) (clock + 1)), ?_, ⟨_, _, heap_setBlock_same hb _, stamped_push hs hno, ?_⟩, grown_block hb, by simp [setBlock]⟩
    · simp [Instr.mapUpdate, run_underlying mapT, Go.MapKept.run_getObj_map hb, run_checkKey strT hkey, run_findKey strT hf, Go.MapKept.run_setObj_map _ hb, Result.andThen, setBlock]
    · rw [Array.toList_push]; exact ents_push he k v bs clock hh

theorem delete_run {w : World} {b : Nat} {L : List Fi} (h : MapR w b L) (k : ByteArray) (t : TypeId) :
    ∃ w2, (Builtin.delete_ #[94, 9] t #[.map (some b), .string k]).run Try.prog w = .ok (.tuple #[]) w2 ∧ MapR w2 b (delL L k) ∧ w.grownBy w2 (some b) ∧ w2.heap.size = w.heap.size := by
  obtain ⟨es, clock, hb, hs, he⟩ := h
  have hf := find_ents k es.toList L 0 he
  have hkey : IsKey .string (.string k) := trivial
  cases hh : hasL L k with
  | true =>
    rw [hh, if_pos rfl, Nat.zero_add] at hf
    obtain ⟨e, h1, h2⟩ := ents_get he k hh
    have hlt : idxL L k < es.size := by
      have := (List.getElem?_eq_some_iff.1 h1).1
      simpa using this
    refine ⟨setBlock w b (.map (es.eraseIdxIfInBounds (idxL L k)) clock), ?_, ⟨_, _, heap_setBlock_same hb _, stamped_erase hs _, ?_⟩, grown_block hb, by simp [setBlock]⟩
    · simp [Builtin.delete_, run_underlying mapT, Go.MapKept.run_getObj_map hb, run_checkKey strT hkey, run_findKey strT hf, Go.MapKept.run_setObj_map _ hb, Result.andThen, setBlock]
    · unfold Array.eraseIdxIfInBounds
      rw [dif_pos hlt, Array.toList_eraseIdx]; exact ents_erase he k hh
  | false =>
    rw [hh] at hf
    have hf : Instr.findNow .string (.string k) es.toList 0 = some none := hf
    refine ⟨setBlock w b (.map es clock), ?_, ⟨_, _, heap_setBlock_same hb _, hs, ?_⟩, grown_block hb, by simp [setBlock]⟩
    · simp [Builtin.delete_, run_underlying mapT, Go.MapKept.run_getObj_map hb, run_checkKey strT hkey, run_findKey strT hf, Go.MapKept.run_setObj_map _ hb, Result.andThen, setBlock]
    · rw [del_none hh]; exact he
end Go.Proofs.Ytklngdmpledgeaa.Sr
