/-
  Files in a map of the call's own: what they hold, and what a look-up, a store and a deletion do. Conditions: none.
-/
import Derived.Test.YtklngdmpledgeaaGreatSBytes
import Derived.Maps.OwnOps
namespace Go.Proofs.YtklngdmpledgeaaGreat.Sr
open Go.RowKit Go.MapKept Go.ChangeMaps Fr

/-- A file: its name; the slice that holds its bytes; its bytes. -/
abbrev Fi := ByteArray × Value × List Int
def valL : List Fi → ByteArray → Value
  | [], _ => .slice none 0 0
  | x :: r, k => if x.1 = k then x.2.1 else valL r k
def bytL : List Fi → ByteArray → List Int
  | [], _ => []
  | x :: r, k => if x.1 = k then x.2.2 else bytL r k
def hasL : List Fi → ByteArray → Bool
  | [], _ => false
  | x :: r, k => if x.1 = k then true else hasL r k
def idxL : List Fi → ByteArray → Nat
  | [], _ => 0
  | x :: r, k => if x.1 = k then 0 else idxL r k + 1
def putL : List Fi → ByteArray → Value × List Int → List Fi
  | [], k, v => [(k, v)]
  | x :: r, k, v => if x.1 = k then (k, v) :: r else x :: putL r k v
def delL : List Fi → ByteArray → List Fi
  | [], _ => []
  | x :: r, k => if x.1 = k then r else x :: delL r k
def usedL : List Fi → Nat
  | [] => 0
  | x :: r => x.2.2.length + usedL r
def ents (l : List MapEntry) : List (Value × Value) := l.map fun e => (e.key, e.val)
def rows (L : List Fi) : List (Value × Value) := L.map fun x => (Value.string x.1, x.2.1)
def MapR (w : World) (b : Nat) (L : List Fi) : Prop := ∃ es clock, w.heap[b]? = some (.map es clock) ∧ Stamped es clock ∧ ents es.toList = rows L
/-- The map, or nil, holds these files. -/
def MapO (w : World) (mb : Option Nat) (L : List Fi) : Prop := match mb with
  | none => L = []
  | some b => MapR w b L

theorem find_ents (k : ByteArray) : ∀ (l : List MapEntry) (L : List Fi) (i : Nat), ents l = rows L → Instr.findNow .string (.string k) l i = some (if hasL L k then some (i + idxL L k, valL L k) else none) := by
  intro l
  induction l with
  | nil =>
    intro L i h
    cases L with
    | nil => rfl
    | cons x r => simp [ents, rows] at h
  | cons e l ih =>
    intro L i h
    cases L with
    | nil => simp [ents, rows] at h
    | cons x r =>
      simp only [ents, rows, List.map_cons, List.cons.injEq, Prod.mk.injEq] at h
      obtain ⟨⟨h1, h2⟩, h3⟩ := h
      unfold Instr.findNow hasL idxL valL
      rw [h1]
      by_cases hk : x.1 = k
      · have hb : (k == x.1) = true := (bytes_beq _ _).2 hk.symm
        simp only [Instr.sameNow, hb]
        rw [if_pos hk, if_pos rfl, if_pos hk, if_pos hk, h2]; rfl
      · have hb : (k == x.1) = false := by
          cases hq : k == x.1 with
          | false => rfl
          | true => exact absurd ((bytes_beq _ _).1 hq).symm hk
        simp only [Instr.sameNow, hb]
        rw [if_neg hk, if_neg hk, if_neg hk, ih r (i + 1) h3]
        split
        · congr 3; omega
        · rfl
theorem keys_ents {l : List MapEntry} {L : List Fi} (h : ents l = rows L) : ∀ x ∈ l, IsKey .string x.key := by
  intro x hx
  have : (x.key, x.val) ∈ ents l := List.mem_map.2 ⟨x, hx, rfl⟩
  rw [h] at this
  obtain ⟨y, _, hy⟩ := List.mem_map.1 this
  have h1 : Value.string y.1 = x.key := congrArg Prod.fst hy
  rw [← h1]; trivial

theorem mapT : Tryz.prog.underlying 47 = some (.map 9 22) := by kernel_rfl
theorem strT : Tryz.prog.underlying 9 = some .string := by kernel_rfl
theorem zeroB (w : World) : (zeroValue 22).run Tryz.prog w = .ok (.slice none 0 0) w := by simp [Tryz.zeroValue22]

theorem lookup_run {w : World} {mb : Option Nat} {L : List Fi} (h : MapO w mb L) (k : ByteArray) (c : Bool) :
    (Instr.lookup 47 (.map mb) (.string k) c).run Tryz.prog w = .ok (if c then .tuple #[valL L k, .bool (hasL L k)] else valL L k) w := by
  cases mb with
  | none =>
    cases (show L = [] from h)
    simp [Instr.lookup, run_underlying mapT, run_checkKey strT (show IsKey .string (.string k) from trivial), run_findKey strT (show Instr.findNow .string (.string k) [] 0 = some none from rfl), Result.andThen, valL, hasL]
  | some b =>
    obtain ⟨es, clock, hb, hs, he⟩ := h
    have hf := find_ents k es.toList L 0 he
    cases hh : hasL L k with
    | true =>
      rw [hh, if_pos rfl] at hf
      simp [Instr.lookup, run_underlying mapT, Go.MapKept.run_getObj_map hb, run_checkKey strT (show IsKey .string (.string k) from trivial), run_findKey strT hf, Result.andThen]
    | false =>
      have hv : valL L k = .slice none 0 0 := by
        clear hf he
        induction L with
        | nil => rfl
        | cons x r ih =>
          unfold hasL at hh; unfold valL
          split
          · rw [if_pos ‹_›] at hh; cases hh
          · rw [if_neg ‹_›] at hh; exact ih hh
      rw [hh] at hf
      simp [Instr.lookup, run_underlying mapT, Go.MapKept.run_getObj_map hb, run_checkKey strT (show IsKey .string (.string k) from trivial), run_findKey strT (show _ = some none from hf), Result.andThen, hv]

theorem ents_get {l : List MapEntry} {L : List Fi} (h : ents l = rows L) (k : ByteArray) (hh : hasL L k = true) : ∃ e, l[idxL L k]? = some e ∧ e.key = .string k := by
  induction L generalizing l with
  | nil => cases hh
  | cons x r ih =>
    cases l with
    | nil => simp [ents, rows] at h
    | cons e l =>
      simp only [ents, rows, List.map_cons, List.cons.injEq, Prod.mk.injEq] at h
      obtain ⟨⟨h1, h2⟩, h3⟩ := h
      unfold hasL at hh; unfold idxL
      by_cases hk : x.1 = k
      · rw [if_pos hk]; exact ⟨e, rfl, by rw [h1, hk]⟩
      · rw [if_neg hk] at hh; rw [if_neg hk]
        obtain ⟨e', h4, h5⟩ := ih h3 hh
        exact ⟨e', by simpa using h4, h5⟩
theorem ents_modify {l : List MapEntry} {L : List Fi} (h : ents l = rows L) (k : ByteArray) (v : Value) (bs : List Int) (hh : hasL L k = true) :
    ents (l.modify (idxL L k) fun e => { e with key := .string k, val := v }) = rows (putL L k (v, bs)) := by
  induction L generalizing l with
  | nil => cases hh
  | cons x r ih =>
    cases l with
    | nil => simp [ents, rows] at h
    | cons e l =>
      simp only [ents, rows, List.map_cons, List.cons.injEq, Prod.mk.injEq] at h
      obtain ⟨⟨h1, h2⟩, h3⟩ := h
      unfold hasL at hh; unfold idxL putL
      by_cases hk : x.1 = k
      · rw [if_pos hk, if_pos hk]
        simp only [List.modify_zero_cons, ents, rows, List.map_cons]
        rw [h3]
      · rw [if_neg hk] at hh; rw [if_neg hk, if_neg hk]
        simp only [List.modify_succ_cons, ents, rows, List.map_cons, h1, h2]
        have := ih h3 hh
        unfold ents rows at this
        rw [this]
theorem ents_push {l : List MapEntry} {L : List Fi} (h : ents l = rows L) (k : ByteArray) (v : Value) (bs : List Int) (c : Nat) (hh : hasL L k = false) :
    ents (l ++ [{ key := .string k, val := v, born := c }]) = rows (putL L k (v, bs)) := by
  have : putL L k (v, bs) = L ++ [(k, v, bs)] := by
    clear h
    induction L with
    | nil => rfl
    | cons x r ih =>
      unfold hasL at hh; unfold putL
      by_cases hk : x.1 = k
      · rw [if_pos hk] at hh; cases hh
      · rw [if_neg hk] at hh; rw [if_neg hk, ih hh]; rfl
  rw [this]
  unfold ents rows at h ⊢
  rw [List.map_append, List.map_append, h]; rfl
theorem ents_erase {l : List MapEntry} {L : List Fi} (h : ents l = rows L) (k : ByteArray) (hh : hasL L k = true) : ents (l.eraseIdx (idxL L k)) = rows (delL L k) := by
  induction L generalizing l with
  | nil => cases hh
  | cons x r ih =>
    cases l with
    | nil => simp [ents, rows] at h
    | cons e l =>
      simp only [ents, rows, List.map_cons, List.cons.injEq, Prod.mk.injEq] at h
      obtain ⟨⟨h1, h2⟩, h3⟩ := h
      unfold hasL at hh; unfold idxL delL
      by_cases hk : x.1 = k
      · rw [if_pos hk, if_pos hk]; exact h3
      · rw [if_neg hk] at hh; rw [if_neg hk, if_neg hk]
        simp only [List.eraseIdx_cons_succ, ents, rows, List.map_cons, h1, h2]
        have := ih h3 hh
        unfold ents rows at this
        rw [this]
theorem del_none {L : List Fi} {k : ByteArray} (hh : hasL L k = false) : delL L k = L := by
  induction L with
  | nil => rfl
  | cons x r ih =>
    unfold hasL at hh; unfold delL
    by_cases hk : x.1 = k
    · rw [if_pos hk] at hh; cases hh
    · rw [if_neg hk] at hh; rw [if_neg hk, ih hh]
theorem grown_block {w : World} {b : Nat} {es es' : Array MapEntry} {c c' : Nat} (hb : w.heap[b]? = some (.map es c)) : w.grownBy (setBlock w b (.map es' c')) (some b) :=
  ⟨rfl, rfl, rfl, by simp [setBlock], fun i _ hi => heap_setBlock_other hb _ (fun e1 => hi (by rw [e1]))⟩

theorem update_run {w : World} {b : Nat} {L : List Fi} (h : MapR w b L) (k : ByteArray) (v : Value) (bs : List Int) :
    ∃ w2, (Instr.mapUpdate 47 (.map (some b)) (.string k) v).run Tryz.prog w = .ok () w2 ∧ MapR w2 b (putL L k (v, bs)) ∧ w.grownBy w2 (some b) ∧ w2.heap.size = w.heap.size := by
  obtain ⟨es, clock, hb, hs, he⟩ := h
  have hf := find_ents k es.toList L 0 he
  have hkey : IsKey .string (.string k) := trivial
  cases hh : hasL L k with
  | true =>
    rw [hh, if_pos rfl, Nat.zero_add] at hf
    obtain ⟨e, h1, h2⟩ := ents_get he k hh
    have hj : es[idxL L k]? = some e := by simpa using h1
    refine ⟨setBlock w b (.map (es.modify (idxL L k) fun e => { e with key := .string k, val := v }) clock), ?_, ⟨_, _, heap_setBlock_same hb _, stamped_modify hs _ _ (fun _ _ => rfl) (fun e' _ he' => by rw [hj] at he'; cases he'; exact h2.symm), ?_⟩, grown_block hb, by simp [setBlock]⟩
    · simp [Instr.mapUpdate, run_underlying mapT, Go.MapKept.run_getObj_map hb, run_checkKey strT hkey, run_findKey strT hf, hj, h2, run_keyThatStays hkey, Go.MapKept.run_setObj_map _ hb, Result.andThen, setBlock]
    · rw [Array.toList_modify]; exact ents_modify he k v bs hh
  | false =>
    rw [hh] at hf
    have hf : Instr.findNow .string (.string k) es.toList 0 = some none := hf
    have hno : ∀ x ∈ es.toList, x.key ≠ .string k := by
      rcases findNow_spec hkey es.toList 0 (keys_ents he) with ⟨_, h2⟩ | ⟨j, e, h1, _⟩
      · exact h2
      · rw [hf] at h1; cases h1
    refine ⟨setBlock w b (.map (es.push { key := .string k, val := v, born := clock }) (clock + 1)), ?_, ⟨_, _, heap_setBlock_same hb _, stamped_push hs hno, ?_⟩, grown_block hb, by simp [setBlock]⟩
    · simp [Instr.mapUpdate, run_underlying mapT, Go.MapKept.run_getObj_map hb, run_checkKey strT hkey, run_findKey strT hf, Go.MapKept.run_setObj_map _ hb, Result.andThen, setBlock]
    · rw [Array.toList_push]; exact ents_push he k v bs clock hh

theorem delete_run {w : World} {b : Nat} {L : List Fi} (h : MapR w b L) (k : ByteArray) (t : TypeId) :
    ∃ w2, (Builtin.delete_ #[47, 9] t #[.map (some b), .string k]).run Tryz.prog w = .ok (.tuple #[]) w2 ∧ MapR w2 b (delL L k) ∧ w.grownBy w2 (some b) ∧ w2.heap.size = w.heap.size := by
  obtain ⟨es, clock, hb, hs, he⟩ := h
  have hf := find_ents k es.toList L 0 he
  have hkey : IsKey .string (.string k) := trivial
  cases hh : hasL L k with
  | true =>
    rw [hh, if_pos rfl, Nat.zero_add] at hf
    obtain ⟨e, h1, h2⟩ := ents_get he k hh
    have hlt : idxL L k < es.size := by
      have := (List.getElem?_eq_some_iff.1 h1).1
      simpa using this
    refine ⟨setBlock w b (.map (es.eraseIdxIfInBounds (idxL L k)) clock), ?_, ⟨_, _, heap_setBlock_same hb _, stamped_erase hs _, ?_⟩, grown_block hb, by simp [setBlock]⟩
    · simp [Builtin.delete_, run_underlying mapT, Go.MapKept.run_getObj_map hb, run_checkKey strT hkey, run_findKey strT hf, Go.MapKept.run_setObj_map _ hb, Result.andThen, setBlock]
    · unfold Array.eraseIdxIfInBounds
      rw [dif_pos hlt, Array.toList_eraseIdx]; exact ents_erase he k hh
  | false =>
    rw [hh] at hf
    have hf : Instr.findNow .string (.string k) es.toList 0 = some none := hf
    refine ⟨setBlock w b (.map es clock), ?_, ⟨_, _, heap_setBlock_same hb _, hs, ?_⟩, grown_block hb, by simp [setBlock]⟩
    · simp [Builtin.delete_, run_underlying mapT, Go.MapKept.run_getObj_map hb, run_checkKey strT hkey, run_findKey strT hf, Go.MapKept.run_setObj_map _ hb, Result.andThen, setBlock]
    · rw [del_none hh]; exact he
end Go.Proofs.YtklngdmpledgeaaGreat.Sr

namespace Go.Proofs.YtklngdmpledgeaaGreat.Sr
open Go.RowKit Fr

/-- The store's own cells: armed, left, down, room, used. -/
structure S where
  a : Bool
  n : Int
  d : Bool
  room : Int
  used : Int
def blk (s : S) (mb : Option Nat) : Obj := .cells #[.bool s.a, .int .i64 s.n, .bool s.d, .int .i64 s.room, .int .i64 s.used, .map mb] 49 (0, 0)

theorem blk_cells {w : World} {p : Nat} {s : S} {mb : Option Nat} (h : w.heap[p]? = some (blk s mb)) :
    (w.cell? ⟨p, 0, none⟩ = some (.bool s.a) ∧ w.cell? ⟨p, 1, none⟩ = some (.int .i64 s.n) ∧ w.cell? ⟨p, 2, none⟩ = some (.bool s.d) ∧ w.cell? ⟨p, 3, none⟩ = some (.int .i64 s.room) ∧ w.cell? ⟨p, 4, none⟩ = some (.int .i64 s.used) ∧ w.cell? ⟨p, 5, none⟩ = some (.map mb)) ∧
    w.frozen? ⟨p, 0, none⟩ = false ∧ w.frozen? ⟨p, 1, none⟩ = false ∧ w.frozen? ⟨p, 2, none⟩ = false ∧ w.frozen? ⟨p, 3, none⟩ = false ∧ w.frozen? ⟨p, 4, none⟩ = false ∧ w.frozen? ⟨p, 5, none⟩ = false := by
  unfold blk at h
  exact ⟨⟨by simp [World.cell?, h], by simp [World.cell?, h], by simp [World.cell?, h], by simp [World.cell?, h], by simp [World.cell?, h], by simp [World.cell?, h]⟩, by simp [World.frozen?, h], by simp [World.frozen?, h], by simp [World.frozen?, h], by simp [World.frozen?, h], by simp [World.frozen?, h], by simp [World.frozen?, h]⟩
theorem blk_set {w : World} {p : Nat} {xs : Array Value} {t : TypeId} {fr : Nat × Nat} (h : w.heap[p]? = some (.cells xs t fr)) (i : Nat) (u : Value) (hi : i < xs.size) : (w.setCell ⟨p, i, none⟩ u).heap[p]? = some (.cells (xs.set i u hi) t fr) := by
  simp only [World.setCell, Array.getElem?_modify, if_true]; rw [h]
  simp [Array.setIfInBounds, hi]

/-- Behind a change of the store's own cells alone. -/
def Own (w w' : World) (p : Nat) (s' : S) (mb : Option Nat) : Prop := w'.heap[p]? = some (blk s' mb) ∧ w.grownBy w' (some p) ∧ w'.heap.size = w.heap.size
def armS (s : S) (n : Int) : S := { s with a := decide (0 ≤ n), n := n }
def useN (s : S) (n : Int) : Int := if s.a = true ∧ s.n < n then s.n else n
def useS (s : S) (n : Int) : S := if s.a = true then (if s.n < n then { s with n := 0, d := true } else { s with n := s.n - n }) else s
def dwn (s : S) : Int := if s.d = true then 14 else 0

set_option maxRecDepth 100000 in
theorem state_any (w : World) (p : Nat) (s : S) (mb : Option Nat) (h : w.heap[p]? = some (blk s mb)) :
    Calls Tryz.prog 19 #[.pointer (some ⟨p, 0, none⟩)] w fun e w' => e = .returned (.int .i64 (dwn s)) ∧ w = w' := by
  obtain ⟨⟨c0, c1, c2, c3, c4, c5⟩, _⟩ := blk_cells h
  obtain ⟨x, hx⟩ : ∃ x, x = s.d := ⟨_, rfl⟩
  rw [← hx] at c2
  unfold dwn
  rw [← hx]
  clear h hx c0 c1 c3 c4 c5
  cases x
  · go_enter Tryz.func19, Tryz.ntmps19
    go_wp2
    go_ret
    exact ⟨rfl, rfl⟩
  · go_enter Tryz.func19, Tryz.ntmps19
    go_wp2
    go_ret
    exact ⟨rfl, rfl⟩

set_option maxRecDepth 100000 in
set_option maxHeartbeats 1000000 in
theorem use_any (w : World) (p : Nat) (s : S) (mb : Option Nat) (n : Int) (h : w.heap[p]? = some (blk s mb)) (hn : 0 ≤ n ∧ n ≤ 4000000) (hs : s.a = true → 0 ≤ s.n ∧ s.n ≤ 9223372036854775807) :
    Calls Tryz.prog 16 #[.pointer (some ⟨p, 0, none⟩), .int .i64 n] w fun e w' => e = .returned (.int .i64 (useN s n)) ∧ Own w w' p (useS s n) mb := by
  obtain ⟨⟨c0, c1, c2, c3, c4, c5⟩, f0, f1, f2, f3, f4, f5⟩ := blk_cells h
  have HW := Lib.hid h
  obtain ⟨n0, n1⟩ := hn
  clear h
  cases ha : s.a with
  | false =>
    have hu : useN s n = n ∧ useS s n = s := by unfold useN useS; rw [ha]; simp
    rw [hu.1, hu.2]
    rw [ha] at c0
    have HA := Lib.hid ha
    clear hs hu ha
    go_enter Tryz.func16, Tryz.ntmps16
    go_wp2
    go_ret
    exact ⟨rfl, HW.out, grownBy_refl _ _, rfl⟩
  | true =>
    obtain ⟨m0, m1⟩ := hs ha
    rw [ha] at c0
    by_cases hlt : s.n < n
    · have hu : useN s n = s.n ∧ useS s n = { s with n := 0, d := true } := by unfold useN useS; rw [ha]; simp [hlt]
      rw [hu.1, hu.2]
      clear hs hu
      have HA := Lib.hid ha
      clear ha
      obtain ⟨m, hm⟩ : ∃ m, m = s.n := ⟨_, rfl⟩
      rw [← hm] at c1 m0 m1 hlt ⊢
      have HM := Lib.hid hm
      clear hm
      go_enter Tryz.func16, Tryz.ntmps16
      go_wp2
      go_ret
      refine ⟨rfl, ?_, ?_, ?_⟩
      · have h1 := blk_set HW.out 2 (.bool true) (by simp)
        have h2 := blk_set h1 1 (.int .i64 (m - m)) (by simp)
        have : m - m = 0 := by omega
        rw [this] at h2
        simpa [this, blk] using h2
      · exact grownBy_trans (grownBy_set _ _ _) (grownBy_set _ _ _)
      · simp [World.setCell]
    · have hu : useN s n = n ∧ useS s n = { s with n := s.n - n } := by unfold useN useS; rw [ha]; simp [hlt]
      rw [hu.1, hu.2]
      clear hs hu
      have HA := Lib.hid ha
      clear ha
      obtain ⟨m, hm⟩ : ∃ m, m = s.n := ⟨_, rfl⟩
      rw [← hm] at c1 m0 m1 hlt ⊢
      have HM := Lib.hid hm
      clear hm
      go_enter Tryz.func16, Tryz.ntmps16
      go_wp2
      go_ret
      refine ⟨rfl, ?_, ?_, ?_⟩
      · have h1 := blk_set HW.out 1 (.int .i64 (m - n)) (by simp)
        exact h1
      · exact grownBy_set _ _ _
      · simp [World.setCell]

set_option maxRecDepth 100000 in
theorem orDown_own (w : World) (p : Nat) : Calls Tryz.prog 31 #[.pointer (some ⟨p, 0, none⟩)] w fun e w' => e = .returned (.pointer (some ⟨p, 0, none⟩)) ∧ w = w' := by
  go_enter Tryz.func31, Tryz.ntmps31
  go_wp2
  go_ret
  exact ⟨rfl, rfl⟩
def nilS : S := ⟨false, 0, true, 0, 0⟩
set_option maxRecDepth 100000 in
theorem orDown_nil (w : World) : Calls Tryz.prog 31 #[.pointer none] w fun e w' => e = .returned (.pointer (some ⟨w.heap.size, 0, none⟩)) ∧ w' = w.alloc (blk nilS none) := by
  go_enter Tryz.func31, Tryz.ntmps31
  go_wp2
  go_ret
  exact ⟨rfl, rfl⟩
set_option maxRecDepth 100000 in
theorem down_own (w : World) (p : Nat) (s : S) (mb : Option Nat) (h : w.heap[p]? = some (blk s mb)) :
    Calls Tryz.prog 22 #[.pointer (some ⟨p, 0, none⟩)] w fun e w' => e = .returned (.bool s.d) ∧ w = w' := by
  have HO := Lib.hid (orDown_own w p)
  have hs := state_any w p s mb h
  unfold dwn at hs
  obtain ⟨x, hx⟩ : ∃ x, x = s.d := ⟨_, rfl⟩
  rw [← hx] at hs ⊢
  clear h hx
  cases x
  · rw [if_neg (by decide)] at hs
    have HS := Lib.hid hs
    clear hs
    go_enter Tryz.func22, Tryz.ntmps22
    go_wp2_with (first
      | (go_at_call 31; (with_reducible refine HO.out.mono ?_); rintro e w' ⟨rfl, rfl⟩)
      | (go_at_call 19; (with_reducible refine HS.out.mono ?_); rintro e w' ⟨rfl, rfl⟩))
    go_ret
    exact ⟨rfl, rfl⟩
  · rw [if_pos rfl] at hs
    have HS := Lib.hid hs
    clear hs
    go_enter Tryz.func22, Tryz.ntmps22
    go_wp2_with (first
      | (go_at_call 31; (with_reducible refine HO.out.mono ?_); rintro e w' ⟨rfl, rfl⟩)
      | (go_at_call 19; (with_reducible refine HS.out.mono ?_); rintro e w' ⟨rfl, rfl⟩))
    go_ret
    exact ⟨rfl, rfl⟩
end Go.Proofs.YtklngdmpledgeaaGreat.Sr

namespace Go.Proofs.YtklngdmpledgeaaGreat.Sr
open Go.RowKit Fr

set_option maxRecDepth 100000 in
theorem new_ok (w : World) (n : Int) (h0 : 0 ≤ n) (h1 : n ≤ 1048576) :
    Calls Tryz.prog 4 #[.int .i64 n] w fun e w' => e = .returned (.tuple #[.pointer (some ⟨w.heap.size, 0, none⟩), .int .i64 0]) ∧ w' = w.alloc (blk ⟨false, 0, false, n, 0⟩ none) := by
  have a1 : ¬ n < 0 := by omega
  have a2 : ¬ 1048576 < n := by omega
  go_enter Tryz.func4, Tryz.ntmps4
  go_wp2
  go_ret2
  exact ⟨rfl, rfl⟩
set_option maxRecDepth 100000 in
theorem new_bad (w : World) (n : Int) (h : n < 0 ∨ 1048576 < n) :
    Calls Tryz.prog 4 #[.int .i64 n] w fun e w' => e = .returned (.tuple #[.pointer none, .int .i64 1]) ∧ w = w' := by
  rcases h with h | h
  · go_enter Tryz.func4, Tryz.ntmps4
    go_wp2
    go_ret2
    exact ⟨rfl, rfl⟩
  · have a1 : ¬ n < 0 := by omega
    go_enter Tryz.func4, Tryz.ntmps4
    go_wp2
    go_ret2
    exact ⟨rfl, rfl⟩

def okC (c : Int) : Bool := c == 46 || (decide (97 ≤ c) && decide (c ≤ 122))
def okN (s : ByteArray) : Bool := decide (0 < s.size) && decide (s.size ≤ 12) && (sb s).all okC
theorem okC_of {c : Int} : okC c = true ↔ (c = 46 ∨ (97 ≤ c ∧ c ≤ 122)) := by unfold okC; simp
theorem all_snoc {l : List Int} {k : Nat} (h : ∀ i, i < k → okC (l.getD i 0) = true) (h2 : okC (l.getD k 0) = true) : ∀ i, i < k + 1 → okC (l.getD i 0) = true := fun i hi => by
  by_cases e : i = k
  · rw [e]; exact h2
  · exact h i (by omega)
theorem all_of {l : List Int} (h : ∀ i, i < l.length → okC (l.getD i 0) = true) : l.all okC = true := by
  rw [List.all_eq_true]
  intro x hx
  obtain ⟨i, hi, rfl⟩ := List.mem_iff_getElem.1 hx
  have := h i hi
  rwa [show l.getD i 0 = l[i] by simp [List.getD, List.getElem?_eq_getElem hi]] at this
theorem all_not {l : List Int} {k : Nat} (hk : k < l.length) (h : okC (l.getD k 0) = false) : l.all okC = false := by
  cases ha : l.all okC with
  | false => rfl
  | true =>
    rw [List.all_eq_true] at ha
    have := ha (l[k]) (List.getElem_mem hk)
    rw [show l.getD k 0 = l[k] by simp [List.getD, List.getElem?_eq_getElem hk], this] at h
    cases h

set_option maxRecDepth 100000 in
set_option maxHeartbeats 2000000 in
theorem isName_any (w : World) (s : ByteArray) :
    Calls Tryz.prog 38 #[.string s] w fun e w' => e = .returned (.bool (okN s)) ∧ Below w.heap.size w w' := by
  by_cases hz : s.size = 0
  · have he := empty_yes hz
    have hr : okN s = false := by unfold okN; rw [hz]; rfl
    rw [hr]
    clear hr hz
    go_enter Tryz.func38, Tryz.ntmps38
    go_wp2
    go_ret
    exact ⟨rfl, Below.refl _ _⟩
  · have he := empty_no (s := s) (by omega)
    by_cases h12 : s.size ≤ 12
    · have h12a : ¬ (12 : Int) < (s.size : Int) := by omega
      obtain ⟨cv, cw, hcv, hcp⟩ := str_bytes s
      have HCP := Lib.hid (hcp w)
      have HZ := Lib.hid hz
      have hsz : Hid (okN s = (sb s).all okC) := by
        show _ = _
        unfold okN
        rw [show decide (0 < s.size) = true by simp; omega, show decide (s.size ≤ 12) = true by simp; omega]; rfl
      clear hcp hz
      go_enter Tryz.func38, Tryz.ntmps38
      go_wp2
      obtain ⟨W0, hW0⟩ : ∃ W0, W0 = cw w := ⟨_, rfl⟩
      rw [← hW0] at HCP ⊢
      clear hW0 hcv
      go_loopg [15] s.size (fun (g : Nat) si wx => W0 = wx ∧ ∃ k : Nat, g = s.size - k ∧ k ≤ s.size ∧ si = .int .i64 (k : Int) ∧ Hid (∀ i, i < k → okC ((sb s).getD i 0) = true))
      case atStart => exact ⟨rfl, 0, rfl, Nat.zero_le _, rfl, fun i hi => by omega⟩
      case round =>
        obtain ⟨rfl, k, rfl, hk, rfl, hall⟩ := hrel
        by_cases hlt : k < s.size
        · obtain ⟨d, hd⟩ : ∃ d, d = (sb s).getD k 0 := ⟨_, rfl⟩
          have hc := HCP.out.2.2 k hlt
          have hr := sb_range s k
          rw [← hd] at hc hr
          obtain ⟨r0, r1⟩ := hr
          have HD := Lib.hid hd
          clear hd
          by_cases g0 : d = 46
          · have HO : Hid (okC ((sb s).getD k 0) = true) := by show _ = _; rw [← HD.out, okC_of]; exact .inl g0
            have g1 : (d != 46) = false := by simp [g0]
            clear g0
            go_wp2
            go_roundg (s.size - (k + 1))
            case measure => omega
            case rel => exact ⟨rfl, k + 1, rfl, by omega, by go_num, all_snoc hall.out HO.out⟩
          · have g1 : (d != 46) = true := by simpa using g0
            by_cases g2 : d < 97
            · have HO : Hid (okN s = false) := by
                show _ = _
                rw [hsz.out]; refine all_not (k := k) (by rw [sb_len]; exact hlt) ?_
                rw [← HD.out]
                cases hq : okC d with
                | false => rfl
                | true => rcases okC_of.1 hq with h | h <;> omega
              go_wp2
              go_ret
              exact ⟨by rw [HO.out]; rfl, HCP.out.1⟩
            · by_cases g3 : 122 < d
              · have HO : Hid (okN s = false) := by
                  show _ = _
                  rw [hsz.out]; refine all_not (k := k) (by rw [sb_len]; exact hlt) ?_
                  rw [← HD.out]
                  cases hq : okC d with
                  | false => rfl
                  | true => rcases okC_of.1 hq with h | h <;> omega
                go_wp2
                go_ret
                exact ⟨by rw [HO.out]; rfl, HCP.out.1⟩
              · have HO : Hid (okC ((sb s).getD k 0) = true) := by show _ = _; rw [← HD.out, okC_of]; exact .inr ⟨by omega, by omega⟩
                go_wp2
                go_roundg (s.size - (k + 1))
                case measure => omega
                case rel => exact ⟨rfl, k + 1, rfl, by omega, by go_num, all_snoc hall.out HO.out⟩
        · obtain rfl : k = s.size := by omega
          have HR : Hid (okN s = true) := by
            show _ = _
            rw [hsz.out]; exact all_of (by rw [sb_len]; exact hall.out)
          have hx : decide ((s.size : Int) < (s.size : Int)) = false := by simp
          go_wp2
          go_ret
          exact ⟨by rw [HR.out]; rfl, HCP.out.1⟩
    · have hr : okN s = false := by unfold okN; simp [h12]
      rw [hr]
      have h12b : (12 : Int) < (s.size : Int) := by omega
      clear hr hz h12
      go_enter Tryz.func38, Tryz.ntmps38
      go_wp2
      go_ret
      exact ⟨rfl, Below.refl _ _⟩

/-- A row of strings. -/
def NRow (w : World) (g : Nat) (ns : List ByteArray) : Prop := g < w.heap.size ∧ ∀ j, j < ns.length → w.cell? ⟨g, j, none⟩ = some (.string (ns.getD j ByteArray.empty))
theorem NRow.kept {w w' : World} {g : Nat} {ns : List ByteArray} (h : NRow w g ns) (hb : Below w.heap.size w w') : NRow w' g ns :=
  ⟨Nat.lt_of_lt_of_le h.1 hb.size, fun j hj => (hb.cell (p := ⟨g, j, none⟩) h.1).trans (h.2 j hj)⟩
def rdy (d : Bool) (ns : List ByteArray) : Int := if d = true then 14 else if ns.all okN = true then 0 else 3

set_option maxRecDepth 100000 in
set_option maxHeartbeats 2000000 in
theorem ready_any (w : World) (p : Nat) (s : S) (mb : Option Nat) (g cap : Nat) (ns : List ByteArray) (h : w.heap[p]? = some (blk s mb)) (hn : NRow w g ns) (hl : ns.length ≤ 100) :
    Calls Tryz.prog 15 #[.pointer (some ⟨p, 0, none⟩), .slice (some ⟨g, 0, none⟩) ns.length cap] w fun e w' => e = .returned (.int .i64 (rdy s.d ns)) ∧ Below w.heap.size w w' := by
  have hd := down_own w p s mb h
  obtain ⟨x, hx⟩ : ∃ x, x = s.d := ⟨_, rfl⟩
  rw [← hx] at hd ⊢
  have HD := Lib.hid hd
  have HN := Lib.hid hn
  obtain ⟨n, hn2⟩ : ∃ n, n = ns.length := ⟨_, rfl⟩
  rw [← hn2] at hl ⊢
  have HL := Lib.hid hn2
  have e0 : (0 : Int) ≤ (n : Int) := by omega
  obtain ⟨r, hr⟩ : ∃ r, r = rdy x ns := ⟨_, rfl⟩
  rw [← hr]
  clear hd hx h hn hn2
  cases x
  · have HRR : Hid (r = if ns.all okN = true then 0 else 3) := hr
    clear hr
    go_enter Tryz.func15, Tryz.ntmps15
    go_wp2_with (go_at_call 22; (with_reducible refine HD.out.mono ?_); rintro e w' ⟨rfl, rfl⟩)
    go_loopg [11] n (fun (gh : Nat) si wx => ∃ k : Nat, gh = n - k ∧ k ≤ n ∧ si = .int .i64 (k : Int) ∧ Hid (Below w.heap.size w wx) ∧ Hid (∀ i, i < k → okN (ns.getD i ByteArray.empty) = true))
    case atStart => exact ⟨0, rfl, Nat.zero_le _, rfl, Below.refl _ _, fun i hi => by omega⟩
    case round =>
      obtain ⟨k, rfl, hk, rfl, hb, hall⟩ := hrel
      by_cases hlt : k < n
      · obtain ⟨nm, hnm⟩ : ∃ nm, nm = ns.getD k ByteArray.empty := ⟨_, rfl⟩
        have hc : wr.cell? ⟨g, k, none⟩ = some (.string nm) := by
          rw [hnm]; exact (hb.out.cell (p := ⟨g, k, none⟩) HN.out.1).trans (HN.out.2 k (by rw [← HL.out]; exact hlt))
        have hi := fun W => isName_any W nm
        obtain ⟨q, hq⟩ : ∃ q, q = okN nm := ⟨_, rfl⟩
        rw [← hq] at hi
        have HI := Lib.hid hi
        have HQ : Hid (okN (ns.getD k ByteArray.empty) = q) := by show _ = _; rw [← hnm, hq]
        clear hi hq hnm
        cases q
        · have HR : Hid (ns.all okN = false) := by
            show _ = _
            cases ha : ns.all okN with
            | false => rfl
            | true =>
              rw [List.all_eq_true] at ha
              have hkl : k < ns.length := by rw [← HL.out]; exact hlt
              have := ha (ns[k]) (List.getElem_mem hkl)
              have h2 := HQ.out
              rw [show ns.getD k ByteArray.empty = ns[k] by simp [List.getD, List.getElem?_eq_getElem hkl], this] at h2
              cases h2
          go_wp2_with (go_at_call 38; (with_reducible refine (HI.out _).mono ?_); rintro e w2 ⟨rfl, hb2⟩; have HB2 := Lib.hid hb2; clear hb2)
          go_ret
          exact ⟨ret_int (by rw [HRR.out, HR.out]; rfl), hb.out.trans (HB2.out.mono hb.out.size)⟩
        · go_wp2_with (go_at_call 38; (with_reducible refine (HI.out _).mono ?_); rintro e w2 ⟨rfl, hb2⟩; have HB2 := Lib.hid hb2; clear hb2)
          go_roundg (n - (k + 1))
          case measure => omega
          case rel =>
            refine ⟨k + 1, rfl, by omega, by go_num, hb.out.trans (HB2.out.mono hb.out.size), fun i hi => ?_⟩
            by_cases e : i = k
            · rw [e]; exact HQ.out
            · exact hall.out i (by omega)
      · obtain rfl : k = n := by omega
        have HR : Hid (ns.all okN = true) := by
          show _ = _
          rw [List.all_eq_true]
          intro x hx
          obtain ⟨i, hi, rfl⟩ := List.mem_iff_getElem.1 hx
          have := hall.out i (by rw [HL.out]; exact hi)
          rwa [show ns.getD i ByteArray.empty = ns[i] by simp [List.getD, List.getElem?_eq_getElem hi]] at this
        have hx : decide ((k : Int) < (k : Int)) = false := by simp
        go_wp2
        go_ret
        exact ⟨ret_int (by rw [HRR.out, HR.out]; rfl), hb.out⟩
  · have HRR : Hid (r = 14) := hr
    clear hr
    go_enter Tryz.func15, Tryz.ntmps15
    go_wp2_with (go_at_call 22; (with_reducible refine HD.out.mono ?_); rintro e w' ⟨rfl, rfl⟩)
    go_ret
    exact ⟨ret_int HRR.out.symm, Below.refl _ _⟩
end Go.Proofs.YtklngdmpledgeaaGreat.Sr
