/-
  What a call of the law's do leaves. Conditions: a store; bytes that lie outside it.
-/
import Derived.Test.YtffeinbbgfogoaaSAny
namespace Go.Proofs.Ytffeinbbgfogoaa.Sr
open Go.RowKit Fr

/-- A call: its kind, number, names, bytes. -/
structure Ac where
  k : Int
  n : Int
  nm : ByteArray
  tw : ByteArray
  b : List Int
def acV (a : Ac) (v : Value) : Value := .agg #[.int .i64 a.k, .int .i64 a.n, .string a.nm, .string a.tw, v]
def kd (a : Ac) : Int := (IntKind.u64.wrap a.k).tmod 6
def doS (s : S) (L : List Fi) (a : Ac) : S :=
  if kd a = 0 then appS s a.nm a.b.length else if kd a = 1 then wriS s L a.nm a.b.length else if kd a = 2 then cutS s L a.nm a.n else if kd a = 3 then renS s L a.nm a.tw else if kd a = 4 then drpS s L a.nm else armS s a.n
def doL (s : S) (L : List Fi) (a : Ac) : List Fi :=
  if kd a = 0 then appL s L a.nm a.b else if kd a = 1 then wriL s L a.nm a.b else if kd a = 2 then cutL s L a.nm a.n else if kd a = 3 then renL s L a.nm a.tw else if kd a = 4 then drpL s L a.nm else L
theorem Mo.after {w W w' : World} {p : Nat} {mb : Option Nat} {L Lc : List Fi} {s s' : S} (h : StR w p s mb L) (hb : Below w.heap.size w W) (hm : Mo W w' p mb L s' Lc) : Mo w w' p mb L s' Lc := by
  obtain ⟨mb', L', h1, h2⟩ := hm
  exact ⟨mb', L', (Mv.of_below h hb).trans h1, h2⟩
theorem kd_range (a : Ac) : kd a = 0 ∨ kd a = 1 ∨ kd a = 2 ∨ kd a = 3 ∨ kd a = 4 ∨ kd a = 5 := by
  unfold kd
  have h1 : 0 ≤ IntKind.u64.wrap a.k := by rw [IntKind.wrap_u64]; omega
  rw [Int.tmod_eq_emod_of_nonneg h1]; omega

set_option maxRecDepth 100000 in
set_option maxHeartbeats 1000000 in
theorem Drop_one {w : World} {p : Nat} {s : S} {mb : Option Nat} {L : List Fi} (k : ByteArray) (h : StR w p s mb L) :
    Calls Try.prog 19 #[.pointer (some ⟨p, 0, none⟩), .slice (some ⟨w.heap.size, 0, none⟩) 1 1] (w.alloc (.cells #[.string k] 9)) fun e w' => e = .returned (.int .i64 (drpE s L k)) ∧ Mv w w' p mb L (drpS s L k) mb (drpL s L k) := by
  have c0 : (w.alloc (.cells #[.string k] 9)).cell? ⟨w.heap.size, 0, none⟩ = some (.string k) := (block_cell (block_new w (.cells #[.string k] 9))).1
  have hl : Below w.heap.size w (w.alloc (.cells #[.string k] 9)) := (Below.refl _ _).alloc (Nat.le_refl _) _
  generalize w.alloc (.cells #[.string k] 9) = W at c0 hl ⊢
  have HD := Lib.hid (drop_any k (h.below hl))
  have HM := Lib.hid (Mv.of_below h hl)
  generalize w.heap.size = g at c0 ⊢
  obtain ⟨r, hr⟩ : ∃ r, r = drpE s L k := ⟨_, rfl⟩
  rw [← hr] at HD ⊢
  clear hl h hr
  by_cases h0 : r = 0
  · subst h0
    go_enter Try.func19, Try.ntmps19
    go_wp2
    go_loopg [10] 1 (fun (gh : Nat) s10 wx => (gh = 1 ∧ s10 = .int .i64 0 ∧ W = wx) ∨ (gh = 0 ∧ s10 = .int .i64 1 ∧ Hid (Mv W wx p mb L (drpS s L k) mb (drpL s L k))))
    case atStart => exact .inl ⟨rfl, rfl, rfl⟩
    case round =>
      rcases hrel with ⟨rfl, rfl, rfl⟩ | ⟨rfl, rfl, hm⟩
      · go_wp2_with (go_at_call 60; (with_reducible refine HD.out.mono ?_); rintro e w1 ⟨rfl, hm1⟩; have HM1 := Lib.hid hm1; clear hm1)
        go_roundg 0
        case measure => omega
        case rel => exact .inr ⟨rfl, by go_num, HM1.out⟩
      · go_wp2
        go_ret
        exact ⟨rfl, HM.out.trans hm.out⟩
  · have hb : (r != 0) = true := by simpa using h0
    go_enter Try.func19, Try.ntmps19
    go_wp2
    go_loopg [10] 0 (fun (gh : Nat) s10 wx => gh = 0 ∧ s10 = .int .i64 0 ∧ W = wx)
    case atStart => exact ⟨rfl, rfl, rfl⟩
    case round =>
      obtain ⟨rfl, rfl, rfl⟩ := hrel
      go_wp2_with (go_at_call 60; (with_reducible refine HD.out.mono ?_); rintro e w1 ⟨rfl, hm1⟩; have HM1 := Lib.hid hm1; clear hm1)
      go_ret
      exact ⟨rfl, HM.out.trans HM1.out⟩
end Go.Proofs.Ytffeinbbgfogoaa.Sr
