/-
  The same call of both stores, in whatever order. Conditions: a room of at most a thousand; at most 990 files.
-/
import Derived.Test.YtffeinbbgfogoaaSRpl0
import Derived.Test.YtffeinbbgfogoaaSDo2
namespace Go.Proofs.Ytffeinbbgfogoaa.Sr
open Go.RowKit Fr

/-- A change of the store wherever it stands. -/
def SC (w : World) (p : Nat) (s : S) (mb : Option Nat) (L : List Fi) (a : Ac) (F : FuncId) (args : Array Value) (E : Int) : Prop :=
  ∀ W, StR W p s mb L → Below w.heap.size w W → (∀ j, own p mb L j → w.heap.size ≤ j) → Calls Try.prog F args W fun e w' => e = .returned (.int .i64 E) ∧ Mo W w' p mb L (doS s L a) (doL s L a)
def RC (w : World) (q : Nat) (s : S) (x : RS) (a : Ac) (F : FuncId) (args : Array Value) (E : Int) : Prop :=
  ∀ W, Fit W q x s → Below w.heap.size w W → w.heap.size ≤ q → Calls Try.prog F args W fun e w' => e = .returned (.int .i64 E) ∧ RTo W w' q x (doS s x.D a) (doL s x.D a)
/-- Between the two calls: what lies outside both stores lies as it lay. -/
def Mid (W W1 : World) (T : Nat → Prop) : Prop := W.heap.size ≤ W1.heap.size ∧ ∀ i, i < W.heap.size → ¬ T i → W1.heap[i]? = W.heap[i]?
def M1 (w W W1 : World) (p q : Nat) (s : S) (mb : Option Nat) (L : List Fi) (x : RS) (a : Ac) : Prop := Mo W W1 p mb L (doS s L a) (doL s L a) ∧ RfR W1 q x ∧ Below w.heap.size w W1 ∧ Mid W W1 (own p mb L)
def M2 (w W W1 : World) (p q : Nat) (s : S) (mb : Option Nat) (L : List Fi) (x : RS) (a : Ac) : Prop := RTo W W1 q x (doS s x.D a) (doL s x.D a) ∧ StR W1 p s mb L ∧ Below w.heap.size w W1 ∧ Mid W W1 (fun i => i = q)
def Fin (w W2 : World) (p q : Nat) (room : Int) (n : Nat) (s : S) : Prop := ∃ mb' L' x', Pl w W2 p q room n s mb' L' x'
section
variable {w W : World} {p q n : Nat} {room : Int} {s : S} {mb : Option Nat} {L : List Fi} {x : RS} {a : Ac} {F F' : FuncId} {args args' : Array Value} {E E' : Int}
theorem pair1 (h : Pl w W p q room n s mb L x) (hs : SC w p s mb L a F args E) : Calls Try.prog F args W fun e w' => e = .returned (.int .i64 E) ∧ M1 w W w' p q s mb L x a := by
  refine (hs W h.st h.bel h.lo).mono ?_
  rintro e w' ⟨rfl, hm⟩
  obtain ⟨mb', L', mv, al⟩ := hm
  exact ⟨rfl, ⟨mb', L', mv, al⟩, h.rf.kept mv.off (fun j hj ho => h.apart j ho hj), h.bel.trans (mv.off.below h.lo h.bel.size), mv.off.1.size, fun i hi hn => mv.off.2 i hi hn⟩
theorem pair2 {W1 : World} (h : Pl w W p q room n s mb L x) (hr0 : 0 ≤ room ∧ room ≤ 1000) (hn : n ≤ 990) (hr : RC w q s x a F args E) (hm : M1 w W W1 p q s mb L x a) : Calls Try.prog F args W1 fun e w' => e = .returned (.int .i64 E) ∧ Fin w w' p q room (n + 1) (doS s L a) ∧ Mid W w' (fun i => own p mb L i ∨ i = q) := by
  obtain ⟨h1, h2, h3, z1, z2⟩ := hm
  refine (hr W1 (h.fit hr0 hn h2) h3 (h.lr q (.inl rfl))).mono ?_
  rintro e w' ⟨rfl, h4⟩
  refine ⟨rfl, h.both1 a h1 h4, ?_⟩
  obtain ⟨_, rm, _⟩ := h4
  exact ⟨Nat.le_trans z1 rm.off.1.size, fun i hi hn => (rm.off.2 i (Nat.lt_of_lt_of_le hi z1) (fun e => hn (.inr e))).trans (z2 i hi (fun e => hn (.inl e)))⟩
theorem pair3 (h : Pl w W p q room n s mb L x) (hr0 : 0 ≤ room ∧ room ≤ 1000) (hn : n ≤ 990) (hr : RC w q s x a F args E) : Calls Try.prog F args W fun e w' => e = .returned (.int .i64 E) ∧ M2 w W w' p q s mb L x a := by
  refine (hr W (h.fit hr0 hn h.rf) h.bel (h.lr q (.inl rfl))).mono ?_
  rintro e w' ⟨rfl, hm⟩
  obtain ⟨x', rm, al, rl⟩ := hm
  have hq : ∀ j, j = q → w.heap.size ≤ j := fun j e => h.lr j (.inl e)
  exact ⟨rfl, ⟨x', rm, al, rl⟩, h.st.kept rm.off (fun j hj e => h.apart j hj (.inl e)), h.bel.trans (rm.off.below hq h.bel.size), rm.off.1.size, fun i hi hn => rm.off.2 i hi hn⟩
theorem pair4 {W1 : World} (h : Pl w W p q room n s mb L x) (hs : SC w p s mb L a F args E) (hm : M2 w W W1 p q s mb L x a) : Calls Try.prog F args W1 fun e w' => e = .returned (.int .i64 E) ∧ Fin w w' p q room (n + 1) (doS s L a) ∧ Mid W w' (fun i => own p mb L i ∨ i = q) := by
  obtain ⟨h1, h2, h3, z1, z2⟩ := hm
  refine (hs W1 h2 h3 h.lo).mono ?_
  rintro e w' ⟨rfl, h4⟩
  refine ⟨rfl, h.both2 a h1 h4, ?_⟩
  obtain ⟨_, _, mv, _⟩ := h4
  exact ⟨Nat.le_trans z1 mv.off.1.size, fun i hi hn => (mv.off.2 i (Nat.lt_of_lt_of_le hi z1) (fun e => hn (.inl e))).trans (z2 i hi (fun e => hn (.inr e)))⟩
end

/-! ### The kinds -/
section
variable {w : World} {p q : Nat} {s : S} {mb : Option Nat} {L : List Fi} {x : RS}
theorem sc_app (k : ByteArray) {A : Option Addr} {n c : Nat} {bs : List Int} (hb : BAt w (.slice A n c) bs) (hn : n ≤ 1000) : SC w p s mb L ⟨0, 0, k, k, bs⟩ 11 #[.pointer (some ⟨p, 0, none⟩), .string k, .slice A n c] (appE s k n) := fun W h hW ho => by
  have hl := hb.len.1
  refine (Append_any k h (by omega) hl (fun w' h' => hb.kept (hW.trans (h'.below ho hW.size)))).mono ?_
  rintro e w' ⟨rfl, hm⟩
  refine ⟨rfl, ?_⟩
  show Mo W w' p mb L (appS s k bs.length) (appL s L k bs)
  rw [hl]; exact hm
theorem rc_app (k : ByteArray) {A : Option Addr} {n c : Nat} {bs : List Int} (hb : BAt w (.slice A n c) bs) (hn : n ≤ 1000) : RC w q s x ⟨0, 0, k, k, bs⟩ 12 #[.pointer (some ⟨q, 0, none⟩), .string k, .slice A n c] (appE s k n) := fun W h hW hq => by
  have hl := hb.len.1
  refine (append_ref k h hn hl (fun w' h' => hb.kept (hW.trans (h'.below (fun j e => by rw [e]; exact hq) hW.size)))).mono ?_
  rintro e w' ⟨rfl, hm⟩
  refine ⟨rfl, ?_⟩
  show RTo W w' q x (appS s k bs.length) (appL s x.D k bs)
  rw [hl]; exact hm
theorem sc_wri (k : ByteArray) {A : Option Addr} {n c : Nat} {bs : List Int} (hb : BAt w (.slice A n c) bs) (hn : n ≤ 1000) : SC w p s mb L ⟨1, 0, k, k, bs⟩ 13 #[.pointer (some ⟨p, 0, none⟩), .string k, .slice A n c] (wriE s L k n) := fun W h hW ho => by
  have hl := hb.len.1
  refine (Write_any k h (by omega) hl (fun w' h' => hb.kept (hW.trans (h'.below ho hW.size)))).mono ?_
  rintro e w' ⟨rfl, hm⟩
  refine ⟨rfl, ?_⟩
  show Mo W w' p mb L (wriS s L k bs.length) (wriL s L k bs)
  rw [hl]; exact hm
theorem rc_wri (k : ByteArray) {A : Option Addr} {n c : Nat} {bs : List Int} (hb : BAt w (.slice A n c) bs) (hn : n ≤ 1000) (ha : Alike x.D L) : RC w q s x ⟨1, 0, k, k, bs⟩ 14 #[.pointer (some ⟨q, 0, none⟩), .string k, .slice A n c] (wriE s L k n) := fun W h hW hq => by
  have hl := hb.len.1
  refine (write_ref k h hn hl (fun w' h' => hb.kept (hW.trans (h'.below (fun j e => by rw [e]; exact hq) hW.size)))).mono ?_
  rintro e w' ⟨rfl, hm⟩
  refine ⟨by unfold wriE; rw [(ha k).2], ?_⟩
  show RTo W w' q x (wriS s x.D k bs.length) (wriL s x.D k bs)
  rw [hl]; exact hm
theorem sc_cut (k : ByteArray) (z : Int) : SC w p s mb L ⟨2, z, k, k, []⟩ 15 #[.pointer (some ⟨p, 0, none⟩), .string k, .int .i64 z] (cutE s L k z) := fun _W h _ _ => Cut_any k z h
theorem rc_cut (k : ByteArray) (z : Int) (ha : Alike x.D L) : RC w q s x ⟨2, z, k, k, []⟩ 16 #[.pointer (some ⟨q, 0, none⟩), .string k, .int .i64 z] (cutE s L k z) := fun W h _ _ => by
  refine (cut_ref k z h).mono ?_
  rintro e w' ⟨rfl, hm⟩
  exact ⟨by unfold cutE; rw [(ha k).2, fnd_alike ha], hm⟩
theorem sc_ren (k tn : ByteArray) : SC w p s mb L ⟨3, 0, k, tn, []⟩ 17 #[.pointer (some ⟨p, 0, none⟩), .string k, .string tn] (renE s L k tn) := fun _W h _ _ => Rename_any k tn h
theorem rc_ren (k tn : ByteArray) (ha : Alike x.D L) : RC w q s x ⟨3, 0, k, tn, []⟩ 18 #[.pointer (some ⟨q, 0, none⟩), .string k, .string tn] (renE s L k tn) := fun W h _ _ => by
  refine (rename_ref k tn h).mono ?_
  rintro e w' ⟨rfl, hm⟩
  exact ⟨by unfold renE; rw [fnd_alike ha], hm⟩
end
end Go.Proofs.Ytffeinbbgfogoaa.Sr
