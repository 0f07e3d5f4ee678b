/-
  The law's Same at a store and a reference that go together. Conditions: at most 990 files, names of at most twelve bytes, 100000 bytes.
-/
import Derived.Test.YtffeinbbgfogoaaSRany
import Derived.Test.YtffeinbbgfogoaaSM3
import Derived.Test.YtffeinbbgfogoaaSRen
import Derived.Sort.Walk0
import Derived.Test.YtffeinbbgfogoaaSM4
namespace Go.Proofs.Ytffeinbbgfogoaa.Sr
open Go.RowKit Go.Maps Go.Sort Fr

def nmsD (D : List Fi) : List ByteArray := D.map fun y => y.1
theorem mem_val {D : List Fi} (h : KeysL D) {y : Fi} (hy : y ∈ D) : hasL D y.1 = true ∧ bytL D y.1 = y.2.2 := by
  induction D with
  | nil => cases hy
  | cons z r ih =>
    obtain ⟨h1, h2⟩ := List.pairwise_cons.1 h
    rw [has_cons, byt_cons]
    rcases List.mem_cons.1 hy with rfl | hy
    · simp
    · rw [if_neg (h1 y hy), if_neg (h1 y hy)]; exact ih h2 hy
theorem leB_of {x y : ByteArray} (h : blt x y = true) : leB x.data.toList y.data.toList = true := by
  have h1 : x.toList < y.toList := by
    have := h
    unfold blt at this
    rw [bytesLess_eq] at this
    exact of_decide_eq_true this
  rw [toList_data', toList_data'] at h1
  exact decide_eq_true (List.le_of_lt h1)
theorem nmL_srt {D : List Fi} (h : SrtL D) : nmL D = nmsD D := by
  unfold nmL nmsD
  have hs : (keyB D).Pairwise fun a b => leB a b = true := by
    unfold keyB
    exact List.pairwise_map.2 (h.imp fun h => leB_of h)
  rw [List.mergeSort_of_pairwise hs]
  unfold keyB
  rw [List.map_map]
  exact List.map_congr_left fun y _ => by simp
end Go.Proofs.Ytffeinbbgfogoaa.Sr

namespace Go.Proofs.Ytffeinbbgfogoaa.Sr
open Go.RowKit Fr

/-- What the first i of the calls leave. -/
def rn (st : S × List Fi) (cs : List AcM) (i : Nat) : S × List Fi := runA st ((cs.map AcM.ac).take i)
theorem rn_zero (st : S × List Fi) (cs : List AcM) : rn st cs 0 = st := rfl
theorem rn_succ (st : S × List Fi) {cs : List AcM} {i : Nat} {a : AcM} (h : cs[i]? = some a) : rn st cs (i + 1) = (doS (rn st cs i).1 (rn st cs i).2 a.ac, doL (rn st cs i).1 (rn st cs i).2 a.ac) := by
  unfold rn
  obtain ⟨hi, he⟩ := List.getElem?_eq_some_iff.1 h
  rw [List.take_succ_eq_append_getElem (by rw [List.length_map]; exact hi), List.getElem_map, he, runA_snoc]
theorem rn_good {st : S × List Fi} {n : Nat} (h : Good st.2 n) (cs : List AcM) (i : Nat) (hi : i ≤ 30) : Good (rn st cs i).2 (n + 30) := by
  have h1 := run_good ((cs.map AcM.ac).take i) st n h
  exact ⟨h1.1, Nat.le_trans h1.2.1 (by rw [List.length_take]; omega), h1.2.2⟩
theorem good_alike {L L' : List Fi} {n : Nat} (h : Good L n) (hk : KeysL L') (ha : Alike L L') : Good L' n := by
  refine ⟨hk, by rw [← len_alike h.1 hk ha]; exact h.2.1, fun x hx => ?_⟩
  have h1 := (ha x.1).1
  rw [has_mem.2 ⟨x, hx, rfl⟩] at h1
  obtain ⟨y, hy, e⟩ := has_mem.1 h1.symm
  rw [← e]; exact h.2.2 y hy

def Ru (W0 W : World) (p : Nat) (mb : Option Nat) (L : List Fi) (st : S × List Fi) : Prop := Mo W0 W p mb L st.1 st.2
theorem Ru.start {W : World} {p : Nat} {mb : Option Nat} {L : List Fi} {st : S × List Fi} (h : StR W p st.1 mb L) (ha : Alike st.2 L) : Ru W W p mb L st := ⟨mb, L, Mv.refl h, ha⟩
theorem Ru.off {W0 W : World} {p : Nat} {mb : Option Nat} {L : List Fi} {st : S × List Fi} (h : Ru W0 W p mb L st) : Off (own p mb L) W0 W := by
  obtain ⟨_, _, h, _⟩ := h; exact h.off
theorem Ru.bel {W0 W : World} {p n : Nat} {mb : Option Nat} {L : List Fi} {st : S × List Fi} (h : Ru W0 W p mb L st) (hn : ∀ i, own p mb L i → n ≤ i) (hs : n ≤ W0.heap.size) : Below n W0 W := h.off.below hn hs
theorem lap {w W0 W : World} {p : Nat} {mb : Option Nat} {L : List Fi} {st : S × List Fi} {A : Option Addr} {n k i : Nat} {cs : List AcM} {a : AcM} (hin : ActsIn w A n cs) (hn : n ≤ 30) (hst : Good st.2 k) (ha : cs[i]? = some a)
    (hb : Below w.heap.size w W0) (how : ∀ j, own p mb L j → w.heap.size ≤ j) (h : Ru W0 W p mb L (rn st cs i)) :
    ∃ g o, A = some ⟨g, o, none⟩ ∧ (W.cell? ⟨g, o + i * 5, none⟩ = some (.int .i64 a.k) ∧ W.cell? ⟨g, o + i * 5 + 1, none⟩ = some (.int .i64 a.n) ∧ W.cell? ⟨g, o + i * 5 + 2, none⟩ = some (.string a.nm) ∧ W.cell? ⟨g, o + i * 5 + 3, none⟩ = some (.string a.tw) ∧ W.cell? ⟨g, o + i * 5 + 4, none⟩ = some (.slice a.A a.nb a.cb)) ∧
      Calls Try.prog 32 #[.pointer (some ⟨p, 0, none⟩), .agg #[.int .i64 a.k, .int .i64 a.n, .string a.nm, .string a.tw, .slice a.A a.nb a.cb]] W fun e w' => e = .returned (.tuple #[]) ∧ Ru W0 w' p mb L (rn st cs (i + 1)) := by
  have hi : i < 30 := by
    have := (List.getElem?_eq_some_iff.1 ha).1
    have := hin.1
    omega
  have hW : Below w.heap.size w W := hb.trans (h.bel how hb.size)
  obtain ⟨a1, a2, g, o, hA, hg, d0, d1, d2, d3, d4⟩ := hin.2 i a ha
  refine ⟨g, o, hA, ⟨(hW.cell (p := ⟨g, o + i * 5, none⟩) hg).trans d0, (hW.cell (p := ⟨g, o + i * 5 + 1, none⟩) hg).trans d1, (hW.cell (p := ⟨g, o + i * 5 + 2, none⟩) hg).trans d2, (hW.cell (p := ⟨g, o + i * 5 + 3, none⟩) hg).trans d3, (hW.cell (p := ⟨g, o + i * 5 + 4, none⟩) hg).trans d4⟩, ?_⟩
  have hkeys : KeysL (rn st cs i).2 := (rn_good hst cs i (by omega)).1
  obtain ⟨mb', L', mv, al⟩ := h
  have hown : ∀ j, own p mb' L' j → w.heap.size ≤ j := fun j hj => (mv.new j hj).elim (how j) (fun h2 => Nat.le_trans hb.size h2)
  refine (do_any (w := W) a.ac (m := min a.nb 60) mv.st (fun w' ho => a2.kept (hW.trans (ho.below hown hW.size))) rfl rfl a1).mono ?_
  rintro e w' ⟨rfl, hm⟩
  refine ⟨rfl, ?_⟩
  rw [rn_succ st ha]
  exact Mo.step a.ac hkeys mv al hm

/-- A store, and two copies of it. -/
theorem two {w2 w3 w4 : World} {p : Nat} {s : S} {mb mb3 mb4 : Option Nat} {L L3 L4 : List Fi} (h : StR w2 p s mb L) (h3 : Copied w2 w3 s L mb3 L3) (h4 : Copied w3 w4 s L mb4 L4) :
    StR w4 p s mb L ∧ StR w4 w2.heap.size s mb3 L3 ∧ StR w4 w3.heap.size s mb4 L4 ∧ Below w2.heap.size w2 w4 ∧ Alike L L3 ∧ Alike L L4 ∧
      (∀ i, own p mb L i → i < w2.heap.size) ∧ (∀ i, own w2.heap.size mb3 L3 i → w2.heap.size ≤ i ∧ i < w4.heap.size ∧ ¬ own w3.heap.size mb4 L4 i) := by
  obtain ⟨a1, a2, a3, a4⟩ := h3
  obtain ⟨b1, b2, b3, b4⟩ := h4
  have s3 := a2.size
  have s4 := b2.size
  refine ⟨(h.below a2).below b2, a1.below b2, b1, a2.trans (b2.mono s3), a4, b4, fun i hi => own_lt h hi, fun i hi => ⟨a3 i hi, ?_, fun h5 => ?_⟩⟩
  · have := own_lt a1 hi; omega
  · have := own_lt a1 hi; have := b3 i h5; omega
end Go.Proofs.Ytffeinbbgfogoaa.Sr
