/-
  Bytes that came in, and slices of them. Conditions: none.
-/
import Derived.Test.YtjijgoflbjbnfaaGreatVM1
import Derived.ProofKit
import Derived.OpenShut
import Derived.ChangeOld
import Derived.Lib.SmallJoins
import Derived.ChangeMaps5
namespace Go.Proofs.YtjijgoflbjbnfaaGreat.Fr
open Go.ChangeShapes Go.WideShapes Go.ChangeAt Go.RowKit Go.Joins Go.Deep

/-- A slice of bytes that came in holds bytes. -/
theorem open_bytes {H : Type} {enc : TypeId × Value → H} {w : World} {held : Bool} {fuel : Nat} {cs : List Value} {x : DataW H × List MemPlace} (h : DataW.trod enc Tryz.prog w 0 (fun _ => true) held fuel 32 cs = some x) :
    ∃ A len cap l, cs = [.slice A len cap] ∧ BAt w (.slice A len cap) l ∧ bok l := by
  rcases open_ints Tryz.underlying32 Tryz.underlying5 (by kernel_rfl) h with ⟨hcs, _⟩ | ⟨a, len, c, zs, hcs, _, hl, hm, hz, _, hcell, hwz⟩
  · exact ⟨none, 0, 0, [], hcs, BAt.nil w, fun x hx => absurd hx (List.not_mem_nil)⟩
  · have hzl : len ≤ zs.length := by simp at hz; omega
    have hll : (zs.take len).length = len := by rw [List.length_take]; omega
    refine ⟨some a, len, c, zs.take len, hcs, ⟨some a, c, by rw [hll], by rw [hll]; omega, fun hp => ?_⟩, fun y hy => ?_⟩
    · rw [hll] at hp ⊢
      obtain ⟨b, off, spot⟩ := a
      have hc := hcell 0 (by omega)
      have hspot : spot = none := by simpa [Addr.add] using World.cell?_spot hc
      subst hspot
      refine ⟨b, off, rfl, ?_, fun i hi => ?_⟩
      · have := World.block_lt_of_cell? _ _ hc
        simpa [Addr.add] using this
      · have := hcell i (by omega)
        rw [show (Addr.mk b off none).add i = ⟨b, off + i, none⟩ by unfold Addr.add; split <;> simp_all] at this
        rw [this, getD_take hi]
    · have := hwz y (List.mem_of_mem_take hy)
      simp [Lit.wf, IntKind.min, IntKind.max, IntKind.signed, IntKind.bits] at this
      omega
end Go.Proofs.YtjijgoflbjbnfaaGreat.Fr
