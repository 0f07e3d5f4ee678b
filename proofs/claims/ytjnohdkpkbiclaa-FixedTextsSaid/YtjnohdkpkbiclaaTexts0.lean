/-
  The law FixedTexts answers true: its walk. Conditions: the types' own ranges.
-/
import Derived.Test.YtjnohdkpkbiclaaDigits
import Derived.Test.YtjnohdkpkbiclaaText
import Derived.Test.YtjnohdkpkbiclaaWides
namespace Go.Proofs.Ytjnohdkpkbiclaa
open Go.RowKit

theorem sb_mk {bs : List Int} (h : ∀ c ∈ bs, 0 ≤ c ∧ c ≤ 255) : sb (mkStr bs) = bs := by
  unfold sb
  rw [mkStr_data, List.map_map]
  conv => rhs; rw [← List.map_id bs]
  apply List.map_congr_left
  intro c hc
  have := h c hc
  simp [Function.comp]
  omega
theorem decF_len (f n : Nat) : (decF f n).length ≤ f := by
  induction f generalizing n with
  | zero => simp [decF]
  | succ f ih =>
    unfold decF
    split
    · simp
    · have := ih (n / 10)
      simp only [List.length_append, List.length_singleton]; omega
theorem text_facts (z : Int) (h : In128 z) : sb (mkStr (textOf z)) = textOf z ∧ (textOf z).length ≤ 41 ∧ negB (textOf z) = decide (z < 0) ∧ digsOf (textOf z) = decF 40 z.natAbs ∧ plainB (decF 40 z.natAbs) = true ∧
    ¬ (negB (textOf z) = true ∧ digsOf (textOf z) = [48]) ∧ numOf (decF 40 z.natAbs) = z.natAbs := by
  obtain ⟨h0, h1⟩ := h
  have p40 : (10 : Nat) ^ 40 = 10000000000000000000000000000000000000000 := by decide
  obtain ⟨d1, d2, d3, d4, d5⟩ := decF_ok 40 z.natAbs (by decide) (by rw [p40]; omega)
  have hhead : ∀ c, (decF 40 z.natAbs).head? = some c → 48 ≤ c ∧ c ≤ 57 := fun c hc => d1 c (List.mem_of_mem_head? hc)
  have hn : negB (textOf z) = decide (z < 0) := by
    unfold negB textOf
    by_cases hz : z < 0
    · simp [hz]
    · rw [if_neg hz, decide_eq_false hz]
      cases hd : (decF 40 z.natAbs).head? with
      | none => rfl
      | some c =>
        have := hhead c hd
        simp; omega
  have hd : digsOf (textOf z) = decF 40 z.natAbs := by
    unfold digsOf
    rw [hn]
    unfold textOf
    by_cases hz : z < 0 <;> simp [hz]
  refine ⟨sb_mk fun c hc => ?_, ?_, hn, hd, ?_, ?_, d2⟩
  · unfold textOf at hc
    split at hc
    · rcases List.mem_cons.1 hc with rfl | hc
      · omega
      · have := d1 c hc; omega
    · have := d1 c hc; omega
  · have := decF_len 40 z.natAbs
    unfold textOf
    split
    · rw [List.length_cons]; omega
    · omega
  · unfold plainB
    rw [Bool.and_eq_true]
    constructor
    · rw [List.all_eq_true]
      intro c hc
      have := d1 c hc
      simp; omega
    · by_cases h48 : (decF 40 z.natAbs).head? = some 48
      · rw [d4 h48]; rfl
      · cases hdd : decF 40 z.natAbs with
        | nil => exact absurd hdd d3
        | cons a t =>
          rw [hdd] at h48
          simp at h48
          simp [h48]
  · rw [hn, hd]
    rintro ⟨hz, h48⟩
    rw [h48] at d2
    simp [numOf] at d2
    simp at hz
    omega

theorem parse_text {z h l er : Int} (hz : In128 z) (hs : ParseSpec (sb (mkStr (textOf z))) h l er) : er = 0 ∧ WOk h l ∧ wv h l = z := by
  obtain ⟨t1, _, t2, t3, t4, t5, t6⟩ := text_facts z hz
  rw [t1] at hs
  rcases hs with ⟨h1 | h1, _⟩ | ⟨_, _, hsg⟩
  · rw [t3, t4] at h1; cases h1
  · exact absurd h1 t5
  · rw [t2, t3, t6] at hsg
    have hv : (if decide (z < 0) = true then -(z.natAbs : Int) else z.natAbs) = z := by
      by_cases hn : z < 0 <;> simp [hn] <;> omega
    unfold Signed at hsg
    rw [hv] at hsg
    rcases hsg with ⟨_, _, e, k, v⟩ | ⟨n, _⟩
    · exact ⟨e, k, v⟩
    · exact absurd hz n
/-- What Parse must tell of a text that Digits takes, and of one that it doesn't. -/
theorem parse_digits {bs : List Int} {w : World} {u : Value} {b : Bool} {h l er : Int} (hd : DSpec bs w u b) (hp : ParseSpec bs h l er) :
    (b = true ∧ ∃ z, NumIs w u z ∧ WSpec z h l er) ∨ (b = false ∧ u = .agg #[.bool false, .slice none 0 0] ∧ er = 3 ∧ h = 0 ∧ l = 0) := by
  rcases hd with ⟨hb, h1, h2, h3⟩ | ⟨hb, h1, h2⟩
  · left
    refine ⟨hb, _, h3, ?_⟩
    rcases hp with ⟨g | g, _⟩ | ⟨_, _, hsg⟩
    · rw [h1] at g; cases g
    · exact absurd g h2
    · unfold Signed at hsg
      rcases hsg with ⟨e0, e1, e2, k, v⟩ | ⟨n, e1, e2, e3⟩
      · exact .inl ⟨⟨e0, e1⟩, k, v, e2⟩
      · exact .inr ⟨n, e2, e3, e1⟩
  · right
    refine ⟨hb, h1, ?_⟩
    rcases hp with ⟨_, g1, g2, g3⟩ | ⟨g1, g2, _⟩
    · exact ⟨g1, g2, g3⟩
    · rcases h2 with h2 | h2
      · rw [g1] at h2; cases h2
      · exact absurd h2 g2
end Go.Proofs.Ytjnohdkpkbiclaa
