/-
  The contract of Copy. Conditions: a store.
-/
import Derived.Test.YtffeinbbgfogoaaSList
import Derived.Test.YtffeinbbgfogoaaSM2
import Derived.Test.YtffeinbbgfogoaaSWri
import Derived.Maps.RangeRun
namespace Go.Proofs.Ytffeinbbgfogoaa.Sr
open Go.RowKit Fr

/-- The copy under way: which entries were seen, which files it has. -/
structure CpI (w0 wr : World) (q b b' r clock : Nat) (es : Array MapEntry) (s : S) (L : List Fi) (seen : Array Nat) (Lc : List Fi) : Prop where
  bel : Below w0.heap.size w0 wr
  cells : wr.heap[q]? = some (blk s (some b'))
  iter : ∃ c0, clock ≤ c0 ∧ wr.heap[r]? = some (.mapIter (some b) clock seen c0)
  map : MapR wr b' Lc
  rws : ∀ x ∈ Lc, rowOf wr x.2.1 x.2.2 ∧ ∀ i, x.2.1.ownBlock = some i → w0.heap.size ≤ i
  apt : Lc.Pairwise apart
  kys : KeysL Lc
  seen : ∀ e ∈ es.toList, ∀ k, e.key = .string k → (seen.contains e.born = true ↔ hasL Lc k = true)
  has : ∀ x ∈ Lc, hasL L x.1 = true ∧ x.2.2 = bytL L x.1

theorem ent_of {l : List MapEntry} {L : List Fi} (h : ents l = rows L) {e : MapEntry} (he : e ∈ l) : ∃ x ∈ L, e.key = .string x.1 ∧ e.val = x.2.1 := by
  have : (e.key, e.val) ∈ ents l := List.mem_map.2 ⟨e, he, rfl⟩
  rw [h] at this
  obtain ⟨x, hx, hy⟩ := List.mem_map.1 this
  exact ⟨x, hx, (congrArg Prod.fst hy).symm, (congrArg Prod.snd hy).symm⟩
theorem of_ent {l : List MapEntry} {L : List Fi} (h : ents l = rows L) {x : Fi} (hx : x ∈ L) : ∃ e ∈ l, e.key = .string x.1 := by
  have : (Value.string x.1, x.2.1) ∈ rows L := List.mem_map.2 ⟨x, hx, rfl⟩
  rw [← h] at this
  obtain ⟨e, he, hy⟩ := List.mem_map.1 this
  exact ⟨e, he, congrArg Prod.fst hy⟩
theorem nodup_inj {α β : Type} {f : α → β} : ∀ {l : List α}, (l.map f).Nodup → ∀ {a b : α}, a ∈ l → b ∈ l → f a = f b → a = b
  | x :: l, h, a, b, ha, hb, e => by
    obtain ⟨h1, h2⟩ := List.nodup_cons.1 h
    rcases List.mem_cons.1 ha with h3 | h3
    · rcases List.mem_cons.1 hb with h4 | h4
      · rw [h3, h4]
      · exact absurd (List.mem_map.2 ⟨b, h4, by rw [← e, h3]⟩) h1
    · rcases List.mem_cons.1 hb with h4 | h4
      · exact absurd (List.mem_map.2 ⟨a, h3, by rw [e, h4]⟩) h1
      · exact nodup_inj h2 h3 h4 e

/-- One round. -/
theorem CpI.step {w0 wr w1 w3 w4 w5 : World} {q b b' r clock : Nat} {es : Array MapEntry} {s : S} {L Lc : List Fi} {seen : Array Nat} {e : MapEntry} {k : ByteArray} {v : Value} {l : List Int} (h : CpI w0 wr q b b' r clock es s L seen Lc)
    (hst : Go.MapKept.Stamped es clock) (hent : ents es.toList = rows L) (he : e ∈ es.toList) (hek : e.key = .string k) (hns : seen.contains e.born = false) (hr : w0.heap.size ≤ r) (hb' : w0.heap.size ≤ b')
    (h1 : w1 = wr ∨ w1 = wr.drew) (h3 : w3 = Go.ChangeMaps.setBlock w1 r (.mapIter (some b) clock (seen.push e.born) clock)) (h4 : Below w3.heap.size w3 w4) (hv : w4.ownsRow w3.heap.size 5 1 v l.length (bv l)) (hl : l = bytL L k)
    (h5 : w4.grownBy w5 (some b')) (hm5 : MapR w5 b' (putL Lc k (v, l))) : CpI w0 w5 q b b' r clock es s L (seen.push e.born) (putL Lc k (v, l)) := by
  obtain ⟨c0, hc0, hit⟩ := h.iter
  have hw1 : ∀ i : Nat, w1.heap[i]? = wr.heap[i]? := fun i => by rcases h1 with rfl | rfl <;> rfl
  have hs1 : w1.heap.size = wr.heap.size := by rcases h1 with rfl | rfl <;> rfl
  have hb1 : ∀ B, Below B wr w1 := fun B => by
    rcases h1 with rfl | rfl
    · exact Below.refl _ _
    · exact (Below.refl _ _).drew
  have hrlt : r < wr.heap.size := (Array.getElem?_eq_some_iff.1 hit).1
  have h3s : w3.heap.size = wr.heap.size := by rw [h3]; simp [Go.ChangeMaps.setBlock, hs1]
  have h3r : w3.heap[r]? = some (.mapIter (some b) clock (seen.push e.born) clock) := by
    rw [h3]; simp [Go.ChangeMaps.setBlock, hs1, hrlt]
  have h3o : ∀ i, i ≠ r → w3.heap[i]? = wr.heap[i]? := fun i hi => by
    rw [h3]; simp only [Go.ChangeMaps.setBlock]; rw [Array.getElem?_setIfInBounds_ne (Ne.symm hi), hw1]
  obtain ⟨em, cm, hbm, _, _⟩ := id h.map
  have hrb : b' ≠ r := by rintro rfl; rw [hit] at hbm; cases hbm
  have hqr : q ≠ r := by rintro rfl; have := h.cells; rw [hit] at this; cases this
  have hqb : q ≠ b' := by rintro rfl; have := h.cells; rw [hbm] at this; cases this
  have k5 : ∀ i, i < wr.heap.size → i ≠ r → i ≠ b' → w5.heap[i]? = wr.heap[i]? := fun i hi hn hnb =>
    (h5.block i (by have := h4.size; omega) (fun e => hnb (Option.some.inj e))).trans ((h4.block i (by omega)).trans (h3o i hn))
  have kr : w5.heap[r]? = some (.mapIter (some b) clock (seen.push e.born) clock) :=
    (h5.block r (by have := h4.size; omega) (fun e => hrb (Option.some.inj e).symm)).trans ((h4.block r (by omega)).trans h3r)
  have hks : hasL Lc k = false := by
    cases hh : hasL Lc k with
    | false => rfl
    | true => rw [(h.seen e he k hek).2 hh] at hns; cases hns
  have hrow : ∀ {u : Value} {m : List Int}, rowOf wr u m → rowOf w5 u m := fun {u m} hu => row_kept hu fun i hi => by
    obtain ⟨cur, hc⟩ := row_heap hu hi
    refine k5 i (Array.getElem?_eq_some_iff.1 hc).1 ?_ ?_
    · rintro rfl; rw [hit] at hc; cases hc
    · rintro rfl; rw [hbm] at hc; cases hc
  have hvlt := hv.lt
  have hsz0 := h.bel.size
  refine ⟨?_, ?_, ⟨clock, Nat.le_refl _, kr⟩, hm5, fun x hx => ?_, pair_put _ h.apt h.kys fun x hx _ => ⟨fun i hi e2 => ?_, fun i hi e2 => ?_⟩, pair_put _ h.kys h.kys fun x _ hn => ⟨hn, hn.symm⟩, fun e2 he2 k2 hk2 => ?_, fun x hx => ?_⟩
  · have hg3 : Below w0.heap.size wr w3 := by
      rw [h3]
      refine ⟨(hb1 0).os, (hb1 0).tape, (hb1 0).output, by simp [Go.ChangeMaps.setBlock, hs1], fun i hi => ?_⟩
      have := h3o i (by omega)
      rw [h3] at this; exact this
    exact ((h.bel.trans hg3).trans (h4.mono (by omega))).grown h5 (by have := h4.size; omega) (fun i e2 => by cases e2; exact hb')
  · exact (k5 q (Array.getElem?_eq_some_iff.1 h.cells).1 hqr hqb).trans h.cells
  · rcases mem_put h.kys x hx with rfl | ⟨hx, _⟩
    · refine ⟨row_zero (base := w3.heap.size) ?_, fun i hi => by have := (hvlt i hi).1; omega⟩
      exact hv.kept h5 (by
        cases hvb : v.ownBlock with
        | none => exact .inl rfl
        | some i =>
          refine .inr fun e3 => ?_
          have h6 := (hvlt i hvb).1
          have h7 : b' < wr.heap.size := (Array.getElem?_eq_some_iff.1 hbm).1
          have : i = b' := Option.some.inj e3
          omega)
    · exact ⟨hrow (h.rws x hx).1, (h.rws x hx).2⟩
  · have h6 := (hvlt i e2).1
    have h7 := ((h.rws x hx).1.lt i hi).2
    omega
  · have h6 := (hvlt i hi).1
    have h7 := ((h.rws x hx).1.lt i e2).2
    omega
  · rw [has_put, contains_push]
    by_cases hkk : k = k2
    · rw [if_pos hkk]
      have : e2 = e := nodup_inj hst.2.2 he2 he (by rw [hk2, hek, hkk])
      subst this
      simp
    · rw [if_neg hkk]
      have hne : (e2.born == e.born) = false := by
        cases hq : e2.born == e.born with
        | false => rfl
        | true =>
          have : e2 = e := nodup_inj hst.2.1 he2 he (by simpa using hq)
          subst this
          rw [hek] at hk2; cases hk2; exact absurd rfl hkk
      rw [hne, Bool.or_false]
      exact h.seen e2 he2 k2 hk2
  · rcases mem_put h.kys x hx with rfl | ⟨hx, _⟩
    · obtain ⟨y, hy, hyk, _⟩ := ent_of hent he
      rw [hek] at hyk; cases hyk
      exact ⟨has_mem.2 ⟨y, hy, rfl⟩, hl⟩
    · exact h.has x hx
/-- When none is left. -/
theorem CpI.done {w0 wr : World} {q b b' r clock : Nat} {es : Array MapEntry} {s : S} {L Lc : List Fi} {seen : Array Nat} (h : CpI w0 wr q b b' r clock es s L seen Lc) (hent : ents es.toList = rows L) (hk : KeysL L)
    (h0 : (leftOf es seen).size = 0) (hus : s.used = usedL L) (hroom : (usedL L : Int) ≤ s.room ∧ s.room ≤ 1048576) (hleft : s.a = true → 0 ≤ s.n ∧ s.n ≤ 9223372036854775807) : StR wr q s (some b') Lc ∧ Alike L Lc := by
  have hal : Alike L Lc := fun k => by
    have hh : hasL Lc k = hasL L k := by
      cases h1 : hasL L k with
      | false =>
        exact has_not fun x hx e => by
          have := (h.has x hx).1
          rw [e, h1] at this; cases this
      | true =>
        obtain ⟨x, hx, e⟩ := has_mem.1 h1
        obtain ⟨en, hen, hek⟩ := of_ent hent hx
        refine (h.seen en hen k (by rw [hek, e])).1 ?_
        cases hc : seen.contains en.born with
        | true => rfl
        | false =>
          have hm : en ∈ (leftOf es seen).toList := by
            unfold leftOf
            simp only [Array.toList_filter, List.mem_filter]
            exact ⟨hen, by rw [hc]; rfl⟩
          have : (leftOf es seen).toList.length = 0 := by simpa using h0
          rw [List.length_eq_zero_iff.1 this] at hm; cases hm
    refine ⟨hh, ?_⟩
    cases h1 : hasL Lc k with
    | false => rw [byt_none h1, byt_none (by rw [← hh]; exact h1)]
    | true =>
      obtain ⟨x, hx, e⟩ := has_mem.1 h1
      have := (byt_mem h.kys hx).1
      rw [e] at this
      rw [this, (h.has x hx).2, e]
  have hu := same_used hk h.kys hal
  exact ⟨⟨h.cells, h.map, fun x hx => (h.rws x hx).1, h.apt, h.kys, by rw [hu]; exact hus, by rw [hu]; exact hroom, hleft⟩, hal⟩
theorem CpI.owns {w0 wr : World} {q b b' r clock : Nat} {es : Array MapEntry} {s : S} {L Lc : List Fi} {seen : Array Nat} (h : CpI w0 wr q b b' r clock es s L seen Lc) (hq : w0.heap.size ≤ q) (hb' : w0.heap.size ≤ b') : ∀ i, own q (some b') Lc i → w0.heap.size ≤ i := by
  intro i hi
  rcases hi with rfl | hi | ⟨x, hx, hi⟩
  · exact hq
  · cases hi; exact hb'
  · exact (h.rws x hx).2 i hi

theorem makeMap_hint (w : World) (n : Int) : (Instr.makeMap 79 (some (.int .i64 n))).run Try.prog w = .ok (.map (some w.heap.size)) (w.alloc (.map #[] 0)) := by
  simp [Instr.makeMap, run_underlying mapT, asInt, asIntOf, Result.andThen]

set_option maxRecDepth 100000 in
set_option maxHeartbeats 2000000 in
theorem copy_any (w : World) (p : Nat) (s : S) (b : Nat) (L : List Fi) (h : StR w p s (some b) L) :
    Calls Try.prog 23 #[.pointer (some ⟨p, 0, none⟩)] w fun e w' => e = .returned (.pointer (some ⟨w.heap.size, 0, none⟩)) ∧ ∃ mb' L', StR w' w.heap.size s mb' L' ∧ Below w.heap.size w w' ∧ (∀ i, own w.heap.size mb' L' i → w.heap.size ≤ i) ∧ Alike L L' := by
  obtain ⟨⟨c0, c1, c2, c3, c4, c5⟩, _⟩ := blk_cells h.blk
  obtain ⟨es, clock, hb, hst, he⟩ := h.map
  have hmk := makeMap_hint
  have hrg := fun w hb => run_range_map (P := Try.prog) w 79 9 32 b es clock mapT hb
  have HS := Lib.hid h
  clear h
  have hlt : p < w.heap.size := (Array.getElem?_eq_some_iff.1 HS.out.blk).1
  obtain ⟨q, hq⟩ : ∃ q, q = w.heap.size := ⟨_, rfl⟩
  have HQ := Lib.hid hq
  rw [← hq] at ⊢ hlt
  go_enter Try.func23, Try.ntmps23
  go_upto_region 4 with fail
  rw [← hq]
  generalize hW1 : w.alloc (.cells #[.bool s.a, .int .i64 s.n, .bool s.d, .int .i64 s.room, .int .i64 s.used, .map (some b)] 81) = W1
  have HS1 : Hid (StR W1 p s (some b) L) := by
    show StR _ _ _ _ _
    rw [← hW1]; exact HS.out.below ((Below.refl _ _).alloc (Nat.le_refl _) _)
  have HC1 : Hid (W1.heap[q]? = some (blk s (some b))) := by
    show _ = _
    rw [← hW1, hq]; exact block_new _ _
  have HB1 : Hid (Below w.heap.size w W1) := by
    show Below _ _ _
    rw [← hW1]; exact (Below.refl _ _).alloc (Nat.le_refl _) _
  have hsz : W1.heap.size = q + 1 := by rw [← hW1, hq]; simp
  have HSZ := Lib.hid hsz
  clear hW1 c0 c1 c2 c3 c4 c5 hq hsz
  have d5 := (blk_cells HS1.out.blk).1.2.2.2.2.2
  have g5 := (blk_cells HC1.out).2.2.2.2.2.2
  have q5 := (blk_cells HC1.out).1.2.2.2.2.2
  have hbW1 : W1.heap[b]? = some (.map es clock) := block_kept hb HB1.out
  have hlen : (Builtin.len_ #[79] 3 #[.map (some b)]).run Try.prog W1 = .ok (.int .i64 (es.size : Int)) W1 := run_len_map W1 _ _ b es clock mapT hbW1
  have hq1 : q < W1.heap.size := by have := HSZ.out; omega
  go_upto_region 5 with fail
  generalize hb' : W1.heap.size = b'
  generalize hW2 : (W1.setCell ⟨q, 5, none⟩ (.map (some b'))).alloc (.map #[] 0) = W2
  have hq2 : q < (W1.setCell ⟨q, 5, none⟩ (.map (some b'))).heap.size := by rw [show (W1.setCell ⟨q, 5, none⟩ (.map (some b'))).heap.size = W1.heap.size by simp [World.setCell]]; exact hq1
  have hsq : (W1.setCell ⟨q, 5, none⟩ (.map (some b'))).heap.size = b' := by rw [show (W1.setCell ⟨q, 5, none⟩ (.map (some b'))).heap.size = W1.heap.size by simp [World.setCell]]; exact hb'
  have HB2 : Hid (Below w.heap.size w W2) := by
    show Below _ _ _
    rw [← hW2]
    exact (HB1.out.setCell (by show w.heap.size ≤ q; rw [HQ.out]; exact Nat.le_refl _) _).alloc (by rw [hsq]; have := HSZ.out; have := HQ.out; omega) _
  have HC2 : Hid (W2.heap[q]? = some (blk s (some b'))) := by
    show _ = _
    rw [← hW2]; exact block_old (blk_set HC1.out 5 _ (by simp)) _
  have HM2 : Hid (MapR W2 b' []) := by
    refine ⟨#[], 0, ?_, Go.MapKept.stamped_empty 0, rfl⟩
    have := block_new (W1.setCell ⟨q, 5, none⟩ (.map (some b'))) (.map #[] 0)
    rw [hsq, hW2] at this; exact this
  have hsz2 : W2.heap.size = b' + 1 := by rw [← hW2, World.size_alloc, hsq]
  have HBB : Hid (w.heap.size ≤ b' ∧ w.heap.size ≤ W2.heap.size) := by
    have := HSZ.out; have := HQ.out
    exact ⟨by omega, by omega⟩
  have hbW2 : W2.heap[b]? = some (.map es clock) := block_kept hb HB2.out
  have d5 := (blk_cells (HS.out.below HB2.out).blk).1.2.2.2.2.2
  have hrg2 := hrg W2 hbW2
  have HMB : Hid (∀ W, Below w.heap.size w W → W.heap[b]? = some (.map es clock)) := fun W hW => block_kept hb hW
  clear hW2 hq2 hsq hsz2 hb' hlen hbW1 hq1 hrg hmk g5 q5
  go_wp2
  generalize hr : W2.heap.size = r
  generalize hW3 : W2.alloc (.mapIter (some b) clock #[] clock) = W3
  have HR0 : Hid (w.heap.size ≤ r) := by show _ ≤ _; rw [← hr]; exact HBB.out.2
  have HI3 : Hid (CpI w W3 q b b' r clock es s L #[] []) := by
    have hbel : Below W2.heap.size W2 W3 := by rw [← hW3]; exact (Below.refl _ _).alloc (Nat.le_refl _) _
    refine ⟨HB2.out.trans (hbel.mono HBB.out.2), block_kept HC2.out hbel, ⟨clock, Nat.le_refl _, by rw [← hW3, ← hr]; exact block_new _ _⟩, MapO.below (mb := some b') HM2.out hbel, fun x hx => (by cases hx), List.Pairwise.nil, List.Pairwise.nil, fun e _ k _ => ?_, fun x hx => (by cases hx)⟩
    simp [hasL]
  clear hr hW3 hrg2 d5 hbW2 hb
  go_loopg [23] (leftOf es #[]).size (fun (gh : Nat) s23 wx => ∃ (seen : Array Nat) (Lc : List Fi), gh = (leftOf es seen).size ∧ s23 = s23 ∧ Hid (CpI w wx q b b' r clock es s L seen Lc))
  case atStart => exact ⟨#[], [], rfl, rfl, HI3⟩
  case round =>
    rename_i hKK
    obtain ⟨seen, Lc, rfl, _, hI⟩ := hrel
    obtain ⟨c0, hc0, hit⟩ := hI.out.iter
    have hbr : wr.heap[b]? = some (.map es clock) := by
      obtain ⟨em, cm, hbm, hsm, hem⟩ := (HS.out.below hI.out.bel).map
      exact HMB.out wr hI.out.bel
    rcases run_next_at (P := Try.prog) wr 0 r b clock c0 seen es clock hit hbr hst.1 hc0 with ⟨h0, hnx⟩ | ⟨e, hel, w1, hw1, hnx⟩
    · have H0 := Lib.hid h0
      clear h0 hit hbr
      go_wp2
      go_ret
      obtain ⟨h1, h2⟩ := hI.out.done he HS.out.keys H0.out HS.out.used HS.out.room HS.out.left
      exact ⟨rfl, some b', Lc, h1, by rw [HQ.out]; exact hI.out.bel, by rw [HQ.out]; exact HQ.out ▸ hI.out.owns (by rw [HQ.out]; exact Nat.le_refl _) HBB.out.1, h2⟩
    · obtain ⟨hee, hns⟩ := mem_left hel
      obtain ⟨x, hx, hek, hev⟩ := ent_of he hee
      generalize hW4 : Go.ChangeMaps.setBlock w1 r (.mapIter (some b) clock (seen.push e.born) clock) = W4 at hnx
      have hs1 : w1.heap.size = wr.heap.size := by rcases hw1 with rfl | rfl <;> rfl
      have hrlt : r < w1.heap.size := by rw [hs1]; exact (Array.getElem?_eq_some_iff.1 hit).1
      have h4r : W4.heap[r]? = some (.mapIter (some b) clock (seen.push e.born) clock) := by
        rw [← hW4]; simp [Go.ChangeMaps.setBlock, hrlt]
      have h4o : ∀ i, i ≠ r → W4.heap[i]? = wr.heap[i]? := fun i hi => by
        rw [← hW4]; simp only [Go.ChangeMaps.setBlock]; rw [Array.getElem?_setIfInBounds_ne (Ne.symm hi)]
        rcases hw1 with rfl | rfl <;> rfl
      have hbne : b ≠ r := by rintro rfl; rw [hbr] at hit; cases hit
      have hqne : q ≠ r := by rintro rfl; rw [hI.out.cells] at hit; cases hit
      have hen := run_entry_at (P := Try.prog) W4 r b clock seen es clock e h4r ((h4o b hbne).trans hbr) hee hst.2.1
      rw [hek, hev] at hnx hen
      have hc4 : W4.heap[q]? = some (blk s (some b')) := (h4o q hqne).trans hI.out.cells
      have hrow4 : rowOf W4 x.2.1 x.2.2 := row_kept ((HS.out.below hI.out.bel).rows x hx) fun i hi => by
        obtain ⟨cur, hc⟩ := row_heap ((HS.out.below hI.out.bel).rows x hx) hi
        exact h4o i (by rintro rfl; rw [hit] at hc; cases hc)
      have hbx := byt_mem HS.out.keys hx
      have hle : x.2.2.length ≤ 2000000 := by
        have h1 := byt_used L x.1
        rw [hbx.1] at h1
        have := HS.out.room; omega
      have hcl := clone_any W4.drew x.2.1 x.2.2 (BAt.of_own (row_kept hrow4 fun _ _ => rfl)) hle
      have HCL := Lib.hid hcl
      have hmap4 : MapR W4 b' Lc := by
        obtain ⟨em, cm, hbm, hsm, hem⟩ := hI.out.map
        exact ⟨em, cm, (h4o b' (by rintro rfl; rw [hbm] at hit; cases hit)).trans hbm, hsm, hem⟩
      have HM4 := Lib.hid hmap4
      have HSTEP : Hid (∀ w5 w6 v, Below W4.heap.size W4 w5 → w5.ownsRow W4.heap.size 5 1 v x.2.2.length (bv x.2.2) → w5.grownBy w6 (some b') → MapR w6 b' (putL Lc x.1 (v, x.2.2)) → CpI w w6 q b b' r clock es s L (seen.push e.born) (putL Lc x.1 (v, x.2.2))) := by
        intro w5 w6 v h5 h6 h7 h8
        exact hI.out.step hst he hee hek hns HR0.out HBB.out.1 hw1 hW4.symm h5 h6 hbx.1.symm h7 h8
      have HSH := Lib.hid (left_shrinks es seen e hel)
      obtain ⟨A, n, c, hval⟩ : ∃ A n c, x.2.1 = Value.slice A n c := by obtain ⟨A, c, e2, _⟩ := BAt.of_own hrow4; exact ⟨A, _, c, e2⟩
      rw [hval] at hnx hen HCL
      have hS0 : W4.drew.cell? ⟨q, 5, none⟩ = some (.map (some b')) := (blk_cells hc4).1.2.2.2.2.2
      clear hcl hrow4 hbx hle hmap4 hs1 hrlt h4r h4o hbne hqne hit hbr hW4 hw1 hek hev
      go_upto_region 8 with fail
      clear hnx hen
      refine wp_region_any (by kernel_rfl) ?_
      refine wpAny_of_held (S := fun w' => w'.cell? ⟨q, 5, none⟩ = some (.map (some b'))) _ _ _ _ ?_
      show wpAnyH _ _ _ _ _ 6 (Array.replicate 6 false) _ _
      refine held_step 0 28 (.pointer (some ⟨q, 5, none⟩)) rfl rfl rfl (by kernel_rfl) (fun _ _ _ h => h) hS0 (fun w1 hS => by go_simp) ?_
      simp only [Act.put, List.setIfInBounds_toArray, List.set_cons_succ, List.set_cons_zero]
      refine held_step 1 29 (.map (some b')) rfl rfl rfl (by kernel_rfl) (fun _ _ _ h => h) hS0 (fun w1 hS => by go_simp) ?_
      simp only [Act.put, List.setIfInBounds_toArray, List.set_cons_succ, List.set_cons_zero]
      refine held_step 2 30 (.string x.1) rfl rfl rfl (by kernel_rfl) (fun _ _ _ h => h) hS0 (fun w1 hS => by go_simp) ?_
      simp only [Act.put, List.setIfInBounds_toArray, List.set_cons_succ, List.set_cons_zero]
      refine held_step 3 31 (.slice A n c) rfl rfl rfl (by kernel_rfl) (fun _ _ _ h => h) hS0 (fun w1 hS => by go_simp) ?_
      simp only [Act.put, List.setIfInBounds_toArray, List.set_cons_succ, List.set_cons_zero]
      refine held_two 4 rfl rfl (by kernel_rfl) ?_
      go_wp2_with (go_at_call 55; (with_reducible refine HCL.out.mono ?_); rintro e5 w5 ⟨v5, rfl, ho5, hb5⟩; have HO5 := Lib.hid ho5; have HB5 := Lib.hid hb5; clear ho5 hb5)
      have HB5' : Hid (Below W4.heap.size W4 w5) := (Below.refl _ _).drew.trans HB5.out
      have h5S : w5.cell? ⟨q, 5, none⟩ = some (.map (some b')) := (blk_cells (block_kept hc4 HB5'.out)).1.2.2.2.2.2
      obtain ⟨w6, hr6, hm6, hg6, hs6⟩ := update_run (w := w5) (b := b') (L := Lc) (MapO.below (mb := some b') HM4.out HB5'.out) x.1 v5 x.2.2
      have HFIN := Lib.hid (HSTEP.out w5 w6 v5 HB5'.out HO5.out hg6 hm6)
      have h6S : w6.cell? ⟨q, 5, none⟩ = some (.map (some b')) := (blk_cells HFIN.out.cells).1.2.2.2.2.2
      clear hm6 hg6 hs6
      refine ⟨h5S, ?_⟩
      go_wp2
      refine ⟨h6S, ?_⟩
      simp only [Exit.inBlock, Exit.then]
      refine hKK _ _ ?_
      go_roundg ((leftOf es (seen.push e.born)).size)
      case measure => exact HSH.out
      case rel => exact ⟨_, _, rfl, trivial, HFIN.out⟩
end Go.Proofs.Ytffeinbbgfogoaa.Sr
