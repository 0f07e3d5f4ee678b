/-
  PROVED: TradeTotals answers true for every list of trades, and leaves its argument as it was. Conditions: the two tables of unicode/utf8 hold what the program's text lays (tied by the card); none beyond the parameter's own type.
-/
import Derived.Test.YtkoihpfgleboiaaDoorYLTot
import Derived.Test.YtkoihpfgleboiaaDoorYOpen
import Derived.Test.YtkoihpfgleboiaaDoorCards
import Derived.Test.YtkoihpfgleboiaaDoorTie
import Derived.SevenTiedAt
import Derived.Deep.Slices
namespace Go.Proofs.YtkoihpfgleboiaaDoor.Td
open Go.ChangeShapes Go.WideShapes Go.ChangeAt Go.RowKit Go.Joins Go.Deep

theorem tr_cellsOf : Tryd.prog.cellsOf 30 = 6 := by kernel_rfl
theorem add_two (a : Addr) (i j : Nat) : (a.add i).add j = a.add (i + j) := by
  cases i <;> cases j <;> simp [Addr.add]
  omega
theorem trs_of {w : World} {x : Addr} {l cap : Nat} (hl : l ≤ cap) (hc : ∀ i, i < cap → ∃ t : Tr, (I64 t.q ∧ I64 t.p) ∧ w.cell? (x.add (i * 6)) = some (.int .i64 t.n) ∧ w.cell? (x.add (i * 6 + 1)) = some (.string t.b) ∧ w.cell? (x.add (i * 6 + 2)) = some (.string t.s) ∧ w.cell? (x.add (i * 6 + 3)) = some (.string t.i) ∧ w.cell? (x.add (i * 6 + 4)) = some (.int .i64 t.q) ∧ w.cell? (x.add (i * 6 + 5)) = some (.int .i64 t.p)) :
    ∃ ts : List Tr, ts.length = l ∧ TrsR w (some x) ts ∧ ∀ t ∈ ts, I64 t.q ∧ I64 t.p := by
  rcases Nat.eq_zero_or_pos l with h0 | hp
  · exact ⟨[], by rw [h0]; rfl, .inl rfl, fun t ht => by cases ht⟩
  obtain ⟨b, off, spot⟩ := x
  obtain ⟨r0, _, h0, _⟩ := hc 0 (by omega)
  have hspot : spot = none := by simpa [Addr.add] using World.cell?_spot h0
  subst hspot
  have ea : ∀ j, (Addr.mk b off none).add j = ⟨b, off + j, none⟩ := fun j => by cases j <;> simp [Addr.add]
  have hf : ∀ i : Nat, ∃ t : Tr, i < cap → (I64 t.q ∧ I64 t.p) ∧ w.cell? ((Addr.mk b off none).add (i * 6)) = some (.int .i64 t.n) ∧ w.cell? ((Addr.mk b off none).add (i * 6 + 1)) = some (.string t.b) ∧ w.cell? ((Addr.mk b off none).add (i * 6 + 2)) = some (.string t.s) ∧ w.cell? ((Addr.mk b off none).add (i * 6 + 3)) = some (.string t.i) ∧ w.cell? ((Addr.mk b off none).add (i * 6 + 4)) = some (.int .i64 t.q) ∧ w.cell? ((Addr.mk b off none).add (i * 6 + 5)) = some (.int .i64 t.p) := fun i => by
    by_cases hi : i < cap
    · obtain ⟨r, hr⟩ := hc i hi
      exact ⟨r, fun _ => hr⟩
    · exact ⟨⟨0, .empty, .empty, .empty, 0, 0⟩, fun h => absurd h hi⟩
  obtain ⟨f, hf⟩ := Classical.axiomOfChoice hf
  refine ⟨(List.range l).map f, by simp, .inr ⟨b, off, rfl, ?_, fun i r hr => ?_⟩, fun t ht => ?_⟩
  · have := World.block_lt_of_cell? _ _ h0
    simpa [Addr.add] using this
  · have hi : i < l := by
      have := (List.getElem?_eq_some_iff.1 hr).1
      simpa using this
    rw [List.getElem?_map, List.getElem?_range hi] at hr
    simp only [Option.map_some, Option.some.injEq] at hr
    subst hr
    have := (hf i (by omega)).2
    rw [ea, ea, ea, ea, ea, ea] at this
    exact this
  · obtain ⟨i, hi, rfl⟩ := List.mem_map.1 ht
    exact (hf i (by have := List.mem_range.1 hi; omega)).1

set_option maxRecDepth 100000 in
/-- Trades that came in. -/
theorem open_trs {H : Type} {enc : TypeId × Value → H} {w : World} {base b0 : Nat} {r : Reach} {v : Value} {d : DataW H} {p : List MemPlace}
    (hv : Value.okWide Tryd.prog w r b0 22 v) (h : DataW.Trod enc Tryd.prog w base (fun _ => true) true 22 v d p) : ∃ a ts cap, v = .slice a ts.length cap ∧ TrsR w a ts ∧ ∀ t ∈ ts, I64 t.q ∧ I64 t.p := by
  obtain ⟨A, len, cap, rfl⟩ := okWide_slice Tryd.underlying22 hv
  obtain ⟨fuel, hf⟩ := h
  rcases open_slice Tryd.underlying22 hf with h0 | ⟨a, len', cap', m, n, D, Pl, e, hb, hl, hm, hmm, _, hx⟩
  · obtain ⟨e, _⟩ := h0
    simp [Value.cells] at e
    obtain ⟨rfl, rfl, rfl⟩ := e
    exact ⟨none, [], 0, rfl, .inl rfl, fun t ht => by cases ht⟩
  · simp [Value.cells] at e
    obtain ⟨rfl, rfl, rfl⟩ := e
    rw [if_pos rfl] at hmm
    obtain ⟨ts, hlen, hts, hq⟩ := trs_of (w := w) (x := a) (l := len) (cap := cap) hl (fun i hi => by
      obtain ⟨cs', h1, h2⟩ := hx i (by omega)
      rw [tr_cellsOf] at h1
      obtain ⟨_, hcl, hcell⟩ := World.cells?_some h1
      obtain ⟨t, rfl, _, iq, ip⟩ := trod_tr Tryd.underlying30 rfl rfl rfl rfl rfl rfl rfl rfl rfl rfl rfl rfl h2
      have e0 := hcell 0 (by simp)
      have e1 := hcell 1 (by simp)
      have e2 := hcell 2 (by simp)
      have e3 := hcell 3 (by simp)
      have e4 := hcell 4 (by simp)
      have e5 := hcell 5 (by simp)
      rw [add_two] at e0 e1 e2 e3 e4 e5
      exact ⟨t, ⟨iq, ip⟩, by simpa using e0, by simpa using e1, by simpa using e2, by simpa using e3, by simpa using e4, by simpa using e5⟩)
    exact ⟨some a, ts, cap, by rw [hlen], hts, hq⟩
theorem TrsR.take {w : World} {A : Option Addr} {ts : List Tr} (h : TrsR w A ts) (n : Nat) : TrsR w A (ts.take n) :=
  h.elim (fun h => .inl (by rw [h]; simp)) fun ⟨g, o, e, hg, hc⟩ => .inr ⟨g, o, e, hg, fun i t hi => hc i t (by
    rw [List.getElem?_take] at hi
    split at hi
    · exact hi
    · cases hi)⟩
end Go.Proofs.YtkoihpfgleboiaaDoor.Td
namespace Go.Proofs.YtkoihpfgleboiaaDoor
open Go.ChangeShapes Go.WideShapes Go.ChangeAt Go.RowKit Go.Joins Go.Deep

theorem tot_own : ownKnob Tryd.prog.godebug = none := by kernel_rfl
theorem tot_laidOut : laidOutB Tryd.prog = true := by kernel_rfl

set_option maxRecDepth 100000 in
theorem tot_lifted (os : Os) (started : os.Started) (H : Type) (enc : TypeId × Value → H) :
    ReturnsInHanded {} Tryd.checked os 3 .any (fun w args => (Rows.tradeTotalsSpec.pre enc Tryd.prog Tryd.f3 [] false w args ∧ laidMetH Tryd.prog Rows.tradeTotalsRow.laid w) ∧ sizedMet enc Tryd.prog Tryd.f3 (OpenSpec.ofChange Rows.tradeTotalsSpec) false w args)
      (Rows.tradeTotalsSpec.post enc Tryd.prog Tryd.f3 false true false false) := by
  refine Td.row_shaped (C := Tryd.checked) (X := fun w _ => laidMetH Tryd.prog Rows.tradeTotalsRow.laid w) (fun _ _ _ hh h => h.of_heap hh) tot_own started (by kernel_rfl) Tryd.func3
    (ChangeSpec.witness_shaped (enc := enc) (C := Tryd.checked) (os := os) (X := fun w _ => laidMetH Tryd.prog Rows.tradeTotalsRow.laid w) false (World.laidAll Tryd.prog os Rows.tradeTotalsRow.laid) #[.slice none 0 0] 8 (World.laidAll_os _ _ _)
      (World.shaped_of_ZipB (by kernel_rfl) (by kernel_rfl)) (by kernel_rfl) (by kernel_rfl) (by kernel_rfl)
      (by rw [MakeChecks.laidMetH_plain _ _ _ (by kernel_rfl)]; exact laidMet_laidAll _ (by kernel_rfl) (by kernel_rfl))) ?_
  intro W base args ds gs before hval0 hW hsh
  obtain ⟨m, hm⟩ := Td.max_len W hsh
  have hval : ∀ (j : Nat) t v, Tryd.f3.params[j]? = some t → args[j]? = some v → Value.okWide Tryd.prog W .any base t v := hval0
  have hW' := hW
  obtain ⟨p, q, hA0, hV, rfl, hfz, hnd⟩ := hW
  have hA : DataW.TrodAll enc Tryd.prog W 0 (fun _ => true) true Tryd.f3.params.toList args.toList ds p := hA0
  rw [Tryd.params3] at hA hval
  obtain ⟨v0, d0, rfl, rfl, h0⟩ := trodAll_one hA
  obtain ⟨rfl, rfl⟩ := trodVars_none hV
  have k0 := h0
  have lt0 : ∀ x ∈ p, x.block < W.heap.size := by obtain ⟨m, hm⟩ := k0; exact DataW.trod_lt m _ _ _ hm
  obtain ⟨A, ts, cap, rfl, hts, hq⟩ := Td.open_trs (hval 0 22 v0 rfl rfl) h0
  clear hA0 hval0
  refine (Td.law_totals W m hm A ts.length cap (ts.take 30) (hts.take 30) (by rw [List.length_take]; omega) (fun t ht => hq t (List.mem_of_mem_take ht))).mono fun e W' ⟨he, bel⟩ => ?_
  subst he
  exact ⟨_, rfl, _, _, _, [], _, [], hW', trodAll_mk1 (shut_bool Tryd.underlying4 _), (trodAll_cons_mk (Below.trod tot_laidOut (by kernel_rfl) (of_decide_eq_true (by kernel_rfl)) k0 bel lt0) trodAll_mk0), rfl, bel.frame _, fun h => by cases h⟩

theorem tradeTotals_row : Rows.TradeTotalsSaid :=
  OpenClaim.holds_of_wide 3 Tryd.f3 rfl rfl rfl rfl rfl rfl rfl ⟨rfl, rfl, rfl, rfl, rfl⟩ rfl rfl rfl rfl rfl (by kernel_rfl) Tryd.func3 (by kernel_rfl)
    (of_decide_eq_true (by kernel_rfl)) (by unfold Func.isWrapper; first | (rw [if_pos (by decide +kernel)]; kernel_rfl) | (rw [if_neg (by decide +kernel)]; exact ⟨rfl, rfl⟩))
    (fun os started H enc _ => tot_lifted os started H enc)

/-- The given statement: the tied card. -/
theorem tradeTotals_holds : Rows.TradeTotalsCardSaid :=
  Claim7.holds_tied_plain_at .later [] [.data, .pinned] true Rows.tradeTotalsCard.stood.harness false
    tradeTotals_row (fun _ h => by cases h) (by kernel_rfl) (fun _ h => by cases h) tradeTotals_row_tie rfl ⟨rfl, rfl⟩ (by kernel_rfl) rfl
    (fun f fn hf hfn => by
      obtain rfl : f = 3 := Option.some.inj ((show Tryd.prog.funcNamed Rows.tradeTotalsRow.func = some 3 by kernel_rfl).symm.trans hf) |>.symm
      obtain rfl : fn = Tryd.f3 := (Option.some.inj (Tryd.func3.symm.trans hfn)).symm
      exact ⟨by kernel_rfl, fun j t ht => by
        rw [Tryd.params3] at ht
        have hm : t ∈ [22] := by simpa using Array.mem_of_getElem? ht
        have hall : ([22].all fun u => !Tryd.prog.wantsStandIn u) = true := by kernel_rfl
        exact (show Tryd.prog.wantsStandIn t = false by simpa using List.all_eq_true.1 hall t hm)⟩)
    (by kernel_rfl)
#print axioms tradeTotals_holds
end Go.Proofs.YtkoihpfgleboiaaDoor
