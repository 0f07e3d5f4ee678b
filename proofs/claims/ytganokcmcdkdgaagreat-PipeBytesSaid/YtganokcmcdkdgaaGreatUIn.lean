/-
  What comes in: in memory; the contracts of all its calls. Conditions: the next number at most 2^42.
-/
import Derived.Test.YtganokcmcdkdgaaGreatUPut
import Derived.Test.YtganokcmcdkdgaaGreatPZ5
namespace Go.Proofs.YtganokcmcdkdgaaGreat.Wi.S
open Go.RowKit Tb

abbrev Rw := Int × E
theorem asc_len {V : Type} : ∀ (l : List (Int × V)) (a : Int) (k : Nat), asc l → (∀ r ∈ l, a ≤ r.1 ∧ r.1 < a + k) → l.length ≤ k
  | [], _, _, _, _ => Nat.zero_le _
  | r :: t, a, k, h, hr => by
    have h' := List.pairwise_cons.1 h
    have h0 := hr r (by simp)
    have h1 := asc_len t (r.1 + 1) (a + k - (r.1 + 1)).toNat h'.2 (fun x hx => by
      have h2 := h'.1 x hx
      rw [ltI] at h2
      have h3 := of_decide_eq_true h2
      have h4 := hr x (by simp [hx])
      omega)
    rw [List.length_cons]
    omega
/-- What comes in. -/
structure InR (w : World) (b : Nat) (R : R4) (nx : Int) (sv : Value) (l : List Rw) : Prop where
  tab : Is.TabI 0 w b (R, nx) sv l
  asc : asc l
  rng : ∀ r ∈ l, nx ≤ r.1 ∧ r.1 < nx + 16
  nn : 0 ≤ nx ∧ nx ≤ 4398046511104
section
variable {w w' : World} {b : Nat} {R : R4} {nx : Int} {sv : Value} {l : List Rw}
theorem InR.few (h : InR w b R nx sv l) : l.length ≤ 16 := asc_len l nx 16 h.asc h.rng
theorem InR.lt (h : InR w b R nx sv l) : ∀ i, Own b sv i → i < w.heap.size := fun i hi => hi.elim (fun e => e ▸ h.tab.2.1.lt) (fun e => own_lt h.tab.2.2 i e)
theorem InR.keep {S : Nat → Prop} (h : InR w b R nx sv l) (hk : Kept S w w') (hs : ∀ i, Own b sv i → ¬ S i) : InR w' b R nx sv l :=
  ⟨h.tab.kept hk (hs b (.inl rfl)) (fun g hg => hs g (.inr hg)), h.asc, h.rng, h.nn⟩
theorem InR.below (h : InR w b R nx sv l) (hb : Below w.heap.size w w') : InR w' b R nx sv l := h.keep (Kept.of_below (S := fun _ => False) hb) (fun _ _ h => h)
theorem InR.two (h : InR w b R nx sv l) : TwI w b R sv (.int .i64 nx) := h.tab.2.1
set_option maxRecDepth 100000 in
theorem none_in (w : World) (b : Nat) : Calls Tryz.prog 95 #[.pointer (some ⟨b, 4, none⟩)] w fun e w' => e = .returned (.pointer (some ⟨b, 4, none⟩)) ∧ w = w' := by
  go_enter Tryz.func95, Tryz.ntmps95
  go_wp2
  go_ret
  exact ⟨rfl, rfl⟩
set_option maxRecDepth 100000 in
theorem next_any (h : InR w b R nx sv l) : Calls Tryz.prog 71 #[.pointer (some ⟨b, 4, none⟩)] w fun e w' => e = .returned (.int .i64 nx) ∧ w = w' := by
  have HN := Lib.hid (none_in w b)
  have c1 := h.two.c1
  clear h
  go_enter Tryz.func71, Tryz.ntmps71
  go_wp2_with (go_at_call 95; refine HN.out.mono ?_; rintro e w1 ⟨rfl, rfl⟩)
  go_ret
  exact ⟨rfl, rfl⟩
/-- The thing of the next number. -/
def rdy (nx : Int) (l : List Rw) : E := Is.getL l nx
theorem get_in (h : InR w b R nx sv l) (k : Int) : Calls Tryz.prog 97 #[.pointer (some ⟨b, 4, none⟩), .int .i64 k] w fun e w' => e = .returned (.tuple #[el (Is.getL l k), .bool (hasB l k)]) ∧ Below w.heap.size w w' :=
  Is.get_any w _ l k h.tab.read h.asc (by have := h.few; omega)
set_option maxRecDepth 100000 in
theorem ready_any (h : InR w b R nx sv l) : Calls Tryz.prog 93 #[.pointer (some ⟨b, 4, none⟩)] w fun e w' => e = .returned (.tuple #[el (rdy nx l), .bool (hasB l nx)]) ∧ Below w.heap.size w w' := by
  have HN := Lib.hid (none_in w.drew b)
  have h1 := h.below (w' := w.drew) (Below.refl _ _).drew
  have HX := Lib.hid (next_any h1)
  have HG := Lib.hid (get_in h1 nx)
  unfold rdy
  obtain ⟨z, hz⟩ : ∃ z, z = el (Is.getL l nx) := ⟨_, rfl⟩
  obtain ⟨q, hq⟩ : ∃ q, q = hasB l nx := ⟨_, rfl⟩
  rw [← hz, ← hq] at HG ⊢
  clear h h1 hz hq
  go_enter Tryz.func93, Tryz.ntmps93
  go_upto_region 1 with fail
  go_region_held3 (fun _ => True) (exact trivial)
    (first
      | (go_at_call 95; (with_reducible refine HN.out.mono ?_); rintro e w1 ⟨rfl, rfl⟩)
      | (go_at_call 71; (with_reducible refine HX.out.mono ?_); rintro e w1 ⟨rfl, rfl⟩)
      | (go_at_call 97; (with_reducible refine HG.out.mono ?_); rintro e w1 ⟨rfl, hb⟩; have HB : Hid (Below w.heap.size w w1) := ((Below.refl _ w).drew).trans hb; clear hb))
  all_goals
    go_wp2
    go_ret2
    exact ⟨rfl, HB.out⟩
/-! ### Start -/
/-! ### Offer -/
def offE (nx : Int) (l : List Rw) (n : Int) : Int := if n < nx then 8 else if 16 ≤ n - nx then 7 else if hasB l n = true then 6 else 0
def offL (nx : Int) (l : List Rw) (n : Int) (x : E) : List Rw := if offE nx l n = 0 then putL l n x else l
theorem putL_mem (l : List Rw) (k : Int) (x : E) : ∀ r ∈ putL l k x, r = (k, x) ∨ r ∈ l := fun r hr => by
  unfold putL at hr
  rcases List.mem_append.1 hr with h | h
  · exact .inr (List.mem_of_mem_take h)
  · rcases List.mem_cons.1 h with h | h
    · exact .inl h
    · exact .inr (List.mem_of_mem_drop h)
theorem dropL_mem (l : List Rw) (k : Int) (h : asc l) : ∀ r ∈ dropL l k, r ∈ l ∧ (r.1 ≠ k) := fun r hr => by
  unfold dropL at hr
  split at hr
  · next hh =>
    rcases List.mem_append.1 hr with h1 | h1
    · refine ⟨List.mem_of_mem_take h1, fun e => ?_⟩
      have := take_pl l k r h1
      rw [e, Ky.irr] at this; cases this
    · refine ⟨List.mem_of_mem_drop h1, fun e => ?_⟩
      have := drop_has l k h r (by rw [if_pos hh]; exact h1)
      rw [e, Ky.irr] at this; cases this
  · next hh =>
    refine ⟨hr, fun e => hh ?_⟩
    have h1 := look_mem l h r hr
    rw [e] at h1
    cases hb : hasB l k
    · exfalso
      have h2 : Tb.look (l.take (pl l k) ++ l.drop (pl l k)) k = none := by
        rw [look_append, look_none _ _ (fun x hx e2 => by have := take_pl l k x hx; rw [e2, Ky.irr] at this; cases this)]
        refine look_none _ _ (fun x hx e2 => ?_)
        have := drop_has l k h x (by rw [hb]; simpa using hx)
        rw [e2, Ky.irr] at this; cases this
      rw [List.take_append_drop, h1] at h2
      cases h2
    · rfl
set_option maxRecDepth 100000 in
theorem offer_any (h : InR w b R nx sv l) (n : Int) (hn : n ≤ 9223372036854775807) (x : E) : Calls Tryz.prog 92 #[.pointer (some ⟨b, 4, none⟩), .int .i64 n, Value.string x] w fun e w' => e = .returned (.int .i64 (offE nx l n)) ∧ ∃ sv', InR w' b R nx sv' (offL nx l n x) ∧ Kept (Own b sv) w w' ∧ Nw w sv sv' := by
  have c1 := h.two.c1
  have H := Lib.hid h
  obtain ⟨hx0, hx1⟩ := h.nn
  by_cases h1 : n < nx
  · have e1 : offE nx l n = 8 := by unfold offE; rw [if_pos h1]
    have e2 : offL nx l n x = l := by unfold offL; rw [e1]; rfl
    rw [e1, e2]
    clear h e1 e2
    go_enter Tryz.func92, Tryz.ntmps92
    go_wp2
    go_ret
    exact ⟨rfl, _, H.out, Kept.refl _ _, Nw.refl _ _⟩
  have w1 : IntKind.i64.wrap (n - nx) = n - nx := by rw [IntKind.wrap_i64]; omega
  by_cases h2 : 16 ≤ n - nx
  · have e1 : offE nx l n = 7 := by unfold offE; rw [if_neg h1, if_pos h2]
    have e2 : offL nx l n x = l := by unfold offL; rw [e1]; rfl
    rw [e1, e2]
    clear h e1 e2
    go_enter Tryz.func92, Tryz.ntmps92
    go_wp2
    go_ret
    exact ⟨rfl, _, H.out, Kept.refl _ _, Nw.refl _ _⟩
  have hg := get_in h n
  obtain ⟨z, hz⟩ : ∃ z, z = el (Is.getL l n) := ⟨_, rfl⟩
  rw [← hz] at hg
  cases hh : hasB l n
  · have e1 : offE nx l n = 0 := by unfold offE; rw [if_neg h1, if_neg h2, if_neg (by rw [hh]; decide)]
    have e2 : offL nx l n x = putL l n x := by unfold offL; rw [e1]; rfl
    rw [hh] at hg
    rw [e1, e2]
    have HG := Lib.hid hg
    have HP := Lib.hid (fun w1 (hb : Below w.heap.size w w1) => Is.put_in 0 w1 b (R, nx) sv l n x (h.tab.below hb) h.asc (by have := h.few; omega) (Nat.zero_le _))
    have HF : Hid (∀ w1 w2, Below w.heap.size w w1 → Is.ChangedI 0 w1 b (R, nx) sv (putL l n x) w2 → ∃ sv', InR w2 b R nx sv' (putL l n x) ∧ Kept (Own b sv) w w2 ∧ Nw w sv sv') := fun w1 w2 hb hc => by
      obtain ⟨sv', h3, h4, h5⟩ := hc
      refine ⟨sv', ⟨h3, asc_putL _ _ _ H.out.asc, fun r hr => ?_, H.out.nn⟩, (Kept.of_below hb).trans h4, fun i hi => ?_⟩
      · rcases putL_mem l n x r hr with h6 | h6
        · rw [h6]; show nx ≤ n ∧ n < nx + 16; omega
        · exact H.out.rng r h6
      · rcases h5 with h5 | ⟨g, h5, h6⟩
        · exact .inl (by rw [← h5]; exact hi)
        · rw [h5] at hi; cases hi; exact .inr (Nat.le_trans hb.size h6)
    clear h e1 e2 hg hh hz H
    go_enter Tryz.func92, Tryz.ntmps92
    go_wp2_with (first
      | (go_at_call 97; refine HG.out.mono ?_; rintro e w2 ⟨rfl, hb⟩; have HB := Lib.hid hb; clear hb)
      | (go_at_call 98; refine (HP.out _ HB.out).mono ?_; rintro e w3 ⟨rfl, hc⟩; have HC := Lib.hid hc; clear hc))
    go_ret
    exact ⟨rfl, HF.out _ _ HB.out HC.out⟩
  · have e1 : offE nx l n = 6 := by unfold offE; rw [if_neg h1, if_neg h2, if_pos hh]
    have e2 : offL nx l n x = l := by unfold offL; rw [e1]; rfl
    rw [hh] at hg
    rw [e1, e2]
    have HG := Lib.hid hg
    clear h e1 e2 hg hh hz
    go_enter Tryz.func92, Tryz.ntmps92
    go_wp2_with (go_at_call 97; refine HG.out.mono ?_; rintro e w2 ⟨rfl, hb⟩; have HB := Lib.hid hb; clear hb)
    go_ret
    exact ⟨rfl, _, H.out.below HB.out, Kept.of_below HB.out, Nw.refl _ _⟩
/-! ### Pop -/
set_option maxRecDepth 100000 in
theorem pop_no (h : InR w b R nx sv l) (hh : hasB l nx = false) : Calls Tryz.prog 69 #[.pointer (some ⟨b, 4, none⟩)] w fun e w' => e = .returned (.tuple #[.string ByteArray.empty, .bool false]) ∧ Below w.heap.size w w' := by
  have hr := ready_any h
  have hz : rdy nx l = ByteArray.empty := Is.getL_not l nx hh
  rw [hh, hz] at hr
  have HR := Lib.hid hr
  clear h hh hr hz
  go_enter Tryz.func69, Tryz.ntmps69
  go_wp2_with (go_at_call 93; refine HR.out.mono ?_; rintro e w1 ⟨rfl, hb⟩)
  go_ret2
  exact ⟨rfl, hb⟩
set_option maxRecDepth 100000 in
theorem pop_yes (h : InR w b R nx sv l) (hh : hasB l nx = true) (hle : nx < 4398046511104) : Calls Tryz.prog 69 #[.pointer (some ⟨b, 4, none⟩)] w fun e w' => e = .returned (.tuple #[el (rdy nx l), .bool true]) ∧ ∃ sv', InR w' b R (nx + 1) sv' (dropL l nx) ∧ Kept (Own b sv) w w' ∧ Nw w sv sv' := by
  have hr := ready_any h
  have c1 := h.two.c1
  have hnn := h.nn
  rw [hh] at hr
  obtain ⟨z, hz⟩ : ∃ z, z = el (rdy nx l) := ⟨_, rfl⟩
  rw [← hz] at hr ⊢
  have HR := Lib.hid hr
  have HD := Lib.hid (fun w1 (hb : Below w.heap.size w w1) => Is.drop_in 0 w1 b (R, nx) sv l nx (h.tab.below hb) h.asc (by have := h.few; omega))
  have H := Lib.hid h
  have HT := Lib.hid (fun w1 (hb : Below w.heap.size w w1) => (h.two.below hb).c1)
  have HF : Hid (∀ w1 w2, Below w.heap.size w w1 → Is.ChangedI 0 w1 b (R, nx) sv (dropL l nx) w2 → (w2.cell? ⟨b, 5, none⟩ = some (.int .i64 nx) ∧ w2.frozen? ⟨b, 5, none⟩ = false) ∧ ∃ sv', InR (w2.setCell ⟨b, 5, none⟩ (.int .i64 (nx + 1))) b R (nx + 1) sv' (dropL l nx) ∧ Kept (Own b sv) w (w2.setCell ⟨b, 5, none⟩ (.int .i64 (nx + 1))) ∧ Nw w sv sv') := fun w1 w2 hb hc => by
    obtain ⟨sv', h3, h4, h5⟩ := hc
    have h6 : TwI w2 b R sv' (.int .i64 nx) := h3.2.1
    refine ⟨⟨h6.c1, h6.f1⟩, sv', ⟨⟨trivial, h6.set1 _, own_keep h3.2.2 (Kept.of_set w2 ⟨b, 5, none⟩ _) (fun i hi e => h3.2.1.not_row (by decide) h3.2.2 (by rw [hi, show i = b from e]))⟩, asc_dropL _ _ H.out.asc, fun r hr => ?_, by omega⟩, ((Kept.of_below hb).trans h4).trans' (Kept.of_set w2 ⟨b, 5, none⟩ _) (fun i _ e => .inl e), fun i hi => ?_⟩
    · have h7 := dropL_mem l nx H.out.asc r hr
      have h8 := H.out.rng r h7.1
      have h9 := h7.2
      omega
    · rcases h5 with h5 | ⟨g, h5, h6⟩
      · exact .inl (by rw [← h5]; exact hi)
      · rw [h5] at hi; cases hi; exact .inr (Nat.le_trans hb.size h6)
  have t1 : IntKind.i64.wrap (nx + 1) = nx + 1 := by rw [IntKind.wrap_i64]; omega
  clear h hh hr hz H hnn
  go_enter Tryz.func69, Tryz.ntmps69
  go_wp2_with (go_at_call 93; refine HR.out.mono ?_; rintro e w1 ⟨rfl, hb⟩; have HB : Hid (Below w.heap.size w w1) := hb; have HB2 : Hid (Below w.heap.size w w1.drew) := hb.drew; have d1 := HT.out _ hb; have HDD := Lib.hid (HD.out _ HB2.out); clear hb)
  go_region_held3 (fun w' => w'.cell? ⟨b, 5, none⟩ = some (.int .i64 nx)) (first | exact d1 | exact k1)
    (first
      | (go_at_call 94; (with_reducible refine HDD.out.mono ?_); rintro e w2 ⟨rfl, hc⟩; have HC := Lib.hid (HF.out _ _ HB2.out hc); clear hc; obtain ⟨k1, k2⟩ := HC.out.1))
  all_goals
    go_wp2
    go_ret2
    exact ⟨rfl, HC.out.2⟩
end
end Go.Proofs.YtganokcmcdkdgaaGreat.Wi.S
