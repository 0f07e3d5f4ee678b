/-
  The reference's set and gone. Conditions: at most a thousand files.
-/
import Derived.Test.YtffeinbbgfogoaaSRf
import Derived.Deep.RegionHeld3
import Derived.Lib.AppendZeros
namespace Go.Proofs.Ytffeinbbgfogoaa.Sr
open Go.RowKit Fr

theorem infoF : (Try.prog.info? 91).map (fun i => (i.zero, i.size, i.bytes)) = some (some (.agg #[.string ⟨#[]⟩, .slice none 0 0]), 2, 40) := by kernel_rfl
theorem fapp_nil (W : World) (ty : TypeId) (g n c : Nat) (hn : n ≤ c) : (Builtin.append_ #[29, 29] ty #[.slice (some ⟨g, 0, none⟩) n c, .slice none 0 0]).run Try.prog W = .ok (.slice (some ⟨g, 0, none⟩) n c) W := by
  obtain ⟨i, hi, _, hs, _⟩ := info_parts infoF
  simp [Builtin.append_, run_underlying Try.underlying29, sizeOf, typeInfo, hi, Builtin.lenOf, Builtin.firstCells, hn, storeCells]
theorem fslice_some (g n cap a : Nat) (h : a ≤ n) (hc : n ≤ cap) : ∃ o, (a < n → o = a * 2) ∧ ∀ W : World, (Instr.slice 29 (.slice (some ⟨g, 0, none⟩) n cap) (some (.int .i64 (a : Int))) none none).run Try.prog W = .ok (.slice (some ⟨g, o, none⟩) (n - a) (cap - a)) W := by
  have h2 : (a : Int) ≤ (n : Int) := by omega
  have h3 : (n : Int) ≤ (cap : Int) := by omega
  by_cases hcc : cap = a
  · subst hcc
    refine ⟨0, fun h => by omega, fun W => ?_⟩
    simp [Instr.slice, Instr.sliceBounds, Instr.sliceBound, asIntOf, run_underlying Try.underlying29, h, hc]
  · refine ⟨a * 2, fun _ => rfl, fun W => ?_⟩
    simp [Instr.slice, Instr.sliceBounds, Instr.sliceBound, asIntOf, run_underlying Try.underlying29, h, hcc]
    unfold Addr.add
    split <;> simp_all
theorem set_kept {w w1 w2 w3 : World} {n : Nat} {v : Value} {xs : List Value} {o1 o2 : Obj} {e : TypeId} {row : Nat} (h1 : Below w.heap.size w w1) (h2 : (w1.alloc o1).grownBy w2 (some row)) (hr : w1.heap.size ≤ row) (ho : w2.ownsRow w1.heap.size e 2 v n xs) (h3 : (w2.alloc o2).grownBy w3 v.ownBlock) : Below w.heap.size w w3 := by
  have z1 := h1.size
  have z2 := h2.size
  simp at z2
  exact (((h1.alloc z1 _).grown h2 (by simp; omega) (fun k e => by cases e; omega)).alloc (by omega) _).grown h3 (by simp; omega) (fun k e => by have := (ho.lt k e).1; omega)
theorem own_cap {base : Nat} {w : World} {e : TypeId} {size n g cap : Nat} {xs : List Value} (h : w.ownsRow base e size (.slice (some ⟨g, 0, none⟩) n cap) n xs) : n ≤ cap := by
  rcases h.2 with ⟨h, _⟩ | ⟨g', cap', cur, h', _, _, h1, h2, _⟩
  · simp at h
  · simp only [Value.slice.injEq] at h'
    obtain ⟨_, _, rfl⟩ := h'
    exact h1
/-- Behind a change of the reference's files. -/
def Rs (w w' : World) (q : Nat) (x x' : RS) (v : Value) : Prop := RfR w' q x' ∧ Off (fun i => i = q) w w' ∧ ∀ i, ro q x' i → ro q x i ∨ w.heap.size ≤ i ∨ vb v i
theorem row_fin {w w1 w4 : World} {q g4 cp4 n : Nat} {x : RS} {D2 : List Fi} {u : Value} (h : RfR w q x) (hK : Below w.heap.size w w4) (z1 : w.heap.size ≤ w1.heap.size)
    (ho : w4.ownsRow w1.heap.size 91 2 (.slice (some ⟨g4, 0, none⟩) n cp4) n (fc D2)) (hn : n = D2.length) (hb : ∀ y ∈ D2, BAt w y.2.1 y.2.2 ∧ ¬ vb y.2.1 q) (hs : SrtL D2) (hf : D2.length ≤ 1000) (hm : ∀ y ∈ D2, y ∈ x.D ∨ y.2.1 = u) :
    Rs w (w4.setCell ⟨q, 0, none⟩ (.slice (some ⟨g4, 0, none⟩) n cp4)) q x { x with sv := .slice (some ⟨g4, 0, none⟩) n cp4, D := D2 } u := by
  subst hn
  have hq : q < w.heap.size := h.lt (.inl rfl)
  have hg4 : w1.heap.size ≤ g4 := (ho.lt g4 rfl).1
  have hg4' : g4 < w4.heap.size := (ho.lt g4 rfl).2
  have h4 : Off (fun i => i = q) w4 (w4.setCell ⟨q, 0, none⟩ (.slice (some ⟨g4, 0, none⟩) D2.length cp4)) := Off.of_grown (grownBy_set _ _ _) fun i e => (Option.some.inj e).symm
  have hoff : Off (fun i => i = q) w (w4.setCell ⟨q, 0, none⟩ (.slice (some ⟨g4, 0, none⟩) D2.length cp4)) := (Off.of_below (fun i => i = q) hK).trans h4 fun _ e => .inl e
  refine ⟨⟨?_, ?_, fun y hy => bat_kept (hb y hy).1 hoff fun i hi e => (hb y hy).2 (by rw [← e]; exact hi), fun y hy => (hb y hy).2, hs, hf⟩, hoff, fun i hi => ?_⟩
  · have := blk_set (h.below hK).blk 0 (.slice (some ⟨g4, 0, none⟩) D2.length cp4) (by simp)
    exact this
  · refine frow_kept (Go.Joins.ownsRow_le ho (Nat.zero_le _)) fun i hi => ?_
    cases hi
    exact h4.2 g4 hg4' (by omega)
  · rcases hi with rfl | hi | ⟨y, hy, hi⟩
    · exact .inl (.inl rfl)
    · cases hi; exact .inr (.inl (Nat.le_trans z1 hg4))
    · rcases hm y hy with h5 | h5
      · exact .inl (.inr (.inr ⟨y, h5, hi⟩))
      · exact .inr (.inr (by rw [← h5]; exact hi))
theorem fc_one2 {D : List Fi} (h : ∀ y ∈ D, y.2.1.oneCell' = true) : ∀ u ∈ fc D, u.oneCell' = true := fun u hu => by
  unfold fc at hu
  obtain ⟨y, hy, hu⟩ := List.mem_flatMap.1 hu
  simp only [List.mem_cons, List.not_mem_nil, or_false] at hu
  rcases hu with rfl | rfl
  · rfl
  · exact h y hy
set_option maxRecDepth 100000 in
set_option maxHeartbeats 4000000 in
theorem set_some {w : World} {q g cap : Nat} {D : List Fi} {rm lf : Int} {dn : Bool} (k : ByteArray) (A : Option Addr) (n c : Nat) (bs : List Int) (h : RfR w q ⟨.slice (some ⟨g, 0, none⟩) D.length cap, D, rm, lf, dn⟩) (hv : BAt w (.slice A n c) bs) (hvq : ¬ vb (.slice A n c) q) (hn : D.length + 1 ≤ 1000) :
    Calls Try.prog 53 #[.pointer (some ⟨q, 0, none⟩), .string k, .slice A n c] w fun e w' => e = .returned (.tuple #[]) ∧ ∃ sv', Rs w w' q ⟨.slice (some ⟨g, 0, none⟩) D.length cap, D, rm, lf, dn⟩ ⟨sv', insS D k (.slice A n c, bs), rm, lf, dn⟩ (.slice A n c) := by
  obtain ⟨i0, hi0, hz0, hz1, hz2⟩ := info_parts infoF
  have hcap : D.length ≤ cap := own_cap h.row
  have HF := Lib.hid (rplace_any k h)
  have HT := Lib.hid h
  have hlt := h.lt (.inl rfl)
  have hglt := (h.row.lt g rfl).2
  have hp := pl_le D k
  have hpd : plS D k + (if hasL D k = true then 1 else 0) ≤ D.length := by
    cases hh : hasL D k
    · simpa using hp
    · obtain ⟨y, hy, _⟩ := val_at h.srt hh
      have h9 : plS D k < D.length := (List.getElem?_eq_some_iff.1 hy).1
      rw [if_pos rfl]; exact h9
  obtain ⟨p, hpp⟩ : ∃ p, p = plS D k := ⟨_, rfl⟩
  obtain ⟨d, hd⟩ : ∃ d, d = p + (if hasL D k = true then 1 else 0) := ⟨_, rfl⟩
  have HP : Hid (insS D k (.slice A n c, bs) = D.take p ++ (k, .slice A n c, bs) :: D.drop d) := by show _ = _; rw [hd, hpp]; exact ins_eq k _ h.srt
  have HF2 : Hid (Calls Try.prog 79 #[.pointer (some ⟨q, 0, none⟩), .string k] w fun e w' => e = .returned (.tuple #[.int .i64 (p : Nat), .bool (hasL D k)]) ∧ Below w.heap.size w w') := by rw [hpp]; exact HF.out
  clear HF
  rw [← hpp] at hp hpd
  rw [← hd] at hpd
  obtain ⟨o, ho, hsl⟩ := fslice_some g D.length cap d hpd hcap
  have HTK : Hid ((fc (D.take p)).length = p * 2) := by show _ = _; rw [fc_len, List.length_take]; omega
  have HDK : Hid ((fc (D.drop d)).length = (D.length - d) * 2) := by show _ = _; rw [fc_len, List.length_drop]
  have HO1 : Hid (∀ u ∈ fc (D.take p), u.oneCell' = true) := fc_one2 fun y hy => bat_slice (h.bts y (List.mem_of_mem_take hy))
  have HO2 : Hid (∀ u ∈ fc (D.drop d), u.oneCell' = true) := fc_one2 fun y hy => bat_slice (h.bts y (List.mem_of_mem_drop hy))
  have HC1 : Hid (∀ W : World, Below w.heap.size w W → ∀ j u, (fc (D.take p))[j]? = some u → W.cell? ⟨g, j, none⟩ = some u) := fun W hW j u hj => by
    have hjl := (List.getElem?_eq_some_iff.1 hj).1
    rw [HTK.out] at hjl
    refine (((h.below hW).row).cellAt j (by show j < D.length * 2; omega)).trans ?_
    have : fc D = fc (D.take p) ++ fc (D.drop p) := by rw [← fc_append, List.take_append_drop]
    show (fc D)[j]? = _
    rw [this, List.getElem?_append_left (by rw [HTK.out]; exact hjl)]
    exact hj
  have HC2 : Hid (∀ W : World, W.heap[g]? = w.heap[g]? → ∀ j u, (fc (D.drop d))[j]? = some u → W.cell? ⟨g, o + j, none⟩ = some u) := fun W hW j u hj => by
    have hjl := (List.getElem?_eq_some_iff.1 hj).1
    rw [HDK.out] at hjl
    rw [ho (by omega)]
    refine (World.cell?_of_block (w := w) (a := ⟨g, d * 2 + j, none⟩) hW).trans ((h.row.cellAt (d * 2 + j) (by show d * 2 + j < D.length * 2; omega)).trans ?_)
    have : fc D = fc (D.take d) ++ fc (D.drop d) := by rw [← fc_append, List.take_append_drop]
    show (fc D)[d * 2 + j]? = _
    rw [this, List.getElem?_append_right (by rw [fc_len, List.length_take]; omega), fc_len, List.length_take, show d * 2 + j - min d D.length * 2 = j by omega]
    exact hj
  obtain ⟨hs, hhs⟩ : ∃ hs, hs = hasL D k := ⟨_, rfl⟩
  rw [← hhs] at HF2 hd
  have HV := Lib.hid hv
  have HVQ := Lib.hid hvq
  have FIN : Hid (∀ (w1 w4 : World) (g4 cp4 : Nat), Below w.heap.size w w4 → w.heap.size ≤ w1.heap.size → w4.ownsRow w1.heap.size 91 2 (.slice (some ⟨g4, 0, none⟩) (p + 1 + (D.length - d)) cp4) (p + 1 + (D.length - d)) (fc (D.take p) ++ [.string k, .slice A n c] ++ fc (D.drop d)) →
      Rs w (w4.setCell ⟨q, 0, none⟩ (.slice (some ⟨g4, 0, none⟩) (p + 1 + (D.length - d)) cp4)) q ⟨.slice (some ⟨g, 0, none⟩) D.length cap, D, rm, lf, dn⟩ ⟨.slice (some ⟨g4, 0, none⟩) (p + 1 + (D.length - d)) cp4, insS D k (.slice A n c, bs), rm, lf, dn⟩ (.slice A n c)) := fun w1 w4 g4 cp4 hK z1 ho => by
    have hin : ∀ y ∈ insS D k (.slice A n c, bs), y = (k, .slice A n c, bs) ∨ y ∈ D := fun y hy => mem_ins y hy
    refine row_fin h hK z1 ?_ ?_ (fun y hy => ?_) (ins_srt k _ h.srt) (Nat.le_trans (ins_len _ _ _) hn) (fun y hy => ?_)
    · rw [HP.out, fc_append]
      rw [List.append_assoc] at ho
      exact ho
    · rw [HP.out, List.length_append, List.length_cons, List.length_take, List.length_drop]; omega
    · rcases hin y hy with rfl | hy
      · exact ⟨HV.out, HVQ.out⟩
      · exact ⟨h.bts y hy, h.apart y hy⟩
    · rcases hin y hy with rfl | hy
      · exact .inr rfl
      · exact .inl hy
  clear h hpp hhs ho hv hvq HP HV HVQ
  have h3 : (p : Int) ≤ (cap : Int) := by omega
  cases hs
  · obtain rfl : d = p := by simpa using hd
    clear hd
    go_enter Try.func53, Try.ntmps53
    go_wp2_with (first
      | (go_at_call 79; refine HF2.out.mono ?_; rintro e w1 ⟨rfl, hb1⟩; have HB1 := Lib.hid hb1; have c1 := (rblk_cells (HT.out.below hb1).blk).1.1; have z1 := hb1.size; have lb1 : q < w1.heap.size := Nat.lt_of_lt_of_le hlt z1; clear hb1)
      | (at_builtin; refine wpList_append_own _ rfl _ _ 29 rfl w1.heap.size 91 i0 _ 2 40 Try.underlying29 hi0 hz0 hz1 hz2 rfl (by decide) _ _ _ rfl O3.out ⟨g, o, none⟩ (D.length - d) (cap - d) (fc (D.drop d)) rfl HDK.out (fun j u hj => by rw [Addr.add_lit]; exact HC2.out _ (K3.out.block g hglt) j u hj) HO2.out (by unfold maxLen; omega) (by omega) (by have := K3.out.size; have h2 := z2; have h3 := z3; (try simp at h2); (try simp at h3); omega) ?_; intro v4 w4 hown4 hg4 hnil4; obtain ⟨g4, cp4, rfl⟩ := (Go.Joins.ownsRow_forms hown4).resolve_left (fun h => absurd (hnil4.1 h.1).1 (by intro hh; cases hh)); have O4 := Lib.hid hown4; have K4 := Lib.hid (K3.out.grown hg4 K3.out.size (fun x e => by have := (O3.out.lt x e).1; omega)); clear hown4 hg4 hnil4; have c4 := (rblk_cells (HT.out.below K4.out).blk).1.1; have f4 := (rblk_cells (HT.out.below K4.out).blk).2.1)
      | (at_builtin; refine wpList_append_own _ rfl _ _ 29 rfl w1.heap.size 91 i0 _ 2 40 Try.underlying29 hi0 hz0 hz1 hz2 rfl (by decide) _ _ _ rfl (O2.out.alloc _) ⟨w2.heap.size, 0, none⟩ 1 1 [.string k, .slice A n c] rfl rfl (World.news_of_block (cs := #[.string k, .slice A n c]) (t := 91) (fr := (0, 0)) (heap_alloc_new w2 _)) (fc_one2 (D := [(k, .slice A n c, [])]) (fun y hy => by rcases List.mem_singleton.1 hy with rfl; rfl)) (by unfold maxLen; omega) (by omega) (by have h2 := z2; (try simp at h2); (try simp); omega) ?_; intro v3 w3 hown3 hg3 hnil3; obtain ⟨g3, cp3, rfl⟩ := (Go.Joins.ownsRow_forms hown3).resolve_left (fun h => absurd (hnil3.1 h.1).1 (by intro hh; cases hh)); have O3 := Lib.hid hown3; have G3 := Lib.hid hg3; clear hown3 hg3 hnil3; have z3 := G3.out.size; have K3 := Lib.hid (set_kept HB1.out G2.out (Nat.le_refl _) O2.out G3.out); have c3 := (rblk_cells (HT.out.below K3.out).blk).1.1; have f3 := (rblk_cells (HT.out.below K3.out).blk).2.1)
      | (at_builtin; refine wpList_append_own _ rfl _ _ 29 rfl w1.heap.size 91 i0 _ 2 40 Try.underlying29 hi0 hz0 hz1 hz2 rfl (by decide) _ _ _ rfl (World.ownsRow_made w1 #[] 0 (Nat.le_refl _) (Nat.zero_le _) rfl) ⟨g, 0, none⟩ d cap (fc (D.take d)) rfl HTK.out (fun j u hj => by rw [Addr.add_lit, Nat.zero_add]; exact HC1.out _ (HB1.out.alloc z1 _) j u hj) HO1.out (by unfold maxLen; omega) (by omega) (by (try simp); (try omega)) ?_; intro v2 w2 hown2 hg2 hnil2; rw [Nat.zero_add, List.nil_append] at hown2; obtain ⟨g2, cp2, rfl⟩ := (Go.Joins.ownsRow_forms hown2).resolve_left (fun h => absurd (hnil2.1 h.1).1 (by intro hh; cases hh)); have O2 := Lib.hid hown2; have G2 := Lib.hid hg2; clear hown2 hg2 hnil2; have z2 := G2.out.size))
    have FI := Lib.hid (FIN.out w1 w4 g4 cp4 K4.out z1 O4.out)
    clear HT HC1 HC2 HF2 hsl FIN
    go_end0
    exact ⟨rfl, _, FI.out⟩
  · obtain rfl : d = p + 1 := by simpa using hd
    have hsl2 : ∀ W : World, (Instr.slice 29 (.slice (some ⟨g, 0, none⟩) D.length cap) (some (.int .i64 ((p : Int) + 1))) none none).run Try.prog W = .ok (.slice (some ⟨g, o, none⟩) (D.length - (p + 1)) (cap - (p + 1))) W := hsl
    have hp1 : IntKind.i64.wrap ((p : Int) + 1) = (p : Int) + 1 := by rw [IntKind.wrap_i64]; omega
    clear hd hsl
    go_enter Try.func53, Try.ntmps53
    go_wp2_with (first
      | (go_at_call 79; refine HF2.out.mono ?_; rintro e w1 ⟨rfl, hb1⟩; have HB1 := Lib.hid hb1; have c1 := (rblk_cells (HT.out.below hb1).blk).1.1; have z1 := hb1.size; have lb1 : q < w1.heap.size := Nat.lt_of_lt_of_le hlt z1; clear hb1)
      | (at_builtin; refine wpList_append_own _ rfl _ _ 29 rfl w1.heap.size 91 i0 _ 2 40 Try.underlying29 hi0 hz0 hz1 hz2 rfl (by decide) _ _ _ rfl O3.out ⟨g, o, none⟩ (D.length - (p + 1)) (cap - (p + 1)) (fc (D.drop (p + 1))) rfl HDK.out (fun j u hj => by rw [Addr.add_lit]; exact HC2.out _ (K3.out.block g hglt) j u hj) HO2.out (by unfold maxLen; omega) (by omega) (by have := K3.out.size; have h2 := z2; have h3 := z3; (try simp at h2); (try simp at h3); omega) ?_; intro v4 w4 hown4 hg4 hnil4; obtain ⟨g4, cp4, rfl⟩ := (Go.Joins.ownsRow_forms hown4).resolve_left (fun h => absurd (hnil4.1 h.1).1 (by intro hh; cases hh)); have O4 := Lib.hid hown4; have K4 := Lib.hid (K3.out.grown hg4 K3.out.size (fun x e => by have := (O3.out.lt x e).1; omega)); clear hown4 hg4 hnil4; have c4 := (rblk_cells (HT.out.below K4.out).blk).1.1; have f4 := (rblk_cells (HT.out.below K4.out).blk).2.1)
      | (at_builtin; refine wpList_append_own _ rfl _ _ 29 rfl w1.heap.size 91 i0 _ 2 40 Try.underlying29 hi0 hz0 hz1 hz2 rfl (by decide) _ _ _ rfl (O2.out.alloc _) ⟨w2.heap.size, 0, none⟩ 1 1 [.string k, .slice A n c] rfl rfl (World.news_of_block (cs := #[.string k, .slice A n c]) (t := 91) (fr := (0, 0)) (heap_alloc_new w2 _)) (fc_one2 (D := [(k, .slice A n c, [])]) (fun y hy => by rcases List.mem_singleton.1 hy with rfl; rfl)) (by unfold maxLen; omega) (by omega) (by have h2 := z2; (try simp at h2); (try simp); omega) ?_; intro v3 w3 hown3 hg3 hnil3; obtain ⟨g3, cp3, rfl⟩ := (Go.Joins.ownsRow_forms hown3).resolve_left (fun h => absurd (hnil3.1 h.1).1 (by intro hh; cases hh)); have O3 := Lib.hid hown3; have G3 := Lib.hid hg3; clear hown3 hg3 hnil3; have z3 := G3.out.size; have K3 := Lib.hid (set_kept HB1.out G2.out (Nat.le_refl _) O2.out G3.out); have c3 := (rblk_cells (HT.out.below K3.out).blk).1.1; have f3 := (rblk_cells (HT.out.below K3.out).blk).2.1)
      | (at_builtin; refine wpList_append_own _ rfl _ _ 29 rfl w1.heap.size 91 i0 _ 2 40 Try.underlying29 hi0 hz0 hz1 hz2 rfl (by decide) _ _ _ rfl (World.ownsRow_made w1 #[] 0 (Nat.le_refl _) (Nat.zero_le _) rfl) ⟨g, 0, none⟩ p cap (fc (D.take p)) rfl HTK.out (fun j u hj => by rw [Addr.add_lit, Nat.zero_add]; exact HC1.out _ (HB1.out.alloc z1 _) j u hj) HO1.out (by unfold maxLen; omega) (by omega) (by (try simp); (try omega)) ?_; intro v2 w2 hown2 hg2 hnil2; rw [Nat.zero_add, List.nil_append] at hown2; obtain ⟨g2, cp2, rfl⟩ := (Go.Joins.ownsRow_forms hown2).resolve_left (fun h => absurd (hnil2.1 h.1).1 (by intro hh; cases hh)); have O2 := Lib.hid hown2; have G2 := Lib.hid hg2; clear hown2 hg2 hnil2; have z2 := G2.out.size))
    have FI := Lib.hid (FIN.out w1 w4 g4 cp4 K4.out z1 O4.out)
    rw [show p + 1 + (D.length - (p + 1)) = D.length by omega] at FI
    clear HT HC1 HC2 HF2 hsl2 FIN
    go_end0
    exact ⟨rfl, _, FI.out⟩
set_option maxRecDepth 100000 in
set_option maxHeartbeats 4000000 in
theorem set_nil {w : World} {q : Nat} {rm lf : Int} {dn : Bool} (k : ByteArray) (A : Option Addr) (n c : Nat) (bs : List Int) (h : RfR w q ⟨.slice none 0 0, [], rm, lf, dn⟩) (hv : BAt w (.slice A n c) bs) (hvq : ¬ vb (.slice A n c) q) :
    Calls Try.prog 53 #[.pointer (some ⟨q, 0, none⟩), .string k, .slice A n c] w fun e w' => e = .returned (.tuple #[]) ∧ ∃ sv', Rs w w' q ⟨.slice none 0 0, [], rm, lf, dn⟩ ⟨sv', insS [] k (.slice A n c, bs), rm, lf, dn⟩ (.slice A n c) := by
  obtain ⟨i0, hi0, hz0, hz1, hz2⟩ := info_parts infoF
  have HF : Hid (Calls Try.prog 79 #[.pointer (some ⟨q, 0, none⟩), .string k] w fun e w' => e = .returned (.tuple #[.int .i64 ((0 : Nat) : Int), .bool false]) ∧ Below w.heap.size w w') := rplace_any k h
  have HT := Lib.hid h
  have hlt := h.lt (.inl rfl)
  have FIN : Hid (∀ (w1 w4 : World) (g4 cp4 : Nat), Below w.heap.size w w4 → w.heap.size ≤ w1.heap.size → w4.ownsRow w1.heap.size 91 2 (.slice (some ⟨g4, 0, none⟩) 1 cp4) 1 [.string k, .slice A n c] →
      Rs w (w4.setCell ⟨q, 0, none⟩ (.slice (some ⟨g4, 0, none⟩) 1 cp4)) q ⟨.slice none 0 0, [], rm, lf, dn⟩ ⟨.slice (some ⟨g4, 0, none⟩) 1 cp4, insS [] k (.slice A n c, bs), rm, lf, dn⟩ (.slice A n c)) := fun w1 w4 g4 cp4 hK z1 ho =>
    row_fin h hK z1 ho rfl (fun y hy => by rcases List.mem_singleton.1 hy with rfl; exact ⟨hv, hvq⟩) (List.pairwise_singleton _ _) (by simp [insS]) (fun y hy => .inr (by rcases List.mem_singleton.1 hy with rfl; rfl))
  clear h hv hvq
  go_enter Try.func53, Try.ntmps53
  go_wp2_with (first
    | (go_at_call 79; refine HF.out.mono ?_; rintro e w1 ⟨rfl, hb1⟩; have HB1 := Lib.hid hb1; have c1 := (rblk_cells (HT.out.below hb1).blk).1.1; have z1 := hb1.size; have lb1 : q < w1.heap.size := Nat.lt_of_lt_of_le hlt z1; clear hb1)
    | (at_builtin; refine Lib.wpList_append_run _ rfl _ _ 29 29 rfl _ _ rfl rfl _ _ (fapp_nil _ _ g3 1 cp3 h3.out) ?_)
    | (at_builtin; refine wpList_append_own _ rfl _ _ 29 rfl w1.heap.size 91 i0 _ 2 40 Try.underlying29 hi0 hz0 hz1 hz2 rfl (by decide) _ _ _ rfl (O2.out.alloc _) ⟨w2.heap.size, 0, none⟩ 1 1 [.string k, .slice A n c] rfl rfl (World.news_of_block (cs := #[.string k, .slice A n c]) (t := 91) (fr := (0, 0)) (heap_alloc_new w2 _)) (fc_one2 (D := [(k, .slice A n c, [])]) (fun y hy => by rcases List.mem_singleton.1 hy with rfl; rfl)) (by unfold maxLen; omega) (by omega) (by (try simp); (try omega)) ?_; intro v3 w3 hown3 hg3 hnil3; obtain ⟨g3, cp3, rfl⟩ := (Go.Joins.ownsRow_forms hown3).resolve_left (fun h => absurd (hnil3.1 h.1).1 (by intro hh; cases hh)); have O3 := Lib.hid hown3; have h3 : Hid (1 ≤ cp3) := own_cap hown3; have K3 := Lib.hid ((B2.out.alloc z2 _).grown hg3 (by simp; omega) (fun x e => by cases e; omega)); clear hown3 hg3 hnil3; have c3 := (rblk_cells (HT.out.below K3.out).blk).1.1; have f3 := (rblk_cells (HT.out.below K3.out).blk).2.1)
    | (at_builtin; refine Lib.wpList_append_run _ rfl _ _ 29 29 rfl _ _ rfl rfl _ _ (fapp_nil _ _ w1.heap.size 0 0 (Nat.le_refl _)) ?_; obtain ⟨w2, hw2⟩ : ∃ w2, w2 = w1.alloc (.cells #[] 91) := ⟨_, rfl⟩; have O2 := Lib.hid (World.ownsRow_made (size := 2) (e := 91) w1 #[] 0 (Nat.le_refl _) (Nat.zero_le _) rfl); have B2 := Lib.hid (HB1.out.alloc z1 (.cells #[] 91)); have z2 : w.heap.size ≤ (w1.alloc (.cells #[] 91)).heap.size ∧ w1.heap.size ≤ (w1.alloc (.cells #[] 91)).heap.size := by simp; omega
       rw [← hw2] at O2 B2 z2; rw [← hw2]; obtain ⟨z2, y2⟩ := z2; clear hw2))
  have FI := Lib.hid (FIN.out w1 w3 g3 cp3 K3.out z1 (by simpa using O3.out))
  clear HT HF FIN
  go_end0
  exact ⟨rfl, _, FI.out⟩
/-- A file is set. -/
theorem rset_any {w : World} {q : Nat} {x : RS} (k : ByteArray) {A : Option Addr} {n c : Nat} {bs : List Int} (h : RfR w q x) (hv : BAt w (.slice A n c) bs) (hvq : ¬ vb (.slice A n c) q) (hn : x.D.length + 1 ≤ 1000) :
    Calls Try.prog 53 #[.pointer (some ⟨q, 0, none⟩), .string k, .slice A n c] w fun e w' => e = .returned (.tuple #[]) ∧ ∃ sv', Rs w w' q x { x with sv := sv', D := insS x.D k (.slice A n c, bs) } (.slice A n c) := by
  obtain ⟨sv, D, rm, lf, dn⟩ := x
  rcases Go.Joins.ownsRow_forms h.row with ⟨h1, h0⟩ | ⟨g, cap, h1⟩
  · have h2 : sv = .slice none 0 0 := h1
    have hl : D = [] := List.length_eq_zero_iff.1 h0
    subst h2 hl
    exact set_nil k A n c bs h hv hvq
  · have h2 : sv = .slice (some ⟨g, 0, none⟩) D.length cap := h1
    subst h2
    exact set_some k A n c bs h hv hvq hn
end Go.Proofs.Ytffeinbbgfogoaa.Sr
