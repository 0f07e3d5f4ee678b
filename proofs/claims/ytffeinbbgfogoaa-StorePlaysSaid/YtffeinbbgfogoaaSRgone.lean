/-
  The reference's gone. Conditions: at most a thousand files.
-/
import Derived.Test.YtffeinbbgfogoaaSRset
import Derived.Deep.RegionLaw
namespace Go.Proofs.Ytffeinbbgfogoaa.Sr
open Go.RowKit Fr

theorem step_append_own2 {P : Program} {w : World} {ops : Array Oper} {o : Oper} {a : Act} {K : Act → World → Prop} {Q : Exit → Act → World → Prop} {E : Prop} (hgd : o.guard = none) (s x : Operand) (t : TypeId)
    (ho : o.op = .call { callee := .builtin .append, args := #[s, x], argTypes := #[t, t] })
    (base : Nat) (e : TypeId) (i : TypeInfo) (z : Value) (size bytes : Nat) (ht : P.underlying t = some (.slice e)) (hi : P.info? e = some i) (hz : i.zero = some z)
    (hsize : i.size = size) (hby : i.bytes = bytes) (hzs : z.cells.size = size) (hsz : 0 < size)
    (g0 c0 : Nat) (n : Nat) (xs : List Value) (hs : a.eval s = .slice (some ⟨g0, 0, none⟩) n c0) (hown : w.ownsRow base e size (.slice (some ⟨g0, 0, none⟩) n c0) n xs)
    (ad : Addr) (m c : Nat) (news : List Value) (hx : a.eval x = .slice (some ad) m c) (hl : news.length = m * size) (hnews : ∀ j u, news[j]? = some u → w.cell? (ad.add j) = some u) (h1 : ∀ u ∈ news, u.oneCell' = true)
    (h63 : n + m ≤ maxLen) (hbytes : (n + m) * bytes ≤ 140737488355328) (hbase : base ≤ w.heap.size)
    (h : ∀ g cap w', w'.ownsRow base e size (.slice (some ⟨g, 0, none⟩) (n + m) cap) (n + m) (xs ++ news) → w.grownBy w' (some g0) → K (a.put o.dst (.slice (some ⟨g, 0, none⟩) (n + m) cap)) w') :
    if Region.wanted o (yielded ops a.tmps) = true then Oper.wp P o a w K Q else E := by
  have hw : Region.wanted o (yielded ops a.tmps) = true := by simp [Region.wanted, hgd]
  rw [if_pos hw]
  refine wp_append_own w s x t ho base e i z size bytes ht hi hz hsize hby hzs hsz _ n xs hs hown ad m c news hx hl hnews h1 h63 hbytes hbase fun v' w' h2 h3 h4 => ?_
  obtain ⟨g, cap, rfl⟩ := (Go.Joins.ownsRow_forms h2).resolve_left (fun h => absurd (h4.1 h.1).1 (by intro hh; cases hh))
  exact h g cap w' h2 h3
set_option maxRecDepth 100000 in
set_option maxHeartbeats 4000000 in
theorem gone_has {w : World} {q g cap : Nat} {D : List Fi} {rm lf : Int} {dn : Bool} (k : ByteArray) (h : RfR w q ⟨.slice (some ⟨g, 0, none⟩) D.length cap, D, rm, lf, dn⟩) (hh : hasL D k = true) :
    Calls Try.prog 59 #[.pointer (some ⟨q, 0, none⟩), .string k] w fun e w' => e = .returned (.tuple #[]) ∧ ∃ sv', Rs w w' q ⟨.slice (some ⟨g, 0, none⟩) D.length cap, D, rm, lf, dn⟩ ⟨sv', delL D k, rm, lf, dn⟩ (.slice none 0 0) := by
  obtain ⟨i0, hi0, hz0, hz1, hz2⟩ := info_parts infoF
  have hn : D.length ≤ 1000 := h.few
  have hcap : D.length ≤ cap := own_cap h.row
  obtain ⟨y, hy, _⟩ := val_at h.srt hh
  have hp : plS D k < D.length := (List.getElem?_eq_some_iff.1 hy).1
  have HT := Lib.hid h
  have hlt := h.lt (.inl rfl)
  have hglt := (h.row.lt g rfl).2
  obtain ⟨p, hpp⟩ : ∃ p, p = plS D k := ⟨_, rfl⟩
  have HP : Hid (delL D k = D.take p ++ D.drop (p + 1)) := by show _ = _; rw [hpp]; exact del_eq h.srt hh
  have HF : Hid (Calls Try.prog 79 #[.pointer (some ⟨q, 0, none⟩), .string k] w fun e w' => e = .returned (.tuple #[.int .i64 (p : Nat), .bool true]) ∧ Below w.heap.size w w') := by rw [hpp, ← hh]; exact rplace_any k h
  rw [← hpp] at hp
  obtain ⟨o, ho, hsl⟩ := fslice_some g D.length cap (p + 1) (by omega) hcap
  have HTK : Hid ((fc (D.take p)).length = p * 2) := by show _ = _; rw [fc_len, List.length_take]; omega
  have HDK : Hid ((fc (D.drop (p + 1))).length = (D.length - (p + 1)) * 2) := by show _ = _; rw [fc_len, List.length_drop]
  have HO1 : Hid (∀ u ∈ fc (D.take p), u.oneCell' = true) := fc_one2 fun y hy => bat_slice (h.bts y (List.mem_of_mem_take hy))
  have HO2 : Hid (∀ u ∈ fc (D.drop (p + 1)), u.oneCell' = true) := fc_one2 fun y hy => bat_slice (h.bts y (List.mem_of_mem_drop hy))
  have HC1 : Hid (∀ W : World, Below w.heap.size w W → ∀ j u, (fc (D.take p))[j]? = some u → W.cell? ⟨g, j, none⟩ = some u) := fun W hW j u hj => by
    have hjl := (List.getElem?_eq_some_iff.1 hj).1
    rw [HTK.out] at hjl
    refine (((h.below hW).row).cellAt j (by show j < D.length * 2; omega)).trans ?_
    have : fc D = fc (D.take p) ++ fc (D.drop p) := by rw [← fc_append, List.take_append_drop]
    show (fc D)[j]? = _
    rw [this, List.getElem?_append_left (by rw [HTK.out]; exact hjl)]
    exact hj
  have HC2 : Hid (∀ W : World, W.heap[g]? = w.heap[g]? → ∀ j u, (fc (D.drop (p + 1)))[j]? = some u → W.cell? ⟨g, o + j, none⟩ = some u) := fun W hW j u hj => by
    have hjl := (List.getElem?_eq_some_iff.1 hj).1
    rw [HDK.out] at hjl
    rw [ho (by omega)]
    refine (World.cell?_of_block (w := w) (a := ⟨g, (p + 1) * 2 + j, none⟩) hW).trans ((h.row.cellAt ((p + 1) * 2 + j) (by show (p + 1) * 2 + j < D.length * 2; omega)).trans ?_)
    have : fc D = fc (D.take (p + 1)) ++ fc (D.drop (p + 1)) := by rw [← fc_append, List.take_append_drop]
    show (fc D)[(p + 1) * 2 + j]? = _
    rw [this, List.getElem?_append_right (by rw [fc_len, List.length_take]; omega), fc_len, List.length_take, show (p + 1) * 2 + j - min (p + 1) D.length * 2 = j by omega]
    exact hj
  have FIN : Hid (∀ (w1 w4 : World) (g4 cp4 : Nat), Below w.heap.size w w4 → w.heap.size ≤ w1.heap.size → w4.ownsRow w1.heap.size 91 2 (.slice (some ⟨g4, 0, none⟩) (p + (D.length - (p + 1))) cp4) (p + (D.length - (p + 1))) (fc (D.take p) ++ fc (D.drop (p + 1))) →
      Rs w (w4.setCell ⟨q, 0, none⟩ (.slice (some ⟨g4, 0, none⟩) (p + (D.length - (p + 1))) cp4)) q ⟨.slice (some ⟨g, 0, none⟩) D.length cap, D, rm, lf, dn⟩ ⟨.slice (some ⟨g4, 0, none⟩) (p + (D.length - (p + 1))) cp4, delL D k, rm, lf, dn⟩ (.slice none 0 0)) := fun w1 w4 g4 cp4 hK z1 ho => by
    have hin : ∀ y ∈ delL D k, y ∈ D := fun y hy => (del_sub D k).subset hy
    refine row_fin h hK z1 ?_ ?_ (fun y hy => ⟨h.bts y (hin y hy), h.apart y (hin y hy)⟩) (srt_del k h.srt) (Nat.le_trans (del_sub D k).length_le hn) (fun y hy => .inl (hin y hy))
    · rw [HP.out, fc_append]; exact ho
    · rw [HP.out, List.length_append, List.length_take, List.length_drop]; omega
  clear h hpp hh ho hy HP
  have h3 : (p : Int) ≤ (cap : Int) := by omega
  have hp1 : IntKind.i64.wrap ((p : Int) + 1) = (p : Int) + 1 := by rw [IntKind.wrap_i64]; omega
  have hsl2 : ∀ W : World, (Instr.slice 29 (.slice (some ⟨g, 0, none⟩) D.length cap) (some (.int .i64 ((p : Int) + 1))) none none).run Try.prog W = .ok (.slice (some ⟨g, o, none⟩) (D.length - (p + 1)) (cap - (p + 1))) W := hsl
  clear hsl
  go_enter Try.func59, Try.ntmps59
  go_wp2_with (go_at_call 79; refine HF.out.mono ?_; rintro e w1 ⟨rfl, hb1⟩; have HB1 := Lib.hid hb1; have c1 := (rblk_cells (HT.out.below hb1).blk).1.1; have z1 := hb1.size; have lb1 : q < w1.heap.size := Nat.lt_of_lt_of_le hlt z1; clear hb1)
  go_region_law (first
      | (refine step_append_own2 rfl _ _ 29 (by rfl) w1.heap.size 91 i0 _ 2 40 Try.underlying29 hi0 hz0 hz1 hz2 rfl (by decide) g2 cp2 p _ (by rfl) O2.out ⟨g, o, none⟩ (D.length - (p + 1)) (cap - (p + 1)) (fc (D.drop (p + 1))) (by rfl) HDK.out (fun j u hj => by rw [Addr.add_lit]; exact HC2.out _ (K2.out.block g hglt) j u hj) HO2.out (by unfold maxLen; omega) (by omega) (by have := K2.out.size; have h2 := z2; (try simp at h2); (try simp); omega) ?_; intro g3 cp3 w3 hown3 hg3; have O3 := Lib.hid hown3; have K3 := Lib.hid (K2.out.grown hg3 K2.out.size (fun x e => by cases e; have := (O2.out.lt g2 rfl).1; omega)); clear hown3 hg3; have c3 := (rblk_cells (HT.out.below K3.out).blk).1.1; have f3 := (rblk_cells (HT.out.below K3.out).blk).2.1)
      | (refine step_append_own2 rfl _ _ 29 (by rfl) w1.heap.size 91 i0 _ 2 40 Try.underlying29 hi0 hz0 hz1 hz2 rfl (by decide) w1.heap.size 0 0 [] (by rfl) (World.ownsRow_made w1 #[] 0 (Nat.le_refl _) (Nat.zero_le _) rfl).drew ⟨g, 0, none⟩ p cap (fc (D.take p)) (by rfl) HTK.out (fun j u hj => by rw [Addr.add_lit, Nat.zero_add]; exact HC1.out _ (HB1.out.alloc z1 _).drew j u hj) HO1.out (by unfold maxLen; omega) (by omega) (by (try simp); (try omega)) ?_; intro g2 cp2 w2 hown2 hg2; rw [Nat.zero_add, List.nil_append] at hown2; rw [Nat.zero_add]; have O2 := Lib.hid hown2; have G2 := Lib.hid hg2; clear hown2 hg2; have z2 := G2.out.size; have K2 : Hid (Below w.heap.size w w2) := Lib.hid ((HB1.out.alloc z1 _).drew.grown G2.out (by simp; omega) (fun x e => by cases e; omega)); have c2 := (rblk_cells (HT.out.below K2.out).blk).1.1; have f2 := (rblk_cells (HT.out.below K2.out).blk).2.1))
  all_goals (
    have FI := Lib.hid (FIN.out w1 w3 g3 cp3 K3.out z1 O3.out)
    clear HT HC1 HC2 HF hsl2 FIN
    go_wp2
    go_end0
    exact ⟨rfl, _, FI.out⟩)
set_option maxRecDepth 100000 in
/-- A file goes. -/
theorem rgone_any {w : World} {q : Nat} {x : RS} (k : ByteArray) (h : RfR w q x) (hh : hasL x.D k = true) :
    Calls Try.prog 59 #[.pointer (some ⟨q, 0, none⟩), .string k] w fun e w' => e = .returned (.tuple #[]) ∧ ∃ sv', Rs w w' q x { x with sv := sv', D := delL x.D k } (.slice none 0 0) := by
  obtain ⟨sv, D, rm, lf, dn⟩ := x
  rcases Go.Joins.ownsRow_forms h.row with ⟨h1, h0⟩ | ⟨g, cap, h1⟩
  · have hl : D = [] := List.length_eq_zero_iff.1 h0
    subst hl; cases hh
  · have h2 : sv = .slice (some ⟨g, 0, none⟩) D.length cap := h1
    subst h2
    exact gone_has k h hh
end Go.Proofs.Ytffeinbbgfogoaa.Sr
