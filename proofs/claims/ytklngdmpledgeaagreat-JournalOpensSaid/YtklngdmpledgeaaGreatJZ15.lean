/-
  The contract of remove; put of a row that was there. Conditions: a store.
-/
import Derived.Test.YtklngdmpledgeaaGreatJZ14
import Derived.Test.YtklngdmpledgeaaGreatSWri
namespace Go.Proofs.YtklngdmpledgeaaGreat.Sr
open Go.RowKit Fr

theorem wpList_delete_run {P : Program} (w : World) {ops : Array Oper} {rest : List Oper} {o : Oper} {a : Act} {Q : Exit → Act → World → Prop} (hgd : o.guard = none) (s x : Operand) (t tn : TypeId)
    (ho : o.op = .call { callee := .builtin .delete, args := #[s, x], argTypes := #[t, tn] }) (vs vx : Value) (hs : a.eval s = vs) (hx : a.eval x = vx)
    (v' : Value) (w' : World) (hr : (Builtin.delete_ #[t, tn] o.type #[vs, vx]).run P w = .ok v' w') (h : wpList P ops Q rest (a.put o.dst v') w') : wpList P ops Q (o :: rest) a w :=
  wpList_plain hgd fun _ hK => by
    unfold Oper.wp execOp
    simp only [ho, resolve, invoke, builtin, Sem.run_bind, Sem.run_pure, Result.andThen_ok, List.map_toArray, List.map_cons, List.map_nil, hs, hx, hr]
    exact hK _ _ h

set_option maxRecDepth 100000 in
set_option maxHeartbeats 2000000 in
theorem remove_any (w : World) (p b : Nat) (s : S) (L : List Fi) (k : ByteArray) (h : StR w p s (some b) L) :
    Calls Tryz.prog 101 #[.pointer (some ⟨p, 0, none⟩), .string k] w fun e w' => e = .returned (.tuple #[]) ∧ StR w' p { s with used := s.used - ((bytL L k).length : Int) } (some b) (delL L k) ∧ Off (fun i => i = p ∨ i = b) w w' := by
  have HS := Lib.hid h
  have hroom := h.room
  have hused := h.used
  have hle := byt_used L k
  obtain ⟨A0, n0, cc, hval, hn0⟩ : ∃ A0 n0 cc, valL L k = .slice A0 n0 cc ∧ n0 = (bytL L k).length := by
    obtain ⟨A0, cc, e, _⟩ := BAt.of_own (val_row h.rows k); exact ⟨A0, _, cc, e, rfl⟩
  obtain ⟨u, hu⟩ : ∃ u, u = s.used := ⟨_, rfl⟩
  have hu0 : 0 ≤ u ∧ u ≤ 1048576 := by omega
  have hn1 : (0 : Int) ≤ (n0 : Int) ∧ (n0 : Int) ≤ u := by omega
  obtain ⟨u0, u1⟩ := hu0
  obtain ⟨n00, n01⟩ := hn1
  have c4 : ∀ q : InW w, q.val.cell? ⟨p, 4, none⟩ = some (.int .i64 u) := fun q => q.cell (by rw [hu]; exact (blk_cells h.blk).1.2.2.2.2.1)
  have c5 : ∀ q : InW w, q.val.cell? ⟨p, 5, none⟩ = some (.map (some b)) := fun q => q.cell (blk_cells h.blk).1.2.2.2.2.2
  have hlk : ∀ q : InW w, (Instr.lookup 47 (.map (some b)) (.string k) false).run Tryz.prog q.val = .ok (.slice A0 n0 cc) q.val := fun q => by
    rw [← hval]; exact look_in h.map k false q
  have HU := Lib.hid hu
  have HN0 := Lib.hid hn0
  clear hroom hused hle hval hn0 hu h
  go_enter Tryz.func101, Tryz.ntmps101
  go_upto_region 0 with fail
  refine wp_region_quiet_tail (C := fun w' => ∃ q : InW w, w' = q.val) 14 (by kernel_rfl) (by kernel_rfl) (by kernel_rfl) ⟨⟨w.drew, (Below.refl _ _).drew⟩, rfl⟩ ?_
  simp only [List.take_succ_cons, List.take_zero, List.drop_succ_cons, List.drop_zero]
  repeat (go_big_quiet_step (fail))
  refine wpQuiet_nil ?_
  rintro _ ⟨q0, rfl⟩
  obtain ⟨wq, hbq⟩ := q0
  try dsimp only
  have HSQ := Lib.hid (HS.out.below hbq)
  have f4 := (blk_cells HSQ.out.blk).2.2.2.2.2.1
  have c4q := (blk_cells HSQ.out.blk).1.2.2.2.2.1
  have HBQ := Lib.hid hbq
  clear c4 c5 hlk hbq
  go_upto_region 1 with fail
  generalize hW1 : wq.setCell ⟨p, 4, none⟩ (.int .i64 (u - (n0 : Int))) = W1
  have HW1 : Hid (W1.heap[p]? = some (blk { s with used := u - (n0 : Int) } (some b))) := by
    show _ = _
    rw [← hW1]; exact blk_set HSQ.out.blk 4 _ (by simp)
  have hne : p ≠ b := MapO.ne HSQ.out.map HSQ.out.blk
  have HM1 : Hid (MapR W1 b L) := by
    have := MapO.kept (mb := some b) (w' := W1) HSQ.out.map (fun b' e => by cases e; rw [← hW1]; exact Below.heap_setCell _ _ _ _ (Ne.symm hne))
    exact this
  have HO1 : Hid (Off (fun i => i = p ∨ i = b) w W1) := by
    have h1 : Off (fun i => i = p ∨ i = b) w wq := Off.of_below _ HBQ.out
    exact h1.trans (T' := fun i => i = p) (by rw [← hW1]; exact Off.of_grown (grownBy_set _ _ _) (fun i e => (Option.some.inj e).symm)) (fun i e => .inl (.inl e))
  clear hW1 c4q f4
  have c5 := (blk_cells HW1.out).1.2.2.2.2.2
  obtain ⟨w2, hr2, hm2, hg2, hs2⟩ := delete_run HM1.out k 0
  have HR2 := Lib.hid hr2
  have HM2 := Lib.hid hm2
  have HG2 := Lib.hid hg2
  clear hr2 hm2 hg2 hs2
  go_wp2_with (refine wpList_delete_run _ rfl _ _ 47 9 rfl _ _ rfl rfl _ _ HR2.out ?_)
  go_end0
  have hOff : Off (fun i => i = p ∨ i = b) w w2 := HO1.out.trans (T' := fun i => i = b) (Off.of_grown HG2.out (fun i e => (Option.some.inj e).symm)) (fun i e => .inl (.inr e))
  refine ⟨rfl, ⟨?_, HM2.out, fun x hx => ?_, HS.out.apart.sublist (del_sub L k), HS.out.keys.sublist (del_sub L k), ?_, ?_, HS.out.left⟩, hOff⟩
  · rw [← HN0.out, ← HU.out]
    exact block_grown HW1.out HG2.out hne
  · have hxl := (del_sub L k).subset hx
    refine row_kept (HS.out.rows x hxl) fun i hi => ?_
    obtain ⟨cur, hc⟩ := row_heap (HS.out.rows x hxl) hi
    refine hOff.2 i (Array.getElem?_eq_some_iff.1 hc).1 ?_
    rintro (rfl | rfl)
    · rw [HS.out.blk] at hc; cases hc
    · have := HS.out.map
      obtain ⟨es, c, h1, _⟩ := this
      rw [hc] at h1; cases h1
  · have h1 := used_del L k
    have h2 := HS.out.used
    show s.used - _ = _
    omega
  · have h1 := used_del L k
    have h2 := HS.out.room
    show (usedL (delL L k) : Int) ≤ s.room ∧ s.room ≤ _
    omega

/-- Behind put of a row that lies among no other file's. -/
theorem put_gen {w w3 : World} {p : Nat} {s : S} {mb : Option Nat} {L : List Fi} {k : ByteArray} {v : Value} {nb : List Int} (h : StR w p s mb L) (hv : rowOf w v nb)
    (hloc : ∀ x ∈ L, x.1 ≠ k → ∀ i, v.ownBlock = some i → x.2.1.ownBlock ≠ some i) (hroom : (usedL L : Int) - (bytL L k).length + nb.length ≤ s.room) (hput : PutTo w w3 p s mb L k v nb nb.length) :
    ∃ mb', StR w3 p { s with used := s.used + ((nb.length : Int) - ((bytL L k).length : Int)) } mb' (putL L k (v, nb)) ∧ Off (fun i => i = p ∨ mb = some i) w w3 ∧ ∀ i, own p mb' (putL L k (v, nb)) i → own p mb L i ∨ v.ownBlock = some i ∨ w.heap.size ≤ i := by
  obtain ⟨b', q1, q2, q3, q4⟩ := hput
  have hrow : ∀ {u : Value} {l : List Int}, rowOf w u l → rowOf w3 u l := fun {u l} hu => row_kept hu fun i hi => by
    obtain ⟨cur, hc⟩ := row_heap hu hi
    refine q4.2 i (Array.getElem?_eq_some_iff.1 hc).1 ?_
    rintro (rfl | e)
    · rw [h.blk] at hc; cases hc
    · have hm := h.map
      rw [e] at hm; obtain ⟨es, c, h1, _⟩ := hm; rw [hc] at h1; cases h1
  have hup := used_put (L := L) (k := k) (v := v) (l := nb)
  refine ⟨some b', ⟨q1, q2, fun x hx2 => ?_, pair_put _ h.apart h.keys fun x hx2 hn => ⟨fun i hi e => hloc x hx2 hn i e hi, fun i hi e => hloc x hx2 hn i hi e⟩, pair_put _ h.keys h.keys fun x _ hn => ⟨hn, hn.symm⟩, ?_, ?_, h.left⟩, q4, fun i hi => ?_⟩
  · rcases mem_put h.keys x hx2 with rfl | ⟨h1, h2⟩
    · exact hrow hv
    · exact hrow (h.rows x h1)
  · show s.used + _ = _
    have := h.used; omega
  · have := h.room
    show _ ≤ s.room ∧ s.room ≤ _
    omega
  · rcases hi with rfl | hi | ⟨x, hx2, hi⟩
    · exact .inl (.inl rfl)
    · rcases q3 with h1 | ⟨_, h1⟩
      · exact .inl (.inr (.inl (h1.trans hi)))
      · cases hi; exact .inr (.inr h1)
    · rcases mem_put h.keys x hx2 with rfl | ⟨h1, h2⟩
      · exact .inr (.inl hi)
      · exact .inl (.inr (.inr ⟨x, h1, hi⟩))
end Go.Proofs.YtklngdmpledgeaaGreat.Sr

namespace Go.Proofs.YtklngdmpledgeaaGreat.Sr
open Go.RowKit Fr

theorem strInf : (Tryz.prog.info? 9).map (fun i => (i.zero, i.size, i.bytes)) = some (some (.string ByteArray.empty), 1, 16) := by kernel_rfl
def sv (l : List ByteArray) : List Value := l.map Value.string
theorem nrow_own {w : World} {base : Nat} {v : Value} {ns : List ByteArray} (h : w.ownsRow base 9 1 v ns.length (sv ns)) (hn : 0 < ns.length) : ∃ g c, v = .slice (some ⟨g, 0, none⟩) ns.length c ∧ NRow w g ns := by
  rcases id h.2 with ⟨_, h2⟩ | ⟨g, cap, cur, rfl, _, hg, _⟩
  · omega
  · refine ⟨g, cap, rfl, (Array.getElem?_eq_some_iff.1 hg).1, fun j hj => ?_⟩
    rw [h.cellAt j (by simpa using hj)]
    simp [sv, List.getD, List.getElem?_eq_getElem hj]
/-- What find tells. -/
def fnd (d : Bool) (L : List Fi) (k : ByteArray) (ns : List ByteArray) : Int := if rdy d ns ≠ 0 then rdy d ns else if hasL L k = true then 0 else 13

set_option maxRecDepth 100000 in
set_option maxHeartbeats 2000000 in
theorem find_one (w : World) (p : Nat) (s : S) (mb : Option Nat) (L : List Fi) (k tn : ByteArray) (h : StR w p s mb L) :
    Calls Tryz.prog 50 #[.pointer (some ⟨p, 0, none⟩), .string k, .slice (some ⟨w.heap.size, 0, none⟩) 1 1] (w.alloc (.cells #[.string tn] 9)) fun e w' => e = .returned (.int .i64 (fnd s.d L k [tn, k])) ∧ Below w.heap.size w w' := by
  obtain ⟨i0, hi0, hz0, hz1, hz2⟩ := info_parts strInf
  have h1 : StR (w.alloc (.cells #[.string tn] 9)) p s mb L := h.below ((Below.refl _ _).alloc (Nat.le_refl _) _)
  have ho := World.ownsRow_lit (e := 9) (size := 1) (base := w.heap.size) w #[.string tn] 1 (Nat.le_refl _) (by decide) rfl
  have hb1 : Below w.heap.size w (w.alloc (.cells #[.string tn] 9)) := (Below.refl _ _).alloc (Nat.le_refl _) _
  have hs1 : (w.alloc (.cells #[.string tn] 9)).heap.size = w.heap.size + 1 := by simp
  generalize w.alloc (.cells #[.string tn] 9) = W at h1 ho hb1 hs1 ⊢
  generalize hg0 : w.heap.size = g0 at ho hs1 ⊢
  have HS := Lib.hid h1
  have HB := Lib.hid hb1
  have HG := Lib.hid hg0
  have hrd : ∀ W1 g c, StR W1 p s mb L → NRow W1 g [tn, k] → Calls Tryz.prog 15 #[.pointer (some ⟨p, 0, none⟩), .slice (some ⟨g, 0, none⟩) 2 c] W1 fun e w' => e = .returned (.int .i64 (rdy s.d [tn, k])) ∧ Below W1.heap.size W1 w' := fun W1 g c h2 h3 => ready_any W1 p s mb g c [tn, k] h2.blk h3 (by simp)
  have HRD := Lib.hid hrd
  have hlk : ∀ W1, StR W1 p s mb L → (Instr.lookup 47 (.map mb) (.string k) true).run Tryz.prog W1 = .ok (.tuple #[valL L k, .bool (hasL L k)]) W1 := fun W1 h2 => by
    have := lookup_run (w := W1) h2.map k true
    rw [if_pos rfl] at this; exact this
  have HLK := Lib.hid hlk
  obtain ⟨r, hr⟩ : ∃ r, r = rdy s.d [tn, k] := ⟨_, rfl⟩
  obtain ⟨hh, hhh⟩ : ∃ hh, hh = hasL L k := ⟨_, rfl⟩
  have HF : Hid (fnd s.d L k [tn, k] = if r ≠ 0 then r else if hh = true then 0 else 13) := by
    show _ = _
    rw [hr, hhh]; rfl
  rw [← hr] at HRD
  rw [← hhh] at HLK
  have HS1 := Lib.hid hs1
  have hown : ∀ i, own p mb L i → i < g0 := fun i hi => by rw [← hg0]; exact own_lt h hi
  have HOWN := Lib.hid hown
  clear h hrd hlk h1 hb1 hr hhh hg0 hs1 hown
  have HO := Lib.hid ho
  clear ho
  by_cases hr0 : r = 0
  · have HR0 := Lib.hid hr0
    subst hr0
    have HF2 : Hid (fnd s.d L k [tn, k] = if hh = true then 0 else 13) := by
      show _ = _
      rw [HF.out, if_neg (by decide)]
    clear HF
    cases hh
    · go_enter Tryz.func50, Tryz.ntmps50
      go_wp2_with (first
        | (at_builtin; refine wpList_append_own _ rfl _ _ 85 rfl g0 9 i0 _ 1 16 Tryz.underlying85 hi0 hz0 hz1 hz2 rfl (by decide) _ _ _ rfl (HO.out.alloc _) ⟨W.heap.size, 0, none⟩ 1 1 [.string k] rfl rfl (World.news_of_block (cs := #[.string k]) (t := 9) (fr := (0, 0)) (heap_alloc_new _ _)) (by simp [Value.oneCell']) (by decide) (by decide) (by have := HS1.out; simp; omega) ?_; intro v1 w1 hown1 hgrow1 hnil1
           obtain ⟨g1, c1, hv1, hn1⟩ := nrow_own (ns := [tn, k]) hown1 (Nat.succ_pos _)
           have hv1 : v1 = .slice (some ⟨g1, 0, none⟩) 2 c1 := hv1
           subst hv1
           have hs1 : StR w1 p s mb L := (HS.out.below ((Below.refl _ _).alloc (Nat.le_refl _) _)).kept (T := fun i => i = g0) (Off.of_grown hgrow1 (fun i e => (Option.some.inj e).symm)) (fun i hi e => by have := HOWN.out i hi; omega)
           have HW1 := Lib.hid hs1
           have HN1 := Lib.hid hn1
           have HB1 : Hid (Below g0 w w1) := (((HB.out.mono (Nat.le_of_eq HG.out.symm)).alloc (by have := HS1.out; omega) _).grown hgrow1 (by have := HS1.out; simp; omega) (fun i e => Nat.le_of_eq (Option.some.inj e)))
           clear hown1 hgrow1 hnil1 hn1 hs1)
        | (go_at_call 15; (with_reducible refine (HRD.out w1 g1 c1 HW1.out HN1.out).mono ?_); rintro e3 w3 ⟨rfl, hb3⟩
           have HB3 : Hid (Below g0 w w3) := HB1.out.trans (hb3.mono (by have := HB1.out.size; have := HG.out; omega))
           have c5 := (blk_cells (HW1.out.below hb3).blk).1.2.2.2.2.2
           have hlk := HLK.out w3 (HW1.out.below hb3)
           clear hb3))
      go_ret
      exact ⟨ret_int HF2.out.symm, HB3.out⟩
    · go_enter Tryz.func50, Tryz.ntmps50
      go_wp2_with (first
        | (at_builtin; refine wpList_append_own _ rfl _ _ 85 rfl g0 9 i0 _ 1 16 Tryz.underlying85 hi0 hz0 hz1 hz2 rfl (by decide) _ _ _ rfl (HO.out.alloc _) ⟨W.heap.size, 0, none⟩ 1 1 [.string k] rfl rfl (World.news_of_block (cs := #[.string k]) (t := 9) (fr := (0, 0)) (heap_alloc_new _ _)) (by simp [Value.oneCell']) (by decide) (by decide) (by have := HS1.out; simp; omega) ?_; intro v1 w1 hown1 hgrow1 hnil1
           obtain ⟨g1, c1, hv1, hn1⟩ := nrow_own (ns := [tn, k]) hown1 (Nat.succ_pos _)
           have hv1 : v1 = .slice (some ⟨g1, 0, none⟩) 2 c1 := hv1
           subst hv1
           have hs1 : StR w1 p s mb L := (HS.out.below ((Below.refl _ _).alloc (Nat.le_refl _) _)).kept (T := fun i => i = g0) (Off.of_grown hgrow1 (fun i e => (Option.some.inj e).symm)) (fun i hi e => by have := HOWN.out i hi; omega)
           have HW1 := Lib.hid hs1
           have HN1 := Lib.hid hn1
           have HB1 : Hid (Below g0 w w1) := (((HB.out.mono (Nat.le_of_eq HG.out.symm)).alloc (by have := HS1.out; omega) _).grown hgrow1 (by have := HS1.out; simp; omega) (fun i e => Nat.le_of_eq (Option.some.inj e)))
           clear hown1 hgrow1 hnil1 hn1 hs1)
        | (go_at_call 15; (with_reducible refine (HRD.out w1 g1 c1 HW1.out HN1.out).mono ?_); rintro e3 w3 ⟨rfl, hb3⟩
           have HB3 : Hid (Below g0 w w3) := HB1.out.trans (hb3.mono (by have := HB1.out.size; have := HG.out; omega))
           have c5 := (blk_cells (HW1.out.below hb3).blk).1.2.2.2.2.2
           have hlk := HLK.out w3 (HW1.out.below hb3)
           clear hb3))
      go_ret
      exact ⟨ret_int HF2.out.symm, HB3.out⟩
  · have hrb : (r != 0) = true := by simpa using hr0
    have HF2 : Hid (fnd s.d L k [tn, k] = r) := by
      show _ = _
      rw [HF.out, if_pos hr0]
    clear HF
    go_enter Tryz.func50, Tryz.ntmps50
    go_wp2_with (first
      | (at_builtin; refine wpList_append_own _ rfl _ _ 85 rfl g0 9 i0 _ 1 16 Tryz.underlying85 hi0 hz0 hz1 hz2 rfl (by decide) _ _ _ rfl (HO.out.alloc _) ⟨W.heap.size, 0, none⟩ 1 1 [.string k] rfl rfl (World.news_of_block (cs := #[.string k]) (t := 9) (fr := (0, 0)) (heap_alloc_new _ _)) (by simp [Value.oneCell']) (by decide) (by decide) (by have := HS1.out; simp; omega) ?_; intro v1 w1 hown1 hgrow1 hnil1
         obtain ⟨g1, c1, hv1, hn1⟩ := nrow_own (ns := [tn, k]) hown1 (Nat.succ_pos _)
         have hv1 : v1 = .slice (some ⟨g1, 0, none⟩) 2 c1 := hv1
         subst hv1
         have hs1 : StR w1 p s mb L := (HS.out.below ((Below.refl _ _).alloc (Nat.le_refl _) _)).kept (T := fun i => i = g0) (Off.of_grown hgrow1 (fun i e => (Option.some.inj e).symm)) (fun i hi e => by have := HOWN.out i hi; omega)
         have HW1 := Lib.hid hs1
         have HN1 := Lib.hid hn1
         have HB1 : Hid (Below g0 w w1) := (((HB.out.mono (Nat.le_of_eq HG.out.symm)).alloc (by have := HS1.out; omega) _).grown hgrow1 (by have := HS1.out; simp; omega) (fun i e => Nat.le_of_eq (Option.some.inj e)))
         clear hown1 hgrow1 hnil1 hn1 hs1)
      | (go_at_call 15; (with_reducible refine (HRD.out w1 g1 c1 HW1.out HN1.out).mono ?_); rintro e3 w3 ⟨rfl, hb3⟩
         have HB3 : Hid (Below g0 w w3) := HB1.out.trans (hb3.mono (by have := HB1.out.size; have := HG.out; omega))
         have c5 := (blk_cells (HW1.out.below hb3).blk).1.2.2.2.2.2
         have hlk := HLK.out w3 (HW1.out.below hb3)
         clear hb3))
    go_ret
    exact ⟨ret_int HF2.out.symm, HB3.out⟩
end Go.Proofs.YtklngdmpledgeaaGreat.Sr
