/-
  The contract of a box's All at packets: all of them as a row of the call's own; the box holds what it held. Conditions: the box is open.
-/
import Derived.Test.YtnekjbdogdghnaaNBox
namespace Go.Proofs.Ytnekjbdogdghnaa.Ne
open Go.RowKit Go.Conc Bx

/-- The cells of packets. -/
def pc (l : List V) : List Value := l.flatMap fun x => [.string x.1, .bool x.2]
theorem pc_app (l r : List V) : pc (l ++ r) = pc l ++ pc r := by simp [pc]
theorem pktInfo : (Try.prog.info? 65).map (fun i => (i.zero, i.size, i.bytes)) = some (some (.agg #[.string ByteArray.empty, .bool false]), 2, 24) := by kernel_rfl
theorem info_parts {t : TypeId} {z : Option Value} {n m : Nat} (h : (Try.prog.info? t).map (fun i => (i.zero, i.size, i.bytes)) = some (z, n, m)) : ∃ i, Try.prog.info? t = some i ∧ i.zero = z ∧ i.size = n ∧ i.bytes = m := by
  obtain ⟨i, hi, he⟩ := Option.map_eq_some_iff.1 h
  simp only [Prod.mk.injEq] at he
  exact ⟨i, hi, he.1, he.2.1, he.2.2⟩
theorem own_ne {w : World} {base b : Nat} {e : TypeId} {size n : Nat} {v : Value} {xs : List Value} (h : w.ownsRow base e size v n xs) (hb : b < base) : some b ≠ v.ownBlock := fun k => by
  have := (h.lt b k.symm).1
  omega

set_option maxRecDepth 100000 in
theorem all_nil (w : World) : Calls Try.prog 38 #[.pointer none] w fun e w' => ∃ g c, e = .returned (.slice (some ⟨g, 0, none⟩) 0 c) ∧ Below w.heap.size w w' := by
  have hl : ∀ W : World, (Builtin.len_ #[81] 3 #[.chan none]).run Try.prog W = .ok (.int .i64 0) W := fun W => by simp [Builtin.len_, run_underlying Try.underlying81]; rfl
  obtain ⟨i0, hi0, hz0, hz1, hz2⟩ := info_parts pktInfo
  go_enter Try.func38, Try.ntmps38
  go_wp2_with (first
    | (go_at_call 42; refine (chan_nil _).mono ?_; rintro e w1 ⟨rfl, rfl⟩)
    | (at_make; refine wpList_make_own _ rfl _ _ 79 rfl w.heap.size 65 i0 _ 2 Try.underlying79 hi0 hz0 hz1 .i64 .i64 0 0 rfl rfl (by omega) (by omega) (by unfold maxLen; omega) (Nat.le_refl _) ?_; intro w1 hown hgrow))
  refine wp_loop_rounds 1 ?_
  rw [rounds_succ]
  go_wp2
  go_ret
  exact ⟨_, _, rfl, hgrow.os, hgrow.tape, hgrow.output, hgrow.size, fun k hk => hgrow.block k hk (by simp)⟩
theorem ptrs_rot {q : List (Nat × V)} {i : Nat} {g : Nat} {x : V} (h : q[i]? = some (g, x)) :
    (ptrs (q.drop i ++ q.take i)).getD 0 undef = .pointer (some ⟨g, 0, none⟩) ∧ (ptrs (q.drop i ++ q.take i)).extract 1 (ptrs (q.drop i ++ q.take i)).size = ptrs (q.drop (i + 1) ++ q.take i) ∧
      (ptrs (q.drop (i + 1) ++ q.take i)).push (.pointer (some ⟨g, 0, none⟩)) = ptrs (q.drop (i + 1) ++ q.take (i + 1)) := by
  obtain ⟨hlt, he⟩ := List.getElem?_eq_some_iff.1 h
  have h1 : q.drop i = (g, x) :: q.drop (i + 1) := by rw [List.drop_eq_getElem_cons hlt, he]
  have h2 : q.take (i + 1) = q.take i ++ [(g, x)] := by rw [List.take_succ_eq_append_getElem hlt, he]
  refine ⟨?_, ?_, ?_⟩
  · rw [h1]; simp [ptrs]
  · rw [h1]
    unfold ptrs
    simp only [List.cons_append, List.map_cons, List.size_toArray, List.length_cons, List.length_map, List.extract_toArray, List.extract_eq_take_drop, List.drop_succ_cons, List.drop_zero, Nat.add_sub_cancel]
    rw [List.take_of_length_le (by simp)]
  · rw [h2]; simp [ptrs]

set_option maxRecDepth 100000 in
set_option maxHeartbeats 2000000 in
theorem all_q (n0 : Nat) (w : World) (b c cap s r : Nat) (l : List V) (q : List (Nat × V)) (h0 : q.map Prod.snd = l) (h3 : w.heap[b]? = some (.cells #[.chan (some c), .bool false] 83 (0, 0))) (h4 : w.heap[c]? = some (.chan cap (ptrs q) false s r false)) (h5 : ∀ e ∈ q, n0 ≤ e.1 ∧ w.heap[e.1]? = some (.cells (ec e.2) 65 (0, 0))) (hl : l.length ≤ cap) (hcap : cap ≤ 5000) : Calls Try.prog 38 #[.pointer (some ⟨b, 0, none⟩)] w fun e w' =>
    ∃ v, e = .returned v ∧ w'.ownsRow w.heap.size 65 2 v l.length (pc l) ∧ (∃ s r, w'.heap[c]? = some (.chan cap (ptrs q) false s r false)) ∧ w.grownBy w' (some c) := by
  have hq : q.length = l.length := by rw [← h0]; simp
  have hlc := (Array.getElem?_eq_some_iff.1 h4).1
  have hl0 := fun (W : World) (hW : W.heap[c]? = w.heap[c]?) => run_len_chan (P := Try.prog) (w := W) 81 3 Try.underlying81 (hW.trans h4)
  rw [ptrs_size, hq] at hl0
  have H3 := Lib.hid h3
  have H4 := Lib.hid h4
  have H5 := Lib.hid h5
  have HQ := Lib.hid hq
  have H0 := Lib.hid h0
  have hla := hl0 w rfl
  clear h3 h4 h5 hq h0
  obtain ⟨i0, hi0, hz0, hz1, hz2⟩ := info_parts pktInfo
  go_enter Try.func38, Try.ntmps38
  go_wp2_with (first
    | (go_at_call 42; refine (chan_any _ _ _ _ H3.out).mono ?_; rintro e w1 ⟨rfl, rfl⟩)
    | (at_make; refine wpList_make_own _ rfl _ _ 79 rfl w.heap.size 65 i0 _ 2 Try.underlying79 hi0 hz0 hz1 .i64 .i64 (l.length : Int) l.length rfl rfl rfl (by rw [hz2]; omega) (by unfold maxLen; omega) (Nat.le_refl _) ?_; intro w1 hown hgrow; have hl1 := hl0 w1 (hgrow.block c hlc (by simp))))
  clear hla hl1 hl0
  have G1 : Hid (w.grownBy w1 (some c)) := ⟨hgrow.os, hgrow.tape, hgrow.output, hgrow.size, fun k hk _ => hgrow.block k hk (by simp)⟩
  have hc1 : Hid (w1.heap[c]? = some (.chan cap (ptrs q) false s r false)) := (hgrow.block c hlc (by simp)).trans H4.out
  have HO := Lib.hid hown
  clear hown hgrow
  go_loopg [4, 14] l.length (fun (gh : Nat) s4 s14 wx => ∃ i s r, gh = l.length - i ∧ i ≤ l.length ∧ s14 = .int .i64 ((i : Nat) : Int) ∧ Hid (wx.heap[c]? = some (.chan cap (ptrs (q.drop i ++ q.take i)) false s r false)) ∧ Hid (w.grownBy wx (some c)) ∧ Hid (wx.ownsRow w.heap.size 65 2 s4 i (pc (l.take i))))
  case atStart =>
    refine ⟨0, s, r, rfl, Nat.zero_le _, rfl, ?_, G1, HO⟩
    show _ = _
    simpa using hc1.out
  case round =>
    clear hc1 G1 HO
    obtain ⟨i, s, r, rfl, hi, rfl, hc, hg, ho⟩ := hrel
    by_cases hlt : i < l.length
    · have t1 : (i : Int) < (l.length : Int) := by omega
      obtain ⟨⟨g, x1, x2⟩, hqi⟩ : ∃ e, q[i]? = some e := ⟨_, List.getElem?_eq_getElem (by rw [HQ.out]; exact hlt)⟩
      obtain ⟨p1, p2, p3⟩ := ptrs_rot hqi
      have hel := H5.out (g, x1, x2) (List.mem_of_getElem? hqi)
      have hge : g ≠ c := fun e => by have := hel.2; rw [e, H4.out] at this; simp at this
      have hxl : Hid (pc (l.take (i + 1)) = pc (l.take i) ++ [.string x1, .bool x2]) := by
        show _ = _
        have e : l[i]? = some (x1, x2) := by rw [← H0.out, List.getElem?_map, hqi]; rfl
        obtain ⟨_, e⟩ := List.getElem?_eq_some_iff.1 e
        rw [List.take_succ_eq_append_getElem hlt, e, pc_app]
        rfl
      have hsz : Hid ((ptrs (q.drop (i + 1) ++ q.take i)).size < cap) := by
        show _ < _
        rw [ptrs_size, List.length_append, List.length_drop, List.length_take, HQ.out]
        omega
      have hr := recv_some wr c cap s r _ false false hc.out (by rw [ptrs_size, List.length_append, List.length_drop, List.length_take, HQ.out]; omega) _ p1
      rw [p2] at hr
      obtain ⟨W1, hW1⟩ : ∃ W1, W1 = wr.setChan c cap (ptrs (q.drop (i + 1) ++ q.take i)) false s (r + 1) false := ⟨_, rfl⟩
      have gW : Hid (wr.grownBy W1 (some c)) := by rw [hW1]; exact grownBy_setChan (grownBy_refl _ _) _ _ _ _ _ _
      have cW : Hid (W1.heap[c]? = some (.chan cap (ptrs (q.drop (i + 1) ++ q.take i)) false s (r + 1) false)) := by
        show _ = _
        rw [hW1]
        exact heap_setChan _ _ _ _ _ _ _ _ (Nat.lt_of_lt_of_le hlc hg.out.size)
      have oW : Hid (W1.ownsRow w.heap.size 65 2 u4 i (pc (l.take i))) := ho.out.kept gW.out (.inr (own_ne ho.out hlc).symm)
      have zW : w.heap.size ≤ W1.heap.size := Nat.le_trans hg.out.size gW.out.size
      obtain ⟨⟨cell0, cell1⟩, _⟩ := block_cell2 (block_grown (block_grown hel.2 hg.out hge) gW.out hge)
      rw [← hW1] at hr
      have HR := Lib.hid (hr.mono (R' := fun e w' => e = .returned (.tuple #[.pointer (some ⟨g, 0, none⟩), .bool true]) ∧ W1 = w') fun e w' h => ⟨h.1, h.2.symm⟩)
      clear hW1 hr hel hqi p1 p2
      have P3 := Lib.hid p3
      clear p3
      go_wp2_with (first
        | (go_at_call 41; refine HR.out.mono ?_; rintro e w1 ⟨rfl, rfl⟩)
        | (at_builtin; refine wpList_append_own _ rfl _ _ 79 rfl w.heap.size 65 i0 _ 2 24 Try.underlying79 hi0 hz0 hz1 hz2 rfl (by decide) _ _ _ rfl (oW.out.alloc _) ⟨W1.heap.size, 0, none⟩ 1 1 [.string x1, .bool x2] rfl rfl (World.news_of_block (cs := #[.string x1, .bool x2]) (t := 65) (fr := (0, 0)) (heap_alloc_new W1 _)) (by simp [Value.oneCell']) (by unfold maxLen; omega) (by omega) (by simp; omega) ?_; intro v' w4 hown hgrow _
           have hc4 : Hid (w4.heap[c]? = some (.chan cap (ptrs (q.drop (i + 1) ++ q.take i)) false s (r + 1) false)) := (hgrow.block c (by simp; omega) (own_ne oW.out hlc)).trans (block_old cW.out _)
           have hg4 : Hid (w.grownBy w4 (some c)) := ⟨hgrow.os.trans (gW.out.os.trans hg.out.os), hgrow.tape.trans (gW.out.tape.trans hg.out.tape), hgrow.output.trans (gW.out.output.trans hg.out.output), Nat.le_trans zW (Nat.le_trans (by simp) hgrow.size), fun k hk hn => (hgrow.block k (by simp; omega) (own_ne oW.out hk)).trans ((Below.heap_alloc _ _ _ (by omega)).trans ((gW.out.block k (Nat.lt_of_lt_of_le hk hg.out.size) hn).trans (hg.out.block k hk hn)))⟩
           have HO4 := Lib.hid hown)
        | (go_at_call 43; refine (send_room w4 c cap s (r + 1) _ false _ hc4.out hsz.out).mono ?_; rintro e w5 ⟨rfl, rfl⟩))
      go_roundg (l.length - (i + 1))
      case measure => omega
      case rel =>
        refine ⟨i + 1, s + 1, r + 1, rfl, hlt, by go_num, ?_, ?_, ?_⟩
        · show _ = _
          rw [heap_setChan _ _ _ _ _ _ _ _ (Array.getElem?_eq_some_iff.1 hc4.out).1, P3.out]
        · exact grownBy_setChan hg4.out _ _ _ _ _ _
        · show World.ownsRow _ _ _ _ _ _ _
          rw [hxl.out]
          exact HO4.out.kept (grownBy_setChan (grownBy_refl _ _) _ _ _ _ _ _) (.inr (own_ne HO4.out hlc).symm)
    · have hil : i = l.length := by omega
      subst hil
      have t1 : decide ((l.length : Int) < (l.length : Int)) = false := by simp
      go_wp2
      go_ret
      have e1 : q.drop l.length ++ q.take l.length = q := by rw [← HQ.out]; simp
      have e2 : l.take l.length = l := by simp
      have hc' := hc.out
      have ho' := ho.out
      rw [e1] at hc'
      rw [e2] at ho'
      exact ⟨_, rfl, ho', ⟨s, r, hc'⟩, hg.out⟩
theorem all_any (n0 : Nat) (w : World) (b c cap : Nat) (l : List V) (h : BoxR n0 w b c cap l) (hl : l.length ≤ cap) (hcap : cap ≤ 5000) : Calls Try.prog 38 #[.pointer (some ⟨b, 0, none⟩)] w fun e w' =>
    ∃ v, e = .returned v ∧ w'.ownsRow w.heap.size 65 2 v l.length (pc l) ∧ BoxR n0 w' b c cap l ∧ w.grownBy w' (some c) := by
  obtain ⟨s, r, q, h0, h1, h2, h3, h4, h5⟩ := h
  exact (all_q n0 w b c cap s r l q h0 h3 h4 h5 hl hcap).mono fun e w' ⟨v, k1, k2, ⟨s', r', k3⟩, k4⟩ => ⟨v, k1, k2, box_of h1 h2 h3 h4 h5 k4 k3 (fun _ h => h) h0, k4⟩
end Go.Proofs.Ytnekjbdogdghnaa.Ne
