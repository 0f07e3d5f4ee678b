/-
  The contracts of Send and New. Conditions: those of the network; at most five thousand packets.
-/
import Derived.Test.YtnekjbdogdghnaaNSnd2
namespace Go.Proofs.Ytnekjbdogdghnaa.Ne
open Go.RowKit Go.Conc Bx
open Fr (BAt bok bv)

def sendL (R : Nat) (ls : List (List V)) (d : Int) (ts : List (List Int)) : List (List V) := match wayF ls d with
  | some l => ls.set d.toNat (l ++ news (ts.take (sendK R l ts.length)))
  | none => ls
def sendN (R : Nat) (ls : List (List V)) (d : Int) (m : Nat) : Nat := match wayF ls d with
  | some l => sendK R l m
  | none => 0
theorem SFr.any {n0 : Nat} {w w1 : World} {u : Value} {ts : List (List Int)} (h : SFr n0 w u ts) (hb : Below w.heap.size w w1) : SFr w1.heap.size w1 u ts := by
  have f : ∀ k, Free n0 w k → Free w1.heap.size w1 k := fun k hk => ⟨Nat.lt_of_lt_of_le hk.1 hb.size, fun ⟨x, _⟩ => by have := hk.1; have := hb.size; omega⟩
  obtain ⟨A, c, h1, h2, h3⟩ := h
  refine ⟨A, c, h1, h2, fun hp => ?_⟩
  obtain ⟨g, o, h4, h5, h6⟩ := h3 hp
  refine ⟨g, o, h4, f _ h5, fun i l hi => ?_⟩
  obtain ⟨u, h7, A', c', h8, h9, h10, h11⟩ := h6 i l hi
  refine ⟨u, (hb.cell (p := ⟨g, o + i, none⟩) h5.1).trans h7, A', c', h8, h9, h10, fun hp => ?_⟩
  obtain ⟨g', o', k1, k2, k3⟩ := h11 hp
  exact ⟨g', o', k1, f _ k2, fun i hi => (hb.cell (p := ⟨g', o' + i, none⟩) k2.1).trans (k3 i hi)⟩
section
variable {n0 p R g cp : Nat} {w w' : World} {ls : List (List V)} {lost : Int} {arr : Array Value} {bs : List (Nat × Nat)}
set_option maxRecDepth 100000 in
theorem nSend_nil (w : World) (d : Int) (A : Option Addr) (m c : Nat) (ts : List (List Int)) (hm : ts.length = m) (hs : SFr n0 w (.slice A m c) ts) : Calls Try.prog 12 #[.pointer none, .int .i64 d, .slice A m c] w fun e w' => e = .returned (.int .i64 0) ∧ Below w.heap.size w w' := by
  have HS : Hid (∀ W, Below w.heap.size w W → Calls Try.prog 30 #[.agg #[.pointer none], .slice A m c] W fun e w' => e = .returned (.int .i64 0) ∧ Below W.heap.size W w') := fun W hW => wsend_nil W A m c ts hm (hs.any hW)
  clear hs hm
  go_enter Try.func12, Try.ntmps12
  go_wp2_with (first
    | (go_at_call 29; refine (way_nil _ _).mono ?_; rintro e w1 ⟨rfl, k1⟩)
    | (go_at_call 30; refine (HS.out _ k1).mono ?_; rintro e w2 ⟨rfl, k2⟩)
    | (go_at_call 31; refine (lose_nil _ _).mono ?_; rintro e w3 ⟨rfl, rfl⟩))
  go_ret
  exact ⟨rfl, k1.trans (k2.mono k1.size)⟩
set_option maxRecDepth 100000 in
theorem nSend_any (h : NetB n0 w p R ls lost g cp arr bs) (d : Int) (A : Option Addr) (m c : Nat) (ts : List (List Int)) (hm : ts.length = m) (hs : SFr n0 w (.slice A m c) ts) (hn : m ≤ 5000) (h1 : -4611686018427387904 ≤ lost) (h2 : lost ≤ 4611686018427387904) : Calls Try.prog 12 #[.pointer (some ⟨p, 0, none⟩), .int .i64 d, .slice A m c] w fun e w' => e = .returned (.int .i64 ((sendN R ls d m : Nat) : Int)) ∧ NetB n0 w' p R (sendL R ls d ts) (lost + ((m : Int) - (sendN R ls d m : Nat))) g cp arr bs ∧ Ch n0 w w' := by
  obtain ⟨x, hx⟩ : ∃ x, x = Value.agg #[.pointer (match wayF ls d with | some _ => (bs[d.toNat]?).map (fun b => (⟨b.1, 0, none⟩ : Addr)) | none => none)] := ⟨_, rfl⟩
  have hk : sendN R ls d m ≤ m := by
    unfold sendN
    split
    · unfold sendK; omega
    · omega
  have HW : Hid (Calls Try.prog 29 #[.pointer (some ⟨p, 0, none⟩), .int .i64 d] w fun e w' => e = .returned x ∧ Below w.heap.size w w') := by
    show Calls _ _ _ _ _
    cases hw : wayF ls d with
    | none =>
      rw [hw] at hx
      rw [hx]; exact way_no h hw
    | some l =>
      obtain ⟨i, rfl, hl, hi⟩ := wayF_some hw
      obtain ⟨b, hb, _⟩ := h.at_ hl
      rw [hw] at hx
      simp only [Int.toNat_natCast, hb, Option.map_some] at hx
      rw [hx]; exact way_yes h hb
  have HS : Hid (∀ W, Below w.heap.size w W → Calls Try.prog 30 #[x, .slice A m c] W fun e w' => e = .returned (.int .i64 ((sendN R ls d m : Nat) : Int)) ∧ NetB n0 w' p R (sendL R ls d ts) lost g cp arr bs ∧ Ch n0 W w') := fun W hW => by
    cases hw : wayF ls d with
    | none =>
      rw [hw] at hx
      rw [hx, show sendN R ls d m = 0 by unfold sendN; rw [hw], show sendL R ls d ts = ls by unfold sendL; rw [hw]]
      exact (wsend_nil W A m c ts hm (hs.any hW)).mono fun e w' ⟨a, b⟩ => ⟨a, (h.below hW).below b, .of_below b⟩
    | some l =>
      obtain ⟨i, rfl, hl, hi⟩ := wayF_some hw
      obtain ⟨b, hb, _⟩ := h.at_ hl
      rw [hw] at hx
      simp only [Int.toNat_natCast, hb, Option.map_some] at hx
      rw [hx, show sendN R ls (i : Int) m = sendK R l m by unfold sendN; rw [hw], show sendL R ls (i : Int) ts = ls.set i (l ++ news (ts.take (sendK R l m))) by unfold sendL; rw [hw, hm]; simp]
      exact wsend_yes (h.below hW) hb hl A m c ts hm (hs.ch (.of_below hW)) hn
  obtain ⟨k, hkk⟩ : ∃ k, k = sendN R ls d m := ⟨_, rfl⟩
  obtain ⟨ls', hls⟩ : ∃ l, l = sendL R ls d ts := ⟨_, rfl⟩
  rw [← hkk] at HS hk ⊢
  rw [← hls] at HS ⊢
  have e1 : IntKind.wrap .i64 ((m : Int) - (k : Int)) = (m : Int) - (k : Int) := by rw [IntKind.wrap_i64]; omega
  have HL : Hid (∀ W, NetB n0 W p R ls' lost g cp arr bs → Calls Try.prog 31 #[.pointer (some ⟨p, 0, none⟩), .int .i64 ((m : Int) - (k : Int))] W fun e w' => e = .returned (.tuple #[]) ∧ NetB n0 w' p R ls' (lost + ((m : Int) - (k : Int))) g cp arr bs ∧ Ch n0 W w') := fun W hW => lose_any hW _ h1 h2 (by omega)
  clear h hs hx hkk hls h1 h2 hm
  go_enter Try.func12, Try.ntmps12
  go_wp2_with (first
    | (go_at_call 29; refine HW.out.mono ?_; rintro e w1 ⟨rfl, k1⟩; have K1 := Lib.hid k1; clear k1)
    | (go_at_call 30; refine (HS.out _ K1.out).mono ?_; rintro e w2 ⟨rfl, n2, c2⟩; have N2 := Lib.hid n2; have C2 := Lib.hid c2; clear n2 c2)
    | (go_at_call 31; refine (HL.out _ N2.out).mono ?_; rintro e w3 ⟨rfl, n3, c3⟩; have N3 := Lib.hid n3; have C3 := Lib.hid c3; clear n3 c3))
  go_ret
  exact ⟨rfl, N3.out, ((Ch.of_below K1.out).trans C2.out).trans C3.out⟩
end
/-! ### New -/
def kindB : Obj → Prop
  | .chan .. => True
  | .cells _ t _ => t = 83 ∨ t = 65
  | _ => False
theorem BoxR.keepB {n0 b c cap : Nat} {w w' : World} {l : List V} (h : BoxR n0 w b c cap l) (hk : ∀ (k : Nat) (o : Obj), w.heap[k]? = some o → kindB o → w'.heap[k]? = some o) : BoxR n0 w' b c cap l := by
  obtain ⟨s, r, q, h0, h1, h2, h3, h4, h5⟩ := h
  exact ⟨s, r, q, h0, h1, h2, hk _ _ h3 (.inl rfl), hk _ _ h4 trivial, fun e he => ⟨(h5 e he).1, hk _ _ (h5 e he).2 (.inr rfl)⟩⟩
theorem BoxR.ge {n0 n1 b c cap : Nat} {w : World} {l : List V} (h : BoxR n1 w b c cap l) (hn : n0 ≤ n1) : BoxR n0 w b c cap l := by
  obtain ⟨s, r, q, h0, h1, h2, h3, h4, h5⟩ := h
  exact ⟨s, r, q, h0, by omega, by omega, h3, h4, fun e he => ⟨by have := (h5 e he).1; omega, (h5 e he).2⟩⟩
theorem wayInf : (Try.prog.info? 67).map (fun i => (i.zero, i.size, i.bytes)) = some (some (.agg #[.pointer none]), 1, 8) := by kernel_rfl
/-- A network that is being made. -/
structure MkR (w wx : World) (R : Nat) (v : Value) (bs : List (Nat × Nat)) : Prop where
  own : wx.ownsRow w.heap.size 67 1 v bs.length (bs.map fun b => .pointer (some ⟨b.1, 0, none⟩))
  blk : wx.heap[w.heap.size]? = some (.cells #[v, .int .i64 0] 60 (0, 0))
  box : ∀ b ∈ bs, BoxR w.heap.size wx b.1 b.2 R []
  dis : bs.Pairwise fun a b => a.2 ≠ b.2
  bel : Below w.heap.size w wx
theorem MkR.app {w wx W1 : World} {R : Nat} {v : Value} {bs : List (Nat × Nat)} (h : MkR w wx R v bs) (hn : bs.length ≤ 5) {b c : Nat} (hx : BoxR wx.heap.size W1 b c R []) (hb : Below wx.heap.size wx W1) :
    ∃ A q W2, (∀ ty, (Builtin.append_ #[58, 58] ty #[v, .slice (some ⟨W1.heap.size, 0, none⟩) 1 1]).run Try.prog (W1.alloc (.cells #[.pointer (some ⟨b, 0, none⟩)] 67)) = .ok (.slice A (bs.length + 1) q) W2) ∧ (W2.heap[w.heap.size]? = some (.cells #[v, .int .i64 0] 60 (0, 0))) ∧ MkR w (W2.setCell ⟨w.heap.size, 0, none⟩ (.slice A (bs.length + 1) q)) R (.slice A (bs.length + 1) q) (bs ++ [(b, c)]) := by
  obtain ⟨i0, hi0, hz0, hz1, hz2⟩ := info_parts wayInf
  have hal : Below W1.heap.size W1 (W1.alloc (.cells #[.pointer (some ⟨b, 0, none⟩)] 67)) := (Below.refl _ _).alloc (Nat.le_refl _) _
  have hal2 := hb.trans (hal.mono hb.size)
  have hnew := block_new W1 (.cells #[.pointer (some ⟨b, 0, none⟩)] 67)
  have hcell : ∀ j x, ([.pointer (some ⟨b, 0, none⟩)] : List Value)[j]? = some x → (W1.alloc (.cells #[.pointer (some ⟨b, 0, none⟩)] 67)).cell? ((⟨W1.heap.size, 0, none⟩ : Addr).add j) = some x := by
    intro j x hj
    match j, hj with
    | 0, hj => cases hj; exact (block_cell hnew).1
  have own' := own_below h.own hal2
  have hrun := fun ty => run_append_own (P := Try.prog) (W1.alloc (.cells #[.pointer (some ⟨b, 0, none⟩)] 67)) w.heap.size 58 ty 67 i0 _ 1 _ Try.underlying58 hi0 hz0 hz1 hz2 (by decide) (by decide) v bs.length _ own' ⟨W1.heap.size, 0, none⟩ 1 1 [.pointer (some ⟨b, 0, none⟩)] rfl hcell (fun x hx => by
    simp at hx
    rw [hx]; rfl) (by unfold maxLen; omega) (by omega) (Nat.le_trans h.bel.size hal2.size)
  obtain ⟨v', W2, hr, ho, hg, _⟩ := hrun 58
  obtain ⟨A, q, h2, _⟩ := own_form ho
  subst h2
  have hk : ∀ (k : Nat) (cs : Array Value) (t : TypeId) (fr : Nat × Nat), wx.heap[k]? = some (.cells cs t fr) → t ≠ 67 → W2.heap[k]? = some (.cells cs t fr) := fun k cs t fr hk ht => by
    have h3 := block_kept hk hal2
    refine (hg.block k (Array.getElem?_eq_some_iff.1 h3).1 (fun e => ?_)).trans h3
    rcases own'.2 with ⟨h4, _⟩ | ⟨g, cap, cur, h4, _, h5, _⟩
    · rw [h4] at e; cases e
    · rw [h4] at e
      cases e
      rw [h5] at h3
      simp only [Option.some.injEq, Obj.cells.injEq] at h3
      exact ht h3.2.1.symm
  have hkc : ∀ (k : Nat) (o : Obj), (W1.alloc (.cells #[.pointer (some ⟨b, 0, none⟩)] 67)).heap[k]? = some o → kindB o → W2.heap[k]? = some o := fun k o ho hk => by
    refine (hg.block k (Array.getElem?_eq_some_iff.1 ho).1 (fun e => ?_)).trans ho
    rcases own'.2 with ⟨h4, _⟩ | ⟨g, cap, cur, h4, _, h5, _⟩
    · rw [h4] at e; cases e
    · rw [h4] at e
      cases e
      rw [h5] at ho
      cases ho
      have h6 : 67 = 83 ∨ 67 = 65 := hk
      revert h6; decide
  have hblk := hk _ _ _ _ h.blk (by decide)
  have hs : ∀ (k : Nat) (o : Obj), W2.heap[k]? = some o → k ≠ w.heap.size → (W2.setCell ⟨w.heap.size, 0, none⟩ (.slice A (bs.length + 1) q)).heap[k]? = some o := fun k o ho hk => (Deep.blk_setCell_other _ _ _ _ hk).trans ho
  have hsb : ∀ (k : Nat) (o : Obj), W2.heap[k]? = some o → kindB o → (W2.setCell ⟨w.heap.size, 0, none⟩ (.slice A (bs.length + 1) q)).heap[k]? = some o := fun k o ho hk => hs k o ho (fun e => by
    rw [e, hblk] at ho
    cases ho
    have h6 : 60 = 83 ∨ 60 = 65 := hk
    revert h6; decide)
  have hbw : Below w.heap.size w W2 := ((h.bel.trans (hal2.mono h.bel.size))).grown hg (Nat.le_trans h.bel.size hal2.size) (fun k hk => (own'.lt k hk).1)
  refine ⟨A, q, W2, fun ty => hr, hblk, ⟨?_, ?_, fun x hx' => ?_, ?_, hbw.setCell (Nat.le_refl _) _⟩⟩
  · rw [List.length_append, List.length_singleton, List.map_append]
    obtain ⟨h4, h5⟩ := ho
    refine ⟨h4, ?_⟩
    rcases h5 with h5 | ⟨g, cap, cur, h6, h7, h8, h9⟩
    · exact .inl h5
    · exact .inr ⟨g, cap, cur, h6, h7, hs _ _ h8 (fun e => by
        rw [e, hblk] at h8
        simp only [Option.some.injEq, Obj.cells.injEq] at h8
        exact absurd h8.2.1 (by decide)), h9⟩
  · simp [World.setCell, Array.getElem?_modify, hblk]
  · rcases List.mem_append.1 hx' with h3 | h3
    · exact BoxR.keepB ((h.box x h3).kept hal2) fun k o ho hk => hsb k o (hkc k o ho hk) hk
    · rw [List.mem_singleton.1 h3]
      exact BoxR.keepB (BoxR.ge (hx.kept hal) h.bel.size) fun k o ho hk => hsb k o (hkc k o ho hk) hk
  · refine List.pairwise_append.2 ⟨h.dis, List.pairwise_singleton _ _, fun x h3 y h4 => ?_⟩
    rw [List.mem_singleton.1 h4]
    have h5 := (h.box x h3).lt.2.2
    have h6 := hx.lt.2.1
    show x.2 ≠ c
    omega
/-- So it is a network on which nothing is on its way. -/
theorem MkR.net {w wx : World} {R : Nat} {v : Value} {bs : List (Nat × Nat)} (h : MkR w wx R v bs) (h1 : 1 ≤ bs.length) (h2 : bs.length ≤ 3) (hR : R ≤ 1000) : ∃ g cp arr, NetB w.heap.size wx w.heap.size R (List.replicate bs.length []) 0 g cp arr bs := by
  rcases h.own.2 with ⟨_, h3⟩ | ⟨g, cap, cur, h3, h4, h5, h6, _, h7, h8⟩
  · omega
  · refine ⟨g, cap, cur, by simp, ⟨Nat.le_refl _, h4⟩, ?_, h5, ⟨hR, by simpa using h2, by simpa using h6⟩, fun i b hb => ?_, fun i b l hb hl => ?_, fun i j b b' hb hb' hne => ?_⟩
    · rw [List.length_replicate, ← h3]; exact h.blk
    · have hi := (List.getElem?_eq_some_iff.1 hb).1
      have := congrArg (fun x => x[i]?) h8
      simp only [Nat.mul_one] at this
      rw [List.getElem?_take_of_lt hi, List.getElem?_map, hb] at this
      simpa using this
    · have hi := (List.getElem?_eq_some_iff.1 hb).1
      rw [List.getElem?_replicate, if_pos hi] at hl
      cases hl
      exact ⟨h.box b (List.mem_of_getElem? hb), Nat.zero_le _⟩
    · have hi := List.getElem?_eq_some_iff.1 hb
      have hj := List.getElem?_eq_some_iff.1 hb'
      have hp := List.pairwise_iff_getElem.1 h.dis
      rcases Nat.lt_or_ge i j with hlt | hge
      · have := hp i j hi.1 hj.1 hlt
        rwa [hi.2, hj.2] at this
      · have := hp j i hj.1 hi.1 (by omega)
        rw [hi.2, hj.2] at this
        exact fun e => this e.symm
set_option maxRecDepth 100000 in
theorem nNew_bad (w : World) (n R : Int) (h : ¬ (1 ≤ n ∧ n ≤ 3 ∧ 1 ≤ R ∧ R ≤ 1000)) : Calls Try.prog 8 #[.int .i64 n, .int .i64 R] w fun e w' => e = .returned (.tuple #[.pointer none, .int .i64 1]) ∧ w = w' := by
  by_cases t1 : n < 1
  · clear h
    go_enter Try.func8, Try.ntmps8
    go_wp2
    go_ret2
    exact ⟨rfl, rfl⟩
  · by_cases t2 : 3 < n
    · clear h
      go_enter Try.func8, Try.ntmps8
      go_wp2
      go_ret2
      exact ⟨rfl, rfl⟩
    · by_cases t3 : R < 1
      · clear h
        go_enter Try.func8, Try.ntmps8
        go_wp2
        go_ret2
        exact ⟨rfl, rfl⟩
      · have t4 : 1000 < R := by omega
        clear h
        go_enter Try.func8, Try.ntmps8
        go_wp2
        go_ret2
        exact ⟨rfl, rfl⟩
set_option maxRecDepth 100000 in
set_option maxHeartbeats 4000000 in
theorem nNew_any (w : World) (n R : Nat) (h1 : 1 ≤ n) (h2 : n ≤ 3) (h3 : 1 ≤ R) (h4 : R ≤ 1000) : Calls Try.prog 8 #[.int .i64 (n : Int), .int .i64 (R : Int)] w fun e w' => e = .returned (.tuple #[.pointer (some ⟨w.heap.size, 0, none⟩), .int .i64 0]) ∧ (∃ g cp arr bs, NetB w.heap.size w' w.heap.size R (List.replicate n []) 0 g cp arr bs) ∧ Below w.heap.size w w' := by
  have CN := Lib.hid (fun W => new_any W R h3 (by omega))
  have t1 : ¬ (n : Int) < 1 := by omega
  have t2 : ¬ (3 : Int) < (n : Int) := by omega
  have t3 : ¬ (R : Int) < 1 := by omega
  have t4 : ¬ (1000 : Int) < (R : Int) := by omega
  have H0 : Hid (MkR w (w.alloc (.cells #[.slice none 0 0, .int .i64 0] 60)) R (.slice none 0 0) []) := ⟨World.ownsRow_nil _ _ _ _, block_new _ _, fun b hb => absurd hb List.not_mem_nil, List.Pairwise.nil, (Below.refl _ _).alloc (Nat.le_refl _) _⟩
  have HH : Hid (1 ≤ n ∧ n ≤ 3 ∧ 1 ≤ R ∧ R ≤ 1000) := ⟨h1, h2, h3, h4⟩
  clear h1 h2 h3 h4
  go_enter Try.func8, Try.ntmps8
  go_wp2
  go_loopg [26] n (fun (gh : Nat) s26 wx => ∃ (j : Nat) (A : Option Addr) (c : Nat) (bs : List (Nat × Nat)), gh = n - j ∧ j ≤ n ∧ s26 = .int .i64 (j : Int) ∧ bs.length = j ∧ Hid (MkR w wx R (.slice A j c) bs))
  case atStart => exact ⟨0, none, 0, [], rfl, Nat.zero_le _, rfl, rfl, H0⟩
  case round =>
    clear H0
    obtain ⟨j, A, c, bs, rfl, hj, rfl, hl, HM⟩ := hrel
    by_cases hlt : j < n
    · have t5 : (j : Int) < (n : Int) := by omega
      have e1 : IntKind.i64.wrap ((j : Int) + 1) = ((j + 1 : Nat) : Int) := by rw [IntKind.wrap_i64]; have := HH.out; omega
      have HL := Lib.hid hl
      clear hl
      go_wp2_with (first
        | (have hq := HR.out 58; refine Lib.wpList_append_run _ rfl _ _ 58 58 rfl _ _ rfl rfl (.slice A2 (j + 1) q2) W2 hq ?_; clear hq; have z2 := (block_cell2 HZ.out).1.1; have f2 := (block_cell2 HZ.out).2.1)
        | (go_at_call 28; refine (CN.out _).mono ?_; rintro e w1 ⟨b1, c1, rfl, hx, k1⟩
           obtain ⟨A2, q2, W2, hr, hz, hm⟩ := HM.out.app (by have := HL.out; have := HH.out; omega) hx k1
           rw [HL.out] at hr hm
           have HR := Lib.hid hr
           have HZ := Lib.hid hz
           have HM2 := Lib.hid hm
           have z1 := fun o => (block_cell2 (block_old (block_kept HM.out.blk k1) o)).1.1
           have z0 := (block_cell2 (block_kept HM.out.blk k1)).1.1
           clear hr hz hm hx k1))
      go_roundg (n - (j + 1))
      case measure => omega
      case rel => exact ⟨j + 1, A2, q2, _, rfl, hlt, by first | rfl | go_num, by rw [List.length_append, HL.out]; rfl, HM2⟩
    · obtain rfl : j = n := by omega
      have t5 : ¬ (j : Int) < (j : Int) := by omega
      go_wp2
      go_ret2
      have hm := HM.out
      have hh := HH.out
      obtain ⟨g, cp, arr, hn⟩ := hm.net (by omega) (by omega) hh.2.2.2
      rw [hl] at hn
      exact ⟨rfl, ⟨g, cp, arr, bs, hn⟩, hm.bel⟩
end Go.Proofs.Ytnekjbdogdghnaa.Ne
