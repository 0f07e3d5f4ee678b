/-
  The reader's rows, told by a function. Conditions: none.
-/
import Derived.Test.YteahloddjekakaaDoorNM16
import Derived.Test.YteahloddjekakaaDoorNTo0
import Derived.Laws.AppendOwn
namespace Go.Proofs.YteahloddjekakaaDoor.Nt
open Go.RowKit Td

def rowF : Nat → Int → List Int → List Rw → Int × List Rw × List Int
  | 0, er, l, acc => (er, acc, l)
  | k + 1, er, l, acc => rowF k (numF (txtF 12 er l).1 (txtF 12 er l).2.2).1 (numF (txtF 12 er l).1 (txtF 12 er l).2.2).2.2 (acc ++ [((txtF 12 er l).2.1, (numF (txtF 12 er l).1 (txtF 12 er l).2.2).2.1)])
def rowsF (er : Int) (l : List Int) : Int × List Rw × List Int := rowF (cntF 32 er l).2.1.toNat (cntF 32 er l).1 (cntF 32 er l).2.2 []
theorem cnt_rng {er : Int} {l : List Int} : 0 ≤ (cntF 32 er l).2.1 ∧ (cntF 32 er l).2.1 ≤ 32 := by
  unfold cntF
  split
  · split
    · split
      · rename_i h
        exact ⟨by show (0 : Int) ≤ ((Oc.rg l).2.1 : Int); omega, h⟩
      · exact ⟨by show (0 : Int) ≤ 0; omega, by show (0 : Int) ≤ 32; omega⟩
    · exact ⟨by show (0 : Int) ≤ 0; omega, by show (0 : Int) ≤ 32; omega⟩
  · exact ⟨by show (0 : Int) ≤ 0; omega, by show (0 : Int) ≤ 32; omega⟩
theorem rapp_run (w : World) {P : Program} {ops : Array Oper} {o : Oper} {a : Act} {K : Act → World → Prop} {Q : Exit → Act → World → Prop} {E : Prop} (hgd : o.guard = none) (s x : Operand) (t tn : TypeId)
    (ho : o.op = .call { callee := .builtin .append, args := #[s, x], argTypes := #[t, tn] }) (vs vx : Value) (hs : a.eval s = vs) (hx : a.eval x = vx)
    (v' : Value) (w' : World) (hr : (Builtin.append_ #[t, tn] o.type #[vs, vx]).run P w = .ok v' w') (h : K (a.put o.dst v') w') :
    if Region.wanted o (yielded ops a.tmps) = true then Oper.wp P o a w K Q else E := by
  have hw : Region.wanted o (yielded ops a.tmps) = true := by simp [Region.wanted, hgd]
  rw [if_pos hw]
  exact Lib.wp_append_run w s x t tn ho vs vx hs hx v' w' hr h
theorem GS.grown {W0 W W' : World} {b B : Nat} {er : Int} {l : List Int} {v : Value} (S : GS W0 b er l W) (hg : W.grownBy W' v.ownBlock) (hv : ∀ j, v.ownBlock = some j → B ≤ j) (hb : b < B) (h0 : W0.heap.size ≤ B) : GS W0 b er l W' := by
  obtain ⟨u, h1⟩ := S.rd
  have hlt := h1.lt
  exact ⟨⟨u, h1.upto fun k hk => hg.block k (by omega) (fun e => by have := hv k e.symm; omega)⟩, ⟨hg.os.trans S.gr.os, hg.tape.trans S.gr.tape, hg.output.trans S.gr.output, Nat.le_trans S.gr.size hg.size, fun k hk hn => (hg.block k (Nat.lt_of_lt_of_le hk S.gr.size) (fun e => by have := hv k e.symm; omega)).trans (S.gr.block k hk hn)⟩⟩
/-- Rows of the call's own, in blocks from B on. -/
structure RO (W0 : World) (b B : Nat) (er : Int) (l : List Int) (v : Value) (acc : List Rw) (W : World) : Prop where
  gs : GS W0 b er l W
  own : W.ownsRow B 58 2 v acc.length (rcl acc)
  hb : b < B
  h0 : W0.heap.size ≤ B
  h1 : B ≤ W.heap.size
theorem RO.rd {W0 W W' : World} {b B : Nat} {er er' : Int} {l l' : List Int} {v : Value} {acc : List Rw} (S : RO W0 b B er l v acc W) (h : GS W b er' l' W') : RO W0 b B er' l' v acc W' :=
  ⟨S.gs.comp h, Oc.ownsRow_kept S.own (fun g hg => h.gr.block g (S.own.lt g hg).2 (fun e => by cases e; have := (S.own.lt _ hg).1; have := S.hb; omega)), S.hb, S.h0, Nat.le_trans S.h1 h.gr.size⟩
theorem RO.form {W0 W : World} {b B : Nat} {er : Int} {l : List Int} {v : Value} {acc : List Rw} (S : RO W0 b B er l v acc W) : ∃ A n c, v = .slice A n c := by
  rcases S.own.2 with ⟨h1, _⟩ | ⟨g, cap, _, h1, _⟩
  · exact ⟨none, 0, 0, h1⟩
  · exact ⟨_, _, cap, h1⟩
/-- A row behind them, that lies in a new block. -/
theorem RO.app {W0 W : World} {b B : Nat} {er : Int} {l : List Int} {v : Value} {acc : List Rw} (S : RO W0 b B er l v acc W) (hn : acc.length ≤ 1000) (s : ByteArray) (x : Int) :
    ∃ A n c w2, (Builtin.append_ #[29, 29] 29 #[v, .slice (some ⟨W.heap.size, 0, none⟩) 1 1]).run Tryd.prog (W.alloc (.cells #[.string s, .int .i64 x] 58)) = .ok (.slice A n c) w2 ∧ RO W0 b B er l (.slice A n c) (acc ++ [(s, x)]) w2 := by
  have S' : RO W0 b B er l v acc (W.alloc (.cells #[.string s, .int .i64 x] 58)) := S.rd (S.gs.base.al _)
  obtain ⟨i0, hi0, hz0, hz1, hz2⟩ := info_parts infoP
  have hnew := block_new W (.cells #[.string s, .int .i64 x] 58)
  have hcell : ∀ j u, ([Value.string s, .int .i64 x] : List Value)[j]? = some u → (W.alloc (.cells #[.string s, .int .i64 x] 58)).cell? ((⟨W.heap.size, 0, none⟩ : Addr).add j) = some u := by
    intro j u hj
    match j, hj with
    | 0, hj => cases hj; exact (row_cells hnew).1
    | 1, hj => cases hj; exact (row_cells hnew).2
  obtain ⟨v', w', hr, ho2, hg, _⟩ := run_append_own (P := Tryd.prog) _ B 29 29 58 i0 _ 2 _ Tryd.underlying29 hi0 hz0 hz1 hz2 (by decide) (by decide) v acc.length (rcl acc) S'.own ⟨W.heap.size, 0, none⟩ 1 1 [.string s, .int .i64 x] rfl hcell (fun u hu => rcl_one [(s, x)] u (by simpa [rcl] using hu)) (by unfold maxLen; omega) (by omega) S'.h1
  have hR : RO W0 b B er l v' (acc ++ [(s, x)]) w' := ⟨S'.gs.grown hg (fun j hj => (S'.own.lt j hj).1) S.hb S.h0, by rw [List.length_append, rcl_append]; exact ho2, S.hb, S.h0, Nat.le_trans S'.h1 hg.size⟩
  obtain ⟨A, n, c, rfl⟩ := hR.form
  exact ⟨A, n, c, w', hr, hR⟩

set_option maxRecDepth 100000 in
set_option maxHeartbeats 8000000 in
theorem rows_any {W0 w : World} {b : Nat} {er : Int} {l : List Int} (hS : GS W0 b er l w) (er' : Int) (rs : List Rw) (l' : List Int) (hf : rowsF er l = (er', rs, l')) :
    Calls Tryd.prog 77 #[.agg #[.pointer (some ⟨b, 0, none⟩)]] w fun e w' => ∃ A c, e = .returned (.slice A rs.length c) ∧ RO W0 b w.heap.size er' l' (.slice A rs.length c) rs w' := by
  obtain ⟨⟨e1, m, l1⟩, h1⟩ : ∃ a, cntF 32 er l = a := ⟨_, rfl⟩
  have hr := cnt_rng (er := er) (l := l)
  unfold rowsF at hf
  rw [h1] at hr hf
  obtain ⟨mn, hmn⟩ : ∃ mn : Nat, m = (mn : Int) := ⟨m.toNat, by have : 0 ≤ m := hr.1; omega⟩
  subst hmn
  have hm32 : mn ≤ 32 := by have : (mn : Int) ≤ 32 := hr.2; omega
  have hf1 : rowF mn e1 l1 [] = (er', rs, l') := hf
  have hbl : b < w.heap.size := by obtain ⟨v, hv⟩ := hS.rd; exact hv.lt
  have hne : w.heap.size ≠ b := by omega
  have E0 := block_new w (.cells #[.pointer (some ⟨b, 0, none⟩)] 89)
  have hsz : (w.alloc (.cells #[.pointer (some ⟨b, 0, none⟩)] 89)).heap.size = w.heap.size + 1 := by simp
  have HS1 := Lib.hid ((hS.al (.cells #[.pointer (some ⟨b, 0, none⟩)] 89)).base)
  have HC1 := Lib.hid (hS.al (.cells #[.pointer (some ⟨b, 0, none⟩)] 89))
  have HW0 : Hid (W0.heap.size ≤ w.heap.size) := hS.gr.size
  have HSZ := Lib.hid hsz
  have HNE := Lib.hid hne
  have HBL := Lib.hid hbl
  have H1 := Lib.hid h1
  have HF1 := Lib.hid hf1
  clear h1 hr hf hf1 hbl hne hsz hS
  go_enter Tryd.func77, Tryd.ntmps77
  go_upto_region 1 with fail
  have HE := Lib.hid E0
  generalize w.alloc _ = w1 at E0 HE HS1 HC1 HSZ ⊢
  obtain ⟨t1, ht1⟩ : ∃ t1, t1 = w.heap.size := ⟨_, rfl⟩
  rw [← ht1] at E0 HE HNE HSZ HBL HW0 ⊢
  have HTT := Lib.hid ht1
  clear ht1
  have c0 := (Oc.block_cell E0).1
  clear E0
  go_wp2_with (go_at_call 73; (with_reducible refine (GS.count HS1.out 32 (by omega) (by omega) H1.out).mono ?_); rintro e w2 ⟨rfl, s⟩; have S2 := Lib.hid s; clear s c0)
  go_loopg [3, 7] mn (fun (gh : Nat) s3 s7 wx => ∃ (i : Nat) (A : Option Addr) (n c : Nat) (acc : List Rw) (ei : Int) (li : List Int), gh = mn - i ∧ i ≤ mn ∧ s3 = .slice A n c ∧ s7 = .int .i64 (i : Int) ∧ Hid (acc.length = i ∧ rowF (mn - i) ei li acc = (er', rs, l')) ∧ Hid (RO w1 b w1.heap.size ei li (.slice A n c) acc wx))
  case atStart => exact ⟨0, none, 0, 0, [], e1, l1, rfl, Nat.zero_le _, rfl, rfl, ⟨rfl, HF1.out⟩, ⟨S2.out, World.ownsRow_nil _ _ _ _, by rw [HSZ.out]; have := HBL.out; omega, Nat.le_refl _, S2.out.gr.size⟩⟩
  case round =>
    clear S2 HS1
    obtain ⟨i, A, n, c, acc, ei, li, rfl, hi, rfl, rfl, hfi, hro⟩ := hrel
    have c0 := (Oc.block_cell (hro.out.gs.blk HE.out HNE.out)).1
    by_cases hlt : i < mn
    · have t1' : (i : Int) < (mn : Int) := by omega
      obtain ⟨⟨e2, s, l2⟩, h2⟩ : ∃ a, txtF 12 ei li = a := ⟨_, rfl⟩
      obtain ⟨⟨e3, x, l3⟩, h3⟩ : ∃ a, numF e2 l2 = a := ⟨_, rfl⟩
      have hnx : rowF (mn - (i + 1)) e3 l3 (acc ++ [(s, x)]) = (er', rs, l') := by
        have h4 := hfi.out.2
        rw [show mn - i = (mn - (i + 1)) + 1 by omega, rowF, h2] at h4
        dsimp only at h4
        rw [h3] at h4
        exact h4
      have HNX := Lib.hid (And.intro (show (acc ++ [(s, x)]).length = i + 1 by rw [List.length_append, hfi.out.1]; rfl) hnx)
      have H2 := Lib.hid h2
      have H3 := Lib.hid h3
      have G0 := Lib.hid hro.out.gs.base
      have HRO := Lib.hid hro.out
      have HAL : Hid (acc.length ≤ 1000) := by have := hfi.out.1; show _ ≤ _; omega
      have HC0 := Lib.hid (hro.out.gs.blk HE.out HNE.out)
      clear hfi hro h2 h3 hnx
      go_upto_region 4 with fail
      go_region_held3 (fun w' => w'.cell? ⟨t1, 0, none⟩ = some (.pointer (some ⟨b, 0, none⟩)))
        (first
          | (with_reducible exact (Oc.block_cell (S4.out.gs.blk HE.out HNE.out)).1)
          | (with_reducible exact (Oc.block_cell (G3.out.blk HC0.out HNE.out)).1)
          | (with_reducible exact (Oc.block_cell ((G3.out.al _).blk HC0.out HNE.out)).1)
          | (with_reducible exact (Oc.block_cell (G2.out.blk HC0.out HNE.out)).1)
          | (with_reducible exact (Oc.block_cell HC0.out).1)
          | (with_reducible exact c0)
          | go_keep)
        (first
          | (go_at_call 75; (with_reducible refine (GS.text (G0.out.kept (Below.refl _ _).drew) H2.out).mono ?_); rintro e w2 ⟨rfl, s2⟩; have G2 := Lib.hid s2; clear s2)
          | (go_at_call 76; (with_reducible refine (GS.number G2.out H3.out).mono ?_); rintro e w3 ⟨rfl, s3⟩; have G3 := Lib.hid s3; obtain ⟨A4, n4, c4, w4, hrun, s4⟩ := (HRO.out.rd s3).app HAL.out s x; have S4 := Lib.hid s4; clear s3 s4)
          | (refine rapp_run (w3.alloc (.cells #[.string s, .int .i64 x] 58)) (by rfl) (.tmp 9) (.tmp 17) 29 29 (by rfl) (.slice A n c) (.slice (some ⟨w3.heap.size, 0, none⟩) 1 1) (by rfl) (by rfl) (.slice A4 n4 c4) w4 hrun ?_))
      all_goals
        go_wp2_with fail
        go_roundg (mn - (i + 1))
        case measure => omega
        case rel => exact ⟨i + 1, _, _, _, _, _, _, rfl, hlt, rfl, by simp, HNX.out, S4.out⟩
    · obtain rfl : i = mn := by omega
      have t1' : ¬ (i : Int) < (i : Int) := by omega
      have hfin := hfi.out.2
      rw [Nat.sub_self, rowF] at hfin
      cases hfin
      have HRO := Lib.hid hro.out
      clear hfi hro
      go_wp2
      go_ret
      obtain ⟨A5, c5, h5, _, _⟩ := RR.of_own HRO.out.own
      cases h5
      exact ⟨_, _, rfl, HC1.out.comp HRO.out.gs, Oc.ownsRow_base HRO.out.own (by rw [HSZ.out, HTT.out]; omega), by rw [← HTT.out]; exact HBL.out, by rw [← HTT.out]; exact HW0.out, Nat.le_trans (by rw [HSZ.out, HTT.out]; omega) HRO.out.h1⟩
end Go.Proofs.YteahloddjekakaaDoor.Nt

namespace Go.Proofs.YteahloddjekakaaDoor.Nt
open Go.RowKit Td

theorem GS.wide_ok {W0 W : World} {b : Nat} {er : Int} {l : List Int} (S : GS W0 b er l W) (h : wideOk er l) :
    Calls Tryd.prog 78 #[.pointer (some ⟨b, 0, none⟩)] W fun e w' => e = .returned (.agg #[.int .i64 (Oc.unf (Oc.rg l).2.1), .int .u64 (Oc.valN 0 ((Oc.rg l).2.2.take 8) : Int)]) ∧ GS W0 b 0 ((Oc.rg l).2.2.drop 8) w' := by
  obtain ⟨v, h1⟩ := S.rd
  obtain ⟨rfl, h2, h3⟩ := h
  exact (Oc.rwide_ok W b _ l _ v h1 (rg_eq h2) h3).mono fun e w' h4 => ⟨h4.1, S.step h4.2⟩
theorem GS.wide_no {W0 W : World} {b : Nat} {er : Int} {l : List Int} (S : GS W0 b er l W) (h : ¬ wideOk er l) :
    Calls Tryd.prog 78 #[.pointer (some ⟨b, 0, none⟩)] W fun e w' => ∃ er', ¬ er' = 0 ∧ e = .returned (.agg #[.int .i64 0, .int .u64 0]) ∧ GS W0 b er' l w' := by
  obtain ⟨v, h1⟩ := S.rd
  by_cases he : er = 0
  · subst he
    refine (Oc.rwide_err W b l v h1 ?_).mono fun e w' h4 => ?_
    · by_cases h0 : (Oc.rg l).1 = 0
      · exact .inr (by have : ¬ 8 ≤ (Oc.rg l).2.2.length := fun h8 => h ⟨rfl, h0, h8⟩; omega)
      · exact .inl h0
    · obtain ⟨e1, h5, h6, h7⟩ := h4
      exact ⟨e1, h5, h6, S.step h7⟩
  · exact (rwide_bad W b er l v h1 he).mono fun e w' h4 => ⟨er, he, h4.1, S.step h4.2⟩

/-- While a note is read: the reader b at l, the note's block t3, the block t4 of what its kind asks for, its rows. -/
structure DS (W0 : World) (b t3 t4 : Nat) (bs : Array Value) (er : Int) (l : List Int) (y : Nt) (A : Option Addr) (n c : Nat) (rs : List Rw) (W : World) : Prop where
  gs : GS W0 b er l W
  h3 : W.heap[t3]? = some (.cells #[.int .i64 y.k, .int .i64 y.p, .int .i64 y.d, .int .i64 y.t.n, .string y.t.b, .string y.t.s, .string y.t.i, .int .i64 y.t.q, .int .i64 y.t.p, .string y.n, .int .i64 y.a, .slice A n c, .int .i64 y.hi, .int .u64 y.lo] 33 (0, 0))
  h4 : W.heap[t4]? = some (.cells bs 62 (0, 0))
  own : W.ownsRow (t4 + 1) 58 2 (.slice A n c) rs.length (rcl rs)
  hb : b < W0.heap.size
  ht : W0.heap.size ≤ t3
  h34 : t3 < t4
theorem DS.rd {W0 W W' : World} {b t3 t4 : Nat} {bs : Array Value} {er er' : Int} {l l' : List Int} {y : Nt} {A : Option Addr} {n c : Nat} {rs : List Rw} (S : DS W0 b t3 t4 bs er l y A n c rs W) (h : GS W b er' l' W') : DS W0 b t3 t4 bs er' l' y A n c rs W' :=
  ⟨S.gs.comp h, h.blk S.h3 (by have := S.hb; have := S.ht; omega), h.blk S.h4 (by have := S.hb; have := S.ht; have := S.h34; omega),
    Oc.ownsRow_kept S.own (fun g hg => h.gr.block g (S.own.lt g hg).2 (fun e => by cases e; have := (S.own.lt _ hg).1; have := S.hb; have := S.ht; have := S.h34; omega)), S.hb, S.ht, S.h34⟩
/-- A store into the note's block. -/
theorem DS.put {W0 W : World} {b t3 t4 : Nat} {bs : Array Value} {er : Int} {l : List Int} {y y' : Nt} {A : Option Addr} {n c : Nat} {rs : List Rw} (S : DS W0 b t3 t4 bs er l y A n c rs W) (j : Nat) (v : Value) (h : (W.setCell ⟨t3, j, none⟩ v).heap[t3]? = some (.cells #[.int .i64 y'.k, .int .i64 y'.p, .int .i64 y'.d, .int .i64 y'.t.n, .string y'.t.b, .string y'.t.s, .string y'.t.i, .int .i64 y'.t.q, .int .i64 y'.t.p, .string y'.n, .int .i64 y'.a, .slice A n c, .int .i64 y'.hi, .int .u64 y'.lo] 33 (0, 0))) : DS W0 b t3 t4 bs er l y' A n c rs (W.setCell ⟨t3, j, none⟩ v) :=
  ⟨S.gs.set1 (by have := S.hb; have := S.ht; omega) S.ht j v, h, (Below.heap_setCell _ _ _ _ (by show t4 ≠ t3; have := S.h34; omega)).trans S.h4,
    Oc.ownsRow_kept S.own (fun g hg => Below.heap_setCell _ _ _ _ (by show g ≠ t3; have := (S.own.lt g hg).1; have := S.h34; omega)), S.hb, S.ht, S.h34⟩
end Go.Proofs.YteahloddjekakaaDoor.Nt
