/-
  The contract of gather: the rows sorted, and those of one key joined. Conditions: the sort's contract, the join's, at most a thousand rows.
-/
import Derived.Test.YtjijgoflbjbnfaaGreatVM19
import Derived.StillTailTactics
import Derived.Deep.RegionHeld3
import Derived.Lib.SmallJoins
import Derived.Lib.OwnKind
namespace Go.Proofs.YtjijgoflbjbnfaaGreat.Tb.Ib
open Go.RowKit Go.Sort

theorem rowInfo : (Tryz.prog.info? 100).map (fun i => (i.zero, i.size, i.bytes)) = some (some (.agg #[.int .i64 0, .slice none 0 0]), 2, 32) := by kernel_rfl

/-- A table of one's own. -/
def TabO (base : Nat) (w : World) (b : Nat) (rs : List R) : Prop := base ≤ b ∧ ∃ v, Boxed w b 160 v ∧ w.ownsRow base 100 2 v rs.length (cells rs)
theorem TabO.read {base : Nat} {w : World} {b : Nat} {rs : List R} (h : TabO base w b rs) : TabR w (some ⟨b, 0, none⟩) rs := by
  obtain ⟨_, v, hb, ho⟩ := h
  exact .inr ⟨b, v, rfl, hb.lt, hb.cell, RowsR.of_own ho⟩

theorem block_grown {w w1 : World} {b : Nat} {x o : Obj} {row : Option Nat} (h : w.heap[b]? = some x) (hg : (w.alloc o).drew.grownBy w1 row) (hne : some b ≠ row) : w1.heap[b]? = some x := by
  have e : (w.alloc o).drew.heap[b]? = some x := block_old h o
  rw [hg.block b (Array.getElem?_eq_some_iff.1 e).1 hne]
  exact e
theorem own_ne {w : World} {base b : Nat} {e : TypeId} {size n : Nat} {v : Value} {xs : List Value} (h : w.ownsRow base e size v n xs) (hb : b < base) : some b ≠ v.ownBlock := fun k => by
  have := (h.lt b k.symm).1
  omega
theorem own_kept {w w' : World} {base : Nat} {e : TypeId} {size n : Nat} {v : Value} {xs : List Value} (h : w.ownsRow base e size v n xs) (hb : Below w.heap.size w w') : w'.ownsRow base e size v n xs :=
  h.kept (row := none) ⟨hb.os, hb.tape, hb.output, hb.size, fun i hi _ => hb.block i hi⟩ (by
    rcases hv : v.ownBlock with _ | g
    · exact .inl rfl
    · exact .inr (by simp))

/-- What is kept through gather's rounds. -/
def GInv (w1 : World) (acc : List R) (wx : World) : Prop :=
  Below w1.heap.size w1 wx ∧ ∃ v, Boxed wx w1.heap.size 160 v ∧ wx.ownsRow (w1.heap.size + 1) 100 2 v acc.length (cells acc) ∧ (acc = [] → v = .slice none 0 0)
/-- Behind the append of a row. -/
theorem GInv.appended {w1 wr W2 w2 : World} {acc : List R} {r : R} {v : Value} {gg cp n : Nat} (hn : acc.length = n) (o : Obj) (hb : Below w1.heap.size w1 wr) (h2 : Below wr.heap.size wr W2) (hx : Boxed wr w1.heap.size 160 v)
    (hown : w2.ownsRow (w1.heap.size + 1) 100 2 (.slice (some ⟨gg, 0, none⟩) (n + 1) cp) (n + 1) (cells acc ++ [ek r.1, ev r.2])) (ho : wr.ownsRow (w1.heap.size + 1) 100 2 v n (cells acc)) (hg : (W2.alloc o).drew.grownBy w2 v.ownBlock) :
    GInv w1 (acc ++ [r]) (w2.setCell ⟨w1.heap.size, 0, none⟩ (.slice (some ⟨gg, 0, none⟩) (n + 1) cp)) := by
  have hz := hx.lt
  have h2' : Below w1.heap.size wr W2 := h2.mono (by omega)
  refine ⟨((((hb.trans h2').alloc (by have := h2.size; omega) o).drew).grown hg (by have := h2.size; simp; omega) (fun k hk => by have := (ho.lt k hk).1; omega)).setCell (p := ⟨w1.heap.size, 0, none⟩) (Nat.le_refl _) _, .slice (some ⟨gg, 0, none⟩) (n + 1) cp, ?_, ?_, fun e => absurd e (by simp)⟩
  · exact block_put (block_grown (block_kept hx h2) hg (own_ne ho (by omega))) _
  · have := hown.kept (grownBy_setCell' w2 w1.heap.size (.slice (some ⟨gg, 0, none⟩) (n + 1) cp)) (.inr (own_ne hown (by omega)).symm)
    rw [List.length_append, cells_append, hn]
    exact this
theorem cells_set (init : List R) (p q : R) : ((cells (init ++ [p])).set (init.length * 2) (ek q.1)).set (init.length * 2 + 1) (ev q.2) = cells (init ++ [q]) := by
  rw [cells_append, cells_append, ← cells_len, List.set_append_right _ _ (Nat.le_refl _), Nat.sub_self]
  show ((cells init ++ [ek q.1, ev p.2]).set ((cells init).length + 1) (ev q.2)) = _
  rw [List.set_append_right _ _ (by omega), show (cells init).length + 1 - (cells init).length = 1 by omega]
  rfl
/-- Behind the store of a joined row. -/
theorem GInv.replaced {w1 wr W3 : World} {init : List R} {p q : R} {g2 cp m : Nat} (hm : m = init.length) (hb : Below w1.heap.size w1 wr) (h2 : Below wr.heap.size wr W3) (hx : Boxed wr w1.heap.size 160 (.slice (some ⟨g2, 0, none⟩) (m + 1) cp))
    (ho : wr.ownsRow (w1.heap.size + 1) 100 2 (.slice (some ⟨g2, 0, none⟩) (m + 1) cp) (m + 1) (cells (init ++ [p]))) :
    GInv w1 (init ++ [q]) ((W3.setCell ⟨g2, m * 2, none⟩ (ek q.1)).setCell ⟨g2, m * 2 + 1, none⟩ (ev q.2)) := by
  have hz := hx.lt
  have hg := ho.lt g2 rfl
  have ho3 := own_kept ho h2
  have o1 := ho3.stored (m * 2) (ek q.1)
  have o2 := o1.1.stored (m * 2 + 1) (ev q.2)
  have h2' : Below w1.heap.size wr W3 := h2.mono (by omega)
  refine ⟨((hb.trans h2').setCell (p := ⟨g2, m * 2, none⟩) (show w1.heap.size ≤ g2 by omega) _).setCell (p := ⟨g2, m * 2 + 1, none⟩) (show w1.heap.size ≤ g2 by omega) _, .slice (some ⟨g2, 0, none⟩) (m + 1) cp, ?_, ?_, fun e => absurd e (by simp)⟩
  · exact block_set (block_set (block_kept hx h2) (show w1.heap.size ≠ g2 by omega) _) (show w1.heap.size ≠ g2 by omega) _
  · have e := cells_set init p q
    rw [← hm] at e
    rw [List.length_append, ← hm, ← e]
    exact o2.1
def Gathered (S : Nat → Prop) (j : V → V → V) (w : World) (l : List R) (e : Ending) (w' : World) : Prop :=
  ∃ tb d, e = .returned (.pointer (some ⟨tb, 0, none⟩)) ∧ Stab l d ∧ TabO w.heap.size w' tb (gath j d) ∧ Kept S w w'
def SortedR (S : Nat → Prop) (w : World) (v : Value) (l : List R) (w' : World) : Prop :=
  ∃ d, Stab l d ∧ d.length = l.length ∧ RowsR w' v d ∧ Kept S w w'

set_option maxRecDepth 100000 in
set_option maxHeartbeats 4000000 in
theorem gather_any (S : Nat → Prop) (j : V → V → V) (jf : Nat) (cb : Array Value) (w : World) (A : Option Addr) (cap : Nat) (l : List R) (hn : l.length ≤ 1000)
    (eg : ∀ args w, (callFunc jf args).run Tryz.prog w = .ok (.enter jf args) w)
    (hj : ∀ a b W, Kept S w W → Calls Tryz.prog jf (#[ev a, ev b] ++ cb) W fun e w' => e = .returned (ev (j a b)) ∧ W = w')
    (hs : Calls Tryz.prog 107 #[.slice A l.length cap, .func (.func 108) #[] #[]] w fun e w' => e = .returned (.tuple #[]) ∧ SortedR S w (.slice A l.length cap) l w') :
    Calls Tryz.prog 75 #[.slice A l.length cap, .func (.func jf) #[] cb] w (Gathered S j w l) := by
  have HJ := Lib.hid hj
  obtain ⟨i0, hi0, hz0, hz1, hz2⟩ := info_parts rowInfo
  clear hj
  go_enter Tryz.func75, Tryz.ntmps75
  go_wp2_with (go_at_call 107; refine hs.mono ?_; rintro e w1 ⟨rfl, hs1⟩)
  obtain ⟨d, hst, hdl, hr, hk⟩ := hs1
  have HST := Lib.hid hst
  have HK := Lib.hid hk
  have HD := Lib.hid hdl
  have hz : w.heap.size ≤ w1.heap.size := hk.size
  have HR := Lib.hid hr
  clear hs hst hk hdl hr
  have h0 : Hid (GInv w1 (gath j (d.take 0)) (w1.alloc (.cells #[.slice none 0 0] 160))) :=
    ⟨(Below.refl _ _).alloc (Nat.le_refl _) _, _, Boxed.new _ _ _, World.ownsRow_nil _ _ _ _, fun _ => rfl⟩
  go_loopg [15] l.length (fun (gh : Nat) si wx => ∃ i : Nat, gh = l.length - i ∧ i ≤ l.length ∧ si = .int .i64 (i : Int) ∧ Hid (GInv w1 (gath j (d.take i)) wx))
  case atStart => exact ⟨0, rfl, Nat.zero_le _, rfl, h0⟩
  case round =>
    clear h0
    obtain ⟨i, rfl, hi, rfl, hinv⟩ := hrel
    obtain ⟨hb, v', hbx, hown, hnil⟩ := hinv.out
    clear hinv
    have HB := Lib.hid hb
    by_cases hlt : i < l.length
    · obtain ⟨r, hr⟩ : ∃ r, d[i]? = some r := ⟨_, List.getElem?_eq_getElem (by rw [HD.out]; exact hlt)⟩
      obtain ⟨A', cap', hv', _, _, h3⟩ := HR.out.below hb
      simp only [Value.slice.injEq] at hv'
      obtain ⟨rfl, hlen, rfl⟩ := hv'
      clear hlen hb
      rcases h3 with ⟨rfl, rfl⟩ | ⟨g, o, rfl, hg, hcell⟩
      · simp at hr
      obtain ⟨c1, c2⟩ := hcell i r hr
      unfold ek at c1
      unfold ev at c2
      have cT := hbx.cell
      have fT := hbx.frozen
      have ltT := hbx.lt
      have HBX := Lib.hid hbx
      obtain ⟨acc, hacc⟩ : ∃ acc, acc = gath j (d.take i) := ⟨_, rfl⟩
      rw [← hacc] at hown hnil
      have hal : acc.length ≤ i := by rw [hacc]; exact Nat.le_trans (gath_len _ _) (List.length_take_le _ _)
      have hsn : Hid (gath j (d.take (i + 1)) = gs j acc r) := by
        show _ = _
        rw [hacc, ← gath_snoc]
        congr 1
        rw [List.take_succ_eq_append_getElem (by rw [HD.out]; exact hlt)]
        rw [List.getElem?_eq_getElem (by rw [HD.out]; exact hlt)] at hr
        rw [Option.some.inj hr]
      clear hr hcell hacc hbx
      rcases List.eq_nil_or_concat acc with rfl | ⟨init, p, rfl⟩
      · obtain rfl := hnil rfl
        have HOWN := Lib.hid hown
        clear hown hnil
        go_wp2_with fail
        go_quiet (fail)
        go_wp2_with fail
        have HB2 : Hid (Below wr.heap.size wr ((wr.alloc (.cells #[Value.int .i64 r.1, (Value.slice r.2.A r.2.n r.2.c)] 100)).drewN nq)) := below_drewN ((Below.refl _ _).alloc (Nat.le_refl _) _) nq
        have b1 : ((wr.alloc (.cells #[Value.int .i64 r.1, (Value.slice r.2.A r.2.n r.2.c)] 100)).drewN nq).heap[wr.heap.size]? = some (.cells #[Value.int .i64 r.1, (Value.slice r.2.A r.2.n r.2.c)] 100) := block_new wr _
        have z1 : ((wr.alloc (.cells #[Value.int .i64 r.1, (Value.slice r.2.A r.2.n r.2.c)] 100)).drewN nq).heap.size = wr.heap.size + 1 := by show (wr.alloc _).heap.size = _; simp
        generalize (wr.alloc (.cells #[Value.int .i64 r.1, (Value.slice r.2.A r.2.n r.2.c)] 100)).drewN nq = W2 at HB2 b1 z1 ⊢
        have c3 : W2.cell? ⟨wr.heap.size, 0, none⟩ = some (Value.int .i64 r.1) := by simp [World.cell?, b1]
        have c4 : W2.cell? ⟨wr.heap.size, 1, none⟩ = some ((Value.slice r.2.A r.2.n r.2.c)) := by simp [World.cell?, b1]
        have cT2 : W2.cell? ⟨w1.heap.size, 0, none⟩ = some (.slice none 0 0) := (HB2.out.cell (p := ⟨w1.heap.size, 0, none⟩) ltT).trans cT
        have fT2 : W2.frozen? ⟨w1.heap.size, 0, none⟩ = false := (HB2.out.frozen (p := ⟨w1.heap.size, 0, none⟩) ltT).trans fT
        have z2 : w1.heap.size + 1 ≤ W2.heap.size := by omega
        have z3 : w1.heap.size < W2.heap.size := by omega
        have z4 : wr.heap.size < W2.heap.size := by omega
        have hown2 : Hid (W2.ownsRow (w1.heap.size + 1) 100 2 (.slice none 0 0) 0 (cells [])) := own_kept HOWN.out HB2.out
        clear b1 c1 c2 cT fT z1
        go_region_law
          ((refine step_append_lies _ (by rfl) _ _ _ (by rfl) (w1.heap.size + 1) 100 i0 _ 2 32 Tryz.underlying109 hi0 hz0 hz1 hz2 rfl (by omega) (.slice none 0 0) 0 (cells []) (by rfl) ((hown2.out.alloc _).drew) ⟨W2.heap.size, 0, none⟩ 1 1 [Value.int .i64 r.1, (Value.slice r.2.A r.2.n r.2.c)] (by rfl) (by rfl) (World.news_of_block (cs := #[Value.int .i64 r.1, (Value.slice r.2.A r.2.n r.2.c)]) (t := 100) (fr := (0, 0)) (heap_alloc_new W2 _)) (by simp [Value.oneCell']) (by omega) (by unfold maxLen; omega) (by omega) (by simp; omega) (W2.heap.size + 1) (by simp) ?_; intro gg cp2 w2 hown1 hgrow hat hlt1
            have g3 := block_grown (block_kept HBX.out HB2.out) hgrow (own_ne hown2.out (by omega))
            obtain ⟨d3, e3⟩ := block_cell g3))
        all_goals
          have fin := GInv.appended (r := r) (acc := []) rfl _ HB.out HB2.out HBX.out hown1 HOWN.out hgrow
          have FIN := Lib.hid fin
          clear fin
          go_wp2
          go_roundg (l.length - (i + 1))
          case measure => omega
          case rel => exact ⟨i + 1, rfl, by omega, by go_num, by rw [hsn.out]; skip; exact FIN.out⟩
      · rw [List.concat_eq_append] at hown hal hsn
        obtain ⟨g2, cp, rfl⟩ := Go.Joins.ownsRow_form hown (by simp)
        obtain ⟨m, hm⟩ : ∃ m, m = init.length := ⟨_, rfl⟩
        have hl : (init ++ [p]).length = m + 1 := by rw [hm, List.length_append]; rfl
        rw [hl] at hown hal cT HBX
        have HL := Lib.hid hl
        have q1 : wr.cell? ⟨g2, m * 2, none⟩ = some (Value.int .i64 p.1) := by
          rw [hown.cellAt (m * 2) (by omega)]
          exact (cells_get _ m p (by rw [hm]; simp)).1
        have q2 : wr.cell? ⟨g2, m * 2 + 1, none⟩ = some ((Value.slice p.2.A p.2.n p.2.c)) := by
          rw [hown.cellAt (m * 2 + 1) (by omega)]
          exact (cells_get _ m p (by rw [hm]; simp)).2
        have q3 : wr.frozen? ⟨g2, m * 2, none⟩ = false := hown.frozenAt _
        have q4 : wr.frozen? ⟨g2, m * 2 + 1, none⟩ = false := hown.frozenAt _
        have hg2 := (hown.lt g2 rfl).2
        have hg1 := (hown.lt g2 rfl).1
        have hcq : ∀ W, Calls Tryz.prog 109 #[Value.int .i64 p.1, Value.int .i64 r.1] W fun e w' => e = .returned (.int .i64 (cmpK p.1 r.1)) ∧ w' = W := fun W => (compare_int p.1 r.1 W).mono fun e w' ⟨h1, h2⟩ => ⟨h1, h2.symm⟩
        have hz0 := cmpK_zero p.1 r.1
        obtain ⟨x, hx⟩ : ∃ x, x = cmpK p.1 r.1 := ⟨_, rfl⟩
        rw [← hx] at hcq hz0
        have HZ := Lib.hid hz0
        have HOWN := Lib.hid hown
        have HM := Lib.hid hm
        have hm0 : (0 : Int) ≤ (m : Int) := by omega
        have hgs : Hid (gs j (init ++ [p]) r = if p.1 = r.1 then init ++ [(r.1, j p.2 r.2)] else (init ++ [p]) ++ [r]) := by
          show _ = _
          unfold gs
          rw [List.getLast?_concat]
          by_cases h : p.1 = r.1
          · simp only [if_pos h]; rw [List.dropLast_concat]
          · simp only [if_neg h]
        clear hx hz0 hown hl hm hnil
        by_cases hx : x = 0
        · subst hx
          have heq : Hid (p.1 = r.1) := HZ.out.1 rfl
          clear HZ
          have HCQ := Lib.hid hcq
          clear hcq
          go_wp2_with fail
          go_quiet ((go_at_call 109; exact Calls.quiet_of_same (HCQ.out _)))
          go_wp2_with fail
          have HB2 : Hid (Below wr.heap.size wr ((wr.alloc (.cells #[Value.int .i64 r.1, (Value.slice r.2.A r.2.n r.2.c)] 100)).drewN nq)) := below_drewN ((Below.refl _ _).alloc (Nat.le_refl _) _) nq
          have b1 : ((wr.alloc (.cells #[Value.int .i64 r.1, (Value.slice r.2.A r.2.n r.2.c)] 100)).drewN nq).heap[wr.heap.size]? = some (.cells #[Value.int .i64 r.1, (Value.slice r.2.A r.2.n r.2.c)] 100) := block_new wr _
          have z1 : ((wr.alloc (.cells #[Value.int .i64 r.1, (Value.slice r.2.A r.2.n r.2.c)] 100)).drewN nq).heap.size = wr.heap.size + 1 := by show (wr.alloc _).heap.size = _; simp
          generalize (wr.alloc (.cells #[Value.int .i64 r.1, (Value.slice r.2.A r.2.n r.2.c)] 100)).drewN nq = W2 at HB2 b1 z1 ⊢
          have c3 : W2.cell? ⟨wr.heap.size, 0, none⟩ = some (Value.int .i64 r.1) := by simp [World.cell?, b1]
          have c4 : W2.cell? ⟨wr.heap.size, 1, none⟩ = some ((Value.slice r.2.A r.2.n r.2.c)) := by simp [World.cell?, b1]
          have f4 : W2.frozen? ⟨wr.heap.size, 1, none⟩ = false := by simp [World.frozen?, b1]
          have cT2 : W2.cell? ⟨w1.heap.size, 0, none⟩ = some (.slice (some ⟨g2, 0, none⟩) (m + 1) cp) := (HB2.out.cell (p := ⟨w1.heap.size, 0, none⟩) ltT).trans cT
          have q5 : W2.cell? ⟨g2, m * 2 + 1, none⟩ = some ((Value.slice p.2.A p.2.n p.2.c)) := (HB2.out.cell (p := ⟨g2, m * 2 + 1, none⟩) hg2).trans q2
          have z3 : w1.heap.size < W2.heap.size := by omega
          have z4 : wr.heap.size < W2.heap.size := by omega
          have hjc := (HJ.out p.2 r.2 W2.drew (HK.out.trans (Kept.of_below ((HB.out.trans (HB2.out.mono (by omega))).drew)))).mono (R' := fun e w' => e = .returned (ev (j p.2 r.2)) ∧ w' = W2.drew) fun e w' ⟨h1, h2⟩ => ⟨h1, h2.symm⟩
          obtain ⟨y, hy⟩ : ∃ y, y = j p.2 r.2 := ⟨_, rfl⟩
          rw [← hy] at hjc
          have HY := Lib.hid hy
          have HJC := Lib.hid hjc
          unfold ev at HJC
          have hm1 : (m : Int) < (m : Int) + 1 := by omega
          clear hy hjc z1 HCQ
          go_still_tail 13, (by kernel_rfl)
          still_call (by simpa using HJC.out)
          repeat still_step
          refine wpStill_nil ?_
          change wpList _ _ _ _ _ W2.drew
          have b2 : W2.drew.heap[wr.heap.size]? = some (.cells #[Value.int .i64 r.1, (Value.slice r.2.A r.2.n r.2.c)] 100) := b1
          have HB3 : Hid (Below wr.heap.size wr W2.drew) := HB2.out.drew
          have z5 : W2.drew.heap.size = W2.heap.size := rfl
          clear b1 cT2 q5 HJC c3 c4 f4 HB2
          generalize W2.drew = W3 at b2 HB3 z5 ⊢
          have c4 : W3.cell? ⟨wr.heap.size, 1, none⟩ = some ((Value.slice r.2.A r.2.n r.2.c)) := by simp [World.cell?, b2]
          have f4 : W3.frozen? ⟨wr.heap.size, 1, none⟩ = false := by simp [World.frozen?, b2]
          have B4 : Hid ((W3.setCell ⟨wr.heap.size, 1, none⟩ ((Value.slice y.A y.n y.c))).heap[wr.heap.size]? = some (.cells #[Value.int .i64 r.1, (Value.slice y.A y.n y.c)] 100)) := by
            show _ = _
            simp only [World.setCell, Array.getElem?_modify, if_true]
            rw [b2]; rfl
          clear b2 z5
          go_wp2_with fail
          have b5 := B4.out
          have HB5 : Hid (Below wr.heap.size wr (W3.setCell ⟨wr.heap.size, 1, none⟩ ((Value.slice y.A y.n y.c)))) := HB3.out.setCell (p := ⟨wr.heap.size, 1, none⟩) (Nat.le_refl _) _
          clear c4 f4 HB3 B4
          generalize W3.setCell ⟨wr.heap.size, 1, none⟩ ((Value.slice y.A y.n y.c)) = W5 at b5 HB5 ⊢
          have c5 : W5.cell? ⟨wr.heap.size, 0, none⟩ = some (Value.int .i64 r.1) := by simp [World.cell?, b5]
          have c6 : W5.cell? ⟨wr.heap.size, 1, none⟩ = some ((Value.slice y.A y.n y.c)) := by simp [World.cell?, b5]
          have cT5 : W5.cell? ⟨w1.heap.size, 0, none⟩ = some (.slice (some ⟨g2, 0, none⟩) (m + 1) cp) := (HB5.out.cell (p := ⟨w1.heap.size, 0, none⟩) ltT).trans cT
          have q5 : W5.cell? ⟨g2, m * 2, none⟩ = some (Value.int .i64 p.1) := (HB5.out.cell (p := ⟨g2, m * 2, none⟩) hg2).trans q1
          have q6 : W5.cell? ⟨g2, m * 2 + 1, none⟩ = some ((Value.slice p.2.A p.2.n p.2.c)) := (HB5.out.cell (p := ⟨g2, m * 2 + 1, none⟩) hg2).trans q2
          have q7 : W5.frozen? ⟨g2, m * 2, none⟩ = false := (HB5.out.frozen (p := ⟨g2, m * 2, none⟩) hg2).trans q3
          have q8 : W5.frozen? ⟨g2, m * 2 + 1, none⟩ = false := (HB5.out.frozen (p := ⟨g2, m * 2 + 1, none⟩) hg2).trans q4
          have fin : Hid (GInv w1 (init ++ [(r.1, j p.2 r.2)]) ((W5.drew.setCell ⟨g2, m * 2, none⟩ (Value.int .i64 r.1)).setCell ⟨g2, m * 2 + 1, none⟩ ((Value.slice y.A y.n y.c)))) := by
            have := GInv.replaced (q := (r.1, j p.2 r.2)) HM.out HB.out HB5.out.drew HBX.out HOWN.out
            rw [← HY.out] at this
            rw [← HY.out]
            exact this
          clear b5
          go_still_tail 7, (by kernel_rfl)
          change wpList _ _ _ _ _ W5.drew
          go_wp2
          go_roundg (l.length - (i + 1))
          case measure => omega
          case rel => exact ⟨i + 1, rfl, by omega, by go_num, by rw [hsn.out, hgs.out, if_pos heq.out]; exact fin.out⟩
        · have hx' : (x == 0) = false := by simpa using hx
          have HCQ := Lib.hid hcq
          have hne : Hid (¬ p.1 = r.1) := fun h => hx (HZ.out.2 h)
          clear hcq
          go_wp2_with fail
          go_quiet ((go_at_call 109; exact Calls.quiet_of_same (HCQ.out _)))
          go_wp2_with fail
          have HB2 : Hid (Below wr.heap.size wr ((wr.alloc (.cells #[Value.int .i64 r.1, (Value.slice r.2.A r.2.n r.2.c)] 100)).drewN nq)) := below_drewN ((Below.refl _ _).alloc (Nat.le_refl _) _) nq
          have b1 : ((wr.alloc (.cells #[Value.int .i64 r.1, (Value.slice r.2.A r.2.n r.2.c)] 100)).drewN nq).heap[wr.heap.size]? = some (.cells #[Value.int .i64 r.1, (Value.slice r.2.A r.2.n r.2.c)] 100) := block_new wr _
          have z1 : ((wr.alloc (.cells #[Value.int .i64 r.1, (Value.slice r.2.A r.2.n r.2.c)] 100)).drewN nq).heap.size = wr.heap.size + 1 := by show (wr.alloc _).heap.size = _; simp
          generalize (wr.alloc (.cells #[Value.int .i64 r.1, (Value.slice r.2.A r.2.n r.2.c)] 100)).drewN nq = W2 at HB2 b1 z1 ⊢
          have c3 : W2.cell? ⟨wr.heap.size, 0, none⟩ = some (Value.int .i64 r.1) := by simp [World.cell?, b1]
          have c4 : W2.cell? ⟨wr.heap.size, 1, none⟩ = some ((Value.slice r.2.A r.2.n r.2.c)) := by simp [World.cell?, b1]
          have cT2 : W2.cell? ⟨w1.heap.size, 0, none⟩ = some (.slice (some ⟨g2, 0, none⟩) (m + 1) cp) := (HB2.out.cell (p := ⟨w1.heap.size, 0, none⟩) ltT).trans cT
          have fT2 : W2.frozen? ⟨w1.heap.size, 0, none⟩ = false := (HB2.out.frozen (p := ⟨w1.heap.size, 0, none⟩) ltT).trans fT
          have z2 : w1.heap.size + 1 ≤ W2.heap.size := by omega
          have z3 : w1.heap.size < W2.heap.size := by omega
          have z4 : wr.heap.size < W2.heap.size := by omega
          have hown2 : Hid (W2.ownsRow (w1.heap.size + 1) 100 2 (.slice (some ⟨g2, 0, none⟩) (m + 1) cp) (m + 1) (cells (init ++ [p]))) := own_kept HOWN.out HB2.out
          clear b1 c1 c2 cT fT z1
          go_region_law
            ((refine step_append_lies _ (by rfl) _ _ _ (by rfl) (w1.heap.size + 1) 100 i0 _ 2 32 Tryz.underlying109 hi0 hz0 hz1 hz2 rfl (by omega) (.slice (some ⟨g2, 0, none⟩) (m + 1) cp) (m + 1) (cells (init ++ [p])) (by rfl) ((hown2.out.alloc _).drew) ⟨W2.heap.size, 0, none⟩ 1 1 [Value.int .i64 r.1, (Value.slice r.2.A r.2.n r.2.c)] (by rfl) (by rfl) (World.news_of_block (cs := #[Value.int .i64 r.1, (Value.slice r.2.A r.2.n r.2.c)]) (t := 100) (fr := (0, 0)) (heap_alloc_new W2 _)) (by simp [Value.oneCell']) (by omega) (by unfold maxLen; omega) (by omega) (by simp; omega) (W2.heap.size + 1) (by simp) ?_; intro gg cp2 w2 hown1 hgrow hat hlt1
              have g3 := block_grown (block_kept HBX.out HB2.out) hgrow (own_ne hown2.out (by omega))
              obtain ⟨d3, e3⟩ := block_cell g3))
          all_goals
            have fin := GInv.appended (r := r) (acc := (init ++ [p])) HL.out _ HB.out HB2.out HBX.out hown1 HOWN.out hgrow
            have FIN := Lib.hid fin
            clear fin
            go_wp2
            go_roundg (l.length - (i + 1))
            case measure => omega
            case rel => exact ⟨i + 1, rfl, by omega, by go_num, by rw [hsn.out]; rw [hgs.out, if_neg hne.out]; exact FIN.out⟩
    · obtain rfl : i = l.length := by omega
      have hfin : Hid (TabO w.heap.size wr w1.heap.size (gath j d)) := by
        refine ⟨hz, v', hbx, ?_⟩
        rw [List.take_of_length_le (by rw [HD.out]; exact Nat.le_refl _)] at hown
        exact Go.Joins.ownsRow_le hown (by omega)
      have hkk : Hid (Kept S w wr) := HK.out.trans (Kept.of_below hb)
      clear hb hown hbx hnil
      go_wp2
      go_ret
      exact ⟨w1.heap.size, d, rfl, HST.out, hfin.out, hkk.out⟩
end Go.Proofs.YtjijgoflbjbnfaaGreat.Tb.Ib
