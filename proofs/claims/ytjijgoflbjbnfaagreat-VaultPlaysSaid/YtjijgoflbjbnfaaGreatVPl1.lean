/-
  What VaultPlays' law does at each call. Conditions: the calls lie in memory.
-/
import Derived.Test.YtjijgoflbjbnfaaGreatVAct
import Derived.Test.YtjijgoflbjbnfaaGreatVM31
namespace Go.Proofs.YtjijgoflbjbnfaaGreat.Vt
open Go.RowKit Fr Sr Jo

theorem lv_newP (w : World) (R : Int) (h0 : 0 ≤ R) (h1 : R ≤ 1048576) : Calls Tryz.prog 8 #[.int .i64 R] w fun e W => e = .returned (.tuple #[.pointer (some ⟨w.heap.size, 0, none⟩), .int .i64 0]) ∧ LS w W w.heap.size (.slice none 0 0) R [] [] ⟨false, 0, false, R, 0⟩ 0 [] := by
  refine (Sr.new_any w R h0 h1).mono ?_
  rintro e W ⟨rfl, hs, hb, hlt⟩
  exact ⟨rfl, _, 0, (true, 0), sf_new hs hlt, Nat.le_refl _, fun k hk => ⟨by rw [hk]; exact Nat.le_refl _, fun e => by cases e⟩, ⟨HV.nil _ _, fun q hq => by cases hq⟩, hb⟩
/-- A call's block. -/
abbrev actO (k n : Int) (A : Option Addr) (m c : Nat) : Obj := .cells #[.int .i64 k, .int .i64 n, .slice A m c] 34
section
variable {w W W' : World} {X : List (Nat × Obj)} {p vb g b : Nat} {v : Value} {R k n : Int} {ls hs : List (List Int)} {s : S} {sd : Bool} {A : Option Addr} {m c : Nat}
theorem lv_act (h : LV w W p vb v R ls hs s sd g ((b, actO k n A m c) :: X)) : W.cell? ⟨b, 0, none⟩ = some (.int .i64 k) ∧ W.cell? ⟨b, 1, none⟩ = some (.int .i64 n) ∧ W.cell? ⟨b, 2, none⟩ = some (.slice A m c) := by
  obtain ⟨Z, lg, im, h1, h2, h3, h4, h5⟩ := h
  have h1 : W.heap[b]? = _ := (h4.2 _ List.mem_cons_self).2.2
  exact ⟨by simp [World.cell?, h1], by simp [World.cell?, h1], by simp [World.cell?, h1]⟩
theorem ls_act (h : LS w W p v R ls hs s g ((b, actO k n A m c) :: X)) : W.cell? ⟨b, 0, none⟩ = some (.int .i64 k) ∧ W.cell? ⟨b, 1, none⟩ = some (.int .i64 n) ∧ W.cell? ⟨b, 2, none⟩ = some (.slice A m c) := by
  obtain ⟨Z, lg, im, h1, h2, h3, h4, h5⟩ := h
  have h1 : W.heap[b]? = _ := (h4.2 _ List.mem_cons_self).2.2
  exact ⟨by simp [World.cell?, h1], by simp [World.cell?, h1], by simp [World.cell?, h1]⟩
theorem lv_drop (h : LV w W p vb v R ls hs s sd g X) : LV w W p vb v R ls hs s sd g [] := by
  obtain ⟨Z, lg, im, h1, h2, h3, h4, h5⟩ := h
  exact ⟨Z, lg, im, h1, h2, h3, ⟨h4.1, fun q hq => by cases hq⟩, h5⟩
/-- An empty list takes all that another has, wherever it lies. -/
theorem app_allG {us : List Value} {N : Nat} (h1 : W.ownsRow w.heap.size 32 1 v hs.length us) (h2 : ∀ (i : Nat) (u : Value) (l : List Int), us[i]? = some u → hs[i]? = some l → isS u) (hn : hs.length ≤ 1000) (hb : W.heap[b]? = some (.cells #[] 32)) (hN : N ≤ b) :
    ∃ A n c w', (Builtin.append_ #[31, 31] 31 #[.slice (some ⟨b, 0, none⟩) 0 0, v]).run Tryz.prog W = .ok (.slice A n c) w' ∧ w'.ownsRow N 32 1 (.slice A n c) hs.length us ∧ Off (fun k => k = b) W w' := by
  obtain ⟨i0, hi0, hz0, hz1, hz2⟩ := info_parts Jo.rowsInf
  have hown : W.ownsRow N 32 1 (.slice (some ⟨b, 0, none⟩) 0 0) 0 [] := ⟨rfl, .inr ⟨b, 0, #[], rfl, hN, hb, Nat.le_refl _, Nat.zero_le _, rfl, rfl⟩⟩
  have hul : us.length = hs.length * 1 := h1.1
  have hbl : b < W.heap.size := (Array.getElem?_eq_some_iff.1 hb).1
  rcases h1.2 with ⟨e, h0⟩ | ⟨g, cap, cur, e, hg, hh, hc1, hc2, hs1, hs2⟩
  · subst e
    have hr0 : hs = [] := List.length_eq_zero_iff.1 h0
    subst hr0
    have hu0 : us = [] := List.length_eq_zero_iff.1 (by simpa using hul)
    subst hu0
    refine ⟨_, 0, 0, _, ?_, hown, Off.refl _ _⟩
    simp [Builtin.append_, run_underlying Tryz.underlying31, sizeOf, typeInfo, hi0, Builtin.lenOf, Builtin.firstCells, storeCells]
    try rfl
  · subst e
    obtain ⟨v', w', hr, ho, hgr, _, hat⟩ := run_append_own_at (P := Tryz.prog) _ N 31 31 32 i0 _ 1 24 Tryz.underlying31 hi0 hz0 hz1 hz2 rfl (by decide) _ 0 [] hown ⟨g, 0, none⟩ hs.length cap us hul (fun j u hj => h1.cells (g := g) rfl j u hj) (fun u hu => by
      obtain ⟨j, hj, e⟩ := List.mem_iff_getElem.1 hu
      have hj2 : j < hs.length := by omega
      obtain ⟨A, m, c, rfl⟩ := h2 j u _ (by rw [List.getElem?_eq_getElem hj, e]) (List.getElem?_eq_getElem hj2)
      rfl) (by unfold maxLen; omega) (by omega) (by omega)
    obtain ⟨A, m, c, rfl⟩ : ∃ A n c, v' = .slice A n c := by
      rcases ho.2 with ⟨h7, _⟩ | ⟨g, cap, cur, h7, _⟩
      · exact ⟨none, 0, 0, h7⟩
      · exact ⟨_, _, _, h7⟩
    rw [List.nil_append, Nat.zero_add] at ho
    exact ⟨A, m, c, w', hr, ho, Off.of_grown hgr fun i e => by cases e; rfl⟩
theorem app_oneG {u : Value} {us : List Value} {N nn : Nat} (h : W.ownsRow N 32 1 v nn us) (hn : nn ≤ 1000) (hN : N ≤ W.heap.size) (hg : W.heap[b]? = some (.cells #[u] 32)) (hu : isS u) :
    ∃ A n c w', (Builtin.append_ #[31, 31] 31 #[v, .slice (some ⟨b, 0, none⟩) 1 1]).run Tryz.prog W = .ok (.slice A n c) w' ∧ Below N W w' := by
  obtain ⟨v', w', hr, ho, hgr, hloc⟩ := Jo.app_row h (by omega) hN hg (by obtain ⟨A, m, c, rfl⟩ := hu; rfl)
  obtain ⟨A, m, c, rfl⟩ : ∃ A n c, v' = .slice A n c := by
    rcases ho.2 with ⟨h7, _⟩ | ⟨g, cap, cur, h7, _⟩
    · exact ⟨none, 0, 0, h7⟩
    · exact ⟨_, _, _, h7⟩
  exact ⟨A, m, c, w', hr, (Off.of_grown (T := fun k => N ≤ k) hgr fun i e => (h.lt i e).1).below (fun _ e => e) hN⟩
/-- The row of the law's list in a later world. -/
theorem lv_row (h : LV w W p vb v R ls hs s sd g X) : ∃ us : List Value, (∀ W', Below W.heap.size W W' → W'.ownsRow w.heap.size 32 1 v hs.length us) ∧ ∀ (i : Nat) (u : Value) (l : List Int), us[i]? = some u → hs[i]? = some l → isS u := by
  obtain ⟨Z, lg, im, h1, h2, h3, ⟨⟨⟨us, k1, k2⟩, _⟩, hx⟩, h5⟩ := h
  exact ⟨us, fun W' hb => Oc.ownsRow_kept k1 (fun g hg => hb.block g (k1.lt g hg).2), fun i u l hu hl => (k2 i u l hu hl).2⟩
end
theorem blw_alloc {W W' : World} (h : Below W.heap.size W W') (o : Obj) : Below W.heap.size W (W'.alloc o) := h.alloc h.size o
theorem blk_one (W : World) (o : Obj) : (W.alloc o).heap[W.heap.size]? = some o := block_new W o
theorem blk_two (W : World) (o o' : Obj) : ((W.alloc o).alloc o').heap[W.heap.size]? = some o := ((alloc_below (W.alloc o) o').block _ (by have := block_new W o; exact (Array.getElem?_eq_some_iff.1 this).1)).trans (block_new W o)
theorem blk_one1 (W : World) (o o' : Obj) : ((W.alloc o).alloc o').heap[W.heap.size + 1]? = some o' := by
  have h := block_new (W.alloc o) o'
  rwa [show (W.alloc o).heap.size = W.heap.size + 1 by simp] at h
theorem size_lt (W : World) (o : Obj) : W.heap.size < (W.alloc o).heap.size := by simp
theorem o_any {W W' : World} {b i : Nat} {o : Obj} (h : Off (fun k => k = b) W W') (hi : W.heap[i]? = some o) (hne : i ≠ b) : W'.heap[i]? = some o := (h.2 i (Array.getElem?_eq_some_iff.1 hi).1 hne).trans hi
theorem wrap12 (m : Nat) (h : m ≤ 60) : IntKind.i64.wrap ((m : Int) + 12) = (m : Int) + 12 := by rw [IntKind.wrap_i64]; omega
/-- An append whose run is known, in a region that draws. -/
theorem step_app_run {P : Program} (w : World) {ops : Array Oper} {o : Oper} {a : Act} {K : Act → World → Prop} {Q : Exit → Act → World → Prop} {E : Prop} (hgd : o.guard = none) (s x : Operand) (t tn : TypeId)
    (ho : o.op = .call { callee := .builtin .append, args := #[s, x], argTypes := #[t, tn] }) (vs vx : Value) (hs : a.eval s = vs) (hx : a.eval x = vx)
    (v' : Value) (w' : World) (hr : (Builtin.append_ #[t, tn] o.type #[vs, vx]).run P w = .ok v' w') (h : K (a.put o.dst v') w') :
    if Region.wanted o (yielded ops a.tmps) = true then Oper.wp P o a w K Q else E := by
  have hw : Region.wanted o (yielded ops a.tmps) = true := by simp [Region.wanted, hgd]
  rw [if_pos hw]
  exact Lib.wp_append_run w s x t tn ho vs vx hs hx v' w' hr h
/-- An append in whatever world. -/
theorem wpl_ex {P : Program} (w : World) {ops : Array Oper} {rest : List Oper} {o : Oper} {a : Act} {Q : Exit → Act → World → Prop} (Φ : Option Addr → Nat → Nat → World → Prop) (hgd : o.guard = none) (s x : Operand) (t tn : TypeId)
    (ho : o.op = .call { callee := .builtin .append, args := #[s, x], argTypes := #[t, tn] }) (vs vx : Value) (hs : a.eval s = vs) (hx : a.eval x = vx)
    (h1 : ∃ A n c w', (Builtin.append_ #[t, tn] o.type #[vs, vx]).run P w = .ok (.slice A n c) w' ∧ Φ A n c w') (h : ∀ A n c w', Φ A n c w' → wpList P ops Q rest (a.put o.dst (.slice A n c)) w') : wpList P ops Q (o :: rest) a w := by
  obtain ⟨A, n, c, w', hr, hf⟩ := h1
  exact Lib.wpList_append_run w hgd s x t tn ho vs vx hs hx _ w' hr (h A n c w' hf)
end Go.Proofs.YtjijgoflbjbnfaaGreat.Vt
