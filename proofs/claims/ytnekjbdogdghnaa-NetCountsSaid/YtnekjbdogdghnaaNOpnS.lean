/-
  Calls that came in, with how long their bytes may be. Conditions: none.
-/
import Derived.Test.YtnekjbdogdghnaaNOpen
import Derived.SizedLaws
namespace Go.Proofs.Ytnekjbdogdghnaa.Ne
open Go.ChangeShapes Go.WideShapes Go.ChangeAt Go.RowKit Go.Joins Go.Deep
open Fr (BAt bok getD_take)

/-- What is read weighs no more than may come in. -/
def Sz {H : Type} (t : TypeId) (d : DataW H) : Prop := ∀ n ∈ d.weights Try.prog t, n ≤ reachBytes
theorem reach_val : reachBytes = 140737488351232 := rfl
theorem u8_bytes : Try.prog.bytesOf 5 = 1 := by kernel_rfl
theorem all_mem {H : Type} {P : Program} {e : TypeId} : ∀ {ds : List (DataW H)} {d : DataW H}, d ∈ ds → ∀ n ∈ d.weights P e, n ∈ DataW.weightsAll P e ds
  | [], _, h, _, _ => absurd h List.not_mem_nil
  | x :: r, d, h, n, hn => by
    rw [DataW.weightsAll, List.mem_append]
    rcases List.mem_cons.1 h with rfl | h
    · exact .inl hn
    · exact .inr (all_mem h n hn)
theorem Sz.elem {H : Type} {t e : TypeId} {es sp : List (DataW H)} (h : Sz t (.slice es sp)) (hu : Try.prog.underlying t = some (.slice e)) {d : DataW H} (hd : d ∈ es) : Sz e d := fun n hn => h n (by
  simp only [DataW.weights, hu, List.mem_cons, List.mem_append]
  exact .inr (.inl (all_mem hd n hn)))
/-- Bytes that came in. -/
theorem open_bfS {H : Type} {enc : TypeId × Value → H} {w : World} {held : Bool} {fuel : Nat} {cs : List Value} {x : DataW H × List MemPlace} (h : DataW.trod enc Try.prog w 0 (fun _ => true) held fuel 37 cs = some x) (hz : Sz 37 x.1) :
    ∃ A len cap l, cs = [.slice A len cap] ∧ BFr w.heap.size w (.slice A len cap) l ∧ l.length ≤ reachBytes := by
  obtain ⟨A, len, cap, l, h1, h2⟩ := open_bf h
  refine ⟨A, len, cap, l, h1, h2, ?_⟩
  have hl : l.length = len := by obtain ⟨_, _, e, _⟩ := h2; simp only [Value.slice.injEq] at e; exact e.2.1.symm
  rcases open_ints Try.underlying37 Try.underlying5 (by kernel_rfl) h with ⟨hcs, _⟩ | ⟨a, len', c, zs, hcs, _, hlc, hm, hzl, hx, _, _⟩
  · rw [hcs] at h1
    simp at h1
    have := h1.2.1
    omega
  · rw [hcs] at h1
    simp at h1
    have h3 := hz ((zs.take len').length + (zs.drop len').length) (by
      rw [hx]
      simp only [DataW.weights, Try.underlying37, u8_bytes, lits, List.length_map, Nat.mul_one]
      exact List.mem_cons_self ..)
    simp at hzl
    rw [List.length_take, List.length_drop] at h3
    have := h1.2.1
    omega
/-- Slices of bytes that came in. -/
theorem open_bbfS {H : Type} {enc : TypeId × Value → H} {w : World} {held : Bool} {fuel : Nat} {cs : List Value} {x : DataW H × List MemPlace} (h : DataW.trod enc Try.prog w 0 (fun _ => true) held fuel 33 cs = some x) (hz : Sz 33 x.1) :
    ∃ A len cap ls, cs = [.slice A len cap] ∧ SFr w.heap.size w (.slice A len cap) ls ∧ ∀ l ∈ ls, l.length ≤ reachBytes := by
  rcases open_slice Try.underlying33 h with h0 | ⟨a, len, cap, m, n, D, Pl, rfl, hb, hl, hm, hmm, rfl, hx⟩
  · exact ⟨none, 0, 0, [], h0.1, SFr.nil _ _, fun l h => absurd h List.not_mem_nil⟩
  · rw [if_pos rfl] at hmm
    have hcell : ∀ i, i < len → ∃ l : List Int, (∃ u, w.cell? (a.add i) = some u ∧ BFr w.heap.size w u l) ∧ l.length ≤ reachBytes := fun i hi => by
      obtain ⟨cs', h1, h2⟩ := hx i (by omega)
      rw [bytes_cellsOf, Nat.mul_one] at h1
      obtain ⟨_, hlen, hcell⟩ := World.cells?_some h1
      obtain ⟨A, n, c, l, h3, h4, h5⟩ := open_bfS h2 (hz.elem Try.underlying33 (List.mem_map.2 ⟨i, List.mem_range.2 hi, rfl⟩))
      subst h3
      have h6 := hcell 0 (by decide)
      have h7 : (a.add i).add 0 = a.add i := by unfold Addr.add; split <;> simp_all
      rw [h7] at h6
      exact ⟨l, ⟨_, h6, h4⟩, h5⟩
    obtain ⟨ls, h1, h2⟩ := rows_list len hcell
    subst h1
    refine ⟨some a, _, cap, ls, rfl, ⟨some a, cap, rfl, hl, fun hp => ?_⟩, fun l hl => ?_⟩
    · obtain ⟨b, off, spot⟩ := a
      obtain ⟨_, ⟨u, hc, _⟩, _⟩ := hcell 0 hp
      have hspot : spot = none := by simpa [Addr.add] using World.cell?_spot hc
      subst hspot
      have hlt : b < w.heap.size := by
        have := World.block_lt_of_cell? _ _ hc
        simpa [Addr.add] using this
      refine ⟨b, off, rfl, free_old hlt, fun i l hi => ?_⟩
      obtain ⟨⟨u, h3, h4⟩, _⟩ := h2 i l hi
      rw [show (Addr.mk b off none).add i = ⟨b, off + i, none⟩ by unfold Addr.add; split <;> simp_all] at h3
      exact ⟨u, h3, h4⟩
    · obtain ⟨i, hi⟩ := List.mem_iff_getElem?.1 hl
      exact (h2 i l hi).2
def SzA (a : AcP) : Prop := ∀ t ∈ a.ls, t.length ≤ reachBytes
set_option maxRecDepth 100000 in
/-- Five cells that read as a call are one. -/
theorem trod_actS {H : Type} {enc : TypeId × Value → H} {w : World} {held : Bool} {f0 f1 f2 f3 f4 : Field} {fuel : Nat} {cs : List Value} {x : DataW H × List MemPlace} (he : Try.prog.underlying 35 = some (.struct #[f0, f1, f2, f3, f4]))
    (o0 : f0.offset = 0) (o1 : f1.offset = 1) (o2 : f2.offset = 2) (o3 : f3.offset = 3) (o4 : f4.offset = 4) (t0 : f0.type = 3) (t1 : f1.type = 3) (t2 : f2.type = 3) (t3 : f3.type = 5) (t4 : f4.type = 33)
    (h : DataW.trod enc Try.prog w 0 (fun _ => true) held fuel 35 cs = some x) (hz : Sz 35 x.1) : ∃ a : AcP, cs = [.int .i64 a.k, .int .i64 a.d, .int .i64 a.a, .int .u8 a.b, .slice a.A a.nb a.cb] ∧ AcOk w a ∧ SzA a := by
  have ci : Try.prog.cellsOf 3 = 1 := by kernel_rfl
  have c8 : Try.prog.cellsOf 5 = 1 := by kernel_rfl
  have cb : Try.prog.cellsOf 33 = 1 := by kernel_rfl
  obtain ⟨xs, k, hk, hxy, hl, hxl, hf⟩ := DataW.trod_struct he h
  rw [act_cellsOf] at hl
  match xs, hxl, cs, hl with
  | [y0, y1, y2, y3, y4], _, [v0, v1, v2, v3, v4], _ =>
    have g0 := hf 0 f0 rfl
    have g1 := hf 1 f1 rfl
    have g2 := hf 2 f2 rfl
    have g3 := hf 3 f3 rfl
    have g4 := hf 4 f4 rfl
    simp [o0, o1, o2, o3, o4, t0, t1, t2, t3, t4, ci, cb, c8] at g0 g1 g2 g3 g4
    have hz4 : Sz 33 y4.1 := fun n hn => hz n (by
      rw [hxy]
      simp only [DataW.weights, he, List.map_cons, List.map_nil, t0, t1, t2, t3, t4, DataW.weightsEach, List.mem_append]
      exact .inr (.inr (.inr (.inr (.inl hn)))))
    obtain ⟨z0, q0, _, _⟩ := DataW.trod_int Try.underlying3 g0
    obtain ⟨z1, q1, _, _⟩ := DataW.trod_int Try.underlying3 g1
    obtain ⟨z2, q2, _, _⟩ := DataW.trod_int Try.underlying3 g2
    obtain ⟨z3, q3, _, w3⟩ := DataW.trod_int Try.underlying5 g3
    obtain ⟨A, n, c, ls, q4, q5, q6⟩ := open_bbfS g4 hz4
    simp at q0 q1 q2 q3 q4
    subst q0 q1 q2 q3 q4
    simp [Lit.wf, IntKind.min, IntKind.max, IntKind.signed, IntKind.bits] at w3
    exact ⟨⟨z0, z1, z2, z3, A, n, c, ls⟩, rfl, ⟨by show 0 ≤ z3 ∧ z3 < _; omega, q5⟩, q6⟩
theorem acts_ofS {w : World} {x : Addr} {l cap : Nat} (hl : l ≤ cap) (hc : ∀ i, i < cap → ∃ a : AcP, AcAt w (fun j => w.cell? (x.add (i * 5 + j))) a ∧ (i < l → SzA a)) : ∃ cs : List AcP, ActsW w (some x) l cs ∧ ∀ a ∈ cs, SzA a := by
  rcases Nat.eq_zero_or_pos l with h0 | hp
  · exact ⟨[], ⟨by rw [h0]; rfl, fun i a h => by simp at h⟩, fun a h => absurd h List.not_mem_nil⟩
  obtain ⟨b, off, spot⟩ := x
  obtain ⟨r0, ⟨_, h0, _⟩, _⟩ := hc 0 (by omega)
  have hspot : spot = none := by simpa [Addr.add] using World.cell?_spot h0
  subst hspot
  have ea : ∀ j, (Addr.mk b off none).add j = ⟨b, off + j, none⟩ := fun j => by cases j <;> simp [Addr.add]
  have hf : ∀ i : Nat, ∃ a : AcP, i < cap → AcAt w (fun j => w.cell? ((Addr.mk b off none).add (i * 5 + j))) a ∧ (i < l → SzA a) := fun i => by
    by_cases hi : i < cap
    · obtain ⟨r, hr⟩ := hc i hi
      exact ⟨r, fun _ => hr⟩
    · exact ⟨⟨0, 0, 0, 0, none, 0, 0, []⟩, fun h => absurd h hi⟩
  obtain ⟨f, hf⟩ := Classical.axiomOfChoice hf
  refine ⟨(List.range l).map f, ⟨by simp, fun i a hi => ?_⟩, fun a ha => ?_⟩
  · have hil : i < l := by
      have := (List.getElem?_eq_some_iff.1 hi).1
      simpa using this
    rw [List.getElem?_map, List.getElem?_range hil] at hi
    simp only [Option.map_some, Option.some.injEq] at hi
    subst hi
    have h1 := (hf i (by omega)).1
    have hlt : b < w.heap.size := by
      have := World.block_lt_of_cell? _ _ h0
      simpa [Addr.add] using this
    refine ⟨b, off, rfl, hlt, ?_⟩
    have e : (fun j => w.cell? ((Addr.mk b off none).add (i * 5 + j))) = fun j => w.cell? ⟨b, off + i * 5 + j, none⟩ := by
      funext j; rw [ea, Nat.add_assoc]
    rw [e] at h1
    exact h1
  · obtain ⟨i, hi, rfl⟩ := List.mem_map.1 ha
    have hil := List.mem_range.1 hi
    exact (hf i (by omega)).2 hil
set_option maxRecDepth 100000 in
/-- Calls that came in. -/
theorem open_actsS {H : Type} {enc : TypeId × Value → H} {w : World} {held : Bool} {fuel : Nat} {cs : List Value} {x : DataW H × List MemPlace} (h : DataW.trod enc Try.prog w 0 (fun _ => true) held fuel 22 cs = some x) (hz : Sz 22 x.1) :
    ∃ A len cap l, cs = [.slice A len cap] ∧ ActsW w A len l ∧ ∀ a ∈ l, SzA a := by
  rcases open_slice Try.underlying22 h with h0 | ⟨a, len', cap', m, n, D, Pl, e, hb, hl, hm, hmm, hxe, hx⟩
  · exact ⟨none, 0, 0, [], h0.1, ⟨rfl, fun i a h => by simp at h⟩, fun a h => absurd h List.not_mem_nil⟩
  · rw [if_pos rfl] at hmm
    obtain ⟨l, hl', hs⟩ := acts_ofS (w := w) (x := a) (l := len') (cap := cap') hl (fun i hi => by
      obtain ⟨cs', h1, h2⟩ := hx i (by omega)
      rw [act_cellsOf] at h1
      obtain ⟨_, hcl, hcell⟩ := World.cells?_some h1
      have fin : ∀ t : AcP, cs' = [.int .i64 t.k, .int .i64 t.d, .int .i64 t.a, .int .u8 t.b, .slice t.A t.nb t.cb] → AcOk w t → AcAt w (fun j => w.cell? (a.add (i * 5 + j))) t := fun t ht ok => by
        subst ht
        have e0 := hcell 0 (by simp)
        have e1 := hcell 1 (by simp)
        have e2 := hcell 2 (by simp)
        have e3 := hcell 3 (by simp)
        have e4 := hcell 4 (by simp)
        rw [add_two] at e0 e1 e2 e3 e4
        exact ⟨ok, by simpa using e0, by simpa using e1, by simpa using e2, by simpa using e3, by simpa using e4⟩
      by_cases hil : i < len'
      · obtain ⟨t, ht, ok, sz⟩ := trod_actS Try.underlying35 rfl rfl rfl rfl rfl rfl rfl rfl rfl rfl h2 (by
          rw [hxe] at hz
          exact hz.elem Try.underlying22 (List.mem_map.2 ⟨i, List.mem_range.2 hil, rfl⟩))
        exact ⟨t, fin t ht ok, fun _ => sz⟩
      · obtain ⟨t, ht, ok⟩ := trod_act Try.underlying35 rfl rfl rfl rfl rfl rfl rfl rfl rfl rfl h2
        exact ⟨t, fin t ht ok, fun h => absurd h hil⟩)
    exact ⟨some a, len', cap', l, e, hl', hs⟩
end Go.Proofs.Ytnekjbdogdghnaa.Ne
