/-
  The contract of the reference's Same over notes. Conditions: at most a thousand rows.
-/
import Derived.Test.YteahloddjekakaaDoorNM3
namespace Go.Proofs.YteahloddjekakaaDoor.Nt
open Go.RowKit Td

/-- Are two notes' single parts the same? -/
def sing (x y : Nt) : Bool := !(x.k != y.k) && (!(x.p != y.p) && (!(x.d != y.d) && ((x.t.n == y.t.n) && ((x.t.b.toList == y.t.b.toList) && ((x.t.s.toList == y.t.s.toList) && ((x.t.i.toList == y.t.i.toList) && ((x.t.q == y.t.q) && ((x.t.p == y.t.p) && ((x.n.toList == y.n.toList) && (!(x.a != y.a) && (!(x.hi != y.hi) && (!(x.lo != y.lo)))))))))))))
/-- The first part that differs. -/
theorem sing_first {x y : Nt} (h : sing x y = false) : ((x.k != y.k) = true) ∨ ((x.k != y.k) = false ∧ (x.p != y.p) = true) ∨ ((x.k != y.k) = false ∧ (x.p != y.p) = false ∧ (x.d != y.d) = true) ∨ ((x.k != y.k) = false ∧ (x.p != y.p) = false ∧ (x.d != y.d) = false ∧ (x.t.n == y.t.n) = false) ∨ ((x.k != y.k) = false ∧ (x.p != y.p) = false ∧ (x.d != y.d) = false ∧ (x.t.n == y.t.n) = true ∧ (x.t.b.toList == y.t.b.toList) = false) ∨ ((x.k != y.k) = false ∧ (x.p != y.p) = false ∧ (x.d != y.d) = false ∧ (x.t.n == y.t.n) = true ∧ (x.t.b.toList == y.t.b.toList) = true ∧ (x.t.s.toList == y.t.s.toList) = false) ∨ ((x.k != y.k) = false ∧ (x.p != y.p) = false ∧ (x.d != y.d) = false ∧ (x.t.n == y.t.n) = true ∧ (x.t.b.toList == y.t.b.toList) = true ∧ (x.t.s.toList == y.t.s.toList) = true ∧ (x.t.i.toList == y.t.i.toList) = false) ∨ ((x.k != y.k) = false ∧ (x.p != y.p) = false ∧ (x.d != y.d) = false ∧ (x.t.n == y.t.n) = true ∧ (x.t.b.toList == y.t.b.toList) = true ∧ (x.t.s.toList == y.t.s.toList) = true ∧ (x.t.i.toList == y.t.i.toList) = true ∧ (x.t.q == y.t.q) = false) ∨ ((x.k != y.k) = false ∧ (x.p != y.p) = false ∧ (x.d != y.d) = false ∧ (x.t.n == y.t.n) = true ∧ (x.t.b.toList == y.t.b.toList) = true ∧ (x.t.s.toList == y.t.s.toList) = true ∧ (x.t.i.toList == y.t.i.toList) = true ∧ (x.t.q == y.t.q) = true ∧ (x.t.p == y.t.p) = false) ∨ ((x.k != y.k) = false ∧ (x.p != y.p) = false ∧ (x.d != y.d) = false ∧ (x.t.n == y.t.n) = true ∧ (x.t.b.toList == y.t.b.toList) = true ∧ (x.t.s.toList == y.t.s.toList) = true ∧ (x.t.i.toList == y.t.i.toList) = true ∧ (x.t.q == y.t.q) = true ∧ (x.t.p == y.t.p) = true ∧ (x.n.toList == y.n.toList) = false) ∨ ((x.k != y.k) = false ∧ (x.p != y.p) = false ∧ (x.d != y.d) = false ∧ (x.t.n == y.t.n) = true ∧ (x.t.b.toList == y.t.b.toList) = true ∧ (x.t.s.toList == y.t.s.toList) = true ∧ (x.t.i.toList == y.t.i.toList) = true ∧ (x.t.q == y.t.q) = true ∧ (x.t.p == y.t.p) = true ∧ (x.n.toList == y.n.toList) = true ∧ (x.a != y.a) = true) ∨ ((x.k != y.k) = false ∧ (x.p != y.p) = false ∧ (x.d != y.d) = false ∧ (x.t.n == y.t.n) = true ∧ (x.t.b.toList == y.t.b.toList) = true ∧ (x.t.s.toList == y.t.s.toList) = true ∧ (x.t.i.toList == y.t.i.toList) = true ∧ (x.t.q == y.t.q) = true ∧ (x.t.p == y.t.p) = true ∧ (x.n.toList == y.n.toList) = true ∧ (x.a != y.a) = false ∧ (x.hi != y.hi) = true) ∨ ((x.k != y.k) = false ∧ (x.p != y.p) = false ∧ (x.d != y.d) = false ∧ (x.t.n == y.t.n) = true ∧ (x.t.b.toList == y.t.b.toList) = true ∧ (x.t.s.toList == y.t.s.toList) = true ∧ (x.t.i.toList == y.t.i.toList) = true ∧ (x.t.q == y.t.q) = true ∧ (x.t.p == y.t.p) = true ∧ (x.n.toList == y.n.toList) = true ∧ (x.a != y.a) = false ∧ (x.hi != y.hi) = false ∧ (x.lo != y.lo) = true) := by
  unfold sing at h
  cases h0 : (x.k != y.k)
  rotate_left
  · exact .inl rfl
  rw [h0] at h
  cases h1 : (x.p != y.p)
  rotate_left
  · exact .inr (.inl ⟨rfl, rfl⟩)
  rw [h1] at h
  cases h2 : (x.d != y.d)
  rotate_left
  · exact .inr (.inr (.inl ⟨rfl, rfl, rfl⟩))
  rw [h2] at h
  cases h3 : (x.t.n == y.t.n)
  · exact .inr (.inr (.inr (.inl ⟨rfl, rfl, rfl, rfl⟩)))
  rw [h3] at h
  cases h4 : (x.t.b.toList == y.t.b.toList)
  · exact .inr (.inr (.inr (.inr (.inl ⟨rfl, rfl, rfl, rfl, rfl⟩))))
  rw [h4] at h
  cases h5 : (x.t.s.toList == y.t.s.toList)
  · exact .inr (.inr (.inr (.inr (.inr (.inl ⟨rfl, rfl, rfl, rfl, rfl, rfl⟩)))))
  rw [h5] at h
  cases h6 : (x.t.i.toList == y.t.i.toList)
  · exact .inr (.inr (.inr (.inr (.inr (.inr (.inl ⟨rfl, rfl, rfl, rfl, rfl, rfl, rfl⟩))))))
  rw [h6] at h
  cases h7 : (x.t.q == y.t.q)
  · exact .inr (.inr (.inr (.inr (.inr (.inr (.inr (.inl ⟨rfl, rfl, rfl, rfl, rfl, rfl, rfl, rfl⟩)))))))
  rw [h7] at h
  cases h8 : (x.t.p == y.t.p)
  · exact .inr (.inr (.inr (.inr (.inr (.inr (.inr (.inr (.inl ⟨rfl, rfl, rfl, rfl, rfl, rfl, rfl, rfl, rfl⟩))))))))
  rw [h8] at h
  cases h9 : (x.n.toList == y.n.toList)
  · exact .inr (.inr (.inr (.inr (.inr (.inr (.inr (.inr (.inr (.inl ⟨rfl, rfl, rfl, rfl, rfl, rfl, rfl, rfl, rfl, rfl⟩)))))))))
  rw [h9] at h
  cases h10 : (x.a != y.a)
  rotate_left
  · exact .inr (.inr (.inr (.inr (.inr (.inr (.inr (.inr (.inr (.inr (.inl ⟨rfl, rfl, rfl, rfl, rfl, rfl, rfl, rfl, rfl, rfl, rfl⟩))))))))))
  rw [h10] at h
  cases h11 : (x.hi != y.hi)
  rotate_left
  · exact .inr (.inr (.inr (.inr (.inr (.inr (.inr (.inr (.inr (.inr (.inr (.inl ⟨rfl, rfl, rfl, rfl, rfl, rfl, rfl, rfl, rfl, rfl, rfl, rfl⟩)))))))))))
  rw [h11] at h
  cases h12 : (x.lo != y.lo)
  rotate_left
  · exact .inr (.inr (.inr (.inr (.inr (.inr (.inr (.inr (.inr (.inr (.inr (.inr (⟨rfl, rfl, rfl, rfl, rfl, rfl, rfl, rfl, rfl, rfl, rfl, rfl, rfl⟩))))))))))))
  rw [h12] at h
  cases h
theorem sing_all {x y : Nt} (h : sing x y = true) : (x.k != y.k) = false ∧ (x.p != y.p) = false ∧ (x.d != y.d) = false ∧ (x.t.n == y.t.n) = true ∧ (x.t.b.toList == y.t.b.toList) = true ∧ (x.t.s.toList == y.t.s.toList) = true ∧ (x.t.i.toList == y.t.i.toList) = true ∧ (x.t.q == y.t.q) = true ∧ (x.t.p == y.t.p) = true ∧ (x.n.toList == y.n.toList) = true ∧ (x.a != y.a) = false ∧ (x.hi != y.hi) = false ∧ (x.lo != y.lo) = false := by
  unfold sing at h
  simp only [Bool.and_eq_true, Bool.not_eq_true'] at h
  exact h
/-- Are two notes the same? -/
def sameN (x y : Nt) (l m : List Rw) : Bool := sing x y && decide (l = m)

set_option maxRecDepth 100000 in
set_option maxHeartbeats 8000000 in
theorem rsame_any (w : World) (x y : Nt) (A B : Option Addr) (n c n' c' : Nat) (l m : List Rw) (hl : Hid (RR w A l)) (hn : Hid (n = l.length)) (hl' : Hid (RR w B m)) (hn' : Hid (n' = m.length)) (hm : n ≤ 1000) {r : Bool} (hr : Hid (r = sameN x y l m)) :
    Calls Tryd.prog 22 #[.agg #[.int .i64 x.k, .int .i64 x.p, .int .i64 x.d, .int .i64 x.t.n, .string x.t.b, .string x.t.s, .string x.t.i, .int .i64 x.t.q, .int .i64 x.t.p, .string x.n, .int .i64 x.a, .slice A n c, .int .i64 x.hi, .int .u64 x.lo], .agg #[.int .i64 y.k, .int .i64 y.p, .int .i64 y.d, .int .i64 y.t.n, .string y.t.b, .string y.t.s, .string y.t.i, .int .i64 y.t.q, .int .i64 y.t.p, .string y.n, .int .i64 y.a, .slice B n' c', .int .i64 y.hi, .int .u64 y.lo]] w fun e w' => e = .returned (.bool r) ∧ Below w.heap.size w w' := by
  have E1 := two_new2 w (.cells #[.int .i64 x.k, .int .i64 x.p, .int .i64 x.d, .int .i64 x.t.n, .string x.t.b, .string x.t.s, .string x.t.i, .int .i64 x.t.q, .int .i64 x.t.p, .string x.n, .int .i64 x.a, .slice A n c, .int .i64 x.hi, .int .u64 x.lo] 27) (.cells #[.int .i64 y.k, .int .i64 y.p, .int .i64 y.d, .int .i64 y.t.n, .string y.t.b, .string y.t.s, .string y.t.i, .int .i64 y.t.q, .int .i64 y.t.p, .string y.n, .int .i64 y.a, .slice B n' c', .int .i64 y.hi, .int .u64 y.lo] 27)
  have HB0 := Lib.hid E1.2.2
  have E2 := blk14 E1.1
  have E3 := blk14 E1.2.1
  cases hs : sing x y
  · obtain rfl : r = false := by rw [hr.out]; unfold sameN; rw [hs]; rfl
    have hf := sing_first hs
    clear hs hr hl hl' hn hn'
    go_enter Tryd.func22, Tryd.ntmps22
    go_upto_region 1 with fail
    generalize (w.alloc _).alloc _ = W0 at E1 E2 E3 HB0 ⊢
    clear E1
    obtain ⟨⟨x0, x1, x2, x3, x4, x5, x6⟩, x7, x8, x9, x10, x11, x12, x13⟩ := E2
    obtain ⟨⟨y0, y1, y2, y3, y4, y5, y6⟩, y7, y8, y9, y10, y11, y12, y13⟩ := E3
    rcases hf with g0 | ⟨g0, g1⟩ | ⟨g0, g1, g2⟩ | ⟨g0, g1, g2, g3⟩ | ⟨g0, g1, g2, g3, g4⟩ | ⟨g0, g1, g2, g3, g4, g5⟩ | ⟨g0, g1, g2, g3, g4, g5, g6⟩ | ⟨g0, g1, g2, g3, g4, g5, g6, g7⟩ | ⟨g0, g1, g2, g3, g4, g5, g6, g7, g8⟩ | ⟨g0, g1, g2, g3, g4, g5, g6, g7, g8, g9⟩ | ⟨g0, g1, g2, g3, g4, g5, g6, g7, g8, g9, g10⟩ | ⟨g0, g1, g2, g3, g4, g5, g6, g7, g8, g9, g10, g11⟩ | ⟨g0, g1, g2, g3, g4, g5, g6, g7, g8, g9, g10, g11, g12⟩
    · go_wp2
      go_ret
      exact ⟨rfl, HB0.out⟩
    · go_wp2
      go_ret
      exact ⟨rfl, HB0.out⟩
    · go_wp2
      go_ret
      exact ⟨rfl, HB0.out⟩
    · go_wp2
      go_ret
      exact ⟨rfl, HB0.out⟩
    · go_wp2
      go_ret
      exact ⟨rfl, HB0.out⟩
    · go_wp2
      go_ret
      exact ⟨rfl, HB0.out⟩
    · go_wp2
      go_ret
      exact ⟨rfl, HB0.out⟩
    · go_wp2
      go_ret
      exact ⟨rfl, HB0.out⟩
    · go_wp2
      go_ret
      exact ⟨rfl, HB0.out⟩
    · go_wp2
      go_ret
      exact ⟨rfl, HB0.out⟩
    · go_wp2
      go_ret
      exact ⟨rfl, HB0.out⟩
    · go_wp2
      go_ret
      exact ⟨rfl, HB0.out⟩
    · go_wp2
      go_ret
      exact ⟨rfl, HB0.out⟩
  · have HR : Hid (r = decide (l = m)) := by show _ = _; rw [hr.out]; unfold sameN; rw [hs]; rfl
    obtain ⟨g0, g1, g2, g3, g4, g5, g6, g7, g8, g9, g10, g11, g12⟩ := sing_all hs
    clear hs hr
    by_cases hnn : n = n'
    · subst hnn
      have hlen : Hid (l.length = m.length) := by show _ = _; rw [← hn.out, ← hn'.out]
      have HL := Lib.hid (hl.out.below HB0.out)
      have HM := Lib.hid (hl'.out.below HB0.out)
      clear hl hl'
      go_enter Tryd.func22, Tryd.ntmps22
      go_upto_region 1 with fail
      generalize (w.alloc _).alloc _ = W0 at E1 E2 E3 HB0 HL HM ⊢
      have HE1 := Lib.hid E1
      clear E1
      obtain ⟨⟨x0, x1, x2, x3, x4, x5, x6⟩, x7, x8, x9, x10, x11, x12, x13⟩ := E2
      obtain ⟨⟨y0, y1, y2, y3, y4, y5, y6⟩, y7, y8, y9, y10, y11, y12, y13⟩ := E3
      have t0 : ((n : Int) != (n : Int)) = false := by simp
      go_wp2
      clear g0 g1 g2 g3 g4 g5 g6 g7 g8 g9 g10 g11 g12 x0 x1 x2 x3 x4 x5 x6 x7 x8 x9 x10 x11 x12 x13 y0 y1 y2 y3 y4 y5 y6 y7 y8 y9 y10 y11 y12 y13
      go_loopg [5] n (fun (gh : Nat) si wx => ∃ i : Nat, gh = n - i ∧ i ≤ n ∧ si = .int .i64 (i : Int) ∧ Hid (Below W0.heap.size W0 wx) ∧ Hid (r = decide (l.drop i = m.drop i)))
      case atStart => exact ⟨0, by omega, by omega, rfl, Below.refl _ _, by show _ = _; rw [HR.out, List.drop_zero, List.drop_zero]⟩
      case round =>
        obtain ⟨i, rfl, hi, rfl, HB, HS⟩ := hrel
        have X11 := (blk14 (block_kept HE1.out.1 HB.out)).2.2.2.2.2.1
        have Y11 := (blk14 (block_kept HE1.out.2.1 HB.out)).2.2.2.2.2.1
        by_cases hlt : i < n
        · have t1 : (i : Int) < (n : Int) := by omega
          have t2 : (0 : Int) ≤ (i : Int) := by omega
          obtain ⟨u, hx⟩ : ∃ u, l[i]? = some u := ⟨_, List.getElem?_eq_getElem (by rw [← hn.out]; exact hlt)⟩
          obtain ⟨v, hy⟩ : ∃ v, m[i]? = some v := ⟨_, List.getElem?_eq_getElem (by rw [← hn'.out]; exact hlt)⟩
          have hstep := eq_step hx hy
          obtain ⟨g, o, rfl, hg, cx, dx⟩ := (HL.out.below HB.out).at hx
          obtain ⟨g', o', rfl, hg', cy, dy⟩ := (HM.out.below HB.out).at hy
          obtain ⟨b1, h1⟩ : ∃ b, (u.1.toList == v.1.toList) = b := ⟨_, rfl⟩
          obtain ⟨b2, h2⟩ : ∃ b, (u.2 == v.2) = b := ⟨_, rfl⟩
          rw [h1, h2] at hstep
          have HX : Hid (r = (b1 && (b2 && decide (l.drop (i + 1) = m.drop (i + 1))))) := by show _ = _; rw [HS.out, hstep]
          clear hstep hx hy HS
          cases b1
          · obtain rfl : r = false := HX.out
            clear HX
            go_wp2
            go_quiet (fail)
            go_wp2
            go_ret
            exact ⟨rfl, HB0.out.trans ((Id.below_drewN HB.out _).mono HB0.out.size)⟩
          · cases b2
            · obtain rfl : r = false := HX.out
              clear HX
              go_wp2
              go_quiet (fail)
              go_wp2
              go_ret
              exact ⟨rfl, HB0.out.trans ((Id.below_drewN HB.out _).mono HB0.out.size)⟩
            · have HX' : Hid (r = decide (l.drop (i + 1) = m.drop (i + 1))) := HX
              clear HX
              go_wp2
              go_quiet (fail)
              go_wp2
              go_roundg (n - (i + 1))
              case measure => omega
              case rel => exact ⟨i + 1, rfl, by omega, by go_num, Id.below_drewN HB.out _, HX'⟩
        · have hq := eq_end (i := i) hlen.out (by rw [← hn.out]; omega)
          obtain rfl : r = true := by rw [HS.out, hq]
          clear hq
          go_wp2
          go_ret
          exact ⟨rfl, HB0.out.trans (HB.out.mono HB0.out.size)⟩
    · obtain rfl : r = false := by rw [HR.out]; exact eq_len (by rw [← hn.out, ← hn'.out]; exact hnn)
      have t1 : ((n : Int) != (n' : Int)) = true := by simp; omega
      clear hn hn' hl hl' HR
      go_enter Tryd.func22, Tryd.ntmps22
      go_upto_region 1 with fail
      generalize (w.alloc _).alloc _ = W0 at E1 E2 E3 HB0 ⊢
      clear E1
      obtain ⟨⟨x0, x1, x2, x3, x4, x5, x6⟩, x7, x8, x9, x10, x11, x12, x13⟩ := E2
      obtain ⟨⟨y0, y1, y2, y3, y4, y5, y6⟩, y7, y8, y9, y10, y11, y12, y13⟩ := E3
      go_wp2
      go_ret
      exact ⟨rfl, HB0.out⟩
end Go.Proofs.YteahloddjekakaaDoor.Nt

namespace Go.Proofs.YteahloddjekakaaDoor.Nt
open Go.RowKit Td

theorem eqF_nil (d : Nat) (xs ys : Array Value) (W : World) : (Op.eqFields d xs ys []).run Tryd.prog W = .ok true W := rfl
theorem eqF_cons {f : Field} {fs : List Field} {d : Nat} {xs ys : Array Value} {a b : Value} {q r : Bool} {W : World} (hn : f.name ≠ "_") (ha : (part f.type xs f.offset).run Tryd.prog W = .ok a W) (hb : (part f.type ys f.offset).run Tryd.prog W = .ok b W)
    (hq : (Op.equalIn d f.type a b).run Tryd.prog W = .ok q W) (hr : (Op.eqFields d xs ys fs).run Tryd.prog W = .ok r W) : (Op.eqFields d xs ys (f :: fs)).run Tryd.prog W = .ok (q && r) W := by
  unfold Op.eqFields
  rw [if_pos hn]
  simp only [Sem.run_bind, ha, hb, hq, Result.andThen_ok, Sem.run_ite, hr]
  cases q <;> simp
theorem eq_str {t : TypeId} {fs : Array Field} {d : Nat} {xs ys : Array Value} {r : Bool} {W : World} (ht : Tryd.prog.underlying t = some (.struct fs)) (hp : Tryd.prog.stoodInHeld t = false) (h : (Op.eqFields d xs ys fs.toList).run Tryd.prog W = .ok r W) :
    (Op.equalIn (d + 1) t (.agg xs) (.agg ys)).run Tryd.prog W = .ok r W := by
  have hf : Tryd.prog.fieldsOf t = fs := by simp [Program.fieldsOf, ht]
  rw [run_equalIn_agg W d t xs ys (by rw [hf]; exact ht) hp, hf]
  exact h
theorem eql_of {t : TypeId} {xs ys : Array Value} {r : Bool} {W : World} (h : (Op.equalIn 10000 t (.agg xs) (.agg ys)).run Tryd.prog W = .ok r W) : (binOp .eql t (.agg xs) (.agg ys)).run Tryd.prog W = .ok (.bool r) W := by
  rw [run_eql_struct, h]; rfl
theorem neq_of {t : TypeId} {xs ys : Array Value} {r : Bool} {W : World} (h : (Op.equalIn 10000 t (.agg xs) (.agg ys)).run Tryd.prog W = .ok r W) : (binOp .neq t (.agg xs) (.agg ys)).run Tryd.prog W = .ok (.bool !r) W := by
  rw [run_neq_struct, h]; rfl
theorem q_int (d : Nat) (a b : Int) (W : World) : (Op.equalIn (d + 1) 3 (.int .i64 a) (.int .i64 b)).run Tryd.prog W = .ok (a == b) W := run_equalIn_int W d _ _ _ a b Tryd.underlying3
theorem q_i64 (d : Nat) (a b : Int) (W : World) : (Op.equalIn (d + 1) 2 (.int .i64 a) (.int .i64 b)).run Tryd.prog W = .ok (a == b) W := run_equalIn_int W d _ _ _ a b Tryd.underlying2
theorem q_u64 (d : Nat) (a b : Int) (W : World) : (Op.equalIn (d + 1) 25 (.int .u64 a) (.int .u64 b)).run Tryd.prog W = .ok (a == b) W := run_equalIn_int W d _ _ _ a b Tryd.underlying25
theorem q_str (d : Nat) (a b : ByteArray) (W : World) : (Op.equalIn (d + 1) 9 (.string a) (.string b)).run Tryd.prog W = .ok (a.toList == b.toList) W := run_equalIn_string W d _ a b Tryd.underlying9
theorem q_bool (d : Nat) (a b : Bool) (W : World) : (Op.equalIn (d + 1) 4 (.bool a) (.bool b)).run Tryd.prog W = .ok (a == b) W := run_equalIn_bool' W d _ a b Tryd.underlying4

def eqT (x y : Tr) : Bool := (x.n == y.n) && ((x.b.toList == y.b.toList) && ((x.s.toList == y.s.toList) && ((x.i.toList == y.i.toList) && ((x.q == y.q) && ((x.p == y.p) && true)))))
theorem q_tr (d : Nat) (x y : Tr) (W : World) : (Op.equalIn (d + 2) 28 (.agg #[.int .i64 x.n, .string x.b, .string x.s, .string x.i, .int .i64 x.q, .int .i64 x.p]) (.agg #[.int .i64 y.n, .string y.b, .string y.s, .string y.i, .int .i64 y.q, .int .i64 y.p])).run Tryd.prog W = .ok (eqT x y) W :=
  eq_str Tryd.underlying28 (by kernel_rfl) (eqF_cons (by decide) (by kernel_rfl) (by kernel_rfl) (q_i64 _ _ _ _) (eqF_cons (by decide) (by kernel_rfl) (by kernel_rfl) (q_str _ _ _ _) (eqF_cons (by decide) (by kernel_rfl) (by kernel_rfl) (q_str _ _ _ _) (eqF_cons (by decide) (by kernel_rfl) (by kernel_rfl) (q_str _ _ _ _)
    (eqF_cons (by decide) (by kernel_rfl) (by kernel_rfl) (q_i64 _ _ _ _) (eqF_cons (by decide) (by kernel_rfl) (by kernel_rfl) (q_i64 _ _ _ _) (eqF_nil _ _ _ _)))))))
theorem q_rtr (d : Nat) (x y : Tr) (W : World) : (Op.equalIn (d + 2) 23 (.agg #[.int .i64 x.n, .string x.b, .string x.s, .string x.i, .int .i64 x.q, .int .i64 x.p]) (.agg #[.int .i64 y.n, .string y.b, .string y.s, .string y.i, .int .i64 y.q, .int .i64 y.p])).run Tryd.prog W = .ok (eqT x y) W :=
  eq_str Tryd.underlying23 (by kernel_rfl) (eqF_cons (by decide) (by kernel_rfl) (by kernel_rfl) (q_i64 _ _ _ _) (eqF_cons (by decide) (by kernel_rfl) (by kernel_rfl) (q_str _ _ _ _) (eqF_cons (by decide) (by kernel_rfl) (by kernel_rfl) (q_str _ _ _ _) (eqF_cons (by decide) (by kernel_rfl) (by kernel_rfl) (q_str _ _ _ _)
    (eqF_cons (by decide) (by kernel_rfl) (by kernel_rfl) (q_i64 _ _ _ _) (eqF_cons (by decide) (by kernel_rfl) (by kernel_rfl) (q_i64 _ _ _ _) (eqF_nil _ _ _ _)))))))
theorem q_wide (d : Nat) (h l h' l' : Int) (W : World) : (Op.equalIn (d + 2) 31 (.agg #[.int .i64 h, .int .u64 l]) (.agg #[.int .i64 h', .int .u64 l'])).run Tryd.prog W = .ok ((h == h') && ((l == l') && true)) W :=
  eq_str Tryd.underlying31 (by kernel_rfl) (eqF_cons (by decide) (by kernel_rfl) (by kernel_rfl) (q_i64 _ _ _ _) (eqF_cons (by decide) (by kernel_rfl) (by kernel_rfl) (q_u64 _ _ _ _) (eqF_nil _ _ _ _)))
/-- Are two notes' single parts the same? -/
def eqS (x y : Nt) : Bool := (x.k == y.k) && ((x.p == y.p) && ((x.d == y.d) && (eqT x.t y.t && ((x.n.toList == y.n.toList) && ((x.a == y.a) && (((x.hi == y.hi) && ((x.lo == y.lo) && true)) && true))))))
theorem q_single (d : Nat) (x y : Nt) (W : World) : (Op.equalIn (d + 3) 97 (.agg #[.int .i64 x.k, .int .i64 x.p, .int .i64 x.d, .int .i64 x.t.n, .string x.t.b, .string x.t.s, .string x.t.i, .int .i64 x.t.q, .int .i64 x.t.p, .string x.n, .int .i64 x.a, .int .i64 x.hi, .int .u64 x.lo]) (.agg #[.int .i64 y.k, .int .i64 y.p, .int .i64 y.d, .int .i64 y.t.n, .string y.t.b, .string y.t.s, .string y.t.i, .int .i64 y.t.q, .int .i64 y.t.p, .string y.n, .int .i64 y.a, .int .i64 y.hi, .int .u64 y.lo])).run Tryd.prog W = .ok (eqS x y) W :=
  eq_str Tryd.underlying97 (by kernel_rfl) (eqF_cons (by decide) (by kernel_rfl) (by kernel_rfl) (q_int _ _ _ _) (eqF_cons (by decide) (by kernel_rfl) (by kernel_rfl) (q_int _ _ _ _) (eqF_cons (by decide) (by kernel_rfl) (by kernel_rfl) (q_int _ _ _ _)
    (eqF_cons (a := .agg #[.int .i64 x.t.n, .string x.t.b, .string x.t.s, .string x.t.i, .int .i64 x.t.q, .int .i64 x.t.p]) (b := .agg #[.int .i64 y.t.n, .string y.t.b, .string y.t.s, .string y.t.i, .int .i64 y.t.q, .int .i64 y.t.p]) (by decide) (by kernel_rfl) (by kernel_rfl) (q_tr _ _ _ _) (eqF_cons (by decide) (by kernel_rfl) (by kernel_rfl) (q_str _ _ _ _) (eqF_cons (by decide) (by kernel_rfl) (by kernel_rfl) (q_i64 _ _ _ _)
      (eqF_cons (a := .agg #[.int .i64 x.hi, .int .u64 x.lo]) (b := .agg #[.int .i64 y.hi, .int .u64 y.lo]) (by decide) (by kernel_rfl) (by kernel_rfl) (q_wide _ _ _ _ _ _) (eqF_nil _ _ _ _))))))))
theorem q_parts (d : Nat) (a0 a1 a2 a3 a4 a5 a6 b0 b1 b2 b3 b4 b5 b6 : Bool) (W : World) : (Op.equalIn (d + 2) 62 (.agg #[.bool a0, .bool a1, .bool a2, .bool a3, .bool a4, .bool a5, .bool a6]) (.agg #[.bool b0, .bool b1, .bool b2, .bool b3, .bool b4, .bool b5, .bool b6])).run Tryd.prog W =
    .ok ((a0 == b0) && ((a1 == b1) && ((a2 == b2) && ((a3 == b3) && ((a4 == b4) && ((a5 == b5) && ((a6 == b6) && true))))))) W :=
  eq_str Tryd.underlying62 (by kernel_rfl) (eqF_cons (by decide) (by kernel_rfl) (by kernel_rfl) (q_bool _ _ _ _) (eqF_cons (by decide) (by kernel_rfl) (by kernel_rfl) (q_bool _ _ _ _) (eqF_cons (by decide) (by kernel_rfl) (by kernel_rfl) (q_bool _ _ _ _) (eqF_cons (by decide) (by kernel_rfl) (by kernel_rfl) (q_bool _ _ _ _)
    (eqF_cons (by decide) (by kernel_rfl) (by kernel_rfl) (q_bool _ _ _ _) (eqF_cons (by decide) (by kernel_rfl) (by kernel_rfl) (q_bool _ _ _ _) (eqF_cons (by decide) (by kernel_rfl) (by kernel_rfl) (q_bool _ _ _ _) (eqF_nil _ _ _ _))))))))
end Go.Proofs.YteahloddjekakaaDoor.Nt
