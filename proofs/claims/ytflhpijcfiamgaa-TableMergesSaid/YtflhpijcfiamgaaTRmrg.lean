/-
  The contract of the reference's Merge. Conditions: two tables of at most 400 rows.
-/
import Derived.Test.YtflhpijcfiamgaaTOfl
namespace Go.Proofs.Ytflhpijcfiamgaa.Tb
open Go.RowKit
open Ii (cells cells_len cells_get cells_one cells_append cells_cons cells_inv getL)

/-- Ten times the one and the other, as 64 bits have it. -/
def ten (a b : Int) : Int := IntKind.i64.wrap (IntKind.i64.wrap (10 * a) + b)
theorem wrap64_eq (z : Int) : wrap64 z = IntKind.i64.wrap z := by rw [IntKind.wrap_i64]; unfold wrap64; omega
/-- What is put for a row of the second table. -/
def mrow (la : List (Int × Int)) (r : Int × Int) : Int × Int := (r.1, if hasB la r.1 = true then ten (getL la r.1) r.2 else r.2)
/-- The two tables' rows, put one behind the other. -/
def mergeL (la lb : List (Int × Int)) : List (Int × Int) := putAll (la ++ lb.map (mrow la))
theorem putAll_len (l : List (Int × Int)) : (putAll l).length ≤ l.length := len_putAll l
theorem slice_view {w : World} {base n : Nat} {e : TypeId} {v : Value} {xs : List Value} (h : w.ownsRow base e 2 v n xs) : ∃ A cap, v = .slice A n cap ∧ (0 < n → ∃ g, A = some ⟨g, 0, none⟩) := by
  rcases Go.Joins.ownsRow_forms h with ⟨rfl, rfl⟩ | ⟨g, cap, rfl⟩
  · exact ⟨none, 0, rfl, fun h => absurd h (by decide)⟩
  · exact ⟨_, cap, rfl, fun _ => ⟨g, rfl⟩⟩

set_option maxRecDepth 100000 in
theorem ten_any (a b : Int) (w : World) : Calls Try.prog 29 #[.int .i64 a, .int .i64 b] w fun e w' => e = .returned (.int .i64 (ten a b)) ∧ w = w' := by
  have ht : ten a b = wrap64 (wrap64 (10 * a) + b) := by rw [wrap64_eq, wrap64_eq]; rfl
  rw [ht]
  go_enter Try.func29, Try.ntmps29
  go_wp2
  go_ret
  exact ⟨rfl, rfl⟩

/-- What holds between Merge's rounds: the rows put so far. -/
def MrgI (w : World) (l : List (Int × Int)) (wx : World) : Prop := Below w.heap.size w wx ∧ ∃ dv, Rf.TabV w.heap.size wx w.heap.size dv (putAll l)
/-- A row of a table that the call only reads. -/
theorem row_read {base : Nat} {w wx : World} {b : Nat} {cap : Nat} {g : Nat} {l : List (Int × Int)} (hT : Rf.TabV base w b (.slice (some ⟨g, 0, none⟩) l.length cap) l) (hb : Below w.heap.size w wx) (i : Nat) (r : Int × Int) (hr : l[i]? = some r) :
    (wx.cell? ⟨b, 0, none⟩ = some (.slice (some ⟨g, 0, none⟩) l.length cap) ∧ wx.cell? ⟨g, i * 2, none⟩ = some (.int .i64 r.1) ∧ wx.cell? ⟨g, i * 2 + 1, none⟩ = some (.int .i64 r.2)) ∧ b < w.heap.size ∧ g < w.heap.size := by
  have hlt := (List.getElem?_eq_some_iff.1 hr).1
  have hg := (hT.2.2.lt g rfl).2
  have hcg := cells_get l i r hr
  refine ⟨⟨(hb.cell (p := ⟨b, 0, none⟩) hT.2.1.lt).trans hT.2.1.cell, ?_, ?_⟩, hT.2.1.lt, hg⟩
  · exact (hb.cell (p := ⟨g, i * 2, none⟩) hg).trans ((hT.2.2.cellAt (i * 2) (by omega)).trans hcg.1)
  · exact (hb.cell (p := ⟨g, i * 2 + 1, none⟩) hg).trans ((hT.2.2.cellAt (i * 2 + 1) (by omega)).trans hcg.2)

set_option maxRecDepth 100000 in
set_option maxHeartbeats 4000000 in
theorem rmerge_any (base : Nat) (w : World) (ba bb : Nat) (va vb : Value) (la lb : List (Int × Int)) (hA : Rf.TabV base w ba va la) (hB : Rf.TabV base w bb vb lb) (asA : asc la) (hla : la.length ≤ 400) (hlb : lb.length ≤ 400) :
    Calls Try.prog 30 #[.pointer (some ⟨ba, 0, none⟩), .pointer (some ⟨bb, 0, none⟩)] w fun e w' => e = .returned (.pointer (some ⟨w.heap.size, 0, none⟩)) ∧ MrgI w (la ++ lb.map (mrow la)) w' := by
  obtain ⟨A1, c1, rfl, hA1⟩ := slice_view hA.2.2
  obtain ⟨A2, c2, rfl, hB1⟩ := slice_view hB.2.2
  have TA := Lib.hid hA
  have TB := Lib.hid hB
  have AA := Lib.hid asA
  have lba := hA.2.1.lt
  have lbb := hB.2.1.lt
  have ca := hA.2.1.cell
  have cb := hB.2.1.cell
  have CA := Lib.hid ca
  have CB := Lib.hid cb
  clear hA hB asA ca cb
  have h0 : Hid (MrgI w (la.take 0) (w.alloc (.cells #[.slice none 0 0] 30))) :=
    ⟨(Below.refl _ _).alloc (Nat.le_refl _) _, .slice none 0 0, Nat.le_refl _, Boxed.new _ _ _, World.ownsRow_nil _ _ _ _⟩
  go_enter Try.func30, Try.ntmps30
  go_wp2
  go_loopg [6] la.length (fun (gh : Nat) s6 wx => ∃ i : Nat, gh = la.length - i ∧ i ≤ la.length ∧ s6 = .int .i64 (i : Int) ∧ Hid (MrgI w (la.take i) wx))
  case atStart => exact ⟨0, rfl, Nat.zero_le _, rfl, h0⟩
  case round =>
    clear h0
    obtain ⟨i, rfl, hi, rfl, hinv⟩ := hrel
    obtain ⟨hbel, dv, hT⟩ := hinv.out
    by_cases hlt : i < la.length
    · have t1 : (i : Int) < (la.length : Int) := by omega
      have t2 : (0 : Int) ≤ (i : Int) := by omega
      obtain ⟨g, rfl⟩ := hA1 (by omega)
      obtain ⟨r, hr⟩ : ∃ r, la[i]? = some r := ⟨_, List.getElem?_eq_getElem hlt⟩
      obtain ⟨⟨e0, e1, e2⟩, _, hgl⟩ := row_read TA.out (hbel.trans ((Below.refl _ wr).drew.mono hbel.size)) i r hr
      have d0 : wr.cell? ⟨ba, 0, none⟩ = some (.slice (some ⟨g, 0, none⟩) la.length c1) := e0
      have d1 : wr.cell? ⟨g, i * 2, none⟩ = some (.int .i64 r.1) := e1
      have d2 : wr.cell? ⟨g, i * 2 + 1, none⟩ = some (.int .i64 r.2) := e2
      have hz := hbel.size
      have hln : (la.take i).length = i := by rw [List.length_take]; omega
      have hpl := len_putAll (la.take i)
      have HC := Lib.hid (Rf.put_any w.heap.size wr.drew w.heap.size dv (putAll (la.take i)) r.1 r.2 (hT.below (Below.refl _ _).drew) (asc_putAll _) (by omega) hz)
      have HPS : Hid (putAll (la.take (i + 1)) = putL (putAll (la.take i)) r.1 r.2) := by
        show _ = _
        rw [List.take_add_one, hr]
        exact putAll_snoc _ _
      have HB := Lib.hid hbel
      have HLI := Lib.hid hlt
      clear hr hbel hT hinv hln hpl
      go_wp2_with fail
      go_region_held3 (fun w' => w'.cell? ⟨ba, 0, none⟩ = some (.slice (some ⟨g, 0, none⟩) la.length c1) ∧ w'.cell? ⟨g, i * 2, none⟩ = some (.int .i64 r.1) ∧ w'.cell? ⟨g, i * 2 + 1, none⟩ = some (.int .i64 r.2))
        (first
          | (exact ⟨e0, e1, e2⟩)
          | (exact ⟨f0, f1, f2⟩)
          | go_keep)
        (first
          | (go_at_call 9; (with_reducible refine HC.out.mono ?_); rintro e w2 ⟨rfl, dv2, hT2, hk2, _⟩
             have B2' : Below w.heap.size wr.drew w2 := hk2.below (w := wr.drew) hz (fun k hk e => by omega)
             have B2 : Hid (Below w.heap.size w w2) := HB.out.trans (((Below.refl _ wr).drew.mono hz).trans B2')
             obtain ⟨f0, f1, f2⟩ := (⟨(B2'.cell (p := ⟨ba, 0, none⟩) lba).trans e0, (B2'.cell (p := ⟨g, i * 2, none⟩) hgl).trans e1, (B2'.cell (p := ⟨g, i * 2 + 1, none⟩) hgl).trans e2⟩ : w2.cell? ⟨ba, 0, none⟩ = some (.slice (some ⟨g, 0, none⟩) la.length c1) ∧ w2.cell? ⟨g, i * 2, none⟩ = some (.int .i64 r.1) ∧ w2.cell? ⟨g, i * 2 + 1, none⟩ = some (.int .i64 r.2))
             have T2 := Lib.hid hT2
             clear hT2 hk2 B2'))
      all_goals
        have FIN : Hid (MrgI w (la.take (i + 1)) w2) := ⟨B2.out, dv2, by rw [HPS.out]; exact T2.out⟩
        clear d0 d1 d2 e0 e1 e2 f0 f1 f2
        go_wp2
        go_roundg (la.length - (i + 1))
        case measure => have := HLI.out; omega
        case rel => exact ⟨i + 1, rfl, HLI.out, by go_num, FIN⟩
    · obtain rfl : i = la.length := by omega
      have t0 : decide ((la.length : Int) < (la.length : Int)) = false := by simp
      have d0 : wr.cell? ⟨ba, 0, none⟩ = some (.slice A1 la.length c1) := (hbel.cell (p := ⟨ba, 0, none⟩) lba).trans CA.out
      have h1 : Hid (MrgI w (la ++ (lb.map (mrow la)).take 0) wr) := by
        have := hinv.out
        rwa [List.take_length, show la = la ++ (lb.map (mrow la)).take 0 by simp] at this
      clear hinv hbel hT
      go_wp2
      go_loopg [7] lb.length (fun (gh : Nat) s7 wx => ∃ i : Nat, gh = lb.length - i ∧ i ≤ lb.length ∧ s7 = .int .i64 (i : Int) ∧ Hid (MrgI w (la ++ (lb.map (mrow la)).take i) wx))
      case atStart => exact ⟨0, rfl, Nat.zero_le _, rfl, h1⟩
      case round =>
        clear h1 d0
        obtain ⟨i, rfl, hi, rfl, hinv⟩ := hrel
        obtain ⟨hbel, dv, hT⟩ := hinv.out
        by_cases hlt : i < lb.length
        · have t1 : (i : Int) < (lb.length : Int) := by omega
          have t2 : (0 : Int) ≤ (i : Int) := by omega
          obtain ⟨g, rfl⟩ := hB1 (by omega)
          obtain ⟨r, hr⟩ : ∃ r, lb[i]? = some r := ⟨_, List.getElem?_eq_getElem hlt⟩
          obtain ⟨⟨d0, d1, d2⟩, _, hgl⟩ := row_read TB.out hbel i r hr
          have hz := hbel.size
          have hln : (la ++ (lb.map (mrow la)).take i).length ≤ 800 := by rw [List.length_append, List.length_take, List.length_map]; omega
          have hpl := len_putAll (la ++ (lb.map (mrow la)).take i)
          have HG := Lib.hid (Rf.get_any base wr ba (.slice A1 la.length c1) la r.1 (TA.out.below hbel) AA.out (by omega))
          obtain ⟨bh, hbh⟩ : ∃ bh, bh = hasB la r.1 := ⟨_, rfl⟩
          obtain ⟨gv, hgv⟩ : ∃ gv, gv = getL la r.1 := ⟨_, rfl⟩
          have HPS0 : Hid (∀ y, y = (if bh = true then ten gv r.2 else r.2) → putAll (la ++ (lb.map (mrow la)).take (i + 1)) = putL (putAll (la ++ (lb.map (mrow la)).take i)) r.1 y) := by
            intro y hy
            rw [List.take_add_one, List.getElem?_map, hr, ← List.append_assoc]
            have := putAll_snoc (la ++ (lb.map (mrow la)).take i) (mrow la r)
            rw [hy, hbh, hgv]
            exact this
          rw [← hbh, ← hgv] at HG
          have HT := Lib.hid hT
          have HB := Lib.hid hbel
          have HLI := Lib.hid hlt
          have HLN := Lib.hid (show (putAll (la ++ (lb.map (mrow la)).take i)).length ≤ 1000 by omega)
          obtain ⟨ky, hky⟩ : ∃ ky, ky = r.1 := ⟨_, rfl⟩
          obtain ⟨va, hva⟩ : ∃ va, va = r.2 := ⟨_, rfl⟩
          rw [← hky] at HG HPS0 d1
          rw [← hva] at HPS0 d2
          clear hr hbel hT hinv hln hpl hbh hgv hky hva
          cases bh
          · have HPS := Lib.hid (HPS0.out va (by simp))
            go_wp2_with (go_at_call 11; refine HG.out.mono ?_; rintro e w1 ⟨rfl, k1⟩; have K1 := Lib.hid k1; clear k1; have e0 := (K1.out.cell (p := ⟨bb, 0, none⟩) (Nat.lt_of_lt_of_le lbb hz)).trans d0; have e1 := (K1.out.cell (p := ⟨g, i * 2, none⟩) (Nat.lt_of_lt_of_le hgl hz)).trans d1; have e2 := (K1.out.cell (p := ⟨g, i * 2 + 1, none⟩) (Nat.lt_of_lt_of_le hgl hz)).trans d2)
            have hz1 : w.heap.size ≤ w1.heap.size := Nat.le_trans hz K1.out.size
            have HB1 : Hid (Below w.heap.size w w1) := HB.out.trans (K1.out.mono hz)
            have HC := Lib.hid (Rf.put_any w.heap.size w1.drew w.heap.size dv _ ky va ((HT.out.below K1.out).below (Below.refl _ _).drew) (asc_putAll _) HLN.out hz1)
            have x0 : w1.drew.cell? ⟨bb, 0, none⟩ = some (.slice (some ⟨g, 0, none⟩) lb.length c2) := e0
            have x1 : w1.drew.cell? ⟨g, i * 2, none⟩ = some (.int .i64 ky) := e1
            have x2 : w1.drew.cell? ⟨g, i * 2 + 1, none⟩ = some (.int .i64 va) := e2
            clear d0 d1 d2
            go_wp2_with fail
            go_region_held3 (fun w' => w'.cell? ⟨bb, 0, none⟩ = some (.slice (some ⟨g, 0, none⟩) lb.length c2) ∧ w'.cell? ⟨g, i * 2, none⟩ = some (.int .i64 ky) ∧ w'.cell? ⟨g, i * 2 + 1, none⟩ = some (.int .i64 va))
              (first
                | (exact ⟨x0, x1, x2⟩)
                | (exact ⟨f0, f1, f2⟩)
                | go_keep)
              (first
                | (go_at_call 9; (with_reducible refine HC.out.mono ?_); rintro e w2 ⟨rfl, dv2, hT2, hk2, _⟩
                   have B2' : Below w.heap.size w1.drew w2 := hk2.below (w := w1.drew) hz1 (fun k hk e => by omega)
                   have B2 : Hid (Below w.heap.size w w2) := HB1.out.trans (((Below.refl _ w1).drew.mono hz1).trans B2')
                   obtain ⟨f0, f1, f2⟩ := (⟨(B2'.cell (p := ⟨bb, 0, none⟩) lbb).trans x0, (B2'.cell (p := ⟨g, i * 2, none⟩) hgl).trans x1, (B2'.cell (p := ⟨g, i * 2 + 1, none⟩) hgl).trans x2⟩ : w2.cell? ⟨bb, 0, none⟩ = some (.slice (some ⟨g, 0, none⟩) lb.length c2) ∧ w2.cell? ⟨g, i * 2, none⟩ = some (.int .i64 ky) ∧ w2.cell? ⟨g, i * 2 + 1, none⟩ = some (.int .i64 va))
                   have T2 := Lib.hid hT2
                   clear hT2 hk2 B2'))
            all_goals
              have FIN : Hid (MrgI w (la ++ (lb.map (mrow la)).take (i + 1)) w2) := ⟨B2.out, dv2, by rw [HPS.out]; exact T2.out⟩
              clear x0 x1 x2 e0 e1 e2 f0 f1 f2
              go_wp2
              go_roundg (lb.length - (i + 1))
              case measure => have := HLI.out; omega
              case rel => exact ⟨i + 1, rfl, HLI.out, by go_num, FIN⟩
          · have HPS := Lib.hid (HPS0.out (ten gv va) (by simp))
            go_wp2_with (go_at_call 11; refine HG.out.mono ?_; rintro e w1 ⟨rfl, k1⟩; have K1 := Lib.hid k1; clear k1; have e0 := (K1.out.cell (p := ⟨bb, 0, none⟩) (Nat.lt_of_lt_of_le lbb hz)).trans d0; have e1 := (K1.out.cell (p := ⟨g, i * 2, none⟩) (Nat.lt_of_lt_of_le hgl hz)).trans d1; have e2 := (K1.out.cell (p := ⟨g, i * 2 + 1, none⟩) (Nat.lt_of_lt_of_le hgl hz)).trans d2)
            have hz1 : w.heap.size ≤ w1.heap.size := Nat.le_trans hz K1.out.size
            have HB1 : Hid (Below w.heap.size w w1) := HB.out.trans (K1.out.mono hz)
            have HC := Lib.hid (Rf.put_any w.heap.size w1.drew w.heap.size dv _ ky (IntKind.i64.wrap (IntKind.i64.wrap (10 * gv) + va)) ((HT.out.below K1.out).below (Below.refl _ _).drew) (asc_putAll _) HLN.out hz1)
            have x0 : w1.drew.cell? ⟨bb, 0, none⟩ = some (.slice (some ⟨g, 0, none⟩) lb.length c2) := e0
            have x1 : w1.drew.cell? ⟨g, i * 2, none⟩ = some (.int .i64 ky) := e1
            have x2 : w1.drew.cell? ⟨g, i * 2 + 1, none⟩ = some (.int .i64 va) := e2
            clear d0 d1 d2
            go_wp2_with fail
            go_region_held3 (fun w' => w'.cell? ⟨bb, 0, none⟩ = some (.slice (some ⟨g, 0, none⟩) lb.length c2) ∧ w'.cell? ⟨g, i * 2, none⟩ = some (.int .i64 ky) ∧ w'.cell? ⟨g, i * 2 + 1, none⟩ = some (.int .i64 va))
              (first
                | (exact ⟨x0, x1, x2⟩)
                | (exact ⟨f0, f1, f2⟩)
                | go_keep)
              (first
                | (go_at_call 9; (with_reducible refine HC.out.mono ?_); rintro e w2 ⟨rfl, dv2, hT2, hk2, _⟩
                   have B2' : Below w.heap.size w1.drew w2 := hk2.below (w := w1.drew) hz1 (fun k hk e => by omega)
                   have B2 : Hid (Below w.heap.size w w2) := HB1.out.trans (((Below.refl _ w1).drew.mono hz1).trans B2')
                   obtain ⟨f0, f1, f2⟩ := (⟨(B2'.cell (p := ⟨bb, 0, none⟩) lbb).trans x0, (B2'.cell (p := ⟨g, i * 2, none⟩) hgl).trans x1, (B2'.cell (p := ⟨g, i * 2 + 1, none⟩) hgl).trans x2⟩ : w2.cell? ⟨bb, 0, none⟩ = some (.slice (some ⟨g, 0, none⟩) lb.length c2) ∧ w2.cell? ⟨g, i * 2, none⟩ = some (.int .i64 ky) ∧ w2.cell? ⟨g, i * 2 + 1, none⟩ = some (.int .i64 va))
                   have T2 := Lib.hid hT2
                   clear hT2 hk2 B2'))
            all_goals
              have FIN : Hid (MrgI w (la ++ (lb.map (mrow la)).take (i + 1)) w2) := ⟨B2.out, dv2, by rw [HPS.out]; exact T2.out⟩
              clear x0 x1 x2 e0 e1 e2 f0 f1 f2
              go_wp2
              go_roundg (lb.length - (i + 1))
              case measure => have := HLI.out; omega
              case rel => exact ⟨i + 1, rfl, HLI.out, by go_num, FIN⟩
        · obtain rfl : i = lb.length := by omega
          have t0 : decide ((lb.length : Int) < (lb.length : Int)) = false := by simp
          have d0 : wr.cell? ⟨bb, 0, none⟩ = some (.slice A2 lb.length c2) := (hbel.cell (p := ⟨bb, 0, none⟩) lbb).trans CB.out
          have hf : Hid (MrgI w (la ++ lb.map (mrow la)) wr) := by
            have := hinv.out
            rwa [List.take_of_length_le (by simp)] at this
          clear hinv hbel hT
          go_wp2
          go_ret
          exact ⟨rfl, hf.out⟩
end Go.Proofs.Ytflhpijcfiamgaa.Tb
