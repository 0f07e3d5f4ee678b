/-
  The contract of the law's of: the program's table and the reference's, made of the rows that came in. Conditions: the slice that came in, read up to its fiftieth row.
-/
import Derived.Test.YtflhpijcfiamgaaTPlaya
import Derived.Test.YtflhpijcfiamgaaTOfIi
import Derived.Test.YtflhpijcfiamgaaTStbIi
namespace Go.Proofs.Ytflhpijcfiamgaa.Tb
open Go.RowKit
open Ii (cells cells_len cells_get cells_one cells_append cells_cons cells_inv getL)

theorem sortOK_all (N : Nat) (h : N < 1000000) : Ii.SortOK N := fun w g off cap l hH hg hn => Ii.sort_all w g off cap l hH hg (by omega)

/-- What is told of the slice that came in. -/
def PairsIn (w : World) (A : Option Addr) (len n : Nat) (rs : List (Int × Int)) : Prop :=
  n = min len 50 ∧ rs.length = n ∧ (0 < n → ∃ g o, A = some ⟨g, o, none⟩ ∧ g < w.heap.size ∧ ∀ i r, rs[i]? = some r → w.cell? ⟨g, o + i * 2, none⟩ = some (.int .i64 r.1) ∧ w.cell? ⟨g, o + i * 2 + 1, none⟩ = some (.int .i64 r.2))
/-- The rows with their values' remainders. -/
def rem1 (rs : List (Int × Int)) : List (Int × Int) := rs.map fun r => (r.1, r.2.tmod 1000)
theorem rem1_len (rs : List (Int × Int)) : (rem1 rs).length = rs.length := by simp [rem1]
theorem rem1_take (rs : List (Int × Int)) (i : Nat) (r : Int × Int) (h : rs[i]? = some r) : (rem1 rs).take (i + 1) = (rem1 rs).take i ++ [(r.1, r.2.tmod 1000)] := by
  rw [List.take_add_one]
  congr 1
  unfold rem1
  rw [List.getElem?_map, h]
  rfl
theorem rows_apart {w : World} {b1 b2 n m : Nat} {u v : Value} {xs ys : List Value} (h1 : w.ownsRow b1 55 2 u n xs) (h2 : w.ownsRow b2 53 2 v m ys) (g : Nat) (hu : u.ownBlock = some g) (hv : v.ownBlock = some g) : False := by
  rcases h1.2 with ⟨rfl, _⟩ | ⟨g1, c1, cur1, rfl, _, hh1, _⟩
  · simp [Value.ownBlock] at hu
  · rcases h2.2 with ⟨rfl, _⟩ | ⟨g2, c2, cur2, rfl, _, hh2, _⟩
    · simp [Value.ownBlock] at hv
    · simp only [Value.ownBlock, Option.some.injEq] at hu hv
      subst hu; subst hv
      rw [hh1] at hh2
      simp at hh2
theorem own_keptS {w w' : World} {base : Nat} {e : TypeId} {size n : Nat} {v : Value} {xs : List Value} {S : Nat → Prop} (h : w.ownsRow base e size v n xs) (hk : Kept S w w') (hv : ∀ g, v.ownBlock = some g → ¬ S g) : w'.ownsRow base e size v n xs := by
  obtain ⟨h3, h4⟩ := h
  refine ⟨h3, ?_⟩
  rcases h4 with h4 | ⟨g, cap, cur, rfl, hg, hh, h5⟩
  · exact .inl h4
  · exact .inr ⟨g, cap, cur, rfl, hg, hk.heap hh (hv g rfl), h5⟩

/-- What holds between the rounds: the rows so far, and the reference's table of them. -/
def OflI (w : World) (i : Nat) (l : List (Int × Int)) (u : Value) (wx : World) : Prop :=
  Below w.heap.size w wx ∧ wx.ownsRow w.heap.size 55 2 u i (cells l) ∧ ∃ dv, Rf.TabV w.heap.size wx w.heap.size dv (putAll l)

set_option maxRecDepth 100000 in
set_option maxHeartbeats 4000000 in
theorem of_law (w : World) (A : Option Addr) (len cap n : Nat) (rs : List (Int × Int)) (hin : PairsIn w A len n rs) :
    Calls Try.prog 23 #[.slice A len cap] w fun e w' => ∃ tb db, e = .returned (.tuple #[.pointer (some ⟨tb, 0, none⟩), .pointer (some ⟨db, 0, none⟩)]) ∧ St w.heap.size tb db w' (putAll (rem1 rs)) (putAll (rem1 rs)) ∧ Below w.heap.size w w' := by
  obtain ⟨i0, hi0, hz0, hz1, hz2⟩ := info_parts Ii.rowInf
  have HIN := Lib.hid hin
  have hn50 : n ≤ 50 := by have := hin.1; omega
  have hnlen : n ≤ len := by have := hin.1; omega
  have HST : Hid ((n < len ∧ ¬ n < 50) ∨ ¬ n < len) := by have := hin.1; show _ ∨ _; omega
  clear hin
  go_enter Try.func23, Try.ntmps23
  go_wp2
  have h0 : Hid (OflI w 0 [] (.slice none 0 0) (w.alloc (.cells #[.slice none 0 0] 30))) :=
    ⟨(Below.refl _ _).alloc (Nat.le_refl _) _, World.ownsRow_nil _ _ _ _, .slice none 0 0, Nat.le_refl _, Boxed.new _ _ _, World.ownsRow_nil _ _ _ _⟩
  go_loopg [4, 6] n (fun (gh : Nat) s4 s6 wx => ∃ i : Nat, gh = n - i ∧ i ≤ n ∧ s6 = .int .i64 (i : Int) ∧ Hid (OflI w i ((rem1 rs).take i) s4 wx))
  case atStart => exact ⟨0, rfl, Nat.zero_le _, rfl, h0⟩
  case round =>
    clear h0
    obtain ⟨i, rfl, hi, rfl, hinv⟩ := hrel
    by_cases hlt : i < n
    · have t1 : (i : Int) < (len : Int) := by omega
      have t2 : (i : Int) < 50 := by omega
      have t3 : (0 : Int) ≤ (i : Int) := by omega
      obtain ⟨hp1, hp2, hp3⟩ := HIN.out
      obtain ⟨g, o, rfl, hgl, hcell⟩ := hp3 (by omega)
      obtain ⟨r, hr⟩ : ∃ r, rs[i]? = some r := ⟨_, List.getElem?_eq_getElem (by omega)⟩
      have hcc := hcell i r hr
      obtain ⟨hbel, hown, dv, hT⟩ := hinv.out
      have HTK := Lib.hid (rem1_take rs i r hr)
      obtain ⟨ky, hky⟩ : ∃ ky, ky = r.1 := ⟨_, rfl⟩
      obtain ⟨va, hva⟩ : ∃ va, va = r.2.tmod 1000 := ⟨_, rfl⟩
      rw [← hky, ← hva] at HTK
      have hky1 : r.1 = ky := hky.symm
      have hva1 : r.2.tmod 1000 = va := hva.symm
      rw [hky1] at hcc
      obtain ⟨v2, hv2⟩ : ∃ v2, v2 = r.2 := ⟨_, rfl⟩
      rw [← hv2] at hcc hva1
      have c1 : wr.cell? ⟨g, o + i * 2, none⟩ = some (.int .i64 ky) := (hbel.cell (p := ⟨g, o + i * 2, none⟩) hgl).trans hcc.1
      have c2 : wr.cell? ⟨g, o + i * 2 + 1, none⟩ = some (.int .i64 v2) := (hbel.cell (p := ⟨g, o + i * 2 + 1, none⟩) hgl).trans hcc.2
      have hz := hbel.size
      have ag : some g ≠ u4.ownBlock := fun e => by have := (hown.lt g e.symm).1; omega
      have hlt2 : ((rem1 rs).take i).length = i := by rw [List.length_take, rem1_len]; omega
      have HB := Lib.hid hbel
      have HO := Lib.hid hown
      have HT := Lib.hid hT
      have HLI := Lib.hid hlt
      have HLN := Lib.hid hlt2
      clear hcc hcell hbel hown hT hr hky hva hv2 hky1 hp1 hp2 hp3 hinv hlt2
      go_wp2_with fail
      go_region_held3 (fun w' => w'.cell? ⟨g, o + i * 2, none⟩ = some (.int .i64 ky) ∧ w'.cell? ⟨g, o + i * 2 + 1, none⟩ = some (.int .i64 v2))
        (first
          | go_keep
          | (go_split_ands
             refine ⟨?_, ?_⟩
             · (rw [hgrow.cell_far _ (by simp; omega) ag]; assumption)
             · (rw [hgrow.cell_far _ (by simp; omega) ag]; assumption)))
        ((refine step_append_lies _ (by rfl) _ _ _ (by rfl) w.heap.size 55 i0 _ 2 16 Try.underlying24 hi0 hz0 hz1 hz2 rfl (by omega) u4 i (cells ((rem1 rs).take i)) (by rfl) ((HO.out.alloc _).drew) ⟨wr.heap.size, 0, none⟩ 1 1 [.int .i64 ky, .int .i64 va] (by rfl) (by rfl) (World.news_of_block (cs := #[.int .i64 ky, .int .i64 va]) (t := 55) (fr := (0, 0)) (heap_alloc_new wr _)) (by simp [Value.oneCell']) (by omega) (by unfold maxLen; omega) (by omega) (by simp; omega) (wr.heap.size + 1) (by simp) ?_; intro gg cap' w1 hown1 hgrow hat hlt1))
      have hkp : Kept (fun x => u4.ownBlock = some x) wr w1 := (Kept.of_alloc _ wr _).trans ((Kept.refl _ _).drew.trans (Kept.of_grown hgrow))
      have O1 : Hid (w1.ownsRow w.heap.size 55 2 (.slice (some ⟨gg, 0, none⟩) (i + 1) cap') (i + 1) (cells ((rem1 rs).take (i + 1)))) := by
        show World.ownsRow _ _ _ _ _ _ _
        rw [HTK.out, cells_append]
        exact hown1
      have T1 : Hid (Rf.TabV w.heap.size w1.drew w.heap.size dv (putAll ((rem1 rs).take i))) :=
        (HT.out.kept hkp (fun e => HT.out.2.1.not_row (e := 55) (by decide) HO.out e.symm) (fun g' hg' e => rows_apart HO.out HT.out.2.2 g' e hg')).below (Below.refl _ _).drew
      have B1 : Hid (Below w.heap.size w w1) := HB.out.trans (hkp.below hz (fun k hk e => by have := (HO.out.lt k e).1; omega))
      have z1 := B1.out.size
      have d1 : w1.cell? ⟨g, o + i * 2, none⟩ = some (.int .i64 ky) := by rw [hgrow.cell_far _ (by simp; omega) ag]; exact (((Below.refl _ wr).alloc (Nat.le_refl _) (.cells #[.int .i64 ky, .int .i64 va] 55)).cell (p := ⟨g, o + i * 2, none⟩) (Nat.lt_of_lt_of_le hgl hz)).trans c1
      have d2 : w1.cell? ⟨g, o + i * 2 + 1, none⟩ = some (.int .i64 v2) := by rw [hgrow.cell_far _ (by simp; omega) ag]; exact (((Below.refl _ wr).alloc (Nat.le_refl _) (.cells #[.int .i64 ky, .int .i64 va] 55)).cell (p := ⟨g, o + i * 2 + 1, none⟩) (Nat.lt_of_lt_of_le hgl hz)).trans c2
      have hlen := (len_putAll ((rem1 rs).take i))
      have HC := Lib.hid (Rf.put_any w.heap.size w1.drew w.heap.size dv (putAll ((rem1 rs).take i)) ky va T1.out (asc_putAll _) (by have := HLN.out; omega) z1)
      have HPS : Hid (putAll ((rem1 rs).take (i + 1)) = putL (putAll ((rem1 rs).take i)) ky va) := by
        show _ = _
        rw [HTK.out, putAll_snoc]
      have HAG : Hid (∀ g', (Value.slice (some ⟨gg, 0, none⟩) (i + 1) cap').ownBlock = some g' → ¬ g' = w.heap.size) := fun g' hg' e => by
        subst e
        exact T1.out.2.1.not_row (e := 55) (by decide) (own_keptS O1.out (Kept.refl (fun _ => False) _).drew (fun _ _ h => h)) hg'.symm
      clear hkp hown1 hgrow hat hlt1 c1 c2 HTK hlen ag
      go_wp2_with fail
      go_region_held3 (fun w' => w'.cell? ⟨g, o + i * 2, none⟩ = some (.int .i64 ky) ∧ w'.cell? ⟨g, o + i * 2 + 1, none⟩ = some (.int .i64 v2))
        (first
          | (exact ⟨d1, d2⟩)
          | (exact ⟨d3, d4⟩)
          | go_keep)
        (first
          | (go_at_call 9; refine HC.out.mono ?_; rintro e w2 ⟨rfl, dv2, hT2, hk2, _⟩
             have B2' : Below w.heap.size w1.drew w2 := hk2.below (w := w1.drew) z1 (fun k hk e => by omega)
             have B2 : Hid (Below w.heap.size w1 w2) := (Below.refl _ _).drew.trans B2'
             have d3 : w2.cell? ⟨g, o + i * 2, none⟩ = some (.int .i64 ky) := (B2.out.cell (p := ⟨g, o + i * 2, none⟩) hgl).trans d1
             have d4 : w2.cell? ⟨g, o + i * 2 + 1, none⟩ = some (.int .i64 v2) := (B2.out.cell (p := ⟨g, o + i * 2 + 1, none⟩) hgl).trans d2
             have T2 := Lib.hid hT2
             have O2 := Lib.hid (own_keptS O1.out ((Kept.refl _ _).drew.trans hk2) HAG.out)
             clear hT2 hk2))
      all_goals
        have FIN : Hid (OflI w (i + 1) ((rem1 rs).take (i + 1)) (.slice (some ⟨gg, 0, none⟩) (i + 1) cap') w2) := ⟨B1.out.trans B2.out, O2.out, dv2, by rw [HPS.out]; exact T2.out⟩
        clear d1 d2 d3 d4
        go_wp2
        go_roundg (n - (i + 1))
        case measure => have := HLI.out; omega
        case rel => exact ⟨i + 1, rfl, HLI.out, by go_num, FIN⟩
    · obtain rfl : i = n := by omega
      obtain ⟨hp1, hp2, hp3⟩ := HIN.out
      obtain ⟨hbel, hown, dv, hT⟩ := hinv.out
      have e1 : (rem1 rs).take i = rem1 rs := List.take_of_length_le (by rw [rem1_len]; omega)
      rw [e1] at hown hT
      have hrl : (rem1 rs).length = i := by rw [rem1_len]; omega
      have hR : Ii.RowsR wr u4 (rem1 rs) := Ii.RowsR.of_own (by rw [hrl]; exact hown)
      have HC := Lib.hid (Ii.of_any 50 (sortOK_all 50 (by omega)) wr u4 (rem1 rs) hR (by omega) (by omega))
      have HB := Lib.hid hbel
      have HT := Lib.hid hT
      clear hp1 hp2 hp3 hbel hown hT e1 hrl hR hinv
      rcases HST.out with ⟨s1, s2⟩ | s1
      all_goals
        have r1 : Hid (¬ ((i : Int) < (len : Int)) ∨ ¬ ((i : Int) < 50)) := by show _ ∨ _; omega
        go_wp2_with (go_at_call 35; refine HC.out.mono ?_; rintro e w2 ⟨tb, rfl, hto, hb2⟩)
        go_ret2
        obtain ⟨h1, v, h2, h3⟩ := hto
        have hz := HB.out.size
        refine ⟨_, _, rfl, ⟨v, dv, ⟨by omega, h2, Go.Joins.ownsRow_le h3 hz⟩, HT.out.below hb2⟩, HB.out.trans (hb2.mono hz)⟩
end Go.Proofs.Ytflhpijcfiamgaa.Tb
