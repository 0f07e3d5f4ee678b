/-
  trade.Get, told by a function of the reader's mistake and its bytes. Conditions: none.
-/
import Derived.Test.YteahloddjekakaaDoorNM15
import Derived.Test.YteahloddjekakaaDoorNM2
namespace Go.Proofs.YteahloddjekakaaDoor.Nt
open Go.RowKit Td

/-- Mistake, trade and rest behind a Get. -/
def trF (er : Int) (l : List Int) : Int × Tr × List Int :=
  let a := numF er l
  let b := txtF 12 a.1 a.2.2
  let c := txtF 12 b.1 b.2.2
  let d := txtF 12 c.1 c.2.2
  let e := numF d.1 d.2.2
  let f := numF e.1 e.2.2
  let t : Tr := ⟨a.2.1, b.2.1, c.2.1, d.2.1, e.2.1, f.2.1⟩
  (Oc.errB f.1 (chk t), if Oc.errB f.1 (chk t) = 0 then t else zT, f.2.2)
theorem txt_size (er : Int) (l : List Int) : (txtF 12 er l).2.1.size ≤ 12 := by
  have h0 : ByteArray.empty.size = 0 := rfl
  unfold txtF
  split
  · split
    · split
      · split
        · show (Oc.strOf _).size ≤ 12
          rw [Oc.strOf_len, List.length_take]
          rename_i h1 _
          omega
        · show ByteArray.empty.size ≤ 12; omega
      · show ByteArray.empty.size ≤ 12; omega
    · show ByteArray.empty.size ≤ 12; omega
  · show ByteArray.empty.size ≤ 12; omega
set_option maxRecDepth 100000 in
theorem rok_any (w : World) (b : Nat) (er : Int) (l : List Int) (v : Value) (h : Oc.RdR w b er l v) : Calls Tryd.prog 97 #[.pointer (some ⟨b, 0, none⟩)] w fun e w' => e = .returned (.bool (decide (er = 0))) ∧ w = w' := by
  obtain ⟨⟨c1, _⟩, _⟩ := Oc.block_cell2 h.1
  by_cases he : er = 0
  · subst he
    have HF := Lib.hid (Oc.failed_no w b c1)
    clear h c1
    go_enter Tryd.func97, Tryd.ntmps97
    go_wp2_with (go_at_call 79; refine HF.out.mono ?_; rintro e w1 ⟨rfl, rfl⟩)
    go_ret
    exact ⟨rfl, rfl⟩
  · have HF := Lib.hid (Oc.failed_yes w b er he c1)
    have HD : Hid (decide (er = 0) = false) := by show _ = _; simp [he]
    clear h c1
    rw [HD.out]
    go_enter Tryd.func97, Tryd.ntmps97
    go_wp2_with (go_at_call 79; refine HF.out.mono ?_; rintro e w1 ⟨rfl, rfl⟩)
    go_ret
    exact ⟨rfl, rfl⟩
/-- The reader b stands at l; whatever else lay in W0 is as it was. -/
structure GS (W0 : World) (b : Nat) (er : Int) (l : List Int) (W : World) : Prop where
  rd : ∃ v, Oc.RdR W b er l v
  gr : W0.grownBy W (some b)
theorem GS.step {W0 W W' : World} {b : Nat} {er er' : Int} {l l' : List Int} (S : GS W0 b er l W) (h : Oc.RdTo b W er' l' W') : GS W0 b er' l' W' := by
  obtain ⟨v, h1, h2⟩ := h
  exact ⟨⟨v, h1⟩, Oc.grownBy_trans S.gr h2⟩
theorem GS.kept {W0 W W' : World} {b : Nat} {er : Int} {l : List Int} (S : GS W0 b er l W) (h : Below W.heap.size W W') : GS W0 b er l W' := by
  obtain ⟨v, h1⟩ := S.rd
  exact ⟨⟨v, h1.below h⟩, Oc.grownBy_trans S.gr (Oc.grownBy_of_below _ h)⟩
theorem GS.al {W0 W : World} {b : Nat} {er : Int} {l : List Int} (S : GS W0 b er l W) (o : Obj) : GS W0 b er l (W.alloc o) := S.kept ((Below.refl _ _).alloc (Nat.le_refl _) _)
theorem GS.blk {W0 W : World} {b : Nat} {er : Int} {l : List Int} (S : GS W0 b er l W) {k : Nat} {o : Obj} (h : W0.heap[k]? = some o) (hk : k ≠ b) : W.heap[k]? = some o :=
  (S.gr.block k (Array.getElem?_eq_some_iff.1 h).1 (fun e => hk (by cases e; rfl))).trans h
theorem GS.comp {W0 W W' : World} {b : Nat} {er er' : Int} {l l' : List Int} (S : GS W0 b er l W) (k : GS W b er' l' W') : GS W0 b er' l' W' := ⟨k.rd, Oc.grownBy_trans S.gr k.gr⟩
theorem GS.base {W0 W : World} {b : Nat} {er : Int} {l : List Int} (S : GS W0 b er l W) : GS W b er l W := ⟨S.rd, Oc.grownBy_refl _ _⟩
theorem GS.set {W0 W W' : World} {b : Nat} {er : Int} {l : List Int} (S : GS W0 b er l W) {c : Nat} (hc : b < c) (hk : ∀ k, k ≠ c → W'.heap[k]? = W.heap[k]?) (h0 : W0.heap.size ≤ c) (hs : W.heap.size ≤ W'.heap.size) (ho : W'.os = W.os) (ht : W'.tape = W.tape) (hu : W'.output = W.output) : GS W0 b er l W' := by
  obtain ⟨v, h1⟩ := S.rd
  exact ⟨⟨v, h1.upto fun k hk1 => hk k (by omega)⟩, ⟨ho.trans S.gr.os, ht.trans S.gr.tape, hu.trans S.gr.output, Nat.le_trans S.gr.size hs, fun k hk1 hn => (hk k (by omega)).trans (S.gr.block k hk1 hn)⟩⟩
def st6 (W : World) (c : Nat) (x0 x1 x2 x3 x4 x5 : Value) : World := (((((W.setCell ⟨c, 0, none⟩ x0).setCell ⟨c, 1, none⟩ x1).setCell ⟨c, 2, none⟩ x2).setCell ⟨c, 3, none⟩ x3).setCell ⟨c, 4, none⟩ x4).setCell ⟨c, 5, none⟩ x5
theorem GS.set1 {W0 W : World} {b : Nat} {er : Int} {l : List Int} (S : GS W0 b er l W) {c : Nat} (hc : b < c) (h0 : W0.heap.size ≤ c) (j : Nat) (x : Value) : GS W0 b er l (W.setCell ⟨c, j, none⟩ x) :=
  S.set hc (fun k hk => Below.heap_setCell _ _ _ _ hk) h0 (by simp [World.setCell]) rfl rfl rfl
theorem GS.set6 {W0 W : World} {b : Nat} {er : Int} {l : List Int} (S : GS W0 b er l W) {c : Nat} (hc : b < c) (h0 : W0.heap.size ≤ c) (x0 x1 x2 x3 x4 x5 : Value) : GS W0 b er l (st6 W c x0 x1 x2 x3 x4 x5) :=
  (((((S.set1 hc h0 0 x0).set1 hc h0 1 x1).set1 hc h0 2 x2).set1 hc h0 3 x3).set1 hc h0 4 x4).set1 hc h0 5 x5
theorem GS.number {W0 W : World} {b : Nat} {er e' : Int} {l l' : List Int} {x : Int} (S : GS W0 b er l W) (h : numF er l = (e', x, l')) :
    Calls Tryd.prog 76 #[.pointer (some ⟨b, 0, none⟩)] W fun e w' => e = .returned (.int .i64 x) ∧ GS W0 b e' l' w' := by
  obtain ⟨v, h1⟩ := S.rd
  refine (rnumber_all W b er l v h1).mono ?_
  rw [h]
  exact fun e w' h2 => ⟨h2.1, S.step h2.2⟩
theorem GS.text {W0 W : World} {b : Nat} {er e' : Int} {l l' : List Int} {x : ByteArray} (S : GS W0 b er l W) (h : txtF 12 er l = (e', x, l')) :
    Calls Tryd.prog 75 #[.pointer (some ⟨b, 0, none⟩), .int .i64 12] W fun e w' => e = .returned (.string x) ∧ GS W0 b e' l' w' := by
  obtain ⟨v, h1⟩ := S.rd
  refine (rtext_all W b er 12 l v h1 (by omega) (by omega)).mono ?_
  rw [h]
  exact fun e w' h2 => ⟨h2.1, S.step h2.2⟩
theorem GS.fail {W0 W : World} {b : Nat} {er : Int} {l : List Int} (S : GS W0 b er l W) (x : Int) :
    Calls Tryd.prog 90 #[.pointer (some ⟨b, 0, none⟩), .int .i64 x] W fun e w' => e = .returned (.tuple #[]) ∧ GS W0 b (Oc.errB er x) l w' := by
  obtain ⟨v, h1⟩ := S.rd
  exact (Oc.rfail_any W b er x l v h1).mono fun e w' h2 => ⟨h2.1, S.step h2.2⟩
theorem GS.ok {W0 W : World} {b : Nat} {er : Int} {l : List Int} (S : GS W0 b er l W) {r : Bool} (hr : r = decide (er = 0)) :
    Calls Tryd.prog 97 #[.pointer (some ⟨b, 0, none⟩)] W fun e w' => e = .returned (.bool r) ∧ W = w' := by
  obtain ⟨v, h1⟩ := S.rd
  rw [hr]
  exact rok_any W b er l v h1

set_option maxRecDepth 100000 in
set_option maxHeartbeats 8000000 in
theorem tget_l (w : World) (b : Nat) (er e1 e2 e3 e4 e5 e6 : Int) (l l1 l2 l3 l4 l5 l6 : List Int) (tn tq tp : Int) (tb ts ti : ByteArray) (hS : GS w b er l w)
    (h1 : numF er l = (e1, tn, l1)) (h2 : txtF 12 e1 l1 = (e2, tb, l2)) (h3 : txtF 12 e2 l2 = (e3, ts, l3)) (h4 : txtF 12 e3 l3 = (e4, ti, l4)) (h5 : numF e4 l4 = (e5, tq, l5)) (h6 : numF e5 l5 = (e6, tp, l6)) (c : Int) (hc : c = chk ⟨tn, tb, ts, ti, tq, tp⟩) (ok : Bool) (hok : ok = decide (Oc.errB e6 c = 0)) (t : Tr) (ht : t = if ok = true then ⟨tn, tb, ts, ti, tq, tp⟩ else zT) :
    Calls Tryd.prog 74 #[.pointer (some ⟨b, 0, none⟩)] w fun e w' => e = .returned (.agg #[.int .i64 t.n, .string t.b, .string t.s, .string t.i, .int .i64 t.q, .int .i64 t.p]) ∧ GS w b (Oc.errB e6 c) l6 w' := by
  have s2 := txt_size e1 l1
  rw [h2] at s2
  have s3 := txt_size e2 l2
  rw [h3] at s3
  have s4 := txt_size e3 l3
  rw [h4] at s4
  have HSm : Hid (Sm ⟨tn, tb, ts, ti, tq, tp⟩) := ⟨by have : tb.size ≤ 12 := s2; show tb.size ≤ _; omega, by have : ts.size ≤ 12 := s3; show ts.size ≤ _; omega, by have : ti.size ≤ 12 := s4; show ti.size ≤ _; omega⟩
  clear s2 s3 s4
  have H1 := Lib.hid h1
  have H2 := Lib.hid h2
  have H3 := Lib.hid h3
  have H4 := Lib.hid h4
  have H5 := Lib.hid h5
  have H6 := Lib.hid h6
  have HCK := Lib.hid hc
  have HOK := Lib.hid hok
  have HT := Lib.hid ht
  have HS0 := Lib.hid (hS.al (.cells #[.int .i64 zT.n, .string zT.b, .string zT.s, .string zT.i, .int .i64 zT.q, .int .i64 zT.p] 28))
  have HB0 := Lib.hid hS
  have hbl : b < w.heap.size := by obtain ⟨v, hv⟩ := hS.rd; exact hv.lt
  have E0 := Lib.hid (block_new w (.cells #[.int .i64 zT.n, .string zT.b, .string zT.s, .string zT.i, .int .i64 zT.q, .int .i64 zT.p] 28))
  have hne : w.heap.size ≠ b := by omega
  have HNE := Lib.hid hne
  have HLT : Hid (w.heap.size < (w.alloc (.cells #[.int .i64 zT.n, .string zT.b, .string zT.s, .string zT.i, .int .i64 zT.q, .int .i64 zT.p] 28)).heap.size) := by show _ < _; simp
  clear h1 h2 h3 h4 h5 h6 hc hok ht hS hbl hne
  unfold zT at HS0 E0 HLT
  go_enter Tryd.func74, Tryd.ntmps74
  go_upto_region 1 with fail
  generalize w.alloc _ = W0 at HS0 E0 HLT ⊢
  go_upto_region 2 with (first
    | (go_at_call 76; (with_reducible refine (GS.number S5.out H6.out).mono ?_); rintro e w6 ⟨rfl, s⟩; have S6 := Lib.hid s; clear s)
    | (go_at_call 76; (with_reducible refine (GS.number S4.out H5.out).mono ?_); rintro e w5 ⟨rfl, s⟩; have S5 := Lib.hid s; clear s)
    | (go_at_call 75; (with_reducible refine (GS.text S3.out H4.out).mono ?_); rintro e w4 ⟨rfl, s⟩; have S4 := Lib.hid s; clear s)
    | (go_at_call 75; (with_reducible refine (GS.text S2.out H3.out).mono ?_); rintro e w3 ⟨rfl, s⟩; have S3 := Lib.hid s; clear s)
    | (go_at_call 75; (with_reducible refine (GS.text S1.out H2.out).mono ?_); rintro e w2 ⟨rfl, s⟩; have S2 := Lib.hid s; clear s)
    | (go_at_call 76; (with_reducible refine (GS.number HS0.out.base H1.out).mono ?_); rintro e w1 ⟨rfl, s⟩; have S1 := Lib.hid s; clear s))
  have ES := S6.out.blk E0.out HNE.out
  have E7 := block_old ES (.cells #[.int .i64 tn, .string tb, .string ts, .string ti, .int .i64 tq, .int .i64 tp] 28)
  have E8 := block_new w6 (.cells #[.int .i64 tn, .string tb, .string ts, .string ti, .int .i64 tq, .int .i64 tp] 28)
  have S7 := S6.out.al (.cells #[.int .i64 tn, .string tb, .string ts, .string ti, .int .i64 tq, .int .i64 tp] 28)
  have hlt7 : w.heap.size < w6.heap.size := (Array.getElem?_eq_some_iff.1 ES).1
  generalize w6.alloc _ = w7 at E7 E8 S7 ⊢
  obtain ⟨g, hg⟩ : ∃ g, g = w6.heap.size := ⟨_, rfl⟩
  rw [← hg] at E8 hlt7 ⊢
  have h8 : b < w6.heap.size := by (obtain ⟨v, hv⟩ := S6.out.rd; exact hv.lt)
  have hgb : g ≠ b := by omega
  have hgr : w.heap.size ≠ g := by omega
  have HGB := Lib.hid hgb
  have HGR := Lib.hid hgr
  have HE7 := Lib.hid E7
  have HE8 := Lib.hid E8
  have HS7 := Lib.hid S7
  have HC := Lib.hid (Td.check_any w7 ⟨tn, tb, ts, ti, tq, tp⟩ HSm.out (Lib.hid HCK.out))
  obtain ⟨c0, c1, c2, c3, c4, c5⟩ := blk6 E8
  clear h8 ES E7 E8 S7 hlt7 hg hgb hgr S1 S2 S3 S4 S5 S6
  go_upto_region 3 with (first
    | (go_at_call 56; (with_reducible refine HC.out.mono ?_); rintro e w8 ⟨rfl, hb⟩; have HB8 := Lib.hid hb; have S8 := Lib.hid (HS7.out.base.kept hb); clear hb)
    | (go_at_call 90; (with_reducible refine (GS.fail S8.out c).mono ?_); rintro e w9 ⟨rfl, s⟩; have S9 := Lib.hid s; clear s))
  clear c0 c1 c2 c3 c4 c5
  obtain ⟨c0, c1, c2, c3, c4, c5⟩ := blk6 (S9.out.blk HE8.out HGB.out)
  have hfin := HS0.out.comp (HS7.out.comp S9.out)
  have HFIN := Lib.hid hfin
  have HER := Lib.hid (S9.out.blk HE7.out HNE.out)
  obtain ⟨d0, d1, d2, d3, d4, d5⟩ := blk6 HER.out
  have hfz := fro6 HER.out
  have hbw : b < w.heap.size := by have h9 := HLT.out; (obtain ⟨v, hv⟩ := HB0.out.rd; exact hv.lt)
  have HFB := Lib.hid (fun x0 x1 x2 x3 x4 x5 => hfin.set6 hbw (Nat.le_refl _) x0 x1 x2 x3 x4 x5)
  have HOk := Lib.hid (fun r (hr : r = decide (Oc.errB e6 c = 0)) => S9.out.ok hr)
  clear hfin hbw
  cases ok
  · obtain rfl : t = zT := HT.out
    go_wp2_with (go_at_call 97; (with_reducible refine (HOk.out _ HOK.out).mono ?_); rintro e w10 ⟨rfl, rfl⟩)
    refine bodyPost_ret (v := .agg #[.int .i64 0, .string { data := #[] }, .string { data := #[] }, .string { data := #[] }, .int .i64 0, .int .i64 0]) (by simp [results, Tryd.results74, go_sem, d0, d1, d2, d3, d4, d5]) rfl ⟨rfl, by have h9 := HFB.out (.int .i64 0) (.string { data := #[] }) (.string { data := #[] }) (.string { data := #[] }) (.int .i64 0) (.int .i64 0); unfold st6 at h9; exact h9⟩
  · obtain rfl : t = ⟨tn, tb, ts, ti, tq, tp⟩ := HT.out
    go_wp2_with (go_at_call 97; (with_reducible refine (HOk.out _ HOK.out).mono ?_); rintro e w10 ⟨rfl, rfl⟩)
    refine bodyPost_ret (v := .agg #[.int .i64 tn, .string tb, .string ts, .string ti, .int .i64 tq, .int .i64 tp]) (by simp [results, Tryd.results74, go_sem, d0, d1, d2, d3, d4, d5]) rfl ⟨rfl, by have h9 := HFB.out (.int .i64 tn) (.string tb) (.string ts) (.string ti) (.int .i64 tq) (.int .i64 tp); unfold st6 at h9; exact h9⟩
theorem tget_any {W0 w : World} {b : Nat} {er : Int} {l : List Int} (hS : GS W0 b er l w) (t : Tr) (ht : t = (trF er l).2.1) :
    Calls Tryd.prog 74 #[.pointer (some ⟨b, 0, none⟩)] w fun e w' => e = .returned (.agg #[.int .i64 t.n, .string t.b, .string t.s, .string t.i, .int .i64 t.q, .int .i64 t.p]) ∧ GS W0 b (trF er l).1 (trF er l).2.2 w' := by
  refine (tget_l w b er _ _ _ _ _ _ l _ _ _ _ _ _ _ _ _ _ _ _ hS.base rfl rfl rfl rfl rfl rfl _ rfl _ rfl t ?_).mono fun e w' h => ⟨h.1, hS.comp h.2⟩
  rw [ht]
  simp only [decide_eq_true_eq]
  rfl
end Go.Proofs.YteahloddjekakaaDoor.Nt

namespace Go.Proofs.YteahloddjekakaaDoor.Nt
open Go.RowKit Td

def kindF (er : Int) (l : List Int) : Int × Int × List Int :=
  if isK (Oc.byteF er l).2.1 = true then Oc.byteF er l else (Oc.errB (Oc.byteF er l).1 3, 0, (Oc.byteF er l).2.2)
theorem GS.byte {W0 W : World} {b : Nat} {er e' : Int} {l l' : List Int} {x : Int} (S : GS W0 b er l W) (h : Oc.byteF er l = (e', x, l')) :
    Calls Tryd.prog 72 #[.pointer (some ⟨b, 0, none⟩)] W fun e w' => e = .returned (.int .u8 x) ∧ GS W0 b e' l' w' := by
  obtain ⟨v, h1⟩ := S.rd
  refine (Oc.rbyte_any W b er l v h1).mono ?_
  rw [h]
  exact fun e w' h2 => ⟨h2.1, S.step h2.2⟩
theorem GS.count {W0 W : World} {b : Nat} {er e' : Int} {l l' : List Int} {x : Int} (S : GS W0 b er l W) (most : Int) (hm0 : -9223372036854775808 ≤ most) (hm : most < 9223372036854775808) (h : cntF most er l = (e', x, l')) :
    Calls Tryd.prog 73 #[.pointer (some ⟨b, 0, none⟩), .int .i64 most] W fun e w' => e = .returned (.int .i64 x) ∧ GS W0 b e' l' w' := by
  obtain ⟨v, h1⟩ := S.rd
  refine (rcount_any W b er most l v h1 hm0 hm).mono ?_
  rw [h]
  exact fun e w' h2 => ⟨h2.1, S.step h2.2⟩
theorem byte_rng {er : Int} {l : List Int} (hb : Oc.bok l) : 0 ≤ (Oc.byteF er l).2.1 ∧ (Oc.byteF er l).2.1 < 256 := by
  unfold Oc.byteF
  split
  · cases l with
    | nil => exact ⟨by show (0 : Int) ≤ 0; omega, by show (0 : Int) < 256; omega⟩
    | cons x r => exact hb x (List.mem_cons_self ..)
  · exact ⟨by show (0 : Int) ≤ 0; omega, by show (0 : Int) < 256; omega⟩
set_option maxRecDepth 100000 in
set_option maxHeartbeats 4000000 in
theorem kind_any {W0 w : World} {b : Nat} {er : Int} {l : List Int} (hS : GS W0 b er l w) :
    Calls Tryd.prog 71 #[.agg #[.pointer (some ⟨b, 0, none⟩)]] w fun e w' => e = .returned (.int .i64 (kindF er l).2.1) ∧ GS W0 b (kindF er l).1 (kindF er l).2.2 w' := by
  obtain ⟨v, hv⟩ := hS.rd
  have hr := byte_rng (er := er) hv.2.2.1
  obtain ⟨⟨e1, x, l1⟩, h1⟩ : ∃ a, Oc.byteF er l = a := ⟨_, rfl⟩
  unfold kindF
  rw [h1] at hr ⊢
  have hr1 : 0 ≤ x := hr.1
  have hr2 : x < 256 := hr.2
  have H1 := Lib.hid h1
  have HS0 := Lib.hid hS
  have hbl := hv.lt
  have S0 := (hS.base.al (.cells #[.pointer (some ⟨b, 0, none⟩)] 89))
  have E0 := block_new w (.cells #[.pointer (some ⟨b, 0, none⟩)] 89)
  have hwx : IntKind.i64.wrap x = x := by unfold IntKind.wrap; simp [IntKind.bits, IntKind.signed]; omega
  have HS1 := Lib.hid S0.base
  have HC1 := Lib.hid (hS.comp S0)
  have hne : w.heap.size ≠ b := by omega
  have HNE := Lib.hid hne
  clear hv hr h1 hS hbl S0 hne
  obtain ⟨q, hq⟩ : ∃ q, q = isK x := ⟨_, rfl⟩
  show Calls _ _ _ _ fun e w' => e = .returned (.int .i64 (if isK x = true then (e1, x, l1) else (Oc.errB e1 3, 0, l1)).2.1) ∧ GS W0 b (if isK x = true then (e1, x, l1) else (Oc.errB e1 3, 0, l1)).1 (if isK x = true then (e1, x, l1) else (Oc.errB e1 3, 0, l1)).2.2 w'
  rw [← hq]
  have HQ := Lib.hid hq
  clear hq
  go_enter Tryd.func71, Tryd.ntmps71
  go_upto_region 1 with fail
  have HE := Lib.hid E0
  generalize w.alloc _ = w1 at E0 HE HS1 HC1 ⊢
  obtain ⟨t1, ht1⟩ : ∃ t1, t1 = w.heap.size := ⟨_, rfl⟩
  rw [← ht1] at E0 HE HNE ⊢
  clear ht1
  have c0 := (Oc.block_cell E0).1
  have HK := Lib.hid (fun W => isKind_any W x (Lib.hid HQ.out))
  clear E0
  cases q
  · go_wp2_with (first
      | (go_at_call 72; (with_reducible refine (GS.byte HS1.out H1.out).mono ?_); rintro e w2 ⟨rfl, s⟩; have S2 := Lib.hid s; clear s c0; have c0 := (Oc.block_cell (S2.out.blk HE.out HNE.out)).1)
      | (go_at_call 25; (with_reducible refine (HK.out _).mono ?_); rintro e w3 ⟨rfl, rfl⟩)
      | (go_at_call 90; (with_reducible refine (GS.fail S2.out 3).mono ?_); rintro e w4 ⟨rfl, s⟩; have S4 := Lib.hid s; clear s))
    go_ret
    exact ⟨rfl, HC1.out.comp S4.out⟩
  · go_wp2_with (first
      | (go_at_call 72; (with_reducible refine (GS.byte HS1.out H1.out).mono ?_); rintro e w2 ⟨rfl, s⟩; have S2 := Lib.hid s; clear s)
      | (go_at_call 25; (with_reducible refine (HK.out _).mono ?_); rintro e w3 ⟨rfl, rfl⟩))
    go_ret
    exact ⟨rfl, HC1.out.comp S2.out⟩
end Go.Proofs.YteahloddjekakaaDoor.Nt
