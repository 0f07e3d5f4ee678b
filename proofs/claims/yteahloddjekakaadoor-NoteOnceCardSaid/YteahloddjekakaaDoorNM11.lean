/-
  trade.Put: a trade's bytes behind what is written. Conditions: they have room.
-/
import Derived.Test.YteahloddjekakaaDoorNM10
import Derived.Deep.RegionHeld3
namespace Go.Proofs.YteahloddjekakaaDoor.Nt
open Go.RowKit Td

/-- A number's bytes. -/
def nb (x : Int) : List Int := Oc.grp (Oc.fold x)
/-- A trade's bytes. -/
def trB (t : Tr) : List Int := nb t.n ++ txs [t.b, t.s, t.i] ++ nb t.q ++ nb t.p
theorem trB_len (t : Tr) : (trB t).length = (nb t.n).length + (txs [t.b, t.s, t.i]).length + (nb t.q).length + (nb t.p).length := by simp [trB]; omega
def I64 (x : Int) : Prop := -9223372036854775808 ≤ x ∧ x < 9223372036854775808
/-- A trade's block. -/
abbrev TB (w : World) (g : Nat) (t : Tr) : Prop := w.heap[g]? = some (.cells #[.int .i64 t.n, .string t.b, .string t.s, .string t.i, .int .i64 t.q, .int .i64 t.p] 28 (0, 0))
theorem TB.cells {w : World} {g : Nat} {t : Tr} (h : TB w g t) : w.cell? ⟨g, 0, none⟩ = some (.int .i64 t.n) ∧ w.cell? ⟨g, 1, none⟩ = some (.string t.b) ∧ w.cell? ⟨g, 2, none⟩ = some (.string t.s) ∧ w.cell? ⟨g, 3, none⟩ = some (.string t.i) ∧ w.cell? ⟨g, 4, none⟩ = some (.int .i64 t.q) ∧ w.cell? ⟨g, 5, none⟩ = some (.int .i64 t.p) := by
  unfold TB at h
  refine ⟨?_, ?_, ?_, ?_, ?_, ?_⟩ <;> (simp only [World.cell?]; rw [h]; rfl)
theorem sat1 (w : World) (a : ByteArray) (t : TypeId) : SAt (w.alloc (.cells #[.string a] t)) w.heap.size [a] := by
  have h := block_new w (.cells #[.string a] t)
  intro i s hi
  match i, hi with
  | 0, hi => cases hi; simp only [World.cell?]; rw [h]; rfl
theorem sat3 (w : World) (a b c : ByteArray) (t : TypeId) : SAt (w.alloc (.cells #[.string a, .string b, .string c] t)) w.heap.size [a, b, c] := by
  have h := block_new w (.cells #[.string a, .string b, .string c] t)
  intro i s hi
  match i, hi with
  | 0, hi => cases hi; simp only [World.cell?]; rw [h]; rfl
  | 1, hi => cases hi; simp only [World.cell?]; rw [h]; rfl
  | 2, hi => cases hi; simp only [World.cell?]; rw [h]; rfl
/-- The writer b has l more than at W1; the block g is as it was. -/
structure PutS (W1 : World) (b : Nat) (v : Value) (g : Nat) (o : Obj) (l : List Int) (v' : Value) (w : World) : Prop where
  wr : Oc.WrR w b 0 l v'
  fr : Oc.WFr b v v' W1 w
  tb : w.heap[g]? = some o
  n1 : g ≠ b
  n2 : v'.ownBlock ≠ some g
theorem PutS.step {W1 w w' : World} {b : Nat} {v : Value} {g : Nat} {o : Obj} {l l' : List Int} {v' : Value} (S : PutS W1 b v g o l v' w) (h : Oc.WrTo b v' w 0 l' w') : ∃ v2, PutS W1 b v g o l' v2 w' ∧ Oc.WFr b v' v2 w w' := by
  obtain ⟨v2, hw, hf⟩ := h
  refine ⟨v2, ⟨hw, S.fr.trans hf, hf.at S.tb S.n1 S.n2, S.n1, fun e => ?_⟩, hf⟩
  rcases hf.own g e with h1 | h1
  · exact S.n2 h1
  · have := (Array.getElem?_eq_some_iff.1 S.tb).1; omega
theorem PutS.al {W1 w : World} {b : Nat} {v : Value} {g : Nat} {o : Obj} {l : List Int} {v' : Value} (S : PutS W1 b v g o l v' w) (x : Obj) : PutS W1 b v g o l v' (w.alloc x) :=
  have hb : Below w.heap.size w (w.alloc x) := (Below.refl _ _).alloc (Nat.le_refl _) _
  ⟨S.wr.below hb, S.fr.trans (.of_below hb), block_old S.tb x, S.n1, S.n2⟩
theorem PutS.dr {W1 w : World} {b : Nat} {v : Value} {g : Nat} {o : Obj} {l : List Int} {v' : Value} (S : PutS W1 b v g o l v' w) : PutS W1 b v g o l v' w.drew :=
  have hb : Below w.heap.size w w.drew := (Below.refl _ _).drew
  ⟨S.wr.below hb, S.fr.trans (.of_below hb), S.tb, S.n1, S.n2⟩
theorem PutS.number {W1 w : World} {b : Nat} {v : Value} {g : Nat} {o : Obj} {l : List Int} {v' : Value} (S : PutS W1 b v g o l v' w) (x : Int) (hx : I64 x) (hr : l.length + (nb x).length ≤ 1048576) :
    Calls Tryd.prog 42 #[.pointer (some ⟨b, 0, none⟩), .int .i64 x] w fun e w' => e = .returned (.pointer (some ⟨b, 0, none⟩)) ∧ ∃ v2, PutS W1 b v g o (l ++ nb x) v2 w' ∧ Oc.WFr b v' v2 w w' := by
  refine (Oc.number_any w b 0 x l v' S.wr hx.1 hx.2 (fun _ => hr)).mono ?_
  rintro e w' ⟨rfl, h⟩
  rw [Oc.addB_no] at h
  exact ⟨rfl, S.step h⟩
/-- Texts that are laid, not the writer's own. -/
structure TxS (w : World) (b k : Nat) (ss : List ByteArray) (v' : Value) : Prop where
  at_ : SAt w k ss
  lt : k < w.heap.size
  n1 : k ≠ b
  n2 : v'.ownBlock ≠ some k
theorem TxS.fr {w w' : World} {b k : Nat} {ss : List ByteArray} {v v' : Value} (h : TxS w b k ss v) (hf : Oc.WFr b v v' w w') : TxS w' b k ss v' :=
  ⟨fun i s hi => (cell_blk (hf.block k h.lt h.n1 h.n2) i).trans (h.at_ i s hi), Nat.lt_of_lt_of_le h.lt hf.size, h.n1, fun e => by
    rcases hf.own k e with h1 | h1
    · exact h.n2 h1
    · have := h.lt; omega⟩
theorem TxS.new3 {w : World} {b : Nat} {l : List Int} {v : Value} (h : Oc.WrR w b 0 l v) (x y z : ByteArray) (t : TypeId) : TxS (w.alloc (.cells #[.string x, .string y, .string z] t)) b w.heap.size [x, y, z] v :=
  ⟨sat3 w x y z t, by simp, by have := h.lt; omega, fun e => by have := (h.2.1.lt _ e).2; omega⟩
theorem TxS.new1 {w : World} {b : Nat} {l : List Int} {v : Value} (h : Oc.WrR w b 0 l v) (x : ByteArray) (t : TypeId) : TxS (w.alloc (.cells #[.string x] t)) b w.heap.size [x] v :=
  ⟨sat1 w x t, by simp, by have := h.lt; omega, fun e => by have := (h.2.1.lt _ e).2; omega⟩
theorem TxS.dr {w : World} {b k : Nat} {ss : List ByteArray} {v : Value} (h : TxS w b k ss v) : TxS w.drew b k ss v := ⟨h.at_, h.lt, h.n1, h.n2⟩
theorem PutS.text1 {W1 w : World} {b : Nat} {v : Value} {g : Nat} {o : Obj} {l : List Int} {v' : Value} (S : PutS W1 b v g o l v' w) (k : Nat) (x : ByteArray) (T : TxS w b k [x] v') (hr : l.length + (tx x).length ≤ 1048576) :
    Calls Tryd.prog 41 #[.pointer (some ⟨b, 0, none⟩), .slice (some ⟨k, 0, none⟩) 1 1] w fun e w' => e = .returned (.pointer (some ⟨b, 0, none⟩)) ∧ ∃ v2, PutS W1 b v g o (l ++ tx x) v2 w' ∧ Oc.WFr b v' v2 w w' := by
  have ht : txs [x] = tx x := by simp [txs]
  refine (texts_any w b k 1 [x] l v' S.wr rfl T.at_ T.lt T.n1 T.n2 (by rw [ht]; exact hr) (by omega)).mono ?_
  rintro e w' ⟨rfl, h⟩
  rw [ht] at h
  exact ⟨rfl, S.step h⟩
theorem PutS.text {W1 w : World} {b : Nat} {v : Value} {g : Nat} {o : Obj} {l : List Int} {v' : Value} (S : PutS W1 b v g o l v' w) (k : Nat) (x y z : ByteArray) (T : TxS w b k [x, y, z] v') (hr : l.length + (txs [x, y, z]).length ≤ 1048576) :
    Calls Tryd.prog 41 #[.pointer (some ⟨b, 0, none⟩), .slice (some ⟨k, 0, none⟩) 3 3] w fun e w' => e = .returned (.pointer (some ⟨b, 0, none⟩)) ∧ ∃ v2, PutS W1 b v g o (l ++ txs [x, y, z]) v2 w' ∧ Oc.WFr b v' v2 w w' := by
  refine (texts_any w b k 3 [x, y, z] l v' S.wr rfl T.at_ T.lt T.n1 T.n2 hr (by omega)).mono ?_
  rintro e w' ⟨rfl, h⟩
  exact ⟨rfl, S.step h⟩

set_option maxRecDepth 100000 in
set_option maxHeartbeats 8000000 in
theorem tput_any (w : World) (b : Nat) (t : Tr) (l : List Int) (v : Value) (h : Oc.WrR w b 0 l v) (h1 : I64 t.n) (h2 : I64 t.q) (h3 : I64 t.p) (hr : l.length + (trB t).length ≤ 1048576) :
    Calls Tryd.prog 40 #[.pointer (some ⟨b, 0, none⟩), .agg #[.int .i64 t.n, .string t.b, .string t.s, .string t.i, .int .i64 t.q, .int .i64 t.p]] w fun e w' => e = .returned (.pointer (some ⟨b, 0, none⟩)) ∧ Oc.WrTo b v w 0 (l ++ trB t) w' := by
  have S : PutS w b v w.heap.size (.cells #[.int .i64 t.n, .string t.b, .string t.s, .string t.i, .int .i64 t.q, .int .i64 t.p] 28 (0, 0)) l v (w.alloc (.cells #[.int .i64 t.n, .string t.b, .string t.s, .string t.i, .int .i64 t.q, .int .i64 t.p] 28)) := by
    have hb : Below w.heap.size w (w.alloc (.cells #[.int .i64 t.n, .string t.b, .string t.s, .string t.i, .int .i64 t.q, .int .i64 t.p] 28)) := (Below.refl _ _).alloc (Nat.le_refl _) _
    exact ⟨h.below hb, .of_below hb, block_new _ _, by have := h.lt; omega, fun e => by have := (h.2.1.lt _ e).2; omega⟩
  have HS0 := Lib.hid S
  rw [trB_len] at hr
  have HR := Lib.hid hr
  have H1 := Lib.hid h1
  have H2 := Lib.hid h2
  have H3 := Lib.hid h3
  have R1 : Hid (l.length + (nb t.n).length ≤ 1048576) := by show _ ≤ _; omega
  have R2 : Hid ((l ++ nb t.n).length + (txs [t.b, t.s, t.i]).length ≤ 1048576) := by show _ ≤ _; rw [List.length_append]; omega
  have R3 : Hid ((l ++ nb t.n ++ txs [t.b, t.s, t.i]).length + (nb t.q).length ≤ 1048576) := by show _ ≤ _; rw [List.length_append, List.length_append]; omega
  have R4 : Hid ((l ++ nb t.n ++ txs [t.b, t.s, t.i] ++ nb t.q).length + (nb t.p).length ≤ 1048576) := by show _ ≤ _; rw [List.length_append, List.length_append, List.length_append]; omega
  clear h h1 h2 h3 hr S
  go_enter Tryd.func40, Tryd.ntmps40
  go_upto_region 1 with fail
  generalize w.alloc _ = w1 at HS0 ⊢
  obtain ⟨g, hg⟩ : ∃ g, g = w.heap.size := ⟨_, rfl⟩
  rw [← hg] at HS0 ⊢
  clear hg
  have HT0 := Lib.hid (TxS.new3 HS0.out.wr t.b t.s t.i 9)
  go_region_held3 (fun w' => w'.cell? ⟨g, 0, none⟩ = some (.int .i64 t.n) ∧ w'.cell? ⟨g, 1, none⟩ = some (.string t.b) ∧ w'.cell? ⟨g, 2, none⟩ = some (.string t.s) ∧ w'.cell? ⟨g, 3, none⟩ = some (.string t.i) ∧ w'.cell? ⟨g, 4, none⟩ = some (.int .i64 t.q) ∧ w'.cell? ⟨g, 5, none⟩ = some (.int .i64 t.p))
    (first
      | (with_reducible exact (TB.cells S5.out.tb))
      | (with_reducible exact (TB.cells S4.out.tb))
      | (with_reducible exact (TB.cells S3.out.tb))
      | (with_reducible exact (TB.cells S2.out.tb))
      | (with_reducible exact (TB.cells (S2.out.al _).tb))
      | (with_reducible exact (TB.cells HS0.out.tb))
      | (with_reducible exact (TB.cells HS0.out.dr.tb))
      | (with_reducible exact (TB.cells (HS0.out.al _).tb))
      | (with_reducible exact (TB.cells (HS0.out.al _).dr.tb))
      | go_keep)
    (first
      | (go_at_call 42; (with_reducible refine (PutS.number HS0.out.dr t.n H1.out R1.out).mono ?_); rintro e w2 ⟨rfl, v2, s2, f2⟩; have S2 := Lib.hid s2; have T2 := Lib.hid (TxS.new3 s2.wr t.b t.s t.i 9); clear s2 f2)
      | (go_at_call 42; (with_reducible refine (PutS.number (HS0.out.al (.cells #[.string t.b, .string t.s, .string t.i] 9)).dr t.n H1.out R1.out).mono ?_); rintro e w2 ⟨rfl, v2, s2, f2⟩; have S2 := Lib.hid s2; have T2 := Lib.hid (HT0.out.dr.fr f2); clear s2 f2)
      | (go_at_call 41; (with_reducible refine (PutS.text S2.out w1.heap.size t.b t.s t.i T2.out R2.out).mono ?_); rintro e w3 ⟨rfl, v3, s3, _⟩; have S3 := Lib.hid s3; clear s3)
      | (go_at_call 41; (with_reducible refine (PutS.text (S2.out.al (.cells #[.string t.b, .string t.s, .string t.i] 9)) w2.heap.size t.b t.s t.i T2.out R2.out).mono ?_); rintro e w3 ⟨rfl, v3, s3, _⟩; have S3 := Lib.hid s3; clear s3)
      | (go_at_call 42; (with_reducible refine (PutS.number S3.out t.q H2.out R3.out).mono ?_); rintro e w4 ⟨rfl, v4, s4, _⟩; have S4 := Lib.hid s4; clear s4)
      | (go_at_call 42; (with_reducible refine (PutS.number S4.out t.p H3.out R4.out).mono ?_); rintro e w5 ⟨rfl, v5, s5, _⟩; have S5 := Lib.hid s5; clear s5))
  all_goals
    go_wp2
    go_ret
    refine ⟨rfl, v5, ?_, S5.out.fr⟩
    have := S5.out.wr
    simpa [trB] using this
end Go.Proofs.YteahloddjekakaaDoor.Nt

namespace Go.Proofs.YteahloddjekakaaDoor.Nt
open Go.RowKit Td

/-- A row's bytes. -/
def rwB (l : List Rw) : List Int := l.flatMap fun m => tx m.1 ++ nb m.2
theorem rwB_succ {l : List Rw} {i : Nat} {m : Rw} (h : l[i]? = some m) : rwB (l.take (i + 1)) = rwB (l.take i) ++ (tx m.1 ++ nb m.2) := by
  have hlt := (List.getElem?_eq_some_iff.1 h).1
  have he := (List.getElem?_eq_some_iff.1 h).2
  rw [List.take_succ_eq_append_getElem hlt, rwB, List.flatMap_append, he]
  simp [rwB]
theorem rwB_take (l : List Rw) (i : Nat) : (rwB (l.take i)).length ≤ (rwB l).length := by
  have : rwB l = rwB (l.take i) ++ rwB (l.drop i) := by rw [rwB, rwB, rwB, ← List.flatMap_append, List.take_append_drop]
  rw [this, List.length_append]; omega
theorem row_cells {w : World} {g : Nat} {a : ByteArray} {x : Int} {t : TypeId} (h : w.heap[g]? = some (.cells #[.string a, .int .i64 x] t (0, 0))) : w.cell? ⟨g, 0, none⟩ = some (.string a) ∧ w.cell? ⟨g, 1, none⟩ = some (.int .i64 x) :=
  ⟨by simp only [World.cell?]; rw [h]; rfl, by simp only [World.cell?]; rw [h]; rfl⟩
/-- The bytes of rows. -/
def rowsB (l : List Rw) : List Int := Oc.grp l.length ++ rwB l

set_option maxRecDepth 100000 in
set_option maxHeartbeats 8000000 in
theorem putRows_any (w : World) (b n c : Nat) (A : Option Addr) (lr : List Rw) (l : List Int) (v : Value) (h : Oc.WrR w b 0 l v) (hl : ∀ W, Below b w W → RR W A lr) (hn : lr.length = n) (hn4 : n < 1000) (hi : ∀ m ∈ lr, I64 m.2) (hr : l.length + (rowsB lr).length ≤ 1048576) :
    Calls Tryd.prog 43 #[.pointer (some ⟨b, 0, none⟩), .slice A n c] w fun e w' => e = .returned (.tuple #[]) ∧ Oc.WrTo b v w 0 (l ++ rowsB lr) w' := by
  have HW := Lib.hid h
  have HL := Lib.hid hl
  have HN := Lib.hid hn
  have HI := Lib.hid hi
  have hrb : (rowsB lr).length = (Oc.grp n).length + (rwB lr).length := by rw [rowsB, List.length_append, hn]
  rw [hrb] at hr
  have HR := Lib.hid hr
  have HC := Lib.hid (Oc.count_any w b 0 n l v h (by omega) (fun _ => by omega))
  have HE : Hid (l ++ Oc.grp n ++ rwB lr = l ++ rowsB lr) := by show _ = _; rw [rowsB, hn, List.append_assoc]
  clear h hl hn hi hr hrb
  go_enter Tryd.func43, Tryd.ntmps43
  go_upto_region 1 with (go_at_call 39; (with_reducible refine HC.out.mono ?_); rintro e w1 ⟨rfl, h1⟩; have H1 := Lib.hid h1; clear h1)
  rw [Oc.addB_no] at H1
  have HP : Hid (Oc.WrTo b v w 0 (l ++ Oc.grp n ++ rwB (lr.take 0)) w1) := by show Oc.WrTo _ _ _ _ _ _; simpa [rwB] using H1.out
  clear H1 HC
  go_wp2
  go_loopg [12] n (fun (gh : Nat) s12 wx => ∃ i : Nat, gh = n - i ∧ i ≤ n ∧ s12 = .int .i64 (i : Int) ∧ Hid (Oc.WrTo b v w 0 (l ++ Oc.grp n ++ rwB (lr.take i)) wx))
  case atStart => exact ⟨0, rfl, Nat.zero_le _, rfl, HP⟩
  case round =>
    clear HP
    obtain ⟨i, rfl, hi, rfl, hp⟩ := hrel
    by_cases hlt : i < n
    · have t1 : (i : Int) < (n : Int) := by omega
      have t2 : (0 : Int) ≤ (i : Int) := by omega
      obtain ⟨m, hx⟩ : ∃ m, lr[i]? = some m := ⟨_, List.getElem?_eq_getElem (by rw [HN.out]; exact hlt)⟩
      obtain ⟨v1, hw1, hf1⟩ := hp.out
      obtain ⟨g, o, rfl, hg, cx, dx⟩ := (HL.out _ (hf1.below HW.out (Nat.le_refl _))).at hx
      have hsucc := rwB_succ hx
      have H64 := Lib.hid (HI.out m (List.mem_of_getElem? hx))
      have S : PutS wr b v1 wr.heap.size (.cells #[.string m.1, .int .i64 m.2] 58 (0, 0)) (l ++ Oc.grp n ++ rwB (lr.take i)) v1 (wr.alloc (.cells #[.string m.1, .int .i64 m.2] 58)) := by
        have hb : Below wr.heap.size wr (wr.alloc (.cells #[.string m.1, .int .i64 m.2] 58)) := (Below.refl _ _).alloc (Nat.le_refl _) _
        exact ⟨hw1.below hb, .of_below hb, block_new _ _, by have := hw1.lt; omega, fun e => by have := (hw1.2.1.lt _ e).2; omega⟩
      have hlen : (l ++ Oc.grp n ++ rwB (lr.take i)).length + (tx m.1).length + (nb m.2).length ≤ 1048576 := by
        have h1 := HR.out
        have h2 := rwB_take lr (i + 1)
        rw [hsucc, List.length_append, List.length_append] at h2
        rw [List.length_append, List.length_append]; omega
      have R1 : Hid ((l ++ Oc.grp n ++ rwB (lr.take i)).length + (tx m.1).length ≤ 1048576) := by show _ ≤ _; omega
      have R2 : Hid ((l ++ Oc.grp n ++ rwB (lr.take i) ++ tx m.1).length + (nb m.2).length ≤ 1048576) := by show _ ≤ _; rw [List.length_append (bs := tx m.1)]; omega
      have HS0 := Lib.hid S
      have HF1 := Lib.hid hf1
      have HX : Hid (l ++ Oc.grp n ++ rwB (lr.take i) ++ tx m.1 ++ nb m.2 = l ++ Oc.grp n ++ rwB (lr.take (i + 1))) := by show _ = _; rw [hsucc]; simp
      clear S hlen hp hw1 hf1 hsucc hx
      go_upto_region 4 with fail
      clear cx dx
      generalize wr.alloc _ = w1 at HS0 ⊢
      obtain ⟨q, hq⟩ : ∃ q, q = wr.heap.size := ⟨_, rfl⟩
      rw [← hq] at HS0 ⊢
      clear hq
      go_region_held3 (fun w' => w'.cell? ⟨q, 0, none⟩ = some (.string m.1) ∧ w'.cell? ⟨q, 1, none⟩ = some (.int .i64 m.2))
        (first
          | (with_reducible exact (row_cells S3.out.tb))
          | (with_reducible exact (row_cells S2.out.tb))
          | (with_reducible exact (row_cells HS0.out.tb))
          | (with_reducible exact (row_cells HS0.out.dr.tb))
          | (with_reducible exact (row_cells (HS0.out.al _).tb))
          | (with_reducible exact (row_cells (HS0.out.al _).dr.tb))
          | go_keep)
        (first
          | (go_at_call 41; (with_reducible refine (PutS.text1 (HS0.out.al (.cells #[.string m.1] 9)).dr w1.heap.size m.1 (TxS.new1 HS0.out.wr m.1 9).dr R1.out).mono ?_); rintro e w2 ⟨rfl, v2, s2, _⟩; have S2 := Lib.hid s2; clear s2)
          | (go_at_call 42; (with_reducible refine (PutS.number S2.out m.2 H64.out R2.out).mono ?_); rintro e w3 ⟨rfl, v3, s3, _⟩; have S3 := Lib.hid s3; clear s3))
      all_goals
        go_wp2_with fail
        go_roundg (n - (i + 1))
        case measure => omega
        case rel => exact ⟨i + 1, rfl, hlt, by simp, ⟨v3, by rw [← HX.out]; exact S3.out.wr, HF1.out.trans S3.out.fr⟩⟩
    · obtain rfl : i = n := by omega
      have t1 : ¬ (i : Int) < (i : Int) := by omega
      have hp2 := hp.out
      rw [List.take_of_length_le (by rw [HN.out]; exact Nat.le_refl _), HE.out] at hp2
      have HP := Lib.hid hp2
      clear hp hp2
      go_wp2
      go_end0
      exact ⟨rfl, HP.out⟩
end Go.Proofs.YteahloddjekakaaDoor.Nt
