/-
  The contract of Encode. Conditions: at most two million records of at most two million bytes.
-/
import Derived.Test.YtklngdmpledgeaaPB9
import Derived.Test.YtklngdmpledgeaaPB7
namespace Go.Proofs.Ytklngdmpledgeaa.Sp
open Go.RowKit Fr
attribute [local go_sem] Oper.semAt_some

set_option maxRecDepth 100000 in
set_option maxHeartbeats 4000000 in
theorem encode_bad (w : World) (A : Option Addr) (n c : Nat) (ls : List (List Int)) (h : RowsA w (.slice A n c) ls) (hb : ∀ l ∈ ls, l.length ≤ 2000000) (hn : n ≤ 2000000) (hf : fitsS ls = false) :
    Calls Try.prog 51 #[.slice A n c] w fun e w' => e = .returned (.tuple #[.slice none 0 0, .int .i64 2]) ∧ Below w.heap.size w w' := by
  have hs := size_any w A n c ls h hb hn
  have e : sizeE ls = -1 := by unfold sizeE; rw [hf]; rfl
  rw [e] at hs
  have HS := Lib.hid hs
  clear hs e h hb hn hf
  go_enter Try.func51, Try.ntmps51
  go_wp2_with (go_at_call 56; (with_reducible refine HS.out.mono ?_); rintro e w1 ⟨rfl, hb1⟩; have HB1 := Lib.hid hb1; clear hb1)
  go_ret2
  exact ⟨rfl, HB1.out⟩
/-- While Encode writes: the writer holds the count and the first records. -/
def EnI (w : World) (b : Nat) (ls : List (List Int)) (i : Nat) (wx : World) : Prop := ∃ v, Oc.WrR wx b 0 (Oc.grp ls.length ++ flat (ls.take i)) v ∧ Below w.heap.size w wx
set_option maxRecDepth 100000 in
set_option maxHeartbeats 8000000 in
theorem encode_ok (w : World) (A : Option Addr) (n c : Nat) (ls : List (List Int)) (h : RowsA w (.slice A n c) ls) (hb : ∀ l ∈ ls, bok l ∧ l.length ≤ 2000000) (hf : fitsS ls = true) :
    Calls Try.prog 51 #[.slice A n c] w fun e w' => ∃ A' q c', e = .returned (.tuple #[.slice A' q c', .int .i64 0]) ∧ q = tot ls ∧ (BAt w' (.slice A' q c') (encS ls) ∧ BK (fun k => w.heap.size ≤ k) (.slice A' q c') (encS ls)) ∧ Below w.heap.size w w' := by
  obtain ⟨hn, ht⟩ := of_decide_eq_true hf
  have hl := rows_len h
  have hs := size_any w A n c ls h (fun l hl => (hb l hl).2) (by omega)
  have e : sizeE ls = (tot ls : Int) := by unfold sizeE; rw [hf]; rfl
  rw [e] at hs
  obtain ⟨z, hz⟩ : ∃ z, z = tot ls := ⟨_, rfl⟩
  rw [← hz] at hs
  have hz8 : z = (bodyS ls).length + 8 := hz
  obtain ⟨m, hm⟩ : ∃ m, m = (bodyS ls).length := ⟨_, rfl⟩
  rw [← hz]
  have tz : ¬ (z : Int) < 0 := by omega
  have HS := Lib.hid hs
  have HH := Lib.hid h
  have HL := Lib.hid hl
  have HBB := Lib.hid hb
  have HM : Hid (m = (bodyS ls).length ∧ z = m + 8 ∧ m ≤ 1048568 ∧ n ≤ 10000) := ⟨hm, by omega, by omega, by omega⟩
  have hpart : ∀ i, i ≤ n → (Oc.grp ls.length ++ flat (ls.take i)).length + 8 ≤ 1048576 := fun i hi => by
    have h1 := part_mono ls (i := i) (by omega)
    unfold part at h1
    rw [List.length_append]; omega
  have HPT := Lib.hid hpart
  have HZ := Lib.hid hz
  clear h hl hb hf hs hm hn ht e hz8 hpart hz
  go_enter Try.func51, Try.ntmps51
  go_upto_region 5 with (first
    | (go_at_call 91; (with_reducible refine HC.out.mono ?_); rintro e w2 ⟨rfl, v2, hw2, hf2⟩
       have HE : Hid (EnI w w1.heap.size ls 0 w2) := by
         have e : Oc.addB 0 [] (Oc.grp n) = Oc.grp ls.length ++ flat (ls.take 0) := by rw [Oc.addB_no, HL.out]; simp [flat]
         rw [e] at hw2
         exact ⟨v2, hw2, HB0.out.trans (hf2.below HW0.out HB1.out.size)⟩
       clear hw2 hf2)
    | (go_at_call 56; (with_reducible refine HS.out.mono ?_); rintro e w1 ⟨rfl, hb1⟩
       have HB1 := Lib.hid hb1
       have hw0 : Oc.WrR (w1.alloc (.cells #[.int .i64 0, .slice none 0 0] 137)) w1.heap.size 0 [] (.slice none 0 0) := ⟨block_new _ _, World.ownsRow_nil _ _ _ _, by simp⟩
       have HW0 := Lib.hid hw0
       have HB0 : Hid (Below w.heap.size w (w1.alloc (.cells #[.int .i64 0, .slice none 0 0] 137))) := hb1.trans ((Jo.alloc_below w1 _).mono hb1.size)
       have HC := Lib.hid (Oc.count_any _ w1.heap.size 0 n [] _ hw0 (by have := HM.out; omega) (fun _ => by have := (Oc.grp_len n).1; simp; omega))
       clear hb1 hw0))
  clear HC HW0 HB0 HS
  obtain ⟨b, hbz⟩ : ∃ b, b = w1.heap.size := ⟨_, rfl⟩
  rw [← hbz] at HE
  rw [← hbz]
  have HBZ : Hid (w.heap.size ≤ b) := by rw [hbz]; exact HB1.out.size
  clear hbz HB1
  go_wp2
  go_loopg [17] n (fun (gh : Nat) s17 wx => ∃ i : Nat, gh = n - i ∧ i ≤ n ∧ s17 = .int .i64 (i : Int) ∧ Hid (EnI w b ls i wx))
  case atStart => exact ⟨0, rfl, Nat.zero_le _, rfl, HE⟩
  case round =>
    obtain ⟨i, rfl, hi, rfl, HI⟩ := hrel
    by_cases hlt : i < n
    · have t2 : (i : Int) < (n : Int) := by omega
      have t3 : (0 : Int) ≤ (i : Int) := by omega
      have HLT := Lib.hid hlt
      have hw9 : IntKind.i64.wrap ((i : Int) + 1) = ((i + 1 : Nat) : Int) := by have := HM.out.2.2.2; rw [IntKind.wrap_i64]; omega
      obtain ⟨vx, hwx, hbx⟩ := HI.out
      obtain ⟨g, o, Au, q, cu, l, rfl, hli, hq, hc, hba⟩ := rows_at (HH.out.below hbx) hlt
      have hbl := HBB.out l (List.mem_of_getElem? hli)
      have hcv := Oc.conv_any (Jo.oc_at hba) hbl.1
      have HX : Hid (ls[i]? = some l ∧ bok l ∧ l.length ≤ 2000000 ∧ Oc.WrR wr b 0 (Oc.grp ls.length ++ flat (ls.take i)) vx ∧ Below w.heap.size w wr) := ⟨hli, hbl.1, hbl.2, hwx, hbx⟩
      clear hlt hwx hbx hli hq hba hbl
      go_wp2_with (first
        | (go_at_call 92
           have hal := Jo.alloc_below wr (.cells #[.string (Oc.strOf l)] 9)
           have hw3 := HX.out.2.2.2.1.below hal
           have h8 := HPT.out (i + 1) HLT.out
           rw [flat_snoc HX.out.1] at h8
           have e5 : (Oc.strOf l).size = l.length := Oc.strOf_len l
           have htx := Oc.text_ok _ b wr.heap.size (Oc.strOf l) _ vx hw3 (block_new wr _) (by rw [e5]; simp only [List.length_append, recB] at h8 ⊢; omega)
           (with_reducible refine htx.mono ?_); rintro e w3 ⟨rfl, v3, hv3, hf3⟩
           have HE3 : Hid (EnI w b ls (i + 1) w3) := by
             rw [e5, Oc.sb_strOf HX.out.2.1] at hv3
             refine ⟨v3, ?_, HX.out.2.2.2.2.trans ((hal.mono HX.out.2.2.2.2.size).trans (hf3.below hw3 HBZ.out))⟩
             rw [flat_snoc HX.out.1, ← List.append_assoc]
             exact hv3
           clear hal hw3 h8 e5 htx hv3 hf3))
      go_roundg (n - (i + 1))
      case measure => have := HLT.out; omega
      case rel => exact ⟨i + 1, rfl, HLT.out, by first | rfl | go_num | rw [hw9], HE3.out⟩
    · have hil : i = n := by omega
      subst hil
      have t2 : ¬ (i : Int) < (i : Int) := by omega
      obtain ⟨vx, hwx, hbx⟩ := HI.out
      have eB : Oc.grp ls.length ++ flat (ls.take i) = bodyS ls := by rw [HL.out, List.take_length]; rfl
      rw [eB] at hwx
      have hdn := Oc.wdone_any wr b 0 (bodyS ls) vx hwx
      rw [← HM.out.1] at hdn
      have HDN := Lib.hid hdn
      have HBX := Lib.hid hbx
      clear hwx hbx eB hdn
      go_wp2_with (first
        | (go_at_call 94; (with_reducible refine HMK.out.mono ?_); rintro e w5 ⟨A5, c5, rfl, ha5, hb5⟩; have HA5 := Lib.hid ha5; have HB5 := Lib.hid (HB3.out.trans (hb5.mono HB3.out.size)); clear ha5 hb5)
        | (go_at_call 93; (with_reducible refine HDN.out.mono ?_); rintro e w3 ⟨A3, c3, rfl, ho3, hb3⟩
           have HB3 := Lib.hid (HBX.out.trans (hb3.mono HBX.out.size))
           have hm4 := Jo.make_atK w3 A3 m c3 z (bodyS ls) (BAt.of_own (by rw [← HM.out.1]; exact ho3)) (body_bok HBB.out (by have := HL.out; have := HM.out; omega)) HM.out.2.2.1 HM.out.2.1
           have HMK := Lib.hid hm4
           clear ho3 hb3 hm4))
      go_ret2
      exact ⟨A5, z, c5, rfl, rfl, ⟨HA5.out.1, fun hp a n c ha => Nat.le_trans HB3.out.size (HA5.out.2 hp a n c ha)⟩, HB5.out⟩
end Go.Proofs.Ytklngdmpledgeaa.Sp

namespace Go.Proofs.Ytklngdmpledgeaa.Sp
open Go.RowKit Fr
attribute [local go_sem] Oper.semAt_some

/-- What Decode tells of the bytes G. -/
def DecR (N : Nat) (G : List Int) (e : Ending) (w' : World) : Prop := ∃ A n c, e = .returned (.tuple #[.slice A n c, .int .i64 (decE G)]) ∧ RowsF N w' (.slice A n c) (decL G)
theorem rdone_at {w : World} {b : Nat} {er x : Int} {l : List Int} {v : Value} (h : Oc.RdR w b er l v) (hx : x = Oc.doneE er l) : Calls Try.prog 100 #[.pointer (some ⟨b, 0, none⟩)] w fun e w' => e = .returned (.int .i64 x) ∧ w = w' := by
  rw [hx]; exact Oc.rdone_any w b er l v h
set_option maxRecDepth 100000 in
set_option maxHeartbeats 8000000 in
theorem decode_any (w : World) (A : Option Addr) (q c : Nat) (G : List Int) (h : BAt w (.slice A q c) G) (hb : bok G) (hq : q ≤ 2000000) :
    Calls Try.prog 52 #[.slice A q c] w fun e w' => DecR w.heap.size G e w' ∧ Below w.heap.size w w' := by
  obtain ⟨m, hm⟩ : ∃ m, m = (opB G).length := ⟨_, rfl⟩
  obtain ⟨E, hE⟩ : ∃ E, E = opE G := ⟨_, rfl⟩
  have hbo : bok (opB G) := by
    unfold opB
    split
    · exact fun x hx => hb x (List.mem_of_mem_drop (List.mem_of_mem_take hx))
    · intro x hx; cases hx
  have hbl : (opB G).length ≤ 2000000 := by
    have hl := h.len.1
    unfold opB
    split
    · rw [List.length_take, List.length_drop]; omega
    · simp
  have HO := Lib.hid (open_at w A q c m E G (opB G) h hb hq rfl hm.symm hE.symm)
  obtain ⟨d, hd⟩ : ∃ d, d = decE G := ⟨_, rfl⟩
  have HD : Hid (d = decE G) := hd
  unfold DecR
  rw [← hd]
  have HE := Lib.hid hE
  have HBO := Lib.hid (And.intro hbo hbl)
  clear h hb hm hE hbo hbl hd
  by_cases he : E = 0
  · subst he
    have e0 : opE G = 0 := HE.out.symm
    have hde : d = Oc.doneE (allS (opB G)).1 (allS (opB G)).2.2 := by rw [HD.out]; unfold decE; rw [if_neg (fun h => h e0)]
    have HDE := Lib.hid hde
    clear hde e0
    go_enter Try.func52, Try.ntmps52
    go_upto_region 4 with (go_at_call 95; (with_reducible refine HO.out.mono ?_); rintro e w1 ⟨A1, c1, rfl, hb1, hbel1⟩; have HB1 := Lib.hid (And.intro hb1 hbel1); clear hb1 hbel1)
    have hrdx := Oc.read_any w1 _ (opB G) (Jo.oc_at HB1.out.1) HBO.out.1 HBO.out.2
    have HRDX := Lib.hid hrdx
    clear hrdx
    go_upto_region 7 with (first
      | (go_at_call 100; (with_reducible refine (rdone_at HR4.out HDE.out).mono ?_); rintro e w5 ⟨rfl, rfl⟩)
      | (go_at_call 97; (with_reducible refine HLS.out.mono ?_); rintro e w4 ⟨vr, rfl, hrows, u4, hr4, hg4⟩
         have HRW := Lib.hid hrows
         have HR4 := Lib.hid hr4
         have HB4 : Hid (Below w.heap.size w w4) := HB3.out.grown hg4 HB3.out.size (fun j hj => by cases hj; exact HBZ.out)
         have c4 := (block_cell (block_grown HBX.out hg4 HNE.out)).1
         clear hrows hr4 hg4)
      | (go_at_call 96; (with_reducible refine HRDX.out.mono ?_); rintro e w2 ⟨b, u, rfl, hbz, hr, hbl⟩
         have HBZ : Hid (w.heap.size ≤ b) := Nat.le_trans HB1.out.2.size hbz
         have hal := Jo.alloc_below w2 (.cells #[.pointer (some ⟨b, 0, none⟩)] 143)
         have HB3 : Hid (Below w.heap.size w (w2.alloc (.cells #[.pointer (some ⟨b, 0, none⟩)] 143))) := HB1.out.2.trans ((hbl.trans (hal.mono hbl.size)).mono HB1.out.2.size)
         have HNE : Hid (w2.heap.size ≠ b) := by have := hr.lt; show _ ≠ _; omega
         have HBX : Hid ((w2.alloc (.cells #[.pointer (some ⟨b, 0, none⟩)] 143)).heap[w2.heap.size]? = some (.cells #[.pointer (some ⟨b, 0, none⟩)] 143 (0, 0))) := block_new w2 _
         have HLS := Lib.hid (list_any (hr.below hal) HBX.out HNE.out)
         clear hr hbl hbz hal)
      | (go_at_call 95; (with_reducible refine HO.out.mono ?_); rintro e w1 ⟨A1, c1, rfl, hb1, hbel1⟩; have HB1 := Lib.hid (And.intro hb1 hbel1); clear hb1 hbel1))
    have hdl : decL G = if d = 0 then (allS (opB G)).2.1 else [] := by rw [HD.out]; rfl
    have HDL := Lib.hid hdl
    obtain ⟨Ar, cr, rfl, _⟩ := id HRW.out
    clear hdl
    by_cases hd0 : d = 0
    · subst hd0
      go_wp2
      go_ret2
      refine ⟨⟨Ar, _, cr, rfl, ?_⟩, HB4.out⟩
      rw [HDL.out, if_pos trivial]
      exact HRW.out.from HB3.out.size
    · go_wp2
      go_ret2
      refine ⟨⟨none, 0, 0, rfl, ?_⟩, HB4.out⟩
      rw [HDL.out, if_neg hd0]
      exact RowsF.nil _ _ _ _
  · have hde : d = E := by rw [HD.out, HE.out]; unfold decE; rw [if_pos (by rw [← HE.out]; exact he)]
    have HDL : Hid (decL G = []) := by
      show decL G = []
      unfold decL
      rw [if_neg (by rw [← HD.out, hde]; exact he)]
    have HDE := Lib.hid hde
    clear hde
    go_enter Try.func52, Try.ntmps52
    go_wp2_with (go_at_call 95; (with_reducible refine HO.out.mono ?_); rintro e w1 ⟨A1, c1, rfl, hb1, hbel1⟩; have HB1 := Lib.hid (And.intro hb1 hbel1); clear hb1 hbel1)
    go_ret2
    refine ⟨⟨none, 0, 0, by rw [HDE.out]; rfl, ?_⟩, HB1.out.2⟩
    rw [HDL.out]
    exact RowsF.nil _ _ _ _
end Go.Proofs.Ytklngdmpledgeaa.Sp
