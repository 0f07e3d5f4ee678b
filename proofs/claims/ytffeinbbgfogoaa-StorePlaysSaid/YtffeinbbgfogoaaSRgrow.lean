/-
  The reference's grow. Conditions: bytes outside the store's own cells; room for one more file.
-/
import Derived.Test.YtffeinbbgfogoaaSM4
namespace Go.Proofs.Ytffeinbbgfogoaa.Sr
open Go.RowKit Fr

/-- How many bytes the units are for. -/
def cnt (x : RS) (n : Nat) : Nat := if x.lf < 0 then n else min x.lf.toNat n
def gE (m n : Nat) : Int := if m = n then 0 else 14
def gD (m n : Nat) : Bool := decide (m ≠ n)
def lfA (lf : Int) (j : Nat) : Int := if lf < 0 then lf else lf - j
theorem cell_al {W : World} {g o : Nat} {v : Value} (h : W.cell? ⟨g, o, none⟩ = some v) (hg : g < W.heap.size) (x : Obj) : (W.alloc x).cell? ⟨g, o, none⟩ = some v :=
  (((Below.refl W.heap.size W).alloc (Nat.le_refl _) x).cell (p := ⟨g, o, none⟩) hg).trans h
theorem bat_drew {W : World} {v : Value} {l : List Int} (h : BAt W v l) : BAt W.drew v l := h.kept (Below.refl _ _).drew
theorem lit_at2 (w : World) (o : Obj) (l : List Int) (fr : Nat × Nat) : BAt ((w.alloc o).alloc (.cells (bv l).toArray 5 fr)) (.slice (some ⟨w.heap.size + 1, 0, none⟩) l.length l.length) l := by
  have := lit_at (w.alloc o) l fr
  rwa [show (w.alloc o).heap.size = w.heap.size + 1 by simp] at this
theorem own_made2 (w : World) (o : Obj) : ((w.alloc o).alloc (.cells #[] 5)).ownsRow (w.heap.size + 1) 5 1 (.slice (some ⟨w.heap.size + 1, 0, none⟩) 0 0) 0 [] := by
  have := World.ownsRow_made (size := 1) (e := 5) (w.alloc o) #[] 0 (Nat.le_refl _) (Nat.zero_le _) rfl
  rwa [show (w.alloc o).heap.size = w.heap.size + 1 by simp] at this
theorem grow_b7 {w W w' : World} (base : Nat) {n c : Nat} (h : Below w.heap.size w W) (hb : w.heap.size ≤ base) (hg : W.grownBy w' (Value.slice (some ⟨base, 0, none⟩) n c).ownBlock) : Below w.heap.size w w' :=
  h.grown hg h.size fun i e => by cases e; exact hb
theorem grow_ne {a b i n c n' c' : Nat} (hi : vb (.slice (some ⟨a, 0, none⟩) n c) i) (e : (Value.slice (some ⟨b, 0, none⟩) n' c').ownBlock = some i) (h : a ≠ b) : False := by
  obtain ⟨_, _, _, e2, _, rfl⟩ := hi
  cases e2
  cases e
  exact h rfl
/-- The set of one round. -/
def FinS (w w6 : World) (q : Nat) (x x1 : RS) (k : ByteArray) (bs : List Int) (j : Nat) (wb : List Int) (b : Int) : Prop :=
  Rm w w6 q x x1 ∧ x1.D.length + 1 ≤ 1000 ∧ wb = bytL x1.D k ∧ Alike (grL x.D k bs j) x1.D ∧ bs[j]? = some b ∧ x1.rm = x.rm ∧ x1.lf = lfA x.lf (j + 1) ∧ x1.dn = false
theorem fin_set {w w6 : World} {q : Nat} {x x1 : RS} {k : ByteArray} {bs : List Int} {j : Nat} {wb : List Int} {b : Int} (h1 : Rm w w6 q x x1) (h2 : x1.D.length + 1 ≤ 1000) (h3 : wb = bytL x1.D k) (h4 : Alike (grL x.D k bs j) x1.D) (h5 : bs[j]? = some b) (h6 : x1.rm = x.rm ∧ x1.lf = lfA x.lf (j + 1) ∧ x1.dn = false) : FinS w w6 q x x1 k bs j wb b := ⟨h1, h2, h3, h4, h5, h6.1, h6.2.1, h6.2.2⟩
theorem rset_fin {w w6 W : World} {q : Nat} {x x1 : RS} {k : ByteArray} {bs : List Int} {j : Nat} {wb : List Int} {b : Int} {base : Nat} {A : Option Addr} {n c : Nat} (h : FinS w w6 q x x1 k bs j wb b) (hb : Below w6.heap.size w6 W) (ho : W.ownsRow base 5 1 (.slice A n c) (wb ++ [b]).length (bv (wb ++ [b]))) (hbase : w6.heap.size ≤ base) :
    Calls Try.prog 53 #[.pointer (some ⟨q, 0, none⟩), .string k, .slice A n c] W fun e w' => e = .returned (.tuple #[]) ∧ ∃ xj, Rm w w' q x xj ∧ xj.rm = x.rm ∧ xj.lf = lfA x.lf (j + 1) ∧ xj.dn = false ∧ Alike (grL x.D k bs (j + 1)) xj.D := by
  obtain ⟨h1, h2, h3, h4, h5, h6, h7, h8⟩ := h
  have hvb : ∀ i, vb (.slice A n c) i → w6.heap.size ≤ i := fun i hi => by
    obtain ⟨a, n', c', e, _, rfl⟩ := hi
    cases e
    exact Nat.le_trans hbase (ho.lt a.block rfl).1
  have hq := h1.st.lt (.inl rfl)
  refine (rset_any k (h1.st.below hb) (BAt.of_own ho) (fun hi => by have := hvb q hi; omega) h2).mono ?_
  rintro e w' ⟨rfl, sv', hrs⟩
  refine ⟨rfl, _, h1.set hb hrs (fun i hi => .inr (hvb i hi)), h6, h7, h8, ?_⟩
  rw [h3]
  exact grL_step _ h1.st.srt h4 h5
set_option maxRecDepth 100000 in
set_option maxHeartbeats 4000000 in
theorem grow_any {w : World} {q : Nat} {x : RS} (k : ByteArray) {A : Option Addr} {n c : Nat} {bs : List Int} (h : RfR w q x) (hd : x.dn = false) (hl : -1 ≤ x.lf ∧ x.lf ≤ 9223372036854775807) (hn : x.D.length + 2 ≤ 1000) (hbs : bs.length = n) (hbl : (bytL x.D k).length + n ≤ 2000000) (hv : ∀ w', Off (fun i => i = q) w w' → BAt w' (.slice A n c) bs) :
    Calls Try.prog 54 #[.pointer (some ⟨q, 0, none⟩), .string k, .slice A n c] w fun e w' => e = .returned (.int .i64 (gE (cnt x n) n)) ∧
      ∃ x', Rm w w' q x x' ∧ x'.rm = x.rm ∧ x'.lf = lfA x.lf (cnt x n) ∧ x'.dn = gD (cnt x n) n ∧ Alike (grL x.D k bs (cnt x n)) x'.D := by
  have HT := Lib.hid h
  have HV := Lib.hid hv
  have HBS := Lib.hid hbs
  have HBL := Lib.hid hbl
  have HD := Lib.hid hd
  have hm : cnt x n ≤ n ∧ (x.lf < 0 → cnt x n = n) ∧ (0 ≤ x.lf → cnt x n = n ∨ (cnt x n : Int) = x.lf) ∧ (0 ≤ x.lf → (cnt x n : Int) ≤ x.lf) := by unfold cnt; split <;> omega
  have HM := Lib.hid hm
  obtain ⟨m, hmm⟩ : ∃ m, m = cnt x n := ⟨_, rfl⟩
  rw [← hmm] at HM hm ⊢
  obtain ⟨m1, m2, m3, m4⟩ := hm
  have hn2 : n ≤ 2000000 := by omega
  clear h hv hbs hbl hd hmm
  go_enter Try.func54, Try.ntmps54
  go_wp2
  go_loopg [7, 8, 9] n (fun (gh : Nat) s7 s8 s9 wx => ∃ j : Nat, gh = n - j ∧ j ≤ m ∧ s7 = .int .i64 (j : Int) ∧ s8 = s8 ∧ s9 = s9 ∧ Hid (∃ xj, Rm w wx q x xj ∧ xj.rm = x.rm ∧ xj.lf = lfA x.lf j ∧ xj.dn = false ∧ Alike (grL x.D k bs j) xj.D))
  case atStart => exact ⟨0, rfl, Nat.zero_le _, rfl, rfl, rfl, x, Rm.refl HT.out, rfl, by unfold lfA; split <;> omega, HD.out, Alike.refl _⟩
  case round =>
    obtain ⟨j, rfl, hjm, rfl, _, _, hinv⟩ := hrel
    obtain ⟨xj, hR, hrm, hlf, hdn, hal⟩ := hinv.out
    have HR := Lib.hid hR
    have HRM := Lib.hid hrm
    have HLF := Lib.hid hlf
    have HAL := Lib.hid hal
    by_cases hlt : j < n
    · have t1 : (j : Int) < (n : Int) := by omega
      have t2 : (0 : Int) ≤ (j : Int) := by omega
      by_cases hz : xj.lf = 0
      · have hj : 0 ≤ x.lf ∧ x.lf = j := by
          rw [hlf] at hz; unfold lfA at hz; split at hz <;> omega
        have hjm2 : j = m := by omega
        have HU := Lib.hid (ruse_no hR.st (.inr hz))
        have hmn : ¬ m = n := by omega
        have FIN : Hid (∀ w', Rm wr w' q xj { xj with dn := true } → ∃ x', Rm w w' q x x' ∧ x'.rm = x.rm ∧ x'.lf = lfA x.lf m ∧ x'.dn = gD m n ∧ Alike (grL x.D k bs m) x'.D) := fun w' hR2 =>
          ⟨_, HR.out.trans hR2, HRM.out, by rw [← hjm2]; exact HLF.out, by unfold gD; simp [hmn], by rw [← hjm2]; exact HAL.out⟩
        have HMN := Lib.hid hmn
        clear hmn
        clear hinv hR hrm hlf hdn hal hz hj HR HRM HLF HAL
        go_wp2_with (go_at_call 56; (with_reducible refine HU.out.mono ?_); rintro e w1 ⟨rfl, hr1⟩; have HR1 := Lib.hid hr1; clear hr1)
        go_ret
        exact ⟨by unfold gE; rw [if_neg HMN.out]; rfl, FIN.out _ HR1.out⟩
      · have hjl : x.lf < 0 ∨ (j : Int) < x.lf := by
          rw [hlf] at hz; unfold lfA at hz
          split at hz
          · exact .inl (by omega)
          · rename_i h5
            have := m4 (by omega)
            omega
        have hjm2 : j + 1 ≤ m := by
          rcases hjl with h5 | h5
          · have := m2 h5; omega
          · rcases m3 (by omega) with h6 | h6 <;> omega
        have hlj : -1 ≤ xj.lf ∧ xj.lf ≤ 9223372036854775807 := by
          rw [hlf]; unfold lfA; split <;> omega
        have hlf2 : (if 0 < xj.lf then xj.lf - 1 else xj.lf) = lfA x.lf (j + 1) := by
          rw [hlf]; unfold lfA
          by_cases h6 : x.lf < 0
          · rw [if_pos h6, if_pos h6, if_neg (by omega)]
          · rw [if_neg h6, if_neg h6, if_pos (by omega)]; omega
        have hu := ruse_yes hR.st hdn hz hlj
        rw [hlf2] at hu
        obtain ⟨x1, hx1⟩ : ∃ x1 : RS, x1 = { xj with lf := lfA x.lf (j + 1) } := ⟨_, rfl⟩
        rw [← hx1] at hu
        have hx1D : x1.D = xj.D := by rw [hx1]
        have HU := Lib.hid hu
        have HX1 : Hid (x1.rm = x.rm ∧ x1.lf = lfA x.lf (j + 1) ∧ x1.dn = false) := by rw [hx1]; exact ⟨hrm, rfl, hdn⟩
        obtain ⟨b, hb⟩ : ∃ b, bs[j]? = some b := ⟨_, List.getElem?_eq_getElem (by rw [HBS.out]; exact hlt)⟩
        have HB := Lib.hid hb
        have hsz : x1.D.length + 1 ≤ 1000 := by
          have h7 := len_alike (grL_keys HT.out.srt.keys k bs j) hR.st.srt.keys hal
          have h8 := grL_len x.D k bs j
          rw [hx1D]; omega
        have HAL1 : Hid (Alike (grL x.D k bs j) x1.D) := by rw [hx1D]; exact hal
        have hbl : (bytL x1.D k).length ≤ 2000000 := by
          rw [(HAL1.out k).2, grL_byt, List.length_append, List.length_take]
          have := HBL.out
          have := HBS.out
          omega
        have HCB : Hid (∃ g o, A = some ⟨g, o, none⟩ ∧ ∀ W, Off (fun i => i = q) w W → W.cell? ⟨g, o + j, none⟩ = some (.int .u8 b)) := by
          obtain ⟨g, o, hA, _⟩ := (HV.out w (Off.refl _ _)).cell j hlt
          refine ⟨g, o, hA, fun W hW => ?_⟩
          obtain ⟨g', o', hA', h9, _⟩ := (HV.out W hW).cell j hlt
          rw [hA] at hA'
          cases hA'
          rw [h9]
          have hg : bs.getD j 0 = b := by simp [List.getD, HB.out]
          rw [hg]
        obtain ⟨g, o, rfl, hcb⟩ := HCB.out
        have HC := Lib.hid hcb
        obtain ⟨v0, hv0⟩ : ∃ v0, v0 = valL x1.D k := ⟨_, rfl⟩
        obtain ⟨wb, hwb⟩ : ∃ wb, wb = bytL x1.D k := ⟨_, rfl⟩
        have HWB := Lib.hid hwb
        have HRD : Hid (∀ W, RfR W q x1 → Calls Try.prog 52 #[.pointer (some ⟨q, 0, none⟩), .string k] W fun e w' => e = .returned (.tuple #[v0, .bool (hasL x1.D k)]) ∧ Below W.heap.size W w') := fun W hW => by rw [hv0]; exact rread_any k hW
        have HVB : Hid (∀ W, RfR W q x1 → BAt W v0 wb) := fun W hW => by rw [hv0, hwb]; exact (val_bat k hW).1
        obtain ⟨A0, n0, c0, hvs⟩ : ∃ A0 n0 c0, v0 = .slice A0 n0 c0 := by
          have h1 : v0.oneCell' = true ∧ ∃ A c n, v0 = .slice A n c := by
            cases hh : hasL x1.D k
            · rw [hv0, val_none hh]; exact ⟨rfl, none, 0, 0, rfl⟩
            · obtain ⟨y, hy, _, hyv, _⟩ := val_at (D := x1.D) (by rw [hx1D]; exact hR.st.srt) hh
              rw [hv0, ← hyv]
              obtain ⟨A, c, e, _⟩ := hR.st.bts y (by rw [← hx1D]; exact List.mem_of_getElem? hy)
              rw [e]; exact ⟨rfl, A, c, _, rfl⟩
          obtain ⟨_, A, c, n, h2⟩ := h1
          exact ⟨A, n, c, h2⟩
        rw [hvs] at HRD HVB
        rw [← hwb] at hbl
        obtain ⟨hh, hhh⟩ : ∃ hh, hh = hasL x1.D k := ⟨_, rfl⟩
        rw [← hhh] at HRD
        clear hinv hR hrm hlf hdn hal hz hjl hlj hlf2 hx1 hx1D hb hcb hv0 hwb hvs hu HLF HAL hhh
        go_upto_region 7 with (first
          | (go_at_call 52; (with_reducible refine (HRD.out _ HR5.out.st).mono ?_); rintro e w6 ⟨rfl, hb6⟩; have HR6 := Lib.hid (HR5.out.trans (Rm.of_below HR5.out.st hb6)); clear hb6)
          | (go_at_call 56; (with_reducible refine HU.out.mono ?_); rintro e w5 ⟨rfl, hr5⟩; have HR5 := Lib.hid (HR.out.trans hr5); clear hr5))
        have hq : q < w6.heap.size := HR6.out.st.lt (.inl rfl)
        have HQ := Lib.hid hq
        have HC6 : Hid (w6.drew.cell? ⟨g, o + j, none⟩ = some (.int .u8 b)) := (show w6.cell? _ = _ from HC.out w6 HR6.out.off)
        have hg6 : g < w6.heap.size := World.block_lt_of_cell? _ _ (HC.out _ HR6.out.off)
        have HG6 := Lib.hid hg6
        have HVB6 := Lib.hid (HVB.out _ HR6.out.st)
        have hfin := fin_set HR6.out hsz (k := k) (wb := wb) (b := b) HWB.out HAL1.out HB.out HX1.out
        have HFIN := Lib.hid hfin
        have B0 := Lib.hid ((Below.refl w6.heap.size w6).drew)
        have hz0 : w6.heap.size ≤ w6.drew.heap.size := Nat.le_refl _
        have hwb2 : ([] : List Int).length + wb.length ≤ 4000000 := by simp; omega
        have hwb3 : wb.length + [b].length ≤ 4000000 := by simp; omega
        have HW2 := Lib.hid hwb2
        have HW3 := Lib.hid hwb3
        have K1 : Hid ((w6.alloc (.cells #[] 5)).drew.cell? ⟨g, o + j, none⟩ = some (.int .u8 b)) := cell_al (show w6.cell? _ = _ from HC6.out) hg6 _
        have K3 : Hid ((w6.alloc (.cells #[.int .u8 b] 5)).drew.cell? ⟨g, o + j, none⟩ = some (.int .u8 b)) := cell_al (show w6.cell? _ = _ from HC6.out) hg6 _
        have K2 : Hid (((w6.alloc (.cells #[] 5)).alloc (.cells #[.int .u8 b] 5)).drew.cell? ⟨g, o + j, none⟩ = some (.int .u8 b)) := cell_al (W := w6.alloc (.cells #[] 5)) K1.out (by simp; omega) _
        have K4 : Hid (((w6.alloc (.cells #[.int .u8 b] 5)).alloc (.cells #[] 5)).drew.cell? ⟨g, o + j, none⟩ = some (.int .u8 b)) := cell_al (W := w6.alloc (.cells #[.int .u8 b] 5)) K3.out (by simp; omega) _
        clear hfin hwb2 hwb3 hq HVB HRD HV HBS HBL HU HT
        go_region_held3 (fun w' => w'.cell? ⟨g, o + j, none⟩ = some (.int .u8 b))
          (first | (with_reducible exact HC6.out) | (with_reducible exact HC10.out) | (with_reducible exact HC9.out) | (with_reducible exact HC7.out) | (with_reducible exact K1.out) | (with_reducible exact K2.out) | (with_reducible exact K3.out) | (with_reducible exact K4.out) | (with_reducible exact cell_al HC7.out HG7.out _) | go_keep)
          (first
            | (refine step_bapp (w := World.drew (w6.alloc (.cells #[] 5))) (by rfl) _ _ (by rfl) (by rfl) w6.heap.size (.slice (some ⟨w6.heap.size, 0, none⟩) 0 0) [] (by rfl) ((World.ownsRow_made w6 #[] 0 (Nat.le_refl _) (Nat.zero_le _) rfl).drew) (.slice A0 n0 c0) wb (by rfl) (HVB6.out.kept (((Below.refl w6.heap.size w6).alloc (Nat.le_refl _) _).drew)) HW2.out (by first | (simp; done) | (simp; omega)) wb.length (by simp) ?_; intro A7 c7 w7 ho7 hg7; rw [List.nil_append] at ho7; have O7 := Lib.hid ho7; have B7 := Lib.hid (grow_b7 (w6.heap.size) (((Below.refl w6.heap.size w6).alloc (Nat.le_refl _) _).drew) (by simp) hg7); have HC7 : Hid (w7.cell? ⟨g, o + j, none⟩ = some (.int .u8 b)) := (B7.out.cell (p := ⟨g, o + j, none⟩) HG6.out).trans (show w6.cell? _ = _ from HC6.out); have HG7 : Hid (g < w7.heap.size) := Nat.lt_of_lt_of_le HG6.out B7.out.size; have Y7 : Hid (w6.heap.size ≤ w7.heap.size) := (by have h5 := hg7.size; (try simp at h5); show _ ≤ _; (try simp); omega); have Z7 : Hid (w6.heap.size ≤ w6.heap.size) := (by show _ ≤ _; first | (simp; done) | (simp; omega)); clear ho7 hg7)
            | (refine step_bapp (w := World.drew ((w6.alloc (.cells #[] 5)).alloc (.cells #[.int .u8 b] 5))) (by rfl) _ _ (by rfl) (by rfl) w6.heap.size (.slice (some ⟨w6.heap.size, 0, none⟩) 0 0) [] (by rfl) (((World.ownsRow_made w6 #[] 0 (Nat.le_refl _) (Nat.zero_le _) rfl).alloc _).drew) (.slice A0 n0 c0) wb (by rfl) (HVB6.out.kept ((((Below.refl w6.heap.size w6).alloc (Nat.le_refl _) _).alloc (by simp) _).drew)) HW2.out (by first | (simp; done) | (simp; omega)) wb.length (by simp) ?_; intro A7 c7 w7 ho7 hg7; rw [List.nil_append] at ho7; have O7 := Lib.hid ho7; have B7 := Lib.hid (grow_b7 (w6.heap.size) ((((Below.refl w6.heap.size w6).alloc (Nat.le_refl _) _).alloc (by simp) _).drew) (by simp) hg7); have HC7 : Hid (w7.cell? ⟨g, o + j, none⟩ = some (.int .u8 b)) := (B7.out.cell (p := ⟨g, o + j, none⟩) HG6.out).trans (show w6.cell? _ = _ from HC6.out); have HG7 : Hid (g < w7.heap.size) := Nat.lt_of_lt_of_le HG6.out B7.out.size; have Y7 : Hid (w6.heap.size ≤ w7.heap.size) := (by have h5 := hg7.size; (try simp at h5); show _ ≤ _; (try simp); omega); have Z7 : Hid (w6.heap.size ≤ w6.heap.size) := (by show _ ≤ _; first | (simp; done) | (simp; omega)); have X7 : Hid (BAt w7 (.slice (some ⟨w6.heap.size + 1, 0, none⟩) 1 1) [b]) := bat_grown (w := ((w6.alloc (.cells #[] 5)).alloc (.cells #[.int .u8 b] 5)).drew) (bat_drew (lit_at2 w6 (.cells #[] 5) [b] (0, 0))) hg7 (fun i hi e => grow_ne hi e (by simp)); clear ho7 hg7)
            | (refine step_bapp (w := World.drew ((w6.alloc (.cells #[.int .u8 b] 5)).alloc (.cells #[] 5))) (by rfl) _ _ (by rfl) (by rfl) (w6.heap.size + 1) (.slice (some ⟨(w6.heap.size + 1), 0, none⟩) 0 0) [] (by rfl) ((own_made2 w6 (.cells #[.int .u8 b] 5)).drew) (.slice A0 n0 c0) wb (by rfl) (HVB6.out.kept ((((Below.refl w6.heap.size w6).alloc (Nat.le_refl _) _).alloc (by simp) _).drew)) HW2.out (by first | (simp; done) | (simp; omega)) wb.length (by simp) ?_; intro A7 c7 w7 ho7 hg7; rw [List.nil_append] at ho7; have O7 := Lib.hid ho7; have B7 := Lib.hid (grow_b7 ((w6.heap.size + 1)) ((((Below.refl w6.heap.size w6).alloc (Nat.le_refl _) _).alloc (by simp) _).drew) (by simp) hg7); have HC7 : Hid (w7.cell? ⟨g, o + j, none⟩ = some (.int .u8 b)) := (B7.out.cell (p := ⟨g, o + j, none⟩) HG6.out).trans (show w6.cell? _ = _ from HC6.out); have HG7 : Hid (g < w7.heap.size) := Nat.lt_of_lt_of_le HG6.out B7.out.size; have Y7 : Hid ((w6.heap.size + 1) ≤ w7.heap.size) := (by have h5 := hg7.size; (try simp at h5); show _ ≤ _; (try simp); omega); have Z7 : Hid (w6.heap.size ≤ (w6.heap.size + 1)) := (by show _ ≤ _; first | (simp; done) | (simp; omega)); have X7 : Hid (BAt w7 (.slice (some ⟨w6.heap.size, 0, none⟩) 1 1) [b]) := bat_grown (w := ((w6.alloc (.cells #[.int .u8 b] 5)).alloc (.cells #[] 5)).drew) (bat_drew ((lit_at w6 [b] (0, 0)).kept ((Below.refl _ _).alloc (Nat.le_refl _) _))) hg7 (fun i hi e => grow_ne hi e (by simp)); clear ho7 hg7)
            | (refine step_bapp (w := w7.alloc (.cells #[.int .u8 b] 5)) (by rfl) _ _ (by rfl) (by rfl) _ (.slice A7 _ c7) wb (by rfl) (O7.out.alloc _) (.slice (some ⟨w7.heap.size, 0, none⟩) 1 1) [b] (by rfl) (lit_at w7 [b] (0, 0)) HW3.out (Nat.le_trans Y7.out (by simp)) (wb.length + 1) (by simp) ?_; intro A9 c9 w9 ho9 hg9; have O9 := Lib.hid ho9; have Z9 := Lib.hid Z7.out; have B9 := Lib.hid ((B7.out.alloc B7.out.size _).grown hg9 (by have := B7.out.size; simp; omega) (fun i e => by have := (O7.out.lt i e).1; have := Z7.out; omega)); have HC9 : Hid (w9.cell? ⟨g, o + j, none⟩ = some (.int .u8 b)) := (B9.out.cell (p := ⟨g, o + j, none⟩) HG6.out).trans (show w6.cell? _ = _ from HC6.out); clear ho9 hg9)
            | (refine step_bapp (w := w7) (by rfl) _ _ (by rfl) (by rfl) _ (.slice A7 _ c7) wb (by rfl) (O7.out) (.slice (some _) 1 1) [b] (by rfl) (X7.out) HW3.out (Nat.le_trans Y7.out (by simp)) (wb.length + 1) (by simp) ?_; intro A9 c9 w9 ho9 hg9; have O9 := Lib.hid ho9; have Z9 := Lib.hid Z7.out; have B9 := Lib.hid ((B7.out).grown hg9 (by have := B7.out.size; simp; omega) (fun i e => by have := (O7.out.lt i e).1; have := Z7.out; omega)); have HC9 : Hid (w9.cell? ⟨g, o + j, none⟩ = some (.int .u8 b)) := (B9.out.cell (p := ⟨g, o + j, none⟩) HG6.out).trans (show w6.cell? _ = _ from HC6.out); clear ho9 hg9)
            | (go_at_call 53; refine (rset_fin HFIN.out B9.out O9.out Z9.out).mono ?_; rintro e w10 ⟨rfl, hx⟩; have HC10 : Hid (w10.cell? ⟨g, o + j, none⟩ = some (.int .u8 b)) := (by obtain ⟨_, h8, _⟩ := hx; exact HC.out _ h8.off); have HX := Lib.hid hx; clear hx))
        all_goals
          clear HFIN HC6 HVB6 HG6 HW2 HW3 B0
          go_wp2
          go_roundg (n - (j + 1))
          case measure => omega
          case rel => exact ⟨j + 1, rfl, hjm2, by go_num, trivial, trivial, HX.out⟩
    · obtain rfl : j = n := by omega
      have hmn : m = j := by omega
      have FIN : Hid (∃ x', Rm w wr q x x' ∧ x'.rm = x.rm ∧ x'.lf = lfA x.lf m ∧ x'.dn = gD m j ∧ Alike (grL x.D k bs m) x'.D) :=
        ⟨xj, HR.out, HRM.out, by rw [hmn]; exact HLF.out, by rw [hdn, hmn]; unfold gD; simp, by rw [hmn]; exact HAL.out⟩
      have HMN := Lib.hid hmn
      clear hmn
      clear hinv hR hrm hlf hdn hal HR HRM HLF HAL
      go_wp2
      go_ret
      exact ⟨by unfold gE; rw [if_pos HMN.out]; rfl, FIN.out⟩
end Go.Proofs.Ytffeinbbgfogoaa.Sr
