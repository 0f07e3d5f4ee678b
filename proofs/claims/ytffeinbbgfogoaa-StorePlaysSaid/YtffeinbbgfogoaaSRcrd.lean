/-
  The reference's Cut, Rename, Drop beside the store's. Conditions: at most 999 files, 100000 bytes.
-/
import Derived.Test.YtffeinbbgfogoaaSRapp
import Derived.Test.YtffeinbbgfogoaaSRgone
namespace Go.Proofs.Ytffeinbbgfogoaa.Sr
open Go.RowKit Fr

def fv : Bool → Bool → Bool → Int
  | true, _, _ => 14
  | false, false, _ => 3
  | false, true, false => 13
  | false, true, true => 0
theorem fnd_one (d : Bool) (D : List Fi) (k : ByteArray) : fnd d D k [k] = fv d (okN k) (hasL D k) := by
  unfold fnd
  rw [rdy_one]
  cases d <;> cases okN k <;> cases hasL D k <;> rfl
theorem fnd_two (d : Bool) (D : List Fi) (k tn : ByteArray) : fnd d D k [tn, k] = fv d (okN k && okN tn) (hasL D k) := by
  unfold fnd rdy
  simp only [List.all_cons, List.all_nil, Bool.and_true]
  cases d <;> cases okN k <;> cases okN tn <;> cases hasL D k <;> rfl
theorem val_form {w : World} {q : Nat} {x : RS} (k : ByteArray) (h : RfR w q x) : ∃ A c, valL x.D k = .slice A (bytL x.D k).length c := by
  obtain ⟨A, c, e, _⟩ := (val_bat k h).1
  exact ⟨A, c, e⟩
theorem fv_zero {d r h : Bool} (e : fv d r h = 0) : d = false ∧ r = true ∧ h = true := by
  cases d <;> cases r <;> cases h <;> simp [fv] at e ⊢
theorem rl_same {s : S} {x x' : RS} (_h : Rl s x') (hu : s.used = usedL x.D) (e : x'.D = x.D) : s.used = usedL x'.D := by rw [e]; exact hu
set_option maxRecDepth 100000 in
set_option maxHeartbeats 2000000 in
theorem rdrop_no {w : World} {q : Nat} {x : RS} {s : S} (k : ByteArray) (h : RfR w q x) (hr : Rl s x) (hb : fnd s.d x.D k [k] ≠ 0) :
    Calls Try.prog 20 #[.pointer (some ⟨q, 0, none⟩), .string k] w fun e w' => e = .returned (.int .i64 (fnd s.d x.D k [k])) ∧ RTo w w' q x s x.D := by
  have HR := Lib.hid h
  have HL := Lib.hid hr
  have HC3 : Hid (∀ W, Below w.heap.size w W → W.cell? ⟨q, 3, none⟩ = some (.bool s.d)) := fun W hW => by rw [← hr.dn]; exact (rblk_cells (h.below hW).blk).1.2.2.2
  obtain ⟨A0, c0, hv0⟩ := val_form k h
  obtain ⟨n0, hn0⟩ : ∃ n0, n0 = (bytL x.D k).length := ⟨_, rfl⟩
  rw [← hn0] at hv0
  have HRD : Hid (∀ W, Below w.heap.size w W → Calls Try.prog 52 #[.pointer (some ⟨q, 0, none⟩), .string k] W fun e w' => e = .returned (.tuple #[.slice A0 n0 c0, .bool (hasL x.D k)]) ∧ Below W.heap.size W w') := fun W hW => by rw [← hv0]; exact rread_any k (h.below hW)
  have HRT := Lib.hid (fun W => right_any W k)
  rw [fnd_one] at hb ⊢
  obtain ⟨d, hd⟩ : ∃ d, d = s.d := ⟨_, rfl⟩
  obtain ⟨r, hrr⟩ : ∃ r, r = okN k := ⟨_, rfl⟩
  obtain ⟨hh, hhh⟩ : ∃ hh, hh = hasL x.D k := ⟨_, rfl⟩
  rw [← hd] at HC3 hb ⊢
  rw [← hrr] at hb HRT ⊢
  rw [← hhh] at hb HRD ⊢
  clear h hr hd hrr hhh hv0 hn0
  cases d <;> cases r <;> cases hh
  all_goals
    first
    | exact absurd rfl hb
    | (clear hb
       go_enter Try.func20, Try.ntmps20
       go_wp2_with (first
        | (go_at_call 50; (with_reducible refine (HRT.out _).mono ?_); rintro e w' ⟨rfl, rfl⟩)
        | (go_at_call 52; (with_reducible refine (HRD.out _ (Below.refl _ _)).mono ?_); rintro e w1 ⟨rfl, hb1⟩; have HB1 := Lib.hid hb1; have c3 := HC3.out w1 hb1; clear hb1))
       go_ret
       exact ⟨rfl, RTo.same HR.out HL.out HB1.out⟩)
set_option maxRecDepth 100000 in
set_option maxHeartbeats 2000000 in
theorem rdrop_down {w : World} {q : Nat} {x : RS} {s : S} (k : ByteArray) (h : RfR w q x) (hr : Rl s x) (hf : fnd s.d x.D k [k] = 0) (hu1 : useN s 1 ≠ 1) :
    Calls Try.prog 20 #[.pointer (some ⟨q, 0, none⟩), .string k] w fun e w' => e = .returned (.int .i64 14) ∧ RTo w w' q x (useS s 1) x.D := by
  have HR := Lib.hid h
  have HL := Lib.hid hr
  have HC3 : Hid (∀ W, Below w.heap.size w W → W.cell? ⟨q, 3, none⟩ = some (.bool s.d)) := fun W hW => by rw [← hr.dn]; exact (rblk_cells (h.below hW).blk).1.2.2.2
  obtain ⟨A0, c0, hv0⟩ := val_form k h
  obtain ⟨n0, hn0⟩ : ∃ n0, n0 = (bytL x.D k).length := ⟨_, rfl⟩
  rw [← hn0] at hv0
  have HRD : Hid (∀ W, Below w.heap.size w W → Calls Try.prog 52 #[.pointer (some ⟨q, 0, none⟩), .string k] W fun e w' => e = .returned (.tuple #[.slice A0 n0 c0, .bool (hasL x.D k)]) ∧ Below W.heap.size W w') := fun W hW => by rw [← hv0]; exact rread_any k (h.below hW)
  have HRT := Lib.hid (fun W => right_any W k)
  have hdk : s.d = false ∧ okN k = true ∧ hasL x.D k = true := by rw [fnd_one] at hf; exact fv_zero hf
  obtain ⟨hd, hk, hh⟩ := hdk
  rw [hd] at HC3
  rw [hk] at HRT
  rw [hh] at HRD
  have HU : Hid (∀ W, Below w.heap.size w W → Calls Try.prog 56 #[.pointer (some ⟨q, 0, none⟩)] W fun e w' => e = .returned (.bool (decide (useN s 1 = 1))) ∧ ∃ x', Rm w w' q x x' ∧ x'.D = x.D ∧ Rl (useS s 1) x') := fun W hW => by
    refine (ruse_any (h.below hW) hr hd).mono ?_
    rintro e w' ⟨rfl, x', h1, h2, h3⟩
    exact ⟨rfl, x', (Rm.of_below h hW).trans h1, h2, h3⟩
  rw [decide_eq_false hu1] at HU
  clear h hr hf hd hk hh hv0 hn0 hu1
  go_enter Try.func20, Try.ntmps20
  go_wp2_with (first
    | (go_at_call 56; (with_reducible refine (HU.out _ HB1.out).mono ?_); rintro e w2 ⟨rfl, x2, h1, h2, h3⟩; have HX2 := Lib.hid h1; have HD2 := Lib.hid h2; have HL2 := Lib.hid h3; clear h1 h2 h3)
    | (go_at_call 50; (with_reducible refine (HRT.out _).mono ?_); rintro e w' ⟨rfl, rfl⟩)
    | (go_at_call 52; (with_reducible refine (HRD.out _ (Below.refl _ _)).mono ?_); rintro e w1 ⟨rfl, hb1⟩; have HB1 := Lib.hid hb1; have c3 := HC3.out w1 hb1; clear hb1))
  go_ret
  exact ⟨rfl, x2, HX2.out, by rw [HD2.out]; exact Alike.refl _, HL2.out⟩
set_option maxRecDepth 100000 in
set_option maxHeartbeats 2000000 in
theorem rdrop_on {w : World} {q : Nat} {x : RS} {s : S} (k : ByteArray) (h : RfR w q x) (hr : Rl s x) (hf : fnd s.d x.D k [k] = 0) (hu1 : useN s 1 = 1) :
    Calls Try.prog 20 #[.pointer (some ⟨q, 0, none⟩), .string k] w fun e w' => e = .returned (.int .i64 0) ∧ ∃ x', Rm w w' q x x' ∧ x'.D = delL x.D k ∧ Rl { useS s 1 with used := (usedL x'.D : Int) } x' := by
  have HR := Lib.hid h
  have HL := Lib.hid hr
  have HC3 : Hid (∀ W, Below w.heap.size w W → W.cell? ⟨q, 3, none⟩ = some (.bool s.d)) := fun W hW => by rw [← hr.dn]; exact (rblk_cells (h.below hW).blk).1.2.2.2
  obtain ⟨A0, c0, hv0⟩ := val_form k h
  obtain ⟨n0, hn0⟩ : ∃ n0, n0 = (bytL x.D k).length := ⟨_, rfl⟩
  rw [← hn0] at hv0
  have HRD : Hid (∀ W, Below w.heap.size w W → Calls Try.prog 52 #[.pointer (some ⟨q, 0, none⟩), .string k] W fun e w' => e = .returned (.tuple #[.slice A0 n0 c0, .bool (hasL x.D k)]) ∧ Below W.heap.size W w') := fun W hW => by rw [← hv0]; exact rread_any k (h.below hW)
  have HRT := Lib.hid (fun W => right_any W k)
  have hdk : s.d = false ∧ okN k = true ∧ hasL x.D k = true := by rw [fnd_one] at hf; exact fv_zero hf
  obtain ⟨hd, hk, hh⟩ := hdk
  rw [hd] at HC3
  rw [hk] at HRT
  rw [hh] at HRD
  have HU : Hid (∀ W, Below w.heap.size w W → Calls Try.prog 56 #[.pointer (some ⟨q, 0, none⟩)] W fun e w' => e = .returned (.bool (decide (useN s 1 = 1))) ∧ ∃ x', Rm w w' q x x' ∧ x'.D = x.D ∧ Rl (useS s 1) x') := fun W hW => by
    refine (ruse_any (h.below hW) hr hd).mono ?_
    rintro e w' ⟨rfl, x', h1, h2, h3⟩
    exact ⟨rfl, x', (Rm.of_below h hW).trans h1, h2, h3⟩
  rw [decide_eq_true hu1] at HU
  have HGO : Hid (∀ W x2, Rm w W q x x2 → x2.D = x.D → Rl (useS s 1) x2 → Calls Try.prog 59 #[.pointer (some ⟨q, 0, none⟩), .string k] W fun e w' => e = .returned (.tuple #[]) ∧ ∃ x', Rm w w' q x x' ∧ x'.D = delL x.D k ∧ Rl { useS s 1 with used := (usedL x'.D : Int) } x') := fun W x2 h1 h2 h3 => by
    refine (rgone_any k h1.st (by rw [h2]; exact hh)).mono ?_
    rintro e w' ⟨rfl, sv', hrs⟩
    exact ⟨rfl, _, h1.set (Below.refl _ _) hrs (fun i hi => by obtain ⟨a, n, c, e, _⟩ := hi; cases e), by show delL x2.D k = _; rw [h2], ⟨h3.dn, h3.rm, rfl, h3.lf, h3.left⟩⟩
  clear h hr hf hd hk hh hv0 hn0 hu1
  go_enter Try.func20, Try.ntmps20
  go_wp2_with (first
    | (go_at_call 59; (with_reducible refine (HGO.out _ _ HX2.out HD2.out HL2.out).mono ?_); rintro e w3 ⟨rfl, x3, h1, h2, h3⟩; have HX3 := Lib.hid h1; have HD3 := Lib.hid h2; have HL3 := Lib.hid h3; clear h1 h2 h3)
    | (go_at_call 56; (with_reducible refine (HU.out _ HB1.out).mono ?_); rintro e w2 ⟨rfl, x2, h1, h2, h3⟩; have HX2 := Lib.hid h1; have HD2 := Lib.hid h2; have HL2 := Lib.hid h3; clear h1 h2 h3)
    | (go_at_call 50; (with_reducible refine (HRT.out _).mono ?_); rintro e w' ⟨rfl, rfl⟩)
    | (go_at_call 52; (with_reducible refine (HRD.out _ (Below.refl _ _)).mono ?_); rintro e w1 ⟨rfl, hb1⟩; have HB1 := Lib.hid hb1; have c3 := HC3.out w1 hb1; clear hb1))
  go_ret
  exact ⟨rfl, x3, HX3.out, HD3.out, HL3.out⟩
set_option maxRecDepth 100000 in
set_option maxHeartbeats 2000000 in
theorem rrename_no {w : World} {q : Nat} {x : RS} {s : S} (k : ByteArray) (tn : ByteArray) (h : RfR w q x) (hr : Rl s x) (hb : fnd s.d x.D k [tn, k] ≠ 0) :
    Calls Try.prog 18 #[.pointer (some ⟨q, 0, none⟩), .string k, .string tn] w fun e w' => e = .returned (.int .i64 (fnd s.d x.D k [tn, k])) ∧ RTo w w' q x s x.D := by
  have HR := Lib.hid h
  have HL := Lib.hid hr
  have HC3 : Hid (∀ W, Below w.heap.size w W → W.cell? ⟨q, 3, none⟩ = some (.bool s.d)) := fun W hW => by rw [← hr.dn]; exact (rblk_cells (h.below hW).blk).1.2.2.2
  obtain ⟨A0, c0, hv0⟩ := val_form k h
  obtain ⟨n0, hn0⟩ : ∃ n0, n0 = (bytL x.D k).length := ⟨_, rfl⟩
  rw [← hn0] at hv0
  have HRD : Hid (∀ W, Below w.heap.size w W → Calls Try.prog 52 #[.pointer (some ⟨q, 0, none⟩), .string k] W fun e w' => e = .returned (.tuple #[.slice A0 n0 c0, .bool (hasL x.D k)]) ∧ Below W.heap.size W w') := fun W hW => by rw [← hv0]; exact rread_any k (h.below hW)
  have HRT := Lib.hid (fun W => right_any W k)
  have HRT2 := Lib.hid (fun W => right_any W tn)
  rw [fnd_two] at hb ⊢
  obtain ⟨d, hd⟩ : ∃ d, d = s.d := ⟨_, rfl⟩
  obtain ⟨r, hrr⟩ : ∃ r, r = okN k := ⟨_, rfl⟩
  obtain ⟨hh, hhh⟩ : ∃ hh, hh = hasL x.D k := ⟨_, rfl⟩
  rw [← hd] at HC3 hb ⊢
  rw [← hrr] at hb HRT ⊢
  rw [← hhh] at hb HRD ⊢
  obtain ⟨r2, hr2⟩ : ∃ r2, r2 = okN tn := ⟨_, rfl⟩
  rw [← hr2] at hb HRT2 ⊢
  clear h hr hd hrr hhh hv0 hn0 hr2
  cases d <;> cases r <;> cases r2 <;> cases hh
  all_goals
    first
    | exact absurd rfl hb
    | (clear hb
       go_enter Try.func18, Try.ntmps18
       go_wp2_with (first
        | (go_at_call 50; (with_reducible refine (HRT2.out _).mono ?_); rintro e w' ⟨rfl, rfl⟩)
        | (go_at_call 50; (with_reducible refine (HRT.out _).mono ?_); rintro e w' ⟨rfl, rfl⟩)
        | (go_at_call 52; (with_reducible refine (HRD.out _ (Below.refl _ _)).mono ?_); rintro e w1 ⟨rfl, hb1⟩; have HB1 := Lib.hid hb1; have c3 := HC3.out w1 hb1; clear hb1))
       go_ret
       exact ⟨rfl, RTo.same HR.out HL.out HB1.out⟩)
set_option maxRecDepth 100000 in
set_option maxHeartbeats 2000000 in
theorem rrename_down {w : World} {q : Nat} {x : RS} {s : S} (k : ByteArray) (tn : ByteArray) (h : RfR w q x) (hr : Rl s x) (hf : fnd s.d x.D k [tn, k] = 0) (hu1 : useN s 1 ≠ 1) :
    Calls Try.prog 18 #[.pointer (some ⟨q, 0, none⟩), .string k, .string tn] w fun e w' => e = .returned (.int .i64 14) ∧ RTo w w' q x (useS s 1) x.D := by
  have HR := Lib.hid h
  have HL := Lib.hid hr
  have HC3 : Hid (∀ W, Below w.heap.size w W → W.cell? ⟨q, 3, none⟩ = some (.bool s.d)) := fun W hW => by rw [← hr.dn]; exact (rblk_cells (h.below hW).blk).1.2.2.2
  obtain ⟨A0, c0, hv0⟩ := val_form k h
  obtain ⟨n0, hn0⟩ : ∃ n0, n0 = (bytL x.D k).length := ⟨_, rfl⟩
  rw [← hn0] at hv0
  have HRD : Hid (∀ W, Below w.heap.size w W → Calls Try.prog 52 #[.pointer (some ⟨q, 0, none⟩), .string k] W fun e w' => e = .returned (.tuple #[.slice A0 n0 c0, .bool (hasL x.D k)]) ∧ Below W.heap.size W w') := fun W hW => by rw [← hv0]; exact rread_any k (h.below hW)
  have HRT := Lib.hid (fun W => right_any W k)
  have hdk : s.d = false ∧ (okN k && okN tn) = true ∧ hasL x.D k = true := by rw [fnd_two] at hf; exact fv_zero hf
  obtain ⟨hd, hk, hh⟩ := hdk
  have HRT2 := Lib.hid (fun W => right_any W tn)
  rw [hd] at HC3
  rw [Bool.and_eq_true] at hk
  rw [hk.1] at HRT
  rw [hk.2] at HRT2
  rw [hh] at HRD
  have HU : Hid (∀ W, Below w.heap.size w W → Calls Try.prog 56 #[.pointer (some ⟨q, 0, none⟩)] W fun e w' => e = .returned (.bool (decide (useN s 1 = 1))) ∧ ∃ x', Rm w w' q x x' ∧ x'.D = x.D ∧ Rl (useS s 1) x') := fun W hW => by
    refine (ruse_any (h.below hW) hr hd).mono ?_
    rintro e w' ⟨rfl, x', h1, h2, h3⟩
    exact ⟨rfl, x', (Rm.of_below h hW).trans h1, h2, h3⟩
  rw [decide_eq_false hu1] at HU
  clear h hr hf hd hk hh hv0 hn0 hu1
  go_enter Try.func18, Try.ntmps18
  go_wp2_with (first
    | (go_at_call 56; (with_reducible refine (HU.out _ HB1.out).mono ?_); rintro e w2 ⟨rfl, x2, h1, h2, h3⟩; have HX2 := Lib.hid h1; have HD2 := Lib.hid h2; have HL2 := Lib.hid h3; clear h1 h2 h3)
    | (go_at_call 50; (with_reducible refine (HRT2.out _).mono ?_); rintro e w' ⟨rfl, rfl⟩)
    | (go_at_call 50; (with_reducible refine (HRT.out _).mono ?_); rintro e w' ⟨rfl, rfl⟩)
    | (go_at_call 52; (with_reducible refine (HRD.out _ (Below.refl _ _)).mono ?_); rintro e w1 ⟨rfl, hb1⟩; have HB1 := Lib.hid hb1; have c3 := HC3.out w1 hb1; clear hb1))
  go_ret
  exact ⟨rfl, x2, HX2.out, by rw [HD2.out]; exact Alike.refl _, HL2.out⟩
set_option maxRecDepth 100000 in
set_option maxHeartbeats 2000000 in
theorem rrename_on {w : World} {q : Nat} {x : RS} {s : S} (k tn : ByteArray) (h : RfR w q x) (hr : Rl s x) (hf : fnd s.d x.D k [tn, k] = 0) (hu1 : useN s 1 = 1) (hfw : x.D.length + 1 ≤ 1000) :
    Calls Try.prog 18 #[.pointer (some ⟨q, 0, none⟩), .string k, .string tn] w fun e w' => e = .returned (.int .i64 0) ∧ ∃ x', Rm w w' q x x' ∧ Alike (putL (delL x.D k) tn (dv, bytL x.D k)) x'.D ∧ Rl { useS s 1 with used := (usedL x'.D : Int) } x' := by
  have HR := Lib.hid h
  have HL := Lib.hid hr
  have HC3 : Hid (∀ W, Below w.heap.size w W → W.cell? ⟨q, 3, none⟩ = some (.bool s.d)) := fun W hW => by rw [← hr.dn]; exact (rblk_cells (h.below hW).blk).1.2.2.2
  obtain ⟨A0, c0, hv0⟩ := val_form k h
  obtain ⟨n0, hn0⟩ : ∃ n0, n0 = (bytL x.D k).length := ⟨_, rfl⟩
  rw [← hn0] at hv0
  have HRD : Hid (∀ W, Below w.heap.size w W → Calls Try.prog 52 #[.pointer (some ⟨q, 0, none⟩), .string k] W fun e w' => e = .returned (.tuple #[.slice A0 n0 c0, .bool (hasL x.D k)]) ∧ Below W.heap.size W w') := fun W hW => by rw [← hv0]; exact rread_any k (h.below hW)
  have HRT := Lib.hid (fun W => right_any W k)
  have hdk : s.d = false ∧ (okN k && okN tn) = true ∧ hasL x.D k = true := by rw [fnd_two] at hf; exact fv_zero hf
  obtain ⟨hd, hk, hh⟩ := hdk
  have HRT2 := Lib.hid (fun W => right_any W tn)
  rw [hd] at HC3
  rw [Bool.and_eq_true] at hk
  rw [hk.1] at HRT
  rw [hk.2] at HRT2
  rw [hh] at HRD
  have HU : Hid (∀ W, Below w.heap.size w W → Calls Try.prog 56 #[.pointer (some ⟨q, 0, none⟩)] W fun e w' => e = .returned (.bool (decide (useN s 1 = 1))) ∧ ∃ x', Rm w w' q x x' ∧ x'.D = x.D ∧ Rl (useS s 1) x') := fun W hW => by
    refine (ruse_any (h.below hW) hr hd).mono ?_
    rintro e w' ⟨rfl, x', h1, h2, h3⟩
    exact ⟨rfl, x', (Rm.of_below h hW).trans h1, h2, h3⟩
  rw [decide_eq_true hu1] at HU
  have hvb := val_bat k h
  rw [hv0] at hvb
  have HGO : Hid (∀ W x2, Rm w W q x x2 → x2.D = x.D → Rl (useS s 1) x2 → Calls Try.prog 59 #[.pointer (some ⟨q, 0, none⟩), .string k] W fun e w' => e = .returned (.tuple #[]) ∧ ∃ x', Rm w w' q x x' ∧ x'.D = delL x.D k ∧ Rl { useS s 1 with used := (usedL x'.D : Int) } x' ∧ BAt w' (.slice A0 n0 c0) (bytL x.D k)) := fun W x2 h1 h2 h3 => by
    refine (rgone_any k h1.st (by rw [h2]; exact hh)).mono ?_
    rintro e w' ⟨rfl, sv', hrs⟩
    have hm := h1.set (Below.refl _ _) hrs (fun i hi => by obtain ⟨a, n, c, e, _⟩ := hi; cases e)
    exact ⟨rfl, _, hm, by show delL x2.D k = _; rw [h2], ⟨h3.dn, h3.rm, rfl, h3.lf, h3.left⟩, bat_kept hvb.1 hm.off (fun i hi e => (hvb.2 i hi).2 e)⟩
  have HST : Hid (∀ W x3, Rm w W q x x3 → x3.D = delL x.D k → Rl { useS s 1 with used := (usedL x3.D : Int) } x3 → BAt W (.slice A0 n0 c0) (bytL x.D k) → Calls Try.prog 53 #[.pointer (some ⟨q, 0, none⟩), .string tn, .slice A0 n0 c0] W fun e w' => e = .returned (.tuple #[]) ∧ ∃ x', Rm w w' q x x' ∧ Alike (putL (delL x.D k) tn (dv, bytL x.D k)) x'.D ∧ Rl { useS s 1 with used := (usedL x'.D : Int) } x') := fun W x3 h1 h2 h3 h4 => by
    have hl3 : x3.D.length ≤ x.D.length := by rw [h2]; exact (del_sub x.D k).length_le
    refine (rset_any tn h1.st h4 (fun hi => (hvb.2 q hi).2 rfl) (by omega)).mono ?_
    rintro e w' ⟨rfl, sv', h5, h6, h7⟩
    refine ⟨rfl, _, ⟨h5, h1.off.trans h6 (fun _ e => .inl e), fun i hi => ?_⟩, ?_, ⟨h3.dn, h3.rm, rfl, h3.lf, h3.left⟩⟩
    · rcases h7 i hi with h8 | h8 | h8
      · exact h1.new i h8
      · exact .inr (Nat.le_trans h1.off.1.size h8)
      · exact .inl (hvb.2 i h8).1
    · show Alike _ (insS x3.D tn (.slice A0 n0 c0, bytL x.D k))
      rw [← h2]
      exact ins_alike tn dv _ _ h1.st.srt
  clear h hr hf hd hk hh hv0 hn0 hu1 hvb hfw
  go_enter Try.func18, Try.ntmps18
  go_wp2_with (first
    | (go_at_call 53; (with_reducible refine (HST.out _ _ HX3.out HD3.out HL3.out HB3.out).mono ?_); rintro e w4 ⟨rfl, x4, h1, h2, h3⟩; have HX4 := Lib.hid h1; have HD4 := Lib.hid h2; have HL4 := Lib.hid h3; clear h1 h2 h3)
    | (go_at_call 59; (with_reducible refine (HGO.out _ _ HX2.out HD2.out HL2.out).mono ?_); rintro e w3 ⟨rfl, x3, h1, h2, h3, h4⟩; have HX3 := Lib.hid h1; have HD3 := Lib.hid h2; have HL3 := Lib.hid h3; have HB3 := Lib.hid h4; clear h1 h2 h3 h4)
    | (go_at_call 56; (with_reducible refine (HU.out _ HB1.out).mono ?_); rintro e w2 ⟨rfl, x2, h1, h2, h3⟩; have HX2 := Lib.hid h1; have HD2 := Lib.hid h2; have HL2 := Lib.hid h3; clear h1 h2 h3)
    | (go_at_call 50; (with_reducible refine (HRT2.out _).mono ?_); rintro e w' ⟨rfl, rfl⟩)
    | (go_at_call 50; (with_reducible refine (HRT.out _).mono ?_); rintro e w' ⟨rfl, rfl⟩)
    | (go_at_call 52; (with_reducible refine (HRD.out _ (Below.refl _ _)).mono ?_); rintro e w1 ⟨rfl, hb1⟩; have HB1 := Lib.hid hb1; have c3 := HC3.out w1 hb1; clear hb1))
  go_ret
  exact ⟨rfl, x4, HX4.out, HD4.out, HL4.out⟩
set_option maxRecDepth 100000 in
set_option maxHeartbeats 2000000 in
theorem rcut_no {w : World} {q : Nat} {x : RS} {s : S} (k : ByteArray) (size : Int) (h : RfR w q x) (hr : Rl s x) (hb : fnd s.d x.D k [k] ≠ 0) :
    Calls Try.prog 16 #[.pointer (some ⟨q, 0, none⟩), .string k, .int .i64 size] w fun e w' => e = .returned (.int .i64 (fnd s.d x.D k [k])) ∧ RTo w w' q x s x.D := by
  have HR := Lib.hid h
  have HL := Lib.hid hr
  have HC3 : Hid (∀ W, Below w.heap.size w W → W.cell? ⟨q, 3, none⟩ = some (.bool s.d)) := fun W hW => by rw [← hr.dn]; exact (rblk_cells (h.below hW).blk).1.2.2.2
  obtain ⟨A0, c0, hv0⟩ := val_form k h
  obtain ⟨n0, hn0⟩ : ∃ n0, n0 = (bytL x.D k).length := ⟨_, rfl⟩
  rw [← hn0] at hv0
  have HRD : Hid (∀ W, Below w.heap.size w W → Calls Try.prog 52 #[.pointer (some ⟨q, 0, none⟩), .string k] W fun e w' => e = .returned (.tuple #[.slice A0 n0 c0, .bool (hasL x.D k)]) ∧ Below W.heap.size W w') := fun W hW => by rw [← hv0]; exact rread_any k (h.below hW)
  have HRT := Lib.hid (fun W => right_any W k)
  rw [fnd_one] at hb ⊢
  obtain ⟨d, hd⟩ : ∃ d, d = s.d := ⟨_, rfl⟩
  obtain ⟨r, hrr⟩ : ∃ r, r = okN k := ⟨_, rfl⟩
  obtain ⟨hh, hhh⟩ : ∃ hh, hh = hasL x.D k := ⟨_, rfl⟩
  rw [← hd] at HC3 hb ⊢
  rw [← hrr] at hb HRT ⊢
  rw [← hhh] at hb HRD ⊢
  clear h hr hd hrr hhh hv0 hn0
  cases d <;> cases r <;> cases hh
  all_goals
    first
    | exact absurd rfl hb
    | (clear hb
       go_enter Try.func16, Try.ntmps16
       go_wp2_with (first
        | (go_at_call 50; (with_reducible refine (HRT.out _).mono ?_); rintro e w' ⟨rfl, rfl⟩)
        | (go_at_call 52; (with_reducible refine (HRD.out _ (Below.refl _ _)).mono ?_); rintro e w1 ⟨rfl, hb1⟩; have HB1 := Lib.hid hb1; have c3 := HC3.out w1 hb1; clear hb1))
       go_ret
       exact ⟨rfl, RTo.same HR.out HL.out HB1.out⟩)
set_option maxRecDepth 100000 in
set_option maxHeartbeats 2000000 in
theorem rcut_arg {w : World} {q : Nat} {x : RS} {s : S} (k : ByteArray) (size : Int) (h : RfR w q x) (hr : Rl s x) (hf : fnd s.d x.D k [k] = 0) (hz : size < 0 ∨ ((bytL x.D k).length : Int) < size) :
    Calls Try.prog 16 #[.pointer (some ⟨q, 0, none⟩), .string k, .int .i64 size] w fun e w' => e = .returned (.int .i64 1) ∧ RTo w w' q x s x.D := by
  have HR := Lib.hid h
  have HL := Lib.hid hr
  have HC3 : Hid (∀ W, Below w.heap.size w W → W.cell? ⟨q, 3, none⟩ = some (.bool s.d)) := fun W hW => by rw [← hr.dn]; exact (rblk_cells (h.below hW).blk).1.2.2.2
  obtain ⟨A0, c0, hv0⟩ := val_form k h
  obtain ⟨n0, hn0⟩ : ∃ n0, n0 = (bytL x.D k).length := ⟨_, rfl⟩
  rw [← hn0] at hv0
  have HRD : Hid (∀ W, Below w.heap.size w W → Calls Try.prog 52 #[.pointer (some ⟨q, 0, none⟩), .string k] W fun e w' => e = .returned (.tuple #[.slice A0 n0 c0, .bool (hasL x.D k)]) ∧ Below W.heap.size W w') := fun W hW => by rw [← hv0]; exact rread_any k (h.below hW)
  have HRT := Lib.hid (fun W => right_any W k)
  have hdk : s.d = false ∧ okN k = true ∧ hasL x.D k = true := by rw [fnd_one] at hf; exact fv_zero hf
  obtain ⟨hd, hk, hh⟩ := hdk
  rw [hd] at HC3
  rw [hk] at HRT
  rw [hh] at HRD
  rw [← hn0] at hz
  clear h hr hf hd hk hh hv0 hn0
  rcases hz with hz | hz
  · go_enter Try.func16, Try.ntmps16
    go_wp2_with (first
    | (go_at_call 50; (with_reducible refine (HRT.out _).mono ?_); rintro e w' ⟨rfl, rfl⟩)
    | (go_at_call 52; (with_reducible refine (HRD.out _ (Below.refl _ _)).mono ?_); rintro e w1 ⟨rfl, hb1⟩; have HB1 := Lib.hid hb1; have c3 := HC3.out w1 hb1; clear hb1))
    go_ret
    exact ⟨rfl, RTo.same HR.out HL.out HB1.out⟩
  · have hz0 : ¬ size < 0 := by omega
    go_enter Try.func16, Try.ntmps16
    go_wp2_with (first
    | (go_at_call 50; (with_reducible refine (HRT.out _).mono ?_); rintro e w' ⟨rfl, rfl⟩)
    | (go_at_call 52; (with_reducible refine (HRD.out _ (Below.refl _ _)).mono ?_); rintro e w1 ⟨rfl, hb1⟩; have HB1 := Lib.hid hb1; have c3 := HC3.out w1 hb1; clear hb1))
    go_ret
    exact ⟨rfl, RTo.same HR.out HL.out HB1.out⟩
set_option maxRecDepth 100000 in
set_option maxHeartbeats 2000000 in
theorem rcut_down {w : World} {q : Nat} {x : RS} {s : S} (k : ByteArray) (size : Int) (h : RfR w q x) (hr : Rl s x) (hf : fnd s.d x.D k [k] = 0) (hz : ¬ (size < 0 ∨ ((bytL x.D k).length : Int) < size)) (hu1 : useN s 1 ≠ 1) :
    Calls Try.prog 16 #[.pointer (some ⟨q, 0, none⟩), .string k, .int .i64 size] w fun e w' => e = .returned (.int .i64 14) ∧ RTo w w' q x (useS s 1) x.D := by
  have HR := Lib.hid h
  have HL := Lib.hid hr
  have HC3 : Hid (∀ W, Below w.heap.size w W → W.cell? ⟨q, 3, none⟩ = some (.bool s.d)) := fun W hW => by rw [← hr.dn]; exact (rblk_cells (h.below hW).blk).1.2.2.2
  obtain ⟨A0, c0, hv0⟩ := val_form k h
  obtain ⟨n0, hn0⟩ : ∃ n0, n0 = (bytL x.D k).length := ⟨_, rfl⟩
  rw [← hn0] at hv0
  have HRD : Hid (∀ W, Below w.heap.size w W → Calls Try.prog 52 #[.pointer (some ⟨q, 0, none⟩), .string k] W fun e w' => e = .returned (.tuple #[.slice A0 n0 c0, .bool (hasL x.D k)]) ∧ Below W.heap.size W w') := fun W hW => by rw [← hv0]; exact rread_any k (h.below hW)
  have HRT := Lib.hid (fun W => right_any W k)
  have hdk : s.d = false ∧ okN k = true ∧ hasL x.D k = true := by rw [fnd_one] at hf; exact fv_zero hf
  obtain ⟨hd, hk, hh⟩ := hdk
  rw [hd] at HC3
  rw [hk] at HRT
  rw [hh] at HRD
  have HU : Hid (∀ W, Below w.heap.size w W → Calls Try.prog 56 #[.pointer (some ⟨q, 0, none⟩)] W fun e w' => e = .returned (.bool (decide (useN s 1 = 1))) ∧ ∃ x', Rm w w' q x x' ∧ x'.D = x.D ∧ Rl (useS s 1) x') := fun W hW => by
    refine (ruse_any (h.below hW) hr hd).mono ?_
    rintro e w' ⟨rfl, x', h1, h2, h3⟩
    exact ⟨rfl, x', (Rm.of_below h hW).trans h1, h2, h3⟩
  rw [decide_eq_false hu1] at HU
  have hsz : ¬ size < 0 ∧ ¬ (n0 : Int) < size := by rw [hn0]; omega
  obtain ⟨z1, z2⟩ := hsz

  clear h hr hf hd hk hh hv0 hn0 hu1
  go_enter Try.func16, Try.ntmps16
  go_wp2_with (first
    | (go_at_call 56; (with_reducible refine (HU.out _ HB1.out).mono ?_); rintro e w2 ⟨rfl, x2, h1, h2, h3⟩; have HX2 := Lib.hid h1; have HD2 := Lib.hid h2; have HL2 := Lib.hid h3; clear h1 h2 h3)
    | (go_at_call 50; (with_reducible refine (HRT.out _).mono ?_); rintro e w' ⟨rfl, rfl⟩)
    | (go_at_call 52; (with_reducible refine (HRD.out _ (Below.refl _ _)).mono ?_); rintro e w1 ⟨rfl, hb1⟩; have HB1 := Lib.hid hb1; have c3 := HC3.out w1 hb1; clear hb1))
  go_ret
  exact ⟨rfl, x2, HX2.out, by rw [HD2.out]; exact Alike.refl _, HL2.out⟩
end Go.Proofs.Ytffeinbbgfogoaa.Sr
