/-
  The reference's Cut that cuts, and its Write. Conditions: at most 997 files, 100000 bytes; a piece of at most a thousand.
-/
import Derived.Test.YtffeinbbgfogoaaSRcrd
namespace Go.Proofs.Ytffeinbbgfogoaa.Sr
open Go.RowKit Fr

theorem app_new {w : World} {u : Value} {l : List Int} {m : Nat} (h : BAt w u l) (hl : l.length = m) (hm : m ≤ 1000000) :
    ∃ A c w', (Builtin.append_ #[32, 32] 32 #[.slice (some ⟨w.heap.size, 0, none⟩) 0 0, u]).run Try.prog (w.alloc (.cells #[] 5)) = .ok (.slice A m c) w' ∧ w'.ownsRow w.heap.size 5 1 (.slice A m c) l.length (bv l) ∧ Below w.heap.size w w' := by
  have hb : Below w.heap.size w (w.alloc (.cells #[] 5)) := (Below.refl _ _).alloc (Nat.le_refl _) _
  obtain ⟨A, c, w', h1, h2, h3⟩ := app_any (w.alloc (.cells #[] 5)) w.heap.size (.slice (some ⟨w.heap.size, 0, none⟩) 0 0) [] (World.ownsRow_made w #[] 0 (Nat.le_refl _) (Nat.zero_le _) rfl) u l (h.kept hb) (by simp; omega) (by simp)
  rw [List.nil_append] at h2
  rw [show ([] : List Int).length + l.length = m by simp [hl]] at h1 h2
  exact ⟨A, c, w', h1, h2, grow_b7 w.heap.size hb (Nat.le_refl _) h3⟩
theorem set_rl {w W : World} {q : Nat} {x x2 : RS} {s : S} {k : ByteArray} {w2 : World} {A : Option Addr} {m c : Nat} {l : List Int} (h1 : Rm w w2 q x x2) (h2 : x2.D = x.D) (h3 : Rl s x2) (hb : Below w2.heap.size w2 W) (hv : BAt W (.slice A m c) l) (hn : ∀ i, vb (.slice A m c) i → w2.heap.size ≤ i) (hf : x.D.length + 1 ≤ 1000) :
    Calls Try.prog 53 #[.pointer (some ⟨q, 0, none⟩), .string k, .slice A m c] W fun e w' => e = .returned (.tuple #[]) ∧ ∃ x', Rm w w' q x x' ∧ Alike (putL x.D k (dv, l)) x'.D ∧ x'.D.length ≤ x.D.length + 1 ∧ Rl { s with used := (usedL x'.D : Int) } x' := by
  have hq := h1.st.lt (.inl rfl)
  refine (rset_any k (h1.st.below hb) hv (fun hi => by have := hn q hi; omega) (by rw [h2]; exact hf)).mono ?_
  rintro e w' ⟨rfl, sv', hrs⟩
  refine ⟨rfl, _, h1.set hb hrs (fun i hi => .inr (hn i hi)), ?_, ?_, ⟨h3.dn, h3.rm, rfl, h3.lf, h3.left⟩⟩
  · show Alike _ (insS x2.D k (.slice A m c, l))
    rw [← h2]
    exact ins_alike k dv _ _ h1.st.srt
  · show (insS x2.D k _).length ≤ _
    rw [← h2]
    exact ins_len _ _ _
theorem own_vb {w : World} {base : Nat} {A : Option Addr} {m c : Nat} {n : Nat} {xs : List Value} {e : TypeId} (h : w.ownsRow base e 1 (.slice A m c) n xs) : ∀ i, vb (.slice A m c) i → base ≤ i := fun i hi => by
  obtain ⟨a, n', c', e', _, rfl⟩ := hi
  cases e'
  exact (h.lt a.block rfl).1
set_option maxRecDepth 100000 in
set_option maxHeartbeats 2000000 in
theorem rcut_on {w : World} {q : Nat} {x : RS} {s : S} (k : ByteArray) (m : Nat) (h : RfR w q x) (hr : Rl s x) (hf : fnd s.d x.D k [k] = 0) (hz : m ≤ (bytL x.D k).length) (hu1 : useN s 1 = 1) (hu : usedL x.D ≤ 100000) (hfw : x.D.length + 1 ≤ 1000) :
    Calls Try.prog 16 #[.pointer (some ⟨q, 0, none⟩), .string k, .int .i64 (m : Int)] w fun e w' => e = .returned (.int .i64 0) ∧ ∃ x', Rm w w' q x x' ∧ Alike (putL x.D k (dv, (bytL x.D k).take m)) x'.D ∧ x'.D.length ≤ x.D.length + 1 ∧ Rl { useS s 1 with used := (usedL x'.D : Int) } x' := by
  have HR := Lib.hid h
  have HL := Lib.hid hr
  have HC3 : Hid (∀ W, Below w.heap.size w W → W.cell? ⟨q, 3, none⟩ = some (.bool s.d)) := fun W hW => by rw [← hr.dn]; exact (rblk_cells (h.below hW).blk).1.2.2.2
  obtain ⟨A0, c0, hv0⟩ := val_form k h
  obtain ⟨n0, hn0⟩ : ∃ n0, n0 = (bytL x.D k).length := ⟨_, rfl⟩
  rw [← hn0] at hv0
  have HRD : Hid (∀ W, Below w.heap.size w W → Calls Try.prog 52 #[.pointer (some ⟨q, 0, none⟩), .string k] W fun e w' => e = .returned (.tuple #[.slice A0 n0 c0, .bool (hasL x.D k)]) ∧ Below W.heap.size W w') := fun W hW => by rw [← hv0]; exact rread_any k (h.below hW)
  have HRT := Lib.hid (fun W => right_any W k)
  have hdk : s.d = false ∧ okN k = true ∧ hasL x.D k = true := by rw [fnd_one] at hf; exact fv_zero hf
  obtain ⟨hd, hk, hh⟩ := hdk
  rw [hd] at HC3
  rw [hk] at HRT
  rw [hh] at HRD
  have HU : Hid (∀ W, Below w.heap.size w W → Calls Try.prog 56 #[.pointer (some ⟨q, 0, none⟩)] W fun e w' => e = .returned (.bool (decide (useN s 1 = 1))) ∧ ∃ x', Rm w w' q x x' ∧ x'.D = x.D ∧ Rl (useS s 1) x') := fun W hW => by
    refine (ruse_any (h.below hW) hr hd).mono ?_
    rintro e w' ⟨rfl, x', h1, h2, h3⟩
    exact ⟨rfl, x', (Rm.of_below h hW).trans h1, h2, h3⟩
  rw [decide_eq_true hu1] at HU
  have hvb := val_bat k h
  rw [hv0] at hvb
  have hbl : (bytL x.D k).length ≤ 100000 := Nat.le_trans (byt_used x.D k) hu
  have hc0 := hvb.1.len.2
  have hsl := slice_to A0 n0 c0 m (by omega)
  have HFW := Lib.hid hfw
  have HBT : Hid (∀ W x2, Rm w W q x x2 → BAt W (.slice A0 m c0) ((bytL x.D k).take m)) := fun W x2 h1 => ((bat_kept hvb.1 h1.off (fun i hi e => (hvb.2 i hi).2 e)).take m (by omega)).1
  have HLN : Hid (((bytL x.D k).take m).length = m) := by show _ = _; rw [List.length_take]; omega
  have hm2 : m ≤ 1000000 := by omega
  have z1 : ¬ (m : Int) < 0 := by omega
  have z2 : ¬ (n0 : Int) < (m : Int) := by omega
  clear h hr hf hd hk hh hv0 hn0 hu1 hvb hbl hc0 hz hfw hu
  go_enter Try.func16, Try.ntmps16
  go_wp2_with (first
    | (go_at_call 53; (with_reducible refine (set_rl HX2.out HD2.out HL2.out HB9.out (BAt.of_own HO9.out) (own_vb HO9.out) HFW.out).mono ?_); rintro e w4 ⟨rfl, x4, h1, h2, h3, h4⟩; have HX4 := Lib.hid h1; have HD4 := Lib.hid h2; have HN4 := Lib.hid h3; have HL4 := Lib.hid h4; clear h1 h2 h3 h4)
    | (at_builtin; obtain ⟨A9, c9, w9, hr9, ho9, hb9⟩ := app_new (HBT.out w2 x2 HX2.out) HLN.out hm2; refine Lib.wpList_append_run _ rfl _ _ 32 32 rfl _ _ rfl rfl _ _ hr9 ?_; have HO9 := Lib.hid ho9; have HB9 := Lib.hid hb9; clear hr9 ho9 hb9)
    | (go_at_call 56; (with_reducible refine (HU.out _ HB1.out).mono ?_); rintro e w2 ⟨rfl, x2, h1, h2, h3⟩; have HX2 := Lib.hid h1; have HD2 := Lib.hid h2; have HL2 := Lib.hid h3; clear h1 h2 h3)
    | (go_at_call 50; (with_reducible refine (HRT.out _).mono ?_); rintro e w' ⟨rfl, rfl⟩)
    | (go_at_call 52; (with_reducible refine (HRD.out _ (Below.refl _ _)).mono ?_); rintro e w1 ⟨rfl, hb1⟩; have HB1 := Lib.hid hb1; have c3 := HC3.out w1 hb1; clear hb1))
  go_ret
  exact ⟨rfl, x4, HX4.out, HD4.out, HN4.out, HL4.out⟩
theorem useS_used (s : S) (u n : Int) : useS { s with used := u } n = { useS s n with used := u } := by
  unfold useS
  by_cases ha : s.a = true <;> by_cases hl : s.n < n <;> simp [ha, hl]
theorem use_split {s : S} (h : s.a = true → 0 ≤ s.n ∧ s.n ≤ 9223372036854775807) (h1 : useN s 1 = 1) (n : Nat) : useS (useS s 1) n = useS s (1 + (n : Int)) ∧ useN s (1 + (n : Int)) = 1 + useN (useS s 1) n := by
  by_cases ha : s.a = true
  · have hl := h ha
    have h2 : ¬ s.n < 1 := by
      intro hlt
      unfold useN at h1
      rw [if_pos ⟨ha, hlt⟩] at h1
      omega
    have e1 : useS s 1 = { s with n := s.n - 1 } := by unfold useS; rw [if_pos ha, if_neg h2]
    rw [e1]
    unfold useS useN
    by_cases h3 : s.n < 1 + (n : Int)
    · constructor
      · rw [if_pos ha, if_pos ha, if_pos (show ({ s with n := s.n - 1 } : S).n < (n : Int) by show s.n - 1 < _; omega), if_pos h3]
      · rw [if_pos ⟨ha, h3⟩, if_pos (show ({ s with n := s.n - 1 } : S).a = true ∧ ({ s with n := s.n - 1 } : S).n < (n : Int) from ⟨ha, by show s.n - 1 < _; omega⟩)]
        show s.n = 1 + (s.n - 1)
        omega
    · constructor
      · rw [if_pos ha, if_pos ha, if_neg (show ¬ ({ s with n := s.n - 1 } : S).n < (n : Int) by show ¬ s.n - 1 < _; omega), if_neg h3]
        show ({ s with n := s.n - 1 - n } : S) = { s with n := s.n - (1 + n) }
        congr 1
        omega
      · rw [if_neg (fun h => h3 h.2), if_neg (show ¬ (({ s with n := s.n - 1 } : S).a = true ∧ ({ s with n := s.n - 1 } : S).n < (n : Int)) from fun h => h3 (by have : s.n - 1 < (n : Int) := h.2; omega))]
  · have e1 : useS s 1 = s := by unfold useS; rw [if_neg ha]
    rw [e1]
    unfold useS useN
    rw [if_neg ha, if_neg ha, if_neg (fun h => ha h.1), if_neg (fun h => ha h.1)]
    exact ⟨rfl, rfl⟩
set_option maxRecDepth 100000 in
set_option maxHeartbeats 2000000 in
theorem rwri_early {w : World} {q : Nat} {x : RS} {s : S} (k : ByteArray) (A : Option Addr) (n c : Nat) (h : RfR w q x) (hr : Rl s x) (hb : rdy s.d [k] ≠ 0) :
    Calls Try.prog 14 #[.pointer (some ⟨q, 0, none⟩), .string k, .slice A n c] w fun e w' => e = .returned (.int .i64 (rdy s.d [k])) ∧ RTo w w' q x s x.D := by
  have HR := Lib.hid h
  have HL := Lib.hid hr
  have HC3 : Hid (∀ W, Below w.heap.size w W → W.cell? ⟨q, 3, none⟩ = some (.bool s.d)) := fun W hW => by rw [← hr.dn]; exact (rblk_cells (h.below hW).blk).1.2.2.2
  obtain ⟨A0, c0, hv0⟩ := val_form k h
  obtain ⟨n0, hn0⟩ : ∃ n0, n0 = (bytL x.D k).length := ⟨_, rfl⟩
  rw [← hn0] at hv0
  have HRD : Hid (∀ W, Below w.heap.size w W → Calls Try.prog 52 #[.pointer (some ⟨q, 0, none⟩), .string k] W fun e w' => e = .returned (.tuple #[.slice A0 n0 c0, .bool (hasL x.D k)]) ∧ Below W.heap.size W w') := fun W hW => by rw [← hv0]; exact rread_any k (h.below hW)
  have HRT := Lib.hid (fun W => right_any W k)
  rw [rdy_one] at hb ⊢
  obtain ⟨d, hd⟩ : ∃ d, d = s.d := ⟨_, rfl⟩
  obtain ⟨r, hrr⟩ : ∃ r, r = okN k := ⟨_, rfl⟩
  rw [← hd] at HC3 hb ⊢
  rw [← hrr] at hb HRT ⊢
  obtain ⟨hh, hhh⟩ : ∃ hh, hh = hasL x.D k := ⟨_, rfl⟩
  rw [← hhh] at HRD
  clear h hr hd hrr hv0 hn0 hhh
  cases d <;> cases r
  all_goals
    first
    | exact absurd rfl hb
    | (clear hb
       go_enter Try.func14, Try.ntmps14
       go_wp2_with (first
        | (go_at_call 50; (with_reducible refine (HRT.out _).mono ?_); rintro e w' ⟨rfl, rfl⟩)
        | (go_at_call 52; (with_reducible refine (HRD.out _ (Below.refl _ _)).mono ?_); rintro e w1 ⟨rfl, hb1⟩; have HB1 := Lib.hid hb1; have c3 := HC3.out w1 hb1; clear hb1))
       go_ret
       exact ⟨rfl, RTo.same HR.out HL.out HB1.out⟩)
set_option maxRecDepth 100000 in
set_option maxHeartbeats 2000000 in
theorem rwri_full {w : World} {q : Nat} {x : RS} {s : S} (k : ByteArray) {A : Option Addr} {n c : Nat} (h : RfR w q x) (hr : Rl s x) (hd : s.d = false) (hk : okN k = true) (hu : usedL x.D ≤ 100000) (hn : n ≤ 1000) (hrm : 0 ≤ s.room ∧ s.room ≤ 1048576) (hf : s.room < s.used - ((bytL x.D k).length : Int) + n) :
    Calls Try.prog 14 #[.pointer (some ⟨q, 0, none⟩), .string k, .slice A n c] w fun e w' => e = .returned (.int .i64 7) ∧ RTo w w' q x s x.D := by
  have HR := Lib.hid h
  have HL := Lib.hid hr
  have HC3 : Hid (∀ W, Below w.heap.size w W → W.cell? ⟨q, 3, none⟩ = some (.bool s.d)) := fun W hW => by rw [← hr.dn]; exact (rblk_cells (h.below hW).blk).1.2.2.2
  obtain ⟨A0, c0, hv0⟩ := val_form k h
  obtain ⟨n0, hn0⟩ : ∃ n0, n0 = (bytL x.D k).length := ⟨_, rfl⟩
  rw [← hn0] at hv0
  have HRD : Hid (∀ W, Below w.heap.size w W → Calls Try.prog 52 #[.pointer (some ⟨q, 0, none⟩), .string k] W fun e w' => e = .returned (.tuple #[.slice A0 n0 c0, .bool (hasL x.D k)]) ∧ Below W.heap.size W w') := fun W hW => by rw [← hv0]; exact rread_any k (h.below hW)
  have HRT := Lib.hid (fun W => right_any W k)
  rw [hd] at HC3
  rw [hk] at HRT
  have HUS : Hid (∀ W, Below w.heap.size w W → ∀ p : InW W, Calls Try.prog 51 #[.pointer (some ⟨q, 0, none⟩)] p.val fun e w'' => e = .returned (.int .i64 s.used) ∧ ∃ p' : InW W, w'' = p'.val) := fun W hW => used_call (h.below hW) hr hu
  have HC1 : Hid (∀ W, Below w.heap.size w W → ∀ p : InW W, p.val.cell? ⟨q, 1, none⟩ = some (.int .i64 s.room)) := fun W hW p => p.cell (by rw [← hr.rm]; exact (rblk_cells (h.below hW).blk).1.2.1)
  have hub : 0 ≤ s.used ∧ s.used ≤ 100000 := by rw [hr.used]; omega
  have hbl : (bytL x.D k).length ≤ 100000 := Nat.le_trans (byt_used x.D k) hu
  have hbl2 : ((bytL x.D k).length : Int) ≤ s.used := by rw [hr.used]; have := byt_used x.D k; omega
  rw [← hn0] at hf hbl hbl2
  obtain ⟨u, huu⟩ : ∃ u, u = s.used := ⟨_, rfl⟩
  obtain ⟨o, hoo⟩ : ∃ o, o = s.room := ⟨_, rfl⟩
  rw [← huu] at HUS hub hf hbl2
  rw [← hoo] at HC1 hf hrm
  obtain ⟨u0, u1⟩ := hub
  obtain ⟨o0, o1⟩ := hrm
  have e0 : (0 : Int) ≤ (n : Int) := by omega
  have e1 : (n : Int) ≤ 1000 := by omega
  have e2 : (0 : Int) ≤ (n0 : Int) := by omega
  have e3 : (n0 : Int) ≤ 100000 := by omega
  obtain ⟨hh, hhh⟩ : ∃ hh, hh = hasL x.D k := ⟨_, rfl⟩
  rw [← hhh] at HRD
  clear h hr hd hk hu hn huu hoo hv0 hn0 hhh
  go_enter Try.func14, Try.ntmps14
  go_upto_region 6 with (first
    | (go_at_call 50; (with_reducible refine (HRT.out _).mono ?_); rintro e w' ⟨rfl, rfl⟩)
    | (go_at_call 52; (with_reducible refine (HRD.out _ (Below.refl _ _)).mono ?_); rintro e w1 ⟨rfl, hb1⟩; have HB1 := Lib.hid hb1; have c3 := HC3.out w1 hb1; clear hb1))
  have hus := HUS.out w1 HB1.out
  have c1 := HC1.out w1 HB1.out
  refine wp_region_below (W := w1) (by kernel_rfl) (by kernel_rfl) (Below.refl _ _) ?_
  repeat (go_big_quiet_step ((first | (go_at_call 51; with_reducible exact hus _))))
  refine wpQuiet_nil ?_
  rintro _ ⟨q0, rfl⟩
  obtain ⟨wq, hbq⟩ := q0
  try dsimp only
  have HBQ : Hid (Below w.heap.size w wq) := HB1.out.trans (hbq.mono HB1.out.size)
  clear c1 c3 hbq hus
  go_wp2
  go_ret
  exact ⟨rfl, RTo.same HR.out HL.out HBQ.out⟩
set_option maxRecDepth 100000 in
set_option maxHeartbeats 2000000 in
theorem rwri_down {w : World} {q : Nat} {x : RS} {s : S} (k : ByteArray) {A : Option Addr} {n c : Nat} (h : RfR w q x) (hr : Rl s x) (hd : s.d = false) (hk : okN k = true) (hu : usedL x.D ≤ 100000) (hn : n ≤ 1000) (hrm : 0 ≤ s.room ∧ s.room ≤ 1048576) (hf : ¬ s.room < s.used - ((bytL x.D k).length : Int) + n) (hu1 : useN s 1 ≠ 1) :
    Calls Try.prog 14 #[.pointer (some ⟨q, 0, none⟩), .string k, .slice A n c] w fun e w' => e = .returned (.int .i64 14) ∧ RTo w w' q x (useS s 1) x.D := by
  have HR := Lib.hid h
  have HL := Lib.hid hr
  have HC3 : Hid (∀ W, Below w.heap.size w W → W.cell? ⟨q, 3, none⟩ = some (.bool s.d)) := fun W hW => by rw [← hr.dn]; exact (rblk_cells (h.below hW).blk).1.2.2.2
  obtain ⟨A0, c0, hv0⟩ := val_form k h
  obtain ⟨n0, hn0⟩ : ∃ n0, n0 = (bytL x.D k).length := ⟨_, rfl⟩
  rw [← hn0] at hv0
  have HRD : Hid (∀ W, Below w.heap.size w W → Calls Try.prog 52 #[.pointer (some ⟨q, 0, none⟩), .string k] W fun e w' => e = .returned (.tuple #[.slice A0 n0 c0, .bool (hasL x.D k)]) ∧ Below W.heap.size W w') := fun W hW => by rw [← hv0]; exact rread_any k (h.below hW)
  have HRT := Lib.hid (fun W => right_any W k)
  rw [hd] at HC3
  rw [hk] at HRT
  have HUS : Hid (∀ W, Below w.heap.size w W → ∀ p : InW W, Calls Try.prog 51 #[.pointer (some ⟨q, 0, none⟩)] p.val fun e w'' => e = .returned (.int .i64 s.used) ∧ ∃ p' : InW W, w'' = p'.val) := fun W hW => used_call (h.below hW) hr hu
  have HC1 : Hid (∀ W, Below w.heap.size w W → ∀ p : InW W, p.val.cell? ⟨q, 1, none⟩ = some (.int .i64 s.room)) := fun W hW p => p.cell (by rw [← hr.rm]; exact (rblk_cells (h.below hW).blk).1.2.1)
  have hub : 0 ≤ s.used ∧ s.used ≤ 100000 := by rw [hr.used]; omega
  have hbl : (bytL x.D k).length ≤ 100000 := Nat.le_trans (byt_used x.D k) hu
  have hbl2 : ((bytL x.D k).length : Int) ≤ s.used := by rw [hr.used]; have := byt_used x.D k; omega
  rw [← hn0] at hf hbl hbl2
  obtain ⟨u, huu⟩ : ∃ u, u = s.used := ⟨_, rfl⟩
  obtain ⟨o, hoo⟩ : ∃ o, o = s.room := ⟨_, rfl⟩
  rw [← huu] at HUS hub hf hbl2
  rw [← hoo] at HC1 hf hrm
  obtain ⟨u0, u1⟩ := hub
  obtain ⟨o0, o1⟩ := hrm
  have e0 : (0 : Int) ≤ (n : Int) := by omega
  have e1 : (n : Int) ≤ 1000 := by omega
  have e2 : (0 : Int) ≤ (n0 : Int) := by omega
  have e3 : (n0 : Int) ≤ 100000 := by omega
  obtain ⟨hh, hhh⟩ : ∃ hh, hh = hasL x.D k := ⟨_, rfl⟩
  rw [← hhh] at HRD
  have HU : Hid (∀ W, Below w.heap.size w W → Calls Try.prog 56 #[.pointer (some ⟨q, 0, none⟩)] W fun e w' => e = .returned (.bool (decide (useN s 1 = 1))) ∧ ∃ x', Rm w w' q x x' ∧ x'.D = x.D ∧ Rl (useS s 1) x') := fun W hW => by
    refine (ruse_any (h.below hW) hr hd).mono ?_
    rintro e w' ⟨rfl, x', h1, h2, h3⟩
    exact ⟨rfl, x', (Rm.of_below h hW).trans h1, h2, h3⟩
  rw [decide_eq_false hu1] at HU
  clear h hr hd hk hu hn huu hoo hv0 hn0 hhh hu1
  go_enter Try.func14, Try.ntmps14
  go_upto_region 6 with (first
    | (go_at_call 50; (with_reducible refine (HRT.out _).mono ?_); rintro e w' ⟨rfl, rfl⟩)
    | (go_at_call 52; (with_reducible refine (HRD.out _ (Below.refl _ _)).mono ?_); rintro e w1 ⟨rfl, hb1⟩; have HB1 := Lib.hid hb1; have c3 := HC3.out w1 hb1; clear hb1))
  have hus := HUS.out w1 HB1.out
  have c1 := HC1.out w1 HB1.out
  refine wp_region_below (W := w1) (by kernel_rfl) (by kernel_rfl) (Below.refl _ _) ?_
  repeat (go_big_quiet_step ((first | (go_at_call 51; with_reducible exact hus _))))
  refine wpQuiet_nil ?_
  rintro _ ⟨q0, rfl⟩
  obtain ⟨wq, hbq⟩ := q0
  try dsimp only
  have HBQ : Hid (Below w.heap.size w wq) := HB1.out.trans (hbq.mono HB1.out.size)
  clear c1 c3 hbq hus
  go_wp2_with (go_at_call 56; (with_reducible refine (HU.out _ HBQ.out).mono ?_); rintro e w2 ⟨rfl, x2, h1, h2, h3⟩; have HX2 := Lib.hid h1; have HD2 := Lib.hid h2; have HL2 := Lib.hid h3; clear h1 h2 h3)
  go_ret
  exact ⟨rfl, x2, HX2.out, by rw [HD2.out]; exact Alike.refl _, HL2.out⟩
set_option maxRecDepth 100000 in
set_option maxHeartbeats 2000000 in
theorem rwri_on {w : World} {q : Nat} {x : RS} {s : S} (k : ByteArray) {A : Option Addr} {n c : Nat} (h : RfR w q x) (hr : Rl s x) (hd : s.d = false) (hk : okN k = true) (hu : usedL x.D ≤ 100000) (hn : n ≤ 1000) (hrm : 0 ≤ s.room ∧ s.room ≤ 1048576) (hf : ¬ s.room < s.used - ((bytL x.D k).length : Int) + n) (hu1 : useN s 1 = 1) (hfw : x.D.length + 3 ≤ 1000) {bs : List Int} (hbs : bs.length = n) (hv : ∀ w', Off (fun i => i = q) w w' → BAt w' (.slice A n c) bs) :
    Calls Try.prog 14 #[.pointer (some ⟨q, 0, none⟩), .string k, .slice A n c] w fun e w' => e = .returned (.int .i64 (dwn (useS s (1 + (n : Int))))) ∧ ∃ x', Rm w w' q x x' ∧ Alike (putL x.D k (dv, bs.take (useN s (1 + (n : Int)) - 1).toNat)) x'.D ∧ Rl { useS s (1 + (n : Int)) with used := (usedL x'.D : Int) } x' := by
  have HR := Lib.hid h
  have HL := Lib.hid hr
  have HC3 : Hid (∀ W, Below w.heap.size w W → W.cell? ⟨q, 3, none⟩ = some (.bool s.d)) := fun W hW => by rw [← hr.dn]; exact (rblk_cells (h.below hW).blk).1.2.2.2
  obtain ⟨A0, c0, hv0⟩ := val_form k h
  obtain ⟨n0, hn0⟩ : ∃ n0, n0 = (bytL x.D k).length := ⟨_, rfl⟩
  rw [← hn0] at hv0
  have HRD : Hid (∀ W, Below w.heap.size w W → Calls Try.prog 52 #[.pointer (some ⟨q, 0, none⟩), .string k] W fun e w' => e = .returned (.tuple #[.slice A0 n0 c0, .bool (hasL x.D k)]) ∧ Below W.heap.size W w') := fun W hW => by rw [← hv0]; exact rread_any k (h.below hW)
  have HRT := Lib.hid (fun W => right_any W k)
  rw [hd] at HC3
  rw [hk] at HRT
  have HUS : Hid (∀ W, Below w.heap.size w W → ∀ p : InW W, Calls Try.prog 51 #[.pointer (some ⟨q, 0, none⟩)] p.val fun e w'' => e = .returned (.int .i64 s.used) ∧ ∃ p' : InW W, w'' = p'.val) := fun W hW => used_call (h.below hW) hr hu
  have HC1 : Hid (∀ W, Below w.heap.size w W → ∀ p : InW W, p.val.cell? ⟨q, 1, none⟩ = some (.int .i64 s.room)) := fun W hW p => p.cell (by rw [← hr.rm]; exact (rblk_cells (h.below hW).blk).1.2.1)
  have hub : 0 ≤ s.used ∧ s.used ≤ 100000 := by rw [hr.used]; omega
  have hbl : (bytL x.D k).length ≤ 100000 := Nat.le_trans (byt_used x.D k) hu
  have hbl2 : ((bytL x.D k).length : Int) ≤ s.used := by rw [hr.used]; have := byt_used x.D k; omega
  rw [← hn0] at hf hbl hbl2
  obtain ⟨u, huu⟩ : ∃ u, u = s.used := ⟨_, rfl⟩
  obtain ⟨o, hoo⟩ : ∃ o, o = s.room := ⟨_, rfl⟩
  rw [← huu] at HUS hub hf hbl2
  rw [← hoo] at HC1 hf hrm
  obtain ⟨u0, u1⟩ := hub
  obtain ⟨o0, o1⟩ := hrm
  have e0 : (0 : Int) ≤ (n : Int) := by omega
  have e1 : (n : Int) ≤ 1000 := by omega
  have e2 : (0 : Int) ≤ (n0 : Int) := by omega
  have e3 : (n0 : Int) ≤ 100000 := by omega
  obtain ⟨hh, hhh⟩ : ∃ hh, hh = hasL x.D k := ⟨_, rfl⟩
  rw [← hhh] at HRD
  have HU : Hid (∀ W, Below w.heap.size w W → Calls Try.prog 56 #[.pointer (some ⟨q, 0, none⟩)] W fun e w' => e = .returned (.bool (decide (useN s 1 = 1))) ∧ ∃ x', Rm w w' q x x' ∧ x'.D = x.D ∧ Rl (useS s 1) x') := fun W hW => by
    refine (ruse_any (h.below hW) hr hd).mono ?_
    rintro e w' ⟨rfl, x', h1, h2, h3⟩
    exact ⟨rfl, x', (Rm.of_below h hW).trans h1, h2, h3⟩
  rw [decide_eq_true hu1] at HU
  obtain ⟨g1, g2⟩ := use_split hr.left hu1 n
  have hd1 : (useS s 1).d = false := by
    unfold useS
    split
    · rename_i ha
      split
      · rename_i hl
        unfold useN at hu1
        rw [if_pos ⟨ha, hl⟩] at hu1
        omega
      · exact hd
    · exact hd
  have HFW : Hid (x.D.length + 1 ≤ 1000) := by show _ ≤ _; omega
  have HST : Hid (∀ W x2, Rm w W q x x2 → x2.D = x.D → Rl (useS s 1) x2 → Calls Try.prog 53 #[.pointer (some ⟨q, 0, none⟩), .string k, .slice none 0 0] W fun e w' => e = .returned (.tuple #[]) ∧ ∃ x', Rm w w' q x x' ∧ Alike (putL x.D k (dv, [])) x'.D ∧ x'.D.length ≤ x.D.length + 1 ∧ Rl { useS s 1 with used := (usedL x'.D : Int) } x') := fun W x2 h1 h2 h3 =>
    set_rl h1 h2 h3 (Below.refl _ _) (BAt.nil W) (fun i hi => by obtain ⟨a, n, c, e, _⟩ := hi; cases e) HFW.out
  have HGR : Hid (∀ W x3, Rm w W q x x3 → Alike (putL x.D k (dv, [])) x3.D → x3.D.length ≤ x.D.length + 1 → Rl { useS s 1 with used := (usedL x3.D : Int) } x3 → Calls Try.prog 54 #[.pointer (some ⟨q, 0, none⟩), .string k, .slice A n c] W fun e w' => e = .returned (.int .i64 (dwn (useS s (1 + (n : Int))))) ∧ ∃ x', Rm w w' q x x' ∧ Alike (putL x.D k (dv, bs.take (useN s (1 + (n : Int)) - 1).toNat)) x'.D ∧ Rl { useS s (1 + (n : Int)) with used := (usedL x'.D : Int) } x') := fun W x3 h1 h2 h3 h4 => by
    have hbz : bytL x3.D k = [] := by rw [(h2 k).2, byt_put, if_pos rfl]
    refine (rgrow_any k h1.st h4 hd1 (by omega) hbs (by rw [hbz]; simp; omega) (fun w' ho => hv w' (h1.off.trans ho (fun _ e => .inl e)))).mono ?_
    rintro e w' ⟨rfl, x', h5, h6, h7⟩
    have e1 : useN { useS s 1 with used := (usedL x3.D : Int) } (n : Int) = useN (useS s 1) n := rfl
    have e2 : useS { useS s 1 with used := (usedL x3.D : Int) } (n : Int) = { useS (useS s 1) n with used := (usedL x3.D : Int) } := useS_used _ _ _
    rw [e2, g1] at h7 ⊢
    rw [e1] at h6
    have e3 : (useN s (1 + (n : Int)) - 1).toNat = (useN (useS s 1) n).toNat := by rw [g2]; omega
    refine ⟨rfl, x', h1.trans h5, ?_, h7⟩
    rw [e3]
    refine Alike.trans ?_ h6
    unfold grL
    by_cases hz : (useN (useS s 1) n).toNat = 0
    · rw [if_pos hz, hz, List.take_zero]; exact h2
    · rw [if_neg hz, hbz, List.nil_append]
      exact (put_put x.D k dv dv dv _ []).trans (h2.put k dv dv _)
  clear h hr hd hk hu hn huu hoo hv0 hn0 hhh hu1 g1 g2 hd1 hfw hbs hv
  go_enter Try.func14, Try.ntmps14
  go_upto_region 6 with (first
    | (go_at_call 50; (with_reducible refine (HRT.out _).mono ?_); rintro e w' ⟨rfl, rfl⟩)
    | (go_at_call 52; (with_reducible refine (HRD.out _ (Below.refl _ _)).mono ?_); rintro e w1 ⟨rfl, hb1⟩; have HB1 := Lib.hid hb1; have c3 := HC3.out w1 hb1; clear hb1))
  have hus := HUS.out w1 HB1.out
  have c1 := HC1.out w1 HB1.out
  refine wp_region_below (W := w1) (by kernel_rfl) (by kernel_rfl) (Below.refl _ _) ?_
  repeat (go_big_quiet_step ((first | (go_at_call 51; with_reducible exact hus _))))
  refine wpQuiet_nil ?_
  rintro _ ⟨q0, rfl⟩
  obtain ⟨wq, hbq⟩ := q0
  try dsimp only
  have HBQ : Hid (Below w.heap.size w wq) := HB1.out.trans (hbq.mono HB1.out.size)
  clear c1 c3 hbq hus
  go_wp2_with (first
    | (go_at_call 54; (with_reducible refine (HGR.out _ _ HX3.out HD3.out HN3.out HL3.out).mono ?_); rintro e w4 ⟨rfl, x4, h1, h2, h3⟩; have HX4 := Lib.hid h1; have HD4 := Lib.hid h2; have HL4 := Lib.hid h3; clear h1 h2 h3)
    | (go_at_call 53; (with_reducible refine (HST.out _ _ HX2.out HD2.out HL2.out).mono ?_); rintro e w3 ⟨rfl, x3, h1, h2, h3, h4⟩; have HX3 := Lib.hid h1; have HD3 := Lib.hid h2; have HN3 := Lib.hid h3; have HL3 := Lib.hid h4; clear h1 h2 h3 h4)
    | (go_at_call 56; (with_reducible refine (HU.out _ HBQ.out).mono ?_); rintro e w2 ⟨rfl, x2, h1, h2, h3⟩; have HX2 := Lib.hid h1; have HD2 := Lib.hid h2; have HL2 := Lib.hid h3; clear h1 h2 h3))
  go_ret
  exact ⟨rfl, x4, HX4.out, HD4.out, HL4.out⟩
end Go.Proofs.Ytffeinbbgfogoaa.Sr
