/-
  The law TablePlays: true for every list of calls. Conditions: none beyond what is told of the list in memory.
-/
import Derived.Test.YtflhpijcfiamgaaTPlayb
import Derived.Test.YtflhpijcfiamgaaTKnown
import Derived.Deep.RegionHeld3
import Derived.Deep.CutBlock
namespace Go.Proofs.Ytflhpijcfiamgaa.Tb
open Go.RowKit

/-- A call. -/
abbrev ActV := Int × Int × Int
/-- The calls in memory. -/
def ActsIn (w : World) (A : Option Addr) (len n : Nat) : Prop :=
  n ≤ len ∧ (0 < n → ∃ b o, A = some ⟨b, o, none⟩ ∧ b < w.heap.size ∧ ∀ i, i < n → ∃ r : ActV, w.cell? ⟨b, o + i * 3, none⟩ = some (.int .i64 r.1) ∧ w.cell? ⟨b, o + i * 3 + 1, none⟩ = some (.int .i64 r.2.1) ∧ w.cell? ⟨b, o + i * 3 + 2, none⟩ = some (.int .i64 r.2.2))
/-- What is kept while the calls are made. -/
def PI (base tb db : Nat) (w : World) (i : Nat) (wx : World) : Prop := Below base w wx ∧ base ≤ wx.heap.size ∧ ∃ rs, St base tb db wx rs rs ∧ asc rs ∧ rs.length ≤ i
theorem PI.drewN {base tb db : Nat} {w : World} {i : Nat} {wx : World} (h : PI base tb db w i wx) (n : Nat) : PI base tb db w i (wx.drewN n) := ⟨below_drewN h.1 n, h.2⟩

/-- Behind a call: both tables alike, the truth value true. -/
def DoneP (base tb db ok : Nat) (w : World) (i : Nat) (wx : World) : Prop := PI base tb db w (i + 1) wx ∧ Boxed wx ok 4 (.bool true)
theorem done_mk {base tb db ok : Nat} {w W0 wx : World} {i : Nat} {rs : List (Int × Int)} (hB : Below base w W0) (hz : base ≤ W0.heap.size) (hk : KT base W0 wx) (hs : St base tb db wx rs rs) (ha : asc rs) (hn : rs.length ≤ i + 1) (ho : Boxed wx ok 4 (.bool true)) : DoneP base tb db ok w i wx :=
  ⟨⟨hB.trans (hk.below hz), Nat.le_trans hz hk.size, rs, hs, ha, hn⟩, ho⟩
theorem done_set {base tb db ok : Nat} {w W0 wx : World} {i : Nat} {rs : List (Int × Int)} {x : Value} (hB : Below base w W0) (hz : base ≤ W0.heap.size) (hk : KT base W0 wx) (hs : St base tb db wx rs rs) (ha : asc rs) (hn : rs.length ≤ i + 1) (ho : Boxed wx ok 4 x) (hok : base ≤ ok) : DoneP base tb db ok w i (wx.setCell ⟨ok, 0, none⟩ (.bool true)) :=
  done_mk hB hz (hk.trans (KT.of_kept (Kept.of_set wx ⟨ok, 0, none⟩ _) (fun y _ e => by subst e; exact ⟨hok, _, _, ho, .inr (.inr (.inr (.inr rfl)))⟩))) (st_ok hs ho _) ha hn (ho.set _)
theorem act_cells {base : Nat} {W0 W : World} {ab : Nat} {kd ky va : Int} (hA : W0.heap[ab]? = some (.cells #[.int .i64 kd, .int .i64 ky, .int .i64 va] 32 (0, 0))) (hk : KT base W0 W) : W.cell? ⟨ab, 1, none⟩ = some (.int .i64 ky) ∧ W.cell? ⟨ab, 2, none⟩ = some (.int .i64 va) := by
  have h := hk.keeps hA (by decide)
  exact ⟨cell_of_row _ _ _ _ _ _ h, cell_of_row _ _ _ _ _ _ h⟩

theorem two_more (w : World) (a b : Obj) : Below w.heap.size w ((w.alloc a).alloc b) := ((Below.refl _ _).alloc (Nat.le_refl _) _).alloc (by simp) _
theorem act_set {base : Nat} {W0 W : World} {ab ok : Nat} {kd ky va : Int} {x : Value} (hA : W0.heap[ab]? = some (.cells #[.int .i64 kd, .int .i64 ky, .int .i64 va] 32 (0, 0))) (hk : KT base W0 W) (ho : Boxed W ok 4 x) (u : Value) :
    (W.setCell ⟨ok, 0, none⟩ u).cell? ⟨ab, 1, none⟩ = some (.int .i64 ky) ∧ (W.setCell ⟨ok, 0, none⟩ u).cell? ⟨ab, 2, none⟩ = some (.int .i64 va) := by
  have h := hk.keeps hA (by decide)
  have hne : ab ≠ ok := fun e => by
    unfold Boxed at ho
    rw [← e, h] at ho
    simp at ho
  have h2 := block_set h (p := ⟨ok, 0, none⟩) hne u
  exact ⟨cell_of_row _ _ _ _ _ _ h2, cell_of_row _ _ _ _ _ _ h2⟩

set_option maxRecDepth 100000 in
set_option maxHeartbeats 4000000 in
theorem law_plays (w : World) (A : Option Addr) (len cap n : Nat) (hnl : n = min len 60) (hin : ActsIn w A len n) :
    Calls Try.prog 3 #[.slice A len cap] w fun e w' => e = .returned (.bool true) ∧ Below w.heap.size w w' := by
  have HIN := Lib.hid hin
  have hn60 : n ≤ 60 := by omega
  have hnlen : n ≤ len := by omega
  have hfst : Hid ((n < len ∧ ¬ n < 60) ∨ ¬ n < len) := by show _ ∨ _; omega
  clear hin hnl
  have hmf : ∀ (fn : Fn) (first cap : Array Value) (w : World), (Instr.makeFunc fn first cap).run Try.prog w = .ok (.func fn first cap) w := fun _ _ _ _ => rfl
  go_enter Try.func3, Try.ntmps3
  go_wp2
  have h0 : Hid (PI w.heap.size w.heap.size (w.heap.size + 1) w 0 ((w.alloc (.cells #[.slice none 0 0] 26)).alloc (.cells #[.slice none 0 0] 30))) := by
    refine ⟨((Below.refl _ _).alloc (Nat.le_refl _) _).alloc (by simp) _, by simp; omega, [], ⟨_, _, ⟨Nat.le_refl _, (Boxed.new _ _ _).alloc _, World.ownsRow_nil _ _ _ _⟩, ⟨by omega, ?_, World.ownsRow_nil _ _ _ _⟩⟩, List.Pairwise.nil, Nat.le_refl _⟩
    have := Boxed.new (w.alloc (.cells #[.slice none 0 0] 26)) 30 (.slice none 0 0)
    rwa [World.size_alloc] at this
  go_loopg [5] n (fun (gh : Nat) si wx => ∃ i : Nat, gh = n - i ∧ i ≤ n ∧ si = .int .i64 (i : Int) ∧ Hid (PI w.heap.size w.heap.size (w.heap.size + 1) w i wx))
  case atStart => exact ⟨0, rfl, Nat.zero_le _, rfl, h0⟩
  case round =>
    clear h0
    obtain ⟨i, rfl, hi, rfl, hinv⟩ := hrel
    by_cases hlt : i < n
    · have t1 : (i : Int) < (len : Int) := by omega
      have t2 : (i : Int) < 60 := by omega
      have t3 : (0 : Int) ≤ (i : Int) := by omega
      obtain ⟨b, o, rfl, hbl, hcell⟩ := HIN.out.2 (by omega)
      obtain ⟨⟨kd, ky, va⟩, hc⟩ := hcell i hlt
      obtain ⟨hbel, hbs, rs, hst, has, hln⟩ := hinv.out
      have c1 : wr.cell? ⟨b, o + i * 3, none⟩ = some (.int .i64 kd) := (hbel.cell (p := ⟨b, o + i * 3, none⟩) hbl).trans hc.1
      have c2 : wr.cell? ⟨b, o + i * 3 + 1, none⟩ = some (.int .i64 ky) := (hbel.cell (p := ⟨b, o + i * 3 + 1, none⟩) hbl).trans hc.2.1
      have c3 : wr.cell? ⟨b, o + i * 3 + 2, none⟩ = some (.int .i64 va) := (hbel.cell (p := ⟨b, o + i * 3 + 2, none⟩) hbl).trans hc.2.2
      have ST := Lib.hid hst
      have AS := Lib.hid has
      have HB := Lib.hid hbel
      clear hc hcell hbel hst has hinv
      have hm0 : 0 ≤ (IntKind.u64.wrap kd).tmod 6 ∧ (IntKind.u64.wrap kd).tmod 6 ≤ 5 := by
        have h1 : 0 ≤ IntKind.u64.wrap kd := by rw [IntKind.wrap_u64]; omega
        rw [Int.tmod_eq_emod_of_nonneg h1]; omega
      obtain ⟨m, hm⟩ : ∃ m, (IntKind.u64.wrap kd).tmod 6 = m := ⟨_, rfl⟩
      rw [hm] at hm0
      go_upto_block 2 with fail
      have z0 : w.heap.size ≤ ((wr.alloc (.cells #[.int .i64 kd, .int .i64 ky, .int .i64 va] 32)).alloc (.cells #[.bool true] 4)).heap.size := by simp; omega
      have hA := block_old (block_new wr (.cells #[.int .i64 kd, .int .i64 ky, .int .i64 va] 32)) (.cells #[.bool true] 4)
      have hO : Boxed ((wr.alloc (.cells #[.int .i64 kd, .int .i64 ky, .int .i64 va] 32)).alloc (.cells #[.bool true] 4)) (wr.heap.size + 1) 4 (.bool true) := by
        have := Boxed.new (wr.alloc (.cells #[.int .i64 kd, .int .i64 ky, .int .i64 va] 32)) 4 (.bool true)
        rwa [World.size_alloc] at this
      have hb0 : Below wr.heap.size wr ((wr.alloc (.cells #[.int .i64 kd, .int .i64 ky, .int .i64 va] 32)).alloc (.cells #[.bool true] 4)) := ((Below.refl _ _).alloc (Nat.le_refl _) _).alloc (by simp) _
      have hb0' : Below w.heap.size w ((wr.alloc (.cells #[.int .i64 kd, .int .i64 ky, .int .i64 va] 32)).alloc (.cells #[.bool true] 4)) := HB.out.trans (hb0.mono hbs)
      have hst0 := ST.out.below hb0
      obtain ⟨ab, hab⟩ : ∃ ab, ab = wr.heap.size := ⟨_, rfl⟩
      obtain ⟨ok, hok⟩ : ∃ ok, ok = wr.heap.size + 1 := ⟨_, rfl⟩
      obtain ⟨tb, htb⟩ : ∃ tb, tb = w.heap.size := ⟨_, rfl⟩
      obtain ⟨W0, hW0⟩ : ∃ W0, W0 = (wr.alloc (.cells #[.int .i64 kd, .int .i64 ky, .int .i64 va] 32)).alloc (.cells #[.bool true] 4) := ⟨_, rfl⟩
      rw [← hW0] at z0 hA hO hb0' hst0 ⊢
      have hbok : w.heap.size ≤ ok := by omega
      rw [← hab] at hA
      rw [← hok] at hO
      have HA := Lib.hid hA
      have HO := Lib.hid hO
      have HB0 := Lib.hid hb0'
      have ST := Lib.hid hst0
      rw [← hok, ← hab]
      clear hA hO hb0 hb0' hst0 hab hok htb hW0 hm c1 c2 c3
      have KX := Lib.hid (KT.refl w.heap.size W0)
      have hn9 : rs.length ≤ 900 := by omega
      go_cut [15, 16, 17, 18] from 8 to 131 (fun s15 s16 s17 s18 wx => s15 = .agg #[.slice none 0 0] ∧ s16 = .pointer (some ⟨w.heap.size, 0, none⟩) ∧ s17 = .agg #[.slice none 0 0] ∧ s18 = .pointer (some ⟨w.heap.size + 1, 0, none⟩) ∧ Hid (DoneP w.heap.size w.heap.size (w.heap.size + 1) ok w i wx))
      case first =>
        obtain ⟨d1, d2⟩ := act_cells HA.out KX.out
        have f1 := HO.out.cell
        have f2 := HO.out.frozen
        rcases (show m = 0 ∨ m = 1 ∨ m = 2 ∨ m = 3 ∨ m = 4 ∨ m = 5 by omega) with rfl | rfl | rfl | rfl | rfl | rfl
        · clear hm0
          go_wp2_with fail
          have ST := Lib.hid (ST.out.below (Below.refl _ _).drew)
          have KX := Lib.hid KX.out.drew
          have HO : Hid (Boxed W0.drew ok 4 (.bool true)) := HO.out
          go_region_held3 (fun w' => w'.cell? ⟨ab, 1, none⟩ = some (.int .i64 ky) ∧ w'.cell? ⟨ab, 2, none⟩ = some (.int .i64 va)) (first | (exact ⟨by assumption, by assumption⟩) | (exact act_set HA.out KX.out HO.out _) | go_keep)
            (first
              | (go_at_call 8; refine (put_t ky va ST.out AS.out (by omega) (by have := KX.out.size; omega)).mono ?_; rintro e w1 ⟨rfl, s1, k1, o1⟩; have ST := Lib.hid s1; have KX := Lib.hid (KX.out.trans k1); have HO := Lib.hid (o1 _ _ HO.out); clear s1 k1 o1; obtain ⟨d1, d2⟩ := act_cells HA.out KX.out; have f1 := HO.out.cell; have f2 := HO.out.frozen)
              | (go_at_call 9; refine (put_d ky va ST.out AS.out (by omega) (by have := KX.out.size; omega)).mono ?_; rintro e w1 ⟨rfl, s1, k1, o1⟩; have ST := Lib.hid s1; have KX := Lib.hid (KX.out.trans k1); have HO := Lib.hid (o1 _ _ HO.out); clear s1 k1 o1; obtain ⟨d1, d2⟩ := act_cells HA.out KX.out; have f1 := HO.out.cell; have f2 := HO.out.frozen))
          all_goals
            go_wp2
            go_meet
            exact ⟨rfl, rfl, rfl, rfl, done_set HB0.out z0 KX.out ST.out (asc_putL _ _ _ AS.out) (by have := (len_putL rs ky va).2; omega) HO.out hbok⟩
        · clear hm0
          go_wp2_with (first
            | (go_at_call 10; refine (get_t ky ST.out AS.out (by omega)).mono ?_; rintro e w1 ⟨rfl, b1⟩; have ST := Lib.hid (ST.out.below b1); have KX := Lib.hid (KX.out.trans (KT.of_below b1)); have HO := Lib.hid (ko_b b1 _ _ HO.out); clear b1; obtain ⟨d1, d2⟩ := act_cells HA.out KX.out; have f1 := HO.out.cell; have f2 := HO.out.frozen)
            | (go_at_call 11; refine (get_d ky ST.out AS.out (by omega)).mono ?_; rintro e w1 ⟨rfl, b1⟩; have ST := Lib.hid (ST.out.below b1); have KX := Lib.hid (KX.out.trans (KT.of_below b1)); have HO := Lib.hid (ko_b b1 _ _ HO.out); clear b1; obtain ⟨d1, d2⟩ := act_cells HA.out KX.out; have f1 := HO.out.cell; have f2 := HO.out.frozen))
          go_meet
          exact ⟨rfl, rfl, rfl, rfl, done_set HB0.out z0 KX.out ST.out AS.out (by omega) HO.out hbok⟩
        · clear hm0
          go_wp2_with fail
          have ST := Lib.hid (ST.out.below (Below.refl _ _).drew)
          have KX := Lib.hid KX.out.drew
          have HO : Hid (Boxed W0.drew ok 4 (.bool true)) := HO.out
          go_region_held3 (fun w' => w'.cell? ⟨ab, 1, none⟩ = some (.int .i64 ky)) (first | assumption | (exact (act_set HA.out KX.out HO.out _).1) | go_keep)
            (first
              | (go_at_call 12; refine (drop_t ky ST.out AS.out (by omega)).mono ?_; rintro e w1 ⟨rfl, s1, k1, o1⟩; have ST := Lib.hid s1; have KX := Lib.hid (KX.out.trans k1); have HO := Lib.hid (o1 _ _ HO.out); clear s1 k1 o1; obtain ⟨d1, d2⟩ := act_cells HA.out KX.out; have f1 := HO.out.cell; have f2 := HO.out.frozen)
              | (go_at_call 13; refine (drop_d ky ST.out AS.out (by omega) (by have := KX.out.size; omega)).mono ?_; rintro e w1 ⟨rfl, s1, k1, o1⟩; have ST := Lib.hid s1; have KX := Lib.hid (KX.out.trans k1); have HO := Lib.hid (o1 _ _ HO.out); clear s1 k1 o1; obtain ⟨d1, d2⟩ := act_cells HA.out KX.out; have f1 := HO.out.cell; have f2 := HO.out.frozen))
          all_goals
            go_wp2
            go_meet
            exact ⟨rfl, rfl, rfl, rfl, done_set HB0.out z0 KX.out ST.out (asc_dropL _ _ AS.out) (by have := len_dropL rs ky; omega) HO.out hbok⟩
        · clear hm0
          go_wp2_with fail
          go_at_call 11
          refine (get_d ky ST.out AS.out (by omega)).mono ?_
          rintro e w1 ⟨rfl, b1⟩
          have ST := Lib.hid (ST.out.below b1)
          have KX := Lib.hid (KX.out.trans (KT.of_below b1))
          have HO := Lib.hid (ko_b b1 _ _ HO.out)
          clear b1
          obtain ⟨d1, d2⟩ := act_cells HA.out KX.out
          have f1 := HO.out.cell
          have f2 := HO.out.frozen
          have lab : ab < w1.heap.size := World.block_lt_of_cell? w1 ⟨ab, 1, none⟩ d1
          have ne1 : ¬ ab = w1.heap.size := by omega
          have ne2 : ¬ ab = w1.heap.size + 1 := by omega
          have d3 := (act_cells HA.out (KX.out.trans (KT.of_below (two_more w1 (.cells #[.int .i64 (Ii.getL rs ky)] 3) (.cells #[.bool (hasB rs ky)] 4))))).1
          go_wp2_with (first
            | (go_at_call 14; refine (change3 (ab := ab) (kd := kd) (ky := ky) (va := va) ST.out AS.out (by omega) (by have := KX.out.size; omega) hbok HO.out (KX.out.keeps HA.out (by decide))).mono ?_; rintro e w2 ⟨rfl, s1, k1, o1⟩; have ST := Lib.hid s1; have KX := Lib.hid (KX.out.trans k1); have HO := Lib.hid o1; clear s1 k1 o1; obtain ⟨d1, d2⟩ := act_cells HA.out KX.out)
            | (go_at_call 9; refine (put_d ky va ST.out AS.out (by omega) (by have := KX.out.size; omega)).mono ?_; rintro e w1 ⟨rfl, s1, k1, o1⟩; have ST := Lib.hid s1; have KX := Lib.hid (KX.out.trans k1); have HO := Lib.hid (o1 _ _ HO.out); clear s1 k1 o1; obtain ⟨d1, d2⟩ := act_cells HA.out KX.out; have f1 := HO.out.cell; have f2 := HO.out.frozen))
          go_meet
          exact ⟨rfl, rfl, rfl, rfl, done_mk HB0.out z0 KX.out ST.out (asc_putL _ _ _ AS.out) (by have := (len_putL rs ky va).2; omega) HO.out⟩
        · clear hm0
          go_wp2_with (first
            | (go_at_call 14; refine (change_t2 (ab := ab) (kd := kd) (ky := ky) (va := va) ST.out AS.out (by omega) (by have := KX.out.size; omega) HO.out (KX.out.keeps HA.out (by decide))).mono ?_; rintro e w2 ⟨rfl, s1, k1, o1⟩; have ST := Lib.hid s1; have KX := Lib.hid (KX.out.trans k1); have HO := Lib.hid o1; clear s1 k1 o1; obtain ⟨d1, d2⟩ := act_cells HA.out KX.out)
            | (go_at_call 13; refine (drop_d ky ST.out AS.out (by omega) (by have := KX.out.size; omega)).mono ?_; rintro e w1 ⟨rfl, s1, k1, o1⟩; have ST := Lib.hid s1; have KX := Lib.hid (KX.out.trans k1); have HO := Lib.hid (o1 _ _ HO.out); clear s1 k1 o1; obtain ⟨d1, d2⟩ := act_cells HA.out KX.out; have f1 := HO.out.cell; have f2 := HO.out.frozen))
          go_meet
          exact ⟨rfl, rfl, rfl, rfl, done_mk HB0.out z0 KX.out ST.out (asc_dropL _ _ AS.out) (by have := len_dropL rs ky; omega) HO.out⟩
        · clear hm0
          have HC := Lib.hid (copy_t ST.out (by omega) AS.out ky va)
          go_wp2_with (first
            | (go_at_call 17; refine HC.out.mono ?_; rintro e w1 ⟨cb, rfl, b1, hp1⟩; have HP := Lib.hid hp1; obtain ⟨d1, d2⟩ := act_cells HA.out (KX.out.trans (KT.of_below b1)); clear b1 hp1)
            | (go_at_call 8; refine HP.out.mono ?_; rintro e w2 ⟨rfl, b2, hp2⟩; have HD := Lib.hid hp2; obtain ⟨d1, d2⟩ := act_cells HA.out (KX.out.trans (KT.of_below b2)); clear b2 hp2)
            | (go_at_call 12; refine HD.out.mono ?_; rintro e w3 ⟨rfl, b3⟩))
          go_meet
          exact ⟨rfl, rfl, rfl, rfl, done_mk HB0.out z0 (KX.out.trans (KT.of_below b3)) (ST.out.below b3) AS.out (by omega) (ko_b b3 _ _ HO.out)⟩
      case rest =>
        obtain ⟨rfl, rfl, rfl, rfl, hcut⟩ := hcut
        obtain ⟨⟨hB, hz, rs1, ⟨tv, dv, hT, hD⟩, has, hln⟩, hO⟩ := hcut.out
        have f1 := hO.cell
        obtain ⟨A1, cp1, rfl⟩ : ∃ A1 cp1, dv = .slice A1 rs1.length cp1 := by
          rcases Go.Joins.ownsRow_forms hD.2.2 with ⟨rfl, h0⟩ | ⟨g, cap, rfl⟩
          · exact ⟨none, 0, by rw [h0]⟩
          · exact ⟨_, _, rfl⟩
        have HB := Lib.hid hB
        have HT := Lib.hid hT
        have HD := Lib.hid hD
        have HS := Lib.hid has
        have HK := Lib.hid hO
        have q0 := hD.2.1.cell
        have hn9 : rs1.length ≤ 1000 := by omega
        clear hcut hB hT hD has hO
        clear HA HO HB0 ST KX
        go_wp2_with fail
        go_region_held3 (fun w' => w'.cell? ⟨ok, 0, none⟩ = some (.bool true) ∧ w'.cell? ⟨w.heap.size + 1, 0, none⟩ = some (.slice A1 rs1.length cp1)) (first | (exact ⟨by assumption, by assumption⟩) | go_keep)
          (first
            | (go_at_call 18; refine (Ii.len_any wc.drew _ rs1 (HT.out.below (Below.refl _ _).drew).read (by omega)).mono ?_; rintro e w' ⟨rfl, rfl⟩)
            | (go_at_call 19; refine (Rf.same_eq w2 _ _ _ _ rs1 U2.out (HD.out.below B2.out).2.2 (by omega)).mono ?_; rintro e w3 ⟨rfl, b3⟩; have B3 := Lib.hid (B2.out.trans (b3.mono B2.out.size)); clear b3; have q3 := (HD.out.below B3.out).2.1.cell; have p3 := (ko_b B3.out _ _ HK.out).cell)
            | (go_at_call 20; refine (Rf.lrows_any w1 v1 rs1 (Ii.RowsR.of_own V1.out) (by omega)).mono ?_; rintro e w2 ⟨uu, rfl, hu2, b2⟩; have U2 := Lib.hid hu2; have B2 := Lib.hid (B1.out.trans (b2.mono B1.out.size)); clear hu2 b2; have q2 := (HD.out.below B2.out).2.1.cell; have p2 := (ko_b B2.out _ _ HK.out).cell)
            | (go_at_call 21; refine (Ii.rows_any wc.drew _ rs1 (HT.out.below (Below.refl _ _).drew).read (by omega)).mono ?_; rintro e w1 ⟨v1, rfl, hv1, _, b1⟩; have V1 := Lib.hid hv1; have B1 : Hid (Below wc.heap.size wc w1) := Lib.hid ((Below.refl wc.heap.size wc).drew.trans b1); clear hv1 b1; have q1 := (HD.out.below B1.out).2.1.cell; have p1 := (ko_b B1.out _ _ HK.out).cell))
        all_goals
          have FIN : Hid (PI w.heap.size w.heap.size (w.heap.size + 1) w (i + 1) w3) := ⟨HB.out.trans (B3.out.mono hz), Nat.le_trans hz B3.out.size, rs1, ⟨tv, _, HT.out.below B3.out, HD.out.below B3.out⟩, HS.out, hln⟩
          clear HB HT HD HS HK B1 B2 B3 V1 U2 q0 q1 q2 q3 p1 p2 p3
          go_wp2
          go_roundg (n - (i + 1))
          case measure => omega
          case rel => exact ⟨i + 1, rfl, by omega, by go_num, FIN⟩
    · obtain rfl : i = n := by omega
      obtain ⟨hb, hbs, rs, hst, has, hln⟩ := hinv.out
      have HB := Lib.hid hb
      clear hb hst has hinv
      rcases hfst.out with ⟨hA, hA2⟩ | hA
      all_goals
        go_wp2_with (go_at_call 22; refine (known_any _).mono ?_; rintro e w4 ⟨rfl, hb4⟩)
        go_ret
        exact ⟨rfl, HB.out.trans (hb4.mono hbs)⟩
end Go.Proofs.Ytflhpijcfiamgaa.Tb
