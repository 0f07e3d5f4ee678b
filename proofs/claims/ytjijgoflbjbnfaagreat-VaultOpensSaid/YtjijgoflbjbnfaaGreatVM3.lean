/-
  The contracts of Make and Bend. Conditions: at most two million bytes.
-/
import Derived.Test.YtjijgoflbjbnfaaGreatVM2
import Derived.Lib.SlBytesConst
namespace Go.Proofs.YtjijgoflbjbnfaaGreat.Fr
open Go.RowKit

theorem made_any (k : Nat) (hk : k ≤ 2000000) : ∃ M : Array Value, M.size = k * 1 ∧ ∀ W : World, (Instr.makeSlice 32 (.int .i64 0) (.int .i64 (k : Int))).run Tryz.prog W = .ok (.slice (some ⟨W.heap.size, 0, none⟩) 0 k) (W.alloc (.cells M 5)) := by
  obtain ⟨i0, hi0, hz0, hz1, hz2⟩ := info_parts u8Inf
  refine ⟨madeCells #[.int .u8 0] (k * 1), size_madeCells _ _, fun W => ?_⟩
  have h := run_make (P := Tryz.prog) W 32 5 i0 _ Tryz.underlying32 hi0 hz0 .i64 .i64 0 k (Int.le_refl _) (by omega) (by rw [hz2]; omega) (by omega)
  rw [hz1] at h
  exact h
theorem own_same {w w' : World} {base : Nat} {e : TypeId} {size n : Nat} {v : Value} {xs : List Value} (h : w.ownsRow base e size v n xs) (hb : Below w.heap.size w w') : w'.ownsRow base e size v n xs :=
  h.kept (row := none) ⟨hb.os, hb.tape, hb.output, hb.size, fun i hi _ => hb.block i hi⟩ (by
    rcases hv : v.ownBlock with _ | g
    · exact .inl rfl
    · exact .inr (by simp))
/-- What Make tells of bytes that may be framed. -/
def Mad (w : World) (l : List Int) (e : Ending) (w' : World) : Prop := ∃ A c, e = .returned (.tuple #[.slice A (l.length + 8) c, .int .i64 0]) ∧ w'.ownsRow w.heap.size 5 1 (.slice A (l.length + 8) c) (frF l).length (bv (frF l))
set_option maxRecDepth 100000 in
theorem make_long (w : World) (A : Option Addr) (n cap : Nat) (hn : 1048568 < n) :
    Calls Tryz.prog 88 #[.slice A n cap] w fun e w' => e = .returned (.tuple #[.slice none 0 0, .int .i64 2]) ∧ w = w' := by
  have t1 : (1048568 : Int) < (n : Int) := by omega
  go_enter Tryz.func88, Tryz.ntmps88
  go_wp2
  go_ret2
  exact ⟨rfl, rfl⟩
set_option maxRecDepth 100000 in
set_option maxHeartbeats 4000000 in
theorem make_any (w : World) (v : Value) (l : List Int) (h : BAt w v l) (hb : bok l) (hn : l.length ≤ 1048568) : Calls Tryz.prog 88 #[v] w fun e w' => Mad w l e w' ∧ Below w.heap.size w w' := by
  have H := Lib.hid h
  obtain ⟨A, cap, rfl, hcap, _⟩ := h
  obtain ⟨n, hnn⟩ : ∃ n, n = l.length := ⟨_, rfl⟩
  rw [← hnn] at H hn hcap ⊢
  obtain ⟨k, hk⟩ : ∃ k, k = n + 8 := ⟨_, rfl⟩
  obtain ⟨q, hq⟩ : ∃ q, q = n + 4 := ⟨_, rfl⟩
  obtain ⟨M, hM, hmk⟩ := made_any k (by omega)
  obtain ⟨c, hc⟩ : ∃ c, c = crc (hd l) := ⟨_, rfl⟩
  have hc2 : c < 4294967296 := by rw [hc]; exact crc_lt _
  have t1 : ¬ (1048568 : Int) < (n : Int) := by omega
  have e1 : (n : Int) + 8 = (k : Int) := by omega
  have e2 : IntKind.u32.wrap (n : Int) = (n : Int) := by rw [IntKind.wrap_u32]; omega
  have HL : Hid (n = l.length ∧ k = n + 8 ∧ q = n + 4 ∧ c = crc (hd l)) := ⟨hnn, hk, hq, hc⟩
  have HB := Lib.hid hb
  have HO0 : Hid ((w.alloc (.cells M 5)).ownsRow w.heap.size 5 1 (.slice (some ⟨w.heap.size, 0, none⟩) 0 k) 0 []) := World.ownsRow_made w M k (Nat.le_refl _) (by unfold maxLen; omega) hM
  have HP : Hid (Calls Tryz.prog 125 #[.slice (some ⟨w.heap.size, 0, none⟩) 0 k, .int .u32 (n : Int)] (w.alloc (.cells M 5)) fun e w' => ∃ A c, e = .returned (.slice A 4 c) ∧ w'.ownsRow w.heap.size 5 1 (.slice A 4 c) (num4 n).length (bv (num4 n)) ∧ Below w.heap.size w w') := by
    have h1 := put_own (w.alloc (.cells M 5)) w.heap.size _ [] n HO0.out (by simp) (by decide) (by omega)
    exact h1.mono fun e w' ⟨A, c, h2, h3, h4⟩ => ⟨A, c, h2, h3, ((Below.refl _ w).alloc (Nat.le_refl _) _).trans h4⟩
  have hk2 : k ≤ 1048576 := by omega
  have hq2 : q ≤ 1048572 := by omega
  clear hnn hk hq hc hb hM
  go_enter Tryz.func88, Tryz.ntmps88
  go_wp2_with (first
    | (go_at_call 125; (with_reducible refine (HP2.out).mono ?_); rintro e w5 ⟨A5, c5, rfl, ho5, hb5⟩
       have HO5 := Lib.hid ho5
       have HB5 := Lib.hid (HB3.out.trans hb5)
       clear ho5 hb5)
    | (go_at_call 126; (with_reducible refine (HS.out).mono ?_); rintro e w4 ⟨rfl, rfl⟩)
    | (at_builtin; refine Lib.wpList_append_run _ rfl _ _ 32 32 rfl _ _ rfl rfl _ _ HR.out ?_)
    | (go_at_call 125; refine HP.out.mono ?_; rintro e w2 ⟨A2, c2, rfl, ho2, hb2⟩
       have HB2 := Lib.hid hb2
       obtain ⟨A3, c3, w3, hr3, ho3, hg3⟩ := app_any w2 w.heap.size _ (num4 n) ho2 (.slice A n cap) l (H.out.kept HB2.out) (by rw [num4_len]; have := HL.out.1; omega) HB2.out.size
       have h3 : (num4 n).length + l.length = q := by rw [num4_len]; have := HL.out; omega
       rw [h3] at hr3 ho3
       have HR := Lib.hid hr3
       have HO3 : Hid (w3.ownsRow w.heap.size 5 1 (.slice A3 q c3) (hd l).length (bv (hd l))) := by unfold hd; rw [← HL.out.1]; exact ho3
       have HB3 : Hid (Below w.heap.size w w3) := HB2.out.grown hg3 HB2.out.size (fun j hj => (ho2.lt j hj).1)
       have HW3 : Hid (Below w3.heap.size w3 (w3.alloc (.cells #[.slice A3 q c3] 32))) := (Below.refl _ _).alloc (Nat.le_refl _) _
       have hbb : bok (hd l) := hd_bok HB.out
       have hln : (hd l).length ≤ 2000000 := by rw [hd_len, ← HL.out.1]; omega
       have HS : Hid (Calls Tryz.prog 126 #[.slice (some ⟨w3.heap.size, 0, none⟩) 1 1] (w3.alloc (.cells #[.slice A3 q c3] 32)) fun e w' => e = .returned (.int .u32 (c : Int)) ∧ (w3.alloc (.cells #[.slice A3 q c3] 32)) = w') := by
         have h4 := sum_any _ _ _ (PAt.one (BAt.of_own HO3.out)) (boks_one hbb hln)
         rw [List.flatten_cons, List.flatten_nil, List.append_nil, ← HL.out.2.2.2] at h4
         exact h4
       have HP2 : Hid (Calls Tryz.prog 125 #[.slice A3 q c3, .int .u32 (c : Int)] (w3.alloc (.cells #[.slice A3 q c3] 32)) fun e w' => ∃ A c, e = .returned (.slice A k c) ∧ w'.ownsRow w.heap.size 5 1 (.slice A k c) (frF l).length (bv (frF l)) ∧ Below w.heap.size w3 w') := by
         have h4 := put_own (w3.alloc (.cells #[.slice A3 q c3] 32)) w.heap.size _ (hd l) c (own_same HO3.out HW3.out) (Nat.le_trans HB3.out.size HW3.out.size) hln hc2
         rw [show (hd l).length + 4 = k by rw [hd_len]; have := HL.out; omega] at h4
         rw [HL.out.2.2.2] at h4 ⊢
         exact h4.mono fun e w' ⟨A, c, h5, h6, h7⟩ => ⟨A, c, h5, h6, (HW3.out.mono HB3.out.size).trans h7⟩
       clear ho2 hb2 hr3 ho3 hg3 hbb hln h3))
  go_ret2
  have hkl : l.length + 8 = k := by have := HL.out; omega
  refine ⟨⟨A5, c5, ?_, ?_⟩, HB5.out⟩
  · rw [hkl]; rfl
  · rw [hkl]; exact HO5.out

theorem bits_xor8 (a b : Int) (ha : 0 ≤ a ∧ a < 256) (hb : 0 ≤ b ∧ b < 256) : bits .xor .u8 a b = xb a b := by
  show IntKind.u8.wrap ((BitVec.ofInt 8 a ^^^ BitVec.ofInt 8 b).toNat : Int) = _
  have h1 := xb_bok ha hb
  have e1 : (BitVec.ofInt 8 a).toNat = a.toNat := by rw [BitVec.toNat_ofInt]; omega
  have e2 : (BitVec.ofInt 8 b).toNat = b.toNat := by rw [BitVec.toNat_ofInt]; omega
  rw [BitVec.toNat_xor, e1, e2, IntKind.wrap_u8]
  show xb a b % 256 = xb a b
  omega
/-- A cell of a row of the call's own is turned. -/
theorem own_set {w : World} {base g n cap : Nat} {l : List Int} (h : w.ownsRow base 5 1 (.slice (some ⟨g, 0, none⟩) n cap) l.length (bv l)) (i : Nat) (_hi : i < l.length) (x : Int) :
    (w.setCell ⟨g, i, none⟩ (.int .u8 x)).ownsRow base 5 1 (.slice (some ⟨g, 0, none⟩) n cap) l.length (bv (l.set i x)) := by
  rcases h.2 with ⟨h1, _⟩ | ⟨g2, cap2, cur, h1, hb, hg, hnc, hcm, hcs, htake⟩
  · cases h1
  · cases h1
    refine ⟨by rw [bv_len, List.length_set, Nat.mul_one], .inr ⟨g, cap, cur.setIfInBounds i (.int .u8 x), rfl, hb, ?_, hnc, hcm, by simpa using hcs, ?_⟩⟩
    · simp only [World.setCell, Array.getElem?_modify, if_true]; rw [hg]; rfl
    · rw [Array.toList_setIfInBounds, List.take_set, htake]
      simp [bv]
/-- What Bend tells. -/
def Bnd (w : World) (l : List Int) (a b : Int) (e : Ending) (w' : World) : Prop := ∃ A c, e = .returned (.slice A l.length c) ∧ w'.ownsRow w.heap.size 5 1 (.slice A l.length c) (bend l a b).length (bv (bend l a b))
end Go.Proofs.YtjijgoflbjbnfaaGreat.Fr

namespace Go.Proofs.YtjijgoflbjbnfaaGreat.Fr
open Go.RowKit

/-- A slice of slices of bytes. -/
def RIn (w : World) (A : Option Addr) (n c : Nat) : Prop := ∃ ls : List (List Int), PAt w (.slice A n c) ls ∧ ∀ l ∈ ls, bok l
theorem PAt.two {w : World} {u u' : Value} {l l' : List Int} (h : BAt w u l) (h' : BAt w u' l') : PAt (w.alloc (.cells #[u, u'] 32)) (.slice (some ⟨w.heap.size, 0, none⟩) 2 2) [l, l'] := by
  refine ⟨_, 2, rfl, Nat.le_refl _, fun _ => ⟨w.heap.size, 0, rfl, by simp, fun i hi => ?_⟩⟩
  have hb := block_new w (.cells #[u, u'] 32)
  have hk : Below w.heap.size w (w.alloc (.cells #[u, u'] 32)) := (Below.refl _ w).alloc (Nat.le_refl _) _
  have h2 : i = 0 ∨ i = 1 := by simp at hi; omega
  rcases h2 with rfl | rfl
  · exact ⟨u, by simp only [World.cell?, Nat.zero_add]; rw [hb]; rfl, h.kept hk⟩
  · exact ⟨u', by simp only [World.cell?, Nat.zero_add]; rw [hb]; rfl, h'.kept hk⟩
theorem crc_0 : crc [0, 0, 0, 0] = 558161692 := by decide +kernel
theorem crc_19 : crc [49, 50, 51, 52, 53, 54, 55, 56, 57] = 3421780262 := by decide +kernel
theorem fr_nil : frF [] = [0, 0, 0, 0, 33, 68, 223, 28] := by
  have h1 : hd [] = [0, 0, 0, 0] := by decide
  unfold frF
  rw [h1, crc_0]
  decide
theorem digits_bok : bok [49, 50, 51, 52] ∧ bok [53, 54, 55, 56, 57] := ⟨fun x hx => by simp at hx; omega, fun x hx => by simp at hx; omega⟩
theorem ksum (w1 : World) : Calls Tryz.prog 126 #[.slice (some ⟨w1.heap.size + 1 + 1, 0, none⟩) 2 2] (((w1.alloc (.cells #[.int .u8 49, .int .u8 50, .int .u8 51, .int .u8 52] 5 (4, 5))).alloc (.cells #[.int .u8 53, .int .u8 54, .int .u8 55, .int .u8 56, .int .u8 57] 5 (5, 6))).alloc (.cells #[.slice (some ⟨w1.heap.size, 0, none⟩) 4 4, .slice (some ⟨w1.heap.size + 1, 0, none⟩) 5 5] 32)) fun e w' =>
    e = .returned (.int .u32 3421780262) ∧ (((w1.alloc (.cells #[.int .u8 49, .int .u8 50, .int .u8 51, .int .u8 52] 5 (4, 5))).alloc (.cells #[.int .u8 53, .int .u8 54, .int .u8 55, .int .u8 56, .int .u8 57] 5 (5, 6))).alloc (.cells #[.slice (some ⟨w1.heap.size, 0, none⟩) 4 4, .slice (some ⟨w1.heap.size + 1, 0, none⟩) 5 5] 32)) = w' := by
  have h1 := (lit_at w1 [49, 50, 51, 52] (4, 5)).kept ((Below.refl _ _).alloc (Nat.le_refl _) (.cells #[.int .u8 53, .int .u8 54, .int .u8 55, .int .u8 56, .int .u8 57] 5 (5, 6)))
  have h2 := lit_at (w1.alloc (.cells #[.int .u8 49, .int .u8 50, .int .u8 51, .int .u8 52] 5 (4, 5))) [53, 54, 55, 56, 57] (5, 6)
  have h3 := sum_any _ _ _ (PAt.two h1 h2) ⟨by simp, fun l hl => by
    simp only [List.mem_cons, List.not_mem_nil, or_false] at hl
    rcases hl with rfl | rfl
    · exact ⟨digits_bok.1, by decide⟩
    · exact ⟨digits_bok.2, by decide⟩⟩
  have h4 : crc [[49, 50, 51, 52], [53, 54, 55, 56, 57]].flatten = 3421780262 := crc_19
  rw [h4] at h3
  simpa [bv] using h3
theorem kbytes (w1 : World) : BAt ((((w1.alloc (.cells #[.int .u8 49, .int .u8 50, .int .u8 51, .int .u8 52] 5 (4, 5))).alloc (.cells #[.int .u8 53, .int .u8 54, .int .u8 55, .int .u8 56, .int .u8 57] 5 (5, 6))).alloc (.cells #[.slice (some ⟨w1.heap.size, 0, none⟩) 4 4, .slice (some ⟨w1.heap.size + 1, 0, none⟩) 5 5] 32)).alloc (.cells #[.int .u8 0, .int .u8 0, .int .u8 0, .int .u8 0, .int .u8 33, .int .u8 68, .int .u8 223, .int .u8 28] 5)) (.slice (some ⟨w1.heap.size + 1 + 1 + 1, 0, none⟩) 8 8) [0, 0, 0, 0, 33, 68, 223, 28] := by
  have h := lit_at (((w1.alloc (.cells #[.int .u8 49, .int .u8 50, .int .u8 51, .int .u8 52] 5 (4, 5))).alloc (.cells #[.int .u8 53, .int .u8 54, .int .u8 55, .int .u8 56, .int .u8 57] 5 (5, 6))).alloc (.cells #[.slice (some ⟨w1.heap.size, 0, none⟩) 4 4, .slice (some ⟨w1.heap.size + 1, 0, none⟩) 5 5] 32)) [0, 0, 0, 0, 33, 68, 223, 28] (0, 0)
  simpa [bv] using h
end Go.Proofs.YtjijgoflbjbnfaaGreat.Fr

namespace Go.Proofs.YtjijgoflbjbnfaaGreat.Fr
open Go.RowKit
variable {F : Fence} {n : Nat} {P : Program}

/-- The blocks of K lie as they lay. -/
def KS (K : Nat → Prop) (W W' : World) : Prop := W.heap.size ≤ W'.heap.size ∧ ∀ k, K k → k < W.heap.size → W'.heap[k]? = W.heap[k]?
theorem KS.refl (K : Nat → Prop) (W : World) : KS K W W := ⟨Nat.le_refl _, fun _ _ _ => rfl⟩
theorem KS.trans {K : Nat → Prop} {X Y Z : World} (h : KS K X Y) (k : KS K Y Z) : KS K X Z := ⟨Nat.le_trans h.1 k.1, fun i h1 h2 => (k.2 i h1 (Nat.lt_of_lt_of_le h2 h.1)).trans (h.2 i h1 h2)⟩
theorem KS.mono {K K' : Nat → Prop} {W W' : World} (h : KS K W W') (hk : ∀ k, K' k → K k) : KS K' W W' := ⟨h.1, fun k h1 h2 => h.2 k (hk k h1) h2⟩
theorem KS.of_below {K : Nat → Prop} {W W' : World} (h : Below W.heap.size W W') : KS K W W' := ⟨h.size, fun k _ h2 => h.block k h2⟩
theorem KS.set {K : Nat → Prop} {W : World} {p : Addr} (h : ¬ K p.block) (u : Value) : KS K W (W.setCell p u) := ⟨by simp [World.setCell], fun k h1 _ => Below.heap_setCell _ _ _ _ (fun e => h (by rw [← e]; exact h1))⟩
theorem KS.put {K : Nat → Prop} (W : World) {l : Nat} (o : Obj) (h : ¬ K l) : KS K W (W.putObj l o) := ⟨by simp, fun k h1 _ => World.putObj_heap_other (fun e => h (by rw [← e]; exact h1))⟩
/-- A frame: where it begins, and its body. -/
abbrev Fr := Nat × List Int

/-- How a round may be left. -/
def oPost (K K' : Nat → Prop) (I : List Fr → World → Prop) (Ix : Code → List Fr → World → Prop) (xs : List Fr) (W : World) : Exit → Act → World → Prop
  | .normal, _, W' => KS K W W' ∧ I xs W'
  | .ret, _, W' => KS K' W W' ∧ Ix .ret xs W'
  | .exit id, _, W' => KS K' W W' ∧ Ix (.exit id) xs W'
  | .goto t, _, W' => KS K' W W' ∧ Ix (.goto t) xs W'
  | .panic _, _, _ => False
  | .outgrown, _, _ => False
/-- An iterator's contract: it gives the frames S, to rounds that leave the blocks of K alone. -/
def OSeq (F : Fence) (n : Nat) (P : Program) (g : Nat) (lb : Array Value) (K : Nat → Prop) (S : List Fr) (w : World) : Prop :=
  ∀ (l : Nat) (J Jx : List Fr → World → Prop) (W : World), Below w.heap.size w W → OwnFrom W.heap.size J → OwnFrom W.heap.size Jx →
    (∀ pre x v W1, J pre W1 → BAt W1 v x.2 → (∃ r, S = pre ++ x :: r) → YieldAt F (n - 1) P l #[.int .i64 (x.1 : Int), v] W1 fun e W' =>
      (e = .returned (.bool true) ∧ J (pre ++ [x]) W' ∧ KS K W1 W') ∨ (e = .returned (.bool false) ∧ Jx (pre ++ [x]) W' ∧ KS (fun k => W.heap.size ≤ k) W1 W')) →
    J [] W →
    CallsIn F n P g (#[.func (.yield l) #[] #[]] ++ lb) W fun e W' => (∃ v, e = .returned v) ∧ (J S W' ∨ (∃ pre, (∃ r, S = pre ++ r) ∧ Jx pre W'))
theorem BAt.put {w : World} {v : Value} {l : List Int} {k : Nat} {r : Loop} {o : Obj} (h : BAt w v l) (hk : w.heap[k]? = some (.loop r)) : BAt (w.putObj k o) v l := by
  obtain ⟨A, cap, h1, h2, h3⟩ := h
  refine ⟨A, cap, h1, h2, fun hp => ?_⟩
  obtain ⟨g, o, h4, h5, h6⟩ := h3 hp
  refine ⟨g, o, h4, by simpa using h5, fun i hi => ?_⟩
  have hne : g ≠ k := fun e => by
    have h7 := h6 i hi
    simp only [World.cell?] at h7
    rw [e, hk] at h7
    cases h7
  have h8 := h6 i hi
  simp only [World.cell?] at h8 ⊢
  rw [World.putObj_heap_other hne]
  exact h8

theorem range_o {g : Operand} {ps : Array Tmp} {assign body : Code} {Q : Exit → Act → World → Prop} {a : Act} {w : World}
    (hro : F.round = none) (h1 : 1 ≤ n) {gf : Nat} {lb : Array Value} (hg : a.eval g = .func (.func gf) #[] lb) (hFg : F.fn gf) (eg : ∀ args w, (callFunc gf args).run P w = .ok (.enter gf args) w)
    {K K' : Nat → Prop} (hKK : ∀ k, w.heap.size ≤ k → K k) (hKK' : ∀ k, w.heap.size ≤ k → K' k) {S : List Fr}
    (hseq : OSeq F (n - 1) P gf lb K S w) (hps : ps.size = 2)
    (I : List Fr → World → Prop) (Ix : Code → List Fr → World → Prop) (hI : OwnFrom w.heap.size I) (hIx : ∀ c, OwnFrom w.heap.size (Ix c)) (h0 : I [] w) (a₁ : Fr → Value → Act)
    (hassign : ∀ (l : Nat) (x : Fr) (v : Value) (W : World) (K : Act → World → Prop), K (a₁ x v) W → assign.wpIn (F.inRound l) (n - 1 - 1) P (Exit.then K (fun _ _ _ => False)) { tmps := (ps.zip #[.int .i64 (x.1 : Int), v]).foldl (fun t (p, v) => t.setIfInBounds p v) a.tmps, defers := [] } W)
    (hbody : ∀ (l : Nat) (pre : List Fr) (x : Fr) (v : Value) (W : World), I pre W → BAt W v x.2 → (∃ r, S = pre ++ x :: r) → body.wpIn (F.inRound l) (n - 1 - 1) P (oPost K K' I Ix (pre ++ [x]) W) (a₁ x v) W)
    (hdone : ∀ (D : Nat) (W : World), w.heap.size ≤ D → I S W → W.heap[D]? = some (.deferred (some [])) → Q .normal { a with defers := { target := .collected D, args := #[] } :: a.defers } W)
    (hstop : ∀ (D : Nat) (c : Code) (pre r : List Fr) (W : World), w.heap.size ≤ D → S = pre ++ r → Ix c pre W → W.heap[D]? = some (.deferred (some [])) → c.wpIn F n P Q { a with defers := { target := .collected D, args := #[] } :: a.defers } W) :
    (Code.rangeFunc g ps assign body).wpIn F n P Q a w := by
  refine wpIn_rangeFunc fun fn hfn => ?_
  rw [hro]
  obtain ⟨D, hD⟩ : ∃ D, D = w.heap.size := ⟨_, rfl⟩
  obtain ⟨rc, hrc⟩ : ∃ rc : LoopState → Option Code → Loop, rc = fun st pe => { state := st, pending := pe, fn, tmps := a.tmps, params := ps, assign, body, defers := w.heap.size } := ⟨_, rfl⟩
  have hpar : ∀ st pe, (rc st pe).params = ps := fun st pe => by rw [hrc]
  obtain ⟨W1, hW1⟩ : ∃ W1, W1 = (w.alloc (.deferred (some []))).alloc (.loop (rc .ready none)) := ⟨_, rfl⟩
  have hsz : W1.heap.size = D + 1 + 1 := by rw [hW1, hD]; simp
  have hL : W1.heap[D + 1]? = some (.loop (rc .ready none)) := by
    have := World.alloc_heap_new (w.alloc (.deferred (some []))) (.loop (rc .ready none))
    rw [World.size_alloc, ← hD] at this
    rw [hW1]; exact this
  have hK : W1.heap[D]? = some (.deferred (some [])) := by
    have := World.alloc_heap_new w (.deferred (some []))
    rw [← hD] at this
    rw [hW1]
    exact (Below.heap_alloc _ _ _ (by simp; omega)).trans this
  have hI1 : I [] W1 := by rw [hW1]; exact hI.alloc _ (hI.alloc _ h0)
  have hb1 : Below w.heap.size w W1 := by rw [hW1]; exact ((Below.refl _ w).alloc (Nat.le_refl _) _).alloc (by simp) _
  refine ⟨D + 1, [{ target := .collected D, args := #[] }], W1, { target := .fn (.func gf) lb, args := #[.func (.yield (D + 1)) #[] #[]] }, W1, gf, #[.func (.yield (D + 1)) #[] #[]] ++ lb, W1, ?_, ?_, ?_, ?_, fun _ => h1, ?_⟩
  · rw [hW1, hrc, hD]; exact run_enterLoop_outer _ _ _ _ _
  · simp only [resolve, hg]
    simp [go_sem]
  · intro f' hf'
    simp [Target.leads] at hf'
    subst hf'
    exact hFg
  · simp [invoke, go_sem, eg]
  -- what is kept beside the caller's own
  have keep : ∀ {A C : World} {row : Option Nat} {k : Nat} {o : Obj}, A.grownBy C row → (∀ r, row = some r → W1.heap.size ≤ r ∧ ∃ o : Obj, A.heap[r]? = some o ∧ o.isCells = false) → k < D + 2 → A.heap[k]? = some o → C.heap[k]? = some o := fun hgr hr hk ho =>
    (hgr.block _ (Array.getElem?_eq_some_iff.1 ho).1 (fun e => by have := (hr _ e.symm).1; omega)).trans ho
  have weak : ∀ {A : World} {row : Option Nat}, (∀ r, row = some r → W1.heap.size ≤ r ∧ ∃ o : Obj, A.heap[r]? = some o ∧ o.isCells = false) → ∀ r, row = some r → w.heap.size ≤ r ∧ ∃ o : Obj, A.heap[r]? = some o ∧ o.isCells = false := fun hr r e => ⟨by have := (hr r e).1; omega, (hr r e).2⟩
  refine (hseq (D + 1)
    (fun pre W => I pre W ∧ W.heap[D + 1]? = some (.loop (rc .ready none)) ∧ W.heap[D]? = some (.deferred (some [])))
    (fun pre W => ∃ c, Ix c pre W ∧ W.heap[D + 1]? = some (.loop (rc .done (some c))) ∧ W.heap[D]? = some (.deferred (some [])))
    W1 hb1
    (fun s A C row hs hgr hr => ⟨hI s A C row hs.1 hgr (weak hr), keep hgr hr (by omega) hs.2.1, keep hgr hr (by omega) hs.2.2⟩)
    (fun s A C row ⟨c, hc, h2, h3⟩ hgr hr => ⟨c, hIx c s A C row hc hgr (weak hr), keep hgr hr (by omega) h2, keep hgr hr (by omega) h3⟩)
    ?_ ⟨hI1, hL, hK⟩).mono ?_
  · -- one round
    rintro pre x v W ⟨hi, hl, hk⟩ hok hfit
    have hlt : D + 1 < W.heap.size := (Array.getElem?_eq_some_iff.1 hl).1
    have hy := run_yield (P := P) (args := #[.int .i64 (x.1 : Int), v]) hl (by rw [hpar, hps]; rfl)
    have hfn' : (rc .ready none).fn = fn := by rw [hrc]
    have hta : (rc .ready none).tmps = a.tmps := by rw [hrc]
    have has : (rc .ready none).assign = assign := by rw [hrc]
    have hbo : (rc .ready none).body = body := by rw [hrc]
    rw [hpar, hfn', hta, has, hbo] at hy
    refine ⟨fn, _, assign, body, hy, roundIn_of_wpIn hfn (hassign _ x v W _ ?_)⟩
    clear hy
    have hst : (rc .ready none).state = .ready := by rw [hrc]
    have hbz : ({ rc .ready none with state := .busy } : Loop) = rc .busy none := by rw [hrc]
    refine ⟨_, run_beginRound hl hst, ?_⟩
    rw [hbz]
    have hl2 : (W.putObj (D + 1) (.loop (rc .busy none))).heap[D + 1]? = some (.loop (rc .busy none)) := World.putObj_heap_same hlt
    have hk2 : (W.putObj (D + 1) (.loop (rc .busy none))).heap[D]? = some (.deferred (some [])) := (World.putObj_heap_other (by omega)).trans hk
    have hi2 : I pre (W.putObj (D + 1) (.loop (rc .busy none))) := hI.putObj _ hi (by omega) hl rfl
    refine wpIn_mono (hbody _ pre x v _ hi2 (hok.put hl) hfit) ?_
    -- the round's end
    have fin : ∀ (j : Option Code) (K0 : Nat → Prop) (W3 : World), (∀ k, w.heap.size ≤ k → K0 k) → KS K0 (W.putObj (D + 1) (.loop (rc .busy none))) W3 →
        (Instr.endRound (D + 1) j).run P W3 = .ok (.bool j.isNone) (W3.putObj (D + 1) (.loop (rc (if j.isNone then .ready else .done) j))) ∧
        W3.heap[D + 1]? = some (.loop (rc .busy none)) ∧
        (W3.putObj (D + 1) (.loop (rc (if j.isNone then .ready else .done) j))).heap[D + 1]? = some (.loop (rc (if j.isNone then .ready else .done) j)) ∧
        (W3.putObj (D + 1) (.loop (rc (if j.isNone then .ready else .done) j))).heap[D]? = some (.deferred (some [])) ∧
        KS (fun k => W1.heap.size ≤ k) W (W3.putObj (D + 1) (.loop (rc (if j.isNone then .ready else .done) j))) := fun j K0 W3 hk0 hk3 => by
      have hl3 : W3.heap[D + 1]? = some (.loop (rc .busy none)) := (hk3.2 _ (hk0 _ (by omega)) (by simp; omega)).trans hl2
      have hk4 : W3.heap[D]? = some (.deferred (some [])) := (hk3.2 _ (hk0 _ (by omega)) (by simp; omega)).trans hk2
      have hr := run_endRound (P := P) j hl3
      have e : ({ rc .busy none with state := if j.isNone then .ready else .done, pending := j } : Loop) = rc (if j.isNone then .ready else .done) j := by rw [hrc]
      rw [e] at hr
      exact ⟨hr, hl3, World.putObj_heap_same (Array.getElem?_eq_some_iff.1 hl3).1, (World.putObj_heap_other (by omega)).trans hk4,
        ((KS.put W _ (by omega)).trans (hk3.mono (fun k hk => hk0 k (by omega)))).trans (KS.put W3 _ (by omega))⟩
    rintro e a3 W3 hp
    cases e with
    | normal =>
      obtain ⟨hk3, hi3⟩ := hp
      obtain ⟨hr, hl3, hl4, hk4, _⟩ := fin none K W3 hKK hk3
      refine ⟨_, _, hr, .inl ⟨rfl, ⟨hI.putObj _ hi3 (by omega) hl3 rfl, hl4, hk4⟩, ?_⟩⟩
      refine ⟨Nat.le_trans (by simpa using hk3.1) (by simp), fun k h2 h3 => ?_⟩
      by_cases hkd : k = D + 1
      · subst hkd; exact hl4.trans hl.symm
      · exact (World.putObj_heap_other hkd).trans ((hk3.2 k h2 (by simpa using h3)).trans (World.putObj_heap_other hkd))
    | ret =>
      obtain ⟨hk3, hi3⟩ := hp
      obtain ⟨hr, hl3, hl4, hk4, hk5⟩ := fin (some .ret) K' W3 hKK' hk3
      exact ⟨_, _, hr, .inr ⟨rfl, ⟨.ret, (hIx _).putObj _ hi3 (by omega) hl3 rfl, hl4, hk4⟩, hk5⟩⟩
    | exit id =>
      obtain ⟨hk3, hi3⟩ := hp
      obtain ⟨hr, hl3, hl4, hk4, hk5⟩ := fin (some (.exit id)) K' W3 hKK' hk3
      exact ⟨_, _, hr, .inr ⟨rfl, ⟨.exit id, (hIx _).putObj _ hi3 (by omega) hl3 rfl, hl4, hk4⟩, hk5⟩⟩
    | goto t =>
      obtain ⟨hk3, hi3⟩ := hp
      obtain ⟨hr, hl3, hl4, hk4, hk5⟩ := fin (some (.goto t)) K' W3 hKK' hk3
      exact ⟨_, _, hr, .inr ⟨rfl, ⟨.goto t, (hIx _).putObj _ hi3 (by omega) hl3 rfl, hl4, hk4⟩, hk5⟩⟩
    | panic ch => exact hp.elim
    | outgrown => exact hp.elim
  · -- behind the iterator
    have hnb : ∀ st pe, st ≠ LoopState.busy → (rc st pe).state ≠ .busy := fun st pe h => by rw [hrc]; exact h
    have hpe : ∀ st pe, (rc st pe).pending = pe := fun st pe => by rw [hrc]
    rintro e W2 ⟨⟨v, rfl⟩, (⟨hi, hl, hk⟩ | ⟨pre, ⟨r, hSp⟩, c, hi, hl, hk⟩)⟩
    · have hr := run_endLoop (P := P) hl (hnb _ _ (by decide))
      rw [hpe] at hr
      rw [hD] at hl hk hr ⊢
      exact ⟨none, _, hr, hdone _ _ (Nat.le_refl _) (hI.putObj _ hi (by omega) hl rfl) ((World.putObj_heap_other (by omega)).trans hk)⟩
    · have hr := run_endLoop (P := P) hl (hnb _ _ (by decide))
      rw [hpe] at hr
      rw [hD] at hl hk hr ⊢
      exact ⟨some c, _, hr, hstop _ c pre r _ (Nat.le_refl _) hSp ((hIx c).putObj _ hi (by omega) hl rfl) ((World.putObj_heap_other (by omega)).trans hk)⟩
end Go.Proofs.YtjijgoflbjbnfaaGreat.Fr
