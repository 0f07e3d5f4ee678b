/-
  The law's Same at a store and a reference that go together. Conditions: at most 990 files, names of at most twelve bytes, 100000 bytes.
-/
import Derived.Test.YtffeinbbgfogoaaSM5
namespace Go.Proofs.Ytffeinbbgfogoaa.Sr
open Go.RowKit Go.Maps Go.Sort Fr

theorem own_bel {w w' : World} {base : Nat} {e : TypeId} {size n : Nat} {v : Value} {xs : List Value} (h : w.ownsRow base e size v n xs) (hb : Below w.heap.size w w') : w'.ownsRow base e size v n xs :=
  h.kept (row := none) ⟨hb.os, hb.tape, hb.output, hb.size, fun i hi _ => hb.block i hi⟩ (by
    rcases hv : v.ownBlock with _ | g
    · exact .inl rfl
    · exact .inr (by simp))
theorem sv_snoc (L : List ByteArray) (k : ByteArray) : sv (L ++ [k]) = sv L ++ [.string k] := by simp [sv]
set_option maxRecDepth 100000 in
set_option maxHeartbeats 4000000 in
theorem lsame_any {w : World} {p q : Nat} {s : S} {mb : Option Nat} {L : List Fi} {x : RS} (hS : StR w p s mb L) (hR : RfR w q x) (hr : Rl s x) (ha : Alike x.D L) (hl : x.D.length ≤ 990) (hk : ∀ y ∈ x.D, y.1.size ≤ 12) (hu : usedL x.D ≤ 100000) :
    Calls Try.prog 25 #[.pointer (some ⟨p, 0, none⟩), .pointer (some ⟨q, 0, none⟩)] w fun e w' => e = .returned (.bool true) ∧ Below w.heap.size w w' := by
  obtain ⟨i0, hi0, hz0, hz1, hz2⟩ := info_parts strInf
  have HS := Lib.hid hS
  have HR := Lib.hid hR
  have HAL := Lib.hid ha
  have hlen : L.length = x.D.length := (len_alike hR.srt.keys hS.keys ha).symm
  have hkL : ∀ y ∈ L, y.1.size ≤ 12 := (good_alike (n := 990) ⟨hR.srt.keys, hl, hk⟩ hS.keys ha).2.2
  have hnm : nmL L = nmsD x.D := by rw [← nmL_alike hR.srt.keys hS.keys ha, nmL_srt hR.srt]
  have HNM : Hid (∀ W, Below w.heap.size w W → Calls Try.prog 31 #[.pointer (some ⟨p, 0, none⟩)] W fun e w' => NmTo W w' L e) := fun W hW => names_any (hS.below hW) (by omega) hkL
  have hnt : ∀ W w' e, NmTo W w' L e → ∃ A c, e = .returned (.slice A x.D.length c) ∧ SRd w' A (nmsD x.D) ∧ Below W.heap.size W w' := fun W w' e h => by
    unfold NmTo at h
    rw [hnm] at h
    have e1 : (nmsD x.D).length = x.D.length := by simp [nmsD]
    rw [e1] at h; exact h
  have HNT := Lib.hid hnt
  have HUS : Hid (∀ W, Below w.heap.size w W → Calls Try.prog 30 #[.pointer (some ⟨p, 0, none⟩)] W fun e w' => e = .returned (.int .i64 s.used) ∧ W = w') := fun W hW => used_own W p s mb (hS.below hW).blk
  have HDN : Hid (∀ W, Below w.heap.size w W → Calls Try.prog 29 #[.pointer (some ⟨p, 0, none⟩)] W fun e w' => e = .returned (.bool s.d) ∧ W = w') := fun W hW => down_own W p s mb (hS.below hW).blk
  have HUR : Hid (∀ W, Below w.heap.size w W → Calls Try.prog 51 #[.pointer (some ⟨q, 0, none⟩)] W fun e w' => e = .returned (.int .i64 s.used) ∧ W = w') := fun W hW => by rw [hr.used]; exact rused_any (hR.below hW) (by omega)
  have HC3 : Hid (∀ W, Below w.heap.size w W → W.cell? ⟨q, 3, none⟩ = some (.bool s.d)) := fun W hW => by rw [← hr.dn]; exact (rblk_cells (hR.below hW).blk).1.2.2.2
  have HRD : Hid (∀ W (i : Nat) (y : Fi), Below w.heap.size w W → x.D[i]? = some y → Calls Try.prog 24 #[.pointer (some ⟨p, 0, none⟩), .string y.1] W fun e w' => ∃ A n c, e = .returned (.tuple #[.slice A n c, .bool true]) ∧ BAt w' (.slice A n c) y.2.2 ∧ Below W.heap.size W w') := fun W i y hW hy => by
    obtain ⟨m1, m2⟩ := mem_val hR.srt.keys (List.mem_of_getElem? hy)
    refine (read_any W p s mb L y.1 (hS.below hW)).mono ?_
    rintro e w' ⟨A, n, c, rfl, _, ho, hb⟩
    rw [(ha y.1).2, m2] at ho
    exact ⟨A, n, c, by rw [(ha y.1).1, m1], BAt.of_own ho, hb⟩
  have HCE : Hid (∀ (i : Nat) (y : Fi), x.D[i]? = some y → ∃ g cap A m c, ∀ W, Below w.heap.size w W → W.cell? ⟨q, 0, none⟩ = some (.slice (some ⟨g, 0, none⟩) x.D.length cap) ∧ W.cell? ⟨g, i * 2, none⟩ = some (.string y.1) ∧ W.cell? ⟨g, i * 2 + 1, none⟩ = some (.slice A m c) ∧ BAt W (.slice A m c) y.2.2) := fun i y hy => by
    have hlt := (List.getElem?_eq_some_iff.1 hy).1
    obtain ⟨g, cap, hg⟩ := Go.Joins.ownsRow_form hR.row (by omega)
    obtain ⟨A, c, hA, _⟩ := hR.bts y (List.mem_of_getElem? hy)
    refine ⟨g, cap, A, y.2.2.length, c, fun W hW => ?_⟩
    have h2 := hR.below hW
    have h3 := h2.row
    have hcg := fc_get x.D i y hy
    rw [hg] at h3
    refine ⟨by rw [← hg]; exact (rblk_cells h2.blk).1.1, (h3.cellAt (i * 2) (by omega)).trans hcg.1, (h3.cellAt (i * 2 + 1) (by omega)).trans (hcg.2.trans (by rw [hA])), ?_⟩
    rw [← hA]; exact h2.bts y (List.mem_of_getElem? hy)
  have HSV : Hid (∃ sA sc, x.sv = .slice sA x.D.length sc) := by
    rcases Go.Joins.ownsRow_forms hR.row with ⟨h1, h0⟩ | ⟨g, cap, h1⟩
    · exact ⟨none, 0, by rw [h1, h0]⟩
    · exact ⟨_, cap, h1⟩
  have HBY : Hid (∀ y ∈ x.D, y.2.2.length ≤ 100000) := fun y hy => by
    have := byt_used x.D y.1
    rw [(mem_val hR.srt.keys hy).2] at this
    omega
  obtain ⟨sA, sc, hsv⟩ := HSV.out
  have HC0 : Hid (∀ W, Below w.heap.size w W → W.cell? ⟨q, 0, none⟩ = some (.slice sA x.D.length sc)) := fun W hW => by rw [← hsv]; exact (rblk_cells (hR.below hW).blk).1.1
  obtain ⟨N, hN⟩ : ∃ N, N = x.D.length := ⟨_, rfl⟩
  obtain ⟨d, hd⟩ : ∃ d, d = s.d := ⟨_, rfl⟩
  obtain ⟨u, huu⟩ : ∃ u, u = s.used := ⟨_, rfl⟩
  rw [← hN] at HNT HCE HC0 hl
  rw [← hd] at HDN HC3
  rw [← huu] at HUS HUR
  have HNN := Lib.hid hN
  clear hS hR hr ha hlen hkL hnm hnt hk hu hsv hN hd huu HSV
  go_enter Try.func25, Try.ntmps25
  go_wp2
  go_loopg [5, 6, 7, 8] N (fun (gh : Nat) s5 s6 s7 s8 wx => ∃ i : Nat, gh = N - i ∧ i ≤ N ∧ s6 = .int .i64 (i : Int) ∧ s7 = s7 ∧ s8 = s8 ∧ Hid (wx.ownsRow w.heap.size 9 1 s5 i (sv ((nmsD x.D).take i)) ∧ Below w.heap.size w wx))
  case atStart => exact ⟨0, rfl, Nat.zero_le _, rfl, rfl, rfl, World.ownsRow_nil _ _ _ _, Below.refl _ _⟩
  case round =>
    obtain ⟨i, rfl, him, rfl, _, _, hinv⟩ := hrel
    by_cases hlt : i < N
    · obtain ⟨y, hy⟩ : ∃ y, x.D[i]? = some y := ⟨_, List.getElem?_eq_getElem (by rw [← HNN.out]; exact hlt)⟩
      obtain ⟨g, cap, A, m, c, hce⟩ := HCE.out i y hy
      have HCC := Lib.hid hce
      have HO := Lib.hid hinv.out.1
      have HB := Lib.hid hinv.out.2
      have HY := Lib.hid hy
      obtain ⟨c0, c1, c2, _⟩ := hce wr HB.out
      have t1 : (i : Int) < (N : Int) := by omega
      have t2 : (0 : Int) ≤ (i : Int) := by omega
      have HTK : Hid (sv ((nmsD x.D).take (i + 1)) = sv ((nmsD x.D).take i) ++ [.string y.1]) := by
        show _ = _
        have h1 : (nmsD x.D)[i]? = some y.1 := by unfold nmsD; rw [List.getElem?_map, HY.out]; rfl
        obtain ⟨h2, h3⟩ := List.getElem?_eq_some_iff.1 h1
        rw [List.take_succ_eq_append_getElem h2, h3, sv_snoc]
      have hyl := HBY.out y (List.mem_of_getElem? hy)
      obtain ⟨ys, hys⟩ : ∃ ys, ys = y.1 := ⟨_, rfl⟩
      have HRD2 : Hid (∀ W, Below w.heap.size w W → Calls Try.prog 24 #[.pointer (some ⟨p, 0, none⟩), .string ys] W fun e w' => ∃ A n c, e = .returned (.tuple #[.slice A n c, .bool true]) ∧ BAt w' (.slice A n c) y.2.2 ∧ Below W.heap.size W w') := fun W hW => by rw [hys]; exact HRD.out W i y hW HY.out
      rw [← hys] at c1 HTK HCC
      have hlb : y.2.2.length ≤ 2000000 := by omega
      clear hce hinv hy hys hyl
      go_wp2_with (first
        | (go_at_call 28; (with_reducible refine (same_eq w4 _ _ y.2.2 HV4.out (HCC.out w4 HB4.out).2.2.2 hlb).mono ?_); rintro e w5 ⟨rfl, hb5⟩; have HO5 := Lib.hid (own_bel HO4.out hb5); have HB5 := Lib.hid (HB4.out.trans (hb5.mono HB4.out.size)); clear hb5)
        | (go_at_call 24; (with_reducible refine (HRD2.out w3 HB3.out).mono ?_); rintro e w4 ⟨A4, n4, c4, rfl, hv4, hb4⟩; have HV4 := Lib.hid hv4; have HB4 := Lib.hid (HB3.out.trans (hb4.mono HB3.out.size)); have HO4 := Lib.hid (own_bel HO3.out hb4); obtain ⟨e0, e1, e2, _⟩ := HCC.out w4 HB4.out; clear hv4 hb4)
        | (at_builtin; refine wpList_append_own _ rfl _ _ 54 rfl w.heap.size 9 i0 _ 1 16 Try.underlying54 hi0 hz0 hz1 hz2 rfl (by decide) _ _ _ rfl (HO.out.alloc _) ⟨wr.heap.size, 0, none⟩ 1 1 [.string ys] rfl rfl (World.news_of_block (cs := #[.string ys]) (t := 9) (fr := (0, 0)) (heap_alloc_new wr _)) (by simp [Value.oneCell']) (by unfold maxLen; omega) (by omega) (by have := HB.out.size; simp; omega) ?_; intro v3 w3 hown3 hg3 hnil3; have HO3 := Lib.hid hown3; have HB3 := Lib.hid ((HB.out.alloc HB.out.size _).grown hg3 (by have := HB.out.size; simp; omega) (fun j hj => by have := (HO.out.lt j hj).1; omega)); obtain ⟨d0, d1, d2, _⟩ := HCC.out w3 HB3.out; clear hown3 hg3 hnil3))
      go_roundg (N - (i + 1))
      case measure => omega
      case rel => exact ⟨i + 1, rfl, by omega, by go_num, trivial, trivial, by rw [HTK.out]; exact HO5.out, HB5.out⟩
    · obtain rfl : i = N := by omega
      have HB := Lib.hid hinv.out.2
      obtain ⟨A1, c1, rfl, hrd⟩ : ∃ A1 c1, u5 = .slice A1 i c1 ∧ SRd wr A1 (nmsD x.D) := by
        have h1 := hinv.out.1
        have e1 : (nmsD x.D).length = i := by rw [HNN.out]; simp [nmsD]
        rw [List.take_of_length_le (by omega), ← e1] at h1
        obtain ⟨A1, c1, h2, h3⟩ := own_strs h1
        rw [e1] at h2
        exact ⟨A1, c1, h2, h3⟩
      have HA1 := Lib.hid hrd
      have c3 := HC3.out wr HB.out
      have HC6 : Hid (wr.drew.cell? ⟨q, 3, none⟩ = some (.bool d)) := (show wr.cell? _ = _ from c3)
      have e0 := HC0.out wr HB.out
      have b0 : Hid (Below w.heap.size w wr.drew) := HB.out.drew
      have hsm : ∀ W A c A' c', SRd W A (nmsD x.D) → SRd W A' (nmsD x.D) → Calls Try.prog 63 #[.slice A i c, .slice A' i c'] W fun e w' => e = .returned (.bool true) ∧ Below W.heap.size W w' := fun W A c A' c' h h' => by
        have e1 : (nmsD x.D).length = i := by rw [HNN.out]; simp [nmsD]
        have := same_strs W A A' c c' (nmsD x.D) h h' (by omega)
        rw [e1] at this; exact this
      have HSM := Lib.hid hsm
      have b1 : (u == u) = true := by simp
      have b2 : (d == d) = true := by simp
      clear hinv hrd hsm
      go_wp2
      go_region_held3 (fun w' => w'.cell? ⟨q, 3, none⟩ = some (.bool d))
        (first | (with_reducible exact HC6.out) | (with_reducible exact HC8.out) | (with_reducible exact HC7.out) | go_keep)
        (first
          | (go_at_call 63; refine (HSM.out w7 _ _ _ _ HN7.out HA7.out).mono ?_; rintro e w8 ⟨rfl, hb⟩; have HB8 := Lib.hid (HB7.out.trans (hb.mono HB7.out.size)); have HC8 := Lib.hid (HC3.out w8 HB8.out); clear hb)
          | (go_at_call 31; refine (HNM.out wr.drew b0.out).mono ?_; rintro e w7 hnm7; obtain ⟨A7, c7, rfl, hs7, hb7⟩ := HNT.out wr.drew w7 e hnm7; have HB7 := Lib.hid (b0.out.trans (hb7.mono b0.out.size)); have HN7 := Lib.hid hs7; have HA7 := Lib.hid (SRd.below (SRd.below HA1.out (Below.refl _ _).drew) hb7); have HC7 := Lib.hid (HC3.out w7 HB7.out); clear hs7 hb7 hnm7)
          | (go_at_call 51; refine (HUR.out w8 HB8.out).mono ?_; rintro e w' ⟨rfl, rfl⟩)
          | (go_at_call 30; refine (HUS.out w8 HB8.out).mono ?_; rintro e w' ⟨rfl, rfl⟩)
          | (go_at_call 29; refine (HDN.out w8 HB8.out).mono ?_; rintro e w' ⟨rfl, rfl⟩))
      all_goals
        go_wp2
        go_ret
        exact ⟨rfl, HB8.out⟩
end Go.Proofs.Ytffeinbbgfogoaa.Sr
