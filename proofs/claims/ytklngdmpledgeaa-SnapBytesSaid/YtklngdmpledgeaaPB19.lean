/-
  A store under snapshots, step by step. Conditions: a store with room for ten thousand bytes; at most twenty records of at most fifty bytes.
-/
import Derived.Test.YtklngdmpledgeaaPB18
import Derived.Test.YtklngdmpledgeaaPB15
import Derived.Test.YtklngdmpledgeaaIKeys
namespace Go.Proofs.Ytklngdmpledgeaa.Sp
open Go.RowKit Fr Sr

theorem byt_one (k : ByteArray) (v : Value) (l : List Int) : bytL [(k, v, l)] k = l := by simp [bytL]
theorem has_one (k : ByteArray) (v : Value) (l : List Int) : hasL [(k, v, l)] k = true := by simp [hasL]
theorem used_one (k : ByteArray) (v : Value) (l : List Int) : usedL [(k, v, l)] = l.length := by simp [usedL]
/-- The files of one that are alike. -/
theorem alike_one {k : ByteArray} {v : Value} {l : List Int} {L : List Fi} (hk : KeysL L) (h : Sr.Alike [(k, v, l)] L) : ∃ v', L = [(k, v', l)] := by
  have h1 := h k
  rw [has_one, byt_one] at h1
  obtain ⟨x, hx, e⟩ := has_mem.1 h1.1
  have hno : ∀ y ∈ L, y.1 = k := fun y hy => by
    have h2 := (h y.1).1
    rw [has_mem.2 ⟨y, hy, rfl⟩] at h2
    simp only [hasL] at h2
    split at h2
    · rename_i h3; exact h3.symm
    · cases h2
  cases L with
  | nil => cases hx
  | cons y r =>
    cases r with
    | cons z r =>
      have := (List.pairwise_cons.1 hk).1 z List.mem_cons_self
      exact absurd ((hno y List.mem_cons_self).trans (hno z (List.mem_cons_of_mem _ List.mem_cons_self)).symm) this
    | nil =>
      obtain ⟨yk, yv, yl⟩ := y
      have h3 : yk = k := hno _ List.mem_cons_self
      subst h3
      have h4 := h1.2
      rw [byt_one] at h4
      subst h4
      exact ⟨yv, rfl⟩

theorem flat_len {ls : List (List Int)} (h : ∀ l ∈ ls, l.length ≤ 50) : (flat ls).length ≤ 60 * ls.length := by
  induction ls with
  | nil => simp [flat]
  | cons l ls ih =>
    have h1 := ih fun m hm => h m (by simp [hm])
    have h2 := h l (by simp)
    have h3 := (Oc.grp_len l.length).1
    have e : flat (l :: ls) = recB l ++ flat ls := by simp [flat]
    rw [e, List.length_append, List.length_cons]
    unfold recB
    rw [List.length_append]
    omega
/-- Few records of few bytes. -/
structure FewB (ls : List (List Int)) : Prop where
  bok : ∀ l ∈ ls, bok l ∧ l.length ≤ 2000000
  len : ls.length ≤ 20
  tot : tot ls ≤ 1300
  fits : fitsS ls = true
theorem few_ok {ls : List (List Int)} (hb : ∀ l ∈ ls, bok l) : FewB (fewS ls) := by
  have h1 : ∀ l ∈ fewS ls, bok l ∧ l.length ≤ 50 := fun l hl => by
    unfold fewS at hl
    obtain ⟨m, hm, rfl⟩ := List.mem_map.1 hl
    exact ⟨bok_take (hb m (List.mem_of_mem_take hm)) _, by rw [List.length_take]; omega⟩
  have h2 : (fewS ls).length ≤ 20 := by unfold fewS; rw [List.length_map, List.length_take]; omega
  have h3 := flat_len (fun l hl => (h1 l hl).2)
  have h4 := (Oc.grp_len (fewS ls).length).1
  have h5 : Sp.tot (fewS ls) ≤ 1300 := by unfold Sp.tot bodyS; rw [List.length_append]; omega
  exact ⟨fun l hl => ⟨(h1 l hl).1, by have := (h1 l hl).2; omega⟩, h2, h5, decide_eq_true ⟨by omega, by omega⟩⟩
/-- A store that lies from W0 on, below M. -/
def St (W0 : World) (p : Nat) (s : S) (L : List Fi) (M : Nat) (W : World) : Prop := ∃ mb, StR W p s mb L ∧ Below W0.heap.size W0 W ∧ ∀ k, own p mb L k → W0.heap.size ≤ k ∧ k < M
theorem St.below {W0 W W' : World} {p : Nat} {s : S} {L : List Fi} {M : Nat} (h : St W0 p s L M W) (hb : Below W.heap.size W W') : St W0 p s L M W' := by
  obtain ⟨mb, h1, h2, h3⟩ := h
  exact ⟨mb, h1.below hb, h2.trans (hb.mono h2.size), h3⟩
theorem St.bel {W0 W : World} {p : Nat} {s : S} {L : List Fi} {M : Nat} (h : St W0 p s L M W) : Below W0.heap.size W0 W := by
  obtain ⟨mb, h1, h2, h3⟩ := h
  exact h2
theorem St.here {W0 W : World} {p : Nat} {s : S} {L : List Fi} {M : Nat} (h : St W0 p s L M W) : St W0 p s L W.heap.size W := by
  obtain ⟨mb, h1, h2, h3⟩ := h
  exact ⟨mb, h1, h2, fun k hk => ⟨(h3 k hk).1, own_lt h1 hk⟩⟩
theorem St.mv {W0 W W' : World} {p : Nat} {s' : S} {L L' : List Fi} {mb mb' : Option Nat} (h2 : Below W0.heap.size W0 W) (h3 : ∀ k, own p mb L k → W0.heap.size ≤ k) (hm : Mv W W' p mb L s' mb' L') : St W0 p s' L' W'.heap.size W' :=
  ⟨mb', hm.st, h2.trans (hm.off.below h3 h2.size), fun k hk => ⟨(hm.new k hk).elim (h3 k) (fun h => Nat.le_trans h2.size h), own_lt hm.st hk⟩⟩
theorem c_new (W0 : World) (n : Int) (h0 : 0 ≤ n) (h1 : n ≤ 1048576) : Calls Try.prog 14 #[.int .i64 n] W0 fun e W => e = .returned (.tuple #[.pointer (some ⟨W0.heap.size, 0, none⟩), .int .i64 0]) ∧ St W0 W0.heap.size ⟨false, 0, false, n, 0⟩ [] W.heap.size W := by
  refine (Sr.new_any W0 n h0 h1).mono ?_
  rintro e W ⟨rfl, hs, hb, hlt⟩
  refine ⟨rfl, none, hs, hb, fun k hk => ?_⟩
  rcases hk with h | h | ⟨x, hx, _⟩
  · rw [h]; exact ⟨Nat.le_refl _, hlt⟩
  · cases h
  · cases hx
theorem c_save {W0 W : World} {p : Nat} {s : S} {L : List Fi} {M : Nat} (h : St W0 p s L M W) {A : Option Addr} {n c : Nat} {ls : List (List Int)} (hr : RowsA W0 (.slice A n c) ls) (hf : FewB ls) :
    Calls Try.prog 59 #[.pointer (some ⟨p, 0, none⟩), .slice A n c] W fun e W' => e = .returned (.int .i64 (svE s L (encS ls))) ∧ ∃ L', St W0 p (svS s L (encS ls)) L' W'.heap.size W' ∧ Sr.Alike (svL s L (encS ls)) L' := by
  obtain ⟨mb, h1, h2, h3⟩ := h
  refine (save_any h1 (hr.below h2) hf.bok hf.fits (by have := hf.tot; omega)).mono ?_
  rintro e W' ⟨rfl, mb', L', hm, ha⟩
  exact ⟨rfl, L', St.mv h2 (fun k hk => (h3 k hk).1) hm, ha⟩
theorem c_used {W0 W : World} {p : Nat} {s : S} {M : Nat} {v : Value} {bs : List Int} (h : St W0 p s [(ksnap, v, bs)] M W) : s.used = bs.length := by
  obtain ⟨mb, h1, _, _⟩ := h
  rw [h1.used, used_one]
theorem byt_knew (v : Value) (bs : List Int) : bytL [(ksnap, v, bs)] knew = [] := by
  have : ¬ ksnap = knew := by decide
  simp [bytL, this]
/-- Behind a first Save, or one more. -/
theorem c_save1 {W0 W : World} {p : Nat} {s : S} {L : List Fi} {M : Nat} (h : St W0 p s L M W) (hs : s.a = false ∧ s.d = false ∧ s.room = 10000) (hL : (L = [] ∧ s.used = 0) ∨ ∃ v bs, L = [(ksnap, v, bs)] ∧ bs.length ≤ 2000) {A : Option Addr} {n c : Nat} {ls : List (List Int)} (hr : RowsA W0 (.slice A n c) ls) (hf : FewB ls) :
    Calls Try.prog 59 #[.pointer (some ⟨p, 0, none⟩), .slice A n c] W fun e W' => e = .returned (.int .i64 0) ∧ ∃ s' v, St W0 p s' [(ksnap, v, encS ls)] W'.heap.size W' ∧ s'.a = false ∧ s'.d = false ∧ s'.room = 10000 := by
  have hlen := encS_len ls
  have htot := hf.tot
  have hus : s.used ≤ 2000 ∧ ((bytL L knew).length : Int) = 0 := by
    rcases hL with ⟨rfl, hu⟩ | ⟨v, bs, rfl, hb⟩
    · exact ⟨by omega, rfl⟩
    · have := c_used h
      exact ⟨by omega, by rw [byt_knew]; rfl⟩
  obtain ⟨e1, e2, e3, e4, e5⟩ := sv_ok (s := s) (L := L) (bs := encS ls) hs.1 hs.2.1 (by rw [hs.2.2, hus.2]; omega)
  have eL : putL (delL (putL L knew (dv, encS ls)) knew) ksnap (dv, encS ls) = [(ksnap, dv, encS ls)] := by
    have n1 : ¬ ksnap = knew := by decide
    have n2 : ¬ knew = ksnap := by decide
    rcases hL with ⟨rfl, hu⟩ | ⟨v, bs, rfl, hb⟩
    · simp [putL, delL]
    · simp [putL, delL, n1]
  refine (c_save h hr hf).mono ?_
  rintro e W' ⟨rfl, L', hst, hal⟩
  rw [e1]
  rw [e2, eL] at hal
  obtain ⟨mb', hst1, hst2, hst3⟩ := hst
  obtain ⟨v', rfl⟩ := alike_one hst1.keys hal
  exact ⟨rfl, _, v', ⟨mb', hst1, hst2, hst3⟩, e3, e4, by rw [e5, hs.2.2]⟩
theorem c_arm {W0 W : World} {p : Nat} {s : S} {M u : Nat} {v : Value} {bs : List Int} (h : St W0 p s [(ksnap, v, bs)] M W) (hs : s.a = false ∧ s.d = false ∧ s.room = 10000) (hu : u ≤ 1000) :
    Calls Try.prog 25 #[.pointer (some ⟨p, 0, none⟩), .int .i64 (u : Int)] W fun e W' => e = .returned (.tuple #[]) ∧ ∃ s', St W0 p s' [(ksnap, v, bs)] W'.heap.size W' ∧ Ar s' u 10000 := by
  obtain ⟨mb, h1, h2, h3⟩ := h
  refine (Arm_any W p s mb _ (u : Int) h1 (by omega)).mono ?_
  rintro e W' ⟨rfl, hm⟩
  exact ⟨rfl, _, St.mv h2 (fun k hk => (h3 k hk).1) hm, ⟨by simp [armS], rfl, hs.2.1, hs.2.2⟩⟩
/-- Armed: whole, or as it was. -/
theorem c_save2 {W0 W : World} {p : Nat} {s : S} {M u : Nat} {v : Value} {bs : List Int} (h : St W0 p s [(ksnap, v, bs)] M W) (hs : Ar s u 10000) (hb : bs.length ≤ 2000) {A : Option Addr} {n c : Nat} {ls : List (List Int)} (hr : RowsA W0 (.slice A n c) ls) (hf : FewB ls) :
    Calls Try.prog 59 #[.pointer (some ⟨p, 0, none⟩), .slice A n c] W fun e W' => ∃ E, e = .returned (.int .i64 E) ∧ ∃ R, ((E = 0 ∧ R = encS ls) ∨ (E = 14 ∧ R = bs)) ∧ ∃ s' L', St W0 p s' L' W'.heap.size W' ∧ bytL L' ksnap = R := by
  have hlen := encS_len ls
  have htot := hf.tot
  have hu := c_used h
  have hd := sv_die (L := [(ksnap, v, bs)]) (bs := encS ls) hs (by rw [hs.room, byt_knew]; simp; omega)
  have e0 : bytL [(ksnap, v, bs)] ksnap = bs := byt_one _ _ _
  rw [e0] at hd
  refine (c_save h hr hf).mono ?_
  rintro e W' ⟨rfl, L', hst, hal⟩
  refine ⟨_, rfl, bytL L' ksnap, ?_, _, L', hst, rfl⟩
  rw [(hal ksnap).2]
  exact hd
theorem c_load {W0 W : World} {p : Nat} {s : S} {L : List Fi} {M : Nat} {rs : List (List Int)} (h : St W0 p s L M W) (hR : bytL L ksnap = encS rs) (hf : FewB rs) :
    Calls Try.prog 58 #[.pointer (some ⟨p, 0, none⟩)] W fun e W' => ∃ A n c, e = .returned (.tuple #[.slice A n c, .int .i64 0]) ∧ RowsF W.heap.size W' (.slice A n c) rs ∧ St W0 p s L W.heap.size W' ∧ Below W.heap.size W W' := by
  have h0 := h.here
  obtain ⟨mb, h1, h2, h3⟩ := h
  have hl := load_any h1 (by rw [hR]; exact enc_bok hf.bok (by have := hf.len; omega))
  unfold LodR at hl
  obtain ⟨e1, e2⟩ := dec_enc rs hf.fits
  rw [hR, e1, e2, if_pos rfl] at hl
  refine hl.mono ?_
  rintro e W' ⟨⟨A, n, c, rfl, hr⟩, hb⟩
  exact ⟨A, n, c, rfl, hr, h0.below hb, hb⟩
theorem c_rev {W0 W : World} {p : Nat} {s : S} {L : List Fi} {M : Nat} (h : St W0 p s L M W) :
    Calls Try.prog 26 #[.pointer (some ⟨p, 0, none⟩)] W fun e W' => e = .returned (.tuple #[]) ∧ (∃ s', St W0 p s' L W'.heap.size W') ∧ W.heap.size ≤ W'.heap.size ∧ ∀ k, M ≤ k → k < W.heap.size → W'.heap[k]? = W.heap[k]? := by
  obtain ⟨mb, h1, h2, h3⟩ := h
  refine (Revive_any W p s mb L h1).mono ?_
  rintro e W' ⟨rfl, hm⟩
  exact ⟨rfl, ⟨_, St.mv h2 (fun k hk => (h3 k hk).1) hm⟩, hm.off.1.size, fun k hk hlt => hm.off.2 k hlt (fun ho => by have := (h3 k ho).2; omega)⟩
end Go.Proofs.Ytklngdmpledgeaa.Sp

namespace Go.Proofs.Ytklngdmpledgeaa.Sr
open Go.RowKit Go.Maps Go.Sort Fr

set_option maxRecDepth 100000 in
set_option maxHeartbeats 1000000 in
theorem nil_names (w : World) : Calls Try.prog 35 #[.pointer none] w fun e w' => e = .returned (.slice none 0 0) ∧ Below w.heap.size w w' := by
  have HO := orDown_nil w
  have c5 : (w.alloc (blk nilS none)).cell? ⟨w.heap.size, 5, none⟩ = some (.map none) := (blk_cells (nil_blk w)).1.2.2.2.2.2
  have hl := nil_bel w
  generalize w.alloc (blk nilS none) = W at HO c5 hl
  have HL := Lib.hid hl
  have HO := Lib.hid HO
  have HK := Lib.hid (Try.maps_Keys_79 none W)
  have HS := Lib.hid (Try.slices_Sorted_keys_nil_78_79 W)
  clear hl
  refine (callsIn_wide (n := 6)).1 ?_
  have hfK : Fence.wide.fn 79 := trivial
  have hfS : Fence.wide.fn 78 := trivial
  have hfO : Fence.wide.fn 75 := trivial
  refine callsIn_of_wp Try.func35 rfl trivial ?_ rfl
  simp only [Try.ntmps35, List.size_toArray, List.length_cons, List.length_nil, Nat.reduceAdd, Nat.reduceSub, Array.replicate_succ, Array.replicate_zero, List.push_toArray, List.append_toArray, List.nil_append, List.cons_append]
  gi_wp2_with (first
    | (gi_at_call 75; refine (callsIn_wide.2 HO.out).mono ?_; rintro e w' ⟨rfl, rfl⟩)
    | (gi_at_call 79; refine HK.out.mono ?_; rintro e w' ⟨rfl, rfl⟩)
    | (gi_at_call 78; refine HS.out.mono ?_; rintro e w2 ⟨v, ss, rfl, hS, hrow, hnil, hb⟩))
  go_ret
  exact ⟨by rw [hnil.2 hS]; rfl, HL.out.trans (((Below.refl _ _).alloc HL.out.size _).trans (hb.mono (by have := HL.out.size; simp; omega)))⟩
end Go.Proofs.Ytklngdmpledgeaa.Sr
