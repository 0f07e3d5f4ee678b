/-
  The contract of Get. Conditions: at most a thousand rows.
-/
import Derived.Test.YtganokcmcdkdgaaGreatPZ1
import Derived.Test.YtganokcmcdkdgaaGreatPZ4
namespace Go.Proofs.YtganokcmcdkdgaaGreat.Tb.Is
open Go.RowKit

def zv : V := ByteArray.empty
def zk : K := (0 : Int)
def getL (l : List R) (k : K) : V := match l[pl l k]? with | some r => if r.1 = k then r.2 else zv | none => zv
theorem getL_has (l : List R) (k : K) (h : hasB l k = true) : l[pl l k]? = some (k, getL l k) := by
  obtain ⟨_, v, hv⟩ := has_lt l k h
  rw [hv]
  unfold getL
  rw [hv]
  simp
theorem getL_not (l : List R) (k : K) (h : hasB l k = false) : getL l k = zv := by
  unfold hasB at h
  unfold getL
  cases e : l[pl l k]? with
  | none => rfl
  | some r =>
    rw [e] at h
    have : ¬ r.1 = k := by simpa using h
    simp [this]

set_option maxRecDepth 100000 in
set_option maxHeartbeats 1000000 in
theorem get_any (w : World) (p : Option Addr) (l : List R) (k : K) (h : TabR w p l) (ha : asc l) (hn : l.length ≤ 1000) :
    Calls Tryz.prog 97 #[.pointer p, ek k] w fun e w' => e = .returned (.tuple #[ev (getL l k), .bool (hasB l k)]) ∧ Below w.heap.size w w' := by
  have hf := find_any w p l k h ha hn
  cases hh : hasB l k
  · have hg := getL_not l k hh
    rw [hh] at hf
    have HF := Lib.hid hf
    have HG := Lib.hid hg
    clear hf hg hh ha h
    go_enter Tryz.func97, Tryz.ntmps97
    go_wp2_with (go_at_call 99; refine HF.out.mono ?_; rintro e w' ⟨rfl, hb⟩)
    go_ret2
    rw [HG.out]
    exact ⟨rfl, hb⟩
  · have hg := getL_has l k hh
    have hlt := (has_lt l k hh).1
    rw [hh] at hf
    rcases h with ⟨rfl, rfl⟩ | ⟨b, v, rfl, hbl, hc, hr⟩
    · simp at hlt
    · obtain ⟨A, cap, rfl, _, _, h3⟩ := hr
      rcases h3 with ⟨rfl, rfl⟩ | ⟨g, o, rfl, hg0, hcell⟩
      · simp at hlt
      have hce := hcell _ _ hg
      have HF := Lib.hid hf
      have HC := Lib.hid hc
      have HCE := Lib.hid hce
      clear hf hg hh ha hc hce hcell
      go_enter Tryz.func97, Tryz.ntmps97
      go_wp2_with (go_at_call 99; refine HF.out.mono ?_; rintro e w' ⟨rfl, hb⟩; have c0 := (hb.cell (p := ⟨b, 4, none⟩) hbl).trans HC.out; have c1 := (hb.cell (p := ⟨g, o + pl l k * 2, none⟩) hg0).trans HCE.out.1; have c2 := (hb.cell (p := ⟨g, o + pl l k * 2 + 1, none⟩) hg0).trans HCE.out.2)
      go_ret2
      exact ⟨rfl, hb⟩

end Go.Proofs.YtganokcmcdkdgaaGreat.Tb.Is

namespace Go.Proofs.YtganokcmcdkdgaaGreat.Wi.S
open Go.RowKit Tb

abbrev E := ByteArray
def el (x : E) : Value := Value.string x
def cl (l : List E) : List Value := l.map el
theorem cl_len (l : List E) : (cl l).length = l.length := by simp [cl]
theorem cl_app (l m : List E) : cl (l ++ m) = cl l ++ cl m := by simp [cl]
theorem cl_one (l : List E) : ∀ u ∈ cl l, u.oneCell' = true := fun u h => by
  obtain ⟨x, _, rfl⟩ := List.mem_map.1 h; rfl
theorem cl_get {l : List E} {j : Nat} {u : Value} (h : (cl l)[j]? = some u) : ∃ x, l[j]? = some x ∧ u = el x := by
  unfold cl at h
  rw [List.getElem?_map] at h
  obtain ⟨x, hx, rfl⟩ := Option.map_eq_some_iff.1 h
  exact ⟨x, hx, rfl⟩
theorem elInf : (Tryz.prog.info? 9).map (fun i => (i.zero, i.size, i.bytes)) = some (some (.string ByteArray.empty), 1, 16) := by kernel_rfl

/-- The slice value reads as the list. -/
def At (w : World) (v : Value) (l : List E) : Prop :=
  ∃ A cap, v = .slice A l.length cap ∧ l.length ≤ cap ∧ (0 < l.length → ∃ g o, A = some ⟨g, o, none⟩ ∧ g < w.heap.size ∧ ∀ i x, l[i]? = some x → w.cell? ⟨g, o + i, none⟩ = some (el x))
/-- A row of the call's own. -/
abbrev rowOf (w : World) (base : Nat) (v : Value) (l : List E) : Prop := w.ownsRow base 9 1 v l.length (cl l)
theorem At.of_own {w : World} {base : Nat} {v : Value} {l : List E} (h : rowOf w base v l) : At w v l := by
  rcases h.2 with ⟨h1, h2⟩ | ⟨g, cap, cur, h1, _, h3, h4, _⟩
  · exact ⟨none, 0, by rw [h1, h2], by omega, fun h => by omega⟩
  · refine ⟨_, cap, h1, h4, fun _ => ⟨g, 0, rfl, (Array.getElem?_eq_some_iff.1 h3).1, fun i x hi => ?_⟩⟩
    have := h.cells (g := g) (by rw [h1]; rfl) i (el x) (by unfold cl; rw [List.getElem?_map, hi]; rfl)
    rw [show (Addr.mk g 0 none).add i = ⟨g, 0 + i, none⟩ by unfold Addr.add; split <;> simp_all] at this
    exact this
theorem At.keep {w w' : World} {v : Value} {l : List E} {S : Nat → Prop} (h : At w v l) (hk : Kept S w w') (hs : ∀ a n c, v = .slice (some a) n c → ¬ S a.block) : At w' v l := by
  obtain ⟨A, cap, h1, h2, h3⟩ := h
  refine ⟨A, cap, h1, h2, fun hp => ?_⟩
  obtain ⟨g, o, h4, h5, h6⟩ := h3 hp
  refine ⟨g, o, h4, Nat.lt_of_lt_of_le h5 hk.size, fun i x hi => ?_⟩
  exact (World.cell?_of_block (w := w) (a := ⟨g, o + i, none⟩) (hk.block g h5 (hs _ _ _ (by rw [h1, h4])))).trans (h6 i x hi)
theorem At.below {w w' : World} {v : Value} {l : List E} (h : At w v l) (hb : Below w.heap.size w w') : At w' v l :=
  h.keep (Kept.of_below (S := fun _ => False) hb) (fun _ _ _ _ h => h)
theorem At.form {w : World} {v : Value} {l : List E} (h : At w v l) : ∃ A cap, v = .slice A l.length cap := by
  obtain ⟨A, cap, h1, _⟩ := h
  exact ⟨A, cap, h1⟩
theorem at_cells {w : World} {A : Option Addr} {n cap : Nat} {l : List E} (h : At w (.slice A n cap) l) {a : Addr} (ha : A = some a) : ∀ j u, (cl l)[j]? = some u → w.cell? (a.add j) = some u := by
  intro j u hu
  obtain ⟨x, hx, rfl⟩ := cl_get hu
  obtain ⟨A', cap', h1, _, h3⟩ := h
  cases h1
  obtain ⟨g, o, h4, h5, h6⟩ := h3 (by have := (List.getElem?_eq_some_iff.1 hx).1; omega)
  rw [ha] at h4
  cases h4
  rw [show (Addr.mk g o none).add j = ⟨g, o + j, none⟩ by unfold Addr.add; split <;> simp_all]
  exact h6 j x hx
/-- A part of a slice. -/
theorem At.part {w : World} {A : Option Addr} {n cap : Nat} {l : List E} (h : At w (.slice A n cap) l) (i k : Nat) (hi : i + k ≤ l.length) (A' : Option Addr) (hA : ∀ g o, A = some ⟨g, o, none⟩ → 0 < k → A' = some ⟨g, o + i, none⟩) (c : Nat) (hc : k ≤ c) : At w (.slice A' k c) ((l.drop i).take k) := by
  obtain ⟨A1, cap1, h1, h2, h3⟩ := h
  cases h1
  have hl : ((l.drop i).take k).length = k := by rw [List.length_take, List.length_drop]; omega
  refine ⟨A', c, by rw [hl], by rw [hl]; exact hc, fun hp => ?_⟩
  rw [hl] at hp
  obtain ⟨g, o, h4, h5, h6⟩ := h3 (by omega)
  refine ⟨g, o + i, hA g o h4 hp, h5, fun j x hj => ?_⟩
  rw [List.getElem?_take] at hj
  split at hj
  · rw [List.getElem?_drop] at hj
    rw [Nat.add_assoc]
    exact h6 _ x hj
  · cases hj

/-- Things from anywhere behind a row of the call's own. -/
theorem app_any (w : World) (base : Nat) (v : Value) (l : List E) (hown : rowOf w base v l) (x : Value) (m : List E) (hx : At w x m) (hb : l.length + m.length ≤ 100000) (hbase : base ≤ w.heap.size) :
    ∃ A cap w', (∀ ty, (Builtin.append_ #[87, 87] ty #[v, x]).run Tryz.prog w = .ok (.slice A (l.length + m.length) cap) w') ∧ rowOf w' base (.slice A (l.length + m.length) cap) (l ++ m) ∧ w.grownBy w' v.ownBlock ∧ Nw w v (.slice A (l.length + m.length) cap) := by
  obtain ⟨i0, hi0, hz0, hz1, hz2⟩ := info_parts elInf
  obtain ⟨A, cap, rfl, _, hc⟩ := id hx
  cases A with
  | none =>
    have h0 : m = [] := by
      cases m with
      | nil => rfl
      | cons y r => obtain ⟨g, o, h1, _⟩ := hc (by simp); cases h1
    subst h0
    obtain ⟨A1, c1, h1, _⟩ := own_form hown
    refine ⟨A1, c1, w, fun ty => ?_, ?_, ⟨rfl, rfl, rfl, Nat.le_refl _, fun _ _ _ => rfl⟩, ?_⟩
    · show _ = Result.ok (Value.slice A1 l.length c1) w
      rw [← h1]
      rcases hown.2 with ⟨h4, _⟩ | ⟨g, cap3, cur, h4, _, _, hnc, _⟩
      · rw [h4]
        simp [Builtin.append_, run_underlying Tryz.underlying87, sizeOf, typeInfo, hi0, Builtin.lenOf, Builtin.firstCells]
      · rw [h4]
        simp [Builtin.append_, run_underlying Tryz.underlying87, sizeOf, typeInfo, hi0, Builtin.lenOf, Builtin.firstCells, hnc, storeCells]
    · rw [h1] at hown
      rw [List.append_nil]
      exact hown
    · rw [h1]; exact Nw.refl _ _
  | some a =>
    obtain ⟨v', w', hr, ho, hg, _, hat⟩ := run_append_own_at (P := Tryz.prog) w base 87 87 9 i0 (.string ByteArray.empty) 1 16 Tryz.underlying87 hi0 hz0 hz1 hz2 rfl (by decide) v l.length (cl l) hown a m.length cap (cl m) (by rw [cl_len, Nat.mul_one]) (at_cells hx rfl) (cl_one _) (by unfold maxLen; omega) (by omega) hbase
    rw [← cl_app] at ho
    have ho2 : rowOf w' base v' (l ++ m) := by unfold rowOf; rw [List.length_append]; exact ho
    obtain ⟨A1, c1, h1, _⟩ := own_form ho2
    rw [List.length_append] at h1
    subst h1
    refine ⟨A1, c1, w', fun ty => hr, ho2, hg, fun i hi => ?_⟩
    rcases hat with h2 | h2
    · exact .inl (h2.symm.trans hi)
    · rw [h2] at hi; cases hi; exact .inr (Nat.le_refl _)

set_option maxRecDepth 100000 in
theorem clone_any (w : World) (v : Value) (l : List E) (h : At w v l) (hl : l.length ≤ 100000) :
    Calls Tryz.prog 90 #[v] w fun e w' => ∃ A c, e = .returned (.slice A l.length c) ∧ rowOf w' w.heap.size (.slice A l.length c) l ∧ Below w.heap.size w w' := by
  obtain ⟨A, cap, rfl, _, hc⟩ := id h
  have q22 : ∀ (w : World) (a : Option Addr) (n c n' c' : Nat), (binOp .eql 87 (.slice a n c) (.slice none n' c')).run Tryz.prog w = .ok (.bool a.isNone) w := fun w a n c n' c' => Lib.run_eql_slice_nil w _ _ a n c n' c' Tryz.underlying87
  obtain ⟨n, hn⟩ : ∃ n, n = l.length := ⟨_, rfl⟩
  have HN := Lib.hid hn
  have H := Lib.hid h
  rw [← hn] at hc hl ⊢
  cases A with
  | none =>
    have h0 : l = [] := by
      cases l with
      | nil => rfl
      | cons x r => obtain ⟨g, o, h1, _⟩ := hc (by rw [hn]; simp); cases h1
    have hn0 : n = 0 := by rw [hn, h0]; rfl
    subst hn0
    have HO : Hid (rowOf w w.heap.size (.slice none 0 0) l) := by
      show World.ownsRow _ _ _ _ _ _ _
      rw [h0]; exact World.ownsRow_nil _ _ _ _
    clear hn hc h
    go_enter Tryz.func90, Tryz.ntmps90
    go_wp2
    go_ret
    exact ⟨_, _, rfl, HO.out, Below.refl _ _⟩
  | some a =>
    have HA : Hid (∃ A1 c1 w1, (∀ ty, (Builtin.append_ #[87, 87] ty #[.slice (some ⟨w.heap.size, 0, none⟩) 0 0, .slice (some a) n cap]).run Tryz.prog (w.alloc (.cells #[] 9)) = .ok (.slice A1 n c1) w1) ∧ rowOf w1 w.heap.size (.slice A1 n c1) l ∧ Below w.heap.size w w1) := by
      have h1 : At (w.alloc (.cells #[] 9)) (.slice (some a) n cap) l := by rw [hn]; exact h.below ((Below.refl _ w).alloc (Nat.le_refl _) _)
      obtain ⟨A1, c1, w1, hr, ho, hg, _⟩ := app_any (w.alloc (.cells #[] 9)) w.heap.size (.slice (some ⟨w.heap.size, 0, none⟩) 0 0) [] (World.ownsRow_made w #[] 0 (Nat.le_refl _) (Nat.zero_le _) rfl) _ l h1 (by simp; omega) (by simp)
      simp only [List.length_nil, Nat.zero_add, List.nil_append] at hr ho
      refine ⟨A1, c1, w1, by rw [← hn] at hr; exact hr, by rw [hn]; exact ho, ?_⟩
      exact ((Below.refl _ w).alloc (Nat.le_refl _) _).grown hg (by simp) (by intro k hk; have hk2 : w.heap.size = k := Option.some.inj hk; omega)
    obtain ⟨A1, c1, w1, hr, ho, hb⟩ := HA.out
    have HO := Lib.hid ho
    have HB := Lib.hid hb
    clear hn hc h HA ho hb
    go_enter Tryz.func90, Tryz.ntmps90
    go_wp2_with (at_builtin; refine wpList_app_run _ rfl _ _ 87 rfl (.slice (some ⟨w.heap.size, 0, none⟩) 0 0) (.slice (some a) n cap) rfl rfl (.slice A1 n c1) w1 (hr _) ?_)
    go_ret
    exact ⟨_, _, rfl, HO.out, HB.out⟩
end Go.Proofs.YtganokcmcdkdgaaGreat.Wi.S
