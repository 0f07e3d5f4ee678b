/-
  The contract of the law's write: one part. Conditions: the part's own ranges; a text of at most 300 bytes; room.
-/
import Derived.Test.YtmicmldhjmadcaaOFRef
namespace Go.Proofs.Ytmicmldhjmadcaa.Oc
open Go.RowKit

def partV (k n lo : Int) (s : ByteArray) (m : Int) : Value := .agg #[.int .i64 k, .int .i64 n, .int .u64 lo, .string s, .int .i64 m]
def partO (k n lo : Int) (s : ByteArray) (m : Int) : Obj := .cells #[.int .i64 k, .int .i64 n, .int .u64 lo, .string s, .int .i64 m] 32 (0, 0)
/-- A part's bytes, by its kind. -/
def pbytes (d : Nat) (n : Int) (lo : Nat) (s : ByteArray) : List Int :=
  match d with
  | 0 => grp (IntKind.u64.wrap n).toNat
  | 1 => grp (fold n)
  | 2 => grp (fold n) ++ wordF 8 lo
  | 3 => grp s.size ++ sb s
  | _ => [((lo % 256 : Nat) : Int)]
/-- May it be written? -/
def pok (d : Nat) (n : Int) : Bool := !(d == 0) || decide (0 ≤ n)
def partE (er : Int) (d : Nat) (n : Int) : Int := if pok d n = true then er else errB er 1
def partL (er : Int) (l : List Int) (d : Nat) (n : Int) (lo : Nat) (s : ByteArray) : List Int := if pok d n = true then addB er l (pbytes d n lo s) else []
theorem pbytes_len (d : Nat) (n : Int) (lo : Nat) (s : ByteArray) (hs : s.size ≤ 300) : (pbytes d n lo s).length ≤ 310 := by
  unfold pbytes
  split
  · exact Nat.le_trans (grp_len _).1 (by omega)
  · exact Nat.le_trans (grp_len _).1 (by omega)
  · rw [List.length_append, wordF_len]; have := (grp_len (fold n)).1; omega
  · rw [List.length_append, sb_len]; have := (grp_len s.size).1; omega
  · simp
theorem pbytes_bok (d : Nat) (n : Int) (lo : Nat) (s : ByteArray) (h1 : -9223372036854775808 ≤ n) (h2 : n < 9223372036854775808) (hs : s.size ≤ 300) : bok (pbytes d n lo s) := by
  unfold pbytes
  split
  · exact grp_bok (by rw [IntKind.wrap_u64]; omega)
  · exact grp_bok (fold_lt h1 h2)
  · exact bok_app (grp_bok (fold_lt h1 h2)) (word_bok 8 lo)
  · exact bok_app (grp_bok (by omega)) (sb_bok s)
  · intro x hx
    rw [List.mem_singleton] at hx
    omega

set_option maxRecDepth 100000 in
set_option maxHeartbeats 2000000 in
theorem lwrite_any (w : World) (b : Nat) (er : Int) (l : List Int) (v : Value) (k n : Int) (lo d : Nat) (s : ByteArray) (m : Int) (h : WrR w b er l v) (hk : (IntKind.u64.wrap k).tmod 5 = (d : Int)) (hd : d < 5)
    (h1 : -9223372036854775808 ≤ n) (h2 : n < 9223372036854775808) (h3 : lo < 18446744073709551616) (hs : s.size ≤ 300) (hr : er = 0 → l.length + 310 ≤ 1048576) :
    Calls Try.prog 7 #[.pointer (some ⟨b, 0, none⟩), partV k n (lo : Int) s m] w fun e w' => e = .returned (.pointer (some ⟨b, 0, none⟩)) ∧ WrTo b v w (partE er d n) (partL er l d n lo s) w' := by
  have hB : Below w.heap.size w (w.alloc (partO k n lo s m)) := (Below.refl _ _).alloc (Nat.le_refl _) _
  have hW := h.below hB
  have HF : Hid (∀ w' e l', WrTo b v (w.alloc (partO k n lo s m)) e l' w' → WrTo b v w e l' w') := fun w' e l' h4 => WrTo.trans (.of_below hB) h4
  unfold partV partO at *
  have hd5 : d = 0 ∨ d = 1 ∨ d = 2 ∨ d = 3 ∨ d = 4 := by omega
  rcases hd5 with rfl | rfl | rfl | rfl | rfl
  · by_cases hn : n < 0
    · have hp : pok 0 n = false := by simp [pok]; omega
      unfold partE partL
      rw [hp]
      have HC := Lib.hid (count_neg _ b er n l v hW hn)
      show Calls _ _ _ _ fun e w' => e = _ ∧ WrTo b v w (errB er 1) [] w'
      clear h hW hB hr hp
      go_enter Try.func7, Try.ntmps7
      go_wp2_with (go_at_call 20; refine HC.out.mono ?_; rintro e w1 ⟨rfl, h4⟩; have H4 := Lib.hid (HF.out _ _ _ h4); clear h4)
      go_ret
      exact ⟨rfl, H4.out⟩
    · have hp : pok 0 n = true := by simp [pok]; omega
      have hw : IntKind.u64.wrap n = n := by rw [IntKind.wrap_u64]; omega
      have hb : pbytes 0 n lo s = grp n.toNat := by show grp _ = _; rw [hw]
      unfold partE partL
      rw [hp, hb]
      have HC := Lib.hid (count_any _ b er n.toNat l v hW (by omega) (fun e => by have := hr e; have := (grp_len n.toNat).1; omega))
      rw [Int.toNat_of_nonneg (by omega)] at HC
      show Calls _ _ _ _ fun e w' => e = _ ∧ WrTo b v w er (addB er l (grp n.toNat)) w'
      clear h hW hB hr hp hb hw
      go_enter Try.func7, Try.ntmps7
      go_wp2_with (go_at_call 20; refine HC.out.mono ?_; rintro e w1 ⟨rfl, h4⟩; have H4 := Lib.hid (HF.out _ _ _ h4); clear h4)
      go_ret
      exact ⟨rfl, H4.out⟩
  · have HC := Lib.hid (number_any _ b er n l v hW h1 h2 (fun e => by have := hr e; have := (grp_len (fold n)).1; omega))
    show Calls _ _ _ _ fun e w' => e = _ ∧ WrTo b v w er (addB er l (grp (fold n))) w'
    clear h hW hB hr
    go_enter Try.func7, Try.ntmps7
    go_wp2_with (go_at_call 21; refine HC.out.mono ?_; rintro e w1 ⟨rfl, h4⟩; have H4 := Lib.hid (HF.out _ _ _ h4); clear h4)
    go_ret
    exact ⟨rfl, H4.out⟩
  · have HC := Lib.hid (wide_any _ b er n lo l v hW h1 h2 h3 (fun e => by have := hr e; have := (grp_len (fold n)).1; omega))
    show Calls _ _ _ _ fun e w' => e = _ ∧ WrTo b v w er (addB er l (grp (fold n) ++ wordF 8 lo)) w'
    clear h hW hB hr
    go_enter Try.func7, Try.ntmps7
    go_wp2_with (go_at_call 22; refine HC.out.mono ?_; rintro e w1 ⟨rfl, h4⟩; have H4 := Lib.hid (HF.out _ _ _ h4); clear h4)
    go_ret
    exact ⟨rfl, H4.out⟩
  · show Calls _ _ _ _ fun e w' => e = _ ∧ WrTo b v w er (addB er l (grp s.size ++ sb s)) w'
    have hB2 : Below (w.alloc (.cells #[.int .i64 k, .int .i64 n, .int .u64 lo, .string s, .int .i64 m] 32)).heap.size (w.alloc (.cells #[.int .i64 k, .int .i64 n, .int .u64 lo, .string s, .int .i64 m] 32)) ((w.alloc (.cells #[.int .i64 k, .int .i64 n, .int .u64 lo, .string s, .int .i64 m] 32)).alloc (.cells #[.string s] 9)) := (Below.refl _ _).alloc (Nat.le_refl _) _
    have HC : Hid (Calls Try.prog 23 #[.pointer (some ⟨b, 0, none⟩), .slice (some ⟨w.heap.size + 1, 0, none⟩) 1 1] ((w.alloc (.cells #[.int .i64 k, .int .i64 n, .int .u64 lo, .string s, .int .i64 m] 32)).alloc (.cells #[.string s] 9)) fun e w' => e = .returned (.pointer (some ⟨b, 0, none⟩)) ∧ WrTo b v (w.alloc (.cells #[.int .i64 k, .int .i64 n, .int .u64 lo, .string s, .int .i64 m] 32)) er (addB er l (grp s.size ++ sb s)) w') := by
      have hg : ((w.alloc (.cells #[.int .i64 k, .int .i64 n, .int .u64 lo, .string s, .int .i64 m] 32)).alloc (.cells #[.string s] 9)).heap[w.heap.size + 1]? = some (.cells #[.string s] 9 (0, 0)) := by
        have := block_new (w.alloc (.cells #[.int .i64 k, .int .i64 n, .int .u64 lo, .string s, .int .i64 m] 32)) (.cells #[.string s] 9)
        simpa using this
      by_cases he : er = 0
      · subst he
        rw [addB_no]
        exact (text_ok _ b _ s l v (hW.below hB2) hg (by have := hr rfl; have := (grp_len s.size).1; omega)).mono fun e w' h5 => ⟨h5.1, WrTo.trans (.of_below hB2) h5.2⟩
      · rw [addB_yes he]
        exact (text_bad _ b _ er s l v (hW.below hB2) he hg (by omega)).mono fun e w' h5 => ⟨h5.1, WrTo.trans (.of_below hB2) h5.2⟩
    clear h hW hB hr hB2
    go_enter Try.func7, Try.ntmps7
    go_wp2_with (go_at_call 23; refine HC.out.mono ?_; rintro e w1 ⟨rfl, h4⟩; have H4 := Lib.hid (HF.out _ _ _ h4); clear h4)
    go_ret
    exact ⟨rfl, H4.out⟩
  · have HC := Lib.hid (byte_any _ b er (((lo % 256 : Nat) : Int)) l v hW (fun e => by have := hr e; omega))
    show Calls _ _ _ _ fun e w' => e = _ ∧ WrTo b v w er (addB er l [((lo % 256 : Nat) : Int)]) w'
    obtain ⟨c, hc⟩ : ∃ c, c = lo % 256 := ⟨_, rfl⟩
    have e1 : (lo : Int) % 256 = (c : Int) := by omega
    have c1 : c < 256 := by omega
    rw [← hc] at HC ⊢
    clear h hW hB hr hc
    go_enter Try.func7, Try.ntmps7
    go_wp2_with (go_at_call 25; refine HC.out.mono ?_; rintro e w1 ⟨rfl, h4⟩; have H4 := Lib.hid (HF.out _ _ _ h4); clear h4)
    go_ret
    exact ⟨rfl, H4.out⟩
end Go.Proofs.Ytmicmldhjmadcaa.Oc
