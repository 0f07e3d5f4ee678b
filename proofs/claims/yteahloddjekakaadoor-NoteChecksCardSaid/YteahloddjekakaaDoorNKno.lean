/-
  The chapter's examples (known). Conditions: the table of kinds lies as the program's text lays it.
-/
import Derived.Test.YteahloddjekakaaDoorNChk
import Derived.Test.YteahloddjekakaaDoorNEncN
import Derived.Test.YteahloddjekakaaDoorNEncP
namespace Go.Proofs.YteahloddjekakaaDoor.Nt
open Go.RowKit Td

def nCut : Nt := ⟨2, 0, 0, zT, { data := #[] }, 0, 0, 0⟩
def nStop : Nt := ⟨8, 1, 0, zT, { data := #[] }, 0, 0, 0⟩
def nDay : Nt := ⟨2, 0, 1, zT, { data := #[] }, 0, 0, 0⟩
theorem smN_ex (k p d : Int) : SmN ⟨k, p, d, zT, { data := #[] }, 0, 0, 0⟩ [] := ⟨⟨Nat.zero_le _, Nat.zero_le _, Nat.zero_le _⟩, Nat.zero_le _, Nat.zero_le _, fun _m hm => absurd hm (List.not_mem_nil)⟩
theorem chk_cut : chkN nCut [] = 0 := by show _ = _; kernel_rfl
theorem chk_stop : chkN nStop [] = 0 := by show _ = _; kernel_rfl
theorem chk_day : chkN nDay [] = 1 := by show _ = _; kernel_rfl
theorem enc_cut (w : World) (hk : KinC w) : Calls Tryd.prog 17 #[.agg #[.int .i64 2, .int .i64 0, .int .i64 0, .int .i64 0, .string { data := #[] }, .string { data := #[] }, .string { data := #[] }, .int .i64 0, .int .i64 0, .string { data := #[] }, .int .i64 0, .slice none 0 0, .int .i64 0, .int .u64 0]] w
    fun e w' => ∃ A' cap, e = .returned (.tuple #[.slice A' 1 cap, .int .i64 0]) ∧ Oc.BAt w' (.slice A' 1 cap) [2] ∧ Below w.heap.size w w' :=
  enc_none w hk nCut none 0 0 2 rfl (by decide) (by decide) (by decide) (by decide) (by decide) (by decide) (by decide) (by decide) (by decide) (fun W hW => check_any W (hk.kept hW) nCut none 0 0 [] (RR.nil _ _) rfl (smN_ex 2 0 0) chk_cut.symm)
theorem enc_stop (w : World) (hk : KinC w) : Calls Tryd.prog 17 #[.agg #[.int .i64 8, .int .i64 1, .int .i64 0, .int .i64 0, .string { data := #[] }, .string { data := #[] }, .string { data := #[] }, .int .i64 0, .int .i64 0, .string { data := #[] }, .int .i64 0, .slice none 0 0, .int .i64 0, .int .u64 0]] w
    fun e w' => ∃ A' cap, e = .returned (.tuple #[.slice A' 2 cap, .int .i64 0]) ∧ Oc.BAt w' (.slice A' 2 cap) [8, 1] ∧ Below w.heap.size w w' :=
  enc_p w hk nStop none 0 0 8 rfl (by decide) (by decide) (by decide) (by decide) (by decide) (by decide) (by decide) (by decide) (by decide) (fun W hW => check_any W (hk.kept hW) nStop none 0 0 [] (RR.nil _ _) rfl (smN_ex 8 1 0) chk_stop.symm) (by decide) (by decide)
theorem check_day (w : World) (hk : KinC w) : Calls Tryd.prog 10 #[.agg #[.int .i64 2, .int .i64 0, .int .i64 1, .int .i64 0, .string { data := #[] }, .string { data := #[] }, .string { data := #[] }, .int .i64 0, .int .i64 0, .string { data := #[] }, .int .i64 0, .slice none 0 0, .int .i64 0, .int .u64 0]] w
    fun e w' => e = .returned (.int .i64 1) ∧ Below w.heap.size w w' := check_any w hk nDay none 0 0 [] (RR.nil _ _) rfl (smN_ex 2 0 1) chk_day.symm
def legS : ByteArray := { data := #[108, 101, 103] }
theorem row_bytes (w : World) (l : List Int) (cs : Array Value) (h : cs = (Oc.bv l).toArray) (_hl : 0 < l.length) : Oc.BAt (w.alloc (.cells cs 5)) (.slice (some ⟨w.heap.size, 0, none⟩) l.length l.length) l := by
  subst h
  refine ⟨_, _, rfl, Nat.le_refl _, fun _ => ⟨_, 0, rfl, by simp, fun i hi => ?_⟩⟩
  rw [Nat.zero_add, cell_of_row _ _ _ _ _ _ (block_new w (.cells (Oc.bv l).toArray 5))]
  have := Oc.bv_getD hi
  simpa using this
theorem same_cut (w : World) (u : Value) (h : Oc.BAt w u [2]) : Calls Tryd.prog 19 #[u, .slice (some ⟨w.heap.size, 0, none⟩) 1 1] (w.alloc (.cells #[.int .u8 2] 5)) fun e w' => e = .returned (.bool true) ∧ Below w.heap.size w w' := by
  have hb : Below w.heap.size w (w.alloc (.cells #[.int .u8 2] 5)) := (Below.refl _ _).alloc (Nat.le_refl _) _
  exact (Oc.same_eq _ u _ [2] (h.kept hb) (row_bytes w [2] _ rfl (by decide)) (by decide)).mono fun e w' h => ⟨h.1, hb.trans (h.2.mono hb.size)⟩
theorem same_stop (w : World) (u : Value) (h : Oc.BAt w u [8, 1]) : Calls Tryd.prog 19 #[u, .slice (some ⟨w.heap.size, 0, none⟩) 2 2] (w.alloc (.cells #[.int .u8 8, .int .u8 1] 5)) fun e w' => e = .returned (.bool true) ∧ Below w.heap.size w w' := by
  have hb : Below w.heap.size w (w.alloc (.cells #[.int .u8 8, .int .u8 1] 5)) := (Below.refl _ _).alloc (Nat.le_refl _) _
  exact (Oc.same_eq _ u _ [8, 1] (h.kept hb) (row_bytes w [8, 1] _ rfl (by decide)) (by decide)).mono fun e w' h => ⟨h.1, hb.trans (h.2.mono hb.size)⟩
set_option maxRecDepth 100000 in
set_option maxHeartbeats 4000000 in
theorem known_any (w : World) (hk : KinC w) : Calls Tryd.prog 9 #[] w fun e w' => e = .returned (.bool true) ∧ Below w.heap.size w w' := by
  have HK := Lib.hid hk
  have H1 := Lib.hid (enc_cut w hk)
  have HWD : Hid (∀ W, KinC W → Calls Tryd.prog 13 #[.int .i64 9] W fun e w' => e = .returned (.string { data := #[108, 101, 103] }) ∧ W = w') := fun W hW => word_any W hW 9 (show Hid (({ data := #[108, 101, 103] } : ByteArray) = wordB 9) from rfl)
  have e4 : (({ data := #[108, 101, 103] } : ByteArray).toList == [108, 101, 103]) = true := by rw [toList_data']; rfl
  clear hk
  go_enter Tryd.func9, Tryd.ntmps9
  go_wp2_with (first
    | (go_at_call 13; (with_reducible refine (HWD.out _ HK7.out).mono ?_); rintro e w8 ⟨rfl, rfl⟩)
    | (go_at_call 10; (with_reducible refine (check_day w6 HK6.out).mono ?_); rintro e w7 ⟨rfl, hb⟩; have HB7 := Lib.hid (HB6.out.trans (hb.mono HB6.out.size)); have HK7 := Lib.hid (HK6.out.kept hb); clear hb)
    | (go_at_call 19; (with_reducible refine (same_stop w5 _ HA5.out).mono ?_); rintro e w6 ⟨rfl, hb⟩; have HB6 := Lib.hid (HB5.out.trans (hb.mono HB5.out.size)); have HK6 := Lib.hid (HK5.out.kept hb); clear hb)
    | (go_at_call 19; (with_reducible refine (same_cut w2 _ HA3.out).mono ?_); rintro e w5 ⟨rfl, hb⟩; have HB5 := Lib.hid (HB2.out.trans (hb.mono HB2.out.size)); have HK5 := Lib.hid (HK2.out.kept hb); have HA5 := Lib.hid (HA2.out.kept hb); clear hb)
    | (go_at_call 17; (with_reducible refine (enc_stop w1 HK1.out).mono ?_); rintro e w2 ⟨A2, c2, rfl, ha, hb⟩; have HA2 := Lib.hid ha; have HB2 := Lib.hid (HB1.out.trans (hb.mono HB1.out.size)); have HA3 := Lib.hid (HA1.out.kept hb); have HK2 := Lib.hid (HK1.out.kept hb); clear ha hb)
    | (go_at_call 17; (with_reducible refine H1.out.mono ?_); rintro e w1 ⟨A1, c1, rfl, ha, hb⟩; have HA1 := Lib.hid ha; have HB1 := Lib.hid hb; have HK1 := Lib.hid (HK.out.kept hb); clear ha hb))
  go_ret
  exact ⟨rfl, HB7.out⟩
end Go.Proofs.YteahloddjekakaaDoor.Nt
