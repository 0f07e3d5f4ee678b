/-
  The contracts of the reader's Count and Number. Conditions: none.
-/
import Derived.Test.YtmicmldhjmadcaaORMath
namespace Go.Proofs.Ytmicmldhjmadcaa.Oc
open Go.RowKit

theorem two_cell {w : World} {B : Nat} {x : Value} {t : TypeId} (h : w.heap[B]? = some (.cells #[x] t (0, 0))) : w.cell? ⟨B, 0, none⟩ = some x := (block_cell h).1
set_option maxRecDepth 100000 in
theorem unfolded_any (w : World) (n : Nat) (h : n < 18446744073709551616) : Calls Try.prog 37 #[.int .u64 (n : Int)] w fun e w' => e = .returned (.int .i64 (unf n)) ∧ w = w' := by
  obtain ⟨q, hq⟩ : ∃ q, q = n / 2 := ⟨_, rfl⟩
  have hq2 : (n : Int) / 2 = (q : Int) := by omega
  have hlt : q < 9223372036854775808 := by omega
  have hnot := not64 (q : Int) (by omega) (by omega)
  by_cases hn : n % 2 = 1
  · have hu : unf n = -1 - (q : Int) := by unfold unf; rw [if_pos hn, ← hq]
    obtain ⟨c, hc⟩ : ∃ c, c = n % 2 := ⟨_, rfl⟩
    have t1 : (n : Int) % 2 = 1 := by omega
    rw [hu]
    clear hu hn hq hc h
    go_enter Try.func37, Try.ntmps37
    go_wp2
    go_ret
    exact ⟨rfl, rfl⟩
  · have hu : unf n = (q : Int) := by unfold unf; rw [if_neg hn, ← hq]
    have t1 : (n : Int) % 2 = 0 := by omega
    rw [hu]
    clear hu hn hnot hq h
    go_enter Try.func37, Try.ntmps37
    go_wp2
    go_ret
    exact ⟨rfl, rfl⟩

set_option maxRecDepth 100000 in
theorem number1_any (w : World) (b B : Nat) (l : List Int) (v : Value) (h : RdR w b 0 l v) (hB : w.heap[B]? = some (boxO b)) (hn : (rg l).2.1 < 18446744073709551616) :
    Calls Try.prog 36 #[.pointer (some ⟨B, 0, none⟩)] w fun e w' => e = .returned (.int .i64 (unf (rg l).2.1)) ∧ RdTo b w (rg l).1 (rg l).2.2 w' := by
  obtain ⟨c1, _⟩ := block_cell hB
  have HC := Lib.hid (rgroups_any w b l v h)
  have HU := Lib.hid (fun W => unfolded_any W (rg l).2.1 hn)
  clear h hB hn
  go_enter Try.func36, Try.ntmps36
  go_wp2_with (first
    | (go_at_call 37; refine (HU.out _).mono ?_; rintro e w2 ⟨rfl, rfl⟩)
    | (go_at_call 33; refine HC.out.mono ?_; rintro e w1 ⟨rfl, hr⟩; have HR := Lib.hid hr; clear hr))
  go_ret
  exact ⟨rfl, HR.out⟩
theorem rg_lt {l : List Int} (hb : bok l) : (rg l).2.1 < 18446744073709551616 := by
  by_cases h : (rg l).1 = 0
  · have := (rg_inv (l := l) (n := (rg l).2.1) (r := (rg l).2.2) hb (by rw [← h])).1
    exact this
  · have : (rg l).2.1 = 0 := rgF_err 10 0 0 l h
    omega
set_option maxRecDepth 100000 in
theorem rnumber_nil (w : World) : Calls Try.prog 14 #[.pointer none] w fun e w' => e = .returned (.int .i64 0) ∧ Below w.heap.size w w' := by
  have hmf := mkfn
  have HB : Hid (Below w.heap.size w (w.alloc (.cells #[.pointer none] 40))) := (Below.refl _ _).alloc (Nat.le_refl _) _
  go_enter Try.func14, Try.ntmps14
  go_wp2_with (go_at_call 35; refine (att_nilI64 _ _).mono ?_; rintro e w1 ⟨rfl, rfl⟩)
  go_ret
  exact ⟨rfl, HB.out⟩
set_option maxRecDepth 100000 in
theorem rnumber_bad (w : World) (b : Nat) (er : Int) (l : List Int) (v : Value) (h : RdR w b er l v) (he : ¬ er = 0) : Calls Try.prog 14 #[.pointer (some ⟨b, 0, none⟩)] w fun e w' => e = .returned (.int .i64 0) ∧ RdTo b w er l w' := by
  have hmf := mkfn
  have HR : Hid (RdTo b w er l (w.alloc (boxO b))) := RdTo.same h ((Below.refl _ _).alloc (Nat.le_refl _) _)
  have HC : Hid ((w.alloc (boxO b)).cell? ⟨b, 0, none⟩ = some (.int .i64 er)) := (block_cell2 (rd_box h (boxO b)).1).1.1
  clear h
  unfold boxO at *
  go_enter Try.func14, Try.ntmps14
  go_wp2_with (go_at_call 35; refine (att_badI64 _ b er _ HC.out he).mono ?_; rintro e w1 ⟨rfl, rfl⟩)
  go_ret
  exact ⟨rfl, HR.out⟩
set_option maxRecDepth 100000 in
theorem rnumber_ok (w : World) (b n : Nat) (l r : List Int) (v : Value) (h : RdR w b 0 l v) (hg : rg l = (0, n, r)) : Calls Try.prog 14 #[.pointer (some ⟨b, 0, none⟩)] w fun e w' => e = .returned (.int .i64 (unf n)) ∧ RdTo b w 0 r w' := by
  have hmf := mkfn
  have HA := Lib.hid (att_okI64 (w.alloc (boxO b)) b l r v (.int .i64 (unf n)) (rd_box h _) 36 #[.pointer (some ⟨w.heap.size, 0, none⟩)] (enters_of Try.func36 (by kernel_rfl) rfl) (by
    have := number1_any _ b w.heap.size l v (rd_box h _) (block_new _ _) (rg_lt h.2.2.1)
    rw [hg] at this
    exact this))
  have HG := Lib.hid (grownBy_alloc w (boxO b) (some b))
  clear h hg
  unfold boxO at *
  go_enter Try.func14, Try.ntmps14
  go_wp2_with (go_at_call 35; refine HA.out.mono ?_; rintro e w1 ⟨rfl, h1⟩; have H1 := Lib.hid (RdTo.trans HG.out h1); clear h1)
  go_ret
  exact ⟨rfl, H1.out⟩
set_option maxRecDepth 100000 in
theorem rnumber_err (w : World) (b : Nat) (l : List Int) (v : Value) (h : RdR w b 0 l v) (hg : ¬ (rg l).1 = 0) : Calls Try.prog 14 #[.pointer (some ⟨b, 0, none⟩)] w fun e w' => e = .returned (.int .i64 0) ∧ RdTo b w (rg l).1 l w' := by
  have hmf := mkfn
  have HA := Lib.hid (att_errI64 (w.alloc (boxO b)) b (rg l).1 l v (rd_box h _) hg 36 #[.pointer (some ⟨w.heap.size, 0, none⟩)] (enters_of Try.func36 (by kernel_rfl) rfl)
    ((number1_any _ b w.heap.size l v (rd_box h _) (block_new _ _) (rg_lt h.2.2.1)).mono fun e w' h1 => ⟨_, _, h1.1, h1.2⟩))
  have HG := Lib.hid (grownBy_alloc w (boxO b) (some b))
  clear h hg
  unfold boxO at *
  go_enter Try.func14, Try.ntmps14
  go_wp2_with (go_at_call 35; refine HA.out.mono ?_; rintro e w1 ⟨rfl, h1⟩; have H1 := Lib.hid (RdTo.trans HG.out h1); clear h1)
  go_ret
  exact ⟨rfl, H1.out⟩
end Go.Proofs.Ytmicmldhjmadcaa.Oc
