/-
  The contract of the law's bytes: one part's. Conditions: the part's own ranges; a text of at most 300 bytes.
-/
import Derived.Test.YtmicmldhjmadcaaOPart
namespace Go.Proofs.Ytmicmldhjmadcaa.Oc
open Go.RowKit

/-- What the law's bytes leaves. -/
def BytTo (w : World) (bs : List Int) (ok : Bool) (e : Ending) (w' : World) : Prop :=
  ∃ v, e = .returned (.tuple #[v, .bool ok]) ∧ w'.ownsRow w.heap.size 5 1 v bs.length (bv bs) ∧ Below w.heap.size w w'
theorem BytTo.mk {w w' : World} {bs : List Int} {ok : Bool} {v : Value} (h1 : w'.ownsRow w.heap.size 5 1 v bs.length (bv bs)) (h2 : Below w.heap.size w w') : BytTo w bs ok (.returned (.tuple #[v, .bool ok])) w' := ⟨v, rfl, h1, h2⟩
set_option maxRecDepth 100000 in
set_option maxHeartbeats 2000000 in
theorem lbytes_a (w : World) (k n : Int) (lo d : Nat) (s : ByteArray) (m : Int) (hk : (IntKind.u64.wrap k).tmod 5 = (d : Int)) (hd : d = 0 ∨ d = 1 ∨ d = 4)
    (h1 : -9223372036854775808 ≤ n) (h2 : n < 9223372036854775808) (h3 : lo < 18446744073709551616) :
    Calls Try.prog 8 #[partV k n (lo : Int) s m] w (BytTo w (pbytes d n lo s) (pok d n)) := by
  have hB : Below w.heap.size w (w.alloc (partO k n lo s m)) := (Below.refl _ _).alloc (Nat.le_refl _) _
  unfold partV partO at *
  rcases hd with rfl | rfl | rfl
  · have hp : pok 0 n = decide (0 ≤ n) := by simp [pok]
    obtain ⟨q, hq⟩ : ∃ q, q = (IntKind.u64.wrap n).toNat := ⟨_, rfl⟩
    have hwn : IntKind.u64.wrap n = (q : Int) := by rw [hq, Int.toNat_of_nonneg (by rw [IntKind.wrap_u64]; omega)]
    have hq64 : q < 18446744073709551616 := by rw [IntKind.wrap_u64] at hwn; omega
    have hbs : pbytes 0 n lo s = grp q := by show grp _ = _; rw [hq]
    rw [hp, hbs]
    have HC := Lib.hid (fgroups_any ((w.alloc (.cells #[.int .i64 k, .int .i64 n, .int .u64 lo, .string s, .int .i64 m] 32)).drew) q hq64)
    have HB := Lib.hid hB
    have c1 : (w.alloc (.cells #[.int .i64 k, .int .i64 n, .int .u64 lo, .string s, .int .i64 m] 32)).cell? ⟨w.heap.size, 1, none⟩ = some (.int .i64 n) := by
      have := block_new w (.cells #[.int .i64 k, .int .i64 n, .int .u64 lo, .string s, .int .i64 m] 32)
      simp only [World.cell?]; rw [this]; rfl
    have HCC := Lib.hid c1
    clear hp hbs hq hq64 hB c1
    go_enter Try.func8, Try.ntmps8
    go_wp2_with fail
    go_region_held3 (fun w' => w'.cell? ⟨w.heap.size, 1, none⟩ = some (.int .i64 n))
      (first
        | (exact d1)
        | (exact HCC.out)
        | go_keep)
      (first
        | (go_at_call 27; refine HC.out.mono ?_; rintro e w1 ⟨v, rfl, ho, hb⟩
           have d1 : w1.cell? ⟨w.heap.size, 1, none⟩ = some (.int .i64 n) := (hb.cell (p := ⟨w.heap.size, 1, none⟩) (by simp)).trans HCC.out
           have HO := Lib.hid (ownsRow_base ho (show w.heap.size ≤ _ by simp))
           have HB1 := Lib.hid (HB.out.trans ((Below.refl _ _).drew.trans (hb.mono (by simp)) |>.mono HB.out.size))
           clear ho hb))
    all_goals
      go_wp2
      go_ret2
      exact BytTo.mk HO.out HB1.out
  · have HZ := Lib.hid (fun W => zigzag_any W n h1 h2)
    have HC := Lib.hid (fgroups_any (w.alloc (.cells #[.int .i64 k, .int .i64 n, .int .u64 lo, .string s, .int .i64 m] 32)) (fold n) (fold_lt h1 h2))
    have HB := Lib.hid hB
    show Calls _ _ _ _ (BytTo w (grp (fold n)) true)
    clear hB
    go_enter Try.func8, Try.ntmps8
    go_wp2_with (first
      | (go_at_call 27; refine HC.out.mono ?_; rintro e w1 ⟨v, rfl, ho, hb⟩
         have HO := Lib.hid (ownsRow_base ho (show w.heap.size ≤ _ by simp))
         have HB1 := Lib.hid (HB.out.trans (hb.mono HB.out.size))
         clear ho hb)
      | (go_at_call 28; refine (HZ.out _).mono ?_; rintro e w1 ⟨rfl, rfl⟩))
    go_ret2
    exact BytTo.mk HO.out HB1.out
  · show Calls _ _ _ _ (BytTo w [((lo % 256 : Nat) : Int)] true)
    obtain ⟨c, hc⟩ : ∃ c, c = lo % 256 := ⟨_, rfl⟩
    have e1 : (lo : Int) % 256 = (c : Int) := by omega
    have c1 : c < 256 := by omega
    rw [← hc]
    have HO : Hid (((w.alloc (.cells #[.int .i64 k, .int .i64 n, .int .u64 lo, .string s, .int .i64 m] 32)).alloc (.cells #[.int .u8 (c : Int)] 5)).ownsRow w.heap.size 5 1 (.slice (some ⟨w.heap.size + 1, 0, none⟩) 1 1) [(c : Int)].length (bv [(c : Int)])) := by
      have := ownsRow_base (own_one (w.alloc (.cells #[.int .i64 k, .int .i64 n, .int .u64 lo, .string s, .int .i64 m] 32)) (c : Int)) (show w.heap.size ≤ _ by simp)
      show World.ownsRow _ _ _ _ _ _ _
      simpa [bv] using this
    have HB : Hid (Below w.heap.size w ((w.alloc (.cells #[.int .i64 k, .int .i64 n, .int .u64 lo, .string s, .int .i64 m] 32)).alloc (.cells #[.int .u8 (c : Int)] 5))) := hB.alloc hB.size _
    clear hB hc
    go_enter Try.func8, Try.ntmps8
    go_wp2
    go_ret2
    exact BytTo.mk HO.out HB.out
end Go.Proofs.Ytmicmldhjmadcaa.Oc
