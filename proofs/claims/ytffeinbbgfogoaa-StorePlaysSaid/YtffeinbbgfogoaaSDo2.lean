/-
  The contract of the law's do. Conditions: a store; bytes that lie outside it.
-/
import Derived.Test.YtffeinbbgfogoaaSDo
namespace Go.Proofs.Ytffeinbbgfogoaa.Sr
open Go.RowKit Fr

set_option maxRecDepth 100000 in
set_option maxHeartbeats 1000000 in
theorem do_0 {w : World} {p : Nat} {s : S} {mb : Option Nat} {L : List Fi} (a : Ac) {A : Option Addr} {nb cb m : Nat} {l : List Int} (h : StR w p s mb L) (hv : ∀ w', Off (own p mb L) w w' → BAt w' (.slice A nb cb) l) (hm : m = min nb 60) (hb : a.b = l.take m) (_hn : a.n ≤ 9223372036854775807) (hk : kd a = 0) :
    Calls Try.prog 32 #[.pointer (some ⟨p, 0, none⟩), acV a (.slice A nb cb)] w fun e w' => e = .returned (.tuple #[]) ∧ Mo w w' p mb L (doS s L a) (doL s L a) := by
  have hl0 := (hv w (Off.refl _ _)).len
  have hmin : min (nb : Int) 60 = (m : Int) := by omega
  have hsl := slice_to A nb cb m (by omega)
  have HMN : Hid (m ≤ nb ∧ m ≤ 60) := ⟨by omega, by omega⟩
  have hS : doS s L a = appS s a.nm a.b.length := by unfold doS; rw [hk]; rfl
  have hL : doL s L a = appL s L a.nm a.b := by unfold doL; rw [hk]; rfl
  rw [hS, hL]
  have HBL : Hid (a.b.length = m) := by show _ = _; rw [hb, List.length_take]; omega
  rw [HBL.out]
  have HV0 := Lib.hid hv
  have HBB := Lib.hid hb
  have HS0 := Lib.hid h
  have hk2 : (IntKind.u64.wrap a.k).tmod 6 = 0 := hk
  have hmz : m ≤ 60 := HMN.out.2
  unfold acV
  clear hl0 hm hv hb h hk hS hL
  go_enter Try.func32, Try.ntmps32
  go_upto_region 2 with fail
  generalize hW : w.alloc (.cells #[.int .i64 a.k, .int .i64 a.n, .string a.nm, .string a.tw, .slice A m cb] 34) = W
  have hbel : Below w.heap.size w W := by rw [← hW]; exact (Below.refl _ _).alloc (Nat.le_refl _) _
  have hblk : W.heap[w.heap.size]? = some (.cells #[.int .i64 a.k, .int .i64 a.n, .string a.nm, .string a.tw, .slice A m cb] 34 (0, 0)) := by rw [← hW]; exact block_new _ _
  have c0 : W.cell? ⟨w.heap.size, 0, none⟩ = some (.int .i64 a.k) := by simp [World.cell?, hblk]
  have c1 : W.cell? ⟨w.heap.size, 1, none⟩ = some (.int .i64 a.n) := by simp [World.cell?, hblk]
  have c2 : W.cell? ⟨w.heap.size, 2, none⟩ = some (.string a.nm) := by simp [World.cell?, hblk]
  have c3 : W.cell? ⟨w.heap.size, 3, none⟩ = some (.string a.tw) := by simp [World.cell?, hblk]
  have c4 : W.cell? ⟨w.heap.size, 4, none⟩ = some (.slice A m cb) := by simp [World.cell?, hblk]
  have HS : Hid (StR W p s mb L) := HS0.out.below hbel
  have HV : Hid (∀ w', Off (own p mb L) W w' → BAt w' (.slice A m cb) a.b) := fun w' ho => by
    rw [HBB.out]
    exact ((HV0.out w' ((Off.of_below (own p mb L) hbel).trans ho (fun i hi => .inl hi))).take m HMN.out.1).1
  have HB : Hid (a.b.length = m) := HBL.out
  have HBEL := Lib.hid hbel
  clear hW hblk hbel hsl hmin
  go_wp2_with (go_at_call 11; (with_reducible refine (Append_any a.nm HS.out (by omega) HB.out HV.out).mono ?_); rintro e w9 ⟨rfl, hm⟩; have HMO := Lib.hid hm; clear hm)
  go_end0
  exact ⟨rfl, Mo.after HS0.out HBEL.out HMO.out⟩
set_option maxRecDepth 100000 in
set_option maxHeartbeats 1000000 in
theorem do_1 {w : World} {p : Nat} {s : S} {mb : Option Nat} {L : List Fi} (a : Ac) {A : Option Addr} {nb cb m : Nat} {l : List Int} (h : StR w p s mb L) (hv : ∀ w', Off (own p mb L) w w' → BAt w' (.slice A nb cb) l) (hm : m = min nb 60) (hb : a.b = l.take m) (_hn : a.n ≤ 9223372036854775807) (hk : kd a = 1) :
    Calls Try.prog 32 #[.pointer (some ⟨p, 0, none⟩), acV a (.slice A nb cb)] w fun e w' => e = .returned (.tuple #[]) ∧ Mo w w' p mb L (doS s L a) (doL s L a) := by
  have hl0 := (hv w (Off.refl _ _)).len
  have hmin : min (nb : Int) 60 = (m : Int) := by omega
  have hsl := slice_to A nb cb m (by omega)
  have HMN : Hid (m ≤ nb ∧ m ≤ 60) := ⟨by omega, by omega⟩
  have hS : doS s L a = wriS s L a.nm a.b.length := by unfold doS; rw [hk]; rfl
  have hL : doL s L a = wriL s L a.nm a.b := by unfold doL; rw [hk]; rfl
  rw [hS, hL]
  have HBL : Hid (a.b.length = m) := by show _ = _; rw [hb, List.length_take]; omega
  rw [HBL.out]
  have HV0 := Lib.hid hv
  have HBB := Lib.hid hb
  have HS0 := Lib.hid h
  have hk2 : (IntKind.u64.wrap a.k).tmod 6 = 1 := hk
  have hmz : m ≤ 60 := HMN.out.2
  unfold acV
  clear hl0 hm hv hb h hk hS hL
  go_enter Try.func32, Try.ntmps32
  go_upto_region 2 with fail
  generalize hW : w.alloc (.cells #[.int .i64 a.k, .int .i64 a.n, .string a.nm, .string a.tw, .slice A m cb] 34) = W
  have hbel : Below w.heap.size w W := by rw [← hW]; exact (Below.refl _ _).alloc (Nat.le_refl _) _
  have hblk : W.heap[w.heap.size]? = some (.cells #[.int .i64 a.k, .int .i64 a.n, .string a.nm, .string a.tw, .slice A m cb] 34 (0, 0)) := by rw [← hW]; exact block_new _ _
  have c0 : W.cell? ⟨w.heap.size, 0, none⟩ = some (.int .i64 a.k) := by simp [World.cell?, hblk]
  have c1 : W.cell? ⟨w.heap.size, 1, none⟩ = some (.int .i64 a.n) := by simp [World.cell?, hblk]
  have c2 : W.cell? ⟨w.heap.size, 2, none⟩ = some (.string a.nm) := by simp [World.cell?, hblk]
  have c3 : W.cell? ⟨w.heap.size, 3, none⟩ = some (.string a.tw) := by simp [World.cell?, hblk]
  have c4 : W.cell? ⟨w.heap.size, 4, none⟩ = some (.slice A m cb) := by simp [World.cell?, hblk]
  have HS : Hid (StR W p s mb L) := HS0.out.below hbel
  have HV : Hid (∀ w', Off (own p mb L) W w' → BAt w' (.slice A m cb) a.b) := fun w' ho => by
    rw [HBB.out]
    exact ((HV0.out w' ((Off.of_below (own p mb L) hbel).trans ho (fun i hi => .inl hi))).take m HMN.out.1).1
  have HB : Hid (a.b.length = m) := HBL.out
  have HBEL := Lib.hid hbel
  clear hW hblk hbel hsl hmin
  go_wp2_with (go_at_call 13; (with_reducible refine (Write_any a.nm HS.out (by omega) HB.out HV.out).mono ?_); rintro e w9 ⟨rfl, hm⟩; have HMO := Lib.hid hm; clear hm)
  go_end0
  exact ⟨rfl, Mo.after HS0.out HBEL.out HMO.out⟩
set_option maxRecDepth 100000 in
set_option maxHeartbeats 1000000 in
theorem do_2 {w : World} {p : Nat} {s : S} {mb : Option Nat} {L : List Fi} (a : Ac) {A : Option Addr} {nb cb m : Nat} {l : List Int} (h : StR w p s mb L) (hv : ∀ w', Off (own p mb L) w w' → BAt w' (.slice A nb cb) l) (hm : m = min nb 60) (hb : a.b = l.take m) (_hn : a.n ≤ 9223372036854775807) (hk : kd a = 2) :
    Calls Try.prog 32 #[.pointer (some ⟨p, 0, none⟩), acV a (.slice A nb cb)] w fun e w' => e = .returned (.tuple #[]) ∧ Mo w w' p mb L (doS s L a) (doL s L a) := by
  have hl0 := (hv w (Off.refl _ _)).len
  have hmin : min (nb : Int) 60 = (m : Int) := by omega
  have hsl := slice_to A nb cb m (by omega)
  have HMN : Hid (m ≤ nb ∧ m ≤ 60) := ⟨by omega, by omega⟩
  have hS : doS s L a = cutS s L a.nm a.n := by unfold doS; rw [hk]; rfl
  have hL : doL s L a = cutL s L a.nm a.n := by unfold doL; rw [hk]; rfl
  rw [hS, hL]
  have HBL : Hid (a.b.length = m) := by show _ = _; rw [hb, List.length_take]; omega
  have HV0 := Lib.hid hv
  have HBB := Lib.hid hb
  have HS0 := Lib.hid h
  have hk2 : (IntKind.u64.wrap a.k).tmod 6 = 2 := hk
  have hmz : m ≤ 60 := HMN.out.2
  unfold acV
  clear hl0 hm hv hb h hk hS hL
  go_enter Try.func32, Try.ntmps32
  go_upto_region 2 with fail
  generalize hW : w.alloc (.cells #[.int .i64 a.k, .int .i64 a.n, .string a.nm, .string a.tw, .slice A m cb] 34) = W
  have hbel : Below w.heap.size w W := by rw [← hW]; exact (Below.refl _ _).alloc (Nat.le_refl _) _
  have hblk : W.heap[w.heap.size]? = some (.cells #[.int .i64 a.k, .int .i64 a.n, .string a.nm, .string a.tw, .slice A m cb] 34 (0, 0)) := by rw [← hW]; exact block_new _ _
  have c0 : W.cell? ⟨w.heap.size, 0, none⟩ = some (.int .i64 a.k) := by simp [World.cell?, hblk]
  have c1 : W.cell? ⟨w.heap.size, 1, none⟩ = some (.int .i64 a.n) := by simp [World.cell?, hblk]
  have c2 : W.cell? ⟨w.heap.size, 2, none⟩ = some (.string a.nm) := by simp [World.cell?, hblk]
  have c3 : W.cell? ⟨w.heap.size, 3, none⟩ = some (.string a.tw) := by simp [World.cell?, hblk]
  have c4 : W.cell? ⟨w.heap.size, 4, none⟩ = some (.slice A m cb) := by simp [World.cell?, hblk]
  have HS : Hid (StR W p s mb L) := HS0.out.below hbel
  have HV : Hid (∀ w', Off (own p mb L) W w' → BAt w' (.slice A m cb) a.b) := fun w' ho => by
    rw [HBB.out]
    exact ((HV0.out w' ((Off.of_below (own p mb L) hbel).trans ho (fun i hi => .inl hi))).take m HMN.out.1).1
  have HB : Hid (a.b.length = m) := HBL.out
  have HBEL := Lib.hid hbel
  clear hW hblk hbel hsl hmin
  go_wp2_with (go_at_call 15; (with_reducible refine (Cut_any a.nm a.n HS.out).mono ?_); rintro e w9 ⟨rfl, hm⟩; have HMO := Lib.hid hm; clear hm)
  go_end0
  exact ⟨rfl, Mo.after HS0.out HBEL.out HMO.out⟩
set_option maxRecDepth 100000 in
set_option maxHeartbeats 1000000 in
theorem do_3 {w : World} {p : Nat} {s : S} {mb : Option Nat} {L : List Fi} (a : Ac) {A : Option Addr} {nb cb m : Nat} {l : List Int} (h : StR w p s mb L) (hv : ∀ w', Off (own p mb L) w w' → BAt w' (.slice A nb cb) l) (hm : m = min nb 60) (hb : a.b = l.take m) (_hn : a.n ≤ 9223372036854775807) (hk : kd a = 3) :
    Calls Try.prog 32 #[.pointer (some ⟨p, 0, none⟩), acV a (.slice A nb cb)] w fun e w' => e = .returned (.tuple #[]) ∧ Mo w w' p mb L (doS s L a) (doL s L a) := by
  have hl0 := (hv w (Off.refl _ _)).len
  have hmin : min (nb : Int) 60 = (m : Int) := by omega
  have hsl := slice_to A nb cb m (by omega)
  have HMN : Hid (m ≤ nb ∧ m ≤ 60) := ⟨by omega, by omega⟩
  have hS : doS s L a = renS s L a.nm a.tw := by unfold doS; rw [hk]; rfl
  have hL : doL s L a = renL s L a.nm a.tw := by unfold doL; rw [hk]; rfl
  rw [hS, hL]
  have HBL : Hid (a.b.length = m) := by show _ = _; rw [hb, List.length_take]; omega
  have HV0 := Lib.hid hv
  have HBB := Lib.hid hb
  have HS0 := Lib.hid h
  have hk2 : (IntKind.u64.wrap a.k).tmod 6 = 3 := hk
  have hmz : m ≤ 60 := HMN.out.2
  unfold acV
  clear hl0 hm hv hb h hk hS hL
  go_enter Try.func32, Try.ntmps32
  go_upto_region 2 with fail
  generalize hW : w.alloc (.cells #[.int .i64 a.k, .int .i64 a.n, .string a.nm, .string a.tw, .slice A m cb] 34) = W
  have hbel : Below w.heap.size w W := by rw [← hW]; exact (Below.refl _ _).alloc (Nat.le_refl _) _
  have hblk : W.heap[w.heap.size]? = some (.cells #[.int .i64 a.k, .int .i64 a.n, .string a.nm, .string a.tw, .slice A m cb] 34 (0, 0)) := by rw [← hW]; exact block_new _ _
  have c0 : W.cell? ⟨w.heap.size, 0, none⟩ = some (.int .i64 a.k) := by simp [World.cell?, hblk]
  have c1 : W.cell? ⟨w.heap.size, 1, none⟩ = some (.int .i64 a.n) := by simp [World.cell?, hblk]
  have c2 : W.cell? ⟨w.heap.size, 2, none⟩ = some (.string a.nm) := by simp [World.cell?, hblk]
  have c3 : W.cell? ⟨w.heap.size, 3, none⟩ = some (.string a.tw) := by simp [World.cell?, hblk]
  have c4 : W.cell? ⟨w.heap.size, 4, none⟩ = some (.slice A m cb) := by simp [World.cell?, hblk]
  have HS : Hid (StR W p s mb L) := HS0.out.below hbel
  have HV : Hid (∀ w', Off (own p mb L) W w' → BAt w' (.slice A m cb) a.b) := fun w' ho => by
    rw [HBB.out]
    exact ((HV0.out w' ((Off.of_below (own p mb L) hbel).trans ho (fun i hi => .inl hi))).take m HMN.out.1).1
  have HB : Hid (a.b.length = m) := HBL.out
  have HBEL := Lib.hid hbel
  clear hW hblk hbel hsl hmin
  go_wp2_with (go_at_call 17; (with_reducible refine (Rename_any a.nm a.tw HS.out).mono ?_); rintro e w9 ⟨rfl, hm⟩; have HMO := Lib.hid hm; clear hm)
  go_end0
  exact ⟨rfl, Mo.after HS0.out HBEL.out HMO.out⟩
set_option maxRecDepth 100000 in
set_option maxHeartbeats 1000000 in
theorem do_4 {w : World} {p : Nat} {s : S} {mb : Option Nat} {L : List Fi} (a : Ac) {A : Option Addr} {nb cb m : Nat} {l : List Int} (h : StR w p s mb L) (hv : ∀ w', Off (own p mb L) w w' → BAt w' (.slice A nb cb) l) (hm : m = min nb 60) (hb : a.b = l.take m) (_hn : a.n ≤ 9223372036854775807) (hk : kd a = 4) :
    Calls Try.prog 32 #[.pointer (some ⟨p, 0, none⟩), acV a (.slice A nb cb)] w fun e w' => e = .returned (.tuple #[]) ∧ Mo w w' p mb L (doS s L a) (doL s L a) := by
  have hl0 := (hv w (Off.refl _ _)).len
  have hmin : min (nb : Int) 60 = (m : Int) := by omega
  have hsl := slice_to A nb cb m (by omega)
  have HMN : Hid (m ≤ nb ∧ m ≤ 60) := ⟨by omega, by omega⟩
  have hS : doS s L a = drpS s L a.nm := by unfold doS; rw [hk]; rfl
  have hL : doL s L a = drpL s L a.nm := by unfold doL; rw [hk]; rfl
  rw [hS, hL]
  have HBL : Hid (a.b.length = m) := by show _ = _; rw [hb, List.length_take]; omega
  have HV0 := Lib.hid hv
  have HBB := Lib.hid hb
  have HS0 := Lib.hid h
  have hk2 : (IntKind.u64.wrap a.k).tmod 6 = 4 := hk
  have hmz : m ≤ 60 := HMN.out.2
  unfold acV
  clear hl0 hm hv hb h hk hS hL
  go_enter Try.func32, Try.ntmps32
  go_upto_region 2 with fail
  generalize hW : w.alloc (.cells #[.int .i64 a.k, .int .i64 a.n, .string a.nm, .string a.tw, .slice A m cb] 34) = W
  have hbel : Below w.heap.size w W := by rw [← hW]; exact (Below.refl _ _).alloc (Nat.le_refl _) _
  have hblk : W.heap[w.heap.size]? = some (.cells #[.int .i64 a.k, .int .i64 a.n, .string a.nm, .string a.tw, .slice A m cb] 34 (0, 0)) := by rw [← hW]; exact block_new _ _
  have c0 : W.cell? ⟨w.heap.size, 0, none⟩ = some (.int .i64 a.k) := by simp [World.cell?, hblk]
  have c1 : W.cell? ⟨w.heap.size, 1, none⟩ = some (.int .i64 a.n) := by simp [World.cell?, hblk]
  have c2 : W.cell? ⟨w.heap.size, 2, none⟩ = some (.string a.nm) := by simp [World.cell?, hblk]
  have c3 : W.cell? ⟨w.heap.size, 3, none⟩ = some (.string a.tw) := by simp [World.cell?, hblk]
  have c4 : W.cell? ⟨w.heap.size, 4, none⟩ = some (.slice A m cb) := by simp [World.cell?, hblk]
  have HS : Hid (StR W p s mb L) := HS0.out.below hbel
  have HV : Hid (∀ w', Off (own p mb L) W w' → BAt w' (.slice A m cb) a.b) := fun w' ho => by
    rw [HBB.out]
    exact ((HV0.out w' ((Off.of_below (own p mb L) hbel).trans ho (fun i hi => .inl hi))).take m HMN.out.1).1
  have HB : Hid (a.b.length = m) := HBL.out
  have HBEL := Lib.hid hbel
  clear hW hblk hbel hsl hmin
  go_wp2_with (go_at_call 19; (with_reducible refine (Drop_one a.nm HS.out).mono ?_); rintro e w9 ⟨rfl, hm⟩; have HMO := Lib.hid (Mo.of hm); clear hm)
  go_end0
  exact ⟨rfl, Mo.after HS0.out HBEL.out HMO.out⟩
set_option maxRecDepth 100000 in
set_option maxHeartbeats 1000000 in
theorem do_5 {w : World} {p : Nat} {s : S} {mb : Option Nat} {L : List Fi} (a : Ac) {A : Option Addr} {nb cb m : Nat} {l : List Int} (h : StR w p s mb L) (hv : ∀ w', Off (own p mb L) w w' → BAt w' (.slice A nb cb) l) (hm : m = min nb 60) (hb : a.b = l.take m) (hn : a.n ≤ 9223372036854775807) (hk : kd a = 5) :
    Calls Try.prog 32 #[.pointer (some ⟨p, 0, none⟩), acV a (.slice A nb cb)] w fun e w' => e = .returned (.tuple #[]) ∧ Mo w w' p mb L (doS s L a) (doL s L a) := by
  have hl0 := (hv w (Off.refl _ _)).len
  have hmin : min (nb : Int) 60 = (m : Int) := by omega
  have hsl := slice_to A nb cb m (by omega)
  have HMN : Hid (m ≤ nb ∧ m ≤ 60) := ⟨by omega, by omega⟩
  have hS : doS s L a = armS s a.n := by unfold doS; rw [hk]; rfl
  have hL : doL s L a = L := by unfold doL; rw [hk]; rfl
  rw [hS, hL]
  have HBL : Hid (a.b.length = m) := by show _ = _; rw [hb, List.length_take]; omega
  have HV0 := Lib.hid hv
  have HBB := Lib.hid hb
  have HS0 := Lib.hid h
  have hk2 : (IntKind.u64.wrap a.k).tmod 6 = 5 := hk
  have hmz : m ≤ 60 := HMN.out.2
  unfold acV
  clear hl0 hm hv hb h hk hS hL
  go_enter Try.func32, Try.ntmps32
  go_upto_region 2 with fail
  generalize hW : w.alloc (.cells #[.int .i64 a.k, .int .i64 a.n, .string a.nm, .string a.tw, .slice A m cb] 34) = W
  have hbel : Below w.heap.size w W := by rw [← hW]; exact (Below.refl _ _).alloc (Nat.le_refl _) _
  have hblk : W.heap[w.heap.size]? = some (.cells #[.int .i64 a.k, .int .i64 a.n, .string a.nm, .string a.tw, .slice A m cb] 34 (0, 0)) := by rw [← hW]; exact block_new _ _
  have c0 : W.cell? ⟨w.heap.size, 0, none⟩ = some (.int .i64 a.k) := by simp [World.cell?, hblk]
  have c1 : W.cell? ⟨w.heap.size, 1, none⟩ = some (.int .i64 a.n) := by simp [World.cell?, hblk]
  have c2 : W.cell? ⟨w.heap.size, 2, none⟩ = some (.string a.nm) := by simp [World.cell?, hblk]
  have c3 : W.cell? ⟨w.heap.size, 3, none⟩ = some (.string a.tw) := by simp [World.cell?, hblk]
  have c4 : W.cell? ⟨w.heap.size, 4, none⟩ = some (.slice A m cb) := by simp [World.cell?, hblk]
  have HS : Hid (StR W p s mb L) := HS0.out.below hbel
  have HV : Hid (∀ w', Off (own p mb L) W w' → BAt w' (.slice A m cb) a.b) := fun w' ho => by
    rw [HBB.out]
    exact ((HV0.out w' ((Off.of_below (own p mb L) hbel).trans ho (fun i hi => .inl hi))).take m HMN.out.1).1
  have HB : Hid (a.b.length = m) := HBL.out
  have HBEL := Lib.hid hbel
  clear hW hblk hbel hsl hmin
  go_wp2_with (go_at_call 21; (with_reducible refine (Arm_any _ p s mb L a.n HS.out hn).mono ?_); rintro e w9 ⟨rfl, hm⟩; have HMO := Lib.hid (Mo.of hm); clear hm)
  go_end0
  exact ⟨rfl, Mo.after HS0.out HBEL.out HMO.out⟩
theorem do_any {w : World} {p : Nat} {s : S} {mb : Option Nat} {L : List Fi} (a : Ac) {A : Option Addr} {nb cb m : Nat} {l : List Int} (h : StR w p s mb L) (hv : ∀ w', Off (own p mb L) w w' → BAt w' (.slice A nb cb) l) (hm : m = min nb 60) (hb : a.b = l.take m) (hn : a.n ≤ 9223372036854775807) :
    Calls Try.prog 32 #[.pointer (some ⟨p, 0, none⟩), acV a (.slice A nb cb)] w fun e w' => e = .returned (.tuple #[]) ∧ Mo w w' p mb L (doS s L a) (doL s L a) := by
  rcases kd_range a with hk | hk | hk | hk | hk | hk
  · exact do_0 a h hv hm hb hn hk
  · exact do_1 a h hv hm hb hn hk
  · exact do_2 a h hv hm hb hn hk
  · exact do_3 a h hv hm hb hn hk
  · exact do_4 a h hv hm hb hn hk
  · exact do_5 a h hv hm hb hn hk
end Go.Proofs.Ytffeinbbgfogoaa.Sr
