/- Walks: Record against the document's answer (recorded, Records). -/
import Derived.Test.YthciddpljcbhiaaSmC
import Derived.Test.YthciddpljcbhiaaSmH
namespace Go.Proofs.Ythciddpljcbhiaa
open Go.RowKit

set_option maxHeartbeats 1000000 in
set_option maxRecDepth 100000 in
theorem recorded_any (a : Option Addr) (n cap : Nat) (ls : List Sm) (w : World) (h : IsSms w a n ls) (hwf : SmWf ls) (hr : n ≤ 10000000000000) :
    Calls Try.prog 13 #[.slice a n cap] w fun e w' => e = .returned (.bool true) ∧ Below w.heap.size w w' := by
  have H0 : Hid (IsSms w a n ls) := h
  have HW : Hid (SmWf ls) := hwf
  clear h hwf
  obtain ⟨hE1, hE2⟩ := batE_le ls
  go_enter Try.func13, Try.ntmps13
  go_wp2_with fail
  refine (handed_any a n cap ls _ H0.out hr).mono ?_
  rintro e w1 ⟨rfl, hw1⟩
  have hh1 : w1.heap[w.heap.size]? = some (.cells (flatS (ls ++ [blotSm])).toArray 42 (0, 0)) := by rw [hw1]; exact heap_alloc_new w _
  have hsz1 : w1.heap.size = w.heap.size + 1 := by rw [hw1]; simp
  have hrow1 : Hid (Row w1 w.heap.size ((n + 1) * 5)) := ⟨_, by simp [flatS_len, H0.out.1], 42, hh1⟩
  have hat1 : Hid (SmAt w1 w.heap.size 0 (ls ++ [blotSm])) := smAt_of (at_block hh1)
  have hbw1 : Hid (Below w.heap.size w w1) := by show Below _ _ _; rw [hw1]; exact (Below.refl _ _).alloc (Nat.le_refl _) _
  clear hw1 hh1
  have HS1 : Hid (w1.heap.size = w.heap.size + 1) := hsz1
  clear hsz1
  go_wp2_with fail
  refine (garRecord_any (some ⟨w.heap.size, 0, none⟩) n (n + 1) ls _ ⟨H0.out.1, fun _ => ⟨_, 0, rfl, smAt_left hat1.out⟩⟩ HW.out).mono ?_
  rintro e w2 ⟨rfl, hb2⟩
  have hrow2 : Hid (Row w2 w.heap.size ((n + 1) * 5)) := hrow1.out.below hb2 (by rw [HS1.out]; omega)
  have hat2 : Hid (SmAt w2 w.heap.size 0 (ls ++ [blotSm])) := hat1.out.below hb2 (by rw [HS1.out]; omega)
  have hbw2 : Hid (Below w.heap.size w w2) := hbw1.out.trans (hb2.mono (by rw [HS1.out]; omega))
  clear hb2 hrow1 hat1 hbw1 HS1
  go_wp2_with fail
  refine (still_any a w.heap.size n cap ls _ hr hat2.out hrow2.out (H0.out.below hbw2.out)).mono ?_
  rintro e w3 ⟨rfl, hb3⟩
  have hbw3 : Hid (Below w.heap.size w w3) := hbw2.out.trans hb3
  clear hb3 hrow2 hat2 hbw2
  go_wp2_with fail
  refine (refRecord_any a n cap ls _ (H0.out.below hbw3.out) HW.out).mono ?_
  rintro e w4 ⟨rfl, hb4⟩
  have hbw4 : Hid (Below w.heap.size w w4) := hbw3.out.trans (hb4.mono hbw3.out.size)
  clear hb4 hbw3
  generalize batE ls = E at *
  generalize recS ls = S at *
  go_wp2_with (go_at_call 35; refine (num_any _ _ (by omega) (by omega)).mono ?_; rintro e w' ⟨rfl, rfl⟩)
  go_ret
  exact ⟨rfl, hbw4.out⟩

theorem records_any (a : Option Addr) (n cap : Nat) (ls : List Sm) (w : World) (h : IsSms w a n ls) (hwf : SmWf ls) (hr : n ≤ 10000000000000) :
    Calls Try.prog 4 #[.slice a n cap] w fun e w' => e = .returned (.bool true) ∧ Below w.heap.size w w' := by
  have H0 : Hid (IsSms w a n ls) := h
  have HW : Hid (SmWf ls) := hwf
  clear h hwf
  go_enter Try.func4, Try.ntmps4
  go_wp2_with fail
  refine (recorded_any a n cap ls _ H0.out HW.out hr).mono ?_
  rintro e w1 ⟨rfl, hb1⟩
  go_wp2_with fail
  go_ret
  exact ⟨rfl, hb1⟩

end Go.Proofs.Ythciddpljcbhiaa
