/- Walks: Record, of the program and of the document's answer. -/
import Derived.Test.YthciddpljcbhiaaSmB
namespace Go.Proofs.Ythciddpljcbhiaa
open Go.RowKit

/-- The string that Record answers. -/
def recS (ls : List Sm) : ByteArray := if batE ls = 0 then strOfNums (recB ls) else ⟨#[]⟩
theorem recS_yes {ls : List Sm} (h : batE ls = 0) : recS ls = strOfNums (recB ls) := by simp [recS, h]
theorem recS_no {ls : List Sm} (h : ¬ batE ls = 0) : recS ls = ⟨#[]⟩ := by simp [recS, h]

theorem garRecord_any (a : Option Addr) (n cap : Nat) (ls : List Sm) (w : World) (h : IsSms w a n ls) (hwf : SmWf ls) :
    Calls Try.prog 17 #[.slice a n cap] w fun e w' => e = .returned (.tuple #[.string (recS ls), .int .i64 (batE ls)]) ∧ Below w.heap.size w w' := by
  have H0 : Hid (IsSms w a n ls) := h
  have HW : Hid (SmWf ls) := hwf
  clear h hwf
  by_cases hz : batE ls = 0
  · obtain ⟨h1, h8, hok⟩ := (batE_zero ls).1 hz
    obtain ⟨b, off, rfl, hat⟩ := H0.out.2 (by rw [← H0.out.1]; omega)
    have hb0 : b < w.heap.size := hat.block h1
    rw [recS_yes hz, hz]
    have HZ : Hid (batE ls = 0) := hz
    have HAT : Hid (SmAt w b off ls) := hat
    have HOK : Hid (smsOk ls = true) := hok
    have H8 : Hid (ls.length ≤ 8) := h8
    clear hz hat hok h8 h1
    go_enter Try.func17, Try.ntmps17
    go_wp2_with fail
    refine (checkBatch_any _ n cap ls _ H0.out).mono ?_
    rintro e w1 ⟨rfl, hb1⟩
    rw [HZ.out]
    go_wp2_with fail
    refine (ofBatch_any b off n cap ls _ H0.out.1 (by rw [← H0.out.1]; exact H8.out) (HAT.out.below hb1 hb0) HW.out HOK.out).mono ?_
    rintro e w2 ⟨rfl, hb2⟩
    go_wp2_with fail
    go_ret2
    exact ⟨rfl, hb1.trans (hb2.mono hb1.size)⟩
  · rw [recS_no hz]
    have hzz : (batE ls == 0) = false := by simpa using hz
    clear hz
    go_enter Try.func17, Try.ntmps17
    go_wp2_with fail
    refine (checkBatch_any a n cap ls _ H0.out).mono ?_
    rintro e w1 ⟨rfl, hb1⟩
    go_wp2_with fail
    go_ret2
    exact ⟨rfl, hb1⟩

theorem refRecord_any (a : Option Addr) (n cap : Nat) (ls : List Sm) (w : World) (h : IsSms w a n ls) (hwf : SmWf ls) :
    Calls Try.prog 38 #[.slice a n cap] w fun e w' => e = .returned (.tuple #[.string (recS ls), .int .i64 (batE ls)]) ∧ Below w.heap.size w w' := by
  have H0 : Hid (IsSms w a n ls) := h
  have HW : Hid (SmWf ls) := hwf
  clear h hwf
  by_cases hz : batE ls = 0
  · obtain ⟨h1, h8, hok⟩ := (batE_zero ls).1 hz
    obtain ⟨b, off, rfl, hat⟩ := H0.out.2 (by rw [← H0.out.1]; omega)
    have hb0 : b < w.heap.size := hat.block h1
    rw [recS_yes hz, hz]
    have HZ : Hid (batE ls = 0) := hz
    have HAT : Hid (SmAt w b off ls) := hat
    have HOK : Hid (smsOk ls = true) := hok
    have H8 : Hid (ls.length ≤ 8) := h8
    clear hz hat hok h8 h1
    go_enter Try.func38, Try.ntmps38
    go_wp2_with fail
    refine (rightBatch_any _ n cap ls _ H0.out).mono ?_
    rintro e w1 ⟨rfl, hb1⟩
    rw [HZ.out]
    go_wp2_with fail
    refine (written_any b off n cap ls _ H0.out.1 (by rw [← H0.out.1]; exact H8.out) (HAT.out.below hb1 hb0) HW.out HOK.out).mono ?_
    rintro e w2 ⟨rfl, hb2⟩
    go_wp2_with fail
    go_ret2
    exact ⟨rfl, hb1.trans (hb2.mono hb1.size)⟩
  · rw [recS_no hz]
    have hzz : (batE ls == 0) = false := by simpa using hz
    clear hz
    go_enter Try.func38, Try.ntmps38
    go_wp2_with fail
    refine (rightBatch_any a n cap ls _ H0.out).mono ?_
    rintro e w1 ⟨rfl, hb1⟩
    go_wp2_with fail
    go_ret2
    exact ⟨rfl, hb1⟩

end Go.Proofs.Ythciddpljcbhiaa
