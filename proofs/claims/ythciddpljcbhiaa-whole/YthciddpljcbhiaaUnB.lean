/- Walks: how long a record is, and its samples read (the program). -/
import Derived.Test.YthciddpljcbhiaaUnSpec
import Derived.Test.YthciddpljcbhiaaSmA
namespace Go.Proofs.Ythciddpljcbhiaa
open Go.RowKit

def headN (s : ByteArray) : Int := if headOk s then 6 + 11 * (cN s : Int) else 0
theorem headN_yes {s : ByteArray} (h : headOk s = true) : headN s = 6 + 11 * (cN s : Int) := by simp [headN, h]
theorem headN_no {s : ByteArray} (h : ¬ headOk s = true) : headN s = 0 := by simp [headN, h]

set_option maxHeartbeats 400000 in
set_option maxRecDepth 100000 in
theorem batchSize_any (s : ByteArray) (w : World) (hs : s.size ≤ maxLen) :
    Calls Try.prog 62 #[.string s] w fun e w' => e = .returned (.int .i64 (headN s)) ∧ w' = w := by
  have HM : Hid (s.size ≤ maxLen) := hs
  unfold maxLen at hs
  have HI : Hid (headOk s = true ↔ 2 ≤ s.size ∧ byt s 0 = 87 ∧ 1 ≤ cN s ∧ cN s ≤ 8 ∧ 6 + 11 * cN s ≤ s.size ∧ num4 s (2 + 11 * cN s) = chk ((nums s).take (2 + 11 * cN s))) := headOk_iff s
  by_cases h2 : 2 ≤ s.size
  · have hd2 : 2 ≤ (s.size : Int) := by omega
    have B0 : Hid (((s[0].toNat : Nat) : Int) = byt s 0) := byt_eq s 0 (by omega)
    have hb1 : ((s[1].toNat : Nat) : Int) = ((cN s : Nat) : Int) := by rw [cN_eq]; exact byt_eq s 1 (by omega)
    have hY := @headN_yes s
    generalize cN s = c at *
    have HY : Hid (headOk s = true → headN s = 6 + 11 * (c : Int)) := hY
    clear hY
    by_cases h0 : byt s 0 = 87
    · have hx0 : ((s[0].toNat : Int) != 87) = false := by rw [B0.out, h0]; rfl
      have hxd : decide ((s.size : Int) < 2) = false := by simp; omega
      have H0 : Hid (byt s 0 = 87) := h0
      clear h0
      by_cases hc : 1 ≤ c ∧ c ≤ 8
      · obtain ⟨hc1, hc2⟩ := hc
        by_cases hlen : 6 + 11 * c ≤ s.size
        · have hsl : 2 + c * 11 ≤ s.size := by omega
          have hsl' : (2 : Int) + (c : Int) * 11 + 4 ≤ (s.size : Int) := by omega
          go_enter Try.func62, Try.ntmps62
          have hxe : decide ((c : Int) < 1) = false := by simp; omega
          have hxf : decide (8 < (c : Int)) = false := by simp; omega
          go_wp2_with fail
          have hmx : (s.extract 0 (2 + c * 11)).size ≤ maxLen := by rw [ByteArray.size_extract]; unfold maxLen; omega
          refine (check_any _ _ hmx).mono ?_
          rintro e w1 ⟨rfl, rfl⟩
          rw [nums_extract]
          go_wp2_with fail
          rw [show (2 : Int) + (c : Int) * 11 = ((2 + c * 11 : Nat) : Int) from by omega]
          refine (readNumber_any s (2 + c * 11) _ HM.out (by omega)).mono ?_
          rintro e w2 ⟨rfl, rfl⟩
          rw [show 2 + 11 * c = 2 + c * 11 from by omega] at HI
          by_cases hck : num4 s (2 + c * 11) = chk ((nums s).take (2 + c * 11))
          · have hh : headOk s = true := by rw [HI.out]; exact ⟨h2, H0.out, hc1, hc2, hlen, hck⟩
            have HV : Hid (headN s = 6 + 11 * (c : Int)) := HY.out hh
            have hbn : (num4 s (2 + c * 11) != chk ((nums s).take (2 + c * 11))) = false := by simp [hck]
            clear hh hck
            generalize num4 s (2 + c * 11) = q1 at *
            generalize chk ((nums s).take (2 + c * 11)) = q2 at *
            go_wp2
            go_ret
            exact ⟨ret_i64' (by rw [HV.out]; omega), rfl⟩
          · have HV : Hid (headN s = 0) := headN_no (by rw [HI.out]; intro hh; exact hck hh.2.2.2.2.2)
            have hbn : (num4 s (2 + c * 11) != chk ((nums s).take (2 + c * 11))) = true := by simpa using hck
            clear hck
            generalize num4 s (2 + c * 11) = q1 at *
            generalize chk ((nums s).take (2 + c * 11)) = q2 at *
            go_wp2
            go_ret
            exact ⟨ret_i64' HV.out.symm, rfl⟩
        · have hsl' : (s.size : Int) < (2 : Int) + (c : Int) * 11 + 4 := by omega
          rw [headN_no (by rw [HI.out]; omega)]
          go_enter Try.func62, Try.ntmps62
          go_wp2
          go_ret
          exact ⟨rfl, rfl⟩
      · rw [headN_no (by rw [HI.out]; omega)]
        by_cases hc0 : c = 0
        · subst hc0
          go_enter Try.func62, Try.ntmps62
          go_wp2
          go_ret
          exact ⟨rfl, rfl⟩
        · have hc1 : 1 ≤ (c : Int) := by omega
          have hc8 : 8 < (c : Int) := by omega
          have hc9 : (c : Int) ≤ 255 := by rw [← hb1]; have := s[1].toNat_lt; omega
          go_enter Try.func62, Try.ntmps62
          go_wp2
          go_ret
          exact ⟨rfl, rfl⟩
    · have hx0 : ((s[0].toNat : Int) != 87) = true := by rw [B0.out]; simpa using h0
      have hxd : decide ((s.size : Int) < 2) = false := by simp; omega
      rw [headN_no (by rw [HI.out]; intro hh; exact h0 hh.2.1)]
      go_enter Try.func62, Try.ntmps62
      go_wp2
      go_ret
      exact ⟨rfl, rfl⟩
  · have hd2 : (s.size : Int) < 2 := by omega
    rw [headN_no (by rw [HI.out]; omega)]
    go_enter Try.func62, Try.ntmps62
    go_wp2
    go_ret
    exact ⟨rfl, rfl⟩
end Go.Proofs.Ythciddpljcbhiaa
