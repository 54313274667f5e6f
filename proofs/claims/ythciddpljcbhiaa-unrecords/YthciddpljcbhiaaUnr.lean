/- Walks: Unrecord against the document's answer (unrecorded, Unrecords). -/
import Derived.Test.YthciddpljcbhiaaUnF
import Derived.Test.YthciddpljcbhiaaDra
namespace Go.Proofs.Ythciddpljcbhiaa
open Go.RowKit

set_option maxHeartbeats 2000000 in
set_option maxRecDepth 100000 in
theorem unrecorded_any (s : ByteArray) (D : Nat) (w : World) (hs : s.size ≤ maxLen) (hD : w.heap[D]? = some (drO 0)) (hW0 : w.heap[D + 1]? = some (.cells #[.slice none 0 0, .pointer (some ⟨D, 0, none⟩)] 39)) :
    Calls Try.prog 14 #[.pointer (some ⟨D + 1, 0, none⟩), .string s] w fun e w' => e = .returned (.bool true) ∧ Below D w w' := by
  have HM : Hid (s.size ≤ maxLen) := hs
  have HD : Hid (w.heap[D]? = some (drO 0)) := hD
  have HW0 : Hid (w.heap[D + 1]? = some (.cells #[.slice none 0 0, .pointer (some ⟨D, 0, none⟩)] 39)) := hW0
  have hlt : D + 1 < w.heap.size := (Array.getElem?_eq_some_iff.1 hW0).1
  clear hs hD hW0
  go_enter Try.func14, Try.ntmps14
  go_wp2_with fail
  refine (garUnrecord_any s _ HM.out).mono ?_
  rintro e w1 ⟨hb1, ⟨hu, v, rfl, hown⟩ | ⟨hu, rfl⟩⟩
  · have HB1 : Hid (Below w.heap.size w w1) := hb1
    have hc8 : cN s ≤ 8 := by
      have := hu; simp only [unOk, Bool.and_eq_true, headOk_iff] at this; exact this.1.2.2.2.1
    have hsz1 := hb1.size
    have HU : Hid (unOk s = true) := hu
    obtain ⟨a, cap, rfl, hsm⟩ := owns_sms hown (smsR_len s _)
    have HO : Hid (w1.ownsRow w.heap.size 42 5 (.slice a (cN s) cap) (cN s) (flatS (smsR s (cN s)))) := hown
    have HSM : Hid (IsSms w1 a (cN s) (smsR s (cN s))) := hsm
    clear hb1 hu hown hsm
    go_wp2_with fail
    refine (refUnrecord_any s _ HM.out).mono ?_
    rintro e w2 ⟨hb2, ⟨hu, v2, rfl, hown2⟩ | ⟨hu, rfl⟩⟩
    · obtain ⟨a2, cap2, rfl, hsm2⟩ := owns_sms hown2 (smsR_len s _)
      have HB2 : Hid (Below w.heap.size w w2) := HB1.out.trans (hb2.mono hsz1)
      have HO2 : Hid (w2.ownsRow w.heap.size 42 5 (.slice a (cN s) cap) (cN s) (flatS (smsR s (cN s)))) := owns_belowU HO.out hb2
      have HSM1 : Hid (IsSms w2 a (cN s) (smsR s (cN s))) := HSM.out.below hb2
      have HSM2 : Hid (IsSms w2 a2 (cN s) (smsR s (cN s))) := hsm2
      clear hb2 hu hown2 hsm2 HB1 HO HSM
      have hq0 : (0 : Int) ≤ 6 + 11 * (cN s : Int) := by omega
      generalize hcc : cN s = c at *
      generalize smsR s c = L at *
      clear hcc
      go_wp2_with fail
      refine (sameSamples_yes a a2 c cap cap2 L _ (by omega) HSM1.out HSM2.out).mono ?_
      rintro e w3 ⟨rfl, d, rfl⟩
      have HD2 : Hid (w2.heap[D]? = some (drO 0)) := by show _ = _; rw [HB2.out.block D (by omega)]; exact HD.out
      have k1 : w2.cell? ⟨D + 1, 1, none⟩ = some (.pointer (some ⟨D, 0, none⟩)) := by
        simp [World.cell?, HB2.out.block (D + 1) hlt, HW0.out]
      have hz2 := HB2.out.size
      go_wp2_with fail
      refine (keepSamples_new D w.heap.size c (.slice a c cap) (flatS L) (w2.drewN d) (by omega) (by simpa using hz2) hc8 HO2.out HD2.out).mono ?_
      rintro e w4 ⟨rfl, hb4⟩
      have HB4 : Hid (Below D w w4) := (below_drewN (HB2.out.mono (by omega)) d).trans hb4
      clear hb4
      generalize (6 : Int) + 11 * (c : Int) = q at *
      go_wp2_with (go_at_call 35; refine (num_any _ _ (by omega) (by omega)).mono ?_; rintro e w' ⟨rfl, rfl⟩)
      go_ret
      exact ⟨rfl, HB4.out⟩
    · exfalso
      rw [HU.out] at hu
      cases hu
  · have HB1 : Hid (Below w.heap.size w w1) := hb1
    have hsz1 := hb1.size
    have HU : Hid (unOk s = false) := hu
    clear hb1 hu
    go_wp2_with fail
    refine (refUnrecord_any s _ HM.out).mono ?_
    rintro e w2 ⟨hb2, ⟨hu, v2, rfl, hown2⟩ | ⟨hu, rfl⟩⟩
    · exfalso
      rw [HU.out] at hu
      cases hu
    · have HB2 : Hid (Below w.heap.size w w2) := HB1.out.trans (hb2.mono hsz1)
      clear hb2 hu HB1
      go_wp2_with fail
      refine (sameSamples_yes none none 0 0 0 [] _ (by omega) ⟨rfl, fun h => absurd h (by omega)⟩ ⟨rfl, fun h => absurd h (by omega)⟩).mono ?_
      rintro e w3 ⟨rfl, d, rfl⟩
      have HD2 : Hid (w2.heap[D]? = some (drO 0)) := by show _ = _; rw [HB2.out.block D (by omega)]; exact HD.out
      have k1 : w2.cell? ⟨D + 1, 1, none⟩ = some (.pointer (some ⟨D, 0, none⟩)) := by
        simp [World.cell?, HB2.out.block (D + 1) hlt, HW0.out]
      have hz2 := HB2.out.size
      go_wp2_with fail
      refine (keepSamples_new D w.heap.size 0 (.slice none 0 0) [] (w2.drewN d) (by omega) (by simpa using hz2) (by omega) (World.ownsRow_nil _ _ _ _) HD2.out).mono ?_
      rintro e w4 ⟨rfl, hb4⟩
      have HB4 : Hid (Below D w w4) := (below_drewN (HB2.out.mono (by omega)) d).trans hb4
      clear hb4
      go_wp2_with (go_at_call 35; refine (num_any _ _ (by omega) (by omega)).mono ?_; rintro e w' ⟨rfl, rfl⟩)
      go_ret
      exact ⟨rfl, HB4.out⟩

theorem unrecords_any (s : ByteArray) (w : World) (hs : s.size ≤ maxLen) :
    Calls Try.prog 5 #[.string s] w fun e w' => e = .returned (.bool true) ∧ Below w.heap.size w w' := by
  have HM : Hid (s.size ≤ maxLen) := hs
  clear hs
  have HD : Hid (((w.alloc (drO 0)).alloc (.cells #[.slice none 0 0, .pointer (some ⟨w.heap.size, 0, none⟩)] 39)).heap[w.heap.size]? = some (drO 0)) := by
    show _ = _
    rw [Below.heap_alloc _ _ _ (by simp), heap_alloc_new]
  have HW0 : Hid (((w.alloc (drO 0)).alloc (.cells #[.slice none 0 0, .pointer (some ⟨w.heap.size, 0, none⟩)] 39)).heap[w.heap.size + 1]? = some (.cells #[.slice none 0 0, .pointer (some ⟨w.heap.size, 0, none⟩)] 39)) := by
    have := heap_alloc_new (w.alloc (drO 0)) (.cells #[.slice none 0 0, .pointer (some ⟨w.heap.size, 0, none⟩)] 39)
    show _ = _
    simpa only [World.size_alloc] using this
  go_enter Try.func5, Try.ntmps5
  go_wp2_with fail
  refine (unrecorded_any s w.heap.size _ HM.out HD.out HW0.out).mono ?_
  rintro e w1 ⟨rfl, hb1⟩
  go_wp2_with fail
  go_ret
  exact ⟨rfl, (((Below.refl _ _).alloc (Nat.le_refl _) _).alloc (by simp) _).trans hb1⟩

end Go.Proofs.Ythciddpljcbhiaa
