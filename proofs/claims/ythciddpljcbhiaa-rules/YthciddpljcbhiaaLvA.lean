/- Walks: the ages of levels. -/
import Derived.Test.YthciddpljcbhiaaLab
import Derived.Test.YthciddpljcbhiaaLvSpec
namespace Go.Proofs.Ythciddpljcbhiaa
open Go.RowKit

set_option maxHeartbeats 400000 in
theorem rightAges_some (b off n cap : Nat) (ls : List Lv) (keep : Int) (w : World) (hn : ls.length = n) (hm : n ≤ maxLen) (hat : LvAt w b off ls) :
    Calls Try.prog 77 #[.slice (some ⟨b, off, none⟩) n cap, .int .i64 keep] w fun e w' => e = .returned (.bool (agesB ls keep)) ∧ w' = w := by
  unfold maxLen at hm
  have HAT : Hid (LvAt w b off ls) := hat
  have HN : Hid (ls.length = n) := hn
  clear hat hn
  go_enter Try.func77, Try.ntmps77
  go_wp2
  go_loop [5] (fun i => ∃ k : Nat, k ≤ n ∧ i = .int .i64 k ∧ ∀ j, j < k → okAge ls keep j = true) (fun i => n - (intOf i).toNat)
  case atStart => exact ⟨0, Nat.zero_le _, rfl, fun j hj => by omega⟩
  case round =>
    obtain ⟨k, hk, rfl, hall⟩ := hrel
    have HA : Hid (∀ j, j < k → okAge ls keep j = true) := hall
    clear hall
    by_cases hlt : k < n
    · obtain ⟨c0, _, _, _⟩ := HAT.out k (by rw [HN.out]; exact hlt)
      by_cases h0 : k = 0
      · subst h0
        simp only [Nat.zero_mul, Nat.add_zero] at c0
        go_wp2
        all_goals first
          | (have HR : okAge ls keep 0 = true := by (rw [okAge_zero]; first | omega | (simp at *; omega))
             exact ⟨⟨1, by omega, rfl, upto_succ HA.out HR⟩, by simp [intOf]; omega⟩)
          | (have HR : okAge ls keep 0 = false := by (apply no_of; rw [okAge_zero]; first | omega | (simp at *; omega))
             go_ret
             exact ⟨ret_bool (all_false 0 (by rw [HN.out]; exact hlt) HR).symm, rfl⟩)
      · obtain ⟨m, rfl⟩ : ∃ m, k = m + 1 := ⟨k - 1, by omega⟩
        obtain ⟨p0, _, _, _⟩ := HAT.out m (by rw [HN.out]; omega)
        go_wp2
        all_goals first
          | (have HR : okAge ls keep (m + 1) = true := by (rw [okAge_succ]; first | omega | (simp at *; omega))
             exact ⟨⟨m + 1 + 1, by omega, by go_num, upto_succ HA.out HR⟩, by simp [intOf]; omega⟩)
          | (have HR : okAge ls keep (m + 1) = false := by (apply no_of; rw [okAge_succ]; first | omega | (simp at *; omega))
             go_ret
             exact ⟨ret_bool (all_false (m + 1) (by rw [HN.out]; exact hlt) HR).symm, rfl⟩)
    · go_wp2
      go_ret
      exact ⟨ret_bool (all_true (fun j hj => HA.out j (by have := HN.out; omega))).symm, rfl⟩

set_option maxHeartbeats 400000 in
theorem rightWindows_some (b off n cap : Nat) (ls : List Lv) (span : Int) (w : World) (hn : ls.length = n) (hm : n ≤ maxLen) (hat : LvAt w b off ls) (hwf : LvWf ls) (hs1 : 1 ≤ span) (hs2 : span ≤ 100) :
    Calls Try.prog 78 #[.slice (some ⟨b, off, none⟩) n cap, .int .i64 span] w fun e w' => e = .returned (.bool (winsB ls span)) ∧ w' = w := by
  unfold maxLen at hm
  have HAT : Hid (LvAt w b off ls) := hat
  have HN : Hid (ls.length = n) := hn
  have HW : Hid (LvWf ls) := hwf
  clear hat hn hwf
  go_enter Try.func78, Try.ntmps78
  go_wp2
  go_loop [5, 6] (fun ah i => ∃ k : Nat, k ≤ n ∧ i = .int .i64 k ∧ ah = .int .i64 (ahd ls k) ∧ 1 ≤ ahd ls k ∧ ∀ j, j < k → okWin ls span j = true) (fun _ i => n - (intOf i).toNat)
  case atStart => exact ⟨0, Nat.zero_le _, rfl, rfl, by simp [ahd], fun j hj => by omega⟩
  case round =>
    obtain ⟨k, hk, rfl, rfl, hah, hall⟩ := hrel
    have HA : Hid (∀ j, j < k → okWin ls span j = true) := hall
    clear hall
    by_cases hlt : k < n
    · obtain ⟨_, c1, _, _⟩ := HAT.out k (by rw [HN.out]; exact hlt)
      obtain ⟨hw1, hw2, _⟩ := HW.out k
      have HS := ahd_succ ls k
      have HS' : Hid (ahd ls (k + 1) = (lvG ls k).window) := HS
      clear HS
      by_cases hwin : 1 ≤ (lvG ls k).window
      · go_wp2
        all_goals first
          | (have HR : okWin ls span k = true := by (rw [okWin_iff]; first | omega | (simp at *; omega))
             exact ⟨⟨k + 1, by omega, by go_num, by rw [HS'.out], by rw [HS'.out]; exact hwin, upto_succ HA.out HR⟩, by simp [intOf]; omega⟩)
          | (have HR : okWin ls span k = false := by (apply no_of; rw [okWin_iff]; first | omega | (simp at *; omega))
             go_ret
             exact ⟨ret_bool (all_false k (by rw [HN.out]; exact hlt) HR).symm, rfl⟩)
      · have HR : okWin ls span k = false := by (apply no_of; rw [okWin_iff]; omega)
        have HR' : Hid (okWin ls span k = false) := HR
        clear HR
        go_wp2
        go_ret
        exact ⟨ret_bool (all_false k (by rw [HN.out]; exact hlt) HR'.out).symm, rfl⟩
    · go_wp2
      go_ret
      exact ⟨ret_bool (all_true (fun j hj => HA.out j (by have := HN.out; omega))).symm, rfl⟩

set_option maxHeartbeats 400000 in
theorem rightSeries_some (b off n cap : Nat) (ls : List Lv) (w : World) (hn : ls.length = n) (hm : n ≤ maxLen) (hat : LvAt w b off ls) (hwf : LvWf ls) :
    Calls Try.prog 79 #[.slice (some ⟨b, off, none⟩) n cap] w fun e w' => e = .returned (.bool (sersB ls)) ∧ Below w.heap.size w w' := by
  unfold maxLen at hm
  have HAT : Hid (LvAt w b off ls) := hat
  have HN : Hid (ls.length = n) := hn
  have HW : Hid (LvWf ls) := hwf
  clear hat hn hwf
  go_enter Try.func79, Try.ntmps79
  go_wp2
  go_loopw [3] (fun i wr => ∃ k : Nat, k ≤ n ∧ i = .int .i64 k ∧ Below w.heap.size w wr ∧ ∀ j, j < k → okSer ls j = true) (fun i _ => n - (intOf i).toNat)
  case atStart => exact ⟨0, Nat.zero_le _, rfl, Below.refl _ _, fun j hj => by omega⟩
  case round =>
    obtain ⟨k, hk, rfl, hbel, hall⟩ := hrel
    have HA : Hid (∀ j, j < k → okSer ls j = true) := hall
    clear hall
    by_cases hlt : k < n
    · have hb0 : b < w.heap.size := HAT.out.block (by rw [HN.out]; omega)
      obtain ⟨c0, c1, c2, c3⟩ := (HAT.out.below hbel hb0) k (by rw [HN.out]; exact hlt)
      obtain ⟨_, _, hrs⟩ := HW.out k
      have hsz := hbel.size
      cases hru : ruleB (lvG ls k).rule
      · have HR : okSer ls k = false := by (apply no_of; rw [okSer_iff]; simp [hru])
        have HR' : Hid (okSer ls k = false) := HR
        clear HR
        go_wp2_with (go_at_call 80; refine (rightRule_any _ hrs _).mono ?_; rintro e w' ⟨rfl, rfl⟩)
        go_ret
        exact ⟨ret_bool (all_false k (by rw [HN.out]; exact hlt) HR'.out).symm, hbel.alloc hsz _⟩
      · go_wp2_with (go_at_call 80; refine (rightRule_any _ hrs _).mono ?_; rintro e w' ⟨rfl, rfl⟩)
        all_goals first
          | (have HR : okSer ls k = true := by (rw [okSer_iff]; refine ⟨hru, ?_⟩; first | omega | (simp at *; omega))
             exact ⟨⟨k + 1, by omega, by go_num, hbel.alloc hsz _, upto_succ HA.out HR⟩, by simp [intOf]; omega⟩)
          | (have HR : okSer ls k = false := by (apply no_of; rw [okSer_iff]; rintro ⟨-, h1, h2⟩; first | omega | (simp at *; omega))
             go_ret
             exact ⟨ret_bool (all_false k (by rw [HN.out]; exact hlt) HR).symm, hbel.alloc hsz _⟩)
    · go_wp2
      go_ret
      exact ⟨ret_bool (all_true (fun j hj => HA.out j (by have := HN.out; omega))).symm, hbel⟩

end Go.Proofs.Ythciddpljcbhiaa
