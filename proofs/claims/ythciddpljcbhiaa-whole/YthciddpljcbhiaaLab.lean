/- Walks: letters, rules and labels, of the program and of the document's answer. -/
import Derived.Test.YthciddpljcbhiaaProg
import Derived.Test.YthciddpljcbhiaaSpec
import Derived.WalkKit
import Derived.WalkSpells
import Derived.WalkLawsBesides
import Derived.Handy
import Derived.Deep.RegionWith
import Derived.BigRegion
import Derived.Deep.Draws
import Derived.Deep.QuietTactic
import Derived.BigQuiet
namespace Go.Proofs.Ythciddpljcbhiaa
open Go.RowKit

theorem isLetter_any (a : Int) (w : World) :
    Calls Try.prog 108 #[.int .u8 a] w fun e w' => e = .returned (.bool (letB a)) ∧ w' = w := by
  go_enter Try.func108, Try.ntmps108
  go_wp2
  all_goals go_ret
  all_goals exact ⟨by simp [letB, *]; try omega, rfl⟩

theorem letter_any (a : Int) (w : World) :
    Calls Try.prog 83 #[.int .u8 a] w fun e w' => e = .returned (.bool (letB a)) ∧ w' = w := by
  go_enter Try.func83, Try.ntmps83
  go_wp2
  all_goals go_ret
  all_goals exact ⟨by simp [letB, *]; try omega, rfl⟩

theorem ret_bool {a b : Bool} (h : a = b) : Ending.returned (.bool a) = .returned (.bool b) := by rw [h]

theorem rightRule_any (s : ByteArray) (_hs : s.size ≤ maxLen) (w : World) :
    Calls Try.prog 80 #[.string s] w fun e w' => e = .returned (.bool (ruleB s)) ∧ w' = w := by
  unfold maxLen at _hs
  by_cases h3 : s.size = 3
  · have h3' : ((s.size : Int) == 3) = true := by simp; omega
    go_enter Try.func80, Try.ntmps80
    go_wp2
    go_loop [3] (fun i => ∃ k : Nat, k ≤ 3 ∧ i = .int .i64 k ∧ ∀ j, j < k → rulB (byt s j) = true) (fun i => 3 - (intOf i).toNat)
    case atStart => exact ⟨0, Nat.zero_le _, rfl, fun j hj => by omega⟩
    case round =>
      obtain ⟨k, hk, rfl, hall⟩ := hrel
      have HA : Hid (∀ j, j < k → rulB (byt s j) = true) := hall
      clear hall
      by_cases hlt : k < 3
      · have HB : Hid (((s[k].toNat : Nat) : Int) = byt s k) := byt_eq s k (by omega)
        go_wp2
        all_goals first
          | (have HR : rulB (byt s k) = true := by (rw [← HB.out]; simp [rulB]; simp at *; omega)
             exact ⟨⟨k + 1, by omega, by go_num, upto_succ HA.out HR⟩, by simp [intOf]; omega⟩)
          | (have HR : rulB (byt s k) = false := by (rw [← HB.out]; simp [rulB]; simp at *; omega)
             go_ret
             exact ⟨ret_bool (ruleB_false k hlt HR).symm, rfl⟩)
      · go_wp2
        go_ret
        exact ⟨ret_bool (ruleB_true h3 (fun j hj => HA.out j (by omega))).symm, rfl⟩
  · have hf := ruleB_size h3
    have hd : ((s.size : Int) == 3) = false := by simp; omega
    rw [hf]
    clear hf
    go_enter Try.func80, Try.ntmps80
    go_wp2
    go_ret
    exact ⟨rfl, rfl⟩


theorem isRule_any (s : ByteArray) (_hs : s.size ≤ maxLen) (w : World) :
    Calls Try.prog 52 #[.string s] w fun e w' => e = .returned (.bool (ruleB s)) ∧ w' = w := by
  unfold maxLen at _hs
  by_cases h3 : s.size = 3
  · have h3' : ((s.size : Int) == 3) = true := by simp; omega
    go_enter Try.func52, Try.ntmps52
    go_wp2
    go_loop [3] (fun i => ∃ k : Nat, k ≤ 3 ∧ i = .int .i64 k ∧ ∀ j, j < k → rulB (byt s j) = true) (fun i => 3 - (intOf i).toNat)
    case atStart => exact ⟨0, Nat.zero_le _, rfl, fun j hj => by omega⟩
    case round =>
      obtain ⟨k, hk, rfl, hall⟩ := hrel
      have HA : Hid (∀ j, j < k → rulB (byt s j) = true) := hall
      clear hall
      by_cases hlt : k < 3
      · have HB : Hid (((s[k].toNat : Nat) : Int) = byt s k) := byt_eq s k (by omega)
        go_wp2
        all_goals first
          | (have HR : rulB (byt s k) = true := by (rw [← HB.out]; simp [rulB]; simp at *; omega)
             exact ⟨⟨k + 1, by omega, by go_num, upto_succ HA.out HR⟩, by simp [intOf]; omega⟩)
          | (have HR : rulB (byt s k) = false := by (rw [← HB.out]; simp [rulB]; simp at *; omega)
             go_ret
             exact ⟨ret_bool (ruleB_false k hlt HR).symm, rfl⟩)
      · go_wp2
        go_ret
        exact ⟨ret_bool (ruleB_true h3 (fun j hj => HA.out j (by omega))).symm, rfl⟩
  · have hf := ruleB_size h3
    have hd : ((s.size : Int) == 3) = false := by simp; omega
    rw [hf]
    clear hf
    go_enter Try.func52, Try.ntmps52
    go_wp2
    go_ret
    exact ⟨rfl, rfl⟩

theorem group_any (b : Int) (w : World) :
    Calls Try.prog 101 #[.int .u8 b] w fun e w' => e = .returned (.int .u8 (grpB b)) ∧ w' = w := by
  go_enter Try.func101, Try.ntmps101
  go_wp2
  all_goals go_ret
  all_goals refine ⟨?_, rfl⟩
  all_goals (have : ∀ x y : Int, x = y → Ending.returned (.int .u8 x) = Ending.returned (.int .u8 y) := fun x y h => by rw [h])
  all_goals (apply this; simp only [grpB]; simp at *; omega)

theorem projectByte_any (r b : Int) (w : World) :
    Calls Try.prog 82 #[.int .u8 r, .int .u8 b] w fun e w' => e = .returned (.int .u8 (prjB r b)) ∧ w' = w := by
  go_enter Try.func82, Try.ntmps82
  go_wp2_with (go_at_call 101; refine (group_any _ _).mono ?_; rintro e w' ⟨rfl, rfl⟩)
  all_goals go_ret
  all_goals refine ⟨?_, rfl⟩
  all_goals (have : ∀ x y : Int, x = y → Ending.returned (.int .u8 x) = Ending.returned (.int .u8 y) := fun x y h => by rw [h])
  all_goals (apply this; simp only [prjB]; simp at *; simp [*])

theorem triCell (w : World) (a b c : Int) (k : Nat) (hk : k < 3) (T : TypeId) :
    (w.alloc (.cells #[.int .u8 a, .int .u8 b, .int .u8 c] T)).cell? ⟨w.heap.size, k, none⟩ = some (.int .u8 (tri a b c k)) := by
  have : k = 0 ∨ k = 1 ∨ k = 2 := by omega
  rcases this with rfl | rfl | rfl <;> simp [tri, go_sem]

theorem rightByte_any (a : Int) (w : World) :
    Calls Try.prog 100 #[.int .u8 a] w fun e w' => e = .returned (.bool (labB a)) ∧ w' = w := by
  go_enter Try.func100, Try.ntmps100
  go_wp2_with (go_at_call 108; refine (isLetter_any _ _).mono ?_; rintro e w' ⟨rfl, rfl⟩)
  all_goals go_ret
  all_goals exact ⟨by simp [labB, *], rfl⟩

theorem labRight_any (a b c : Int) (w : World) :
    Calls Try.prog 81 #[.agg #[.int .u8 a, .int .u8 b, .int .u8 c]] w fun e w' => e = .returned (.bool (lab3 a b c)) ∧ w' = w.alloc (.cells #[.int .u8 a, .int .u8 b, .int .u8 c] 26) := by
  go_enter Try.func81, Try.ntmps81
  go_wp2
  go_loop [3] (fun i => ∃ k : Nat, k ≤ 3 ∧ i = .int .i64 k ∧ ∀ j, j < k → labB (tri a b c j) = true) (fun i => 3 - (intOf i).toNat)
  case atStart => exact ⟨0, Nat.zero_le _, rfl, fun j hj => by omega⟩
  case round =>
    obtain ⟨k, hk, rfl, hall⟩ := hrel
    have HA : Hid (∀ j, j < k → labB (tri a b c j) = true) := hall
    clear hall
    by_cases hlt : k < 3
    · have hcell := triCell w a b c k hlt 26
      cases hL : labB (tri a b c k)
      · go_wp2_with (go_at_call 100; refine (rightByte_any _ _).mono ?_; rintro e w' ⟨rfl, rfl⟩)
        go_ret
        exact ⟨ret_bool (lab3_false k hlt hL).symm, rfl⟩
      · go_wp2_with (go_at_call 100; refine (rightByte_any _ _).mono ?_; rintro e w' ⟨rfl, rfl⟩)
        exact ⟨⟨k + 1, by omega, by go_num, upto_succ HA.out hL⟩, by simp [intOf]; omega⟩
    · go_wp2
      go_ret
      exact ⟨ret_bool (lab3_true (fun j hj => HA.out j (by omega))).symm, rfl⟩

theorem isLabels_any (a b c : Int) (w : World) :
    Calls Try.prog 53 #[.agg #[.int .u8 a, .int .u8 b, .int .u8 c]] w fun e w' => e = .returned (.bool (lab3 a b c)) ∧ w' = w.alloc (.cells #[.int .u8 a, .int .u8 b, .int .u8 c] 26) := by
  go_enter Try.func53, Try.ntmps53
  go_wp2
  go_loop [3] (fun i => ∃ k : Nat, k ≤ 3 ∧ i = .int .i64 k ∧ ∀ j, j < k → labB (tri a b c j) = true) (fun i => 3 - (intOf i).toNat)
  case atStart => exact ⟨0, Nat.zero_le _, rfl, fun j hj => by omega⟩
  case round =>
    obtain ⟨k, hk, rfl, hall⟩ := hrel
    have HA : Hid (∀ j, j < k → labB (tri a b c j) = true) := hall
    clear hall
    by_cases hlt : k < 3
    · have hcell := triCell w a b c k hlt 26
      go_wp2_with (go_at_call 83; refine (letter_any _ _).mono ?_; rintro e w' ⟨rfl, rfl⟩)
      all_goals first
        | (have HR : labB (tri a b c k) = true := by (simp only [labB]; simp at *; simp [*]; done)
           exact ⟨⟨k + 1, by omega, by go_num, upto_succ HA.out HR⟩, by simp [intOf]; omega⟩)
        | (have HR : labB (tri a b c k) = true := by (simp only [labB]; simp at *; rcases ‹_ ∨ _› with h | h <;> simp [h]; done)
           exact ⟨⟨k + 1, by omega, by go_num, upto_succ HA.out HR⟩, by simp [intOf]; omega⟩)
        | (have HR : labB (tri a b c k) = false := by (simp only [labB]; simp at *; simp [*]; done)
           go_ret
           exact ⟨ret_bool (lab3_false k hlt HR).symm, rfl⟩)
    · go_wp2
      go_ret
      exact ⟨ret_bool (lab3_true (fun j hj => HA.out j (by omega))).symm, rfl⟩

theorem num_any (e : Int) (w : World) (_h0 : 0 ≤ e) (_h1 : e ≤ 13) : Calls Try.prog 35 #[.int .i64 e] w fun r w' => r = .returned (.int .i64 e) ∧ w' = w := by
  go_enter Try.func35, Try.ntmps35
  go_wp2
  go_ret
  exact ⟨rfl, rfl⟩

end Go.Proofs.Ythciddpljcbhiaa
