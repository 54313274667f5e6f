/- Walks: when a batch is right, by the program and by the document's answer. -/
import Derived.Test.YthciddpljcbhiaaNum
import Derived.Test.YthciddpljcbhiaaSmSpec
namespace Go.Proofs.Ythciddpljcbhiaa
open Go.RowKit

abbrev smO (x : Sm) : Obj := .cells #[.int .i64 x.time, .int .u8 x.l0, .int .u8 x.l1, .int .u8 x.l2, .int .i32 x.value] 42
abbrev smV (x : Sm) : Value := .agg #[.int .i64 x.time, .int .u8 x.l0, .int .u8 x.l1, .int .u8 x.l2, .int .i32 x.value]

theorem smRight_any (x : Sm) (w : World) :
    Calls Try.prog 58 #[smV x] w fun e w' => e = .returned (.bool (smOk x)) ∧ Below w.heap.size w w' := by
  have HI : Hid (smOk x = true ↔ 0 ≤ x.time ∧ x.time ≤ 100000 ∧ lab3 x.l0 x.l1 x.l2 = true) := smOk_iff x
  by_cases h : 0 ≤ x.time ∧ x.time ≤ 100000
  · obtain ⟨h0, h1⟩ := h
    go_enter Try.func58, Try.ntmps58
    go_wp2_with (go_at_call 81; refine (labRight_any _ _ _ _).mono ?_; rintro e w' ⟨rfl, rfl⟩)
    go_ret
    refine ⟨ret_bool ?_, by go_grown⟩
    rw [Bool.eq_iff_iff, HI.out]; simp [h0, h1]
  · have hf : smOk x = false := no_of (by rw [HI.out]; omega)
    rw [hf]
    clear hf
    go_enter Try.func58, Try.ntmps58
    by_cases h0 : 0 ≤ x.time
    · have h1 : 100000 < x.time := by omega
      go_wp2
      go_ret
      exact ⟨rfl, by go_grown⟩
    · go_wp2
      go_ret
      exact ⟨rfl, by go_grown⟩

theorem ret_i64' {a b : Int} (h : a = b) : Ending.returned (.int .i64 a) = .returned (.int .i64 b) := by rw [h]

def errS (b : Bool) : Int := if b then 0 else 5
theorem batE_no {ls : List Sm} (h : ¬ (1 ≤ ls.length ∧ ls.length ≤ 8)) : batE ls = 4 := by simp [batE, h]
theorem batE_yes {ls : List Sm} (h : 1 ≤ ls.length ∧ ls.length ≤ 8) : batE ls = errS (smsOk ls) := by simp [batE, h, errS]

set_option maxHeartbeats 400000 in
theorem checkBatch_any (a : Option Addr) (n cap : Nat) (ls : List Sm) (w : World) (h : IsSms w a n ls) :
    Calls Try.prog 42 #[.slice a n cap] w fun e w' => e = .returned (.int .i64 (batE ls)) ∧ Below w.heap.size w w' := by
  obtain ⟨hn, hx⟩ := h
  by_cases hb : 1 ≤ n ∧ n ≤ 8
  · obtain ⟨b, off, rfl, hat⟩ := hx (by omega)
    rw [batE_yes (by rw [hn]; exact hb)]
    obtain ⟨hb1, hb2⟩ := hb
    have hb0 : b < w.heap.size := hat.block (by omega)
    have HAT : Hid (SmAt w b off ls) := hat
    have HN : Hid (ls.length = n) := hn
    clear hat hn hx
    go_enter Try.func42, Try.ntmps42
    go_wp2
    go_loopw [3] (fun i wr => ∃ k : Nat, k ≤ n ∧ i = .int .i64 k ∧ Below w.heap.size w wr ∧ ∀ j, j < k → smOk (smG ls j) = true) (fun i _ => n - (intOf i).toNat)
    case atStart => exact ⟨0, Nat.zero_le _, rfl, Below.refl _ _, fun j hj => by omega⟩
    case round =>
      obtain ⟨k, hk, rfl, hbel, hall⟩ := hrel
      have HA : Hid (∀ j, j < k → smOk (smG ls j) = true) := hall
      clear hall
      by_cases hlt : k < n
      · obtain ⟨c0, c1, c2, c3, c4⟩ := (HAT.out.below hbel hb0) k (by rw [HN.out]; exact hlt)
        have hsz := hbel.size
        go_wp2_with fail
        refine (smRight_any (smG ls k) _).mono ?_
        rintro e w1 ⟨rfl, hb1⟩
        have hbw : Below w.heap.size w w1 := hbel.trans (hb1.mono hsz)
        cases hR : smOk (smG ls k)
        · have HR : Hid (smOk (smG ls k) = false) := hR
          go_wp2
          go_ret
          exact ⟨ret_i64' (by rw [show smsOk ls = false from all_false k (by rw [HN.out]; exact hlt) HR.out]; rfl), hbw⟩
        · have HR : Hid (smOk (smG ls k) = true) := hR
          go_wp2
          exact ⟨⟨k + 1, by omega, by go_num, hbw, upto_succ HA.out HR.out⟩, by simp [intOf]; omega⟩
      · go_wp2
        go_ret
        exact ⟨ret_i64' (by rw [show smsOk ls = true from all_true (fun j hj => HA.out j (by have := HN.out; omega))]; rfl), hbel⟩
  · rw [batE_no (by rw [hn]; exact hb)]
    clear hx
    by_cases h1 : (n : Int) < 1
    · go_enter Try.func42, Try.ntmps42
      go_wp2
      go_ret
      exact ⟨rfl, Below.refl _ _⟩
    · have h2 : 8 < (n : Int) := by omega
      go_enter Try.func42, Try.ntmps42
      go_wp2
      go_ret
      exact ⟨rfl, Below.refl _ _⟩

set_option maxHeartbeats 400000 in
theorem rightBatch_any (a : Option Addr) (n cap : Nat) (ls : List Sm) (w : World) (h : IsSms w a n ls) :
    Calls Try.prog 55 #[.slice a n cap] w fun e w' => e = .returned (.int .i64 (batE ls)) ∧ Below w.heap.size w w' := by
  obtain ⟨hn, hx⟩ := h
  by_cases hb : 1 ≤ n ∧ n ≤ 8
  · obtain ⟨b, off, rfl, hat⟩ := hx (by omega)
    rw [batE_yes (by rw [hn]; exact hb)]
    obtain ⟨hb1, hb2⟩ := hb
    have hb0 : b < w.heap.size := hat.block (by omega)
    have HAT : Hid (SmAt w b off ls) := hat
    have HN : Hid (ls.length = n) := hn
    clear hat hn hx
    go_enter Try.func55, Try.ntmps55
    go_wp2
    go_loopw [3] (fun i wr => ∃ k : Nat, k ≤ n ∧ i = .int .i64 k ∧ Below w.heap.size w wr ∧ ∀ j, j < k → smOk (smG ls j) = true) (fun i _ => n - (intOf i).toNat)
    case atStart => exact ⟨0, Nat.zero_le _, rfl, Below.refl _ _, fun j hj => by omega⟩
    case round =>
      obtain ⟨k, hk, rfl, hbel, hall⟩ := hrel
      have HA : Hid (∀ j, j < k → smOk (smG ls j) = true) := hall
      clear hall
      by_cases hlt : k < n
      · obtain ⟨c0, c1, c2, c3, c4⟩ := (HAT.out.below hbel hb0) k (by rw [HN.out]; exact hlt)
        have hsz := hbel.size
        have hbr : b < wr.heap.size := by omega
        have hne : b ≠ wr.heap.size := by omega
        go_wp2_with fail
        refine (isLabels_any _ _ _ _).mono ?_
        rintro e w1 ⟨rfl, rfl⟩
        have hbw : Below w.heap.size w (wr.alloc (.cells #[.int .u8 (smG ls k).l0, .int .u8 (smG ls k).l1, .int .u8 (smG ls k).l2] 26)) := hbel.alloc hsz _
        have HI : Hid (smOk (smG ls k) = true ↔ 0 ≤ (smG ls k).time ∧ (smG ls k).time ≤ 100000 ∧ lab3 (smG ls k).l0 (smG ls k).l1 (smG ls k).l2 = true) := smOk_iff _
        generalize hX : smG ls k = X at *
        have HX : Hid (smG ls k = X) := hX
        clear hX
        cases hR : lab3 X.l0 X.l1 X.l2
        · have HR : Hid (smOk X = false) := no_of (by rw [HI.out]; simp [hR])
          go_wp2
          go_ret
          exact ⟨ret_i64' (by rw [show smsOk ls = false from all_false k (by rw [HN.out]; exact hlt) (HX.out ▸ HR.out)]; rfl), hbw⟩
        · go_wp2
          all_goals first
            | (have HR : smOk X = true := by (rw [HI.out]; refine ⟨?_, ?_, hR⟩ <;> omega)
               exact ⟨⟨k + 1, by omega, by go_num, hbw, upto_succ HA.out (HX.out ▸ HR)⟩, by simp [intOf]; omega⟩)
            | (have HR : smOk X = false := by (apply no_of; rw [HI.out]; omega)
               go_ret
               exact ⟨ret_i64' (by rw [show smsOk ls = false from all_false k (by rw [HN.out]; exact hlt) (HX.out ▸ HR)]; rfl), hbw⟩)
      · go_wp2
        go_ret
        exact ⟨ret_i64' (by rw [show smsOk ls = true from all_true (fun j hj => HA.out j (by have := HN.out; omega))]; rfl), hbel⟩
  · rw [batE_no (by rw [hn]; exact hb)]
    clear hx
    by_cases h1 : (n : Int) < 1
    · go_enter Try.func55, Try.ntmps55
      go_wp2
      go_ret
      exact ⟨rfl, Below.refl _ _⟩
    · have h2 : 8 < (n : Int) := by omega
      go_enter Try.func55, Try.ntmps55
      go_wp2
      go_ret
      exact ⟨rfl, Below.refl _ _⟩

end Go.Proofs.Ythciddpljcbhiaa
