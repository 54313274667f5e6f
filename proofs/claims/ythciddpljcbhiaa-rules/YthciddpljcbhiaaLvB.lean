/- Walks: one level by the document's answer; a configuration by both. -/
import Derived.Test.YthciddpljcbhiaaLvA
namespace Go.Proofs.Ythciddpljcbhiaa
open Go.RowKit

set_option maxHeartbeats 1000000 in
theorem rightLevel_zero (b off n cap : Nat) (ls : List Lv) (span keep : Int) (w : World) (hn : ls.length = n) (hm : n ≤ maxLen) (hat : LvAt w b off ls) (hwf : LvWf ls)
    (hs1 : 1 ≤ span) (hs2 : span ≤ 100) (hlt : 0 < n) :
    Calls Try.prog 50 #[.agg #[.int .i64 span, .int .i64 keep, .slice (some ⟨b, off, none⟩) n cap], .int .i64 0] w fun e w' => e = .returned (.bool (refOk ls span keep 0)) ∧ Below w.heap.size w w' := by
  unfold maxLen at hm
  have hb0 : b < w.heap.size := hat.block (by omega)
  obtain ⟨c0, c1, c2, c3⟩ := hat 0 (by omega)
  simp only [Nat.zero_mul, Nat.add_zero] at c0 c1 c2 c3
  obtain ⟨hw1, hw2, hrs⟩ := hwf 0
  clear hat hwf hn
  have HI := refOk_zero ls span keep
  have HI' : Hid (refOk ls span keep 0 = true ↔ ruleB (lvG ls 0).rule = true ∧ 1 ≤ (lvG ls 0).limit ∧ (lvG ls 0).limit ≤ 20 ∧ (lvG ls 0).age ≤ keep ∧ 1 ≤ (lvG ls 0).window ∧ span % (lvG ls 0).window = 0 ∧ (lvG ls 0).age = 0) := HI
  clear HI
  generalize hL : lvG ls 0 = L at *
  clear hL
  cases hru : ruleB L.rule
  · go_enter Try.func50, Try.ntmps50
    go_wp2_with (go_at_call 52; refine (isRule_any _ hrs _).mono ?_; rintro e w' ⟨rfl, rfl⟩)
    go_ret
    refine ⟨ret_bool (no_of ?_).symm, by go_grown⟩
    rw [HI'.out]; simp [hru]
  · go_enter Try.func50, Try.ntmps50
    go_wp2_with (go_at_call 52; refine (isRule_any _ hrs _).mono ?_; rintro e w' ⟨rfl, rfl⟩)
    all_goals go_ret
    all_goals refine ⟨ret_bool ?_, by go_grown⟩
    all_goals (rw [Bool.eq_iff_iff, HI'.out]; clear HI'; simp only [hru, true_and, beq_iff_eq, reduceCtorEq, false_iff]; first | omega | (simp at *; omega))

set_option maxHeartbeats 1000000 in
theorem rightLevel_succ (b off n cap m : Nat) (ls : List Lv) (span keep : Int) (w : World) (hn : ls.length = n) (hm : n ≤ maxLen) (hat : LvAt w b off ls) (hwf : LvWf ls)
    (hs1 : 1 ≤ span) (hs2 : span ≤ 100) (hlt : m + 1 < n) (hp : 1 ≤ (lvG ls m).window) :
    Calls Try.prog 50 #[.agg #[.int .i64 span, .int .i64 keep, .slice (some ⟨b, off, none⟩) n cap], .int .i64 ((m + 1 : Nat) : Int)] w fun e w' => e = .returned (.bool (refOk ls span keep (m + 1))) ∧ Below w.heap.size w w' := by
  unfold maxLen at hm
  have hb0 : b < w.heap.size := hat.block (by omega)
  obtain ⟨c0, c1, c2, c3⟩ := hat (m + 1) (by omega)
  obtain ⟨p0, p1, p2, p3⟩ := hat m (by omega)
  obtain ⟨hw1, hw2, hrs⟩ := hwf (m + 1)
  obtain ⟨hv1, hv2, _⟩ := hwf m
  clear hat hwf hn
  have HI := refOk_succ ls span keep m
  generalize hL : lvG ls (m + 1) = L at *
  generalize hL' : lvG ls m = L' at *
  clear hL hL'
  have HI' : Hid (refOk ls span keep (m + 1) = true ↔ ruleB L.rule = true ∧ 1 ≤ L.limit ∧ L.limit ≤ 20 ∧ L.age ≤ keep ∧ 1 ≤ L.window ∧ span % L.window = 0 ∧ L'.age < L.age ∧ L.window % L'.window = 0) := HI
  clear HI
  cases hru : ruleB L.rule
  · go_enter Try.func50, Try.ntmps50
    go_wp2_with (go_at_call 52; refine (isRule_any _ hrs _).mono ?_; rintro e w' ⟨rfl, rfl⟩)
    go_ret
    refine ⟨ret_bool (no_of ?_).symm, by go_grown⟩
    rw [HI'.out]; simp [hru]
  · have hz : (((m + 1 : Nat) : Int) == 0) = false := by simp; omega
    go_enter Try.func50, Try.ntmps50
    go_wp2_with (go_at_call 52; refine (isRule_any _ hrs _).mono ?_; rintro e w' ⟨rfl, rfl⟩)
    all_goals go_ret
    all_goals refine ⟨ret_bool ?_, by go_grown⟩
    all_goals (rw [Bool.eq_iff_iff, HI'.out]; clear HI'; simp only [hru, true_and, beq_iff_eq, reduceCtorEq, false_iff]; first | omega | (simp at *; omega))

theorem ret_i64 {a b : Int} (h : a = b) : Ending.returned (.int .i64 a) = .returned (.int .i64 b) := by rw [h]

set_option maxHeartbeats 1000000 in
theorem refRight_no (a : Option Addr) (n cap : Nat) (span keep : Int) (w : World) (h : ¬ (1 ≤ span ∧ span ≤ 100 ∧ 0 ≤ keep ∧ keep ≤ 19 ∧ 1 ≤ n ∧ n ≤ 4)) :
    Calls Try.prog 32 #[.agg #[.int .i64 span, .int .i64 keep, .slice a n cap]] w fun e w' => e = .returned (.int .i64 1) ∧ Below w.heap.size w w' := by
  rcases first_of h with h1 | ⟨h1, h2⟩ | ⟨h1, h2, h3⟩ | ⟨h1, h2, h3, h4⟩ | ⟨h1, h2, h3, h4, h5⟩ | ⟨h1, h2, h3, h4, h5, h6⟩
  all_goals clear h
  all_goals go_enter Try.func32, Try.ntmps32
  all_goals go_wp2
  all_goals go_ret
  all_goals exact ⟨rfl, by go_grown⟩

set_option maxHeartbeats 1000000 in
theorem cfgRight_no (a : Option Addr) (n cap : Nat) (span keep : Int) (w : World) (h : ¬ (1 ≤ span ∧ span ≤ 100 ∧ 0 ≤ keep ∧ keep ≤ 19 ∧ 1 ≤ n ∧ n ≤ 4)) :
    Calls Try.prog 49 #[.agg #[.int .i64 span, .int .i64 keep, .slice a n cap]] w fun e w' => e = .returned (.bool false) ∧ Below w.heap.size w w' := by
  rcases first_of h with h1 | ⟨h1, h2⟩ | ⟨h1, h2, h3⟩ | ⟨h1, h2, h3, h4⟩ | ⟨h1, h2, h3, h4, h5⟩ | ⟨h1, h2, h3, h4, h5, h6⟩
  all_goals clear h
  all_goals go_enter Try.func49, Try.ntmps49
  all_goals go_wp2
  all_goals go_ret
  all_goals exact ⟨rfl, by go_grown⟩

set_option maxHeartbeats 1000000 in
theorem refRight_yes (b off n cap : Nat) (ls : List Lv) (span keep : Int) (w : World) (hn : ls.length = n) (hat : LvAt w b off ls) (hwf : LvWf ls)
    (h1 : 1 ≤ span) (h2 : span ≤ 100) (h3 : 0 ≤ keep) (h4 : keep ≤ 19) (h5 : 1 ≤ n) (h6 : n ≤ 4) :
    Calls Try.prog 32 #[.agg #[.int .i64 span, .int .i64 keep, .slice (some ⟨b, off, none⟩) n cap]] w fun e w' => e = .returned (.int .i64 (errR (refsB ls span keep))) ∧ Below w.heap.size w w' := by
  have HAT : Hid (LvAt w b off ls) := hat
  have HN : Hid (ls.length = n) := hn
  have HW : Hid (LvWf ls) := hwf
  have hb0 : b < w.heap.size := hat.block (by omega)
  clear hat hn hwf
  have hd1 : 1 ≤ (n : Int) := by omega
  have hd2 : (n : Int) ≤ 4 := by omega
  go_enter Try.func32, Try.ntmps32
  go_wp2
  go_loopw [3] (fun i wr => ∃ k : Nat, k ≤ n ∧ i = .int .i64 k ∧ Below (w.heap.size + 1) (w.alloc (.cells #[.int .i64 span, .int .i64 keep, .slice (some ⟨b, off, none⟩) n cap] 24)) wr ∧ ∀ j, j < k → refOk ls span keep j = true) (fun i _ => n - (intOf i).toNat)
  case atStart => exact ⟨0, Nat.zero_le _, rfl, Below.refl _ _, fun j hj => by omega⟩
  case round =>
    obtain ⟨k, hk, rfl, hbel, hall⟩ := hrel
    have HA : Hid (∀ j, j < k → refOk ls span keep j = true) := hall
    clear hall
    have q0 : wr.cell? ⟨w.heap.size, 0, none⟩ = some (.int .i64 span) := by rw [hbel.cell (p := ⟨w.heap.size, 0, none⟩) (by simp)]; simp [go_sem]
    have q1 : wr.cell? ⟨w.heap.size, 1, none⟩ = some (.int .i64 keep) := by rw [hbel.cell (p := ⟨w.heap.size, 1, none⟩) (by simp)]; simp [go_sem]
    have q2 : wr.cell? ⟨w.heap.size, 2, none⟩ = some (.slice (some ⟨b, off, none⟩) n cap) := by rw [hbel.cell (p := ⟨w.heap.size, 2, none⟩) (by simp)]; simp [go_sem]
    have hsz : w.heap.size + 1 ≤ wr.heap.size := by have := hbel.size; simpa using this
    have hw0 : Below w.heap.size w wr := (((Below.refl _ _).alloc (Nat.le_refl _) _).trans (hbel.mono (by omega)))
    by_cases hlt : k < n
    · have HL : Hid (LvAt wr b off ls) := HAT.out.below hw0 hb0
      have HC : Hid (Calls Try.prog 50 #[.agg #[.int .i64 span, .int .i64 keep, .slice (some ⟨b, off, none⟩) n cap], .int .i64 (k : Int)] wr fun e w' => e = .returned (.bool (refOk ls span keep k)) ∧ Below wr.heap.size wr w') := by
        by_cases h0 : k = 0
        · subst h0
          exact rightLevel_zero b off n cap ls span keep wr HN.out (by unfold maxLen; omega) HL.out HW.out h1 h2 hlt
        · obtain ⟨m, rfl⟩ : ∃ m, k = m + 1 := ⟨k - 1, by omega⟩
          have hp : 1 ≤ (lvG ls m).window := by
            have := HA.out m (by omega)
            simp only [refOk, Bool.and_eq_true, okWin_iff] at this
            exact this.1.2.1
          exact rightLevel_succ b off n cap m ls span keep wr HN.out (by unfold maxLen; omega) HL.out HW.out h1 h2 hlt hp
      go_wp2_with fail
      refine HC.out.mono ?_
      rintro e w1 ⟨rfl, hb1⟩
      have hb2 : Below (w.heap.size + 1) (w.alloc (.cells #[.int .i64 span, .int .i64 keep, .slice (some ⟨b, off, none⟩) n cap] 24)) w1 := hbel.trans (hb1.mono hsz)
      have hw2 : Below w.heap.size w w1 := hw0.trans (hb1.mono (by omega))
      cases hR : refOk ls span keep k
      · have HR : Hid (refOk ls span keep k = false) := hR
        go_wp2
        go_ret
        exact ⟨ret_i64 (by rw [show refsB ls span keep = false from all_false k (by rw [HN.out]; exact hlt) HR.out]; rfl), hw2⟩
      · have HR : Hid (refOk ls span keep k = true) := hR
        go_wp2
        exact ⟨⟨k + 1, by omega, by go_num, hb2, upto_succ HA.out HR.out⟩, by simp [intOf]; omega⟩
    · go_wp2
      go_ret
      exact ⟨ret_i64 (by rw [show refsB ls span keep = true from all_true (fun j hj => HA.out j (by have := HN.out; omega))]; rfl), hw0⟩

end Go.Proofs.Ythciddpljcbhiaa
