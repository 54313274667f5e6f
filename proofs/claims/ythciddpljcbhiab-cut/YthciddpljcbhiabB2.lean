/- Texts of one claim put together: Grp, LvA, LvB, Chk, Rws, RwQ, Bok, Giv. -/
import Derived.Test.YthciddpljcbhiabB1
import Derived.Test.YthciddpljcbhiabA
import Derived.Deep.Cut
import Derived.Deep.CutRange

/- Walks: the group of a series. -/
namespace Go.Proofs.Ythciddpljcbhiab
open Go.RowKit

set_option maxHeartbeats 4000000 in
set_option maxRecDepth 100000 in
theorem groupOf_any (q : Qy) (s : Lb) (w : World) (hm : q.mt.size = 3) (hg : q.gb.size = 3) :
    Calls Try.prog 56 #[.agg (qyC q), .agg (lbA s)] w fun e w' => e = .returned (gpV q s) ∧ Below w.heap.size w w' := by
  have hm' : ((q.mt.size : Int) != 3) = false := by simp [hm]
  have hg' : ((q.gb.size : Int) != 3) = false := by simp [hg]
  have heq := fun w => eq26 9998 s.a s.b s.c 42 42 42 w
  by_cases ho : s = over
  · have hb : (s.a == 42 && s.b == 42 && s.c == 42) = true := by rw [ho]; rfl
    have HO : Hid (gpV q s = _) := gpV_over ho
    clear ho
    rw [hb] at heq
    clear hb
    go_enter Try.func56, Try.ntmps56
    go_wp2_with fail
    go_region_with (go_at_call 62; refine (rest_any _).mono ?_; rintro e w' ⟨rfl, rfl⟩)
    all_goals go_wp2_with fail
    all_goals go_returns
    all_goals refine ⟨ret_of HO.out.symm, ?_⟩
    all_goals go_grown
  · have hb : (s.a == 42 && s.b == 42 && s.c == 42) = false := by
      apply no_of
      intro h
      simp only [Bool.and_eq_true, beq_iff_eq] at h
      exact ho (lb_ext h.1.1 h.1.2 h.2)
    rw [hb] at heq
    clear hb
    have HOV : Hid (¬ s = over) := ho
    clear ho
    have A0 : Hid (((q.mt[0].toNat : Nat) : Int) = byt q.mt 0) := byt_eq q.mt 0 (by omega)
    have A1 : Hid (((q.mt[1].toNat : Nat) : Int) = byt q.mt 1) := byt_eq q.mt 1 (by omega)
    have A2 : Hid (((q.mt[2].toNat : Nat) : Int) = byt q.mt 2) := byt_eq q.mt 2 (by omega)
    have B0 : Hid (((q.gb[0].toNat : Nat) : Int) = byt q.gb 0) := byt_eq q.gb 0 (by omega)
    have B1 : Hid (((q.gb[1].toNat : Nat) : Int) = byt q.gb 1) := byt_eq q.gb 1 (by omega)
    have B2 : Hid (((q.gb[2].toNat : Nat) : Int) = byt q.gb 2) := byt_eq q.gb 2 (by omega)
    go_enter Try.func56, Try.ntmps56
    go_wp2_with fail
    go_region_with (go_at_call 62; refine (rest_any _).mono ?_; rintro e w' ⟨rfl, rfl⟩)
    all_goals clear heq
    all_goals go_wp2_with fail
    all_goals go_loopw [7] (fun i wr => (i = .int .i64 0 ∧ ∃ d, wr = (((((w.alloc (.cells (qyC q) 71)).alloc (c3 s.a s.b s.c)).alloc (c3 0 0 0)).alloc (c3 42 42 42)).alloc (c3 46 46 46)).drewN d)
      ∨ (i = .int .i64 1 ∧ mOk (byt q.mt 0) s.a = true ∧ ∃ d, wr = (((((w.alloc (.cells (qyC q) 71)).alloc (c3 s.a s.b s.c)).alloc (c3 0 0 0)).alloc (c3 42 42 42)).alloc (c3 (gB (byt q.gb 0) s.a) 46 46)).drewN d)
      ∨ (i = .int .i64 2 ∧ mOk (byt q.mt 0) s.a = true ∧ mOk (byt q.mt 1) s.b = true ∧ ∃ d, wr = (((((w.alloc (.cells (qyC q) 71)).alloc (c3 s.a s.b s.c)).alloc (c3 0 0 0)).alloc (c3 42 42 42)).alloc (c3 (gB (byt q.gb 0) s.a) (gB (byt q.gb 1) s.b) 46)).drewN d)
      ∨ (i = .int .i64 3 ∧ mOk (byt q.mt 0) s.a = true ∧ mOk (byt q.mt 1) s.b = true ∧ mOk (byt q.mt 2) s.c = true ∧ ∃ d, wr = (((((w.alloc (.cells (qyC q) 71)).alloc (c3 s.a s.b s.c)).alloc (c3 0 0 0)).alloc (c3 42 42 42)).alloc (c3 (gB (byt q.gb 0) s.a) (gB (byt q.gb 1) s.b) (gB (byt q.gb 2) s.c))).drewN d)) (fun i _ => 3 - (intOf i).toNat)
    all_goals first | (case atStart => exact Or.inl ⟨rfl, _, rfl⟩) | skip
    all_goals
      rcases hrel with ⟨rfl, d, rfl⟩ | ⟨rfl, M0, d, rfl⟩ | ⟨rfl, M0, M1, d, rfl⟩ | ⟨rfl, M0, M1, M2, d, rfl⟩
      · cases e1 : (((q.mt[0].toNat : Nat) : Int) != 46)
        · have HM : mOk (byt q.mt 0) s.a = true := by rw [mOk_iff, ← A0.out, e1]; rfl
          go_wp2_with fail
          go_quiet (fail)
          cases e3 : (((q.gb[0].toNat : Nat) : Int) == 49)
          · go_wp2_with fail
            exact ⟨Or.inr (Or.inl ⟨rfl, HM, _, by rw [gB_neg (b := byt q.gb 0) (by rw [← B0.out]; exact e3)]⟩), by simp [intOf]⟩
          · go_wp2_with fail
            exact ⟨Or.inr (Or.inl ⟨rfl, HM, _, (setc3_0 (((w.alloc (.cells (qyC q) 71)).alloc (c3 s.a s.b s.c)).alloc (c3 0 0 0) |>.alloc (c3 42 42 42)) _ _ _ _ _ (by simp)).trans (by rw [gB_pos (b := byt q.gb 0) (by rw [← B0.out]; exact e3)])⟩), by simp [intOf]⟩
        · cases e2 : (((q.mt[0].toNat : Nat) : Int) != s.a)
          · have HM : mOk (byt q.mt 0) s.a = true := by rw [mOk_iff, ← A0.out, e2]; simp
            go_wp2_with fail
            go_quiet (fail)
            cases e3 : (((q.gb[0].toNat : Nat) : Int) == 49)
            · go_wp2_with fail
              exact ⟨Or.inr (Or.inl ⟨rfl, HM, _, by rw [gB_neg (b := byt q.gb 0) (by rw [← B0.out]; exact e3)]⟩), by simp [intOf]⟩
            · go_wp2_with fail
              exact ⟨Or.inr (Or.inl ⟨rfl, HM, _, (setc3_0 (((w.alloc (.cells (qyC q) 71)).alloc (c3 s.a s.b s.c)).alloc (c3 0 0 0) |>.alloc (c3 42 42 42)) _ _ _ _ _ (by simp)).trans (by rw [gB_pos (b := byt q.gb 0) (by rw [← B0.out]; exact e3)])⟩), by simp [intOf]⟩
          · have HM : mOk (byt q.mt 0) s.a = false := by rw [mOk_iff, ← A0.out, e1, e2]; rfl
            go_wp2_with fail
            go_quiet (fail)
            go_wp2_with fail
            go_returns
            refine ⟨ret_of (gpV_none HOV.out (by rw [HM]; simp)).symm, ?_⟩
            repeat (first | exact Below.refl _ _ | refine below_drewN ?_ _ | refine Below.drew ?_ | refine bel_set ?_ (by omega) | refine Below.alloc ?_ (by simp; try omega) _)
      · cases e1 : (((q.mt[1].toNat : Nat) : Int) != 46)
        · have HM : mOk (byt q.mt 1) s.b = true := by rw [mOk_iff, ← A1.out, e1]; rfl
          go_wp2_with fail
          go_quiet (fail)
          cases e3 : (((q.gb[1].toNat : Nat) : Int) == 49)
          · go_wp2_with fail
            exact ⟨Or.inr (Or.inr (Or.inl ⟨rfl, M0, HM, _, by rw [gB_neg (b := byt q.gb 1) (by rw [← B1.out]; exact e3)]⟩)), by simp [intOf]⟩
          · go_wp2_with fail
            exact ⟨Or.inr (Or.inr (Or.inl ⟨rfl, M0, HM, _, (setc3_1 (((w.alloc (.cells (qyC q) 71)).alloc (c3 s.a s.b s.c)).alloc (c3 0 0 0) |>.alloc (c3 42 42 42)) _ _ _ _ _ (by simp)).trans (by rw [gB_pos (b := byt q.gb 1) (by rw [← B1.out]; exact e3)])⟩)), by simp [intOf]⟩
        · cases e2 : (((q.mt[1].toNat : Nat) : Int) != s.b)
          · have HM : mOk (byt q.mt 1) s.b = true := by rw [mOk_iff, ← A1.out, e2]; simp
            go_wp2_with fail
            go_quiet (fail)
            cases e3 : (((q.gb[1].toNat : Nat) : Int) == 49)
            · go_wp2_with fail
              exact ⟨Or.inr (Or.inr (Or.inl ⟨rfl, M0, HM, _, by rw [gB_neg (b := byt q.gb 1) (by rw [← B1.out]; exact e3)]⟩)), by simp [intOf]⟩
            · go_wp2_with fail
              exact ⟨Or.inr (Or.inr (Or.inl ⟨rfl, M0, HM, _, (setc3_1 (((w.alloc (.cells (qyC q) 71)).alloc (c3 s.a s.b s.c)).alloc (c3 0 0 0) |>.alloc (c3 42 42 42)) _ _ _ _ _ (by simp)).trans (by rw [gB_pos (b := byt q.gb 1) (by rw [← B1.out]; exact e3)])⟩)), by simp [intOf]⟩
          · have HM : mOk (byt q.mt 1) s.b = false := by rw [mOk_iff, ← A1.out, e1, e2]; rfl
            go_wp2_with fail
            go_quiet (fail)
            go_wp2_with fail
            go_returns
            refine ⟨ret_of (gpV_none HOV.out (by rw [HM]; simp)).symm, ?_⟩
            repeat (first | exact Below.refl _ _ | refine below_drewN ?_ _ | refine Below.drew ?_ | refine bel_set ?_ (by omega) | refine Below.alloc ?_ (by simp; try omega) _)
      · cases e1 : (((q.mt[2].toNat : Nat) : Int) != 46)
        · have HM : mOk (byt q.mt 2) s.c = true := by rw [mOk_iff, ← A2.out, e1]; rfl
          go_wp2_with fail
          go_quiet (fail)
          cases e3 : (((q.gb[2].toNat : Nat) : Int) == 49)
          · go_wp2_with fail
            exact ⟨Or.inr (Or.inr (Or.inr ⟨rfl, M0, M1, HM, _, by rw [gB_neg (b := byt q.gb 2) (by rw [← B2.out]; exact e3)]⟩)), by simp [intOf]⟩
          · go_wp2_with fail
            exact ⟨Or.inr (Or.inr (Or.inr ⟨rfl, M0, M1, HM, _, (setc3_2 (((w.alloc (.cells (qyC q) 71)).alloc (c3 s.a s.b s.c)).alloc (c3 0 0 0) |>.alloc (c3 42 42 42)) _ _ _ _ _ (by simp)).trans (by rw [gB_pos (b := byt q.gb 2) (by rw [← B2.out]; exact e3)])⟩)), by simp [intOf]⟩
        · cases e2 : (((q.mt[2].toNat : Nat) : Int) != s.c)
          · have HM : mOk (byt q.mt 2) s.c = true := by rw [mOk_iff, ← A2.out, e2]; simp
            go_wp2_with fail
            go_quiet (fail)
            cases e3 : (((q.gb[2].toNat : Nat) : Int) == 49)
            · go_wp2_with fail
              exact ⟨Or.inr (Or.inr (Or.inr ⟨rfl, M0, M1, HM, _, by rw [gB_neg (b := byt q.gb 2) (by rw [← B2.out]; exact e3)]⟩)), by simp [intOf]⟩
            · go_wp2_with fail
              exact ⟨Or.inr (Or.inr (Or.inr ⟨rfl, M0, M1, HM, _, (setc3_2 (((w.alloc (.cells (qyC q) 71)).alloc (c3 s.a s.b s.c)).alloc (c3 0 0 0) |>.alloc (c3 42 42 42)) _ _ _ _ _ (by simp)).trans (by rw [gB_pos (b := byt q.gb 2) (by rw [← B2.out]; exact e3)])⟩)), by simp [intOf]⟩
          · have HM : mOk (byt q.mt 2) s.c = false := by rw [mOk_iff, ← A2.out, e1, e2]; rfl
            go_wp2_with fail
            go_quiet (fail)
            go_wp2_with fail
            go_returns
            refine ⟨ret_of (gpV_none HOV.out (by rw [HM]; simp)).symm, ?_⟩
            repeat (first | exact Below.refl _ _ | refine below_drewN ?_ _ | refine Below.drew ?_ | refine bel_set ?_ (by omega) | refine Below.alloc ?_ (by simp; try omega) _)
      · go_wp2_with fail
        go_returns
        refine ⟨ret_of (gpV_some HOV.out (by rw [M0, M1, M2]; rfl)).symm, ?_⟩
        repeat (first | exact Below.refl _ _ | refine below_drewN ?_ _ | refine Below.drew ?_ | refine bel_set ?_ (by omega) | refine Below.alloc ?_ (by simp; try omega) _)

end Go.Proofs.Ythciddpljcbhiab

/- Walks: the ages of levels. -/
namespace Go.Proofs.Ythciddpljcbhiab
open Go.RowKit

set_option maxHeartbeats 400000 in
theorem rightAges_some (b off n cap : Nat) (ls : List Lv) (keep : Int) (w : World) (hn : ls.length = n) (hm : n ≤ maxLen) (hat : LvAt w b off ls) :
    Calls Try.prog 33 #[.slice (some ⟨b, off, none⟩) n cap, .int .i64 keep] w fun e w' => e = .returned (.bool (agesB ls keep)) ∧ w' = w := by
  unfold maxLen at hm
  have HAT : Hid (LvAt w b off ls) := hat
  have HN : Hid (ls.length = n) := hn
  clear hat hn
  go_enter Try.func33, Try.ntmps33
  go_wp2
  go_loop [5] (fun i => ∃ k : Nat, k ≤ n ∧ i = .int .i64 k ∧ ∀ j, j < k → okAge ls keep j = true) (fun i => n - (intOf i).toNat)
  case atStart => exact ⟨0, Nat.zero_le _, rfl, fun j hj => by omega⟩
  case round =>
    obtain ⟨k, hk, rfl, hall⟩ := hrel
    have HA : Hid (∀ j, j < k → okAge ls keep j = true) := hall
    clear hall
    by_cases hlt : k < n
    · obtain ⟨c0, _, _, _⟩ := HAT.out k (by rw [HN.out]; exact hlt)
      by_cases h0 : k = 0
      · subst h0
        simp only [Nat.zero_mul, Nat.add_zero] at c0
        go_wp2
        all_goals first
          | (have HR : okAge ls keep 0 = true := by (rw [okAge_zero]; first | omega | (simp at *; omega))
             exact ⟨⟨1, by omega, rfl, upto_succ HA.out HR⟩, by simp [intOf]; omega⟩)
          | (have HR : okAge ls keep 0 = false := by (apply no_of; rw [okAge_zero]; first | omega | (simp at *; omega))
             go_ret
             exact ⟨ret_bool (all_false 0 (by rw [HN.out]; exact hlt) HR).symm, rfl⟩)
      · obtain ⟨m, rfl⟩ : ∃ m, k = m + 1 := ⟨k - 1, by omega⟩
        obtain ⟨p0, _, _, _⟩ := HAT.out m (by rw [HN.out]; omega)
        go_wp2
        all_goals first
          | (have HR : okAge ls keep (m + 1) = true := by (rw [okAge_succ]; first | omega | (simp at *; omega))
             exact ⟨⟨m + 1 + 1, by omega, by go_num, upto_succ HA.out HR⟩, by simp [intOf]; omega⟩)
          | (have HR : okAge ls keep (m + 1) = false := by (apply no_of; rw [okAge_succ]; first | omega | (simp at *; omega))
             go_ret
             exact ⟨ret_bool (all_false (m + 1) (by rw [HN.out]; exact hlt) HR).symm, rfl⟩)
    · go_wp2
      go_ret
      exact ⟨ret_bool (all_true (fun j hj => HA.out j (by have := HN.out; omega))).symm, rfl⟩

set_option maxHeartbeats 400000 in
theorem rightWindows_some (b off n cap : Nat) (ls : List Lv) (span : Int) (w : World) (hn : ls.length = n) (hm : n ≤ maxLen) (hat : LvAt w b off ls) (hwf : LvWf ls) (hs1 : 1 ≤ span) (hs2 : span ≤ 100) :
    Calls Try.prog 34 #[.slice (some ⟨b, off, none⟩) n cap, .int .i64 span] w fun e w' => e = .returned (.bool (winsB ls span)) ∧ w' = w := by
  unfold maxLen at hm
  have HAT : Hid (LvAt w b off ls) := hat
  have HN : Hid (ls.length = n) := hn
  have HW : Hid (LvWf ls) := hwf
  clear hat hn hwf
  go_enter Try.func34, Try.ntmps34
  go_wp2
  go_loop [5, 6] (fun ah i => ∃ k : Nat, k ≤ n ∧ i = .int .i64 k ∧ ah = .int .i64 (ahd ls k) ∧ 1 ≤ ahd ls k ∧ ∀ j, j < k → okWin ls span j = true) (fun _ i => n - (intOf i).toNat)
  case atStart => exact ⟨0, Nat.zero_le _, rfl, rfl, by simp [ahd], fun j hj => by omega⟩
  case round =>
    obtain ⟨k, hk, rfl, rfl, hah, hall⟩ := hrel
    have HA : Hid (∀ j, j < k → okWin ls span j = true) := hall
    clear hall
    by_cases hlt : k < n
    · obtain ⟨_, c1, _, _⟩ := HAT.out k (by rw [HN.out]; exact hlt)
      obtain ⟨hw1, hw2, _⟩ := HW.out k
      have HS := ahd_succ ls k
      have HS' : Hid (ahd ls (k + 1) = (lvG ls k).window) := HS
      clear HS
      by_cases hwin : 1 ≤ (lvG ls k).window
      · go_wp2
        all_goals first
          | (have HR : okWin ls span k = true := by (rw [okWin_iff]; first | omega | (simp at *; omega))
             exact ⟨⟨k + 1, by omega, by go_num, by rw [HS'.out], by rw [HS'.out]; exact hwin, upto_succ HA.out HR⟩, by simp [intOf]; omega⟩)
          | (have HR : okWin ls span k = false := by (apply no_of; rw [okWin_iff]; first | omega | (simp at *; omega))
             go_ret
             exact ⟨ret_bool (all_false k (by rw [HN.out]; exact hlt) HR).symm, rfl⟩)
      · have HR : okWin ls span k = false := by (apply no_of; rw [okWin_iff]; omega)
        have HR' : Hid (okWin ls span k = false) := HR
        clear HR
        go_wp2
        go_ret
        exact ⟨ret_bool (all_false k (by rw [HN.out]; exact hlt) HR'.out).symm, rfl⟩
    · go_wp2
      go_ret
      exact ⟨ret_bool (all_true (fun j hj => HA.out j (by have := HN.out; omega))).symm, rfl⟩

set_option maxHeartbeats 400000 in
theorem rightSeries_some (b off n cap : Nat) (ls : List Lv) (w : World) (hn : ls.length = n) (hm : n ≤ maxLen) (hat : LvAt w b off ls) (hwf : LvWf ls) :
    Calls Try.prog 35 #[.slice (some ⟨b, off, none⟩) n cap] w fun e w' => e = .returned (.bool (sersB ls)) ∧ Below w.heap.size w w' := by
  unfold maxLen at hm
  have HAT : Hid (LvAt w b off ls) := hat
  have HN : Hid (ls.length = n) := hn
  have HW : Hid (LvWf ls) := hwf
  clear hat hn hwf
  go_enter Try.func35, Try.ntmps35
  go_wp2
  go_loopw [3] (fun i wr => ∃ k : Nat, k ≤ n ∧ i = .int .i64 k ∧ Below w.heap.size w wr ∧ ∀ j, j < k → okSer ls j = true) (fun i _ => n - (intOf i).toNat)
  case atStart => exact ⟨0, Nat.zero_le _, rfl, Below.refl _ _, fun j hj => by omega⟩
  case round =>
    obtain ⟨k, hk, rfl, hbel, hall⟩ := hrel
    have HA : Hid (∀ j, j < k → okSer ls j = true) := hall
    clear hall
    by_cases hlt : k < n
    · have hb0 : b < w.heap.size := HAT.out.block (by rw [HN.out]; omega)
      obtain ⟨c0, c1, c2, c3⟩ := (HAT.out.below hbel hb0) k (by rw [HN.out]; exact hlt)
      obtain ⟨_, _, hrs⟩ := HW.out k
      have hsz := hbel.size
      cases hru : ruleB (lvG ls k).rule
      · have HR : okSer ls k = false := by (apply no_of; rw [okSer_iff]; simp [hru])
        have HR' : Hid (okSer ls k = false) := HR
        clear HR
        go_wp2_with (go_at_call 48; refine (rightRule_any _ hrs _).mono ?_; rintro e w' ⟨rfl, rfl⟩)
        go_ret
        exact ⟨ret_bool (all_false k (by rw [HN.out]; exact hlt) HR'.out).symm, hbel.alloc hsz _⟩
      · go_wp2_with (go_at_call 48; refine (rightRule_any _ hrs _).mono ?_; rintro e w' ⟨rfl, rfl⟩)
        all_goals first
          | (have HR : okSer ls k = true := by (rw [okSer_iff]; refine ⟨hru, ?_⟩; first | omega | (simp at *; omega))
             exact ⟨⟨k + 1, by omega, by go_num, hbel.alloc hsz _, upto_succ HA.out HR⟩, by simp [intOf]; omega⟩)
          | (have HR : okSer ls k = false := by (apply no_of; rw [okSer_iff]; rintro ⟨-, h1, h2⟩; first | omega | (simp at *; omega))
             go_ret
             exact ⟨ret_bool (all_false k (by rw [HN.out]; exact hlt) HR).symm, hbel.alloc hsz _⟩)
    · go_wp2
      go_ret
      exact ⟨ret_bool (all_true (fun j hj => HA.out j (by have := HN.out; omega))).symm, hbel⟩

end Go.Proofs.Ythciddpljcbhiab

/- Walks: one level by the document's answer; a configuration by both. -/
namespace Go.Proofs.Ythciddpljcbhiab
open Go.RowKit

theorem ret_i64 {a b : Int} (h : a = b) : Ending.returned (.int .i64 a) = .returned (.int .i64 b) := by rw [h]

set_option maxHeartbeats 1000000 in
theorem cfgRight_no (a : Option Addr) (n cap : Nat) (span keep : Int) (w : World) (h : ¬ (1 ≤ span ∧ span ≤ 100 ∧ 0 ≤ keep ∧ keep ≤ 19 ∧ 1 ≤ n ∧ n ≤ 4)) :
    Calls Try.prog 17 #[.agg #[.int .i64 span, .int .i64 keep, .slice a n cap]] w fun e w' => e = .returned (.bool false) ∧ Below w.heap.size w w' := by
  rcases first_of h with h1 | ⟨h1, h2⟩ | ⟨h1, h2, h3⟩ | ⟨h1, h2, h3, h4⟩ | ⟨h1, h2, h3, h4, h5⟩ | ⟨h1, h2, h3, h4, h5, h6⟩
  all_goals clear h
  all_goals go_enter Try.func17, Try.ntmps17
  all_goals go_wp2
  all_goals go_ret
  all_goals exact ⟨rfl, by go_grown⟩

end Go.Proofs.Ythciddpljcbhiab

/- Walks: why a query cannot be answered. -/
namespace Go.Proofs.Ythciddpljcbhiab
open Go.RowKit

theorem any_false {n : Nat} {p : Nat → Bool} (h : ∀ j, j < n → p j = false) : (List.range n).any p = false := by
  rw [List.any_eq_false]; intro x hx; simp [h x (List.mem_range.1 hx)]
theorem any_true {n : Nat} {p : Nat → Bool} (k : Nat) (hk : k < n) (h : p k = true) : (List.range n).any p = true := by
  rw [List.any_eq_true]; exact ⟨k, List.mem_range.2 hk, h⟩

set_option maxHeartbeats 1000000 in
theorem lost_any (q : Qy) (lvs : List Lv) (b off n cap last : Nat) (w : World) (hn : lvs.length = n) (hn4 : n ≤ 4) (hl : last < n) (hat : LvAt w b off lvs) (hr : ∀ j, j < n → (lvG lvs j).rule.size = 3) (hm : q.mt.size = 3) (hg : q.gb.size = 3) :
    Calls Try.prog 53 #[.slice (some ⟨b, off, none⟩) n cap, .int .i64 last, .agg (qyC q)] w fun e w' => e = .returned (.bool (lostL lvs q (last + 1))) ∧ Below w.heap.size w w' := by
  have HAT : Hid (LvAt w b off lvs) := hat
  have HN : Hid (lvs.length = n) := hn
  have HR : Hid (∀ j, j < n → (lvG lvs j).rule.size = 3) := hr
  have HM : Hid (q.mt.size = 3) := hm
  have HG : Hid (q.gb.size = 3) := hg
  have hb0 : b < w.heap.size := hat.block (by omega)
  clear hat hn hr hm hg
  go_enter Try.func53, Try.ntmps53
  go_wp2_with fail
  go_loopw [7] (fun i wr => ∃ k : Nat, k ≤ last + 1 ∧ i = .int .i64 k ∧ Below (w.heap.size + 1) (w.alloc (.cells (qyC q) 71)) wr ∧ ∀ j, j < k → lostB q (lvG lvs j) = false) (fun i _ => last + 1 - (intOf i).toNat)
  case atStart => exact ⟨0, Nat.zero_le _, rfl, Below.refl _ _, fun j hj => by omega⟩
  case round =>
    obtain ⟨k, hk, rfl, hbel, hall⟩ := hrel
    have HA : Hid (∀ j, j < k → lostB q (lvG lvs j) = false) := hall
    clear hall
    have hsz : w.heap.size + 1 ≤ wr.heap.size := by have := hbel.size; simpa using this
    have hw0 : Below w.heap.size w wr := (((Below.refl _ _).alloc (Nat.le_refl _) _).trans (hbel.mono (by omega)))
    by_cases hlt : k < last + 1
    · have hkn : k < n := by omega
      have hkl : k ≤ last := by omega
      have HL := (HAT.out.below hw0 hb0) k (by rw [HN.out]; exact hkn)
      obtain ⟨_, _, c2, _⟩ := HL
      have q0 : wr.cell? ⟨w.heap.size, 0, none⟩ = some (.int .i64 q.fr) := by rw [hbel.cell (p := ⟨w.heap.size, 0, none⟩) (by simp)]; simp [go_sem]
      have q1 : wr.cell? ⟨w.heap.size, 1, none⟩ = some (.int .i64 q.to) := by rw [hbel.cell (p := ⟨w.heap.size, 1, none⟩) (by simp)]; simp [go_sem]
      have q2 : wr.cell? ⟨w.heap.size, 2, none⟩ = some (.int .i64 q.step) := by rw [hbel.cell (p := ⟨w.heap.size, 2, none⟩) (by simp)]; simp [go_sem]
      have q3 : wr.cell? ⟨w.heap.size, 3, none⟩ = some (.string q.mt) := by rw [hbel.cell (p := ⟨w.heap.size, 3, none⟩) (by simp)]; simp [go_sem]
      have q4 : wr.cell? ⟨w.heap.size, 4, none⟩ = some (.string q.gb) := by rw [hbel.cell (p := ⟨w.heap.size, 4, none⟩) (by simp)]; simp [go_sem]
      have HC : Hid (∀ w, Calls Try.prog 71 #[.string (lvG lvs k).rule, .agg (qyC q)] w fun e w' => e = .returned (.bool (lostB q (lvG lvs k))) ∧ w' = w.alloc (.cells (qyC q) 71)) :=
        fun w => loses_any q (lvG lvs k) w (HR.out k hkn) HM.out HG.out
      cases hb : lostB q (lvG lvs k)
      all_goals have HB : Hid (lostB q (lvG lvs k) = _) := hb
      all_goals rw [hb] at HC
      all_goals clear hb
      all_goals go_wp2_with fail
      all_goals go_region_with (go_at_call 71; refine (HC.out _).mono ?_; rintro e w' ⟨rfl, rfl⟩)
      all_goals go_wp2_with fail
      all_goals first
        | exact ⟨⟨k + 1, by omega, by go_num, by (repeat (first | exact hbel | refine below_drewN ?_ _ | refine Below.drew ?_ | refine Below.alloc ?_ (by simpa using hsz) _)), upto_succ HA.out HB.out⟩, by simp [intOf]; omega⟩
        | (go_ret; exact ⟨ret_bool (any_true k hlt HB.out).symm, by (repeat (first | exact hw0 | refine below_drewN ?_ _ | refine Below.drew ?_ | refine Below.alloc ?_ (by first | omega | (simp; omega)) _))⟩)
    · by_cases hkn : k < n
      · go_wp2_with fail
        go_ret
        exact ⟨ret_bool (any_false (fun j hj => HA.out j (by omega))).symm, hw0⟩
      · go_wp2_with fail
        go_ret
        exact ⟨ret_bool (any_false (fun j hj => HA.out j (by omega))).symm, hw0⟩

set_option maxHeartbeats 1000000 in
theorem fits_any (q : Qy) (lvs : List Lv) (b off n cap last : Nat) (w : World) (hn : lvs.length = n) (hn4 : n ≤ 4) (hl : last < n) (hat : LvAt w b off lvs) (hw : 1 ≤ (lvG lvs last).window) (_hw2 : (lvG lvs last).window ≤ 100)
    (_f0 : 0 ≤ q.fr) (_f1 : q.fr ≤ 100100) (_s0 : 1 ≤ q.step) (_s1 : q.step ≤ 100100) :
    Calls Try.prog 54 #[.slice (some ⟨b, off, none⟩) n cap, .int .i64 last, .agg (qyC q)] w fun e w' => e = .returned (.bool (fitB (lvG lvs last) q)) ∧ Below w.heap.size w w' := by
  have hb0 : b < w.heap.size := hat.block (by omega)
  obtain ⟨_, c1, _, _⟩ := hat last (by omega)
  clear hat hn
  generalize lvG lvs last = L at *
  have hz : ¬ L.window = 0 := by omega
  cases e1 : (q.fr % L.window == 0) <;> cases e2 : (q.step % L.window == 0)
  all_goals have HF : Hid (fitB L q = ((q.fr % L.window == 0) && (q.step % L.window == 0))) := by (show _ = _; unfold fitB; rw [Bool.eq_iff_iff]; simp)
  all_goals rw [e1, e2] at HF
  all_goals rw [HF.out]
  all_goals go_enter Try.func54, Try.ntmps54
  all_goals go_wp2_with fail
  all_goals go_ret
  all_goals exact ⟨rfl, by go_grown⟩

/-- Two boxes of a call's own, and what a call made behind them. -/
theorem cf_cells {w w1 : World} {c : Cf} {b off n cap : Nat} {q : Qy} (hb : Below (w.heap.size + 2) ((w.alloc (.cells (cfC c b off n cap) 24)).alloc (.cells (qyC q) 71)) w1) :
    w.heap.size + 1 < w1.heap.size ∧ w1.cell? ⟨w.heap.size, 0, none⟩ = some (.int .i64 c.span) ∧ w1.cell? ⟨w.heap.size, 1, none⟩ = some (.int .i64 c.keep) ∧ w1.cell? ⟨w.heap.size, 2, none⟩ = some (.slice (some ⟨b, off, none⟩) n cap) ∧
    w1.cell? ⟨w.heap.size + 1, 0, none⟩ = some (.int .i64 q.fr) ∧ w1.cell? ⟨w.heap.size + 1, 1, none⟩ = some (.int .i64 q.to) ∧ w1.cell? ⟨w.heap.size + 1, 2, none⟩ = some (.int .i64 q.step) ∧ w1.cell? ⟨w.heap.size + 1, 3, none⟩ = some (.string q.mt) ∧ w1.cell? ⟨w.heap.size + 1, 4, none⟩ = some (.string q.gb) := by
  have hz := hb.size
  simp only [World.size_alloc] at hz
  refine ⟨by omega, ?_, ?_, ?_, ?_, ?_, ?_, ?_, ?_⟩
  · rw [hb.cell (p := ⟨w.heap.size, 0, none⟩) (by show w.heap.size < _; omega)]; simp [go_sem]
  · rw [hb.cell (p := ⟨w.heap.size, 1, none⟩) (by show w.heap.size < _; omega)]; simp [go_sem]
  · rw [hb.cell (p := ⟨w.heap.size, 2, none⟩) (by show w.heap.size < _; omega)]; simp [go_sem]
  · rw [hb.cell (p := ⟨w.heap.size + 1, 0, none⟩) (by show w.heap.size + 1 < _; omega)]; simp [go_sem]
  · rw [hb.cell (p := ⟨w.heap.size + 1, 1, none⟩) (by show w.heap.size + 1 < _; omega)]; simp [go_sem]
  · rw [hb.cell (p := ⟨w.heap.size + 1, 2, none⟩) (by show w.heap.size + 1 < _; omega)]; simp [go_sem]
  · rw [hb.cell (p := ⟨w.heap.size + 1, 3, none⟩) (by show w.heap.size + 1 < _; omega)]; simp [go_sem]
  · rw [hb.cell (p := ⟨w.heap.size + 1, 4, none⟩) (by show w.heap.size + 1 < _; omega)]; simp [go_sem]

/-- What a right configuration says of its levels. -/
theorem Cf.rules {c : Cf} (h : c.right = true) : ∀ j, j < c.lvs.length → (lvG c.lvs j).rule.size = 3 := by
  intro j hj
  have := ((Cf.right_parts h).2.2.2.2.2.2 j hj).2.2.1
  simp [ruleB] at this
  exact this.1.1.1
theorem Cf.wins {c : Cf} (h : c.right = true) : ∀ j, j < c.lvs.length → 1 ≤ (lvG c.lvs j).window ∧ (lvG c.lvs j).window ≤ 100 := by
  intro j hj
  obtain ⟨h1, h2, _⟩ := Cf.right_parts h
  obtain ⟨a, b, _⟩ := (Cf.right_parts h).2.2.2.2.2.2 j hj
  exact ⟨a, Int.le_trans (Int.le_of_dvd (by omega) (Int.dvd_of_emod_eq_zero b)) h2⟩

set_option maxHeartbeats 2000000 in
theorem check_q (c : Cf) (q : Qy) (b off n cap : Nat) (now : Int) (w : World) (hc : c.right = true) (hn : c.lvs.length = n) (hat : LvAt w b off c.lvs) (n0 : 0 ≤ now) (n1 : now ≤ 100000) (hq : q.wf) :
    Calls Try.prog 39 #[.agg (cfC c b off n cap), .int .i64 now, .agg (qyC q)] w fun e w' => e = .returned (.int .i64 (qE c now q)) ∧ Below w.heap.size w w' := by
  obtain ⟨h1, h2, h3, h4, h5, h6, _⟩ := Cf.right_parts hc
  have HE : Hid (qE c now q = _) := qE_eq (q := q) (now := now) hc
  have hb0 : b < w.heap.size := hat.block (by omega)
  have HAT : Hid (LvAt w b off c.lvs) := hat
  have HW := Cf.wins hc (c.lvl now q.fr) (Cf.lvl_lt hc now q.fr)
  have HL : Hid (c.lvl now q.fr < n) := by have := Cf.lvl_lt hc now q.fr; show _ < _; omega
  have HRU : Hid (∀ j, j < n → (lvG c.lvs j).rule.size = 3) := fun j hj => Cf.rules hc j (by omega)
  have HQ : Hid q.wf := hq
  have HC : Hid (c.right = true) := hc
  have HN : Hid (c.lvs.length = n) := hn
  have h5' : 1 ≤ n := by omega
  have h6' : n ≤ 4 := by omega
  clear hat hq hc hn h5 h6
  cases hr : rightQ q
  · go_enter Try.func39, Try.ntmps39
    go_wp2_with fail
    refine (queryRight_any q _ HQ.out).mono ?_
    rintro e w1 ⟨rfl, hb1⟩
    rw [hr]
    go_wp2_with fail
    go_ret
    refine ⟨ret_i64 (by rw [HE.out, if_pos hr]), ?_⟩
    exact (((Below.refl _ _).alloc (Nat.le_refl _) _).alloc (by simp) _).trans (hb1.mono (by simp; omega))
  · have HT := (timesB_iff q).1 (by have := rightQ_eq q; rw [hr] at this; cases h : timesB q; rw [h] at this; simp at this; rfl)
    have HMG : q.mt.size = 3 ∧ q.gb.size = 3 := by
      have := rightQ_eq q; rw [hr] at this
      have := this.symm
      simp only [mtB, gbB, Bool.and_eq_true, decide_eq_true_eq] at this
      exact ⟨this.1.2.1.1.1, this.2.1.1.1⟩
    obtain ⟨f1, f2, f3, f4, f5, f6⟩ := HT
    have fs : q.step ≤ 100100 := by
      have h := Int.le_of_dvd (by omega) (Int.dvd_of_emod_eq_zero f5)
      omega
    clear f5 f6
    have ff : q.fr ≤ 100100 := by omega
    have HR : Hid (rightQ q = true) := hr
    clear hr
    go_enter Try.func39, Try.ntmps39
    go_wp2_with fail
    refine (queryRight_any q _ HQ.out).mono ?_
    rintro e w1 ⟨rfl, hb1⟩
    have hb1' := hb1.mono (show w.heap.size + 2 ≤ _ by simp)
    have Hb1 : Hid (Below (w.heap.size + 2) ((w.alloc (.cells (cfC c b off n cap) 24)).alloc (.cells (qyC q) 71)) w1) := hb1'
    obtain ⟨hz, p0, p1, p2, p3, p4, p5, p6, p7⟩ := cf_cells hb1'
    have Hw1 : Hid (Below w.heap.size w w1) := (((Below.refl _ _).alloc (Nat.le_refl _) _).alloc (by simp) _).trans (hb1'.mono (by omega))
    clear hb1 hb1'
    rw [HR.out]
    go_wp2_with fail
    refine (expired_any c b off n cap now q.fr _ h1 h2 n0 n1 f1 ff).mono ?_
    rintro e w2 ⟨rfl, hb2⟩
    have Hb2 : Hid (Below (w.heap.size + 2) ((w.alloc (.cells (cfC c b off n cap) 24)).alloc (.cells (qyC q) 71)) w2) := Hb1.out.trans (hb2.mono (by omega))
    have Hw2 : Hid (Below w.heap.size w w2) := Hw1.out.trans (hb2.mono (by omega))
    clear hb2 p0 p1 p2 p3 p4 p5 p6 p7 hz Hb1 Hw1
    obtain ⟨hz, p0, p1, p2, p3, p4, p5, p6, p7⟩ := cf_cells Hb2.out
    cases he : decide (c.keep < c.age now q.fr)
    · have hne : ¬ c.keep < c.age now q.fr := by simpa using he
      have HNE : Hid (¬ c.keep < c.age now q.fr) := hne
      clear he hne
      go_wp2_with fail
      refine (level_any c b off n cap now q.fr _ h1 h2 n0 n1 f1 ff HN.out h5' h6' (HAT.out.below Hw2.out hb0)).mono ?_
      rintro e w3 ⟨rfl, hb3⟩
      have Hb3 : Hid (Below (w.heap.size + 2) ((w.alloc (.cells (cfC c b off n cap) 24)).alloc (.cells (qyC q) 71)) w3) := Hb2.out.trans (hb3.mono (by omega))
      have Hw3 : Hid (Below w.heap.size w w3) := Hw2.out.trans (hb3.mono (by omega))
      clear hb3 p0 p1 p2 p3 p4 p5 p6 p7 hz Hb2 Hw2
      obtain ⟨hz, p0, p1, p2, p3, p4, p5, p6, p7⟩ := cf_cells Hb3.out
      go_wp2_with fail
      refine (lost_any q c.lvs b off n cap (c.lvl now q.fr) _ HN.out h6' HL.out (HAT.out.below Hw3.out hb0) HRU.out HMG.1 HMG.2).mono ?_
      rintro e w4 ⟨rfl, hb4⟩
      have Hb4 : Hid (Below (w.heap.size + 2) ((w.alloc (.cells (cfC c b off n cap) 24)).alloc (.cells (qyC q) 71)) w4) := Hb3.out.trans (hb4.mono (by omega))
      have Hw4 : Hid (Below w.heap.size w w4) := Hw3.out.trans (hb4.mono (by omega))
      clear hb4 p0 p1 p2 p3 p4 p5 p6 p7 hz Hb3 Hw3
      obtain ⟨hz, p0, p1, p2, p3, p4, p5, p6, p7⟩ := cf_cells Hb4.out
      cases hlo : lostL c.lvs q (c.lvl now q.fr + 1)
      · go_wp2_with fail
        refine (fits_any q c.lvs b off n cap (c.lvl now q.fr) _ HN.out h6' HL.out (HAT.out.below Hw4.out hb0) HW.1 HW.2 f1 ff f4 fs).mono ?_
        rintro e w5 ⟨rfl, hb5⟩
        have Hw5 : Hid (Below w.heap.size w w5) := Hw4.out.trans (hb5.mono (by omega))
        cases hfi : fitB (lvG c.lvs (c.lvl now q.fr)) q
        · go_wp2_with fail
          go_ret
          refine ⟨ret_i64 ?_, Hw5.out⟩
          rw [HE.out, HR.out, if_neg (by simp), if_neg (Int.not_lt.2 HNE.out), hlo, hfi]; simp
        · go_wp2_with fail
          go_ret
          refine ⟨ret_i64 ?_, Hw5.out⟩
          rw [HE.out, HR.out, if_neg (by simp), if_neg (Int.not_lt.2 HNE.out), hlo, hfi]; simp
      · go_wp2_with fail
        go_ret
        refine ⟨ret_i64 ?_, Hw4.out⟩
        rw [HE.out, HR.out, if_neg (by simp), if_neg (Int.not_lt.2 HNE.out), hlo]; simp
    · have hne : c.keep < c.age now q.fr := by simpa using he
      go_wp2_with fail
      go_ret
      refine ⟨ret_i64 ?_, Hw2.out⟩
      rw [HE.out, HR.out, if_neg (by simp), if_pos hne]

end Go.Proofs.Ythciddpljcbhiab

/- Walks: the rows of a query. -/
namespace Go.Proofs.Ythciddpljcbhiab
open Go Go.RowKit

/-- The cells of a point. -/
def PtAt (w : World) (g o : Nat) (p : Pt) : Prop := At w g o p.cells
theorem PtAt.get {w : World} {g o : Nat} {p : Pt} (h : PtAt w g o p) (j : Nat) (v : Value) (hv : p.cells[j]? = some v) : w.cell? ⟨g, o + j, none⟩ = some v := h j v hv
theorem PtAt.all {w : World} {g o : Nat} {p : Pt} (h : PtAt w g o p) : w.cell? ⟨g, o, none⟩ = some (.int .i64 p.time) ∧ w.cell? ⟨g, o + 1, none⟩ = some (.int .i32 p.value) ∧
    w.cell? ⟨g, o + 2, none⟩ = some (.int .u8 (sG p 0).a) ∧ w.cell? ⟨g, o + 3, none⟩ = some (.int .u8 (sG p 0).b) ∧ w.cell? ⟨g, o + 4, none⟩ = some (.int .u8 (sG p 0).c) ∧
    w.cell? ⟨g, o + 5, none⟩ = some (.int .u8 (sG p 1).a) ∧ w.cell? ⟨g, o + 6, none⟩ = some (.int .u8 (sG p 1).b) ∧ w.cell? ⟨g, o + 7, none⟩ = some (.int .u8 (sG p 1).c) ∧
    w.cell? ⟨g, o + 8, none⟩ = some (.int .u8 (sG p 2).a) ∧ w.cell? ⟨g, o + 9, none⟩ = some (.int .u8 (sG p 2).b) ∧ w.cell? ⟨g, o + 10, none⟩ = some (.int .u8 (sG p 2).c) ∧
    w.cell? ⟨g, o + 11, none⟩ = some (.int .u8 (sG p 3).a) ∧ w.cell? ⟨g, o + 12, none⟩ = some (.int .u8 (sG p 3).b) ∧ w.cell? ⟨g, o + 13, none⟩ = some (.int .u8 (sG p 3).c) :=
  ⟨h.get 0 _ rfl, h.get 1 _ rfl, h.get 2 _ rfl, h.get 3 _ rfl, h.get 4 _ rfl, h.get 5 _ rfl, h.get 6 _ rfl, h.get 7 _ rfl, h.get 8 _ rfl, h.get 9 _ rfl, h.get 10 _ rfl, h.get 11 _ rfl, h.get 12 _ rfl, h.get 13 _ rfl⟩
theorem PtAt.lt {w : World} {g o : Nat} {p : Pt} (h : PtAt w g o p) : g < w.heap.size := At.block h (by simp [Pt.cells])
theorem PtAt.below {w w' : World} {g o : Nat} {p : Pt} (h : PtAt w g o p) (hb : Below w.heap.size w w') : PtAt w' g o p := At.below h hb h.lt
theorem PtAt.new (w : World) (p : Pt) : PtAt (w.alloc (.cells (ptC p) 78)) w.heap.size 0 p := at_alloc_new w p.cells 78
theorem owns_pt {w : World} {base g n cap : Nat} {l : List Pt} (h : w.ownsRow base 78 14 (.slice (some ⟨g, 0, none⟩) n cap) n (flatP l)) (i : Nat) (hi : i < l.length) : PtAt w g (i * 14) (ptG l i) := by
  intro j v hv
  rw [ptG_get l i hi] at hv
  have hj : j < 14 := by rw [← len14 l[i]]; exact (List.getElem?_eq_some_iff.1 hv).1
  exact owns_cell h (by rw [show flatP l = l.flatMap Pt.cells from rfl, flat_get Pt.cells 14 len14 l i j hj hi]; exact hv)

/-- What a point may be. -/
structure PtOk (c : Cf) (p : Pt) : Prop where
  t0 : 0 ≤ p.time
  t1 : p.time ≤ 100000
  v0 : -2147483648 ≤ p.value
  v1 : p.value ≤ 2147483647
  ser : p.ser.length = c.lvs.length
theorem PtOk.sG {c : Cf} {p : Pt} (h : PtOk c p) {k : Nat} (hk : k < c.lvs.length) : sG p k = p.ser.getD k over := by
  have : k < p.ser.length := by rw [h.ser]; exact hk
  simp [Go.Proofs.Ythciddpljcbhiab.sG, List.getD, this]

/-- The rows of the first k points. -/
def rowsK (c : Cf) (now : Int) (q : Qy) (ps : List Pt) (k : Nat) : List Rw := rowsOf ((ps.take k).filterMap (kvP c now q))
theorem rowsK_none {c : Cf} {now : Int} {q : Qy} {ps : List Pt} {k : Nat} (hk : k < ps.length) (h : kvP c now q (ptG ps k) = none) : rowsK c now q ps (k + 1) = rowsK c now q ps k := by
  unfold rowsK
  rw [List.take_succ_eq_append_getElem hk, List.filterMap_append, ← ptG_get ps k hk]
  simp [h]
theorem rowsK_some {c : Cf} {now : Int} {q : Qy} {ps : List Pt} {k : Nat} (hk : k < ps.length) {p : Key × Int} (h : kvP c now q (ptG ps k) = some p) : rowsK c now q ps (k + 1) = addR (rowsK c now q ps k) p.1 p.2 := by
  unfold rowsK
  rw [List.take_succ_eq_append_getElem hk, List.filterMap_append, ← ptG_get ps k hk]
  simp only [List.filterMap_cons, h, List.filterMap_nil]
  exact rowsOf_snoc _ _
theorem kvP_mem {c : Cf} {now : Int} {q : Qy} {ps : List Pt} (hp : ∀ p ∈ ps, PtOk c p) {kv : Key × Int} (h : kv ∈ ps.filterMap (kvP c now q)) : v32 kv.2 := by
  obtain ⟨p, hpm, e⟩ := List.mem_filterMap.1 h
  unfold kvP at e
  split at e
  · obtain ⟨g, _, e⟩ := Option.map_eq_some_iff.1 e
    rw [← e]
    exact ⟨(hp p hpm).v0, (hp p hpm).v1⟩
  · cases e
theorem rowsK_small {c : Cf} {now : Int} {q : Qy} {ps : List Pt} (hp : ∀ p ∈ ps, PtOk c p) (hl : ps.length ≤ 500) (k : Nat) : SmallR (rowsK c now q ps k) ∧ (rowsK c now q ps k).length ≤ 1000 ∧ (rowsK c now q ps k).Pairwise fun a b => a.key.lt b.key := by
  have hkv : ((ps.take k).filterMap (kvP c now q)).length ≤ 500 := by
    have h1 := List.length_filterMap_le (kvP c now q) (ps.take k)
    have h2 := List.length_take_le' k ps
    omega
  have hv : ∀ x ∈ (ps.take k).filterMap (kvP c now q), v32 x.2 := fun x hx => kvP_mem (fun p hpm => hp p (List.mem_of_mem_take hpm)) hx
  refine ⟨fun i hi => ?_, ?_, (rowsOf_is _).up⟩
  · have hb := (rowsOf_is ((ps.take k).filterMap (kvP c now q))).bd hv (r := rwG (rowsK c now q ps k) i) (by rw [rwG_get _ i hi]; exact List.getElem_mem _)
    obtain ⟨b1, b2, b3, b4, _⟩ := hb
    have : (((ps.take k).filterMap (kvP c now q)).length : Int) ≤ 500 := by omega
    omega
  · have := rowsOf_len ((ps.take k).filterMap (kvP c now q))
    unfold rowsK
    omega

end Go.Proofs.Ythciddpljcbhiab

/- Walks: the rows of a query, one point behind the other. -/
namespace Go.Proofs.Ythciddpljcbhiab
open Go Go.RowKit

/-- Where the points of a slice lie. -/
def PtsAt (w : World) (a : Option Addr) (ps : List Pt) : Prop := 0 < ps.length → ∃ g, a = some ⟨g, 0, none⟩ ∧ g < w.heap.size ∧ ∀ i, i < ps.length → PtAt w g (i * 14) (ptG ps i)
theorem PtsAt.of_owns {w : World} {base : Nat} {a : Option Addr} {n cap : Nat} {ps : List Pt} (h : w.ownsRow base 78 14 (.slice a n cap) n (flatP ps)) (hn : ps.length = n) : PtsAt w a ps := by
  intro hp
  obtain ⟨g, cap', he, _, hg, _⟩ := ownBlockForm h (by omega)
  injection he with h1 h2 h3
  subst h1
  exact ⟨g, rfl, hg, fun i hi => owns_pt h i hi⟩

abbrev qW (w : World) (c : Cf) (b off n cap : Nat) (q : Qy) : World := (w.alloc (.cells (cfC c b off n cap) 24)).alloc (.cells (qyC q) 71)

structure LbAt (w : World) (g : Nat) (l : Lb) : Prop where
  c0 : w.cell? ⟨g, 0, none⟩ = some (.int .u8 l.a)
  c1 : w.cell? ⟨g, 1, none⟩ = some (.int .u8 l.b)
  c2 : w.cell? ⟨g, 2, none⟩ = some (.int .u8 l.c)
theorem LbAt.new (w : World) (l : Lb) : LbAt (w.alloc (.cells (lbA l) 52)) w.heap.size l := by constructor <;> simp [go_sem]
theorem LbAt.lt {w : World} {g : Nat} {l : Lb} (h : LbAt w g l) : g < w.heap.size := World.block_lt_of_cell? w _ h.c0
theorem LbAt.below {w w' : World} {g : Nat} {l : Lb} (h : LbAt w g l) (hb : Below w.heap.size w w') : LbAt w' g l :=
  ⟨(hb.cell (p := ⟨g, 0, none⟩) h.lt).trans h.c0, (hb.cell (p := ⟨g, 1, none⟩) h.lt).trans h.c1, (hb.cell (p := ⟨g, 2, none⟩) h.lt).trans h.c2⟩

/-- What a round holds: the boxes, the table, the point. -/
structure RS (w w1 : World) (c : Cf) (b off n cap : Nat) (q : Qy) (v : Value) (l : List Rw) (P : Nat) (X : Pt) : Prop where
  bel : Below (w.heap.size + 2) (qW w c b off n cap q) w1
  tab : TabAt w1 (w.heap.size + 2) (w.heap.size + 2) v l
  pt : PtAt w1 P 0 X
theorem RS.next {w w1 w2 : World} {c : Cf} {b off n cap : Nat} {q : Qy} {v : Value} {l : List Rw} {P : Nat} {X : Pt} (h : RS w w1 c b off n cap q v l P X) (hb : Below w1.heap.size w1 w2) : RS w w2 c b off n cap q v l P X :=
  ⟨h.bel.trans (hb.mono (by have := h.tab.lt; omega)), h.tab.kept hb, h.pt.below hb⟩
theorem RS.low {w w1 : World} {c : Cf} {b off n cap : Nat} {q : Qy} {v : Value} {l : List Rw} {P : Nat} {X : Pt} (h : RS w w1 c b off n cap q v l P X) : Below w.heap.size w w1 :=
  (((Below.refl _ _).alloc (Nat.le_refl _) _).alloc (by simp) _).trans (h.bel.mono (by omega))

set_option maxHeartbeats 4000000 in
set_option maxRecDepth 100000 in
theorem rows_any (c : Cf) (q : Qy) (b off n cap : Nat) (now : Int) (a : Option Addr) (pn pcap : Nat) (ps : List Pt) (w : World) (hc : c.right = true) (hn : c.lvs.length = n) (hat : LvAt w b off c.lvs) (n0 : 0 ≤ now) (n1 : now ≤ 100000)
    (hr : rightQ q = true) (hp : PtsAt w a ps) (hpn : ps.length = pn) (hok : ∀ p ∈ ps, PtOk c p) (hl : pn ≤ 500) :
    Calls Try.prog 40 #[.agg (cfC c b off n cap), .int .i64 now, .agg (qyC q), .slice a pn pcap] w fun e w' => ∃ v, e = .returned v ∧ w'.ownsRow w.heap.size 54 8 v (rowsOf (ps.filterMap (kvP c now q))).length (flatR (rowsOf (ps.filterMap (kvP c now q)))) ∧ Below w.heap.size w w' := by
  obtain ⟨h1, h2, h3, h4, h5, h6, _⟩ := Cf.right_parts hc
  have hb0 : b < w.heap.size := hat.block (by omega)
  have HAT : Hid (LvAt w b off c.lvs) := hat
  have HP : Hid (PtsAt w a ps) := hp
  have HPN : Hid (ps.length = pn) := hpn
  have HOK : Hid (∀ p ∈ ps, PtOk c p) := hok
  have HSM : Hid (∀ k, SmallR (rowsK c now q ps k) ∧ (rowsK c now q ps k).length ≤ 1000 ∧ (rowsK c now q ps k).Pairwise fun a b => a.key.lt b.key) := rowsK_small hok (by omega)
  have HLV : Hid (∀ t, c.lvl now t < c.lvs.length) := fun t => Cf.lvl_lt hc now t
  have HN : Hid (c.lvs.length = n) := hn
  have HT := (timesB_iff q).1 (by have := rightQ_eq q; rw [hr] at this; cases h : timesB q; rw [h] at this; simp at this; rfl)
  have HMG : q.mt.size = 3 ∧ q.gb.size = 3 := by
    have := rightQ_eq q; rw [hr] at this
    have := this.symm
    simp only [mtB, gbB, Bool.and_eq_true, decide_eq_true_eq] at this
    exact ⟨this.1.2.1.1.1, this.2.1.1.1⟩
  obtain ⟨hm3, hg3⟩ := HMG
  obtain ⟨f1, f2, f3, f4, f5, f6⟩ := HT
  have fs : q.step ≤ 100100 := by
    have h := Int.le_of_dvd (by omega) (Int.dvd_of_emod_eq_zero f5)
    omega
  have h5' : 1 ≤ n := by omega
  have h6' : n ≤ 4 := by omega
  clear hat hp hpn hok f5 f6 hr hn h5 h6 hc
  go_enter Try.func40, Try.ntmps40
  go_wp2_with fail
  go_loopw [10] (fun i wr => ∃ k : Nat, i = .int .i64 k ∧ k ≤ pn ∧ (∃ v, TabAt wr (w.heap.size + 2) (w.heap.size + 2) v (rowsK c now q ps k)) ∧ Below (w.heap.size + 2) (qW w c b off n cap q) wr) (fun i _ => pn - (intOf i).toNat)
  case atStart =>
    refine ⟨0, rfl, Nat.zero_le _, ⟨.slice none 0 0, ?_, ?_, Nat.le_refl _, by simp [Value.ownBlock]⟩, (Below.refl _ _).alloc (by simp) _⟩
    · have h := heap_alloc_new (qW w c b off n cap q) (.cells #[.slice none 0 0] 104)
      rw [show (qW w c b off n cap q).heap.size = w.heap.size + 2 by simp] at h
      exact h
    · exact World.ownsRow_nil _ _ _ _
  case round =>
    obtain ⟨k, rfl, hk, ⟨v, ht⟩, hbel⟩ := hrel
    have HT0 : Hid (TabAt wr (w.heap.size + 2) (w.heap.size + 2) v (rowsK c now q ps k)) := ht
    have HB0 : Hid (Below (w.heap.size + 2) (qW w c b off n cap q) wr) := hbel
    have qT := ht.cell
    have hT0 := ht.lt
    obtain ⟨hz, p0, p1, p2, p3, p4, p5, p6, p7⟩ := cf_cells hbel
    have HW0 : Hid (Below w.heap.size w wr) := (((Below.refl _ _).alloc (Nat.le_refl _) _).alloc (by simp) _).trans (hbel.mono (by omega))
    have hz0 : w.heap.size < wr.heap.size := by omega
    clear ht hbel
    by_cases hlt : k < pn
    · obtain ⟨g, rfl, hgs, hpt⟩ := HP.out (by rw [HPN.out]; omega)
      have hpk := hpt k (by rw [HPN.out]; exact hlt)
      have hpk' : PtAt wr g (k * 14) (ptG ps k) := At.below hpk HW0.out hgs
      have HPO := HOK.out (ptG ps k) (by rw [ptG_get ps k (by rw [HPN.out]; exact hlt)]; exact List.getElem_mem _)
      have HNo : Hid (kvP c now q (ptG ps k) = none → rowsK c now q ps (k + 1) = rowsK c now q ps k) := rowsK_none (by rw [HPN.out]; exact hlt)
      have HSo : Hid (∀ p, kvP c now q (ptG ps k) = some p → rowsK c now q ps (k + 1) = addR (rowsK c now q ps k) p.1 p.2) := fun p => rowsK_some (by rw [HPN.out]; exact hlt)
      obtain ⟨x0, x1, x2, x3, x4, x5, x6, x7, x8, x9, x10, x11, x12, x13⟩ := hpk'.all
      have HKV : Hid (∀ p, kvP c now q p = _) := fun p => rfl
      clear hpt hpk hpk' hgs
      generalize hX : ptG ps k = X at *
      obtain ⟨t0, t1, v0, v1, hser⟩ := HPO
      have HSER : Hid (X.ser.length = c.lvs.length) := hser
      clear hser
      by_cases ha : X.time < q.fr
      · have hin : inQ q X.time = false := by simp [inQ]; omega
        have HR : Hid (rowsK c now q ps (k + 1) = rowsK c now q ps k) := HNo.out (by unfold kvP; rw [hin]; rfl)
        clear hin
        go_wp2_with fail
        refine ⟨⟨k + 1, by go_num, by omega, ⟨v, ?_⟩, ?_⟩, by simp [intOf]; omega⟩
        · rw [HR.out]; exact HT0.out.kept ((Below.refl _ _).alloc (Nat.le_refl _) _)
        · exact HB0.out.alloc (by omega) _
      · by_cases hb : q.to ≤ X.time
        · have hin : inQ q X.time = false := by simp [inQ]; omega
          have HR : Hid (rowsK c now q ps (k + 1) = rowsK c now q ps k) := HNo.out (by unfold kvP; rw [hin]; rfl)
          clear hin
          go_wp2_with fail
          refine ⟨⟨k + 1, by go_num, by omega, ⟨v, ?_⟩, ?_⟩, by simp [intOf]; omega⟩
          · rw [HR.out]; exact HT0.out.kept ((Below.refl _ _).alloc (Nat.le_refl _) _)
          · exact HB0.out.alloc (by omega) _
        · have hin : inQ q X.time = true := by simp [inQ]; omega
          have HIN : Hid (inQ q X.time = true) := hin
          clear hin
          go_wp2_with fail
          refine (level_any c b off n cap now X.time _ h1 h2 n0 n1 t0 (by omega) HN.out h5' h6' ((HAT.out.below HW0.out hb0).below ((Below.refl _ _).alloc (Nat.le_refl _) _) (by have := HW0.out.size; omega))).mono ?_
          rintro e w1 ⟨rfl, hb1⟩
          have S1 : Hid (RS w w1 c b off n cap q v (rowsK c now q ps k) wr.heap.size X) := RS.next (w1 := wr.alloc (.cells (ptC X) 78)) ⟨HB0.out.alloc (by omega) _, HT0.out.kept ((Below.refl _ _).alloc (Nat.le_refl _) _), PtAt.new wr X⟩ hb1
          clear hb1 x0 x1 x2 x3 x4 x5 x6 x7 x8 x9 x10 x11 x12 x13 p0 p1 p2 p3 p4 p5 p6 p7 qT hz hz0
          obtain ⟨x0, x1, x2, x3, x4, x5, x6, x7, x8, x9, x10, x11, x12, x13⟩ := S1.out.pt.all
          simp only [Nat.zero_add] at x1 x2 x3 x4 x5 x6 x7 x8 x9 x10 x11 x12 x13
          have HL4 : Hid (c.lvl now X.time < 4) := by have := HLV.out X.time; have := HN.out; show _ < _; omega
          have HSG : Hid (sG X (c.lvl now X.time) = X.ser.getD (c.lvl now X.time) over) := by
            show _ = _
            have h : c.lvl now X.time < X.ser.length := by rw [HSER.out]; exact HLV.out X.time
            simp [sG, List.getD, h]
          go_wp2_with fail
          refine (of_any X (c.lvl now X.time) HL4.out _).mono ?_
          rintro e w2 ⟨rfl, hb2⟩
          rw [HSG.out]
          generalize hS : X.ser.getD (c.lvl now X.time) over = S at *
          have HKV2 : Hid (kvP c now q X = (grpOf q S).map fun g => (⟨stepOf q X.time, g.a, g.b, g.c⟩, X.value)) := by show _ = _; unfold kvP; rw [HIN.out, hS]; rfl
          have S2 : Hid (RS w w2 c b off n cap q v (rowsK c now q ps k) wr.heap.size X) := S1.out.next hb2
          clear hb2 x0 x1 x2 x3 x4 x5 x6 x7 x8 x9 x10 x11 x12 x13 S1
          obtain ⟨hz, p0, p1, p2, p3, p4, p5, p6, p7⟩ := cf_cells S2.out.bel
          have hz0 : w.heap.size < w2.heap.size := by omega
          go_wp2_with fail
          refine (groupOf_any q S _ hm3 hg3).mono ?_
          rintro e w3 ⟨rfl, hb3⟩
          have S3 : Hid (RS w w3 c b off n cap q v (rowsK c now q ps k) wr.heap.size X) := RS.next (w1 := w2.alloc (.cells (lbA S) 52)) (S2.out.next ((Below.refl _ _).alloc (Nat.le_refl _) _)) hb3
          clear hb3 p0 p1 p2 p3 p4 p5 p6 p7 hz hz0 S2
          obtain ⟨hz, p0, p1, p2, p3, p4, p5, p6, p7⟩ := cf_cells S3.out.bel
          have hz0 : w.heap.size < w3.heap.size := by omega
          have hzp := S3.out.pt.lt
          have hzt := S3.out.tab.lt
          obtain ⟨x0, x1, _⟩ := S3.out.pt.all
          simp only [Nat.zero_add] at x1
          unfold gpV
          cases hgr : grpOf q S with
          | none =>
            have HR : Hid (rowsK c now q ps (k + 1) = rowsK c now q ps k) := HNo.out (by rw [HKV2.out, hgr]; rfl)
            have e1 : gpT q S = false := by unfold gpT; rw [hgr]; rfl
            rw [e1]
            go_wp2_with fail
            have S4 := S3.out.next ((Below.refl _ _).alloc (Nat.le_refl _) (.cells (lbA (gpX q S)) 52))
            refine ⟨⟨k + 1, by go_num, by omega, ⟨v, ?_⟩, ?_⟩, by simp [intOf]; omega⟩
            · rw [HR.out]; exact S4.tab
            · exact S4.bel
          | some G =>
            have e1 : gpT q S = true := by unfold gpT; rw [hgr]; rfl
            have e2 : gpX q S = G := by unfold gpX; rw [hgr]; rfl
            have HR : Hid (rowsK c now q ps (k + 1) = addR (rowsK c now q ps k) ⟨stepOf q X.time, G.a, G.b, G.c⟩ X.value) := HSo.out (⟨stepOf q X.time, G.a, G.b, G.c⟩, X.value) (by rw [HKV2.out, hgr]; rfl)
            rw [e1, e2]
            clear e1 e2
            have S4 : Hid (RS w (w3.alloc (.cells (lbA G) 52)) c b off n cap q v (rowsK c now q ps k) wr.heap.size X) := S3.out.next ((Below.refl _ _).alloc (Nat.le_refl _) _)
            obtain ⟨m1, m2, m3⟩ := HSM.out k
            go_wp2_with fail
            refine (add_any (w.heap.size + 2) (w.heap.size + 2) v (rowsK c now q ps k) (stepOf q X.time) X.value G _ S4.out.tab m2 m3 m1 v0 v1).mono ?_
            rintro e w5 ⟨rfl, v', ht5, hb5⟩
            have HT5 : Hid (TabAt w5 (w.heap.size + 2) (w.heap.size + 2) v' (rowsK c now q ps (k + 1))) := by show TabAt _ _ _ _ _; rw [HR.out]; exact ht5
            have HB5 : Hid (Below (w.heap.size + 2) (qW w c b off n cap q) w5) := S4.out.bel.trans hb5
            clear ht5 hb5
            go_wp2_with fail
            exact ⟨⟨k + 1, by go_num, by omega, ⟨v', HT5.out⟩, HB5.out⟩, by simp [intOf]; omega⟩
    · have hke : k = pn := by omega
      subst hke
      have HRE : Hid (rowsK c now q ps k = rowsOf (ps.filterMap (kvP c now q))) := by show _ = _; unfold rowsK; rw [List.take_of_length_le (by rw [HPN.out]; omega)]
      obtain ⟨va, vc, rfl⟩ := ownForm HT0.out.own
      go_wp2_with fail
      go_ret
      have HO : wr.ownsRow w.heap.size 54 8 (.slice va (rowsK c now q ps k).length vc) (rowsOf (ps.filterMap (kvP c now q))).length (flatR (rowsOf (ps.filterMap (kvP c now q)))) := by
        have := HT0.out.own
        rw [← HRE.out]
        exact owns_base this (fun k hk => by have := (HT0.out.own.lt k hk).1; omega)
      exact ⟨.slice va (rowsK c now q ps k).length vc, rfl, HO, HW0.out⟩

end Go.Proofs.Ythciddpljcbhiab

/- Walks: the book of what is admitted. -/
namespace Go.Proofs.Ythciddpljcbhiab
open Go Go.RowKit

theorem Try.info121' : (Try.prog.info? 121).map (fun i => (i.zero, i.size, i.bytes)) = some (some (.agg #[.int .i64 0, .int .u8 0, .int .u8 0, .int .u8 0]), 4, 16) := by kernel_rfl

theorem owns_ad {w : World} {base g n cap : Nat} {l : List Ad} (h : w.ownsRow base 121 4 (.slice (some ⟨g, 0, none⟩) n cap) n (flatA l)) (i : Nat) (hi : i < l.length) :
    w.cell? ⟨g, i * 4, none⟩ = some (.int .i64 (adG l i).lv) ∧ w.cell? ⟨g, i * 4 + 1, none⟩ = some (.int .u8 (adG l i).nm.a) ∧ w.cell? ⟨g, i * 4 + 2, none⟩ = some (.int .u8 (adG l i).nm.b) ∧ w.cell? ⟨g, i * 4 + 3, none⟩ = some (.int .u8 (adG l i).nm.c) := by
  have k := fun j (hj : j < 4) => flat_get Ad.cells 4 len4A l i j hj hi
  rw [adG_get l i hi]
  exact ⟨owns_cell h (k 0 (by omega)), owns_cell h (k 1 (by omega)), owns_cell h (k 2 (by omega)), owns_cell h (k 3 (by omega))⟩
theorem adm_in {bk : List Ad} {k : Nat} (hk : k < bk.length) {lv : Nat} {nm : Lb} (h1 : (adG bk k).lv = lv) (h2 : (adG bk k).nm = nm) : nm ∈ admL bk lv := by
  rw [adG_get bk k hk] at h1 h2
  exact List.mem_map.2 ⟨bk[k], List.mem_filter.2 ⟨List.getElem_mem _, by simp [h1]⟩, h2⟩
theorem adm_out {bk : List Ad} {lv : Nat} {nm : Lb} (h : ∀ k, k < bk.length → ¬ ((adG bk k).lv = lv ∧ (adG bk k).nm = nm)) : nm ∉ admL bk lv := by
  intro hm
  obtain ⟨a, ha, e⟩ := List.mem_map.1 hm
  obtain ⟨h1, h2⟩ := List.mem_filter.1 ha
  obtain ⟨i, hi, rfl⟩ := List.getElem_of_mem h1
  exact h i hi (by rw [adG_get bk i hi]; exact ⟨by simpa using h2, e⟩)
theorem admL_take (bk : List Ad) (k lv : Nat) (hk : k < bk.length) : ((admL (bk.take (k + 1)) lv).length : Int) = (admL (bk.take k) lv).length + if (adG bk k).lv = lv then 1 else 0 := by
  rw [List.take_succ_eq_append_getElem hk, adG_get bk k hk]
  unfold admL
  rw [List.filter_append, List.map_append, List.length_append]
  by_cases h : bk[k].lv = lv <;> simp [h]

set_option maxHeartbeats 1000000 in
set_option maxRecDepth 100000 in
theorem has_any (X o : Nat) (a : Option Addr) (n cap : Nat) (bk : List Ad) (lv : Nat) (nm : Lb) (w : World) (hq : w.cell? ⟨X, o, none⟩ = some (.slice a n cap)) (hown : w.ownsRow 0 121 4 (.slice a n cap) n (flatA bk)) (hn : bk.length = n) (hn2 : n ≤ 100000) :
    Calls Try.prog 64 #[.pointer (some ⟨X, o, none⟩), .int .i64 lv, .agg (lbA nm)] w fun e w' => e = .returned (.bool (decide (nm ∈ admL bk lv))) ∧ ∃ d, w' = (w.alloc (c3 nm.a nm.b nm.c)).drewN d := by
  have HO : Hid (w.ownsRow 0 121 4 (.slice a n cap) n (flatA bk)) := hown
  have HN : Hid (bk.length = n) := hn
  have hXs := World.block_lt_of_cell? w _ hq
  have hXs' : X < w.heap.size := hXs
  clear hown hn hXs
  go_enter Try.func64, Try.ntmps64
  go_wp2_with fail
  go_loopw [7] (fun i wr => ∃ k : Nat, i = .int .i64 k ∧ k ≤ n ∧ (∀ j, j < k → ¬ ((adG bk j).lv = lv ∧ (adG bk j).nm = nm)) ∧ ∃ d, wr = (w.alloc (c3 nm.a nm.b nm.c)).drewN d) (fun i _ => n - (intOf i).toNat)
  case atStart => exact ⟨0, rfl, Nat.zero_le _, fun j hj => by omega, 0, rfl⟩
  case round =>
    obtain ⟨k, rfl, hk, hno, d, rfl⟩ := hrel
    have HA : Hid (∀ j, j < k → ¬ ((adG bk j).lv = lv ∧ (adG bk j).nm = nm)) := hno
    clear hno
    by_cases hlt : k < n
    · obtain ⟨g, cap', he, _, hgs, hcap⟩ := ownBlockForm HO.out (by omega)
      obtain ⟨rfl, rfl⟩ : a = some ⟨g, 0, none⟩ ∧ cap = cap' := by injection he with h1 h2 h3; exact ⟨h1, h3⟩
      obtain ⟨x0, x1, x2, x3⟩ := owns_ad HO.out k (by rw [HN.out]; exact hlt)
      have HI : Hid (nm ∈ admL bk lv ∨ ¬ ((adG bk k).lv = lv ∧ (adG bk k).nm = nm)) := by
        by_cases h : (adG bk k).lv = lv ∧ (adG bk k).nm = nm
        · exact .inl (adm_in (by rw [HN.out]; exact hlt) h.1 h.2)
        · exact .inr h
      generalize hA : adG bk k = A at *
      have heq := fun w => eq26 9998 A.nm.a A.nm.b A.nm.c nm.a nm.b nm.c w
      cases e1 : ((A.lv : Int) == (lv : Int))
      · have hne : ¬ A.lv = lv := by intro h; rw [h] at e1; simp at e1
        go_wp2_with fail
        go_quiet (fail)
        go_wp2_with fail
        exact ⟨⟨k + 1, by go_num, by omega, upto_succ HA.out (by rw [hA]; exact fun h => hne h.1), _, rfl⟩, by simp [intOf]; omega⟩
      · have he1 : A.lv = lv := by simp only [beq_iff_eq] at e1; omega
        cases e2 : (A.nm.a == nm.a && A.nm.b == nm.b && A.nm.c == nm.c)
        · rw [e2] at heq
          have hne : ¬ A.nm = nm := by intro h; rw [h] at e2; simp at e2
          go_wp2_with fail
          go_quiet (fail)
          go_wp2_with fail
          exact ⟨⟨k + 1, by go_num, by omega, upto_succ HA.out (by rw [hA]; exact fun h => hne h.2), _, rfl⟩, by simp [intOf]; omega⟩
        · rw [e2] at heq
          have hme : nm ∈ admL bk lv := HI.out.resolve_right (fun h => h ⟨he1, by simp only [Bool.and_eq_true, beq_iff_eq] at e2; exact lb_ext e2.1.1 e2.1.2 e2.2⟩)
          have HM : Hid (decide (nm ∈ admL bk lv) = true) := by show _ = _; simpa using hme
          clear hme
          go_wp2_with fail
          go_quiet (fail)
          go_wp2_with fail
          go_ret
          exact ⟨ret_bool HM.out.symm, d + nq, by rw [World.drewN_drewN]⟩
    · have hke : k = n := by omega
      have HM : Hid (decide (nm ∈ admL bk lv) = false) := by show _ = _; exact decide_eq_false (adm_out (fun j hj => HA.out j (by rw [HN.out] at hj; omega)))
      go_wp2_with fail
      go_ret
      exact ⟨ret_bool HM.out.symm, _, rfl⟩

set_option maxHeartbeats 1000000 in
theorem count_any (X o : Nat) (a : Option Addr) (n cap : Nat) (bk : List Ad) (lv : Nat) (w : World) (hq : w.cell? ⟨X, o, none⟩ = some (.slice a n cap)) (hown : w.ownsRow 0 121 4 (.slice a n cap) n (flatA bk)) (hn : bk.length = n) (hn2 : n ≤ 100000) :
    Calls Try.prog 65 #[.pointer (some ⟨X, o, none⟩), .int .i64 lv] w fun e w' => e = .returned (.int .i64 (admL bk lv).length) ∧ w' = w := by
  have HO : Hid (w.ownsRow 0 121 4 (.slice a n cap) n (flatA bk)) := hown
  have HN : Hid (bk.length = n) := hn
  clear hown hn
  go_enter Try.func65, Try.ntmps65
  go_wp2_with fail
  go_loop [5, 6] (fun m i => ∃ k : Nat, i = .int .i64 k ∧ k ≤ n ∧ m = .int .i64 (admL (bk.take k) lv).length) (fun _ i => n - (intOf i).toNat)
  case atStart => exact ⟨0, rfl, Nat.zero_le _, rfl⟩
  case round =>
    obtain ⟨k, rfl, hk, rfl⟩ := hrel
    by_cases hlt : k < n
    · obtain ⟨g, cap', he, _, hgs, hcap⟩ := ownBlockForm HO.out (by omega)
      obtain ⟨rfl, rfl⟩ : a = some ⟨g, 0, none⟩ ∧ cap = cap' := by injection he with h1 h2 h3; exact ⟨h1, h3⟩
      obtain ⟨x0, _⟩ := owns_ad HO.out k (by rw [HN.out]; exact hlt)
      have HT : Hid (((admL (bk.take (k + 1)) lv).length : Int) = (admL (bk.take k) lv).length + if (adG bk k).lv = lv then 1 else 0) := admL_take bk k lv (by rw [HN.out]; exact hlt)
      have hml : (admL (bk.take k) lv).length ≤ 100000 := by
        have h1 : (admL (bk.take k) lv).length ≤ (bk.take k).length := by unfold admL; rw [List.length_map]; exact List.length_filter_le _ _
        have h2 := List.length_take_le k bk
        omega
      generalize hA : adG bk k = A at *
      generalize (admL (bk.take k) lv).length = M at *
      cases e1 : ((A.lv : Int) == (lv : Int))
      · have hne : ¬ A.lv = lv := by intro h; rw [h] at e1; simp at e1
        go_wp2_with fail
        exact ⟨⟨k + 1, by go_num, by omega, by rw [HT.out, if_neg hne]; go_num⟩, by simp [intOf]; omega⟩
      · have he1 : A.lv = lv := by simp only [beq_iff_eq] at e1; omega
        go_wp2_with fail
        exact ⟨⟨k + 1, by go_num, by omega, by rw [HT.out, if_pos he1]⟩, by simp [intOf]; omega⟩
    · have hke : k = n := by omega
      have HT : Hid (bk.take k = bk) := List.take_of_length_le (by rw [HN.out]; omega)
      rw [HT.out]
      go_wp2_with fail
      go_ret
      exact ⟨rfl, rfl⟩

end Go.Proofs.Ythciddpljcbhiab

/- Walks: a series given at a level. -/
namespace Go.Proofs.Ythciddpljcbhiab
open Go Go.RowKit

abbrev lvC (l : Lv) : Array Value := #[.int .i64 l.age, .int .i64 l.window, .string l.rule, .int .i64 l.limit]
/-- A book within a block: the block's cells, the list, what it holds. -/
structure BookSt (w : World) (X o : Nat) (C : Array Value) (t : TypeId) (bv : Value) (bk : List Ad) : Prop where
  blk : w.heap[X]? = some (.cells C t (0, 0))
  get : C[o]? = some bv
  own : w.ownsRow 0 121 4 bv bk.length (flatA bk)
  ne : bv.ownBlock ≠ some X
theorem BookSt.lt {w : World} {X o : Nat} {C : Array Value} {t : TypeId} {bv : Value} {bk : List Ad} (h : BookSt w X o C t bv bk) : X < w.heap.size := (Array.getElem?_eq_some_iff.1 h.blk).1
theorem BookSt.cell {w : World} {X o : Nat} {C : Array Value} {t : TypeId} {bv : Value} {bk : List Ad} (h : BookSt w X o C t bv bk) : w.cell? ⟨X, o, none⟩ = some bv := by simp [World.cell?, h.blk, h.get]
theorem BookSt.frozen {w : World} {X o : Nat} {C : Array Value} {t : TypeId} {bv : Value} {bk : List Ad} (h : BookSt w X o C t bv bk) : w.frozen? ⟨X, o, none⟩ = false := by simp [World.frozen?, h.blk]
theorem BookSt.kept {w w' : World} {X o : Nat} {C : Array Value} {t : TypeId} {bv : Value} {bk : List Ad} (h : BookSt w X o C t bv bk) (hb : Below w.heap.size w w') : BookSt w' X o C t bv bk :=
  ⟨by rw [hb.block X h.lt]; exact h.blk, h.get, owns_below h.own hb (fun k hk => (h.own.lt k hk).2), h.ne⟩
theorem set_same {C : Array Value} {o : Nat} {v : Value} (h : C[o]? = some v) : C.setIfInBounds o v = C := by
  apply Array.ext_getElem?
  intro i
  rw [Array.getElem?_setIfInBounds]
  by_cases e : o = i
  · subst e; rw [if_pos rfl, h]; have := (Array.getElem?_eq_some_iff.1 h).1; simp [this]
  · rw [if_neg e]

/-- What giving (or entering) leaves. -/
def BookPost (w : World) (X o : Nat) (C : Array Value) (t : TypeId) (bv : Value) (bk' : List Ad) (w' : World) : Prop :=
  ∃ bv', BookSt w' X o (C.setIfInBounds o bv') t bv' bk' ∧ Fr (fun k => k = X ∨ bv.ownBlock = some k) w w' ∧ (bv'.ownBlock = bv.ownBlock ∨ ∀ k, bv'.ownBlock = some k → w.heap.size ≤ k)
theorem BookPost.same {w w' : World} {X o : Nat} {C : Array Value} {t : TypeId} {bv : Value} {bk : List Ad} (h : BookSt w X o C t bv bk) (hb : Below w.heap.size w w') : BookPost w X o C t bv bk w' :=
  ⟨bv, by rw [set_same h.get]; exact h.kept hb, Fr.of_below hb, .inl rfl⟩
theorem book_put {w W w3 : World} {X o : Nat} {C : Array Value} {t : TypeId} {bv bv' : Value} {bk : List Ad} {x : Ad} (H : BookSt w X o C t bv bk) (hb : Below w.heap.size w W) (hg : W.grownBy w3 bv.ownBlock)
    (ho : w3.ownsRow 0 121 4 bv' (bk.length + 1) (flatA bk ++ x.cells)) (hk : bv'.ownBlock = bv.ownBlock ∨ ∀ k, bv'.ownBlock = some k → W.heap.size ≤ k) : BookPost w X o C t bv (bk ++ [x]) (w3.setCell ⟨X, o, none⟩ bv') := by
  have hne := gr_ne hb hk H.lt H.ne
  have hoC : o < C.size := (Array.getElem?_eq_some_iff.1 H.get).1
  refine ⟨bv', ⟨heap_setCell ((gr_heap hb hg H.lt H.ne).trans H.blk), by simp [hoC], ?_, hne⟩, ?_, ?_⟩
  · rw [show (bk ++ [x]).length = bk.length + 1 by simp, show flatA (bk ++ [x]) = flatA bk ++ x.cells from flat_snoc _ _ _]
    exact owns_other ho hne
  · exact ((Fr.of_below hb).grown hg (fun k e => .inl (.inr e))).setCell (.inl (.inl rfl)) _
  · rcases hk with h | h
    · exact .inl h
    · exact .inr fun k e => by have := h k e; have := hb.size; omega

theorem BookPost.more {w w1 w2 : World} {X o : Nat} {C : Array Value} {t : TypeId} {bv : Value} {bk : List Ad} (h : BookPost w X o C t bv bk w1) (hb : Below w1.heap.size w1 w2) : BookPost w X o C t bv bk w2 := by
  obtain ⟨bv', h1, h2, h3⟩ := h
  exact ⟨bv', h1.kept hb, h2.trans (Fr.of_below (S := fun _ => False) hb) (fun _ e => e.elim), h3⟩
/-- A store into a block of the call's own. -/
theorem BookPost.set {w w1 : World} {X o : Nat} {C : Array Value} {t : TypeId} {bv : Value} {bk : List Ad} (h : BookPost w X o C t bv bk w1) {b j : Nat} {u : Value} (hb : w.heap.size ≤ b) (hX : X < w.heap.size) (hn : ∀ bv' : Value, (bv'.ownBlock = bv.ownBlock ∨ ∀ k, bv'.ownBlock = some k → w.heap.size ≤ k) → w1.ownsRow 0 121 4 bv' bk.length (flatA bk) → bv'.ownBlock ≠ some b) : BookPost w X o C t bv bk (w1.setCell ⟨b, j, none⟩ u) := by
  obtain ⟨bv', h1, h2, h3⟩ := h
  refine ⟨bv', ⟨?_, h1.get, owns_other h1.own (hn bv' h3 h1.own), h1.ne⟩, h2.setCell (.inr hb) _, h3⟩
  rw [Below.heap_setCell _ _ _ _ (by show X ≠ b; omega)]
  exact h1.blk

theorem giveB_over {bk : List Ad} {i : Nat} {lv : Lv} {s : Lb} (h : s = over) : giveB bk i lv s = bk ∧ giveN bk i lv s = over := ⟨if_pos h, if_pos h⟩
theorem giveB_in {bk : List Ad} {i : Nat} {lv : Lv} {s : Lb} (h : ¬ s = over) (h1 : madeL lv.rule s ∈ admL bk i) : giveB bk i lv s = bk ∧ giveN bk i lv s = madeL lv.rule s := by
  unfold giveB giveN; rw [if_neg h, if_neg h, if_pos h1, if_pos h1]; exact ⟨rfl, rfl⟩
theorem giveB_full {bk : List Ad} {i : Nat} {lv : Lv} {s : Lb} (h : ¬ s = over) (h1 : madeL lv.rule s ∉ admL bk i) (h2 : lv.limit ≤ ((admL bk i).length : Int)) : giveB bk i lv s = bk ∧ giveN bk i lv s = over := by
  unfold giveB giveN; rw [if_neg h, if_neg h, if_neg h1, if_neg h1, if_pos h2, if_pos h2]; exact ⟨rfl, rfl⟩
theorem giveB_new {bk : List Ad} {i : Nat} {lv : Lv} {s : Lb} (h : ¬ s = over) (h1 : madeL lv.rule s ∉ admL bk i) (h2 : ¬ lv.limit ≤ ((admL bk i).length : Int)) : giveB bk i lv s = bk ++ [⟨i, madeL lv.rule s⟩] ∧ giveN bk i lv s = madeL lv.rule s := by
  unfold giveB giveN; rw [if_neg h, if_neg h, if_neg h1, if_neg h1, if_neg h2, if_neg h2]; exact ⟨rfl, rfl⟩

abbrev gW (w : World) (lv : Lv) (s : Lb) : World := (((w.alloc (.cells (lvC lv) 85)).alloc (c3 s.a s.b s.c)).alloc (c3 0 0 0)).alloc (c3 42 42 42)
theorem gW_below (w : World) (lv : Lv) (s : Lb) : Below w.heap.size w (gW w lv s) := ((((Below.refl _ _).alloc (Nat.le_refl _) _).alloc (by simp) _).alloc (by simp; omega) _).alloc (by simp; omega) _

theorem BookPost.close {w wc wx : World} {X o : Nat} {C : Array Value} {t : TypeId} {bv : Value} {bk : List Ad} (hW : Below w.heap.size w wc) (h : BookPost wc X o C t bv bk wx) (hX : X < w.heap.size) {b : Nat} (hb1 : w.heap.size ≤ b) (hb2 : b < wc.heap.size) (hbv : bv.ownBlock ≠ some b) (u0 u1 u2 : Value) :
    BookPost w X o C t bv bk (((wx.setCell ⟨b, 0, none⟩ u0).setCell ⟨b, 1, none⟩ u1).setCell ⟨b, 2, none⟩ u2) := by
  obtain ⟨bv', h1, h2, h3⟩ := h
  have hne : bv'.ownBlock ≠ some b := by
    rcases h3 with h | h
    · rw [h]; exact hbv
    · intro e; have := h b e; omega
  have hXb : X ≠ b := by omega
  refine ⟨bv', ⟨?_, h1.get, owns_other (owns_other (owns_other h1.own hne) hne) hne, h1.ne⟩, ?_, ?_⟩
  · rw [Below.heap_setCell _ _ _ _ hXb, Below.heap_setCell _ _ _ _ hXb, Below.heap_setCell _ _ _ _ hXb]; exact h1.blk
  · exact ((((Fr.of_below hW).trans h2 (fun k e => .inl e)).setCell (.inr hb1) _).setCell (.inr hb1) _).setCell (.inr hb1) _
  · rcases h3 with h | h
    · exact .inl h
    · exact .inr fun k e => by have := h k e; have := hW.size; omega

/-- What of the boxes of the call is wanted later. -/
structure GS (w w1 : World) (lv : Lv) : Prop where
  r0 : w1.cell? ⟨w.heap.size + 1 + 1, 0, none⟩ = some (.int .u8 0)
  r1 : w1.cell? ⟨w.heap.size + 1 + 1, 1, none⟩ = some (.int .u8 0)
  r2 : w1.cell? ⟨w.heap.size + 1 + 1, 2, none⟩ = some (.int .u8 0)
  g0 : w1.frozen? ⟨w.heap.size + 1 + 1, 0, none⟩ = false
  g1 : w1.frozen? ⟨w.heap.size + 1 + 1, 1, none⟩ = false
  g2 : w1.frozen? ⟨w.heap.size + 1 + 1, 2, none⟩ = false
  l3 : w1.cell? ⟨w.heap.size, 3, none⟩ = some (.int .i64 lv.limit)
theorem GS.lt {w w1 : World} {lv : Lv} (h : GS w w1 lv) : w.heap.size + 1 + 1 < w1.heap.size := World.block_lt_of_cell? w1 _ h.r0
theorem GS.next {w w1 w2 : World} {lv : Lv} (h : GS w w1 lv) (hb : Below w1.heap.size w1 w2) : GS w w2 lv := by
  have hl := h.lt
  have c : ∀ b o, b < w1.heap.size → w2.cell? ⟨b, o, none⟩ = w1.cell? ⟨b, o, none⟩ := fun b o hb' => hb.cell (p := ⟨b, o, none⟩) hb'
  have f : ∀ b o, b < w1.heap.size → w2.frozen? ⟨b, o, none⟩ = w1.frozen? ⟨b, o, none⟩ := fun b o hb' => hb.frozen (p := ⟨b, o, none⟩) hb'
  exact ⟨by rw [c _ _ hl]; exact h.r0, by rw [c _ _ hl]; exact h.r1, by rw [c _ _ hl]; exact h.r2, by rw [f _ _ hl]; exact h.g0, by rw [f _ _ hl]; exact h.g1, by rw [f _ _ hl]; exact h.g2, by rw [c _ _ (by omega)]; exact h.l3⟩
theorem GS.block {w w1 w2 : World} {lv : Lv} (h : GS w w1 lv) (h0 : w2.heap[w.heap.size]? = w1.heap[w.heap.size]?) (h2 : w2.heap[w.heap.size + 1 + 1]? = w1.heap[w.heap.size + 1 + 1]?) : GS w w2 lv := by
  have c : ∀ o, w2.cell? ⟨w.heap.size + 1 + 1, o, none⟩ = w1.cell? ⟨w.heap.size + 1 + 1, o, none⟩ := fun o => World.cell?_of_block h2
  have f : ∀ o, w2.frozen? ⟨w.heap.size + 1 + 1, o, none⟩ = w1.frozen? ⟨w.heap.size + 1 + 1, o, none⟩ := fun o => World.frozen?_of_block h2
  have c' : w2.cell? ⟨w.heap.size, 3, none⟩ = w1.cell? ⟨w.heap.size, 3, none⟩ := World.cell?_of_block h0
  exact ⟨by rw [c]; exact h.r0, by rw [c]; exact h.r1, by rw [c]; exact h.r2, by rw [f]; exact h.g0, by rw [f]; exact h.g1, by rw [f]; exact h.g2, by rw [c']; exact h.l3⟩
theorem GS.first (w : World) (lv : Lv) (s : Lb) : GS w (gW w lv s) lv := by constructor <;> simp [go_sem]

set_option maxHeartbeats 4000000 in
set_option maxRecDepth 100000 in
theorem give_any (X o : Nat) (C : Array Value) (t : TypeId) (bv : Value) (bk : List Ad) (i : Nat) (lv : Lv) (s : Lb) (w : World) (H : BookSt w X o C t bv bk) (hn : bk.length ≤ 5000) (hru : ruleB lv.rule = true) (hrs : lv.rule.size ≤ maxLen) (hs : okS s)
    (_hl0 : 1 ≤ lv.limit) (_hl1 : lv.limit ≤ 20) (_hi : i < 4) :
    Calls Try.prog 44 #[.pointer (some ⟨X, o, none⟩), .int .i64 i, .agg (lvC lv), .agg (lbA s)] w fun e w' => e = .returned (.agg (lbA (giveN bk i lv s))) ∧ BookPost w X o C t bv (giveB bk i lv s) w' := by
  have HB : Hid (BookSt w X o C t bv bk) := H
  have qX := H.cell
  have fX := H.frozen
  have hX := H.lt
  clear H
  have heq := fun w => eq26 9998 s.a s.b s.c 42 42 42 w
  go_enter Try.func44, Try.ntmps44
  go_upto_region 1 with fail
  go_cut [13] from 11 to 13 (fun v wx => v = .bool (s.a == 42 && s.b == 42 && s.c == 42) ∧ ∃ d, wx = (gW w lv s).drewN d)
  case first =>
    go_region_with (go_at_call 62; refine (rest_any _).mono ?_; rintro e w' ⟨rfl, rfl⟩)
    all_goals go_wp2_with fail
    all_goals go_meet
    all_goals (case rel => exact ⟨rfl, _, rfl⟩)
  case rest =>
    obtain ⟨rfl, d, rfl⟩ := hcut
    clear heq
    by_cases ho : s = over
    · have hb : (s.a == 42 && s.b == 42 && s.c == 42) = true := by rw [ho]; rfl
      have HG := giveB_over (bk := bk) (i := i) (lv := lv) ho
      have HG1 : Hid (giveB bk i lv s = bk) := HG.1
      have HG2 : Hid (giveN bk i lv s = s) := HG.2.trans ho.symm
      clear HG ho
      rw [hb]
      clear hb
      go_wp2_with fail
      go_returns
      rw [HG1.out, HG2.out]
      refine ⟨rfl, BookPost.same HB.out ?_⟩
      exact bel_set (bel_set (bel_set (below_drewN (gW_below w lv s) d) (by omega)) (by omega)) (by omega)
    · have hb : (s.a == 42 && s.b == 42 && s.c == 42) = false := by
        apply no_of
        intro h
        simp only [Bool.and_eq_true, beq_iff_eq] at h
        exact ho (lb_ext h.1.1 h.1.2 h.2)
      have hl3 : lab3 s.a s.b s.c = true := hs.resolve_left ho
      have HOV : Hid (¬ s = over) := ho
      have HPV : Hid (prV lv.rule s.a s.b s.c = .tuple #[.agg (lbA (madeL lv.rule s)), .int .i64 0]) := prV_ok hru hl3
      obtain ⟨bi0, hbi, bz0, bz1, bz2⟩ := infP Try.info121'
      rw [hb]
      clear hb ho hl3
      go_wp2_with fail
      refine (labProject_any lv.rule s.a s.b s.c _ hrs).mono ?_
      rintro e w1 ⟨rfl, hb1⟩
      rw [HPV.out]
      have HL1 : Hid (Below (w.heap.size + 4) (gW w lv s) w1) := ⟨hb1.os, hb1.tape, hb1.output, hb1.size, fun k hk => hb1.block k (by simp; omega)⟩
      have HB1 : Hid (BookSt w1 X o C t bv bk) := HB.out.kept ((gW_below w lv s).trans (HL1.out.mono (by omega)))
      have HW1 : Hid (Below w.heap.size w w1) := (gW_below w lv s).trans (HL1.out.mono (by omega))
      have hz1 : w.heap.size + 4 ≤ w1.heap.size := by have := HL1.out.size; simpa using this
      have HG0 : Hid (GS w w1 lv) := (GS.first w lv s).next ⟨hb1.os, hb1.tape, hb1.output, hb1.size, hb1.block⟩
      have hX1 : X < w1.heap.size := HB1.out.lt
      have qX1 := HB1.out.cell
      have fX1 := HB1.out.frozen
      generalize hM : madeL lv.rule s = M at *
      obtain ⟨ba, bc, rfl⟩ := ownForm HB.out.own
      clear hb1 qX fX
      go_wp2_with fail
      refine (has_any X o ba bk.length bc bk i M _ (by rw [((Below.refl w1.heap.size w1).alloc (Nat.le_refl _) _).cell (p := ⟨X, o, none⟩) hX1]; exact qX1) (HB1.out.kept ((Below.refl _ _).alloc (Nat.le_refl _) _)).own rfl (by omega)).mono ?_
      rintro e w2 ⟨rfl, d2, hw2⟩
      have hb2 : Below w1.heap.size w1 w2 := by rw [hw2]; exact below_drewN (((Below.refl _ _).alloc (Nat.le_refl _) _).alloc (by simp) _) d2
      have HB2 : Hid (BookSt w2 X o C t (.slice ba bk.length bc) bk) := HB1.out.kept hb2
      have HW2 : Hid (Below w.heap.size w w2) := HW1.out.trans (hb2.mono (by omega))
      have HG2 : Hid (GS w w2 lv) := HG0.out.next hb2
      have m0 : w2.cell? ⟨w1.heap.size, 0, none⟩ = some (.int .u8 M.a) := by rw [hw2]; simp [go_sem]
      have m1 : w2.cell? ⟨w1.heap.size, 1, none⟩ = some (.int .u8 M.b) := by rw [hw2]; simp [go_sem]
      have m2 : w2.cell? ⟨w1.heap.size, 2, none⟩ = some (.int .u8 M.c) := by rw [hw2]; simp [go_sem]
      have hm1 : w1.heap.size < w2.heap.size := World.block_lt_of_cell? w2 _ m0
      have hm2 : w.heap.size + 1 + 1 ≠ w1.heap.size := by omega
      clear hw2 hb2 HG0 HB1 HW1 qX1 fX1
      obtain ⟨r0, r1, r2, g0, g1, g2, l3⟩ := HG2.out
      have hX2 := HB2.out.lt
      have hw22 := HG2.out.lt
      by_cases hin : M ∈ admL bk i
      · have HG := giveB_in (bk := bk) (i := i) (lv := lv) HOV.out (by rw [hM]; exact hin)
        rw [hM] at HG
        have H1 : Hid (giveB bk i lv s = bk) := HG.1
        have H2 : Hid (giveN bk i lv s = M) := HG.2
        have hd : decide (M ∈ admL bk i) = true := by simpa using hin
        rw [hd]
        clear HG hin hd
        go_wp2_with fail
        refine bodyPost_ret (v := .agg (lbA M)) (by simp [results, Try.results44, go_sem, r0, r1, r2]) rfl ?_
        rw [H1.out, H2.out]
        refine ⟨rfl, BookPost.same HB.out ?_⟩
        exact bel_set (bel_set (bel_set HW2.out (by omega)) (by omega)) (by omega)
      · have hd : decide (M ∈ admL bk i) = false := by simpa using hin
        rw [hd]
        have HNI : Hid (M ∉ admL bk i) := hin
        clear hin hd
        have hml : (admL bk i).length ≤ 5000 := by
          have h1 : (admL bk i).length ≤ bk.length := by unfold admL; rw [List.length_map]; exact List.length_filter_le _ _
          omega
        have HCC : Hid (∀ D, Calls Try.prog 65 #[.pointer (some ⟨X, o, none⟩), .int .i64 i] (w2.drewN D) fun e w' => e = .returned (.int .i64 (admL bk i).length) ∧ w' = w2.drewN D) :=
          fun D => count_any X o ba bk.length bc bk i _ HB2.out.cell HB2.out.own rfl (by omega)
        go_upto_region 8 with fail
        go_cut [35] from 30 to 35 (fun v wx => v = .bool (decide (lv.limit ≤ ((admL bk i).length : Int))) ∧ ∃ D, wx = w2.drewN D)
        case first =>
          go_region_with (go_at_call 65; refine (HCC.out _).mono ?_; rintro e w' ⟨rfl, rfl⟩)
          all_goals go_wp2_with fail
          all_goals go_meet
          all_goals (case rel => exact ⟨rfl, _, rfl⟩)
        case rest =>
          obtain ⟨rfl, D, hwc⟩ := hcut
          have hb3 : Below w2.heap.size w2 wc := by rw [hwc]; exact below_drewN (Below.refl _ _) D
          have HB3 : Hid (BookSt wc X o C t (.slice ba bk.length bc) bk) := HB2.out.kept hb3
          have HW3 : Hid (Below w.heap.size w wc) := HW2.out.trans (hb3.mono (by omega))
          have HG3 : Hid (GS w wc lv) := HG2.out.next hb3
          have m0' : wc.cell? ⟨w1.heap.size, 0, none⟩ = some (.int .u8 M.a) := by rw [hwc]; exact m0
          have m1' : wc.cell? ⟨w1.heap.size, 1, none⟩ = some (.int .u8 M.b) := by rw [hwc]; exact m1
          have m2' : wc.cell? ⟨w1.heap.size, 2, none⟩ = some (.int .u8 M.c) := by rw [hwc]; exact m2
          clear hb3 hwc m0 m1 m2 r0 r1 r2 g0 g1 g2 l3 HB2 HW2 HG2 hX2 hw22 HCC
          obtain ⟨r0, r1, r2, g0, g1, g2, l3⟩ := HG3.out
          have hX3 := HB3.out.lt
          have hw23 := HG3.out.lt
          have hm3 : w1.heap.size < wc.heap.size := World.block_lt_of_cell? wc _ m0'
          by_cases hfull : lv.limit ≤ ((admL bk i).length : Int)
          · have HG := giveB_full (bk := bk) (i := i) (lv := lv) HOV.out (by rw [hM]; exact HNI.out) hfull
            have H1 : Hid (giveB bk i lv s = bk) := HG.1
            have H2 : Hid (giveN bk i lv s = over) := HG.2
            have hd : decide (lv.limit ≤ ((admL bk i).length : Int)) = true := by simpa using hfull
            rw [hd]
            clear HG hd hfull
            go_wp2_with (go_at_call 62; refine (rest_any _).mono ?_; rintro e w' ⟨rfl, rfl⟩)
            refine bodyPost_ret (v := .agg (lbA over)) (by simp [results, Try.results44, go_sem, r0, r1, r2, hw23, over]) rfl ?_
            rw [H1.out, H2.out]
            refine ⟨rfl, BookPost.same HB.out ?_⟩
            repeat (first | exact HW3.out | refine bel_set ?_ (by omega) | refine Below.alloc ?_ (by first | omega | (simp [World.setCell]; omega)) _)
          · have HG := giveB_new (bk := bk) (i := i) (lv := lv) HOV.out (by rw [hM]; exact HNI.out) hfull
            rw [hM] at HG
            have H1 : Hid (giveB bk i lv s = bk ++ [⟨i, M⟩]) := HG.1
            have H2 : Hid (giveN bk i lv s = M) := HG.2
            have hd : decide (lv.limit ≤ ((admL bk i).length : Int)) = false := by simpa using hfull
            have qX := HB3.out.cell
            have fX := HB3.out.frozen
            have hXn : X ≠ wc.heap.size := by omega
            rw [hd]
            clear HG hd hfull
            go_upto_region 10 with fail
            go_cut [46] from 37 to 48 (fun v wx => BookPost wc X o C t (.slice ba bk.length bc) (bk ++ [⟨i, M⟩]) wx)
            case first =>
              go_region_law (refine stepAppend rfl (.tmp 41) (.tmp 45) 57 rfl 0 121 bi0 (.agg #[.int .i64 0, .int .u8 0, .int .u8 0, .int .u8 0]) 4 16 Try.underlying57 hbi bz0 bz1 bz2 rfl (by decide) (.slice ba bk.length bc) bk.length (flatA bk) (by simp [Act.eval]) (HB3.out.own.alloc _) ⟨wc.heap.size, 0, none⟩ 1 1 (Ad.cells ⟨i, M⟩) (by simp [Act.eval]) rfl (newAt _ (Ad.cells ⟨i, M⟩) 121 _ rfl) (Ad.one _) (by unfold maxLen; omega) (by omega) (Nat.zero_le _) ?_; intro v' w3 hown' hgrow hblk; have qX3 : w3.cell? ⟨X, o, none⟩ = some (.slice ba bk.length bc) := hgrow.cell (cell_alloc1 qX) (fun e => HB3.out.ne e.symm); have fX3 : w3.frozen? ⟨X, o, none⟩ = false := (World.frozen?_of_block (hgrow.block X (by simp; omega) (fun e => HB3.out.ne e.symm))).trans (frozen_alloc1 hX3 fX); obtain ⟨a', p', rfl⟩ := ownForm hown')
              all_goals (have hg' := gr_undrew hgrow)
              all_goals (have H5 : Hid (BookPost wc X o C t (.slice ba bk.length bc) (bk ++ [⟨i, M⟩]) (w3.setCell ⟨X, o, none⟩ (.slice a' (bk.length + 1) p'))) := book_put (x := ⟨i, M⟩) HB3.out ((Below.refl _ _).alloc (Nat.le_refl _) _) hg' hown' hblk)
              all_goals clear hgrow hg' hblk hown'
              all_goals go_wp2_with fail
              all_goals go_meet
              all_goals (case rel => exact H5.out)
            case rest =>
              have HP : Hid (BookPost _ X o C t (.slice ba bk.length bc) (bk ++ [⟨i, M⟩]) wc) := hcut
              obtain ⟨bv', hst, hfr, _⟩ := hcut
              have hbo : ∀ k, (Value.slice ba bk.length bc).ownBlock = some k → k < w.heap.size := fun k e => (HB.out.own.lt k e).2
              have HG5 : Hid (GS w wc lv) := HG3.out.block (hfr.block _ (by omega) (fun e => by rcases e with e | e; omega; have := hbo _ e; omega)) (hfr.block _ (by omega) (fun e => by rcases e with e | e; omega; have := hbo _ e; omega))
              have hcm : ∀ o, wc.cell? ⟨w1.heap.size, o, none⟩ = _ := fun o => hfr.cell (p := ⟨w1.heap.size, o, none⟩) hm3 (fun e => by rcases e with e | e; (have e' : w1.heap.size = X := e; omega); have := hbo _ e; have e' : w1.heap.size < w.heap.size := this; omega)
              have n0 : wc.cell? ⟨w1.heap.size, 0, none⟩ = some (.int .u8 M.a) := by rw [hcm]; exact m0'
              have n1 : wc.cell? ⟨w1.heap.size, 1, none⟩ = some (.int .u8 M.b) := by rw [hcm]; exact m1'
              have n2 : wc.cell? ⟨w1.heap.size, 2, none⟩ = some (.int .u8 M.c) := by rw [hcm]; exact m2'
              clear hst hfr hcm m0' m1' m2' r0 r1 r2 g0 g1 g2 l3 qX fX
              obtain ⟨r0, r1, r2, g0, g1, g2, l3⟩ := HG5.out
              go_wp2_with fail
              refine bodyPost_ret (v := .agg (lbA M)) (by simp [results, Try.results44, go_sem, r0, r1, r2]) rfl ?_
              rw [H1.out, H2.out]
              exact ⟨rfl, BookPost.close HW3.out HP.out hX (by omega) hw23 (fun e => by have := hbo _ e; omega) _ _ _⟩

end Go.Proofs.Ythciddpljcbhiab
