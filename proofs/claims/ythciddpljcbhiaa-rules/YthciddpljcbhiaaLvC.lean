/- Walks: Right, of the program. -/
import Derived.Test.YthciddpljcbhiaaLvB
namespace Go.Proofs.Ythciddpljcbhiaa
open Go.RowKit

abbrev cfgO (span keep : Int) (a : Option Addr) (n cap : Nat) : Obj := .cells #[.int .i64 span, .int .i64 keep, .slice a n cap] 24

set_option maxHeartbeats 1000000 in
theorem cfgRight_yes (b off n cap : Nat) (ls : List Lv) (span keep : Int) (w : World) (hn : ls.length = n) (hat : LvAt w b off ls) (hwf : LvWf ls)
    (h1 : 1 ≤ span) (h2 : span ≤ 100) (h3 : 0 ≤ keep) (h4 : keep ≤ 19) (h5 : 1 ≤ n) (h6 : n ≤ 4) :
    Calls Try.prog 49 #[.agg #[.int .i64 span, .int .i64 keep, .slice (some ⟨b, off, none⟩) n cap]] w fun e w' => e = .returned (.bool (agesB ls keep && winsB ls span && sersB ls)) ∧ Below w.heap.size w w' := by
  have hb0 : b < w.heap.size := hat.block (by omega)
  have HL : Hid (LvAt (w.alloc (cfgO span keep (some ⟨b, off, none⟩) n cap)) b off ls) := hat.below ((Below.refl w.heap.size w).alloc (Nat.le_refl _) _) hb0
  have hmx : n ≤ maxLen := by unfold maxLen; omega
  have HMX : Hid (n ≤ maxLen) := hmx
  have HN : Hid (ls.length = n) := hn
  have HW : Hid (LvWf ls) := hwf
  clear hat hn hwf hmx
  have hd1 : 1 ≤ (n : Int) := by omega
  have hd2 : (n : Int) ≤ 4 := by omega
  go_enter Try.func49, Try.ntmps49
  go_wp2_with fail
  refine (rightAges_some b off n cap ls keep _ HN.out HMX.out HL.out).mono ?_
  rintro e w' ⟨rfl, rfl⟩
  cases hA : agesB ls keep
  · go_wp2_with fail
    go_ret
    exact ⟨ret_bool (by simp [hA]), by go_grown⟩
  · go_wp2_with fail
    refine (rightWindows_some b off n cap ls span _ HN.out HMX.out HL.out HW.out h1 h2).mono ?_
    rintro e w' ⟨rfl, rfl⟩
    cases hB : winsB ls span
    · go_wp2_with fail
      go_ret
      exact ⟨ret_bool (by simp [hA, hB]), by go_grown⟩
    · go_wp2_with fail
      refine (rightSeries_some b off n cap ls _ HN.out HMX.out HL.out HW.out).mono ?_
      rintro e w1 ⟨rfl, hb1⟩
      go_wp2_with fail
      go_ret
      exact ⟨ret_bool (by simp [hA, hB]), ((Below.refl w.heap.size w).alloc (Nat.le_refl _) _).trans (hb1.mono (by simp))⟩

theorem lvs_alloc {w : World} {a : Option Addr} {n : Nat} {ls : List Lv} (h : IsLvs w a n ls) (o : Obj) : IsLvs (w.alloc o) a n ls :=
  ⟨h.1, fun hn => let ⟨b, off, e, hat⟩ := h.2 hn; ⟨b, off, e, hat.below ((Below.refl w.heap.size w).alloc (Nat.le_refl _) _) (hat.block (by rw [h.1]; exact hn))⟩⟩

theorem cfgRight_any (a : Option Addr) (n cap : Nat) (ls : List Lv) (span keep : Int) (w : World) (h : IsLvs w a n ls) (hwf : LvWf ls) :
    Calls Try.prog 49 #[.agg #[.int .i64 span, .int .i64 keep, .slice a n cap]] w fun e w' => e = .returned (.bool (rightB span keep ls)) ∧ Below w.heap.size w w' := by
  by_cases hf : 1 ≤ span ∧ span ≤ 100 ∧ 0 ≤ keep ∧ keep ≤ 19 ∧ 1 ≤ n ∧ n ≤ 4
  · obtain ⟨h1, h2, h3, h4, h5, h6⟩ := hf
    obtain ⟨hn, hx⟩ := h
    obtain ⟨b, off, rfl, hat⟩ := hx (by omega)
    rw [rightB_rest h1 h2 h3 h4 (by omega) (by omega)]
    exact cfgRight_yes b off n cap ls span keep w hn hat hwf h1 h2 h3 h4 h5 h6
  · rw [rightB_first (by rw [h.1]; exact hf)]
    exact cfgRight_no a n cap span keep w hf

theorem refRight_any (a : Option Addr) (n cap : Nat) (ls : List Lv) (span keep : Int) (w : World) (h : IsLvs w a n ls) (hwf : LvWf ls) :
    Calls Try.prog 32 #[.agg #[.int .i64 span, .int .i64 keep, .slice a n cap]] w fun e w' => e = .returned (.int .i64 (errR (rightB span keep ls))) ∧ Below w.heap.size w w' := by
  by_cases hf : 1 ≤ span ∧ span ≤ 100 ∧ 0 ≤ keep ∧ keep ≤ 19 ∧ 1 ≤ n ∧ n ≤ 4
  · obtain ⟨h1, h2, h3, h4, h5, h6⟩ := hf
    obtain ⟨hn, hx⟩ := h
    obtain ⟨b, off, rfl, hat⟩ := hx (by omega)
    rw [rightB_rest h1 h2 h3 h4 (by omega) (by omega), ← refsB_eq]
    exact refRight_yes b off n cap ls span keep w hn hat hwf h1 h2 h3 h4 h5 h6
  · rw [rightB_first (by rw [h.1]; exact hf)]
    exact refRight_no a n cap span keep w hf

theorem garRight_any (a : Option Addr) (n cap : Nat) (ls : List Lv) (span keep : Int) (w : World) (h : IsLvs w a n ls) (hwf : LvWf ls) :
    Calls Try.prog 30 #[.agg #[.int .i64 span, .int .i64 keep, .slice a n cap]] w fun e w' => e = .returned (.int .i64 (errR (rightB span keep ls))) ∧ Below w.heap.size w w' := by
  have HL : Hid (IsLvs (w.alloc (cfgO span keep a n cap)) a n ls) := lvs_alloc h _
  have HW : Hid (LvWf ls) := hwf
  clear h hwf
  go_enter Try.func30, Try.ntmps30
  go_wp2_with fail
  refine (cfgRight_any a n cap ls span keep _ HL.out HW.out).mono ?_
  rintro e w1 ⟨rfl, hb1⟩
  have hb : Below w.heap.size w w1 := ((Below.refl w.heap.size w).alloc (Nat.le_refl _) _).trans (hb1.mono (by simp))
  cases hr : rightB span keep ls
  · go_wp2_with fail
    go_ret
    exact ⟨ret_i64 (by simp [errR, hr]), hb⟩
  · go_wp2_with fail
    go_ret
    exact ⟨ret_i64 (by simp [errR, hr]), hb⟩

end Go.Proofs.Ythciddpljcbhiaa
