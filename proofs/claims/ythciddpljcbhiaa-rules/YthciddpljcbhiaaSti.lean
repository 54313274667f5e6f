/- Walks: do the levels read as they did? (stillConfig) -/
import Derived.Test.YthciddpljcbhiaaHan
namespace Go.Proofs.Ythciddpljcbhiaa
open Go.RowKit

theorem lvG_left (ls : List Lv) (x : Lv) (i : Nat) (h : i < ls.length) : lvG (ls ++ [x]) i = lvG ls i := by
  simp [lvG, List.getD, List.getElem?_append_left h]
theorem lvG_last (ls : List Lv) (x : Lv) : lvG (ls ++ [x]) ls.length = x := by simp [lvG, List.getD]

set_option maxHeartbeats 1000000 in
theorem stillConfig_any (a : Option Addr) (g n cap : Nat) (ls : List Lv) (w : World) (hn : ls.length = n) (hr : n ≤ 7000000000000)
    (hall : LvAt w g 0 (ls ++ [blotLv])) (hrow : Row w g ((n + 1) * 4)) (hl : IsLvs w a n ls) :
    Calls Try.prog 31 #[.slice (some ⟨g, 0, none⟩) (n + 1) (n + 1), .slice a n cap] w fun e w' => e = .returned (.bool true) ∧ Below g w w' := by
  have HA : Hid (LvAt w g 0 (ls ++ [blotLv])) := hall
  have HL : Hid (IsLvs w a n ls) := hl
  have HRow : Hid (Row w g ((n + 1) * 4)) := hrow
  have HN : Hid (ls.length = n) := hn
  clear hall hl hrow hn
  obtain ⟨c0, _, _, _⟩ := HA.out n (by simp [HN.out])
  rw [show lvG (ls ++ [blotLv]) n = blotLv from by rw [← HN.out]; exact lvG_last ls _] at c0
  simp only [Nat.zero_add] at c0
  have hage : blotLv.age = -77 := rfl
  rw [hage] at c0
  clear hage
  go_enter Try.func31, Try.ntmps31
  go_wp2_with fail
  go_loopw [6, 7] (fun ok i wr => ∃ k : Nat, k ≤ n ∧ i = .int .i64 k ∧ ok = .bool true ∧ ∃ d, wr = w.drewN d) (fun _ i _ => n - (intOf i).toNat)
  case atStart => exact ⟨0, Nat.zero_le _, rfl, rfl, 0, rfl⟩
  case round =>
    obtain ⟨k, hk, rfl, rfl, d, rfl⟩ := hrel
    by_cases hlt : k < n
    · obtain ⟨a0, a1, a2, a3⟩ := HA.out k (by simp [HN.out]; omega)
      rw [lvG_left ls _ k (by rw [HN.out]; exact hlt)] at a0 a1 a2 a3
      simp only [Nat.zero_add] at a0 a1 a2 a3
      obtain ⟨b, off, rfl, hla⟩ := HL.out.2 (by omega)
      obtain ⟨b0, b1, b2, b3⟩ := hla k (by rw [HN.out]; exact hlt)
      clear hla
      go_wp2_with fail
      go_quiet (fail)
      go_wp2_with fail
      exact ⟨⟨k + 1, by omega, by go_num, rfl, _, rfl⟩, by simp [intOf]; omega⟩
    · go_wp2_with fail
      go_loopw [8] (fun i wr => ∃ k : Nat, k ≤ n + 1 ∧ i = .int .i64 k ∧ Below g w wr ∧ Row wr g ((n + 1) * 4)) (fun i _ => n + 1 - (intOf i).toNat)
      case atStart => exact ⟨0, Nat.zero_le _, rfl, below_drewN (Below.refl _ _) _, HRow.out.drew d⟩
      case round =>
        obtain ⟨k2, hk2, rfl, hbel, hrow⟩ := hrel
        have HR2 : Hid (Row wr g ((n + 1) * 4)) := hrow
        clear hrow
        by_cases hlt2 : k2 < n + 1
        · obtain ⟨⟨v0, q0⟩, f0⟩ := HR2.out.cell (o := k2 * 4) (by omega)
          obtain ⟨⟨v1, q1⟩, f1⟩ := HR2.out.cell (o := k2 * 4 + 1) (by omega)
          obtain ⟨⟨v2, q2⟩, f2⟩ := HR2.out.cell (o := k2 * 4 + 2) (by omega)
          obtain ⟨⟨v3, q3⟩, f3⟩ := HR2.out.cell (o := k2 * 4 + 3) (by omega)
          go_wp2_with fail
          refine ⟨⟨k2 + 1, by omega, by go_num, ?_, ?_⟩, by simp [intOf]; omega⟩
          · exact (((hbel.setCell (Nat.le_refl _) _).setCell (Nat.le_refl _) _).setCell (Nat.le_refl _) _).setCell (Nat.le_refl _) _
          · exact ((((HR2.out.set _).set _).set _).set _)
        · go_wp2_with fail
          go_ret
          exact ⟨rfl, hbel⟩

end Go.Proofs.Ythciddpljcbhiaa
