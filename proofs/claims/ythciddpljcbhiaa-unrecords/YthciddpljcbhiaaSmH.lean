/- Walks: samples in a list of the caller's own, and whether they read as they did (handed, sameSamples, still). -/
import Derived.Test.YthciddpljcbhiaaSmSpec
import Derived.Test.YthciddpljcbhiaaEq
namespace Go.Proofs.Ythciddpljcbhiaa
open Go.RowKit

theorem Try.info42' : (Try.prog.info? 42).map (fun i => (i.zero, i.size, i.bytes)) = some (some (.agg #[.int .i64 0, .int .u8 0, .int .u8 0, .int .u8 0, .int .i32 0]), 5, 16) := by kernel_rfl
theorem Try.size42 : (Try.prog.info? 42).map (·.size) = some 5 := by kernel_rfl

theorem make42 (n : Nat) (h : n ≤ 10000000000000) : ∃ Z : List Value, Z.length = (n + 1) * 5 ∧ ∀ w, (Instr.makeSlice 28 (.int .i64 ((n : Int) + 1)) (.int .i64 ((n : Int) + 1))).run Try.prog w =
    .ok (.slice (some ⟨w.heap.size, 0, none⟩) (n + 1) (n + 1)) (w.alloc (.cells Z.toArray 42)) := by
  have hinfo := Try.info42'
  cases hq : Try.prog.info? 42 with
  | none => simp [hq] at hinfo
  | some i =>
    simp only [hq, Option.map_some, Option.some.injEq, Prod.mk.injEq] at hinfo
    obtain ⟨hz, hs, hb⟩ := hinfo
    refine ⟨(madeCells (Value.cells (.agg #[.int .i64 0, .int .u8 0, .int .u8 0, .int .u8 0, .int .i32 0])) ((n + 1) * 5)).toList, by simp [size_madeCells], fun w => ?_⟩
    have hr := run_make (P := Try.prog) w 28 42 i _ Try.underlying28 hq hz .i64 .i64 ((n : Int) + 1) ((n : Int) + 1) (by omega) (by omega) (by rw [hb]; omega) (by omega)
    rw [hr, hs, show ((n : Int) + 1).toNat = n + 1 from by omega]

theorem copy42 (X : World) (Z : List Value) (a : Option Addr) (n cap : Nat) (ls : List Sm) (hZ : Z.length = (n + 1) * 5) (h : IsSms X a n ls) (g : Nat) (hg : g = X.heap.size) (ty : TypeId) :
    (Builtin.copy_ #[28, 28] ty #[.slice (some ⟨g, 0, none⟩) (n + 1) (n + 1), .slice a n cap]).run Try.prog (X.alloc (.cells Z.toArray 42)) =
      .ok (goInt n) (X.alloc (.cells (flatS ls ++ Z.drop (n * 5)).toArray 42)) := by
  subst hg
  obtain ⟨hn, hx⟩ := h
  by_cases h0 : n = 0
  · subst h0
    have : ls = [] := List.eq_nil_of_length_eq_zero hn
    subst this
    rw [run_copyN_none _ 28 28 ty 42 5 _ _ _ _ _ _ Try.underlying28 Try.size42 (by simp)]
    simp [flatS]
  · obtain ⟨b, off, rfl, hat⟩ := hx (by omega)
    have hb := hat.block (by omega)
    have hat' := at_of_sm (hat.below ((Below.refl X.heap.size X).alloc (Nat.le_refl _) (.cells Z.toArray 42)) hb)
    rw [run_copyN (P := Try.prog) _ 28 28 ty 42 5 X.heap.size 0 (n + 1) (n + 1) ⟨b, off, none⟩ n cap Z.toArray 42 (flatS ls) Try.underlying28 Try.size42 (heap_alloc_new X _)
      (by rw [flatS_len, hn]; congr 1; simp) (fun j v hj => by
        have := hat' j v hj
        rw [show (⟨b, off, none⟩ : Addr).add j = ⟨b, off + j, none⟩ from by unfold Addr.add; split <;> simp_all]
        exact this) (by simp [flatS_len, hZ]; omega) (flatS_one ls)]
    rw [setRow_alloc]
    have : Nat.min n (n + 1) = n := by simp
    rw [this]
    simp [flatS_len, hn]

def blotSm : Sm := ⟨-77, 0, 0, 0, 0⟩
theorem blotS_set (ls : List Sm) (n : Nat) (R : List Value) (z0 z1 z2 z3 z4 : Value) (hl : (flatS ls).length = n * 5) (hR : R = flatS ls ++ [z0, z1, z2, z3, z4]) :
    (((((R.set (n * 5) (.int .i64 (-77))).set (n * 5 + 1) (.int .u8 0)).set (n * 5 + 2) (.int .u8 0)).set (n * 5 + 3) (.int .u8 0)).set (n * 5 + 4) (.int .i32 0)).toArray = (flatS (ls ++ [blotSm])).toArray := by
  subst hR
  have : flatS (ls ++ [blotSm]) = flatS ls ++ [.int .i64 (-77), .int .u8 0, .int .u8 0, .int .u8 0, .int .i32 0] := flat_snoc _ _ _
  rw [this]
  rw [List.set_append_right _ _ (by omega), hl, List.set_append_right _ _ (by omega), hl, List.set_append_right _ _ (by omega), hl, List.set_append_right _ _ (by omega), hl, List.set_append_right _ _ (by omega), hl]
  simp
theorem world1 {w : World} {A B : Array Value} {t : TypeId} (h : A = B) : w.alloc (.cells A t) = w.alloc (.cells B t) := by rw [h]

set_option maxHeartbeats 1000000 in
theorem handed_any (a : Option Addr) (n cap : Nat) (ls : List Sm) (w : World) (h : IsSms w a n ls) (hr : n ≤ 10000000000000) :
    Calls Try.prog 36 #[.slice a n cap] w fun e w' =>
      e = .returned (.tuple #[.slice (some ⟨w.heap.size, 0, none⟩) n (n + 1), .slice (some ⟨w.heap.size, 0, none⟩) (n + 1) (n + 1)]) ∧ w' = w.alloc (.cells (flatS (ls ++ [blotSm])).toArray 42) := by
  obtain ⟨Z, hZ, hmk⟩ := make42 n hr
  have HZ : Hid (Z.length = (n + 1) * 5) := hZ
  clear hZ
  have hcp := fun ty => copy42 w Z a n cap ls HZ.out h w.heap.size rfl ty
  have hfl : (flatS ls).length = n * 5 := by rw [flatS_len, h.1]
  obtain ⟨z0, z1, z2, z3, z4, hz⟩ : ∃ z0 z1 z2 z3 z4, Z.drop (n * 5) = [z0, z1, z2, z3, z4] := by
    have : (Z.drop (n * 5)).length = 5 := by simp [HZ.out]; omega
    match hd : Z.drop (n * 5), this with
    | [z0, z1, z2, z3, z4], _ => exact ⟨z0, z1, z2, z3, z4, rfl⟩
  clear h
  have HLen : Hid ((flatS ls).length = n * 5) := hfl
  clear hfl
  generalize hR : flatS ls ++ Z.drop (n * 5) = R at hcp
  have e0 : R[n * 5]? = some z0 := by rw [← hR, hz, List.getElem?_append_right (by rw [HLen.out]; omega), HLen.out]; simp
  have e1 : R[n * 5 + 1]? = some z1 := by rw [← hR, hz, List.getElem?_append_right (by rw [HLen.out]; omega), HLen.out]; simp
  have e2 : R[n * 5 + 2]? = some z2 := by rw [← hR, hz, List.getElem?_append_right (by rw [HLen.out]; omega), HLen.out]; simp
  have e3 : R[n * 5 + 3]? = some z3 := by rw [← hR, hz, List.getElem?_append_right (by rw [HLen.out]; omega), HLen.out]; simp
  have e4 : R[n * 5 + 4]? = some z4 := by rw [← hR, hz, List.getElem?_append_right (by rw [HLen.out]; omega), HLen.out]; simp
  have HR : Hid (R = flatS ls ++ [z0, z1, z2, z3, z4]) := by rw [← hR, hz]; rfl
  clear hR hz HZ
  go_enter Try.func36, Try.ntmps36
  go_wp2_with fail
  go_ret2
  exact ⟨rfl, world1 (blotS_set ls n R z0 z1 z2 z3 z4 HLen.out HR.out)⟩

set_option maxHeartbeats 1000000 in
theorem sameSamples_yes (a a' : Option Addr) (n cap cap' : Nat) (ls : List Sm) (w : World) (hr : n ≤ 10000000000000) (h : IsSms w a n ls) (h' : IsSms w a' n ls) :
    Calls Try.prog 40 #[.slice a n cap, .slice a' n cap'] w fun e w' => e = .returned (.bool true) ∧ ∃ d, w' = w.drewN d := by
  have H : Hid (IsSms w a n ls) := h
  have H' : Hid (IsSms w a' n ls) := h'
  have HN : Hid (ls.length = n) := h.1
  clear h h'
  go_enter Try.func40, Try.ntmps40
  go_wp2_with fail
  go_loopw [5] (fun i wr => ∃ k : Nat, k ≤ n ∧ i = .int .i64 k ∧ ∃ d, wr = w.drewN d) (fun i _ => n - (intOf i).toNat)
  case atStart => exact ⟨0, Nat.zero_le _, rfl, 0, rfl⟩
  case round =>
    obtain ⟨k, hk, rfl, d, rfl⟩ := hrel
    by_cases hlt : k < n
    · obtain ⟨b, off, rfl, hat⟩ := H.out.2 (by omega)
      obtain ⟨b', off', rfl, hat'⟩ := H'.out.2 (by omega)
      obtain ⟨c0, c1, c2, c3, c4⟩ := hat k (by rw [HN.out]; exact hlt)
      obtain ⟨d0, d1, d2, d3, d4⟩ := hat' k (by rw [HN.out]; exact hlt)
      clear hat hat'
      generalize smG ls k = X at *
      have heq := fun w => eq26 9997 X.l0 X.l1 X.l2 X.l0 X.l1 X.l2 w
      simp only [beq_self_eq_true, Bool.and_self] at heq
      go_wp2_with fail
      go_quiet (fail)
      go_wp2_with fail
      exact ⟨⟨k + 1, by omega, by go_num, _, rfl⟩, by simp [intOf]; omega⟩
    · go_wp2_with fail
      go_ret
      exact ⟨rfl, _, rfl⟩

set_option maxHeartbeats 1000000 in
theorem still_any (a : Option Addr) (g n cap : Nat) (ls : List Sm) (w : World) (hr : n ≤ 10000000000000)
    (hall : SmAt w g 0 (ls ++ [blotSm])) (hrow : Row w g ((n + 1) * 5)) (hl : IsSms w a n ls) :
    Calls Try.prog 37 #[.slice (some ⟨g, 0, none⟩) (n + 1) (n + 1), .slice a n cap] w fun e w' => e = .returned (.bool true) ∧ Below g w w' := by
  have HA : Hid (SmAt w g 0 (ls ++ [blotSm])) := hall
  have HL : Hid (IsSms w a n ls) := hl
  have HRow : Hid (Row w g ((n + 1) * 5)) := hrow
  have HN : Hid (ls.length = n) := hl.1
  clear hall hl hrow
  obtain ⟨c0, _, _, _, _⟩ := HA.out n (by simp [HN.out])
  rw [show smG (ls ++ [blotSm]) n = blotSm from by rw [← HN.out]; exact smG_last ls _] at c0
  simp only [Nat.zero_add] at c0
  have hage : blotSm.time = -77 := rfl
  rw [hage] at c0
  clear hage
  go_enter Try.func37, Try.ntmps37
  go_wp2_with fail
  refine (sameSamples_yes (some ⟨g, 0, none⟩) a n (n + 1) cap ls _ hr ⟨HN.out, fun _ => ⟨g, 0, rfl, smAt_left HA.out⟩⟩ HL.out).mono ?_
  rintro e w1 ⟨rfl, d, rfl⟩
  go_wp2_with fail
  go_loopw [8] (fun i wr => ∃ k : Nat, k ≤ n + 1 ∧ i = .int .i64 k ∧ Below g w wr ∧ Row wr g ((n + 1) * 5)) (fun i _ => n + 1 - (intOf i).toNat)
  case atStart => exact ⟨0, Nat.zero_le _, rfl, below_drewN (Below.refl _ _) _, HRow.out.drew d⟩
  case round =>
    obtain ⟨k2, hk2, rfl, hbel, hrow⟩ := hrel
    have HR2 : Hid (Row wr g ((n + 1) * 5)) := hrow
    clear hrow
    by_cases hlt2 : k2 < n + 1
    · obtain ⟨⟨v0, q0⟩, f0⟩ := HR2.out.cell (o := k2 * 5) (by omega)
      obtain ⟨⟨v1, q1⟩, f1⟩ := HR2.out.cell (o := k2 * 5 + 1) (by omega)
      obtain ⟨⟨v2, q2⟩, f2⟩ := HR2.out.cell (o := k2 * 5 + 2) (by omega)
      obtain ⟨⟨v3, q3⟩, f3⟩ := HR2.out.cell (o := k2 * 5 + 3) (by omega)
      obtain ⟨⟨v4, q4⟩, f4⟩ := HR2.out.cell (o := k2 * 5 + 4) (by omega)
      go_wp2_with fail
      refine ⟨⟨k2 + 1, by omega, by go_num, ?_, ?_⟩, by simp [intOf]; omega⟩
      · exact ((((hbel.setCell (Nat.le_refl _) _).setCell (Nat.le_refl _) _).setCell (Nat.le_refl _) _).setCell (Nat.le_refl _) _).setCell (Nat.le_refl _) _
      · exact (((((HR2.out.set _).set _).set _).set _).set _)
    · go_wp2_with fail
      go_ret
      exact ⟨rfl, hbel⟩

end Go.Proofs.Ythciddpljcbhiaa
