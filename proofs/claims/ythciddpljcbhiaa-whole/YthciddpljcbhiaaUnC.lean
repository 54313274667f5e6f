/- Walks: one sample read (the program). -/
import Derived.Test.YthciddpljcbhiaaUnB
namespace Go.Proofs.Ythciddpljcbhiaa
open Go.RowKit

def rdV (s : ByteArray) (p : Nat) : Value := .tuple #[(if smOk (smR s p) then smV (smR s p) else smV Sm.zero), .bool (smOk (smR s p))]
theorem rdV_no {s : ByteArray} {p : Nat} (h : smOk (smR s p) = false) : rdV s p = .tuple #[.agg #[.int .i64 0, .int .u8 0, .int .u8 0, .int .u8 0, .int .i32 0], .bool false] := by simp [rdV, h, Sm.zero]
theorem rdV_yes {s : ByteArray} {p : Nat} (h : smOk (smR s p) = true) : rdV s p = .tuple #[smV (smR s p), .bool true] := by simp [rdV, h]

theorem wrap32_sval {V : Int} (h0 : 0 ≤ V) (h1 : V < 4294967296) : wrap32 V = sval V := by
  unfold sval; unfold wrap32; split <;> omega

/-- What a call leaves of the first and the third of three boxes of its caller's. -/
theorem three5 {w w1 : World} {o2 : Obj} {x0 x1 x2 x3 x4 y0 y1 y2 y3 y4 : Value}
    (hb : Below (((w.alloc (.cells #[x0, x1, x2, x3, x4] 42)).alloc o2).alloc (.cells #[y0, y1, y2, y3, y4] 42)).drew.heap.size (((w.alloc (.cells #[x0, x1, x2, x3, x4] 42)).alloc o2).alloc (.cells #[y0, y1, y2, y3, y4] 42)).drew w1) :
    w.heap.size + 1 + 1 < w1.heap.size ∧ w1.cell? ⟨w.heap.size, 0, none⟩ = some x0 ∧ w1.cell? ⟨w.heap.size, 1, none⟩ = some x1 ∧ w1.cell? ⟨w.heap.size, 2, none⟩ = some x2 ∧ w1.cell? ⟨w.heap.size, 3, none⟩ = some x3 ∧ w1.cell? ⟨w.heap.size, 4, none⟩ = some x4 ∧
    w1.frozen? ⟨w.heap.size, 0, none⟩ = false ∧ w1.frozen? ⟨w.heap.size, 1, none⟩ = false ∧ w1.frozen? ⟨w.heap.size, 2, none⟩ = false ∧ w1.frozen? ⟨w.heap.size, 3, none⟩ = false ∧ w1.frozen? ⟨w.heap.size, 4, none⟩ = false ∧
    w1.cell? ⟨w.heap.size + 1 + 1, 0, none⟩ = some y0 ∧ w1.cell? ⟨w.heap.size + 1 + 1, 1, none⟩ = some y1 ∧ w1.cell? ⟨w.heap.size + 1 + 1, 2, none⟩ = some y2 ∧ w1.cell? ⟨w.heap.size + 1 + 1, 3, none⟩ = some y3 ∧ w1.cell? ⟨w.heap.size + 1 + 1, 4, none⟩ = some y4 := by
  have hz := hb.size
  have hs : (((w.alloc (.cells #[x0, x1, x2, x3, x4] 42)).alloc o2).alloc (.cells #[y0, y1, y2, y3, y4] 42)).drew.heap.size = w.heap.size + 1 + 1 + 1 := by simp
  rw [hs] at hb hz
  have b0 : w1.heap[w.heap.size]? = some (.cells #[x0, x1, x2, x3, x4] 42) := by
    rw [hb.block _ (by omega)]
    show (((w.alloc (.cells #[x0, x1, x2, x3, x4] 42)).alloc o2).alloc (.cells #[y0, y1, y2, y3, y4] 42)).heap[w.heap.size]? = _
    rw [Below.heap_alloc _ _ _ (by simp; omega), Below.heap_alloc _ _ _ (by simp), heap_alloc_new]
  have b2 : w1.heap[w.heap.size + 1 + 1]? = some (.cells #[y0, y1, y2, y3, y4] 42) := by
    rw [hb.block _ (by omega)]
    have := heap_alloc_new ((w.alloc (.cells #[x0, x1, x2, x3, x4] 42)).alloc o2) (.cells #[y0, y1, y2, y3, y4] 42)
    simp only [World.size_alloc] at this
    exact this
  refine ⟨by omega, ?_, ?_, ?_, ?_, ?_, ?_, ?_, ?_, ?_, ?_, ?_, ?_, ?_, ?_, ?_⟩
  all_goals simp [World.cell?, World.frozen?, b0, b2]

set_option maxHeartbeats 1000000 in
set_option maxRecDepth 100000 in
theorem readSample_any (s : ByteArray) (p : Nat) (w : World) (hs : s.size ≤ maxLen) (hp : p + 11 ≤ s.size) :
    Calls Try.prog 63 #[.string s, .int .i64 p] w fun e w' => e = .returned (rdV s p) ∧ Below w.heap.size w w' := by
  have HM : Hid (s.size ≤ maxLen) := hs
  unfold maxLen at hs
  have hx1 : decide ((p : Int) < 0) = false := by simp
  have hx2 : decide ((s.size : Int) - 11 < (p : Int)) = false := by simp; omega
  have B4 : Hid (((s[p + 4].toNat : Nat) : Int) = byt s (p + 4)) := byt_eq s (p + 4) (by omega)
  have B5 : Hid (((s[p + 4 + 1].toNat : Nat) : Int) = byt s (p + 5)) := byt_eq s (p + 5) (by omega)
  have B6 : Hid (((s[p + 4 + 2].toNat : Nat) : Int) = byt s (p + 6)) := byt_eq s (p + 6) (by omega)
  obtain ⟨n0, n1⟩ := num4_range s p
  obtain ⟨m0, m1⟩ := num4_range s (p + 7)
  have HI : Hid (smOk (smR s p) = true ↔ 0 ≤ num4 s p ∧ num4 s p ≤ 100000 ∧ lab3 (byt s (p + 4)) (byt s (p + 5)) (byt s (p + 6)) = true) := smOk_iff _
  have HR : Hid (smR s p = ⟨num4 s p, byt s (p + 4), byt s (p + 5), byt s (p + 6), sval (num4 s (p + 7))⟩) := rfl
  by_cases hat : num4 s p ≤ 100000
  · go_enter Try.func63, Try.ntmps63
    go_wp2_with fail
    refine (readNumber_any s p _ HM.out (by omega)).mono ?_
    rintro e w1 ⟨rfl, rfl⟩
    generalize hA : num4 s p = A at *
    have HA : Hid (num4 s p = A) := hA
    clear hA
    have hx3 : decide (100000 < A) = false := by simp; omega
    go_wp2_with fail
    rw [show (p : Int) + 7 = ((p + 7 : Nat) : Int) from by omega]
    refine (readNumber_any s (p + 7) _ HM.out (by omega)).mono ?_
    rintro e w1 ⟨rfl, rfl⟩
    generalize num4 s (p + 7) = V at *
    have n0' := m0
    go_wp2_with fail
    have i4 : (p : Int) + 4 < (s.size : Int) := by omega
    have i5 : (p : Int) + 4 + 1 < (s.size : Int) := by omega
    have i6 : (p : Int) + 4 + 2 < (s.size : Int) := by omega
    have j4 : 0 ≤ (p : Int) + 4 := by omega
    have j5 : 0 ≤ (p : Int) + 4 + 1 := by omega
    have j6 : 0 ≤ (p : Int) + 4 + 2 := by omega
    go_region
    go_wp2_with fail
    rw [B4.out, B5.out, B6.out, wrap32_sval n0' m1]
    clear i4 i5 i6 j4 j5 j6 B4 B5 B6 HM
    have HV : Hid (rdV s p = .tuple #[(if smOk ⟨A, byt s (p + 4), byt s (p + 5), byt s (p + 6), sval V⟩ then smV ⟨A, byt s (p + 4), byt s (p + 5), byt s (p + 6), sval V⟩ else smV Sm.zero), .bool (smOk ⟨A, byt s (p + 4), byt s (p + 5), byt s (p + 6), sval V⟩)]) := by
      show _ = _
      rw [rdV, HR.out]
    clear HR HI
    generalize byt s (p + 4) = L0 at *
    generalize byt s (p + 5) = L1 at *
    generalize byt s (p + 6) = L2 at *
    generalize sval V = SV at *
    refine (smRight_any ⟨A, L0, L1, L2, SV⟩ _).mono ?_
    rintro e w1 ⟨rfl, hb⟩
    obtain ⟨hz, q0, q1, q2, q3, q4, f0, f1, f2, f3, f4, r0, r1, r2, r3, r4⟩ := three5 hb
    have hbw : Below w.heap.size w w1 := ((((Below.refl _ _).alloc (Nat.le_refl _) _).alloc (by simp) _).alloc (by simp; omega) _).drew.trans (hb.mono (by simp; omega))
    clear hb
    cases hok : smOk ⟨A, L0, L1, L2, SV⟩
    · rw [hok] at HV
      go_wp2_with fail
      refine bodyPost_ret (v := .tuple #[.agg #[.int .i64 0, .int .u8 0, .int .u8 0, .int .u8 0, .int .i32 0], .bool false]) (by simp [results, Try.results63, go_sem, q0, q1, q2, q3, q4]) rfl ⟨by rw [HV.out]; rfl, ?_⟩
      exact ((((hbw.setCell (Nat.le_refl _) _).setCell (Nat.le_refl _) _).setCell (Nat.le_refl _) _).setCell (Nat.le_refl _) _).setCell (Nat.le_refl _) _
    · rw [hok] at HV
      go_wp2_with fail
      refine bodyPost_ret (v := .tuple #[smV ⟨A, L0, L1, L2, SV⟩, .bool true]) (by simp [results, Try.results63, go_sem, q0, q1, q2, q3, q4]) rfl ⟨by rw [HV.out]; rfl, ?_⟩
      exact ((((hbw.setCell (Nat.le_refl _) _).setCell (Nat.le_refl _) _).setCell (Nat.le_refl _) _).setCell (Nat.le_refl _) _).setCell (Nat.le_refl _) _
  · rw [rdV_no (no_of (by rw [HI.out]; omega))]
    have hx3 : decide (100000 < num4 s p) = true := by simp; omega
    go_enter Try.func63, Try.ntmps63
    go_wp2_with fail
    refine (readNumber_any s p _ HM.out (by omega)).mono ?_
    rintro e w1 ⟨rfl, rfl⟩
    generalize num4 s p = A at *
    go_wp2_with fail
    go_returns
    exact ⟨rfl, by go_grown⟩
end Go.Proofs.Ythciddpljcbhiaa
