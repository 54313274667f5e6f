/- Walks: numbers read from bytes, by the program and by the document's answer. -/
import Derived.Test.YthciddpljcbhiaaNum
import Derived.Laws.BitsAllLaws
namespace Go.Proofs.Ythciddpljcbhiaa
open Go.RowKit

/-- Four bytes as a number, the low one first. -/
def num4 (s : ByteArray) (p : Nat) : Int := byt s p + 256 * (byt s (p + 1) + 256 * (byt s (p + 2) + 256 * byt s (p + 3)))
theorem num4_range (s : ByteArray) (p : Nat) : 0 ≤ num4 s p ∧ num4 s p < 4294967296 := by
  have h0 := byt_range s p
  have h1 := byt_range s (p + 1)
  have h2 := byt_range s (p + 2)
  have h3 := byt_range s (p + 3)
  unfold num4; omega
theorem or8 (q b : Int) (h0 : 0 ≤ q) (h1 : q < 16777216) (hb0 : 0 ≤ b) (hb1 : b ≤ 255) : bits .or .u32 (q * 256) (b % 4294967296) = b + 256 * q := by
  rw [show b % 4294967296 = b by omega, u32_or _ _ (by omega) (by omega) hb0 (by omega)]
  have e : (q * 256).toNat = 2 ^ 8 * q.toNat := by omega
  rw [e, ← Nat.two_pow_add_eq_or_of_lt (show b.toNat < 2 ^ 8 by omega)]
  omega

set_option maxHeartbeats 400000 in
set_option maxRecDepth 100000 in
theorem readNumber_any (s : ByteArray) (p : Nat) (w : World) (hs : s.size ≤ maxLen) (hp : p + 4 ≤ s.size) :
    Calls Try.prog 86 #[.string s, .int .i64 p] w fun e w' => e = .returned (.int .u32 (num4 s p)) ∧ w' = w := by
  unfold maxLen at hs
  obtain ⟨a0, a1⟩ := byt_range s (p + 3)
  obtain ⟨b0, b1⟩ := byt_range s (p + 2)
  obtain ⟨c0, c1⟩ := byt_range s (p + 1)
  obtain ⟨d0, d1⟩ := byt_range s p
  have B3 : Hid (((s[p + 3].toNat : Nat) : Int) = byt s (p + 3)) := byt_eq s (p + 3) (by omega)
  have B2 : Hid (((s[p + 2].toNat : Nat) : Int) = byt s (p + 2)) := byt_eq s (p + 2) (by omega)
  have B1 : Hid (((s[p + 1].toNat : Nat) : Int) = byt s (p + 1)) := byt_eq s (p + 1) (by omega)
  have B0 : Hid (((s[p].toNat : Nat) : Int) = byt s p) := byt_eq s p (by omega)
  have e : ∀ x y : Int, x = y → Value.int IntKind.u32 x = .int .u32 y := fun x y h => by rw [h]
  have HE := e
  clear e
  have HE' : Hid (∀ x y : Int, x = y → Value.int IntKind.u32 x = .int .u32 y) := HE
  clear HE
  have hn0 : (0 : Int) ≤ p := by omega
  have hn1 : (p : Int) ≤ (s.size : Int) - 4 := by omega
  go_enter Try.func86, Try.ntmps86
  go_wp2
  go_loop [5, 6] (fun n i => (i = .int .i64 3 ∧ n = .int .u32 0) ∨ (i = .int .i64 2 ∧ n = .int .u32 (byt s (p + 3))) ∨ (i = .int .i64 1 ∧ n = .int .u32 (byt s (p + 2) + 256 * byt s (p + 3)))
    ∨ (i = .int .i64 0 ∧ n = .int .u32 (byt s (p + 1) + 256 * (byt s (p + 2) + 256 * byt s (p + 3)))) ∨ (i = .int .i64 (-1) ∧ n = .int .u32 (num4 s p))) (fun _ i => (intOf i + 1).toNat)
  case atStart => exact Or.inl ⟨rfl, rfl⟩
  case round =>
    rcases hrel with ⟨rfl, rfl⟩ | ⟨rfl, rfl⟩ | ⟨rfl, rfl⟩ | ⟨rfl, rfl⟩ | ⟨rfl, rfl⟩
    · go_wp2
      refine ⟨Or.inr (Or.inl ⟨rfl, HE'.out _ _ ?_⟩), by simp [intOf]⟩
      rw [B3.out]
      have := or8 0 (byt s (p + 3)) (by omega) (by omega) a0 a1
      simpa using this
    · go_wp2
      refine ⟨Or.inr (Or.inr (Or.inl ⟨rfl, HE'.out _ _ ?_⟩)), by simp [intOf]⟩
      rw [B2.out]
      exact or8 _ _ (by omega) (by omega) b0 b1
    · generalize hq : byt s (p + 2) + 256 * byt s (p + 3) = q at *
      have hq0 : 0 ≤ q := by omega
      have hq1 : q ≤ 65535 := by omega
      clear hq
      go_wp2
      refine ⟨Or.inr (Or.inr (Or.inr (Or.inl ⟨rfl, HE'.out _ _ ?_⟩))), by simp [intOf]⟩
      rw [B1.out]
      exact or8 _ _ (by omega) (by omega) c0 c1
    · generalize hq : byt s (p + 1) + 256 * (byt s (p + 2) + 256 * byt s (p + 3)) = q at *
      have hq0 : 0 ≤ q := by omega
      have hq1 : q ≤ 16777215 := by omega
      have HQ : Hid (num4 s p = byt s p + 256 * q) := by show _ = _; unfold num4; rw [hq]
      clear hq
      go_wp2
      refine ⟨Or.inr (Or.inr (Or.inr (Or.inr ⟨rfl, HE'.out _ _ ?_⟩))), by simp [intOf]⟩
      rw [HQ.out, B0.out]
      exact or8 _ _ (by omega) (by omega) d0 d1
    · go_wp2
      go_ret
      exact ⟨rfl, rfl⟩
end Go.Proofs.Ythciddpljcbhiaa
