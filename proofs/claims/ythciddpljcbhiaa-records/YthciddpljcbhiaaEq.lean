/- '==' of arrays of three bytes. -/
import Derived.Test.YthciddpljcbhiaaLab
import Derived.Laws.StructEq
namespace Go.Proofs.Ythciddpljcbhiaa
open Go Go.RowKit

theorem Try.size5 : (Try.prog.info? 5).map (·.size) = some 1 := by kernel_rfl

theorem eq26 (d : Nat) (a b c x y z : Int) (w : World) :
    (Op.equalIn (d + 2) 26 (.agg #[.int .u8 a, .int .u8 b, .int .u8 c]) (.agg #[.int .u8 x, .int .u8 y, .int .u8 z])).run Try.prog w = .ok (a == x && b == y && c == z) w := by
  have hs := Try.size5
  cases hq : Try.prog.info? 5 with
  | none => simp [hq] at hs
  | some i =>
    have hi : i.size = 1 := by simpa [hq] using hs
    rw [Op.equalIn]
    simp [run_underlying Try.underlying26, sizeOf, typeInfo, hq, hi, List.range', part, run_equalIn_int _ d 5 .u8 .u8 _ _ Try.underlying5]
    by_cases h1 : a = x <;> by_cases h2 : b = y <;> by_cases h3 : c = z <;> simp [h1, h2, h3]
end Go.Proofs.Ythciddpljcbhiaa
