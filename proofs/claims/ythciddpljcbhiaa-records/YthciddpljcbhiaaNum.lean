/- Walks: numbers as bytes, and the check. -/
import Derived.Test.YthciddpljcbhiaaLab
import Derived.Test.YthciddpljcbhiaaRecSpec
namespace Go.Proofs.Ythciddpljcbhiaa
open Go.RowKit

theorem ret_str {a b : ByteArray} (h : a = b) : Ending.returned (.string a) = .returned (.string b) := by rw [h]
theorem ret_u32 {a b : Int} (h : a = b) : Ending.returned (.int .u32 a) = .returned (.int .u32 b) := by rw [h]

/-- A slice of bytes that lies in a new block, as a string. -/
theorem convNew (w : World) (xs : List Int) (n : Nat) (hn : n = xs.length) (cap : Nat) (C : Array Value) (hC : C = (xs.map (Value.int .u8)).toArray) (g : Nat) (hg : g = w.heap.size) :
    (convert 50 9 (.slice (some ⟨g, 0, none⟩) n cap)).run Try.prog (w.alloc (.cells C 5)) = .ok (.string (strOfNums xs)) (w.alloc (.cells C 5)) := by
  subst hC hg hn
  refine run_convert_bytes_arg (P := Try.prog) _ 50 5 Try.underlying50 Try.underlying5 _ 0 _ cap xs rfl (fun i hi => ?_) 9 Try.underlying9
  have := at_alloc_new w (xs.map (Value.int .u8)) 5 i (.int .u8 (xs.getD i 0)) (by simp [List.getD, hi])
  simpa using this

theorem conv4 (w : World) (a b c d : Int) : (convert 50 9 (.slice (some ⟨w.heap.size, 0, none⟩) 4 4)).run Try.prog (w.alloc (.cells #[.int .u8 a, .int .u8 b, .int .u8 c, .int .u8 d] 5)) =
    .ok (.string (strOfNums [a, b, c, d])) (w.alloc (.cells #[.int .u8 a, .int .u8 b, .int .u8 c, .int .u8 d] 5)) := convNew w [a, b, c, d] 4 rfl 4 _ rfl _ rfl
theorem conv3 (w : World) (a b c : Int) : (convert 50 9 (.slice (some ⟨w.heap.size, 0, none⟩) 3 3)).run Try.prog (w.alloc (.cells #[.int .u8 a, .int .u8 b, .int .u8 c] 5)) =
    .ok (.string (strOfNums [a, b, c])) (w.alloc (.cells #[.int .u8 a, .int .u8 b, .int .u8 c] 5)) := convNew w [a, b, c] 3 rfl 3 _ rfl _ rfl
theorem conv2 (w : World) (a b : Int) : (convert 50 9 (.slice (some ⟨w.heap.size, 0, none⟩) 2 2)).run Try.prog (w.alloc (.cells #[.int .u8 a, .int .u8 b] 5)) =
    .ok (.string (strOfNums [a, b])) (w.alloc (.cells #[.int .u8 a, .int .u8 b] 5)) := convNew w [a, b] 2 rfl 2 _ rfl _ rfl

set_option maxRecDepth 100000 in
theorem number_any (n : Int) (w : World) (h0 : 0 ≤ n) (h1 : n < 4294967296) :
    Calls Try.prog 61 #[.int .u32 n] w fun e w' => e = .returned (.string (strOfNums (lowN n 4))) ∧ ∃ o, w' = w.alloc o := by
  have hcv := conv4
  rw [low4_eq n h0 h1]
  go_enter Try.func61, Try.ntmps61
  go_wp2
  go_ret
  exact ⟨rfl, _, rfl⟩

theorem check_any (s : ByteArray) (w : World) (hs : s.size ≤ maxLen) :
    Calls Try.prog 60 #[.string s] w fun e w' => e = .returned (.int .u32 (chk (nums s))) ∧ w' = w := by
  unfold maxLen at hs
  go_enter Try.func60, Try.ntmps60
  go_wp2
  go_loop [3, 4] (fun h i => ∃ k : Nat, k ≤ s.size ∧ i = .int .i64 k ∧ h = .int .u32 (chk ((nums s).take k))) (fun _ i => s.size - (intOf i).toNat)
  case atStart => exact ⟨0, Nat.zero_le _, rfl, rfl⟩
  case round =>
    obtain ⟨k, hk, rfl, rfl⟩ := hrel
    obtain ⟨hq0, hq1⟩ := chk_range ((nums s).take k)
    by_cases hlt : k < s.size
    · have HB : Hid (((s[k].toNat : Nat) : Int) = byt s k) := byt_eq s k hlt
      have HT : Hid (chk ((nums s).take (k + 1)) = chkS (chk ((nums s).take k)) (byt s k)) := by rw [nums_take s k hlt]; exact chk_snoc _ _
      go_wp2
      refine ⟨⟨k + 1, by omega, by go_num, ?_⟩, by simp [intOf]; omega⟩
      rw [HT.out, ← HB.out]
      unfold chkS
      have e : ∀ x y : Int, x = y → Value.int IntKind.u32 x = .int .u32 y := fun x y h => by rw [h]
      apply e
      omega
    · go_wp2
      go_ret
      exact ⟨ret_u32 (by rw [List.take_of_length_le (by rw [nums_len]; omega)]), rfl⟩

end Go.Proofs.Ythciddpljcbhiaa
