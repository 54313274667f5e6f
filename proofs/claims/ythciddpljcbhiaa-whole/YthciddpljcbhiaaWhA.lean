/- Walks: numbers and labels made right (pick, labels of garnerkeep). -/
import Derived.Test.YthciddpljcbhiaaLab
import Derived.Test.YthciddpljcbhiaaStp
namespace Go.Proofs.Ythciddpljcbhiaa
open Go.RowKit

theorem pick_any (c n : Int) (w : World) (hc0 : -9223372036854775808 ≤ c) (hc1 : c ≤ 9223372036854775807) (hn : 0 < n) (hn1 : n ≤ 9223372036854775807) :
    Calls Try.prog 16 #[.int .i64 c, .int .i64 n] w fun e w' => e = .returned (.int .i64 (pk c n)) ∧ w' = w := by
  have e : ∀ x y : Int, x = y → Ending.returned (.int .i64 x) = Ending.returned (.int .i64 y) := fun x y h => by rw [h]
  have HE : Hid (∀ x y : Int, x = y → Ending.returned (.int .i64 x) = Ending.returned (.int .i64 y)) := e
  clear e
  by_cases h : c < 0
  · have HP : Hid (pk c n = (-(c + 1)) % n) := by show _ = _; simp [pk, h]
    go_enter Try.func16, Try.ntmps16
    go_wp2
    go_ret
    exact ⟨HE.out _ _ (by rw [HP.out, ← Int.neg_tmod, Int.tmod_eq_emod_of_nonneg (by omega)]), rfl⟩
  · have HP : Hid (pk c n = c % n) := by show _ = _; simp [pk, h]
    go_enter Try.func16, Try.ntmps16
    go_wp2
    go_ret
    exact ⟨HE.out _ _ (by rw [HP.out]), rfl⟩

theorem lbB_lab (b : Int) : labB (lbB b) = true := by
  unfold lbB
  have h0 : 0 ≤ b % 27 := by omega
  have h1 : b % 27 < 27 := by omega
  split
  · rfl
  · simp [labB, letB]; omega

theorem lb_fin : ∀ r : Fin 27, ((((⟨#[97, 98, 99, 100, 101, 102, 103, 104, 105, 106, 107, 108, 109, 110, 111, 112, 113, 114, 115, 116, 117, 118, 119, 120, 121, 122, 45]⟩ : ByteArray)[r.val]'(show r.val < 27 from r.isLt)).toNat : Nat) : Int) = if r.val = 26 then 45 else 97 + (r.val : Int) := by decide
theorem lb_get (b : Int) (h : (b % 27).toNat < (⟨#[97, 98, 99, 100, 101, 102, 103, 104, 105, 106, 107, 108, 109, 110, 111, 112, 113, 114, 115, 116, 117, 118, 119, 120, 121, 122, 45]⟩ : ByteArray).size) : ((((⟨#[97, 98, 99, 100, 101, 102, 103, 104, 105, 106, 107, 108, 109, 110, 111, 112, 113, 114, 115, 116, 117, 118, 119, 120, 121, 122, 45]⟩ : ByteArray)[(b % 27).toNat]'h).toNat : Nat) : Int) = lbB b := by
  have h' : (b % 27).toNat < 27 := by omega
  have := lb_fin ⟨(b % 27).toNat, h'⟩
  simp only at this
  refine this.trans ?_
  unfold lbB
  by_cases e : b % 27 = 26
  · rw [if_pos (by omega), if_pos e]
  · rw [if_neg (by omega), if_neg e]; omega
theorem wEqL {w : World} {o : Obj} {a b c a' b' c' : Int} (h : a = a') (h1 : b = b') (h2 : c = c') : (w.alloc (.cells #[.int .u8 a, .int .u8 b, .int .u8 c] 26)).alloc o = (w.alloc (.cells #[.int .u8 a', .int .u8 b', .int .u8 c'] 26)).alloc o := by rw [h, h1, h2]

set_option maxRecDepth 100000 in
theorem labels_any (a b c : Int) (w : World) (ha : 0 ≤ a ∧ a ≤ 255) (hb : 0 ≤ b ∧ b ≤ 255) (hc : 0 ≤ c ∧ c ≤ 255) :
    Calls Try.prog 15 #[.agg #[.int .u8 a, .int .u8 b, .int .u8 c]] w fun e w' => e = .returned (.agg #[.int .u8 (lbB a), .int .u8 (lbB b), .int .u8 (lbB c)]) ∧ Below w.heap.size w w' := by
  obtain ⟨ha0, ha1⟩ := ha
  obtain ⟨hb0, hb1⟩ := hb
  obtain ⟨hc0, hc1⟩ := hc
  go_enter Try.func15, Try.ntmps15
  go_wp2
  go_loopw [3] (fun i wr => (i = .int .i64 0 ∧ wr = (w.alloc (.cells #[.int .u8 a, .int .u8 b, .int .u8 c] 26)).alloc (.cells #[.int .u8 0, .int .u8 0, .int .u8 0] 26)) ∨ (i = .int .i64 1 ∧ wr = (w.alloc (.cells #[.int .u8 (lbB a), .int .u8 b, .int .u8 c] 26)).alloc (.cells #[.int .u8 0, .int .u8 0, .int .u8 0] 26))
     ∨ (i = .int .i64 2 ∧ wr = (w.alloc (.cells #[.int .u8 (lbB a), .int .u8 (lbB b), .int .u8 c] 26)).alloc (.cells #[.int .u8 0, .int .u8 0, .int .u8 0] 26)) ∨ (i = .int .i64 3 ∧ wr = (w.alloc (.cells #[.int .u8 (lbB a), .int .u8 (lbB b), .int .u8 (lbB c)] 26)).alloc (.cells #[.int .u8 0, .int .u8 0, .int .u8 0] 26))) (fun i _ => 3 - (intOf i).toNat)
  case atStart => exact Or.inl ⟨rfl, rfl⟩
  case round =>
    rcases hrel with ⟨rfl, rfl⟩ | ⟨rfl, rfl⟩ | ⟨rfl, rfl⟩ | ⟨rfl, rfl⟩
    · go_wp2
      exact ⟨Or.inr (Or.inl ⟨rfl, wEqL (lb_get a _) rfl rfl⟩), by simp [intOf]⟩
    · go_wp2
      exact ⟨Or.inr (Or.inr (Or.inl ⟨rfl, wEqL rfl (lb_get b _) rfl⟩)), by simp [intOf]⟩
    · go_wp2
      exact ⟨Or.inr (Or.inr (Or.inr ⟨rfl, wEqL rfl rfl (lb_get c _)⟩)), by simp [intOf]⟩
    · go_wp2
      go_returns
      exact ⟨rfl, by go_grown⟩

end Go.Proofs.Ythciddpljcbhiaa
