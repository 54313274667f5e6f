/- Reading a record, plainly (no program). -/
import Derived.Test.YthciddpljcbhiaaSmSpec
import Derived.Test.YthciddpljcbhiaaUnA
namespace Go.Proofs.Ythciddpljcbhiaa
open Go Go.RowKit

def cN (s : ByteArray) : Nat := (byt s 1).toNat
theorem cN_eq (s : ByteArray) : ((cN s : Nat) : Int) = byt s 1 := by unfold cN; have := byt_range s 1; omega
/-- s begins with a whole record of a Write but for its samples. -/
def headOk (s : ByteArray) : Bool :=
  decide (2 ≤ s.size) && decide (byt s 0 = 87) && decide (1 ≤ cN s) && decide (cN s ≤ 8) && decide (6 + 11 * cN s ≤ s.size) && decide (num4 s (2 + 11 * cN s) = chk ((nums s).take (2 + 11 * cN s)))
theorem headOk_iff (s : ByteArray) : headOk s = true ↔ 2 ≤ s.size ∧ byt s 0 = 87 ∧ 1 ≤ cN s ∧ cN s ≤ 8 ∧ 6 + 11 * cN s ≤ s.size ∧ num4 s (2 + 11 * cN s) = chk ((nums s).take (2 + 11 * cN s)) := by
  simp [headOk, and_assoc]

def sval (v : Int) : Int := if 2147483648 ≤ v then v - 4294967296 else v
/-- The sample whose bytes begin at a place. -/
def smR (s : ByteArray) (p : Nat) : Sm := ⟨num4 s p, byt s (p + 4), byt s (p + 5), byt s (p + 6), sval (num4 s (p + 7))⟩
def smsR (s : ByteArray) (c : Nat) : List Sm := (List.range c).map fun i => smR s (2 + 11 * i)
theorem smsR_len (s : ByteArray) (c : Nat) : (smsR s c).length = c := by simp [smsR]
theorem smsR_get (s : ByteArray) (c i : Nat) (h : i < c) : smG (smsR s c) i = smR s (2 + 11 * i) := by simp [smG, smsR, List.getD, h]
theorem smsR_succ (s : ByteArray) (c : Nat) : smsR s (c + 1) = smsR s c ++ [smR s (2 + 11 * c)] := by simp [smsR, List.range_succ]
theorem sval_range {v : Int} (h : 0 ≤ v ∧ v < 4294967296) : -2147483648 ≤ sval v ∧ sval v ≤ 2147483647 := by unfold sval; split <;> omega
theorem uval_sval {v : Int} (h : 0 ≤ v ∧ v < 4294967296) : uval (sval v) = v := by unfold uval sval; split <;> omega
theorem smR_wf (s : ByteArray) (p : Nat) : (smR s p).wf := by
  have h := num4_range s p
  exact ⟨⟨by simp only [smR]; omega, by simp only [smR]; omega⟩, byt_range s _, byt_range s _, byt_range s _, sval_range (num4_range s _)⟩
theorem smsR_wf (s : ByteArray) (c : Nat) : SmWf (smsR s c) := by
  intro i
  by_cases h : i < c
  · rw [smsR_get s c i h]; exact smR_wf s _
  · have : smG (smsR s c) i = Sm.zero := by simp [smG, smsR, List.getD, h]
    rw [this]; simp [Sm.wf, Sm.zero]

/-- Does s begin with the record of a Write of right samples? -/
def unOk (s : ByteArray) : Bool := headOk s && smsOk (smsR s (cN s))

/-! A record's bytes and what is read from them. -/
def seg (s : ByteArray) (p n : Nat) : List Int := ((nums s).drop p).take n
theorem nums_getD (s : ByteArray) (k : Nat) (h : k < s.size) : (nums s)[k]'(by rw [nums_len]; exact h) = byt s k := by
  have := nums_get s k h
  rw [List.getElem?_eq_getElem (by rw [nums_len]; exact h)] at this
  exact Option.some.inj this
theorem seg_succ (s : ByteArray) (p n : Nat) (h : p < s.size) : seg s p (n + 1) = byt s p :: seg s (p + 1) n := by
  unfold seg
  rw [List.drop_eq_getElem_cons (by rw [nums_len]; exact h), List.take_succ_cons, nums_getD s p h]
theorem seg_zero (s : ByteArray) (p : Nat) : seg s p 0 = [] := by simp [seg]
theorem seg_add (s : ByteArray) (p a b : Nat) : seg s p (a + b) = seg s p a ++ seg s (p + a) b := by
  unfold seg
  rw [List.take_add, List.drop_drop]
theorem low_num4 (s : ByteArray) (p : Nat) (h : p + 4 ≤ s.size) : lowN (num4 s p) 4 = seg s p 4 := by
  have h0 := byt_range s p
  have h1 := byt_range s (p + 1)
  have h2 := byt_range s (p + 2)
  have h3 := byt_range s (p + 3)
  rw [seg_succ s p 3 (by omega), seg_succ s (p + 1) 2 (by omega), seg_succ s (p + 1 + 1) 1 (by omega), seg_succ s (p + 1 + 1 + 1) 0 (by omega), seg_zero]
  rw [low4_eq _ (num4_range s p).1 (num4_range s p).2]
  have e0 : num4 s p % 256 = byt s p := by unfold num4; omega
  have e1 : num4 s p / 256 % 256 = byt s (p + 1) := by unfold num4; omega
  have e2 : num4 s p / 65536 % 256 = byt s (p + 2) := by unfold num4; omega
  have e3 : num4 s p / 16777216 = byt s (p + 3) := by unfold num4; omega
  rw [e0, e1, e2, e3]
theorem smB_smR (s : ByteArray) (p : Nat) (h : p + 11 ≤ s.size) : smB (smR s p) = seg s p 11 := by
  have e1 : seg s p 11 = seg s p 4 ++ (seg s (p + 4) 3 ++ seg s (p + 4 + 3) 4) := by rw [← seg_add, ← seg_add]
  rw [e1]
  have e2 : seg s (p + 4) 3 = [byt s (p + 4), byt s (p + 5), byt s (p + 6)] := by
    rw [seg_succ s (p + 4) 2 (by omega), seg_succ s (p + 4 + 1) 1 (by omega), seg_succ s (p + 4 + 1 + 1) 0 (by omega), seg_zero]
  rw [e2]
  unfold smB smR
  simp only
  rw [uval_sval (num4_range s (p + 7)), low_num4 s p (by omega), low_num4 s (p + 7) (by omega)]
  simp
theorem flat_smsR (s : ByteArray) (c : Nat) (h : 2 + 11 * c ≤ s.size) : (smsR s c).flatMap smB = seg s 2 (11 * c) := by
  induction c with
  | zero => simp [smsR, seg_zero]
  | succ c ih =>
    rw [smsR_succ, List.flatMap_append, ih (by omega), show 11 * (c + 1) = 11 * c + 11 by omega, seg_add]
    simp [smB_smR s (2 + 11 * c) (by omega)]
theorem take_seg (s : ByteArray) (n : Nat) : (nums s).take n = seg s 0 n := by simp [seg]
theorem low4_inj {a b : Int} (ha : 0 ≤ a ∧ a < 4294967296) (hb : 0 ≤ b ∧ b < 4294967296) (h : lowN a 4 = lowN b 4) : a = b := by
  rw [low4_eq a ha.1 ha.2, low4_eq b hb.1 hb.2] at h
  simp only [List.cons.injEq, and_true] at h
  omega

/-- The record of what was read is what stands there, just where the letter and the check are right. -/
theorem rec_eq (s : ByteArray) (h2 : 2 ≤ s.size) (hc : 6 + 11 * cN s ≤ s.size) :
    recB (smsR s (cN s)) = (nums s).take (6 + 11 * cN s) ↔ byt s 0 = 87 ∧ num4 s (2 + 11 * cN s) = chk ((nums s).take (2 + 11 * cN s)) := by
  have hb : bodyB (smsR s (cN s)) = 87 :: byt s 1 :: seg s 2 (11 * cN s) := by
    unfold bodyB
    rw [flat_smsR s _ (by omega), smsR_len, cN_eq]
    rfl
  have ht : (nums s).take (2 + 11 * cN s) = byt s 0 :: byt s 1 :: seg s 2 (11 * cN s) := by
    rw [take_seg, show 2 + 11 * cN s = (11 * cN s + 1) + 1 by omega, seg_succ s 0 _ (by omega), seg_succ s (0 + 1) _ (by omega)]
  have hall : (nums s).take (6 + 11 * cN s) = (nums s).take (2 + 11 * cN s) ++ seg s (2 + 11 * cN s) 4 := by
    rw [take_seg, take_seg, show 6 + 11 * cN s = (2 + 11 * cN s) + 4 by omega, seg_add]
    simp
  have hl : (bodyB (smsR s (cN s))).length = ((nums s).take (2 + 11 * cN s)).length := by
    rw [hb, ht]; simp
  unfold recB
  rw [hall]
  constructor
  · intro h
    obtain ⟨e1, e2⟩ := List.append_inj h hl
    rw [hb, ht] at e1
    simp only [List.cons.injEq, and_true] at e1
    refine ⟨e1.symm, ?_⟩
    rw [← low_num4 s _ (by omega)] at e2
    have := low4_inj (chk_range _) (num4_range s _) e2
    rw [← this, hb, ht, e1]
  · rintro ⟨e0, e1⟩
    have eb : bodyB (smsR s (cN s)) = (nums s).take (2 + 11 * cN s) := by rw [hb, ht, e0]
    rw [eb, ← e1, low_num4 s _ (by omega)]

theorem nums_extract (s : ByteArray) (k : Nat) : nums (s.extract 0 k) = (nums s).take k := by
  unfold nums
  rw [List.map_take.symm]
  congr 1
  simp [ByteArray.data_extract]

end Go.Proofs.Ythciddpljcbhiaa
