/- Records, plainly: samples as lists of byte numbers, and the check (no program). -/
import Derived.Test.YthciddpljcbhiaaSpec
import Derived.Test.YthciddpljcbhiaaMem
import Derived.Laws.BytesArg
namespace Go.Proofs.Ythciddpljcbhiaa
open Go Go.RowKit

/-- The low k bytes of a number, the low one first. -/
def lowN (n : Int) : Nat → List Int
  | 0 => []
  | k + 1 => n % 256 :: lowN (n / 256) k
theorem lowN_len (k : Nat) : ∀ n, (lowN n k).length = k := by
  induction k with
  | zero => intro n; rfl
  | succ k ih => intro n; simp [lowN, ih]
/-- What is left of a number behind k bytes. -/
def shrN (n : Int) : Nat → Int
  | 0 => n
  | k + 1 => shrN n k / 256
theorem shrN_div (k : Nat) : ∀ n, shrN (n / 256) k = shrN n k / 256 := by
  induction k with
  | zero => intro n; rfl
  | succ k ih => intro n; simp [shrN, ih]
theorem shrN_range (n : Int) (h0 : 0 ≤ n) (k : Nat) : 0 ≤ shrN n k ∧ shrN n k ≤ n := by
  induction k with
  | zero => simp [shrN, h0]
  | succ k ih => simp only [shrN]; omega
theorem lowN_snoc (k : Nat) : ∀ n, lowN n (k + 1) = lowN n k ++ [shrN n k % 256] := by
  induction k with
  | zero => intro n; rfl
  | succ k ih => intro n; rw [lowN, ih, shrN_div]; rfl
theorem low4_eq (n : Int) (h0 : 0 ≤ n) (h1 : n < 4294967296) : lowN n 4 = [n % 256, n / 256 % 256, n / 65536 % 256, n / 16777216] := by
  simp only [lowN]
  have e1 : n / 256 / 256 = n / 65536 := by omega
  have e2 : n / 256 / 256 / 256 = n / 16777216 := by omega
  rw [e2, e1]
  have : n / 16777216 % 256 = n / 16777216 := by omega
  rw [this]
theorem low1_eq (n : Int) (h0 : 0 ≤ n) (h1 : n < 256) : lowN n 1 = [n] := by
  simp only [lowN]
  rw [show n % 256 = n by omega]

theorem str_add (xs ys : List Int) : strOfNums xs ++ strOfNums ys = strOfNums (xs ++ ys) := by
  unfold strOfNums
  apply ByteArray.ext
  simp

/-- The check's step, and the check. -/
def chkS (h b : Int) : Int := (31 * h + b) % 4294967296
def chk (l : List Int) : Int := l.foldl chkS 7
theorem chk_snoc (l : List Int) (b : Int) : chk (l ++ [b]) = chkS (chk l) b := by simp [chk]
theorem chkS_range (h b : Int) : 0 ≤ chkS h b ∧ chkS h b < 4294967296 := by unfold chkS; omega
theorem chk_range (l : List Int) : 0 ≤ chk l ∧ chk l < 4294967296 := by
  rcases List.eq_nil_or_concat l with rfl | ⟨l', b, rfl⟩
  · decide
  · rw [List.concat_eq_append, chk_snoc]; exact chkS_range _ _

/-- The bytes of a string as numbers. -/
def nums (s : ByteArray) : List Int := s.data.toList.map fun b => (b.toNat : Int)
theorem nums_len (s : ByteArray) : (nums s).length = s.size := by unfold nums; rw [List.length_map, Array.length_toList]; rfl
theorem nums_get (s : ByteArray) (k : Nat) (h : k < s.size) : (nums s)[k]? = some (byt s k) := by
  rw [← byt_eq s k h]
  have h' : k < s.data.size := h
  unfold nums
  rw [List.getElem?_map, Array.getElem?_toList, Array.getElem?_eq_getElem h']
  rfl
theorem nums_take (s : ByteArray) (k : Nat) (h : k < s.size) : (nums s).take (k + 1) = (nums s).take k ++ [byt s k] := by
  have hk : k < (nums s).length := by rw [nums_len]; exact h
  rw [List.take_succ_eq_append_getElem hk]
  have := nums_get s k h
  rw [List.getElem?_eq_getElem hk] at this
  rw [Option.some.inj this]

end Go.Proofs.Ythciddpljcbhiaa
