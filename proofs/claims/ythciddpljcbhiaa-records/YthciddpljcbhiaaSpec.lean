/- The plain functions that the walks of this seat answer by: letters, rules, labels, levels (no Go, no program). -/
import Derived.WalkKit
namespace Go.Proofs.Ythciddpljcbhiaa

def letB (a : Int) : Bool := decide (97 ≤ a) && decide (a ≤ 122)
def labB (a : Int) : Bool := a == 45 || letB a
def rulB (a : Int) : Bool := a == 107 || a == 103 || a == 100
/-- Byte k of a string, as a number. -/
def byt (s : ByteArray) (k : Nat) : Int := (s.data.toList.getD k 0).toNat
theorem byt_eq (s : ByteArray) (k : Nat) (h : k < s.size) : ((s[k].toNat : Nat) : Int) = byt s k := by
  unfold byt
  have h' : k < s.data.size := h
  have : s[k] = s.data[k] := rfl
  rw [this, List.getD_eq_getElem?_getD, Array.getElem?_toList, Array.getElem?_eq_getElem h']
  rfl
theorem byt_range (s : ByteArray) (k : Nat) : 0 ≤ byt s k ∧ byt s k ≤ 255 := by
  unfold byt
  have := (s.data.toList.getD k 0).toNat_lt
  omega
def ruleB (s : ByteArray) : Bool := decide (s.size = 3) && rulB (byt s 0) && rulB (byt s 1) && rulB (byt s 2)
def lab3 (a b c : Int) : Bool := labB a && labB b && labB c
def grpB (b : Int) : Int := if b = 45 then 45 else if b ≤ 109 then 97 else 110
def prjB (r b : Int) : Int := if r = 103 then grpB b else if r = 100 then 45 else b

theorem ruleB_size {s : ByteArray} (h : ¬ s.size = 3) : ruleB s = false := by simp [ruleB, h]
theorem ruleB_true {s : ByteArray} (h : s.size = 3) (ha : ∀ j, j < 3 → rulB (byt s j) = true) : ruleB s = true := by
  simp [ruleB, h, ha 0, ha 1, ha 2]
theorem ruleB_false {s : ByteArray} (k : Nat) (hk : k < 3) (h : rulB (byt s k) = false) : ruleB s = false := by
  have : k = 0 ∨ k = 1 ∨ k = 2 := by omega
  rcases this with rfl | rfl | rfl <;> simp [ruleB, h]
theorem upto_succ {p : Nat → Prop} {k : Nat} (h : ∀ j, j < k → p j) (hk : p k) : ∀ j, j < k + 1 → p j := fun j hj => by
  by_cases e : j = k
  · subst e; exact hk
  · exact h j (by omega)

/-- One of three. -/
def tri (a b c : Int) (k : Nat) : Int := if k = 0 then a else if k = 1 then b else c
theorem lab3_true {a b c : Int} (h : ∀ j, j < 3 → labB (tri a b c j) = true) : lab3 a b c = true := by
  have h0 := h 0 (by omega); have h1 := h 1 (by omega); have h2 := h 2 (by omega)
  simp [tri] at h0 h1 h2
  simp [lab3, h0, h1, h2]
theorem lab3_false {a b c : Int} (k : Nat) (hk : k < 3) (h : labB (tri a b c k) = false) : lab3 a b c = false := by
  have : k = 0 ∨ k = 1 ∨ k = 2 := by omega
  rcases this with rfl | rfl | rfl <;> simp [tri] at h <;> simp [lab3, h]

/-- What Project answers: byte k, and the error. -/
def prX (s : ByteArray) (a b c : Int) (k : Nat) : Int := if ruleB s && lab3 a b c then prjB (byt s k) (tri a b c k) else 0
def prE (s : ByteArray) (a b c : Int) : Int := if ruleB s then (if lab3 a b c then 0 else 2) else 3

end Go.Proofs.Ythciddpljcbhiaa
