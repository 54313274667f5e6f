/- Samples, plainly: what stands in a list of samples, when a batch is right, its record (no program). -/
import Derived.Test.YthciddpljcbhiaaLvSpec
import Derived.Test.YthciddpljcbhiaaRecSpec
namespace Go.Proofs.Ythciddpljcbhiaa
open Go Go.RowKit

structure Sm where
  time : Int
  l0 : Int
  l1 : Int
  l2 : Int
  value : Int

def Sm.zero : Sm := ⟨0, 0, 0, 0, 0⟩
def smG (ls : List Sm) (i : Nat) : Sm := ls.getD i Sm.zero

/-- Every number fits its kind. -/
def Sm.wf (x : Sm) : Prop := (-9223372036854775808 ≤ x.time ∧ x.time ≤ 9223372036854775807) ∧ (0 ≤ x.l0 ∧ x.l0 ≤ 255) ∧ (0 ≤ x.l1 ∧ x.l1 ≤ 255) ∧ (0 ≤ x.l2 ∧ x.l2 ≤ 255) ∧ (-2147483648 ≤ x.value ∧ x.value ≤ 2147483647)
def SmWf (ls : List Sm) : Prop := ∀ i, (smG ls i).wf

def SmCells (w : World) (b o : Nat) (x : Sm) : Prop :=
  w.cell? ⟨b, o, none⟩ = some (.int .i64 x.time) ∧ w.cell? ⟨b, o + 1, none⟩ = some (.int .u8 x.l0) ∧ w.cell? ⟨b, o + 2, none⟩ = some (.int .u8 x.l1) ∧
  w.cell? ⟨b, o + 3, none⟩ = some (.int .u8 x.l2) ∧ w.cell? ⟨b, o + 4, none⟩ = some (.int .i32 x.value)
def SmAt (w : World) (b off : Nat) (ls : List Sm) : Prop := ∀ i, i < ls.length → SmCells w b (off + i * 5) (smG ls i)
def IsSms (w : World) (a : Option Addr) (n : Nat) (ls : List Sm) : Prop := ls.length = n ∧ (0 < n → ∃ b off, a = some ⟨b, off, none⟩ ∧ SmAt w b off ls)

theorem SmAt.block {w : World} {b off : Nat} {ls : List Sm} (h : SmAt w b off ls) (hn : 0 < ls.length) : b < w.heap.size :=
  World.block_lt_of_cell? w _ (h 0 hn).1
theorem SmAt.below {w w' : World} {b off B : Nat} {ls : List Sm} (h : SmAt w b off ls) (hb : Below B w w') (hB : b < B) : SmAt w' b off ls := by
  intro i hi
  obtain ⟨h1, h2, h3, h4, h5⟩ := h i hi
  exact ⟨(hb.cell (p := ⟨b, _, none⟩) hB).trans h1, (hb.cell (p := ⟨b, _, none⟩) hB).trans h2, (hb.cell (p := ⟨b, _, none⟩) hB).trans h3, (hb.cell (p := ⟨b, _, none⟩) hB).trans h4, (hb.cell (p := ⟨b, _, none⟩) hB).trans h5⟩
theorem IsSms.below {w w' : World} {a : Option Addr} {n : Nat} {ls : List Sm} (h : IsSms w a n ls) (hb : Below w.heap.size w w') : IsSms w' a n ls :=
  ⟨h.1, fun hn => let ⟨b, off, e, hat⟩ := h.2 hn; ⟨b, off, e, hat.below hb (hat.block (by rw [h.1]; exact hn))⟩⟩

/-! The cells of samples, in one list. -/
def Sm.cells (x : Sm) : List Value := [.int .i64 x.time, .int .u8 x.l0, .int .u8 x.l1, .int .u8 x.l2, .int .i32 x.value]
def flatS (ls : List Sm) : List Value := ls.flatMap Sm.cells
theorem len5 (x : Sm) : x.cells.length = 5 := rfl
theorem flatS_len (ls : List Sm) : (flatS ls).length = ls.length * 5 := flat_length _ 5 len5 ls
theorem smG_get (ls : List Sm) (i : Nat) (h : i < ls.length) : smG ls i = ls[i] := by simp [smG, List.getD, h]
theorem smAt_of {w : World} {b off : Nat} {ls : List Sm} (h : At w b off (flatS ls)) : SmAt w b off ls := by
  intro i hi
  have g := fun j (hj : j < 5) => flat_get Sm.cells 5 len5 ls i j hj hi
  rw [smG_get ls i hi]
  exact ⟨h (i * 5 + 0) _ (g 0 (by omega)), h (i * 5 + 1) _ (g 1 (by omega)), h (i * 5 + 2) _ (g 2 (by omega)), h (i * 5 + 3) _ (g 3 (by omega)), h (i * 5 + 4) _ (g 4 (by omega))⟩
theorem at_of_sm {w : World} {b off : Nat} {ls : List Sm} (h : SmAt w b off ls) : At w b off (flatS ls) := by
  intro j v hj
  have hl : j < ls.length * 5 := by rw [← flatS_len]; exact (List.getElem?_eq_some_iff.1 hj).1
  have hi : j / 5 < ls.length := by omega
  have e : j = j / 5 * 5 + j % 5 := by omega
  have g := flat_get Sm.cells 5 len5 ls (j / 5) (j % 5) (by omega) hi
  obtain ⟨c0, c1, c2, c3, c4⟩ := h (j / 5) hi
  rw [smG_get ls _ hi] at c0 c1 c2 c3 c4
  rw [e] at hj ⊢
  have hj' : (Sm.cells ls[j / 5])[j % 5]? = some v := by rw [← g]; exact hj
  have hm : j % 5 = 0 ∨ j % 5 = 1 ∨ j % 5 = 2 ∨ j % 5 = 3 ∨ j % 5 = 4 := by omega
  rw [← Nat.add_assoc]
  rcases hm with hm | hm | hm | hm | hm <;> rw [hm] at hj' ⊢ <;> simp [Sm.cells] at hj' <;> subst hj' <;> assumption
theorem flatS_one (ls : List Sm) : ∀ v ∈ flatS ls, v.oneCell' = true := by
  intro v hv
  simp only [flatS, List.mem_flatMap] at hv
  obtain ⟨l, _, hl⟩ := hv
  simp [Sm.cells] at hl
  rcases hl with rfl | rfl | rfl | rfl | rfl <;> rfl
theorem smG_left (ls : List Sm) (x : Sm) (i : Nat) (h : i < ls.length) : smG (ls ++ [x]) i = smG ls i := by
  simp [smG, List.getD, List.getElem?_append_left h]
theorem smG_last (ls : List Sm) (x : Sm) : smG (ls ++ [x]) ls.length = x := by simp [smG, List.getD]
theorem smAt_left {w : World} {b off : Nat} {ls : List Sm} {x : Sm} (h : SmAt w b off (ls ++ [x])) : SmAt w b off ls := by
  intro i hi
  have := h i (by simp; omega)
  rwa [smG_left ls x i hi] at this

/-! When samples are right. -/
def smOk (x : Sm) : Bool := decide (0 ≤ x.time) && decide (x.time ≤ 100000) && lab3 x.l0 x.l1 x.l2
theorem smOk_iff (x : Sm) : smOk x = true ↔ 0 ≤ x.time ∧ x.time ≤ 100000 ∧ lab3 x.l0 x.l1 x.l2 = true := by simp [smOk, and_assoc]
def smsOk (ls : List Sm) : Bool := (List.range ls.length).all fun i => smOk (smG ls i)
/-- The error of a batch for itself. -/
def batE (ls : List Sm) : Int := if 1 ≤ ls.length ∧ ls.length ≤ 8 then (if smsOk ls then 0 else 5) else 4
theorem batE_le (ls : List Sm) : 0 ≤ batE ls ∧ batE ls ≤ 13 := by unfold batE; split <;> (try split) <;> omega
theorem batE_zero (ls : List Sm) : batE ls = 0 ↔ 1 ≤ ls.length ∧ ls.length ≤ 8 ∧ smsOk ls = true := by
  unfold batE
  split
  · rename_i h
    cases hs : smsOk ls <;> simp [h]
  · rename_i h
    constructor
    · intro h'; omega
    · rintro ⟨h1, h2, _⟩; exact absurd ⟨h1, h2⟩ h

/-! Records. -/
def uval (v : Int) : Int := v % 4294967296
theorem uval_range (v : Int) : 0 ≤ uval v ∧ uval v < 4294967296 := by unfold uval; omega
def smB (x : Sm) : List Int := lowN x.time 4 ++ [x.l0, x.l1, x.l2] ++ lowN (uval x.value) 4
def bodyB (ls : List Sm) : List Int := [87, (ls.length : Int)] ++ ls.flatMap smB
def recB (ls : List Sm) : List Int := bodyB ls ++ lowN (chk (bodyB ls)) 4
theorem smB_len (x : Sm) : (smB x).length = 11 := by simp [smB, lowN_len]
theorem bodyB_len (ls : List Sm) : (bodyB ls).length = 2 + ls.length * 11 := by simp [bodyB, flat_length smB 11 smB_len]; omega
theorem recB_len (ls : List Sm) : (recB ls).length = 6 + ls.length * 11 := by simp [recB, bodyB_len, lowN_len]; omega

def isByte (x : Int) : Prop := 0 ≤ x ∧ x ≤ 255
theorem lowN_byte (k : Nat) : ∀ n, ∀ x ∈ lowN n k, isByte x := by
  induction k with
  | zero => intro n x hx; simp [lowN] at hx
  | succ k ih =>
    intro n x hx
    simp only [lowN, List.mem_cons] at hx
    rcases hx with rfl | hx
    · unfold isByte; omega
    · exact ih _ x hx
theorem nums_str (xs : List Int) (h : ∀ x ∈ xs, isByte x) : nums (strOfNums xs) = xs := by
  unfold nums
  rw [strOfNums_data, List.map_map]
  conv => rhs; rw [← List.map_id xs]
  apply List.map_congr_left
  intro x hx
  obtain ⟨h0, h1⟩ := h x hx
  simp only [Function.comp, UInt8.toNat_ofNat', id]
  omega
theorem smB_byte {x : Sm} (h : x.wf) : ∀ y ∈ smB x, isByte y := by
  intro y hy
  simp only [smB, List.mem_append, List.mem_cons, List.not_mem_nil, or_false] at hy
  obtain ⟨_, h0, h1, h2, _⟩ := h
  rcases hy with (hy | rfl | rfl | rfl) | hy
  · exact lowN_byte _ _ y hy
  · exact h0
  · exact h1
  · exact h2
  · exact lowN_byte _ _ y hy
theorem mem_wf {ls : List Sm} (h : SmWf ls) {x : Sm} (hx : x ∈ ls) : x.wf := by
  obtain ⟨i, hi, rfl⟩ := List.getElem_of_mem hx
  have := h i
  rwa [smG_get ls i hi] at this
theorem flat_byte {ls : List Sm} (h : SmWf ls) : ∀ y ∈ ls.flatMap smB, isByte y := by
  intro y hy
  simp only [List.mem_flatMap] at hy
  obtain ⟨x, hx, hy⟩ := hy
  exact smB_byte (mem_wf h hx) y hy
theorem bodyB_byte {ls : List Sm} (h : SmWf ls) (hn : ls.length ≤ 255) : ∀ y ∈ bodyB ls, isByte y := by
  intro y hy
  simp only [bodyB, List.mem_append, List.mem_cons, List.not_mem_nil, or_false] at hy
  rcases hy with (rfl | rfl) | hy
  · unfold isByte; omega
  · unfold isByte; omega
  · exact flat_byte h y hy

theorem wf_take {ls : List Sm} (h : SmWf ls) (k : Nat) : SmWf (ls.take k) := by
  intro i
  by_cases hi : i < (ls.take k).length
  · rw [smG_get _ i hi, List.getElem_take]
    exact mem_wf h (List.getElem_mem _)
  · have : smG (ls.take k) i = Sm.zero := by simp only [smG, List.getD]; rw [List.getElem?_eq_none (by omega)]; rfl
    rw [this]
    simp [Sm.wf, Sm.zero]
theorem take_snoc {α : Type} (l : List α) (k : Nat) (h : k < l.length) : l.take (k + 1) = l.take k ++ [l[k]] := List.take_succ_eq_append_getElem h
theorem flat_take (ls : List Sm) (k : Nat) (h : k < ls.length) : (ls.take (k + 1)).flatMap smB = (ls.take k).flatMap smB ++ smB (smG ls k) := by
  rw [take_snoc ls k h, smG_get ls k h, List.flatMap_append]; simp only [List.flatMap_cons, List.flatMap_nil, List.append_nil]

end Go.Proofs.Ythciddpljcbhiaa
