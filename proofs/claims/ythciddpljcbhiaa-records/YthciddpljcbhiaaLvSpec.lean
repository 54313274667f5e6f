/- Levels, plainly: what stands in a list of levels, and when it is right (no program). -/
import Derived.Test.YthciddpljcbhiaaSpec
import Derived.Test.YthciddpljcbhiaaMem
namespace Go.Proofs.Ythciddpljcbhiaa

structure Lv where
  age : Int
  window : Int
  rule : ByteArray
  limit : Int

def Lv.zero : Lv := ⟨0, 0, ByteArray.empty, 0⟩
def lvG (ls : List Lv) (i : Nat) : Lv := ls.getD i Lv.zero

/-- Four cells of a level at a place. -/
def LvCells (w : World) (b o : Nat) (l : Lv) : Prop :=
  w.cell? ⟨b, o, none⟩ = some (.int .i64 l.age) ∧ w.cell? ⟨b, o + 1, none⟩ = some (.int .i64 l.window) ∧
  w.cell? ⟨b, o + 2, none⟩ = some (.string l.rule) ∧ w.cell? ⟨b, o + 3, none⟩ = some (.int .i64 l.limit)

/-- The levels lie one behind the other from a place on. -/
def LvAt (w : World) (b off : Nat) (ls : List Lv) : Prop := ∀ i, i < ls.length → LvCells w b (off + i * 4) (lvG ls i)

def okAge (ls : List Lv) (keep : Int) (i : Nat) : Bool :=
  (if i = 0 then (lvG ls i).age == 0 else decide ((lvG ls (i - 1)).age < (lvG ls i).age)) && decide ((lvG ls i).age ≤ keep)
def agesB (ls : List Lv) (keep : Int) : Bool := (List.range ls.length).all (okAge ls keep)

theorem all_true {n : Nat} {p : Nat → Bool} (h : ∀ j, j < n → p j = true) : (List.range n).all p = true := by
  rw [List.all_eq_true]; intro x hx; exact h x (List.mem_range.1 hx)
theorem all_false {n : Nat} {p : Nat → Bool} (k : Nat) (hk : k < n) (h : p k = false) : (List.range n).all p = false := by
  rw [List.all_eq_false]; exact ⟨k, List.mem_range.2 hk, by simp [h]⟩

theorem okAge_zero (ls : List Lv) (keep : Int) : okAge ls keep 0 = true ↔ (lvG ls 0).age = 0 ∧ (lvG ls 0).age ≤ keep := by simp [okAge]
theorem okAge_succ (ls : List Lv) (keep : Int) (m : Nat) : okAge ls keep (m + 1) = true ↔ (lvG ls m).age < (lvG ls (m + 1)).age ∧ (lvG ls (m + 1)).age ≤ keep := by simp [okAge]
theorem no_of {a : Bool} (h : ¬ a = true) : a = false := by simpa using h

/-- The window ahead of level i (1 ahead of the first). -/
def ahd (ls : List Lv) (i : Nat) : Int := if i = 0 then 1 else (lvG ls (i - 1)).window
theorem ahd_succ (ls : List Lv) (m : Nat) : ahd ls (m + 1) = (lvG ls m).window := by simp [ahd]
def okWin (ls : List Lv) (span : Int) (i : Nat) : Bool := decide (1 ≤ (lvG ls i).window) && decide ((lvG ls i).window % ahd ls i = 0) && decide (span % (lvG ls i).window = 0)
theorem okWin_iff (ls : List Lv) (span : Int) (i : Nat) : okWin ls span i = true ↔ 1 ≤ (lvG ls i).window ∧ (lvG ls i).window % ahd ls i = 0 ∧ span % (lvG ls i).window = 0 := by simp [okWin, and_assoc]
def winsB (ls : List Lv) (span : Int) : Bool := (List.range ls.length).all (okWin ls span)
def okSer (ls : List Lv) (i : Nat) : Bool := ruleB (lvG ls i).rule && decide (1 ≤ (lvG ls i).limit) && decide ((lvG ls i).limit ≤ 20)
theorem okSer_iff (ls : List Lv) (i : Nat) : okSer ls i = true ↔ ruleB (lvG ls i).rule = true ∧ 1 ≤ (lvG ls i).limit ∧ (lvG ls i).limit ≤ 20 := by simp [okSer, and_assoc]
def sersB (ls : List Lv) : Bool := (List.range ls.length).all (okSer ls)

/-- Every number of a level is an int, every rule a string that may be. -/
def LvWf (ls : List Lv) : Prop := ∀ i, -9223372036854775808 ≤ (lvG ls i).window ∧ (lvG ls i).window ≤ 9223372036854775807 ∧ (lvG ls i).rule.size ≤ maxLen

theorem LvAt.block {w : World} {b off : Nat} {ls : List Lv} (h : LvAt w b off ls) (hn : 0 < ls.length) : b < w.heap.size := by
  have := (h 0 hn).1
  exact World.block_lt_of_cell? w _ this
theorem LvAt.below {w w' : World} {b off B : Nat} {ls : List Lv} (h : LvAt w b off ls) (hb : RowKit.Below B w w') (hB : b < B) : LvAt w' b off ls := by
  intro i hi
  obtain ⟨h1, h2, h3, h4⟩ := h i hi
  exact ⟨(hb.cell (p := ⟨b, _, none⟩) hB).trans h1, (hb.cell (p := ⟨b, _, none⟩) hB).trans h2, (hb.cell (p := ⟨b, _, none⟩) hB).trans h3, (hb.cell (p := ⟨b, _, none⟩) hB).trans h4⟩

def refOk (ls : List Lv) (span keep : Int) (i : Nat) : Bool := okAge ls keep i && okWin ls span i && okSer ls i
theorem refOk_zero (ls : List Lv) (span keep : Int) : refOk ls span keep 0 = true ↔
    ruleB (lvG ls 0).rule = true ∧ 1 ≤ (lvG ls 0).limit ∧ (lvG ls 0).limit ≤ 20 ∧ (lvG ls 0).age ≤ keep ∧ 1 ≤ (lvG ls 0).window ∧ span % (lvG ls 0).window = 0 ∧ (lvG ls 0).age = 0 := by
  simp only [refOk, Bool.and_eq_true, okAge_zero, okWin_iff, okSer_iff]
  have : ahd ls 0 = 1 := rfl
  rw [this]
  constructor
  · rintro ⟨⟨⟨h1, h2⟩, h3, h4, h5⟩, h6, h7, h8⟩
    exact ⟨h6, h7, h8, h2, h3, h5, h1⟩
  · rintro ⟨h6, h7, h8, h2, h3, h5, h1⟩
    exact ⟨⟨⟨h1, h2⟩, h3, by omega, h5⟩, h6, h7, h8⟩
theorem refOk_succ (ls : List Lv) (span keep : Int) (m : Nat) : refOk ls span keep (m + 1) = true ↔
    ruleB (lvG ls (m + 1)).rule = true ∧ 1 ≤ (lvG ls (m + 1)).limit ∧ (lvG ls (m + 1)).limit ≤ 20 ∧ (lvG ls (m + 1)).age ≤ keep ∧ 1 ≤ (lvG ls (m + 1)).window ∧ span % (lvG ls (m + 1)).window = 0 ∧
    (lvG ls m).age < (lvG ls (m + 1)).age ∧ (lvG ls (m + 1)).window % (lvG ls m).window = 0 := by
  simp only [refOk, Bool.and_eq_true, okAge_succ, okWin_iff, okSer_iff, ahd_succ]
  constructor
  · rintro ⟨⟨⟨h1, h2⟩, h3, h4, h5⟩, h6, h7, h8⟩
    exact ⟨h6, h7, h8, h2, h3, h5, h1, h4⟩
  · rintro ⟨h6, h7, h8, h2, h3, h5, h1, h4⟩
    exact ⟨⟨⟨h1, h2⟩, h3, h4, h5⟩, h6, h7, h8⟩
def refsB (ls : List Lv) (span keep : Int) : Bool := (List.range ls.length).all (refOk ls span keep)
theorem refsB_eq (ls : List Lv) (span keep : Int) : refsB ls span keep = (agesB ls keep && winsB ls span && sersB ls) := by
  unfold refsB agesB winsB sersB
  rw [Bool.eq_iff_iff]
  simp only [Bool.and_eq_true, List.all_eq_true, refOk]
  constructor
  · intro h; exact ⟨⟨fun x hx => (h x hx).1.1, fun x hx => (h x hx).1.2⟩, fun x hx => (h x hx).2⟩
  · rintro ⟨⟨h1, h2⟩, h3⟩ x hx; exact ⟨⟨h1 x hx, h2 x hx⟩, h3 x hx⟩
/-- Is the configuration right? -/
def rightB (span keep : Int) (ls : List Lv) : Bool :=
  decide (1 ≤ span) && decide (span ≤ 100) && decide (0 ≤ keep) && decide (keep ≤ 19) && decide (1 ≤ ls.length) && decide (ls.length ≤ 4) && agesB ls keep && winsB ls span && sersB ls

/-- What a slice of levels leads to. -/
def IsLvs (w : World) (a : Option Addr) (n : Nat) (ls : List Lv) : Prop := ls.length = n ∧ (0 < n → ∃ b off, a = some ⟨b, off, none⟩ ∧ LvAt w b off ls)
def errR (b : Bool) : Int := if b then 0 else 1
theorem rightB_first {span keep : Int} {ls : List Lv} (h : ¬ (1 ≤ span ∧ span ≤ 100 ∧ 0 ≤ keep ∧ keep ≤ 19 ∧ 1 ≤ ls.length ∧ ls.length ≤ 4)) : rightB span keep ls = false := by
  apply no_of
  intro hr
  simp only [rightB, Bool.and_eq_true, decide_eq_true_eq] at hr
  exact h ⟨hr.1.1.1.1.1.1.1.1, hr.1.1.1.1.1.1.1.2, hr.1.1.1.1.1.1.2, hr.1.1.1.1.1.2, hr.1.1.1.1.2, hr.1.1.1.2⟩
theorem rightB_rest {span keep : Int} {ls : List Lv} (h1 : 1 ≤ span) (h2 : span ≤ 100) (h3 : 0 ≤ keep) (h4 : keep ≤ 19) (h5 : 1 ≤ ls.length) (h6 : ls.length ≤ 4) :
    rightB span keep ls = (agesB ls keep && winsB ls span && sersB ls) := by
  simp [rightB, h1, h2, h3, h4, h5, h6]
theorem first_of {span keep : Int} {n : Nat} (h : ¬ (1 ≤ span ∧ span ≤ 100 ∧ 0 ≤ keep ∧ keep ≤ 19 ∧ 1 ≤ n ∧ n ≤ 4)) :
    span < 1 ∨ (1 ≤ span ∧ 100 < span) ∨ (1 ≤ span ∧ span ≤ 100 ∧ keep < 0) ∨ (1 ≤ span ∧ span ≤ 100 ∧ 0 ≤ keep ∧ 19 < keep) ∨ (1 ≤ span ∧ span ≤ 100 ∧ 0 ≤ keep ∧ keep ≤ 19 ∧ (n : Int) < 1) ∨
    (1 ≤ span ∧ span ≤ 100 ∧ 0 ≤ keep ∧ keep ≤ 19 ∧ 1 ≤ (n : Int) ∧ 4 < (n : Int)) := by omega

/-! The cells of levels, in one list. -/
def Lv.cells (l : Lv) : List Value := [.int .i64 l.age, .int .i64 l.window, .string l.rule, .int .i64 l.limit]
def flat (ls : List Lv) : List Value := ls.flatMap Lv.cells
theorem len4 (l : Lv) : l.cells.length = 4 := rfl
theorem flat_len (ls : List Lv) : (flat ls).length = ls.length * 4 := flat_length _ 4 len4 ls
theorem lvG_get (ls : List Lv) (i : Nat) (h : i < ls.length) : lvG ls i = ls[i] := by simp [lvG, List.getD, h]
theorem lvAt_of {w : World} {b off : Nat} {ls : List Lv} (h : At w b off (flat ls)) : LvAt w b off ls := by
  intro i hi
  have g := fun j (hj : j < 4) => flat_get Lv.cells 4 len4 ls i j hj hi
  rw [lvG_get ls i hi]
  have h0 := h (i * 4 + 0) _ (g 0 (by omega))
  have h1 := h (i * 4 + 1) _ (g 1 (by omega))
  have h2 := h (i * 4 + 2) _ (g 2 (by omega))
  have h3 := h (i * 4 + 3) _ (g 3 (by omega))
  exact ⟨h0, h1, h2, h3⟩
theorem at_of_lv {w : World} {b off : Nat} {ls : List Lv} (h : LvAt w b off ls) : At w b off (flat ls) := by
  intro j v hj
  have hl : j < ls.length * 4 := by rw [← flat_len]; exact (List.getElem?_eq_some_iff.1 hj).1
  have hi : j / 4 < ls.length := by omega
  have e : j = j / 4 * 4 + j % 4 := by omega
  have g := flat_get Lv.cells 4 len4 ls (j / 4) (j % 4) (by omega) hi
  obtain ⟨c0, c1, c2, c3⟩ := h (j / 4) hi
  rw [lvG_get ls _ hi] at c0 c1 c2 c3
  rw [e] at hj ⊢
  have hj' : (Lv.cells ls[j / 4])[j % 4]? = some v := by rw [← g]; exact hj
  have hm : j % 4 = 0 ∨ j % 4 = 1 ∨ j % 4 = 2 ∨ j % 4 = 3 := by omega
  rw [← Nat.add_assoc]
  rcases hm with hm | hm | hm | hm <;> rw [hm] at hj' ⊢ <;> simp [Lv.cells] at hj' <;> subst hj' <;> assumption
theorem flat_one (ls : List Lv) : ∀ v ∈ flat ls, v.oneCell' = true := by
  intro v hv
  simp only [flat, List.mem_flatMap] at hv
  obtain ⟨l, _, hl⟩ := hv
  simp [Lv.cells] at hl
  rcases hl with rfl | rfl | rfl | rfl <;> rfl

end Go.Proofs.Ythciddpljcbhiaa
