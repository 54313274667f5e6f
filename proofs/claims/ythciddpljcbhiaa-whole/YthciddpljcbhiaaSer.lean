/- Series: what is admitted level by level, and that what was admitted at last tells every series (no program). -/
import Derived.Test.YthciddpljcbhiaaLvSpec
import Derived.Test.YthciddpljcbhiaaSmSpec
namespace Go.Proofs.Ythciddpljcbhiaa

/-- Labels, or a series. -/
structure Lb where
  a : Int
  b : Int
  c : Int
deriving DecidableEq

def over : Lb := ⟨42, 42, 42⟩
def madeL (r : ByteArray) (l : Lb) : Lb := ⟨prjB (byt r 0) l.a, prjB (byt r 1) l.b, prjB (byt r 2) l.c⟩
def Sm.lb (x : Sm) : Lb := ⟨x.l0, x.l1, x.l2⟩

/-- What is admitted behind a sample, level by level. -/
def admRow : List Lv → List (List Lb) → Lb → List (List Lb)
  | [], _, _ => []
  | lv :: lvs, A, now =>
    if now = over then A.headD [] :: admRow lvs A.tail over
    else if madeL lv.rule now ∈ A.headD [] then A.headD [] :: admRow lvs A.tail (madeL lv.rule now)
    else if ((A.headD []).length : Int) < lv.limit then (A.headD [] ++ [madeL lv.rule now]) :: admRow lvs A.tail (madeL lv.rule now)
    else A.headD [] :: admRow lvs A.tail over

/-- The series of a sample at its acceptance, level by level. -/
def serNow : List Lv → List (List Lb) → Lb → List Lb
  | [], _, _ => []
  | lv :: lvs, A, now =>
    if now = over then over :: serNow lvs A.tail over
    else if madeL lv.rule now ∈ A.headD [] then madeL lv.rule now :: serNow lvs A.tail (madeL lv.rule now)
    else if ((A.headD []).length : Int) < lv.limit then madeL lv.rule now :: serNow lvs A.tail (madeL lv.rule now)
    else over :: serNow lvs A.tail over

/-- The series at one level of what comes to it, by what is admitted there. -/
def serAt (lv : Lv) (adm : List Lb) (now : Lb) : Lb := if now = over then over else if madeL lv.rule now ∈ adm then madeL lv.rule now else over
theorem serAt_over {lv : Lv} {adm : List Lb} {now : Lb} (h : now = over) : serAt lv adm now = over := if_pos h
theorem serAt_in {lv : Lv} {adm : List Lb} {now : Lb} (h : ¬ now = over) (h1 : madeL lv.rule now ∈ adm) : serAt lv adm now = madeL lv.rule now := by unfold serAt; rw [if_neg h, if_pos h1]
theorem serAt_out {lv : Lv} {adm : List Lb} {now : Lb} (h : ¬ now = over) (h1 : madeL lv.rule now ∉ adm) : serAt lv adm now = over := by unfold serAt; rw [if_neg h, if_neg h1]
/-- The series by what is admitted, level by level. -/
def serOf : List Lv → List (List Lb) → Lb → List Lb
  | [], _, _ => []
  | lv :: lvs, A, now => serAt lv (A.headD []) now :: serOf lvs A.tail (serAt lv (A.headD []) now)

theorem admRow_len (lvs : List Lv) : ∀ A now, (admRow lvs A now).length = lvs.length := by
  induction lvs with
  | nil => intro A now; rfl
  | cons lv lvs ih => intro A now; unfold admRow; repeat (first | split | simp [ih])
theorem serOf_len (lvs : List Lv) : ∀ A now, (serOf lvs A now).length = lvs.length := by
  induction lvs with
  | nil => intro A now; rfl
  | cons lv lvs ih => intro A now; unfold serOf; simp [ih]
theorem serNow_len (lvs : List Lv) : ∀ A now, (serNow lvs A now).length = lvs.length := by
  induction lvs with
  | nil => intro A now; rfl
  | cons lv lvs ih => intro A now; unfold serNow; repeat (first | split | simp [ih])

/-- The series at the acceptance are those by what is admitted behind it. -/
theorem serNow_eq (lvs : List Lv) : ∀ A now, serNow lvs A now = serOf lvs (admRow lvs A now) now := by
  induction lvs with
  | nil => intro A now; rfl
  | cons lv lvs ih =>
    intro A now
    unfold serNow admRow serOf
    by_cases h0 : now = over
    · simp only [if_pos h0, List.headD_cons, List.tail_cons, serAt]
      rw [ih]
    · simp only [if_neg h0]
      by_cases h1 : madeL lv.rule now ∈ A.headD []
      · simp only [if_pos h1, List.headD_cons, List.tail_cons, serAt, if_neg h0]
        rw [ih]
      · simp only [if_neg h1]
        by_cases h2 : ((A.headD []).length : Int) < lv.limit
        · have h3 : madeL lv.rule now ∈ A.headD [] ++ [madeL lv.rule now] := by simp
          simp only [if_pos h2, List.headD_cons, List.tail_cons, serAt, if_neg h0, if_pos h3]
          rw [ih]
        · simp only [if_neg h2, List.headD_cons, List.tail_cons, serAt, if_neg h0, if_neg h1]
          rw [ih]

/-- What is admitted grows, and where there is no room it stays. -/
def Later : List Lv → List (List Lb) → List (List Lb) → Prop
  | [], _, _ => True
  | lv :: lvs, A, B => (∀ x ∈ A.headD [], x ∈ B.headD []) ∧ (lv.limit ≤ ((A.headD []).length : Int) → B.headD [] = A.headD []) ∧ Later lvs A.tail B.tail
theorem Later.refl (lvs : List Lv) : ∀ A, Later lvs A A := by
  induction lvs with
  | nil => intro A; trivial
  | cons lv lvs ih => intro A; exact ⟨fun _ h => h, fun _ => rfl, ih _⟩
theorem Later.trans {lvs : List Lv} : ∀ {A B C}, Later lvs A B → Later lvs B C → Later lvs A C := by
  induction lvs with
  | nil => intro A B C _ _; trivial
  | cons lv lvs ih =>
    intro A B C h h'
    refine ⟨fun x hx => h'.1 x (h.1 x hx), fun hl => ?_, ih h.2.2 h'.2.2⟩
    have e := h.2.1 hl
    rw [← e]
    exact h'.2.1 (by rw [e]; exact hl)
theorem admRow_later (lvs : List Lv) : ∀ A now, Later lvs A (admRow lvs A now) := by
  induction lvs with
  | nil => intro A now; trivial
  | cons lv lvs ih =>
    intro A now
    unfold admRow
    split
    · exact ⟨fun _ h => h, fun _ => rfl, ih _ _⟩
    · split
      · exact ⟨fun _ h => h, fun _ => rfl, ih _ _⟩
      · split
        · next h2 => exact ⟨fun x h => by simp only [List.headD_cons]; exact List.mem_append_left _ h, fun h => by omega, ih _ _⟩
        · exact ⟨fun _ h => h, fun _ => rfl, ih _ _⟩
theorem serOf_cons (lv : Lv) (lvs : List Lv) (A : List (List Lb)) (now : Lb) : serOf (lv :: lvs) A now = serAt lv (A.headD []) now :: serOf lvs A.tail (serAt lv (A.headD []) now) := rfl
/-- A sample's series stay as they are, whatever is admitted later. -/
theorem serOf_later (lvs : List Lv) : ∀ A now B, Later lvs (admRow lvs A now) B → serOf lvs B now = serOf lvs (admRow lvs A now) now := by
  induction lvs with
  | nil => intro A now B _; rfl
  | cons lv lvs ih =>
    intro A now B h
    unfold admRow at h ⊢
    by_cases h0 : now = over
    · rw [if_pos h0] at h ⊢
      rw [serOf_cons, serOf_cons, serAt_over h0, serAt_over h0, ih _ _ _ h.2.2]
      rfl
    · rw [if_neg h0] at h ⊢
      by_cases h1 : madeL lv.rule now ∈ A.headD []
      · rw [if_pos h1] at h ⊢
        rw [serOf_cons, serOf_cons, serAt_in h0 (h.1 _ h1), serAt_in (adm := (A.headD [] :: _).headD []) h0 h1, ih _ _ _ h.2.2]
        rfl
      · rw [if_neg h1] at h ⊢
        by_cases h2 : ((A.headD []).length : Int) < lv.limit
        · rw [if_pos h2] at h ⊢
          have h3 : madeL lv.rule now ∈ A.headD [] ++ [madeL lv.rule now] := by simp
          rw [serOf_cons, serOf_cons, serAt_in h0 (h.1 _ h3), serAt_in (adm := ((A.headD [] ++ [madeL lv.rule now]) :: _).headD []) h0 h3, ih _ _ _ h.2.2]
          rfl
        · rw [if_neg h2] at h ⊢
          have e : B.headD [] = A.headD [] := h.2.1 (by simp only [List.headD_cons]; omega)
          rw [serOf_cons, serOf_cons, serAt_out h0 (by rw [e]; exact h1), serAt_out (adm := (A.headD [] :: _).headD []) h0 h1, ih _ _ _ h.2.2]
          rfl

/-- All samples, in their order: what is admitted at last, and the series of each at its acceptance. -/
def admAll (lvs : List Lv) (A : List (List Lb)) : List Sm → List (List Lb)
  | [] => A
  | x :: l => admAll lvs (admRow lvs A x.lb) l
def serAll (lvs : List Lv) (A : List (List Lb)) : List Sm → List (List Lb)
  | [] => []
  | x :: l => serNow lvs A x.lb :: serAll lvs (admRow lvs A x.lb) l
theorem admAll_append (lvs : List Lv) (l l' : List Sm) : ∀ A, admAll lvs A (l ++ l') = admAll lvs (admAll lvs A l) l' := by
  induction l with
  | nil => intro A; rfl
  | cons x l ih => intro A; exact ih _
theorem serAll_append (lvs : List Lv) (l l' : List Sm) : ∀ A, serAll lvs A (l ++ l') = serAll lvs A l ++ serAll lvs (admAll lvs A l) l' := by
  induction l with
  | nil => intro A; rfl
  | cons x l ih => intro A; simp only [List.cons_append, serAll, ih, admAll]
theorem serAll_len (lvs : List Lv) (l : List Sm) : ∀ A, (serAll lvs A l).length = l.length := by
  induction l with
  | nil => intro A; rfl
  | cons x l ih => intro A; simp [serAll, ih]
theorem admAll_later (lvs : List Lv) (l : List Sm) : ∀ A, Later lvs A (admAll lvs A l) := by
  induction l with
  | nil => intro A; exact Later.refl _ _
  | cons x l ih => intro A; exact (admRow_later _ _ _).trans (ih _)
/-- What is admitted at last tells every series. -/
theorem serAll_eq (lvs : List Lv) (l : List Sm) : ∀ A, serAll lvs A l = l.map fun x => serOf lvs (admAll lvs A l) x.lb := by
  induction l with
  | nil => intro A; rfl
  | cons x l ih =>
    intro A
    simp only [serAll, admAll, List.map_cons, ih]
    congr 1
    rw [serNow_eq]
    exact (serOf_later lvs A x.lb _ (admAll_later _ _ _)).symm

/-- The series at a level hangs on the series at the level ahead alone. -/
theorem serOf_step (lvs : List Lv) : ∀ A now j, j + 1 < lvs.length → (serOf lvs A now).getD (j + 1) over = serAt (lvs.getD (j + 1) ⟨0, 0, ⟨#[]⟩, 0⟩) (A.getD (j + 1) []) ((serOf lvs A now).getD j over) := by
  induction lvs with
  | nil => intro A now j h; simp at h
  | cons lv lvs ih =>
    intro A now j h
    simp only [List.length_cons] at h
    cases lvs with
    | nil => simp at h
    | cons lv2 lvs2 =>
      cases j with
      | zero =>
        simp only [serOf, List.getD_cons_succ, List.getD_cons_zero]
        cases A with
        | nil => simp
        | cons a A => cases A <;> simp
      | succ j =>
        have := ih A.tail (serAt lv (A.headD []) now) j (by simp at h ⊢; omega)
        rw [show serOf (lv :: lv2 :: lvs2) A now = serAt lv (A.headD []) now :: serOf (lv2 :: lvs2) A.tail (serAt lv (A.headD []) now) from rfl]
        rw [List.getD_cons_succ, List.getD_cons_succ, List.getD_cons_succ, this]
        congr 1
        cases A <;> simp

end Go.Proofs.Ythciddpljcbhiaa
