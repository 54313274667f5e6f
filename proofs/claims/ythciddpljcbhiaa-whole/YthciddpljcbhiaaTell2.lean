/- Letter by letter; and where few labels were written, none is left out (no program). -/
import Derived.Test.YthciddpljcbhiaaTell
namespace Go.Proofs.Ythciddpljcbhiaa

/-! Every series is labels, or what was not admitted. -/
def okS (s : Lb) : Prop := s = over ∨ lab3 s.a s.b s.c = true
theorem prjB_lab {r b : Int} (h : labB b = true) : labB (prjB r b) = true := by
  unfold prjB
  split
  · unfold grpB
    split
    · rfl
    · split <;> rfl
  · split
    · rfl
    · exact h
theorem madeL_lab {r : ByteArray} {l : Lb} (h : lab3 l.a l.b l.c = true) : lab3 (madeL r l).a (madeL r l).b (madeL r l).c = true := by
  simp only [lab3, Bool.and_eq_true] at h ⊢
  exact ⟨⟨prjB_lab h.1.1, prjB_lab h.1.2⟩, prjB_lab h.2⟩
theorem lab_not_over {l : Lb} (h : lab3 l.a l.b l.c = true) : l ≠ over := by
  rintro rfl
  exact absurd h (by decide)
theorem serAt_ok {lv : Lv} {adm : List Lb} {now : Lb} (h : okS now) : okS (serAt lv adm now) := by
  unfold serAt
  split
  · exact .inl rfl
  · next hne =>
    split
    · exact .inr (madeL_lab (h.resolve_left hne))
    · exact .inl rfl
theorem serOf_ok (lvs : List Lv) : ∀ A now, okS now → ∀ s ∈ serOf lvs A now, okS s := by
  induction lvs with
  | nil => intro A now _ s hs; cases hs
  | cons lv lvs ih =>
    intro A now h s hs
    rw [serOf_cons] at hs
    rcases List.mem_cons.1 hs with rfl | hs
    · exact serAt_ok h
    · exact ih _ _ (serAt_ok h) s hs
theorem getD_mem_or {α : Type} (l : List α) (j : Nat) (d : α) : l.getD j d ∈ l ∨ l.getD j d = d := by
  rw [List.getD_eq_getElem?_getD]
  by_cases h : j < l.length
  · left; rw [List.getElem?_eq_getElem h]; exact List.getElem_mem _
  · right; rw [List.getElem?_eq_none (by omega)]; rfl
theorem at_ok (s : St) {x : Sm} (h : lab3 x.l0 x.l1 x.l2 = true) : okS (s.at x) := by
  rcases getD_mem_or (serOf s.c.lvs s.adm x.lb) (s.c.lvl s.now x.time) over with h' | h'
  · exact serOf_ok _ _ _ (.inr h) _ h'
  · exact .inl h'

/-! What the rows of keys that a test takes come to, by the samples. -/
def keyP (q : Qy) (ser : Sm → Lb) (P : Key → Bool) (x : Sm) : Bool := match kv1 q ser x with | some p => P p.1 | none => false
theorem kv_vals (q : Qy) (ser : Sm → Lb) (P : Key → Bool) (l : List Sm) : agOf (valsIf P (kvOf q ser l)) = agIf (·.value) (keyP q ser P) l := by
  induction l with
  | nil => rfl
  | cons x l ih =>
    rw [agIf_cons, ← ih]
    unfold kvOf
    rw [List.filterMap_cons]
    unfold keyP kv1
    by_cases hi : inQ q x.time = true
    · rw [if_pos hi]
      cases hg : grpOf q (ser x) with
      | none => simp
      | some g =>
        simp only [Option.map_some, valsIf_cons]
        split <;> rfl
    · rw [if_neg hi]; simp
/-- The rows of a query whose keys a test takes, put together. -/
theorem rows_if (s : St) (q : Qy) (P : Key → Bool) : agRows ((s.rows q).filter fun r => P r.key) = agIf (·.value) (keyP q s.at P) s.l := by
  rw [← kv_vals]
  exact (rowsOf_is (kvOf q s.at s.l)).joined P

def isOver (k : Key) : Bool := decide (k.g0 = 42 ∧ k.g1 = 42 ∧ k.g2 = 42)
def noBy (q : Qy) : Prop := byt q.gb 0 = 48 ∧ byt q.gb 1 = 48 ∧ byt q.gb 2 = 48
theorem lb_ext {a b : Lb} (h0 : a.a = b.a) (h1 : a.b = b.b) (h2 : a.c = b.c) : a = b := by cases a; cases b; simp_all
/-- Of a letter at the first key: the rows of what was admitted. -/
theorem keyP_letter {q : Qy} {w : Int} (hw : byt q.mt 0 = w) (hw' : w ≠ 46) (h1 : byt q.mt 1 = 46) (h2 : byt q.mt 2 = 46) (hb : noBy q) (ser : Sm → Lb) (i : Int) (x : Sm) :
    keyP q ser (fun k => decide (k.st = i) && !isOver k) x = (inQ q x.time && decide (stepOf q x.time = i) && !decide (ser x = over) && decide ((ser x).a = w)) := by
  obtain ⟨b0, b1, b2⟩ := hb
  unfold keyP kv1 grpOf
  by_cases hi : inQ q x.time = true
  · rw [if_pos hi]
    by_cases ho : ser x = over
    · simp [ho, isOver, over]
    · rw [if_neg ho]
      by_cases hm : (ser x).a = w
      · simp [mOk, hw, hm, h1, h2, hi, ho, gB, b0, b1, b2, isOver]
      · have hm' : ¬ w = (ser x).a := fun e => hm e.symm
        simp [mOk, hw, hw', hm, hm']
  · have hi' : inQ q x.time = false := by simpa using hi
    simp [hi']
/-- The rows of what was not admitted, whatever Match says. -/
theorem keyP_over {q : Qy} (hb : noBy q) (ser : Sm → Lb) (i : Int) (x : Sm) :
    keyP q ser (fun k => decide (k.st = i) && isOver k) x = (inQ q x.time && decide (stepOf q x.time = i) && decide (ser x = over)) := by
  obtain ⟨b0, b1, b2⟩ := hb
  unfold keyP kv1 grpOf
  by_cases hi : inQ q x.time = true
  · rw [if_pos hi]
    by_cases ho : ser x = over
    · simp [ho, isOver, over, hi]
    · rw [if_neg ho]
      by_cases hm : (mOk (byt q.mt 0) (ser x).a && mOk (byt q.mt 1) (ser x).b && mOk (byt q.mt 2) (ser x).c) = true
      · rw [if_pos hm]
        simp [gB, b0, b1, b2, isOver, ho]
      · rw [if_neg hm]
        simp [ho]
  · have hi' : inQ q x.time = false := by simpa using hi
    simp [hi']

/-- Letter by letter, once each. -/
theorem agIf_ways (p : Sm → Bool) (f : Sm → Int) (l : List Sm) : ∀ W : List Int, W.Nodup → agIf (·.value) (fun x => p x && decide (f x ∈ W)) l = W.foldr (fun w a => oj (agIf (·.value) (fun x => p x && decide (f x = w)) l) a) none
  | [], _ => by
    rw [List.foldr_nil]
    exact agIf_false _ (fun x _ => by simp)
  | w :: W, h => by
    obtain ⟨h1, h2⟩ := List.nodup_cons.1 h
    rw [List.foldr_cons, ← agIf_ways p f l W h2, agIf_split _ _ (fun x => decide (f x = w))]
    congr 1
    · refine agIf_congr _ fun x _ => ?_
      by_cases e : f x = w
      · simp [e]
      · simp [e]
    · refine agIf_congr _ fun x _ => ?_
      by_cases e : f x = w
      · simp [e, h1]
      · simp [e]
def ways : List Int := [97, 98, 99, 100, 101, 102, 103, 104, 105, 106, 107, 108, 109, 110, 111, 112, 113, 114, 115, 116, 117, 118, 119, 120, 121, 122, 45]
theorem lab_ways {b : Int} (h : labB b = true) : b ∈ ways := by
  simp [labB, letB] at h
  simp [ways]
  omega
theorem ways_nodup : ways.Nodup := by decide
theorem ways_dot : ∀ w ∈ ways, w ≠ 46 := by decide
/-- MATCHED: all samples of a step are those that were not admitted, and those of each letter. -/
theorem matched_all (s : St) (hl : ∀ x ∈ s.l, lab3 x.l0 x.l1 x.l2 = true) (p : Sm → Bool) :
    agIf (·.value) p s.l = oj (agIf (·.value) (fun x => p x && decide (s.at x = over)) s.l) (ways.foldr (fun w a => oj (agIf (·.value) (fun x => p x && !decide (s.at x = over) && decide ((s.at x).a = w)) s.l) a) none) := by
  rw [agIf_split _ _ (fun x => decide (s.at x = over)), ← agIf_ways (fun x => p x && !decide (s.at x = over)) (fun x => (s.at x).a) s.l ways ways_nodup]
  congr 1
  refine agIf_congr _ fun x hx => ?_
  by_cases ho : s.at x = over
  · simp [ho]
  · have h := (at_ok s (hl x hx)).resolve_left ho
    simp only [lab3, Bool.and_eq_true] at h
    simp [lab_ways h.1.1]

/-! ROOMY. -/
theorem nodup_le : ∀ {xs ys : List Lb}, xs.Nodup → (∀ x ∈ xs, x ∈ ys) → xs.length ≤ ys.length
  | [], _, _, _ => Nat.zero_le _
  | x :: xs, ys, h, hs => by
    obtain ⟨h1, h2⟩ := List.nodup_cons.1 h
    have hx := hs x (by simp)
    have := nodup_le (ys := ys.erase x) h2 fun y hy => by
      have hne : y ≠ x := fun e => by subst e; exact h1 hy
      exact (List.mem_erase_of_ne hne).2 (hs y (List.mem_cons_of_mem _ hy))
    rw [List.length_erase_of_mem hx] at this
    have : 0 < ys.length := List.length_pos_of_mem hx
    simp only [List.length_cons]
    omega
/-- All that is admitted comes of the labels that were seen. -/
def Roomed : List Lv → List (List Lb) → (Lb → Lb) → List Lb → Prop
  | [], _, _, _ => True
  | lv :: lvs, A, f, seen => (A.headD []).Nodup ∧ (∀ y ∈ A.headD [], ∃ x ∈ seen, y = madeL lv.rule (f x)) ∧ Roomed lvs A.tail (fun x => madeL lv.rule (f x)) seen
theorem roomed_nil (lvs : List Lv) : ∀ f seen, Roomed lvs [] f seen := by
  induction lvs with
  | nil => intro f seen; trivial
  | cons lv lvs ih => intro f seen; exact ⟨by simp, by simp, ih _ _⟩
theorem roomed_row (lvs : List Lv) : ∀ (A : List (List Lb)) (f : Lb → Lb) (seen : List Lb), Roomed lvs A f seen → (∀ lv ∈ lvs, (seen.length : Int) ≤ lv.limit) → ∀ x ∈ seen, lab3 (f x).a (f x).b (f x).c = true →
    Roomed lvs (admRow lvs A (f x)) f seen ∧ over ∉ serNow lvs A (f x) := by
  induction lvs with
  | nil => intro A f seen _ _ x _ _; exact ⟨trivial, by simp [serNow]⟩
  | cons lv lvs ih =>
    intro A f seen h hlim x hx hlab
    obtain ⟨g1, g2, g3⟩ := h
    have hne := lab_not_over hlab
    have hmade := madeL_lab (r := lv.rule) hlab
    have hmne := lab_not_over hmade
    have rest := ih A.tail (fun x => madeL lv.rule (f x)) seen g3 (fun l hl => hlim l (List.mem_cons_of_mem _ hl)) x hx hmade
    unfold admRow serNow
    rw [if_neg hne, if_neg hne]
    by_cases h1 : madeL lv.rule (f x) ∈ A.headD []
    · rw [if_pos h1, if_pos h1]
      refine ⟨⟨g1, g2, rest.1⟩, ?_⟩
      rw [List.mem_cons]
      rintro (e | e)
      · exact hmne e.symm
      · exact rest.2 e
    · have hnd : (A.headD [] ++ [madeL lv.rule (f x)]).Nodup := by
        rw [List.nodup_append]
        refine ⟨g1, by simp, fun a ha b hb => ?_⟩
        simp only [List.mem_singleton] at hb
        subst hb
        exact fun e => h1 (e ▸ ha)
      have hall : ∀ y ∈ A.headD [] ++ [madeL lv.rule (f x)], ∃ z ∈ seen, y = madeL lv.rule (f z) := by
        intro y hy
        rcases List.mem_append.1 hy with hy | hy
        · exact g2 y hy
        · simp only [List.mem_singleton] at hy
          exact ⟨x, hx, hy⟩
      have hle := nodup_le (ys := seen.map fun z => madeL lv.rule (f z)) hnd fun y hy => by
        obtain ⟨z, hz, e⟩ := hall y hy
        exact List.mem_map.2 ⟨z, hz, e.symm⟩
      simp only [List.length_append, List.length_singleton, List.length_map] at hle
      have hl := hlim lv (by simp)
      have h2 : ((A.headD []).length : Int) < lv.limit := by omega
      rw [if_neg h1, if_neg h1, if_pos h2, if_pos h2]
      refine ⟨⟨hnd, hall, rest.1⟩, ?_⟩
      rw [List.mem_cons]
      rintro (e | e)
      · exact hmne e.symm
      · exact rest.2 e
theorem roomed_all (lvs : List Lv) (seen : List Lb) (hlim : ∀ lv ∈ lvs, (seen.length : Int) ≤ lv.limit) (l : List Sm) : ∀ A, Roomed lvs A id seen → (∀ x ∈ l, x.lb ∈ seen ∧ lab3 x.l0 x.l1 x.l2 = true) → ∀ r ∈ serAll lvs A l, over ∉ r := by
  induction l with
  | nil => intro A _ _ r hr; cases hr
  | cons x l ih =>
    intro A h hx r hr
    obtain ⟨h1, h2⟩ := hx x (by simp)
    have := roomed_row lvs A id seen h hlim x.lb h1 h2
    rcases List.mem_cons.1 hr with rfl | hr
    · exact this.2
    · exact ih _ this.1 (fun y hy => hx y (List.mem_cons_of_mem _ hy)) r hr
/-- ROOMY: where no more labels were written than the least limit, every sample was admitted. -/
theorem roomy (s : St) (hc : s.c.right = true) (hl : ∀ x ∈ s.l, lab3 x.l0 x.l1 x.l2 = true) (seen : List Lb) (hseen : ∀ x ∈ s.l, x.lb ∈ seen) (hlim : ∀ lv ∈ s.c.lvs, (seen.length : Int) ≤ lv.limit) : ∀ x ∈ s.l, s.at x ≠ over := by
  intro x hx e
  have h := roomed_all s.c.lvs seen hlim s.l [] (roomed_nil _ _ _) (fun y hy => ⟨hseen y hy, hl y hy⟩)
  rw [serAll_eq] at h
  have hr := h (serOf s.c.lvs s.adm x.lb) (List.mem_map.2 ⟨x, hx, rfl⟩)
  have hj : s.c.lvl s.now x.time < (serOf s.c.lvs s.adm x.lb).length := by rw [serOf_len]; exact Cf.lvl_lt hc _ _
  apply hr
  have e2 : s.at x = (serOf s.c.lvs s.adm x.lb)[s.c.lvl s.now x.time] := by
    unfold St.at St.ser
    rw [List.getD_eq_getElem?_getD, List.getElem?_eq_getElem hj]
    rfl
  rw [← e, e2]
  exact List.getElem_mem _

end Go.Proofs.Ythciddpljcbhiaa
