/- Queries of whole blocks: none is refused but as lost; steps of two blocks; rows by keys; letter by letter (no program). -/
import Derived.Test.YthciddpljcbhiaaDoc
namespace Go.Proofs.Ythciddpljcbhiaa

/-- What a right configuration holds. -/
theorem Cf.right_parts {c : Cf} (h : c.right = true) : 1 ≤ c.span ∧ c.span ≤ 100 ∧ 0 ≤ c.keep ∧ c.keep ≤ 19 ∧ 1 ≤ c.lvs.length ∧ c.lvs.length ≤ 4 ∧
    (∀ j, j < c.lvs.length → 1 ≤ (lvG c.lvs j).window ∧ c.span % (lvG c.lvs j).window = 0 ∧ ruleB (lvG c.lvs j).rule = true ∧ 1 ≤ (lvG c.lvs j).limit) := by
  simp only [Cf.right, rightB, Bool.and_eq_true, decide_eq_true_eq] at h
  obtain ⟨⟨⟨⟨⟨⟨⟨⟨h1, h2⟩, h3⟩, h4⟩, h5⟩, h6⟩, _⟩, h8⟩, h9⟩ := h
  refine ⟨h1, h2, h3, h4, h5, h6, fun j hj => ?_⟩
  have w := (okWin_iff _ _ _).1 (List.all_eq_true.1 h8 j (List.mem_range.2 hj))
  have s := (okSer_iff _ _).1 (List.all_eq_true.1 h9 j (List.mem_range.2 hj))
  exact ⟨w.1, w.2.2, s.1, s.2.1⟩
theorem Cf.lvl_lt {c : Cf} (h : c.right = true) (now t : Int) : c.lvl now t < c.lvs.length := lvlTo_lt _ _ _ (Cf.right_parts h).2.2.2.2.1

/-- The first block that is not expired; how many there are from there to that of the time. -/
def Cf.old (c : Cf) (now : Int) : Int := if now / c.span - c.keep < 0 then 0 else now / c.span - c.keep
def Cf.cnt (c : Cf) (now : Int) : Int := now / c.span + 1 - c.old now
theorem Cf.old_range {c : Cf} (h : c.right = true) {now : Int} (h0 : 0 ≤ now) : 0 ≤ c.old now ∧ c.old now ≤ now / c.span ∧ now / c.span - c.old now ≤ c.keep ∧ 1 ≤ c.cnt now ∧ c.cnt now ≤ 20 := by
  obtain ⟨h1, h2, h3, h4, _⟩ := Cf.right_parts h
  have hb : 0 ≤ now / c.span := Int.ediv_nonneg h0 (by omega)
  unfold Cf.cnt Cf.old
  split <;> omega

/-- A query of whole blocks, from block m on, n steps of k blocks. -/
structure WholeQ (c : Cf) (q : Qy) (m k n : Int) : Prop where
  fr : q.fr = m * c.span
  step : q.step = k * c.span
  to : q.to = q.fr + n * q.step
  m0 : 0 ≤ m
  k1 : 1 ≤ k
  n1 : 1 ≤ n
  n20 : n ≤ 20
  mt : q.mt.size = 3 ∧ mB (byt q.mt 0) = true ∧ mB (byt q.mt 1) = true ∧ mB (byt q.mt 2) = true
  gb : q.gb.size = 3 ∧ bB (byt q.gb 0) = true ∧ bB (byt q.gb 1) = true ∧ bB (byt q.gb 2) = true

theorem WholeQ.right {c : Cf} {q : Qy} {m k n now : Int} (h : WholeQ c q m k n) (hc : c.right = true) (hn : now ≤ 100000) (hto : q.to ≤ (now / c.span + 1) * c.span) : rightQ q = true := by
  obtain ⟨h1, h2, _⟩ := Cf.right_parts hc
  have hm : 0 ≤ m * c.span := Int.mul_nonneg h.m0 (by omega)
  have hs : 1 ≤ q.step := by
    have := Int.mul_le_mul_of_nonneg_right h.k1 (show (0 : Int) ≤ c.span by omega)
    rw [← h.step] at this; omega
  have hns : 1 ≤ n * q.step := by
    have := Int.mul_le_mul_of_nonneg_right h.n1 (show (0 : Int) ≤ q.step by omega)
    omega
  have hd : now / c.span * c.span ≤ now := Int.ediv_mul_le _ (by omega)
  have he : (now / c.span + 1) * c.span = now / c.span * c.span + c.span := by rw [Int.add_mul, Int.one_mul]
  have e1 : q.to - q.fr = n * q.step := by rw [h.to]; omega
  have e2 : (q.to - q.fr) % q.step = 0 := by rw [e1]; exact Int.mul_emod_left _ _
  have e3 : (q.to - q.fr) / q.step = n := by rw [e1]; exact Int.mul_ediv_cancel _ (by omega)
  have e4 := h.fr
  have e5 := h.to
  have e6 := h.n20
  obtain ⟨a0, a1, a2, a3⟩ := h.mt
  obtain ⟨b0, b1, b2, b3⟩ := h.gb
  unfold rightQ
  rw [e2, e3, a0, b0, a1, a2, a3, b1, b2, b3]
  simp only [Bool.and_eq_true, decide_eq_true_eq]
  refine ⟨⟨⟨⟨⟨⟨⟨⟨⟨?_, ?_⟩, ?_⟩, hs⟩, trivial⟩, trivial⟩, trivial⟩, e6⟩, ⟨trivial, trivial⟩, trivial⟩, ⟨trivial, trivial⟩, trivial⟩ <;> omega

theorem WholeQ.age {c : Cf} {q : Qy} {m k n now : Int} (h : WholeQ c q m k n) (hc : c.right = true) (hm : now / c.span - m ≤ c.keep) : ¬ c.keep < c.age now q.fr := by
  obtain ⟨h1, _⟩ := Cf.right_parts hc
  unfold Cf.age
  rw [h.fr, Int.mul_ediv_cancel _ (by omega)]
  omega
theorem mul_emod_zero {a b w : Int} (h : b % w = 0) : (a * b) % w = 0 := by
  rw [Int.mul_emod, h, Int.mul_zero, Int.zero_emod]
theorem WholeQ.win {c : Cf} {q : Qy} {m k n : Int} (h : WholeQ c q m k n) (hc : c.right = true) (now : Int) : (blocks c q).any (winAt c now q) = false := by
  rw [List.any_eq_false]
  intro b _
  have hw := ((Cf.right_parts hc).2.2.2.2.2.2 _ (Cf.lvl_lt hc now (b * c.span))).2.1
  unfold winAt
  rw [h.fr, h.step, mul_emod_zero hw, mul_emod_zero hw]
  decide
/-- A query of whole blocks is refused at most as lost. -/
theorem WholeQ.err {c : Cf} {q : Qy} {m k n now : Int} (h : WholeQ c q m k n) (hc : c.right = true) (hn : now ≤ 100000) (hto : q.to ≤ (now / c.span + 1) * c.span) (hm : now / c.span - m ≤ c.keep) :
    qE c now q = if (blocks c q).any (lostAt c now q) then 11 else 0 := by
  unfold qE
  rw [h.right hc hn hto, h.win hc now, if_neg (by simp), if_neg (h.age hc hm)]
  simp
theorem lost_not {q : Qy} (h : ∀ i, i < 3 → namedB q i = false) (c : Cf) (now : Int) : (blocks c q).any (lostAt c now q) = false := by
  rw [List.any_eq_false]
  intro b _
  have : lostAt c now q b = false := by
    unfold lostAt
    rw [List.any_eq_false]
    intro j _
    simp [lostB, lostK, h 0, h 1, h 2]
  simp [this]
/-- Where all keys are kept at all levels nothing is lost. -/
theorem lost_kept {c : Cf} (hc : c.right = true) (hk : ∀ j, j < c.lvs.length → ∀ i, i < 3 → byt (lvG c.lvs j).rule i = 107) (q : Qy) (now : Int) : (blocks c q).any (lostAt c now q) = false := by
  rw [List.any_eq_false]
  intro b _
  have : lostAt c now q b = false := by
    unfold lostAt
    rw [List.any_eq_false]
    intro j hj
    have hj' : j < c.lvs.length := by
      have := List.mem_range.1 hj
      have := Cf.lvl_lt hc now (b * c.span)
      omega
    simp [lostB, lostK, hk j hj' 0, hk j hj' 1, hk j hj' 2]
  simp [this]

/-- What the values of those that a test takes come to. -/
def agIf {α : Type} (f : α → Int) (p : α → Bool) (l : List α) : Option Ag := agOf ((l.filter p).map f)
theorem agIf_cons {α : Type} (f : α → Int) (p : α → Bool) (x : α) (l : List α) : agIf f p (x :: l) = if p x then oj (some (.one (f x))) (agIf f p l) else agIf f p l := by
  unfold agIf
  rw [List.filter_cons]
  cases hp : p x <;> rfl
theorem agIf_split {α : Type} (f : α → Int) (p q : α → Bool) (l : List α) : agIf f p l = oj (agIf f (fun x => p x && q x) l) (agIf f (fun x => p x && !q x) l) := by
  induction l with
  | nil => rfl
  | cons x l ih =>
    rw [agIf_cons, agIf_cons, agIf_cons, ih]
    cases hp : p x <;> cases hq : q x <;> simp [oj_assoc, oj_left_comm]
theorem agIf_congr {α : Type} (f : α → Int) {p q : α → Bool} {l : List α} (h : ∀ x ∈ l, p x = q x) : agIf f p l = agIf f q l := by
  unfold agIf; rw [List.filter_congr h]
theorem agIf_false {α : Type} (f : α → Int) {p : α → Bool} {l : List α} (h : ∀ x ∈ l, p x = false) : agIf f p l = none := by
  unfold agIf
  rw [List.filter_eq_nil_iff.2 (fun x hx => by rw [h x hx]; simp)]
  rfl

/-- COARSER: a step of two blocks is two steps of one. -/
theorem stepVals_two {q q2 : Qy} (hf : q2.fr = q.fr) (ht : q2.to = q.to) (hs : q2.step = 2 * q.step) (h1 : 1 ≤ q.step) (l : List Sm) (i : Int) :
    agOf (stepVals q2 l fun j => decide (j = i)) = oj (agOf (stepVals q l fun j => decide (j = 2 * i))) (agOf (stepVals q l fun j => decide (j = 2 * i + 1))) := by
  have hst : ∀ t, stepOf q2 t = stepOf q t / 2 := by
    intro t
    unfold stepOf
    rw [hf, hs, Int.mul_comm 2, Int.ediv_ediv_of_nonneg (by omega)]
  have hin : ∀ t, inQ q2 t = inQ q t := by intro t; unfold inQ; rw [hf, ht]
  show agIf _ _ l = oj (agIf _ _ l) (agIf _ _ l)
  rw [agIf_split _ _ (fun x => decide (stepOf q x.time = 2 * i))]
  congr 1
  · refine agIf_congr _ fun x _ => ?_
    rw [hst, hin]
    generalize stepOf q x.time = j
    by_cases h2 : j = 2 * i
    · simp [h2]
    · simp [h2]
  · refine agIf_congr _ fun x _ => ?_
    rw [hst, hin]
    generalize stepOf q x.time = j
    by_cases h2 : j = 2 * i
    · have e : ¬ 2 * i = 2 * i + 1 := by omega
      simp [h2, e]
    · by_cases h3 : j = 2 * i + 1
      · have e' : (2 * i + 1) / 2 = i := by omega
        have e2 : ¬ 2 * i + 1 = 2 * i := by omega
        simp [h3, e', e2]
      · have e : ¬ j / 2 = i := by omega
        simp [e, h3]

end Go.Proofs.Ythciddpljcbhiaa
