/- Rows put together again: by any test on their keys; cells put together to rows (no program). -/
import Derived.Test.YthciddpljcbhiaaAgg
namespace Go.Proofs.Ythciddpljcbhiaa

/-- The values of the keys that a test takes. -/
def valsIf (p : Key → Bool) (kv : List (Key × Int)) : List Int := (kv.filter fun x => p x.1).map (·.2)
def agRows (l : List Rw) : Option Ag := l.foldr (fun r a => oj (some r.ag) a) none
@[simp] theorem agRows_nil : agRows [] = none := rfl
@[simp] theorem agRows_cons (r : Rw) (l : List Rw) : agRows (r :: l) = oj (some r.ag) (agRows l) := rfl

theorem valsIf_cons (p : Key → Bool) (x : Key × Int) (kv : List (Key × Int)) : valsIf p (x :: kv) = if p x.1 then x.2 :: valsIf p kv else valsIf p kv := by
  unfold valsIf; by_cases h : p x.1 <;> simp [h]
theorem agOf_split (p q : Key → Bool) (kv : List (Key × Int)) : agOf (valsIf p kv) = oj (agOf (valsIf (fun k => p k && q k) kv)) (agOf (valsIf (fun k => p k && !q k) kv)) := by
  induction kv with
  | nil => rfl
  | cons x kv ih =>
    rw [valsIf_cons, valsIf_cons, valsIf_cons]
    cases hp : p x.1 <;> cases hq : q x.1 <;> simp [ih, oj_assoc, oj_left_comm]
theorem valsIf_congr {p q : Key → Bool} {kv : List (Key × Int)} (h : ∀ x ∈ kv, p x.1 = q x.1) : valsIf p kv = valsIf q kv := by
  unfold valsIf
  congr 1
  exact List.filter_congr h
theorem valsOf_if (kv : List (Key × Int)) (k : Key) : valsOf kv k = valsIf (fun k' => decide (k' = k)) kv := rfl
theorem valsIf_filter (p q : Key → Bool) (kv : List (Key × Int)) : valsIf p (kv.filter fun x => q x.1) = valsIf (fun k => p k && q k) kv := by
  unfold valsIf; rw [List.filter_filter]

/-- The rows without the first one are rows of what has not its key. -/
theorem IsRows.rest {r : Rw} {l : List Rw} {kv : List (Key × Int)} (h : IsRows (r :: l) kv) : IsRows l (kv.filter fun x => !decide (x.1 = r.key)) := by
  obtain ⟨h1, h2⟩ := List.pairwise_cons.1 h.up
  have e : ∀ k, k ≠ r.key → valsOf (kv.filter fun x => !decide (x.1 = r.key)) k = valsOf kv k := by
    intro k hk
    rw [valsOf_if, valsOf_if, valsIf_filter (fun k' => decide (k' = k)) (fun k' => !decide (k' = r.key))]
    refine valsIf_congr fun x _ => ?_
    by_cases hx : x.1 = k
    · simp [hx, hk]
    · simp [hx]
  have e0 : valsOf (kv.filter fun x => !decide (x.1 = r.key)) r.key = [] := by
    rw [valsOf_if, valsIf_filter (fun k' => decide (k' = r.key)) (fun k' => !decide (k' = r.key))]
    unfold valsIf
    simp
  refine ⟨h2, fun s hs => ?_, fun k hk => ?_⟩
  · have hne : s.key ≠ r.key := fun he => by have := h1 s hs; rw [he] at this; exact Key.lt_irrefl _ this
    rw [e _ hne]
    exact h.ag s (List.mem_cons_of_mem _ hs)
  · have hne : k ≠ r.key := fun he => by rw [he, e0] at hk; exact hk rfl
    rw [e _ hne] at hk
    obtain ⟨s, hs, hsk⟩ := h.all k hk
    rcases List.mem_cons.1 hs with rfl | hs
    · exact absurd hsk.symm hne
    · exact ⟨s, hs, hsk⟩

/-- The rows whose keys a test takes, put together, are the values of these keys. -/
theorem IsRows.joined (p : Key → Bool) : ∀ {l : List Rw} {kv : List (Key × Int)}, IsRows l kv → agRows (l.filter fun r => p r.key) = agOf (valsIf p kv)
  | [], kv, h => by
    have : valsIf p kv = [] := by
      cases kv with
      | nil => rfl
      | cons x kv =>
        obtain ⟨r, hr, _⟩ := h.all x.1 (by simp [valsOf])
        cases hr
    simp [this]
  | r :: l, kv, h => by
    have ih := IsRows.joined p h.rest
    rw [valsIf_filter p (fun k => !decide (k = r.key))] at ih
    rw [agOf_split p (fun k => decide (k = r.key)) kv, ← ih]
    have hr := h.ag r (by simp)
    by_cases hp : p r.key = true
    · rw [List.filter_cons, if_pos hp, agRows_cons, ← hr]
      congr 2
      rw [valsOf_if]
      refine valsIf_congr fun x _ => ?_
      by_cases hx : x.1 = r.key
      · simp [hx, hp]
      · simp [hx]
    · rw [List.filter_cons, if_neg hp]
      have : valsIf (fun k => p k && decide (k = r.key)) kv = [] := by
        unfold valsIf
        rw [List.map_eq_nil_iff, List.filter_eq_nil_iff]
        intro x _ hx
        simp only [Bool.and_eq_true, decide_eq_true_eq] at hx
        rw [hx.2] at hx
        exact hp hx.1
      rw [this]
      simp

/-- A cell's values (it has some) join the row of its key, or are a row of their own, in its place. -/
def addC : List Rw → Key → Ag → List Rw
  | [], k, v => [⟨k, v⟩]
  | y :: l, k, v => if y.key = k then ⟨y.key, y.ag.join v⟩ :: l else if k.lt y.key then ⟨k, v⟩ :: y :: l else y :: addC l k v
theorem addC_keys {l : List Rw} {k : Key} {v : Ag} {r : Rw} (hr : r ∈ addC l k v) : r.key = k ∨ r ∈ l := by
  induction l with
  | nil => simp [addC] at hr; exact .inl (by rw [hr])
  | cons y l ih =>
    unfold addC at hr
    split at hr
    · next h => rcases List.mem_cons.1 hr with rfl | h'
                · exact .inl h
                · exact .inr (List.mem_cons_of_mem _ h')
    · split at hr
      · rcases List.mem_cons.1 hr with rfl | h'
        · exact .inl rfl
        · exact .inr h'
      · rcases List.mem_cons.1 hr with rfl | h'
        · exact .inr (by simp)
        · exact (ih h').imp id (List.mem_cons_of_mem _)
theorem addC_up {l : List Rw} (h : l.Pairwise fun a b => a.key.lt b.key) (k : Key) (v : Ag) : (addC l k v).Pairwise fun a b => a.key.lt b.key := by
  induction l with
  | nil => simp [addC]
  | cons y l ih =>
    obtain ⟨h1, h2⟩ := List.pairwise_cons.1 h
    unfold addC
    split
    · exact List.pairwise_cons.2 ⟨h1, h2⟩
    · next hne =>
      split
      · next hlt =>
        refine List.pairwise_cons.2 ⟨fun b hb => ?_, h⟩
        rcases List.mem_cons.1 hb with rfl | hb
        · exact hlt
        · exact Key.lt_trans hlt (h1 b hb)
      · next hnlt =>
        refine List.pairwise_cons.2 ⟨fun b hb => ?_, ih h2⟩
        rcases addC_keys hb with e | hb
        · rw [e]
          rcases Key.tri y.key k with h | h | h
          · exact h
          · exact absurd h hne
          · exact absurd h hnlt
        · exact h1 b hb

end Go.Proofs.Ythciddpljcbhiaa
