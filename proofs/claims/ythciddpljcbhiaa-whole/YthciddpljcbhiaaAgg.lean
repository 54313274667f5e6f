/- Counts, sums, least and greatest of values, and rows of them by rising keys (no program). -/
import Derived.Test.YthciddpljcbhiaaSpec
namespace Go.Proofs.Ythciddpljcbhiaa

/-- Count, sum, least, greatest. -/
structure Ag where
  cnt : Int
  sum : Int
  mn : Int
  mx : Int
deriving DecidableEq

def Ag.one (v : Int) : Ag := ⟨1, v, v, v⟩
def Ag.join (a b : Ag) : Ag := ⟨a.cnt + b.cnt, a.sum + b.sum, min a.mn b.mn, max a.mx b.mx⟩
theorem Ag.join_assoc (a b c : Ag) : (a.join b).join c = a.join (b.join c) := by
  simp only [Ag.join, Ag.mk.injEq]; omega
theorem Ag.join_comm (a b : Ag) : a.join b = b.join a := by
  simp only [Ag.join, Ag.mk.injEq]; omega

/-- Joined, where there may be none. -/
def oj : Option Ag → Option Ag → Option Ag
  | none, b => b
  | a, none => a
  | some a, some b => some (a.join b)
@[simp] theorem oj_none_left (b : Option Ag) : oj none b = b := by cases b <;> rfl
@[simp] theorem oj_none_right (a : Option Ag) : oj a none = a := by cases a <;> rfl
theorem oj_assoc (a b c : Option Ag) : oj (oj a b) c = oj a (oj b c) := by
  cases a <;> cases b <;> cases c <;> simp [oj, Ag.join_assoc]
theorem oj_comm (a b : Option Ag) : oj a b = oj b a := by
  cases a <;> cases b <;> simp [oj, Ag.join_comm]
theorem oj_left_comm (a b c : Option Ag) : oj a (oj b c) = oj b (oj a c) := by
  rw [← oj_assoc, oj_comm a b, oj_assoc]

def agOf (l : List Int) : Option Ag := l.foldr (fun v a => oj (some (.one v)) a) none
@[simp] theorem agOf_nil : agOf [] = none := rfl
@[simp] theorem agOf_cons (v : Int) (l : List Int) : agOf (v :: l) = oj (some (.one v)) (agOf l) := rfl
theorem agOf_append (a b : List Int) : agOf (a ++ b) = oj (agOf a) (agOf b) := by
  induction a with
  | nil => simp
  | cons v a ih => simp [ih, oj_assoc]
theorem agOf_perm {a b : List Int} (h : a.Perm b) : agOf a = agOf b := by
  induction h with
  | nil => rfl
  | cons v _ ih => simp [ih]
  | swap v u l => simp [oj_left_comm]
  | trans _ _ h1 h2 => exact h1.trans h2
theorem oj_some_left (a : Ag) (b : Option Ag) : ∃ c, oj (some a) b = some c := by cases b <;> exact ⟨_, rfl⟩
theorem agOf_none {l : List Int} : agOf l = none ↔ l = [] := by
  cases l with
  | nil => simp
  | cons v l =>
    obtain ⟨c, hc⟩ := oj_some_left (.one v) (agOf l)
    simp [hc]
theorem oj_cnt {a b : Option Ag} (ha : ∀ x, a = some x → 1 ≤ x.cnt ∧ x.mn ≤ x.mx) (hb : ∀ x, b = some x → 1 ≤ x.cnt ∧ x.mn ≤ x.mx) : ∀ x, oj a b = some x → 1 ≤ x.cnt ∧ x.mn ≤ x.mx := by
  intro x hx
  cases a with
  | none => rw [oj_none_left] at hx; exact hb x hx
  | some a =>
    cases b with
    | none => exact ha x hx
    | some b =>
      have h1 := ha a rfl
      have h2 := hb b rfl
      simp only [oj, Option.some.injEq] at hx
      subst hx
      simp only [Ag.join]
      omega
theorem agOf_cnt (l : List Int) : ∀ x, agOf l = some x → 1 ≤ x.cnt ∧ x.mn ≤ x.mx := by
  induction l with
  | nil => intro x hx; cases hx
  | cons v l ih =>
    rw [agOf_cons]
    refine oj_cnt (fun x hx => ?_) ih
    simp only [Option.some.injEq] at hx
    subst hx
    simp [Ag.one]

/-! Keys: a step, and a group of three bytes. -/
structure Key where
  st : Int
  g0 : Int
  g1 : Int
  g2 : Int
deriving DecidableEq

def Key.lt (a b : Key) : Prop := a.st < b.st ∨ (a.st = b.st ∧ (a.g0 < b.g0 ∨ (a.g0 = b.g0 ∧ (a.g1 < b.g1 ∨ (a.g1 = b.g1 ∧ a.g2 < b.g2)))))
instance (a b : Key) : Decidable (a.lt b) := by unfold Key.lt; infer_instance
theorem Key.lt_irrefl (a : Key) : ¬ a.lt a := by unfold Key.lt; omega
theorem Key.lt_trans {a b c : Key} (h : a.lt b) (h' : b.lt c) : a.lt c := by unfold Key.lt at *; omega
theorem Key.lt_asymm {a b : Key} (h : a.lt b) : ¬ b.lt a := by unfold Key.lt at *; omega
theorem Key.ext' {a b : Key} (h0 : a.st = b.st) (h1 : a.g0 = b.g0) (h2 : a.g1 = b.g1) (h3 : a.g2 = b.g2) : a = b := by cases a; cases b; simp_all
theorem Key.tri (a b : Key) : a.lt b ∨ a = b ∨ b.lt a := by
  by_cases h : a = b
  · exact .inr (.inl h)
  · have : ¬ (a.st = b.st ∧ a.g0 = b.g0 ∧ a.g1 = b.g1 ∧ a.g2 = b.g2) := fun ⟨h0, h1, h2, h3⟩ => h (Key.ext' h0 h1 h2 h3)
    unfold Key.lt; omega

/-- A row. -/
structure Rw where
  key : Key
  ag : Ag
deriving DecidableEq

/-- The values of a key. -/
def valsOf (kv : List (Key × Int)) (k : Key) : List Int := (kv.filter fun p => decide (p.1 = k)).map (·.2)
theorem valsOf_append (a b : List (Key × Int)) (k : Key) : valsOf (a ++ b) k = valsOf a k ++ valsOf b k := by simp [valsOf]
theorem valsOf_one (k' : Key) (v : Int) (k : Key) : valsOf [(k', v)] k = if k' = k then [v] else [] := by
  unfold valsOf; by_cases h : k' = k <;> simp [h]

/-- Rows by rising keys, each the count, sum, least and greatest of its key's values; one for each key that has some. -/
structure IsRows (l : List Rw) (kv : List (Key × Int)) : Prop where
  up : l.Pairwise fun a b => a.key.lt b.key
  ag : ∀ r ∈ l, agOf (valsOf kv r.key) = some r.ag
  all : ∀ k, valsOf kv k ≠ [] → ∃ r ∈ l, r.key = k

theorem isRows_nil : IsRows [] [] := ⟨.nil, by simp, fun k h => absurd rfl h⟩

/-- Rows by rising keys that have the same rows are the same. -/
theorem rows_ext : ∀ {a b : List Rw}, a.Pairwise (fun x y => x.key.lt y.key) → b.Pairwise (fun x y => x.key.lt y.key) → (∀ r, r ∈ a ↔ r ∈ b) → a = b
  | [], [], _, _, _ => rfl
  | [], y :: b, _, _, h => absurd ((h y).2 (by simp)) (by simp)
  | x :: a, [], _, _, h => absurd ((h x).1 (by simp)) (by simp)
  | x :: a, y :: b, ha, hb, h => by
    obtain ⟨ha1, ha2⟩ := List.pairwise_cons.1 ha
    obtain ⟨hb1, hb2⟩ := List.pairwise_cons.1 hb
    have hxy : x = y := by
      rcases List.mem_cons.1 ((h x).1 (by simp)) with e | e
      · exact e
      · rcases List.mem_cons.1 ((h y).2 (by simp)) with e' | e'
        · exact e'.symm
        · exact absurd (hb1 x e) (Key.lt_asymm (ha1 y e'))
    subst hxy
    congr 1
    refine rows_ext ha2 hb2 fun r => ⟨fun hr => ?_, fun hr => ?_⟩
    · rcases List.mem_cons.1 ((h r).1 (List.mem_cons_of_mem _ hr)) with rfl | e
      · exact absurd (ha1 _ hr) (Key.lt_irrefl _)
      · exact e
    · rcases List.mem_cons.1 ((h r).2 (List.mem_cons_of_mem _ hr)) with rfl | e
      · exact absurd (hb1 _ hr) (Key.lt_irrefl _)
      · exact e
theorem IsRows.unique {a b : List Rw} {kv kv' : List (Key × Int)} (h : IsRows a kv) (h' : IsRows b kv') (hp : ∀ k, agOf (valsOf kv k) = agOf (valsOf kv' k)) : a = b := by
  have aux : ∀ {a b : List Rw} {kv kv' : List (Key × Int)}, IsRows a kv → IsRows b kv' → (∀ k, agOf (valsOf kv k) = agOf (valsOf kv' k)) → ∀ r, r ∈ a → r ∈ b := by
    intro a b kv kv' h h' hp r hr
    have hag := h.ag r hr
    rw [hp] at hag
    obtain ⟨s, hs, hk⟩ := h'.all r.key (fun e => by rw [e] at hag; cases hag)
    have := h'.ag s hs
    rw [hk, hag] at this
    have e : r = s := by cases r; cases s; simp_all
    exact e ▸ hs
  exact rows_ext h.up h'.up fun r => ⟨aux h h' hp r, aux h' h (fun k => (hp k).symm) r⟩

/-- A value joins the row of its key, or is a row of its own, in its place. -/
def addR : List Rw → Key → Int → List Rw
  | [], k, v => [⟨k, .one v⟩]
  | y :: l, k, v => if y.key = k then ⟨y.key, y.ag.join (.one v)⟩ :: l else if k.lt y.key then ⟨k, .one v⟩ :: y :: l else y :: addR l k v

theorem addR_keys {l : List Rw} {k : Key} {v : Int} {r : Rw} (hr : r ∈ addR l k v) : r.key = k ∨ r ∈ l := by
  induction l with
  | nil => simp [addR] at hr; exact .inl (by rw [hr])
  | cons y l ih =>
    unfold addR at hr
    split at hr
    · next h => rcases List.mem_cons.1 hr with rfl | h'
                · exact .inl h
                · exact .inr (List.mem_cons_of_mem _ h')
    · split at hr
      · rcases List.mem_cons.1 hr with rfl | h'
        · exact .inl rfl
        · exact .inr h'
      · rcases List.mem_cons.1 hr with rfl | h'
        · exact .inr (by simp)
        · exact (ih h').imp id (List.mem_cons_of_mem _)
theorem addR_up {l : List Rw} (h : l.Pairwise fun a b => a.key.lt b.key) (k : Key) (v : Int) : (addR l k v).Pairwise fun a b => a.key.lt b.key := by
  induction l with
  | nil => simp [addR]
  | cons y l ih =>
    obtain ⟨h1, h2⟩ := List.pairwise_cons.1 h
    unfold addR
    split
    · exact List.pairwise_cons.2 ⟨h1, h2⟩
    · next hne =>
      split
      · next hlt =>
        refine List.pairwise_cons.2 ⟨fun b hb => ?_, h⟩
        rcases List.mem_cons.1 hb with rfl | hb
        · exact hlt
        · exact Key.lt_trans hlt (h1 b hb)
      · next hnlt =>
        refine List.pairwise_cons.2 ⟨fun b hb => ?_, ih h2⟩
        rcases addR_keys hb with e | hb
        · rw [e]
          rcases Key.tri y.key k with h | h | h
          · exact h
          · exact absurd h hne
          · exact absurd h hnlt
        · exact h1 b hb
theorem addR_has (l : List Rw) (k : Key) (v : Int) : ∃ r ∈ addR l k v, r.key = k := by
  induction l with
  | nil => exact ⟨⟨k, .one v⟩, by simp [addR], rfl⟩
  | cons y l ih =>
    unfold addR
    split
    · next h => exact ⟨⟨y.key, y.ag.join (.one v)⟩, by simp, h⟩
    · split
      · exact ⟨⟨k, .one v⟩, by simp, rfl⟩
      · obtain ⟨r, hr, e⟩ := ih; exact ⟨r, List.mem_cons_of_mem _ hr, e⟩
theorem addR_keep {l : List Rw} {k : Key} {v : Int} {r : Rw} (hr : r ∈ l) (hk : r.key ≠ k) : r ∈ addR l k v := by
  induction l with
  | nil => cases hr
  | cons y l ih =>
    unfold addR
    split
    · next h =>
      rcases List.mem_cons.1 hr with rfl | hr
      · exact absurd h hk
      · exact List.mem_cons_of_mem _ hr
    · split
      · exact List.mem_cons_of_mem _ hr
      · rcases List.mem_cons.1 hr with rfl | hr
        · simp
        · exact List.mem_cons_of_mem _ (ih hr)
/-- What the row of the key holds. -/
theorem addR_own {l : List Rw} (h : l.Pairwise fun a b => a.key.lt b.key) {k : Key} {v : Int} {r : Rw} (hr : r ∈ addR l k v) (hk : r.key = k) :
    (∃ y ∈ l, y.key = k ∧ r.ag = y.ag.join (.one v)) ∨ ((∀ y ∈ l, y.key ≠ k) ∧ r.ag = .one v) := by
  induction l with
  | nil => simp [addR] at hr; subst hr; exact .inr ⟨by simp, rfl⟩
  | cons y l ih =>
    obtain ⟨h1, h2⟩ := List.pairwise_cons.1 h
    unfold addR at hr
    split at hr
    · next he =>
      rcases List.mem_cons.1 hr with rfl | hr
      · exact .inl ⟨y, by simp, he, rfl⟩
      · exact absurd (h1 r hr) (by rw [he, hk]; exact Key.lt_irrefl _)
    · next hne =>
      split at hr
      · next hlt =>
        rcases List.mem_cons.1 hr with rfl | hr
        · refine .inr ⟨fun z hz e => ?_, rfl⟩
          rcases List.mem_cons.1 hz with rfl | hz
          · exact hne e
          · have := h1 z hz; rw [e] at this; exact Key.lt_asymm hlt this
        · rcases List.mem_cons.1 hr with rfl | hr
          · exact absurd hk hne
          · have := h1 r hr; rw [hk] at this; exact absurd hlt (Key.lt_asymm this)
      · rcases List.mem_cons.1 hr with rfl | hr
        · exact absurd hk hne
        · rcases ih h2 hr with ⟨z, hz, e, e'⟩ | ⟨hno, e'⟩
          · exact .inl ⟨z, List.mem_cons_of_mem _ hz, e, e'⟩
          · refine .inr ⟨fun z hz e => ?_, e'⟩
            rcases List.mem_cons.1 hz with rfl | hz
            · exact hne e
            · exact hno z hz e
theorem IsRows.add {l : List Rw} {kv : List (Key × Int)} (h : IsRows l kv) (k : Key) (v : Int) : IsRows (addR l k v) (kv ++ [(k, v)]) := by
  refine ⟨addR_up h.up k v, fun r hr => ?_, fun k' hk' => ?_⟩
  · rw [valsOf_append, valsOf_one, agOf_append]
    by_cases e : r.key = k
    · rw [if_pos e.symm]
      rcases addR_own h.up hr e with ⟨y, hy, hyk, hag⟩ | ⟨hno, hag⟩
      · have := h.ag y hy
        rw [hyk] at this
        rw [e, this, hag]
        rfl
      · have : agOf (valsOf kv r.key) = none := by
          rw [agOf_none]
          apply Classical.byContradiction
          intro hne
          obtain ⟨y, hy, hyk⟩ := h.all _ hne
          exact hno y hy (hyk.trans e)
        rw [this, hag]
        rfl
    · rw [if_neg (fun h => e h.symm), agOf_nil, oj_none_right]
      exact h.ag r ((addR_keys hr).resolve_left e)
  · by_cases e : k' = k
    · obtain ⟨r, hr, hk⟩ := addR_has l k v
      exact ⟨r, hr, hk.trans e.symm⟩
    · rw [valsOf_append, valsOf_one, if_neg (fun h => e h.symm), List.append_nil] at hk'
      obtain ⟨r, hr, hk⟩ := h.all k' hk'
      exact ⟨r, addR_keep hr (by rw [hk]; exact e), hk⟩

end Go.Proofs.Ythciddpljcbhiaa
