/- Texts of one claim put together: Spec, Agg, Join, Mem, LvSpec, RecSpec, SmSpec, Ser, Doc, Tell, Tell2, Pts, Tab, Cel, Own, Dsk, Stp. -/
import Derived.WalkKit
import Derived.WalkSmall
import Derived.Laws.CopyOwn
import Derived.Laws.MakeOwn
import Derived.Deep.Draws
import Derived.Laws.BytesArg
import Derived.Below
import Derived.Deep.RegionLaw

/- The plain functions that the walks of this seat answer by: letters, rules, labels, levels (no Go, no program). -/
namespace Go.Proofs.YthciddpljcbhiabGreatDoor

def letB (a : Int) : Bool := decide (97 ≤ a) && decide (a ≤ 122)
def labB (a : Int) : Bool := a == 45 || letB a
def rulB (a : Int) : Bool := a == 107 || a == 103 || a == 100
/-- Byte k of a string, as a number. -/
def byt (s : ByteArray) (k : Nat) : Int := (s.data.toList.getD k 0).toNat
theorem byt_eq (s : ByteArray) (k : Nat) (h : k < s.size) : ((s[k].toNat : Nat) : Int) = byt s k := by
  unfold byt
  have h' : k < s.data.size := h
  have : s[k] = s.data[k] := rfl
  rw [this, List.getD_eq_getElem?_getD, Array.getElem?_toList, Array.getElem?_eq_getElem h']
  rfl
theorem byt_range (s : ByteArray) (k : Nat) : 0 ≤ byt s k ∧ byt s k ≤ 255 := by
  unfold byt
  have := (s.data.toList.getD k 0).toNat_lt
  omega
def ruleB (s : ByteArray) : Bool := decide (s.size = 3) && rulB (byt s 0) && rulB (byt s 1) && rulB (byt s 2)
def lab3 (a b c : Int) : Bool := labB a && labB b && labB c
def grpB (b : Int) : Int := if b = 45 then 45 else if b ≤ 109 then 97 else 110
def prjB (r b : Int) : Int := if r = 103 then grpB b else if r = 100 then 45 else b

theorem ruleB_size {s : ByteArray} (h : ¬ s.size = 3) : ruleB s = false := by simp [ruleB, h]
theorem ruleB_true {s : ByteArray} (h : s.size = 3) (ha : ∀ j, j < 3 → rulB (byt s j) = true) : ruleB s = true := by
  simp [ruleB, h, ha 0, ha 1, ha 2]
theorem ruleB_false {s : ByteArray} (k : Nat) (hk : k < 3) (h : rulB (byt s k) = false) : ruleB s = false := by
  have : k = 0 ∨ k = 1 ∨ k = 2 := by omega
  rcases this with rfl | rfl | rfl <;> simp [ruleB, h]
theorem upto_succ {p : Nat → Prop} {k : Nat} (h : ∀ j, j < k → p j) (hk : p k) : ∀ j, j < k + 1 → p j := fun j hj => by
  by_cases e : j = k
  · subst e; exact hk
  · exact h j (by omega)

/-- One of three. -/
def tri (a b c : Int) (k : Nat) : Int := if k = 0 then a else if k = 1 then b else c
theorem lab3_true {a b c : Int} (h : ∀ j, j < 3 → labB (tri a b c j) = true) : lab3 a b c = true := by
  have h0 := h 0 (by omega); have h1 := h 1 (by omega); have h2 := h 2 (by omega)
  simp [tri] at h0 h1 h2
  simp [lab3, h0, h1, h2]
theorem lab3_false {a b c : Int} (k : Nat) (hk : k < 3) (h : labB (tri a b c k) = false) : lab3 a b c = false := by
  have : k = 0 ∨ k = 1 ∨ k = 2 := by omega
  rcases this with rfl | rfl | rfl <;> simp [tri] at h <;> simp [lab3, h]

/-- What Project answers: byte k, and the error. -/
def prX (s : ByteArray) (a b c : Int) (k : Nat) : Int := if ruleB s && lab3 a b c then prjB (byt s k) (tri a b c k) else 0
def prE (s : ByteArray) (a b c : Int) : Int := if ruleB s then (if lab3 a b c then 0 else 2) else 3

end Go.Proofs.YthciddpljcbhiabGreatDoor

/- Counts, sums, least and greatest of values, and rows of them by rising keys (no program). -/
namespace Go.Proofs.YthciddpljcbhiabGreatDoor

/-- Count, sum, least, greatest. -/
structure Ag where
  cnt : Int
  sum : Int
  mn : Int
  mx : Int
deriving DecidableEq

def Ag.one (v : Int) : Ag := ⟨1, v, v, v⟩
def Ag.join (a b : Ag) : Ag := ⟨a.cnt + b.cnt, a.sum + b.sum, min a.mn b.mn, max a.mx b.mx⟩
theorem Ag.join_assoc (a b c : Ag) : (a.join b).join c = a.join (b.join c) := by
  simp only [Ag.join, Ag.mk.injEq]; omega
theorem Ag.join_comm (a b : Ag) : a.join b = b.join a := by
  simp only [Ag.join, Ag.mk.injEq]; omega

/-- Joined, where there may be none. -/
def oj : Option Ag → Option Ag → Option Ag
  | none, b => b
  | a, none => a
  | some a, some b => some (a.join b)
@[simp] theorem oj_none_left (b : Option Ag) : oj none b = b := by cases b <;> rfl
@[simp] theorem oj_none_right (a : Option Ag) : oj a none = a := by cases a <;> rfl
theorem oj_assoc (a b c : Option Ag) : oj (oj a b) c = oj a (oj b c) := by
  cases a <;> cases b <;> cases c <;> simp [oj, Ag.join_assoc]
theorem oj_comm (a b : Option Ag) : oj a b = oj b a := by
  cases a <;> cases b <;> simp [oj, Ag.join_comm]
theorem oj_left_comm (a b c : Option Ag) : oj a (oj b c) = oj b (oj a c) := by
  rw [← oj_assoc, oj_comm a b, oj_assoc]

def agOf (l : List Int) : Option Ag := l.foldr (fun v a => oj (some (.one v)) a) none
@[simp] theorem agOf_nil : agOf [] = none := rfl
@[simp] theorem agOf_cons (v : Int) (l : List Int) : agOf (v :: l) = oj (some (.one v)) (agOf l) := rfl
theorem agOf_append (a b : List Int) : agOf (a ++ b) = oj (agOf a) (agOf b) := by
  induction a with
  | nil => simp
  | cons v a ih => simp [ih, oj_assoc]
theorem agOf_perm {a b : List Int} (h : a.Perm b) : agOf a = agOf b := by
  induction h with
  | nil => rfl
  | cons v _ ih => simp [ih]
  | swap v u l => simp [oj_left_comm]
  | trans _ _ h1 h2 => exact h1.trans h2
theorem oj_some_left (a : Ag) (b : Option Ag) : ∃ c, oj (some a) b = some c := by cases b <;> exact ⟨_, rfl⟩
theorem agOf_none {l : List Int} : agOf l = none ↔ l = [] := by
  cases l with
  | nil => simp
  | cons v l =>
    obtain ⟨c, hc⟩ := oj_some_left (.one v) (agOf l)
    simp [hc]
theorem oj_cnt {a b : Option Ag} (ha : ∀ x, a = some x → 1 ≤ x.cnt ∧ x.mn ≤ x.mx) (hb : ∀ x, b = some x → 1 ≤ x.cnt ∧ x.mn ≤ x.mx) : ∀ x, oj a b = some x → 1 ≤ x.cnt ∧ x.mn ≤ x.mx := by
  intro x hx
  cases a with
  | none => rw [oj_none_left] at hx; exact hb x hx
  | some a =>
    cases b with
    | none => exact ha x hx
    | some b =>
      have h1 := ha a rfl
      have h2 := hb b rfl
      simp only [oj, Option.some.injEq] at hx
      subst hx
      simp only [Ag.join]
      omega
theorem agOf_cnt (l : List Int) : ∀ x, agOf l = some x → 1 ≤ x.cnt ∧ x.mn ≤ x.mx := by
  induction l with
  | nil => intro x hx; cases hx
  | cons v l ih =>
    rw [agOf_cons]
    refine oj_cnt (fun x hx => ?_) ih
    simp only [Option.some.injEq] at hx
    subst hx
    simp [Ag.one]

/-! Keys: a step, and a group of three bytes. -/
structure Key where
  st : Int
  g0 : Int
  g1 : Int
  g2 : Int
deriving DecidableEq

def Key.lt (a b : Key) : Prop := a.st < b.st ∨ (a.st = b.st ∧ (a.g0 < b.g0 ∨ (a.g0 = b.g0 ∧ (a.g1 < b.g1 ∨ (a.g1 = b.g1 ∧ a.g2 < b.g2)))))
instance (a b : Key) : Decidable (a.lt b) := by unfold Key.lt; infer_instance
theorem Key.lt_irrefl (a : Key) : ¬ a.lt a := by unfold Key.lt; omega
theorem Key.lt_trans {a b c : Key} (h : a.lt b) (h' : b.lt c) : a.lt c := by unfold Key.lt at *; omega
theorem Key.lt_asymm {a b : Key} (h : a.lt b) : ¬ b.lt a := by unfold Key.lt at *; omega
theorem Key.ext' {a b : Key} (h0 : a.st = b.st) (h1 : a.g0 = b.g0) (h2 : a.g1 = b.g1) (h3 : a.g2 = b.g2) : a = b := by cases a; cases b; simp_all
theorem Key.tri (a b : Key) : a.lt b ∨ a = b ∨ b.lt a := by
  by_cases h : a = b
  · exact .inr (.inl h)
  · have : ¬ (a.st = b.st ∧ a.g0 = b.g0 ∧ a.g1 = b.g1 ∧ a.g2 = b.g2) := fun ⟨h0, h1, h2, h3⟩ => h (Key.ext' h0 h1 h2 h3)
    unfold Key.lt; omega

/-- A row. -/
structure Rw where
  key : Key
  ag : Ag
deriving DecidableEq

/-- The values of a key. -/
def valsOf (kv : List (Key × Int)) (k : Key) : List Int := (kv.filter fun p => decide (p.1 = k)).map (·.2)
theorem valsOf_append (a b : List (Key × Int)) (k : Key) : valsOf (a ++ b) k = valsOf a k ++ valsOf b k := by simp [valsOf]
theorem valsOf_one (k' : Key) (v : Int) (k : Key) : valsOf [(k', v)] k = if k' = k then [v] else [] := by
  unfold valsOf; by_cases h : k' = k <;> simp [h]

/-- Rows by rising keys, each the count, sum, least and greatest of its key's values; one for each key that has some. -/
structure IsRows (l : List Rw) (kv : List (Key × Int)) : Prop where
  up : l.Pairwise fun a b => a.key.lt b.key
  ag : ∀ r ∈ l, agOf (valsOf kv r.key) = some r.ag
  all : ∀ k, valsOf kv k ≠ [] → ∃ r ∈ l, r.key = k

theorem isRows_nil : IsRows [] [] := ⟨.nil, by simp, fun k h => absurd rfl h⟩

/-- Rows by rising keys that have the same rows are the same. -/
theorem rows_ext : ∀ {a b : List Rw}, a.Pairwise (fun x y => x.key.lt y.key) → b.Pairwise (fun x y => x.key.lt y.key) → (∀ r, r ∈ a ↔ r ∈ b) → a = b
  | [], [], _, _, _ => rfl
  | [], y :: b, _, _, h => absurd ((h y).2 (by simp)) (by simp)
  | x :: a, [], _, _, h => absurd ((h x).1 (by simp)) (by simp)
  | x :: a, y :: b, ha, hb, h => by
    obtain ⟨ha1, ha2⟩ := List.pairwise_cons.1 ha
    obtain ⟨hb1, hb2⟩ := List.pairwise_cons.1 hb
    have hxy : x = y := by
      rcases List.mem_cons.1 ((h x).1 (by simp)) with e | e
      · exact e
      · rcases List.mem_cons.1 ((h y).2 (by simp)) with e' | e'
        · exact e'.symm
        · exact absurd (hb1 x e) (Key.lt_asymm (ha1 y e'))
    subst hxy
    congr 1
    refine rows_ext ha2 hb2 fun r => ⟨fun hr => ?_, fun hr => ?_⟩
    · rcases List.mem_cons.1 ((h r).1 (List.mem_cons_of_mem _ hr)) with rfl | e
      · exact absurd (ha1 _ hr) (Key.lt_irrefl _)
      · exact e
    · rcases List.mem_cons.1 ((h r).2 (List.mem_cons_of_mem _ hr)) with rfl | e
      · exact absurd (hb1 _ hr) (Key.lt_irrefl _)
      · exact e
theorem IsRows.unique {a b : List Rw} {kv kv' : List (Key × Int)} (h : IsRows a kv) (h' : IsRows b kv') (hp : ∀ k, agOf (valsOf kv k) = agOf (valsOf kv' k)) : a = b := by
  have aux : ∀ {a b : List Rw} {kv kv' : List (Key × Int)}, IsRows a kv → IsRows b kv' → (∀ k, agOf (valsOf kv k) = agOf (valsOf kv' k)) → ∀ r, r ∈ a → r ∈ b := by
    intro a b kv kv' h h' hp r hr
    have hag := h.ag r hr
    rw [hp] at hag
    obtain ⟨s, hs, hk⟩ := h'.all r.key (fun e => by rw [e] at hag; cases hag)
    have := h'.ag s hs
    rw [hk, hag] at this
    have e : r = s := by cases r; cases s; simp_all
    exact e ▸ hs
  exact rows_ext h.up h'.up fun r => ⟨aux h h' hp r, aux h' h (fun k => (hp k).symm) r⟩

/-- A value joins the row of its key, or is a row of its own, in its place. -/
def addR : List Rw → Key → Int → List Rw
  | [], k, v => [⟨k, .one v⟩]
  | y :: l, k, v => if y.key = k then ⟨y.key, y.ag.join (.one v)⟩ :: l else if k.lt y.key then ⟨k, .one v⟩ :: y :: l else y :: addR l k v

theorem addR_keys {l : List Rw} {k : Key} {v : Int} {r : Rw} (hr : r ∈ addR l k v) : r.key = k ∨ r ∈ l := by
  induction l with
  | nil => simp [addR] at hr; exact .inl (by rw [hr])
  | cons y l ih =>
    unfold addR at hr
    split at hr
    · next h => rcases List.mem_cons.1 hr with rfl | h'
                · exact .inl h
                · exact .inr (List.mem_cons_of_mem _ h')
    · split at hr
      · rcases List.mem_cons.1 hr with rfl | h'
        · exact .inl rfl
        · exact .inr h'
      · rcases List.mem_cons.1 hr with rfl | h'
        · exact .inr (by simp)
        · exact (ih h').imp id (List.mem_cons_of_mem _)
theorem addR_up {l : List Rw} (h : l.Pairwise fun a b => a.key.lt b.key) (k : Key) (v : Int) : (addR l k v).Pairwise fun a b => a.key.lt b.key := by
  induction l with
  | nil => simp [addR]
  | cons y l ih =>
    obtain ⟨h1, h2⟩ := List.pairwise_cons.1 h
    unfold addR
    split
    · exact List.pairwise_cons.2 ⟨h1, h2⟩
    · next hne =>
      split
      · next hlt =>
        refine List.pairwise_cons.2 ⟨fun b hb => ?_, h⟩
        rcases List.mem_cons.1 hb with rfl | hb
        · exact hlt
        · exact Key.lt_trans hlt (h1 b hb)
      · next hnlt =>
        refine List.pairwise_cons.2 ⟨fun b hb => ?_, ih h2⟩
        rcases addR_keys hb with e | hb
        · rw [e]
          rcases Key.tri y.key k with h | h | h
          · exact h
          · exact absurd h hne
          · exact absurd h hnlt
        · exact h1 b hb
theorem addR_has (l : List Rw) (k : Key) (v : Int) : ∃ r ∈ addR l k v, r.key = k := by
  induction l with
  | nil => exact ⟨⟨k, .one v⟩, by simp [addR], rfl⟩
  | cons y l ih =>
    unfold addR
    split
    · next h => exact ⟨⟨y.key, y.ag.join (.one v)⟩, by simp, h⟩
    · split
      · exact ⟨⟨k, .one v⟩, by simp, rfl⟩
      · obtain ⟨r, hr, e⟩ := ih; exact ⟨r, List.mem_cons_of_mem _ hr, e⟩
theorem addR_keep {l : List Rw} {k : Key} {v : Int} {r : Rw} (hr : r ∈ l) (hk : r.key ≠ k) : r ∈ addR l k v := by
  induction l with
  | nil => cases hr
  | cons y l ih =>
    unfold addR
    split
    · next h =>
      rcases List.mem_cons.1 hr with rfl | hr
      · exact absurd h hk
      · exact List.mem_cons_of_mem _ hr
    · split
      · exact List.mem_cons_of_mem _ hr
      · rcases List.mem_cons.1 hr with rfl | hr
        · simp
        · exact List.mem_cons_of_mem _ (ih hr)
/-- What the row of the key holds. -/
theorem addR_own {l : List Rw} (h : l.Pairwise fun a b => a.key.lt b.key) {k : Key} {v : Int} {r : Rw} (hr : r ∈ addR l k v) (hk : r.key = k) :
    (∃ y ∈ l, y.key = k ∧ r.ag = y.ag.join (.one v)) ∨ ((∀ y ∈ l, y.key ≠ k) ∧ r.ag = .one v) := by
  induction l with
  | nil => simp [addR] at hr; subst hr; exact .inr ⟨by simp, rfl⟩
  | cons y l ih =>
    obtain ⟨h1, h2⟩ := List.pairwise_cons.1 h
    unfold addR at hr
    split at hr
    · next he =>
      rcases List.mem_cons.1 hr with rfl | hr
      · exact .inl ⟨y, by simp, he, rfl⟩
      · exact absurd (h1 r hr) (by rw [he, hk]; exact Key.lt_irrefl _)
    · next hne =>
      split at hr
      · next hlt =>
        rcases List.mem_cons.1 hr with rfl | hr
        · refine .inr ⟨fun z hz e => ?_, rfl⟩
          rcases List.mem_cons.1 hz with rfl | hz
          · exact hne e
          · have := h1 z hz; rw [e] at this; exact Key.lt_asymm hlt this
        · rcases List.mem_cons.1 hr with rfl | hr
          · exact absurd hk hne
          · have := h1 r hr; rw [hk] at this; exact absurd hlt (Key.lt_asymm this)
      · rcases List.mem_cons.1 hr with rfl | hr
        · exact absurd hk hne
        · rcases ih h2 hr with ⟨z, hz, e, e'⟩ | ⟨hno, e'⟩
          · exact .inl ⟨z, List.mem_cons_of_mem _ hz, e, e'⟩
          · refine .inr ⟨fun z hz e => ?_, e'⟩
            rcases List.mem_cons.1 hz with rfl | hz
            · exact hne e
            · exact hno z hz e
theorem IsRows.add {l : List Rw} {kv : List (Key × Int)} (h : IsRows l kv) (k : Key) (v : Int) : IsRows (addR l k v) (kv ++ [(k, v)]) := by
  refine ⟨addR_up h.up k v, fun r hr => ?_, fun k' hk' => ?_⟩
  · rw [valsOf_append, valsOf_one, agOf_append]
    by_cases e : r.key = k
    · rw [if_pos e.symm]
      rcases addR_own h.up hr e with ⟨y, hy, hyk, hag⟩ | ⟨hno, hag⟩
      · have := h.ag y hy
        rw [hyk] at this
        rw [e, this, hag]
        rfl
      · have : agOf (valsOf kv r.key) = none := by
          rw [agOf_none]
          apply Classical.byContradiction
          intro hne
          obtain ⟨y, hy, hyk⟩ := h.all _ hne
          exact hno y hy (hyk.trans e)
        rw [this, hag]
        rfl
    · rw [if_neg (fun h => e h.symm), agOf_nil, oj_none_right]
      exact h.ag r ((addR_keys hr).resolve_left e)
  · by_cases e : k' = k
    · obtain ⟨r, hr, hk⟩ := addR_has l k v
      exact ⟨r, hr, hk.trans e.symm⟩
    · rw [valsOf_append, valsOf_one, if_neg (fun h => e h.symm), List.append_nil] at hk'
      obtain ⟨r, hr, hk⟩ := h.all k' hk'
      exact ⟨r, addR_keep hr (by rw [hk]; exact e), hk⟩

end Go.Proofs.YthciddpljcbhiabGreatDoor

/- Rows put together again: by any test on their keys; cells put together to rows (no program). -/
namespace Go.Proofs.YthciddpljcbhiabGreatDoor

/-- The values of the keys that a test takes. -/
def valsIf (p : Key → Bool) (kv : List (Key × Int)) : List Int := (kv.filter fun x => p x.1).map (·.2)
def agRows (l : List Rw) : Option Ag := l.foldr (fun r a => oj (some r.ag) a) none
@[simp] theorem agRows_nil : agRows [] = none := rfl
@[simp] theorem agRows_cons (r : Rw) (l : List Rw) : agRows (r :: l) = oj (some r.ag) (agRows l) := rfl

theorem valsIf_cons (p : Key → Bool) (x : Key × Int) (kv : List (Key × Int)) : valsIf p (x :: kv) = if p x.1 then x.2 :: valsIf p kv else valsIf p kv := by
  unfold valsIf; by_cases h : p x.1 <;> simp [h]
theorem agOf_split (p q : Key → Bool) (kv : List (Key × Int)) : agOf (valsIf p kv) = oj (agOf (valsIf (fun k => p k && q k) kv)) (agOf (valsIf (fun k => p k && !q k) kv)) := by
  induction kv with
  | nil => rfl
  | cons x kv ih =>
    rw [valsIf_cons, valsIf_cons, valsIf_cons]
    cases hp : p x.1 <;> cases hq : q x.1 <;> simp [ih, oj_assoc, oj_left_comm]
theorem valsIf_congr {p q : Key → Bool} {kv : List (Key × Int)} (h : ∀ x ∈ kv, p x.1 = q x.1) : valsIf p kv = valsIf q kv := by
  unfold valsIf
  congr 1
  exact List.filter_congr h
theorem valsOf_if (kv : List (Key × Int)) (k : Key) : valsOf kv k = valsIf (fun k' => decide (k' = k)) kv := rfl
theorem valsIf_filter (p q : Key → Bool) (kv : List (Key × Int)) : valsIf p (kv.filter fun x => q x.1) = valsIf (fun k => p k && q k) kv := by
  unfold valsIf; rw [List.filter_filter]

/-- The rows without the first one are rows of what has not its key. -/
theorem IsRows.rest {r : Rw} {l : List Rw} {kv : List (Key × Int)} (h : IsRows (r :: l) kv) : IsRows l (kv.filter fun x => !decide (x.1 = r.key)) := by
  obtain ⟨h1, h2⟩ := List.pairwise_cons.1 h.up
  have e : ∀ k, k ≠ r.key → valsOf (kv.filter fun x => !decide (x.1 = r.key)) k = valsOf kv k := by
    intro k hk
    rw [valsOf_if, valsOf_if, valsIf_filter (fun k' => decide (k' = k)) (fun k' => !decide (k' = r.key))]
    refine valsIf_congr fun x _ => ?_
    by_cases hx : x.1 = k
    · simp [hx, hk]
    · simp [hx]
  have e0 : valsOf (kv.filter fun x => !decide (x.1 = r.key)) r.key = [] := by
    rw [valsOf_if, valsIf_filter (fun k' => decide (k' = r.key)) (fun k' => !decide (k' = r.key))]
    unfold valsIf
    simp
  refine ⟨h2, fun s hs => ?_, fun k hk => ?_⟩
  · have hne : s.key ≠ r.key := fun he => by have := h1 s hs; rw [he] at this; exact Key.lt_irrefl _ this
    rw [e _ hne]
    exact h.ag s (List.mem_cons_of_mem _ hs)
  · have hne : k ≠ r.key := fun he => by rw [he, e0] at hk; exact hk rfl
    rw [e _ hne] at hk
    obtain ⟨s, hs, hsk⟩ := h.all k hk
    rcases List.mem_cons.1 hs with rfl | hs
    · exact absurd hsk.symm hne
    · exact ⟨s, hs, hsk⟩

/-- The rows whose keys a test takes, put together, are the values of these keys. -/
theorem IsRows.joined (p : Key → Bool) : ∀ {l : List Rw} {kv : List (Key × Int)}, IsRows l kv → agRows (l.filter fun r => p r.key) = agOf (valsIf p kv)
  | [], kv, h => by
    have : valsIf p kv = [] := by
      cases kv with
      | nil => rfl
      | cons x kv =>
        obtain ⟨r, hr, _⟩ := h.all x.1 (by simp [valsOf])
        cases hr
    simp [this]
  | r :: l, kv, h => by
    have ih := IsRows.joined p h.rest
    rw [valsIf_filter p (fun k => !decide (k = r.key))] at ih
    rw [agOf_split p (fun k => decide (k = r.key)) kv, ← ih]
    have hr := h.ag r (by simp)
    by_cases hp : p r.key = true
    · rw [List.filter_cons, if_pos hp, agRows_cons, ← hr]
      congr 2
      rw [valsOf_if]
      refine valsIf_congr fun x _ => ?_
      by_cases hx : x.1 = r.key
      · simp [hx, hp]
      · simp [hx]
    · rw [List.filter_cons, if_neg hp]
      have : valsIf (fun k => p k && decide (k = r.key)) kv = [] := by
        unfold valsIf
        rw [List.map_eq_nil_iff, List.filter_eq_nil_iff]
        intro x _ hx
        simp only [Bool.and_eq_true, decide_eq_true_eq] at hx
        rw [hx.2] at hx
        exact hp hx.1
      rw [this]
      simp

/-- A cell's values (it has some) join the row of its key, or are a row of their own, in its place. -/
def addC : List Rw → Key → Ag → List Rw
  | [], k, v => [⟨k, v⟩]
  | y :: l, k, v => if y.key = k then ⟨y.key, y.ag.join v⟩ :: l else if k.lt y.key then ⟨k, v⟩ :: y :: l else y :: addC l k v
theorem addC_keys {l : List Rw} {k : Key} {v : Ag} {r : Rw} (hr : r ∈ addC l k v) : r.key = k ∨ r ∈ l := by
  induction l with
  | nil => simp [addC] at hr; exact .inl (by rw [hr])
  | cons y l ih =>
    unfold addC at hr
    split at hr
    · next h => rcases List.mem_cons.1 hr with rfl | h'
                · exact .inl h
                · exact .inr (List.mem_cons_of_mem _ h')
    · split at hr
      · rcases List.mem_cons.1 hr with rfl | h'
        · exact .inl rfl
        · exact .inr h'
      · rcases List.mem_cons.1 hr with rfl | h'
        · exact .inr (by simp)
        · exact (ih h').imp id (List.mem_cons_of_mem _)
theorem addC_up {l : List Rw} (h : l.Pairwise fun a b => a.key.lt b.key) (k : Key) (v : Ag) : (addC l k v).Pairwise fun a b => a.key.lt b.key := by
  induction l with
  | nil => simp [addC]
  | cons y l ih =>
    obtain ⟨h1, h2⟩ := List.pairwise_cons.1 h
    unfold addC
    split
    · exact List.pairwise_cons.2 ⟨h1, h2⟩
    · next hne =>
      split
      · next hlt =>
        refine List.pairwise_cons.2 ⟨fun b hb => ?_, h⟩
        rcases List.mem_cons.1 hb with rfl | hb
        · exact hlt
        · exact Key.lt_trans hlt (h1 b hb)
      · next hnlt =>
        refine List.pairwise_cons.2 ⟨fun b hb => ?_, ih h2⟩
        rcases addC_keys hb with e | hb
        · rw [e]
          rcases Key.tri y.key k with h | h | h
          · exact h
          · exact absurd h hne
          · exact absurd h hnlt
        · exact h1 b hb

end Go.Proofs.YthciddpljcbhiabGreatDoor

/- Rows of elements of several cells: copy, and what a block of cells holds (any program). -/
namespace Go.Proofs.YthciddpljcbhiabGreatDoor
open Go Go.RowKit

/-- copy of elements of 'sz' cells into a row that is known whole. -/
theorem run_copyN {P : Program} (w : World) (dT sT ty elem : TypeId) (sz g o dLen dCap : Nat) (a : Addr) (sLen sCap : Nat) (cur : Array Value) (t : TypeId) (cs : List Value)
    (hu : P.underlying dT = some (.slice elem)) (hs : (P.info? elem).map (·.size) = some sz)
    (hg : w.heap[g]? = some (.cells cur t (0, 0))) (hn : cs.length = Nat.min sLen dLen * sz)
    (hsrc : ∀ j v, cs[j]? = some v → w.cell? (a.add j) = some v) (hfit : o + cs.length ≤ cur.size) (h1 : ∀ v ∈ cs, v.oneCell' = true) :
    (Builtin.copy_ #[dT, sT] ty #[.slice (some ⟨g, o, none⟩) dLen dCap, .slice (some a) sLen sCap]).run P w =
      .ok (goInt (Nat.min sLen dLen)) (w.setRow g (cur.toList.take o ++ cs ++ cur.toList.drop (o + cs.length)).toArray) := by
  have hl := run_loadCells_list (P := P) w a cs hsrc
  have hst := run_storeCells_at P g o t cs 0 cur w hg (by simpa using hfit) h1
  cases hq : P.info? elem with
  | none => simp [hq] at hs
  | some i =>
    have hi : i.size = sz := by simpa [hq] using hs
    simp [Builtin.copy_, run_underlying hu, Builtin.lenOf, Builtin.firstCells, sizeOf, typeInfo, hq, hi, ← hn, hl, hst]

/-- copy of nothing. -/
theorem run_copyN_none {P : Program} (w : World) (dT sT ty elem : TypeId) (sz : Nat) (d a : Option Addr) (dLen dCap sLen sCap : Nat) (hu : P.underlying dT = some (.slice elem)) (hs : (P.info? elem).map (·.size) = some sz) (hn : Nat.min sLen dLen = 0) :
    (Builtin.copy_ #[dT, sT] ty #[.slice d dLen dCap, .slice a sLen sCap]).run P w = .ok (goInt 0) w := by
  cases hq : P.info? elem with
  | none => simp [hq] at hs
  | some i =>
    have hl : ∀ (x : Addr), (loadCells x 0).run P w = .ok #[] w := fun x => by simpa using run_loadCells_list (P := P) w x [] (by simp)
    cases d <;> cases a <;> simp [Builtin.copy_, run_underlying hu, Builtin.lenOf, Builtin.firstCells, sizeOf, typeInfo, hq, hn, storeCells, hl]

theorem setRow_alloc (X : World) (cur cs : Array Value) (t : TypeId) : (X.alloc (.cells cur t)).setRow X.heap.size cs = X.alloc (.cells cs t) := by
  unfold World.setRow World.alloc
  congr 1
  apply Array.ext
  · simp
  · intro k h1 h2
    simp only [Array.getElem_modify]
    split
    · rename_i hk; subst hk; simp
    · rename_i hk
      have : k < X.heap.size := by simp at h2; omega
      simp [Array.getElem_push, this]

/-- The cells of a list lie one behind the other from a place on. -/
def At (w : World) (b off : Nat) (C : List Value) : Prop := ∀ j v, C[j]? = some v → w.cell? ⟨b, off + j, none⟩ = some v

theorem at_block {w : World} {g : Nat} {C : List Value} {t : TypeId} {fr : Nat × Nat} (h : w.heap[g]? = some (.cells C.toArray t fr)) : At w g 0 C := by
  intro j v hj
  simp [World.cell?, h, hj]

theorem at_alloc_new (X : World) (C : List Value) (t : TypeId) : At (X.alloc (.cells C.toArray t)) X.heap.size 0 C :=
  at_block (fr := (0, 0)) (heap_alloc_new X _)

theorem At.below {w w' : World} {b off B : Nat} {C : List Value} (h : At w b off C) (hb : Below B w w') (hB : b < B) : At w' b off C :=
  fun j v hj => (hb.cell (p := ⟨b, off + j, none⟩) hB).trans (h j v hj)

theorem At.block {w : World} {b off : Nat} {C : List Value} (h : At w b off C) (hn : 0 < C.length) : b < w.heap.size :=
  World.block_lt_of_cell? w _ (h 0 C[0] (by simp))

theorem flat_length {α β : Type} (f : α → List β) (sz : Nat) (hf : ∀ a, (f a).length = sz) (l : List α) : (l.flatMap f).length = l.length * sz := by
  induction l with
  | nil => simp
  | cons a l ih => simp [ih, hf, Nat.add_mul]; omega

theorem flat_get {α β : Type} (f : α → List β) (sz : Nat) (hf : ∀ a, (f a).length = sz) (l : List α) (i j : Nat) (hj : j < sz) (hi : i < l.length) : (l.flatMap f)[i * sz + j]? = (f l[i])[j]? := by
  induction l generalizing i with
  | nil => simp at hi
  | cons a l ih =>
    cases i with
    | zero => simp [List.getElem?_append_left (show j < (f a).length by rw [hf]; exact hj)]
    | succ i =>
      have e : (i + 1) * sz + j = (f a).length + (i * sz + j) := by rw [hf, Nat.add_mul]; omega
      rw [List.flatMap_cons, e, List.getElem?_append_right (by omega), Nat.add_sub_cancel_left]
      simpa using ih i (by simpa using hi)

theorem flat_snoc {α β : Type} (f : α → List β) (l : List α) (a : α) : (l ++ [a]).flatMap f = l.flatMap f ++ f a := by simp

/-- A block of so many cells, none of them frozen. -/
def Row (w : World) (g m : Nat) : Prop := ∃ C : Array Value, C.size = m ∧ ∃ t, w.heap[g]? = some (.cells C t (0, 0))

theorem Row.cell {w : World} {g m o : Nat} (h : Row w g m) (ho : o < m) : (∃ v, w.cell? ⟨g, o, none⟩ = some v) ∧ w.frozen? ⟨g, o, none⟩ = false := by
  obtain ⟨C, hC, t, hh⟩ := h
  exact ⟨⟨C[o]'(by omega), by simp [World.cell?, hh]⟩, by simp [World.frozen?, hh]⟩
theorem Row.set {w : World} {g m o : Nat} (h : Row w g m) (v : Value) : Row (w.setCell ⟨g, o, none⟩ v) g m := by
  obtain ⟨C, hC, t, hh⟩ := h
  refine ⟨C.setIfInBounds o v, by simp [hC], t, ?_⟩
  rw [setCell_eq_setRow w g o C t (0, 0) v hh]
  exact setRow_heap w g C _ t _ hh
theorem Row.below {w w' : World} {g m B : Nat} (h : Row w g m) (hb : Below B w w') (hB : g < B) : Row w' g m := by
  obtain ⟨C, hC, t, hh⟩ := h
  exact ⟨C, hC, t, by rw [hb.block g hB]; exact hh⟩
theorem Row.drew {w : World} {g m : Nat} (h : Row w g m) (d : Nat) : Row (w.drewN d) g m := h


end Go.Proofs.YthciddpljcbhiabGreatDoor

/- Levels, plainly: what stands in a list of levels, and when it is right (no program). -/
namespace Go.Proofs.YthciddpljcbhiabGreatDoor

structure Lv where
  age : Int
  window : Int
  rule : ByteArray
  limit : Int

def Lv.zero : Lv := ⟨0, 0, ByteArray.empty, 0⟩
def lvG (ls : List Lv) (i : Nat) : Lv := ls.getD i Lv.zero

/-- Four cells of a level at a place. -/
def LvCells (w : World) (b o : Nat) (l : Lv) : Prop :=
  w.cell? ⟨b, o, none⟩ = some (.int .i64 l.age) ∧ w.cell? ⟨b, o + 1, none⟩ = some (.int .i64 l.window) ∧
  w.cell? ⟨b, o + 2, none⟩ = some (.string l.rule) ∧ w.cell? ⟨b, o + 3, none⟩ = some (.int .i64 l.limit)

/-- The levels lie one behind the other from a place on. -/
def LvAt (w : World) (b off : Nat) (ls : List Lv) : Prop := ∀ i, i < ls.length → LvCells w b (off + i * 4) (lvG ls i)

def okAge (ls : List Lv) (keep : Int) (i : Nat) : Bool :=
  (if i = 0 then (lvG ls i).age == 0 else decide ((lvG ls (i - 1)).age < (lvG ls i).age)) && decide ((lvG ls i).age ≤ keep)
def agesB (ls : List Lv) (keep : Int) : Bool := (List.range ls.length).all (okAge ls keep)

theorem all_true {n : Nat} {p : Nat → Bool} (h : ∀ j, j < n → p j = true) : (List.range n).all p = true := by
  rw [List.all_eq_true]; intro x hx; exact h x (List.mem_range.1 hx)
theorem all_false {n : Nat} {p : Nat → Bool} (k : Nat) (hk : k < n) (h : p k = false) : (List.range n).all p = false := by
  rw [List.all_eq_false]; exact ⟨k, List.mem_range.2 hk, by simp [h]⟩

theorem okAge_zero (ls : List Lv) (keep : Int) : okAge ls keep 0 = true ↔ (lvG ls 0).age = 0 ∧ (lvG ls 0).age ≤ keep := by simp [okAge]
theorem okAge_succ (ls : List Lv) (keep : Int) (m : Nat) : okAge ls keep (m + 1) = true ↔ (lvG ls m).age < (lvG ls (m + 1)).age ∧ (lvG ls (m + 1)).age ≤ keep := by simp [okAge]
theorem no_of {a : Bool} (h : ¬ a = true) : a = false := by simpa using h

/-- The window ahead of level i (1 ahead of the first). -/
def ahd (ls : List Lv) (i : Nat) : Int := if i = 0 then 1 else (lvG ls (i - 1)).window
theorem ahd_succ (ls : List Lv) (m : Nat) : ahd ls (m + 1) = (lvG ls m).window := by simp [ahd]
def okWin (ls : List Lv) (span : Int) (i : Nat) : Bool := decide (1 ≤ (lvG ls i).window) && decide ((lvG ls i).window % ahd ls i = 0) && decide (span % (lvG ls i).window = 0)
theorem okWin_iff (ls : List Lv) (span : Int) (i : Nat) : okWin ls span i = true ↔ 1 ≤ (lvG ls i).window ∧ (lvG ls i).window % ahd ls i = 0 ∧ span % (lvG ls i).window = 0 := by simp [okWin, and_assoc]
def winsB (ls : List Lv) (span : Int) : Bool := (List.range ls.length).all (okWin ls span)
def okSer (ls : List Lv) (i : Nat) : Bool := ruleB (lvG ls i).rule && decide (1 ≤ (lvG ls i).limit) && decide ((lvG ls i).limit ≤ 20)
theorem okSer_iff (ls : List Lv) (i : Nat) : okSer ls i = true ↔ ruleB (lvG ls i).rule = true ∧ 1 ≤ (lvG ls i).limit ∧ (lvG ls i).limit ≤ 20 := by simp [okSer, and_assoc]
def sersB (ls : List Lv) : Bool := (List.range ls.length).all (okSer ls)

/-- Every number of a level is an int, every rule a string that may be. -/
def LvWf (ls : List Lv) : Prop := ∀ i, -9223372036854775808 ≤ (lvG ls i).window ∧ (lvG ls i).window ≤ 9223372036854775807 ∧ (lvG ls i).rule.size ≤ maxLen

theorem LvAt.block {w : World} {b off : Nat} {ls : List Lv} (h : LvAt w b off ls) (hn : 0 < ls.length) : b < w.heap.size := by
  have := (h 0 hn).1
  exact World.block_lt_of_cell? w _ this
theorem LvAt.below {w w' : World} {b off B : Nat} {ls : List Lv} (h : LvAt w b off ls) (hb : RowKit.Below B w w') (hB : b < B) : LvAt w' b off ls := by
  intro i hi
  obtain ⟨h1, h2, h3, h4⟩ := h i hi
  exact ⟨(hb.cell (p := ⟨b, _, none⟩) hB).trans h1, (hb.cell (p := ⟨b, _, none⟩) hB).trans h2, (hb.cell (p := ⟨b, _, none⟩) hB).trans h3, (hb.cell (p := ⟨b, _, none⟩) hB).trans h4⟩

def refOk (ls : List Lv) (span keep : Int) (i : Nat) : Bool := okAge ls keep i && okWin ls span i && okSer ls i
theorem refOk_zero (ls : List Lv) (span keep : Int) : refOk ls span keep 0 = true ↔
    ruleB (lvG ls 0).rule = true ∧ 1 ≤ (lvG ls 0).limit ∧ (lvG ls 0).limit ≤ 20 ∧ (lvG ls 0).age ≤ keep ∧ 1 ≤ (lvG ls 0).window ∧ span % (lvG ls 0).window = 0 ∧ (lvG ls 0).age = 0 := by
  simp only [refOk, Bool.and_eq_true, okAge_zero, okWin_iff, okSer_iff]
  have : ahd ls 0 = 1 := rfl
  rw [this]
  constructor
  · rintro ⟨⟨⟨h1, h2⟩, h3, h4, h5⟩, h6, h7, h8⟩
    exact ⟨h6, h7, h8, h2, h3, h5, h1⟩
  · rintro ⟨h6, h7, h8, h2, h3, h5, h1⟩
    exact ⟨⟨⟨h1, h2⟩, h3, by omega, h5⟩, h6, h7, h8⟩
theorem refOk_succ (ls : List Lv) (span keep : Int) (m : Nat) : refOk ls span keep (m + 1) = true ↔
    ruleB (lvG ls (m + 1)).rule = true ∧ 1 ≤ (lvG ls (m + 1)).limit ∧ (lvG ls (m + 1)).limit ≤ 20 ∧ (lvG ls (m + 1)).age ≤ keep ∧ 1 ≤ (lvG ls (m + 1)).window ∧ span % (lvG ls (m + 1)).window = 0 ∧
    (lvG ls m).age < (lvG ls (m + 1)).age ∧ (lvG ls (m + 1)).window % (lvG ls m).window = 0 := by
  simp only [refOk, Bool.and_eq_true, okAge_succ, okWin_iff, okSer_iff, ahd_succ]
  constructor
  · rintro ⟨⟨⟨h1, h2⟩, h3, h4, h5⟩, h6, h7, h8⟩
    exact ⟨h6, h7, h8, h2, h3, h5, h1, h4⟩
  · rintro ⟨h6, h7, h8, h2, h3, h5, h1, h4⟩
    exact ⟨⟨⟨h1, h2⟩, h3, h4, h5⟩, h6, h7, h8⟩
def refsB (ls : List Lv) (span keep : Int) : Bool := (List.range ls.length).all (refOk ls span keep)
theorem refsB_eq (ls : List Lv) (span keep : Int) : refsB ls span keep = (agesB ls keep && winsB ls span && sersB ls) := by
  unfold refsB agesB winsB sersB
  rw [Bool.eq_iff_iff]
  simp only [Bool.and_eq_true, List.all_eq_true, refOk]
  constructor
  · intro h; exact ⟨⟨fun x hx => (h x hx).1.1, fun x hx => (h x hx).1.2⟩, fun x hx => (h x hx).2⟩
  · rintro ⟨⟨h1, h2⟩, h3⟩ x hx; exact ⟨⟨h1 x hx, h2 x hx⟩, h3 x hx⟩
/-- Is the configuration right? -/
def rightB (span keep : Int) (ls : List Lv) : Bool :=
  decide (1 ≤ span) && decide (span ≤ 100) && decide (0 ≤ keep) && decide (keep ≤ 19) && decide (1 ≤ ls.length) && decide (ls.length ≤ 4) && agesB ls keep && winsB ls span && sersB ls

/-- What a slice of levels leads to. -/
def IsLvs (w : World) (a : Option Addr) (n : Nat) (ls : List Lv) : Prop := ls.length = n ∧ (0 < n → ∃ b off, a = some ⟨b, off, none⟩ ∧ LvAt w b off ls)
def errR (b : Bool) : Int := if b then 0 else 1
theorem rightB_first {span keep : Int} {ls : List Lv} (h : ¬ (1 ≤ span ∧ span ≤ 100 ∧ 0 ≤ keep ∧ keep ≤ 19 ∧ 1 ≤ ls.length ∧ ls.length ≤ 4)) : rightB span keep ls = false := by
  apply no_of
  intro hr
  simp only [rightB, Bool.and_eq_true, decide_eq_true_eq] at hr
  exact h ⟨hr.1.1.1.1.1.1.1.1, hr.1.1.1.1.1.1.1.2, hr.1.1.1.1.1.1.2, hr.1.1.1.1.1.2, hr.1.1.1.1.2, hr.1.1.1.2⟩
theorem rightB_rest {span keep : Int} {ls : List Lv} (h1 : 1 ≤ span) (h2 : span ≤ 100) (h3 : 0 ≤ keep) (h4 : keep ≤ 19) (h5 : 1 ≤ ls.length) (h6 : ls.length ≤ 4) :
    rightB span keep ls = (agesB ls keep && winsB ls span && sersB ls) := by
  simp [rightB, h1, h2, h3, h4, h5, h6]
theorem first_of {span keep : Int} {n : Nat} (h : ¬ (1 ≤ span ∧ span ≤ 100 ∧ 0 ≤ keep ∧ keep ≤ 19 ∧ 1 ≤ n ∧ n ≤ 4)) :
    span < 1 ∨ (1 ≤ span ∧ 100 < span) ∨ (1 ≤ span ∧ span ≤ 100 ∧ keep < 0) ∨ (1 ≤ span ∧ span ≤ 100 ∧ 0 ≤ keep ∧ 19 < keep) ∨ (1 ≤ span ∧ span ≤ 100 ∧ 0 ≤ keep ∧ keep ≤ 19 ∧ (n : Int) < 1) ∨
    (1 ≤ span ∧ span ≤ 100 ∧ 0 ≤ keep ∧ keep ≤ 19 ∧ 1 ≤ (n : Int) ∧ 4 < (n : Int)) := by omega

/-! The cells of levels, in one list. -/
def Lv.cells (l : Lv) : List Value := [.int .i64 l.age, .int .i64 l.window, .string l.rule, .int .i64 l.limit]
def flat (ls : List Lv) : List Value := ls.flatMap Lv.cells
theorem len4 (l : Lv) : l.cells.length = 4 := rfl
theorem flat_len (ls : List Lv) : (flat ls).length = ls.length * 4 := flat_length _ 4 len4 ls
theorem lvG_get (ls : List Lv) (i : Nat) (h : i < ls.length) : lvG ls i = ls[i] := by simp [lvG, List.getD, h]
theorem lvAt_of {w : World} {b off : Nat} {ls : List Lv} (h : At w b off (flat ls)) : LvAt w b off ls := by
  intro i hi
  have g := fun j (hj : j < 4) => flat_get Lv.cells 4 len4 ls i j hj hi
  rw [lvG_get ls i hi]
  have h0 := h (i * 4 + 0) _ (g 0 (by omega))
  have h1 := h (i * 4 + 1) _ (g 1 (by omega))
  have h2 := h (i * 4 + 2) _ (g 2 (by omega))
  have h3 := h (i * 4 + 3) _ (g 3 (by omega))
  exact ⟨h0, h1, h2, h3⟩
theorem at_of_lv {w : World} {b off : Nat} {ls : List Lv} (h : LvAt w b off ls) : At w b off (flat ls) := by
  intro j v hj
  have hl : j < ls.length * 4 := by rw [← flat_len]; exact (List.getElem?_eq_some_iff.1 hj).1
  have hi : j / 4 < ls.length := by omega
  have e : j = j / 4 * 4 + j % 4 := by omega
  have g := flat_get Lv.cells 4 len4 ls (j / 4) (j % 4) (by omega) hi
  obtain ⟨c0, c1, c2, c3⟩ := h (j / 4) hi
  rw [lvG_get ls _ hi] at c0 c1 c2 c3
  rw [e] at hj ⊢
  have hj' : (Lv.cells ls[j / 4])[j % 4]? = some v := by rw [← g]; exact hj
  have hm : j % 4 = 0 ∨ j % 4 = 1 ∨ j % 4 = 2 ∨ j % 4 = 3 := by omega
  rw [← Nat.add_assoc]
  rcases hm with hm | hm | hm | hm <;> rw [hm] at hj' ⊢ <;> simp [Lv.cells] at hj' <;> subst hj' <;> assumption
theorem flat_one (ls : List Lv) : ∀ v ∈ flat ls, v.oneCell' = true := by
  intro v hv
  simp only [flat, List.mem_flatMap] at hv
  obtain ⟨l, _, hl⟩ := hv
  simp [Lv.cells] at hl
  rcases hl with rfl | rfl | rfl | rfl <;> rfl

end Go.Proofs.YthciddpljcbhiabGreatDoor

/- Records, plainly: samples as lists of byte numbers, and the check (no program). -/
namespace Go.Proofs.YthciddpljcbhiabGreatDoor
open Go Go.RowKit

/-- The low k bytes of a number, the low one first. -/
def lowN (n : Int) : Nat → List Int
  | 0 => []
  | k + 1 => n % 256 :: lowN (n / 256) k
theorem lowN_len (k : Nat) : ∀ n, (lowN n k).length = k := by
  induction k with
  | zero => intro n; rfl
  | succ k ih => intro n; simp [lowN, ih]
/-- What is left of a number behind k bytes. -/
def shrN (n : Int) : Nat → Int
  | 0 => n
  | k + 1 => shrN n k / 256
theorem shrN_div (k : Nat) : ∀ n, shrN (n / 256) k = shrN n k / 256 := by
  induction k with
  | zero => intro n; rfl
  | succ k ih => intro n; simp [shrN, ih]
theorem shrN_range (n : Int) (h0 : 0 ≤ n) (k : Nat) : 0 ≤ shrN n k ∧ shrN n k ≤ n := by
  induction k with
  | zero => simp [shrN, h0]
  | succ k ih => simp only [shrN]; omega
theorem lowN_snoc (k : Nat) : ∀ n, lowN n (k + 1) = lowN n k ++ [shrN n k % 256] := by
  induction k with
  | zero => intro n; rfl
  | succ k ih => intro n; rw [lowN, ih, shrN_div]; rfl
theorem low4_eq (n : Int) (h0 : 0 ≤ n) (h1 : n < 4294967296) : lowN n 4 = [n % 256, n / 256 % 256, n / 65536 % 256, n / 16777216] := by
  simp only [lowN]
  have e1 : n / 256 / 256 = n / 65536 := by omega
  have e2 : n / 256 / 256 / 256 = n / 16777216 := by omega
  rw [e2, e1]
  have : n / 16777216 % 256 = n / 16777216 := by omega
  rw [this]
theorem low1_eq (n : Int) (h0 : 0 ≤ n) (h1 : n < 256) : lowN n 1 = [n] := by
  simp only [lowN]
  rw [show n % 256 = n by omega]

theorem str_add (xs ys : List Int) : strOfNums xs ++ strOfNums ys = strOfNums (xs ++ ys) := by
  unfold strOfNums
  apply ByteArray.ext
  simp

/-- The check's step, and the check. -/
def chkS (h b : Int) : Int := (31 * h + b) % 4294967296
def chk (l : List Int) : Int := l.foldl chkS 7
theorem chk_snoc (l : List Int) (b : Int) : chk (l ++ [b]) = chkS (chk l) b := by simp [chk]
theorem chkS_range (h b : Int) : 0 ≤ chkS h b ∧ chkS h b < 4294967296 := by unfold chkS; omega
theorem chk_range (l : List Int) : 0 ≤ chk l ∧ chk l < 4294967296 := by
  rcases List.eq_nil_or_concat l with rfl | ⟨l', b, rfl⟩
  · decide
  · rw [List.concat_eq_append, chk_snoc]; exact chkS_range _ _

/-- The bytes of a string as numbers. -/
def nums (s : ByteArray) : List Int := s.data.toList.map fun b => (b.toNat : Int)
theorem nums_len (s : ByteArray) : (nums s).length = s.size := by unfold nums; rw [List.length_map, Array.length_toList]; rfl
theorem nums_get (s : ByteArray) (k : Nat) (h : k < s.size) : (nums s)[k]? = some (byt s k) := by
  rw [← byt_eq s k h]
  have h' : k < s.data.size := h
  unfold nums
  rw [List.getElem?_map, Array.getElem?_toList, Array.getElem?_eq_getElem h']
  rfl
theorem nums_take (s : ByteArray) (k : Nat) (h : k < s.size) : (nums s).take (k + 1) = (nums s).take k ++ [byt s k] := by
  have hk : k < (nums s).length := by rw [nums_len]; exact h
  rw [List.take_succ_eq_append_getElem hk]
  have := nums_get s k h
  rw [List.getElem?_eq_getElem hk] at this
  rw [Option.some.inj this]

end Go.Proofs.YthciddpljcbhiabGreatDoor

/- Samples, plainly: what stands in a list of samples, when a batch is right, its record (no program). -/
namespace Go.Proofs.YthciddpljcbhiabGreatDoor
open Go Go.RowKit

structure Sm where
  time : Int
  l0 : Int
  l1 : Int
  l2 : Int
  value : Int

def Sm.zero : Sm := ⟨0, 0, 0, 0, 0⟩
def smG (ls : List Sm) (i : Nat) : Sm := ls.getD i Sm.zero

/-- Every number fits its kind. -/
def Sm.wf (x : Sm) : Prop := (-9223372036854775808 ≤ x.time ∧ x.time ≤ 9223372036854775807) ∧ (0 ≤ x.l0 ∧ x.l0 ≤ 255) ∧ (0 ≤ x.l1 ∧ x.l1 ≤ 255) ∧ (0 ≤ x.l2 ∧ x.l2 ≤ 255) ∧ (-2147483648 ≤ x.value ∧ x.value ≤ 2147483647)
def SmWf (ls : List Sm) : Prop := ∀ i, (smG ls i).wf

def SmCells (w : World) (b o : Nat) (x : Sm) : Prop :=
  w.cell? ⟨b, o, none⟩ = some (.int .i64 x.time) ∧ w.cell? ⟨b, o + 1, none⟩ = some (.int .u8 x.l0) ∧ w.cell? ⟨b, o + 2, none⟩ = some (.int .u8 x.l1) ∧
  w.cell? ⟨b, o + 3, none⟩ = some (.int .u8 x.l2) ∧ w.cell? ⟨b, o + 4, none⟩ = some (.int .i32 x.value)
def SmAt (w : World) (b off : Nat) (ls : List Sm) : Prop := ∀ i, i < ls.length → SmCells w b (off + i * 5) (smG ls i)
def IsSms (w : World) (a : Option Addr) (n : Nat) (ls : List Sm) : Prop := ls.length = n ∧ (0 < n → ∃ b off, a = some ⟨b, off, none⟩ ∧ SmAt w b off ls)

theorem SmAt.block {w : World} {b off : Nat} {ls : List Sm} (h : SmAt w b off ls) (hn : 0 < ls.length) : b < w.heap.size :=
  World.block_lt_of_cell? w _ (h 0 hn).1
theorem SmAt.below {w w' : World} {b off B : Nat} {ls : List Sm} (h : SmAt w b off ls) (hb : Below B w w') (hB : b < B) : SmAt w' b off ls := by
  intro i hi
  obtain ⟨h1, h2, h3, h4, h5⟩ := h i hi
  exact ⟨(hb.cell (p := ⟨b, _, none⟩) hB).trans h1, (hb.cell (p := ⟨b, _, none⟩) hB).trans h2, (hb.cell (p := ⟨b, _, none⟩) hB).trans h3, (hb.cell (p := ⟨b, _, none⟩) hB).trans h4, (hb.cell (p := ⟨b, _, none⟩) hB).trans h5⟩
theorem IsSms.below {w w' : World} {a : Option Addr} {n : Nat} {ls : List Sm} (h : IsSms w a n ls) (hb : Below w.heap.size w w') : IsSms w' a n ls :=
  ⟨h.1, fun hn => let ⟨b, off, e, hat⟩ := h.2 hn; ⟨b, off, e, hat.below hb (hat.block (by rw [h.1]; exact hn))⟩⟩

/-! The cells of samples, in one list. -/
def Sm.cells (x : Sm) : List Value := [.int .i64 x.time, .int .u8 x.l0, .int .u8 x.l1, .int .u8 x.l2, .int .i32 x.value]
def flatS (ls : List Sm) : List Value := ls.flatMap Sm.cells
theorem len5 (x : Sm) : x.cells.length = 5 := rfl
theorem flatS_len (ls : List Sm) : (flatS ls).length = ls.length * 5 := flat_length _ 5 len5 ls
theorem smG_get (ls : List Sm) (i : Nat) (h : i < ls.length) : smG ls i = ls[i] := by simp [smG, List.getD, h]
theorem smAt_of {w : World} {b off : Nat} {ls : List Sm} (h : At w b off (flatS ls)) : SmAt w b off ls := by
  intro i hi
  have g := fun j (hj : j < 5) => flat_get Sm.cells 5 len5 ls i j hj hi
  rw [smG_get ls i hi]
  exact ⟨h (i * 5 + 0) _ (g 0 (by omega)), h (i * 5 + 1) _ (g 1 (by omega)), h (i * 5 + 2) _ (g 2 (by omega)), h (i * 5 + 3) _ (g 3 (by omega)), h (i * 5 + 4) _ (g 4 (by omega))⟩
theorem at_of_sm {w : World} {b off : Nat} {ls : List Sm} (h : SmAt w b off ls) : At w b off (flatS ls) := by
  intro j v hj
  have hl : j < ls.length * 5 := by rw [← flatS_len]; exact (List.getElem?_eq_some_iff.1 hj).1
  have hi : j / 5 < ls.length := by omega
  have e : j = j / 5 * 5 + j % 5 := by omega
  have g := flat_get Sm.cells 5 len5 ls (j / 5) (j % 5) (by omega) hi
  obtain ⟨c0, c1, c2, c3, c4⟩ := h (j / 5) hi
  rw [smG_get ls _ hi] at c0 c1 c2 c3 c4
  rw [e] at hj ⊢
  have hj' : (Sm.cells ls[j / 5])[j % 5]? = some v := by rw [← g]; exact hj
  have hm : j % 5 = 0 ∨ j % 5 = 1 ∨ j % 5 = 2 ∨ j % 5 = 3 ∨ j % 5 = 4 := by omega
  rw [← Nat.add_assoc]
  rcases hm with hm | hm | hm | hm | hm <;> rw [hm] at hj' ⊢ <;> simp [Sm.cells] at hj' <;> subst hj' <;> assumption
theorem flatS_one (ls : List Sm) : ∀ v ∈ flatS ls, v.oneCell' = true := by
  intro v hv
  simp only [flatS, List.mem_flatMap] at hv
  obtain ⟨l, _, hl⟩ := hv
  simp [Sm.cells] at hl
  rcases hl with rfl | rfl | rfl | rfl | rfl <;> rfl
theorem smG_left (ls : List Sm) (x : Sm) (i : Nat) (h : i < ls.length) : smG (ls ++ [x]) i = smG ls i := by
  simp [smG, List.getD, List.getElem?_append_left h]
theorem smG_last (ls : List Sm) (x : Sm) : smG (ls ++ [x]) ls.length = x := by simp [smG, List.getD]
theorem smAt_left {w : World} {b off : Nat} {ls : List Sm} {x : Sm} (h : SmAt w b off (ls ++ [x])) : SmAt w b off ls := by
  intro i hi
  have := h i (by simp; omega)
  rwa [smG_left ls x i hi] at this

/-! When samples are right. -/
def smOk (x : Sm) : Bool := decide (0 ≤ x.time) && decide (x.time ≤ 100000) && lab3 x.l0 x.l1 x.l2
theorem smOk_iff (x : Sm) : smOk x = true ↔ 0 ≤ x.time ∧ x.time ≤ 100000 ∧ lab3 x.l0 x.l1 x.l2 = true := by simp [smOk, and_assoc]
def smsOk (ls : List Sm) : Bool := (List.range ls.length).all fun i => smOk (smG ls i)
/-- The error of a batch for itself. -/
def batE (ls : List Sm) : Int := if 1 ≤ ls.length ∧ ls.length ≤ 8 then (if smsOk ls then 0 else 5) else 4
theorem batE_le (ls : List Sm) : 0 ≤ batE ls ∧ batE ls ≤ 13 := by unfold batE; split <;> (try split) <;> omega
theorem batE_zero (ls : List Sm) : batE ls = 0 ↔ 1 ≤ ls.length ∧ ls.length ≤ 8 ∧ smsOk ls = true := by
  unfold batE
  split
  · rename_i h
    cases hs : smsOk ls <;> simp [h]
  · rename_i h
    constructor
    · intro h'; omega
    · rintro ⟨h1, h2, _⟩; exact absurd ⟨h1, h2⟩ h

/-! Records. -/
def uval (v : Int) : Int := v % 4294967296
theorem uval_range (v : Int) : 0 ≤ uval v ∧ uval v < 4294967296 := by unfold uval; omega
def smB (x : Sm) : List Int := lowN x.time 4 ++ [x.l0, x.l1, x.l2] ++ lowN (uval x.value) 4
def bodyB (ls : List Sm) : List Int := [87, (ls.length : Int)] ++ ls.flatMap smB
def recB (ls : List Sm) : List Int := bodyB ls ++ lowN (chk (bodyB ls)) 4
theorem smB_len (x : Sm) : (smB x).length = 11 := by simp [smB, lowN_len]
theorem bodyB_len (ls : List Sm) : (bodyB ls).length = 2 + ls.length * 11 := by simp [bodyB, flat_length smB 11 smB_len]; omega
theorem recB_len (ls : List Sm) : (recB ls).length = 6 + ls.length * 11 := by simp [recB, bodyB_len, lowN_len]; omega

def isByte (x : Int) : Prop := 0 ≤ x ∧ x ≤ 255
theorem lowN_byte (k : Nat) : ∀ n, ∀ x ∈ lowN n k, isByte x := by
  induction k with
  | zero => intro n x hx; simp [lowN] at hx
  | succ k ih =>
    intro n x hx
    simp only [lowN, List.mem_cons] at hx
    rcases hx with rfl | hx
    · unfold isByte; omega
    · exact ih _ x hx
theorem nums_str (xs : List Int) (h : ∀ x ∈ xs, isByte x) : nums (strOfNums xs) = xs := by
  unfold nums
  rw [strOfNums_data, List.map_map]
  conv => rhs; rw [← List.map_id xs]
  apply List.map_congr_left
  intro x hx
  obtain ⟨h0, h1⟩ := h x hx
  simp only [Function.comp, UInt8.toNat_ofNat', id]
  omega
theorem smB_byte {x : Sm} (h : x.wf) : ∀ y ∈ smB x, isByte y := by
  intro y hy
  simp only [smB, List.mem_append, List.mem_cons, List.not_mem_nil, or_false] at hy
  obtain ⟨_, h0, h1, h2, _⟩ := h
  rcases hy with (hy | rfl | rfl | rfl) | hy
  · exact lowN_byte _ _ y hy
  · exact h0
  · exact h1
  · exact h2
  · exact lowN_byte _ _ y hy
theorem mem_wf {ls : List Sm} (h : SmWf ls) {x : Sm} (hx : x ∈ ls) : x.wf := by
  obtain ⟨i, hi, rfl⟩ := List.getElem_of_mem hx
  have := h i
  rwa [smG_get ls i hi] at this
theorem flat_byte {ls : List Sm} (h : SmWf ls) : ∀ y ∈ ls.flatMap smB, isByte y := by
  intro y hy
  simp only [List.mem_flatMap] at hy
  obtain ⟨x, hx, hy⟩ := hy
  exact smB_byte (mem_wf h hx) y hy
theorem bodyB_byte {ls : List Sm} (h : SmWf ls) (hn : ls.length ≤ 255) : ∀ y ∈ bodyB ls, isByte y := by
  intro y hy
  simp only [bodyB, List.mem_append, List.mem_cons, List.not_mem_nil, or_false] at hy
  rcases hy with (rfl | rfl) | hy
  · unfold isByte; omega
  · unfold isByte; omega
  · exact flat_byte h y hy

theorem wf_take {ls : List Sm} (h : SmWf ls) (k : Nat) : SmWf (ls.take k) := by
  intro i
  by_cases hi : i < (ls.take k).length
  · rw [smG_get _ i hi, List.getElem_take]
    exact mem_wf h (List.getElem_mem _)
  · have : smG (ls.take k) i = Sm.zero := by simp only [smG, List.getD]; rw [List.getElem?_eq_none (by omega)]; rfl
    rw [this]
    simp [Sm.wf, Sm.zero]
theorem take_snoc {α : Type} (l : List α) (k : Nat) (h : k < l.length) : l.take (k + 1) = l.take k ++ [l[k]] := List.take_succ_eq_append_getElem h
theorem flat_take (ls : List Sm) (k : Nat) (h : k < ls.length) : (ls.take (k + 1)).flatMap smB = (ls.take k).flatMap smB ++ smB (smG ls k) := by
  rw [take_snoc ls k h, smG_get ls k h, List.flatMap_append]; simp only [List.flatMap_cons, List.flatMap_nil, List.append_nil]

end Go.Proofs.YthciddpljcbhiabGreatDoor

/- Series: what is admitted level by level, and that what was admitted at last tells every series (no program). -/
namespace Go.Proofs.YthciddpljcbhiabGreatDoor

/-- Labels, or a series. -/
structure Lb where
  a : Int
  b : Int
  c : Int
deriving DecidableEq

def over : Lb := ⟨42, 42, 42⟩
def madeL (r : ByteArray) (l : Lb) : Lb := ⟨prjB (byt r 0) l.a, prjB (byt r 1) l.b, prjB (byt r 2) l.c⟩
def Sm.lb (x : Sm) : Lb := ⟨x.l0, x.l1, x.l2⟩

/-- What is admitted behind a sample, level by level. -/
def admRow : List Lv → List (List Lb) → Lb → List (List Lb)
  | [], _, _ => []
  | lv :: lvs, A, now =>
    if now = over then A.headD [] :: admRow lvs A.tail over
    else if madeL lv.rule now ∈ A.headD [] then A.headD [] :: admRow lvs A.tail (madeL lv.rule now)
    else if ((A.headD []).length : Int) < lv.limit then (A.headD [] ++ [madeL lv.rule now]) :: admRow lvs A.tail (madeL lv.rule now)
    else A.headD [] :: admRow lvs A.tail over

/-- The series of a sample at its acceptance, level by level. -/
def serNow : List Lv → List (List Lb) → Lb → List Lb
  | [], _, _ => []
  | lv :: lvs, A, now =>
    if now = over then over :: serNow lvs A.tail over
    else if madeL lv.rule now ∈ A.headD [] then madeL lv.rule now :: serNow lvs A.tail (madeL lv.rule now)
    else if ((A.headD []).length : Int) < lv.limit then madeL lv.rule now :: serNow lvs A.tail (madeL lv.rule now)
    else over :: serNow lvs A.tail over

/-- The series at one level of what comes to it, by what is admitted there. -/
def serAt (lv : Lv) (adm : List Lb) (now : Lb) : Lb := if now = over then over else if madeL lv.rule now ∈ adm then madeL lv.rule now else over
theorem serAt_over {lv : Lv} {adm : List Lb} {now : Lb} (h : now = over) : serAt lv adm now = over := if_pos h
theorem serAt_in {lv : Lv} {adm : List Lb} {now : Lb} (h : ¬ now = over) (h1 : madeL lv.rule now ∈ adm) : serAt lv adm now = madeL lv.rule now := by unfold serAt; rw [if_neg h, if_pos h1]
theorem serAt_out {lv : Lv} {adm : List Lb} {now : Lb} (h : ¬ now = over) (h1 : madeL lv.rule now ∉ adm) : serAt lv adm now = over := by unfold serAt; rw [if_neg h, if_neg h1]
/-- The series by what is admitted, level by level. -/
def serOf : List Lv → List (List Lb) → Lb → List Lb
  | [], _, _ => []
  | lv :: lvs, A, now => serAt lv (A.headD []) now :: serOf lvs A.tail (serAt lv (A.headD []) now)

theorem admRow_len (lvs : List Lv) : ∀ A now, (admRow lvs A now).length = lvs.length := by
  induction lvs with
  | nil => intro A now; rfl
  | cons lv lvs ih => intro A now; unfold admRow; repeat (first | split | simp [ih])
theorem serOf_len (lvs : List Lv) : ∀ A now, (serOf lvs A now).length = lvs.length := by
  induction lvs with
  | nil => intro A now; rfl
  | cons lv lvs ih => intro A now; unfold serOf; simp [ih]
theorem serNow_len (lvs : List Lv) : ∀ A now, (serNow lvs A now).length = lvs.length := by
  induction lvs with
  | nil => intro A now; rfl
  | cons lv lvs ih => intro A now; unfold serNow; repeat (first | split | simp [ih])

/-- The series at the acceptance are those by what is admitted behind it. -/
theorem serNow_eq (lvs : List Lv) : ∀ A now, serNow lvs A now = serOf lvs (admRow lvs A now) now := by
  induction lvs with
  | nil => intro A now; rfl
  | cons lv lvs ih =>
    intro A now
    unfold serNow admRow serOf
    by_cases h0 : now = over
    · simp only [if_pos h0, List.headD_cons, List.tail_cons, serAt]
      rw [ih]
    · simp only [if_neg h0]
      by_cases h1 : madeL lv.rule now ∈ A.headD []
      · simp only [if_pos h1, List.headD_cons, List.tail_cons, serAt, if_neg h0]
        rw [ih]
      · simp only [if_neg h1]
        by_cases h2 : ((A.headD []).length : Int) < lv.limit
        · have h3 : madeL lv.rule now ∈ A.headD [] ++ [madeL lv.rule now] := by simp
          simp only [if_pos h2, List.headD_cons, List.tail_cons, serAt, if_neg h0, if_pos h3]
          rw [ih]
        · simp only [if_neg h2, List.headD_cons, List.tail_cons, serAt, if_neg h0, if_neg h1]
          rw [ih]

/-- What is admitted grows, and where there is no room it stays. -/
def Later : List Lv → List (List Lb) → List (List Lb) → Prop
  | [], _, _ => True
  | lv :: lvs, A, B => (∀ x ∈ A.headD [], x ∈ B.headD []) ∧ (lv.limit ≤ ((A.headD []).length : Int) → B.headD [] = A.headD []) ∧ Later lvs A.tail B.tail
theorem Later.refl (lvs : List Lv) : ∀ A, Later lvs A A := by
  induction lvs with
  | nil => intro A; trivial
  | cons lv lvs ih => intro A; exact ⟨fun _ h => h, fun _ => rfl, ih _⟩
theorem Later.trans {lvs : List Lv} : ∀ {A B C}, Later lvs A B → Later lvs B C → Later lvs A C := by
  induction lvs with
  | nil => intro A B C _ _; trivial
  | cons lv lvs ih =>
    intro A B C h h'
    refine ⟨fun x hx => h'.1 x (h.1 x hx), fun hl => ?_, ih h.2.2 h'.2.2⟩
    have e := h.2.1 hl
    rw [← e]
    exact h'.2.1 (by rw [e]; exact hl)
theorem admRow_later (lvs : List Lv) : ∀ A now, Later lvs A (admRow lvs A now) := by
  induction lvs with
  | nil => intro A now; trivial
  | cons lv lvs ih =>
    intro A now
    unfold admRow
    split
    · exact ⟨fun _ h => h, fun _ => rfl, ih _ _⟩
    · split
      · exact ⟨fun _ h => h, fun _ => rfl, ih _ _⟩
      · split
        · next h2 => exact ⟨fun x h => by simp only [List.headD_cons]; exact List.mem_append_left _ h, fun h => by omega, ih _ _⟩
        · exact ⟨fun _ h => h, fun _ => rfl, ih _ _⟩
theorem serOf_cons (lv : Lv) (lvs : List Lv) (A : List (List Lb)) (now : Lb) : serOf (lv :: lvs) A now = serAt lv (A.headD []) now :: serOf lvs A.tail (serAt lv (A.headD []) now) := rfl
/-- A sample's series stay as they are, whatever is admitted later. -/
theorem serOf_later (lvs : List Lv) : ∀ A now B, Later lvs (admRow lvs A now) B → serOf lvs B now = serOf lvs (admRow lvs A now) now := by
  induction lvs with
  | nil => intro A now B _; rfl
  | cons lv lvs ih =>
    intro A now B h
    unfold admRow at h ⊢
    by_cases h0 : now = over
    · rw [if_pos h0] at h ⊢
      rw [serOf_cons, serOf_cons, serAt_over h0, serAt_over h0, ih _ _ _ h.2.2]
      rfl
    · rw [if_neg h0] at h ⊢
      by_cases h1 : madeL lv.rule now ∈ A.headD []
      · rw [if_pos h1] at h ⊢
        rw [serOf_cons, serOf_cons, serAt_in h0 (h.1 _ h1), serAt_in (adm := (A.headD [] :: _).headD []) h0 h1, ih _ _ _ h.2.2]
        rfl
      · rw [if_neg h1] at h ⊢
        by_cases h2 : ((A.headD []).length : Int) < lv.limit
        · rw [if_pos h2] at h ⊢
          have h3 : madeL lv.rule now ∈ A.headD [] ++ [madeL lv.rule now] := by simp
          rw [serOf_cons, serOf_cons, serAt_in h0 (h.1 _ h3), serAt_in (adm := ((A.headD [] ++ [madeL lv.rule now]) :: _).headD []) h0 h3, ih _ _ _ h.2.2]
          rfl
        · rw [if_neg h2] at h ⊢
          have e : B.headD [] = A.headD [] := h.2.1 (by simp only [List.headD_cons]; omega)
          rw [serOf_cons, serOf_cons, serAt_out h0 (by rw [e]; exact h1), serAt_out (adm := (A.headD [] :: _).headD []) h0 h1, ih _ _ _ h.2.2]
          rfl

/-- All samples, in their order: what is admitted at last, and the series of each at its acceptance. -/
def admAll (lvs : List Lv) (A : List (List Lb)) : List Sm → List (List Lb)
  | [] => A
  | x :: l => admAll lvs (admRow lvs A x.lb) l
def serAll (lvs : List Lv) (A : List (List Lb)) : List Sm → List (List Lb)
  | [] => []
  | x :: l => serNow lvs A x.lb :: serAll lvs (admRow lvs A x.lb) l
theorem admAll_append (lvs : List Lv) (l l' : List Sm) : ∀ A, admAll lvs A (l ++ l') = admAll lvs (admAll lvs A l) l' := by
  induction l with
  | nil => intro A; rfl
  | cons x l ih => intro A; exact ih _
theorem serAll_append (lvs : List Lv) (l l' : List Sm) : ∀ A, serAll lvs A (l ++ l') = serAll lvs A l ++ serAll lvs (admAll lvs A l) l' := by
  induction l with
  | nil => intro A; rfl
  | cons x l ih => intro A; simp only [List.cons_append, serAll, ih, admAll]
theorem serAll_len (lvs : List Lv) (l : List Sm) : ∀ A, (serAll lvs A l).length = l.length := by
  induction l with
  | nil => intro A; rfl
  | cons x l ih => intro A; simp [serAll, ih]
theorem admAll_later (lvs : List Lv) (l : List Sm) : ∀ A, Later lvs A (admAll lvs A l) := by
  induction l with
  | nil => intro A; exact Later.refl _ _
  | cons x l ih => intro A; exact (admRow_later _ _ _).trans (ih _)
/-- What is admitted at last tells every series. -/
theorem serAll_eq (lvs : List Lv) (l : List Sm) : ∀ A, serAll lvs A l = l.map fun x => serOf lvs (admAll lvs A l) x.lb := by
  induction l with
  | nil => intro A; rfl
  | cons x l ih =>
    intro A
    simp only [serAll, admAll, List.map_cons, ih]
    congr 1
    rw [serNow_eq]
    exact (serOf_later lvs A x.lb _ (admAll_later _ _ _)).symm

/-- The series at a level hangs on the series at the level ahead alone. -/
theorem serOf_step (lvs : List Lv) : ∀ A now j, j + 1 < lvs.length → (serOf lvs A now).getD (j + 1) over = serAt (lvs.getD (j + 1) ⟨0, 0, ⟨#[]⟩, 0⟩) (A.getD (j + 1) []) ((serOf lvs A now).getD j over) := by
  induction lvs with
  | nil => intro A now j h; simp at h
  | cons lv lvs ih =>
    intro A now j h
    simp only [List.length_cons] at h
    cases lvs with
    | nil => simp at h
    | cons lv2 lvs2 =>
      cases j with
      | zero =>
        simp only [serOf, List.getD_cons_succ, List.getD_cons_zero]
        cases A with
        | nil => simp
        | cons a A => cases A <;> simp
      | succ j =>
        have := ih A.tail (serAt lv (A.headD []) now) j (by simp at h ⊢; omega)
        rw [show serOf (lv :: lv2 :: lvs2) A now = serAt lv (A.headD []) now :: serOf (lv2 :: lvs2) A.tail (serAt lv (A.headD []) now) from rfl]
        rw [List.getD_cons_succ, List.getD_cons_succ, List.getD_cons_succ, this]
        congr 1
        cases A <;> simp

end Go.Proofs.YthciddpljcbhiabGreatDoor

/- The document's store, plainly: a configuration, the time, all samples that were accepted; what a query tells (no program). -/
namespace Go.Proofs.YthciddpljcbhiabGreatDoor

structure Cf where
  span : Int
  keep : Int
  lvs : List Lv

/-- A store: its configuration, the time, all samples that were accepted, in their order. -/
structure St where
  c : Cf
  now : Int
  l : List Sm

def Cf.right (c : Cf) : Bool := rightB c.span c.keep c.lvs
/-- The age of the block of a time. -/
def Cf.age (c : Cf) (now t : Int) : Int := now / c.span - t / c.span
/-- The last level whose age is at most this one. -/
def lvlTo (lvs : List Lv) (a : Int) : Nat → Nat
  | 0 => 0
  | k + 1 => if 1 ≤ k ∧ (lvG lvs k).age ≤ a then k else lvlTo lvs a k
def Cf.lvl (c : Cf) (now t : Int) : Nat := lvlTo c.lvs (c.age now t) c.lvs.length
theorem lvlTo_lt (lvs : List Lv) (a : Int) : ∀ k, 1 ≤ k → lvlTo lvs a k < k := by
  intro k
  induction k with
  | zero => intro h; omega
  | succ k ih =>
    intro _
    unfold lvlTo
    split
    · omega
    · by_cases hk : 1 ≤ k
      · have := ih hk; omega
      · have : k = 0 := by omega
        subst this
        simp [lvlTo]

def St.adm (s : St) : List (List Lb) := admAll s.c.lvs [] s.l
/-- The series of a sample at a level. -/
def St.ser (s : St) (x : Sm) (j : Nat) : Lb := (serOf s.c.lvs s.adm x.lb).getD j over

def tkE (s : St) (n : Int) : Int := if n < 1 ∨ 1000 < n ∨ 100000 < s.now + n then 8 else 0
def St.tk (s : St) (n : Int) : St := { s with now := s.now + n }
def lateB (s : St) (x : Sm) : Bool := decide (s.now < x.time) || decide (s.c.keep < s.c.age s.now x.time)
def wrE (s : St) (b : List Sm) : Int := if batE b ≠ 0 then batE b else if b.any (lateB s) then 6 else if 500 < s.l.length + b.length then 7 else 0
def St.wr (s : St) (b : List Sm) : St := { s with l := s.l ++ b }
def St.new (c : Cf) : St := ⟨c, 0, []⟩

/-- A query. -/
structure Qy where
  fr : Int
  to : Int
  step : Int
  mt : ByteArray
  gb : ByteArray

def mB (m : Int) : Bool := letB m || m == 46 || m == 45
def bB (b : Int) : Bool := b == 48 || b == 49
def rightQ (q : Qy) : Bool :=
  decide (0 ≤ q.fr) && decide (q.fr < q.to) && decide (q.to ≤ 100100) && decide (1 ≤ q.step) && decide (q.mt.size = 3) && decide (q.gb.size = 3) && decide ((q.to - q.fr) % q.step = 0) && decide ((q.to - q.fr) / q.step ≤ 20) &&
  (mB (byt q.mt 0) && mB (byt q.mt 1) && mB (byt q.mt 2)) && (bB (byt q.gb 0) && bB (byt q.gb 1) && bB (byt q.gb 2))
/-- Does the query name the key? -/
def namedB (q : Qy) (i : Nat) : Bool := (byt q.mt i != 46) || (byt q.gb i == 49)
def lostK (q : Qy) (lv : Lv) (i : Nat) : Bool := namedB q i && (byt lv.rule i != 107)
def lostB (q : Qy) (lv : Lv) : Bool := lostK q lv 0 || lostK q lv 1 || lostK q lv 2
/-- The blocks that are asked for. -/
def blocks (c : Cf) (q : Qy) : List Int := (List.range ((q.to - 1) / c.span - q.fr / c.span + 1).toNat).map fun i => q.fr / c.span + (i : Nat)
def lostAt (c : Cf) (now : Int) (q : Qy) (b : Int) : Bool := (List.range (c.lvl now (b * c.span) + 1)).any fun j => lostB q (lvG c.lvs j)
def winAt (c : Cf) (now : Int) (q : Qy) (b : Int) : Bool := (q.fr % (lvG c.lvs (c.lvl now (b * c.span))).window != 0) || (q.step % (lvG c.lvs (c.lvl now (b * c.span))).window != 0)
/-- The error of a query. -/
def qE (c : Cf) (now : Int) (q : Qy) : Int :=
  if rightQ q = false then 9 else if c.keep < c.age now q.fr then 10 else if (blocks c q).any (lostAt c now q) then 11 else if (blocks c q).any (winAt c now q) then 12 else 0

def mOk (m x : Int) : Bool := m == 46 || m == x
def gB (b x : Int) : Int := if b = 49 then x else 46
/-- The group of a series, if it is of one. -/
def grpOf (q : Qy) (s : Lb) : Option Lb :=
  if s = over then some over
  else if mOk (byt q.mt 0) s.a && mOk (byt q.mt 1) s.b && mOk (byt q.mt 2) s.c then some ⟨gB (byt q.gb 0) s.a, gB (byt q.gb 1) s.b, gB (byt q.gb 2) s.c⟩ else none
def inQ (q : Qy) (t : Int) : Bool := decide (q.fr ≤ t) && decide (t < q.to)
def stepOf (q : Qy) (t : Int) : Int := (t - q.fr) / q.step
/-- A sample's key in a query, and its value. -/
def kv1 (q : Qy) (ser : Sm → Lb) (x : Sm) : Option (Key × Int) := if inQ q x.time then (grpOf q (ser x)).map fun g => (⟨stepOf q x.time, g.a, g.b, g.c⟩, x.value) else none
def kvOf (q : Qy) (ser : Sm → Lb) (l : List Sm) : List (Key × Int) := l.filterMap (kv1 q ser)
/-- A sample's series at the level of its block. -/
def St.at (s : St) (x : Sm) : Lb := s.ser x (s.c.lvl s.now x.time)
def rowsOf (kv : List (Key × Int)) : List Rw := kv.foldl (fun l p => addR l p.1 p.2) []
/-- The rows of a query. -/
def St.rows (s : St) (q : Qy) : List Rw := rowsOf (kvOf q s.at s.l)

theorem isRows_fold (kv : List (Key × Int)) : ∀ l kv0, IsRows l kv0 → IsRows (kv.foldl (fun l p => addR l p.1 p.2) l) (kv0 ++ kv) := by
  induction kv with
  | nil => intro l kv0 h; simpa using h
  | cons p kv ih =>
    intro l kv0 h
    have := ih _ _ (h.add p.1 p.2)
    simpa using this
theorem rowsOf_is (kv : List (Key × Int)) : IsRows (rowsOf kv) kv := by
  have := isRows_fold kv [] [] isRows_nil
  rw [List.nil_append] at this
  exact this
theorem rowsOf_snoc (kv : List (Key × Int)) (p : Key × Int) : rowsOf (kv ++ [p]) = addR (rowsOf kv) p.1 p.2 := by simp [rowsOf]
theorem kvOf_append (q : Qy) (ser : Sm → Lb) (a b : List Sm) : kvOf q ser (a ++ b) = kvOf q ser a ++ kvOf q ser b := by simp [kvOf]

/-- Where the query names no key by Match, every sample of its time has a group. -/
def anyM (q : Qy) : Prop := byt q.mt 0 = 46 ∧ byt q.mt 1 = 46 ∧ byt q.mt 2 = 46
theorem grpOf_any {q : Qy} (h : anyM q) (s : Lb) : ∃ g, grpOf q s = some g := by
  obtain ⟨h0, h1, h2⟩ := h
  unfold grpOf
  split
  · exact ⟨_, rfl⟩
  · exact ⟨_, by simp [mOk, h0, h1, h2]; rfl⟩
/-- The values of a step: those of all samples of that time. -/
def stepVals (q : Qy) (l : List Sm) (p : Int → Bool) : List Int := (l.filter fun x => inQ q x.time && p (stepOf q x.time)).map (·.value)
theorem kv_step {q : Qy} (h : anyM q) (ser : Sm → Lb) (p : Int → Bool) (l : List Sm) : valsIf (fun k => p k.st) (kvOf q ser l) = stepVals q l p := by
  induction l with
  | nil => rfl
  | cons x l ih =>
    unfold kvOf stepVals at *
    rw [List.filterMap_cons, List.filter_cons]
    by_cases hx : inQ q x.time = true
    · obtain ⟨g, hg⟩ := grpOf_any h (ser x)
      have e : kv1 q ser x = some (⟨stepOf q x.time, g.a, g.b, g.c⟩, x.value) := by unfold kv1; rw [if_pos hx, hg]; rfl
      rw [e]
      simp only [valsIf_cons, hx, Bool.true_and]
      cases hp : p (stepOf q x.time) <;> simp [ih]
    · have e : kv1 q ser x = none := by unfold kv1; rw [if_neg hx]
      have hx' : inQ q x.time = false := by simpa using hx
      rw [e]
      simp only [hx', Bool.false_and]
      simpa using ih
/-- TOLD: the rows of a step, put together, are all samples of that time, whatever the series are. -/
theorem rows_step (s : St) {q : Qy} (h : anyM q) (i : Int) : agRows ((s.rows q).filter fun r => decide (r.key.st = i)) = agOf (stepVals q s.l fun j => decide (j = i)) := by
  have := (rowsOf_is (kvOf q s.at s.l)).joined (fun k => decide (k.st = i))
  rw [kv_step h s.at (fun j => decide (j = i)) s.l] at this
  exact this
/-- The steps of the rows. -/
theorem kv_mem {q : Qy} {ser : Sm → Lb} {l : List Sm} {p : Key × Int} (h : p ∈ kvOf q ser l) : ∃ x ∈ l, inQ q x.time = true ∧ ∃ g, grpOf q (ser x) = some g ∧ p = (⟨stepOf q x.time, g.a, g.b, g.c⟩, x.value) := by
  obtain ⟨x, hx, e⟩ := List.mem_filterMap.1 h
  unfold kv1 at e
  by_cases hi : inQ q x.time = true
  · rw [if_pos hi] at e
    cases hg : grpOf q (ser x) with
    | none => rw [hg] at e; cases e
    | some g => rw [hg] at e; exact ⟨x, hx, hi, g, hg, (Option.some.inj e).symm⟩
  · rw [if_neg hi] at e; cases e
theorem IsRows.mem {l : List Rw} {kv : List (Key × Int)} (h : IsRows l kv) {r : Rw} (hr : r ∈ l) : ∃ p ∈ kv, p.1 = r.key := by
  have := h.ag r hr
  cases hv : valsOf kv r.key with
  | nil => rw [hv] at this; cases this
  | cons v vs =>
    have hm : v ∈ valsOf kv r.key := by rw [hv]; simp
    unfold valsOf at hm
    obtain ⟨p, hp, _⟩ := List.mem_map.1 hm
    obtain ⟨h1, h2⟩ := List.mem_filter.1 hp
    exact ⟨p, h1, of_decide_eq_true h2⟩
theorem rows_mem (s : St) {q : Qy} {r : Rw} (hr : r ∈ s.rows q) : ∃ x ∈ s.l, inQ q x.time = true ∧ r.key.st = stepOf q x.time ∧ ∃ g, grpOf q (s.at x) = some g ∧ r.key.g0 = g.a ∧ r.key.g1 = g.b ∧ r.key.g2 = g.c := by
  obtain ⟨p, hp, e⟩ := (rowsOf_is (kvOf q s.at s.l)).mem hr
  obtain ⟨x, hx, hi, g, hg, rfl⟩ := kv_mem hp
  exact ⟨x, hx, hi, by rw [← e], g, hg, by rw [← e], by rw [← e], by rw [← e]⟩
theorem rows_cnt (s : St) {q : Qy} {r : Rw} (hr : r ∈ s.rows q) : 1 ≤ r.ag.cnt ∧ r.ag.mn ≤ r.ag.mx := agOf_cnt _ _ ((rowsOf_is (kvOf q s.at s.l)).ag r hr)
theorem step_range {q : Qy} {t n : Int} (hs : 1 ≤ q.step) (hn : q.to - q.fr = n * q.step) (h : inQ q t = true) : 0 ≤ stepOf q t ∧ stepOf q t < n := by
  simp only [inQ, Bool.and_eq_true, decide_eq_true_eq] at h
  unfold stepOf
  refine ⟨Int.ediv_nonneg (by omega) (by omega), ?_⟩
  rw [Int.ediv_lt_iff_lt_mul (by omega)]
  omega

end Go.Proofs.YthciddpljcbhiabGreatDoor

/- Queries of whole blocks: none is refused but as lost; steps of two blocks; rows by keys; letter by letter (no program). -/
namespace Go.Proofs.YthciddpljcbhiabGreatDoor

/-- What a right configuration holds. -/
theorem Cf.right_parts {c : Cf} (h : c.right = true) : 1 ≤ c.span ∧ c.span ≤ 100 ∧ 0 ≤ c.keep ∧ c.keep ≤ 19 ∧ 1 ≤ c.lvs.length ∧ c.lvs.length ≤ 4 ∧
    (∀ j, j < c.lvs.length → 1 ≤ (lvG c.lvs j).window ∧ c.span % (lvG c.lvs j).window = 0 ∧ ruleB (lvG c.lvs j).rule = true ∧ 1 ≤ (lvG c.lvs j).limit) := by
  simp only [Cf.right, rightB, Bool.and_eq_true, decide_eq_true_eq] at h
  obtain ⟨⟨⟨⟨⟨⟨⟨⟨h1, h2⟩, h3⟩, h4⟩, h5⟩, h6⟩, _⟩, h8⟩, h9⟩ := h
  refine ⟨h1, h2, h3, h4, h5, h6, fun j hj => ?_⟩
  have w := (okWin_iff _ _ _).1 (List.all_eq_true.1 h8 j (List.mem_range.2 hj))
  have s := (okSer_iff _ _).1 (List.all_eq_true.1 h9 j (List.mem_range.2 hj))
  exact ⟨w.1, w.2.2, s.1, s.2.1⟩
theorem Cf.lvl_lt {c : Cf} (h : c.right = true) (now t : Int) : c.lvl now t < c.lvs.length := lvlTo_lt _ _ _ (Cf.right_parts h).2.2.2.2.1

/-- The first block that is not expired; how many there are from there to that of the time. -/
def Cf.old (c : Cf) (now : Int) : Int := if now / c.span - c.keep < 0 then 0 else now / c.span - c.keep
def Cf.cnt (c : Cf) (now : Int) : Int := now / c.span + 1 - c.old now
theorem Cf.old_range {c : Cf} (h : c.right = true) {now : Int} (h0 : 0 ≤ now) : 0 ≤ c.old now ∧ c.old now ≤ now / c.span ∧ now / c.span - c.old now ≤ c.keep ∧ 1 ≤ c.cnt now ∧ c.cnt now ≤ 20 := by
  obtain ⟨h1, h2, h3, h4, _⟩ := Cf.right_parts h
  have hb : 0 ≤ now / c.span := Int.ediv_nonneg h0 (by omega)
  unfold Cf.cnt Cf.old
  split <;> omega

/-- A query of whole blocks, from block m on, n steps of k blocks. -/
structure WholeQ (c : Cf) (q : Qy) (m k n : Int) : Prop where
  fr : q.fr = m * c.span
  step : q.step = k * c.span
  to : q.to = q.fr + n * q.step
  m0 : 0 ≤ m
  k1 : 1 ≤ k
  n1 : 1 ≤ n
  n20 : n ≤ 20
  mt : q.mt.size = 3 ∧ mB (byt q.mt 0) = true ∧ mB (byt q.mt 1) = true ∧ mB (byt q.mt 2) = true
  gb : q.gb.size = 3 ∧ bB (byt q.gb 0) = true ∧ bB (byt q.gb 1) = true ∧ bB (byt q.gb 2) = true

theorem WholeQ.right {c : Cf} {q : Qy} {m k n now : Int} (h : WholeQ c q m k n) (hc : c.right = true) (hn : now ≤ 100000) (hto : q.to ≤ (now / c.span + 1) * c.span) : rightQ q = true := by
  obtain ⟨h1, h2, _⟩ := Cf.right_parts hc
  have hm : 0 ≤ m * c.span := Int.mul_nonneg h.m0 (by omega)
  have hs : 1 ≤ q.step := by
    have := Int.mul_le_mul_of_nonneg_right h.k1 (show (0 : Int) ≤ c.span by omega)
    rw [← h.step] at this; omega
  have hns : 1 ≤ n * q.step := by
    have := Int.mul_le_mul_of_nonneg_right h.n1 (show (0 : Int) ≤ q.step by omega)
    omega
  have hd : now / c.span * c.span ≤ now := Int.ediv_mul_le _ (by omega)
  have he : (now / c.span + 1) * c.span = now / c.span * c.span + c.span := by rw [Int.add_mul, Int.one_mul]
  have e1 : q.to - q.fr = n * q.step := by rw [h.to]; omega
  have e2 : (q.to - q.fr) % q.step = 0 := by rw [e1]; exact Int.mul_emod_left _ _
  have e3 : (q.to - q.fr) / q.step = n := by rw [e1]; exact Int.mul_ediv_cancel _ (by omega)
  have e4 := h.fr
  have e5 := h.to
  have e6 := h.n20
  obtain ⟨a0, a1, a2, a3⟩ := h.mt
  obtain ⟨b0, b1, b2, b3⟩ := h.gb
  unfold rightQ
  rw [e2, e3, a0, b0, a1, a2, a3, b1, b2, b3]
  simp only [Bool.and_eq_true, decide_eq_true_eq]
  refine ⟨⟨⟨⟨⟨⟨⟨⟨⟨?_, ?_⟩, ?_⟩, hs⟩, trivial⟩, trivial⟩, trivial⟩, e6⟩, ⟨trivial, trivial⟩, trivial⟩, ⟨trivial, trivial⟩, trivial⟩ <;> omega

theorem WholeQ.age {c : Cf} {q : Qy} {m k n now : Int} (h : WholeQ c q m k n) (hc : c.right = true) (hm : now / c.span - m ≤ c.keep) : ¬ c.keep < c.age now q.fr := by
  obtain ⟨h1, _⟩ := Cf.right_parts hc
  unfold Cf.age
  rw [h.fr, Int.mul_ediv_cancel _ (by omega)]
  omega
theorem mul_emod_zero {a b w : Int} (h : b % w = 0) : (a * b) % w = 0 := by
  rw [Int.mul_emod, h, Int.mul_zero, Int.zero_emod]
theorem WholeQ.win {c : Cf} {q : Qy} {m k n : Int} (h : WholeQ c q m k n) (hc : c.right = true) (now : Int) : (blocks c q).any (winAt c now q) = false := by
  rw [List.any_eq_false]
  intro b _
  have hw := ((Cf.right_parts hc).2.2.2.2.2.2 _ (Cf.lvl_lt hc now (b * c.span))).2.1
  unfold winAt
  rw [h.fr, h.step, mul_emod_zero hw, mul_emod_zero hw]
  decide
/-- A query of whole blocks is refused at most as lost. -/
theorem WholeQ.err {c : Cf} {q : Qy} {m k n now : Int} (h : WholeQ c q m k n) (hc : c.right = true) (hn : now ≤ 100000) (hto : q.to ≤ (now / c.span + 1) * c.span) (hm : now / c.span - m ≤ c.keep) :
    qE c now q = if (blocks c q).any (lostAt c now q) then 11 else 0 := by
  unfold qE
  rw [h.right hc hn hto, h.win hc now, if_neg (by simp), if_neg (h.age hc hm)]
  simp
theorem lost_not {q : Qy} (h : ∀ i, i < 3 → namedB q i = false) (c : Cf) (now : Int) : (blocks c q).any (lostAt c now q) = false := by
  rw [List.any_eq_false]
  intro b _
  have : lostAt c now q b = false := by
    unfold lostAt
    rw [List.any_eq_false]
    intro j _
    simp [lostB, lostK, h 0, h 1, h 2]
  simp [this]
/-- Where all keys are kept at all levels nothing is lost. -/
theorem lost_kept {c : Cf} (hc : c.right = true) (hk : ∀ j, j < c.lvs.length → ∀ i, i < 3 → byt (lvG c.lvs j).rule i = 107) (q : Qy) (now : Int) : (blocks c q).any (lostAt c now q) = false := by
  rw [List.any_eq_false]
  intro b _
  have : lostAt c now q b = false := by
    unfold lostAt
    rw [List.any_eq_false]
    intro j hj
    have hj' : j < c.lvs.length := by
      have := List.mem_range.1 hj
      have := Cf.lvl_lt hc now (b * c.span)
      omega
    simp [lostB, lostK, hk j hj' 0, hk j hj' 1, hk j hj' 2]
  simp [this]

/-- What the values of those that a test takes come to. -/
def agIf {α : Type} (f : α → Int) (p : α → Bool) (l : List α) : Option Ag := agOf ((l.filter p).map f)
theorem agIf_cons {α : Type} (f : α → Int) (p : α → Bool) (x : α) (l : List α) : agIf f p (x :: l) = if p x then oj (some (.one (f x))) (agIf f p l) else agIf f p l := by
  unfold agIf
  rw [List.filter_cons]
  cases hp : p x <;> rfl
theorem agIf_split {α : Type} (f : α → Int) (p q : α → Bool) (l : List α) : agIf f p l = oj (agIf f (fun x => p x && q x) l) (agIf f (fun x => p x && !q x) l) := by
  induction l with
  | nil => rfl
  | cons x l ih =>
    rw [agIf_cons, agIf_cons, agIf_cons, ih]
    cases hp : p x <;> cases hq : q x <;> simp [oj_assoc, oj_left_comm]
theorem agIf_congr {α : Type} (f : α → Int) {p q : α → Bool} {l : List α} (h : ∀ x ∈ l, p x = q x) : agIf f p l = agIf f q l := by
  unfold agIf; rw [List.filter_congr h]
theorem agIf_false {α : Type} (f : α → Int) {p : α → Bool} {l : List α} (h : ∀ x ∈ l, p x = false) : agIf f p l = none := by
  unfold agIf
  rw [List.filter_eq_nil_iff.2 (fun x hx => by rw [h x hx]; simp)]
  rfl

/-- COARSER: a step of two blocks is two steps of one. -/
theorem stepVals_two {q q2 : Qy} (hf : q2.fr = q.fr) (ht : q2.to = q.to) (hs : q2.step = 2 * q.step) (h1 : 1 ≤ q.step) (l : List Sm) (i : Int) :
    agOf (stepVals q2 l fun j => decide (j = i)) = oj (agOf (stepVals q l fun j => decide (j = 2 * i))) (agOf (stepVals q l fun j => decide (j = 2 * i + 1))) := by
  have hst : ∀ t, stepOf q2 t = stepOf q t / 2 := by
    intro t
    unfold stepOf
    rw [hf, hs, Int.mul_comm 2, Int.ediv_ediv_of_nonneg (by omega)]
  have hin : ∀ t, inQ q2 t = inQ q t := by intro t; unfold inQ; rw [hf, ht]
  show agIf _ _ l = oj (agIf _ _ l) (agIf _ _ l)
  rw [agIf_split _ _ (fun x => decide (stepOf q x.time = 2 * i))]
  congr 1
  · refine agIf_congr _ fun x _ => ?_
    rw [hst, hin]
    generalize stepOf q x.time = j
    by_cases h2 : j = 2 * i
    · simp [h2]
    · simp [h2]
  · refine agIf_congr _ fun x _ => ?_
    rw [hst, hin]
    generalize stepOf q x.time = j
    by_cases h2 : j = 2 * i
    · have e : ¬ 2 * i = 2 * i + 1 := by omega
      simp [h2, e]
    · by_cases h3 : j = 2 * i + 1
      · have e' : (2 * i + 1) / 2 = i := by omega
        have e2 : ¬ 2 * i + 1 = 2 * i := by omega
        simp [h3, e', e2]
      · have e : ¬ j / 2 = i := by omega
        simp [e, h3]

end Go.Proofs.YthciddpljcbhiabGreatDoor

/- Letter by letter; and where few labels were written, none is left out (no program). -/
namespace Go.Proofs.YthciddpljcbhiabGreatDoor

/-! Every series is labels, or what was not admitted. -/
def okS (s : Lb) : Prop := s = over ∨ lab3 s.a s.b s.c = true
theorem prjB_lab {r b : Int} (h : labB b = true) : labB (prjB r b) = true := by
  unfold prjB
  split
  · unfold grpB
    split
    · rfl
    · split <;> rfl
  · split
    · rfl
    · exact h
theorem madeL_lab {r : ByteArray} {l : Lb} (h : lab3 l.a l.b l.c = true) : lab3 (madeL r l).a (madeL r l).b (madeL r l).c = true := by
  simp only [lab3, Bool.and_eq_true] at h ⊢
  exact ⟨⟨prjB_lab h.1.1, prjB_lab h.1.2⟩, prjB_lab h.2⟩
theorem lab_not_over {l : Lb} (h : lab3 l.a l.b l.c = true) : l ≠ over := by
  rintro rfl
  exact absurd h (by decide)
theorem serAt_ok {lv : Lv} {adm : List Lb} {now : Lb} (h : okS now) : okS (serAt lv adm now) := by
  unfold serAt
  split
  · exact .inl rfl
  · next hne =>
    split
    · exact .inr (madeL_lab (h.resolve_left hne))
    · exact .inl rfl
theorem serOf_ok (lvs : List Lv) : ∀ A now, okS now → ∀ s ∈ serOf lvs A now, okS s := by
  induction lvs with
  | nil => intro A now _ s hs; cases hs
  | cons lv lvs ih =>
    intro A now h s hs
    rw [serOf_cons] at hs
    rcases List.mem_cons.1 hs with rfl | hs
    · exact serAt_ok h
    · exact ih _ _ (serAt_ok h) s hs
theorem getD_mem_or {α : Type} (l : List α) (j : Nat) (d : α) : l.getD j d ∈ l ∨ l.getD j d = d := by
  rw [List.getD_eq_getElem?_getD]
  by_cases h : j < l.length
  · left; rw [List.getElem?_eq_getElem h]; exact List.getElem_mem _
  · right; rw [List.getElem?_eq_none (by omega)]; rfl
theorem at_ok (s : St) {x : Sm} (h : lab3 x.l0 x.l1 x.l2 = true) : okS (s.at x) := by
  rcases getD_mem_or (serOf s.c.lvs s.adm x.lb) (s.c.lvl s.now x.time) over with h' | h'
  · exact serOf_ok _ _ _ (.inr h) _ h'
  · exact .inl h'

/-! What the rows of keys that a test takes come to, by the samples. -/
def keyP (q : Qy) (ser : Sm → Lb) (P : Key → Bool) (x : Sm) : Bool := match kv1 q ser x with | some p => P p.1 | none => false
theorem kv_vals (q : Qy) (ser : Sm → Lb) (P : Key → Bool) (l : List Sm) : agOf (valsIf P (kvOf q ser l)) = agIf (·.value) (keyP q ser P) l := by
  induction l with
  | nil => rfl
  | cons x l ih =>
    rw [agIf_cons, ← ih]
    unfold kvOf
    rw [List.filterMap_cons]
    unfold keyP kv1
    by_cases hi : inQ q x.time = true
    · rw [if_pos hi]
      cases hg : grpOf q (ser x) with
      | none => simp
      | some g =>
        simp only [Option.map_some, valsIf_cons]
        split <;> rfl
    · rw [if_neg hi]; simp
/-- The rows of a query whose keys a test takes, put together. -/
theorem rows_if (s : St) (q : Qy) (P : Key → Bool) : agRows ((s.rows q).filter fun r => P r.key) = agIf (·.value) (keyP q s.at P) s.l := by
  rw [← kv_vals]
  exact (rowsOf_is (kvOf q s.at s.l)).joined P

def isOver (k : Key) : Bool := decide (k.g0 = 42 ∧ k.g1 = 42 ∧ k.g2 = 42)
def noBy (q : Qy) : Prop := byt q.gb 0 = 48 ∧ byt q.gb 1 = 48 ∧ byt q.gb 2 = 48
theorem lb_ext {a b : Lb} (h0 : a.a = b.a) (h1 : a.b = b.b) (h2 : a.c = b.c) : a = b := by cases a; cases b; simp_all
/-- Of a letter at the first key: the rows of what was admitted. -/
theorem keyP_letter {q : Qy} {w : Int} (hw : byt q.mt 0 = w) (hw' : w ≠ 46) (h1 : byt q.mt 1 = 46) (h2 : byt q.mt 2 = 46) (hb : noBy q) (ser : Sm → Lb) (i : Int) (x : Sm) :
    keyP q ser (fun k => decide (k.st = i) && !isOver k) x = (inQ q x.time && decide (stepOf q x.time = i) && !decide (ser x = over) && decide ((ser x).a = w)) := by
  obtain ⟨b0, b1, b2⟩ := hb
  unfold keyP kv1 grpOf
  by_cases hi : inQ q x.time = true
  · rw [if_pos hi]
    by_cases ho : ser x = over
    · simp [ho, isOver, over]
    · rw [if_neg ho]
      by_cases hm : (ser x).a = w
      · simp [mOk, hw, hm, h1, h2, hi, ho, gB, b0, b1, b2, isOver]
      · have hm' : ¬ w = (ser x).a := fun e => hm e.symm
        simp [mOk, hw, hw', hm, hm']
  · have hi' : inQ q x.time = false := by simpa using hi
    simp [hi']
/-- The rows of what was not admitted, whatever Match says. -/
theorem keyP_over {q : Qy} (hb : noBy q) (ser : Sm → Lb) (i : Int) (x : Sm) :
    keyP q ser (fun k => decide (k.st = i) && isOver k) x = (inQ q x.time && decide (stepOf q x.time = i) && decide (ser x = over)) := by
  obtain ⟨b0, b1, b2⟩ := hb
  unfold keyP kv1 grpOf
  by_cases hi : inQ q x.time = true
  · rw [if_pos hi]
    by_cases ho : ser x = over
    · simp [ho, isOver, over, hi]
    · rw [if_neg ho]
      by_cases hm : (mOk (byt q.mt 0) (ser x).a && mOk (byt q.mt 1) (ser x).b && mOk (byt q.mt 2) (ser x).c) = true
      · rw [if_pos hm]
        simp [gB, b0, b1, b2, isOver, ho]
      · rw [if_neg hm]
        simp [ho]
  · have hi' : inQ q x.time = false := by simpa using hi
    simp [hi']

/-- Letter by letter, once each. -/
theorem agIf_ways (p : Sm → Bool) (f : Sm → Int) (l : List Sm) : ∀ W : List Int, W.Nodup → agIf (·.value) (fun x => p x && decide (f x ∈ W)) l = W.foldr (fun w a => oj (agIf (·.value) (fun x => p x && decide (f x = w)) l) a) none
  | [], _ => by
    rw [List.foldr_nil]
    exact agIf_false _ (fun x _ => by simp)
  | w :: W, h => by
    obtain ⟨h1, h2⟩ := List.nodup_cons.1 h
    rw [List.foldr_cons, ← agIf_ways p f l W h2, agIf_split _ _ (fun x => decide (f x = w))]
    congr 1
    · refine agIf_congr _ fun x _ => ?_
      by_cases e : f x = w
      · simp [e]
      · simp [e]
    · refine agIf_congr _ fun x _ => ?_
      by_cases e : f x = w
      · simp [e, h1]
      · simp [e]
def ways : List Int := [97, 98, 99, 100, 101, 102, 103, 104, 105, 106, 107, 108, 109, 110, 111, 112, 113, 114, 115, 116, 117, 118, 119, 120, 121, 122, 45]
theorem lab_ways {b : Int} (h : labB b = true) : b ∈ ways := by
  simp [labB, letB] at h
  simp [ways]
  omega
theorem ways_nodup : ways.Nodup := by decide
theorem ways_dot : ∀ w ∈ ways, w ≠ 46 := by decide
/-- MATCHED: all samples of a step are those that were not admitted, and those of each letter. -/
theorem matched_all (s : St) (hl : ∀ x ∈ s.l, lab3 x.l0 x.l1 x.l2 = true) (p : Sm → Bool) :
    agIf (·.value) p s.l = oj (agIf (·.value) (fun x => p x && decide (s.at x = over)) s.l) (ways.foldr (fun w a => oj (agIf (·.value) (fun x => p x && !decide (s.at x = over) && decide ((s.at x).a = w)) s.l) a) none) := by
  rw [agIf_split _ _ (fun x => decide (s.at x = over)), ← agIf_ways (fun x => p x && !decide (s.at x = over)) (fun x => (s.at x).a) s.l ways ways_nodup]
  congr 1
  refine agIf_congr _ fun x hx => ?_
  by_cases ho : s.at x = over
  · simp [ho]
  · have h := (at_ok s (hl x hx)).resolve_left ho
    simp only [lab3, Bool.and_eq_true] at h
    simp [lab_ways h.1.1]

/-! ROOMY. -/
theorem nodup_le : ∀ {xs ys : List Lb}, xs.Nodup → (∀ x ∈ xs, x ∈ ys) → xs.length ≤ ys.length
  | [], _, _, _ => Nat.zero_le _
  | x :: xs, ys, h, hs => by
    obtain ⟨h1, h2⟩ := List.nodup_cons.1 h
    have hx := hs x (by simp)
    have := nodup_le (ys := ys.erase x) h2 fun y hy => by
      have hne : y ≠ x := fun e => by subst e; exact h1 hy
      exact (List.mem_erase_of_ne hne).2 (hs y (List.mem_cons_of_mem _ hy))
    rw [List.length_erase_of_mem hx] at this
    have : 0 < ys.length := List.length_pos_of_mem hx
    simp only [List.length_cons]
    omega
/-- All that is admitted comes of the labels that were seen. -/
def Roomed : List Lv → List (List Lb) → (Lb → Lb) → List Lb → Prop
  | [], _, _, _ => True
  | lv :: lvs, A, f, seen => (A.headD []).Nodup ∧ (∀ y ∈ A.headD [], ∃ x ∈ seen, y = madeL lv.rule (f x)) ∧ Roomed lvs A.tail (fun x => madeL lv.rule (f x)) seen
theorem roomed_nil (lvs : List Lv) : ∀ f seen, Roomed lvs [] f seen := by
  induction lvs with
  | nil => intro f seen; trivial
  | cons lv lvs ih => intro f seen; exact ⟨by simp, by simp, ih _ _⟩
theorem roomed_row (lvs : List Lv) : ∀ (A : List (List Lb)) (f : Lb → Lb) (seen : List Lb), Roomed lvs A f seen → (∀ lv ∈ lvs, (seen.length : Int) ≤ lv.limit) → ∀ x ∈ seen, lab3 (f x).a (f x).b (f x).c = true →
    Roomed lvs (admRow lvs A (f x)) f seen ∧ over ∉ serNow lvs A (f x) := by
  induction lvs with
  | nil => intro A f seen _ _ x _ _; exact ⟨trivial, by simp [serNow]⟩
  | cons lv lvs ih =>
    intro A f seen h hlim x hx hlab
    obtain ⟨g1, g2, g3⟩ := h
    have hne := lab_not_over hlab
    have hmade := madeL_lab (r := lv.rule) hlab
    have hmne := lab_not_over hmade
    have rest := ih A.tail (fun x => madeL lv.rule (f x)) seen g3 (fun l hl => hlim l (List.mem_cons_of_mem _ hl)) x hx hmade
    unfold admRow serNow
    rw [if_neg hne, if_neg hne]
    by_cases h1 : madeL lv.rule (f x) ∈ A.headD []
    · rw [if_pos h1, if_pos h1]
      refine ⟨⟨g1, g2, rest.1⟩, ?_⟩
      rw [List.mem_cons]
      rintro (e | e)
      · exact hmne e.symm
      · exact rest.2 e
    · have hnd : (A.headD [] ++ [madeL lv.rule (f x)]).Nodup := by
        rw [List.nodup_append]
        refine ⟨g1, by simp, fun a ha b hb => ?_⟩
        simp only [List.mem_singleton] at hb
        subst hb
        exact fun e => h1 (e ▸ ha)
      have hall : ∀ y ∈ A.headD [] ++ [madeL lv.rule (f x)], ∃ z ∈ seen, y = madeL lv.rule (f z) := by
        intro y hy
        rcases List.mem_append.1 hy with hy | hy
        · exact g2 y hy
        · simp only [List.mem_singleton] at hy
          exact ⟨x, hx, hy⟩
      have hle := nodup_le (ys := seen.map fun z => madeL lv.rule (f z)) hnd fun y hy => by
        obtain ⟨z, hz, e⟩ := hall y hy
        exact List.mem_map.2 ⟨z, hz, e.symm⟩
      simp only [List.length_append, List.length_singleton, List.length_map] at hle
      have hl := hlim lv (by simp)
      have h2 : ((A.headD []).length : Int) < lv.limit := by omega
      rw [if_neg h1, if_neg h1, if_pos h2, if_pos h2]
      refine ⟨⟨hnd, hall, rest.1⟩, ?_⟩
      rw [List.mem_cons]
      rintro (e | e)
      · exact hmne e.symm
      · exact rest.2 e
theorem roomed_all (lvs : List Lv) (seen : List Lb) (hlim : ∀ lv ∈ lvs, (seen.length : Int) ≤ lv.limit) (l : List Sm) : ∀ A, Roomed lvs A id seen → (∀ x ∈ l, x.lb ∈ seen ∧ lab3 x.l0 x.l1 x.l2 = true) → ∀ r ∈ serAll lvs A l, over ∉ r := by
  induction l with
  | nil => intro A _ _ r hr; cases hr
  | cons x l ih =>
    intro A h hx r hr
    obtain ⟨h1, h2⟩ := hx x (by simp)
    have := roomed_row lvs A id seen h hlim x.lb h1 h2
    rcases List.mem_cons.1 hr with rfl | hr
    · exact this.2
    · exact ih _ this.1 (fun y hy => hx y (List.mem_cons_of_mem _ hy)) r hr
/-- ROOMY: where no more labels were written than the least limit, every sample was admitted. -/
theorem roomy (s : St) (hc : s.c.right = true) (hl : ∀ x ∈ s.l, lab3 x.l0 x.l1 x.l2 = true) (seen : List Lb) (hseen : ∀ x ∈ s.l, x.lb ∈ seen) (hlim : ∀ lv ∈ s.c.lvs, (seen.length : Int) ≤ lv.limit) : ∀ x ∈ s.l, s.at x ≠ over := by
  intro x hx e
  have h := roomed_all s.c.lvs seen hlim s.l [] (roomed_nil _ _ _) (fun y hy => ⟨hseen y hy, hl y hy⟩)
  rw [serAll_eq] at h
  have hr := h (serOf s.c.lvs s.adm x.lb) (List.mem_map.2 ⟨x, hx, rfl⟩)
  have hj : s.c.lvl s.now x.time < (serOf s.c.lvs s.adm x.lb).length := by rw [serOf_len]; exact Cf.lvl_lt hc _ _
  apply hr
  have e2 : s.at x = (serOf s.c.lvs s.adm x.lb)[s.c.lvl s.now x.time] := by
    unfold St.at St.ser
    rw [List.getD_eq_getElem?_getD, List.getElem?_eq_getElem hj]
    rfl
  rw [← e, e2]
  exact List.getElem_mem _

end Go.Proofs.YthciddpljcbhiabGreatDoor

/- The store as the program keeps it: points with their series, a book of what is admitted; that it tells what the document's tells (no program). -/
namespace Go.Proofs.YthciddpljcbhiabGreatDoor

/-- What is admitted, in one list: a level's number and a series. -/
structure Ad where
  lv : Nat
  nm : Lb
deriving DecidableEq

def admL (bk : List Ad) (j : Nat) : List Lb := (bk.filter fun a => decide (a.lv = j)).map (·.nm)
theorem admL_snoc (bk : List Ad) (i j : Nat) (m : Lb) : admL (bk ++ [⟨i, m⟩]) j = if i = j then admL bk j ++ [m] else admL bk j := by
  unfold admL
  by_cases h : i = j <;> simp [List.filter_append, h]
def giveN (bk : List Ad) (i : Nat) (lv : Lv) (now : Lb) : Lb :=
  if now = over then over else if madeL lv.rule now ∈ admL bk i then madeL lv.rule now else if lv.limit ≤ ((admL bk i).length : Int) then over else madeL lv.rule now
def giveB (bk : List Ad) (i : Nat) (lv : Lv) (now : Lb) : List Ad :=
  if now = over then bk else if madeL lv.rule now ∈ admL bk i then bk else if lv.limit ≤ ((admL bk i).length : Int) then bk else bk ++ [⟨i, madeL lv.rule now⟩]
/-- A sample comes to the levels, from level i on. -/
def entB : List Lv → Nat → List Ad → Lb → List Ad
  | [], _, bk, _ => bk
  | lv :: lvs, i, bk, now => entB lvs (i + 1) (giveB bk i lv now) (giveN bk i lv now)
def entS : List Lv → Nat → List Ad → Lb → List Lb
  | [], _, _, _ => []
  | lv :: lvs, i, bk, now => giveN bk i lv now :: entS lvs (i + 1) (giveB bk i lv now) (giveN bk i lv now)

theorem giveB_other (bk : List Ad) (i : Nat) (lv : Lv) (now : Lb) {j : Nat} (h : i ≠ j) : admL (giveB bk i lv now) j = admL bk j := by
  unfold giveB
  repeat (first | split | rfl)
  rw [admL_snoc, if_neg h]
theorem giveB_len (bk : List Ad) (i : Nat) (lv : Lv) (now : Lb) : (giveB bk i lv now).length ≤ bk.length + 1 := by
  unfold giveB
  repeat (first | split | simp)
theorem entB_len (lvs : List Lv) : ∀ i bk now, (entB lvs i bk now).length ≤ bk.length + lvs.length := by
  induction lvs with
  | nil => intro i bk now; simp [entB]
  | cons lv lvs ih =>
    intro i bk now
    have h1 := ih (i + 1) (giveB bk i lv now) (giveN bk i lv now)
    have h2 := giveB_len bk i lv now
    simp only [entB, List.length_cons]
    omega
theorem entS_len (lvs : List Lv) : ∀ i bk now, (entS lvs i bk now).length = lvs.length := by
  induction lvs with
  | nil => intro i bk now; rfl
  | cons lv lvs ih => intro i bk now; simp [entS, ih]
theorem entB_before (lvs : List Lv) : ∀ i bk now j, j < i → admL (entB lvs i bk now) j = admL bk j := by
  induction lvs with
  | nil => intro i bk now j _; rfl
  | cons lv lvs ih =>
    intro i bk now j hj
    simp only [entB]
    rw [ih (i + 1) _ _ j (by omega), giveB_other _ _ _ _ (by omega)]

theorem getD_tail {α : Type} (A : List α) (j : Nat) (d : α) : A.tail.getD j d = A.getD (j + 1) d := by cases A <;> simp
theorem headD_getD {α : Type} (A : List α) (d : α) : A.headD d = A.getD 0 d := by cases A <;> simp

/-- What the book holds is what is admitted, and the series are those of the document. -/
theorem ent_eq (lvs : List Lv) : ∀ (i : Nat) (bk : List Ad) (A : List (List Lb)) (now : Lb), (∀ j, j < lvs.length → A.getD j [] = admL bk (i + j)) →
    entS lvs i bk now = serNow lvs A now ∧ ∀ j, j < lvs.length → (admRow lvs A now).getD j [] = admL (entB lvs i bk now) (i + j) := by
  induction lvs with
  | nil => intro i bk A now _; exact ⟨rfl, fun j hj => by simp at hj⟩
  | cons lv lvs ih =>
    intro i bk A now h
    have h0 : A.headD [] = admL bk i := by rw [headD_getD]; exact h 0 (by simp)
    have ht : ∀ j, j < lvs.length → A.tail.getD j [] = admL (giveB bk i lv now) (i + 1 + j) := fun j hj => by
      rw [getD_tail, giveB_other _ _ _ _ (by omega), h (j + 1) (by simp; omega)]
      congr 1; omega
    obtain ⟨e1, e2⟩ := ih (i + 1) (giveB bk i lv now) A.tail (giveN bk i lv now) ht
    have hb := entB_before lvs (i + 1) (giveB bk i lv now) (giveN bk i lv now) i (by omega)
    have key : ∀ (nm : Lb) (a0 : List Lb), giveN bk i lv now = nm → admL (giveB bk i lv now) i = a0 →
        serNow (lv :: lvs) A now = nm :: serNow lvs A.tail nm → admRow (lv :: lvs) A now = a0 :: admRow lvs A.tail nm →
        entS (lv :: lvs) i bk now = serNow (lv :: lvs) A now ∧ ∀ j, j < (lv :: lvs).length → (admRow (lv :: lvs) A now).getD j [] = admL (entB (lv :: lvs) i bk now) (i + j) := by
      intro nm a0 hn ha hs hr
      rw [hs, hr]
      simp only [entS, entB]
      rw [hn] at e1 e2 hb ⊢
      refine ⟨by rw [e1], fun j hj => ?_⟩
      cases j with
      | zero => simp only [List.getD_cons_zero, Nat.add_zero]; rw [hb, ha]
      | succ j =>
        simp only [List.getD_cons_succ]
        rw [e2 j (by simpa using hj)]
        congr 1; omega
    by_cases c1 : now = over
    · refine key over (admL bk i) ?_ ?_ ?_ ?_ <;> simp [giveN, giveB, serNow, admRow, c1]
      cases A <;> simp_all
    · by_cases c2 : madeL lv.rule now ∈ admL bk i
      · refine key (madeL lv.rule now) (admL bk i) ?_ ?_ ?_ ?_
        · simp only [giveN, if_neg c1, if_pos c2]
        · simp only [giveB, if_neg c1, if_pos c2]
        · simp only [serNow, if_neg c1, h0, if_pos c2]
        · simp only [admRow, if_neg c1, h0, if_pos c2]
      · by_cases c3 : lv.limit ≤ ((admL bk i).length : Int)
        · have c3' : ¬ ((admL bk i).length : Int) < lv.limit := by omega
          refine key over (admL bk i) ?_ ?_ ?_ ?_
          · simp only [giveN, if_neg c1, if_neg c2, if_pos c3]
          · simp only [giveB, if_neg c1, if_neg c2, if_pos c3]
          · simp only [serNow, if_neg c1, h0, if_neg c2, if_neg c3']
          · simp only [admRow, if_neg c1, h0, if_neg c2, if_neg c3']
        · have c3' : ((admL bk i).length : Int) < lv.limit := by omega
          refine key (madeL lv.rule now) (admL bk i ++ [madeL lv.rule now]) ?_ ?_ ?_ ?_
          · simp only [giveN, if_neg c1, if_neg c2, if_neg c3]
          · simp only [giveB, if_neg c1, if_neg c2, if_neg c3]; rw [admL_snoc, if_pos rfl]
          · simp only [serNow, if_neg c1, h0, if_neg c2, if_pos c3']
          · simp only [admRow, if_neg c1, h0, if_neg c2, if_pos c3']

/-- What the book of a store holds. -/
def BookOk (s : St) (bk : List Ad) : Prop := (∀ j, j < s.c.lvs.length → s.adm.getD j [] = admL bk j) ∧ bk.length ≤ s.l.length * s.c.lvs.length
theorem bookOk_new (c : Cf) : BookOk (St.new c) [] := ⟨fun j _ => by simp [St.adm, St.new, admAll, admL], by simp⟩
theorem adm_wr1 (s : St) (x : Sm) : (s.wr [x]).adm = admRow s.c.lvs s.adm x.lb := by
  show admAll s.c.lvs [] (s.l ++ [x]) = _
  rw [admAll_append]
  rfl
theorem bookOk_wr1 {s : St} {bk : List Ad} (h : BookOk s bk) (x : Sm) : BookOk (s.wr [x]) (entB s.c.lvs 0 bk x.lb) ∧ entS s.c.lvs 0 bk x.lb = serNow s.c.lvs s.adm x.lb := by
  obtain ⟨e1, e2⟩ := ent_eq s.c.lvs 0 bk s.adm x.lb (fun j hj => by rw [h.1 j hj, Nat.zero_add])
  refine ⟨⟨fun j hj => ?_, ?_⟩, e1⟩
  · rw [adm_wr1, e2 j hj, Nat.zero_add]
  · have h1 := entB_len s.c.lvs 0 bk x.lb
    have h2 := h.2
    show (entB s.c.lvs 0 bk x.lb).length ≤ (s.l ++ [x]).length * s.c.lvs.length
    rw [List.length_append, Nat.add_mul]
    simp
    omega

/-! Points. -/
structure Pt where
  time : Int
  value : Int
  ser : List Lb

def ptOf (lvs : List Lv) (A : List (List Lb)) (x : Sm) : Pt := ⟨x.time, x.value, serOf lvs A x.lb⟩
def liveB (c : Cf) (now t : Int) : Bool := !decide (c.keep < c.age now t)
/-- The points of all samples whose blocks are not expired. -/
def St.pts (s : St) : List Pt := (s.l.map (ptOf s.c.lvs s.adm)).filter fun p => liveB s.c s.now p.time

theorem pts_all (s : St) : s.l.map (ptOf s.c.lvs s.adm) = (List.zip s.l (serAll s.c.lvs [] s.l)).map fun p => ⟨p.1.time, p.1.value, p.2⟩ := by
  rw [serAll_eq]
  unfold St.adm
  generalize admAll s.c.lvs [] s.l = A
  induction s.l with
  | nil => rfl
  | cons x l ih => simp [ih, ptOf]
theorem pts_wr1 (s : St) (x : Sm) (hx : liveB s.c s.now x.time = true) : (s.wr [x]).pts = s.pts ++ [⟨x.time, x.value, serNow s.c.lvs s.adm x.lb⟩] := by
  unfold St.pts
  rw [pts_all, pts_all]
  show (((List.zip (s.l ++ [x]) (serAll s.c.lvs [] (s.l ++ [x]))).map _).filter _) = _
  rw [serAll_append, List.zip_append (serAll_len _ _ _).symm]
  show List.filter (fun p : Pt => liveB s.c s.now p.time) _ = _
  rw [List.map_append, List.filter_append]
  congr 1
  simp [serAll, hx, St.adm]
theorem live_iff (c : Cf) (now t : Int) : liveB c now t = true ↔ c.age now t ≤ c.keep := by
  unfold liveB
  by_cases h : c.keep < c.age now t
  · simp [h]
  · simp [h]; omega
theorem live_mono {c : Cf} (hc : 1 ≤ c.span) {now n t : Int} (hn : 0 ≤ n) (h : liveB c (now + n) t = true) : liveB c now t = true := by
  have : now / c.span ≤ (now + n) / c.span := Int.ediv_le_ediv (by omega) (by omega)
  rw [live_iff] at h ⊢
  unfold Cf.age at h ⊢
  omega
theorem pts_tk (s : St) (hc : 1 ≤ s.c.span) {n : Int} (hn : 0 ≤ n) : (s.tk n).pts = s.pts.filter fun p => liveB s.c (s.now + n) p.time := by
  show List.filter _ (List.map (ptOf s.c.lvs s.adm) s.l) = _
  unfold St.pts
  rw [List.filter_filter]
  apply List.filter_congr
  intro p _
  show liveB s.c (s.now + n) p.time = _
  cases h : liveB s.c (s.now + n) p.time
  · simp
  · simp [live_mono hc hn h]

/-! Queries. -/
/-- A point's key in a query, and its value. -/
def kvP (c : Cf) (now : Int) (q : Qy) (p : Pt) : Option (Key × Int) := if inQ q p.time then (grpOf q (p.ser.getD (c.lvl now p.time) over)).map fun g => (⟨stepOf q p.time, g.a, g.b, g.c⟩, p.value) else none
theorem inQ_live {c : Cf} (hc : 1 ≤ c.span) {now : Int} {q : Qy} (h : ¬ c.keep < c.age now q.fr) {t : Int} (ht : inQ q t = true) : liveB c now t = true := by
  simp [inQ] at ht
  have : q.fr / c.span ≤ t / c.span := Int.ediv_le_ediv (by omega) (by omega)
  rw [live_iff]
  unfold Cf.age at h ⊢
  omega
theorem kv_pts (s : St) (hc : 1 ≤ s.c.span) (q : Qy) (h : ¬ s.c.keep < s.c.age s.now q.fr) : kvOf q s.at s.l = s.pts.filterMap (kvP s.c s.now q) := by
  unfold kvOf St.pts
  have e : ∀ l : List Sm, l.filterMap (kv1 q s.at) = ((l.map (ptOf s.c.lvs s.adm)).filter fun p => liveB s.c s.now p.time).filterMap (kvP s.c s.now q) := by
    intro l
    induction l with
    | nil => rfl
    | cons x l ih =>
      have e1 : kv1 q s.at x = kvP s.c s.now q (ptOf s.c.lvs s.adm x) := rfl
      rw [List.filterMap_cons, List.map_cons, List.filter_cons, ih, e1]
      by_cases hl : liveB s.c s.now (ptOf s.c.lvs s.adm x).time = true
      · rw [if_pos hl, List.filterMap_cons]
      · rw [if_neg hl]
        have hi : inQ q x.time = false := by
          cases hq : inQ q x.time
          · rfl
          · exact absurd (inQ_live hc h hq) hl
        have : kvP s.c s.now q (ptOf s.c.lvs s.adm x) = none := by simp [kvP, ptOf, hi]
        rw [this]
  exact e s.l

/-! The error of a query by the level of its first block alone. -/
theorem lvlTo_mono (lvs : List Lv) {a a' : Int} (h : a ≤ a') : ∀ k, lvlTo lvs a k ≤ lvlTo lvs a' k := by
  intro k
  induction k with
  | zero => simp [lvlTo]
  | succ k ih =>
    unfold lvlTo
    by_cases h1 : 1 ≤ k ∧ (lvG lvs k).age ≤ a
    · rw [if_pos h1, if_pos ⟨h1.1, by omega⟩]; exact Nat.le_refl _
    · rw [if_neg h1]
      by_cases h2 : 1 ≤ k ∧ (lvG lvs k).age ≤ a'
      · rw [if_pos h2]
        by_cases hk : 1 ≤ k
        · have := lvlTo_lt lvs a k hk; omega
        · omega
      · rw [if_neg h2]; exact ih
theorem age_block {c : Cf} (hc : 1 ≤ c.span) (now b : Int) : c.age now (b * c.span) = now / c.span - b := by
  unfold Cf.age
  rw [Int.mul_ediv_cancel _ (by omega)]
theorem lvl_block {c : Cf} (hc : 1 ≤ c.span) (now t : Int) : c.lvl now (t / c.span * c.span) = c.lvl now t := by
  unfold Cf.lvl
  rw [age_block hc]
  rfl
theorem lvl_later {c : Cf} (hc : 1 ≤ c.span) (now b b' : Int) (h : b ≤ b') : c.lvl now (b' * c.span) ≤ c.lvl now (b * c.span) := by
  unfold Cf.lvl
  rw [age_block hc, age_block hc]
  exact lvlTo_mono _ (by omega) _
theorem win_dvd {c : Cf} (hc : c.right = true) : ∀ j i, i ≤ j → j < c.lvs.length → (lvG c.lvs i).window ∣ (lvG c.lvs j).window := by
  have hw : winsB c.lvs c.span = true := by
    simp only [Cf.right, rightB, Bool.and_eq_true] at hc
    exact hc.1.2
  intro j
  induction j with
  | zero => intro i hi _; have : i = 0 := by omega
            subst this; exact Int.dvd_refl _
  | succ j ih =>
    intro i hi hj
    by_cases h : i = j + 1
    · subst h; exact Int.dvd_refl _
    · have h1 := ih i (by omega) (by omega)
      have h2 := ((okWin_iff _ _ _).1 (List.all_eq_true.1 hw (j + 1) (List.mem_range.2 hj))).2.1
      rw [ahd_succ] at h2
      exact Int.dvd_trans h1 (Int.dvd_of_emod_eq_zero h2)
theorem blocks_any {c : Cf} {q : Qy} (hc : 1 ≤ c.span) (hq : q.fr < q.to) (p : Int → Bool) (hp : ∀ b, q.fr / c.span ≤ b → p b = true → p (q.fr / c.span) = true) : (blocks c q).any p = p (q.fr / c.span) := by
  have hd : q.fr / c.span ≤ (q.to - 1) / c.span := Int.ediv_le_ediv (by omega) (by omega)
  rw [Bool.eq_iff_iff, List.any_eq_true]
  constructor
  · rintro ⟨b, hb, h⟩
    unfold blocks at hb
    obtain ⟨i, _, rfl⟩ := List.mem_map.1 hb
    exact hp _ (by omega) h
  · intro h
    refine ⟨q.fr / c.span, ?_, h⟩
    unfold blocks
    exact List.mem_map.2 ⟨0, List.mem_range.2 (by omega), by simp⟩
def lostL (lvs : List Lv) (q : Qy) (n : Nat) : Bool := (List.range n).any fun j => lostB q (lvG lvs j)
theorem lost_first {c : Cf} {q : Qy} {now : Int} (hc : 1 ≤ c.span) (hq : q.fr < q.to) : (blocks c q).any (lostAt c now q) = lostL c.lvs q (c.lvl now q.fr + 1) := by
  rw [blocks_any hc hq]
  · unfold lostAt lostL; rw [lvl_block hc]
  · intro b hb h
    have hl := lvl_later hc now _ _ hb
    unfold lostAt at h ⊢
    rw [List.any_eq_true] at h ⊢
    obtain ⟨j, hj, h⟩ := h
    exact ⟨j, List.mem_range.2 (by have := List.mem_range.1 hj; omega), h⟩
def fitB (lv : Lv) (q : Qy) : Bool := decide (q.fr % lv.window = 0) && decide (q.step % lv.window = 0)
theorem win_first {c : Cf} {q : Qy} {now : Int} (hc : c.right = true) (hq : q.fr < q.to) : (blocks c q).any (winAt c now q) = !fitB (lvG c.lvs (c.lvl now q.fr)) q := by
  obtain ⟨h1, _⟩ := Cf.right_parts hc
  rw [blocks_any h1 hq]
  · unfold winAt fitB
    rw [lvl_block h1, Bool.eq_iff_iff]
    simp
  · intro b hb h
    have hl := lvl_later h1 now _ _ hb
    have hd := win_dvd hc _ _ hl (Cf.lvl_lt hc now _)
    unfold winAt at h ⊢
    simp at h ⊢
    have e : ∀ x : Int, x % (lvG c.lvs (c.lvl now (q.fr / c.span * c.span))).window = 0 → x % (lvG c.lvs (c.lvl now (b * c.span))).window = 0 := fun x hx =>
      Int.emod_eq_zero_of_dvd (Int.dvd_trans hd (Int.dvd_of_emod_eq_zero hx))
    rcases h with h | h
    · exact .inl fun x => h (e _ x)
    · exact .inr fun x => h (e _ x)
/-- The error of a query, as the program tells it. -/
theorem qE_eq {c : Cf} {q : Qy} {now : Int} (hc : c.right = true) : qE c now q = if rightQ q = false then 9 else if c.keep < c.age now q.fr then 10 else if lostL c.lvs q (c.lvl now q.fr + 1) then 11 else if fitB (lvG c.lvs (c.lvl now q.fr)) q = false then 12 else 0 := by
  obtain ⟨h1, _⟩ := Cf.right_parts hc
  unfold qE
  by_cases hr : rightQ q = false
  · rw [if_pos hr, if_pos hr]
  · rw [if_neg hr, if_neg hr]
    have hq : q.fr < q.to := by
      have : rightQ q = true := by simpa using hr
      simp only [rightQ, Bool.and_eq_true, decide_eq_true_eq] at this
      exact this.1.1.1.1.1.1.1.1.2
    rw [lost_first h1 hq, win_first hc hq]
    cases fitB (lvG c.lvs (c.lvl now q.fr)) q <;> simp

end Go.Proofs.YthciddpljcbhiabGreatDoor

/- A table of rows: a value put to its row, found from the front, or put in from the back (no program). -/
namespace Go.Proofs.YthciddpljcbhiabGreatDoor

def Rw.zero : Rw := ⟨⟨0, 0, 0, 0⟩, ⟨0, 0, 0, 0⟩⟩
def rwG (l : List Rw) (i : Nat) : Rw := l.getD i Rw.zero
theorem rwG_get (l : List Rw) (i : Nat) (h : i < l.length) : rwG l i = l[i] := by simp [rwG, List.getD, h]

theorem addR_found : ∀ {l : List Rw} {k : Key} {v : Int} (i : Nat), l.Pairwise (fun a b => a.key.lt b.key) → i < l.length → (rwG l i).key = k →
    addR l k v = l.set i ⟨k, (rwG l i).ag.join (.one v)⟩
  | [], _, _, i, _, h, _ => by simp at h
  | y :: l, k, v, 0, _, _, hk => by
    have : y.key = k := by simpa [rwG] using hk
    simp [addR, this, rwG]
  | y :: l, k, v, i + 1, hp, hi, hk => by
    obtain ⟨h1, h2⟩ := List.pairwise_cons.1 hp
    have hi' : i < l.length := by simpa using hi
    have hk' : (rwG l i).key = k := by simpa [rwG] using hk
    have hlt : y.key.lt k := by rw [← hk', rwG_get l i hi']; exact h1 _ (List.getElem_mem _)
    have hne : ¬ y.key = k := fun e => by rw [e] at hlt; exact Key.lt_irrefl _ hlt
    have hnl : ¬ k.lt y.key := Key.lt_asymm hlt
    have ih := addR_found (v := v) i h2 hi' hk'
    simp only [addR, if_neg hne, if_neg hnl, ih]
    simp [rwG]

theorem addR_new : ∀ {l : List Rw} {k : Key} {v : Int} (m : Nat), m ≤ l.length → (∀ i, i < m → (rwG l i).key.lt k) → (m < l.length → k.lt (rwG l m).key) →
    addR l k v = l.take m ++ [⟨k, .one v⟩] ++ l.drop m
  | [], k, v, m, _, _, _ => by simp [addR]
  | y :: l, k, v, 0, _, _, hk => by
    have hlt : k.lt y.key := by simpa [rwG] using hk (by simp)
    have hne : ¬ y.key = k := fun e => by rw [e] at hlt; exact Key.lt_irrefl _ hlt
    simp [addR, if_neg hne, if_pos hlt]
  | y :: l, k, v, m + 1, hm, hl, hk => by
    have hlt : y.key.lt k := by simpa [rwG] using hl 0 (by omega)
    have hne : ¬ y.key = k := fun e => by rw [e] at hlt; exact Key.lt_irrefl _ hlt
    have hnl : ¬ k.lt y.key := Key.lt_asymm hlt
    have ih := addR_new (l := l) (k := k) (v := v) m (by simpa using hm) (fun i hi => by simpa [rwG] using hl (i + 1) (by omega)) (fun h => by simpa [rwG] using hk (by simpa using h))
    simp only [addR, if_neg hne, if_neg hnl, ih]
    simp

/-- Rows by rising keys that have not the key: those ahead of it stand ahead of all others. -/
theorem up_le {l : List Rw} (h : l.Pairwise fun a b => a.key.lt b.key) {i j : Nat} (hij : i < j) (hj : j < l.length) : (rwG l i).key.lt (rwG l j).key := by
  rw [rwG_get l i (by omega), rwG_get l j hj]
  exact List.pairwise_iff_getElem.1 h i j (by omega) hj hij
theorem addR_at {l : List Rw} (h : l.Pairwise fun a b => a.key.lt b.key) {k : Key} (v : Int) (hno : ∀ i, i < l.length → (rwG l i).key ≠ k) {m : Nat} (hm : m ≤ l.length)
    (ha : ∀ i, m ≤ i → i < l.length → k.lt (rwG l i).key) (hb : 0 < m → ¬ k.lt (rwG l (m - 1)).key) : addR l k v = l.take m ++ [⟨k, .one v⟩] ++ l.drop m := by
  refine addR_new m hm (fun i hi => ?_) (fun hlt => ha m (Nat.le_refl _) hlt)
  have h1 : (rwG l (m - 1)).key.lt k := by
    rcases Key.tri (rwG l (m - 1)).key k with e | e | e
    · exact e
    · exact absurd e (hno _ (by omega))
    · exact absurd e (hb (by omega))
  by_cases e : i = m - 1
  · rw [e]; exact h1
  · exact Key.lt_trans (up_le h (by omega) (by omega)) h1

/-! How great the numbers of a row can be. -/
structure Bd (n : Nat) (a : Ag) : Prop where
  c1 : 1 ≤ a.cnt
  cn : a.cnt ≤ n
  s0 : -(2147483648 * a.cnt) ≤ a.sum
  s1 : a.sum ≤ 2147483648 * a.cnt
  m0 : -2147483648 ≤ a.mn
  m1 : a.mn ≤ 2147483647
  x0 : -2147483648 ≤ a.mx
  x1 : a.mx ≤ 2147483647
theorem bd_one {v : Int} (h0 : -2147483648 ≤ v) (h1 : v ≤ 2147483647) : Bd 1 (.one v) := by
  constructor <;> simp [Ag.one] <;> omega
theorem Bd.join {n m : Nat} {a b : Ag} (h : Bd n a) (k : Bd m b) : Bd (n + m) (a.join b) := by
  obtain ⟨h1, h2, h3, h4, h5, h6, h7, h8⟩ := h
  obtain ⟨k1, k2, k3, k4, k5, k6, k7, k8⟩ := k
  constructor <;> simp [Ag.join] <;> omega
theorem Bd.mono {n m : Nat} {a : Ag} (h : Bd n a) (hm : n ≤ m) : Bd m a := by
  obtain ⟨h1, h2, h3, h4, h5, h6, h7, h8⟩ := h
  exact ⟨h1, by omega, h3, h4, h5, h6, h7, h8⟩
def v32 (v : Int) : Prop := -2147483648 ≤ v ∧ v ≤ 2147483647
theorem bd_of : ∀ {l : List Int}, (∀ v ∈ l, v32 v) → ∀ a, agOf l = some a → Bd l.length a
  | [], _, a, h => by simp at h
  | v :: l, hv, a, h => by
    have h1 := hv v (by simp)
    cases hl : agOf l with
    | none =>
      rw [agOf_cons, hl] at h
      simp at h
      subst h
      exact (bd_one h1.1 h1.2).mono (by simp)
    | some b =>
      rw [agOf_cons, hl] at h
      have : (Ag.one v).join b = a := by simpa [oj] using h
      subst this
      have := (bd_one h1.1 h1.2).join (bd_of (fun u hu => hv u (by simp [hu])) b hl)
      exact this.mono (by simp; omega)
theorem IsRows.bd {l : List Rw} {kv : List (Key × Int)} (h : IsRows l kv) (hv : ∀ p ∈ kv, v32 p.2) {r : Rw} (hr : r ∈ l) : Bd kv.length r.ag := by
  have e := h.ag r hr
  refine (bd_of ?_ _ e).mono ?_
  · intro v hv'
    unfold valsOf at hv'
    obtain ⟨p, hp, rfl⟩ := List.mem_map.1 hv'
    exact hv p (List.mem_filter.1 hp).1
  · unfold valsOf
    rw [List.length_map]
    exact List.length_filter_le _ _
theorem addR_len (l : List Rw) (k : Key) (v : Int) : (addR l k v).length ≤ l.length + 1 := by
  induction l with
  | nil => simp [addR]
  | cons y l ih =>
    unfold addR
    repeat (first | split | simp)
    omega
theorem rows_len (kv : List (Key × Int)) : ∀ l : List Rw, (kv.foldl (fun l p => addR l p.1 p.2) l).length ≤ l.length + kv.length := by
  induction kv with
  | nil => intro l; simp
  | cons p kv ih =>
    intro l
    have h1 := ih (addR l p.1 p.2)
    have h2 := addR_len l p.1 p.2
    simp only [List.foldl_cons, List.length_cons]
    omega
theorem rowsOf_len (kv : List (Key × Int)) : (rowsOf kv).length ≤ kv.length := by
  have := rows_len kv []
  simpa [rowsOf] using this

end Go.Proofs.YthciddpljcbhiabGreatDoor

/- Points, what is admitted, rows: their cells in memory; a frame by a set of blocks (no program). -/
namespace Go.Proofs.YthciddpljcbhiabGreatDoor
open Go Go.RowKit

/-! Cells. -/
def Lb.zero : Lb := ⟨0, 0, 0⟩
def lbC (l : Lb) : List Value := [.int .u8 l.a, .int .u8 l.b, .int .u8 l.c]
def sG (p : Pt) (i : Nat) : Lb := p.ser.getD i Lb.zero
def Pt.cells (p : Pt) : List Value := [.int .i64 p.time, .int .i32 p.value, .int .u8 (sG p 0).a, .int .u8 (sG p 0).b, .int .u8 (sG p 0).c, .int .u8 (sG p 1).a, .int .u8 (sG p 1).b, .int .u8 (sG p 1).c,
  .int .u8 (sG p 2).a, .int .u8 (sG p 2).b, .int .u8 (sG p 2).c, .int .u8 (sG p 3).a, .int .u8 (sG p 3).b, .int .u8 (sG p 3).c]
def flatP (l : List Pt) : List Value := l.flatMap Pt.cells
theorem len14 (p : Pt) : p.cells.length = 14 := rfl
theorem flatP_len (l : List Pt) : (flatP l).length = l.length * 14 := flat_length _ 14 len14 l
def Pt.zero : Pt := ⟨0, 0, []⟩
def ptG (l : List Pt) (i : Nat) : Pt := l.getD i Pt.zero
theorem ptG_get (l : List Pt) (i : Nat) (h : i < l.length) : ptG l i = l[i] := by simp [ptG, List.getD, h]
def Ad.cells (a : Ad) : List Value := [.int .i64 a.lv, .int .u8 a.nm.a, .int .u8 a.nm.b, .int .u8 a.nm.c]
def flatA (l : List Ad) : List Value := l.flatMap Ad.cells
theorem len4A (a : Ad) : a.cells.length = 4 := rfl
theorem flatA_len (l : List Ad) : (flatA l).length = l.length * 4 := flat_length _ 4 len4A l
def Ad.zero : Ad := ⟨0, Lb.zero⟩
def adG (l : List Ad) (i : Nat) : Ad := l.getD i Ad.zero
theorem adG_get (l : List Ad) (i : Nat) (h : i < l.length) : adG l i = l[i] := by simp [adG, List.getD, h]
def Rw.cells (r : Rw) : List Value := [.int .i64 r.key.st, .int .u8 r.key.g0, .int .u8 r.key.g1, .int .u8 r.key.g2, .int .i64 r.ag.cnt, .int .i64 r.ag.sum, .int .i32 r.ag.mn, .int .i32 r.ag.mx]
def flatR (l : List Rw) : List Value := l.flatMap Rw.cells
theorem len8 (r : Rw) : r.cells.length = 8 := rfl
theorem flatR_len (l : List Rw) : (flatR l).length = l.length * 8 := flat_length _ 8 len8 l

theorem one_of {α : Type} (f : α → List Value) (h : ∀ a, ∀ v ∈ f a, v.oneCell' = true) (l : List α) : ∀ v ∈ l.flatMap f, v.oneCell' = true := by
  intro v hv
  obtain ⟨a, _, hv⟩ := List.mem_flatMap.1 hv
  exact h a v hv
theorem Pt.one (p : Pt) : ∀ v ∈ p.cells, v.oneCell' = true := by intro v hv; simp [Pt.cells] at hv; rcases hv with h | h | h | h | h | h | h | h | h | h | h | h | h | h <;> subst h <;> rfl
theorem Ad.one (p : Ad) : ∀ v ∈ p.cells, v.oneCell' = true := by intro v hv; simp [Ad.cells] at hv; rcases hv with h | h | h | h <;> subst h <;> rfl
theorem Rw.one (p : Rw) : ∀ v ∈ p.cells, v.oneCell' = true := by intro v hv; simp [Rw.cells] at hv; rcases hv with h | h | h | h | h | h | h | h <;> subst h <;> rfl

/-- The cells of one element of a row that lies from a place on. -/
theorem at_elem {α : Type} (f : α → List Value) (sz : Nat) (hf : ∀ a, (f a).length = sz) {w : World} {b off : Nat} {l : List α} (h : At w b off (l.flatMap f)) (i : Nat) (hi : i < l.length) (j : Nat) (v : Value) (hv : (f l[i])[j]? = some v) :
    w.cell? ⟨b, off + (i * sz + j), none⟩ = some v := by
  have hj : j < sz := by rw [← hf l[i]]; exact (List.getElem?_eq_some_iff.1 hv).1
  exact h (i * sz + j) v (by rw [flat_get f sz hf l i j hj hi]; exact hv)

/-- An owned row lies in its block. -/
theorem owns_at {w : World} {base : Nat} {e : TypeId} {size : Nat} {g n cap : Nat} {xs : List Value} (h : w.ownsRow base e size (.slice (some ⟨g, 0, none⟩) n cap) n xs) : At w g 0 xs := by
  intro j v hj
  have := h.cells (g := g) rfl j v hj
  rw [Addr.add_lit] at this
  exact this

/-! A frame: what is in none of these blocks reads as it did. -/
structure Fr (S : Nat → Prop) (w w' : World) : Prop where
  os : w'.os = w.os
  tape : w'.tape = w.tape
  output : w'.output = w.output
  size : w.heap.size ≤ w'.heap.size
  block : ∀ k, k < w.heap.size → ¬ S k → w'.heap[k]? = w.heap[k]?
theorem Fr.refl (S : Nat → Prop) (w : World) : Fr S w w := ⟨rfl, rfl, rfl, Nat.le_refl _, fun _ _ _ => rfl⟩
theorem Fr.of_below {S : Nat → Prop} {w w' : World} (h : Below w.heap.size w w') : Fr S w w' := ⟨h.os, h.tape, h.output, h.size, fun k hk _ => h.block k hk⟩
theorem Fr.trans {S S' : Nat → Prop} {a b c : World} (h : Fr S a b) (h' : Fr S' b c) (hs : ∀ k, S' k → S k ∨ a.heap.size ≤ k) : Fr S a c :=
  ⟨h'.os.trans h.os, h'.tape.trans h.tape, h'.output.trans h.output, Nat.le_trans h.size h'.size, fun k hk hn =>
    (h'.block k (Nat.lt_of_lt_of_le hk h.size) (fun e => by rcases hs k e with e | e; exact hn e; omega)).trans (h.block k hk hn)⟩
theorem Fr.mono {S S' : Nat → Prop} {w w' : World} (h : Fr S w w') (hs : ∀ k, S k → S' k) : Fr S' w w' := ⟨h.os, h.tape, h.output, h.size, fun k hk hn => h.block k hk fun e => hn (hs k e)⟩
theorem Fr.below {S : Nat → Prop} {w w' : World} {B : Nat} (h : Fr S w w') (hB : B ≤ w.heap.size) (hs : ∀ k, S k → B ≤ k) : Below B w w' := ⟨h.os, h.tape, h.output, h.size, fun k hk => h.block k (by omega) fun e => by have := hs k e; omega⟩
theorem Fr.alloc {S : Nat → Prop} {a w : World} (h : Fr S a w) (o : Obj) : Fr S a (w.alloc o) :=
  h.trans (S' := fun _ => False) (Fr.of_below ((Below.refl _ _).alloc (Nat.le_refl _) o)) (fun _ e => e.elim)
theorem Fr.drew {S : Nat → Prop} {a w : World} (h : Fr S a w) : Fr S a w.drew := ⟨h.os, h.tape, h.output, h.size, h.block⟩
theorem Fr.setCell {S : Nat → Prop} {a w : World} (h : Fr S a w) {p : Addr} (hp : S p.block ∨ a.heap.size ≤ p.block) (u : Value) : Fr S a (w.setCell p u) :=
  h.trans (S' := fun k => k = p.block) ⟨rfl, rfl, rfl, by simp [World.setCell], fun k _ hn => Below.heap_setCell _ _ _ _ hn⟩ (fun k e => by subst e; exact hp)
theorem Fr.grown {S : Nat → Prop} {a w w' : World} {row : Option Nat} (h : Fr S a w) (hg : w.grownBy w' row) (hr : ∀ k, row = some k → S k ∨ a.heap.size ≤ k) : Fr S a w' :=
  h.trans (S' := fun k => row = some k) ⟨hg.os, hg.tape, hg.output, hg.size, fun k hk hn => hg.block k hk fun e => hn e.symm⟩ (fun k e => hr k e)
theorem Fr.cell {S : Nat → Prop} {w w' : World} (h : Fr S w w') {p : Addr} (hp : p.block < w.heap.size) (hn : ¬ S p.block) : w'.cell? p = w.cell? p := World.cell?_of_block (h.block _ hp hn)
theorem Fr.frozen {S : Nat → Prop} {w w' : World} (h : Fr S w w') {p : Addr} (hp : p.block < w.heap.size) (hn : ¬ S p.block) : w'.frozen? p = w.frozen? p := World.frozen?_of_block (h.block _ hp hn)
theorem At.fr {S : Nat → Prop} {w w' : World} {b off : Nat} {C : List Value} (h : At w b off C) (hf : Fr S w w') (hn : ¬ S b) : At w' b off C := by
  intro j v hj
  have h1 := h j v hj
  rw [hf.cell (p := ⟨b, off + j, none⟩) (World.block_lt_of_cell? w _ h1) hn]
  exact h1
theorem owns_fr {S : Nat → Prop} {w w' : World} {base : Nat} {e : TypeId} {size : Nat} {v : Value} {n : Nat} {xs : List Value} (h : w.ownsRow base e size v n xs) (hf : Fr S w w') (hn : ∀ k, v.ownBlock = some k → ¬ S k) : w'.ownsRow base e size v n xs := by
  refine ⟨h.1, ?_⟩
  rcases h.2 with hn' | ⟨g, cap, cur, rfl, hb, hgg, rest⟩
  · exact .inl hn'
  · refine .inr ⟨g, cap, cur, rfl, hb, ?_, rest⟩
    rw [hf.block g (Array.getElem?_eq_some_iff.1 hgg).1 (hn g rfl)]
    exact hgg
theorem owns_base {w : World} {base base' : Nat} {e : TypeId} {size : Nat} {v : Value} {n : Nat} {xs : List Value} (h : w.ownsRow base e size v n xs) (hb : ∀ k, v.ownBlock = some k → base' ≤ k) : w.ownsRow base' e size v n xs := by
  refine ⟨h.1, ?_⟩
  rcases h.2 with hn' | ⟨g, cap, cur, rfl, _, hgg, rest⟩
  · exact .inl hn'
  · exact .inr ⟨g, cap, cur, rfl, hb g rfl, hgg, rest⟩

end Go.Proofs.YthciddpljcbhiabGreatDoor

/- Rows of the call's own: elements set, elements appended (any program). -/
namespace Go.Proofs.YthciddpljcbhiabGreatDoor
open Go Go.RowKit

theorem infP {P : Program} {t : TypeId} {z : Value} {n b : Nat} (h : (P.info? t).map (fun i => (i.zero, i.size, i.bytes)) = some (some z, n, b)) : ∃ i, P.info? t = some i ∧ i.zero = some z ∧ i.size = n ∧ i.bytes = b := by
  cases hq : P.info? t with
  | none => simp [hq] at h
  | some i => rw [hq] at h; simp at h; exact ⟨i, rfl, h⟩

theorem ownForm {w : World} {B : Nat} {e : TypeId} {sz : Nat} {v : Value} {n : Nat} {xs : List Value} (h : w.ownsRow B e sz v n xs) : ∃ a cap, v = .slice a n cap := by
  rcases h.2 with ⟨rfl, rfl⟩ | ⟨g, cap, cur, rfl, _⟩
  · exact ⟨none, 0, rfl⟩
  · exact ⟨_, cap, rfl⟩
theorem ownBlockForm {w : World} {B : Nat} {e : TypeId} {sz : Nat} {v : Value} {n : Nat} {xs : List Value} (h : w.ownsRow B e sz v n xs) (hn : 0 < n) : ∃ g cap, v = .slice (some ⟨g, 0, none⟩) n cap ∧ B ≤ g ∧ g < w.heap.size ∧ n ≤ cap := by
  rcases h.2 with ⟨_, rfl⟩ | ⟨g, cap, cur, rfl, hb, hg, hc, _⟩
  · omega
  · exact ⟨g, cap, rfl, hb, (Array.getElem?_eq_some_iff.1 hg).1, hc⟩

theorem owns_set {w : World} {base : Nat} {e : TypeId} {size g n cap : Nat} {xs : List Value} (h : w.ownsRow base e size (.slice (some ⟨g, 0, none⟩) n cap) n xs) {j : Nat} (u : Value) :
    (w.setCell ⟨g, j, none⟩ u).ownsRow base e size (.slice (some ⟨g, 0, none⟩) n cap) n (xs.set j u) := by
  rcases h.2 with ⟨h', _⟩ | ⟨g', cap', cur, he, hb, hg, hnc, hcm, hcs, ht⟩
  · cases h'
  · obtain ⟨rfl, rfl⟩ : g = g' ∧ cap = cap' := by injection he with h1 h2 h3; injection h1 with h1; injection h1 with h1 h4; exact ⟨h1, h3⟩
    refine ⟨by rw [List.length_set]; exact h.1, .inr ⟨g, cap, cur.setIfInBounds j u, rfl, hb, ?_, hnc, hcm, by simp [hcs], ?_⟩⟩
    · rw [setCell_eq_setRow w g j cur e (0, 0) u hg]
      exact setRow_heap w g cur _ e _ hg
    · rw [Array.toList_setIfInBounds, List.take_set, ht]
theorem owns_cell {w : World} {base : Nat} {e : TypeId} {size g n cap : Nat} {xs : List Value} (h : w.ownsRow base e size (.slice (some ⟨g, 0, none⟩) n cap) n xs) {j : Nat} {v : Value} (hv : xs[j]? = some v) : w.cell? ⟨g, j, none⟩ = some v := by
  have := owns_at h j v hv
  rwa [Nat.zero_add] at this
theorem owns_frozen {w : World} {base : Nat} {e : TypeId} {size g n cap : Nat} {xs : List Value} (h : w.ownsRow base e size (.slice (some ⟨g, 0, none⟩) n cap) n xs) (j : Nat) : w.frozen? ⟨g, j, none⟩ = false := by
  rcases h.2 with ⟨h', _⟩ | ⟨g', cap', cur, he, hb, hg, _⟩
  · cases h'
  · obtain ⟨rfl, rfl⟩ : g = g' ∧ cap = cap' := by injection he with h1 h2 h3; injection h1 with h1; injection h1 with h1 h4; exact ⟨h1, h3⟩
    simp [World.frozen?, hg]
theorem owns_other {w : World} {base : Nat} {e : TypeId} {size : Nat} {v : Value} {n : Nat} {xs : List Value} (h : w.ownsRow base e size v n xs) {b o : Nat} {u : Value} (hb : v.ownBlock ≠ some b) : (w.setCell ⟨b, o, none⟩ u).ownsRow base e size v n xs := by
  refine ⟨h.1, ?_⟩
  rcases h.2 with hn | ⟨g, cap, cur, rfl, hb', hg, rest⟩
  · exact .inl hn
  · refine .inr ⟨g, cap, cur, rfl, hb', ?_, rest⟩
    rw [Below.heap_setCell _ _ _ _ (fun e => hb (by rw [e]; rfl))]
    exact hg
theorem owns_drewN {w : World} {base : Nat} {e : TypeId} {size : Nat} {v : Value} {n : Nat} {xs : List Value} (h : w.ownsRow base e size v n xs) (d : Nat) : (w.drewN d).ownsRow base e size v n xs := h
theorem owns_drew {w : World} {base : Nat} {e : TypeId} {size : Nat} {v : Value} {n : Nat} {xs : List Value} (h : w.ownsRow base e size v n xs) : w.drew.ownsRow base e size v n xs := h
/-- Below a number that is below the row's block. -/
theorem owns_below {w w' : World} {base : Nat} {e : TypeId} {size : Nat} {v : Value} {n : Nat} {xs : List Value} (h : w.ownsRow base e size v n xs) {B : Nat} (hb : Below B w w') (hk : ∀ k, v.ownBlock = some k → k < B) : w'.ownsRow base e size v n xs := by
  refine ⟨h.1, ?_⟩
  rcases h.2 with hn | ⟨g, cap, cur, rfl, hb', hg, rest⟩
  · exact .inl hn
  · refine .inr ⟨g, cap, cur, rfl, hb', ?_, rest⟩
    rw [hb.block g (hk g rfl)]
    exact hg

theorem cell_alloc2 {w : World} {o1 o2 : Obj} {b o : Nat} {v : Value} (h : w.cell? ⟨b, o, none⟩ = some v) : ((w.alloc o1).alloc o2).cell? ⟨b, o, none⟩ = some v := by
  have hb := World.block_lt_of_cell? w _ h
  rw [(((Below.refl w.heap.size w).alloc (Nat.le_refl _) o1).alloc (by simp) o2).cell (p := ⟨b, o, none⟩) hb]
  exact h
theorem frozen_alloc2 {w : World} {o1 o2 : Obj} {b o : Nat} (hb : b < w.heap.size) (h : w.frozen? ⟨b, o, none⟩ = false) : ((w.alloc o1).alloc o2).frozen? ⟨b, o, none⟩ = false := by
  rw [(((Below.refl w.heap.size w).alloc (Nat.le_refl _) o1).alloc (by simp) o2).frozen (p := ⟨b, o, none⟩) hb]
  exact h
theorem cell_alloc1 {w : World} {o1 : Obj} {b o : Nat} {v : Value} (h : w.cell? ⟨b, o, none⟩ = some v) : (w.alloc o1).cell? ⟨b, o, none⟩ = some v := by
  have hb := World.block_lt_of_cell? w _ h
  rw [((Below.refl w.heap.size w).alloc (Nat.le_refl _) o1).cell (p := ⟨b, o, none⟩) hb]
  exact h
theorem frozen_alloc1 {w : World} {o1 : Obj} {b o : Nat} (hb : b < w.heap.size) (h : w.frozen? ⟨b, o, none⟩ = false) : (w.alloc o1).frozen? ⟨b, o, none⟩ = false := by
  rw [((Below.refl w.heap.size w).alloc (Nat.le_refl _) o1).frozen (p := ⟨b, o, none⟩) hb]
  exact h

theorem gr_undrew {W w3 : World} {r : Option Nat} (h : W.drew.grownBy w3 r) : W.grownBy w3 r := ⟨h.os, h.tape, h.output, h.size, h.block⟩
theorem gr_below {w W w3 : World} {r : Option Nat} {B : Nat} (hb : Below B w W) (h : W.grownBy w3 r) (hB : B ≤ W.heap.size) (hr : ∀ k, r = some k → B ≤ k) : Below B w w3 := hb.grown h hB hr
/-- A block that is not the row's own, behind an append. -/
theorem gr_heap {w W w3 : World} {v : Value} {X : Nat} (hb : Below w.heap.size w W) (h : W.grownBy w3 v.ownBlock) (hX : X < w.heap.size) (hne : v.ownBlock ≠ some X) : w3.heap[X]? = w.heap[X]? := by
  rw [h.block X (by have := hb.size; omega) (fun e => hne e.symm), hb.block X hX]
theorem gr_ne {w W : World} {v v' : Value} {X : Nat} (hb : Below w.heap.size w W) (hblk : v'.ownBlock = v.ownBlock ∨ ∀ k, v'.ownBlock = some k → W.heap.size ≤ k) (hX : X < w.heap.size) (hne : v.ownBlock ≠ some X) : v'.ownBlock ≠ some X := by
  rcases hblk with h | h
  · rw [h]; exact hne
  · intro e; have := h X e; have := hb.size; omega
theorem heap_setCell {w : World} {X o : Nat} {C : Array Value} {t : TypeId} {fr : Nat × Nat} {v : Value} (h : w.heap[X]? = some (.cells C t fr)) : (w.setCell ⟨X, o, none⟩ v).heap[X]? = some (.cells (C.setIfInBounds o v) t fr) := by
  rw [setCell_eq_setRow w X o C t fr v h]
  exact setRow_heap w X C _ t _ h

/-- The cells of a new block. -/
theorem newAt (w : World) (l : List Value) (t : TypeId) (g : Nat) (hg : g = w.heap.size) : ∀ j u, l[j]? = some u → (w.alloc (.cells l.toArray t)).cell? ((⟨g, 0, none⟩ : Addr).add j) = some u := by
  subst hg
  intro j u hj
  have h := at_alloc_new w l t j u hj
  rw [Nat.zero_add] at h
  rw [Addr.add_lit, Nat.zero_add]
  exact h

/-- An append leaves the row where it was, or makes a new block. -/
theorem append_block {P : Program} {w : World} (base : Nat) (t ty e : TypeId) (i : TypeInfo) (z : Value) (size bytes : Nat) (ht : P.underlying t = some (.slice e)) (hi : P.info? e = some i) (hz : i.zero = some z)
    (hsize : i.size = size) (hby : i.bytes = bytes) (hzs : z.cells.size = size) (hsz : 0 < size) (v : Value) (n : Nat) (xs : List Value) (hown : w.ownsRow base e size v n xs)
    (a : Addr) (m c : Nat) (news : List Value) (hl : news.length = m * size) (hnews : ∀ j u, news[j]? = some u → w.cell? (a.add j) = some u) (h1 : ∀ u ∈ news, u.oneCell' = true)
    (h63 : n + m ≤ maxLen) (hbytes : (n + m) * bytes ≤ 140737488355328) {v' : Value} {w' : World} (hr : (Builtin.append_ #[t, t] ty #[v, .slice (some a) m c]).run P w = .ok v' w') :
    v'.ownBlock = v.ownBlock ∨ ∀ k, v'.ownBlock = some k → w.heap.size ≤ k := by
  have hlen := hown.1
  rcases hown.2 with ⟨rfl, rfl⟩ | ⟨g, cap, cur, rfl, hbg, hg, hnc, hcm, hcs, htake⟩
  · obtain rfl : xs = [] := List.eq_nil_of_length_eq_zero (by simpa using hlen)
    obtain ⟨v2, w2, hr2, h2, _, _⟩ := run_append_own (P := P) w w.heap.size t ty e i z size bytes ht hi hz hsize hby hzs hsz (.slice none 0 0) 0 [] (World.ownsRow_nil _ _ _ _) a m c news hl hnews h1 h63 hbytes (Nat.le_refl _)
    rw [hr2] at hr
    injection hr with h3 _
    subst h3
    exact .inr fun k hk => (h2.lt k hk).1
  · subst hsize hby
    by_cases hroom : n + m ≤ cap
    · have hfit : n * i.size + news.length ≤ cur.size := by rw [hl, hcs, ← Nat.add_mul]; exact Nat.mul_le_mul_right _ hroom
      have hr2 := run_append_room (P := P) w t ty e i ht hi g n cap cur hg a m c news hl hnews h1 hroom hfit
      rw [hr2] at hr
      injection hr with h3 _
      subst h3
      exact .inl rfl
    · have holds : ∀ j u, xs[j]? = some u → w.cell? ((⟨g, 0, none⟩ : Addr).add j) = some u := hown.cells (g := g) rfl
      have hsm : n + m ≤ 9223372036854775807 := by simp only [maxLen] at h63; omega
      have hr2 := run_append_grow (P := P) w t ty e i z ht hi hz ⟨g, 0, none⟩ n cap xs hown.1 holds a m c news hl hnews (by omega) (by omega) (growslice_fits (by omega) hbytes)
      rw [hr2] at hr
      injection hr with h3 _
      subst h3
      refine .inr fun k hk => ?_
      simp [Value.ownBlock] at hk
      omega

/-- An append onto a row of the call's own, as one step of a region that draws its order. -/
theorem stepAppend {P : Program} {w : World} {ops : Array Oper} {o : Oper} {a : Act} {K : Act → World → Prop} {Q : Exit → Act → World → Prop} {E : Prop} (hgd : o.guard = none) (s x : Operand) (t : TypeId)
    (ho : o.op = .call { callee := .builtin .append, args := #[s, x], argTypes := #[t, t] })
    (base : Nat) (e : TypeId) (i : TypeInfo) (z : Value) (size bytes : Nat) (ht : P.underlying t = some (.slice e)) (hi : P.info? e = some i) (hz : i.zero = some z)
    (hsize : i.size = size) (hby : i.bytes = bytes) (hzs : z.cells.size = size) (hsz : 0 < size)
    (v : Value) (n : Nat) (xs : List Value) (hs : a.eval s = v) (hown : w.ownsRow base e size v n xs)
    (ad : Addr) (m c : Nat) (news : List Value) (hx : a.eval x = .slice (some ad) m c) (hl : news.length = m * size) (hnews : ∀ j u, news[j]? = some u → w.cell? (ad.add j) = some u) (h1 : ∀ u ∈ news, u.oneCell' = true)
    (h63 : n + m ≤ maxLen) (hbytes : (n + m) * bytes ≤ 140737488355328) (hbase : base ≤ w.heap.size)
    (h : ∀ v' w', w'.ownsRow base e size v' (n + m) (xs ++ news) → w.grownBy w' v.ownBlock → (v'.ownBlock = v.ownBlock ∨ ∀ k, v'.ownBlock = some k → w.heap.size ≤ k) → K (a.put o.dst v') w') :
    if Region.wanted o (yielded ops a.tmps) = true then Oper.wp P o a w K Q else E := by
  have hw : Region.wanted o (yielded ops a.tmps) = true := by simp [Region.wanted, hgd]
  rw [if_pos hw]
  obtain ⟨v', w', hr, h2, h3, _⟩ := run_append_own (P := P) w base t o.type e i z size bytes ht hi hz hsize hby hzs hsz v n xs hown ad m c news hl hnews h1 h63 hbytes hbase
  have hk := append_block base t o.type e i z size bytes ht hi hz hsize hby hzs hsz v n xs hown ad m c news hl hnews h1 h63 hbytes hr
  unfold Oper.wp execOp
  simp only [ho, resolve, invoke, builtin, Sem.run_bind, Sem.run_pure, Result.andThen_ok, List.map_toArray, List.map_cons, List.map_nil, hs, hx, hr]
  exact h v' w' h2 h3 hk

/-- The same, as a step of a list. -/
theorem listAppend {P : Program} {w : World} {ops : Array Oper} {rest : List Oper} {o : Oper} {a : Act} {Q : Exit → Act → World → Prop} (hgd : o.guard = none) (s x : Operand) (t : TypeId)
    (ho : o.op = .call { callee := .builtin .append, args := #[s, x], argTypes := #[t, t] })
    (base : Nat) (e : TypeId) (i : TypeInfo) (z : Value) (size bytes : Nat) (ht : P.underlying t = some (.slice e)) (hi : P.info? e = some i) (hz : i.zero = some z)
    (hsize : i.size = size) (hby : i.bytes = bytes) (hzs : z.cells.size = size) (hsz : 0 < size)
    (v : Value) (n : Nat) (xs : List Value) (hs : a.eval s = v) (hown : w.ownsRow base e size v n xs)
    (ad : Addr) (m c : Nat) (news : List Value) (hx : a.eval x = .slice (some ad) m c) (hl : news.length = m * size) (hnews : ∀ j u, news[j]? = some u → w.cell? (ad.add j) = some u) (h1 : ∀ u ∈ news, u.oneCell' = true)
    (h63 : n + m ≤ maxLen) (hbytes : (n + m) * bytes ≤ 140737488355328) (hbase : base ≤ w.heap.size)
    (h : ∀ v' w', w'.ownsRow base e size v' (n + m) (xs ++ news) → w.grownBy w' v.ownBlock → (v'.ownBlock = v.ownBlock ∨ ∀ k, v'.ownBlock = some k → w.heap.size ≤ k) → wpList P ops Q rest (a.put o.dst v') w') : wpList P ops Q (o :: rest) a w := by
  refine wpList_plain hgd fun K hK => ?_
  obtain ⟨v', w', hr, h2, h3, _⟩ := run_append_own (P := P) w base t o.type e i z size bytes ht hi hz hsize hby hzs hsz v n xs hown ad m c news hl hnews h1 h63 hbytes hbase
  have hk := append_block base t o.type e i z size bytes ht hi hz hsize hby hzs hsz v n xs hown ad m c news hl hnews h1 h63 hbytes hr
  unfold Oper.wp execOp
  simp only [ho, resolve, invoke, builtin, Sem.run_bind, Sem.run_pure, Result.andThen_ok, List.map_toArray, List.map_cons, List.map_nil, hs, hx, hr]
  exact hK _ _ (h v' w' h2 h3 hk)

end Go.Proofs.YthciddpljcbhiabGreatDoor

/- The desk of the statements without the document's answer, plainly: a configuration made right, what may be accepted, rows put together step by step (no program). -/
namespace Go.Proofs.YthciddpljcbhiabGreatDoor
open Go Go.RowKit

def pk (c n : Int) : Int := (if c < 0 then -(c + 1) else c) % n
theorem pk_range (c n : Int) (hn : 0 < n) : 0 ≤ pk c n ∧ pk c n < n := by
  unfold pk; exact ⟨Int.emod_nonneg _ (by omega), Int.emod_lt_of_pos _ hn⟩

/-! A configuration made right. -/
def rlB (r : Int) : Int := if r % 3 = 0 then 107 else if r % 3 = 1 then 103 else 100
def rl (raw : ByteArray) (i : Nat) : Int := if i < raw.size then rlB (byt raw i) else 107
def ruleOf (raw : ByteArray) : ByteArray := strOfNums [rl raw 0, rl raw 1, rl raw 2]
theorem rl_ok (raw : ByteArray) (i : Nat) : rl raw i = 107 ∨ rl raw i = 103 ∨ rl raw i = 100 := by
  unfold rl rlB
  repeat (first | split | simp)
theorem byt_str (l : List Int) (hb : ∀ x ∈ l, isByte x) (k : Nat) (h : k < l.length) : byt (strOfNums l) k = l[k] := by
  have h1 : (nums (strOfNums l)) = l := nums_str l hb
  have h2 := nums_get (strOfNums l) k (by rw [strOfNums_size]; exact h)
  rw [h1, List.getElem?_eq_getElem h] at h2
  exact (Option.some.inj h2).symm
theorem ruleOf_bytes (raw : ByteArray) : byt (ruleOf raw) 0 = rl raw 0 ∧ byt (ruleOf raw) 1 = rl raw 1 ∧ byt (ruleOf raw) 2 = rl raw 2 := by
  have hb : ∀ x ∈ [rl raw 0, rl raw 1, rl raw 2], isByte x := by
    intro x hx
    have h0 := rl_ok raw 0
    have h1 := rl_ok raw 1
    have h2 := rl_ok raw 2
    simp at hx
    unfold isByte
    rcases hx with rfl | rfl | rfl <;> omega
  exact ⟨byt_str _ hb 0 (by simp), byt_str _ hb 1 (by simp), byt_str _ hb 2 (by simp)⟩
theorem ruleOf_size (raw : ByteArray) : (ruleOf raw).size = 3 := by unfold ruleOf; rw [strOfNums_size]; rfl
theorem ruleOf_ok (raw : ByteArray) : ruleB (ruleOf raw) = true := by
  obtain ⟨h0, h1, h2⟩ := ruleOf_bytes raw
  unfold ruleB
  rw [ruleOf_size, h0, h1, h2]
  have r0 := rl_ok raw 0
  have r1 := rl_ok raw 1
  have r2 := rl_ok raw 2
  unfold rulB
  rcases r0 with r0 | r0 | r0 <;> rcases r1 with r1 | r1 | r1 <;> rcases r2 with r2 | r2 | r2 <;> rw [r0, r1, r2] <;> decide

/-- The levels made out of raw ones, and the last window. -/
def nxA (first : Bool) (l : Lv) (age : Int) : Int := if first then age else age + 1 + pk l.age 19
def nxW (l : Lv) (w : Int) : Int := w * (1 + pk l.window (100 / w))
def nxL (first : Bool) (l : Lv) (w age : Int) : Lv := ⟨nxA first l age, nxW l w, ruleOf l.rule, 1 + pk l.limit 20⟩
def cfL (keep : Int) : List Lv → Bool → Int → Int → List Lv
  | [], _, _, _ => []
  | l :: ls, first, w, age => if keep < nxA first l age then [] else nxL first l w age :: cfL keep ls false (nxW l w) (nxA first l age)
def cfW (keep : Int) : List Lv → Bool → Int → Int → Int
  | [], _, w, _ => w
  | l :: ls, first, w, age => if keep < nxA first l age then w else cfW keep ls false (nxW l w) (nxA first l age)
theorem nxW_range {l : Lv} {w : Int} (h0 : 1 ≤ w) (h1 : w ≤ 100) : 1 ≤ nxW l w ∧ nxW l w ≤ 100 ∧ w ∣ nxW l w := by
  have hd : 1 ≤ 100 / w := by
    have := Int.ediv_le_ediv (a := w) (b := 100) (c := w) (by omega) h1
    rwa [Int.ediv_self (by omega)] at this
  obtain ⟨p0, p1⟩ := pk_range l.window (100 / w) (by omega)
  have hm : w * (100 / w) ≤ 100 := Int.mul_ediv_self_le (by omega)
  have hle : w * (1 + pk l.window (100 / w)) ≤ w * (100 / w) := Int.mul_le_mul_of_nonneg_left (by omega) (by omega)
  have hge : w * 1 ≤ w * (1 + pk l.window (100 / w)) := Int.mul_le_mul_of_nonneg_left (by omega) (by omega)
  unfold nxW
  exact ⟨by omega, by omega, Int.dvd_mul_right _ _⟩
theorem cfW_range (keep : Int) : ∀ (ls : List Lv) (first : Bool) (w age : Int), 1 ≤ w → w ≤ 100 → 1 ≤ cfW keep ls first w age ∧ cfW keep ls first w age ≤ 100 ∧ w ∣ cfW keep ls first w age := by
  intro ls
  induction ls with
  | nil => intro first w age h0 h1; exact ⟨h0, h1, Int.dvd_refl _⟩
  | cons l ls ih =>
    intro first w age h0 h1
    unfold cfW
    split
    · exact ⟨h0, h1, Int.dvd_refl _⟩
    · obtain ⟨a0, a1, a2⟩ := nxW_range (l := l) h0 h1
      obtain ⟨b0, b1, b2⟩ := ih false (nxW l w) (nxA first l age) a0 a1
      exact ⟨b0, b1, Int.dvd_trans a2 b2⟩
theorem cfL_len (keep : Int) : ∀ (ls : List Lv) (first : Bool) (w age : Int), (cfL keep ls first w age).length ≤ ls.length := by
  intro ls
  induction ls with
  | nil => intro first w age; simp [cfL]
  | cons l ls ih =>
    intro first w age
    have := ih false (nxW l w) (nxA first l age)
    unfold cfL
    split <;> simp <;> omega
/-- What is true of a level that was made. -/
def LvOk (keep : Int) (l : Lv) : Prop := l.age ≤ keep ∧ 1 ≤ l.window ∧ l.window ≤ 100 ∧ ruleB l.rule = true ∧ 1 ≤ l.limit ∧ l.limit ≤ 20
theorem cfL_ok (keep : Int) : ∀ (ls : List Lv) (first : Bool) (w age : Int), 1 ≤ w → w ≤ 100 → ∀ i, i < (cfL keep ls first w age).length →
    LvOk keep (lvG (cfL keep ls first w age) i) ∧ (lvG (cfL keep ls first w age) i).window ∣ cfW keep ls first w age ∧
    (i = 0 → (if first then (lvG (cfL keep ls first w age) 0).age = age else age < (lvG (cfL keep ls first w age) 0).age) ∧ w ∣ (lvG (cfL keep ls first w age) 0).window) ∧
    (∀ m, i = m + 1 → (lvG (cfL keep ls first w age) m).age < (lvG (cfL keep ls first w age) (m + 1)).age ∧ (lvG (cfL keep ls first w age) m).window ∣ (lvG (cfL keep ls first w age) (m + 1)).window) := by
  intro ls
  induction ls with
  | nil => intro first w age _ _ i hi; simp [cfL] at hi
  | cons l ls ih =>
    intro first w age h0 h1 i hi
    by_cases hk : keep < nxA first l age
    · simp [cfL, hk] at hi
    · obtain ⟨a0, a1, a2⟩ := nxW_range (l := l) h0 h1
      have e : cfL keep (l :: ls) first w age = nxL first l w age :: cfL keep ls false (nxW l w) (nxA first l age) := by rw [cfL, if_neg hk]
      have ew : cfW keep (l :: ls) first w age = cfW keep ls false (nxW l w) (nxA first l age) := by rw [cfW, if_neg hk]
      obtain ⟨_, _, c2⟩ := cfW_range keep ls false (nxW l w) (nxA first l age) a0 a1
      rw [e, ew]
      rw [e] at hi
      have IH := ih false (nxW l w) (nxA first l age) a0 a1
      cases i with
      | zero =>
        refine ⟨?_, ?_, fun _ => ?_, fun m hm => by omega⟩
        · have hp := pk_range l.limit 20 (by omega)
          exact ⟨by show nxA first l age ≤ keep; omega, a0, a1, ruleOf_ok _, by show 1 ≤ 1 + pk l.limit 20; omega, by show 1 + pk l.limit 20 ≤ 20; omega⟩
        · exact c2
        · refine ⟨?_, a2⟩
          show if first then nxA first l age = age else age < nxA first l age
          have hp := pk_range l.age 19 (by omega)
          cases first
          · simp [nxA]; omega
          · simp [nxA]
      | succ i =>
        have hi' : i < (cfL keep ls false (nxW l w) (nxA first l age)).length := by simpa using hi
        obtain ⟨k1, k2, k3, k4⟩ := IH i hi'
        refine ⟨k1, k2, fun h => by omega, fun m hm => ?_⟩
        have hm' : i = m := by omega
        subst hm'
        cases i with
        | zero =>
          obtain ⟨q1, q2⟩ := k3 rfl
          have q1' : nxA first l age < (lvG (cfL keep ls false (nxW l w) (nxA first l age)) 0).age := by simpa using q1
          exact ⟨q1', q2⟩
        | succ i => exact k4 i rfl

/-- A configuration made right. -/
def confL (keep : Int) (ls : List Lv) : List Lv := if cfL keep (ls.take 4) true 1 0 = [] then [⟨0, 1, strOfNums [107, 107, 107], 20⟩] else cfL keep (ls.take 4) true 1 0
def confW (keep : Int) (ls : List Lv) : Int := cfW keep (ls.take 4) true 1 0
def conf (span keep : Int) (ls : List Lv) : Cf := ⟨confW (pk keep 20) ls * (1 + pk span (100 / confW (pk keep 20) ls)), pk keep 20, confL (pk keep 20) ls⟩
theorem right_of {c : Cf} (h1 : 1 ≤ c.span) (h2 : c.span ≤ 100) (h3 : 0 ≤ c.keep) (h4 : c.keep ≤ 19) (h5 : 1 ≤ c.lvs.length) (h6 : c.lvs.length ≤ 4) (h : ∀ i, i < c.lvs.length → refOk c.lvs c.span c.keep i = true) : c.right = true := by
  have hr : refsB c.lvs c.span c.keep = true := all_true h
  rw [refsB_eq] at hr
  unfold Cf.right
  rw [rightB_rest h1 h2 h3 h4 h5 h6]
  exact hr
theorem conf_right (span keep : Int) (ls : List Lv) : (conf span keep ls).right = true := by
  obtain ⟨k0, k1⟩ := pk_range keep 20 (by omega)
  obtain ⟨w0, w1, _⟩ := cfW_range (pk keep 20) (ls.take 4) true 1 0 (by omega) (by omega)
  have hd : 1 ≤ 100 / confW (pk keep 20) ls := by
    have := Int.ediv_le_ediv (a := confW (pk keep 20) ls) (b := 100) (c := confW (pk keep 20) ls) (by unfold confW; omega) w1
    rwa [Int.ediv_self (by unfold confW; omega)] at this
  obtain ⟨p0, p1⟩ := pk_range span (100 / confW (pk keep 20) ls) (by omega)
  have hm : confW (pk keep 20) ls * (100 / confW (pk keep 20) ls) ≤ 100 := Int.mul_ediv_self_le (by unfold confW; omega)
  have w0' : 1 ≤ confW (pk keep 20) ls := w0
  have hle : confW (pk keep 20) ls * (1 + pk span (100 / confW (pk keep 20) ls)) ≤ confW (pk keep 20) ls * (100 / confW (pk keep 20) ls) := Int.mul_le_mul_of_nonneg_left (by omega) (by omega)
  have hge : confW (pk keep 20) ls * 1 ≤ confW (pk keep 20) ls * (1 + pk span (100 / confW (pk keep 20) ls)) := Int.mul_le_mul_of_nonneg_left (by omega) (by omega)
  have hs : confW (pk keep 20) ls ∣ (conf span keep ls).span := Int.dvd_mul_right _ _
  have hlen := cfL_len (pk keep 20) (ls.take 4) true 1 0
  have hlen4 : (ls.take 4).length ≤ 4 := List.length_take_le _ _
  by_cases hn : cfL (pk keep 20) (ls.take 4) true 1 0 = []
  · have el : (conf span keep ls).lvs = [⟨0, 1, strOfNums [107, 107, 107], 20⟩] := by simp [conf, confL, hn]
    refine right_of (by show 1 ≤ _ * _; omega) (by show _ * _ ≤ 100; omega) k0 (by show pk keep 20 ≤ 19; omega) (by rw [el]; simp) (by rw [el]; simp) (fun i hi => ?_)
    rw [el] at hi ⊢
    have : i = 0 := by simp at hi; omega
    subst this
    rw [refOk_zero]
    refine ⟨by show ruleB (strOfNums [107, 107, 107]) = true; decide, by show (1 : Int) ≤ 20; omega, by show (20 : Int) ≤ 20; omega, k0, by show (1 : Int) ≤ 1; omega, by show _ % (1 : Int) = 0; omega, rfl⟩
  · have el : (conf span keep ls).lvs = cfL (pk keep 20) (ls.take 4) true 1 0 := by simp [conf, confL, hn]
    have hpos : 1 ≤ (cfL (pk keep 20) (ls.take 4) true 1 0).length := by
      cases hh : cfL (pk keep 20) (ls.take 4) true 1 0 with
      | nil => exact absurd hh hn
      | cons a b => simp
    refine right_of (by show 1 ≤ _ * _; omega) (by show _ * _ ≤ 100; omega) k0 (by show pk keep 20 ≤ 19; omega) (by rw [el]; exact hpos) (by rw [el]; omega) (fun i hi => ?_)
    rw [el] at hi ⊢
    obtain ⟨⟨g1, g2, g3, g4, g5, g6⟩, f2, f3, f4⟩ := cfL_ok (pk keep 20) (ls.take 4) true 1 0 (by omega) (by omega) i hi
    have hsd := Int.emod_eq_zero_of_dvd (Int.dvd_trans f2 hs)
    cases i with
    | zero =>
      rw [refOk_zero]
      exact ⟨g4, g5, g6, g1, g2, hsd, by simpa using (f3 rfl).1⟩
    | succ m =>
      rw [refOk_succ]
      obtain ⟨q1, q2⟩ := f4 m rfl
      exact ⟨g4, g5, g6, g1, g2, hsd, q1, Int.emod_eq_zero_of_dvd q2⟩

/-! What may be accepted. -/
theorem batE_ok {b : List Sm} (h : batE b = 0) : ∀ x ∈ b, smOk x = true := by
  obtain ⟨_, _, h3⟩ := (batE_zero b).1 h
  intro x hx
  obtain ⟨i, hi, rfl⟩ := List.getElem_of_mem hx
  have := List.all_eq_true.1 h3 i (List.mem_range.2 hi)
  rwa [smG_get b i hi] at this
structure Inv (s : St) : Prop where
  right : s.c.right = true
  n0 : 0 ≤ s.now
  n1 : s.now ≤ 100000
  len : s.l.length ≤ 500
  ok : ∀ x ∈ s.l, smOk x = true ∧ x.wf
  past : ∀ x ∈ s.l, x.time ≤ s.now

theorem inv_new {c : Cf} (h : c.right = true) : Inv (St.new c) := ⟨h, by simp [St.new], by simp [St.new], by simp [St.new], by simp [St.new], by simp [St.new]⟩
theorem Inv.tk {s : St} (h : Inv s) {n : Int} (he : tkE s n = 0) : Inv (s.tk n) := by
  have : ¬ (n < 1 ∨ 1000 < n ∨ 100000 < s.now + n) := by
    intro hn; rw [tkE, if_pos hn] at he; omega
  have h0 := h.n0
  exact ⟨h.right, by show 0 ≤ s.now + n; omega, by show s.now + n ≤ 100000; omega, h.len, h.ok, fun x hx => by have := h.past x hx; show x.time ≤ s.now + n; omega⟩
theorem Inv.wr {s : St} (h : Inv s) {b : List Sm} (he : wrE s b = 0) (hw : ∀ x ∈ b, x.wf) : Inv (s.wr b) := by
  have hb : batE b = 0 := by
    by_cases e : batE b = 0
    · exact e
    · rw [wrE, if_pos e] at he; exact absurd he e
  have h7 : ¬ 500 < s.l.length + b.length := by
    intro h7
    rw [wrE, if_neg (by simp [hb])] at he
    split at he
    · omega
    · first | omega | (rw [if_pos h7] at he; omega)
  have h6 : b.any (lateB s) = false := by
    cases hl : b.any (lateB s)
    · rfl
    · rw [wrE, if_neg (by simp [hb]), if_pos hl] at he; omega
  refine ⟨h.right, h.n0, h.n1, by show (s.l ++ b).length ≤ 500; rw [List.length_append]; omega, fun x hx => ?_, fun x hx => ?_⟩
  · rcases List.mem_append.1 hx with hx | hx
    · exact h.ok x hx
    · refine ⟨?_, hw x hx⟩
      exact batE_ok hb x hx
  · rcases List.mem_append.1 hx with hx | hx
    · exact h.past x hx
    · have := List.any_eq_false.1 h6 x hx
      simp [lateB] at this
      show x.time ≤ s.now
      omega

end Go.Proofs.YthciddpljcbhiabGreatDoor

/- What may be accepted, as the caller tells it; rows put together step by step; what the statements without the document's answer come to (no program). -/
namespace Go.Proofs.YthciddpljcbhiabGreatDoor
open Go Go.RowKit

/-! Accepted just if it may be. -/
def oldT (s : St) : Int := s.c.old s.now * s.c.span
def fine1 (s : St) (x : Sm) : Bool := decide (x.time ≤ s.now) && decide (oldT s ≤ x.time) && lab3 x.l0 x.l1 x.l2
def fineB (s : St) (l : List Sm) : Bool := decide (1 ≤ l.length) && decide (l.length ≤ 8) && decide (s.l.length + l.length ≤ 500) && (List.range l.length).all fun i => fine1 s (smG l i)
theorem oldT_range {s : St} (h : Inv s) : 0 ≤ oldT s ∧ oldT s ≤ s.now := by
  obtain ⟨h1, _⟩ := Cf.right_parts h.right
  obtain ⟨a, b, _⟩ := Cf.old_range h.right h.n0
  refine ⟨Int.mul_nonneg a (by omega), ?_⟩
  have h2 : s.c.old s.now * s.c.span ≤ s.now / s.c.span * s.c.span := Int.mul_le_mul_of_nonneg_right b (by omega)
  have h3 : s.now / s.c.span * s.c.span ≤ s.now := Int.ediv_mul_le _ (by omega)
  unfold oldT
  omega
theorem old_iff {s : St} (h : Inv s) {t : Int} (ht : 0 ≤ t) : oldT s ≤ t ↔ s.c.age s.now t ≤ s.c.keep := by
  obtain ⟨h1, h2, h3, h4, _⟩ := Cf.right_parts h.right
  have hd : 0 ≤ t / s.c.span := Int.ediv_nonneg ht (by omega)
  have hn : 0 ≤ s.now / s.c.span := Int.ediv_nonneg h.n0 (by omega)
  unfold oldT
  rw [← Int.le_ediv_iff_mul_le (by omega)]
  unfold Cf.old Cf.age
  split <;> omega
theorem fine1_iff {s : St} (h : Inv s) (x : Sm) : fine1 s x = true ↔ smOk x = true ∧ lateB s x = false := by
  have hr := oldT_range h
  have h1 := h.n1
  rw [smOk_iff]
  simp only [fine1, lateB, Bool.and_eq_true, decide_eq_true_eq, Bool.or_eq_false_iff, decide_eq_false_iff_not]
  constructor
  · rintro ⟨⟨a, b⟩, c⟩
    have := (old_iff h (show 0 ≤ x.time by omega)).1 b
    exact ⟨⟨by omega, by omega, c⟩, by omega, by omega⟩
  · rintro ⟨⟨a, b, c⟩, d, e⟩
    have := (old_iff h a).2 (by omega)
    exact ⟨⟨by omega, this⟩, c⟩
theorem fine_iff {s : St} (h : Inv s) (l : List Sm) : fineB s l = true ↔ wrE s l = 0 := by
  have e1 : (∀ i, i < l.length → fine1 s (smG l i) = true) ↔ (smsOk l = true ∧ l.any (lateB s) = false) := by
    constructor
    · intro hh
      constructor
      · exact all_true fun i hi => ((fine1_iff h _).1 (hh i hi)).1
      · rw [List.any_eq_false]
        intro x hx
        obtain ⟨i, hi, rfl⟩ := List.getElem_of_mem hx
        have := ((fine1_iff h _).1 (hh i hi)).2
        rw [smG_get l i hi] at this
        simp [this]
    · rintro ⟨a, b⟩ i hi
      refine (fine1_iff h _).2 ⟨List.all_eq_true.1 a i (List.mem_range.2 hi), ?_⟩
      rw [List.any_eq_false] at b
      rw [smG_get l i hi]
      simpa using b l[i] (List.getElem_mem _)
  have e2 : fineB s l = true ↔ (1 ≤ l.length ∧ l.length ≤ 8 ∧ s.l.length + l.length ≤ 500 ∧ ∀ i, i < l.length → fine1 s (smG l i) = true) := by
    simp only [fineB, Bool.and_eq_true, decide_eq_true_eq, List.all_eq_true, List.mem_range]
    constructor
    · rintro ⟨⟨⟨a, b⟩, c⟩, d⟩; exact ⟨a, b, c, d⟩
    · rintro ⟨a, b, c, d⟩; exact ⟨⟨⟨a, b⟩, c⟩, d⟩
  rw [e2, e1]
  unfold wrE
  by_cases hb : batE l = 0
  · obtain ⟨b1, b2, b3⟩ := (batE_zero l).1 hb
    rw [if_neg (by simp [hb])]
    cases hl : l.any (lateB s)
    · simp only [b1, b2, b3, true_and]
      by_cases h7 : 500 < s.l.length + l.length
      · simp [h7]
      · simp [h7]; omega
    · simp
  · rw [if_pos hb]
    refine ⟨fun hh => absurd ((batE_zero l).2 ⟨hh.1, hh.2.1, hh.2.2.2.1⟩) hb, fun hh => absurd hh hb⟩

/-- A raw sample made right. -/
def lbB (b : Int) : Int := if b % 27 = 26 then 45 else 97 + b % 27
def shp1 (s : St) (x : Sm) : Sm := ⟨s.now - pk x.time (s.now - oldT s + 1), lbB x.l0, lbB x.l1, lbB x.l2, x.value⟩
def shp (s : St) (l : List Sm) : List Sm := (l.take 8).map (shp1 s)

/-! A step of a script. -/
structure Stp where
  kind : Int
  a : Int
  batch : List Sm
def St.try' (s : St) (b : List Sm) : St := if fineB s b then s.wr b else s
def St.step (s : St) (o : Stp) : St :=
  if o.kind = 1 then (if tkE s o.a = 0 then s.tk o.a else s) else if o.kind = 2 then s.try' (shp s o.batch) else if o.kind = 3 then s.try' o.batch else s
theorem lbB_byte (b : Int) : 0 ≤ lbB b ∧ lbB b ≤ 255 := by unfold lbB; split <;> omega
theorem Inv.try' {s : St} (h : Inv s) {b : List Sm} (hw : ∀ x ∈ b, x.wf) : Inv (s.try' b) := by
  unfold St.try'
  split
  · next hf => exact h.wr ((fine_iff h b).1 hf) hw
  · exact h
theorem shp_wf {s : St} (h : Inv s) {b : List Sm} (hw : ∀ x ∈ b, x.wf) : ∀ x ∈ shp s b, x.wf := by
  intro x hx
  unfold shp at hx
  obtain ⟨y, hy, rfl⟩ := List.mem_map.1 hx
  have hw' := hw y (List.mem_of_mem_take hy)
  have hr := oldT_range h
  have h0 := h.n0
  have h1 := h.n1
  obtain ⟨p0, p1⟩ := pk_range y.time (s.now - oldT s + 1) (by omega)
  refine ⟨?_, lbB_byte _, lbB_byte _, lbB_byte _, hw'.2.2.2.2⟩
  show _ ≤ s.now - pk y.time (s.now - oldT s + 1) ∧ s.now - pk y.time (s.now - oldT s + 1) ≤ _
  omega
theorem Inv.step {s : St} (h : Inv s) {o : Stp} (hw : ∀ x ∈ o.batch, x.wf) : Inv (s.step o) := by
  unfold St.step
  split
  · split
    · next he => exact h.tk he
    · exact h
  · split
    · exact h.try' (shp_wf h hw)
    · split
      · exact h.try' hw
      · exact h
def St.play (s : St) (l : List Stp) : St := l.foldl St.step s

/-! Rows put together step by step. -/
def joinR (a b : Rw) : Rw := if a.ag.cnt = 0 then b else ⟨a.key, a.ag.join b.ag⟩
def putR (out : List Rw) (i : Nat) (r : Rw) : List Rw := out.set i (joinR (rwG out i) r)
def agz (r : Rw) : Option Ag := if r.ag.cnt = 0 then none else some r.ag
/-- A row that counts nothing is all 0. -/
def Zr (r : Rw) : Prop := 0 ≤ r.ag.cnt ∧ (r.ag.cnt = 0 → r.ag = ⟨0, 0, 0, 0⟩)
theorem zr_zero : Zr Rw.zero := ⟨by simp [Rw.zero], fun _ => rfl⟩
theorem agz_join {a b : Rw} (ha : Zr a) (hb : 1 ≤ b.ag.cnt) : agz (joinR a b) = oj (agz a) (some b.ag) ∧ Zr (joinR a b) := by
  unfold joinR agz
  by_cases h : a.ag.cnt = 0
  · simp only [if_pos h]
    rw [if_neg (by omega)]
    exact ⟨by simp, by omega, fun e => by omega⟩
  · simp only [if_neg h]
    have : 0 ≤ a.ag.cnt := ha.1
    have e : (a.ag.join b.ag).cnt = a.ag.cnt + b.ag.cnt := rfl
    rw [if_neg (by rw [e]; omega)]
    exact ⟨rfl, by show 0 ≤ (a.ag.join b.ag).cnt; omega, fun h' => by have : (a.ag.join b.ag).cnt = 0 := h'; omega⟩
theorem zr_eq {a b : Rw} (ha : Zr a) (hb : Zr b) (h : agz a = agz b) : a.ag = b.ag := by
  unfold agz at h
  by_cases ea : a.ag.cnt = 0 <;> by_cases eb : b.ag.cnt = 0
  · rw [ha.2 ea, hb.2 eb]
  · rw [if_pos ea, if_neg eb] at h; cases h
  · rw [if_neg ea, if_pos eb] at h; cases h
  · rw [if_neg ea, if_neg eb] at h; exact Option.some.inj h
theorem rwG_put (out : List Rw) (i : Nat) (r : Rw) (j : Nat) (hi : i < out.length) : rwG (putR out i r) j = if i = j then joinR (rwG out i) r else rwG out j := by
  unfold putR
  by_cases h : i = j
  · subst h; simp [rwG, List.getD, hi]
  · simp [rwG, List.getD, h]
/-- Any list of rows, each put to a place. -/
def putAll (out : List Rw) (l : List (Nat × Rw)) : List Rw := l.foldl (fun o p => putR o p.1 p.2) out
theorem putAll_len (l : List (Nat × Rw)) : ∀ out, (putAll out l).length = out.length := by
  induction l with
  | nil => intro out; rfl
  | cons p l ih => intro out; show (putAll (putR out p.1 p.2) l).length = _; rw [ih]; simp [putR]
theorem putAll_eq (l : List (Nat × Rw)) : ∀ out, (∀ j, Zr (rwG out j)) → (∀ p ∈ l, p.1 < out.length ∧ 1 ≤ p.2.ag.cnt) → ∀ i,
    agz (rwG (putAll out l) i) = oj (agz (rwG out i)) (agRows ((l.filter fun p => decide (p.1 = i)).map (·.2))) ∧ Zr (rwG (putAll out l) i) := by
  induction l with
  | nil => intro out hz _ i; exact ⟨by simp [putAll], hz i⟩
  | cons p l ih =>
    intro out hz hl i
    obtain ⟨h1, h2⟩ := hl p (by simp)
    have hz' : ∀ j, Zr (rwG (putR out p.1 p.2) j) := by
      intro j
      rw [rwG_put _ _ _ _ h1]
      split
      · exact (agz_join (hz _) h2).2
      · exact hz j
    have hl' : ∀ x ∈ l, x.1 < (putR out p.1 p.2).length ∧ 1 ≤ x.2.ag.cnt := fun x hx => by
      have := hl x (by simp [hx])
      simpa [putR] using this
    obtain ⟨e1, e2⟩ := ih (putR out p.1 p.2) hz' hl' i
    refine ⟨?_, e2⟩
    show agz (rwG (putAll (putR out p.1 p.2) l) i) = _
    rw [e1, rwG_put _ _ _ _ h1]
    by_cases h : p.1 = i
    · rw [if_pos h, (agz_join (hz _) h2).1, List.filter_cons, if_pos (by simpa using h), List.map_cons, agRows_cons, oj_assoc, h]
    · rw [if_neg h, List.filter_cons, if_neg (by simpa using h)]
theorem rwG_rep (n j : Nat) : rwG (List.replicate n Rw.zero) j = Rw.zero := by
  unfold rwG
  by_cases h : j < n <;> simp [List.getD, h]

def stepsR (n : Nat) (l : List Rw) : List Rw := putAll (List.replicate n Rw.zero) (l.map fun r => (r.key.st.toNat, r))
theorem stepsR_len (n : Nat) (l : List Rw) : (stepsR n l).length = n := by unfold stepsR; rw [putAll_len]; simp
/-- Rows that the caller takes for rows. -/
structure Goods (n : Nat) (l : List Rw) : Prop where
  up : l.Pairwise fun a b => a.key.lt b.key
  s0 : ∀ r ∈ l, 0 ≤ r.key.st ∧ r.key.st < n
  ok : ∀ r ∈ l, 1 ≤ r.ag.cnt ∧ r.ag.mn ≤ r.ag.mx
theorem stepsR_eq {n : Nat} {l : List Rw} (h : Goods n l) (i : Nat) : agz (rwG (stepsR n l) i) = agRows (l.filter fun r => decide (r.key.st = i)) ∧ Zr (rwG (stepsR n l) i) := by
  have h1 : ∀ p ∈ l.map (fun r : Rw => (r.key.st.toNat, r)), p.1 < (List.replicate n Rw.zero).length ∧ 1 ≤ p.2.ag.cnt := by
    intro p hp
    obtain ⟨r, hr, rfl⟩ := List.mem_map.1 hp
    have := h.s0 r hr
    exact ⟨by simp; omega, (h.ok r hr).1⟩
  obtain ⟨e1, e2⟩ := putAll_eq (l.map fun r => (r.key.st.toNat, r)) (List.replicate n Rw.zero) (fun j => by rw [rwG_rep]; exact zr_zero) h1 i
  refine ⟨?_, e2⟩
  unfold stepsR
  rw [e1, rwG_rep]
  have hz : agz Rw.zero = none := by simp [agz, Rw.zero]
  rw [hz, oj_none_left]
  congr 1
  rw [List.filter_map, List.map_map]
  have : (fun p : Nat × Rw => p.2) ∘ (fun r : Rw => (r.key.st.toNat, r)) = id := rfl
  show List.map ((fun p : Nat × Rw => p.2) ∘ (fun r : Rw => (r.key.st.toNat, r))) _ = _
  rw [this, List.map_id]
  apply List.filter_congr
  intro r hr
  have := h.s0 r hr
  show decide (r.key.st.toNat = i) = decide (r.key.st = i)
  rw [decide_eq_decide]
  omega

def rawRow (x : Sm) : Rw := ⟨⟨0, 0, 0, 0⟩, .one x.value⟩
def rawR (n : Nat) (q : Qy) (l : List Sm) : List Rw := putAll (List.replicate n Rw.zero) ((l.filter fun x => inQ q x.time).map fun x => ((stepOf q x.time).toNat, rawRow x))
theorem rawR_len (n : Nat) (q : Qy) (l : List Sm) : (rawR n q l).length = n := by unfold rawR; rw [putAll_len]; simp
theorem agRows_raw (l : List Sm) : agRows (l.map rawRow) = agOf (l.map (·.value)) := by
  induction l with
  | nil => rfl
  | cons x l ih => simp [ih, rawRow]
theorem rawR_eq {n : Nat} {q : Qy} (hs : 1 ≤ q.step) (hn : q.to - q.fr = n * q.step) (l : List Sm) (i : Nat) : agz (rwG (rawR n q l) i) = agOf (stepVals q l fun j => decide (j = i)) ∧ Zr (rwG (rawR n q l) i) := by
  have h1 : ∀ p ∈ (l.filter fun x => inQ q x.time).map (fun x => ((stepOf q x.time).toNat, rawRow x)), p.1 < (List.replicate n Rw.zero).length ∧ 1 ≤ p.2.ag.cnt := by
    intro p hp
    obtain ⟨x, hx, rfl⟩ := List.mem_map.1 hp
    have := step_range hs hn (List.mem_filter.1 hx).2
    exact ⟨by simp; omega, by simp [rawRow, Ag.one]⟩
  obtain ⟨e1, e2⟩ := putAll_eq _ (List.replicate n Rw.zero) (fun j => by rw [rwG_rep]; exact zr_zero) h1 i
  refine ⟨?_, e2⟩
  unfold rawR
  rw [e1, rwG_rep]
  have hz : agz Rw.zero = none := by simp [agz, Rw.zero]
  rw [hz, oj_none_left, List.filter_map, List.map_map]
  show agRows (List.map rawRow _) = _
  rw [agRows_raw]
  unfold stepVals
  congr 2
  rw [List.filter_filter]
  apply List.filter_congr
  intro x _
  cases hq : inQ q x.time
  · simp
  · have := step_range hs hn hq
    show (decide ((stepOf q x.time).toNat = i) && true) = (true && decide (stepOf q x.time = i))
    rw [Bool.and_true, Bool.true_and, decide_eq_decide]
    omega

def sameR (a b : Rw) : Bool := a.ag.cnt == b.ag.cnt && a.ag.sum == b.ag.sum && a.ag.mn == b.ag.mn && a.ag.mx == b.ag.mx
theorem sameR_ag {a b : Rw} (h : a.ag = b.ag) : sameR a b = true := by simp [sameR, h]
def alikeB (a b : List Rw) : Bool := decide (a.length = b.length) && (List.range a.length).all fun i => sameR (rwG a i) (rwG b i)
theorem alike_of {a b : List Rw} (hl : a.length = b.length) (h : ∀ i, i < a.length → (rwG a i).ag = (rwG b i).ag) : alikeB a b = true := by
  simp only [alikeB, hl, decide_true, Bool.true_and]
  rw [← hl]
  exact all_true fun i hi => sameR_ag (h i hi)

/-! The statements. -/
theorem rows_goods {s : St} {q : Qy} {n : Nat} (hs : 1 ≤ q.step) (hn : q.to - q.fr = n * q.step) : Goods n (s.rows q) := by
  refine ⟨(rowsOf_is (kvOf q s.at s.l)).up, fun r hr => ?_, fun r hr => rows_cnt s hr⟩
  obtain ⟨x, _, hq, e, _⟩ := rows_mem s hr
  rw [e]
  exact step_range hs hn hq
/-- Told. -/
theorem told {s : St} {q : Qy} {n : Nat} (hs : 1 ≤ q.step) (hn : q.to - q.fr = n * q.step) (ha : anyM q) : alikeB (stepsR n (s.rows q)) (rawR n q s.l) = true := by
  refine alike_of (by rw [stepsR_len, rawR_len]) fun i _ => ?_
  obtain ⟨a1, a2⟩ := stepsR_eq (rows_goods (s := s) hs hn) i
  obtain ⟨b1, b2⟩ := rawR_eq hs hn s.l i
  exact zr_eq a2 b2 (by rw [a1, b1]; exact rows_step s ha i)
/-- Grouped. -/
theorem grouped {s : St} {q q' : Qy} {n : Nat} (hs : 1 ≤ q.step) (hn : q.to - q.fr = n * q.step) (ha : anyM q) (ha' : anyM q') (e1 : q'.fr = q.fr) (e2 : q'.to = q.to) (e3 : q'.step = q.step) :
    alikeB (stepsR n (s.rows q)) (stepsR n (s.rows q')) = true := by
  refine alike_of (by rw [stepsR_len, stepsR_len]) fun i _ => ?_
  obtain ⟨a1, a2⟩ := stepsR_eq (rows_goods (s := s) hs hn) i
  obtain ⟨b1, b2⟩ := stepsR_eq (rows_goods (s := s) (q := q') (n := n) (by rw [e3]; exact hs) (by rw [e1, e2, e3]; exact hn)) i
  refine zr_eq a2 b2 ?_
  rw [a1, b1, rows_step s ha i, rows_step s ha' i]
  unfold stepVals inQ stepOf
  rw [e1, e2, e3]

end Go.Proofs.YthciddpljcbhiabGreatDoor
