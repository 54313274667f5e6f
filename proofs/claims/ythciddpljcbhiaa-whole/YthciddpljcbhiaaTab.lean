/- A table of rows: a value put to its row, found from the front, or put in from the back (no program). -/
import Derived.Test.YthciddpljcbhiaaPts
namespace Go.Proofs.Ythciddpljcbhiaa

def Rw.zero : Rw := ⟨⟨0, 0, 0, 0⟩, ⟨0, 0, 0, 0⟩⟩
def rwG (l : List Rw) (i : Nat) : Rw := l.getD i Rw.zero
theorem rwG_get (l : List Rw) (i : Nat) (h : i < l.length) : rwG l i = l[i] := by simp [rwG, List.getD, h]

theorem addR_found : ∀ {l : List Rw} {k : Key} {v : Int} (i : Nat), l.Pairwise (fun a b => a.key.lt b.key) → i < l.length → (rwG l i).key = k →
    addR l k v = l.set i ⟨k, (rwG l i).ag.join (.one v)⟩
  | [], _, _, i, _, h, _ => by simp at h
  | y :: l, k, v, 0, _, _, hk => by
    have : y.key = k := by simpa [rwG] using hk
    simp [addR, this, rwG]
  | y :: l, k, v, i + 1, hp, hi, hk => by
    obtain ⟨h1, h2⟩ := List.pairwise_cons.1 hp
    have hi' : i < l.length := by simpa using hi
    have hk' : (rwG l i).key = k := by simpa [rwG] using hk
    have hlt : y.key.lt k := by rw [← hk', rwG_get l i hi']; exact h1 _ (List.getElem_mem _)
    have hne : ¬ y.key = k := fun e => by rw [e] at hlt; exact Key.lt_irrefl _ hlt
    have hnl : ¬ k.lt y.key := Key.lt_asymm hlt
    have ih := addR_found (v := v) i h2 hi' hk'
    simp only [addR, if_neg hne, if_neg hnl, ih]
    simp [rwG]

theorem addR_new : ∀ {l : List Rw} {k : Key} {v : Int} (m : Nat), m ≤ l.length → (∀ i, i < m → (rwG l i).key.lt k) → (m < l.length → k.lt (rwG l m).key) →
    addR l k v = l.take m ++ [⟨k, .one v⟩] ++ l.drop m
  | [], k, v, m, _, _, _ => by simp [addR]
  | y :: l, k, v, 0, _, _, hk => by
    have hlt : k.lt y.key := by simpa [rwG] using hk (by simp)
    have hne : ¬ y.key = k := fun e => by rw [e] at hlt; exact Key.lt_irrefl _ hlt
    simp [addR, if_neg hne, if_pos hlt]
  | y :: l, k, v, m + 1, hm, hl, hk => by
    have hlt : y.key.lt k := by simpa [rwG] using hl 0 (by omega)
    have hne : ¬ y.key = k := fun e => by rw [e] at hlt; exact Key.lt_irrefl _ hlt
    have hnl : ¬ k.lt y.key := Key.lt_asymm hlt
    have ih := addR_new (l := l) (k := k) (v := v) m (by simpa using hm) (fun i hi => by simpa [rwG] using hl (i + 1) (by omega)) (fun h => by simpa [rwG] using hk (by simpa using h))
    simp only [addR, if_neg hne, if_neg hnl, ih]
    simp

/-- Rows by rising keys that have not the key: those ahead of it stand ahead of all others. -/
theorem up_le {l : List Rw} (h : l.Pairwise fun a b => a.key.lt b.key) {i j : Nat} (hij : i < j) (hj : j < l.length) : (rwG l i).key.lt (rwG l j).key := by
  rw [rwG_get l i (by omega), rwG_get l j hj]
  exact List.pairwise_iff_getElem.1 h i j (by omega) hj hij
theorem addR_at {l : List Rw} (h : l.Pairwise fun a b => a.key.lt b.key) {k : Key} (v : Int) (hno : ∀ i, i < l.length → (rwG l i).key ≠ k) {m : Nat} (hm : m ≤ l.length)
    (ha : ∀ i, m ≤ i → i < l.length → k.lt (rwG l i).key) (hb : 0 < m → ¬ k.lt (rwG l (m - 1)).key) : addR l k v = l.take m ++ [⟨k, .one v⟩] ++ l.drop m := by
  refine addR_new m hm (fun i hi => ?_) (fun hlt => ha m (Nat.le_refl _) hlt)
  have h1 : (rwG l (m - 1)).key.lt k := by
    rcases Key.tri (rwG l (m - 1)).key k with e | e | e
    · exact e
    · exact absurd e (hno _ (by omega))
    · exact absurd e (hb (by omega))
  by_cases e : i = m - 1
  · rw [e]; exact h1
  · exact Key.lt_trans (up_le h (by omega) (by omega)) h1

/-! How great the numbers of a row can be. -/
structure Bd (n : Nat) (a : Ag) : Prop where
  c1 : 1 ≤ a.cnt
  cn : a.cnt ≤ n
  s0 : -(2147483648 * a.cnt) ≤ a.sum
  s1 : a.sum ≤ 2147483648 * a.cnt
  m0 : -2147483648 ≤ a.mn
  m1 : a.mn ≤ 2147483647
  x0 : -2147483648 ≤ a.mx
  x1 : a.mx ≤ 2147483647
theorem bd_one {v : Int} (h0 : -2147483648 ≤ v) (h1 : v ≤ 2147483647) : Bd 1 (.one v) := by
  constructor <;> simp [Ag.one] <;> omega
theorem Bd.join {n m : Nat} {a b : Ag} (h : Bd n a) (k : Bd m b) : Bd (n + m) (a.join b) := by
  obtain ⟨h1, h2, h3, h4, h5, h6, h7, h8⟩ := h
  obtain ⟨k1, k2, k3, k4, k5, k6, k7, k8⟩ := k
  constructor <;> simp [Ag.join] <;> omega
theorem Bd.mono {n m : Nat} {a : Ag} (h : Bd n a) (hm : n ≤ m) : Bd m a := by
  obtain ⟨h1, h2, h3, h4, h5, h6, h7, h8⟩ := h
  exact ⟨h1, by omega, h3, h4, h5, h6, h7, h8⟩
def v32 (v : Int) : Prop := -2147483648 ≤ v ∧ v ≤ 2147483647
theorem bd_of : ∀ {l : List Int}, (∀ v ∈ l, v32 v) → ∀ a, agOf l = some a → Bd l.length a
  | [], _, a, h => by simp at h
  | v :: l, hv, a, h => by
    have h1 := hv v (by simp)
    cases hl : agOf l with
    | none =>
      rw [agOf_cons, hl] at h
      simp at h
      subst h
      exact (bd_one h1.1 h1.2).mono (by simp)
    | some b =>
      rw [agOf_cons, hl] at h
      have : (Ag.one v).join b = a := by simpa [oj] using h
      subst this
      have := (bd_one h1.1 h1.2).join (bd_of (fun u hu => hv u (by simp [hu])) b hl)
      exact this.mono (by simp; omega)
theorem IsRows.bd {l : List Rw} {kv : List (Key × Int)} (h : IsRows l kv) (hv : ∀ p ∈ kv, v32 p.2) {r : Rw} (hr : r ∈ l) : Bd kv.length r.ag := by
  have e := h.ag r hr
  refine (bd_of ?_ _ e).mono ?_
  · intro v hv'
    unfold valsOf at hv'
    obtain ⟨p, hp, rfl⟩ := List.mem_map.1 hv'
    exact hv p (List.mem_filter.1 hp).1
  · unfold valsOf
    rw [List.length_map]
    exact List.length_filter_le _ _
theorem addR_len (l : List Rw) (k : Key) (v : Int) : (addR l k v).length ≤ l.length + 1 := by
  induction l with
  | nil => simp [addR]
  | cons y l ih =>
    unfold addR
    repeat (first | split | simp)
    omega
theorem rows_len (kv : List (Key × Int)) : ∀ l : List Rw, (kv.foldl (fun l p => addR l p.1 p.2) l).length ≤ l.length + kv.length := by
  induction kv with
  | nil => intro l; simp
  | cons p kv ih =>
    intro l
    have h1 := ih (addR l p.1 p.2)
    have h2 := addR_len l p.1 p.2
    simp only [List.foldl_cons, List.length_cons]
    omega
theorem rowsOf_len (kv : List (Key × Int)) : (rowsOf kv).length ≤ kv.length := by
  have := rows_len kv []
  simpa [rowsOf] using this

end Go.Proofs.Ythciddpljcbhiaa
