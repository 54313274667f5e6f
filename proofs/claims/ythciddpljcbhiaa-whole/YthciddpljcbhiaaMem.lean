/- Rows of elements of several cells: copy, and what a block of cells holds (any program). -/
import Derived.WalkKit
import Derived.WalkSmall
import Derived.Laws.CopyOwn
import Derived.Laws.MakeOwn
import Derived.Deep.Draws
namespace Go.Proofs.Ythciddpljcbhiaa
open Go Go.RowKit

/-- copy of elements of 'sz' cells into a row that is known whole. -/
theorem run_copyN {P : Program} (w : World) (dT sT ty elem : TypeId) (sz g o dLen dCap : Nat) (a : Addr) (sLen sCap : Nat) (cur : Array Value) (t : TypeId) (cs : List Value)
    (hu : P.underlying dT = some (.slice elem)) (hs : (P.info? elem).map (·.size) = some sz)
    (hg : w.heap[g]? = some (.cells cur t (0, 0))) (hn : cs.length = Nat.min sLen dLen * sz)
    (hsrc : ∀ j v, cs[j]? = some v → w.cell? (a.add j) = some v) (hfit : o + cs.length ≤ cur.size) (h1 : ∀ v ∈ cs, v.oneCell' = true) :
    (Builtin.copy_ #[dT, sT] ty #[.slice (some ⟨g, o, none⟩) dLen dCap, .slice (some a) sLen sCap]).run P w =
      .ok (goInt (Nat.min sLen dLen)) (w.setRow g (cur.toList.take o ++ cs ++ cur.toList.drop (o + cs.length)).toArray) := by
  have hl := run_loadCells_list (P := P) w a cs hsrc
  have hst := run_storeCells_at P g o t cs 0 cur w hg (by simpa using hfit) h1
  cases hq : P.info? elem with
  | none => simp [hq] at hs
  | some i =>
    have hi : i.size = sz := by simpa [hq] using hs
    simp [Builtin.copy_, run_underlying hu, Builtin.lenOf, Builtin.firstCells, sizeOf, typeInfo, hq, hi, ← hn, hl, hst]

/-- copy of nothing. -/
theorem run_copyN_none {P : Program} (w : World) (dT sT ty elem : TypeId) (sz : Nat) (d a : Option Addr) (dLen dCap sLen sCap : Nat) (hu : P.underlying dT = some (.slice elem)) (hs : (P.info? elem).map (·.size) = some sz) (hn : Nat.min sLen dLen = 0) :
    (Builtin.copy_ #[dT, sT] ty #[.slice d dLen dCap, .slice a sLen sCap]).run P w = .ok (goInt 0) w := by
  cases hq : P.info? elem with
  | none => simp [hq] at hs
  | some i =>
    have hl : ∀ (x : Addr), (loadCells x 0).run P w = .ok #[] w := fun x => by simpa using run_loadCells_list (P := P) w x [] (by simp)
    cases d <;> cases a <;> simp [Builtin.copy_, run_underlying hu, Builtin.lenOf, Builtin.firstCells, sizeOf, typeInfo, hq, hn, storeCells, hl]

theorem setRow_alloc (X : World) (cur cs : Array Value) (t : TypeId) : (X.alloc (.cells cur t)).setRow X.heap.size cs = X.alloc (.cells cs t) := by
  unfold World.setRow World.alloc
  congr 1
  apply Array.ext
  · simp
  · intro k h1 h2
    simp only [Array.getElem_modify]
    split
    · rename_i hk; subst hk; simp
    · rename_i hk
      have : k < X.heap.size := by simp at h2; omega
      simp [Array.getElem_push, this]

/-- The cells of a list lie one behind the other from a place on. -/
def At (w : World) (b off : Nat) (C : List Value) : Prop := ∀ j v, C[j]? = some v → w.cell? ⟨b, off + j, none⟩ = some v

theorem at_block {w : World} {g : Nat} {C : List Value} {t : TypeId} {fr : Nat × Nat} (h : w.heap[g]? = some (.cells C.toArray t fr)) : At w g 0 C := by
  intro j v hj
  simp [World.cell?, h, hj]

theorem at_alloc_new (X : World) (C : List Value) (t : TypeId) : At (X.alloc (.cells C.toArray t)) X.heap.size 0 C :=
  at_block (fr := (0, 0)) (heap_alloc_new X _)

theorem At.below {w w' : World} {b off B : Nat} {C : List Value} (h : At w b off C) (hb : Below B w w') (hB : b < B) : At w' b off C :=
  fun j v hj => (hb.cell (p := ⟨b, off + j, none⟩) hB).trans (h j v hj)

theorem At.block {w : World} {b off : Nat} {C : List Value} (h : At w b off C) (hn : 0 < C.length) : b < w.heap.size :=
  World.block_lt_of_cell? w _ (h 0 C[0] (by simp))

theorem flat_length {α β : Type} (f : α → List β) (sz : Nat) (hf : ∀ a, (f a).length = sz) (l : List α) : (l.flatMap f).length = l.length * sz := by
  induction l with
  | nil => simp
  | cons a l ih => simp [ih, hf, Nat.add_mul]; omega

theorem flat_get {α β : Type} (f : α → List β) (sz : Nat) (hf : ∀ a, (f a).length = sz) (l : List α) (i j : Nat) (hj : j < sz) (hi : i < l.length) : (l.flatMap f)[i * sz + j]? = (f l[i])[j]? := by
  induction l generalizing i with
  | nil => simp at hi
  | cons a l ih =>
    cases i with
    | zero => simp [List.getElem?_append_left (show j < (f a).length by rw [hf]; exact hj)]
    | succ i =>
      have e : (i + 1) * sz + j = (f a).length + (i * sz + j) := by rw [hf, Nat.add_mul]; omega
      rw [List.flatMap_cons, e, List.getElem?_append_right (by omega), Nat.add_sub_cancel_left]
      simpa using ih i (by simpa using hi)

theorem flat_snoc {α β : Type} (f : α → List β) (l : List α) (a : α) : (l ++ [a]).flatMap f = l.flatMap f ++ f a := by simp

/-- A block of so many cells, none of them frozen. -/
def Row (w : World) (g m : Nat) : Prop := ∃ C : Array Value, C.size = m ∧ ∃ t, w.heap[g]? = some (.cells C t (0, 0))

theorem Row.cell {w : World} {g m o : Nat} (h : Row w g m) (ho : o < m) : (∃ v, w.cell? ⟨g, o, none⟩ = some v) ∧ w.frozen? ⟨g, o, none⟩ = false := by
  obtain ⟨C, hC, t, hh⟩ := h
  exact ⟨⟨C[o]'(by omega), by simp [World.cell?, hh]⟩, by simp [World.frozen?, hh]⟩
theorem Row.set {w : World} {g m o : Nat} (h : Row w g m) (v : Value) : Row (w.setCell ⟨g, o, none⟩ v) g m := by
  obtain ⟨C, hC, t, hh⟩ := h
  refine ⟨C.setIfInBounds o v, by simp [hC], t, ?_⟩
  rw [setCell_eq_setRow w g o C t (0, 0) v hh]
  exact setRow_heap w g C _ t _ hh
theorem Row.below {w w' : World} {g m B : Nat} (h : Row w g m) (hb : Below B w w') (hB : g < B) : Row w' g m := by
  obtain ⟨C, hC, t, hh⟩ := h
  exact ⟨C, hC, t, by rw [hb.block g hB]; exact hh⟩
theorem Row.drew {w : World} {g m : Nat} (h : Row w g m) (d : Nat) : Row (w.drewN d) g m := h


end Go.Proofs.Ythciddpljcbhiaa
