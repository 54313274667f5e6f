/- A slice of levels and labels that came in, opened. -/
import Derived.Test.YthciddpljcbhiaaLvSpec
import Derived.Test.YthciddpljcbhiaaProg
import Derived.ProofKit
import Derived.OpenShut
import Derived.Deep.Slices
import Derived.Lib.SmallJoins
namespace Go.Proofs.Ythciddpljcbhiaa
open Go Go.RowKit Go.Deep Go.ChangeShapes Go.WideShapes Go.Joins

theorem Try.cells76 : Try.prog.cellsOf 76 = 4 := by kernel_rfl
theorem Try.cells22 : Try.prog.cellsOf 22 = 1 := by kernel_rfl
theorem Try.cells3 : Try.prog.cellsOf 3 = 1 := by kernel_rfl
theorem Try.cells9 : Try.prog.cellsOf 9 = 1 := by kernel_rfl
theorem Try.cells5 : Try.prog.cellsOf 5 = 1 := by kernel_rfl
theorem Try.cells26 : Try.prog.cellsOf 26 = 3 := by kernel_rfl
theorem Try.cells24 : Try.prog.cellsOf 24 = 3 := by kernel_rfl

theorem add_none (b off j : Nat) : (⟨b, off, none⟩ : Addr).add j = ⟨b, off + j, none⟩ := by unfold Addr.add; split <;> simp_all

section
variable {H : Type} {enc : TypeId × Value → H} {w : World} {base : Nat} {spare : Nat → Bool} {held : Bool}

theorem i64_range {n : Int} (h : (Lit.int .i64 n).wf = true) : -9223372036854775808 ≤ n ∧ n ≤ 9223372036854775807 := by
  simpa [Lit.wf, IntKind.min, IntKind.max, IntKind.signed, IntKind.bits] using h

theorem list4 {α : Type} {cs : List α} (h : cs.length = 4) : ∃ c0 c1 c2 c3, cs = [c0, c1, c2, c3] := by
  match cs, h with
  | [c0, c1, c2, c3], _ => exact ⟨c0, c1, c2, c3, rfl⟩

theorem open_level {fuel : Nat} {cs : List Value} {x : DataW H × List MemPlace} (h : DataW.trod enc Try.prog w base spare held fuel 76 cs = some x) :
    ∃ l : Lv, cs = l.cells ∧ -9223372036854775808 ≤ l.window ∧ l.window ≤ 9223372036854775807 ∧ l.rule.size ≤ maxLen := by
  obtain ⟨y0, y1, y2, y3, n, _, hlen, h0, h1, h2, h3⟩ := trod_struct4 Try.underlying76 h
  rw [Try.cells76] at hlen
  obtain ⟨c0, c1, c2, c3, rfl⟩ := list4 hlen
  simp only [Try.cells3, Try.cells9] at h0 h1 h2 h3
  obtain ⟨a, e0, _, _⟩ := DataW.trod_int Try.underlying3 h0
  obtain ⟨b, e1, _, wb⟩ := DataW.trod_int Try.underlying3 h1
  obtain ⟨s, e2, _, hs⟩ := DataW.trod_string Try.underlying9 h2
  obtain ⟨c, e3, _, _⟩ := DataW.trod_int Try.underlying3 h3
  simp at e0 e1 e2 e3
  subst e0 e1 e2 e3
  exact ⟨⟨a, b, s, c⟩, rfl, (i64_range wb).1, (i64_range wb).2, hs⟩

theorem open_levels {fuel : Nat} {v : Value} {y : DataW H × List MemPlace} (hf : DataW.trod enc Try.prog w base spare held fuel 22 [v] = some y) :
    ∃ a n cap ls, v = .slice a n cap ∧ IsLvs w a n ls ∧ LvWf ls ∧ (n = 0 ∨ ∃ D sp, y.1 = .slice D sp ∧ D.length = n) := by
  have zero : LvWf [] := fun i => by simp [lvG, Lv.zero, maxLen]
  rcases open_slice Try.underlying22 hf with ⟨hcs, _⟩ | ⟨a, len, cap, m, k, D, Pl, hcs, _, hl, hm, hmm, hx, he⟩
  · simp at hcs
    exact ⟨none, 0, 0, [], hcs, ⟨rfl, fun h => absurd h (by omega)⟩, zero, .inl rfl⟩
  · simp at hcs
    have hlm : len ≤ m := by rw [hmm]; split <;> omega
    rw [Try.cells76] at he
    have hall : ∀ i, i < len → ∃ l : Lv, (∀ j, j < 4 → w.cell? ((a.add (i * 4)).add j) = l.cells[j]?) ∧ -9223372036854775808 ≤ l.window ∧ l.window ≤ 9223372036854775807 ∧ l.rule.size ≤ maxLen := fun i hi => by
      obtain ⟨cs', h1, h2⟩ := he i (by omega)
      obtain ⟨l, rfl, hb⟩ := open_level h2
      exact ⟨l, (World.cells?_some h1).2.2, hb⟩
    haveI : Inhabited Lv := ⟨Lv.zero⟩
    obtain ⟨f, hff⟩ := choose_lt hall
    refine ⟨some a, len, cap, (List.range len).map f, hcs, ⟨by simp, fun hn => ?_⟩, fun i => ?_, .inr ⟨_, _, by rw [hx], by simp⟩⟩
    · obtain ⟨b, off, spot⟩ := a
      have h0 := (hff 0 hn).1 0 (by omega)
      have hspot : spot = none := by
        have := World.cell?_spot (h0.trans rfl)
        simpa [Addr.add] using this
      subst hspot
      refine ⟨b, off, rfl, fun i hi => ?_⟩
      simp at hi
      have hc := (hff i hi).1
      have e : lvG ((List.range len).map f) i = f i := by simp [lvG, List.getD, hi]
      rw [e]
      simp only [add_none] at hc
      exact ⟨hc 0 (by omega), hc 1 (by omega), hc 2 (by omega), hc 3 (by omega)⟩
    · by_cases hi : i < len
      · have e : lvG ((List.range len).map f) i = f i := by simp [lvG, List.getD, hi]
        rw [e]
        exact (hff i hi).2
      · have e : lvG ((List.range len).map f) i = Lv.zero := by simp [lvG, List.getD, hi]
        rw [e]
        simp [Lv.zero, maxLen]

set_option maxRecDepth 100000 in
theorem okWide_lab {r : Reach} {b0 : Nat} {v : Value} (h : Value.okWide Try.prog w r b0 26 v) : ∃ c0 c1 c2, v = .agg #[c0, c1, c2] := by
  simp only [Value.okWide, Try.underlying26] at h
  obtain ⟨cs, h1, h2, _⟩ := h
  rw [Try.cells26] at h2
  obtain ⟨c0, c1, c2, rfl⟩ := array3 h2
  exact ⟨c0, c1, c2, h1⟩

theorem open_labs {fuel : Nat} {c0 c1 c2 : Value} {y : DataW H × List MemPlace} (hf : DataW.trod enc Try.prog w base spare held fuel 26 [c0, c1, c2] = some y) :
    ∃ x z t, c0 = .int .u8 x ∧ c1 = .int .u8 z ∧ c2 = .int .u8 t ∧ (0 ≤ x ∧ x ≤ 255) ∧ (0 ≤ z ∧ z ≤ 255) ∧ (0 ≤ t ∧ t ≤ 255) := by
  obtain ⟨xs, m, _, _, _, hlen, he⟩ := DataW.trod_array Try.underlying26 hf
  rw [Try.cells5] at he
  have get : ∀ i, i < 3 → ∃ q, xs[i]? = some q := fun i hi => ⟨xs[i]'(by omega), by simp⟩
  have g0 := he 0 (by omega)
  have g1 := he 1 (by omega)
  have g2 := he 2 (by omega)
  obtain ⟨q0, e0⟩ := get 0 (by omega)
  obtain ⟨q1, e1⟩ := get 1 (by omega)
  obtain ⟨q2, e2⟩ := get 2 (by omega)
  rw [e0] at g0
  rw [e1] at g1
  rw [e2] at g2
  obtain ⟨x, a0, _, w0⟩ := DataW.trod_int Try.underlying5 g0
  obtain ⟨z, a1, _, w1⟩ := DataW.trod_int Try.underlying5 g1
  obtain ⟨t, a2, _, w2⟩ := DataW.trod_int Try.underlying5 g2
  simp at a0 a1 a2
  have u8 : ∀ {n : Int}, (Lit.int .u8 n).wf = true → 0 ≤ n ∧ n ≤ 255 := fun {n} h => by simpa [Lit.wf, IntKind.min, IntKind.max, IntKind.signed, IntKind.bits] using h
  exact ⟨x, z, t, a0, a1, a2, u8 w0, u8 w1, u8 w2⟩
end

end Go.Proofs.Ythciddpljcbhiaa
