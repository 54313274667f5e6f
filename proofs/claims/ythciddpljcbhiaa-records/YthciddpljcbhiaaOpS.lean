/- A slice of samples that came in, opened. -/
import Derived.Test.YthciddpljcbhiaaOpn
import Derived.Test.YthciddpljcbhiaaSmSpec
import Derived.Deep.Strs
namespace Go.Proofs.Ythciddpljcbhiaa
open Go Go.RowKit Go.Deep Go.ChangeShapes Go.WideShapes Go.Joins

theorem Try.cells42 : Try.prog.cellsOf 42 = 5 := by kernel_rfl
theorem Try.cells21 : Try.prog.cellsOf 21 = 1 := by kernel_rfl

theorem list5 {α : Type} {cs : List α} (h : cs.length = 5) : ∃ c0 c1 c2 c3 c4, cs = [c0, c1, c2, c3, c4] := by
  match cs, h with
  | [c0, c1, c2, c3, c4], _ => exact ⟨c0, c1, c2, c3, c4, rfl⟩

section
variable {H : Type} {enc : TypeId × Value → H} {w : World} {base : Nat} {spare : Nat → Bool} {held : Bool}

theorem i32_range {n : Int} (h : (Lit.int .i32 n).wf = true) : -2147483648 ≤ n ∧ n ≤ 2147483647 := by
  simpa [Lit.wf, IntKind.min, IntKind.max, IntKind.signed, IntKind.bits] using h

theorem open_sample {fuel : Nat} {cs : List Value} {x : DataW H × List MemPlace} (h : DataW.trod enc Try.prog w base spare held fuel 42 cs = some x) :
    ∃ s : Sm, cs = s.cells ∧ s.wf := by
  obtain ⟨y0, y1, y2, n, _, hlen, h0, h1, h2⟩ := trod_struct3 Try.underlying42 h
  rw [Try.cells42] at hlen
  obtain ⟨c0, c1, c2, c3, c4, rfl⟩ := list5 hlen
  simp only [Try.cells3, Try.cells26, Try.cells21] at h0 h1 h2
  obtain ⟨a, e0, _, wa⟩ := DataW.trod_int Try.underlying3 h0
  obtain ⟨x, z, t, rfl, rfl, rfl, b0, b1, b2⟩ := open_labs (by simpa using h1)
  obtain ⟨v, e4, _, wv⟩ := DataW.trod_int Try.underlying21 h2
  simp at e0 e4
  subst e0 e4
  exact ⟨⟨a, x, z, t, v⟩, rfl, i64_range wa, b0, b1, b2, i32_range wv⟩

theorem open_samples {fuel : Nat} {v : Value} {y : DataW H × List MemPlace} (hf : DataW.trod enc Try.prog w base spare held fuel 28 [v] = some y) :
    ∃ a n cap ls, v = .slice a n cap ∧ IsSms w a n ls ∧ SmWf ls ∧ (n = 0 ∨ ∃ D sp, y.1 = .slice D sp ∧ D.length = n) := by
  have zwf : Sm.zero.wf := by simp [Sm.wf, Sm.zero]
  have zero : SmWf [] := fun i => by simpa [smG] using zwf
  rcases open_slice Try.underlying28 hf with ⟨hcs, _⟩ | ⟨a, len, cap, m, k, D, Pl, hcs, _, hl, hm, hmm, hx, he⟩
  · simp at hcs
    exact ⟨none, 0, 0, [], hcs, ⟨rfl, fun h => absurd h (by omega)⟩, zero, .inl rfl⟩
  · simp at hcs
    have hlm : len ≤ m := by rw [hmm]; split <;> omega
    rw [Try.cells42] at he
    have hall : ∀ i, i < len → ∃ l : Sm, (∀ j, j < 5 → w.cell? ((a.add (i * 5)).add j) = l.cells[j]?) ∧ l.wf := fun i hi => by
      obtain ⟨cs', h1, h2⟩ := he i (by omega)
      obtain ⟨l, rfl, hb⟩ := open_sample h2
      exact ⟨l, (World.cells?_some h1).2.2, hb⟩
    haveI : Inhabited Sm := ⟨Sm.zero⟩
    obtain ⟨f, hff⟩ := choose_lt hall
    refine ⟨some a, len, cap, (List.range len).map f, hcs, ⟨by simp, fun hn => ?_⟩, fun i => ?_, .inr ⟨_, _, by rw [hx], by simp⟩⟩
    · obtain ⟨b, off, spot⟩ := a
      have h0 := (hff 0 hn).1 0 (by omega)
      have hspot : spot = none := by
        have := World.cell?_spot (h0.trans rfl)
        simpa [Addr.add] using this
      subst hspot
      refine ⟨b, off, rfl, fun i hi => ?_⟩
      simp at hi
      have hc := (hff i hi).1
      have e : smG ((List.range len).map f) i = f i := by simp [smG, List.getD, hi]
      rw [e]
      simp only [add_none] at hc
      exact ⟨hc 0 (by omega), hc 1 (by omega), hc 2 (by omega), hc 3 (by omega), hc 4 (by omega)⟩
    · by_cases hi : i < len
      · have e : smG ((List.range len).map f) i = f i := by simp [smG, List.getD, hi]
        rw [e]
        exact (hff i hi).2
      · have e : smG ((List.range len).map f) i = Sm.zero := by simp [smG, List.getD, hi]
        rw [e]
        exact zwf
end

end Go.Proofs.Ythciddpljcbhiaa
