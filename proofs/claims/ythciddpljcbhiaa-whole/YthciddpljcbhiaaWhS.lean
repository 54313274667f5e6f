/- A string's bytes in a row, one of them turned, and the row as a string again. -/
import Derived.Test.YthciddpljcbhiaaWhB
import Derived.Laws.IdiomStrings
namespace Go.Proofs.Ythciddpljcbhiaa
open Go.RowKit

def BytesAt (w : World) (g : Nat) (xs : List Int) : Prop := ∀ j, j < xs.length → w.cell? ⟨g, j, none⟩ = some (.int .u8 (xs.getD j 0))

theorem conv_bytes (w : World) (S : ByteArray) : ∃ W cap, (convert 9 50 (.string S)).run Try.prog w = .ok (.slice (some ⟨w.heap.size, 0, none⟩) S.size cap) W ∧ Below w.heap.size w W ∧ w.heap.size < W.heap.size ∧
    BytesAt W w.heap.size (nums S) ∧ ∀ j, j < S.size → W.frozen? ⟨w.heap.size, j, none⟩ = false := by
  refine ⟨_, _, run_bytes_of_string (P := Try.prog) w 9 50 5 S Try.underlying9 Try.underlying50 Try.underlying5, ?_, ?_, ?_, ?_⟩
  · exact (Below.refl _ _).drew.alloc (Nat.le_refl _) _
  · simp [World.size_alloc]
  · intro j hj
    rw [nums_len] at hj
    have hd : j < S.data.size := hj
    have hg := nums_get S j hj
    rw [← byt_eq S j hj] at hg
    rw [show (nums S).getD j 0 = ((S[j].toNat : Nat) : Int) from by rw [List.getD, hg]; rfl]
    have hh : ∀ (C : Array Value) fr, (w.drew.alloc (.cells C 5 fr)).cell? ⟨w.heap.size, j, none⟩ = C[j]? := by
      intro C fr
      have := heap_alloc_new w.drew (.cells C 5 fr)
      have e : w.drew.heap.size = w.heap.size := rfl
      rw [e] at this
      generalize w.drew.alloc (.cells C 5 fr) = V at *
      simp only [World.cell?, this]
      rfl
    rw [hh, bytesRow_at S _ j hd]
    rfl
  · intro j hj
    have hh : ∀ (C : Array Value), j < C.size → (w.drew.alloc (.cells C 5 (C.size, C.size + 1))).frozen? ⟨w.heap.size, j, none⟩ = false := by
      intro C hC
      have := heap_alloc_new w.drew (.cells C 5 (C.size, C.size + 1))
      have e : w.drew.heap.size = w.heap.size := rfl
      rw [e] at this
      generalize w.drew.alloc (.cells C 5 (C.size, C.size + 1)) = V at *
      simp only [World.frozen?, this]
      simp
      omega
    refine hh _ ?_
    have hd : S.data.size = S.size := rfl
    simp [bytesRow, hd]
    omega

theorem BytesAt.turn {w : World} {g K : Nat} {xs : List Int} (h : BytesAt w g xs) (hK : K < xs.length) (D : Int) : BytesAt (w.setCell ⟨g, K, none⟩ (.int .u8 D)) g (xs.set K D) := by
  intro j hj
  rw [List.length_set] at hj
  by_cases e : j = K
  · subst e
    rw [World.cell?_setCell_same _ _ _ (h j hj)]
    simp [List.getD, hj]
  · rw [World.cell?_setCell_other _ _ _ _ (by intro hh; injection hh with _ h2 _; omega), h j hj]
    simp [List.getD, List.getElem?_set_ne (show K ≠ j from fun h => e h.symm)]
theorem BytesAt.conv {w : World} {g : Nat} {xs : List Int} (h : BytesAt w g xs) (n cap : Nat) (hn : xs.length = n) : (convert 50 9 (.slice (some ⟨g, 0, none⟩) n cap)).run Try.prog w = .ok (.string (strOfNums xs)) w :=
  run_convert_bytes_arg (P := Try.prog) w 50 5 Try.underlying50 Try.underlying5 g 0 n cap xs hn (fun i hi => by rw [Nat.zero_add]; exact h i (by omega)) 9 Try.underlying9
theorem wrap_u8 (z : Int) : IntKind.u8.wrap z = z % 256 := by simp [IntKind.wrap, IntKind.bits, IntKind.signed]
theorem wrap_i64 (z : Int) (h0 : 0 ≤ z) (h1 : z ≤ 9223372036854775807) : IntKind.i64.wrap z = z := by simp [IntKind.wrap, IntKind.bits, IntKind.signed]; omega
theorem turn_D1 {x y : Int} : IntKind.u8.wrap (x + (1 + y)) = (x + (1 + y)) % 256 := wrap_u8 _
theorem turn_D2 {x y : Int} (hy0 : 0 ≤ y) (hy1 : y < 255) : IntKind.u8.wrap (x + IntKind.u8.wrap (IntKind.i64.wrap (1 + y))) = (x + (1 + y)) % 256 := by
  rw [wrap_u8, wrap_u8, wrap_i64 _ (by omega) (by omega)]; omega
theorem turn_ne {x y D : Int} (hy0 : 0 ≤ y) (hy1 : y < 255) (hD : D = (x + (1 + y)) % 256) : isByte D ∧ D ≠ x := by
  subst hD; unfold isByte; omega
theorem turn_rel {W w : World} {g K m : Nat} {x y D : Int} {L : List Sm} (hy0 : 0 ≤ y) (hy1 : y < 255) (hB : BytesAt W g (recB L)) (hL : (recB L).length = m) (hK : K < m) (hW : Below w.heap.size w W) (hg : w.heap.size ≤ g) (hD : D = (x + (1 + y)) % 256) :
    Value.int .i64 (K : Int) = .int .i64 K ∧ ∃ E, isByte E ∧ E ≠ x ∧ BytesAt (W.setCell ⟨g, K, none⟩ (.int .u8 D)).drew g ((recB L).set K E) ∧ Below w.heap.size w (W.setCell ⟨g, K, none⟩ (.int .u8 D)).drew :=
  ⟨rfl, D, (turn_ne hy0 hy1 hD).1, (turn_ne hy0 hy1 hD).2, hB.turn (by omega) D, (hW.setCell hg _).drew⟩
theorem less_no {S : ByteArray} {L : List Sm} {k : Nat} (h : nums S = recB L) (hl : (recB L).length = k + 1) : unOk (S.extract 0 k) = false :=
  whole_less (ls := L) (by rw [nums_extract, h, hl]; rfl)
theorem turned_no {L : List Sm} {K : Nat} {D : Int} (hwf : SmWf L) (hn : L.length ≤ 8) (hK : K < (recB L).length) (hK1 : K ≠ 1) (hD0 : isByte D) (hD : (recB L)[K]? ≠ some D) : unOk (strOfNums ((recB L).set K D)) = false := by
  refine whole_turned (ls := L) (k := K) (d := D) hwf hn hK hK1 hD0 hD ?_
  refine nums_str _ fun x hx => ?_
  rcases List.mem_or_eq_of_mem_set hx with h | rfl
  · exact recB_byte2 hwf (by omega) x h
  · exact hD0

end Go.Proofs.Ythciddpljcbhiaa
