/- Samples made right, and what a call leaves of a box of its caller's. -/
import Derived.Test.YthciddpljcbhiaaWhA
import Derived.Test.YthciddpljcbhiaaWhSpec
import Derived.Test.YthciddpljcbhiaaSmC
import Derived.Test.YthciddpljcbhiaaUnD
import Derived.Deep.DeepCutAuto
namespace Go.Proofs.Ythciddpljcbhiaa
open Go.RowKit

def fixSm (x : Sm) : Sm := ⟨pk x.time 100001, lbB x.l0, lbB x.l1, lbB x.l2, x.value⟩
def fixL (ls : List Sm) (k : Nat) : List Sm := (ls.take k).map fixSm
theorem fixL_len (ls : List Sm) (k : Nat) (h : k ≤ ls.length) : (fixL ls k).length = k := by simp [fixL]; omega
theorem fixL_succ (ls : List Sm) (k : Nat) (h : k < ls.length) : flatS (fixL ls (k + 1)) = flatS (fixL ls k) ++ (fixSm (smG ls k)).cells := by
  unfold fixL
  rw [take_snoc ls k h, List.map_append, smG_get ls k h]
  exact flat_snoc _ _ _
theorem fixSm_ok (x : Sm) : smOk (fixSm x) = true := by
  rw [smOk_iff]
  have h := pk_range x.time 100001 (by omega)
  refine ⟨h.1, by simp only [fixSm]; omega, ?_⟩
  simp [fixSm, lab3, lbB_lab]
theorem lab_byte {a : Int} (h : labB a = true) : 0 ≤ a ∧ a ≤ 255 := by
  simp [labB, letB] at h; omega
theorem fixSm_wf {x : Sm} (h : x.wf) : (fixSm x).wf := by
  have hp := pk_range x.time 100001 (by omega)
  exact ⟨⟨by simp only [fixSm]; omega, by simp only [fixSm]; omega⟩, lab_byte (lbB_lab _), lab_byte (lbB_lab _), lab_byte (lbB_lab _), h.2.2.2.2⟩
theorem all_ok {L : List Sm} (h : ∀ x ∈ L, smOk x = true) : smsOk L = true := all_true fun j hj => by rw [smG_get L j hj]; exact h _ (List.getElem_mem _)
theorem all_wf {L : List Sm} (h : ∀ x ∈ L, x.wf) : SmWf L := by
  intro i
  by_cases hi : i < L.length
  · rw [smG_get L i hi]; exact h _ (List.getElem_mem _)
  · have : smG L i = Sm.zero := by simp only [smG, List.getD]; rw [List.getElem?_eq_none (by omega)]; rfl
    rw [this]; simp [Sm.wf, Sm.zero]
theorem fixL_ok (ls : List Sm) (k : Nat) : ∀ x ∈ fixL ls k, smOk x = true := by
  intro x hx; simp only [fixL, List.mem_map] at hx; obtain ⟨y, _, rfl⟩ := hx; exact fixSm_ok y
theorem fixL_wf {ls : List Sm} (h : SmWf ls) (k : Nat) : ∀ x ∈ fixL ls k, x.wf := by
  intro x hx; simp only [fixL, List.mem_map] at hx; obtain ⟨y, hy, rfl⟩ := hx; exact fixSm_wf (mem_wf h (List.mem_of_mem_take hy))
def dfltSm : Sm := ⟨0, 97, 45, 122, 0⟩

/-- What a call leaves of a box of its caller's. -/
theorem box5 {w w1 : World} {x0 x1 x2 x3 x4 : Value} (hb : Below (w.alloc (.cells #[x0, x1, x2, x3, x4] 42)).heap.size (w.alloc (.cells #[x0, x1, x2, x3, x4] 42)) w1) :
    w.heap.size < w1.heap.size ∧ w1.cell? ⟨w.heap.size, 0, none⟩ = some x0 ∧ w1.cell? ⟨w.heap.size, 1, none⟩ = some x1 ∧ w1.cell? ⟨w.heap.size, 2, none⟩ = some x2 ∧ w1.cell? ⟨w.heap.size, 3, none⟩ = some x3 ∧ w1.cell? ⟨w.heap.size, 4, none⟩ = some x4 ∧
    w1.frozen? ⟨w.heap.size, 0, none⟩ = false ∧ w1.frozen? ⟨w.heap.size, 1, none⟩ = false ∧ w1.frozen? ⟨w.heap.size, 2, none⟩ = false ∧ w1.frozen? ⟨w.heap.size, 3, none⟩ = false ∧ w1.frozen? ⟨w.heap.size, 4, none⟩ = false := by
  have hz := hb.size
  rw [World.size_alloc] at hb hz
  have b0 : w1.heap[w.heap.size]? = some (.cells #[x0, x1, x2, x3, x4] 42) := by rw [hb.block _ (by omega), heap_alloc_new]
  refine ⟨by omega, ?_, ?_, ?_, ?_, ?_, ?_, ?_, ?_, ?_, ?_⟩
  all_goals simp [World.cell?, World.frozen?, b0]
theorem owns_set_ne {w : World} {B : Nat} {e : TypeId} {sz : Nat} {v : Value} {n : Nat} {xs : List Value} (h : w.ownsRow B e sz v n xs) {X : Nat} (hX : ∀ g, v.ownBlock = some g → g ≠ X) (o : Nat) (u : Value) : (w.setCell ⟨X, o, none⟩ u).ownsRow B e sz v n xs := by
  obtain ⟨h1, h2⟩ := h
  refine ⟨h1, ?_⟩
  rcases h2 with h2 | ⟨g, cap, cur, rfl, hbg, hg, hr⟩
  · exact Or.inl h2
  · refine Or.inr ⟨g, cap, cur, rfl, hbg, ?_, hr⟩
    rw [Below.heap_setCell _ _ _ _ (show g ≠ X from hX g rfl)]; exact hg

theorem new_cells (w : World) (l : List Value) (t : TypeId) (g : Nat) (hg : g = w.heap.size) : ∀ j u, l[j]? = some u → (w.alloc (.cells l.toArray t)).cell? ((⟨g, 0, none⟩ : Addr).add j) = some u := by
  subst hg
  intro j u hj
  have h := at_alloc_new w l t j u hj
  rw [Nat.zero_add] at h
  rw [show (⟨w.heap.size, 0, none⟩ : Addr).add j = ⟨w.heap.size, j, none⟩ from by unfold Addr.add; split <;> simp_all]
  exact h
theorem cells_one (x : Sm) : ∀ u ∈ x.cells, u.oneCell' = true := by
  intro u hu; simp [Sm.cells] at hu; rcases hu with rfl | rfl | rfl | rfl | rfl <;> rfl
theorem size_set (w : World) (a : Addr) (u : Value) : (w.setCell a u).heap.size = w.heap.size := by simp [World.setCell]

theorem make42m (n : Nat) (h : n ≤ 10000000000000) : ∃ Z : List Value, Z.length = n * 5 ∧ ∀ w, (Instr.makeSlice 28 (.int .i64 (n : Int)) (.int .i64 (n : Int))).run Try.prog w =
    .ok (.slice (some ⟨w.heap.size, 0, none⟩) n n) (w.alloc (.cells Z.toArray 42)) := by
  have hinfo := Try.info42'
  cases hq : Try.prog.info? 42 with
  | none => simp [hq] at hinfo
  | some i =>
    simp only [hq, Option.map_some, Option.some.injEq, Prod.mk.injEq] at hinfo
    obtain ⟨hz, hs, hb⟩ := hinfo
    refine ⟨(madeCells (Value.cells (.agg #[.int .i64 0, .int .u8 0, .int .u8 0, .int .u8 0, .int .i32 0])) (n * 5)).toList, by simp [size_madeCells], fun w => ?_⟩
    have hr := run_make (P := Try.prog) w 28 42 i _ Try.underlying28 hq hz .i64 .i64 (n : Int) (n : Int) (by omega) (by omega) (by rw [hb]; omega) (by omega)
    rw [hr, hs, Int.toNat_natCast]
theorem copy42m (X : World) (Z : List Value) (a : Option Addr) (n cap : Nat) (ls : List Sm) (hZ : Z.length = n * 5) (h : IsSms X a n ls) (hn0 : 0 < n) (ty : TypeId) :
    (Builtin.copy_ #[28, 28] ty #[.slice (some ⟨X.heap.size, 0, none⟩) n n, .slice a n cap]).run Try.prog (X.alloc (.cells Z.toArray 42)) =
      .ok (goInt n) (X.alloc (.cells (flatS ls).toArray 42)) := by
  obtain ⟨hn, hx⟩ := h
  obtain ⟨b, off, rfl, hat⟩ := hx hn0
  have hb := hat.block (by omega)
  have hat' := at_of_sm (hat.below ((Below.refl X.heap.size X).alloc (Nat.le_refl _) (.cells Z.toArray 42)) hb)
  rw [run_copyN (P := Try.prog) _ 28 28 ty 42 5 X.heap.size 0 n n ⟨b, off, none⟩ n cap Z.toArray 42 (flatS ls) Try.underlying28 Try.size42 (heap_alloc_new X _)
    (by rw [flatS_len, hn]; congr 1; simp) (fun j v hj => by
      have := hat' j v hj
      rw [show (⟨b, off, none⟩ : Addr).add j = ⟨b, off + j, none⟩ from by unfold Addr.add; split <;> simp_all]
      exact this) (by simp [flatS_len, hZ]; omega) (flatS_one ls)]
  rw [setRow_alloc]
  have : Nat.min n n = n := by simp
  rw [this]
  have hd : Z.drop (flatS ls).length = [] := by rw [List.drop_eq_nil_iff, flatS_len]; omega
  simp [hd]
theorem recB_byte2 {ls : List Sm} (h : SmWf ls) (hn : ls.length ≤ 255) : ∀ y ∈ recB ls, isByte y := by
  intro y hy
  rcases List.mem_append.1 hy with hy | hy
  · exact bodyB_byte h hn y hy
  · exact lowN_byte _ _ y hy
theorem nums_append (a b : ByteArray) : nums (a ++ b) = nums a ++ nums b := by
  unfold nums; simp [ByteArray.data_append]

end Go.Proofs.Ythciddpljcbhiaa
