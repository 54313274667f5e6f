/- Walks: the levels in a list of the caller's own (handedConfig). -/
import Derived.Test.YthciddpljcbhiaaLvC
namespace Go.Proofs.Ythciddpljcbhiaa
open Go.RowKit

theorem Try.info76' : (Try.prog.info? 76).map (fun i => (i.zero, i.size, i.bytes)) = some (some (.agg #[.int .i64 0, .int .i64 0, .string ByteArray.empty, .int .i64 0]), 4, 40) := by kernel_rfl
theorem Try.size76 : (Try.prog.info? 76).map (·.size) = some 4 := by kernel_rfl

theorem make73 (n : Nat) (h : n ≤ 7000000000000) : ∃ Z : List Value, Z.length = (n + 1) * 4 ∧ ∀ w, (Instr.makeSlice 22 (.int .i64 ((n : Int) + 1)) (.int .i64 ((n : Int) + 1))).run Try.prog w =
    .ok (.slice (some ⟨w.heap.size, 0, none⟩) (n + 1) (n + 1)) (w.alloc (.cells Z.toArray 76)) := by
  have hinfo := Try.info76'
  cases hq : Try.prog.info? 76 with
  | none => simp [hq] at hinfo
  | some i =>
    simp only [hq, Option.map_some, Option.some.injEq, Prod.mk.injEq] at hinfo
    obtain ⟨hz, hs, hb⟩ := hinfo
    refine ⟨(madeCells (Value.cells (.agg #[.int .i64 0, .int .i64 0, .string ByteArray.empty, .int .i64 0])) ((n + 1) * 4)).toList, by simp [size_madeCells], fun w => ?_⟩
    have hr := run_make (P := Try.prog) w 22 76 i _ Try.underlying22 hq hz .i64 .i64 ((n : Int) + 1) ((n : Int) + 1) (by omega) (by omega) (by rw [hb]; omega) (by omega)
    rw [hr, hs, show ((n : Int) + 1).toNat = n + 1 from by omega]

theorem copy73 (X : World) (Z : List Value) (a : Option Addr) (n cap : Nat) (ls : List Lv) (hZ : Z.length = (n + 1) * 4) (h : IsLvs X a n ls) (g : Nat) (hg : g = X.heap.size) (ty : TypeId) :
    (Builtin.copy_ #[22, 22] ty #[.slice (some ⟨g, 0, none⟩) (n + 1) (n + 1), .slice a n cap]).run Try.prog (X.alloc (.cells Z.toArray 76)) =
      .ok (goInt n) (X.alloc (.cells (flat ls ++ Z.drop (n * 4)).toArray 76)) := by
  subst hg
  obtain ⟨hn, hx⟩ := h
  by_cases h0 : n = 0
  · subst h0
    have : ls = [] := List.eq_nil_of_length_eq_zero hn
    subst this
    rw [run_copyN_none _ 22 22 ty 76 4 _ _ _ _ _ _ Try.underlying22 Try.size76 (by simp)]
    simp [flat]
  · obtain ⟨b, off, rfl, hat⟩ := hx (by omega)
    have hb := hat.block (by omega)
    have hat' := at_of_lv (hat.below ((Below.refl X.heap.size X).alloc (Nat.le_refl _) (.cells Z.toArray 76)) hb)
    rw [run_copyN (P := Try.prog) _ 22 22 ty 76 4 X.heap.size 0 (n + 1) (n + 1) ⟨b, off, none⟩ n cap Z.toArray 76 (flat ls) Try.underlying22 Try.size76 (heap_alloc_new X _)
      (by rw [flat_len, hn]; congr 1; simp) (fun j v hj => by
        have := hat' j v hj
        rw [show (⟨b, off, none⟩ : Addr).add j = ⟨b, off + j, none⟩ from by unfold Addr.add; split <;> simp_all]
        exact this) (by simp [flat_len, hZ]; omega) (flat_one ls)]
    rw [setRow_alloc]
    have : Nat.min n (n + 1) = n := by simp
    rw [this]
    simp [flat_len, hn]

def blotLv : Lv := ⟨-77, 0, ⟨#[]⟩, 0⟩
theorem blot_set (ls : List Lv) (n : Nat) (R : List Value) (z0 z1 z2 z3 : Value) (hl : (flat ls).length = n * 4) (hR : R = flat ls ++ [z0, z1, z2, z3]) :
    ((((R.set (n * 4) (.int .i64 (-77))).set (n * 4 + 1) (.int .i64 0)).set (n * 4 + 2) (.string ⟨#[]⟩)).set (n * 4 + 3) (.int .i64 0)).toArray = (flat (ls ++ [blotLv])).toArray := by
  subst hR
  have : flat (ls ++ [blotLv]) = flat ls ++ [.int .i64 (-77), .int .i64 0, .string ⟨#[]⟩, .int .i64 0] := flat_snoc _ _ _
  rw [this]
  rw [List.set_append_right _ _ (by omega), hl, List.set_append_right _ _ (by omega), hl, List.set_append_right _ _ (by omega), hl, List.set_append_right _ _ (by omega), hl]
  simp

theorem world3 {w : World} {o1 o2 : Obj} {A B : Array Value} {t : TypeId} (h : A = B) : ((w.alloc o1).alloc o2).alloc (.cells A t) = ((w.alloc o1).alloc o2).alloc (.cells B t) := by rw [h]

set_option maxHeartbeats 1000000 in
theorem handedConfig_any (a : Option Addr) (n cap : Nat) (ls : List Lv) (span keep : Int) (w : World) (h : IsLvs w a n ls) (hr : n ≤ 7000000000000) :
    Calls Try.prog 29 #[.agg #[.int .i64 span, .int .i64 keep, .slice a n cap]] w fun e w' =>
      e = .returned (.tuple #[.agg #[.int .i64 span, .int .i64 keep, .slice (some ⟨w.heap.size + 1 + 1, 0, none⟩) n (n + 1)], .slice (some ⟨w.heap.size + 1 + 1, 0, none⟩) (n + 1) (n + 1)]) ∧
      w' = ((w.alloc (cfgO span keep (some ⟨w.heap.size + 1 + 1, 0, none⟩) n (n + 1))).alloc (cfgO span keep (some ⟨w.heap.size + 1 + 1, 0, none⟩) n (n + 1))).alloc (.cells (flat (ls ++ [blotLv])).toArray 76) := by
  obtain ⟨Z, hZ, hmk⟩ := make73 n hr
  have HZ : Hid (Z.length = (n + 1) * 4) := hZ
  clear hZ
  have hcp := fun ty => copy73 ((w.alloc (cfgO span keep a n cap)).alloc (cfgO 0 0 none 0 0)) Z a n cap ls HZ.out (lvs_alloc (lvs_alloc h _) _) (w.heap.size + 1 + 1) (by simp) ty
  have hfl : (flat ls).length = n * 4 := by rw [flat_len, h.1]
  obtain ⟨z0, z1, z2, z3, hz⟩ : ∃ z0 z1 z2 z3, Z.drop (n * 4) = [z0, z1, z2, z3] := by
    have : (Z.drop (n * 4)).length = 4 := by simp [HZ.out]; omega
    match hd : Z.drop (n * 4), this with
    | [z0, z1, z2, z3], _ => exact ⟨z0, z1, z2, z3, rfl⟩
  clear h
  have HLen : Hid ((flat ls).length = n * 4) := hfl
  clear hfl
  generalize hR : flat ls ++ Z.drop (n * 4) = R at hcp
  have e0 : R[n * 4]? = some z0 := by rw [← hR, hz, List.getElem?_append_right (by rw [HLen.out]; omega), HLen.out]; simp
  have e1 : R[n * 4 + 1]? = some z1 := by rw [← hR, hz, List.getElem?_append_right (by rw [HLen.out]; omega), HLen.out]; simp
  have e2 : R[n * 4 + 2]? = some z2 := by rw [← hR, hz, List.getElem?_append_right (by rw [HLen.out]; omega), HLen.out]; simp
  have e3 : R[n * 4 + 3]? = some z3 := by rw [← hR, hz, List.getElem?_append_right (by rw [HLen.out]; omega), HLen.out]; simp
  have HR : Hid (R = flat ls ++ [z0, z1, z2, z3]) := by rw [← hR, hz]; rfl
  clear hR hz HZ
  go_enter Try.func29, Try.ntmps29
  go_wp2_with fail
  go_returns
  exact ⟨rfl, world3 (blot_set ls n R z0 z1 z2 z3 HLen.out HR.out)⟩

end Go.Proofs.Ythciddpljcbhiaa
