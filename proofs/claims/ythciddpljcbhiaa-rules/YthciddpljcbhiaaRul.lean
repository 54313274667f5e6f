/- Walks: Right and Project against the document's answer (ruled, Rules). -/
import Derived.Test.YthciddpljcbhiaaSti
import Derived.Test.YthciddpljcbhiaaPrj
import Derived.Test.YthciddpljcbhiaaEq
namespace Go.Proofs.Ythciddpljcbhiaa
open Go.RowKit

/-- The two boxes of the caller: a configuration and labels. -/
def Boxes (w : World) (N : Nat) (span keep : Int) (a : Option Addr) (n cap : Nat) (x y z : Int) : Prop :=
  N + 1 < w.heap.size ∧ w.cell? ⟨N, 0, none⟩ = some (.int .i64 span) ∧ w.cell? ⟨N, 1, none⟩ = some (.int .i64 keep) ∧ w.cell? ⟨N, 2, none⟩ = some (.slice a n cap) ∧
  w.cell? ⟨N + 1, 0, none⟩ = some (.int .u8 x) ∧ w.cell? ⟨N + 1, 1, none⟩ = some (.int .u8 y) ∧ w.cell? ⟨N + 1, 2, none⟩ = some (.int .u8 z)

theorem Boxes.below {w w' : World} {N B : Nat} {span keep : Int} {a : Option Addr} {n cap : Nat} {x y z : Int} (h : Boxes w N span keep a n cap x y z) (hb : Below B w w') (hB : N + 1 < B) : Boxes w' N span keep a n cap x y z := by
  obtain ⟨h0, h1, h2, h3, h4, h5, h6⟩ := h
  have hz := hb.size
  exact ⟨by omega, (hb.cell (p := ⟨N, 0, none⟩) (show N < B by omega)).trans h1, (hb.cell (p := ⟨N, 1, none⟩) (show N < B by omega)).trans h2, (hb.cell (p := ⟨N, 2, none⟩) (show N < B by omega)).trans h3,
    (hb.cell (p := ⟨N + 1, 0, none⟩) hB).trans h4, (hb.cell (p := ⟨N + 1, 1, none⟩) hB).trans h5, (hb.cell (p := ⟨N + 1, 2, none⟩) hB).trans h6⟩

theorem IsLvs.below {w w' : World} {a : Option Addr} {n : Nat} {ls : List Lv} {B : Nat} (h : IsLvs w a n ls) (hb : Below B w w') (hB : w.heap.size ≤ B) : IsLvs w' a n ls :=
  ⟨h.1, fun hn => let ⟨b, off, e, hat⟩ := h.2 hn; ⟨b, off, e, hat.below hb (Nat.lt_of_lt_of_le (hat.block (by rw [h.1]; exact hn)) hB)⟩⟩
theorem IsLvs.from {w0 w' : World} {a : Option Addr} {n : Nat} {ls : List Lv} (h : IsLvs w0 a n ls) (hb : Below w0.heap.size w0 w') : IsLvs w' a n ls := h.below hb (Nat.le_refl _)

theorem errR_le (b : Bool) : 0 ≤ errR b ∧ errR b ≤ 13 := by cases b <;> simp [errR]
theorem prE_le (s : ByteArray) (a b c : Int) : 0 ≤ prE s a b c ∧ prE s a b c ≤ 13 := by unfold prE; split <;> (try split) <;> omega

theorem three_new (W : World) (o1 o2 : Obj) (C : List Value) (t : TypeId) :
    (((W.alloc o1).alloc o2).alloc (.cells C.toArray t)).heap[W.heap.size + 1 + 1]? = some (.cells C.toArray t (0, 0)) ∧ (((W.alloc o1).alloc o2).alloc (.cells C.toArray t)).heap.size = W.heap.size + 1 + 1 + 1 ∧
    Below W.heap.size W (((W.alloc o1).alloc o2).alloc (.cells C.toArray t)) := by
  refine ⟨?_, by simp, ?_⟩
  · have := heap_alloc_new ((W.alloc o1).alloc o2) (.cells C.toArray t)
    simpa only [World.size_alloc] using this
  · exact (((Below.refl _ _).alloc (Nat.le_refl _) _).alloc (by simp) _).alloc (by simp; omega) _

theorem handedConfig_use (a : Option Addr) (n cap : Nat) (ls : List Lv) (span keep : Int) (w : World) (h : IsLvs w a n ls) (hr : n ≤ 7000000000000) :
    Calls Try.prog 29 #[.agg #[.int .i64 span, .int .i64 keep, .slice a n cap]] w fun e w' => ∃ g,
      e = .returned (.tuple #[.agg #[.int .i64 span, .int .i64 keep, .slice (some ⟨g, 0, none⟩) n (n + 1)], .slice (some ⟨g, 0, none⟩) (n + 1) (n + 1)]) ∧ w.heap.size < g ∧
      w'.heap[g]? = some (.cells (flat (ls ++ [blotLv])).toArray 76 (0, 0)) ∧ w'.heap.size = g + 1 ∧ Below w.heap.size w w' := by
  refine (handedConfig_any a n cap ls span keep w h hr).mono ?_
  rintro e w' ⟨rfl, rfl⟩
  obtain ⟨h1, h2, h3⟩ := three_new w (cfgO span keep (some ⟨w.heap.size + 1 + 1, 0, none⟩) n (n + 1)) (cfgO span keep (some ⟨w.heap.size + 1 + 1, 0, none⟩) n (n + 1)) (flat (ls ++ [blotLv])) 76
  exact ⟨_, rfl, by omega, h1, h2, h3⟩

theorem lvAt_left {w : World} {b off : Nat} {ls : List Lv} {x : Lv} (h : LvAt w b off (ls ++ [x])) : LvAt w b off ls := by
  intro i hi
  have := h i (by simp; omega)
  rwa [lvG_left ls x i hi] at this

set_option maxRecDepth 100000 in
set_option maxHeartbeats 2000000 in
theorem ruled_any (a : Option Addr) (n cap : Nat) (ls : List Lv) (span keep : Int) (s : ByteArray) (x y z : Int) (w : World) (h : IsLvs w a n ls) (hwf : LvWf ls) (hr : n ≤ 7000000000000) (hs : s.size ≤ maxLen) :
    Calls Try.prog 12 #[.agg #[.int .i64 span, .int .i64 keep, .slice a n cap], .string s, .agg #[.int .u8 x, .int .u8 y, .int .u8 z]] w fun e w' => e = .returned (.bool true) ∧ Below w.heap.size w w' := by
  have H1 : Hid (IsLvs ((w.alloc (cfgO span keep a n cap)).alloc (c3 x y z)) a n ls) := lvs_alloc (lvs_alloc h _) _
  have HW : Hid (LvWf ls) := hwf
  have H0 : Hid (IsLvs w a n ls) := h
  clear h hwf
  go_enter Try.func12, Try.ntmps12
  go_wp2_with fail
  refine (handedConfig_use a n cap ls span keep _ H1.out hr).mono ?_
  rintro e w1 ⟨g, rfl, hg, hh1, hsz1, hbel1⟩
  simp only [World.size_alloc] at hg
  have hrow1 : Hid (Row w1 g ((n + 1) * 4)) := ⟨_, by simp [flat_len, H1.out.1], 76, hh1⟩
  have hat1 : Hid (LvAt w1 g 0 (ls ++ [blotLv])) := lvAt_of (at_block hh1)
  have hbx1 : Hid (Boxes w1 w.heap.size span keep a n cap x y z) := by
    refine Boxes.below (w := (w.alloc (cfgO span keep a n cap)).alloc (c3 x y z)) ⟨by simp, ?_, ?_, ?_, ?_, ?_, ?_⟩ hbel1 (by simp) <;> simp [go_sem]
  have hbw1 : Hid (Below w.heap.size w w1) := (((Below.refl _ _).alloc (Nat.le_refl _) _).alloc (by simp) _).trans (hbel1.mono (by simp; omega))
  clear hh1 hbel1
  have HS1 : Hid (w1.heap.size = g + 1) := hsz1
  -- Right(h)
  go_wp2_with fail
  have hal : Below w1.heap.size w1 (w1.alloc (cfgO span keep (some ⟨g, 0, none⟩) n (n + 1))) := (Below.refl _ _).alloc (Nat.le_refl _) _
  refine (garRight_any (some ⟨g, 0, none⟩) n (n + 1) ls span keep _ ⟨H1.out.1, fun _ => ⟨g, 0, rfl, (lvAt_left hat1.out).below hal (by omega)⟩⟩ HW.out).mono ?_
  rintro e w2 ⟨rfl, hb2⟩
  have hb12 : Below w1.heap.size w1 w2 := hal.trans (hb2.mono (by simp))
  have hrow2 : Hid (Row w2 g ((n + 1) * 4)) := hrow1.out.below hb12 (by omega)
  have hat2 : Hid (LvAt w2 g 0 (ls ++ [blotLv])) := hat1.out.below hb12 (by omega)
  have hbx2 : Hid (Boxes w2 w.heap.size span keep a n cap x y z) := hbx1.out.below hb12 (by omega)
  have hbw2 : Hid (Below w.heap.size w w2) := hbw1.out.trans (hb12.mono (by omega))
  have hsz2 : g + 1 < w2.heap.size := by have := hb2.size; simp at this; omega
  clear hal hb2 hb12 hrow1 hat1 hbx1 hbw1 hsz1 HS1
  obtain ⟨k0, k1, k2, k3, k4, k5, k6⟩ := hbx2.out
  -- still?
  go_wp2_with fail
  refine (stillConfig_any a g n cap ls _ H1.out.1 hr hat2.out hrow2.out (H0.out.from hbw2.out)).mono ?_
  rintro e w3 ⟨rfl, hb3⟩
  have hbx3 : Hid (Boxes w3 w.heap.size span keep a n cap x y z) := hbx2.out.below hb3 (by omega)
  have hbw3 : Hid (Below w.heap.size w w3) := hbw2.out.trans (hb3.mono (by omega))
  clear hrow2 hat2 hbx2 hbw2 hb3 k0 k1 k2 k3 k4 k5 k6 hsz2
  obtain ⟨k0, k1, k2, k3, k4, k5, k6⟩ := hbx3.out
  -- the document's Right
  go_wp2_with fail
  refine (refRight_any a n cap ls span keep _ (H0.out.from hbw3.out) HW.out).mono ?_
  rintro e w4 ⟨rfl, hb4⟩
  have hbx4 : Hid (Boxes w4 w.heap.size span keep a n cap x y z) := hbx3.out.below hb4 k0
  have hbw4 : Hid (Below w.heap.size w w4) := hbw3.out.trans (hb4.mono (by omega))
  clear hbx3 hbw3 hb4 k0 k1 k2 k3 k4 k5 k6
  obtain ⟨k0, k1, k2, k3, k4, k5, k6⟩ := hbx4.out
  -- Project
  go_wp2_with fail
  refine (garProject_any s x y z _ hs).mono ?_
  rintro e w5 ⟨rfl, hb5⟩
  have hbx5 : Hid (Boxes w5 w.heap.size span keep a n cap x y z) := hbx4.out.below hb5 k0
  have hbw5 : Hid (Below w.heap.size w w5) := hbw4.out.trans (hb5.mono (by omega))
  clear hbx4 hbw4 hb5 k0 k1 k2 k3 k4 k5 k6
  obtain ⟨k0, k1, k2, k3, k4, k5, k6⟩ := hbx5.out
  obtain ⟨hE1, hE2⟩ := prE_le s x y z
  obtain ⟨hR1, hR2⟩ := errR_le (rightB span keep ls)
  unfold prV
  go_wp2_with fail
  refine (refProject_any s x y z _ hs).mono ?_
  rintro e w6 ⟨rfl, hb6⟩
  unfold prV
  generalize prX s x y z 0 = p0 at *
  generalize prX s x y z 1 = p1 at *
  generalize prX s x y z 2 = p2 at *
  generalize prE s x y z = pe at *
  generalize errR (rightB span keep ls) = er at *
  have hal : Below w5.heap.size w5 (w5.alloc (c3 p0 p1 p2)) := (Below.refl _ _).alloc (Nat.le_refl _) _
  have hbw6 : Hid (Below w.heap.size w w6) := hbw5.out.trans ((hal.mono (by omega)).trans (hb6.mono (by simp; omega)))
  have hsz6 : w5.heap.size < w6.heap.size := by have := hb6.size; simp at this; omega
  have j0 : w6.cell? ⟨w5.heap.size, 0, none⟩ = some (.int .u8 p0) := by rw [hb6.cell (p := ⟨w5.heap.size, 0, none⟩) (by simp)]; simp [go_sem]
  have j1 : w6.cell? ⟨w5.heap.size, 1, none⟩ = some (.int .u8 p1) := by rw [hb6.cell (p := ⟨w5.heap.size, 1, none⟩) (by simp)]; simp [go_sem]
  have j2 : w6.cell? ⟨w5.heap.size, 2, none⟩ = some (.int .u8 p2) := by rw [hb6.cell (p := ⟨w5.heap.size, 2, none⟩) (by simp)]; simp [go_sem]
  clear hbx5 hbw5 hb6 hal k0 k1 k2 k3 k4 k5 k6
  have heq := fun w => eq26 9998 p0 p1 p2 p0 p1 p2 w
  simp only [beq_self_eq_true, Bool.and_self] at heq
  go_wp2_with (go_at_call 35; refine (num_any _ _ (by omega) (by omega)).mono ?_; rintro e w' ⟨rfl, rfl⟩)
  go_ret
  exact ⟨rfl, hbw6.out.alloc (by have := hbw6.out.size; omega) _⟩

theorem rules_any (a : Option Addr) (n cap : Nat) (ls : List Lv) (span keep : Int) (s : ByteArray) (x y z : Int) (w : World) (h : IsLvs w a n ls) (hwf : LvWf ls) (hr : n ≤ 7000000000000) (hs : s.size ≤ maxLen) :
    Calls Try.prog 3 #[.agg #[.int .i64 span, .int .i64 keep, .slice a n cap], .string s, .agg #[.int .u8 x, .int .u8 y, .int .u8 z]] w fun e w' => e = .returned (.bool true) ∧ Below w.heap.size w w' := by
  have H1 : Hid (IsLvs ((w.alloc (cfgO span keep a n cap)).alloc (c3 x y z)) a n ls) := lvs_alloc (lvs_alloc h _) _
  have HW : Hid (LvWf ls) := hwf
  clear h hwf
  go_enter Try.func3, Try.ntmps3
  go_wp2_with fail
  refine (ruled_any a n cap ls span keep s x y z _ H1.out HW.out hr hs).mono ?_
  rintro e w1 ⟨rfl, hb1⟩
  go_wp2_with fail
  go_ret
  exact ⟨rfl, (((Below.refl _ _).alloc (Nat.le_refl _) _).alloc (by simp) _).trans (hb1.mono (by simp; omega))⟩

end Go.Proofs.Ythciddpljcbhiaa
