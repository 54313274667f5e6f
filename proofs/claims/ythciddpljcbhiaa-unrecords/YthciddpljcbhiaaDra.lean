/- Walks: a list that came out is written over and kept (keepSamples, of a new drawer). -/
import Derived.Test.YthciddpljcbhiaaKeep
import Derived.Test.YthciddpljcbhiaaUnE
import Derived.Test.YthciddpljcbhiaaSmH
namespace Go.Proofs.Ythciddpljcbhiaa
open Go.RowKit

theorem Try.info28' : (Try.prog.info? 28).map (fun i => (i.zero, i.size, i.bytes)) = some (some (.slice none 0 0), 1, 24) := by kernel_rfl
theorem Try.info3' : (Try.prog.info? 3).map (fun i => (i.zero, i.size, i.bytes)) = some (some (.int .i64 0), 1, 8) := by kernel_rfl

theorem owns_set {w : World} {B : Nat} {e : TypeId} {sz : Nat} {v : Value} {n : Nat} {xs : List Value} (h : w.ownsRow B e sz v n xs) {g : Nat} (hg : v.ownBlock = some g) (o : Nat) (u : Value) :
    ∃ ys, (w.setCell ⟨g, o, none⟩ u).ownsRow B e sz v n ys := by
  rcases h.2 with ⟨rfl, _⟩ | ⟨g', cap, cur, rfl, hbg, hh, hnc, hcm, hcs, htake⟩
  · cases hg
  · simp only [Value.ownBlock, Option.some.injEq] at hg
    subst hg
    refine ⟨((cur.setIfInBounds o u).toList.take (n * sz)), ?_, .inr ⟨g', cap, cur.setIfInBounds o u, rfl, hbg, ?_, hnc, hcm, by simp [hcs], rfl⟩⟩
    · simp only [List.length_take, Array.length_toList, Array.size_setIfInBounds, hcs]
      exact Nat.min_eq_left (Nat.mul_le_mul_right _ hnc)
    · rw [setCell_eq_setRow w g' o cur e (0, 0) u hh]; exact setRow_heap w g' cur _ e _ hh
theorem owns_row {w : World} {B : Nat} {e : TypeId} {sz : Nat} {v : Value} {n : Nat} {xs : List Value} (h : w.ownsRow B e sz v n xs) {g : Nat} (hg : v.ownBlock = some g) : ∃ m, n * sz ≤ m ∧ Row w g m := by
  rcases h.2 with ⟨rfl, _⟩ | ⟨g', cap, cur, rfl, hbg, hh, hnc, hcm, hcs, htake⟩
  · cases hg
  · simp only [Value.ownBlock, Option.some.injEq] at hg
    subst hg
    exact ⟨cap * sz, Nat.mul_le_mul_right _ hnc, cur, hcs, e, hh⟩

abbrev drO (n : Int) : Obj := .cells #[.int .i64 n, .slice none 0 0, .slice none 0 0, .slice none 0 0, .slice none 0 0] 36
abbrev xO : Obj := .cells #[.int .i64 1, .int .u8 0, .int .u8 0, .int .u8 0, .int .i32 0] 42

/-- How things stand while the list is written over and appended to. -/
def KS (w wr : World) (D X B : Nat) (l : Value) (n : Nat) : Prop :=
  Below D w wr ∧ X < wr.heap.size ∧ (∃ ys, wr.ownsRow B 42 5 l n ys) ∧ wr.heap[D]? = some (drO 1) ∧ wr.heap[X]? = some xO

theorem KS.alloc {w wr : World} {D X B n : Nat} {l : Value} (h : KS w wr D X B l n) (hD : D < X) (o : Obj) : KS w (wr.alloc o) D X B l n := by
  obtain ⟨h1, h2, ⟨ys, h3⟩, h4, h5⟩ := h
  refine ⟨h1.alloc (by omega) _, by simp; omega, ⟨ys, h3.alloc _⟩, ?_, ?_⟩
  · rw [Below.heap_alloc _ _ _ (by omega)]; exact h4
  · rw [Below.heap_alloc _ _ _ h2]; exact h5
theorem KS.grown {w wr w' : World} {D X B n : Nat} {l : Value} {ys : List Value} (h : KS w wr D X B l n) (hl : ∀ g, l.ownBlock = some g → B ≤ g ∧ g < X) (hD : D < B) (hB : B ≤ X) (hg : wr.grownBy w' l.ownBlock) (ho : w'.ownsRow B 42 5 l n ys) : KS w w' D X B l n := by
  obtain ⟨h1, h2, _, h4, h5⟩ := h
  refine ⟨h1.grown hg (by omega) (fun k hk => by have := hl k hk; omega), by have := hg.size; omega, ⟨ys, ho⟩, ?_, ?_⟩
  · rw [hg.block D (by omega) (fun e => by have := hl D e.symm; omega)]; exact h4
  · rw [hg.block X h2 (fun e => by have := hl X e.symm; omega)]; exact h5
theorem KS.set {w wr : World} {D X B n : Nat} {l : Value} (h : KS w wr D X B l n) (hl : ∀ g, l.ownBlock = some g → B ≤ g ∧ g < X) (hD : D < B) {g : Nat} (hg : l.ownBlock = some g) (o : Nat) (u : Value) : KS w (wr.setCell ⟨g, o, none⟩ u) D X B l n := by
  obtain ⟨h1, h2, ⟨ys, h3⟩, h4, h5⟩ := h
  have hb := hl g hg
  refine ⟨h1.setCell (show D ≤ g by omega) _, by simpa [World.setCell] using h2, owns_set h3 hg o u, ?_, ?_⟩
  · rw [Below.heap_setCell _ _ _ _ (show D ≠ g by omega)]; exact h4
  · rw [Below.heap_setCell _ _ _ _ (show X ≠ g by omega)]; exact h5
/-- The cells of the drawer and of x. -/
theorem KS.cells {w wr : World} {D X B n : Nat} {l : Value} (h : KS w wr D X B l n) :
    wr.cell? ⟨D, 0, none⟩ = some (.int .i64 1) ∧ wr.cell? ⟨D, 1, none⟩ = some (.slice none 0 0) ∧ wr.cell? ⟨D, 3, none⟩ = some (.slice none 0 0) ∧ wr.frozen? ⟨D, 1, none⟩ = false ∧ wr.frozen? ⟨D, 3, none⟩ = false ∧
    wr.cell? ⟨X, 0, none⟩ = some (.int .i64 1) ∧ wr.cell? ⟨X, 1, none⟩ = some (.int .u8 0) ∧ wr.cell? ⟨X, 2, none⟩ = some (.int .u8 0) ∧ wr.cell? ⟨X, 3, none⟩ = some (.int .u8 0) ∧ wr.cell? ⟨X, 4, none⟩ = some (.int .i32 0) := by
  obtain ⟨_, _, _, h4, h5⟩ := h
  refine ⟨?_, ?_, ?_, ?_, ?_, ?_, ?_, ?_, ?_, ?_⟩ <;> simp [World.cell?, World.frozen?, h4, h5]

def xC : List Value := [.int .i64 1, .int .u8 0, .int .u8 0, .int .u8 0, .int .i32 0]
def xC2 : List Value := [.int .i64 1, .int .u8 0, .int .u8 0, .int .u8 0, .int .i32 0, .int .i64 1, .int .u8 0, .int .u8 0, .int .u8 0, .int .i32 0]
def xC3 : List Value := [.int .i64 1, .int .u8 0, .int .u8 0, .int .u8 0, .int .i32 0, .int .i64 1, .int .u8 0, .int .u8 0, .int .u8 0, .int .i32 0, .int .i64 1, .int .u8 0, .int .u8 0, .int .u8 0, .int .i32 0]
theorem xC_one : ∀ u ∈ xC, u.oneCell' = true := by
  intro u hu; simp [xC] at hu; rcases hu with rfl | rfl | rfl <;> rfl
theorem xC2_one : ∀ u ∈ xC2, u.oneCell' = true := by
  intro u hu; simp [xC2] at hu; rcases hu with rfl | rfl | rfl | rfl | rfl | rfl <;> rfl
theorem xC3_one : ∀ u ∈ xC3, u.oneCell' = true := by
  intro u hu; simp [xC3] at hu; rcases hu with rfl | rfl | rfl | rfl | rfl | rfl | rfl | rfl | rfl <;> rfl
theorem owns_form {w : World} {B : Nat} {e : TypeId} {sz : Nat} {v : Value} {n : Nat} {xs : List Value} (h : w.ownsRow B e sz v n xs) : ∃ a cap, v = .slice a n cap := by
  rcases h.2 with ⟨rfl, rfl⟩ | ⟨g, cap, cur, rfl, _⟩
  · exact ⟨none, 0, rfl⟩
  · exact ⟨_, cap, rfl⟩
theorem four_one (a0 a1 a2 a3 : Option Addr) (n0 n1 n2 n3 c0 c1 c2 c3 : Nat) : ∀ u ∈ [Value.slice a0 n0 c0, .slice a1 n1 c1, .slice a2 n2 c2, .slice a3 n3 c3], u.oneCell' = true := by
  intro u hu; simp at hu; rcases hu with rfl | rfl | rfl | rfl <;> rfl
theorem ones_one : ∀ u ∈ [Value.int .i64 1, .int .i64 1, .int .i64 1, .int .i64 1], u.oneCell' = true := by
  intro u hu; simp at hu; subst hu; rfl

theorem new_at (w : World) (l : List Value) (t : TypeId) (g : Nat) (hg : g = w.heap.size) : ∀ j u, l[j]? = some u → (w.alloc (.cells l.toArray t)).cell? ((⟨g, 0, none⟩ : Addr).add j) = some u := by
  subst hg
  intro j u hj
  have h := at_alloc_new w l t j u hj
  rw [Nat.zero_add] at h
  rw [show (⟨w.heap.size, 0, none⟩ : Addr).add j = ⟨w.heap.size, j, none⟩ from by unfold Addr.add; split <;> simp_all]
  exact h

theorem new_at_drew (w : World) (l : List Value) (t : TypeId) (g : Nat) (hg : g = w.heap.size) : ∀ j u, l[j]? = some u → (w.alloc (.cells l.toArray t)).drew.cell? ((⟨g, 0, none⟩ : Addr).add j) = some u := new_at w l t g hg
theorem drawer_cell {w3 : World} {D : Nat} {V : Value} {O1 O2 : Obj} {o : Nat} {x : Value} (hD : D < w3.heap.size) (ho : o ≠ 1) (h : w3.cell? ⟨D, o, none⟩ = some x) :
    (((w3.setCell ⟨D, 1, none⟩ V).alloc O1).alloc O2).drew.cell? ⟨D, o, none⟩ = some x := by
  have hs : (w3.setCell ⟨D, 1, none⟩ V).heap.size = w3.heap.size := by simp [World.setCell]
  have e : (((w3.setCell ⟨D, 1, none⟩ V).alloc O1).alloc O2).drew.cell? ⟨D, o, none⟩ = (w3.setCell ⟨D, 1, none⟩ V).cell? ⟨D, o, none⟩ := by
    apply World.cell?_of_block
    show (((w3.setCell ⟨D, 1, none⟩ V).alloc O1).alloc O2).heap[D]? = _
    rw [Below.heap_alloc _ _ _ (by rw [World.size_alloc, hs]; omega), Below.heap_alloc _ _ _ (by rw [hs]; exact hD)]
  rw [e, World.cell?_setCell_other _ _ _ _ (by intro hh; injection hh with _ h2 _; first | exact ho h2 | exact ho h2.symm)]
  exact h
theorem drawer_frozen {w3 : World} {D : Nat} {V : Value} {O1 O2 : Obj} {o : Nat} (hD : D < w3.heap.size) (h : w3.frozen? ⟨D, o, none⟩ = false) :
    (((w3.setCell ⟨D, 1, none⟩ V).alloc O1).alloc O2).drew.frozen? ⟨D, o, none⟩ = false := by
  have hs : (w3.setCell ⟨D, 1, none⟩ V).heap.size = w3.heap.size := by simp [World.setCell]
  have e : (((w3.setCell ⟨D, 1, none⟩ V).alloc O1).alloc O2).drew.frozen? ⟨D, o, none⟩ = (w3.setCell ⟨D, 1, none⟩ V).frozen? ⟨D, o, none⟩ := by
    apply World.frozen?_of_block
    show (((w3.setCell ⟨D, 1, none⟩ V).alloc O1).alloc O2).heap[D]? = _
    rw [Below.heap_alloc _ _ _ (by rw [World.size_alloc, hs]; omega), Below.heap_alloc _ _ _ (by rw [hs]; exact hD)]
  rw [e, World.frozen?_setCell]
  exact h
theorem drawer_below {w W : World} {D o : Nat} {V : Value} {O1 O2 : Obj} (h : Below D w W) (hD : D < W.heap.size) : Below D w (((W.setCell ⟨D, o, none⟩ V).alloc O1).alloc O2).drew.drew := by
  have hs : (W.setCell ⟨D, o, none⟩ V).heap.size = W.heap.size := by simp [World.setCell]
  exact (((h.setCell (Nat.le_refl _) _).alloc (show D ≤ _ by rw [hs]; omega) _).alloc (show D ≤ _ by rw [World.size_alloc, hs]; omega) _).drew.drew
theorem grown_cell {W w6 : World} {O : Obj} {D o : Nat} {x : Value} (hg : (W.alloc O).drew.grownBy w6 (Value.ownBlock (.slice none 0 0))) (hD : D < W.heap.size) (h : W.cell? ⟨D, o, none⟩ = some x) : w6.cell? ⟨D, o, none⟩ = some x := by
  have hb : w6.heap[D]? = W.heap[D]? := by
    rw [hg.block D (by simp; omega) (by simp [Value.ownBlock])]
    show (W.alloc O).heap[D]? = _
    exact Below.heap_alloc _ _ _ hD
  rw [World.cell?_of_block (w := W) (a := ⟨D, o, none⟩) hb]; exact h
theorem grown_frozen {W w6 : World} {O : Obj} {D o : Nat} (hg : (W.alloc O).drew.grownBy w6 (Value.ownBlock (.slice none 0 0))) (hD : D < W.heap.size) (h : W.frozen? ⟨D, o, none⟩ = false) : w6.frozen? ⟨D, o, none⟩ = false := by
  have hb : w6.heap[D]? = W.heap[D]? := by
    rw [hg.block D (by simp; omega) (by simp [Value.ownBlock])]
    show (W.alloc O).heap[D]? = _
    exact Below.heap_alloc _ _ _ hD
  rw [World.frozen?_of_block (w := W) (a := ⟨D, o, none⟩) hb]; exact h

set_option maxHeartbeats 4000000 in
set_option maxRecDepth 100000 in
theorem keepSamples_new (D B n : Nat) (l : Value) (xs : List Value) (w : World) (hDB : D < B) (hB : B ≤ w.heap.size) (hn : n ≤ 8) (hown : w.ownsRow B 42 5 l n xs) (hD : w.heap[D]? = some (drO 0)) :
    Calls Try.prog 41 #[.pointer (some ⟨D, 0, none⟩), l] w fun e w' => e = .returned (.tuple #[]) ∧ Below D w w' := by
  obtain ⟨j0, hj, jz0, jz1, jz2⟩ := info_parts Try.info42'
  obtain ⟨k0, hk, kz0, kz1, kz2⟩ := info_parts Try.info28'
  obtain ⟨m0, hm, mz0, mz1, mz2⟩ := info_parts Try.info3'
  have HL : Hid (∀ g, l.ownBlock = some g → B ≤ g ∧ g < w.heap.size) := hown.lt
  have c0 : w.cell? ⟨D, 0, none⟩ = some (.int .i64 0) := by simp [World.cell?, hD]
  have f0 : w.frozen? ⟨D, 0, none⟩ = false := by simp [World.frozen?, hD]
  have HK : Hid (KS w ((w.setCell ⟨D, 0, none⟩ (.int .i64 1)).alloc xO) D w.heap.size B l n) := by
    have hs : (w.setCell ⟨D, 0, none⟩ (.int .i64 1)).heap.size = w.heap.size := by simp [World.setCell]
    refine ⟨((Below.refl D w).setCell (Nat.le_refl _) _).alloc (show D ≤ _ by rw [hs]; omega) _, by simp [World.setCell], ?_, ?_, ?_⟩
    · have : (w.setCell ⟨D, 0, none⟩ (.int .i64 1)).ownsRow B 42 5 l n xs := ownsRow_setCell_below hown (show D < B from hDB) _
      exact ⟨xs, this.alloc _⟩
    · rw [Below.heap_alloc _ _ _ (by rw [hs]; omega), setCell_eq_setRow w D 0 _ 36 (0, 0) _ hD, setRow_heap w D _ _ 36 _ hD]
      rfl
    · rw [← hs]; exact heap_alloc_new _ _
  have hform : ∃ a cap, l = .slice a n cap := by
    rcases hown.2 with ⟨rfl, rfl⟩ | ⟨g, cap, cur, rfl, _⟩
    · exact ⟨none, 0, rfl⟩
    · exact ⟨_, cap, rfl⟩
  obtain ⟨a, cap, rfl⟩ := hform
  clear hown hD
  go_enter Try.func41, Try.ntmps41
  go_wp2_with fail
  go_loopw [5] (fun i wr => ∃ k : Nat, k ≤ n ∧ i = .int .i64 k ∧ KS w wr D w.heap.size B (.slice a n cap) n) (fun i _ => n - (intOf i).toNat)
  case atStart => exact ⟨0, Nat.zero_le _, rfl, HK.out⟩
  case round =>
    obtain ⟨k, hk2, rfl, hks⟩ := hrel
    have HS : Hid (KS w wr D w.heap.size B (.slice a n cap) n) := hks
    clear hks
    obtain ⟨d0, d1, d3, e1, e3, x0, x1, x2, x3, x4⟩ := HS.out.cells
    by_cases hlt : k < n
    · obtain ⟨ys, hown⟩ := HS.out.2.2.1
      obtain ⟨b, rfl⟩ : ∃ g, a = some ⟨g, 0, none⟩ := by
        rcases hown.2 with ⟨h, hn0⟩ | ⟨g, cap', cur, h, _⟩
        · omega
        · simp at h; exact ⟨g, h.1⟩
      obtain ⟨mm, hmm, hrow⟩ := owns_row hown (g := b) rfl
      have HR : Hid (Row wr b mm) := hrow
      clear hrow hown
      obtain ⟨⟨v0, q0⟩, g0⟩ := HR.out.cell (o := k * 5) (by omega)
      obtain ⟨⟨v1, q1⟩, g1⟩ := HR.out.cell (o := k * 5 + 1) (by omega)
      obtain ⟨⟨v2, q2⟩, g2⟩ := HR.out.cell (o := k * 5 + 2) (by omega)
      obtain ⟨⟨v3, q3⟩, g3⟩ := HR.out.cell (o := k * 5 + 3) (by omega)
      obtain ⟨⟨v4, q4⟩, g4⟩ := HR.out.cell (o := k * 5 + 4) (by omega)
      go_wp2_with fail
      refine ⟨⟨k + 1, by omega, by go_num, ?_⟩, by simp [intOf]; omega⟩
      exact ((((HS.out.set HL.out hDB rfl _ _).set HL.out hDB rfl _ _).set HL.out hDB rfl _ _).set HL.out hDB rfl _ _).set HL.out hDB rfl _ _
    · obtain ⟨ys, hown⟩ := HS.out.2.2.1
      have HO : Hid (wr.ownsRow B 42 5 (.slice a n cap) n ys) := hown
      clear hown
      have hz := HS.out.2.1
      go_wp2_with (first
        | (at_builtin; refine wpList_append_keep rfl (.tmp 31) (.tmp 33) 28 rfl B 42 j0 (.agg #[.int .i64 0, .int .u8 0, .int .u8 0, .int .u8 0, .int .i32 0]) 5 16 Try.underlying28 hj jz0 jz1 jz2 rfl (by decide) (.slice a n cap) n ys rfl (HO.out.alloc _) ⟨wr.heap.size, 0, none⟩ 1 1 xC rfl rfl (by exact new_at _ xC 42 _ rfl) xC_one (by unfold maxLen; omega) (by omega) (by simp; omega) ?_; intro v1 w1 hv1 hl1 hg1; have HS1 : Hid (KS w w1 D w.heap.size B (.slice a n cap) n) := (HS.out.alloc (by omega) _).grown HL.out hDB hB hg1 hl1; have HO1 : Hid (w1.ownsRow B 42 5 (.slice a n cap) n ys) := hl1; have hz1 := HS1.out.2.1; obtain ⟨a1, p1, rfl⟩ := owns_form hv1; clear hv1 hl1 hg1 d0 d1 d3 e1 e3 x0 x1 x2 x3 x4; obtain ⟨d0, d1, d3, e1, e3, x0, x1, x2, x3, x4⟩ := HS1.out.cells)
        | (at_builtin; refine wpList_append_keep rfl (.tmp 35) (.tmp 38) 28 rfl B 42 j0 (.agg #[.int .i64 0, .int .u8 0, .int .u8 0, .int .u8 0, .int .i32 0]) 5 16 Try.underlying28 hj jz0 jz1 jz2 rfl (by decide) (.slice a n cap) n ys rfl (HO1.out.alloc _) ⟨w1.heap.size, 0, none⟩ 2 2 xC2 rfl rfl (by exact new_at _ xC2 42 _ rfl) xC2_one (by unfold maxLen; omega) (by omega) (by simp; omega) ?_; intro v2 w2 hv2 hl2 hg2; have HS2 : Hid (KS w w2 D w.heap.size B (.slice a n cap) n) := (HS1.out.alloc (by omega) _).grown HL.out hDB hB hg2 hl2; have HO2 : Hid (w2.ownsRow B 42 5 (.slice a n cap) n ys) := hl2; have hz2 := HS2.out.2.1; obtain ⟨a2, p2, rfl⟩ := owns_form hv2; clear hv2 hl2 hg2 d0 d1 d3 e1 e3 x0 x1 x2 x3 x4; obtain ⟨d0, d1, d3, e1, e3, x0, x1, x2, x3, x4⟩ := HS2.out.cells)
        | (at_builtin; refine wpList_append_keep rfl (.tmp 40) (.tmp 44) 28 rfl B 42 j0 (.agg #[.int .i64 0, .int .u8 0, .int .u8 0, .int .u8 0, .int .i32 0]) 5 16 Try.underlying28 hj jz0 jz1 jz2 rfl (by decide) (.slice a n cap) n ys rfl (HO2.out.alloc _) ⟨w2.heap.size, 0, none⟩ 3 3 xC3 rfl rfl (by exact new_at _ xC3 42 _ rfl) xC3_one (by unfold maxLen; omega) (by omega) (by simp; omega) ?_; intro v3 w3 hv3 hl3 hg3; have HS3 : Hid (KS w w3 D w.heap.size B (.slice a n cap) n) := (HS2.out.alloc (by omega) _).grown HL.out hDB hB hg3 hl3; have HO3 : Hid (w3.ownsRow B 42 5 (.slice a n cap) n ys) := hl3; have hz3 := HS3.out.2.1; obtain ⟨a3, p3, rfl⟩ := owns_form hv3; clear hv3 hl3 hg3 d0 d1 d3 e1 e3 x0 x1 x2 x3 x4; obtain ⟨d0, d1, d3, e1, e3, x0, x1, x2, x3, x4⟩ := HS3.out.cells; have hD3 : D < w3.heap.size := by omega)
        | fail)
      clear x0 x1 x2 x3 x4
      have hD4 : D ≠ w3.heap.size := by omega
      have hD5 : D ≠ w3.heap.size + 1 := by omega
      have hD6 : D ≠ w3.heap.size + 1 + 1 := by omega
      have HB3 : Hid (Below D w w3) := HS3.out.1
      clear HS HS1 HS2 HS3 HO HO1 HO2 HO3 HK
      generalize (Question.appendCap 4 0 28).cut (w3.tape w3.drawn (Question.appendCap 4 0 28)) = q4
      generalize Obj.cells (#[Value.slice a n cap, Value.slice a1 (n + 1) p1, Value.slice a2 (n + 2) p2, Value.slice a3 (n + 3) p3] ++ Builtin.zeroCells #[Value.slice none 0 0] (q4 - 4)) 28 = O2
      generalize Obj.cells #[Value.slice a n cap, Value.slice a1 (n + 1) p1, Value.slice a2 (n + 2) p2, Value.slice a3 (n + 3) p3] 28 = O1
      have HB5 : Hid (Below D w (((w3.setCell ⟨D, 1, none⟩ (.slice (some ⟨w3.heap.size + 1, 0, none⟩) 4 q4)).alloc O1).alloc O2).drew) := by
        have hs : (w3.setCell ⟨D, 1, none⟩ (.slice (some ⟨w3.heap.size + 1, 0, none⟩) 4 q4)).heap.size = w3.heap.size := by simp [World.setCell]
        exact (((HB3.out.setCell (Nat.le_refl _) _).alloc (show D ≤ _ by rw [hs]; omega) _).alloc (show D ≤ _ by simp [hs]; omega) _).drew
      have y0 : (((w3.setCell ⟨D, 1, none⟩ (.slice (some ⟨w3.heap.size + 1, 0, none⟩) 4 q4)).alloc O1).alloc O2).drew.cell? ⟨D, 0, none⟩ = some (.int .i64 1) := drawer_cell hD3 (by simp) d0
      have y3 : (((w3.setCell ⟨D, 1, none⟩ (.slice (some ⟨w3.heap.size + 1, 0, none⟩) 4 q4)).alloc O1).alloc O2).drew.cell? ⟨D, 3, none⟩ = some (.slice none 0 0) := drawer_cell hD3 (by simp) d3
      have z3 : (((w3.setCell ⟨D, 1, none⟩ (.slice (some ⟨w3.heap.size + 1, 0, none⟩) 4 q4)).alloc O1).alloc O2).drew.frozen? ⟨D, 3, none⟩ = false := drawer_frozen hD3 e3
      have hD7 : D < (((w3.setCell ⟨D, 1, none⟩ (.slice (some ⟨w3.heap.size + 1, 0, none⟩) 4 q4)).alloc O1).alloc O2).drew.heap.size := by simp [World.setCell]; omega
      generalize (((w3.setCell ⟨D, 1, none⟩ (.slice (some ⟨w3.heap.size + 1, 0, none⟩) 4 q4)).alloc O1).alloc O2).drew = W5 at *
      clear d0 d1 d3 e1 e3 hD3 hD4 hD5 hD6 HB3
      have hcap : ¬ 281474976710656 < Builtin.nextslicecap 4 0 * Try.t3.bytes := of_decide_eq_false (by kernel_rfl)
      have hD8 : D ≠ W5.heap.size := by omega
      go_region
      go_wp2_with fail
      go_end0
      exact ⟨rfl, drawer_below HB5.out hD7⟩

end Go.Proofs.Ythciddpljcbhiaa
