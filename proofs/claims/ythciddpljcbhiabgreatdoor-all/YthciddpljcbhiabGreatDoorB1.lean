/- Texts of one claim put together: Lab, Prj, Blk, Qry, Eq, Row, Ins, Add, Bok, Giv, Ent, Num, SmA, WhA. -/
import Derived.Test.YthciddpljcbhiabGreatDoorProg
import Derived.Test.YthciddpljcbhiabGreatDoorA
import Derived.WalkKit
import Derived.WalkSpells
import Derived.WalkLawsBesides
import Derived.Handy
import Derived.Deep.RegionWith
import Derived.BigRegion
import Derived.Deep.Draws
import Derived.Deep.QuietTactic
import Derived.BigQuiet
import Derived.Laws.StructEq
import Derived.Deep.Cut
import Derived.Deep.CutRange

/- Walks: letters, rules and labels, of the program and of the document's answer. -/
namespace Go.Proofs.YthciddpljcbhiabGreatDoor
open Go.RowKit

theorem isLetter_any (a : Int) (w : World) :
    Calls Tryz.prog 123 #[.int .u8 a] w fun e w' => e = .returned (.bool (letB a)) ∧ w' = w := by
  go_enter Tryz.func123, Tryz.ntmps123
  go_wp2
  all_goals go_ret
  all_goals exact ⟨by simp [letB, *]; try omega, rfl⟩

theorem letter_any (a : Int) (w : World) :
    Calls Tryz.prog 89 #[.int .u8 a] w fun e w' => e = .returned (.bool (letB a)) ∧ w' = w := by
  go_enter Tryz.func89, Tryz.ntmps89
  go_wp2
  all_goals go_ret
  all_goals exact ⟨by simp [letB, *]; try omega, rfl⟩

theorem ret_bool {a b : Bool} (h : a = b) : Ending.returned (.bool a) = .returned (.bool b) := by rw [h]

theorem rightRule_any (s : ByteArray) (_hs : s.size ≤ maxLen) (w : World) :
    Calls Tryz.prog 84 #[.string s] w fun e w' => e = .returned (.bool (ruleB s)) ∧ w' = w := by
  unfold maxLen at _hs
  by_cases h3 : s.size = 3
  · have h3' : ((s.size : Int) == 3) = true := by simp; omega
    go_enter Tryz.func84, Tryz.ntmps84
    go_wp2
    go_loop [3] (fun i => ∃ k : Nat, k ≤ 3 ∧ i = .int .i64 k ∧ ∀ j, j < k → rulB (byt s j) = true) (fun i => 3 - (intOf i).toNat)
    case atStart => exact ⟨0, Nat.zero_le _, rfl, fun j hj => by omega⟩
    case round =>
      obtain ⟨k, hk, rfl, hall⟩ := hrel
      have HA : Hid (∀ j, j < k → rulB (byt s j) = true) := hall
      clear hall
      by_cases hlt : k < 3
      · have HB : Hid (((s[k].toNat : Nat) : Int) = byt s k) := byt_eq s k (by omega)
        go_wp2
        all_goals first
          | (have HR : rulB (byt s k) = true := by (rw [← HB.out]; simp [rulB]; simp at *; omega)
             exact ⟨⟨k + 1, by omega, by go_num, upto_succ HA.out HR⟩, by simp [intOf]; omega⟩)
          | (have HR : rulB (byt s k) = false := by (rw [← HB.out]; simp [rulB]; simp at *; omega)
             go_ret
             exact ⟨ret_bool (ruleB_false k hlt HR).symm, rfl⟩)
      · go_wp2
        go_ret
        exact ⟨ret_bool (ruleB_true h3 (fun j hj => HA.out j (by omega))).symm, rfl⟩
  · have hf := ruleB_size h3
    have hd : ((s.size : Int) == 3) = false := by simp; omega
    rw [hf]
    clear hf
    go_enter Tryz.func84, Tryz.ntmps84
    go_wp2
    go_ret
    exact ⟨rfl, rfl⟩


theorem isRule_any (s : ByteArray) (_hs : s.size ≤ maxLen) (w : World) :
    Calls Tryz.prog 60 #[.string s] w fun e w' => e = .returned (.bool (ruleB s)) ∧ w' = w := by
  unfold maxLen at _hs
  by_cases h3 : s.size = 3
  · have h3' : ((s.size : Int) == 3) = true := by simp; omega
    go_enter Tryz.func60, Tryz.ntmps60
    go_wp2
    go_loop [3] (fun i => ∃ k : Nat, k ≤ 3 ∧ i = .int .i64 k ∧ ∀ j, j < k → rulB (byt s j) = true) (fun i => 3 - (intOf i).toNat)
    case atStart => exact ⟨0, Nat.zero_le _, rfl, fun j hj => by omega⟩
    case round =>
      obtain ⟨k, hk, rfl, hall⟩ := hrel
      have HA : Hid (∀ j, j < k → rulB (byt s j) = true) := hall
      clear hall
      by_cases hlt : k < 3
      · have HB : Hid (((s[k].toNat : Nat) : Int) = byt s k) := byt_eq s k (by omega)
        go_wp2
        all_goals first
          | (have HR : rulB (byt s k) = true := by (rw [← HB.out]; simp [rulB]; simp at *; omega)
             exact ⟨⟨k + 1, by omega, by go_num, upto_succ HA.out HR⟩, by simp [intOf]; omega⟩)
          | (have HR : rulB (byt s k) = false := by (rw [← HB.out]; simp [rulB]; simp at *; omega)
             go_ret
             exact ⟨ret_bool (ruleB_false k hlt HR).symm, rfl⟩)
      · go_wp2
        go_ret
        exact ⟨ret_bool (ruleB_true h3 (fun j hj => HA.out j (by omega))).symm, rfl⟩
  · have hf := ruleB_size h3
    have hd : ((s.size : Int) == 3) = false := by simp; omega
    rw [hf]
    clear hf
    go_enter Tryz.func60, Tryz.ntmps60
    go_wp2
    go_ret
    exact ⟨rfl, rfl⟩

theorem group_any (b : Int) (w : World) :
    Calls Tryz.prog 111 #[.int .u8 b] w fun e w' => e = .returned (.int .u8 (grpB b)) ∧ w' = w := by
  go_enter Tryz.func111, Tryz.ntmps111
  go_wp2
  all_goals go_ret
  all_goals refine ⟨?_, rfl⟩
  all_goals (have : ∀ x y : Int, x = y → Ending.returned (.int .u8 x) = Ending.returned (.int .u8 y) := fun x y h => by rw [h])
  all_goals (apply this; simp only [grpB]; simp at *; omega)

theorem projectByte_any (r b : Int) (w : World) :
    Calls Tryz.prog 88 #[.int .u8 r, .int .u8 b] w fun e w' => e = .returned (.int .u8 (prjB r b)) ∧ w' = w := by
  go_enter Tryz.func88, Tryz.ntmps88
  go_wp2_with (go_at_call 111; refine (group_any _ _).mono ?_; rintro e w' ⟨rfl, rfl⟩)
  all_goals go_ret
  all_goals refine ⟨?_, rfl⟩
  all_goals (have : ∀ x y : Int, x = y → Ending.returned (.int .u8 x) = Ending.returned (.int .u8 y) := fun x y h => by rw [h])
  all_goals (apply this; simp only [prjB]; simp at *; simp [*])

theorem triCell (w : World) (a b c : Int) (k : Nat) (hk : k < 3) (T : TypeId) :
    (w.alloc (.cells #[.int .u8 a, .int .u8 b, .int .u8 c] T)).cell? ⟨w.heap.size, k, none⟩ = some (.int .u8 (tri a b c k)) := by
  have : k = 0 ∨ k = 1 ∨ k = 2 := by omega
  rcases this with rfl | rfl | rfl <;> simp [tri, go_sem]

theorem rightByte_any (a : Int) (w : World) :
    Calls Tryz.prog 110 #[.int .u8 a] w fun e w' => e = .returned (.bool (labB a)) ∧ w' = w := by
  go_enter Tryz.func110, Tryz.ntmps110
  go_wp2_with (go_at_call 123; refine (isLetter_any _ _).mono ?_; rintro e w' ⟨rfl, rfl⟩)
  all_goals go_ret
  all_goals exact ⟨by simp [labB, *], rfl⟩

theorem labRight_any (a b c : Int) (w : World) :
    Calls Tryz.prog 87 #[.agg #[.int .u8 a, .int .u8 b, .int .u8 c]] w fun e w' => e = .returned (.bool (lab3 a b c)) ∧ w' = w.alloc (.cells #[.int .u8 a, .int .u8 b, .int .u8 c] 42) := by
  go_enter Tryz.func87, Tryz.ntmps87
  go_wp2
  go_loop [3] (fun i => ∃ k : Nat, k ≤ 3 ∧ i = .int .i64 k ∧ ∀ j, j < k → labB (tri a b c j) = true) (fun i => 3 - (intOf i).toNat)
  case atStart => exact ⟨0, Nat.zero_le _, rfl, fun j hj => by omega⟩
  case round =>
    obtain ⟨k, hk, rfl, hall⟩ := hrel
    have HA : Hid (∀ j, j < k → labB (tri a b c j) = true) := hall
    clear hall
    by_cases hlt : k < 3
    · have hcell := triCell w a b c k hlt 42
      cases hL : labB (tri a b c k)
      · go_wp2_with (go_at_call 110; refine (rightByte_any _ _).mono ?_; rintro e w' ⟨rfl, rfl⟩)
        go_ret
        exact ⟨ret_bool (lab3_false k hlt hL).symm, rfl⟩
      · go_wp2_with (go_at_call 110; refine (rightByte_any _ _).mono ?_; rintro e w' ⟨rfl, rfl⟩)
        exact ⟨⟨k + 1, by omega, by go_num, upto_succ HA.out hL⟩, by simp [intOf]; omega⟩
    · go_wp2
      go_ret
      exact ⟨ret_bool (lab3_true (fun j hj => HA.out j (by omega))).symm, rfl⟩

theorem isLabels_any (a b c : Int) (w : World) :
    Calls Tryz.prog 61 #[.agg #[.int .u8 a, .int .u8 b, .int .u8 c]] w fun e w' => e = .returned (.bool (lab3 a b c)) ∧ w' = w.alloc (.cells #[.int .u8 a, .int .u8 b, .int .u8 c] 42) := by
  go_enter Tryz.func61, Tryz.ntmps61
  go_wp2
  go_loop [3] (fun i => ∃ k : Nat, k ≤ 3 ∧ i = .int .i64 k ∧ ∀ j, j < k → labB (tri a b c j) = true) (fun i => 3 - (intOf i).toNat)
  case atStart => exact ⟨0, Nat.zero_le _, rfl, fun j hj => by omega⟩
  case round =>
    obtain ⟨k, hk, rfl, hall⟩ := hrel
    have HA : Hid (∀ j, j < k → labB (tri a b c j) = true) := hall
    clear hall
    by_cases hlt : k < 3
    · have hcell := triCell w a b c k hlt 42
      go_wp2_with (go_at_call 89; refine (letter_any _ _).mono ?_; rintro e w' ⟨rfl, rfl⟩)
      all_goals first
        | (have HR : labB (tri a b c k) = true := by (simp only [labB]; simp at *; simp [*]; done)
           exact ⟨⟨k + 1, by omega, by go_num, upto_succ HA.out HR⟩, by simp [intOf]; omega⟩)
        | (have HR : labB (tri a b c k) = true := by (simp only [labB]; simp at *; rcases ‹_ ∨ _› with h | h <;> simp [h]; done)
           exact ⟨⟨k + 1, by omega, by go_num, upto_succ HA.out HR⟩, by simp [intOf]; omega⟩)
        | (have HR : labB (tri a b c k) = false := by (simp only [labB]; simp at *; simp [*]; done)
           go_ret
           exact ⟨ret_bool (lab3_false k hlt HR).symm, rfl⟩)
    · go_wp2
      go_ret
      exact ⟨ret_bool (lab3_true (fun j hj => HA.out j (by omega))).symm, rfl⟩

theorem num_any (e : Int) (w : World) (_h0 : 0 ≤ e) (_h1 : e ≤ 13) : Calls Tryz.prog 13 #[.int .i64 e] w fun r w' => r = .returned (.int .i64 e) ∧ w' = w := by
  go_enter Tryz.func13, Tryz.ntmps13
  go_wp2
  go_ret
  exact ⟨rfl, rfl⟩

end Go.Proofs.YthciddpljcbhiabGreatDoor

/- Walks: Project, of the program and of the document's answer. -/
namespace Go.Proofs.YthciddpljcbhiabGreatDoor
open Go.RowKit

abbrev c3 (a b c : Int) : Obj := .cells #[.int .u8 a, .int .u8 b, .int .u8 c] 42

theorem wEq3 {w : World} {o : Obj} {a b c a' b' c' : Int} (h : a = a') (h1 : b = b') (h2 : c = c') : (w.alloc (c3 a b c)).alloc o = (w.alloc (c3 a' b' c')).alloc o := by rw [h, h1, h2]
theorem lab_or {a : Int} (h : labB a = true) : a = 45 ∨ (97 ≤ a ∧ a ≤ 122) := by simpa [labB, letB] using h

set_option maxHeartbeats 400000 in
theorem made_any (s : ByteArray) (a b c : Int) (w : World) (h3 : s.size = 3) (hl : lab3 a b c = true) :
    Calls Tryz.prog 62 #[.string s, .agg #[.int .u8 a, .int .u8 b, .int .u8 c]] w fun e w' =>
      e = .returned (.agg #[.int .u8 (prjB (byt s 0) a), .int .u8 (prjB (byt s 1) b), .int .u8 (prjB (byt s 2) c)]) ∧
      w' = (w.alloc (c3 (prjB (byt s 0) a) (prjB (byt s 1) b) (prjB (byt s 2) c))).alloc (c3 (prjB (byt s 0) a) (prjB (byt s 1) b) (prjB (byt s 2) c)) := by
  simp [lab3] at hl
  have LA : Hid (a = 45 ∨ (97 ≤ a ∧ a ≤ 122)) := lab_or hl.1.1
  have LB : Hid (b = 45 ∨ (97 ≤ b ∧ b ≤ 122)) := lab_or hl.1.2
  have LC : Hid (c = 45 ∨ (97 ≤ c ∧ c ≤ 122)) := lab_or hl.2
  clear hl
  go_enter Tryz.func62, Tryz.ntmps62
  go_wp2
  go_loopw [5] (fun i wr => (i = .int .i64 0 ∧ wr = (w.alloc (c3 a b c)).alloc (c3 0 0 0)) ∨ (i = .int .i64 1 ∧ wr = (w.alloc (c3 (prjB (byt s 0) a) b c)).alloc (c3 0 0 0))
     ∨ (i = .int .i64 2 ∧ wr = (w.alloc (c3 (prjB (byt s 0) a) (prjB (byt s 1) b) c)).alloc (c3 0 0 0)) ∨ (i = .int .i64 3 ∧ wr = (w.alloc (c3 (prjB (byt s 0) a) (prjB (byt s 1) b) (prjB (byt s 2) c))).alloc (c3 0 0 0))) (fun i _ => 3 - (intOf i).toNat)
  case atStart => exact Or.inl ⟨rfl, rfl⟩
  case round =>
    have HB0 : Hid (((s[0].toNat : Nat) : Int) = byt s 0) := byt_eq s 0 (by omega)
    have HB1 : Hid (((s[1].toNat : Nat) : Int) = byt s 1) := byt_eq s 1 (by omega)
    have HB2 : Hid (((s[2].toNat : Nat) : Int) = byt s 2) := byt_eq s 2 (by omega)
    rcases hrel with ⟨rfl, rfl⟩ | ⟨rfl, rfl⟩ | ⟨rfl, rfl⟩ | ⟨rfl, rfl⟩
    · go_wp2
      all_goals refine ⟨Or.inr (Or.inl ⟨rfl, wEq3 ?_ rfl rfl⟩), by simp [intOf]⟩
      all_goals (have h := LA.out; rw [← HB0.out]; clear HB0 HB1 HB2 LA LB LC; simp only [prjB, grpB]; simp at *; omega)
    · go_wp2
      all_goals refine ⟨Or.inr (Or.inr (Or.inl ⟨rfl, wEq3 rfl ?_ rfl⟩)), by simp [intOf]⟩
      all_goals (have h := LB.out; rw [← HB1.out]; clear HB0 HB1 HB2 LA LB LC; simp only [prjB, grpB]; simp at *; omega)
    · go_wp2
      all_goals refine ⟨Or.inr (Or.inr (Or.inr ⟨rfl, wEq3 rfl rfl ?_⟩)), by simp [intOf]⟩
      all_goals (have h := LC.out; rw [← HB2.out]; clear HB0 HB1 HB2 LA LB LC; simp only [prjB, grpB]; simp at *; omega)
    · go_wp2
      go_returns
      exact ⟨rfl, rfl⟩

theorem bcell {W w1 : World} (hb : Below W.heap.size W w1) : (∀ b o, b < W.heap.size → w1.cell? ⟨b, o, none⟩ = W.cell? ⟨b, o, none⟩) ∧ (∀ b o, b < W.heap.size → w1.frozen? ⟨b, o, none⟩ = W.frozen? ⟨b, o, none⟩) :=
  ⟨fun b o h => hb.cell (p := ⟨b, o, none⟩) h, fun b o h => hb.frozen (p := ⟨b, o, none⟩) h⟩

def prV (s : ByteArray) (a b c : Int) : Value := .tuple #[.agg #[.int .u8 (prX s a b c 0), .int .u8 (prX s a b c 1), .int .u8 (prX s a b c 2)], .int .i64 (prE s a b c)]
theorem prV_rule {s : ByteArray} {a b c : Int} (h : ruleB s = false) : prV s a b c = .tuple #[.agg #[.int .u8 0, .int .u8 0, .int .u8 0], .int .i64 3] := by simp [prV, prX, prE, h]
theorem prV_lab {s : ByteArray} {a b c : Int} (h : ruleB s = true) (h' : lab3 a b c = false) : prV s a b c = .tuple #[.agg #[.int .u8 0, .int .u8 0, .int .u8 0], .int .i64 2] := by simp [prV, prX, prE, h, h']
theorem prV_ok {s : ByteArray} {a b c : Int} (h : ruleB s = true) (h' : lab3 a b c = true) : prV s a b c = .tuple #[.agg #[.int .u8 (prjB (byt s 0) a), .int .u8 (prjB (byt s 1) b), .int .u8 (prjB (byt s 2) c)], .int .i64 0] := by
  simp [prV, prX, prE, h, h', tri]

set_option maxHeartbeats 400000 in
theorem refProject_any (s : ByteArray) (a b c : Int) (w : World) (hs : s.size ≤ maxLen) :
    Calls Tryz.prog 29 #[.string s, .agg #[.int .u8 a, .int .u8 b, .int .u8 c]] w fun e w' => e = .returned (prV s a b c) ∧ Below w.heap.size w w' := by
  cases hr : ruleB s
  · rw [prV_rule hr]
    go_enter Tryz.func29, Tryz.ntmps29
    go_wp2_with (go_at_call 60; refine (isRule_any _ hs _).mono ?_; rintro e w' ⟨rfl, rfl⟩)
    go_returns
    exact ⟨rfl, by go_grown⟩
  · cases hl : lab3 a b c
    · rw [prV_lab hr hl]
      go_enter Tryz.func29, Tryz.ntmps29
      go_wp2_with (first | (go_at_call 60; refine (isRule_any _ hs _).mono ?_; rintro e w' ⟨rfl, rfl⟩) | (go_at_call 61; refine (isLabels_any _ _ _ _).mono ?_; rintro e w' ⟨rfl, rfl⟩))
      go_returns
      exact ⟨rfl, by go_grown⟩
    · rw [prV_ok hr hl]
      have h3 : s.size = 3 := by simp [ruleB] at hr; exact hr.1.1.1
      go_enter Tryz.func29, Tryz.ntmps29
      go_wp2_with (first | (go_at_call 60; refine (isRule_any _ hs _).mono ?_; rintro e w' ⟨rfl, rfl⟩) | (go_at_call 61; refine (isLabels_any _ _ _ _).mono ?_; rintro e w' ⟨rfl, rfl⟩) | (go_at_call 62; refine (made_any _ _ _ _ _ h3 hl).mono ?_; rintro e w' ⟨rfl, rfl⟩))
      go_returns
      exact ⟨rfl, by go_grown⟩

theorem setc3_0 (X : World) (n : Nat) (x y z v : Int) {m : Nat} (hm : m = X.heap.size) : ((X.alloc (c3 x y z)).drewN n).setCell ⟨m, 0, none⟩ (.int .u8 v) = (X.alloc (c3 v y z)).drewN n := by
  subst hm
  show ((X.alloc (c3 x y z)).setCell ⟨X.heap.size, 0, none⟩ (.int .u8 v)).drewN n = _
  rw [World.setCell_alloc_at _ _ _ _ _ rfl]; rfl
theorem setc3_1 (X : World) (n : Nat) (x y z v : Int) {m : Nat} (hm : m = X.heap.size) : ((X.alloc (c3 x y z)).drewN n).setCell ⟨m, 1, none⟩ (.int .u8 v) = (X.alloc (c3 x v z)).drewN n := by
  subst hm
  show ((X.alloc (c3 x y z)).setCell ⟨X.heap.size, 1, none⟩ (.int .u8 v)).drewN n = _
  rw [World.setCell_alloc_at _ _ _ _ _ rfl]; rfl
theorem setc3_2 (X : World) (n : Nat) (x y z v : Int) {m : Nat} (hm : m = X.heap.size) : ((X.alloc (c3 x y z)).drewN n).setCell ⟨m, 2, none⟩ (.int .u8 v) = (X.alloc (c3 x y v)).drewN n := by
  subst hm
  show ((X.alloc (c3 x y z)).setCell ⟨X.heap.size, 2, none⟩ (.int .u8 v)).drewN n = _
  rw [World.setCell_alloc_at _ _ _ _ _ rfl]; rfl
/-- What a call leaves of two boxes of its caller's. -/
theorem two3 {w w1 : World} {x y z x' y' z' : Int} (hb : Below ((w.alloc (c3 x y z)).alloc (c3 x' y' z')).heap.size ((w.alloc (c3 x y z)).alloc (c3 x' y' z')) w1) :
    w.heap.size + 1 < w1.heap.size ∧ w1.cell? ⟨w.heap.size, 0, none⟩ = some (.int .u8 x) ∧ w1.cell? ⟨w.heap.size, 1, none⟩ = some (.int .u8 y) ∧ w1.cell? ⟨w.heap.size, 2, none⟩ = some (.int .u8 z) ∧
    w1.cell? ⟨w.heap.size + 1, 0, none⟩ = some (.int .u8 x') ∧ w1.cell? ⟨w.heap.size + 1, 1, none⟩ = some (.int .u8 y') ∧ w1.cell? ⟨w.heap.size + 1, 2, none⟩ = some (.int .u8 z') ∧
    w1.frozen? ⟨w.heap.size + 1, 0, none⟩ = false ∧ w1.frozen? ⟨w.heap.size + 1, 1, none⟩ = false ∧ w1.frozen? ⟨w.heap.size + 1, 2, none⟩ = false := by
  obtain ⟨hc, hf⟩ := bcell hb
  have hz := hb.size
  simp only [World.size_alloc] at hz hc hf
  refine ⟨by omega, ?_, ?_, ?_, ?_, ?_, ?_, ?_, ?_, ?_⟩
  all_goals first | rw [hc _ _ (by omega)] | rw [hf _ _ (by omega)]
  all_goals simp [go_sem]

set_option maxHeartbeats 1000000 in
theorem labProject_any (s : ByteArray) (a b c : Int) (w : World) (hs : s.size ≤ maxLen) :
    Calls Tryz.prog 59 #[.string s, .agg #[.int .u8 a, .int .u8 b, .int .u8 c]] w fun e w' => e = .returned (prV s a b c) ∧ Below w.heap.size w w' := by
  cases hr : ruleB s
  · rw [prV_rule hr]
    go_enter Tryz.func59, Tryz.ntmps59
    go_wp2_with (go_at_call 84; refine (rightRule_any _ hs _).mono ?_; rintro e w' ⟨rfl, rfl⟩)
    go_returns
    exact ⟨rfl, by go_grown⟩
  · cases hl : lab3 a b c
    · rw [prV_lab hr hl]
      go_enter Tryz.func59, Tryz.ntmps59
      go_wp2_with (first | (go_at_call 84; refine (rightRule_any _ hs _).mono ?_; rintro e w' ⟨rfl, rfl⟩) | (go_at_call 87; refine (labRight_any _ _ _ _).mono ?_; rintro e w' ⟨rfl, rfl⟩))
      go_returns
      exact ⟨rfl, by go_grown⟩
    · rw [prV_ok hr hl]
      have h3 : s.size = 3 := by simp [ruleB] at hr; exact hr.1.1.1
      go_enter Tryz.func59, Tryz.ntmps59
      go_wp2_with (first | (go_at_call 84; refine (rightRule_any _ hs _).mono ?_; rintro e w' ⟨rfl, rfl⟩) | (go_at_call 87; refine (labRight_any _ _ _ _).mono ?_; rintro e w' ⟨rfl, rfl⟩))
      go_loopw [7] (fun i wr => (i = .int .i64 0 ∧ ∃ n, wr = ((((w.alloc (c3 a b c)).alloc (c3 0 0 0)).alloc (c3 a b c)).alloc (c3 0 0 0)).drewN n)
        ∨ (i = .int .i64 1 ∧ ∃ n, wr = ((((w.alloc (c3 a b c)).alloc (c3 0 0 0)).alloc (c3 a b c)).alloc (c3 (prjB (byt s 0) a) 0 0)).drewN n)
        ∨ (i = .int .i64 2 ∧ ∃ n, wr = ((((w.alloc (c3 a b c)).alloc (c3 0 0 0)).alloc (c3 a b c)).alloc (c3 (prjB (byt s 0) a) (prjB (byt s 1) b) 0)).drewN n)
        ∨ (i = .int .i64 3 ∧ ∃ n, wr = ((((w.alloc (c3 a b c)).alloc (c3 0 0 0)).alloc (c3 a b c)).alloc (c3 (prjB (byt s 0) a) (prjB (byt s 1) b) (prjB (byt s 2) c))).drewN n)) (fun i _ => 3 - (intOf i).toNat)
      case atStart => exact Or.inl ⟨rfl, 0, rfl⟩
      case round =>
        have HB0 : Hid (((s[0].toNat : Nat) : Int) = byt s 0) := byt_eq s 0 (by omega)
        have HB1 : Hid (((s[1].toNat : Nat) : Int) = byt s 1) := byt_eq s 1 (by omega)
        have HB2 : Hid (((s[2].toNat : Nat) : Int) = byt s 2) := byt_eq s 2 (by omega)
        rcases hrel with ⟨rfl, n, rfl⟩ | ⟨rfl, n, rfl⟩ | ⟨rfl, n, rfl⟩ | ⟨rfl, n, rfl⟩
        · go_wp2
          go_region_with (go_at_call 88; refine (projectByte_any _ _ _).mono ?_; rintro e w' ⟨rfl, rfl⟩)
          all_goals go_wp2
          all_goals rw [HB0.out]
          all_goals exact ⟨Or.inr (Or.inl ⟨rfl, _, setc3_0 (((w.alloc (c3 a b c)).alloc (c3 0 0 0)).alloc (c3 a b c)) _ _ _ _ _ (by simp)⟩), by simp [intOf]⟩
        · go_wp2
          go_region_with (go_at_call 88; refine (projectByte_any _ _ _).mono ?_; rintro e w' ⟨rfl, rfl⟩)
          all_goals go_wp2
          all_goals rw [HB1.out]
          all_goals exact ⟨Or.inr (Or.inr (Or.inl ⟨rfl, _, setc3_1 (((w.alloc (c3 a b c)).alloc (c3 0 0 0)).alloc (c3 a b c)) _ _ _ _ _ (by simp)⟩)), by simp [intOf]⟩
        · go_wp2
          go_region_with (go_at_call 88; refine (projectByte_any _ _ _).mono ?_; rintro e w' ⟨rfl, rfl⟩)
          all_goals go_wp2
          all_goals rw [HB2.out]
          all_goals exact ⟨Or.inr (Or.inr (Or.inr ⟨rfl, _, setc3_2 (((w.alloc (c3 a b c)).alloc (c3 0 0 0)).alloc (c3 a b c)) _ _ _ _ _ (by simp)⟩)), by simp [intOf]⟩
        · go_wp2
          go_returns
          refine ⟨rfl, Below.setCell (Below.setCell (Below.setCell (below_drewN ?_ n) ?_ _) ?_ _) ?_ _⟩
          · go_grown
          all_goals (show w.heap.size ≤ w.heap.size + 1; omega)

theorem garProject_any (s : ByteArray) (a b c : Int) (w : World) (hs : s.size ≤ maxLen) :
    Calls Tryz.prog 28 #[.string s, .agg #[.int .u8 a, .int .u8 b, .int .u8 c]] w fun e w' => e = .returned (prV s a b c) ∧ Below w.heap.size w w' := by
  go_enter Tryz.func28, Tryz.ntmps28
  go_wp2_with fail
  refine (labProject_any _ _ _ _ _ hs).mono ?_
  rintro e w1 ⟨rfl, hb⟩
  obtain ⟨hz, q1, q2, q3, q4, q5, q6, q7, q8, q9⟩ := two3 hb
  unfold prV
  go_wp2
  refine bodyPost_ret (v := prV s a b c) (by simp [prV, results, Tryz.results28, go_sem, q4, q5, q6]) rfl ⟨rfl, Below.setCell (Below.setCell (Below.setCell (Below.trans (b := (w.alloc (c3 a b c)).alloc (c3 0 0 0)) ?_ (hb.mono ?_)) ?_ _) ?_ _) ?_ _⟩
  · go_grown
  · simp; omega
  all_goals (show w.heap.size ≤ w.heap.size + 1; omega)

end Go.Proofs.YthciddpljcbhiabGreatDoor

/- Walks: the age and the level of a block. -/
namespace Go.Proofs.YthciddpljcbhiabGreatDoor
open Go.RowKit

/-- A configuration as a value, and its box. -/
abbrev cfC (c : Cf) (b off n cap : Nat) : Array Value := #[.int .i64 c.span, .int .i64 c.keep, .slice (some ⟨b, off, none⟩) n cap]

theorem age_any (c : Cf) (b off n cap : Nat) (now t : Int) (w : World) (h1 : 1 ≤ c.span) (_h2 : c.span ≤ 100) (_n0 : 0 ≤ now) (_n1 : now ≤ 100000) (_t0 : 0 ≤ t) (_t1 : t ≤ 100100) :
    Calls Tryz.prog 94 #[.agg (cfC c b off n cap), .int .i64 now, .int .i64 t] w fun e w' => e = .returned (.int .i64 (c.age now t)) ∧ ∃ d, w' = (w.alloc (.cells (cfC c b off n cap) 40)).drewN d := by
  have hsp : ¬ c.span = 0 := by omega
  have d0 : 0 ≤ now / c.span := Int.ediv_nonneg _n0 (by omega)
  have d1 : now / c.span ≤ now := Int.ediv_le_self _ _n0
  have d2 : 0 ≤ t / c.span := Int.ediv_nonneg _t0 (by omega)
  have d3 : t / c.span ≤ t := Int.ediv_le_self _ _t0
  go_enter Tryz.func94, Tryz.ntmps94
  go_wp2
  go_region
  all_goals go_wp2
  all_goals go_ret
  all_goals exact ⟨rfl, _, rfl⟩

theorem expired_any (c : Cf) (b off n cap : Nat) (now t : Int) (w : World) (h1 : 1 ≤ c.span) (h2 : c.span ≤ 100) (n0 : 0 ≤ now) (n1 : now ≤ 100000) (t0 : 0 ≤ t) (t1 : t ≤ 100100) :
    Calls Tryz.prog 67 #[.agg (cfC c b off n cap), .int .i64 now, .int .i64 t] w fun e w' => e = .returned (.bool (decide (c.keep < c.age now t))) ∧ Below w.heap.size w w' := by
  have HC : Hid (∀ w, Calls Tryz.prog 94 #[.agg (cfC c b off n cap), .int .i64 now, .int .i64 t] w fun e w' => e = .returned (.int .i64 (c.age now t)) ∧ ∃ d, w' = (w.alloc (.cells (cfC c b off n cap) 40)).drewN d) :=
    fun w => age_any c b off n cap now t w h1 h2 n0 n1 t0 t1
  go_enter Tryz.func67, Tryz.ntmps67
  go_wp2
  go_region_with (go_at_call 94; refine (HC.out _).mono ?_; rintro e w' ⟨rfl, d, rfl⟩)
  all_goals go_wp2
  all_goals go_ret
  all_goals refine ⟨rfl, ?_⟩
  all_goals (repeat (first | exact Below.refl _ _ | refine below_drewN ?_ _ | refine Below.drew ?_ | refine Below.alloc ?_ (by simp) _))

theorem lvlTo_step (lvs : List Lv) (a : Int) (k : Nat) (hk : 1 ≤ k) : lvlTo lvs a (k + 1) = if (lvG lvs k).age ≤ a then k else lvlTo lvs a k := by
  rw [lvlTo]
  by_cases h : (lvG lvs k).age ≤ a
  · rw [if_pos ⟨hk, h⟩, if_pos h]
  · rw [if_neg (fun e => h e.2), if_neg h]
theorem lvlTo_one (lvs : List Lv) (a : Int) : lvlTo lvs a 1 = 0 := by simp [lvlTo]

set_option maxHeartbeats 400000 in
theorem level_any (c : Cf) (b off n cap : Nat) (now t : Int) (w : World) (h1 : 1 ≤ c.span) (h2 : c.span ≤ 100) (n0 : 0 ≤ now) (n1 : now ≤ 100000) (t0 : 0 ≤ t) (t1 : t ≤ 100100)
    (hn : c.lvs.length = n) (hn1 : 1 ≤ n) (hn4 : n ≤ 4) (hat : LvAt w b off c.lvs) :
    Calls Tryz.prog 97 #[.agg (cfC c b off n cap), .int .i64 now, .int .i64 t] w fun e w' => e = .returned (.int .i64 (c.lvl now t)) ∧ Below w.heap.size w w' := by
  have HAT : Hid (LvAt w b off c.lvs) := hat
  have HN : Hid (c.lvs.length = n) := hn
  have hb0 : b < w.heap.size := hat.block (by omega)
  clear hat hn
  have HE : Hid (c.lvl now t = lvlTo c.lvs (c.age now t) n) := by show _ = _; unfold Cf.lvl; rw [HN.out]
  rw [HE.out]
  go_enter Tryz.func97, Tryz.ntmps97
  go_wp2_with fail
  refine (age_any c b off n cap now t _ h1 h2 n0 n1 t0 t1).mono ?_
  rintro e w1 ⟨rfl, d, rfl⟩
  go_wp2_with fail
  go_loop [8, 9] (fun l i => ∃ k : Nat, k ≤ n ∧ i = .int .i64 k ∧ l = .int .i64 (lvlTo c.lvs (c.age now t) k)) (fun _ i => n - (intOf i).toNat)
  case atStart => exact ⟨0, Nat.zero_le _, rfl, rfl⟩
  case round =>
    obtain ⟨k, hk, rfl, rfl⟩ := hrel
    by_cases hlt : k < n
    · obtain ⟨c0, _⟩ := HAT.out k (by rw [HN.out]; exact hlt)
      by_cases hk0 : k = 0
      · subst hk0
        have HO : Hid (lvlTo c.lvs (c.age now t) 1 = 0) := lvlTo_one _ _
        have HZ : Hid (lvlTo c.lvs (c.age now t) 0 = 0) := rfl
        simp only [Nat.zero_mul, Nat.add_zero] at c0
        rw [HZ.out]
        go_wp2_with fail
        all_goals exact ⟨⟨1, by omega, rfl, by rw [HO.out]⟩, by simp [intOf]; omega⟩
      · by_cases ha : (lvG c.lvs k).age ≤ c.age now t
        · have HS : Hid (lvlTo c.lvs (c.age now t) (k + 1) = k) := by show _ = _; rw [lvlTo_step _ _ _ (by omega), if_pos ha]
          go_wp2_with fail
          exact ⟨⟨k + 1, by omega, by go_num, by rw [HS.out]⟩, by simp [intOf]; omega⟩
        · have HS : Hid (lvlTo c.lvs (c.age now t) (k + 1) = lvlTo c.lvs (c.age now t) k) := by show _ = _; rw [lvlTo_step _ _ _ (by omega), if_neg ha]
          go_wp2_with fail
          exact ⟨⟨k + 1, by omega, by go_num, by rw [HS.out]⟩, by simp [intOf]; omega⟩
    · have : k = n := by omega
      subst this
      go_wp2_with fail
      go_ret
      refine ⟨rfl, ?_⟩
      repeat (first | exact Below.refl _ _ | refine below_drewN ?_ _ | refine Below.drew ?_ | refine Below.alloc ?_ (by simp) _)

end Go.Proofs.YthciddpljcbhiabGreatDoor

/- Walks: which queries can be answered. -/
namespace Go.Proofs.YthciddpljcbhiabGreatDoor
open Go.RowKit

structure Qy.wf (q : Qy) : Prop where
  f0 : -9223372036854775808 ≤ q.fr
  f1 : q.fr ≤ 9223372036854775807
  t0 : -9223372036854775808 ≤ q.to
  t1 : q.to ≤ 9223372036854775807
  s0 : -9223372036854775808 ≤ q.step
  s1 : q.step ≤ 9223372036854775807
  m1 : q.mt.size ≤ maxLen
  g1 : q.gb.size ≤ maxLen
abbrev qyC (q : Qy) : Array Value := #[.int .i64 q.fr, .int .i64 q.to, .int .i64 q.step, .string q.mt, .string q.gb]
def timesB (q : Qy) : Bool := decide (0 ≤ q.fr) && decide (q.fr < q.to) && decide (q.to ≤ 100100) && decide (1 ≤ q.step) && decide ((q.to - q.fr) % q.step = 0) && decide ((q.to - q.fr) / q.step ≤ 20)
theorem timesB_iff (q : Qy) : timesB q = true ↔ 0 ≤ q.fr ∧ q.fr < q.to ∧ q.to ≤ 100100 ∧ 1 ≤ q.step ∧ (q.to - q.fr) % q.step = 0 ∧ (q.to - q.fr) / q.step ≤ 20 := by
  simp only [timesB, Bool.and_eq_true, decide_eq_true_eq, and_assoc]
def mtB (s : ByteArray) : Bool := decide (s.size = 3) && mB (byt s 0) && mB (byt s 1) && mB (byt s 2)
def gbB (s : ByteArray) : Bool := decide (s.size = 3) && bB (byt s 0) && bB (byt s 1) && bB (byt s 2)
theorem rightQ_eq (q : Qy) : rightQ q = (timesB q && mtB q.mt && gbB q.gb) := by
  rw [Bool.eq_iff_iff]
  simp only [rightQ, timesB, mtB, gbB, Bool.and_eq_true]
  constructor <;> (intro h; simp only [h, and_self])
theorem times_first {q : Qy} (h : ¬ (0 ≤ q.fr ∧ q.fr < q.to ∧ q.to ≤ 100100 ∧ 1 ≤ q.step)) : timesB q = false := by
  apply no_of; rw [timesB_iff]; intro h'; exact h ⟨h'.1, h'.2.1, h'.2.2.1, h'.2.2.2.1⟩
theorem times_parts {q : Qy} (h : ¬ (0 ≤ q.fr ∧ q.fr < q.to ∧ q.to ≤ 100100 ∧ 1 ≤ q.step)) : q.fr < 0 ∨ (0 ≤ q.fr ∧ q.to ≤ q.fr) ∨ (0 ≤ q.fr ∧ q.fr < q.to ∧ 100100 < q.to) ∨ (0 ≤ q.fr ∧ q.fr < q.to ∧ q.to ≤ 100100 ∧ q.step < 1) := by omega

set_option maxHeartbeats 400000 in
theorem rightTimes_any (q : Qy) (w : World) (hq : q.wf) : Calls Tryz.prog 116 #[.agg (qyC q)] w fun e w' => e = .returned (.bool (timesB q)) ∧ w' = w.alloc (.cells (qyC q) 45) := by
  obtain ⟨a0, a1, b0, b1, c0, c1, _, _⟩ := hq
  by_cases hf : 0 ≤ q.fr ∧ q.fr < q.to ∧ q.to ≤ 100100 ∧ 1 ≤ q.step
  · obtain ⟨f1, f2, f3, f4⟩ := hf
    have HT : Hid (timesB q = (decide ((q.to - q.fr) % q.step = 0) && decide ((q.to - q.fr) / q.step ≤ 20))) := by show _ = _; simp [timesB, f1, f2, f3, f4]
    rw [HT.out]
    by_cases hm : (q.to - q.fr) % q.step = 0
    · have hmb : (((q.to - q.fr) % q.step) != 0) = false := by simp [hm]
      have HM : Hid ((q.to - q.fr) % q.step = 0) := hm
      rw [hm]
      clear hm
      go_enter Tryz.func116, Tryz.ntmps116
      go_wp2
      go_ret
      exact ⟨by simp, rfl⟩
    · have hmb : (((q.to - q.fr) % q.step) != 0) = true := by simp [hm]
      rw [show decide ((q.to - q.fr) % q.step = 0) = false from by simp [hm], Bool.false_and]
      go_enter Tryz.func116, Tryz.ntmps116
      go_wp2
      go_ret
      exact ⟨rfl, rfl⟩
  · rw [times_first hf]
    rcases times_parts hf with h | ⟨h1, h2⟩ | ⟨h1, h2, h3⟩ | ⟨h1, h2, h3, h4⟩
    all_goals clear hf
    all_goals go_enter Tryz.func116, Tryz.ntmps116
    all_goals go_wp2
    all_goals go_ret
    all_goals exact ⟨rfl, rfl⟩

theorem three_true {p : Int → Bool} {s : ByteArray} (h : s.size = 3) (ha : ∀ j, j < 3 → p (byt s j) = true) : (decide (s.size = 3) && p (byt s 0) && p (byt s 1) && p (byt s 2)) = true := by
  simp [h, ha 0, ha 1, ha 2]
theorem three_false {p : Int → Bool} {s : ByteArray} (k : Nat) (hk : k < 3) (h : p (byt s k) = false) : (decide (s.size = 3) && p (byt s 0) && p (byt s 1) && p (byt s 2)) = false := by
  have : k = 0 ∨ k = 1 ∨ k = 2 := by omega
  rcases this with rfl | rfl | rfl <;> simp [h]
theorem three_size {p : Int → Bool} {s : ByteArray} (h : ¬ s.size = 3) : (decide (s.size = 3) && p (byt s 0) && p (byt s 1) && p (byt s 2)) = false := by simp [h]
theorem mB_eq (m : Int) : mB m = (m == 46 || labB m) := by unfold mB labB; cases letB m <;> cases (m == 46) <;> cases (m == 45) <;> rfl

set_option maxHeartbeats 400000 in
theorem rightMatch_any (s : ByteArray) (_hs : s.size ≤ maxLen) (w : World) : Calls Tryz.prog 117 #[.string s] w fun e w' => e = .returned (.bool (mtB s)) ∧ w' = w := by
  unfold maxLen at _hs
  by_cases h3 : s.size = 3
  · have h3' : ((s.size : Int) != 3) = false := by simp; omega
    have H3 : Hid (s.size = 3) := h3
    go_enter Tryz.func117, Tryz.ntmps117
    go_wp2
    go_loop [3] (fun i => ∃ k : Nat, k ≤ 3 ∧ i = .int .i64 k ∧ ∀ j, j < k → mB (byt s j) = true) (fun i => 3 - (intOf i).toNat)
    case atStart => exact ⟨0, Nat.zero_le _, rfl, fun j hj => by omega⟩
    case round =>
      obtain ⟨k, hk, rfl, hall⟩ := hrel
      have HA : Hid (∀ j, j < k → mB (byt s j) = true) := hall
      clear hall
      by_cases hlt : k < 3
      · have HB : Hid (((s[k].toNat : Nat) : Int) = byt s k) := byt_eq s k (by omega)
        by_cases hd : byt s k = 46
        · have hx : (((s[k].toNat : Nat) : Int) != 46) = false := by rw [HB.out, hd]; rfl
          have HR : mB (byt s k) = true := by rw [mB_eq, hd]; rfl
          go_wp2_with fail
          exact ⟨⟨k + 1, by omega, by go_num, upto_succ HA.out HR⟩, by simp [intOf]; omega⟩
        · have hx : (((s[k].toNat : Nat) : Int) != 46) = true := by rw [HB.out]; simpa using hd
          have HR : Hid (mB (byt s k) = labB ((s[k].toNat : Nat) : Int)) := by show _ = _; rw [mB_eq, HB.out]; simp [hd]
          cases hL : labB ((s[k].toNat : Nat) : Int)
          · go_wp2_with (go_at_call 110; refine (rightByte_any _ _).mono ?_; rintro e w' ⟨rfl, rfl⟩)
            go_ret
            exact ⟨ret_bool (three_false k hlt (by rw [HR.out]; exact hL)).symm, rfl⟩
          · go_wp2_with (go_at_call 110; refine (rightByte_any _ _).mono ?_; rintro e w' ⟨rfl, rfl⟩)
            exact ⟨⟨k + 1, by omega, by go_num, upto_succ HA.out (by rw [HR.out]; exact hL)⟩, by simp [intOf]; omega⟩
      · go_wp2
        go_ret
        exact ⟨ret_bool (three_true H3.out (fun j hj => HA.out j (by omega))).symm, rfl⟩
  · have hf : mtB s = false := three_size h3
    have hd : ((s.size : Int) != 3) = true := by simp; omega
    rw [hf]
    clear hf
    go_enter Tryz.func117, Tryz.ntmps117
    go_wp2
    go_ret
    exact ⟨rfl, rfl⟩

set_option maxHeartbeats 400000 in
theorem rightBy_any (s : ByteArray) (_hs : s.size ≤ maxLen) (w : World) : Calls Tryz.prog 118 #[.string s] w fun e w' => e = .returned (.bool (gbB s)) ∧ w' = w := by
  unfold maxLen at _hs
  by_cases h3 : s.size = 3
  · have h3' : ((s.size : Int) != 3) = false := by simp; omega
    have H3 : Hid (s.size = 3) := h3
    go_enter Tryz.func118, Tryz.ntmps118
    go_wp2
    go_loop [3] (fun i => ∃ k : Nat, k ≤ 3 ∧ i = .int .i64 k ∧ ∀ j, j < k → bB (byt s j) = true) (fun i => 3 - (intOf i).toNat)
    case atStart => exact ⟨0, Nat.zero_le _, rfl, fun j hj => by omega⟩
    case round =>
      obtain ⟨k, hk, rfl, hall⟩ := hrel
      have HA : Hid (∀ j, j < k → bB (byt s j) = true) := hall
      clear hall
      by_cases hlt : k < 3
      · have HB : Hid (((s[k].toNat : Nat) : Int) = byt s k) := byt_eq s k (by omega)
        by_cases hd : byt s k = 48
        · have hx : (((s[k].toNat : Nat) : Int) != 48) = false := by rw [HB.out, hd]; rfl
          have HR : bB (byt s k) = true := by rw [hd]; rfl
          go_wp2_with fail
          exact ⟨⟨k + 1, by omega, by go_num, upto_succ HA.out HR⟩, by simp [intOf]; omega⟩
        · have hx : (((s[k].toNat : Nat) : Int) != 48) = true := by rw [HB.out]; simpa using hd
          by_cases he : byt s k = 49
          · have hy : (((s[k].toNat : Nat) : Int) != 49) = false := by rw [HB.out, he]; rfl
            have HR : bB (byt s k) = true := by rw [he]; rfl
            go_wp2_with fail
            exact ⟨⟨k + 1, by omega, by go_num, upto_succ HA.out HR⟩, by simp [intOf]; omega⟩
          · have hy : (((s[k].toNat : Nat) : Int) != 49) = true := by rw [HB.out]; simpa using he
            have HR : bB (byt s k) = false := by unfold bB; simp [hd, he]
            go_wp2_with fail
            go_ret
            exact ⟨ret_bool (three_false k hlt HR).symm, rfl⟩
      · go_wp2
        go_ret
        exact ⟨ret_bool (three_true H3.out (fun j hj => HA.out j (by omega))).symm, rfl⟩
  · have hf : gbB s = false := three_size h3
    have hd : ((s.size : Int) != 3) = true := by simp; omega
    rw [hf]
    clear hf
    go_enter Tryz.func118, Tryz.ntmps118
    go_wp2
    go_ret
    exact ⟨rfl, rfl⟩

set_option maxHeartbeats 400000 in
theorem queryRight_any (q : Qy) (w : World) (hq : q.wf) : Calls Tryz.prog 96 #[.agg (qyC q)] w fun e w' => e = .returned (.bool (rightQ q)) ∧ Below w.heap.size w w' := by
  have H1 : Hid (∀ w, Calls Tryz.prog 116 #[.agg (qyC q)] w fun e w' => e = .returned (.bool (timesB q)) ∧ w' = w.alloc (.cells (qyC q) 45)) := fun w => rightTimes_any q w hq
  have H2 : Hid (∀ w, Calls Tryz.prog 117 #[.string q.mt] w fun e w' => e = .returned (.bool (mtB q.mt)) ∧ w' = w) := fun w => rightMatch_any q.mt hq.m1 w
  have H3 : Hid (∀ w, Calls Tryz.prog 118 #[.string q.gb] w fun e w' => e = .returned (.bool (gbB q.gb)) ∧ w' = w) := fun w => rightBy_any q.gb hq.g1 w
  rw [rightQ_eq]
  clear hq
  cases h1 : timesB q <;> cases h2 : mtB q.mt <;> cases h3 : gbB q.gb
  all_goals go_enter Tryz.func96, Tryz.ntmps96
  all_goals go_wp2_with (first | (go_at_call 116; refine (H1.out _).mono ?_; rintro e w' ⟨rfl, rfl⟩) | (go_at_call 117; refine (H2.out _).mono ?_; rintro e w' ⟨rfl, rfl⟩) | (go_at_call 118; refine (H3.out _).mono ?_; rintro e w' ⟨rfl, rfl⟩))
  all_goals go_ret
  all_goals exact ⟨rfl, by go_grown⟩

def mtV (q : Qy) (lv : Lv) : Nat → Bool := lostK q lv
theorem lostB_false {q : Qy} {lv : Lv} (h : ∀ j, j < 3 → lostK q lv j = false) : lostB q lv = false := by simp [lostB, h 0, h 1, h 2]
theorem lostB_true {q : Qy} {lv : Lv} (k : Nat) (hk : k < 3) (h : lostK q lv k = true) : lostB q lv = true := by
  have : k = 0 ∨ k = 1 ∨ k = 2 := by omega
  rcases this with rfl | rfl | rfl <;> simp [lostB, h]

set_option maxHeartbeats 1000000 in
theorem loses_any (q : Qy) (lv : Lv) (w : World) (hr : lv.rule.size = 3) (hm : q.mt.size = 3) (hg : q.gb.size = 3) :
    Calls Tryz.prog 119 #[.string lv.rule, .agg (qyC q)] w fun e w' => e = .returned (.bool (lostB q lv)) ∧ w' = w.alloc (.cells (qyC q) 45) := by
  have hr' : ((lv.rule.size : Int) != 3) = false := by simp [hr]
  have hm' : ((q.mt.size : Int) != 3) = false := by simp [hm]
  have hg' : ((q.gb.size : Int) != 3) = false := by simp [hg]
  go_enter Tryz.func119, Tryz.ntmps119
  go_wp2
  go_loop [5] (fun i => ∃ k : Nat, k ≤ 3 ∧ i = .int .i64 k ∧ ∀ j, j < k → lostK q lv j = false) (fun i => 3 - (intOf i).toNat)
  case atStart => exact ⟨0, Nat.zero_le _, rfl, fun j hj => by omega⟩
  case round =>
    obtain ⟨k, hk, rfl, hall⟩ := hrel
    have HA : Hid (∀ j, j < k → lostK q lv j = false) := hall
    clear hall
    by_cases hlt : k < 3
    · have B1 : Hid (((q.mt[k].toNat : Nat) : Int) = byt q.mt k) := byt_eq q.mt k (by omega)
      have B2 : Hid (((q.gb[k].toNat : Nat) : Int) = byt q.gb k) := byt_eq q.gb k (by omega)
      have B3 : Hid (((lv.rule[k].toNat : Nat) : Int) = byt lv.rule k) := byt_eq lv.rule k (by omega)
      have HL : Hid (lostK q lv k = (((((q.mt[k].toNat : Nat) : Int) != 46) || (((q.gb[k].toNat : Nat) : Int) == 49)) && (((lv.rule[k].toNat : Nat) : Int) != 107))) := by show _ = _; rw [B1.out, B2.out, B3.out]; rfl
      cases e1 : (((q.mt[k].toNat : Nat) : Int) != 46) <;> cases e2 : (((q.gb[k].toNat : Nat) : Int) == 49) <;> cases e3 : (((lv.rule[k].toNat : Nat) : Int) != 107)
      all_goals have HL' := HL.out
      all_goals rw [e1, e2, e3] at HL'
      all_goals have HK : Hid (lostK q lv k = _) := HL'
      all_goals clear HL' HL B1 B2 B3
      all_goals go_wp2_with fail
      all_goals first
        | exact ⟨⟨k + 1, by omega, by go_num, upto_succ HA.out HK.out⟩, by simp [intOf]; omega⟩
        | (go_ret; exact ⟨ret_bool (lostB_true k hlt HK.out).symm, rfl⟩)
    · go_wp2_with fail
      go_ret
      exact ⟨ret_bool (lostB_false (fun j hj => HA.out j (by omega))).symm, rfl⟩

end Go.Proofs.YthciddpljcbhiabGreatDoor

/- '==' of arrays of three bytes. -/
namespace Go.Proofs.YthciddpljcbhiabGreatDoor
open Go Go.RowKit

theorem Tryz.size5 : (Tryz.prog.info? 5).map (·.size) = some 1 := by kernel_rfl

theorem eq26 (d : Nat) (a b c x y z : Int) (w : World) :
    (Op.equalIn (d + 2) 42 (.agg #[.int .u8 a, .int .u8 b, .int .u8 c]) (.agg #[.int .u8 x, .int .u8 y, .int .u8 z])).run Tryz.prog w = .ok (a == x && b == y && c == z) w := by
  have hs := Tryz.size5
  cases hq : Tryz.prog.info? 5 with
  | none => simp [hq] at hs
  | some i =>
    have hi : i.size = 1 := by simpa [hq] using hs
    rw [Op.equalIn]
    simp [run_underlying Tryz.underlying42, sizeOf, typeInfo, hq, hi, List.range', part, run_equalIn_int _ d 5 .u8 .u8 _ _ Tryz.underlying5]
    by_cases h1 : a = x <;> by_cases h2 : b = y <;> by_cases h3 : c = z <;> simp [h1, h2, h3]
end Go.Proofs.YthciddpljcbhiabGreatDoor

/- Walks: rows and groups, one by one. -/
namespace Go.Proofs.YthciddpljcbhiabGreatDoor
open Go.RowKit

abbrev rwC (r : Rw) : Array Value := #[.int .i64 r.key.st, .int .u8 r.key.g0, .int .u8 r.key.g1, .int .u8 r.key.g2, .int .i64 r.ag.cnt, .int .i64 r.ag.sum, .int .i32 r.ag.mn, .int .i32 r.ag.mx]
abbrev ptC (p : Pt) : Array Value := #[.int .i64 p.time, .int .i32 p.value, .int .u8 (sG p 0).a, .int .u8 (sG p 0).b, .int .u8 (sG p 0).c, .int .u8 (sG p 1).a, .int .u8 (sG p 1).b, .int .u8 (sG p 1).c,
  .int .u8 (sG p 2).a, .int .u8 (sG p 2).b, .int .u8 (sG p 2).c, .int .u8 (sG p 3).a, .int .u8 (sG p 3).b, .int .u8 (sG p 3).c]
abbrev lbA (l : Lb) : Array Value := #[.int .u8 l.a, .int .u8 l.b, .int .u8 l.c]

theorem rest_any (w : World) : Calls Tryz.prog 113 #[] w fun e w' => e = .returned (.agg #[.int .u8 42, .int .u8 42, .int .u8 42]) ∧ w' = w.alloc (c3 42 42 42) := by
  go_enter Tryz.func113, Tryz.ntmps113
  go_wp2
  go_returns
  exact ⟨rfl, rfl⟩

set_option maxHeartbeats 400000 in
theorem of_any (p : Pt) (k : Nat) (hk : k < 4) (w : World) : Calls Tryz.prog 100 #[.agg (ptC p), .int .i64 k] w fun e w' => e = .returned (.agg (lbA (sG p k))) ∧ Below w.heap.size w w' := by
  have : k = 0 ∨ k = 1 ∨ k = 2 ∨ k = 3 := by omega
  rcases this with rfl | rfl | rfl | rfl
  all_goals go_enter Tryz.func100, Tryz.ntmps100
  all_goals go_wp2
  all_goals go_returns
  all_goals exact ⟨rfl, by go_grown⟩

def withR (r : Rw) (v : Int) : Rw := ⟨r.key, r.ag.join (.one v)⟩
theorem agg_eq {a b : Array Value} (h : a = b) : Ending.returned (.agg a) = .returned (.agg b) := by rw [h]
set_option maxHeartbeats 400000 in
theorem with_any (r : Rw) (v : Int) (w : World) (c0 : 0 ≤ r.ag.cnt) (c1 : r.ag.cnt ≤ 1000000) (s0 : -4000000000000000 ≤ r.ag.sum) (s1 : r.ag.sum ≤ 4000000000000000) (v0 : -2147483648 ≤ v) (v1 : v ≤ 2147483647) :
    Calls Tryz.prog 120 #[.agg (rwC r), .int .i32 v] w fun e w' => e = .returned (.agg (rwC (withR r v))) ∧ Below w.heap.size w w' := by
  have HE : Hid (rwC (withR r v) = #[.int .i64 r.key.st, .int .u8 r.key.g0, .int .u8 r.key.g1, .int .u8 r.key.g2, .int .i64 (r.ag.cnt + 1), .int .i64 (r.ag.sum + v), .int .i32 (min r.ag.mn v), .int .i32 (max r.ag.mx v)]) := rfl
  by_cases h1 : v < r.ag.mn <;> by_cases h2 : r.ag.mx < v
  all_goals (have HM : Hid (min r.ag.mn v = if v < r.ag.mn then v else r.ag.mn) := by (show _ = _; simp only [h1, if_true, if_false]; omega))
  all_goals (have HX : Hid (max r.ag.mx v = if r.ag.mx < v then v else r.ag.mx) := by (show _ = _; simp only [h2, if_true, if_false]; omega))
  all_goals go_enter Tryz.func120, Tryz.ntmps120
  all_goals go_wp2
  all_goals go_returns
  all_goals refine ⟨agg_eq ?_, by go_grown⟩
  all_goals (rw [HE.out, HM.out, HX.out]; simp [h1, h2] <;> omega)

def keyB (r : Rw) (k : Nat) : Int := tri r.key.g0 r.key.g1 r.key.g2 k
theorem lt_step {a b : Rw} (h : a.key.st ≠ b.key.st) : decide (a.key.lt b.key) = decide (a.key.st < b.key.st) := by
  rw [decide_eq_decide]; unfold Key.lt; omega
theorem lt_at {a b : Rw} (h : a.key.st = b.key.st) (k : Nat) (hk : k < 3) (hl : ∀ j, j < k → keyB a j = keyB b j) (hne : keyB a k ≠ keyB b k) : decide (a.key.lt b.key) = decide (keyB a k < keyB b k) := by
  have : k = 0 ∨ k = 1 ∨ k = 2 := by omega
  rw [decide_eq_decide]
  unfold Key.lt
  rcases this with rfl | rfl | rfl
  · simp [keyB, tri] at hne ⊢; omega
  · have h0 := hl 0 (by omega); simp [keyB, tri] at hne h0 ⊢; omega
  · have h0 := hl 0 (by omega); have h1 := hl 1 (by omega); simp [keyB, tri] at hne h0 h1 ⊢; omega
theorem lt_none {a b : Rw} (h : a.key.st = b.key.st) (hl : ∀ j, j < 3 → keyB a j = keyB b j) : decide (a.key.lt b.key) = false := by
  have h0 := hl 0 (by omega); have h1 := hl 1 (by omega); have h2 := hl 2 (by omega)
  simp [keyB, tri] at h0 h1 h2
  rw [decide_eq_false_iff_not]; unfold Key.lt; omega

theorem rwCell (w : World) (r : Rw) (k : Nat) (hk : k < 3) : (w.alloc (.cells (rwC r) 78)).cell? ⟨w.heap.size, 1 + k, none⟩ = some (.int .u8 (keyB r k)) := by
  have : k = 0 ∨ k = 1 ∨ k = 2 := by omega
  rcases this with rfl | rfl | rfl <;> simp [keyB, tri, go_sem]

set_option maxHeartbeats 400000 in
theorem before_any (a b : Rw) (w : World) : Calls Tryz.prog 124 #[.agg (rwC a), .agg (rwC b)] w fun e w' => e = .returned (.bool (decide (a.key.lt b.key))) ∧ Below w.heap.size w w' := by
  by_cases hs : a.key.st = b.key.st
  · have hs' : (a.key.st != b.key.st) = false := by simp [hs]
    have HS : Hid (a.key.st = b.key.st) := hs
    clear hs
    go_enter Tryz.func124, Tryz.ntmps124
    go_wp2_with fail
    go_loopw [5] (fun i wr => ∃ k : Nat, k ≤ 3 ∧ i = .int .i64 k ∧ (∀ j, j < k → keyB a j = keyB b j) ∧ ∃ d, wr = ((w.alloc (.cells (rwC a) 78)).alloc (.cells (rwC b) 78)).drewN d) (fun i _ => 3 - (intOf i).toNat)
    case atStart => exact ⟨0, Nat.zero_le _, rfl, fun j hj => by omega, 0, rfl⟩
    case round =>
      obtain ⟨k, hk, rfl, hall, d, rfl⟩ := hrel
      have HA : Hid (∀ j, j < k → keyB a j = keyB b j) := hall
      clear hall
      by_cases hlt : k < 3
      · have q1 : ((w.alloc (.cells (rwC a) 78)).alloc (.cells (rwC b) 78)).cell? ⟨w.heap.size, 1 + k, none⟩ = some (.int .u8 (keyB a k)) := by
          rw [(Below.alloc (Below.refl (w.heap.size + 1) _) (by simp) _).cell (p := ⟨w.heap.size, 1 + k, none⟩) (by simp)]; exact rwCell w a k hlt
        have q2 := rwCell (w.alloc (.cells (rwC a) 78)) b k hlt
        simp only [World.size_alloc] at q2
        cases he : (keyB a k != keyB b k)
        · have HE : keyB a k = keyB b k := by simpa using he
          go_wp2_with fail
          go_quiet (fail)
          go_wp2_with fail
          exact ⟨⟨k + 1, by omega, by go_num, upto_succ HA.out HE, _, rfl⟩, by simp [intOf]; omega⟩
        · have HE : Hid (keyB a k ≠ keyB b k) := by show _ ≠ _; simpa using he
          go_wp2_with fail
          go_quiet (fail)
          go_wp2_with fail
          go_quiet (fail)
          go_wp2_with fail
          go_ret
          refine ⟨ret_bool (lt_at HS.out k hlt HA.out HE.out).symm, ?_⟩
          repeat (first | exact Below.refl _ _ | refine below_drewN ?_ _ | refine Below.drew ?_ | refine Below.alloc ?_ (by simp) _)
      · go_wp2_with fail
        go_ret
        refine ⟨ret_bool (lt_none HS.out (fun j hj => HA.out j (by omega))).symm, ?_⟩
        repeat (first | exact Below.refl _ _ | refine below_drewN ?_ _ | refine Below.drew ?_ | refine Below.alloc ?_ (by simp) _)
  · have hs' : (a.key.st != b.key.st) = true := by simp [hs]
    rw [lt_step hs]
    go_enter Tryz.func124, Tryz.ntmps124
    go_wp2_with fail
    go_ret
    exact ⟨rfl, by go_grown⟩

/-- The group's answer: its bytes (0 where there is none), and whether there is one. -/
def gpX (q : Qy) (s : Lb) : Lb := (grpOf q s).getD ⟨0, 0, 0⟩
def gpT (q : Qy) (s : Lb) : Bool := (grpOf q s).isSome
def gpV (q : Qy) (s : Lb) : Value := .tuple #[.agg (lbA (gpX q s)), .bool (gpT q s)]
theorem gpV_over {q : Qy} {s : Lb} (h : s = over) : gpV q s = .tuple #[.agg (lbA s), .bool true] := by simp [gpV, gpX, gpT, grpOf, h]
theorem gpV_none {q : Qy} {s : Lb} (h : ¬ s = over) (hm : (mOk (byt q.mt 0) s.a && mOk (byt q.mt 1) s.b && mOk (byt q.mt 2) s.c) = false) : gpV q s = .tuple #[.agg #[.int .u8 0, .int .u8 0, .int .u8 0], .bool false] := by
  simp only [gpV, gpX, gpT, grpOf, if_neg h, hm]; rfl
theorem gpV_some {q : Qy} {s : Lb} (h : ¬ s = over) (hm : (mOk (byt q.mt 0) s.a && mOk (byt q.mt 1) s.b && mOk (byt q.mt 2) s.c) = true) :
    gpV q s = .tuple #[.agg #[.int .u8 (gB (byt q.gb 0) s.a), .int .u8 (gB (byt q.gb 1) s.b), .int .u8 (gB (byt q.gb 2) s.c)], .bool true] := by
  simp only [gpV, gpX, gpT, grpOf, if_neg h, hm]; rfl
theorem ret_of {a b : Value} (h : a = b) : Ending.returned a = .returned b := by rw [h]
theorem mOk_iff (m x : Int) : mOk m x = !((m != 46) && (m != x)) := by unfold mOk bne; cases (m == 46) <;> cases (m == x) <;> rfl
theorem gB_pos {b x : Int} (h : (b == 49) = true) : gB b x = x := by simp at h; simp [gB, h]
theorem gB_neg {b x : Int} (h : (b == 49) = false) : gB b x = 46 := by simp at h; simp [gB, h]

theorem bel_set {B : Nat} {a w : World} {b o : Nat} {u : Value} (h : Below B a w) (hb : B ≤ b) : Below B a (w.setCell ⟨b, o, none⟩ u) := h.setCell hb u

end Go.Proofs.YthciddpljcbhiabGreatDoor

/- Walks: a row put into the table at its place. -/
namespace Go.Proofs.YthciddpljcbhiabGreatDoor
open Go Go.RowKit

theorem Tryz.info78' : (Tryz.prog.info? 78).map (fun i => (i.zero, i.size, i.bytes)) = some (some (.agg #[.int .i64 0, .int .u8 0, .int .u8 0, .int .u8 0, .int .i64 0, .int .i64 0, .int .i32 0, .int .i32 0]), 8, 40) := by kernel_rfl

theorem flatR_set (l : List Rw) (r : Rw) : ∀ i, i < l.length → ((((((((flatR l).set (i * 8) (.int .i64 r.key.st)).set (i * 8 + 1) (.int .u8 r.key.g0)).set (i * 8 + 2) (.int .u8 r.key.g1)).set (i * 8 + 3) (.int .u8 r.key.g2)).set (i * 8 + 4) (.int .i64 r.ag.cnt)).set (i * 8 + 5) (.int .i64 r.ag.sum)).set (i * 8 + 6) (.int .i32 r.ag.mn)).set (i * 8 + 7) (.int .i32 r.ag.mx) = flatR (l.set i r) := by
  induction l with
  | nil => intro i hi; simp at hi
  | cons a l ih =>
    intro i hi
    cases i with
    | zero => rfl
    | succ i =>
      have h := ih i (by simpa using hi)
      have e : ∀ j, (i + 1) * 8 + j = (i * 8 + j) + 8 := fun j => by omega
      rw [show (i + 1) * 8 = (i * 8) + 8 by omega]
      show _ = a.cells ++ flatR (l.set i r)
      rw [← h]
      rfl
/-- The cells of a row of the table, in its block. -/
structure RwAt (w : World) (g o : Nat) (r : Rw) : Prop where
  c0 : w.cell? ⟨g, o, none⟩ = some (.int .i64 r.key.st)
  c1 : w.cell? ⟨g, o + 1, none⟩ = some (.int .u8 r.key.g0)
  c2 : w.cell? ⟨g, o + 2, none⟩ = some (.int .u8 r.key.g1)
  c3 : w.cell? ⟨g, o + 3, none⟩ = some (.int .u8 r.key.g2)
  c4 : w.cell? ⟨g, o + 4, none⟩ = some (.int .i64 r.ag.cnt)
  c5 : w.cell? ⟨g, o + 5, none⟩ = some (.int .i64 r.ag.sum)
  c6 : w.cell? ⟨g, o + 6, none⟩ = some (.int .i32 r.ag.mn)
  c7 : w.cell? ⟨g, o + 7, none⟩ = some (.int .i32 r.ag.mx)
theorem owns_rw {w : World} {base g n cap : Nat} {l : List Rw} (h : w.ownsRow base 78 8 (.slice (some ⟨g, 0, none⟩) n cap) n (flatR l)) (i : Nat) (hi : i < l.length) : RwAt w g (i * 8) (rwG l i) := by
  have k := fun j (hj : j < 8) => flat_get Rw.cells 8 len8 l i j hj hi
  rw [rwG_get l i hi]
  exact ⟨owns_cell h (k 0 (by omega)), owns_cell h (k 1 (by omega)), owns_cell h (k 2 (by omega)), owns_cell h (k 3 (by omega)), owns_cell h (k 4 (by omega)), owns_cell h (k 5 (by omega)), owns_cell h (k 6 (by omega)), owns_cell h (k 7 (by omega))⟩
theorem owns_rwset {w : World} {base g n cap : Nat} {l : List Rw} (h : w.ownsRow base 78 8 (.slice (some ⟨g, 0, none⟩) n cap) n (flatR l)) (i : Nat) (hi : i < l.length) (r : Rw) :
    ((((((((w.setCell ⟨g, i * 8, none⟩ (.int .i64 r.key.st)).setCell ⟨g, i * 8 + 1, none⟩ (.int .u8 r.key.g0)).setCell ⟨g, i * 8 + 2, none⟩ (.int .u8 r.key.g1)).setCell ⟨g, i * 8 + 3, none⟩ (.int .u8 r.key.g2)).setCell ⟨g, i * 8 + 4, none⟩ (.int .i64 r.ag.cnt)).setCell ⟨g, i * 8 + 5, none⟩ (.int .i64 r.ag.sum)).setCell ⟨g, i * 8 + 6, none⟩ (.int .i32 r.ag.mn)).setCell ⟨g, i * 8 + 7, none⟩ (.int .i32 r.ag.mx)).ownsRow base 78 8 (.slice (some ⟨g, 0, none⟩) n cap) n (flatR (l.set i r)) := by
  rw [← flatR_set l r i hi]
  exact owns_set (owns_set (owns_set (owns_set (owns_set (owns_set (owns_set (owns_set h _) _) _) _) _) _) _) _

/-- A table: its one cell, and the rows. -/
structure TabAt (w : World) (T B : Nat) (v : Value) (l : List Rw) : Prop where
  blk : w.heap[T]? = some (.cells #[v] 162 (0, 0))
  own : w.ownsRow B 78 8 v l.length (flatR l)
  hT : B ≤ T
  ne : v.ownBlock ≠ some T
theorem TabAt.lt {w : World} {T B : Nat} {v : Value} {l : List Rw} (h : TabAt w T B v l) : T < w.heap.size := (Array.getElem?_eq_some_iff.1 h.blk).1
theorem TabAt.cell {w : World} {T B : Nat} {v : Value} {l : List Rw} (h : TabAt w T B v l) : w.cell? ⟨T, 0, none⟩ = some v := by simp [World.cell?, h.blk]
theorem TabAt.frozen {w : World} {T B : Nat} {v : Value} {l : List Rw} (h : TabAt w T B v l) : w.frozen? ⟨T, 0, none⟩ = false := by simp [World.frozen?, h.blk]
/-- What leaves all blocks below the table's and the rows' as they were. -/
theorem TabAt.kept {w w' : World} {T B : Nat} {v : Value} {l : List Rw} (h : TabAt w T B v l) (hb : Below w.heap.size w w') : TabAt w' T B v l :=
  ⟨by rw [hb.block T h.lt]; exact h.blk, owns_below h.own hb (fun k hk => (h.own.lt k hk).2), h.hT, h.ne⟩

/-- The rows with a new one put in at place m. -/
def insAt (l : List Rw) (m : Nat) (r : Rw) : List Rw := l.take m ++ [r] ++ l.drop m
theorem insAt_len (l : List Rw) (m : Nat) (r : Rw) (hm : m ≤ l.length) : (insAt l m r).length = l.length + 1 := by simp [insAt]; omega
theorem insAt_end (l : List Rw) (r : Rw) : insAt l l.length r = l ++ [r] := by simp [insAt]
theorem insAt_ahead (l : List Rw) (m : Nat) (r : Rw) (hm : m + 1 ≤ l.length) : rwG (insAt l (m + 1) r) m = rwG l m := by
  unfold insAt rwG
  rw [List.append_assoc, List.getD_eq_getElem?_getD, List.getElem?_append_left (by simp; omega), List.getElem?_take_of_lt (by omega)]
  rfl
theorem insAt_down (l : List Rw) (m : Nat) (r : Rw) (hm : m + 1 ≤ l.length) : ((insAt l (m + 1) r).set (m + 1) (rwG l m)).set m r = insAt l m r := by
  unfold insAt
  rw [rwG_get l m (by omega)]
  have e1 : l.take (m + 1) = l.take m ++ [l[m]] := List.take_succ_eq_append_getElem (by omega)
  have e2 : l.drop m = l[m] :: l.drop (m + 1) := List.drop_eq_getElem_cons (by omega)
  rw [e1, e2]
  have hl : (l.take m).length = m := by simp; omega
  generalize hA : l.take m = A at *
  have e3 : A ++ [l[m]] ++ [r] ++ l.drop (m + 1) = A ++ (l[m] :: r :: l.drop (m + 1)) := by simp
  rw [e3, List.set_append_right _ _ (by omega), List.set_append_right _ _ (by omega), hl]
  simp

theorem tab_put {w W w3 : World} {T B : Nat} {v v' : Value} {l : List Rw} {r : Rw} (H : TabAt w T B v l) (hb : Below w.heap.size w W) (hg : W.grownBy w3 v.ownBlock) (ho : w3.ownsRow B 78 8 v' (l.length + 1) (flatR l ++ r.cells))
    (hk : v'.ownBlock = v.ownBlock ∨ ∀ k, v'.ownBlock = some k → W.heap.size ≤ k) : TabAt (w3.setCell ⟨T, 0, none⟩ v') T B v' (l ++ [r]) := by
  have hne := gr_ne hb hk H.lt H.ne
  refine ⟨?_, ?_, H.hT, hne⟩
  · exact heap_setCell ((gr_heap hb hg H.lt H.ne).trans H.blk)
  · rw [show (l ++ [r]).length = l.length + 1 by simp, show flatR (l ++ [r]) = flatR l ++ r.cells from flat_snoc _ _ _]
    exact owns_other ho hne
theorem RwAt.new (w : World) (r : Rw) : RwAt (w.alloc (.cells (rwC r) 78)) w.heap.size 0 r := by
  constructor <;> simp [go_sem]
theorem RwAt.block {w w' : World} {g o : Nat} {r : Rw} (h : RwAt w g o r) (hb : w'.heap[g]? = w.heap[g]?) : RwAt w' g o r := by
  obtain ⟨c0, c1, c2, c3, c4, c5, c6, c7⟩ := h
  have e : ∀ j, w'.cell? ⟨g, j, none⟩ = w.cell? ⟨g, j, none⟩ := fun j => World.cell?_of_block hb
  exact ⟨by rw [e]; exact c0, by rw [e]; exact c1, by rw [e]; exact c2, by rw [e]; exact c3, by rw [e]; exact c4, by rw [e]; exact c5, by rw [e]; exact c6, by rw [e]; exact c7⟩
theorem RwAt.lt {w : World} {g o : Nat} {r : Rw} (h : RwAt w g o r) : g < w.heap.size := World.block_lt_of_cell? w _ h.c0
theorem RwAt.below {w w' : World} {g o : Nat} {r : Rw} (h : RwAt w g o r) (hb : Below w.heap.size w w') : RwAt w' g o r := h.block (hb.block g h.lt)

abbrev set8 (w : World) (g o : Nat) (r : Rw) : World := (((((((w.setCell ⟨g, o, none⟩ (.int .i64 r.key.st)).setCell ⟨g, o + 1, none⟩ (.int .u8 r.key.g0)).setCell ⟨g, o + 2, none⟩ (.int .u8 r.key.g1)).setCell ⟨g, o + 3, none⟩ (.int .u8 r.key.g2)).setCell ⟨g, o + 4, none⟩ (.int .i64 r.ag.cnt)).setCell ⟨g, o + 5, none⟩ (.int .i64 r.ag.sum)).setCell ⟨g, o + 6, none⟩ (.int .i32 r.ag.mn)).setCell ⟨g, o + 7, none⟩ (.int .i32 r.ag.mx)
theorem set8_block {w : World} {g o : Nat} {r : Rw} {b : Nat} (h : b ≠ g) : (set8 w g o r).heap[b]? = w.heap[b]? := by
  unfold set8
  rw [Below.heap_setCell _ _ _ _ h, Below.heap_setCell _ _ _ _ h, Below.heap_setCell _ _ _ _ h, Below.heap_setCell _ _ _ _ h, Below.heap_setCell _ _ _ _ h, Below.heap_setCell _ _ _ _ h, Below.heap_setCell _ _ _ _ h, Below.heap_setCell _ _ _ _ h]
theorem set8_below {B : Nat} {a w : World} {g o : Nat} {r : Rw} (h : Below B a w) (hg : B ≤ g) : Below B a (set8 w g o r) :=
  bel_set (bel_set (bel_set (bel_set (bel_set (bel_set (bel_set (bel_set h hg) hg) hg) hg) hg) hg) hg) hg
theorem set8_size {w : World} {g o : Nat} {r : Rw} : (set8 w g o r).heap.size = w.heap.size := by simp [set8, World.setCell]
theorem TabAt.drew {w : World} {T B : Nat} {v : Value} {l : List Rw} (h : TabAt w T B v l) : TabAt w.drew T B v l := ⟨h.blk, h.own, h.hT, h.ne⟩
theorem RwAt.drew {w : World} {g o : Nat} {r : Rw} (h : RwAt w g o r) : RwAt w.drew g o r := ⟨h.c0, h.c1, h.c2, h.c3, h.c4, h.c5, h.c6, h.c7⟩
theorem TabAt.drewN {w : World} {T B : Nat} {v : Value} {l : List Rw} (h : TabAt w T B v l) (d : Nat) : TabAt (w.drewN d) T B v l := ⟨h.blk, h.own, h.hT, h.ne⟩
theorem tab_set {w : World} {T B g n cap : Nat} {l : List Rw} (h : TabAt w T B (.slice (some ⟨g, 0, none⟩) n cap) l) (hn : l.length = n) (i : Nat) (hi : i < l.length) (r : Rw) : TabAt (set8 w g (i * 8) r) T B (.slice (some ⟨g, 0, none⟩) n cap) (l.set i r) := by
  subst hn
  refine ⟨?_, ?_, h.hT, h.ne⟩
  · rw [set8_block (fun e => h.ne (by rw [e]; rfl))]; exact h.blk
  · rw [List.length_set]; exact owns_rwset h.own i hi r

set_option maxHeartbeats 4000000 in
set_option maxRecDepth 100000 in
theorem insert_any (T B : Nat) (v : Value) (l : List Rw) (r : Rw) (w : World) (h : TabAt w T B v l) (hn : l.length ≤ 1000) :
    Calls Tryz.prog 121 #[.pointer (some ⟨T, 0, none⟩), .agg (rwC r)] w fun e w' => e = .returned (.tuple #[]) ∧ ∃ v' m, TabAt w' T B v' (insAt l m r) ∧ m ≤ l.length ∧ (∀ i, m ≤ i → i < l.length → r.key.lt (rwG l i).key) ∧ (0 < m → ¬ r.key.lt (rwG l (m - 1)).key) ∧ Below B w w' := by
  obtain ⟨i0, hi, hz0, hz1, hz2⟩ := infP Tryz.info78'
  have HT : Hid (TabAt w T B v l) := h
  have qT := h.cell
  have fT := h.frozen
  have hTs := h.lt
  have hTB := h.hT
  have hTw : T ≠ w.heap.size := by omega
  have hTw1 : T ≠ w.heap.size + 1 := by omega
  clear h
  go_enter Tryz.func121, Tryz.ntmps121
  go_upto_region 1 with fail
  go_cut [13] from 6 to 15 (fun v' wx => TabAt wx T B v' (l ++ [r]) ∧ Below B w wx ∧ RwAt wx w.heap.size 0 r ∧ w.heap.size < wx.heap.size ∧ v'.ownBlock ≠ some w.heap.size)
  case first =>
    go_region_law (refine stepAppend rfl (.tmp 10) (.tmp 12) 79 rfl B 78 i0 (.agg #[.int .i64 0, .int .u8 0, .int .u8 0, .int .u8 0, .int .i64 0, .int .i64 0, .int .i32 0, .int .i32 0]) 8 40 Tryz.underlying79 hi hz0 hz1 hz2 rfl (by decide) v l.length (flatR l) (by simp [Act.eval]) ((HT.out.own.alloc _).alloc _) ⟨w.heap.size + 1, 0, none⟩ 1 1 r.cells (by simp [Act.eval]) rfl (newAt _ r.cells 78 _ (by simp)) (Rw.one r) (by unfold maxLen; omega) (by omega) (by simp; omega) ?_; intro v' w3 hown' hgrow hblk; have qT3 : w3.cell? ⟨T, 0, none⟩ = some v := hgrow.cell (cell_alloc2 qT) (fun e => HT.out.ne e.symm); have fT3 : w3.frozen? ⟨T, 0, none⟩ = false := (World.frozen?_of_block (hgrow.block T (by simp; omega) (fun e => HT.out.ne e.symm))).trans (frozen_alloc2 hTs fT); obtain ⟨a', p', rfl⟩ := ownForm hown')
    all_goals (have hg' := gr_undrew hgrow)
    all_goals (have hbw : Below w.heap.size w ((w.alloc (.cells (rwC r) 78)).alloc (.cells r.cells.toArray 78)) := ((Below.refl _ _).alloc (Nat.le_refl _) _).alloc (by simp) _)
    all_goals (have H1 : Hid (TabAt (w3.setCell ⟨T, 0, none⟩ (.slice a' (l.length + 1) p')) T B (.slice a' (l.length + 1) p') (l ++ [r])) := tab_put HT.out hbw hg' hown' hblk)
    all_goals (have H2 : Hid (Below B w (w3.setCell ⟨T, 0, none⟩ (.slice a' (l.length + 1) p'))) := bel_set (gr_below (hbw.mono (by omega)) hg' (by simp; omega) (fun b hb => (HT.out.own.lt b hb).1)) hTB)
    all_goals (have hnb : v.ownBlock ≠ some w.heap.size := fun e => by have := (HT.out.own.lt _ e).2; omega)
    all_goals (have hs3 := hg'.size)
    all_goals (have H3 : Hid (RwAt (w3.setCell ⟨T, 0, none⟩ (.slice a' (l.length + 1) p')) w.heap.size 0 r) := (RwAt.new w r).block (by rw [Below.heap_setCell _ _ _ _ (fun e => hTw e.symm), hg'.block _ (by simp; omega) (fun e => hnb e.symm)]; exact Below.heap_alloc _ _ _ (by simp)))
    all_goals (have H4 : Hid ((Value.slice a' (l.length + 1) p').ownBlock ≠ some w.heap.size) := by (rcases hblk with h | h; (show _ ≠ _; rw [h]; exact hnb); (intro e; have := h _ e; simp at this; omega)))
    all_goals (have H5 : Hid (w.heap.size < (w3.setCell ⟨T, 0, none⟩ (.slice a' (l.length + 1) p')).heap.size) := by (show _ < _; simp [World.setCell] at hs3 ⊢; omega))
    all_goals clear hgrow hg' hblk hown' hbw
    all_goals go_wp2_with fail
    all_goals go_meet
    all_goals (case rel => exact ⟨H1.out, H2.out, H3.out, H5.out, H4.out⟩)
  case rest =>
    obtain ⟨ht, hbc, hrw, hsz, hnb⟩ := hcut
    obtain ⟨g, cap, rfl, hgB, hgs, hcap⟩ := ownBlockForm ht.own (by simp)
    have hgT : g ≠ T := fun e => ht.ne (by rw [e]; rfl)
    have hgw : g ≠ w.heap.size := fun e => hnb (by rw [e]; rfl)
    have HT1 : Hid (TabAt wc T B (.slice (some ⟨g, 0, none⟩) (l.length + 1) cap) (l ++ [r])) := by have := ht; rw [show (l ++ [r]).length = l.length + 1 by simp] at this; exact this
    have HB1 : Hid (Below B w wc) := hbc
    have HR1 : Hid (RwAt wc w.heap.size 0 r) := hrw
    rw [show (l ++ [r]).length = l.length + 1 by simp] at *
    have qc := HT1.out.cell
    clear ht hbc hrw hnb HT qT fT
    go_wp2_with fail
    go_loopw [4] (fun i wr => ∃ m : Nat, i = .int .i64 m ∧ m ≤ l.length ∧ TabAt wr T B (.slice (some ⟨g, 0, none⟩) (l.length + 1) cap) (insAt l m r) ∧ Below B w wr ∧ RwAt wr w.heap.size 0 r ∧ (∀ i, m ≤ i → i < l.length → r.key.lt (rwG l i).key)) (fun i _ => (intOf i).toNat)
    case atStart => exact ⟨l.length, rfl, Nat.le_refl _, by rw [insAt_end]; exact HT1.out, HB1.out, HR1.out, fun i h1 h2 => by omega⟩
    case round =>
      obtain ⟨m, rfl, hm, ht, hbw, hrw, hup⟩ := hrel
      have HT : Hid (TabAt wr T B (.slice (some ⟨g, 0, none⟩) (l.length + 1) cap) (insAt l m r)) := ht
      have HB : Hid (Below B w wr) := hbw
      have HR : Hid (RwAt wr w.heap.size 0 r) := hrw
      have HU : Hid (∀ i, m ≤ i → i < l.length → r.key.lt (rwG l i).key) := hup
      clear HT1 HB1 HR1 qc ht hbw hrw hup
      have hwz := HR.out.lt
      by_cases hm0 : m = 0
      · subst hm0
        go_wp2_with fail
        go_end0
        exact ⟨rfl, _, 0, HT.out, Nat.zero_le _, HU.out, fun h => by omega, HB.out⟩
      · obtain ⟨k, rfl⟩ : ∃ k, m = k + 1 := ⟨m - 1, by omega⟩
        have hil : (insAt l (k + 1) r).length = l.length + 1 := insAt_len l _ r hm
        have HOW : Hid (wr.ownsRow B 78 8 (.slice (some ⟨g, 0, none⟩) (l.length + 1) cap) (l.length + 1) (flatR (insAt l (k + 1) r))) := by have := HT.out.own; rw [hil] at this; exact this
        obtain ⟨a0, a1, a2, a3, a4, a5, a6, a7⟩ := owns_rw HOW.out k (by omega)
        rw [insAt_ahead l k r hm] at a0 a1 a2 a3 a4 a5 a6 a7
        obtain ⟨r0, r1, r2, r3, r4, r5, r6, r7⟩ := HR.out
        simp only [Nat.zero_add] at r1 r2 r3 r4 r5 r6 r7
        have qT := HT.out.cell
        have hgs' := (HOW.out.lt g rfl).2
        generalize hA : rwG l k = A at *
        go_wp2_with fail
        refine (before_any r A _).mono ?_
        rintro e w1 ⟨rfl, hb1⟩
        have hb01 : Below wr.heap.size wr w1 := ((Below.refl _ _).alloc (Nat.le_refl _) _).trans (hb1.mono (by simp))
        have HT2 : Hid (TabAt w1 T B (.slice (some ⟨g, 0, none⟩) (l.length + 1) cap) (insAt l (k + 1) r)) := HT.out.kept hb01
        have HR2 : Hid (RwAt w1 w.heap.size 0 r) := HR.out.below hb01
        have HB2 : Hid (Below B w w1) := HB.out.trans (hb01.mono (by omega))
        have HA2 : Hid (RwAt w1 wr.heap.size 0 A) := (RwAt.new wr A).below hb1
        have hsz1 := hb01.size
        clear hb1 hb01 a0 a1 a2 a3 a4 a5 a6 a7 r0 r1 r2 r3 r4 r5 r6 r7 qT HT HR HB HOW
        cases hbf : decide (r.key.lt A.key)
        · have hnl : ¬ r.key.lt A.key := by simpa using hbf
          go_wp2_with fail
          refine bodyPost_ret (v := .tuple #[]) (by simp [results, Tryz.results121, go_sem]) rfl ?_
          exact ⟨rfl, _, k + 1, HT2.out, hm, HU.out, fun _ => by rw [show k + 1 - 1 = k by omega, hA]; exact hnl, HB2.out⟩
        · have hl0 : r.key.lt A.key := of_decide_eq_true hbf
          have HL : Hid (r.key.lt A.key) := hl0
          clear hl0
          have HOW : Hid (w1.ownsRow B 78 8 (.slice (some ⟨g, 0, none⟩) (l.length + 1) cap) (l.length + 1) (flatR (insAt l (k + 1) r))) := by have := HT2.out.own; rw [hil] at this; exact this
          have qT := HT2.out.cell
          obtain ⟨a0, a1, a2, a3, a4, a5, a6, a7⟩ := HA2.out
          simp only [Nat.zero_add] at a1 a2 a3 a4 a5 a6 a7
          obtain ⟨x0, x1, x2, x3, x4, x5, x6, x7⟩ := owns_rw HOW.out (k + 1) (by omega)
          have fz := owns_frozen HOW.out
          have hga : g ≠ wr.heap.size := by omega
          clear hbf
          go_upto_region 7 with fail
          go_cut [] from 38 to 44 (fun wx => TabAt wx T B (.slice (some ⟨g, 0, none⟩) (l.length + 1) cap) ((insAt l (k + 1) r).set (k + 1) A) ∧ RwAt wx w.heap.size 0 r ∧ Below B w wx)
          case first =>
            go_region
            all_goals go_wp2_with fail
            all_goals go_meet
            all_goals (case rel => exact ⟨(tab_set HT2.out hil (k + 1) (by omega) A).drew, (HR2.out.block (w' := set8 w1 g ((k + 1) * 8) A) (set8_block (fun e => hgw e.symm))).drew, (set8_below HB2.out hgB).drew⟩)
          case rest =>
            obtain ⟨ht3, hr3, hb3⟩ := hcut
            have HT3 : Hid (TabAt wc T B (.slice (some ⟨g, 0, none⟩) (l.length + 1) cap) ((insAt l (k + 1) r).set (k + 1) A)) := ht3
            have HR3 : Hid (RwAt wc w.heap.size 0 r) := hr3
            have HB3 : Hid (Below B w wc) := hb3
            clear ht3 hr3 hb3 qT a0 a1 a2 a3 a4 a5 a6 a7 x0 x1 x2 x3 x4 x5 x6 x7 fz HOW HT2 HR2 HB2 HA2
            have hil2 : ((insAt l (k + 1) r).set (k + 1) A).length = l.length + 1 := by rw [List.length_set]; exact hil
            have HOW : Hid (wc.ownsRow B 78 8 (.slice (some ⟨g, 0, none⟩) (l.length + 1) cap) (l.length + 1) (flatR ((insAt l (k + 1) r).set (k + 1) A))) := by have := HT3.out.own; rw [hil2] at this; exact this
            have qT := HT3.out.cell
            obtain ⟨r0, r1, r2, r3, r4, r5, r6, r7⟩ := HR3.out
            simp only [Nat.zero_add] at r1 r2 r3 r4 r5 r6 r7
            obtain ⟨x0, x1, x2, x3, x4, x5, x6, x7⟩ := owns_rw HOW.out k (by omega)
            have fz := owns_frozen HOW.out
            have HE : Hid ((((insAt l (k + 1) r).set (k + 1) A).set k r) = insAt l k r) := by show _ = _; rw [← hA]; exact insAt_down l k r hm
            go_upto_region 8 with fail
            go_region
            all_goals go_wp2_with fail
            all_goals refine ⟨⟨k, by go_num, by omega, by have := (tab_set HT3.out hil2 k (by omega) r).drew; rw [HE.out] at this; exact this, (set8_below HB3.out hgB).drew, (HR3.out.block (w' := set8 wc g (k * 8) r) (set8_block (fun e => hgw e.symm))).drew, fun i h1 h2 => ?_⟩, by simp [intOf]⟩
            all_goals by_cases e : i = k
            all_goals first | (subst e; rw [hA]; exact HL.out) | exact HU.out i (by omega) h2

end Go.Proofs.YthciddpljcbhiabGreatDoor

/- Walks: a value put to the row of its step and group. -/
namespace Go.Proofs.YthciddpljcbhiabGreatDoor
open Go Go.RowKit

/-- Rows whose numbers are small enough to add to. -/
def SmallR (l : List Rw) : Prop := ∀ i, i < l.length → 0 ≤ (rwG l i).ag.cnt ∧ (rwG l i).ag.cnt ≤ 1000000 ∧ -4000000000000000 ≤ (rwG l i).ag.sum ∧ (rwG l i).ag.sum ≤ 4000000000000000

theorem key_ne {a : Rw} {st : Int} {g : Lb} (h : (a.key.st == st) = false ∨ (a.key.g0 == g.a && a.key.g1 == g.b && a.key.g2 == g.c) = false) : a.key ≠ ⟨st, g.a, g.b, g.c⟩ := by
  intro e
  rw [e] at h
  simp at h
theorem key_eq {a : Rw} {st : Int} {g : Lb} (h1 : (a.key.st == st) = true) (h2 : (a.key.g0 == g.a && a.key.g1 == g.b && a.key.g2 == g.c) = true) : a.key = ⟨st, g.a, g.b, g.c⟩ := by
  simp only [Bool.and_eq_true, beq_iff_eq] at h1 h2
  exact Key.ext' h1 h2.1.1 h2.1.2 h2.2

theorem TabAt.kept' {W w w' : World} {T B : Nat} {v : Value} {l : List Rw} (hb : Below W.heap.size W w') (he : W.heap = w.heap) (h : TabAt w T B v l) : TabAt w' T B v l := by
  have h' : TabAt W T B v l := ⟨by rw [he]; exact h.blk, ⟨h.own.1, by rw [he]; exact h.own.2⟩, h.hT, h.ne⟩
  exact h'.kept hb
theorem below_heap {W w w0 w' : World} {B : Nat} (hb : Below W.heap.size W w') (h : Below B w0 w) (he : W.heap = w.heap) (ho : W.os = w.os) (ht : W.tape = w.tape) (hu : W.output = w.output) (hB : B ≤ w.heap.size) : Below B w0 w' :=
  h.trans (b := w) ⟨hb.os.trans ho, hb.tape.trans ht, hb.output.trans hu, by rw [← he]; exact hb.size, fun k hk => by rw [← he]; exact hb.block k (by rw [he]; omega)⟩

set_option maxHeartbeats 4000000 in
set_option maxRecDepth 100000 in
theorem add_any (T B : Nat) (v : Value) (l : List Rw) (st val : Int) (q : Lb) (w : World) (h : TabAt w T B v l) (hn : l.length ≤ 1000) (hup : l.Pairwise fun a b => a.key.lt b.key) (hs : SmallR l) (v0 : -2147483648 ≤ val) (v1 : val ≤ 2147483647) :
    Calls Tryz.prog 102 #[.pointer (some ⟨T, 0, none⟩), .int .i64 st, .agg (lbA q), .int .i32 val] w fun e w' => e = .returned (.tuple #[]) ∧ ∃ v', TabAt w' T B v' (addR l ⟨st, q.a, q.b, q.c⟩ val) ∧ Below B w w' := by
  have HT : Hid (TabAt w T B v l) := h
  have HU : Hid (l.Pairwise fun a b => a.key.lt b.key) := hup
  have HS : Hid (SmallR l) := hs
  have qT := h.cell
  have hTs := h.lt
  have hTB := h.hT
  obtain ⟨a0, cap, rfl⟩ := ownForm h.own
  clear h hup hs
  go_enter Tryz.func102, Tryz.ntmps102
  go_wp2_with fail
  go_loopw [8] (fun i wr => ∃ k : Nat, i = .int .i64 k ∧ k ≤ l.length ∧ (∀ j, j < k → (rwG l j).key ≠ ⟨st, q.a, q.b, q.c⟩) ∧ ∃ d, wr = (w.alloc (c3 q.a q.b q.c)).drewN d) (fun i _ => l.length - (intOf i).toNat)
  case atStart => exact ⟨0, rfl, Nat.zero_le _, fun j hj => by omega, 0, rfl⟩
  case round =>
    obtain ⟨k, rfl, hk, hno, d, rfl⟩ := hrel
    have HN : Hid (∀ j, j < k → (rwG l j).key ≠ ⟨st, q.a, q.b, q.c⟩) := hno
    clear hno
    by_cases hlt : k < l.length
    · obtain ⟨g, cap', he, hgB, hgs, hcap⟩ := ownBlockForm HT.out.own (by omega)
      obtain ⟨rfl, rfl⟩ : a0 = some ⟨g, 0, none⟩ ∧ cap = cap' := by injection he with h1 h2 h3; exact ⟨h1, h3⟩
      have hgT : g ≠ T := fun e => HT.out.ne (by rw [e]; rfl)
      obtain ⟨x0, x1, x2, x3, x4, x5, x6, x7⟩ := owns_rw HT.out.own k hlt
      have hSm := HS.out k hlt
      generalize hA : rwG l k = A at *
      have heq := fun w => eq26 9998 A.key.g0 A.key.g1 A.key.g2 q.a q.b q.c w
      cases e1 : (A.key.st == st)
      · go_wp2_with fail
        go_quiet (fail)
        go_wp2_with fail
        exact ⟨⟨k + 1, by go_num, by omega, upto_succ HN.out (by rw [hA]; exact key_ne (.inl e1)), _, rfl⟩, by simp [intOf]; omega⟩
      · cases e2 : (A.key.g0 == q.a && A.key.g1 == q.b && A.key.g2 == q.c)
        · rw [e2] at heq
          go_wp2_with fail
          go_quiet (fail)
          go_wp2_with fail
          exact ⟨⟨k + 1, by go_num, by omega, upto_succ HN.out (by rw [hA]; exact key_ne (.inr e2)), _, rfl⟩, by simp [intOf]; omega⟩
        · rw [e2] at heq
          have HK : Hid (A.key = ⟨st, q.a, q.b, q.c⟩) := key_eq e1 e2
          have HE : Hid (addR l ⟨st, q.a, q.b, q.c⟩ val = l.set k (withR A val)) := by
            show _ = _
            rw [addR_found k HU.out hlt (by rw [hA]; exact HK.out), hA]
            unfold withR
            rw [HK.out]
          go_wp2_with fail
          go_quiet (fail)
          clear heq
          have HTw : Hid (TabAt (w.alloc (c3 q.a q.b q.c)) T B (.slice (some ⟨g, 0, none⟩) l.length cap) l) := HT.out.kept ((Below.refl _ _).alloc (Nat.le_refl _) _)
          have HBw : Hid (Below B w (w.alloc (c3 q.a q.b q.c))) := (Below.refl _ _).alloc (by omega) _
          go_upto_region 5 with fail
          go_region_with (go_at_call 120; refine (with_any A val _ hSm.1 hSm.2.1 hSm.2.2.1 hSm.2.2.2 v0 v1).mono ?_; rintro e w' ⟨rfl, hb'⟩; have ht' : Hid (TabAt w' T B (.slice (some ⟨g, 0, none⟩) l.length cap) l) := TabAt.kept' (w := w.alloc (c3 q.a q.b q.c)) hb' rfl HTw.out; have hbw' : Hid (Below B w w') := below_heap (w := w.alloc (c3 q.a q.b q.c)) hb' HBw.out rfl rfl rfl rfl (by simp; omega); obtain ⟨y0, y1, y2, y3, y4, y5, y6, y7⟩ := owns_rw ht'.out.own k hlt; have fz := owns_frozen ht'.out.own; have qT' := ht'.out.cell; clear hb')
          all_goals go_wp2_with fail
          all_goals refine bodyPost_ret (v := .tuple #[]) (by simp [results, Tryz.results102, go_sem]) rfl ?_
          all_goals first
            | exact ⟨rfl, _, by rw [HE.out]; exact tab_set ht'.out rfl k hlt (withR A val), set8_below hbw'.out hgB⟩
            | exact ⟨rfl, _, by rw [HE.out]; exact (tab_set ht'.out rfl k hlt (withR A val)).drew, (set8_below hbw'.out hgB).drew⟩
    · have hke : k = l.length := by omega
      have HTw : Hid (TabAt ((w.alloc (c3 q.a q.b q.c)).drewN d) T B (.slice a0 l.length cap) l) := (HT.out.kept ((Below.refl _ _).alloc (Nat.le_refl _) _)).drewN d
      have HBw : Hid (Below B w ((w.alloc (c3 q.a q.b q.c)).drewN d)) := below_drewN ((Below.refl _ _).alloc (by omega) _) d
      go_wp2_with fail
      refine (insert_any T B (.slice a0 l.length cap) l ⟨⟨st, q.a, q.b, q.c⟩, .one val⟩ _ HTw.out hn).mono ?_
      rintro e w1 ⟨rfl, v', m, ht', hm, ha, hb, hbel⟩
      have HE : Hid (addR l ⟨st, q.a, q.b, q.c⟩ val = insAt l m ⟨⟨st, q.a, q.b, q.c⟩, .one val⟩) := addR_at HU.out val (fun i hi => HN.out i (by omega)) hm ha hb
      have HT' : Hid (TabAt w1 T B v' (addR l ⟨st, q.a, q.b, q.c⟩ val)) := by show TabAt _ _ _ _ _; rw [HE.out]; exact ht'
      have HB' : Hid (Below B w w1) := HBw.out.trans hbel
      clear ht' ha hb hbel
      go_wp2_with fail
      go_end0
      exact ⟨rfl, v', HT'.out, HB'.out⟩

end Go.Proofs.YthciddpljcbhiabGreatDoor

/- Walks: the book of what is admitted. -/
namespace Go.Proofs.YthciddpljcbhiabGreatDoor
open Go Go.RowKit

theorem Tryz.info180' : (Tryz.prog.info? 180).map (fun i => (i.zero, i.size, i.bytes)) = some (some (.agg #[.int .i64 0, .int .u8 0, .int .u8 0, .int .u8 0]), 4, 16) := by kernel_rfl

theorem owns_ad {w : World} {base g n cap : Nat} {l : List Ad} (h : w.ownsRow base 180 4 (.slice (some ⟨g, 0, none⟩) n cap) n (flatA l)) (i : Nat) (hi : i < l.length) :
    w.cell? ⟨g, i * 4, none⟩ = some (.int .i64 (adG l i).lv) ∧ w.cell? ⟨g, i * 4 + 1, none⟩ = some (.int .u8 (adG l i).nm.a) ∧ w.cell? ⟨g, i * 4 + 2, none⟩ = some (.int .u8 (adG l i).nm.b) ∧ w.cell? ⟨g, i * 4 + 3, none⟩ = some (.int .u8 (adG l i).nm.c) := by
  have k := fun j (hj : j < 4) => flat_get Ad.cells 4 len4A l i j hj hi
  rw [adG_get l i hi]
  exact ⟨owns_cell h (k 0 (by omega)), owns_cell h (k 1 (by omega)), owns_cell h (k 2 (by omega)), owns_cell h (k 3 (by omega))⟩
theorem adm_in {bk : List Ad} {k : Nat} (hk : k < bk.length) {lv : Nat} {nm : Lb} (h1 : (adG bk k).lv = lv) (h2 : (adG bk k).nm = nm) : nm ∈ admL bk lv := by
  rw [adG_get bk k hk] at h1 h2
  exact List.mem_map.2 ⟨bk[k], List.mem_filter.2 ⟨List.getElem_mem _, by simp [h1]⟩, h2⟩
theorem adm_out {bk : List Ad} {lv : Nat} {nm : Lb} (h : ∀ k, k < bk.length → ¬ ((adG bk k).lv = lv ∧ (adG bk k).nm = nm)) : nm ∉ admL bk lv := by
  intro hm
  obtain ⟨a, ha, e⟩ := List.mem_map.1 hm
  obtain ⟨h1, h2⟩ := List.mem_filter.1 ha
  obtain ⟨i, hi, rfl⟩ := List.getElem_of_mem h1
  exact h i hi (by rw [adG_get bk i hi]; exact ⟨by simpa using h2, e⟩)
theorem admL_take (bk : List Ad) (k lv : Nat) (hk : k < bk.length) : ((admL (bk.take (k + 1)) lv).length : Int) = (admL (bk.take k) lv).length + if (adG bk k).lv = lv then 1 else 0 := by
  rw [List.take_succ_eq_append_getElem hk, adG_get bk k hk]
  unfold admL
  rw [List.filter_append, List.map_append, List.length_append]
  by_cases h : bk[k].lv = lv <;> simp [h]

set_option maxHeartbeats 1000000 in
set_option maxRecDepth 100000 in
theorem has_any (X o : Nat) (a : Option Addr) (n cap : Nat) (bk : List Ad) (lv : Nat) (nm : Lb) (w : World) (hq : w.cell? ⟨X, o, none⟩ = some (.slice a n cap)) (hown : w.ownsRow 0 180 4 (.slice a n cap) n (flatA bk)) (hn : bk.length = n) (hn2 : n ≤ 100000) :
    Calls Tryz.prog 114 #[.pointer (some ⟨X, o, none⟩), .int .i64 lv, .agg (lbA nm)] w fun e w' => e = .returned (.bool (decide (nm ∈ admL bk lv))) ∧ ∃ d, w' = (w.alloc (c3 nm.a nm.b nm.c)).drewN d := by
  have HO : Hid (w.ownsRow 0 180 4 (.slice a n cap) n (flatA bk)) := hown
  have HN : Hid (bk.length = n) := hn
  have hXs := World.block_lt_of_cell? w _ hq
  have hXs' : X < w.heap.size := hXs
  clear hown hn hXs
  go_enter Tryz.func114, Tryz.ntmps114
  go_wp2_with fail
  go_loopw [7] (fun i wr => ∃ k : Nat, i = .int .i64 k ∧ k ≤ n ∧ (∀ j, j < k → ¬ ((adG bk j).lv = lv ∧ (adG bk j).nm = nm)) ∧ ∃ d, wr = (w.alloc (c3 nm.a nm.b nm.c)).drewN d) (fun i _ => n - (intOf i).toNat)
  case atStart => exact ⟨0, rfl, Nat.zero_le _, fun j hj => by omega, 0, rfl⟩
  case round =>
    obtain ⟨k, rfl, hk, hno, d, rfl⟩ := hrel
    have HA : Hid (∀ j, j < k → ¬ ((adG bk j).lv = lv ∧ (adG bk j).nm = nm)) := hno
    clear hno
    by_cases hlt : k < n
    · obtain ⟨g, cap', he, _, hgs, hcap⟩ := ownBlockForm HO.out (by omega)
      obtain ⟨rfl, rfl⟩ : a = some ⟨g, 0, none⟩ ∧ cap = cap' := by injection he with h1 h2 h3; exact ⟨h1, h3⟩
      obtain ⟨x0, x1, x2, x3⟩ := owns_ad HO.out k (by rw [HN.out]; exact hlt)
      have HI : Hid (nm ∈ admL bk lv ∨ ¬ ((adG bk k).lv = lv ∧ (adG bk k).nm = nm)) := by
        by_cases h : (adG bk k).lv = lv ∧ (adG bk k).nm = nm
        · exact .inl (adm_in (by rw [HN.out]; exact hlt) h.1 h.2)
        · exact .inr h
      generalize hA : adG bk k = A at *
      have heq := fun w => eq26 9998 A.nm.a A.nm.b A.nm.c nm.a nm.b nm.c w
      cases e1 : ((A.lv : Int) == (lv : Int))
      · have hne : ¬ A.lv = lv := by intro h; rw [h] at e1; simp at e1
        go_wp2_with fail
        go_quiet (fail)
        go_wp2_with fail
        exact ⟨⟨k + 1, by go_num, by omega, upto_succ HA.out (by rw [hA]; exact fun h => hne h.1), _, rfl⟩, by simp [intOf]; omega⟩
      · have he1 : A.lv = lv := by simp only [beq_iff_eq] at e1; omega
        cases e2 : (A.nm.a == nm.a && A.nm.b == nm.b && A.nm.c == nm.c)
        · rw [e2] at heq
          have hne : ¬ A.nm = nm := by intro h; rw [h] at e2; simp at e2
          go_wp2_with fail
          go_quiet (fail)
          go_wp2_with fail
          exact ⟨⟨k + 1, by go_num, by omega, upto_succ HA.out (by rw [hA]; exact fun h => hne h.2), _, rfl⟩, by simp [intOf]; omega⟩
        · rw [e2] at heq
          have hme : nm ∈ admL bk lv := HI.out.resolve_right (fun h => h ⟨he1, by simp only [Bool.and_eq_true, beq_iff_eq] at e2; exact lb_ext e2.1.1 e2.1.2 e2.2⟩)
          have HM : Hid (decide (nm ∈ admL bk lv) = true) := by show _ = _; simpa using hme
          clear hme
          go_wp2_with fail
          go_quiet (fail)
          go_wp2_with fail
          go_ret
          exact ⟨ret_bool HM.out.symm, d + nq, by rw [World.drewN_drewN]⟩
    · have hke : k = n := by omega
      have HM : Hid (decide (nm ∈ admL bk lv) = false) := by show _ = _; exact decide_eq_false (adm_out (fun j hj => HA.out j (by rw [HN.out] at hj; omega)))
      go_wp2_with fail
      go_ret
      exact ⟨ret_bool HM.out.symm, _, rfl⟩

set_option maxHeartbeats 1000000 in
theorem count_any (X o : Nat) (a : Option Addr) (n cap : Nat) (bk : List Ad) (lv : Nat) (w : World) (hq : w.cell? ⟨X, o, none⟩ = some (.slice a n cap)) (hown : w.ownsRow 0 180 4 (.slice a n cap) n (flatA bk)) (hn : bk.length = n) (hn2 : n ≤ 100000) :
    Calls Tryz.prog 115 #[.pointer (some ⟨X, o, none⟩), .int .i64 lv] w fun e w' => e = .returned (.int .i64 (admL bk lv).length) ∧ w' = w := by
  have HO : Hid (w.ownsRow 0 180 4 (.slice a n cap) n (flatA bk)) := hown
  have HN : Hid (bk.length = n) := hn
  clear hown hn
  go_enter Tryz.func115, Tryz.ntmps115
  go_wp2_with fail
  go_loop [5, 6] (fun m i => ∃ k : Nat, i = .int .i64 k ∧ k ≤ n ∧ m = .int .i64 (admL (bk.take k) lv).length) (fun _ i => n - (intOf i).toNat)
  case atStart => exact ⟨0, rfl, Nat.zero_le _, rfl⟩
  case round =>
    obtain ⟨k, rfl, hk, rfl⟩ := hrel
    by_cases hlt : k < n
    · obtain ⟨g, cap', he, _, hgs, hcap⟩ := ownBlockForm HO.out (by omega)
      obtain ⟨rfl, rfl⟩ : a = some ⟨g, 0, none⟩ ∧ cap = cap' := by injection he with h1 h2 h3; exact ⟨h1, h3⟩
      obtain ⟨x0, _⟩ := owns_ad HO.out k (by rw [HN.out]; exact hlt)
      have HT : Hid (((admL (bk.take (k + 1)) lv).length : Int) = (admL (bk.take k) lv).length + if (adG bk k).lv = lv then 1 else 0) := admL_take bk k lv (by rw [HN.out]; exact hlt)
      have hml : (admL (bk.take k) lv).length ≤ 100000 := by
        have h1 : (admL (bk.take k) lv).length ≤ (bk.take k).length := by unfold admL; rw [List.length_map]; exact List.length_filter_le _ _
        have h2 := List.length_take_le k bk
        omega
      generalize hA : adG bk k = A at *
      generalize (admL (bk.take k) lv).length = M at *
      cases e1 : ((A.lv : Int) == (lv : Int))
      · have hne : ¬ A.lv = lv := by intro h; rw [h] at e1; simp at e1
        go_wp2_with fail
        exact ⟨⟨k + 1, by go_num, by omega, by rw [HT.out, if_neg hne]; go_num⟩, by simp [intOf]; omega⟩
      · have he1 : A.lv = lv := by simp only [beq_iff_eq] at e1; omega
        go_wp2_with fail
        exact ⟨⟨k + 1, by go_num, by omega, by rw [HT.out, if_pos he1]⟩, by simp [intOf]; omega⟩
    · have hke : k = n := by omega
      have HT : Hid (bk.take k = bk) := List.take_of_length_le (by rw [HN.out]; omega)
      rw [HT.out]
      go_wp2_with fail
      go_ret
      exact ⟨rfl, rfl⟩

end Go.Proofs.YthciddpljcbhiabGreatDoor

/- Walks: a series given at a level. -/
namespace Go.Proofs.YthciddpljcbhiabGreatDoor
open Go Go.RowKit

abbrev lvC (l : Lv) : Array Value := #[.int .i64 l.age, .int .i64 l.window, .string l.rule, .int .i64 l.limit]
/-- A book within a block: the block's cells, the list, what it holds. -/
structure BookSt (w : World) (X o : Nat) (C : Array Value) (t : TypeId) (bv : Value) (bk : List Ad) : Prop where
  blk : w.heap[X]? = some (.cells C t (0, 0))
  get : C[o]? = some bv
  own : w.ownsRow 0 180 4 bv bk.length (flatA bk)
  ne : bv.ownBlock ≠ some X
theorem BookSt.lt {w : World} {X o : Nat} {C : Array Value} {t : TypeId} {bv : Value} {bk : List Ad} (h : BookSt w X o C t bv bk) : X < w.heap.size := (Array.getElem?_eq_some_iff.1 h.blk).1
theorem BookSt.cell {w : World} {X o : Nat} {C : Array Value} {t : TypeId} {bv : Value} {bk : List Ad} (h : BookSt w X o C t bv bk) : w.cell? ⟨X, o, none⟩ = some bv := by simp [World.cell?, h.blk, h.get]
theorem BookSt.frozen {w : World} {X o : Nat} {C : Array Value} {t : TypeId} {bv : Value} {bk : List Ad} (h : BookSt w X o C t bv bk) : w.frozen? ⟨X, o, none⟩ = false := by simp [World.frozen?, h.blk]
theorem BookSt.kept {w w' : World} {X o : Nat} {C : Array Value} {t : TypeId} {bv : Value} {bk : List Ad} (h : BookSt w X o C t bv bk) (hb : Below w.heap.size w w') : BookSt w' X o C t bv bk :=
  ⟨by rw [hb.block X h.lt]; exact h.blk, h.get, owns_below h.own hb (fun k hk => (h.own.lt k hk).2), h.ne⟩
theorem set_same {C : Array Value} {o : Nat} {v : Value} (h : C[o]? = some v) : C.setIfInBounds o v = C := by
  apply Array.ext_getElem?
  intro i
  rw [Array.getElem?_setIfInBounds]
  by_cases e : o = i
  · subst e; rw [if_pos rfl, h]; have := (Array.getElem?_eq_some_iff.1 h).1; simp [this]
  · rw [if_neg e]

/-- What giving (or entering) leaves. -/
def BookPost (w : World) (X o : Nat) (C : Array Value) (t : TypeId) (bv : Value) (bk' : List Ad) (w' : World) : Prop :=
  ∃ bv', BookSt w' X o (C.setIfInBounds o bv') t bv' bk' ∧ Fr (fun k => k = X ∨ bv.ownBlock = some k) w w' ∧ (bv'.ownBlock = bv.ownBlock ∨ ∀ k, bv'.ownBlock = some k → w.heap.size ≤ k)
theorem BookPost.same {w w' : World} {X o : Nat} {C : Array Value} {t : TypeId} {bv : Value} {bk : List Ad} (h : BookSt w X o C t bv bk) (hb : Below w.heap.size w w') : BookPost w X o C t bv bk w' :=
  ⟨bv, by rw [set_same h.get]; exact h.kept hb, Fr.of_below hb, .inl rfl⟩
theorem book_put {w W w3 : World} {X o : Nat} {C : Array Value} {t : TypeId} {bv bv' : Value} {bk : List Ad} {x : Ad} (H : BookSt w X o C t bv bk) (hb : Below w.heap.size w W) (hg : W.grownBy w3 bv.ownBlock)
    (ho : w3.ownsRow 0 180 4 bv' (bk.length + 1) (flatA bk ++ x.cells)) (hk : bv'.ownBlock = bv.ownBlock ∨ ∀ k, bv'.ownBlock = some k → W.heap.size ≤ k) : BookPost w X o C t bv (bk ++ [x]) (w3.setCell ⟨X, o, none⟩ bv') := by
  have hne := gr_ne hb hk H.lt H.ne
  have hoC : o < C.size := (Array.getElem?_eq_some_iff.1 H.get).1
  refine ⟨bv', ⟨heap_setCell ((gr_heap hb hg H.lt H.ne).trans H.blk), by simp [hoC], ?_, hne⟩, ?_, ?_⟩
  · rw [show (bk ++ [x]).length = bk.length + 1 by simp, show flatA (bk ++ [x]) = flatA bk ++ x.cells from flat_snoc _ _ _]
    exact owns_other ho hne
  · exact ((Fr.of_below hb).grown hg (fun k e => .inl (.inr e))).setCell (.inl (.inl rfl)) _
  · rcases hk with h | h
    · exact .inl h
    · exact .inr fun k e => by have := h k e; have := hb.size; omega

theorem BookPost.more {w w1 w2 : World} {X o : Nat} {C : Array Value} {t : TypeId} {bv : Value} {bk : List Ad} (h : BookPost w X o C t bv bk w1) (hb : Below w1.heap.size w1 w2) : BookPost w X o C t bv bk w2 := by
  obtain ⟨bv', h1, h2, h3⟩ := h
  exact ⟨bv', h1.kept hb, h2.trans (Fr.of_below (S := fun _ => False) hb) (fun _ e => e.elim), h3⟩
/-- A store into a block of the call's own. -/
theorem BookPost.set {w w1 : World} {X o : Nat} {C : Array Value} {t : TypeId} {bv : Value} {bk : List Ad} (h : BookPost w X o C t bv bk w1) {b j : Nat} {u : Value} (hb : w.heap.size ≤ b) (hX : X < w.heap.size) (hn : ∀ bv' : Value, (bv'.ownBlock = bv.ownBlock ∨ ∀ k, bv'.ownBlock = some k → w.heap.size ≤ k) → w1.ownsRow 0 180 4 bv' bk.length (flatA bk) → bv'.ownBlock ≠ some b) : BookPost w X o C t bv bk (w1.setCell ⟨b, j, none⟩ u) := by
  obtain ⟨bv', h1, h2, h3⟩ := h
  refine ⟨bv', ⟨?_, h1.get, owns_other h1.own (hn bv' h3 h1.own), h1.ne⟩, h2.setCell (.inr hb) _, h3⟩
  rw [Below.heap_setCell _ _ _ _ (by show X ≠ b; omega)]
  exact h1.blk

theorem giveB_over {bk : List Ad} {i : Nat} {lv : Lv} {s : Lb} (h : s = over) : giveB bk i lv s = bk ∧ giveN bk i lv s = over := ⟨if_pos h, if_pos h⟩
theorem giveB_in {bk : List Ad} {i : Nat} {lv : Lv} {s : Lb} (h : ¬ s = over) (h1 : madeL lv.rule s ∈ admL bk i) : giveB bk i lv s = bk ∧ giveN bk i lv s = madeL lv.rule s := by
  unfold giveB giveN; rw [if_neg h, if_neg h, if_pos h1, if_pos h1]; exact ⟨rfl, rfl⟩
theorem giveB_full {bk : List Ad} {i : Nat} {lv : Lv} {s : Lb} (h : ¬ s = over) (h1 : madeL lv.rule s ∉ admL bk i) (h2 : lv.limit ≤ ((admL bk i).length : Int)) : giveB bk i lv s = bk ∧ giveN bk i lv s = over := by
  unfold giveB giveN; rw [if_neg h, if_neg h, if_neg h1, if_neg h1, if_pos h2, if_pos h2]; exact ⟨rfl, rfl⟩
theorem giveB_new {bk : List Ad} {i : Nat} {lv : Lv} {s : Lb} (h : ¬ s = over) (h1 : madeL lv.rule s ∉ admL bk i) (h2 : ¬ lv.limit ≤ ((admL bk i).length : Int)) : giveB bk i lv s = bk ++ [⟨i, madeL lv.rule s⟩] ∧ giveN bk i lv s = madeL lv.rule s := by
  unfold giveB giveN; rw [if_neg h, if_neg h, if_neg h1, if_neg h1, if_neg h2, if_neg h2]; exact ⟨rfl, rfl⟩

abbrev gW (w : World) (lv : Lv) (s : Lb) : World := (((w.alloc (.cells (lvC lv) 37)).alloc (c3 s.a s.b s.c)).alloc (c3 0 0 0)).alloc (c3 42 42 42)
theorem gW_below (w : World) (lv : Lv) (s : Lb) : Below w.heap.size w (gW w lv s) := ((((Below.refl _ _).alloc (Nat.le_refl _) _).alloc (by simp) _).alloc (by simp; omega) _).alloc (by simp; omega) _

theorem BookPost.close {w wc wx : World} {X o : Nat} {C : Array Value} {t : TypeId} {bv : Value} {bk : List Ad} (hW : Below w.heap.size w wc) (h : BookPost wc X o C t bv bk wx) (hX : X < w.heap.size) {b : Nat} (hb1 : w.heap.size ≤ b) (hb2 : b < wc.heap.size) (hbv : bv.ownBlock ≠ some b) (u0 u1 u2 : Value) :
    BookPost w X o C t bv bk (((wx.setCell ⟨b, 0, none⟩ u0).setCell ⟨b, 1, none⟩ u1).setCell ⟨b, 2, none⟩ u2) := by
  obtain ⟨bv', h1, h2, h3⟩ := h
  have hne : bv'.ownBlock ≠ some b := by
    rcases h3 with h | h
    · rw [h]; exact hbv
    · intro e; have := h b e; omega
  have hXb : X ≠ b := by omega
  refine ⟨bv', ⟨?_, h1.get, owns_other (owns_other (owns_other h1.own hne) hne) hne, h1.ne⟩, ?_, ?_⟩
  · rw [Below.heap_setCell _ _ _ _ hXb, Below.heap_setCell _ _ _ _ hXb, Below.heap_setCell _ _ _ _ hXb]; exact h1.blk
  · exact ((((Fr.of_below hW).trans h2 (fun k e => .inl e)).setCell (.inr hb1) _).setCell (.inr hb1) _).setCell (.inr hb1) _
  · rcases h3 with h | h
    · exact .inl h
    · exact .inr fun k e => by have := h k e; have := hW.size; omega

/-- What of the boxes of the call is wanted later. -/
structure GS (w w1 : World) (lv : Lv) : Prop where
  r0 : w1.cell? ⟨w.heap.size + 1 + 1, 0, none⟩ = some (.int .u8 0)
  r1 : w1.cell? ⟨w.heap.size + 1 + 1, 1, none⟩ = some (.int .u8 0)
  r2 : w1.cell? ⟨w.heap.size + 1 + 1, 2, none⟩ = some (.int .u8 0)
  g0 : w1.frozen? ⟨w.heap.size + 1 + 1, 0, none⟩ = false
  g1 : w1.frozen? ⟨w.heap.size + 1 + 1, 1, none⟩ = false
  g2 : w1.frozen? ⟨w.heap.size + 1 + 1, 2, none⟩ = false
  l3 : w1.cell? ⟨w.heap.size, 3, none⟩ = some (.int .i64 lv.limit)
theorem GS.lt {w w1 : World} {lv : Lv} (h : GS w w1 lv) : w.heap.size + 1 + 1 < w1.heap.size := World.block_lt_of_cell? w1 _ h.r0
theorem GS.next {w w1 w2 : World} {lv : Lv} (h : GS w w1 lv) (hb : Below w1.heap.size w1 w2) : GS w w2 lv := by
  have hl := h.lt
  have c : ∀ b o, b < w1.heap.size → w2.cell? ⟨b, o, none⟩ = w1.cell? ⟨b, o, none⟩ := fun b o hb' => hb.cell (p := ⟨b, o, none⟩) hb'
  have f : ∀ b o, b < w1.heap.size → w2.frozen? ⟨b, o, none⟩ = w1.frozen? ⟨b, o, none⟩ := fun b o hb' => hb.frozen (p := ⟨b, o, none⟩) hb'
  exact ⟨by rw [c _ _ hl]; exact h.r0, by rw [c _ _ hl]; exact h.r1, by rw [c _ _ hl]; exact h.r2, by rw [f _ _ hl]; exact h.g0, by rw [f _ _ hl]; exact h.g1, by rw [f _ _ hl]; exact h.g2, by rw [c _ _ (by omega)]; exact h.l3⟩
theorem GS.block {w w1 w2 : World} {lv : Lv} (h : GS w w1 lv) (h0 : w2.heap[w.heap.size]? = w1.heap[w.heap.size]?) (h2 : w2.heap[w.heap.size + 1 + 1]? = w1.heap[w.heap.size + 1 + 1]?) : GS w w2 lv := by
  have c : ∀ o, w2.cell? ⟨w.heap.size + 1 + 1, o, none⟩ = w1.cell? ⟨w.heap.size + 1 + 1, o, none⟩ := fun o => World.cell?_of_block h2
  have f : ∀ o, w2.frozen? ⟨w.heap.size + 1 + 1, o, none⟩ = w1.frozen? ⟨w.heap.size + 1 + 1, o, none⟩ := fun o => World.frozen?_of_block h2
  have c' : w2.cell? ⟨w.heap.size, 3, none⟩ = w1.cell? ⟨w.heap.size, 3, none⟩ := World.cell?_of_block h0
  exact ⟨by rw [c]; exact h.r0, by rw [c]; exact h.r1, by rw [c]; exact h.r2, by rw [f]; exact h.g0, by rw [f]; exact h.g1, by rw [f]; exact h.g2, by rw [c']; exact h.l3⟩
theorem GS.first (w : World) (lv : Lv) (s : Lb) : GS w (gW w lv s) lv := by constructor <;> simp [go_sem]

set_option maxHeartbeats 4000000 in
set_option maxRecDepth 100000 in
theorem give_any (X o : Nat) (C : Array Value) (t : TypeId) (bv : Value) (bk : List Ad) (i : Nat) (lv : Lv) (s : Lb) (w : World) (H : BookSt w X o C t bv bk) (hn : bk.length ≤ 5000) (hru : ruleB lv.rule = true) (hrs : lv.rule.size ≤ maxLen) (hs : okS s)
    (_hl0 : 1 ≤ lv.limit) (_hl1 : lv.limit ≤ 20) (_hi : i < 4) :
    Calls Tryz.prog 95 #[.pointer (some ⟨X, o, none⟩), .int .i64 i, .agg (lvC lv), .agg (lbA s)] w fun e w' => e = .returned (.agg (lbA (giveN bk i lv s))) ∧ BookPost w X o C t bv (giveB bk i lv s) w' := by
  have HB : Hid (BookSt w X o C t bv bk) := H
  have qX := H.cell
  have fX := H.frozen
  have hX := H.lt
  clear H
  have heq := fun w => eq26 9998 s.a s.b s.c 42 42 42 w
  go_enter Tryz.func95, Tryz.ntmps95
  go_upto_region 1 with fail
  go_cut [13] from 11 to 13 (fun v wx => v = .bool (s.a == 42 && s.b == 42 && s.c == 42) ∧ ∃ d, wx = (gW w lv s).drewN d)
  case first =>
    go_region_with (go_at_call 113; refine (rest_any _).mono ?_; rintro e w' ⟨rfl, rfl⟩)
    all_goals go_wp2_with fail
    all_goals go_meet
    all_goals (case rel => exact ⟨rfl, _, rfl⟩)
  case rest =>
    obtain ⟨rfl, d, rfl⟩ := hcut
    clear heq
    by_cases ho : s = over
    · have hb : (s.a == 42 && s.b == 42 && s.c == 42) = true := by rw [ho]; rfl
      have HG := giveB_over (bk := bk) (i := i) (lv := lv) ho
      have HG1 : Hid (giveB bk i lv s = bk) := HG.1
      have HG2 : Hid (giveN bk i lv s = s) := HG.2.trans ho.symm
      clear HG ho
      rw [hb]
      clear hb
      go_wp2_with fail
      go_returns
      rw [HG1.out, HG2.out]
      refine ⟨rfl, BookPost.same HB.out ?_⟩
      exact bel_set (bel_set (bel_set (below_drewN (gW_below w lv s) d) (by omega)) (by omega)) (by omega)
    · have hb : (s.a == 42 && s.b == 42 && s.c == 42) = false := by
        apply no_of
        intro h
        simp only [Bool.and_eq_true, beq_iff_eq] at h
        exact ho (lb_ext h.1.1 h.1.2 h.2)
      have hl3 : lab3 s.a s.b s.c = true := hs.resolve_left ho
      have HOV : Hid (¬ s = over) := ho
      have HPV : Hid (prV lv.rule s.a s.b s.c = .tuple #[.agg (lbA (madeL lv.rule s)), .int .i64 0]) := prV_ok hru hl3
      obtain ⟨bi0, hbi, bz0, bz1, bz2⟩ := infP Tryz.info180'
      rw [hb]
      clear hb ho hl3
      go_wp2_with fail
      refine (labProject_any lv.rule s.a s.b s.c _ hrs).mono ?_
      rintro e w1 ⟨rfl, hb1⟩
      rw [HPV.out]
      have HL1 : Hid (Below (w.heap.size + 4) (gW w lv s) w1) := ⟨hb1.os, hb1.tape, hb1.output, hb1.size, fun k hk => hb1.block k (by simp; omega)⟩
      have HB1 : Hid (BookSt w1 X o C t bv bk) := HB.out.kept ((gW_below w lv s).trans (HL1.out.mono (by omega)))
      have HW1 : Hid (Below w.heap.size w w1) := (gW_below w lv s).trans (HL1.out.mono (by omega))
      have hz1 : w.heap.size + 4 ≤ w1.heap.size := by have := HL1.out.size; simpa using this
      have HG0 : Hid (GS w w1 lv) := (GS.first w lv s).next ⟨hb1.os, hb1.tape, hb1.output, hb1.size, hb1.block⟩
      have hX1 : X < w1.heap.size := HB1.out.lt
      have qX1 := HB1.out.cell
      have fX1 := HB1.out.frozen
      generalize hM : madeL lv.rule s = M at *
      obtain ⟨ba, bc, rfl⟩ := ownForm HB.out.own
      clear hb1 qX fX
      go_wp2_with fail
      refine (has_any X o ba bk.length bc bk i M _ (by rw [((Below.refl w1.heap.size w1).alloc (Nat.le_refl _) _).cell (p := ⟨X, o, none⟩) hX1]; exact qX1) (HB1.out.kept ((Below.refl _ _).alloc (Nat.le_refl _) _)).own rfl (by omega)).mono ?_
      rintro e w2 ⟨rfl, d2, hw2⟩
      have hb2 : Below w1.heap.size w1 w2 := by rw [hw2]; exact below_drewN (((Below.refl _ _).alloc (Nat.le_refl _) _).alloc (by simp) _) d2
      have HB2 : Hid (BookSt w2 X o C t (.slice ba bk.length bc) bk) := HB1.out.kept hb2
      have HW2 : Hid (Below w.heap.size w w2) := HW1.out.trans (hb2.mono (by omega))
      have HG2 : Hid (GS w w2 lv) := HG0.out.next hb2
      have m0 : w2.cell? ⟨w1.heap.size, 0, none⟩ = some (.int .u8 M.a) := by rw [hw2]; simp [go_sem]
      have m1 : w2.cell? ⟨w1.heap.size, 1, none⟩ = some (.int .u8 M.b) := by rw [hw2]; simp [go_sem]
      have m2 : w2.cell? ⟨w1.heap.size, 2, none⟩ = some (.int .u8 M.c) := by rw [hw2]; simp [go_sem]
      have hm1 : w1.heap.size < w2.heap.size := World.block_lt_of_cell? w2 _ m0
      have hm2 : w.heap.size + 1 + 1 ≠ w1.heap.size := by omega
      clear hw2 hb2 HG0 HB1 HW1 qX1 fX1
      obtain ⟨r0, r1, r2, g0, g1, g2, l3⟩ := HG2.out
      have hX2 := HB2.out.lt
      have hw22 := HG2.out.lt
      by_cases hin : M ∈ admL bk i
      · have HG := giveB_in (bk := bk) (i := i) (lv := lv) HOV.out (by rw [hM]; exact hin)
        rw [hM] at HG
        have H1 : Hid (giveB bk i lv s = bk) := HG.1
        have H2 : Hid (giveN bk i lv s = M) := HG.2
        have hd : decide (M ∈ admL bk i) = true := by simpa using hin
        rw [hd]
        clear HG hin hd
        go_wp2_with fail
        refine bodyPost_ret (v := .agg (lbA M)) (by simp [results, Tryz.results95, go_sem, r0, r1, r2]) rfl ?_
        rw [H1.out, H2.out]
        refine ⟨rfl, BookPost.same HB.out ?_⟩
        exact bel_set (bel_set (bel_set HW2.out (by omega)) (by omega)) (by omega)
      · have hd : decide (M ∈ admL bk i) = false := by simpa using hin
        rw [hd]
        have HNI : Hid (M ∉ admL bk i) := hin
        clear hin hd
        have hml : (admL bk i).length ≤ 5000 := by
          have h1 : (admL bk i).length ≤ bk.length := by unfold admL; rw [List.length_map]; exact List.length_filter_le _ _
          omega
        have HCC : Hid (∀ D, Calls Tryz.prog 115 #[.pointer (some ⟨X, o, none⟩), .int .i64 i] (w2.drewN D) fun e w' => e = .returned (.int .i64 (admL bk i).length) ∧ w' = w2.drewN D) :=
          fun D => count_any X o ba bk.length bc bk i _ HB2.out.cell HB2.out.own rfl (by omega)
        go_upto_region 8 with fail
        go_cut [35] from 30 to 35 (fun v wx => v = .bool (decide (lv.limit ≤ ((admL bk i).length : Int))) ∧ ∃ D, wx = w2.drewN D)
        case first =>
          go_region_with (go_at_call 115; refine (HCC.out _).mono ?_; rintro e w' ⟨rfl, rfl⟩)
          all_goals go_wp2_with fail
          all_goals go_meet
          all_goals (case rel => exact ⟨rfl, _, rfl⟩)
        case rest =>
          obtain ⟨rfl, D, hwc⟩ := hcut
          have hb3 : Below w2.heap.size w2 wc := by rw [hwc]; exact below_drewN (Below.refl _ _) D
          have HB3 : Hid (BookSt wc X o C t (.slice ba bk.length bc) bk) := HB2.out.kept hb3
          have HW3 : Hid (Below w.heap.size w wc) := HW2.out.trans (hb3.mono (by omega))
          have HG3 : Hid (GS w wc lv) := HG2.out.next hb3
          have m0' : wc.cell? ⟨w1.heap.size, 0, none⟩ = some (.int .u8 M.a) := by rw [hwc]; exact m0
          have m1' : wc.cell? ⟨w1.heap.size, 1, none⟩ = some (.int .u8 M.b) := by rw [hwc]; exact m1
          have m2' : wc.cell? ⟨w1.heap.size, 2, none⟩ = some (.int .u8 M.c) := by rw [hwc]; exact m2
          clear hb3 hwc m0 m1 m2 r0 r1 r2 g0 g1 g2 l3 HB2 HW2 HG2 hX2 hw22 HCC
          obtain ⟨r0, r1, r2, g0, g1, g2, l3⟩ := HG3.out
          have hX3 := HB3.out.lt
          have hw23 := HG3.out.lt
          have hm3 : w1.heap.size < wc.heap.size := World.block_lt_of_cell? wc _ m0'
          by_cases hfull : lv.limit ≤ ((admL bk i).length : Int)
          · have HG := giveB_full (bk := bk) (i := i) (lv := lv) HOV.out (by rw [hM]; exact HNI.out) hfull
            have H1 : Hid (giveB bk i lv s = bk) := HG.1
            have H2 : Hid (giveN bk i lv s = over) := HG.2
            have hd : decide (lv.limit ≤ ((admL bk i).length : Int)) = true := by simpa using hfull
            rw [hd]
            clear HG hd hfull
            go_wp2_with (go_at_call 113; refine (rest_any _).mono ?_; rintro e w' ⟨rfl, rfl⟩)
            refine bodyPost_ret (v := .agg (lbA over)) (by simp [results, Tryz.results95, go_sem, r0, r1, r2, hw23, over]) rfl ?_
            rw [H1.out, H2.out]
            refine ⟨rfl, BookPost.same HB.out ?_⟩
            repeat (first | exact HW3.out | refine bel_set ?_ (by omega) | refine Below.alloc ?_ (by first | omega | (simp [World.setCell]; omega)) _)
          · have HG := giveB_new (bk := bk) (i := i) (lv := lv) HOV.out (by rw [hM]; exact HNI.out) hfull
            rw [hM] at HG
            have H1 : Hid (giveB bk i lv s = bk ++ [⟨i, M⟩]) := HG.1
            have H2 : Hid (giveN bk i lv s = M) := HG.2
            have hd : decide (lv.limit ≤ ((admL bk i).length : Int)) = false := by simpa using hfull
            have qX := HB3.out.cell
            have fX := HB3.out.frozen
            have hXn : X ≠ wc.heap.size := by omega
            rw [hd]
            clear HG hd hfull
            go_upto_region 10 with fail
            go_cut [46] from 37 to 48 (fun v wx => BookPost wc X o C t (.slice ba bk.length bc) (bk ++ [⟨i, M⟩]) wx)
            case first =>
              go_region_law (refine stepAppend rfl (.tmp 41) (.tmp 45) 82 rfl 0 180 bi0 (.agg #[.int .i64 0, .int .u8 0, .int .u8 0, .int .u8 0]) 4 16 Tryz.underlying82 hbi bz0 bz1 bz2 rfl (by decide) (.slice ba bk.length bc) bk.length (flatA bk) (by simp [Act.eval]) (HB3.out.own.alloc _) ⟨wc.heap.size, 0, none⟩ 1 1 (Ad.cells ⟨i, M⟩) (by simp [Act.eval]) rfl (newAt _ (Ad.cells ⟨i, M⟩) 180 _ rfl) (Ad.one _) (by unfold maxLen; omega) (by omega) (Nat.zero_le _) ?_; intro v' w3 hown' hgrow hblk; have qX3 : w3.cell? ⟨X, o, none⟩ = some (.slice ba bk.length bc) := hgrow.cell (cell_alloc1 qX) (fun e => HB3.out.ne e.symm); have fX3 : w3.frozen? ⟨X, o, none⟩ = false := (World.frozen?_of_block (hgrow.block X (by simp; omega) (fun e => HB3.out.ne e.symm))).trans (frozen_alloc1 hX3 fX); obtain ⟨a', p', rfl⟩ := ownForm hown')
              all_goals (have hg' := gr_undrew hgrow)
              all_goals (have H5 : Hid (BookPost wc X o C t (.slice ba bk.length bc) (bk ++ [⟨i, M⟩]) (w3.setCell ⟨X, o, none⟩ (.slice a' (bk.length + 1) p'))) := book_put (x := ⟨i, M⟩) HB3.out ((Below.refl _ _).alloc (Nat.le_refl _) _) hg' hown' hblk)
              all_goals clear hgrow hg' hblk hown'
              all_goals go_wp2_with fail
              all_goals go_meet
              all_goals (case rel => exact H5.out)
            case rest =>
              have HP : Hid (BookPost _ X o C t (.slice ba bk.length bc) (bk ++ [⟨i, M⟩]) wc) := hcut
              obtain ⟨bv', hst, hfr, _⟩ := hcut
              have hbo : ∀ k, (Value.slice ba bk.length bc).ownBlock = some k → k < w.heap.size := fun k e => (HB.out.own.lt k e).2
              have HG5 : Hid (GS w wc lv) := HG3.out.block (hfr.block _ (by omega) (fun e => by rcases e with e | e; omega; have := hbo _ e; omega)) (hfr.block _ (by omega) (fun e => by rcases e with e | e; omega; have := hbo _ e; omega))
              have hcm : ∀ o, wc.cell? ⟨w1.heap.size, o, none⟩ = _ := fun o => hfr.cell (p := ⟨w1.heap.size, o, none⟩) hm3 (fun e => by rcases e with e | e; (have e' : w1.heap.size = X := e; omega); have := hbo _ e; have e' : w1.heap.size < w.heap.size := this; omega)
              have n0 : wc.cell? ⟨w1.heap.size, 0, none⟩ = some (.int .u8 M.a) := by rw [hcm]; exact m0'
              have n1 : wc.cell? ⟨w1.heap.size, 1, none⟩ = some (.int .u8 M.b) := by rw [hcm]; exact m1'
              have n2 : wc.cell? ⟨w1.heap.size, 2, none⟩ = some (.int .u8 M.c) := by rw [hcm]; exact m2'
              clear hst hfr hcm m0' m1' m2' r0 r1 r2 g0 g1 g2 l3 qX fX
              obtain ⟨r0, r1, r2, g0, g1, g2, l3⟩ := HG5.out
              go_wp2_with fail
              refine bodyPost_ret (v := .agg (lbA M)) (by simp [results, Tryz.results95, go_sem, r0, r1, r2]) rfl ?_
              rw [H1.out, H2.out]
              exact ⟨rfl, BookPost.close HW3.out HP.out hX (by omega) hw23 (fun e => by have := hbo _ e; omega) _ _ _⟩

end Go.Proofs.YthciddpljcbhiabGreatDoor

/- Walks: a sample entered: its series at each level. -/
namespace Go.Proofs.YthciddpljcbhiabGreatDoor
open Go Go.RowKit

abbrev smC (x : Sm) : Array Value := #[.int .i64 x.time, .int .u8 x.l0, .int .u8 x.l1, .int .u8 x.l2, .int .i32 x.value]
abbrev zPt : Array Value := #[.int .i64 0, .int .i32 0, .int .u8 0, .int .u8 0, .int .u8 0, .int .u8 0, .int .u8 0, .int .u8 0, .int .u8 0, .int .u8 0, .int .u8 0, .int .u8 0, .int .u8 0, .int .u8 0]
/-- The state of entering: the book, and the three boxes. -/
structure ES (w wr : World) (X o : Nat) (C : Array Value) (t : TypeId) (bv bv' : Value) (bk : List Ad) (x : Sm) (sk : List Lb) (nk : Lb) : Prop where
  bok : BookSt wr X o (C.setIfInBounds o bv') t bv' bk
  fr : Fr (fun k => k = X ∨ bv.ownBlock = some k) w wr
  own : bv'.ownBlock = bv.ownBlock ∨ ∀ k, bv'.ownBlock = some k → w.heap.size + 4 ≤ k
  b1 : wr.heap[w.heap.size + 1]? = some (.cells zPt 127 (0, 0))
  b2 : wr.heap[w.heap.size + 2]? = some (.cells (ptC ⟨x.time, x.value, sk⟩) 127 (0, 0))
  b3 : wr.heap[w.heap.size + 3]? = some (.cells (lbA nk) 42 (0, 0))

theorem pt_set (x : Sm) (sk : List Lb) (l : Lb) (h : sk.length < 4) : (((ptC ⟨x.time, x.value, sk⟩).setIfInBounds (2 + sk.length * 3) (.int .u8 l.a)).setIfInBounds (2 + sk.length * 3 + 1) (.int .u8 l.b)).setIfInBounds (2 + sk.length * 3 + 2) (.int .u8 l.c) = ptC ⟨x.time, x.value, sk ++ [l]⟩ := by
  match sk, h with
  | [], _ => rfl
  | [a], _ => rfl
  | [a, b], _ => rfl
  | [a, b, c], _ => rfl
theorem pt_cell (x : Sm) (sk : List Lb) (k : Nat) (hk : k < 4) : ∃ a b c, (ptC ⟨x.time, x.value, sk⟩)[2 + k * 3]? = some (.int .u8 a) ∧ (ptC ⟨x.time, x.value, sk⟩)[2 + k * 3 + 1]? = some (.int .u8 b) ∧ (ptC ⟨x.time, x.value, sk⟩)[2 + k * 3 + 2]? = some (.int .u8 c) := by
  have : k = 0 ∨ k = 1 ∨ k = 2 ∨ k = 3 := by omega
  rcases this with rfl | rfl | rfl | rfl
  · exact ⟨_, _, _, rfl, rfl, rfl⟩
  · exact ⟨_, _, _, rfl, rfl, rfl⟩
  · exact ⟨_, _, _, rfl, rfl, rfl⟩
  · exact ⟨_, _, _, rfl, rfl, rfl⟩
theorem cell_blk {w : World} {g o : Nat} {C : Array Value} {t : TypeId} {fr : Nat × Nat} {v : Value} (h : w.heap[g]? = some (.cells C t fr)) (hv : C[o]? = some v) : w.cell? ⟨g, o, none⟩ = some v := by simp [World.cell?, h, hv]
theorem froz_blk {w : World} {g o : Nat} {C : Array Value} {t : TypeId} (h : w.heap[g]? = some (.cells C t (0, 0))) : w.frozen? ⟨g, o, none⟩ = false := by simp [World.frozen?, h]

theorem giveN_ok {bk : List Ad} {i : Nat} {lv : Lv} {s : Lb} (h : okS s) : okS (giveN bk i lv s) := by
  unfold giveN
  split
  · exact .inl rfl
  · next ho =>
    have hl := h.resolve_left ho
    split
    · exact .inr (madeL_lab hl)
    · split
      · exact .inl rfl
      · exact .inr (madeL_lab hl)

/-- Behind a level: the book given on, the name box written, the point's series longer by one. -/
theorem ES.give {w wr w' : World} {X o : Nat} {C : Array Value} {t : TypeId} {bv bv' : Value} {bk bk' : List Ad} {x : Sm} {sk : List Lb} {nk : Lb} (h : ES w wr X o C t bv bv' bk x sk nk) (hX : X < w.heap.size) (hbo : ∀ k, bv.ownBlock = some k → k < w.heap.size)
    (hp : BookPost wr X o (C.setIfInBounds o bv') t bv' bk' w') : ∃ bv2, ES w w' X o C t bv bv2 bk' x sk nk := by
  obtain ⟨bv2, h1, h2, h3⟩ := hp
  have hsz : w.heap.size + 3 < wr.heap.size := (Array.getElem?_eq_some_iff.1 h.b3).1
  have hno : ∀ b, w.heap.size ≤ b → b < w.heap.size + 4 → ¬ (b = X ∨ bv'.ownBlock = some b) := by
    intro b hb1 hb2 e
    rcases e with e | e
    · omega
    · rcases h.own with ho | ho
      · rw [ho] at e; have := hbo b e; omega
      · have := ho b e; omega
  refine ⟨bv2, ⟨by have := h1.blk; rwa [Array.setIfInBounds_setIfInBounds] at this, by have := h1.get; rwa [Array.setIfInBounds_setIfInBounds] at this, h1.own, h1.ne⟩, ?_, ?_, ?_, ?_, ?_⟩
  · refine h.fr.trans h2 (fun k e => ?_)
    rcases e with e | e
    · exact .inl (.inl e)
    · rcases h.own with ho | ho
      · rw [ho] at e; exact .inl (.inr e)
      · exact .inr (by have := ho k e; omega)
  · rcases h3 with h3 | h3
    · rcases h.own with ho | ho
      · exact .inl (h3.trans ho)
      · exact .inr fun k e => ho k (by rw [← h3]; exact e)
    · exact .inr fun k e => by have := h3 k e; omega
  · rw [h2.block _ (by omega) (hno _ (by omega) (by omega))]; exact h.b1
  · rw [h2.block _ (by omega) (hno _ (by omega) (by omega))]; exact h.b2
  · rw [h2.block _ (by omega) (hno _ (by omega) (by omega))]; exact h.b3
/-- A store into a box. -/
theorem ES.ownNe {w wr : World} {X o : Nat} {C : Array Value} {t : TypeId} {bv bv' : Value} {bk : List Ad} {x : Sm} {sk : List Lb} {nk : Lb} (h : ES w wr X o C t bv bv' bk x sk nk) (hbo : ∀ k, bv.ownBlock = some k → k < w.heap.size) {b : Nat} (hb1 : w.heap.size ≤ b) (hb2 : b < w.heap.size + 4) : bv'.ownBlock ≠ some b := by
  intro e
  rcases h.own with ho | ho
  · rw [ho] at e; have := hbo b e; omega
  · have := ho b e; omega
theorem ES.name {w wr : World} {X o : Nat} {C : Array Value} {t : TypeId} {bv bv' : Value} {bk : List Ad} {x : Sm} {sk : List Lb} {nk : Lb} (h : ES w wr X o C t bv bv' bk x sk nk) (hX : X < w.heap.size) (hbo : ∀ k, bv.ownBlock = some k → k < w.heap.size) (l : Lb) :
    ES w (((wr.setCell ⟨w.heap.size + 3, 0, none⟩ (.int .u8 l.a)).setCell ⟨w.heap.size + 3, 1, none⟩ (.int .u8 l.b)).setCell ⟨w.heap.size + 3, 2, none⟩ (.int .u8 l.c)) X o C t bv bv' bk x sk l := by
  have hne := h.ownNe hbo (b := w.heap.size + 3) (by omega) (by omega)
  have hh : ∀ k, k ≠ w.heap.size + 3 → (((wr.setCell ⟨w.heap.size + 3, 0, none⟩ (.int .u8 l.a)).setCell ⟨w.heap.size + 3, 1, none⟩ (.int .u8 l.b)).setCell ⟨w.heap.size + 3, 2, none⟩ (.int .u8 l.c)).heap[k]? = wr.heap[k]? := by
    intro k hk
    rw [Below.heap_setCell _ _ _ _ hk, Below.heap_setCell _ _ _ _ hk, Below.heap_setCell _ _ _ _ hk]
  refine ⟨⟨by rw [hh X (by omega)]; exact h.bok.blk, h.bok.get, owns_other (owns_other (owns_other h.bok.own hne) hne) hne, h.bok.ne⟩, ?_, h.own, by rw [hh _ (by omega)]; exact h.b1, by rw [hh _ (by omega)]; exact h.b2, ?_⟩
  · exact ((h.fr.setCell (.inr (by show w.heap.size ≤ w.heap.size + 3; omega)) _).setCell (.inr (by show w.heap.size ≤ w.heap.size + 3; omega)) _).setCell (.inr (by show w.heap.size ≤ w.heap.size + 3; omega)) _
  · exact heap_setCell (heap_setCell (heap_setCell h.b3))
theorem ES.ser {w wr : World} {X o : Nat} {C : Array Value} {t : TypeId} {bv bv' : Value} {bk : List Ad} {x : Sm} {sk : List Lb} {nk : Lb} (h : ES w wr X o C t bv bv' bk x sk nk) (hX : X < w.heap.size) (hbo : ∀ k, bv.ownBlock = some k → k < w.heap.size) (l : Lb) (hl : sk.length < 4) :
    ES w (((wr.setCell ⟨w.heap.size + 2, 2 + sk.length * 3, none⟩ (.int .u8 l.a)).setCell ⟨w.heap.size + 2, 2 + sk.length * 3 + 1, none⟩ (.int .u8 l.b)).setCell ⟨w.heap.size + 2, 2 + sk.length * 3 + 2, none⟩ (.int .u8 l.c)) X o C t bv bv' bk x (sk ++ [l]) nk := by
  have hne := h.ownNe hbo (b := w.heap.size + 2) (by omega) (by omega)
  have hh : ∀ k, k ≠ w.heap.size + 2 → (((wr.setCell ⟨w.heap.size + 2, 2 + sk.length * 3, none⟩ (.int .u8 l.a)).setCell ⟨w.heap.size + 2, 2 + sk.length * 3 + 1, none⟩ (.int .u8 l.b)).setCell ⟨w.heap.size + 2, 2 + sk.length * 3 + 2, none⟩ (.int .u8 l.c)).heap[k]? = wr.heap[k]? := by
    intro k hk
    rw [Below.heap_setCell _ _ _ _ hk, Below.heap_setCell _ _ _ _ hk, Below.heap_setCell _ _ _ _ hk]
  refine ⟨⟨by rw [hh X (by omega)]; exact h.bok.blk, h.bok.get, owns_other (owns_other (owns_other h.bok.own hne) hne) hne, h.bok.ne⟩, ?_, h.own, by rw [hh _ (by omega)]; exact h.b1, ?_, by rw [hh _ (by omega)]; exact h.b3⟩
  · exact ((h.fr.setCell (.inr (by show w.heap.size ≤ w.heap.size + 2; omega)) _).setCell (.inr (by show w.heap.size ≤ w.heap.size + 2; omega)) _).setCell (.inr (by show w.heap.size ≤ w.heap.size + 2; omega)) _
  · rw [← pt_set x sk l hl]
    exact heap_setCell (heap_setCell (heap_setCell h.b2))
theorem ES.drew {w wr : World} {X o : Nat} {C : Array Value} {t : TypeId} {bv bv' : Value} {bk : List Ad} {x : Sm} {sk : List Lb} {nk : Lb} (h : ES w wr X o C t bv bv' bk x sk nk) : ES w wr.drew X o C t bv bv' bk x sk nk :=
  ⟨⟨h.bok.blk, h.bok.get, h.bok.own, h.bok.ne⟩, h.fr.drew, h.own, h.b1, h.b2, h.b3⟩

/-- The book alone. -/
structure BP (w wr : World) (X o : Nat) (C : Array Value) (t : TypeId) (bv bv' : Value) (bk : List Ad) : Prop where
  bok : BookSt wr X o (C.setIfInBounds o bv') t bv' bk
  fr : Fr (fun k => k = X ∨ bv.ownBlock = some k) w wr
  own : bv'.ownBlock = bv.ownBlock ∨ ∀ k, bv'.ownBlock = some k → w.heap.size + 4 ≤ k
theorem BP.set {w wr : World} {X o : Nat} {C : Array Value} {t : TypeId} {bv bv' : Value} {bk : List Ad} (h : BP w wr X o C t bv bv' bk) (hX : X < w.heap.size) (hbo : ∀ k, bv.ownBlock = some k → k < w.heap.size) {j : Nat} {u : Value} : BP w (wr.setCell ⟨w.heap.size + 1, j, none⟩ u) X o C t bv bv' bk := by
  have hne : bv'.ownBlock ≠ some (w.heap.size + 1) := by
    intro e
    rcases h.own with ho | ho
    · rw [ho] at e; have := hbo _ e; omega
    · have := ho _ e; omega
  exact ⟨⟨by rw [Below.heap_setCell _ _ _ _ (by show X ≠ w.heap.size + 1; omega)]; exact h.bok.blk, h.bok.get, owns_other h.bok.own hne, h.bok.ne⟩, h.fr.setCell (.inr (by show w.heap.size ≤ w.heap.size + 1; omega)) _, h.own⟩
theorem BP.post {w wr : World} {X o : Nat} {C : Array Value} {t : TypeId} {bv bv' : Value} {bk : List Ad} (h : BP w wr X o C t bv bv' bk) : BookPost w X o C t bv bk wr :=
  ⟨bv', h.bok, h.fr, h.own.imp id fun h k e => by have := h k e; omega⟩

theorem drop_lv (lvs : List Lv) (k : Nat) (h : k < lvs.length) : lvs.drop k = lvG lvs k :: lvs.drop (k + 1) := by rw [lvG_get lvs k h]; exact List.drop_eq_getElem_cons h
abbrev eW (w : World) (x : Sm) : World := (((w.alloc (.cells (smC x) 76)).alloc (.cells zPt 127)).alloc (.cells (ptC ⟨x.time, x.value, []⟩) 127)).alloc (.cells (lbA x.lb) 42)
theorem eW_below (w : World) (x : Sm) : Below w.heap.size w (eW w x) := ((((Below.refl _ _).alloc (Nat.le_refl _) _).alloc (by simp) _).alloc (by simp; omega) _).alloc (by simp; omega) _
theorem eW_blocks (w : World) (x : Sm) : (eW w x).heap[w.heap.size + 1]? = some (.cells zPt 127 (0, 0)) ∧ (eW w x).heap[w.heap.size + 2]? = some (.cells (ptC ⟨x.time, x.value, []⟩) 127 (0, 0)) ∧ (eW w x).heap[w.heap.size + 3]? = some (.cells (lbA x.lb) 42 (0, 0)) := by
  refine ⟨?_, ?_, ?_⟩
  · have h := heap_alloc_new (w.alloc (.cells (smC x) 76)) (.cells zPt 127)
    rw [show (w.alloc (.cells (smC x) 76)).heap.size = w.heap.size + 1 by simp] at h
    rw [Below.heap_alloc _ _ _ (by simp), Below.heap_alloc _ _ _ (by simp)]; exact h
  · have h := heap_alloc_new ((w.alloc (.cells (smC x) 76)).alloc (.cells zPt 127)) (.cells (ptC ⟨x.time, x.value, []⟩) 127)
    rw [show ((w.alloc (.cells (smC x) 76)).alloc (.cells zPt 127)).heap.size = w.heap.size + 2 by simp] at h
    rw [Below.heap_alloc _ _ _ (by simp)]; exact h
  · have h := heap_alloc_new (((w.alloc (.cells (smC x) 76)).alloc (.cells zPt 127)).alloc (.cells (ptC ⟨x.time, x.value, []⟩) 127)) (.cells (lbA x.lb) 42)
    rw [show (((w.alloc (.cells (smC x) 76)).alloc (.cells zPt 127)).alloc (.cells (ptC ⟨x.time, x.value, []⟩) 127)).heap.size = w.heap.size + 3 by simp] at h
    exact h

set_option maxHeartbeats 4000000 in
set_option maxRecDepth 100000 in
theorem enter_any (X o : Nat) (C : Array Value) (t : TypeId) (bv : Value) (bk : List Ad) (b n cap : Nat) (lvs : List Lv) (x : Sm) (w : World) (H : BookSt w X o C t bv bk) (hn : bk.length ≤ 4000) (hlab : lab3 x.l0 x.l1 x.l2 = true)
    (hln : lvs.length = n) (hn4 : n ≤ 4) (hat : LvAt w b 0 lvs) (_hbs : b < w.heap.size) (hbX : b ≠ X) (hbv : bv.ownBlock ≠ some b) (hok : ∀ j, j < n → ruleB (lvG lvs j).rule = true ∧ (lvG lvs j).rule.size ≤ maxLen ∧ 1 ≤ (lvG lvs j).limit ∧ (lvG lvs j).limit ≤ 20) :
    Calls Tryz.prog 71 #[.pointer (some ⟨X, o, none⟩), .slice (some ⟨b, 0, none⟩) n cap, .agg (smC x)] w fun e w' => e = .returned (.agg (ptC ⟨x.time, x.value, entS lvs 0 bk x.lb⟩)) ∧ BookPost w X o C t bv (entB lvs 0 bk x.lb) w' := by
  have HB : Hid (BookSt w X o C t bv bk) := H
  have hX := H.lt
  have HBO : Hid (∀ k, bv.ownBlock = some k → k < w.heap.size) := fun k e => (HB.out.own.lt k e).2
  have HAT : Hid (LvAt w b 0 lvs) := hat
  have HOK : Hid (∀ j, j < n → ruleB (lvG lvs j).rule = true ∧ (lvG lvs j).rule.size ≤ maxLen ∧ 1 ≤ (lvG lvs j).limit ∧ (lvG lvs j).limit ≤ 20) := hok
  have HLN : Hid (lvs.length = n) := hln
  have HBV : Hid (bv.ownBlock ≠ some b) := hbv
  have HLAB : Hid (lab3 x.l0 x.l1 x.l2 = true) := hlab
  clear H hat hok hln hbv hlab
  go_enter Tryz.func71, Tryz.ntmps71
  go_wp2_with fail
  go_loopw [9] (fun i wr => ∃ (k : Nat) (bv' : Value) (bkk : List Ad) (sk : List Lb) (nk : Lb), i = .int .i64 k ∧ k ≤ n ∧ sk.length = k ∧ okS nk ∧ bkk.length ≤ 4000 + k ∧ entB (lvs.drop k) k bkk nk = entB lvs 0 bk x.lb ∧ sk ++ entS (lvs.drop k) k bkk nk = entS lvs 0 bk x.lb ∧ ES w wr X o C t bv bv' bkk x sk nk) (fun i _ => n - (intOf i).toNat)
  case atStart =>
    refine ⟨0, bv, bk, [], x.lb, rfl, Nat.zero_le _, rfl, .inr HLAB.out, by omega, rfl, rfl, ?_, ?_, .inl rfl, (eW_blocks w x).1, (eW_blocks w x).2.1, (eW_blocks w x).2.2⟩
    · rw [set_same HB.out.get]; exact HB.out.kept (eW_below w x)
    · exact Fr.of_below (eW_below w x)
  case round =>
    obtain ⟨k, bv', bkk, sk, nk, rfl, hk, hsk, hok, hbl, he1, he2, hes⟩ := hrel
    have HES : Hid (ES w wr X o C t bv bv' bkk x sk nk) := hes
    have HE1 : Hid (entB (lvs.drop k) k bkk nk = entB lvs 0 bk x.lb) := he1
    have HE2 : Hid (sk ++ entS (lvs.drop k) k bkk nk = entS lvs 0 bk x.lb) := he2
    have hs3 : w.heap.size + 3 < wr.heap.size := (Array.getElem?_eq_some_iff.1 hes.b3).1
    clear hes he1 he2
    by_cases hlt : k < n
    · have HD := drop_lv lvs k (by rw [HLN.out]; exact hlt)
      have HE1' : Hid (entB (lvs.drop (k + 1)) (k + 1) (giveB bkk k (lvG lvs k) nk) (giveN bkk k (lvG lvs k) nk) = entB lvs 0 bk x.lb) := by
        show _ = _; rw [← HE1.out, HD]; rfl
      have HE2' : Hid ((sk ++ [giveN bkk k (lvG lvs k) nk]) ++ entS (lvs.drop (k + 1)) (k + 1) (giveB bkk k (lvG lvs k) nk) (giveN bkk k (lvG lvs k) nk) = entS lvs 0 bk x.lb) := by
        show _ = _; rw [← HE2.out, HD, List.append_assoc]; rfl
      have HATr : LvAt wr b 0 lvs := lvAt_of (At.fr (at_of_lv HAT.out) HES.out.fr (fun e => by rcases e with e | e; exact hbX e; exact HBV.out e))
      obtain ⟨c0, c1, c2, c3⟩ := HATr k (by rw [HLN.out]; exact hlt)
      simp only [Nat.zero_add] at c0 c1 c2 c3
      obtain ⟨k1, k2, k3, k4⟩ := HOK.out k hlt
      have hbl2 := giveB_len bkk k (lvG lvs k) nk
      have HOKN : Hid (okS (giveN bkk k (lvG lvs k) nk)) := giveN_ok hok
      have n0 : wr.cell? ⟨w.heap.size + 3, 0, none⟩ = some (.int .u8 nk.a) := cell_blk HES.out.b3 rfl
      have n1 : wr.cell? ⟨w.heap.size + 3, 1, none⟩ = some (.int .u8 nk.b) := cell_blk HES.out.b3 rfl
      have n2 : wr.cell? ⟨w.heap.size + 3, 2, none⟩ = some (.int .u8 nk.c) := cell_blk HES.out.b3 rfl
      clear HATr HD
      generalize hLL : lvG lvs k = L at *
      have HESd : Hid (ES w wr.drew X o C t bv bv' bkk x sk nk) := HES.out.drew
      go_upto_region 6 with fail
      go_cut [34] from 17 to 34 (fun v wx => ∃ bv2, ES w wx X o C t bv bv2 (giveB bkk k L nk) x sk (giveN bkk k L nk))
      case first =>
        go_region_with (go_at_call 95; refine (give_any X o (C.setIfInBounds o bv') t bv' bkk k L nk _ HESd.out.bok (by omega) k1 k2 hok k3 k4 (by omega)).mono ?_; rintro e w' ⟨rfl, hpost⟩; obtain ⟨bv2, hes2⟩ := HESd.out.give hX HBO.out hpost; have y0 := cell_blk (o := 0) hes2.b3 rfl; have y1 := cell_blk (o := 1) hes2.b3 rfl; have y2 := cell_blk (o := 2) hes2.b3 rfl; have z0 := fun o => froz_blk (o := o) hes2.b3)
        all_goals go_wp2_with fail
        all_goals go_meet
        all_goals (case rel => exact ⟨bv2, hes2.name hX HBO.out _⟩)
      case rest =>
        obtain ⟨bv2, hes2⟩ := hcut
        have HES2 : Hid (ES w wc X o C t bv bv2 (giveB bkk k L nk) x sk (giveN bkk k L nk)) := hes2
        clear hes2 n0 n1 n2 c0 c1 c2 c3 HES HESd hok
        generalize giveN bkk k L nk = NK at *
        generalize giveB bkk k L nk = BK at *
        have n0 : wc.cell? ⟨w.heap.size + 3, 0, none⟩ = some (.int .u8 NK.a) := cell_blk HES2.out.b3 rfl
        have n1 : wc.cell? ⟨w.heap.size + 3, 1, none⟩ = some (.int .u8 NK.b) := cell_blk HES2.out.b3 rfl
        have n2 : wc.cell? ⟨w.heap.size + 3, 2, none⟩ = some (.int .u8 NK.c) := cell_blk HES2.out.b3 rfl
        obtain ⟨pa, pb, pc, q0, q1, q2⟩ := pt_cell x sk k (by omega)
        have x0 := cell_blk HES2.out.b2 q0
        have x1 := cell_blk HES2.out.b2 q1
        have x2 := cell_blk HES2.out.b2 q2
        have z := fun o => froz_blk (o := o) HES2.out.b2
        clear q0 q1 q2
        go_wp2_with fail
        subst hsk
        exact ⟨⟨sk.length + 1, bv2, BK, sk ++ [NK], NK, by go_num, by omega, by simp, HOKN.out, by omega, HE1'.out, HE2'.out, HES2.out.ser hX HBO.out NK (by omega)⟩, by simp [intOf]; omega⟩
    · have hkn : k = n := by omega
      have hdr : lvs.drop k = [] := List.drop_of_length_le (by rw [HLN.out]; omega)
      have HR1 : Hid (entB lvs 0 bk x.lb = bkk) := by show _ = _; rw [← HE1.out, hdr]; rfl
      have HR2 : Hid (entS lvs 0 bk x.lb = sk) := by show _ = _; rw [← HE2.out, hdr]; simp [entS]
      clear hdr
      obtain ⟨bb1, bb2⟩ := And.intro HES.out.b1 HES.out.b2
      have P := fun j v (h : (ptC ⟨x.time, x.value, sk⟩)[j]? = some v) => cell_blk HES.out.b2 h
      have p0 := P 0 _ rfl
      have p1 := P 1 _ rfl
      have p2 := P 2 _ rfl
      have p3 := P 3 _ rfl
      have p4 := P 4 _ rfl
      have p5 := P 5 _ rfl
      have p6 := P 6 _ rfl
      have p7 := P 7 _ rfl
      have p8 := P 8 _ rfl
      have p9 := P 9 _ rfl
      have p10 := P 10 _ rfl
      have p11 := P 11 _ rfl
      have p12 := P 12 _ rfl
      have p13 := P 13 _ rfl
      have R := fun j v (h : zPt[j]? = some v) => cell_blk HES.out.b1 h
      have r0 := R 0 _ rfl
      have r1 := R 1 _ rfl
      have r2 := R 2 _ rfl
      have r3 := R 3 _ rfl
      have r4 := R 4 _ rfl
      have r5 := R 5 _ rfl
      have r6 := R 6 _ rfl
      have r7 := R 7 _ rfl
      have r8 := R 8 _ rfl
      have r9 := R 9 _ rfl
      have r10 := R 10 _ rfl
      have r11 := R 11 _ rfl
      have r12 := R 12 _ rfl
      have r13 := R 13 _ rfl
      have z := fun o => froz_blk (o := o) HES.out.b1
      clear P R bb1 bb2
      go_wp2_with fail
      refine bodyPost_ret (v := .agg (ptC ⟨x.time, x.value, sk⟩)) (by simp [results, Tryz.results71, go_sem, r0, r1, r2, r3, r4, r5, r6, r7, r8, r9, r10, r11, r12, r13]) rfl ?_
      rw [HR1.out, HR2.out]
      refine ⟨rfl, BP.post (bv' := bv') ?_⟩
      refine BP.set ?_ hX HBO.out
      refine BP.set ?_ hX HBO.out
      refine BP.set ?_ hX HBO.out
      refine BP.set ?_ hX HBO.out
      refine BP.set ?_ hX HBO.out
      refine BP.set ?_ hX HBO.out
      refine BP.set ?_ hX HBO.out
      refine BP.set ?_ hX HBO.out
      refine BP.set ?_ hX HBO.out
      refine BP.set ?_ hX HBO.out
      refine BP.set ?_ hX HBO.out
      refine BP.set ?_ hX HBO.out
      refine BP.set ?_ hX HBO.out
      refine BP.set ?_ hX HBO.out
      exact ⟨HES.out.bok, HES.out.fr, HES.out.own⟩

end Go.Proofs.YthciddpljcbhiabGreatDoor

/- Walks: numbers as bytes, and the check. -/
namespace Go.Proofs.YthciddpljcbhiabGreatDoor
open Go.RowKit

theorem ret_str {a b : ByteArray} (h : a = b) : Ending.returned (.string a) = .returned (.string b) := by rw [h]
theorem ret_u32 {a b : Int} (h : a = b) : Ending.returned (.int .u32 a) = .returned (.int .u32 b) := by rw [h]

/-- A slice of bytes that lies in a new block, as a string. -/
theorem convNew (w : World) (xs : List Int) (n : Nat) (hn : n = xs.length) (cap : Nat) (C : Array Value) (hC : C = (xs.map (Value.int .u8)).toArray) (g : Nat) (hg : g = w.heap.size) :
    (convert 85 9 (.slice (some ⟨g, 0, none⟩) n cap)).run Tryz.prog (w.alloc (.cells C 5)) = .ok (.string (strOfNums xs)) (w.alloc (.cells C 5)) := by
  subst hC hg hn
  refine run_convert_bytes_arg (P := Tryz.prog) _ 85 5 Tryz.underlying85 Tryz.underlying5 _ 0 _ cap xs rfl (fun i hi => ?_) 9 Tryz.underlying9
  have := at_alloc_new w (xs.map (Value.int .u8)) 5 i (.int .u8 (xs.getD i 0)) (by simp [List.getD, hi])
  simpa using this

theorem conv4 (w : World) (a b c d : Int) : (convert 85 9 (.slice (some ⟨w.heap.size, 0, none⟩) 4 4)).run Tryz.prog (w.alloc (.cells #[.int .u8 a, .int .u8 b, .int .u8 c, .int .u8 d] 5)) =
    .ok (.string (strOfNums [a, b, c, d])) (w.alloc (.cells #[.int .u8 a, .int .u8 b, .int .u8 c, .int .u8 d] 5)) := convNew w [a, b, c, d] 4 rfl 4 _ rfl _ rfl
theorem conv3 (w : World) (a b c : Int) : (convert 85 9 (.slice (some ⟨w.heap.size, 0, none⟩) 3 3)).run Tryz.prog (w.alloc (.cells #[.int .u8 a, .int .u8 b, .int .u8 c] 5)) =
    .ok (.string (strOfNums [a, b, c])) (w.alloc (.cells #[.int .u8 a, .int .u8 b, .int .u8 c] 5)) := convNew w [a, b, c] 3 rfl 3 _ rfl _ rfl
theorem conv2 (w : World) (a b : Int) : (convert 85 9 (.slice (some ⟨w.heap.size, 0, none⟩) 2 2)).run Tryz.prog (w.alloc (.cells #[.int .u8 a, .int .u8 b] 5)) =
    .ok (.string (strOfNums [a, b])) (w.alloc (.cells #[.int .u8 a, .int .u8 b] 5)) := convNew w [a, b] 2 rfl 2 _ rfl _ rfl

set_option maxRecDepth 100000 in
theorem number_any (n : Int) (w : World) (h0 : 0 ≤ n) (h1 : n < 4294967296) :
    Calls Tryz.prog 69 #[.int .u32 n] w fun e w' => e = .returned (.string (strOfNums (lowN n 4))) ∧ ∃ o, w' = w.alloc o := by
  have hcv := conv4
  rw [low4_eq n h0 h1]
  go_enter Tryz.func69, Tryz.ntmps69
  go_wp2
  go_ret
  exact ⟨rfl, _, rfl⟩

theorem check_any (s : ByteArray) (w : World) (hs : s.size ≤ maxLen) :
    Calls Tryz.prog 68 #[.string s] w fun e w' => e = .returned (.int .u32 (chk (nums s))) ∧ w' = w := by
  unfold maxLen at hs
  go_enter Tryz.func68, Tryz.ntmps68
  go_wp2
  go_loop [3, 4] (fun h i => ∃ k : Nat, k ≤ s.size ∧ i = .int .i64 k ∧ h = .int .u32 (chk ((nums s).take k))) (fun _ i => s.size - (intOf i).toNat)
  case atStart => exact ⟨0, Nat.zero_le _, rfl, rfl⟩
  case round =>
    obtain ⟨k, hk, rfl, rfl⟩ := hrel
    obtain ⟨hq0, hq1⟩ := chk_range ((nums s).take k)
    by_cases hlt : k < s.size
    · have HB : Hid (((s[k].toNat : Nat) : Int) = byt s k) := byt_eq s k hlt
      have HT : Hid (chk ((nums s).take (k + 1)) = chkS (chk ((nums s).take k)) (byt s k)) := by rw [nums_take s k hlt]; exact chk_snoc _ _
      go_wp2
      refine ⟨⟨k + 1, by omega, by go_num, ?_⟩, by simp [intOf]; omega⟩
      rw [HT.out, ← HB.out]
      unfold chkS
      have e : ∀ x y : Int, x = y → Value.int IntKind.u32 x = .int .u32 y := fun x y h => by rw [h]
      apply e
      omega
    · go_wp2
      go_ret
      exact ⟨ret_u32 (by rw [List.take_of_length_le (by rw [nums_len]; omega)]), rfl⟩

end Go.Proofs.YthciddpljcbhiabGreatDoor

/- Walks: when a batch is right, by the program and by the document's answer. -/
namespace Go.Proofs.YthciddpljcbhiabGreatDoor
open Go.RowKit

abbrev smO (x : Sm) : Obj := .cells #[.int .i64 x.time, .int .u8 x.l0, .int .u8 x.l1, .int .u8 x.l2, .int .i32 x.value] 76
abbrev smV (x : Sm) : Value := .agg #[.int .i64 x.time, .int .u8 x.l0, .int .u8 x.l1, .int .u8 x.l2, .int .i32 x.value]

theorem smRight_any (x : Sm) (w : World) :
    Calls Tryz.prog 90 #[smV x] w fun e w' => e = .returned (.bool (smOk x)) ∧ Below w.heap.size w w' := by
  have HI : Hid (smOk x = true ↔ 0 ≤ x.time ∧ x.time ≤ 100000 ∧ lab3 x.l0 x.l1 x.l2 = true) := smOk_iff x
  by_cases h : 0 ≤ x.time ∧ x.time ≤ 100000
  · obtain ⟨h0, h1⟩ := h
    go_enter Tryz.func90, Tryz.ntmps90
    go_wp2_with (go_at_call 87; refine (labRight_any _ _ _ _).mono ?_; rintro e w' ⟨rfl, rfl⟩)
    go_ret
    refine ⟨ret_bool ?_, by go_grown⟩
    rw [Bool.eq_iff_iff, HI.out]; simp [h0, h1]
  · have hf : smOk x = false := no_of (by rw [HI.out]; omega)
    rw [hf]
    clear hf
    go_enter Tryz.func90, Tryz.ntmps90
    by_cases h0 : 0 ≤ x.time
    · have h1 : 100000 < x.time := by omega
      go_wp2
      go_ret
      exact ⟨rfl, by go_grown⟩
    · go_wp2
      go_ret
      exact ⟨rfl, by go_grown⟩

theorem ret_i64' {a b : Int} (h : a = b) : Ending.returned (.int .i64 a) = .returned (.int .i64 b) := by rw [h]

def errS (b : Bool) : Int := if b then 0 else 5
theorem batE_no {ls : List Sm} (h : ¬ (1 ≤ ls.length ∧ ls.length ≤ 8)) : batE ls = 4 := by simp [batE, h]
theorem batE_yes {ls : List Sm} (h : 1 ≤ ls.length ∧ ls.length ≤ 8) : batE ls = errS (smsOk ls) := by simp [batE, h, errS]

set_option maxHeartbeats 400000 in
theorem checkBatch_any (a : Option Addr) (n cap : Nat) (ls : List Sm) (w : World) (h : IsSms w a n ls) :
    Calls Tryz.prog 63 #[.slice a n cap] w fun e w' => e = .returned (.int .i64 (batE ls)) ∧ Below w.heap.size w w' := by
  obtain ⟨hn, hx⟩ := h
  by_cases hb : 1 ≤ n ∧ n ≤ 8
  · obtain ⟨b, off, rfl, hat⟩ := hx (by omega)
    rw [batE_yes (by rw [hn]; exact hb)]
    obtain ⟨hb1, hb2⟩ := hb
    have hb0 : b < w.heap.size := hat.block (by omega)
    have HAT : Hid (SmAt w b off ls) := hat
    have HN : Hid (ls.length = n) := hn
    clear hat hn hx
    go_enter Tryz.func63, Tryz.ntmps63
    go_wp2
    go_loopw [3] (fun i wr => ∃ k : Nat, k ≤ n ∧ i = .int .i64 k ∧ Below w.heap.size w wr ∧ ∀ j, j < k → smOk (smG ls j) = true) (fun i _ => n - (intOf i).toNat)
    case atStart => exact ⟨0, Nat.zero_le _, rfl, Below.refl _ _, fun j hj => by omega⟩
    case round =>
      obtain ⟨k, hk, rfl, hbel, hall⟩ := hrel
      have HA : Hid (∀ j, j < k → smOk (smG ls j) = true) := hall
      clear hall
      by_cases hlt : k < n
      · obtain ⟨c0, c1, c2, c3, c4⟩ := (HAT.out.below hbel hb0) k (by rw [HN.out]; exact hlt)
        have hsz := hbel.size
        go_wp2_with fail
        refine (smRight_any (smG ls k) _).mono ?_
        rintro e w1 ⟨rfl, hb1⟩
        have hbw : Below w.heap.size w w1 := hbel.trans (hb1.mono hsz)
        cases hR : smOk (smG ls k)
        · have HR : Hid (smOk (smG ls k) = false) := hR
          go_wp2
          go_ret
          exact ⟨ret_i64' (by rw [show smsOk ls = false from all_false k (by rw [HN.out]; exact hlt) HR.out]; rfl), hbw⟩
        · have HR : Hid (smOk (smG ls k) = true) := hR
          go_wp2
          exact ⟨⟨k + 1, by omega, by go_num, hbw, upto_succ HA.out HR.out⟩, by simp [intOf]; omega⟩
      · go_wp2
        go_ret
        exact ⟨ret_i64' (by rw [show smsOk ls = true from all_true (fun j hj => HA.out j (by have := HN.out; omega))]; rfl), hbel⟩
  · rw [batE_no (by rw [hn]; exact hb)]
    clear hx
    by_cases h1 : (n : Int) < 1
    · go_enter Tryz.func63, Tryz.ntmps63
      go_wp2
      go_ret
      exact ⟨rfl, Below.refl _ _⟩
    · have h2 : 8 < (n : Int) := by omega
      go_enter Tryz.func63, Tryz.ntmps63
      go_wp2
      go_ret
      exact ⟨rfl, Below.refl _ _⟩

set_option maxHeartbeats 400000 in
theorem rightBatch_any (a : Option Addr) (n cap : Nat) (ls : List Sm) (w : World) (h : IsSms w a n ls) :
    Calls Tryz.prog 65 #[.slice a n cap] w fun e w' => e = .returned (.int .i64 (batE ls)) ∧ Below w.heap.size w w' := by
  obtain ⟨hn, hx⟩ := h
  by_cases hb : 1 ≤ n ∧ n ≤ 8
  · obtain ⟨b, off, rfl, hat⟩ := hx (by omega)
    rw [batE_yes (by rw [hn]; exact hb)]
    obtain ⟨hb1, hb2⟩ := hb
    have hb0 : b < w.heap.size := hat.block (by omega)
    have HAT : Hid (SmAt w b off ls) := hat
    have HN : Hid (ls.length = n) := hn
    clear hat hn hx
    go_enter Tryz.func65, Tryz.ntmps65
    go_wp2
    go_loopw [3] (fun i wr => ∃ k : Nat, k ≤ n ∧ i = .int .i64 k ∧ Below w.heap.size w wr ∧ ∀ j, j < k → smOk (smG ls j) = true) (fun i _ => n - (intOf i).toNat)
    case atStart => exact ⟨0, Nat.zero_le _, rfl, Below.refl _ _, fun j hj => by omega⟩
    case round =>
      obtain ⟨k, hk, rfl, hbel, hall⟩ := hrel
      have HA : Hid (∀ j, j < k → smOk (smG ls j) = true) := hall
      clear hall
      by_cases hlt : k < n
      · obtain ⟨c0, c1, c2, c3, c4⟩ := (HAT.out.below hbel hb0) k (by rw [HN.out]; exact hlt)
        have hsz := hbel.size
        have hbr : b < wr.heap.size := by omega
        have hne : b ≠ wr.heap.size := by omega
        go_wp2_with fail
        refine (isLabels_any _ _ _ _).mono ?_
        rintro e w1 ⟨rfl, rfl⟩
        have hbw : Below w.heap.size w (wr.alloc (.cells #[.int .u8 (smG ls k).l0, .int .u8 (smG ls k).l1, .int .u8 (smG ls k).l2] 42)) := hbel.alloc hsz _
        have HI : Hid (smOk (smG ls k) = true ↔ 0 ≤ (smG ls k).time ∧ (smG ls k).time ≤ 100000 ∧ lab3 (smG ls k).l0 (smG ls k).l1 (smG ls k).l2 = true) := smOk_iff _
        generalize hX : smG ls k = X at *
        have HX : Hid (smG ls k = X) := hX
        clear hX
        cases hR : lab3 X.l0 X.l1 X.l2
        · have HR : Hid (smOk X = false) := no_of (by rw [HI.out]; simp [hR])
          go_wp2
          go_ret
          exact ⟨ret_i64' (by rw [show smsOk ls = false from all_false k (by rw [HN.out]; exact hlt) (HX.out ▸ HR.out)]; rfl), hbw⟩
        · go_wp2
          all_goals first
            | (have HR : smOk X = true := by (rw [HI.out]; refine ⟨?_, ?_, hR⟩ <;> omega)
               exact ⟨⟨k + 1, by omega, by go_num, hbw, upto_succ HA.out (HX.out ▸ HR)⟩, by simp [intOf]; omega⟩)
            | (have HR : smOk X = false := by (apply no_of; rw [HI.out]; omega)
               go_ret
               exact ⟨ret_i64' (by rw [show smsOk ls = false from all_false k (by rw [HN.out]; exact hlt) (HX.out ▸ HR)]; rfl), hbw⟩)
      · go_wp2
        go_ret
        exact ⟨ret_i64' (by rw [show smsOk ls = true from all_true (fun j hj => HA.out j (by have := HN.out; omega))]; rfl), hbel⟩
  · rw [batE_no (by rw [hn]; exact hb)]
    clear hx
    by_cases h1 : (n : Int) < 1
    · go_enter Tryz.func65, Tryz.ntmps65
      go_wp2
      go_ret
      exact ⟨rfl, Below.refl _ _⟩
    · have h2 : 8 < (n : Int) := by omega
      go_enter Tryz.func65, Tryz.ntmps65
      go_wp2
      go_ret
      exact ⟨rfl, Below.refl _ _⟩

end Go.Proofs.YthciddpljcbhiabGreatDoor

/- Walks: numbers and labels made right (pick, labels of garnerkeep). -/
namespace Go.Proofs.YthciddpljcbhiabGreatDoor
open Go.RowKit

theorem lbB_lab (b : Int) : labB (lbB b) = true := by
  unfold lbB
  have h0 : 0 ≤ b % 27 := by omega
  have h1 : b % 27 < 27 := by omega
  split
  · rfl
  · simp [labB, letB]; omega

theorem lb_fin : ∀ r : Fin 27, ((((⟨#[97, 98, 99, 100, 101, 102, 103, 104, 105, 106, 107, 108, 109, 110, 111, 112, 113, 114, 115, 116, 117, 118, 119, 120, 121, 122, 45]⟩ : ByteArray)[r.val]'(show r.val < 27 from r.isLt)).toNat : Nat) : Int) = if r.val = 26 then 45 else 97 + (r.val : Int) := by decide
theorem lb_get (b : Int) (h : (b % 27).toNat < (⟨#[97, 98, 99, 100, 101, 102, 103, 104, 105, 106, 107, 108, 109, 110, 111, 112, 113, 114, 115, 116, 117, 118, 119, 120, 121, 122, 45]⟩ : ByteArray).size) : ((((⟨#[97, 98, 99, 100, 101, 102, 103, 104, 105, 106, 107, 108, 109, 110, 111, 112, 113, 114, 115, 116, 117, 118, 119, 120, 121, 122, 45]⟩ : ByteArray)[(b % 27).toNat]'h).toNat : Nat) : Int) = lbB b := by
  have h' : (b % 27).toNat < 27 := by omega
  have := lb_fin ⟨(b % 27).toNat, h'⟩
  simp only at this
  refine this.trans ?_
  unfold lbB
  by_cases e : b % 27 = 26
  · rw [if_pos (by omega), if_pos e]
  · rw [if_neg (by omega), if_neg e]; omega
theorem wEqL {w : World} {o : Obj} {a b c a' b' c' : Int} (h : a = a') (h1 : b = b') (h2 : c = c') : (w.alloc (.cells #[.int .u8 a, .int .u8 b, .int .u8 c] 42)).alloc o = (w.alloc (.cells #[.int .u8 a', .int .u8 b', .int .u8 c'] 42)).alloc o := by rw [h, h1, h2]

end Go.Proofs.YthciddpljcbhiabGreatDoor
