/- Walks: Project, of the program and of the document's answer. -/
import Derived.Test.YthciddpljcbhiaaLab
namespace Go.Proofs.Ythciddpljcbhiaa
open Go.RowKit

abbrev c3 (a b c : Int) : Obj := .cells #[.int .u8 a, .int .u8 b, .int .u8 c] 26

theorem wEq3 {w : World} {o : Obj} {a b c a' b' c' : Int} (h : a = a') (h1 : b = b') (h2 : c = c') : (w.alloc (c3 a b c)).alloc o = (w.alloc (c3 a' b' c')).alloc o := by rw [h, h1, h2]
theorem lab_or {a : Int} (h : labB a = true) : a = 45 ∨ (97 ≤ a ∧ a ≤ 122) := by simpa [labB, letB] using h

set_option maxHeartbeats 400000 in
theorem made_any (s : ByteArray) (a b c : Int) (w : World) (h3 : s.size = 3) (hl : lab3 a b c = true) :
    Calls Try.prog 54 #[.string s, .agg #[.int .u8 a, .int .u8 b, .int .u8 c]] w fun e w' =>
      e = .returned (.agg #[.int .u8 (prjB (byt s 0) a), .int .u8 (prjB (byt s 1) b), .int .u8 (prjB (byt s 2) c)]) ∧
      w' = (w.alloc (c3 (prjB (byt s 0) a) (prjB (byt s 1) b) (prjB (byt s 2) c))).alloc (c3 (prjB (byt s 0) a) (prjB (byt s 1) b) (prjB (byt s 2) c)) := by
  simp [lab3] at hl
  have LA : Hid (a = 45 ∨ (97 ≤ a ∧ a ≤ 122)) := lab_or hl.1.1
  have LB : Hid (b = 45 ∨ (97 ≤ b ∧ b ≤ 122)) := lab_or hl.1.2
  have LC : Hid (c = 45 ∨ (97 ≤ c ∧ c ≤ 122)) := lab_or hl.2
  clear hl
  go_enter Try.func54, Try.ntmps54
  go_wp2
  go_loopw [5] (fun i wr => (i = .int .i64 0 ∧ wr = (w.alloc (c3 a b c)).alloc (c3 0 0 0)) ∨ (i = .int .i64 1 ∧ wr = (w.alloc (c3 (prjB (byt s 0) a) b c)).alloc (c3 0 0 0))
     ∨ (i = .int .i64 2 ∧ wr = (w.alloc (c3 (prjB (byt s 0) a) (prjB (byt s 1) b) c)).alloc (c3 0 0 0)) ∨ (i = .int .i64 3 ∧ wr = (w.alloc (c3 (prjB (byt s 0) a) (prjB (byt s 1) b) (prjB (byt s 2) c))).alloc (c3 0 0 0))) (fun i _ => 3 - (intOf i).toNat)
  case atStart => exact Or.inl ⟨rfl, rfl⟩
  case round =>
    have HB0 : Hid (((s[0].toNat : Nat) : Int) = byt s 0) := byt_eq s 0 (by omega)
    have HB1 : Hid (((s[1].toNat : Nat) : Int) = byt s 1) := byt_eq s 1 (by omega)
    have HB2 : Hid (((s[2].toNat : Nat) : Int) = byt s 2) := byt_eq s 2 (by omega)
    rcases hrel with ⟨rfl, rfl⟩ | ⟨rfl, rfl⟩ | ⟨rfl, rfl⟩ | ⟨rfl, rfl⟩
    · go_wp2
      all_goals refine ⟨Or.inr (Or.inl ⟨rfl, wEq3 ?_ rfl rfl⟩), by simp [intOf]⟩
      all_goals (have h := LA.out; rw [← HB0.out]; clear HB0 HB1 HB2 LA LB LC; simp only [prjB, grpB]; simp at *; omega)
    · go_wp2
      all_goals refine ⟨Or.inr (Or.inr (Or.inl ⟨rfl, wEq3 rfl ?_ rfl⟩)), by simp [intOf]⟩
      all_goals (have h := LB.out; rw [← HB1.out]; clear HB0 HB1 HB2 LA LB LC; simp only [prjB, grpB]; simp at *; omega)
    · go_wp2
      all_goals refine ⟨Or.inr (Or.inr (Or.inr ⟨rfl, wEq3 rfl rfl ?_⟩)), by simp [intOf]⟩
      all_goals (have h := LC.out; rw [← HB2.out]; clear HB0 HB1 HB2 LA LB LC; simp only [prjB, grpB]; simp at *; omega)
    · go_wp2
      go_returns
      exact ⟨rfl, rfl⟩

theorem bcell {W w1 : World} (hb : Below W.heap.size W w1) : (∀ b o, b < W.heap.size → w1.cell? ⟨b, o, none⟩ = W.cell? ⟨b, o, none⟩) ∧ (∀ b o, b < W.heap.size → w1.frozen? ⟨b, o, none⟩ = W.frozen? ⟨b, o, none⟩) :=
  ⟨fun b o h => hb.cell (p := ⟨b, o, none⟩) h, fun b o h => hb.frozen (p := ⟨b, o, none⟩) h⟩

def prV (s : ByteArray) (a b c : Int) : Value := .tuple #[.agg #[.int .u8 (prX s a b c 0), .int .u8 (prX s a b c 1), .int .u8 (prX s a b c 2)], .int .i64 (prE s a b c)]
theorem prV_rule {s : ByteArray} {a b c : Int} (h : ruleB s = false) : prV s a b c = .tuple #[.agg #[.int .u8 0, .int .u8 0, .int .u8 0], .int .i64 3] := by simp [prV, prX, prE, h]
theorem prV_lab {s : ByteArray} {a b c : Int} (h : ruleB s = true) (h' : lab3 a b c = false) : prV s a b c = .tuple #[.agg #[.int .u8 0, .int .u8 0, .int .u8 0], .int .i64 2] := by simp [prV, prX, prE, h, h']
theorem prV_ok {s : ByteArray} {a b c : Int} (h : ruleB s = true) (h' : lab3 a b c = true) : prV s a b c = .tuple #[.agg #[.int .u8 (prjB (byt s 0) a), .int .u8 (prjB (byt s 1) b), .int .u8 (prjB (byt s 2) c)], .int .i64 0] := by
  simp [prV, prX, prE, h, h', tri]

set_option maxHeartbeats 400000 in
theorem refProject_any (s : ByteArray) (a b c : Int) (w : World) (hs : s.size ≤ maxLen) :
    Calls Try.prog 34 #[.string s, .agg #[.int .u8 a, .int .u8 b, .int .u8 c]] w fun e w' => e = .returned (prV s a b c) ∧ Below w.heap.size w w' := by
  cases hr : ruleB s
  · rw [prV_rule hr]
    go_enter Try.func34, Try.ntmps34
    go_wp2_with (go_at_call 52; refine (isRule_any _ hs _).mono ?_; rintro e w' ⟨rfl, rfl⟩)
    go_returns
    exact ⟨rfl, by go_grown⟩
  · cases hl : lab3 a b c
    · rw [prV_lab hr hl]
      go_enter Try.func34, Try.ntmps34
      go_wp2_with (first | (go_at_call 52; refine (isRule_any _ hs _).mono ?_; rintro e w' ⟨rfl, rfl⟩) | (go_at_call 53; refine (isLabels_any _ _ _ _).mono ?_; rintro e w' ⟨rfl, rfl⟩))
      go_returns
      exact ⟨rfl, by go_grown⟩
    · rw [prV_ok hr hl]
      have h3 : s.size = 3 := by simp [ruleB] at hr; exact hr.1.1.1
      go_enter Try.func34, Try.ntmps34
      go_wp2_with (first | (go_at_call 52; refine (isRule_any _ hs _).mono ?_; rintro e w' ⟨rfl, rfl⟩) | (go_at_call 53; refine (isLabels_any _ _ _ _).mono ?_; rintro e w' ⟨rfl, rfl⟩) | (go_at_call 54; refine (made_any _ _ _ _ _ h3 hl).mono ?_; rintro e w' ⟨rfl, rfl⟩))
      go_returns
      exact ⟨rfl, by go_grown⟩

theorem setc3_0 (X : World) (n : Nat) (x y z v : Int) {m : Nat} (hm : m = X.heap.size) : ((X.alloc (c3 x y z)).drewN n).setCell ⟨m, 0, none⟩ (.int .u8 v) = (X.alloc (c3 v y z)).drewN n := by
  subst hm
  show ((X.alloc (c3 x y z)).setCell ⟨X.heap.size, 0, none⟩ (.int .u8 v)).drewN n = _
  rw [World.setCell_alloc_at _ _ _ _ _ rfl]; rfl
theorem setc3_1 (X : World) (n : Nat) (x y z v : Int) {m : Nat} (hm : m = X.heap.size) : ((X.alloc (c3 x y z)).drewN n).setCell ⟨m, 1, none⟩ (.int .u8 v) = (X.alloc (c3 x v z)).drewN n := by
  subst hm
  show ((X.alloc (c3 x y z)).setCell ⟨X.heap.size, 1, none⟩ (.int .u8 v)).drewN n = _
  rw [World.setCell_alloc_at _ _ _ _ _ rfl]; rfl
theorem setc3_2 (X : World) (n : Nat) (x y z v : Int) {m : Nat} (hm : m = X.heap.size) : ((X.alloc (c3 x y z)).drewN n).setCell ⟨m, 2, none⟩ (.int .u8 v) = (X.alloc (c3 x y v)).drewN n := by
  subst hm
  show ((X.alloc (c3 x y z)).setCell ⟨X.heap.size, 2, none⟩ (.int .u8 v)).drewN n = _
  rw [World.setCell_alloc_at _ _ _ _ _ rfl]; rfl
/-- What a call leaves of two boxes of its caller's. -/
theorem two3 {w w1 : World} {x y z x' y' z' : Int} (hb : Below ((w.alloc (c3 x y z)).alloc (c3 x' y' z')).heap.size ((w.alloc (c3 x y z)).alloc (c3 x' y' z')) w1) :
    w.heap.size + 1 < w1.heap.size ∧ w1.cell? ⟨w.heap.size, 0, none⟩ = some (.int .u8 x) ∧ w1.cell? ⟨w.heap.size, 1, none⟩ = some (.int .u8 y) ∧ w1.cell? ⟨w.heap.size, 2, none⟩ = some (.int .u8 z) ∧
    w1.cell? ⟨w.heap.size + 1, 0, none⟩ = some (.int .u8 x') ∧ w1.cell? ⟨w.heap.size + 1, 1, none⟩ = some (.int .u8 y') ∧ w1.cell? ⟨w.heap.size + 1, 2, none⟩ = some (.int .u8 z') ∧
    w1.frozen? ⟨w.heap.size + 1, 0, none⟩ = false ∧ w1.frozen? ⟨w.heap.size + 1, 1, none⟩ = false ∧ w1.frozen? ⟨w.heap.size + 1, 2, none⟩ = false := by
  obtain ⟨hc, hf⟩ := bcell hb
  have hz := hb.size
  simp only [World.size_alloc] at hz hc hf
  refine ⟨by omega, ?_, ?_, ?_, ?_, ?_, ?_, ?_, ?_, ?_⟩
  all_goals first | rw [hc _ _ (by omega)] | rw [hf _ _ (by omega)]
  all_goals simp [go_sem]

set_option maxHeartbeats 1000000 in
theorem labProject_any (s : ByteArray) (a b c : Int) (w : World) (hs : s.size ≤ maxLen) :
    Calls Try.prog 51 #[.string s, .agg #[.int .u8 a, .int .u8 b, .int .u8 c]] w fun e w' => e = .returned (prV s a b c) ∧ Below w.heap.size w w' := by
  cases hr : ruleB s
  · rw [prV_rule hr]
    go_enter Try.func51, Try.ntmps51
    go_wp2_with (go_at_call 80; refine (rightRule_any _ hs _).mono ?_; rintro e w' ⟨rfl, rfl⟩)
    go_returns
    exact ⟨rfl, by go_grown⟩
  · cases hl : lab3 a b c
    · rw [prV_lab hr hl]
      go_enter Try.func51, Try.ntmps51
      go_wp2_with (first | (go_at_call 80; refine (rightRule_any _ hs _).mono ?_; rintro e w' ⟨rfl, rfl⟩) | (go_at_call 81; refine (labRight_any _ _ _ _).mono ?_; rintro e w' ⟨rfl, rfl⟩))
      go_returns
      exact ⟨rfl, by go_grown⟩
    · rw [prV_ok hr hl]
      have h3 : s.size = 3 := by simp [ruleB] at hr; exact hr.1.1.1
      go_enter Try.func51, Try.ntmps51
      go_wp2_with (first | (go_at_call 80; refine (rightRule_any _ hs _).mono ?_; rintro e w' ⟨rfl, rfl⟩) | (go_at_call 81; refine (labRight_any _ _ _ _).mono ?_; rintro e w' ⟨rfl, rfl⟩))
      go_loopw [7] (fun i wr => (i = .int .i64 0 ∧ ∃ n, wr = ((((w.alloc (c3 a b c)).alloc (c3 0 0 0)).alloc (c3 a b c)).alloc (c3 0 0 0)).drewN n)
        ∨ (i = .int .i64 1 ∧ ∃ n, wr = ((((w.alloc (c3 a b c)).alloc (c3 0 0 0)).alloc (c3 a b c)).alloc (c3 (prjB (byt s 0) a) 0 0)).drewN n)
        ∨ (i = .int .i64 2 ∧ ∃ n, wr = ((((w.alloc (c3 a b c)).alloc (c3 0 0 0)).alloc (c3 a b c)).alloc (c3 (prjB (byt s 0) a) (prjB (byt s 1) b) 0)).drewN n)
        ∨ (i = .int .i64 3 ∧ ∃ n, wr = ((((w.alloc (c3 a b c)).alloc (c3 0 0 0)).alloc (c3 a b c)).alloc (c3 (prjB (byt s 0) a) (prjB (byt s 1) b) (prjB (byt s 2) c))).drewN n)) (fun i _ => 3 - (intOf i).toNat)
      case atStart => exact Or.inl ⟨rfl, 0, rfl⟩
      case round =>
        have HB0 : Hid (((s[0].toNat : Nat) : Int) = byt s 0) := byt_eq s 0 (by omega)
        have HB1 : Hid (((s[1].toNat : Nat) : Int) = byt s 1) := byt_eq s 1 (by omega)
        have HB2 : Hid (((s[2].toNat : Nat) : Int) = byt s 2) := byt_eq s 2 (by omega)
        rcases hrel with ⟨rfl, n, rfl⟩ | ⟨rfl, n, rfl⟩ | ⟨rfl, n, rfl⟩ | ⟨rfl, n, rfl⟩
        · go_wp2
          go_region_with (go_at_call 82; refine (projectByte_any _ _ _).mono ?_; rintro e w' ⟨rfl, rfl⟩)
          all_goals go_wp2
          all_goals rw [HB0.out]
          all_goals exact ⟨Or.inr (Or.inl ⟨rfl, _, setc3_0 (((w.alloc (c3 a b c)).alloc (c3 0 0 0)).alloc (c3 a b c)) _ _ _ _ _ (by simp)⟩), by simp [intOf]⟩
        · go_wp2
          go_region_with (go_at_call 82; refine (projectByte_any _ _ _).mono ?_; rintro e w' ⟨rfl, rfl⟩)
          all_goals go_wp2
          all_goals rw [HB1.out]
          all_goals exact ⟨Or.inr (Or.inr (Or.inl ⟨rfl, _, setc3_1 (((w.alloc (c3 a b c)).alloc (c3 0 0 0)).alloc (c3 a b c)) _ _ _ _ _ (by simp)⟩)), by simp [intOf]⟩
        · go_wp2
          go_region_with (go_at_call 82; refine (projectByte_any _ _ _).mono ?_; rintro e w' ⟨rfl, rfl⟩)
          all_goals go_wp2
          all_goals rw [HB2.out]
          all_goals exact ⟨Or.inr (Or.inr (Or.inr ⟨rfl, _, setc3_2 (((w.alloc (c3 a b c)).alloc (c3 0 0 0)).alloc (c3 a b c)) _ _ _ _ _ (by simp)⟩)), by simp [intOf]⟩
        · go_wp2
          go_returns
          refine ⟨rfl, Below.setCell (Below.setCell (Below.setCell (below_drewN ?_ n) ?_ _) ?_ _) ?_ _⟩
          · go_grown
          all_goals (show w.heap.size ≤ w.heap.size + 1; omega)

theorem garProject_any (s : ByteArray) (a b c : Int) (w : World) (hs : s.size ≤ maxLen) :
    Calls Try.prog 33 #[.string s, .agg #[.int .u8 a, .int .u8 b, .int .u8 c]] w fun e w' => e = .returned (prV s a b c) ∧ Below w.heap.size w w' := by
  go_enter Try.func33, Try.ntmps33
  go_wp2_with fail
  refine (labProject_any _ _ _ _ _ hs).mono ?_
  rintro e w1 ⟨rfl, hb⟩
  obtain ⟨hz, q1, q2, q3, q4, q5, q6, q7, q8, q9⟩ := two3 hb
  unfold prV
  go_wp2
  refine bodyPost_ret (v := prV s a b c) (by simp [prV, results, Try.results33, go_sem, q4, q5, q6]) rfl ⟨rfl, Below.setCell (Below.setCell (Below.setCell (Below.trans (b := (w.alloc (c3 a b c)).alloc (c3 0 0 0)) ?_ (hb.mono ?_)) ?_ _) ?_ _) ?_ _⟩
  · go_grown
  · simp; omega
  all_goals (show w.heap.size ≤ w.heap.size + 1; omega)

end Go.Proofs.Ythciddpljcbhiaa
