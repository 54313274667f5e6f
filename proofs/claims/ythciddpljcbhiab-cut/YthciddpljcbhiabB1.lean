/- Texts of one claim put together: Lab, Prj, Blk, Qry, Eq, Row, Ins, Add. -/
import Derived.Test.YthciddpljcbhiabProg
import Derived.Test.YthciddpljcbhiabA
import Derived.WalkKit
import Derived.WalkSpells
import Derived.WalkLawsBesides
import Derived.Handy
import Derived.Deep.RegionWith
import Derived.BigRegion
import Derived.Deep.Draws
import Derived.Deep.QuietTactic
import Derived.BigQuiet
import Derived.Laws.StructEq
import Derived.Deep.Cut
import Derived.Deep.CutRange

/- Walks: letters, rules and labels, of the program and of the document's answer. -/
namespace Go.Proofs.Ythciddpljcbhiab
open Go.RowKit

theorem isLetter_any (a : Int) (w : World) :
    Calls Try.prog 83 #[.int .u8 a] w fun e w' => e = .returned (.bool (letB a)) ∧ w' = w := by
  go_enter Try.func83, Try.ntmps83
  go_wp2
  all_goals go_ret
  all_goals exact ⟨by simp [letB, *]; try omega, rfl⟩

theorem ret_bool {a b : Bool} (h : a = b) : Ending.returned (.bool a) = .returned (.bool b) := by rw [h]

theorem rightRule_any (s : ByteArray) (_hs : s.size ≤ maxLen) (w : World) :
    Calls Try.prog 48 #[.string s] w fun e w' => e = .returned (.bool (ruleB s)) ∧ w' = w := by
  unfold maxLen at _hs
  by_cases h3 : s.size = 3
  · have h3' : ((s.size : Int) == 3) = true := by simp; omega
    go_enter Try.func48, Try.ntmps48
    go_wp2
    go_loop [3] (fun i => ∃ k : Nat, k ≤ 3 ∧ i = .int .i64 k ∧ ∀ j, j < k → rulB (byt s j) = true) (fun i => 3 - (intOf i).toNat)
    case atStart => exact ⟨0, Nat.zero_le _, rfl, fun j hj => by omega⟩
    case round =>
      obtain ⟨k, hk, rfl, hall⟩ := hrel
      have HA : Hid (∀ j, j < k → rulB (byt s j) = true) := hall
      clear hall
      by_cases hlt : k < 3
      · have HB : Hid (((s[k].toNat : Nat) : Int) = byt s k) := byt_eq s k (by omega)
        go_wp2
        all_goals first
          | (have HR : rulB (byt s k) = true := by (rw [← HB.out]; simp [rulB]; simp at *; omega)
             exact ⟨⟨k + 1, by omega, by go_num, upto_succ HA.out HR⟩, by simp [intOf]; omega⟩)
          | (have HR : rulB (byt s k) = false := by (rw [← HB.out]; simp [rulB]; simp at *; omega)
             go_ret
             exact ⟨ret_bool (ruleB_false k hlt HR).symm, rfl⟩)
      · go_wp2
        go_ret
        exact ⟨ret_bool (ruleB_true h3 (fun j hj => HA.out j (by omega))).symm, rfl⟩
  · have hf := ruleB_size h3
    have hd : ((s.size : Int) == 3) = false := by simp; omega
    rw [hf]
    clear hf
    go_enter Try.func48, Try.ntmps48
    go_wp2
    go_ret
    exact ⟨rfl, rfl⟩


theorem group_any (b : Int) (w : World) :
    Calls Try.prog 82 #[.int .u8 b] w fun e w' => e = .returned (.int .u8 (grpB b)) ∧ w' = w := by
  go_enter Try.func82, Try.ntmps82
  go_wp2
  all_goals go_ret
  all_goals refine ⟨?_, rfl⟩
  all_goals (have : ∀ x y : Int, x = y → Ending.returned (.int .u8 x) = Ending.returned (.int .u8 y) := fun x y h => by rw [h])
  all_goals (apply this; simp only [grpB]; simp at *; omega)

theorem projectByte_any (r b : Int) (w : World) :
    Calls Try.prog 76 #[.int .u8 r, .int .u8 b] w fun e w' => e = .returned (.int .u8 (prjB r b)) ∧ w' = w := by
  go_enter Try.func76, Try.ntmps76
  go_wp2_with (go_at_call 82; refine (group_any _ _).mono ?_; rintro e w' ⟨rfl, rfl⟩)
  all_goals go_ret
  all_goals refine ⟨?_, rfl⟩
  all_goals (have : ∀ x y : Int, x = y → Ending.returned (.int .u8 x) = Ending.returned (.int .u8 y) := fun x y h => by rw [h])
  all_goals (apply this; simp only [prjB]; simp at *; simp [*])

theorem triCell (w : World) (a b c : Int) (k : Nat) (hk : k < 3) (T : TypeId) :
    (w.alloc (.cells #[.int .u8 a, .int .u8 b, .int .u8 c] T)).cell? ⟨w.heap.size, k, none⟩ = some (.int .u8 (tri a b c k)) := by
  have : k = 0 ∨ k = 1 ∨ k = 2 := by omega
  rcases this with rfl | rfl | rfl <;> simp [tri, go_sem]

theorem rightByte_any (a : Int) (w : World) :
    Calls Try.prog 80 #[.int .u8 a] w fun e w' => e = .returned (.bool (labB a)) ∧ w' = w := by
  go_enter Try.func80, Try.ntmps80
  go_wp2_with (go_at_call 83; refine (isLetter_any _ _).mono ?_; rintro e w' ⟨rfl, rfl⟩)
  all_goals go_ret
  all_goals exact ⟨by simp [labB, *], rfl⟩

theorem labRight_any (a b c : Int) (w : World) :
    Calls Try.prog 75 #[.agg #[.int .u8 a, .int .u8 b, .int .u8 c]] w fun e w' => e = .returned (.bool (lab3 a b c)) ∧ w' = w.alloc (.cells #[.int .u8 a, .int .u8 b, .int .u8 c] 52) := by
  go_enter Try.func75, Try.ntmps75
  go_wp2
  go_loop [3] (fun i => ∃ k : Nat, k ≤ 3 ∧ i = .int .i64 k ∧ ∀ j, j < k → labB (tri a b c j) = true) (fun i => 3 - (intOf i).toNat)
  case atStart => exact ⟨0, Nat.zero_le _, rfl, fun j hj => by omega⟩
  case round =>
    obtain ⟨k, hk, rfl, hall⟩ := hrel
    have HA : Hid (∀ j, j < k → labB (tri a b c j) = true) := hall
    clear hall
    by_cases hlt : k < 3
    · have hcell := triCell w a b c k hlt 52
      cases hL : labB (tri a b c k)
      · go_wp2_with (go_at_call 80; refine (rightByte_any _ _).mono ?_; rintro e w' ⟨rfl, rfl⟩)
        go_ret
        exact ⟨ret_bool (lab3_false k hlt hL).symm, rfl⟩
      · go_wp2_with (go_at_call 80; refine (rightByte_any _ _).mono ?_; rintro e w' ⟨rfl, rfl⟩)
        exact ⟨⟨k + 1, by omega, by go_num, upto_succ HA.out hL⟩, by simp [intOf]; omega⟩
    · go_wp2
      go_ret
      exact ⟨ret_bool (lab3_true (fun j hj => HA.out j (by omega))).symm, rfl⟩

end Go.Proofs.Ythciddpljcbhiab

/- Walks: Project, of the program and of the document's answer. -/
namespace Go.Proofs.Ythciddpljcbhiab
open Go.RowKit

abbrev c3 (a b c : Int) : Obj := .cells #[.int .u8 a, .int .u8 b, .int .u8 c] 52

theorem wEq3 {w : World} {o : Obj} {a b c a' b' c' : Int} (h : a = a') (h1 : b = b') (h2 : c = c') : (w.alloc (c3 a b c)).alloc o = (w.alloc (c3 a' b' c')).alloc o := by rw [h, h1, h2]
theorem lab_or {a : Int} (h : labB a = true) : a = 45 ∨ (97 ≤ a ∧ a ≤ 122) := by simpa [labB, letB] using h

theorem bcell {W w1 : World} (hb : Below W.heap.size W w1) : (∀ b o, b < W.heap.size → w1.cell? ⟨b, o, none⟩ = W.cell? ⟨b, o, none⟩) ∧ (∀ b o, b < W.heap.size → w1.frozen? ⟨b, o, none⟩ = W.frozen? ⟨b, o, none⟩) :=
  ⟨fun b o h => hb.cell (p := ⟨b, o, none⟩) h, fun b o h => hb.frozen (p := ⟨b, o, none⟩) h⟩

def prV (s : ByteArray) (a b c : Int) : Value := .tuple #[.agg #[.int .u8 (prX s a b c 0), .int .u8 (prX s a b c 1), .int .u8 (prX s a b c 2)], .int .i64 (prE s a b c)]
theorem prV_rule {s : ByteArray} {a b c : Int} (h : ruleB s = false) : prV s a b c = .tuple #[.agg #[.int .u8 0, .int .u8 0, .int .u8 0], .int .i64 3] := by simp [prV, prX, prE, h]
theorem prV_lab {s : ByteArray} {a b c : Int} (h : ruleB s = true) (h' : lab3 a b c = false) : prV s a b c = .tuple #[.agg #[.int .u8 0, .int .u8 0, .int .u8 0], .int .i64 2] := by simp [prV, prX, prE, h, h']
theorem prV_ok {s : ByteArray} {a b c : Int} (h : ruleB s = true) (h' : lab3 a b c = true) : prV s a b c = .tuple #[.agg #[.int .u8 (prjB (byt s 0) a), .int .u8 (prjB (byt s 1) b), .int .u8 (prjB (byt s 2) c)], .int .i64 0] := by
  simp [prV, prX, prE, h, h', tri]

theorem setc3_0 (X : World) (n : Nat) (x y z v : Int) {m : Nat} (hm : m = X.heap.size) : ((X.alloc (c3 x y z)).drewN n).setCell ⟨m, 0, none⟩ (.int .u8 v) = (X.alloc (c3 v y z)).drewN n := by
  subst hm
  show ((X.alloc (c3 x y z)).setCell ⟨X.heap.size, 0, none⟩ (.int .u8 v)).drewN n = _
  rw [World.setCell_alloc_at _ _ _ _ _ rfl]; rfl
theorem setc3_1 (X : World) (n : Nat) (x y z v : Int) {m : Nat} (hm : m = X.heap.size) : ((X.alloc (c3 x y z)).drewN n).setCell ⟨m, 1, none⟩ (.int .u8 v) = (X.alloc (c3 x v z)).drewN n := by
  subst hm
  show ((X.alloc (c3 x y z)).setCell ⟨X.heap.size, 1, none⟩ (.int .u8 v)).drewN n = _
  rw [World.setCell_alloc_at _ _ _ _ _ rfl]; rfl
theorem setc3_2 (X : World) (n : Nat) (x y z v : Int) {m : Nat} (hm : m = X.heap.size) : ((X.alloc (c3 x y z)).drewN n).setCell ⟨m, 2, none⟩ (.int .u8 v) = (X.alloc (c3 x y v)).drewN n := by
  subst hm
  show ((X.alloc (c3 x y z)).setCell ⟨X.heap.size, 2, none⟩ (.int .u8 v)).drewN n = _
  rw [World.setCell_alloc_at _ _ _ _ _ rfl]; rfl
/-- What a call leaves of two boxes of its caller's. -/
theorem two3 {w w1 : World} {x y z x' y' z' : Int} (hb : Below ((w.alloc (c3 x y z)).alloc (c3 x' y' z')).heap.size ((w.alloc (c3 x y z)).alloc (c3 x' y' z')) w1) :
    w.heap.size + 1 < w1.heap.size ∧ w1.cell? ⟨w.heap.size, 0, none⟩ = some (.int .u8 x) ∧ w1.cell? ⟨w.heap.size, 1, none⟩ = some (.int .u8 y) ∧ w1.cell? ⟨w.heap.size, 2, none⟩ = some (.int .u8 z) ∧
    w1.cell? ⟨w.heap.size + 1, 0, none⟩ = some (.int .u8 x') ∧ w1.cell? ⟨w.heap.size + 1, 1, none⟩ = some (.int .u8 y') ∧ w1.cell? ⟨w.heap.size + 1, 2, none⟩ = some (.int .u8 z') ∧
    w1.frozen? ⟨w.heap.size + 1, 0, none⟩ = false ∧ w1.frozen? ⟨w.heap.size + 1, 1, none⟩ = false ∧ w1.frozen? ⟨w.heap.size + 1, 2, none⟩ = false := by
  obtain ⟨hc, hf⟩ := bcell hb
  have hz := hb.size
  simp only [World.size_alloc] at hz hc hf
  refine ⟨by omega, ?_, ?_, ?_, ?_, ?_, ?_, ?_, ?_, ?_⟩
  all_goals first | rw [hc _ _ (by omega)] | rw [hf _ _ (by omega)]
  all_goals simp [go_sem]

set_option maxHeartbeats 1000000 in
theorem labProject_any (s : ByteArray) (a b c : Int) (w : World) (hs : s.size ≤ maxLen) :
    Calls Try.prog 63 #[.string s, .agg #[.int .u8 a, .int .u8 b, .int .u8 c]] w fun e w' => e = .returned (prV s a b c) ∧ Below w.heap.size w w' := by
  cases hr : ruleB s
  · rw [prV_rule hr]
    go_enter Try.func63, Try.ntmps63
    go_wp2_with (go_at_call 48; refine (rightRule_any _ hs _).mono ?_; rintro e w' ⟨rfl, rfl⟩)
    go_returns
    exact ⟨rfl, by go_grown⟩
  · cases hl : lab3 a b c
    · rw [prV_lab hr hl]
      go_enter Try.func63, Try.ntmps63
      go_wp2_with (first | (go_at_call 48; refine (rightRule_any _ hs _).mono ?_; rintro e w' ⟨rfl, rfl⟩) | (go_at_call 75; refine (labRight_any _ _ _ _).mono ?_; rintro e w' ⟨rfl, rfl⟩))
      go_returns
      exact ⟨rfl, by go_grown⟩
    · rw [prV_ok hr hl]
      have h3 : s.size = 3 := by simp [ruleB] at hr; exact hr.1.1.1
      go_enter Try.func63, Try.ntmps63
      go_wp2_with (first | (go_at_call 48; refine (rightRule_any _ hs _).mono ?_; rintro e w' ⟨rfl, rfl⟩) | (go_at_call 75; refine (labRight_any _ _ _ _).mono ?_; rintro e w' ⟨rfl, rfl⟩))
      go_loopw [7] (fun i wr => (i = .int .i64 0 ∧ ∃ n, wr = ((((w.alloc (c3 a b c)).alloc (c3 0 0 0)).alloc (c3 a b c)).alloc (c3 0 0 0)).drewN n)
        ∨ (i = .int .i64 1 ∧ ∃ n, wr = ((((w.alloc (c3 a b c)).alloc (c3 0 0 0)).alloc (c3 a b c)).alloc (c3 (prjB (byt s 0) a) 0 0)).drewN n)
        ∨ (i = .int .i64 2 ∧ ∃ n, wr = ((((w.alloc (c3 a b c)).alloc (c3 0 0 0)).alloc (c3 a b c)).alloc (c3 (prjB (byt s 0) a) (prjB (byt s 1) b) 0)).drewN n)
        ∨ (i = .int .i64 3 ∧ ∃ n, wr = ((((w.alloc (c3 a b c)).alloc (c3 0 0 0)).alloc (c3 a b c)).alloc (c3 (prjB (byt s 0) a) (prjB (byt s 1) b) (prjB (byt s 2) c))).drewN n)) (fun i _ => 3 - (intOf i).toNat)
      case atStart => exact Or.inl ⟨rfl, 0, rfl⟩
      case round =>
        have HB0 : Hid (((s[0].toNat : Nat) : Int) = byt s 0) := byt_eq s 0 (by omega)
        have HB1 : Hid (((s[1].toNat : Nat) : Int) = byt s 1) := byt_eq s 1 (by omega)
        have HB2 : Hid (((s[2].toNat : Nat) : Int) = byt s 2) := byt_eq s 2 (by omega)
        rcases hrel with ⟨rfl, n, rfl⟩ | ⟨rfl, n, rfl⟩ | ⟨rfl, n, rfl⟩ | ⟨rfl, n, rfl⟩
        · go_wp2
          go_region_with (go_at_call 76; refine (projectByte_any _ _ _).mono ?_; rintro e w' ⟨rfl, rfl⟩)
          all_goals go_wp2
          all_goals rw [HB0.out]
          all_goals exact ⟨Or.inr (Or.inl ⟨rfl, _, setc3_0 (((w.alloc (c3 a b c)).alloc (c3 0 0 0)).alloc (c3 a b c)) _ _ _ _ _ (by simp)⟩), by simp [intOf]⟩
        · go_wp2
          go_region_with (go_at_call 76; refine (projectByte_any _ _ _).mono ?_; rintro e w' ⟨rfl, rfl⟩)
          all_goals go_wp2
          all_goals rw [HB1.out]
          all_goals exact ⟨Or.inr (Or.inr (Or.inl ⟨rfl, _, setc3_1 (((w.alloc (c3 a b c)).alloc (c3 0 0 0)).alloc (c3 a b c)) _ _ _ _ _ (by simp)⟩)), by simp [intOf]⟩
        · go_wp2
          go_region_with (go_at_call 76; refine (projectByte_any _ _ _).mono ?_; rintro e w' ⟨rfl, rfl⟩)
          all_goals go_wp2
          all_goals rw [HB2.out]
          all_goals exact ⟨Or.inr (Or.inr (Or.inr ⟨rfl, _, setc3_2 (((w.alloc (c3 a b c)).alloc (c3 0 0 0)).alloc (c3 a b c)) _ _ _ _ _ (by simp)⟩)), by simp [intOf]⟩
        · go_wp2
          go_returns
          refine ⟨rfl, Below.setCell (Below.setCell (Below.setCell (below_drewN ?_ n) ?_ _) ?_ _) ?_ _⟩
          · go_grown
          all_goals (show w.heap.size ≤ w.heap.size + 1; omega)

end Go.Proofs.Ythciddpljcbhiab

/- Walks: the age and the level of a block. -/
namespace Go.Proofs.Ythciddpljcbhiab
open Go.RowKit

/-- A configuration as a value, and its box. -/
abbrev cfC (c : Cf) (b off n cap : Nat) : Array Value := #[.int .i64 c.span, .int .i64 c.keep, .slice (some ⟨b, off, none⟩) n cap]

theorem age_any (c : Cf) (b off n cap : Nat) (now t : Int) (w : World) (h1 : 1 ≤ c.span) (_h2 : c.span ≤ 100) (_n0 : 0 ≤ now) (_n1 : now ≤ 100000) (_t0 : 0 ≤ t) (_t1 : t ≤ 100100) :
    Calls Try.prog 61 #[.agg (cfC c b off n cap), .int .i64 now, .int .i64 t] w fun e w' => e = .returned (.int .i64 (c.age now t)) ∧ ∃ d, w' = (w.alloc (.cells (cfC c b off n cap) 24)).drewN d := by
  have hsp : ¬ c.span = 0 := by omega
  have d0 : 0 ≤ now / c.span := Int.ediv_nonneg _n0 (by omega)
  have d1 : now / c.span ≤ now := Int.ediv_le_self _ _n0
  have d2 : 0 ≤ t / c.span := Int.ediv_nonneg _t0 (by omega)
  have d3 : t / c.span ≤ t := Int.ediv_le_self _ _t0
  go_enter Try.func61, Try.ntmps61
  go_wp2
  go_region
  all_goals go_wp2
  all_goals go_ret
  all_goals exact ⟨rfl, _, rfl⟩

theorem expired_any (c : Cf) (b off n cap : Nat) (now t : Int) (w : World) (h1 : 1 ≤ c.span) (h2 : c.span ≤ 100) (n0 : 0 ≤ now) (n1 : now ≤ 100000) (t0 : 0 ≤ t) (t1 : t ≤ 100100) :
    Calls Try.prog 43 #[.agg (cfC c b off n cap), .int .i64 now, .int .i64 t] w fun e w' => e = .returned (.bool (decide (c.keep < c.age now t))) ∧ Below w.heap.size w w' := by
  have HC : Hid (∀ w, Calls Try.prog 61 #[.agg (cfC c b off n cap), .int .i64 now, .int .i64 t] w fun e w' => e = .returned (.int .i64 (c.age now t)) ∧ ∃ d, w' = (w.alloc (.cells (cfC c b off n cap) 24)).drewN d) :=
    fun w => age_any c b off n cap now t w h1 h2 n0 n1 t0 t1
  go_enter Try.func43, Try.ntmps43
  go_wp2
  go_region_with (go_at_call 61; refine (HC.out _).mono ?_; rintro e w' ⟨rfl, d, rfl⟩)
  all_goals go_wp2
  all_goals go_ret
  all_goals refine ⟨rfl, ?_⟩
  all_goals (repeat (first | exact Below.refl _ _ | refine below_drewN ?_ _ | refine Below.drew ?_ | refine Below.alloc ?_ (by simp) _))

theorem lvlTo_step (lvs : List Lv) (a : Int) (k : Nat) (hk : 1 ≤ k) : lvlTo lvs a (k + 1) = if (lvG lvs k).age ≤ a then k else lvlTo lvs a k := by
  rw [lvlTo]
  by_cases h : (lvG lvs k).age ≤ a
  · rw [if_pos ⟨hk, h⟩, if_pos h]
  · rw [if_neg (fun e => h e.2), if_neg h]
theorem lvlTo_one (lvs : List Lv) (a : Int) : lvlTo lvs a 1 = 0 := by simp [lvlTo]

set_option maxHeartbeats 400000 in
theorem level_any (c : Cf) (b off n cap : Nat) (now t : Int) (w : World) (h1 : 1 ≤ c.span) (h2 : c.span ≤ 100) (n0 : 0 ≤ now) (n1 : now ≤ 100000) (t0 : 0 ≤ t) (t1 : t ≤ 100100)
    (hn : c.lvs.length = n) (hn1 : 1 ≤ n) (hn4 : n ≤ 4) (hat : LvAt w b off c.lvs) :
    Calls Try.prog 52 #[.agg (cfC c b off n cap), .int .i64 now, .int .i64 t] w fun e w' => e = .returned (.int .i64 (c.lvl now t)) ∧ Below w.heap.size w w' := by
  have HAT : Hid (LvAt w b off c.lvs) := hat
  have HN : Hid (c.lvs.length = n) := hn
  have hb0 : b < w.heap.size := hat.block (by omega)
  clear hat hn
  have HE : Hid (c.lvl now t = lvlTo c.lvs (c.age now t) n) := by show _ = _; unfold Cf.lvl; rw [HN.out]
  rw [HE.out]
  go_enter Try.func52, Try.ntmps52
  go_wp2_with fail
  refine (age_any c b off n cap now t _ h1 h2 n0 n1 t0 t1).mono ?_
  rintro e w1 ⟨rfl, d, rfl⟩
  go_wp2_with fail
  go_loop [8, 9] (fun l i => ∃ k : Nat, k ≤ n ∧ i = .int .i64 k ∧ l = .int .i64 (lvlTo c.lvs (c.age now t) k)) (fun _ i => n - (intOf i).toNat)
  case atStart => exact ⟨0, Nat.zero_le _, rfl, rfl⟩
  case round =>
    obtain ⟨k, hk, rfl, rfl⟩ := hrel
    by_cases hlt : k < n
    · obtain ⟨c0, _⟩ := HAT.out k (by rw [HN.out]; exact hlt)
      by_cases hk0 : k = 0
      · subst hk0
        have HO : Hid (lvlTo c.lvs (c.age now t) 1 = 0) := lvlTo_one _ _
        have HZ : Hid (lvlTo c.lvs (c.age now t) 0 = 0) := rfl
        simp only [Nat.zero_mul, Nat.add_zero] at c0
        rw [HZ.out]
        go_wp2_with fail
        all_goals exact ⟨⟨1, by omega, rfl, by rw [HO.out]⟩, by simp [intOf]; omega⟩
      · by_cases ha : (lvG c.lvs k).age ≤ c.age now t
        · have HS : Hid (lvlTo c.lvs (c.age now t) (k + 1) = k) := by show _ = _; rw [lvlTo_step _ _ _ (by omega), if_pos ha]
          go_wp2_with fail
          exact ⟨⟨k + 1, by omega, by go_num, by rw [HS.out]⟩, by simp [intOf]; omega⟩
        · have HS : Hid (lvlTo c.lvs (c.age now t) (k + 1) = lvlTo c.lvs (c.age now t) k) := by show _ = _; rw [lvlTo_step _ _ _ (by omega), if_neg ha]
          go_wp2_with fail
          exact ⟨⟨k + 1, by omega, by go_num, by rw [HS.out]⟩, by simp [intOf]; omega⟩
    · have : k = n := by omega
      subst this
      go_wp2_with fail
      go_ret
      refine ⟨rfl, ?_⟩
      repeat (first | exact Below.refl _ _ | refine below_drewN ?_ _ | refine Below.drew ?_ | refine Below.alloc ?_ (by simp) _)

end Go.Proofs.Ythciddpljcbhiab

/- Walks: which queries can be answered. -/
namespace Go.Proofs.Ythciddpljcbhiab
open Go.RowKit

structure Qy.wf (q : Qy) : Prop where
  f0 : -9223372036854775808 ≤ q.fr
  f1 : q.fr ≤ 9223372036854775807
  t0 : -9223372036854775808 ≤ q.to
  t1 : q.to ≤ 9223372036854775807
  s0 : -9223372036854775808 ≤ q.step
  s1 : q.step ≤ 9223372036854775807
  m1 : q.mt.size ≤ maxLen
  g1 : q.gb.size ≤ maxLen
abbrev qyC (q : Qy) : Array Value := #[.int .i64 q.fr, .int .i64 q.to, .int .i64 q.step, .string q.mt, .string q.gb]
def timesB (q : Qy) : Bool := decide (0 ≤ q.fr) && decide (q.fr < q.to) && decide (q.to ≤ 100100) && decide (1 ≤ q.step) && decide ((q.to - q.fr) % q.step = 0) && decide ((q.to - q.fr) / q.step ≤ 20)
theorem timesB_iff (q : Qy) : timesB q = true ↔ 0 ≤ q.fr ∧ q.fr < q.to ∧ q.to ≤ 100100 ∧ 1 ≤ q.step ∧ (q.to - q.fr) % q.step = 0 ∧ (q.to - q.fr) / q.step ≤ 20 := by
  simp only [timesB, Bool.and_eq_true, decide_eq_true_eq, and_assoc]
def mtB (s : ByteArray) : Bool := decide (s.size = 3) && mB (byt s 0) && mB (byt s 1) && mB (byt s 2)
def gbB (s : ByteArray) : Bool := decide (s.size = 3) && bB (byt s 0) && bB (byt s 1) && bB (byt s 2)
theorem rightQ_eq (q : Qy) : rightQ q = (timesB q && mtB q.mt && gbB q.gb) := by
  rw [Bool.eq_iff_iff]
  simp only [rightQ, timesB, mtB, gbB, Bool.and_eq_true]
  constructor <;> (intro h; simp only [h, and_self])
theorem times_first {q : Qy} (h : ¬ (0 ≤ q.fr ∧ q.fr < q.to ∧ q.to ≤ 100100 ∧ 1 ≤ q.step)) : timesB q = false := by
  apply no_of; rw [timesB_iff]; intro h'; exact h ⟨h'.1, h'.2.1, h'.2.2.1, h'.2.2.2.1⟩
theorem times_parts {q : Qy} (h : ¬ (0 ≤ q.fr ∧ q.fr < q.to ∧ q.to ≤ 100100 ∧ 1 ≤ q.step)) : q.fr < 0 ∨ (0 ≤ q.fr ∧ q.to ≤ q.fr) ∨ (0 ≤ q.fr ∧ q.fr < q.to ∧ 100100 < q.to) ∨ (0 ≤ q.fr ∧ q.fr < q.to ∧ q.to ≤ 100100 ∧ q.step < 1) := by omega

set_option maxHeartbeats 400000 in
theorem rightTimes_any (q : Qy) (w : World) (hq : q.wf) : Calls Try.prog 68 #[.agg (qyC q)] w fun e w' => e = .returned (.bool (timesB q)) ∧ w' = w.alloc (.cells (qyC q) 71) := by
  obtain ⟨a0, a1, b0, b1, c0, c1, _, _⟩ := hq
  by_cases hf : 0 ≤ q.fr ∧ q.fr < q.to ∧ q.to ≤ 100100 ∧ 1 ≤ q.step
  · obtain ⟨f1, f2, f3, f4⟩ := hf
    have HT : Hid (timesB q = (decide ((q.to - q.fr) % q.step = 0) && decide ((q.to - q.fr) / q.step ≤ 20))) := by show _ = _; simp [timesB, f1, f2, f3, f4]
    rw [HT.out]
    by_cases hm : (q.to - q.fr) % q.step = 0
    · have hmb : (((q.to - q.fr) % q.step) != 0) = false := by simp [hm]
      have HM : Hid ((q.to - q.fr) % q.step = 0) := hm
      rw [hm]
      clear hm
      go_enter Try.func68, Try.ntmps68
      go_wp2
      go_ret
      exact ⟨by simp, rfl⟩
    · have hmb : (((q.to - q.fr) % q.step) != 0) = true := by simp [hm]
      rw [show decide ((q.to - q.fr) % q.step = 0) = false from by simp [hm], Bool.false_and]
      go_enter Try.func68, Try.ntmps68
      go_wp2
      go_ret
      exact ⟨rfl, rfl⟩
  · rw [times_first hf]
    rcases times_parts hf with h | ⟨h1, h2⟩ | ⟨h1, h2, h3⟩ | ⟨h1, h2, h3, h4⟩
    all_goals clear hf
    all_goals go_enter Try.func68, Try.ntmps68
    all_goals go_wp2
    all_goals go_ret
    all_goals exact ⟨rfl, rfl⟩

theorem three_true {p : Int → Bool} {s : ByteArray} (h : s.size = 3) (ha : ∀ j, j < 3 → p (byt s j) = true) : (decide (s.size = 3) && p (byt s 0) && p (byt s 1) && p (byt s 2)) = true := by
  simp [h, ha 0, ha 1, ha 2]
theorem three_false {p : Int → Bool} {s : ByteArray} (k : Nat) (hk : k < 3) (h : p (byt s k) = false) : (decide (s.size = 3) && p (byt s 0) && p (byt s 1) && p (byt s 2)) = false := by
  have : k = 0 ∨ k = 1 ∨ k = 2 := by omega
  rcases this with rfl | rfl | rfl <;> simp [h]
theorem three_size {p : Int → Bool} {s : ByteArray} (h : ¬ s.size = 3) : (decide (s.size = 3) && p (byt s 0) && p (byt s 1) && p (byt s 2)) = false := by simp [h]
theorem mB_eq (m : Int) : mB m = (m == 46 || labB m) := by unfold mB labB; cases letB m <;> cases (m == 46) <;> cases (m == 45) <;> rfl

set_option maxHeartbeats 400000 in
theorem rightMatch_any (s : ByteArray) (_hs : s.size ≤ maxLen) (w : World) : Calls Try.prog 69 #[.string s] w fun e w' => e = .returned (.bool (mtB s)) ∧ w' = w := by
  unfold maxLen at _hs
  by_cases h3 : s.size = 3
  · have h3' : ((s.size : Int) != 3) = false := by simp; omega
    have H3 : Hid (s.size = 3) := h3
    go_enter Try.func69, Try.ntmps69
    go_wp2
    go_loop [3] (fun i => ∃ k : Nat, k ≤ 3 ∧ i = .int .i64 k ∧ ∀ j, j < k → mB (byt s j) = true) (fun i => 3 - (intOf i).toNat)
    case atStart => exact ⟨0, Nat.zero_le _, rfl, fun j hj => by omega⟩
    case round =>
      obtain ⟨k, hk, rfl, hall⟩ := hrel
      have HA : Hid (∀ j, j < k → mB (byt s j) = true) := hall
      clear hall
      by_cases hlt : k < 3
      · have HB : Hid (((s[k].toNat : Nat) : Int) = byt s k) := byt_eq s k (by omega)
        by_cases hd : byt s k = 46
        · have hx : (((s[k].toNat : Nat) : Int) != 46) = false := by rw [HB.out, hd]; rfl
          have HR : mB (byt s k) = true := by rw [mB_eq, hd]; rfl
          go_wp2_with fail
          exact ⟨⟨k + 1, by omega, by go_num, upto_succ HA.out HR⟩, by simp [intOf]; omega⟩
        · have hx : (((s[k].toNat : Nat) : Int) != 46) = true := by rw [HB.out]; simpa using hd
          have HR : Hid (mB (byt s k) = labB ((s[k].toNat : Nat) : Int)) := by show _ = _; rw [mB_eq, HB.out]; simp [hd]
          cases hL : labB ((s[k].toNat : Nat) : Int)
          · go_wp2_with (go_at_call 80; refine (rightByte_any _ _).mono ?_; rintro e w' ⟨rfl, rfl⟩)
            go_ret
            exact ⟨ret_bool (three_false k hlt (by rw [HR.out]; exact hL)).symm, rfl⟩
          · go_wp2_with (go_at_call 80; refine (rightByte_any _ _).mono ?_; rintro e w' ⟨rfl, rfl⟩)
            exact ⟨⟨k + 1, by omega, by go_num, upto_succ HA.out (by rw [HR.out]; exact hL)⟩, by simp [intOf]; omega⟩
      · go_wp2
        go_ret
        exact ⟨ret_bool (three_true H3.out (fun j hj => HA.out j (by omega))).symm, rfl⟩
  · have hf : mtB s = false := three_size h3
    have hd : ((s.size : Int) != 3) = true := by simp; omega
    rw [hf]
    clear hf
    go_enter Try.func69, Try.ntmps69
    go_wp2
    go_ret
    exact ⟨rfl, rfl⟩

set_option maxHeartbeats 400000 in
theorem rightBy_any (s : ByteArray) (_hs : s.size ≤ maxLen) (w : World) : Calls Try.prog 70 #[.string s] w fun e w' => e = .returned (.bool (gbB s)) ∧ w' = w := by
  unfold maxLen at _hs
  by_cases h3 : s.size = 3
  · have h3' : ((s.size : Int) != 3) = false := by simp; omega
    have H3 : Hid (s.size = 3) := h3
    go_enter Try.func70, Try.ntmps70
    go_wp2
    go_loop [3] (fun i => ∃ k : Nat, k ≤ 3 ∧ i = .int .i64 k ∧ ∀ j, j < k → bB (byt s j) = true) (fun i => 3 - (intOf i).toNat)
    case atStart => exact ⟨0, Nat.zero_le _, rfl, fun j hj => by omega⟩
    case round =>
      obtain ⟨k, hk, rfl, hall⟩ := hrel
      have HA : Hid (∀ j, j < k → bB (byt s j) = true) := hall
      clear hall
      by_cases hlt : k < 3
      · have HB : Hid (((s[k].toNat : Nat) : Int) = byt s k) := byt_eq s k (by omega)
        by_cases hd : byt s k = 48
        · have hx : (((s[k].toNat : Nat) : Int) != 48) = false := by rw [HB.out, hd]; rfl
          have HR : bB (byt s k) = true := by rw [hd]; rfl
          go_wp2_with fail
          exact ⟨⟨k + 1, by omega, by go_num, upto_succ HA.out HR⟩, by simp [intOf]; omega⟩
        · have hx : (((s[k].toNat : Nat) : Int) != 48) = true := by rw [HB.out]; simpa using hd
          by_cases he : byt s k = 49
          · have hy : (((s[k].toNat : Nat) : Int) != 49) = false := by rw [HB.out, he]; rfl
            have HR : bB (byt s k) = true := by rw [he]; rfl
            go_wp2_with fail
            exact ⟨⟨k + 1, by omega, by go_num, upto_succ HA.out HR⟩, by simp [intOf]; omega⟩
          · have hy : (((s[k].toNat : Nat) : Int) != 49) = true := by rw [HB.out]; simpa using he
            have HR : bB (byt s k) = false := by unfold bB; simp [hd, he]
            go_wp2_with fail
            go_ret
            exact ⟨ret_bool (three_false k hlt HR).symm, rfl⟩
      · go_wp2
        go_ret
        exact ⟨ret_bool (three_true H3.out (fun j hj => HA.out j (by omega))).symm, rfl⟩
  · have hf : gbB s = false := three_size h3
    have hd : ((s.size : Int) != 3) = true := by simp; omega
    rw [hf]
    clear hf
    go_enter Try.func70, Try.ntmps70
    go_wp2
    go_ret
    exact ⟨rfl, rfl⟩

set_option maxHeartbeats 400000 in
theorem queryRight_any (q : Qy) (w : World) (hq : q.wf) : Calls Try.prog 51 #[.agg (qyC q)] w fun e w' => e = .returned (.bool (rightQ q)) ∧ Below w.heap.size w w' := by
  have H1 : Hid (∀ w, Calls Try.prog 68 #[.agg (qyC q)] w fun e w' => e = .returned (.bool (timesB q)) ∧ w' = w.alloc (.cells (qyC q) 71)) := fun w => rightTimes_any q w hq
  have H2 : Hid (∀ w, Calls Try.prog 69 #[.string q.mt] w fun e w' => e = .returned (.bool (mtB q.mt)) ∧ w' = w) := fun w => rightMatch_any q.mt hq.m1 w
  have H3 : Hid (∀ w, Calls Try.prog 70 #[.string q.gb] w fun e w' => e = .returned (.bool (gbB q.gb)) ∧ w' = w) := fun w => rightBy_any q.gb hq.g1 w
  rw [rightQ_eq]
  clear hq
  cases h1 : timesB q <;> cases h2 : mtB q.mt <;> cases h3 : gbB q.gb
  all_goals go_enter Try.func51, Try.ntmps51
  all_goals go_wp2_with (first | (go_at_call 68; refine (H1.out _).mono ?_; rintro e w' ⟨rfl, rfl⟩) | (go_at_call 69; refine (H2.out _).mono ?_; rintro e w' ⟨rfl, rfl⟩) | (go_at_call 70; refine (H3.out _).mono ?_; rintro e w' ⟨rfl, rfl⟩))
  all_goals go_ret
  all_goals exact ⟨rfl, by go_grown⟩

def mtV (q : Qy) (lv : Lv) : Nat → Bool := lostK q lv
theorem lostB_false {q : Qy} {lv : Lv} (h : ∀ j, j < 3 → lostK q lv j = false) : lostB q lv = false := by simp [lostB, h 0, h 1, h 2]
theorem lostB_true {q : Qy} {lv : Lv} (k : Nat) (hk : k < 3) (h : lostK q lv k = true) : lostB q lv = true := by
  have : k = 0 ∨ k = 1 ∨ k = 2 := by omega
  rcases this with rfl | rfl | rfl <;> simp [lostB, h]

set_option maxHeartbeats 1000000 in
theorem loses_any (q : Qy) (lv : Lv) (w : World) (hr : lv.rule.size = 3) (hm : q.mt.size = 3) (hg : q.gb.size = 3) :
    Calls Try.prog 71 #[.string lv.rule, .agg (qyC q)] w fun e w' => e = .returned (.bool (lostB q lv)) ∧ w' = w.alloc (.cells (qyC q) 71) := by
  have hr' : ((lv.rule.size : Int) != 3) = false := by simp [hr]
  have hm' : ((q.mt.size : Int) != 3) = false := by simp [hm]
  have hg' : ((q.gb.size : Int) != 3) = false := by simp [hg]
  go_enter Try.func71, Try.ntmps71
  go_wp2
  go_loop [5] (fun i => ∃ k : Nat, k ≤ 3 ∧ i = .int .i64 k ∧ ∀ j, j < k → lostK q lv j = false) (fun i => 3 - (intOf i).toNat)
  case atStart => exact ⟨0, Nat.zero_le _, rfl, fun j hj => by omega⟩
  case round =>
    obtain ⟨k, hk, rfl, hall⟩ := hrel
    have HA : Hid (∀ j, j < k → lostK q lv j = false) := hall
    clear hall
    by_cases hlt : k < 3
    · have B1 : Hid (((q.mt[k].toNat : Nat) : Int) = byt q.mt k) := byt_eq q.mt k (by omega)
      have B2 : Hid (((q.gb[k].toNat : Nat) : Int) = byt q.gb k) := byt_eq q.gb k (by omega)
      have B3 : Hid (((lv.rule[k].toNat : Nat) : Int) = byt lv.rule k) := byt_eq lv.rule k (by omega)
      have HL : Hid (lostK q lv k = (((((q.mt[k].toNat : Nat) : Int) != 46) || (((q.gb[k].toNat : Nat) : Int) == 49)) && (((lv.rule[k].toNat : Nat) : Int) != 107))) := by show _ = _; rw [B1.out, B2.out, B3.out]; rfl
      cases e1 : (((q.mt[k].toNat : Nat) : Int) != 46) <;> cases e2 : (((q.gb[k].toNat : Nat) : Int) == 49) <;> cases e3 : (((lv.rule[k].toNat : Nat) : Int) != 107)
      all_goals have HL' := HL.out
      all_goals rw [e1, e2, e3] at HL'
      all_goals have HK : Hid (lostK q lv k = _) := HL'
      all_goals clear HL' HL B1 B2 B3
      all_goals go_wp2_with fail
      all_goals first
        | exact ⟨⟨k + 1, by omega, by go_num, upto_succ HA.out HK.out⟩, by simp [intOf]; omega⟩
        | (go_ret; exact ⟨ret_bool (lostB_true k hlt HK.out).symm, rfl⟩)
    · go_wp2_with fail
      go_ret
      exact ⟨ret_bool (lostB_false (fun j hj => HA.out j (by omega))).symm, rfl⟩

end Go.Proofs.Ythciddpljcbhiab

/- '==' of arrays of three bytes. -/
namespace Go.Proofs.Ythciddpljcbhiab
open Go Go.RowKit

theorem Try.size5 : (Try.prog.info? 5).map (·.size) = some 1 := by kernel_rfl

theorem eq26 (d : Nat) (a b c x y z : Int) (w : World) :
    (Op.equalIn (d + 2) 52 (.agg #[.int .u8 a, .int .u8 b, .int .u8 c]) (.agg #[.int .u8 x, .int .u8 y, .int .u8 z])).run Try.prog w = .ok (a == x && b == y && c == z) w := by
  have hs := Try.size5
  cases hq : Try.prog.info? 5 with
  | none => simp [hq] at hs
  | some i =>
    have hi : i.size = 1 := by simpa [hq] using hs
    rw [Op.equalIn]
    simp [run_underlying Try.underlying52, sizeOf, typeInfo, hq, hi, List.range', part, run_equalIn_int _ d 5 .u8 .u8 _ _ Try.underlying5]
    by_cases h1 : a = x <;> by_cases h2 : b = y <;> by_cases h3 : c = z <;> simp [h1, h2, h3]
end Go.Proofs.Ythciddpljcbhiab

/- Walks: rows and groups, one by one. -/
namespace Go.Proofs.Ythciddpljcbhiab
open Go.RowKit

abbrev rwC (r : Rw) : Array Value := #[.int .i64 r.key.st, .int .u8 r.key.g0, .int .u8 r.key.g1, .int .u8 r.key.g2, .int .i64 r.ag.cnt, .int .i64 r.ag.sum, .int .i32 r.ag.mn, .int .i32 r.ag.mx]
abbrev ptC (p : Pt) : Array Value := #[.int .i64 p.time, .int .i32 p.value, .int .u8 (sG p 0).a, .int .u8 (sG p 0).b, .int .u8 (sG p 0).c, .int .u8 (sG p 1).a, .int .u8 (sG p 1).b, .int .u8 (sG p 1).c,
  .int .u8 (sG p 2).a, .int .u8 (sG p 2).b, .int .u8 (sG p 2).c, .int .u8 (sG p 3).a, .int .u8 (sG p 3).b, .int .u8 (sG p 3).c]
abbrev lbA (l : Lb) : Array Value := #[.int .u8 l.a, .int .u8 l.b, .int .u8 l.c]

theorem rest_any (w : World) : Calls Try.prog 62 #[] w fun e w' => e = .returned (.agg #[.int .u8 42, .int .u8 42, .int .u8 42]) ∧ w' = w.alloc (c3 42 42 42) := by
  go_enter Try.func62, Try.ntmps62
  go_wp2
  go_returns
  exact ⟨rfl, rfl⟩

set_option maxHeartbeats 400000 in
theorem of_any (p : Pt) (k : Nat) (hk : k < 4) (w : World) : Calls Try.prog 55 #[.agg (ptC p), .int .i64 k] w fun e w' => e = .returned (.agg (lbA (sG p k))) ∧ Below w.heap.size w w' := by
  have : k = 0 ∨ k = 1 ∨ k = 2 ∨ k = 3 := by omega
  rcases this with rfl | rfl | rfl | rfl
  all_goals go_enter Try.func55, Try.ntmps55
  all_goals go_wp2
  all_goals go_returns
  all_goals exact ⟨rfl, by go_grown⟩

def withR (r : Rw) (v : Int) : Rw := ⟨r.key, r.ag.join (.one v)⟩
theorem agg_eq {a b : Array Value} (h : a = b) : Ending.returned (.agg a) = .returned (.agg b) := by rw [h]
set_option maxHeartbeats 400000 in
theorem with_any (r : Rw) (v : Int) (w : World) (c0 : 0 ≤ r.ag.cnt) (c1 : r.ag.cnt ≤ 1000000) (s0 : -4000000000000000 ≤ r.ag.sum) (s1 : r.ag.sum ≤ 4000000000000000) (v0 : -2147483648 ≤ v) (v1 : v ≤ 2147483647) :
    Calls Try.prog 72 #[.agg (rwC r), .int .i32 v] w fun e w' => e = .returned (.agg (rwC (withR r v))) ∧ Below w.heap.size w w' := by
  have HE : Hid (rwC (withR r v) = #[.int .i64 r.key.st, .int .u8 r.key.g0, .int .u8 r.key.g1, .int .u8 r.key.g2, .int .i64 (r.ag.cnt + 1), .int .i64 (r.ag.sum + v), .int .i32 (min r.ag.mn v), .int .i32 (max r.ag.mx v)]) := rfl
  by_cases h1 : v < r.ag.mn <;> by_cases h2 : r.ag.mx < v
  all_goals (have HM : Hid (min r.ag.mn v = if v < r.ag.mn then v else r.ag.mn) := by (show _ = _; simp only [h1, if_true, if_false]; omega))
  all_goals (have HX : Hid (max r.ag.mx v = if r.ag.mx < v then v else r.ag.mx) := by (show _ = _; simp only [h2, if_true, if_false]; omega))
  all_goals go_enter Try.func72, Try.ntmps72
  all_goals go_wp2
  all_goals go_returns
  all_goals refine ⟨agg_eq ?_, by go_grown⟩
  all_goals (rw [HE.out, HM.out, HX.out]; simp [h1, h2] <;> omega)

def keyB (r : Rw) (k : Nat) : Int := tri r.key.g0 r.key.g1 r.key.g2 k
theorem lt_step {a b : Rw} (h : a.key.st ≠ b.key.st) : decide (a.key.lt b.key) = decide (a.key.st < b.key.st) := by
  rw [decide_eq_decide]; unfold Key.lt; omega
theorem lt_at {a b : Rw} (h : a.key.st = b.key.st) (k : Nat) (hk : k < 3) (hl : ∀ j, j < k → keyB a j = keyB b j) (hne : keyB a k ≠ keyB b k) : decide (a.key.lt b.key) = decide (keyB a k < keyB b k) := by
  have : k = 0 ∨ k = 1 ∨ k = 2 := by omega
  rw [decide_eq_decide]
  unfold Key.lt
  rcases this with rfl | rfl | rfl
  · simp [keyB, tri] at hne ⊢; omega
  · have h0 := hl 0 (by omega); simp [keyB, tri] at hne h0 ⊢; omega
  · have h0 := hl 0 (by omega); have h1 := hl 1 (by omega); simp [keyB, tri] at hne h0 h1 ⊢; omega
theorem lt_none {a b : Rw} (h : a.key.st = b.key.st) (hl : ∀ j, j < 3 → keyB a j = keyB b j) : decide (a.key.lt b.key) = false := by
  have h0 := hl 0 (by omega); have h1 := hl 1 (by omega); have h2 := hl 2 (by omega)
  simp [keyB, tri] at h0 h1 h2
  rw [decide_eq_false_iff_not]; unfold Key.lt; omega

theorem rwCell (w : World) (r : Rw) (k : Nat) (hk : k < 3) : (w.alloc (.cells (rwC r) 54)).cell? ⟨w.heap.size, 1 + k, none⟩ = some (.int .u8 (keyB r k)) := by
  have : k = 0 ∨ k = 1 ∨ k = 2 := by omega
  rcases this with rfl | rfl | rfl <;> simp [keyB, tri, go_sem]

set_option maxHeartbeats 400000 in
theorem before_any (a b : Rw) (w : World) : Calls Try.prog 81 #[.agg (rwC a), .agg (rwC b)] w fun e w' => e = .returned (.bool (decide (a.key.lt b.key))) ∧ Below w.heap.size w w' := by
  by_cases hs : a.key.st = b.key.st
  · have hs' : (a.key.st != b.key.st) = false := by simp [hs]
    have HS : Hid (a.key.st = b.key.st) := hs
    clear hs
    go_enter Try.func81, Try.ntmps81
    go_wp2_with fail
    go_loopw [5] (fun i wr => ∃ k : Nat, k ≤ 3 ∧ i = .int .i64 k ∧ (∀ j, j < k → keyB a j = keyB b j) ∧ ∃ d, wr = ((w.alloc (.cells (rwC a) 54)).alloc (.cells (rwC b) 54)).drewN d) (fun i _ => 3 - (intOf i).toNat)
    case atStart => exact ⟨0, Nat.zero_le _, rfl, fun j hj => by omega, 0, rfl⟩
    case round =>
      obtain ⟨k, hk, rfl, hall, d, rfl⟩ := hrel
      have HA : Hid (∀ j, j < k → keyB a j = keyB b j) := hall
      clear hall
      by_cases hlt : k < 3
      · have q1 : ((w.alloc (.cells (rwC a) 54)).alloc (.cells (rwC b) 54)).cell? ⟨w.heap.size, 1 + k, none⟩ = some (.int .u8 (keyB a k)) := by
          rw [(Below.alloc (Below.refl (w.heap.size + 1) _) (by simp) _).cell (p := ⟨w.heap.size, 1 + k, none⟩) (by simp)]; exact rwCell w a k hlt
        have q2 := rwCell (w.alloc (.cells (rwC a) 54)) b k hlt
        simp only [World.size_alloc] at q2
        cases he : (keyB a k != keyB b k)
        · have HE : keyB a k = keyB b k := by simpa using he
          go_wp2_with fail
          go_quiet (fail)
          go_wp2_with fail
          exact ⟨⟨k + 1, by omega, by go_num, upto_succ HA.out HE, _, rfl⟩, by simp [intOf]; omega⟩
        · have HE : Hid (keyB a k ≠ keyB b k) := by show _ ≠ _; simpa using he
          go_wp2_with fail
          go_quiet (fail)
          go_wp2_with fail
          go_quiet (fail)
          go_wp2_with fail
          go_ret
          refine ⟨ret_bool (lt_at HS.out k hlt HA.out HE.out).symm, ?_⟩
          repeat (first | exact Below.refl _ _ | refine below_drewN ?_ _ | refine Below.drew ?_ | refine Below.alloc ?_ (by simp) _)
      · go_wp2_with fail
        go_ret
        refine ⟨ret_bool (lt_none HS.out (fun j hj => HA.out j (by omega))).symm, ?_⟩
        repeat (first | exact Below.refl _ _ | refine below_drewN ?_ _ | refine Below.drew ?_ | refine Below.alloc ?_ (by simp) _)
  · have hs' : (a.key.st != b.key.st) = true := by simp [hs]
    rw [lt_step hs]
    go_enter Try.func81, Try.ntmps81
    go_wp2_with fail
    go_ret
    exact ⟨rfl, by go_grown⟩

/-- The group's answer: its bytes (0 where there is none), and whether there is one. -/
def gpX (q : Qy) (s : Lb) : Lb := (grpOf q s).getD ⟨0, 0, 0⟩
def gpT (q : Qy) (s : Lb) : Bool := (grpOf q s).isSome
def gpV (q : Qy) (s : Lb) : Value := .tuple #[.agg (lbA (gpX q s)), .bool (gpT q s)]
theorem gpV_over {q : Qy} {s : Lb} (h : s = over) : gpV q s = .tuple #[.agg (lbA s), .bool true] := by simp [gpV, gpX, gpT, grpOf, h]
theorem gpV_none {q : Qy} {s : Lb} (h : ¬ s = over) (hm : (mOk (byt q.mt 0) s.a && mOk (byt q.mt 1) s.b && mOk (byt q.mt 2) s.c) = false) : gpV q s = .tuple #[.agg #[.int .u8 0, .int .u8 0, .int .u8 0], .bool false] := by
  simp only [gpV, gpX, gpT, grpOf, if_neg h, hm]; rfl
theorem gpV_some {q : Qy} {s : Lb} (h : ¬ s = over) (hm : (mOk (byt q.mt 0) s.a && mOk (byt q.mt 1) s.b && mOk (byt q.mt 2) s.c) = true) :
    gpV q s = .tuple #[.agg #[.int .u8 (gB (byt q.gb 0) s.a), .int .u8 (gB (byt q.gb 1) s.b), .int .u8 (gB (byt q.gb 2) s.c)], .bool true] := by
  simp only [gpV, gpX, gpT, grpOf, if_neg h, hm]; rfl
theorem ret_of {a b : Value} (h : a = b) : Ending.returned a = .returned b := by rw [h]
theorem mOk_iff (m x : Int) : mOk m x = !((m != 46) && (m != x)) := by unfold mOk bne; cases (m == 46) <;> cases (m == x) <;> rfl
theorem gB_pos {b x : Int} (h : (b == 49) = true) : gB b x = x := by simp at h; simp [gB, h]
theorem gB_neg {b x : Int} (h : (b == 49) = false) : gB b x = 46 := by simp at h; simp [gB, h]

theorem bel_set {B : Nat} {a w : World} {b o : Nat} {u : Value} (h : Below B a w) (hb : B ≤ b) : Below B a (w.setCell ⟨b, o, none⟩ u) := h.setCell hb u

end Go.Proofs.Ythciddpljcbhiab

/- Walks: a row put into the table at its place. -/
namespace Go.Proofs.Ythciddpljcbhiab
open Go Go.RowKit

theorem Try.info54' : (Try.prog.info? 54).map (fun i => (i.zero, i.size, i.bytes)) = some (some (.agg #[.int .i64 0, .int .u8 0, .int .u8 0, .int .u8 0, .int .i64 0, .int .i64 0, .int .i32 0, .int .i32 0]), 8, 40) := by kernel_rfl

theorem flatR_set (l : List Rw) (r : Rw) : ∀ i, i < l.length → ((((((((flatR l).set (i * 8) (.int .i64 r.key.st)).set (i * 8 + 1) (.int .u8 r.key.g0)).set (i * 8 + 2) (.int .u8 r.key.g1)).set (i * 8 + 3) (.int .u8 r.key.g2)).set (i * 8 + 4) (.int .i64 r.ag.cnt)).set (i * 8 + 5) (.int .i64 r.ag.sum)).set (i * 8 + 6) (.int .i32 r.ag.mn)).set (i * 8 + 7) (.int .i32 r.ag.mx) = flatR (l.set i r) := by
  induction l with
  | nil => intro i hi; simp at hi
  | cons a l ih =>
    intro i hi
    cases i with
    | zero => rfl
    | succ i =>
      have h := ih i (by simpa using hi)
      have e : ∀ j, (i + 1) * 8 + j = (i * 8 + j) + 8 := fun j => by omega
      rw [show (i + 1) * 8 = (i * 8) + 8 by omega]
      show _ = a.cells ++ flatR (l.set i r)
      rw [← h]
      rfl
/-- The cells of a row of the table, in its block. -/
structure RwAt (w : World) (g o : Nat) (r : Rw) : Prop where
  c0 : w.cell? ⟨g, o, none⟩ = some (.int .i64 r.key.st)
  c1 : w.cell? ⟨g, o + 1, none⟩ = some (.int .u8 r.key.g0)
  c2 : w.cell? ⟨g, o + 2, none⟩ = some (.int .u8 r.key.g1)
  c3 : w.cell? ⟨g, o + 3, none⟩ = some (.int .u8 r.key.g2)
  c4 : w.cell? ⟨g, o + 4, none⟩ = some (.int .i64 r.ag.cnt)
  c5 : w.cell? ⟨g, o + 5, none⟩ = some (.int .i64 r.ag.sum)
  c6 : w.cell? ⟨g, o + 6, none⟩ = some (.int .i32 r.ag.mn)
  c7 : w.cell? ⟨g, o + 7, none⟩ = some (.int .i32 r.ag.mx)
theorem owns_rw {w : World} {base g n cap : Nat} {l : List Rw} (h : w.ownsRow base 54 8 (.slice (some ⟨g, 0, none⟩) n cap) n (flatR l)) (i : Nat) (hi : i < l.length) : RwAt w g (i * 8) (rwG l i) := by
  have k := fun j (hj : j < 8) => flat_get Rw.cells 8 len8 l i j hj hi
  rw [rwG_get l i hi]
  exact ⟨owns_cell h (k 0 (by omega)), owns_cell h (k 1 (by omega)), owns_cell h (k 2 (by omega)), owns_cell h (k 3 (by omega)), owns_cell h (k 4 (by omega)), owns_cell h (k 5 (by omega)), owns_cell h (k 6 (by omega)), owns_cell h (k 7 (by omega))⟩
theorem owns_rwset {w : World} {base g n cap : Nat} {l : List Rw} (h : w.ownsRow base 54 8 (.slice (some ⟨g, 0, none⟩) n cap) n (flatR l)) (i : Nat) (hi : i < l.length) (r : Rw) :
    ((((((((w.setCell ⟨g, i * 8, none⟩ (.int .i64 r.key.st)).setCell ⟨g, i * 8 + 1, none⟩ (.int .u8 r.key.g0)).setCell ⟨g, i * 8 + 2, none⟩ (.int .u8 r.key.g1)).setCell ⟨g, i * 8 + 3, none⟩ (.int .u8 r.key.g2)).setCell ⟨g, i * 8 + 4, none⟩ (.int .i64 r.ag.cnt)).setCell ⟨g, i * 8 + 5, none⟩ (.int .i64 r.ag.sum)).setCell ⟨g, i * 8 + 6, none⟩ (.int .i32 r.ag.mn)).setCell ⟨g, i * 8 + 7, none⟩ (.int .i32 r.ag.mx)).ownsRow base 54 8 (.slice (some ⟨g, 0, none⟩) n cap) n (flatR (l.set i r)) := by
  rw [← flatR_set l r i hi]
  exact owns_set (owns_set (owns_set (owns_set (owns_set (owns_set (owns_set (owns_set h _) _) _) _) _) _) _) _

/-- A table: its one cell, and the rows. -/
structure TabAt (w : World) (T B : Nat) (v : Value) (l : List Rw) : Prop where
  blk : w.heap[T]? = some (.cells #[v] 104 (0, 0))
  own : w.ownsRow B 54 8 v l.length (flatR l)
  hT : B ≤ T
  ne : v.ownBlock ≠ some T
theorem TabAt.lt {w : World} {T B : Nat} {v : Value} {l : List Rw} (h : TabAt w T B v l) : T < w.heap.size := (Array.getElem?_eq_some_iff.1 h.blk).1
theorem TabAt.cell {w : World} {T B : Nat} {v : Value} {l : List Rw} (h : TabAt w T B v l) : w.cell? ⟨T, 0, none⟩ = some v := by simp [World.cell?, h.blk]
theorem TabAt.frozen {w : World} {T B : Nat} {v : Value} {l : List Rw} (h : TabAt w T B v l) : w.frozen? ⟨T, 0, none⟩ = false := by simp [World.frozen?, h.blk]
/-- What leaves all blocks below the table's and the rows' as they were. -/
theorem TabAt.kept {w w' : World} {T B : Nat} {v : Value} {l : List Rw} (h : TabAt w T B v l) (hb : Below w.heap.size w w') : TabAt w' T B v l :=
  ⟨by rw [hb.block T h.lt]; exact h.blk, owns_below h.own hb (fun k hk => (h.own.lt k hk).2), h.hT, h.ne⟩

/-- The rows with a new one put in at place m. -/
def insAt (l : List Rw) (m : Nat) (r : Rw) : List Rw := l.take m ++ [r] ++ l.drop m
theorem insAt_len (l : List Rw) (m : Nat) (r : Rw) (hm : m ≤ l.length) : (insAt l m r).length = l.length + 1 := by simp [insAt]; omega
theorem insAt_end (l : List Rw) (r : Rw) : insAt l l.length r = l ++ [r] := by simp [insAt]
theorem insAt_ahead (l : List Rw) (m : Nat) (r : Rw) (hm : m + 1 ≤ l.length) : rwG (insAt l (m + 1) r) m = rwG l m := by
  unfold insAt rwG
  rw [List.append_assoc, List.getD_eq_getElem?_getD, List.getElem?_append_left (by simp; omega), List.getElem?_take_of_lt (by omega)]
  rfl
theorem insAt_down (l : List Rw) (m : Nat) (r : Rw) (hm : m + 1 ≤ l.length) : ((insAt l (m + 1) r).set (m + 1) (rwG l m)).set m r = insAt l m r := by
  unfold insAt
  rw [rwG_get l m (by omega)]
  have e1 : l.take (m + 1) = l.take m ++ [l[m]] := List.take_succ_eq_append_getElem (by omega)
  have e2 : l.drop m = l[m] :: l.drop (m + 1) := List.drop_eq_getElem_cons (by omega)
  rw [e1, e2]
  have hl : (l.take m).length = m := by simp; omega
  generalize hA : l.take m = A at *
  have e3 : A ++ [l[m]] ++ [r] ++ l.drop (m + 1) = A ++ (l[m] :: r :: l.drop (m + 1)) := by simp
  rw [e3, List.set_append_right _ _ (by omega), List.set_append_right _ _ (by omega), hl]
  simp

theorem tab_put {w W w3 : World} {T B : Nat} {v v' : Value} {l : List Rw} {r : Rw} (H : TabAt w T B v l) (hb : Below w.heap.size w W) (hg : W.grownBy w3 v.ownBlock) (ho : w3.ownsRow B 54 8 v' (l.length + 1) (flatR l ++ r.cells))
    (hk : v'.ownBlock = v.ownBlock ∨ ∀ k, v'.ownBlock = some k → W.heap.size ≤ k) : TabAt (w3.setCell ⟨T, 0, none⟩ v') T B v' (l ++ [r]) := by
  have hne := gr_ne hb hk H.lt H.ne
  refine ⟨?_, ?_, H.hT, hne⟩
  · exact heap_setCell ((gr_heap hb hg H.lt H.ne).trans H.blk)
  · rw [show (l ++ [r]).length = l.length + 1 by simp, show flatR (l ++ [r]) = flatR l ++ r.cells from flat_snoc _ _ _]
    exact owns_other ho hne
theorem RwAt.new (w : World) (r : Rw) : RwAt (w.alloc (.cells (rwC r) 54)) w.heap.size 0 r := by
  constructor <;> simp [go_sem]
theorem RwAt.block {w w' : World} {g o : Nat} {r : Rw} (h : RwAt w g o r) (hb : w'.heap[g]? = w.heap[g]?) : RwAt w' g o r := by
  obtain ⟨c0, c1, c2, c3, c4, c5, c6, c7⟩ := h
  have e : ∀ j, w'.cell? ⟨g, j, none⟩ = w.cell? ⟨g, j, none⟩ := fun j => World.cell?_of_block hb
  exact ⟨by rw [e]; exact c0, by rw [e]; exact c1, by rw [e]; exact c2, by rw [e]; exact c3, by rw [e]; exact c4, by rw [e]; exact c5, by rw [e]; exact c6, by rw [e]; exact c7⟩
theorem RwAt.lt {w : World} {g o : Nat} {r : Rw} (h : RwAt w g o r) : g < w.heap.size := World.block_lt_of_cell? w _ h.c0
theorem RwAt.below {w w' : World} {g o : Nat} {r : Rw} (h : RwAt w g o r) (hb : Below w.heap.size w w') : RwAt w' g o r := h.block (hb.block g h.lt)

abbrev set8 (w : World) (g o : Nat) (r : Rw) : World := (((((((w.setCell ⟨g, o, none⟩ (.int .i64 r.key.st)).setCell ⟨g, o + 1, none⟩ (.int .u8 r.key.g0)).setCell ⟨g, o + 2, none⟩ (.int .u8 r.key.g1)).setCell ⟨g, o + 3, none⟩ (.int .u8 r.key.g2)).setCell ⟨g, o + 4, none⟩ (.int .i64 r.ag.cnt)).setCell ⟨g, o + 5, none⟩ (.int .i64 r.ag.sum)).setCell ⟨g, o + 6, none⟩ (.int .i32 r.ag.mn)).setCell ⟨g, o + 7, none⟩ (.int .i32 r.ag.mx)
theorem set8_block {w : World} {g o : Nat} {r : Rw} {b : Nat} (h : b ≠ g) : (set8 w g o r).heap[b]? = w.heap[b]? := by
  unfold set8
  rw [Below.heap_setCell _ _ _ _ h, Below.heap_setCell _ _ _ _ h, Below.heap_setCell _ _ _ _ h, Below.heap_setCell _ _ _ _ h, Below.heap_setCell _ _ _ _ h, Below.heap_setCell _ _ _ _ h, Below.heap_setCell _ _ _ _ h, Below.heap_setCell _ _ _ _ h]
theorem set8_below {B : Nat} {a w : World} {g o : Nat} {r : Rw} (h : Below B a w) (hg : B ≤ g) : Below B a (set8 w g o r) :=
  bel_set (bel_set (bel_set (bel_set (bel_set (bel_set (bel_set (bel_set h hg) hg) hg) hg) hg) hg) hg) hg
theorem set8_size {w : World} {g o : Nat} {r : Rw} : (set8 w g o r).heap.size = w.heap.size := by simp [set8, World.setCell]
theorem TabAt.drew {w : World} {T B : Nat} {v : Value} {l : List Rw} (h : TabAt w T B v l) : TabAt w.drew T B v l := ⟨h.blk, h.own, h.hT, h.ne⟩
theorem RwAt.drew {w : World} {g o : Nat} {r : Rw} (h : RwAt w g o r) : RwAt w.drew g o r := ⟨h.c0, h.c1, h.c2, h.c3, h.c4, h.c5, h.c6, h.c7⟩
theorem TabAt.drewN {w : World} {T B : Nat} {v : Value} {l : List Rw} (h : TabAt w T B v l) (d : Nat) : TabAt (w.drewN d) T B v l := ⟨h.blk, h.own, h.hT, h.ne⟩
theorem tab_set {w : World} {T B g n cap : Nat} {l : List Rw} (h : TabAt w T B (.slice (some ⟨g, 0, none⟩) n cap) l) (hn : l.length = n) (i : Nat) (hi : i < l.length) (r : Rw) : TabAt (set8 w g (i * 8) r) T B (.slice (some ⟨g, 0, none⟩) n cap) (l.set i r) := by
  subst hn
  refine ⟨?_, ?_, h.hT, h.ne⟩
  · rw [set8_block (fun e => h.ne (by rw [e]; rfl))]; exact h.blk
  · rw [List.length_set]; exact owns_rwset h.own i hi r

set_option maxHeartbeats 4000000 in
set_option maxRecDepth 100000 in
theorem insert_any (T B : Nat) (v : Value) (l : List Rw) (r : Rw) (w : World) (h : TabAt w T B v l) (hn : l.length ≤ 1000) :
    Calls Try.prog 73 #[.pointer (some ⟨T, 0, none⟩), .agg (rwC r)] w fun e w' => e = .returned (.tuple #[]) ∧ ∃ v' m, TabAt w' T B v' (insAt l m r) ∧ m ≤ l.length ∧ (∀ i, m ≤ i → i < l.length → r.key.lt (rwG l i).key) ∧ (0 < m → ¬ r.key.lt (rwG l (m - 1)).key) ∧ Below B w w' := by
  obtain ⟨i0, hi, hz0, hz1, hz2⟩ := infP Try.info54'
  have HT : Hid (TabAt w T B v l) := h
  have qT := h.cell
  have fT := h.frozen
  have hTs := h.lt
  have hTB := h.hT
  have hTw : T ≠ w.heap.size := by omega
  have hTw1 : T ≠ w.heap.size + 1 := by omega
  clear h
  go_enter Try.func73, Try.ntmps73
  go_upto_region 1 with fail
  go_cut [13] from 6 to 15 (fun v' wx => TabAt wx T B v' (l ++ [r]) ∧ Below B w wx ∧ RwAt wx w.heap.size 0 r ∧ w.heap.size < wx.heap.size ∧ v'.ownBlock ≠ some w.heap.size)
  case first =>
    go_region_law (refine stepAppend rfl (.tmp 10) (.tmp 12) 45 rfl B 54 i0 (.agg #[.int .i64 0, .int .u8 0, .int .u8 0, .int .u8 0, .int .i64 0, .int .i64 0, .int .i32 0, .int .i32 0]) 8 40 Try.underlying45 hi hz0 hz1 hz2 rfl (by decide) v l.length (flatR l) (by simp [Act.eval]) ((HT.out.own.alloc _).alloc _) ⟨w.heap.size + 1, 0, none⟩ 1 1 r.cells (by simp [Act.eval]) rfl (newAt _ r.cells 54 _ (by simp)) (Rw.one r) (by unfold maxLen; omega) (by omega) (by simp; omega) ?_; intro v' w3 hown' hgrow hblk; have qT3 : w3.cell? ⟨T, 0, none⟩ = some v := hgrow.cell (cell_alloc2 qT) (fun e => HT.out.ne e.symm); have fT3 : w3.frozen? ⟨T, 0, none⟩ = false := (World.frozen?_of_block (hgrow.block T (by simp; omega) (fun e => HT.out.ne e.symm))).trans (frozen_alloc2 hTs fT); obtain ⟨a', p', rfl⟩ := ownForm hown')
    all_goals (have hg' := gr_undrew hgrow)
    all_goals (have hbw : Below w.heap.size w ((w.alloc (.cells (rwC r) 54)).alloc (.cells r.cells.toArray 54)) := ((Below.refl _ _).alloc (Nat.le_refl _) _).alloc (by simp) _)
    all_goals (have H1 : Hid (TabAt (w3.setCell ⟨T, 0, none⟩ (.slice a' (l.length + 1) p')) T B (.slice a' (l.length + 1) p') (l ++ [r])) := tab_put HT.out hbw hg' hown' hblk)
    all_goals (have H2 : Hid (Below B w (w3.setCell ⟨T, 0, none⟩ (.slice a' (l.length + 1) p'))) := bel_set (gr_below (hbw.mono (by omega)) hg' (by simp; omega) (fun b hb => (HT.out.own.lt b hb).1)) hTB)
    all_goals (have hnb : v.ownBlock ≠ some w.heap.size := fun e => by have := (HT.out.own.lt _ e).2; omega)
    all_goals (have hs3 := hg'.size)
    all_goals (have H3 : Hid (RwAt (w3.setCell ⟨T, 0, none⟩ (.slice a' (l.length + 1) p')) w.heap.size 0 r) := (RwAt.new w r).block (by rw [Below.heap_setCell _ _ _ _ (fun e => hTw e.symm), hg'.block _ (by simp; omega) (fun e => hnb e.symm)]; exact Below.heap_alloc _ _ _ (by simp)))
    all_goals (have H4 : Hid ((Value.slice a' (l.length + 1) p').ownBlock ≠ some w.heap.size) := by (rcases hblk with h | h; (show _ ≠ _; rw [h]; exact hnb); (intro e; have := h _ e; simp at this; omega)))
    all_goals (have H5 : Hid (w.heap.size < (w3.setCell ⟨T, 0, none⟩ (.slice a' (l.length + 1) p')).heap.size) := by (show _ < _; simp [World.setCell] at hs3 ⊢; omega))
    all_goals clear hgrow hg' hblk hown' hbw
    all_goals go_wp2_with fail
    all_goals go_meet
    all_goals (case rel => exact ⟨H1.out, H2.out, H3.out, H5.out, H4.out⟩)
  case rest =>
    obtain ⟨ht, hbc, hrw, hsz, hnb⟩ := hcut
    obtain ⟨g, cap, rfl, hgB, hgs, hcap⟩ := ownBlockForm ht.own (by simp)
    have hgT : g ≠ T := fun e => ht.ne (by rw [e]; rfl)
    have hgw : g ≠ w.heap.size := fun e => hnb (by rw [e]; rfl)
    have HT1 : Hid (TabAt wc T B (.slice (some ⟨g, 0, none⟩) (l.length + 1) cap) (l ++ [r])) := by have := ht; rw [show (l ++ [r]).length = l.length + 1 by simp] at this; exact this
    have HB1 : Hid (Below B w wc) := hbc
    have HR1 : Hid (RwAt wc w.heap.size 0 r) := hrw
    rw [show (l ++ [r]).length = l.length + 1 by simp] at *
    have qc := HT1.out.cell
    clear ht hbc hrw hnb HT qT fT
    go_wp2_with fail
    go_loopw [4] (fun i wr => ∃ m : Nat, i = .int .i64 m ∧ m ≤ l.length ∧ TabAt wr T B (.slice (some ⟨g, 0, none⟩) (l.length + 1) cap) (insAt l m r) ∧ Below B w wr ∧ RwAt wr w.heap.size 0 r ∧ (∀ i, m ≤ i → i < l.length → r.key.lt (rwG l i).key)) (fun i _ => (intOf i).toNat)
    case atStart => exact ⟨l.length, rfl, Nat.le_refl _, by rw [insAt_end]; exact HT1.out, HB1.out, HR1.out, fun i h1 h2 => by omega⟩
    case round =>
      obtain ⟨m, rfl, hm, ht, hbw, hrw, hup⟩ := hrel
      have HT : Hid (TabAt wr T B (.slice (some ⟨g, 0, none⟩) (l.length + 1) cap) (insAt l m r)) := ht
      have HB : Hid (Below B w wr) := hbw
      have HR : Hid (RwAt wr w.heap.size 0 r) := hrw
      have HU : Hid (∀ i, m ≤ i → i < l.length → r.key.lt (rwG l i).key) := hup
      clear HT1 HB1 HR1 qc ht hbw hrw hup
      have hwz := HR.out.lt
      by_cases hm0 : m = 0
      · subst hm0
        go_wp2_with fail
        go_end0
        exact ⟨rfl, _, 0, HT.out, Nat.zero_le _, HU.out, fun h => by omega, HB.out⟩
      · obtain ⟨k, rfl⟩ : ∃ k, m = k + 1 := ⟨m - 1, by omega⟩
        have hil : (insAt l (k + 1) r).length = l.length + 1 := insAt_len l _ r hm
        have HOW : Hid (wr.ownsRow B 54 8 (.slice (some ⟨g, 0, none⟩) (l.length + 1) cap) (l.length + 1) (flatR (insAt l (k + 1) r))) := by have := HT.out.own; rw [hil] at this; exact this
        obtain ⟨a0, a1, a2, a3, a4, a5, a6, a7⟩ := owns_rw HOW.out k (by omega)
        rw [insAt_ahead l k r hm] at a0 a1 a2 a3 a4 a5 a6 a7
        obtain ⟨r0, r1, r2, r3, r4, r5, r6, r7⟩ := HR.out
        simp only [Nat.zero_add] at r1 r2 r3 r4 r5 r6 r7
        have qT := HT.out.cell
        have hgs' := (HOW.out.lt g rfl).2
        generalize hA : rwG l k = A at *
        go_wp2_with fail
        refine (before_any r A _).mono ?_
        rintro e w1 ⟨rfl, hb1⟩
        have hb01 : Below wr.heap.size wr w1 := ((Below.refl _ _).alloc (Nat.le_refl _) _).trans (hb1.mono (by simp))
        have HT2 : Hid (TabAt w1 T B (.slice (some ⟨g, 0, none⟩) (l.length + 1) cap) (insAt l (k + 1) r)) := HT.out.kept hb01
        have HR2 : Hid (RwAt w1 w.heap.size 0 r) := HR.out.below hb01
        have HB2 : Hid (Below B w w1) := HB.out.trans (hb01.mono (by omega))
        have HA2 : Hid (RwAt w1 wr.heap.size 0 A) := (RwAt.new wr A).below hb1
        have hsz1 := hb01.size
        clear hb1 hb01 a0 a1 a2 a3 a4 a5 a6 a7 r0 r1 r2 r3 r4 r5 r6 r7 qT HT HR HB HOW
        cases hbf : decide (r.key.lt A.key)
        · have hnl : ¬ r.key.lt A.key := by simpa using hbf
          go_wp2_with fail
          refine bodyPost_ret (v := .tuple #[]) (by simp [results, Try.results73, go_sem]) rfl ?_
          exact ⟨rfl, _, k + 1, HT2.out, hm, HU.out, fun _ => by rw [show k + 1 - 1 = k by omega, hA]; exact hnl, HB2.out⟩
        · have hl0 : r.key.lt A.key := of_decide_eq_true hbf
          have HL : Hid (r.key.lt A.key) := hl0
          clear hl0
          have HOW : Hid (w1.ownsRow B 54 8 (.slice (some ⟨g, 0, none⟩) (l.length + 1) cap) (l.length + 1) (flatR (insAt l (k + 1) r))) := by have := HT2.out.own; rw [hil] at this; exact this
          have qT := HT2.out.cell
          obtain ⟨a0, a1, a2, a3, a4, a5, a6, a7⟩ := HA2.out
          simp only [Nat.zero_add] at a1 a2 a3 a4 a5 a6 a7
          obtain ⟨x0, x1, x2, x3, x4, x5, x6, x7⟩ := owns_rw HOW.out (k + 1) (by omega)
          have fz := owns_frozen HOW.out
          have hga : g ≠ wr.heap.size := by omega
          clear hbf
          go_upto_region 7 with fail
          go_cut [] from 38 to 44 (fun wx => TabAt wx T B (.slice (some ⟨g, 0, none⟩) (l.length + 1) cap) ((insAt l (k + 1) r).set (k + 1) A) ∧ RwAt wx w.heap.size 0 r ∧ Below B w wx)
          case first =>
            go_region
            all_goals go_wp2_with fail
            all_goals go_meet
            all_goals (case rel => exact ⟨(tab_set HT2.out hil (k + 1) (by omega) A).drew, (HR2.out.block (w' := set8 w1 g ((k + 1) * 8) A) (set8_block (fun e => hgw e.symm))).drew, (set8_below HB2.out hgB).drew⟩)
          case rest =>
            obtain ⟨ht3, hr3, hb3⟩ := hcut
            have HT3 : Hid (TabAt wc T B (.slice (some ⟨g, 0, none⟩) (l.length + 1) cap) ((insAt l (k + 1) r).set (k + 1) A)) := ht3
            have HR3 : Hid (RwAt wc w.heap.size 0 r) := hr3
            have HB3 : Hid (Below B w wc) := hb3
            clear ht3 hr3 hb3 qT a0 a1 a2 a3 a4 a5 a6 a7 x0 x1 x2 x3 x4 x5 x6 x7 fz HOW HT2 HR2 HB2 HA2
            have hil2 : ((insAt l (k + 1) r).set (k + 1) A).length = l.length + 1 := by rw [List.length_set]; exact hil
            have HOW : Hid (wc.ownsRow B 54 8 (.slice (some ⟨g, 0, none⟩) (l.length + 1) cap) (l.length + 1) (flatR ((insAt l (k + 1) r).set (k + 1) A))) := by have := HT3.out.own; rw [hil2] at this; exact this
            have qT := HT3.out.cell
            obtain ⟨r0, r1, r2, r3, r4, r5, r6, r7⟩ := HR3.out
            simp only [Nat.zero_add] at r1 r2 r3 r4 r5 r6 r7
            obtain ⟨x0, x1, x2, x3, x4, x5, x6, x7⟩ := owns_rw HOW.out k (by omega)
            have fz := owns_frozen HOW.out
            have HE : Hid ((((insAt l (k + 1) r).set (k + 1) A).set k r) = insAt l k r) := by show _ = _; rw [← hA]; exact insAt_down l k r hm
            go_upto_region 8 with fail
            go_region
            all_goals go_wp2_with fail
            all_goals refine ⟨⟨k, by go_num, by omega, by have := (tab_set HT3.out hil2 k (by omega) r).drew; rw [HE.out] at this; exact this, (set8_below HB3.out hgB).drew, (HR3.out.block (w' := set8 wc g (k * 8) r) (set8_block (fun e => hgw e.symm))).drew, fun i h1 h2 => ?_⟩, by simp [intOf]⟩
            all_goals by_cases e : i = k
            all_goals first | (subst e; rw [hA]; exact HL.out) | exact HU.out i (by omega) h2

end Go.Proofs.Ythciddpljcbhiab

/- Walks: a value put to the row of its step and group. -/
namespace Go.Proofs.Ythciddpljcbhiab
open Go Go.RowKit

/-- Rows whose numbers are small enough to add to. -/
def SmallR (l : List Rw) : Prop := ∀ i, i < l.length → 0 ≤ (rwG l i).ag.cnt ∧ (rwG l i).ag.cnt ≤ 1000000 ∧ -4000000000000000 ≤ (rwG l i).ag.sum ∧ (rwG l i).ag.sum ≤ 4000000000000000

theorem key_ne {a : Rw} {st : Int} {g : Lb} (h : (a.key.st == st) = false ∨ (a.key.g0 == g.a && a.key.g1 == g.b && a.key.g2 == g.c) = false) : a.key ≠ ⟨st, g.a, g.b, g.c⟩ := by
  intro e
  rw [e] at h
  simp at h
theorem key_eq {a : Rw} {st : Int} {g : Lb} (h1 : (a.key.st == st) = true) (h2 : (a.key.g0 == g.a && a.key.g1 == g.b && a.key.g2 == g.c) = true) : a.key = ⟨st, g.a, g.b, g.c⟩ := by
  simp only [Bool.and_eq_true, beq_iff_eq] at h1 h2
  exact Key.ext' h1 h2.1.1 h2.1.2 h2.2

theorem TabAt.kept' {W w w' : World} {T B : Nat} {v : Value} {l : List Rw} (hb : Below W.heap.size W w') (he : W.heap = w.heap) (h : TabAt w T B v l) : TabAt w' T B v l := by
  have h' : TabAt W T B v l := ⟨by rw [he]; exact h.blk, ⟨h.own.1, by rw [he]; exact h.own.2⟩, h.hT, h.ne⟩
  exact h'.kept hb
theorem below_heap {W w w0 w' : World} {B : Nat} (hb : Below W.heap.size W w') (h : Below B w0 w) (he : W.heap = w.heap) (ho : W.os = w.os) (ht : W.tape = w.tape) (hu : W.output = w.output) (hB : B ≤ w.heap.size) : Below B w0 w' :=
  h.trans (b := w) ⟨hb.os.trans ho, hb.tape.trans ht, hb.output.trans hu, by rw [← he]; exact hb.size, fun k hk => by rw [← he]; exact hb.block k (by rw [he]; omega)⟩

set_option maxHeartbeats 4000000 in
set_option maxRecDepth 100000 in
theorem add_any (T B : Nat) (v : Value) (l : List Rw) (st val : Int) (q : Lb) (w : World) (h : TabAt w T B v l) (hn : l.length ≤ 1000) (hup : l.Pairwise fun a b => a.key.lt b.key) (hs : SmallR l) (v0 : -2147483648 ≤ val) (v1 : val ≤ 2147483647) :
    Calls Try.prog 57 #[.pointer (some ⟨T, 0, none⟩), .int .i64 st, .agg (lbA q), .int .i32 val] w fun e w' => e = .returned (.tuple #[]) ∧ ∃ v', TabAt w' T B v' (addR l ⟨st, q.a, q.b, q.c⟩ val) ∧ Below B w w' := by
  have HT : Hid (TabAt w T B v l) := h
  have HU : Hid (l.Pairwise fun a b => a.key.lt b.key) := hup
  have HS : Hid (SmallR l) := hs
  have qT := h.cell
  have hTs := h.lt
  have hTB := h.hT
  obtain ⟨a0, cap, rfl⟩ := ownForm h.own
  clear h hup hs
  go_enter Try.func57, Try.ntmps57
  go_wp2_with fail
  go_loopw [8] (fun i wr => ∃ k : Nat, i = .int .i64 k ∧ k ≤ l.length ∧ (∀ j, j < k → (rwG l j).key ≠ ⟨st, q.a, q.b, q.c⟩) ∧ ∃ d, wr = (w.alloc (c3 q.a q.b q.c)).drewN d) (fun i _ => l.length - (intOf i).toNat)
  case atStart => exact ⟨0, rfl, Nat.zero_le _, fun j hj => by omega, 0, rfl⟩
  case round =>
    obtain ⟨k, rfl, hk, hno, d, rfl⟩ := hrel
    have HN : Hid (∀ j, j < k → (rwG l j).key ≠ ⟨st, q.a, q.b, q.c⟩) := hno
    clear hno
    by_cases hlt : k < l.length
    · obtain ⟨g, cap', he, hgB, hgs, hcap⟩ := ownBlockForm HT.out.own (by omega)
      obtain ⟨rfl, rfl⟩ : a0 = some ⟨g, 0, none⟩ ∧ cap = cap' := by injection he with h1 h2 h3; exact ⟨h1, h3⟩
      have hgT : g ≠ T := fun e => HT.out.ne (by rw [e]; rfl)
      obtain ⟨x0, x1, x2, x3, x4, x5, x6, x7⟩ := owns_rw HT.out.own k hlt
      have hSm := HS.out k hlt
      generalize hA : rwG l k = A at *
      have heq := fun w => eq26 9998 A.key.g0 A.key.g1 A.key.g2 q.a q.b q.c w
      cases e1 : (A.key.st == st)
      · go_wp2_with fail
        go_quiet (fail)
        go_wp2_with fail
        exact ⟨⟨k + 1, by go_num, by omega, upto_succ HN.out (by rw [hA]; exact key_ne (.inl e1)), _, rfl⟩, by simp [intOf]; omega⟩
      · cases e2 : (A.key.g0 == q.a && A.key.g1 == q.b && A.key.g2 == q.c)
        · rw [e2] at heq
          go_wp2_with fail
          go_quiet (fail)
          go_wp2_with fail
          exact ⟨⟨k + 1, by go_num, by omega, upto_succ HN.out (by rw [hA]; exact key_ne (.inr e2)), _, rfl⟩, by simp [intOf]; omega⟩
        · rw [e2] at heq
          have HK : Hid (A.key = ⟨st, q.a, q.b, q.c⟩) := key_eq e1 e2
          have HE : Hid (addR l ⟨st, q.a, q.b, q.c⟩ val = l.set k (withR A val)) := by
            show _ = _
            rw [addR_found k HU.out hlt (by rw [hA]; exact HK.out), hA]
            unfold withR
            rw [HK.out]
          go_wp2_with fail
          go_quiet (fail)
          clear heq
          have HTw : Hid (TabAt (w.alloc (c3 q.a q.b q.c)) T B (.slice (some ⟨g, 0, none⟩) l.length cap) l) := HT.out.kept ((Below.refl _ _).alloc (Nat.le_refl _) _)
          have HBw : Hid (Below B w (w.alloc (c3 q.a q.b q.c))) := (Below.refl _ _).alloc (by omega) _
          go_upto_region 5 with fail
          go_region_with (go_at_call 72; refine (with_any A val _ hSm.1 hSm.2.1 hSm.2.2.1 hSm.2.2.2 v0 v1).mono ?_; rintro e w' ⟨rfl, hb'⟩; have ht' : Hid (TabAt w' T B (.slice (some ⟨g, 0, none⟩) l.length cap) l) := TabAt.kept' (w := w.alloc (c3 q.a q.b q.c)) hb' rfl HTw.out; have hbw' : Hid (Below B w w') := below_heap (w := w.alloc (c3 q.a q.b q.c)) hb' HBw.out rfl rfl rfl rfl (by simp; omega); obtain ⟨y0, y1, y2, y3, y4, y5, y6, y7⟩ := owns_rw ht'.out.own k hlt; have fz := owns_frozen ht'.out.own; have qT' := ht'.out.cell; clear hb')
          all_goals go_wp2_with fail
          all_goals refine bodyPost_ret (v := .tuple #[]) (by simp [results, Try.results57, go_sem]) rfl ?_
          all_goals first
            | exact ⟨rfl, _, by rw [HE.out]; exact tab_set ht'.out rfl k hlt (withR A val), set8_below hbw'.out hgB⟩
            | exact ⟨rfl, _, by rw [HE.out]; exact (tab_set ht'.out rfl k hlt (withR A val)).drew, (set8_below hbw'.out hgB).drew⟩
    · have hke : k = l.length := by omega
      have HTw : Hid (TabAt ((w.alloc (c3 q.a q.b q.c)).drewN d) T B (.slice a0 l.length cap) l) := (HT.out.kept ((Below.refl _ _).alloc (Nat.le_refl _) _)).drewN d
      have HBw : Hid (Below B w ((w.alloc (c3 q.a q.b q.c)).drewN d)) := below_drewN ((Below.refl _ _).alloc (by omega) _) d
      go_wp2_with fail
      refine (insert_any T B (.slice a0 l.length cap) l ⟨⟨st, q.a, q.b, q.c⟩, .one val⟩ _ HTw.out hn).mono ?_
      rintro e w1 ⟨rfl, v', m, ht', hm, ha, hb, hbel⟩
      have HE : Hid (addR l ⟨st, q.a, q.b, q.c⟩ val = insAt l m ⟨⟨st, q.a, q.b, q.c⟩, .one val⟩) := addR_at HU.out val (fun i hi => HN.out i (by omega)) hm ha hb
      have HT' : Hid (TabAt w1 T B v' (addR l ⟨st, q.a, q.b, q.c⟩ val)) := by show TabAt _ _ _ _ _; rw [HE.out]; exact ht'
      have HB' : Hid (Below B w w1) := HBw.out.trans hbel
      clear ht' ha hb hbel
      go_wp2_with fail
      go_end0
      exact ⟨rfl, v', HT'.out, HB'.out⟩

end Go.Proofs.Ythciddpljcbhiab
