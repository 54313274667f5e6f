/- Texts of one claim put together: Fin, WhA, UnA, UnSpec, WhSpec, UnB, UnC, SmH, UnD, WhB, Wts, Sha, LvC, Han, Cfg, Ope, Stc. -/
import Derived.Test.YthciddpljcbhiabB3
import Derived.Deep.RegionHeld3
import Derived.Test.YthciddpljcbhiabB1
import Derived.Test.YthciddpljcbhiabA
import Derived.Laws.BitsAllLaws
import Derived.Deep.DeepCutAuto
import Derived.Deep.DrawnRows
import Derived.Test.YthciddpljcbhiabB2
import Derived.Deep.RegionLaw
import Derived.Deep.CutBlock
import Derived.Test.YthciddpljcbhiabProg

/- Walks: may a batch be accepted? (garnerkeep) -/
namespace Go.Proofs.Ythciddpljcbhiab
open Go Go.RowKit

theorem fineB_len {s : St} {ls : List Sm} (h : ¬ (1 ≤ ls.length ∧ ls.length ≤ 8 ∧ s.l.length + ls.length ≤ 500)) : fineB s ls = false := by
  apply no_of
  intro hf
  simp only [fineB, Bool.and_eq_true, decide_eq_true_eq] at hf
  exact h ⟨hf.1.1.1, hf.1.1.2, hf.1.2⟩
theorem fineB_no {s : St} {ls : List Sm} {k : Nat} (hk : k < ls.length) (h : fine1 s (smG ls k) = false) : fineB s ls = false := by
  unfold fineB
  rw [all_false k hk h]
  simp
theorem fineB_yes {s : St} {ls : List Sm} (h : 1 ≤ ls.length ∧ ls.length ≤ 8 ∧ s.l.length + ls.length ≤ 500) (ha : ∀ k, k < ls.length → fine1 s (smG ls k) = true) : fineB s ls = true := by
  unfold fineB
  rw [all_true ha]
  simp [h.1, h.2.1, h.2.2]
theorem len_parts {n m : Nat} (h : ¬ (1 ≤ n ∧ n ≤ 8 ∧ m + n ≤ 500)) : ((n : Int) < 1) ∨ (1 ≤ (n : Int) ∧ 8 < (n : Int)) ∨ (1 ≤ (n : Int) ∧ (n : Int) ≤ 8 ∧ 500 < (m : Int) + (n : Int)) := by omega
theorem lab_bad {b : Int} (h : labB b = false) : (b != 45) = true ∧ (b < 97 ∨ 122 < b) := by
  simp [labB, letB] at h
  refine ⟨by simpa using h.1, ?_⟩
  have := h.2
  omega
theorem lab_good {b : Int} (h : labB b = true) : b = 45 ∨ (97 ≤ b ∧ b ≤ 122) := by simpa [labB, letB] using h

set_option maxHeartbeats 4000000 in
set_option maxRecDepth 100000 in
theorem fine_any (D X : Nat) (s : St) (L ln lcap : Nat) (sa : Option Addr) (sc : Nat) (a : Option Addr) (n cap : Nat) (ls : List Sm) (w : World) (hI : Inv s) (hD : w.heap[D]? = some (.cells (dkC X s L ln lcap (.slice sa s.l.length sc)) 31 (0, 0))) (hs : IsSms w a n ls) (hn : n ≤ maxLen) :
    Calls Try.prog 14 #[.pointer (some ⟨D, 0, none⟩), .slice a n cap] w fun e w' => e = .returned (.bool (fineB s ls)) ∧ ∃ d, w' = w.drewN d := by
  have HI : Hid (Inv s) := hI
  have HD : Hid (w.heap[D]? = some (.cells (dkC X s L ln lcap (.slice sa s.l.length sc)) 31 (0, 0))) := hD
  have d4 : w.cell? ⟨D, 4, none⟩ = some (.int .i64 s.now) := cell_blk' hD rfl
  have d5 : w.cell? ⟨D, 5, none⟩ = some (.slice sa s.l.length sc) := cell_blk' hD rfl
  have l5 := hI.len
  have HL : Hid (ls.length = n) := hs.1
  have HS : Hid (IsSms w a n ls) := hs
  have HOL : Hid (∀ d, Calls Try.prog 27 #[.pointer (some ⟨D, 0, none⟩)] (w.drewN d) fun e w' => e = .returned (.int .i64 (oldT s)) ∧ ∃ k, w' = (w.drewN d).drewN k) := fun d => oldest_any D X s L ln lcap _ (w.drewN d) HI.out HD.out
  unfold maxLen at hn
  clear hI hD hs
  by_cases hf : 1 ≤ n ∧ n ≤ 8 ∧ s.l.length + n ≤ 500
  · obtain ⟨f1, f2, f3⟩ := hf
    have HF3 : Hid (1 ≤ ls.length ∧ ls.length ≤ 8 ∧ s.l.length + ls.length ≤ 500) := by rw [HL.out]; exact ⟨f1, f2, f3⟩
    obtain ⟨b, off, rfl, hat⟩ := HS.out.2 (by omega)
    have HAT : Hid (SmAt w b off ls) := hat
    have g1 : ¬ (n : Int) < 1 := by omega
    have g2 : ¬ 8 < (n : Int) := by omega
    have g3 : ¬ 500 < (s.l.length : Int) + (n : Int) := by omega
    clear hat
    go_enter Try.func14, Try.ntmps14
    go_wp2_with fail
    go_loopw [5] (fun i wr => ∃ k : Nat, i = .int .i64 k ∧ k ≤ n ∧ (∀ j, j < k → fine1 s (smG ls j) = true) ∧ ∃ d, wr = w.drewN d) (fun i _ => n - (intOf i).toNat)
    case atStart => exact ⟨0, rfl, Nat.zero_le _, fun j hj => by omega, 0, rfl⟩
    case round =>
      obtain ⟨k, rfl, hk, hall, d, rfl⟩ := hrel
      have HA : Hid (∀ j, j < k → fine1 s (smG ls j) = true) := hall
      clear hall
      by_cases hlt : k < n
      · obtain ⟨m0, m1, m2, m3, _⟩ := HAT.out k (by rw [HL.out]; exact hlt)
        have HNO : Hid (fine1 s (smG ls k) = false → fineB s ls = false) := fineB_no (by rw [HL.out]; exact hlt)
        have HDEF : Hid (fine1 s (smG ls k) = (decide ((smG ls k).time ≤ s.now) && decide (oldT s ≤ (smG ls k).time) && lab3 (smG ls k).l0 (smG ls k).l1 (smG ls k).l2)) := rfl
        generalize hZ : smG ls k = Z at *
        go_upto_region 6 with fail
        go_cut [52] from 33 to 52 (fun v wx => v = .bool (decide (s.now < Z.time) || decide (Z.time < oldT s)) ∧ ∃ d, wx = w.drewN d)
        case first =>
          by_cases hgt : s.now < Z.time
          · have hgb : decide (s.now < Z.time) = true := by simpa using hgt
            go_quiet (fail)
            go_wp2_with fail
            go_meet
            case rel => exact ⟨by rw [hgb]; rfl, _, World.drewN_drewN _ _ _⟩
          · have hgb : decide (s.now < Z.time) = false := by simpa using hgt
            go_region_held3 (fun w' => w'.cell? ⟨D, 4, none⟩ = some (.int .i64 s.now) ∧ w'.cell? ⟨b, off + k * 5, none⟩ = some (.int .i64 Z.time)) (first | exact ⟨d4, m0⟩)
              (first | (go_at_call 27; refine (HOL.out _).mono ?_; rintro e w' ⟨rfl, kk, rfl⟩))
            all_goals go_wp2_with fail
            all_goals go_meet
            all_goals (case rel => first | exact ⟨by rw [hgb]; rfl, _, rfl⟩ | exact ⟨by rw [hgb]; rfl, _, World.drewN_drewN _ _ _⟩)
        case rest =>
          obtain ⟨rfl, d2, rfl⟩ := hcut
          cases hb : (decide (s.now < Z.time) || decide (Z.time < oldT s))
          · have hb2 : ¬ s.now < Z.time ∧ ¬ Z.time < oldT s := by simpa using hb
            have HF : Hid (fine1 s Z = lab3 Z.l0 Z.l1 Z.l2) := by show _ = _; rw [HDEF.out]; simp [show Z.time ≤ s.now by omega, show oldT s ≤ Z.time by omega]
            have hcell : ∀ j, j < 3 → w.cell? ⟨b, off + k * 5 + 1 + j, none⟩ = some (.int .u8 (tri Z.l0 Z.l1 Z.l2 j)) := by
              intro j hj
              have : j = 0 ∨ j = 1 ∨ j = 2 := by omega
              rcases this with rfl | rfl | rfl
              · exact m1
              · exact m2
              · exact m3
            have HCE : Hid (∀ j, j < 3 → w.cell? ⟨b, off + k * 5 + 1 + j, none⟩ = some (.int .u8 (tri Z.l0 Z.l1 Z.l2 j))) := hcell
            clear hb hb2 hcell m0 m1 m2 m3
            go_wp2_with fail
            go_loop [6, 7] (fun j _ => ∃ i : Nat, j = .int .i64 i ∧ i ≤ 3 ∧ ∀ q, q < i → labB (tri Z.l0 Z.l1 Z.l2 q) = true) (fun j _ => 3 - (intOf j).toNat)
            case atStart => exact ⟨0, rfl, Nat.zero_le _, fun q hq => by omega⟩
            case round =>
              obtain ⟨i, rfl, hi, hla⟩ := hrel
              have HLA : Hid (∀ q, q < i → labB (tri Z.l0 Z.l1 Z.l2 q) = true) := hla
              clear hla
              by_cases hi3 : i < 3
              · have hc := HCE.out i hi3
                cases hL : labB (tri Z.l0 Z.l1 Z.l2 i)
                · have HR : Hid (fineB s ls = false) := HNO.out (by rw [HF.out]; exact lab3_false i hi3 hL)
                  obtain ⟨e1, e2⟩ := lab_bad hL
                  generalize tri Z.l0 Z.l1 Z.l2 i = V at *
                  rcases e2 with e2 | e2
                  · go_wp2_with fail
                    go_ret
                    exact ⟨ret_bool HR.out.symm, _, rfl⟩
                  · have e3 : ¬ V < 97 := by omega
                    go_wp2_with fail
                    go_ret
                    exact ⟨ret_bool HR.out.symm, _, rfl⟩
                · have HLL : Hid (labB (tri Z.l0 Z.l1 Z.l2 i) = true) := hL
                  have hg := lab_good hL
                  generalize hV : tri Z.l0 Z.l1 Z.l2 i = V at *
                  rcases hg with hg | ⟨e1, e2⟩
                  · subst hg
                    go_wp2_with fail
                    exact ⟨⟨i + 1, by go_num, by omega, upto_succ HLA.out (by rw [hV]; exact HLL.out)⟩, by simp [intOf]; omega⟩
                  · have e3 : (V != 45) = true := by simp; omega
                    have e4 : ¬ V < 97 := by omega
                    have e5 : ¬ 122 < V := by omega
                    go_wp2_with fail
                    exact ⟨⟨i + 1, by go_num, by omega, upto_succ HLA.out (by rw [hV]; exact HLL.out)⟩, by simp [intOf]; omega⟩
              · have HY : Hid (fine1 s Z = true) := by show _ = _; rw [HF.out]; exact lab3_true (fun q hq => HLA.out q (by omega))
                go_wp2_with fail
                exact ⟨⟨k + 1, by go_num, by omega, upto_succ HA.out (by rw [hZ]; exact HY.out), _, rfl⟩, by simp [intOf]; omega⟩
          · have hb2 : s.now < Z.time ∨ Z.time < oldT s := by simpa using hb
            have HR : Hid (fineB s ls = false) := HNO.out (by
              rw [HDEF.out]
              rcases hb2 with h | h
              · simp [show ¬ Z.time ≤ s.now by omega]
              · simp [show ¬ oldT s ≤ Z.time by omega])
            clear hb2 hb
            go_wp2_with fail
            go_ret
            exact ⟨ret_bool HR.out.symm, _, rfl⟩
      · have HY : Hid (fineB s ls = true) := fineB_yes HF3.out (fun j hj => HA.out j (by rw [HL.out] at hj; omega))
        go_wp2_with fail
        go_ret
        exact ⟨ret_bool HY.out.symm, d, rfl⟩
  · have HN0 : Hid (fineB s ls = false) := fineB_len (by rw [HL.out]; exact hf)
    rcases len_parts hf with h | ⟨h, h'⟩ | ⟨h, h', h''⟩
    all_goals clear hf
    all_goals go_enter Try.func14, Try.ntmps14
    all_goals go_wp2_with fail
    all_goals go_ret
    all_goals exact ⟨ret_bool HN0.out.symm, 0, rfl⟩

end Go.Proofs.Ythciddpljcbhiab

/- Walks: numbers and labels made right (pick, labels of garnerkeep). -/
namespace Go.Proofs.Ythciddpljcbhiab
open Go.RowKit

theorem pick_any (c n : Int) (w : World) (hc0 : -9223372036854775808 ≤ c) (hc1 : c ≤ 9223372036854775807) (hn : 0 < n) (hn1 : n ≤ 9223372036854775807) :
    Calls Try.prog 12 #[.int .i64 c, .int .i64 n] w fun e w' => e = .returned (.int .i64 (pk c n)) ∧ w' = w := by
  have e : ∀ x y : Int, x = y → Ending.returned (.int .i64 x) = Ending.returned (.int .i64 y) := fun x y h => by rw [h]
  have HE : Hid (∀ x y : Int, x = y → Ending.returned (.int .i64 x) = Ending.returned (.int .i64 y)) := e
  clear e
  by_cases h : c < 0
  · have HP : Hid (pk c n = (-(c + 1)) % n) := by show _ = _; simp [pk, h]
    go_enter Try.func12, Try.ntmps12
    go_wp2
    go_ret
    exact ⟨HE.out _ _ (by rw [HP.out, ← Int.neg_tmod, Int.tmod_eq_emod_of_nonneg (by omega)]), rfl⟩
  · have HP : Hid (pk c n = c % n) := by show _ = _; simp [pk, h]
    go_enter Try.func12, Try.ntmps12
    go_wp2
    go_ret
    exact ⟨HE.out _ _ (by rw [HP.out]), rfl⟩

theorem lbB_lab (b : Int) : labB (lbB b) = true := by
  unfold lbB
  have h0 : 0 ≤ b % 27 := by omega
  have h1 : b % 27 < 27 := by omega
  split
  · rfl
  · simp [labB, letB]; omega

theorem lb_fin : ∀ r : Fin 27, ((((⟨#[97, 98, 99, 100, 101, 102, 103, 104, 105, 106, 107, 108, 109, 110, 111, 112, 113, 114, 115, 116, 117, 118, 119, 120, 121, 122, 45]⟩ : ByteArray)[r.val]'(show r.val < 27 from r.isLt)).toNat : Nat) : Int) = if r.val = 26 then 45 else 97 + (r.val : Int) := by decide
theorem lb_get (b : Int) (h : (b % 27).toNat < (⟨#[97, 98, 99, 100, 101, 102, 103, 104, 105, 106, 107, 108, 109, 110, 111, 112, 113, 114, 115, 116, 117, 118, 119, 120, 121, 122, 45]⟩ : ByteArray).size) : ((((⟨#[97, 98, 99, 100, 101, 102, 103, 104, 105, 106, 107, 108, 109, 110, 111, 112, 113, 114, 115, 116, 117, 118, 119, 120, 121, 122, 45]⟩ : ByteArray)[(b % 27).toNat]'h).toNat : Nat) : Int) = lbB b := by
  have h' : (b % 27).toNat < 27 := by omega
  have := lb_fin ⟨(b % 27).toNat, h'⟩
  simp only at this
  refine this.trans ?_
  unfold lbB
  by_cases e : b % 27 = 26
  · rw [if_pos (by omega), if_pos e]
  · rw [if_neg (by omega), if_neg e]; omega
theorem wEqL {w : World} {o : Obj} {a b c a' b' c' : Int} (h : a = a') (h1 : b = b') (h2 : c = c') : (w.alloc (.cells #[.int .u8 a, .int .u8 b, .int .u8 c] 52)).alloc o = (w.alloc (.cells #[.int .u8 a', .int .u8 b', .int .u8 c'] 52)).alloc o := by rw [h, h1, h2]

set_option maxRecDepth 100000 in
theorem labels_any (a b c : Int) (w : World) (ha : 0 ≤ a ∧ a ≤ 255) (hb : 0 ≤ b ∧ b ≤ 255) (hc : 0 ≤ c ∧ c ≤ 255) :
    Calls Try.prog 38 #[.agg #[.int .u8 a, .int .u8 b, .int .u8 c]] w fun e w' => e = .returned (.agg #[.int .u8 (lbB a), .int .u8 (lbB b), .int .u8 (lbB c)]) ∧ Below w.heap.size w w' := by
  obtain ⟨ha0, ha1⟩ := ha
  obtain ⟨hb0, hb1⟩ := hb
  obtain ⟨hc0, hc1⟩ := hc
  go_enter Try.func38, Try.ntmps38
  go_wp2
  go_loopw [3] (fun i wr => (i = .int .i64 0 ∧ wr = (w.alloc (.cells #[.int .u8 a, .int .u8 b, .int .u8 c] 52)).alloc (.cells #[.int .u8 0, .int .u8 0, .int .u8 0] 52)) ∨ (i = .int .i64 1 ∧ wr = (w.alloc (.cells #[.int .u8 (lbB a), .int .u8 b, .int .u8 c] 52)).alloc (.cells #[.int .u8 0, .int .u8 0, .int .u8 0] 52))
     ∨ (i = .int .i64 2 ∧ wr = (w.alloc (.cells #[.int .u8 (lbB a), .int .u8 (lbB b), .int .u8 c] 52)).alloc (.cells #[.int .u8 0, .int .u8 0, .int .u8 0] 52)) ∨ (i = .int .i64 3 ∧ wr = (w.alloc (.cells #[.int .u8 (lbB a), .int .u8 (lbB b), .int .u8 (lbB c)] 52)).alloc (.cells #[.int .u8 0, .int .u8 0, .int .u8 0] 52))) (fun i _ => 3 - (intOf i).toNat)
  case atStart => exact Or.inl ⟨rfl, rfl⟩
  case round =>
    rcases hrel with ⟨rfl, rfl⟩ | ⟨rfl, rfl⟩ | ⟨rfl, rfl⟩ | ⟨rfl, rfl⟩
    · go_wp2
      exact ⟨Or.inr (Or.inl ⟨rfl, wEqL (lb_get a _) rfl rfl⟩), by simp [intOf]⟩
    · go_wp2
      exact ⟨Or.inr (Or.inr (Or.inl ⟨rfl, wEqL rfl (lb_get b _) rfl⟩)), by simp [intOf]⟩
    · go_wp2
      exact ⟨Or.inr (Or.inr (Or.inr ⟨rfl, wEqL rfl rfl (lb_get c _)⟩)), by simp [intOf]⟩
    · go_wp2
      go_returns
      exact ⟨rfl, by go_grown⟩

end Go.Proofs.Ythciddpljcbhiab

/- Walks: numbers read from bytes, by the program and by the document's answer. -/
namespace Go.Proofs.Ythciddpljcbhiab
open Go.RowKit

/-- Four bytes as a number, the low one first. -/
def num4 (s : ByteArray) (p : Nat) : Int := byt s p + 256 * (byt s (p + 1) + 256 * (byt s (p + 2) + 256 * byt s (p + 3)))
theorem num4_range (s : ByteArray) (p : Nat) : 0 ≤ num4 s p ∧ num4 s p < 4294967296 := by
  have h0 := byt_range s p
  have h1 := byt_range s (p + 1)
  have h2 := byt_range s (p + 2)
  have h3 := byt_range s (p + 3)
  unfold num4; omega
theorem or8 (q b : Int) (h0 : 0 ≤ q) (h1 : q < 16777216) (hb0 : 0 ≤ b) (hb1 : b ≤ 255) : bits .or .u32 (q * 256) (b % 4294967296) = b + 256 * q := by
  rw [show b % 4294967296 = b by omega, u32_or _ _ (by omega) (by omega) hb0 (by omega)]
  have e : (q * 256).toNat = 2 ^ 8 * q.toNat := by omega
  rw [e, ← Nat.two_pow_add_eq_or_of_lt (show b.toNat < 2 ^ 8 by omega)]
  omega

set_option maxHeartbeats 400000 in
set_option maxRecDepth 100000 in
theorem readNumber_any (s : ByteArray) (p : Nat) (w : World) (hs : s.size ≤ maxLen) (hp : p + 4 ≤ s.size) :
    Calls Try.prog 79 #[.string s, .int .i64 p] w fun e w' => e = .returned (.int .u32 (num4 s p)) ∧ w' = w := by
  unfold maxLen at hs
  obtain ⟨a0, a1⟩ := byt_range s (p + 3)
  obtain ⟨b0, b1⟩ := byt_range s (p + 2)
  obtain ⟨c0, c1⟩ := byt_range s (p + 1)
  obtain ⟨d0, d1⟩ := byt_range s p
  have B3 : Hid (((s[p + 3].toNat : Nat) : Int) = byt s (p + 3)) := byt_eq s (p + 3) (by omega)
  have B2 : Hid (((s[p + 2].toNat : Nat) : Int) = byt s (p + 2)) := byt_eq s (p + 2) (by omega)
  have B1 : Hid (((s[p + 1].toNat : Nat) : Int) = byt s (p + 1)) := byt_eq s (p + 1) (by omega)
  have B0 : Hid (((s[p].toNat : Nat) : Int) = byt s p) := byt_eq s p (by omega)
  have e : ∀ x y : Int, x = y → Value.int IntKind.u32 x = .int .u32 y := fun x y h => by rw [h]
  have HE := e
  clear e
  have HE' : Hid (∀ x y : Int, x = y → Value.int IntKind.u32 x = .int .u32 y) := HE
  clear HE
  have hn0 : (0 : Int) ≤ p := by omega
  have hn1 : (p : Int) ≤ (s.size : Int) - 4 := by omega
  go_enter Try.func79, Try.ntmps79
  go_wp2
  go_loop [5, 6] (fun n i => (i = .int .i64 3 ∧ n = .int .u32 0) ∨ (i = .int .i64 2 ∧ n = .int .u32 (byt s (p + 3))) ∨ (i = .int .i64 1 ∧ n = .int .u32 (byt s (p + 2) + 256 * byt s (p + 3)))
    ∨ (i = .int .i64 0 ∧ n = .int .u32 (byt s (p + 1) + 256 * (byt s (p + 2) + 256 * byt s (p + 3)))) ∨ (i = .int .i64 (-1) ∧ n = .int .u32 (num4 s p))) (fun _ i => (intOf i + 1).toNat)
  case atStart => exact Or.inl ⟨rfl, rfl⟩
  case round =>
    rcases hrel with ⟨rfl, rfl⟩ | ⟨rfl, rfl⟩ | ⟨rfl, rfl⟩ | ⟨rfl, rfl⟩ | ⟨rfl, rfl⟩
    · go_wp2
      refine ⟨Or.inr (Or.inl ⟨rfl, HE'.out _ _ ?_⟩), by simp [intOf]⟩
      rw [B3.out]
      have := or8 0 (byt s (p + 3)) (by omega) (by omega) a0 a1
      simpa using this
    · go_wp2
      refine ⟨Or.inr (Or.inr (Or.inl ⟨rfl, HE'.out _ _ ?_⟩)), by simp [intOf]⟩
      rw [B2.out]
      exact or8 _ _ (by omega) (by omega) b0 b1
    · generalize hq : byt s (p + 2) + 256 * byt s (p + 3) = q at *
      have hq0 : 0 ≤ q := by omega
      have hq1 : q ≤ 65535 := by omega
      clear hq
      go_wp2
      refine ⟨Or.inr (Or.inr (Or.inr (Or.inl ⟨rfl, HE'.out _ _ ?_⟩))), by simp [intOf]⟩
      rw [B1.out]
      exact or8 _ _ (by omega) (by omega) c0 c1
    · generalize hq : byt s (p + 1) + 256 * (byt s (p + 2) + 256 * byt s (p + 3)) = q at *
      have hq0 : 0 ≤ q := by omega
      have hq1 : q ≤ 16777215 := by omega
      have HQ : Hid (num4 s p = byt s p + 256 * q) := by show _ = _; unfold num4; rw [hq]
      clear hq
      go_wp2
      refine ⟨Or.inr (Or.inr (Or.inr (Or.inr ⟨rfl, HE'.out _ _ ?_⟩))), by simp [intOf]⟩
      rw [HQ.out, B0.out]
      exact or8 _ _ (by omega) (by omega) d0 d1
    · go_wp2
      go_ret
      exact ⟨rfl, rfl⟩
end Go.Proofs.Ythciddpljcbhiab

/- Reading a record, plainly (no program). -/
namespace Go.Proofs.Ythciddpljcbhiab
open Go Go.RowKit

def cN (s : ByteArray) : Nat := (byt s 1).toNat
theorem cN_eq (s : ByteArray) : ((cN s : Nat) : Int) = byt s 1 := by unfold cN; have := byt_range s 1; omega
/-- s begins with a whole record of a Write but for its samples. -/
def headOk (s : ByteArray) : Bool :=
  decide (2 ≤ s.size) && decide (byt s 0 = 87) && decide (1 ≤ cN s) && decide (cN s ≤ 8) && decide (6 + 11 * cN s ≤ s.size) && decide (num4 s (2 + 11 * cN s) = chk ((nums s).take (2 + 11 * cN s)))
theorem headOk_iff (s : ByteArray) : headOk s = true ↔ 2 ≤ s.size ∧ byt s 0 = 87 ∧ 1 ≤ cN s ∧ cN s ≤ 8 ∧ 6 + 11 * cN s ≤ s.size ∧ num4 s (2 + 11 * cN s) = chk ((nums s).take (2 + 11 * cN s)) := by
  simp [headOk, and_assoc]

def sval (v : Int) : Int := if 2147483648 ≤ v then v - 4294967296 else v
/-- The sample whose bytes begin at a place. -/
def smR (s : ByteArray) (p : Nat) : Sm := ⟨num4 s p, byt s (p + 4), byt s (p + 5), byt s (p + 6), sval (num4 s (p + 7))⟩
def smsR (s : ByteArray) (c : Nat) : List Sm := (List.range c).map fun i => smR s (2 + 11 * i)
theorem smsR_len (s : ByteArray) (c : Nat) : (smsR s c).length = c := by simp [smsR]
theorem smsR_get (s : ByteArray) (c i : Nat) (h : i < c) : smG (smsR s c) i = smR s (2 + 11 * i) := by simp [smG, smsR, List.getD, h]
theorem smsR_succ (s : ByteArray) (c : Nat) : smsR s (c + 1) = smsR s c ++ [smR s (2 + 11 * c)] := by simp [smsR, List.range_succ]
theorem sval_range {v : Int} (h : 0 ≤ v ∧ v < 4294967296) : -2147483648 ≤ sval v ∧ sval v ≤ 2147483647 := by unfold sval; split <;> omega
theorem uval_sval {v : Int} (h : 0 ≤ v ∧ v < 4294967296) : uval (sval v) = v := by unfold uval sval; split <;> omega
theorem smR_wf (s : ByteArray) (p : Nat) : (smR s p).wf := by
  have h := num4_range s p
  exact ⟨⟨by simp only [smR]; omega, by simp only [smR]; omega⟩, byt_range s _, byt_range s _, byt_range s _, sval_range (num4_range s _)⟩
theorem smsR_wf (s : ByteArray) (c : Nat) : SmWf (smsR s c) := by
  intro i
  by_cases h : i < c
  · rw [smsR_get s c i h]; exact smR_wf s _
  · have : smG (smsR s c) i = Sm.zero := by simp [smG, smsR, List.getD, h]
    rw [this]; simp [Sm.wf, Sm.zero]

/-- Does s begin with the record of a Write of right samples? -/
def unOk (s : ByteArray) : Bool := headOk s && smsOk (smsR s (cN s))

/-! A record's bytes and what is read from them. -/
def seg (s : ByteArray) (p n : Nat) : List Int := ((nums s).drop p).take n
theorem nums_getD (s : ByteArray) (k : Nat) (h : k < s.size) : (nums s)[k]'(by rw [nums_len]; exact h) = byt s k := by
  have := nums_get s k h
  rw [List.getElem?_eq_getElem (by rw [nums_len]; exact h)] at this
  exact Option.some.inj this
theorem seg_succ (s : ByteArray) (p n : Nat) (h : p < s.size) : seg s p (n + 1) = byt s p :: seg s (p + 1) n := by
  unfold seg
  rw [List.drop_eq_getElem_cons (by rw [nums_len]; exact h), List.take_succ_cons, nums_getD s p h]
theorem seg_zero (s : ByteArray) (p : Nat) : seg s p 0 = [] := by simp [seg]
theorem seg_add (s : ByteArray) (p a b : Nat) : seg s p (a + b) = seg s p a ++ seg s (p + a) b := by
  unfold seg
  rw [List.take_add, List.drop_drop]
theorem low_num4 (s : ByteArray) (p : Nat) (h : p + 4 ≤ s.size) : lowN (num4 s p) 4 = seg s p 4 := by
  have h0 := byt_range s p
  have h1 := byt_range s (p + 1)
  have h2 := byt_range s (p + 2)
  have h3 := byt_range s (p + 3)
  rw [seg_succ s p 3 (by omega), seg_succ s (p + 1) 2 (by omega), seg_succ s (p + 1 + 1) 1 (by omega), seg_succ s (p + 1 + 1 + 1) 0 (by omega), seg_zero]
  rw [low4_eq _ (num4_range s p).1 (num4_range s p).2]
  have e0 : num4 s p % 256 = byt s p := by unfold num4; omega
  have e1 : num4 s p / 256 % 256 = byt s (p + 1) := by unfold num4; omega
  have e2 : num4 s p / 65536 % 256 = byt s (p + 2) := by unfold num4; omega
  have e3 : num4 s p / 16777216 = byt s (p + 3) := by unfold num4; omega
  rw [e0, e1, e2, e3]
theorem smB_smR (s : ByteArray) (p : Nat) (h : p + 11 ≤ s.size) : smB (smR s p) = seg s p 11 := by
  have e1 : seg s p 11 = seg s p 4 ++ (seg s (p + 4) 3 ++ seg s (p + 4 + 3) 4) := by rw [← seg_add, ← seg_add]
  rw [e1]
  have e2 : seg s (p + 4) 3 = [byt s (p + 4), byt s (p + 5), byt s (p + 6)] := by
    rw [seg_succ s (p + 4) 2 (by omega), seg_succ s (p + 4 + 1) 1 (by omega), seg_succ s (p + 4 + 1 + 1) 0 (by omega), seg_zero]
  rw [e2]
  unfold smB smR
  simp only
  rw [uval_sval (num4_range s (p + 7)), low_num4 s p (by omega), low_num4 s (p + 7) (by omega)]
  simp
theorem flat_smsR (s : ByteArray) (c : Nat) (h : 2 + 11 * c ≤ s.size) : (smsR s c).flatMap smB = seg s 2 (11 * c) := by
  induction c with
  | zero => simp [smsR, seg_zero]
  | succ c ih =>
    rw [smsR_succ, List.flatMap_append, ih (by omega), show 11 * (c + 1) = 11 * c + 11 by omega, seg_add]
    simp [smB_smR s (2 + 11 * c) (by omega)]
theorem take_seg (s : ByteArray) (n : Nat) : (nums s).take n = seg s 0 n := by simp [seg]
theorem low4_inj {a b : Int} (ha : 0 ≤ a ∧ a < 4294967296) (hb : 0 ≤ b ∧ b < 4294967296) (h : lowN a 4 = lowN b 4) : a = b := by
  rw [low4_eq a ha.1 ha.2, low4_eq b hb.1 hb.2] at h
  simp only [List.cons.injEq, and_true] at h
  omega

/-- The record of what was read is what stands there, just where the letter and the check are right. -/
theorem rec_eq (s : ByteArray) (h2 : 2 ≤ s.size) (hc : 6 + 11 * cN s ≤ s.size) :
    recB (smsR s (cN s)) = (nums s).take (6 + 11 * cN s) ↔ byt s 0 = 87 ∧ num4 s (2 + 11 * cN s) = chk ((nums s).take (2 + 11 * cN s)) := by
  have hb : bodyB (smsR s (cN s)) = 87 :: byt s 1 :: seg s 2 (11 * cN s) := by
    unfold bodyB
    rw [flat_smsR s _ (by omega), smsR_len, cN_eq]
    rfl
  have ht : (nums s).take (2 + 11 * cN s) = byt s 0 :: byt s 1 :: seg s 2 (11 * cN s) := by
    rw [take_seg, show 2 + 11 * cN s = (11 * cN s + 1) + 1 by omega, seg_succ s 0 _ (by omega), seg_succ s (0 + 1) _ (by omega)]
  have hall : (nums s).take (6 + 11 * cN s) = (nums s).take (2 + 11 * cN s) ++ seg s (2 + 11 * cN s) 4 := by
    rw [take_seg, take_seg, show 6 + 11 * cN s = (2 + 11 * cN s) + 4 by omega, seg_add]
    simp
  have hl : (bodyB (smsR s (cN s))).length = ((nums s).take (2 + 11 * cN s)).length := by
    rw [hb, ht]; simp
  unfold recB
  rw [hall]
  constructor
  · intro h
    obtain ⟨e1, e2⟩ := List.append_inj h hl
    rw [hb, ht] at e1
    simp only [List.cons.injEq, and_true] at e1
    refine ⟨e1.symm, ?_⟩
    rw [← low_num4 s _ (by omega)] at e2
    have := low4_inj (chk_range _) (num4_range s _) e2
    rw [← this, hb, ht, e1]
  · rintro ⟨e0, e1⟩
    have eb : bodyB (smsR s (cN s)) = (nums s).take (2 + 11 * cN s) := by rw [hb, ht, e0]
    rw [eb, ← e1, low_num4 s _ (by omega)]

theorem nums_extract (s : ByteArray) (k : Nat) : nums (s.extract 0 k) = (nums s).take k := by
  unfold nums
  rw [List.map_take.symm]
  congr 1
  simp [ByteArray.data_extract]

end Go.Proofs.Ythciddpljcbhiab

/- A batch comes back out of its record; a byte less, or one turned, is found out (no program). -/
namespace Go.Proofs.Ythciddpljcbhiab
open Go Go.RowKit

theorem chkS_inj {h h' b b' : Int} (hh : 0 ≤ h ∧ h < 4294967296) (hh' : 0 ≤ h' ∧ h' < 4294967296) (hb : b = b') (hne : h ≠ h') : chkS h b ≠ chkS h' b' := by
  subst hb
  unfold chkS
  intro e
  omega
theorem chkS_byte {h b b' : Int} (hb : isByte b) (hb' : isByte b') (hne : b ≠ b') : chkS h b ≠ chkS h b' := by
  unfold chkS isByte at *
  intro e
  omega
theorem fold_range (l : List Int) : ∀ h, 0 ≤ h ∧ h < 4294967296 → 0 ≤ l.foldl chkS h ∧ l.foldl chkS h < 4294967296 := by
  induction l with
  | nil => intro h hh; exact hh
  | cons b l ih => intro h _; exact ih _ (chkS_range h b)
theorem fold_inj (l : List Int) : ∀ {h h' : Int}, 0 ≤ h ∧ h < 4294967296 → 0 ≤ h' ∧ h' < 4294967296 → h ≠ h' → l.foldl chkS h ≠ l.foldl chkS h' := by
  induction l with
  | nil => intro h h' _ _ hne; exact hne
  | cons b l ih => intro h h' hh hh' hne; exact ih (chkS_range h b) (chkS_range h' b) (chkS_inj hh hh' rfl hne)
/-- One byte turned: another check. -/
theorem chk_turned (l1 l2 : List Int) {b b' : Int} (hb : isByte b) (hb' : isByte b') (hne : b ≠ b') : chk (l1 ++ b :: l2) ≠ chk (l1 ++ b' :: l2) := by
  unfold chk
  rw [List.foldl_append, List.foldl_append, List.foldl_cons, List.foldl_cons]
  exact fold_inj l2 (chkS_range _ _) (chkS_range _ _) (chkS_byte hb hb' hne)

/-! Strings by their numbers. -/
theorem byt_nums {s : ByteArray} {k : Nat} {x : Int} (h : (nums s)[k]? = some x) : byt s k = x := by
  have hk : k < s.size := by rw [← nums_len]; exact (List.getElem?_eq_some_iff.1 h).1
  rw [nums_get s k hk] at h
  exact Option.some.inj h
theorem num4_of {s : ByteArray} {p : Nat} {a b c d : Int} {l1 l2 : List Int} (h : nums s = l1 ++ a :: b :: c :: d :: l2) (hp : l1.length = p) : num4 s p = a + 256 * (b + 256 * (c + 256 * d)) := by
  subst hp
  unfold num4
  rw [byt_nums (s := s) (k := l1.length) (x := a) (by rw [h]; simp), byt_nums (s := s) (k := l1.length + 1) (x := b) (by rw [h]; simp),
    byt_nums (s := s) (k := l1.length + 2) (x := c) (by rw [h]; simp), byt_nums (s := s) (k := l1.length + 3) (x := d) (by rw [h]; simp)]
theorem num4_low {s : ByteArray} {p : Nat} {n : Int} {l1 l2 : List Int} (hn : 0 ≤ n ∧ n < 4294967296) (h : nums s = l1 ++ lowN n 4 ++ l2) (hp : l1.length = p) : num4 s p = n := by
  rw [low4_eq n hn.1 hn.2] at h
  rw [num4_of (s := s) (l1 := l1) (l2 := l2) (a := n % 256) (b := n / 256 % 256) (c := n / 65536 % 256) (d := n / 16777216) (by rw [h]; simp) hp]
  omega

/-- What is read of a sample's bytes is the sample. -/
theorem smR_smB {s : ByteArray} {p : Nat} {x : Sm} {l1 l2 : List Int} (hx : x.wf) (hok : smOk x = true) (h : nums s = l1 ++ smB x ++ l2) (hp : l1.length = p) : smR s p = x := by
  obtain ⟨t0, t1, _⟩ := (smOk_iff x).1 hok
  obtain ⟨_, _, _, _, v0, v1⟩ := hx
  have hs : nums s = l1 ++ lowN x.time 4 ++ (x.l0 :: x.l1 :: x.l2 :: (lowN (uval x.value) 4 ++ l2)) := by rw [h]; simp [smB]
  have e0 : num4 s p = x.time := num4_low (by omega) hs hp
  have hl : (l1 ++ lowN x.time 4).length = p + 4 := by rw [List.length_append, lowN_len, hp]
  obtain ⟨m, hm⟩ : ∃ m, m = l1 ++ lowN x.time 4 := ⟨_, rfl⟩
  rw [← hm] at hs hl
  have e1 : byt s (p + 4) = x.l0 := byt_nums (by rw [hs, ← hl]; simp)
  have e2 : byt s (p + 5) = x.l1 := byt_nums (by rw [hs, show p + 5 = m.length + 1 by omega]; simp)
  have e3 : byt s (p + 6) = x.l2 := byt_nums (by rw [hs, show p + 6 = m.length + 2 by omega]; simp)
  have hs2 : nums s = (m ++ [x.l0, x.l1, x.l2]) ++ lowN (uval x.value) 4 ++ l2 := by rw [hs]; simp
  have e4 : num4 s (p + 7) = uval x.value := num4_low (uval_range _) hs2 (by simp [hl])
  unfold smR
  rw [e0, e1, e2, e3, e4]
  have e5 : sval (uval x.value) = x.value := by unfold sval uval; split <;> omega
  rw [e5]

theorem flatB_len (ls : List Sm) : (ls.flatMap smB).length = 11 * ls.length := by rw [flat_length smB 11 smB_len]; omega
/-- The samples of a record that stands at the head of s. -/
theorem smsR_of {s : ByteArray} {ls : List Sm} {rest : List Int} (hwf : SmWf ls) (hok : smsOk ls = true) (h : nums s = bodyB ls ++ rest) : smsR s ls.length = ls := by
  have key : ∀ k, k ≤ ls.length → smsR s k = ls.take k := by
    intro k
    induction k with
    | zero => intro _; simp [smsR]
    | succ k ih =>
      intro hk
      have hlt : k < ls.length := by omega
      rw [smsR_succ, ih (by omega), take_snoc ls k hlt]
      congr 2
      have hx : smOk ls[k] = true := by
        have := List.all_eq_true.1 hok k (List.mem_range.2 hlt)
        simpa [smG_get ls k hlt] using this
      have hspl : ls.flatMap smB = (ls.take k).flatMap smB ++ smB ls[k] ++ (ls.drop (k + 1)).flatMap smB := by
        conv => lhs; rw [← List.take_append_drop k ls, List.drop_eq_getElem_cons hlt]
        rw [List.flatMap_append, List.flatMap_cons, List.append_assoc]
      refine smR_smB (l1 := [87, (ls.length : Int)] ++ (ls.take k).flatMap smB) (l2 := (ls.drop (k + 1)).flatMap smB ++ rest) (mem_wf hwf (List.getElem_mem _)) hx ?_ ?_
      · rw [h]; unfold bodyB; rw [hspl]; simp
      · rw [List.length_append, flatB_len]; simp; omega
  have := key ls.length (Nat.le_refl _)
  rwa [List.take_length] at this

section
variable {s : ByteArray} {ls : List Sm} {rest : List Int}

theorem cN_of (h : nums s = bodyB ls ++ rest) : cN s = ls.length := by
  have : byt s 1 = (ls.length : Int) := byt_nums (by rw [h]; simp [bodyB])
  unfold cN; rw [this]; simp
theorem size_of (h : nums s = bodyB ls ++ rest) : s.size = 2 + 11 * ls.length + rest.length := by
  rw [← nums_len, h, List.length_append, bodyB_len]; omega

/-- A right batch comes back out of its record, whatever stands behind it. -/
theorem whole_yes {tail : List Int} (h1 : 1 ≤ ls.length) (h8 : ls.length ≤ 8) (hwf : SmWf ls) (hok : smsOk ls = true) (h : nums s = recB ls ++ tail) : unOk s = true ∧ cN s = ls.length ∧ smsR s (cN s) = ls := by
  have hb : nums s = bodyB ls ++ (lowN (chk (bodyB ls)) 4 ++ tail) := by rw [h]; simp [recB]
  have hc := cN_of hb
  have hsz := size_of hb
  have hsm : smsR s (cN s) = ls := by rw [hc]; exact smsR_of hwf hok hb
  refine ⟨?_, hc, hsm⟩
  unfold unOk
  rw [hsm, hok, Bool.and_true, headOk_iff, hc]
  simp only [List.length_append, lowN_len] at hsz
  refine ⟨by omega, byt_nums (by rw [hb]; simp [bodyB]), h1, h8, by omega, ?_⟩
  have e1 : num4 s (2 + 11 * ls.length) = chk (bodyB ls) := num4_low (chk_range _) (by rw [h]; rfl) (by rw [bodyB_len]; omega)
  have e2 : (nums s).take (2 + 11 * ls.length) = bodyB ls := by
    rw [hb, show 2 + 11 * ls.length = (bodyB ls).length by rw [bodyB_len]; omega]; exact List.take_left
  rw [e1, e2]

/-- With a byte less there is none. -/
theorem whole_less (h : nums s = (recB ls).take ((recB ls).length - 1)) : unOk s = false := by
  have hb : nums s = bodyB ls ++ (lowN (chk (bodyB ls)) 4).take 3 := by
    rw [h, recB_len]; unfold recB
    rw [List.take_append, List.take_of_length_le (by rw [bodyB_len]; omega), bodyB_len]
    congr 2; omega
  have hc := cN_of hb
  have hsz := size_of hb
  have hl : ((lowN (chk (bodyB ls)) 4).take 3).length = 3 := by simp [lowN_len]
  unfold unOk
  rw [no_of (a := headOk s) (by rw [headOk_iff, hc]; omega)]
  rfl

/-- With a byte turned there is none (but for the second one). -/
theorem whole_turned {k : Nat} {d : Int} (hwf : SmWf ls) (hn : ls.length ≤ 8) (hk : k < (recB ls).length) (hk1 : k ≠ 1) (hd0 : isByte d) (hd : (recB ls)[k]? ≠ some d) (h : nums s = (recB ls).set k d) : unOk s = false := by
  have hbytes : ∀ y ∈ bodyB ls, isByte y := bodyB_byte hwf (by omega)
  have hbl := bodyB_len ls
  have hll : (lowN (chk (bodyB ls)) 4).length = 4 := lowN_len _ _
  unfold unOk
  rw [no_of (a := headOk s) ?_]
  · rfl
  rw [headOk_iff]
  rintro ⟨h2, h0, hc1, hc8, hlen, hnum⟩
  by_cases hkb : k < (bodyB ls).length
  · have hset : (recB ls).set k d = (bodyB ls).set k d ++ lowN (chk (bodyB ls)) 4 := by unfold recB; rw [List.set_append_left _ _ hkb]
    rw [hset] at h
    by_cases hk0 : k = 0
    · subst hk0
      have : byt s 0 = d := byt_nums (by rw [h]; simp [bodyB])
      rw [this] at h0
      apply hd
      simp [recB, bodyB, h0]
    · have hc : cN s = ls.length := by
        have : byt s 1 = (ls.length : Int) := byt_nums (by
          rw [h, List.getElem?_append_left (by simp; omega), List.getElem?_set_ne (by omega)]
          simp [bodyB])
        unfold cN; rw [this]; simp
      rw [hc] at hnum
      have e1 : num4 s (2 + 11 * ls.length) = chk (bodyB ls) := num4_low (l1 := (bodyB ls).set k d) (l2 := []) (chk_range _) (by rw [h]; simp) (by rw [List.length_set]; omega)
      have e2 : (nums s).take (2 + 11 * ls.length) = (bodyB ls).set k d := by
        rw [h, show 2 + 11 * ls.length = ((bodyB ls).set k d).length by simp; omega]; exact List.take_left
      rw [e1, e2] at hnum
      have hb1 : bodyB ls = (bodyB ls).take k ++ (bodyB ls)[k] :: (bodyB ls).drop (k + 1) := by
        rw [← List.drop_eq_getElem_cons hkb, List.take_append_drop]
      have hb2 : (bodyB ls).set k d = (bodyB ls).take k ++ d :: (bodyB ls).drop (k + 1) := by rw [List.set_eq_take_append_cons_drop, if_pos hkb]
      rw [hb2] at hnum
      conv at hnum => lhs; rw [hb1]
      refine chk_turned _ _ (hbytes _ (List.getElem_mem _)) hd0 ?_ hnum
      intro he
      apply hd
      unfold recB
      rw [List.getElem?_append_left hkb, List.getElem?_eq_getElem hkb, he]
  · have hkr : k - (bodyB ls).length < 4 := by
      have := recB_len ls; omega
    have hset : (recB ls).set k d = bodyB ls ++ (lowN (chk (bodyB ls)) 4).set (k - (bodyB ls).length) d := by unfold recB; rw [List.set_append_right _ _ (by omega)]
    rw [hset] at h
    have hc := cN_of h
    rw [hc] at hnum
    have e2 : (nums s).take (2 + 11 * ls.length) = bodyB ls := by
      rw [h, show 2 + 11 * ls.length = (bodyB ls).length by omega]; exact List.take_left
    rw [e2] at hnum
    have hlow : lowN (num4 s (2 + 11 * ls.length)) 4 = (lowN (chk (bodyB ls)) 4).set (k - (bodyB ls).length) d := by
      have hsz : s.size = (bodyB ls).length + 4 := by rw [← nums_len, h]; simp [hll]
      rw [low_num4 s _ (by omega)]
      unfold seg
      rw [h, show 2 + 11 * ls.length = (bodyB ls).length by omega, List.drop_left]
      exact List.take_of_length_le (by simp [hll])
    rw [hnum] at hlow
    apply hd
    unfold recB
    rw [List.getElem?_append_right (by omega), hlow, List.getElem?_set_self (by omega)]
end

end Go.Proofs.Ythciddpljcbhiab

/- Walks: how long a record is, and its samples read (the program). -/
namespace Go.Proofs.Ythciddpljcbhiab
open Go.RowKit

def headN (s : ByteArray) : Int := if headOk s then 6 + 11 * (cN s : Int) else 0
theorem headN_yes {s : ByteArray} (h : headOk s = true) : headN s = 6 + 11 * (cN s : Int) := by simp [headN, h]
theorem headN_no {s : ByteArray} (h : ¬ headOk s = true) : headN s = 0 := by simp [headN, h]

set_option maxHeartbeats 400000 in
set_option maxRecDepth 100000 in
theorem batchSize_any (s : ByteArray) (w : World) (hs : s.size ≤ maxLen) :
    Calls Try.prog 77 #[.string s] w fun e w' => e = .returned (.int .i64 (headN s)) ∧ w' = w := by
  have HM : Hid (s.size ≤ maxLen) := hs
  unfold maxLen at hs
  have HI : Hid (headOk s = true ↔ 2 ≤ s.size ∧ byt s 0 = 87 ∧ 1 ≤ cN s ∧ cN s ≤ 8 ∧ 6 + 11 * cN s ≤ s.size ∧ num4 s (2 + 11 * cN s) = chk ((nums s).take (2 + 11 * cN s))) := headOk_iff s
  by_cases h2 : 2 ≤ s.size
  · have hd2 : 2 ≤ (s.size : Int) := by omega
    have B0 : Hid (((s[0].toNat : Nat) : Int) = byt s 0) := byt_eq s 0 (by omega)
    have hb1 : ((s[1].toNat : Nat) : Int) = ((cN s : Nat) : Int) := by rw [cN_eq]; exact byt_eq s 1 (by omega)
    have hY := @headN_yes s
    generalize cN s = c at *
    have HY : Hid (headOk s = true → headN s = 6 + 11 * (c : Int)) := hY
    clear hY
    by_cases h0 : byt s 0 = 87
    · have hx0 : ((s[0].toNat : Int) != 87) = false := by rw [B0.out, h0]; rfl
      have hxd : decide ((s.size : Int) < 2) = false := by simp; omega
      have H0 : Hid (byt s 0 = 87) := h0
      clear h0
      by_cases hc : 1 ≤ c ∧ c ≤ 8
      · obtain ⟨hc1, hc2⟩ := hc
        by_cases hlen : 6 + 11 * c ≤ s.size
        · have hsl : 2 + c * 11 ≤ s.size := by omega
          have hsl' : (2 : Int) + (c : Int) * 11 + 4 ≤ (s.size : Int) := by omega
          go_enter Try.func77, Try.ntmps77
          have hxe : decide ((c : Int) < 1) = false := by simp; omega
          have hxf : decide (8 < (c : Int)) = false := by simp; omega
          go_wp2_with fail
          have hmx : (s.extract 0 (2 + c * 11)).size ≤ maxLen := by rw [ByteArray.size_extract]; unfold maxLen; omega
          refine (check_any _ _ hmx).mono ?_
          rintro e w1 ⟨rfl, rfl⟩
          rw [nums_extract]
          go_wp2_with fail
          rw [show (2 : Int) + (c : Int) * 11 = ((2 + c * 11 : Nat) : Int) from by omega]
          refine (readNumber_any s (2 + c * 11) _ HM.out (by omega)).mono ?_
          rintro e w2 ⟨rfl, rfl⟩
          rw [show 2 + 11 * c = 2 + c * 11 from by omega] at HI
          by_cases hck : num4 s (2 + c * 11) = chk ((nums s).take (2 + c * 11))
          · have hh : headOk s = true := by rw [HI.out]; exact ⟨h2, H0.out, hc1, hc2, hlen, hck⟩
            have HV : Hid (headN s = 6 + 11 * (c : Int)) := HY.out hh
            have hbn : (num4 s (2 + c * 11) != chk ((nums s).take (2 + c * 11))) = false := by simp [hck]
            clear hh hck
            generalize num4 s (2 + c * 11) = q1 at *
            generalize chk ((nums s).take (2 + c * 11)) = q2 at *
            go_wp2
            go_ret
            exact ⟨ret_i64' (by rw [HV.out]; omega), rfl⟩
          · have HV : Hid (headN s = 0) := headN_no (by rw [HI.out]; intro hh; exact hck hh.2.2.2.2.2)
            have hbn : (num4 s (2 + c * 11) != chk ((nums s).take (2 + c * 11))) = true := by simpa using hck
            clear hck
            generalize num4 s (2 + c * 11) = q1 at *
            generalize chk ((nums s).take (2 + c * 11)) = q2 at *
            go_wp2
            go_ret
            exact ⟨ret_i64' HV.out.symm, rfl⟩
        · have hsl' : (s.size : Int) < (2 : Int) + (c : Int) * 11 + 4 := by omega
          rw [headN_no (by rw [HI.out]; omega)]
          go_enter Try.func77, Try.ntmps77
          go_wp2
          go_ret
          exact ⟨rfl, rfl⟩
      · rw [headN_no (by rw [HI.out]; omega)]
        by_cases hc0 : c = 0
        · subst hc0
          go_enter Try.func77, Try.ntmps77
          go_wp2
          go_ret
          exact ⟨rfl, rfl⟩
        · have hc1 : 1 ≤ (c : Int) := by omega
          have hc8 : 8 < (c : Int) := by omega
          have hc9 : (c : Int) ≤ 255 := by rw [← hb1]; have := s[1].toNat_lt; omega
          go_enter Try.func77, Try.ntmps77
          go_wp2
          go_ret
          exact ⟨rfl, rfl⟩
    · have hx0 : ((s[0].toNat : Int) != 87) = true := by rw [B0.out]; simpa using h0
      have hxd : decide ((s.size : Int) < 2) = false := by simp; omega
      rw [headN_no (by rw [HI.out]; intro hh; exact h0 hh.2.1)]
      go_enter Try.func77, Try.ntmps77
      go_wp2
      go_ret
      exact ⟨rfl, rfl⟩
  · have hd2 : (s.size : Int) < 2 := by omega
    rw [headN_no (by rw [HI.out]; omega)]
    go_enter Try.func77, Try.ntmps77
    go_wp2
    go_ret
    exact ⟨rfl, rfl⟩
end Go.Proofs.Ythciddpljcbhiab

/- Walks: one sample read (the program). -/
namespace Go.Proofs.Ythciddpljcbhiab
open Go.RowKit

def rdV (s : ByteArray) (p : Nat) : Value := .tuple #[(if smOk (smR s p) then smV (smR s p) else smV Sm.zero), .bool (smOk (smR s p))]
theorem rdV_no {s : ByteArray} {p : Nat} (h : smOk (smR s p) = false) : rdV s p = .tuple #[.agg #[.int .i64 0, .int .u8 0, .int .u8 0, .int .u8 0, .int .i32 0], .bool false] := by simp [rdV, h, Sm.zero]
theorem rdV_yes {s : ByteArray} {p : Nat} (h : smOk (smR s p) = true) : rdV s p = .tuple #[smV (smR s p), .bool true] := by simp [rdV, h]

theorem wrap32_sval {V : Int} (h0 : 0 ≤ V) (h1 : V < 4294967296) : wrap32 V = sval V := by
  unfold sval; unfold wrap32; split <;> omega

/-- What a call leaves of the first and the third of three boxes of its caller's. -/
theorem three5 {w w1 : World} {o2 : Obj} {x0 x1 x2 x3 x4 y0 y1 y2 y3 y4 : Value}
    (hb : Below (((w.alloc (.cells #[x0, x1, x2, x3, x4] 75)).alloc o2).alloc (.cells #[y0, y1, y2, y3, y4] 75)).drew.heap.size (((w.alloc (.cells #[x0, x1, x2, x3, x4] 75)).alloc o2).alloc (.cells #[y0, y1, y2, y3, y4] 75)).drew w1) :
    w.heap.size + 1 + 1 < w1.heap.size ∧ w1.cell? ⟨w.heap.size, 0, none⟩ = some x0 ∧ w1.cell? ⟨w.heap.size, 1, none⟩ = some x1 ∧ w1.cell? ⟨w.heap.size, 2, none⟩ = some x2 ∧ w1.cell? ⟨w.heap.size, 3, none⟩ = some x3 ∧ w1.cell? ⟨w.heap.size, 4, none⟩ = some x4 ∧
    w1.frozen? ⟨w.heap.size, 0, none⟩ = false ∧ w1.frozen? ⟨w.heap.size, 1, none⟩ = false ∧ w1.frozen? ⟨w.heap.size, 2, none⟩ = false ∧ w1.frozen? ⟨w.heap.size, 3, none⟩ = false ∧ w1.frozen? ⟨w.heap.size, 4, none⟩ = false ∧
    w1.cell? ⟨w.heap.size + 1 + 1, 0, none⟩ = some y0 ∧ w1.cell? ⟨w.heap.size + 1 + 1, 1, none⟩ = some y1 ∧ w1.cell? ⟨w.heap.size + 1 + 1, 2, none⟩ = some y2 ∧ w1.cell? ⟨w.heap.size + 1 + 1, 3, none⟩ = some y3 ∧ w1.cell? ⟨w.heap.size + 1 + 1, 4, none⟩ = some y4 := by
  have hz := hb.size
  have hs : (((w.alloc (.cells #[x0, x1, x2, x3, x4] 75)).alloc o2).alloc (.cells #[y0, y1, y2, y3, y4] 75)).drew.heap.size = w.heap.size + 1 + 1 + 1 := by simp
  rw [hs] at hb hz
  have b0 : w1.heap[w.heap.size]? = some (.cells #[x0, x1, x2, x3, x4] 75) := by
    rw [hb.block _ (by omega)]
    show (((w.alloc (.cells #[x0, x1, x2, x3, x4] 75)).alloc o2).alloc (.cells #[y0, y1, y2, y3, y4] 75)).heap[w.heap.size]? = _
    rw [Below.heap_alloc _ _ _ (by simp; omega), Below.heap_alloc _ _ _ (by simp), heap_alloc_new]
  have b2 : w1.heap[w.heap.size + 1 + 1]? = some (.cells #[y0, y1, y2, y3, y4] 75) := by
    rw [hb.block _ (by omega)]
    have := heap_alloc_new ((w.alloc (.cells #[x0, x1, x2, x3, x4] 75)).alloc o2) (.cells #[y0, y1, y2, y3, y4] 75)
    simp only [World.size_alloc] at this
    exact this
  refine ⟨by omega, ?_, ?_, ?_, ?_, ?_, ?_, ?_, ?_, ?_, ?_, ?_, ?_, ?_, ?_, ?_⟩
  all_goals simp [World.cell?, World.frozen?, b0, b2]

set_option maxHeartbeats 1000000 in
set_option maxRecDepth 100000 in
theorem readSample_any (s : ByteArray) (p : Nat) (w : World) (hs : s.size ≤ maxLen) (hp : p + 11 ≤ s.size) :
    Calls Try.prog 78 #[.string s, .int .i64 p] w fun e w' => e = .returned (rdV s p) ∧ Below w.heap.size w w' := by
  have HM : Hid (s.size ≤ maxLen) := hs
  unfold maxLen at hs
  have hx1 : decide ((p : Int) < 0) = false := by simp
  have hx2 : decide ((s.size : Int) - 11 < (p : Int)) = false := by simp; omega
  have B4 : Hid (((s[p + 4].toNat : Nat) : Int) = byt s (p + 4)) := byt_eq s (p + 4) (by omega)
  have B5 : Hid (((s[p + 4 + 1].toNat : Nat) : Int) = byt s (p + 5)) := byt_eq s (p + 5) (by omega)
  have B6 : Hid (((s[p + 4 + 2].toNat : Nat) : Int) = byt s (p + 6)) := byt_eq s (p + 6) (by omega)
  obtain ⟨n0, n1⟩ := num4_range s p
  obtain ⟨m0, m1⟩ := num4_range s (p + 7)
  have HI : Hid (smOk (smR s p) = true ↔ 0 ≤ num4 s p ∧ num4 s p ≤ 100000 ∧ lab3 (byt s (p + 4)) (byt s (p + 5)) (byt s (p + 6)) = true) := smOk_iff _
  have HR : Hid (smR s p = ⟨num4 s p, byt s (p + 4), byt s (p + 5), byt s (p + 6), sval (num4 s (p + 7))⟩) := rfl
  by_cases hat : num4 s p ≤ 100000
  · go_enter Try.func78, Try.ntmps78
    go_wp2_with fail
    refine (readNumber_any s p _ HM.out (by omega)).mono ?_
    rintro e w1 ⟨rfl, rfl⟩
    generalize hA : num4 s p = A at *
    have HA : Hid (num4 s p = A) := hA
    clear hA
    have hx3 : decide (100000 < A) = false := by simp; omega
    go_wp2_with fail
    rw [show (p : Int) + 7 = ((p + 7 : Nat) : Int) from by omega]
    refine (readNumber_any s (p + 7) _ HM.out (by omega)).mono ?_
    rintro e w1 ⟨rfl, rfl⟩
    generalize num4 s (p + 7) = V at *
    have n0' := m0
    go_wp2_with fail
    have i4 : (p : Int) + 4 < (s.size : Int) := by omega
    have i5 : (p : Int) + 4 + 1 < (s.size : Int) := by omega
    have i6 : (p : Int) + 4 + 2 < (s.size : Int) := by omega
    have j4 : 0 ≤ (p : Int) + 4 := by omega
    have j5 : 0 ≤ (p : Int) + 4 + 1 := by omega
    have j6 : 0 ≤ (p : Int) + 4 + 2 := by omega
    go_region
    go_wp2_with fail
    rw [B4.out, B5.out, B6.out, wrap32_sval n0' m1]
    clear i4 i5 i6 j4 j5 j6 B4 B5 B6 HM
    have HV : Hid (rdV s p = .tuple #[(if smOk ⟨A, byt s (p + 4), byt s (p + 5), byt s (p + 6), sval V⟩ then smV ⟨A, byt s (p + 4), byt s (p + 5), byt s (p + 6), sval V⟩ else smV Sm.zero), .bool (smOk ⟨A, byt s (p + 4), byt s (p + 5), byt s (p + 6), sval V⟩)]) := by
      show _ = _
      rw [rdV, HR.out]
    clear HR HI
    generalize byt s (p + 4) = L0 at *
    generalize byt s (p + 5) = L1 at *
    generalize byt s (p + 6) = L2 at *
    generalize sval V = SV at *
    refine (smRight_any ⟨A, L0, L1, L2, SV⟩ _).mono ?_
    rintro e w1 ⟨rfl, hb⟩
    obtain ⟨hz, q0, q1, q2, q3, q4, f0, f1, f2, f3, f4, r0, r1, r2, r3, r4⟩ := three5 hb
    have hbw : Below w.heap.size w w1 := ((((Below.refl _ _).alloc (Nat.le_refl _) _).alloc (by simp) _).alloc (by simp; omega) _).drew.trans (hb.mono (by simp; omega))
    clear hb
    cases hok : smOk ⟨A, L0, L1, L2, SV⟩
    · rw [hok] at HV
      go_wp2_with fail
      refine bodyPost_ret (v := .tuple #[.agg #[.int .i64 0, .int .u8 0, .int .u8 0, .int .u8 0, .int .i32 0], .bool false]) (by simp [results, Try.results78, go_sem, q0, q1, q2, q3, q4]) rfl ⟨by rw [HV.out]; rfl, ?_⟩
      exact ((((hbw.setCell (Nat.le_refl _) _).setCell (Nat.le_refl _) _).setCell (Nat.le_refl _) _).setCell (Nat.le_refl _) _).setCell (Nat.le_refl _) _
    · rw [hok] at HV
      go_wp2_with fail
      refine bodyPost_ret (v := .tuple #[smV ⟨A, L0, L1, L2, SV⟩, .bool true]) (by simp [results, Try.results78, go_sem, q0, q1, q2, q3, q4]) rfl ⟨by rw [HV.out]; rfl, ?_⟩
      exact ((((hbw.setCell (Nat.le_refl _) _).setCell (Nat.le_refl _) _).setCell (Nat.le_refl _) _).setCell (Nat.le_refl _) _).setCell (Nat.le_refl _) _
  · rw [rdV_no (no_of (by rw [HI.out]; omega))]
    have hx3 : decide (100000 < num4 s p) = true := by simp; omega
    go_enter Try.func78, Try.ntmps78
    go_wp2_with fail
    refine (readNumber_any s p _ HM.out (by omega)).mono ?_
    rintro e w1 ⟨rfl, rfl⟩
    generalize num4 s p = A at *
    go_wp2_with fail
    go_returns
    exact ⟨rfl, by go_grown⟩
end Go.Proofs.Ythciddpljcbhiab

/- Walks: samples in a list of the caller's own, and whether they read as they did (handed, sameSamples, still). -/
namespace Go.Proofs.Ythciddpljcbhiab
open Go.RowKit

theorem Try.info75' : (Try.prog.info? 75).map (fun i => (i.zero, i.size, i.bytes)) = some (some (.agg #[.int .i64 0, .int .u8 0, .int .u8 0, .int .u8 0, .int .i32 0]), 5, 16) := by kernel_rfl
theorem Try.size75 : (Try.prog.info? 75).map (·.size) = some 5 := by kernel_rfl

theorem make42 (n : Nat) (h : n ≤ 10000000000000) : ∃ Z : List Value, Z.length = (n + 1) * 5 ∧ ∀ w, (Instr.makeSlice 29 (.int .i64 ((n : Int) + 1)) (.int .i64 ((n : Int) + 1))).run Try.prog w =
    .ok (.slice (some ⟨w.heap.size, 0, none⟩) (n + 1) (n + 1)) (w.alloc (.cells Z.toArray 75)) := by
  have hinfo := Try.info75'
  cases hq : Try.prog.info? 75 with
  | none => simp [hq] at hinfo
  | some i =>
    simp only [hq, Option.map_some, Option.some.injEq, Prod.mk.injEq] at hinfo
    obtain ⟨hz, hs, hb⟩ := hinfo
    refine ⟨(madeCells (Value.cells (.agg #[.int .i64 0, .int .u8 0, .int .u8 0, .int .u8 0, .int .i32 0])) ((n + 1) * 5)).toList, by simp [size_madeCells], fun w => ?_⟩
    have hr := run_make (P := Try.prog) w 29 75 i _ Try.underlying29 hq hz .i64 .i64 ((n : Int) + 1) ((n : Int) + 1) (by omega) (by omega) (by rw [hb]; omega) (by omega)
    rw [hr, hs, show ((n : Int) + 1).toNat = n + 1 from by omega]

theorem copy42 (X : World) (Z : List Value) (a : Option Addr) (n cap : Nat) (ls : List Sm) (hZ : Z.length = (n + 1) * 5) (h : IsSms X a n ls) (g : Nat) (hg : g = X.heap.size) (ty : TypeId) :
    (Builtin.copy_ #[29, 29] ty #[.slice (some ⟨g, 0, none⟩) (n + 1) (n + 1), .slice a n cap]).run Try.prog (X.alloc (.cells Z.toArray 75)) =
      .ok (goInt n) (X.alloc (.cells (flatS ls ++ Z.drop (n * 5)).toArray 75)) := by
  subst hg
  obtain ⟨hn, hx⟩ := h
  by_cases h0 : n = 0
  · subst h0
    have : ls = [] := List.eq_nil_of_length_eq_zero hn
    subst this
    rw [run_copyN_none _ 29 29 ty 75 5 _ _ _ _ _ _ Try.underlying29 Try.size75 (by simp)]
    simp [flatS]
  · obtain ⟨b, off, rfl, hat⟩ := hx (by omega)
    have hb := hat.block (by omega)
    have hat' := at_of_sm (hat.below ((Below.refl X.heap.size X).alloc (Nat.le_refl _) (.cells Z.toArray 75)) hb)
    rw [run_copyN (P := Try.prog) _ 29 29 ty 75 5 X.heap.size 0 (n + 1) (n + 1) ⟨b, off, none⟩ n cap Z.toArray 75 (flatS ls) Try.underlying29 Try.size75 (heap_alloc_new X _)
      (by rw [flatS_len, hn]; congr 1; simp) (fun j v hj => by
        have := hat' j v hj
        rw [show (⟨b, off, none⟩ : Addr).add j = ⟨b, off + j, none⟩ from by unfold Addr.add; split <;> simp_all]
        exact this) (by simp [flatS_len, hZ]; omega) (flatS_one ls)]
    rw [setRow_alloc]
    have : Nat.min n (n + 1) = n := by simp
    rw [this]
    simp [flatS_len, hn]

def blotSm : Sm := ⟨-77, 0, 0, 0, 0⟩
theorem blotS_set (ls : List Sm) (n : Nat) (R : List Value) (z0 z1 z2 z3 z4 : Value) (hl : (flatS ls).length = n * 5) (hR : R = flatS ls ++ [z0, z1, z2, z3, z4]) :
    (((((R.set (n * 5) (.int .i64 (-77))).set (n * 5 + 1) (.int .u8 0)).set (n * 5 + 2) (.int .u8 0)).set (n * 5 + 3) (.int .u8 0)).set (n * 5 + 4) (.int .i32 0)).toArray = (flatS (ls ++ [blotSm])).toArray := by
  subst hR
  have : flatS (ls ++ [blotSm]) = flatS ls ++ [.int .i64 (-77), .int .u8 0, .int .u8 0, .int .u8 0, .int .i32 0] := flat_snoc _ _ _
  rw [this]
  rw [List.set_append_right _ _ (by omega), hl, List.set_append_right _ _ (by omega), hl, List.set_append_right _ _ (by omega), hl, List.set_append_right _ _ (by omega), hl, List.set_append_right _ _ (by omega), hl]
  simp
theorem world1 {w : World} {A B : Array Value} {t : TypeId} (h : A = B) : w.alloc (.cells A t) = w.alloc (.cells B t) := by rw [h]

end Go.Proofs.Ythciddpljcbhiab

/- Walks: a batch read (ReadBatch, Unrecord of the program). -/
namespace Go.Proofs.Ythciddpljcbhiab
open Go.RowKit

theorem owns_belowU {w w' : World} {base : Nat} {e : TypeId} {sz : Nat} {v : Value} {n : Nat} {xs : List Value} (h : w.ownsRow base e sz v n xs) (hb : Below w.heap.size w w') : w'.ownsRow base e sz v n xs := by
  have hlt := h.lt
  obtain ⟨h1, h2⟩ := h
  refine ⟨h1, ?_⟩
  rcases h2 with h2 | ⟨g, cap, cur, rfl, hbg, hg, hr⟩
  · exact Or.inl h2
  · refine Or.inr ⟨g, cap, cur, rfl, hbg, ?_, hr⟩
    rw [hb.block g (hlt g rfl).2]; exact hg

/-- An owned row of samples is a list of samples. -/
theorem owns_sms {w : World} {base : Nat} {v : Value} {n : Nat} {ls : List Sm} (h : w.ownsRow base 75 5 v n (flatS ls)) (hn : ls.length = n) : ∃ a cap, v = .slice a n cap ∧ IsSms w a n ls := by
  rcases h.2 with ⟨rfl, rfl⟩ | ⟨g, cap, cur, rfl, hbg, hg, hnc, hcm, hcs, htake⟩
  · exact ⟨none, 0, rfl, hn, fun h => absurd h (by omega)⟩
  · refine ⟨_, cap, rfl, hn, fun _ => ⟨g, 0, rfl, smAt_of fun j u hj => ?_⟩⟩
    rw [← htake] at hj
    have hj' : cur[j]? = some u := by
      rw [List.getElem?_take] at hj
      split at hj
      · simpa using hj
      · cases hj
    simp [World.cell?, hg, hj']

theorem flatS_succ (s : ByteArray) (k : Nat) : flatS (smsR s (k + 1)) = flatS (smsR s k) ++ (smR s (2 + 11 * k)).cells := by rw [smsR_succ]; exact flat_snoc _ _ _

/-- What Unrecord answers. -/
def UnPost (s : ByteArray) (w : World) (e : Ending) (w' : World) : Prop :=
  Below w.heap.size w w' ∧ ((unOk s = true ∧ ∃ v, e = .returned (.tuple #[v, .int .i64 (6 + 11 * (cN s : Int)), .int .i64 0]) ∧ w'.ownsRow w.heap.size 75 5 v (cN s) (flatS (smsR s (cN s)))) ∨
    (unOk s = false ∧ e = .returned (.tuple #[.slice none 0 0, .int .i64 0, .int .i64 13])))

set_option maxHeartbeats 1000000 in
set_option maxRecDepth 100000 in
theorem readBatch_any (s : ByteArray) (w : World) (hs : s.size ≤ maxLen) : Calls Try.prog 66 #[.string s] w (UnPost s w) := by
  have HM : Hid (s.size ≤ maxLen) := hs
  unfold maxLen at hs
  cases hh : headOk s
  · have HN : Hid (headN s = 0) := headN_no (by simp [hh])
    go_enter Try.func66, Try.ntmps66
    go_wp2_with fail
    refine (batchSize_any s _ HM.out).mono ?_
    rintro e w1 ⟨rfl, rfl⟩
    rw [HN.out]
    go_wp2_with fail
    go_ret3
    exact ⟨Below.refl _ _, Or.inr ⟨by simp [unOk, hh], rfl⟩⟩
  · obtain ⟨h2, _, hc1, hc2, hlen, _⟩ := (headOk_iff s).1 hh
    have HN : Hid (headN s = 6 + 11 * (cN s : Int)) := headN_yes hh
    have HU : Hid (unOk s = smsOk (smsR s (cN s))) := by show _ = _; simp [unOk, hh]
    obtain ⟨i0, hi, hz0, hz1, hz2⟩ := info_parts Try.info75'
    have HP : Hid (∀ e w', UnPost s w e w' = (Below w.heap.size w w' ∧ ((unOk s = true ∧ ∃ v, e = .returned (.tuple #[v, .int .i64 (6 + 11 * (cN s : Int)), .int .i64 0]) ∧ w'.ownsRow w.heap.size 75 5 v (cN s) (flatS (smsR s (cN s)))) ∨
      (unOk s = false ∧ e = .returned (.tuple #[.slice none 0 0, .int .i64 0, .int .i64 13]))))) := fun _ _ => rfl
    generalize hcc : cN s = c at *
    clear hh hcc
    have hzb : ((6 : Int) + 11 * (c : Int) == 0) = false := by simp; omega
    go_enter Try.func66, Try.ntmps66
    go_wp2_with fail
    refine (batchSize_any s _ HM.out).mono ?_
    rintro e w1 ⟨rfl, rfl⟩
    rw [HN.out]
    go_wp2_with fail
    go_loopw [6, 7] (fun v f wr => ∃ k : Nat, k ≤ c ∧ f = .int .i64 (2 + 11 * (k : Int)) ∧ wr.ownsRow w1.heap.size 75 5 v k (flatS (smsR s k)) ∧ Below w1.heap.size w1 wr ∧ ∀ j, j < k → smOk (smR s (2 + 11 * j)) = true) (fun _ f _ => (2 + 11 * c) - (intOf f).toNat)
    case atStart => exact ⟨0, Nat.zero_le _, rfl, World.ownsRow_nil _ _ _ _, Below.refl _ _, fun j hj => by omega⟩
    case round =>
      obtain ⟨k, hk, rfl, hown, hbel, hall⟩ := hrel
      have HO : Hid (wr.ownsRow w1.heap.size 75 5 u6 k (flatS (smsR s k))) := hown
      have HB : Hid (Below w1.heap.size w1 wr) := hbel
      have HA : Hid (∀ j, j < k → smOk (smR s (2 + 11 * j)) = true) := hall
      have hsz := hbel.size
      clear hown hbel hall
      by_cases hlt : k < c
      · have hle : (2 : Int) + 11 * (k : Int) + 11 ≤ 6 + 11 * (c : Int) - 4 := by omega
        go_wp2_with fail
        rw [show (2 : Int) + 11 * (k : Int) = ((2 + 11 * k : Nat) : Int) from by omega]
        refine (readSample_any s (2 + 11 * k) _ HM.out (by omega)).mono ?_
        rintro e w2 ⟨rfl, hb2⟩
        have hbw2 : Below w1.heap.size w1 w2 := HB.out.trans (hb2.mono hsz)
        cases hok : smOk (smR s (2 + 11 * k))
        · rw [rdV_no hok]
          have HX : Hid (unOk s = false) := by
            show _ = _
            rw [HU.out]
            exact all_false k (by rw [smsR_len]; exact hlt) (by rw [smsR_get s c k hlt]; exact hok)
          clear hok hb2
          go_wp2_with fail
          go_ret3
          rw [HP.out]
          exact ⟨hbw2.alloc hbw2.size _, Or.inr ⟨HX.out, rfl⟩⟩
        · rw [rdV_yes hok]
          have HA' : Hid (∀ j, j < k + 1 → smOk (smR s (2 + 11 * j)) = true) := upto_succ HA.out hok
          have HF : Hid (flatS (smsR s (k + 1)) = flatS (smsR s k) ++ (smR s (2 + 11 * k)).cells) := flatS_succ s k
          have HO2 : Hid (w2.ownsRow w1.heap.size 75 5 u6 k (flatS (smsR s k))) := owns_belowU HO.out hb2
          have HB2 : Hid (Below w1.heap.size w1 w2) := hbw2
          have hsz2 := hbw2.size
          generalize smR s (2 + 11 * k) = X at *
          clear hok hb2 HO HB HA hbw2
          go_wp2_with (first | (at_builtin; refine wpList_append_own _ rfl _ _ 29 rfl w1.heap.size 75 i0 (.agg #[.int .i64 0, .int .u8 0, .int .u8 0, .int .u8 0, .int .i32 0]) 5 16 Try.underlying29 hi hz0 hz1 hz2 rfl (by decide) _ _ _ rfl ((HO2.out.alloc _).alloc _) ⟨w2.heap.size + 1, 0, none⟩ 1 1 X.cells rfl rfl ?c1 ?c2 ?c3 ?c4 ?c5 ?_) | go_in)
          case c1 =>
            have := at_alloc_new (w2.alloc (smO X)) X.cells 75
            intro j u hj
            have h := this j u hj
            rw [World.size_alloc, Nat.zero_add] at h
            rw [show (⟨w2.heap.size + 1, 0, none⟩ : Addr).add j = ⟨w2.heap.size + 1, j, none⟩ from by unfold Addr.add; split <;> simp_all]
            exact h
          case c2 => intro u hu; simp [Sm.cells] at hu; rcases hu with rfl | rfl | rfl | rfl | rfl <;> rfl
          case c3 => unfold maxLen; omega
          case c4 => omega
          case c5 => simp; omega
          intro v' w3 hown' hgrow _
          have HB3 : Hid (Below w1.heap.size w1 w3) := ((HB2.out.alloc hsz2 _).alloc (by simp; omega) _).grown hgrow (by simp; omega) (fun b hb => (HO2.out.lt b hb).1)
          have HO3 : Hid (w3.ownsRow w1.heap.size 75 5 v' (k + 1) (flatS (smsR s (k + 1)))) := by
            show World.ownsRow _ _ _ _ _ _ _
            rw [HF.out]; exact hown'
          clear hown' hgrow
          go_wp2_with fail
          refine ⟨⟨k + 1, by omega, ?_, HO3.out, HB3.out, HA'.out⟩, ?_⟩
          · have e : ∀ x y : Int, x = y → Value.int IntKind.i64 x = .int .i64 y := fun x y h => by rw [h]
            exact e _ _ (by omega)
          · simp [intOf]; omega
      · have hkc : k = c := by omega
        have hge : ¬ (2 : Int) + 11 * (k : Int) + 11 ≤ 6 + 11 * (c : Int) - 4 := by omega
        have HX : Hid (unOk s = true) := by
          show _ = _
          rw [HU.out]
          refine all_true (fun j hj => ?_)
          rw [smsR_len] at hj
          rw [smsR_get s c j hj]
          exact HA.out j (by omega)
        go_wp2_with fail
        go_ret3
        rw [HP.out]
        exact ⟨HB.out, Or.inl ⟨HX.out, _, rfl, hkc ▸ HO.out⟩⟩

end Go.Proofs.Ythciddpljcbhiab

/- Samples made right, and what a call leaves of a box of its caller's. -/
namespace Go.Proofs.Ythciddpljcbhiab
open Go.RowKit

def fixSm (x : Sm) : Sm := ⟨pk x.time 100001, lbB x.l0, lbB x.l1, lbB x.l2, x.value⟩
def fixL (ls : List Sm) (k : Nat) : List Sm := (ls.take k).map fixSm
theorem fixL_len (ls : List Sm) (k : Nat) (h : k ≤ ls.length) : (fixL ls k).length = k := by simp [fixL]; omega
theorem fixL_succ (ls : List Sm) (k : Nat) (h : k < ls.length) : flatS (fixL ls (k + 1)) = flatS (fixL ls k) ++ (fixSm (smG ls k)).cells := by
  unfold fixL
  rw [take_snoc ls k h, List.map_append, smG_get ls k h]
  exact flat_snoc _ _ _
theorem fixSm_ok (x : Sm) : smOk (fixSm x) = true := by
  rw [smOk_iff]
  have h := pk_range x.time 100001 (by omega)
  refine ⟨h.1, by simp only [fixSm]; omega, ?_⟩
  simp [fixSm, lab3, lbB_lab]
theorem lab_byte {a : Int} (h : labB a = true) : 0 ≤ a ∧ a ≤ 255 := by
  simp [labB, letB] at h; omega
theorem fixSm_wf {x : Sm} (h : x.wf) : (fixSm x).wf := by
  have hp := pk_range x.time 100001 (by omega)
  exact ⟨⟨by simp only [fixSm]; omega, by simp only [fixSm]; omega⟩, lab_byte (lbB_lab _), lab_byte (lbB_lab _), lab_byte (lbB_lab _), h.2.2.2.2⟩
theorem all_ok {L : List Sm} (h : ∀ x ∈ L, smOk x = true) : smsOk L = true := all_true fun j hj => by rw [smG_get L j hj]; exact h _ (List.getElem_mem _)
theorem all_wf {L : List Sm} (h : ∀ x ∈ L, x.wf) : SmWf L := by
  intro i
  by_cases hi : i < L.length
  · rw [smG_get L i hi]; exact h _ (List.getElem_mem _)
  · have : smG L i = Sm.zero := by simp only [smG, List.getD]; rw [List.getElem?_eq_none (by omega)]; rfl
    rw [this]; simp [Sm.wf, Sm.zero]
theorem fixL_ok (ls : List Sm) (k : Nat) : ∀ x ∈ fixL ls k, smOk x = true := by
  intro x hx; simp only [fixL, List.mem_map] at hx; obtain ⟨y, _, rfl⟩ := hx; exact fixSm_ok y
theorem fixL_wf {ls : List Sm} (h : SmWf ls) (k : Nat) : ∀ x ∈ fixL ls k, x.wf := by
  intro x hx; simp only [fixL, List.mem_map] at hx; obtain ⟨y, hy, rfl⟩ := hx; exact fixSm_wf (mem_wf h (List.mem_of_mem_take hy))
def dfltSm : Sm := ⟨0, 97, 45, 122, 0⟩

/-- What a call leaves of a box of its caller's. -/
theorem box5 {w w1 : World} {x0 x1 x2 x3 x4 : Value} (hb : Below (w.alloc (.cells #[x0, x1, x2, x3, x4] 75)).heap.size (w.alloc (.cells #[x0, x1, x2, x3, x4] 75)) w1) :
    w.heap.size < w1.heap.size ∧ w1.cell? ⟨w.heap.size, 0, none⟩ = some x0 ∧ w1.cell? ⟨w.heap.size, 1, none⟩ = some x1 ∧ w1.cell? ⟨w.heap.size, 2, none⟩ = some x2 ∧ w1.cell? ⟨w.heap.size, 3, none⟩ = some x3 ∧ w1.cell? ⟨w.heap.size, 4, none⟩ = some x4 ∧
    w1.frozen? ⟨w.heap.size, 0, none⟩ = false ∧ w1.frozen? ⟨w.heap.size, 1, none⟩ = false ∧ w1.frozen? ⟨w.heap.size, 2, none⟩ = false ∧ w1.frozen? ⟨w.heap.size, 3, none⟩ = false ∧ w1.frozen? ⟨w.heap.size, 4, none⟩ = false := by
  have hz := hb.size
  rw [World.size_alloc] at hb hz
  have b0 : w1.heap[w.heap.size]? = some (.cells #[x0, x1, x2, x3, x4] 75) := by rw [hb.block _ (by omega), heap_alloc_new]
  refine ⟨by omega, ?_, ?_, ?_, ?_, ?_, ?_, ?_, ?_, ?_, ?_⟩
  all_goals simp [World.cell?, World.frozen?, b0]
theorem owns_set_ne {w : World} {B : Nat} {e : TypeId} {sz : Nat} {v : Value} {n : Nat} {xs : List Value} (h : w.ownsRow B e sz v n xs) {X : Nat} (hX : ∀ g, v.ownBlock = some g → g ≠ X) (o : Nat) (u : Value) : (w.setCell ⟨X, o, none⟩ u).ownsRow B e sz v n xs := by
  obtain ⟨h1, h2⟩ := h
  refine ⟨h1, ?_⟩
  rcases h2 with h2 | ⟨g, cap, cur, rfl, hbg, hg, hr⟩
  · exact Or.inl h2
  · refine Or.inr ⟨g, cap, cur, rfl, hbg, ?_, hr⟩
    rw [Below.heap_setCell _ _ _ _ (show g ≠ X from hX g rfl)]; exact hg

theorem new_cells (w : World) (l : List Value) (t : TypeId) (g : Nat) (hg : g = w.heap.size) : ∀ j u, l[j]? = some u → (w.alloc (.cells l.toArray t)).cell? ((⟨g, 0, none⟩ : Addr).add j) = some u := by
  subst hg
  intro j u hj
  have h := at_alloc_new w l t j u hj
  rw [Nat.zero_add] at h
  rw [show (⟨w.heap.size, 0, none⟩ : Addr).add j = ⟨w.heap.size, j, none⟩ from by unfold Addr.add; split <;> simp_all]
  exact h
theorem cells_one (x : Sm) : ∀ u ∈ x.cells, u.oneCell' = true := by
  intro u hu; simp [Sm.cells] at hu; rcases hu with rfl | rfl | rfl | rfl | rfl <;> rfl
theorem size_set (w : World) (a : Addr) (u : Value) : (w.setCell a u).heap.size = w.heap.size := by simp [World.setCell]

theorem make42m (n : Nat) (h : n ≤ 10000000000000) : ∃ Z : List Value, Z.length = n * 5 ∧ ∀ w, (Instr.makeSlice 29 (.int .i64 (n : Int)) (.int .i64 (n : Int))).run Try.prog w =
    .ok (.slice (some ⟨w.heap.size, 0, none⟩) n n) (w.alloc (.cells Z.toArray 75)) := by
  have hinfo := Try.info75'
  cases hq : Try.prog.info? 75 with
  | none => simp [hq] at hinfo
  | some i =>
    simp only [hq, Option.map_some, Option.some.injEq, Prod.mk.injEq] at hinfo
    obtain ⟨hz, hs, hb⟩ := hinfo
    refine ⟨(madeCells (Value.cells (.agg #[.int .i64 0, .int .u8 0, .int .u8 0, .int .u8 0, .int .i32 0])) (n * 5)).toList, by simp [size_madeCells], fun w => ?_⟩
    have hr := run_make (P := Try.prog) w 29 75 i _ Try.underlying29 hq hz .i64 .i64 (n : Int) (n : Int) (by omega) (by omega) (by rw [hb]; omega) (by omega)
    rw [hr, hs, Int.toNat_natCast]
theorem copy42m (X : World) (Z : List Value) (a : Option Addr) (n cap : Nat) (ls : List Sm) (hZ : Z.length = n * 5) (h : IsSms X a n ls) (hn0 : 0 < n) (ty : TypeId) :
    (Builtin.copy_ #[29, 29] ty #[.slice (some ⟨X.heap.size, 0, none⟩) n n, .slice a n cap]).run Try.prog (X.alloc (.cells Z.toArray 75)) =
      .ok (goInt n) (X.alloc (.cells (flatS ls).toArray 75)) := by
  obtain ⟨hn, hx⟩ := h
  obtain ⟨b, off, rfl, hat⟩ := hx hn0
  have hb := hat.block (by omega)
  have hat' := at_of_sm (hat.below ((Below.refl X.heap.size X).alloc (Nat.le_refl _) (.cells Z.toArray 75)) hb)
  rw [run_copyN (P := Try.prog) _ 29 29 ty 75 5 X.heap.size 0 n n ⟨b, off, none⟩ n cap Z.toArray 75 (flatS ls) Try.underlying29 Try.size75 (heap_alloc_new X _)
    (by rw [flatS_len, hn]; congr 1; simp) (fun j v hj => by
      have := hat' j v hj
      rw [show (⟨b, off, none⟩ : Addr).add j = ⟨b, off + j, none⟩ from by unfold Addr.add; split <;> simp_all]
      exact this) (by simp [flatS_len, hZ]; omega) (flatS_one ls)]
  rw [setRow_alloc]
  have : Nat.min n n = n := by simp
  rw [this]
  have hd : Z.drop (flatS ls).length = [] := by rw [List.drop_eq_nil_iff, flatS_len]; omega
  simp [hd]
theorem recB_byte2 {ls : List Sm} (h : SmWf ls) (hn : ls.length ≤ 255) : ∀ y ∈ recB ls, isByte y := by
  intro y hy
  rcases List.mem_append.1 hy with hy | hy
  · exact bodyB_byte h hn y hy
  · exact lowN_byte _ _ y hy
theorem nums_append (a b : ByteArray) : nums (a ++ b) = nums a ++ nums b := by
  unfold nums; simp [ByteArray.data_append]

end Go.Proofs.Ythciddpljcbhiab

/- Walks: a desk's batch, a desk's time (garnerkeep). -/
namespace Go.Proofs.Ythciddpljcbhiab
open Go Go.RowKit Go.Lib

def tryL (s : St) (b : List Sm) (lg : ByteArray) : ByteArray := if fineB s b then lg ++ strOfNums (recB b) else lg
def tickL (s : St) (n : Int) (lg : ByteArray) : ByteArray := if tkE s n = 0 then lg ++ strOfNums (tickB n) else lg
def St.tick' (s : St) (n : Int) : St := if tkE s n = 0 then s.tk n else s

theorem copy42z (X : World) (Z : List Value) (a : Option Addr) (cap : Nat) (hZ : Z.length = 0 * 5) (ty : TypeId) :
    (Builtin.copy_ #[29, 29] ty #[.slice (some ⟨X.heap.size, 0, none⟩) 0 0, .slice a 0 cap]).run Try.prog (X.alloc (.cells Z.toArray 75)) =
      .ok (goInt 0) (X.alloc (.cells (flatS []).toArray 75)) := by
  rw [run_copyN_none _ 29 29 ty 75 5 _ _ _ _ _ _ Try.underlying29 Try.size75 (by simp)]
  have : Z = [] := List.eq_nil_of_length_eq_zero (by simpa using hZ)
  subst this
  simp [flatS]
theorem copy42n (X : World) (Z : List Value) (a : Option Addr) (n cap : Nat) (ls : List Sm) (hZ : Z.length = n * 5) (h : IsSms X a n ls) (ty : TypeId) :
    (Builtin.copy_ #[29, 29] ty #[.slice (some ⟨X.heap.size, 0, none⟩) n n, .slice a n cap]).run Try.prog (X.alloc (.cells Z.toArray 75)) =
      .ok (goInt n) (X.alloc (.cells (flatS ls).toArray 75)) := by
  by_cases h0 : n = 0
  · subst h0
    have : ls = [] := List.eq_nil_of_length_eq_zero h.1
    subst this
    exact copy42z X Z a cap hZ ty
  · exact copy42m X Z a n cap ls hZ h (by omega) ty
theorem below_und {B : Nat} {w w' : World} {d : Nat} (h : Below B (w.drewN d) w') : Below B w w' := ⟨h.os, h.tape, h.output, h.size, h.block⟩
theorem wrE_le (s : St) (ls : List Sm) : 0 ≤ wrE s ls ∧ wrE s ls ≤ 13 := by
  have := batE_le ls
  unfold wrE
  split
  · exact this
  · split
    · omega
    · split <;> omega

set_option maxHeartbeats 2000000 in
set_option maxRecDepth 100000 in
theorem writes_any (B D X : Nat) (F : Nat → Prop) (s : St) (L lc : Nat) (sv : Value) (lg : ByteArray) (a : Option Addr) (n cap : Nat) (ls : List Sm) (w : World) (h : DkS w B D X F s L lc sv lg) (hs : IsSms w a n ls) (hn : n ≤ 9000000000000) (hwf : ∀ x ∈ ls, x.wf) (hwf' : SmWf ls) (hout : 0 < n → ∀ b off, a = some ⟨b, off, none⟩ → ¬ F b) :
    Calls Try.prog 22 #[.pointer (some ⟨D, 0, none⟩), .slice a n cap] w fun e w' => e = .returned (.bool true) ∧ DkAt w' B D (s.try' ls) (tryL s ls lg) ∧ Below B w w' := by
  obtain ⟨Z, hZ, hmk⟩ := make42m n (by omega)
  have hcp := fun ty => copy42n w Z a n cap ls hZ hs ty
  have HI := h.inv
  have HFN := fine_iff HI ls
  obtain ⟨sa, sc, rfl⟩ := ownForm h.sms
  have hb1 : Below w.heap.size w (w.alloc (.cells (flatS ls).toArray 75)) := (Below.refl _ _).alloc (Nat.le_refl _) _
  have HD1 : Hid (DkS (w.alloc (.cells (flatS ls).toArray 75)) B D X F s L lc (.slice sa s.l.length sc) lg) := h.below hb1
  have HS1 : Hid (IsSms (w.alloc (.cells (flatS ls).toArray 75)) a n ls) := hs.below hb1
  have HM1 : Hid (SmAt (w.alloc (.cells (flatS ls).toArray 75)) w.heap.size 0 ls) := smAt_of (at_alloc_new w (flatS ls) 75)
  have HG : Hid (¬ F w.heap.size) := fun e => by have := (h.fb _ e).2; omega
  have HN : Hid (ls.length = n) := hs.1
  have HB1 : Hid (Below B w (w.alloc (.cells (flatS ls).toArray 75))) := hb1.mono (by have := h.lt; have := h.bD; omega)
  have c0 := HD1.out.cell 0 _ rfl
  have c5 := HD1.out.cell 5 _ rfl
  have HI' : Hid (Inv s) := HI
  have HWF : Hid (∀ x ∈ ls, x.wf) := hwf
  have HWF' : Hid (SmWf ls) := hwf'
  have HO : Hid (0 < n → ∀ b off, a = some ⟨b, off, none⟩ → ¬ F b) := hout
  have HL5 := HI.len
  obtain ⟨li0, hli, lz0, lz1, lz2⟩ := infP Try.info75'
  have HWS : w.heap.size < (w.alloc (.cells (flatS ls).toArray 75)).heap.size := by simp
  have HDl := HD1.out.lt
  clear h hs hZ HI hb1 hwf hwf' hout
  generalize hW1 : w.alloc (.cells (flatS ls).toArray 75) = w1 at *
  by_cases hf : fineB s ls = true
  · have he : wrE s ls = 0 := HFN.1 hf
    obtain ⟨b1, b2, b3⟩ := (batE_zero ls).1 (wrE_ok he).1
    have hn1 : 1 ≤ n := by rw [← HN.out]; exact b1
    have hn8 : n ≤ 8 := by rw [← HN.out]; exact b2
    obtain ⟨b, off, rfl, hat⟩ := HS1.out.2 (by omega)
    have hbF := HO.out (by omega) b off rfl
    have HE : Hid (wrE s ls = 0) := he
    have HFB : Hid (fineB s ls = true) := hf
    clear b1 b2 b3 he hf HFN
    go_enter Try.func22, Try.ntmps22
    go_wp2_with fail
    refine (fine_any D X s L s.c.lvs.length lc sa sc (some ⟨b, off, none⟩) n cap ls _ HI'.out HD1.out.blk HS1.out (by unfold maxLen; omega)).mono ?_
    rintro e w2 ⟨rfl, d, rfl⟩
    rw [HFB.out]
    go_wp2_with fail
    refine (write_yes X F s w.heap.size 0 n n ls lg (w1.drewN d) (HD1.out.below (below_drewN (Below.refl _ _) d)).st HN.out HM1.out HG.out HWF.out HWF'.out HE.out).mono ?_
    rintro e w3 ⟨rfl, hst, hfr⟩
    have HDd : Hid (DkS (w1.drewN d) B D X F s L lc (.slice sa s.l.length sc) lg) := HD1.out.below (below_drewN (Below.refl _ _) d)
    obtain ⟨hblk, hlv, hsm, hbl, hDl⟩ := HDd.out.fr hfr
    have d5 := cell_blk (o := 5) hblk rfl
    have z5 := froz_blk (o := 5) hblk
    have hat3 : SmAt w3 b off ls := smAt_of (At.fr (at_of_sm hat) (show Fr F w1 w3 from ⟨hfr.os, hfr.tape, hfr.output, hfr.size, hfr.block⟩) hbF)
    have HST : Hid (StoreAt w3 X (gF F (w1.drewN d) w3) (s.wr ls) (lg ++ strOfNums (recB ls))) := hst
    have HFR : Hid (Fr F (w1.drewN d) w3) := hfr
    have HSM : Hid (w3.ownsRow 0 75 5 (.slice sa s.l.length sc) s.l.length (flatS s.l)) := hsm
    have HAT : Hid (∀ j u, (flatS ls)[j]? = some u → w3.cell? ((⟨b, off, none⟩ : Addr).add j) = some u) := fun j u hj => by rw [Addr.add_lit]; exact at_of_sm hat3 j u hj
    have HSD : Hid ((Value.slice sa s.l.length sc).ownBlock ≠ some D) := fun e => (HDd.out.bS D e).2.2.1 rfl
    clear hst hfr hblk hlv hsm hbl hat3 hat c0 c5
    go_wp2_with (refine listAppend rfl (.tmp 31) (.tmp 32) 29 rfl 0 75 li0 (.agg #[.int .i64 0, .int .u8 0, .int .u8 0, .int .u8 0, .int .i32 0]) 5 16 Try.underlying29 hli lz0 lz1 lz2 rfl (by decide) (.slice sa s.l.length sc) s.l.length (flatS s.l) (by simp [Act.eval]) HSM.out ⟨b, off, none⟩ n cap (flatS ls) (by simp [Act.eval]) (by rw [flatS_len, HN.out]) HAT.out (flatS_one ls) (by unfold maxLen; omega) (by omega) (Nat.zero_le _) ?_; intro sv' w4 hown hgrow hblk; have d4 : w4.cell? ⟨D, 5, none⟩ = some (.slice sa s.l.length sc) := hgrow.cell d5 (fun e => HSD.out e.symm); have z4 : w4.frozen? ⟨D, 5, none⟩ = false := (World.frozen?_of_block (hgrow.block D hDl (fun e => HSD.out e.symm))).trans z5; obtain ⟨a', p', rfl⟩ := ownForm hown)
    go_ret
    obtain ⟨g1, g2⟩ := HDd.out.wrote HST.out HFR.out hgrow (by rw [HN.out]; exact hown) hblk
    refine ⟨rfl, ?_, ?_⟩
    · unfold St.try' tryL
      rw [HFB.out]
      exact g1.at
    · exact HB1.out.trans (below_und g2)
  · have he : wrE s ls ≠ 0 := fun e => hf (HFN.2 e)
    obtain ⟨e0, e1⟩ := wrE_le s ls
    have HE : Hid (wrE s ls ≠ 0) := he
    have HFB : Hid (fineB s ls = false) := by show fineB s ls = false; simpa using hf
    have hbq : (wrE s ls != 0) = true := by simpa using he
    clear he hf HFN
    go_enter Try.func22, Try.ntmps22
    go_wp2_with fail
    refine (fine_any D X s L s.c.lvs.length lc sa sc a n cap ls _ HI'.out HD1.out.blk HS1.out (by unfold maxLen; omega)).mono ?_
    rintro e w2 ⟨rfl, d, rfl⟩
    rw [HFB.out]
    go_wp2_with fail
    refine (write_no X F s (some ⟨w.heap.size, 0, none⟩) n n ls (w1.drewN d) (HD1.out.below (below_drewN (Below.refl _ _) d)).st ⟨HN.out, fun _ => ⟨_, _, rfl, HM1.out⟩⟩ (by unfold maxLen; omega) HE.out).mono ?_
    rintro e w3 ⟨rfl, hb3⟩
    generalize hq : wrE s ls = E at *
    go_wp2_with fail
    go_ret
    refine ⟨rfl, ?_, ?_⟩
    · unfold St.try' tryL
      rw [HFB.out]
      exact ((HD1.out.below (below_drewN (Below.refl _ _) d)).below hb3).at
    · have := HD1.out.bD
      exact HB1.out.trans (below_und (hb3.mono (show B ≤ w1.heap.size by omega)))

set_option maxHeartbeats 2000000 in
set_option maxRecDepth 100000 in
theorem ticks_any (B D : Nat) (s : St) (lg : ByteArray) (n : Int) (w : World) (h : DkAt w B D s lg) (h0 : -9223372036854775808 ≤ n) (h1 : n ≤ 9223372036854775807) :
    Calls Try.prog 20 #[.pointer (some ⟨D, 0, none⟩), .int .i64 n] w fun e w' => e = .returned (.bool true) ∧ DkAt w' B D (s.tick' n) (tickL s n lg) ∧ Below B w w' := by
  obtain ⟨X, F, L, lc, sv, h⟩ := h
  have HD : Hid (DkS w B D X F s L lc sv lg) := h
  have c0 := h.cell 0 _ rfl
  have c4 := h.cell 4 _ rfl
  have HI := h.inv
  have n0 := HI.n0
  have n1 := HI.n1
  clear h
  by_cases he : tkE s n = 0
  · obtain ⟨e1, e2, e3⟩ := tkE_zero he
    have HE : Hid (tkE s n = 0) := he
    clear he HI
    go_enter Try.func20, Try.ntmps20
    go_wp2_with fail
    refine (tick_yes X F s n lg w HD.out.st HE.out).mono ?_
    rintro e w1 ⟨rfl, hst, hfr⟩
    obtain ⟨hblk, hlv, hsm, hbl, hDl⟩ := HD.out.fr hfr
    have d4 := cell_blk (o := 4) hblk rfl
    have z4 := froz_blk (o := 4) hblk
    clear hblk hlv hsm hbl
    have HST : Hid (StoreAt w1 X (gF F w w1) (s.tk n) (lg ++ strOfNums (tickB n))) := hst
    have HFR : Hid (Fr F w w1) := hfr
    clear hst hfr
    go_wp2_with fail
    go_ret
    obtain ⟨g1, g2⟩ := HD.out.ticked HST.out HFR.out rfl
    refine ⟨rfl, ?_, g2⟩
    unfold St.tick' tickL
    rw [if_pos HE.out, if_pos HE.out]
    exact g1.at
  · obtain ⟨e8, hr⟩ := tkE_no he
    have HE : Hid (tkE s n ≠ 0) := he
    have HR : Hid (DkAt w B D (s.tick' n) (tickL s n lg)) := by
      unfold St.tick' tickL
      show DkAt _ _ _ _ _
      rw [if_neg he, if_neg he]
      exact HD.out.at
    clear he HI
    have hd : 100000 < s.now + n → decide (s.now + n ≤ 100000) = false := fun h => by simp; omega
    rcases hr with hr | ⟨hr, hr2⟩ | ⟨hr, hr2, hr3⟩
    case' inr.inr => have hd' := hd hr3
    all_goals
      clear hd
      go_enter Try.func20, Try.ntmps20
      go_wp2_with fail
      refine (tick_no X F s n w HD.out.st h0 h1 HE.out).mono ?_
      rintro e w1 ⟨rfl, rfl⟩
      go_wp2_with fail
      go_ret
      exact ⟨rfl, HR.out, Below.refl _ _⟩

end Go.Proofs.Ythciddpljcbhiab

/- Walks: samples that may be accepted, out of raw ones (garnerkeep). -/
namespace Go.Proofs.Ythciddpljcbhiab
open Go Go.RowKit Go.Lib

attribute [local go_sem ↓] Go.wp_at_zero Go.wp_at_succ

def shpK (s : St) (ls : List Sm) (k : Nat) : List Sm := (ls.take k).map (shp1 s)
theorem shpK_succ (s : St) (ls : List Sm) (k : Nat) (h : k < ls.length) : flatS (shpK s ls (k + 1)) = flatS (shpK s ls k) ++ (shp1 s (smG ls k)).cells := by
  unfold shpK
  rw [List.take_succ_eq_append_getElem h, List.map_append, List.map_cons, List.map_nil, ← smG_get ls k h]
  exact flat_snoc _ _ _
theorem shpK_all (s : St) (ls : List Sm) (k : Nat) (h : k ≤ 8) (h' : k ≤ ls.length) (he : ¬ (k < ls.length ∧ k < 8)) : shpK s ls k = shp s ls := by
  unfold shpK shp
  by_cases h8 : k = 8
  · rw [h8]
  · rw [List.take_of_length_le (by omega), List.take_of_length_le (by omega)]

set_option maxHeartbeats 8000000 in
set_option maxRecDepth 100000 in
theorem shaped_any (B D X : Nat) (F : Nat → Prop) (s : St) (L lc : Nat) (sv : Value) (lg : ByteArray) (a : Option Addr) (n cap : Nat) (ls : List Sm) (w : World) (h : DkS w B D X F s L lc sv lg) (hs : IsSms w a n ls) (hn : n ≤ 9000000000000) (hwf : SmWf ls) :
    Calls Try.prog 21 #[.pointer (some ⟨D, 0, none⟩), .slice a n cap] w fun e w' => ∃ v, e = .returned v ∧ w'.ownsRow w.heap.size 75 5 v (shp s ls).length (flatS (shp s ls)) ∧ Below w.heap.size w w' := by
  have HD : Hid (DkS w B D X F s L lc sv lg) := h
  have HS : Hid (IsSms w a n ls) := hs
  have HN : Hid (ls.length = n) := hs.1
  have HWF : Hid (SmWf ls) := hwf
  have hDl := h.lt
  have HI := h.inv
  have n0 := HI.n0
  have n1 := HI.n1
  obtain ⟨o0, o1⟩ := oldT_range HI
  have HI' : Hid (Inv s) := HI
  obtain ⟨li0, hli, lz0, lz1, lz2⟩ := infP Try.info75'
  clear h hs hwf HI
  go_enter Try.func21, Try.ntmps21
  go_wp2_with fail
  go_loopw [5, 6] (fun v i wr => ∃ k : Nat, k ≤ n ∧ k ≤ 8 ∧ i = .int .i64 k ∧ wr.ownsRow w.heap.size 75 5 v k (flatS (shpK s ls k)) ∧ Below w.heap.size w wr) (fun _ i _ => 8 - (intOf i).toNat)
  case atStart => exact ⟨0, Nat.zero_le _, Nat.zero_le _, rfl, World.ownsRow_nil _ _ _ _, Below.refl _ _⟩
  case round =>
    obtain ⟨k, hk, hk8, rfl, hown, hbel⟩ := hrel
    have HO : Hid (wr.ownsRow w.heap.size 75 5 u5 k (flatS (shpK s ls k))) := hown
    have HB : Hid (Below w.heap.size w wr) := hbel
    have hsz := hbel.size
    clear hown hbel
    by_cases hlt : k < n ∧ k < 8
    · obtain ⟨hl1, hl2⟩ := hlt
      obtain ⟨b, off, rfl, hat⟩ := HS.out.2 (by omega)
      have hbs : b < w.heap.size := hat.block (by rw [HN.out]; omega)
      obtain ⟨m0, m1, m2, m3, m4⟩ := (hat.below HB.out hbs) k (by rw [HN.out]; exact hl1)
      obtain ⟨⟨f0, f1⟩, f2, f3, f4, f5⟩ := HWF.out k
      have HSU : Hid (flatS (shpK s ls (k + 1)) = flatS (shpK s ls k) ++ (shp1 s (smG ls k)).cells) := shpK_succ s ls k (by rw [HN.out]; exact hl1)
      have hbr : b < wr.heap.size := by omega
      have hDr : D < wr.heap.size := by omega
      clear hat
      generalize hZ : smG ls k = Z at *
      have hlb := fun w => labels_any Z.l0 Z.l1 Z.l2 w f2 f3 f4
      have HSP : Hid (shp1 s Z = ⟨s.now - pk Z.time (s.now - oldT s + 1), lbB Z.l0, lbB Z.l1, lbB Z.l2, Z.value⟩) := rfl
      have HPK := fun w => pick_any Z.time (s.now - oldT s + 1) w f0 f1 (by omega) (by omega)
      obtain ⟨p0, p1⟩ := pk_range Z.time (s.now - oldT s + 1) (by omega)
      generalize hpk : pk Z.time (s.now - oldT s + 1) = PK at *
      have HLB : Hid (∀ w, Calls Try.prog 38 #[.agg #[.int .u8 Z.l0, .int .u8 Z.l1, .int .u8 Z.l2]] w fun e w' => e = .returned (.agg #[.int .u8 (lbB Z.l0), .int .u8 (lbB Z.l1), .int .u8 (lbB Z.l2)]) ∧ Below w.heap.size w w') := hlb
      have HPKH : Hid (∀ w, Calls Try.prog 12 #[.int .i64 Z.time, .int .i64 (s.now - oldT s + 1)] w fun e w' => e = .returned (.int .i64 PK) ∧ w' = w) := HPK
      clear hlb HPK
      have hw1 : IntKind.i64.wrap (s.now - oldT s) = s.now - oldT s := by simp [IntKind.wrap, IntKind.bits, IntKind.signed]; omega
      have hw2 : IntKind.i64.wrap (s.now - oldT s + 1) = s.now - oldT s + 1 := by simp [IntKind.wrap, IntKind.bits, IntKind.signed]; omega
      have hw3 : IntKind.i64.wrap (s.now - PK) = s.now - PK := by simp [IntKind.wrap, IntKind.bits, IntKind.signed]; omega
      go_upto_region 6 with fail
      go_cut [7] from 8 to 46 (fun v wx => v = .pointer (some ⟨wr.heap.size, 0, none⟩) ∧ wx.heap[wr.heap.size]? = some (.cells #[.int .i64 Z.time, .int .u8 (lbB Z.l0), .int .u8 (lbB Z.l1), .int .u8 (lbB Z.l2), .int .i32 Z.value] 75 (0, 0)) ∧ Below wr.heap.size wr wx)
      case first =>
        go_wp2_with fail
        refine (HLB.out _).mono ?_
        rintro e w1 ⟨rfl, hb1⟩
        obtain ⟨z1, y0, y1, y2, y3, y4, q0, q1, q2, q3, q4⟩ := box5 hb1
        have HP : Hid (w1.heap[wr.heap.size]? = some (.cells #[.int .i64 Z.time, .int .u8 Z.l0, .int .u8 Z.l1, .int .u8 Z.l2, .int .i32 Z.value] 75 (0, 0))) := by
          show _ = _
          rw [hb1.block _ (by simp)]; exact heap_alloc_new wr _
        have HB1 : Hid (Below wr.heap.size wr w1) := ((Below.refl _ _).alloc (Nat.le_refl _) _).trans (hb1.mono (by simp))
        clear hb1
        go_wp2_with fail
        go_meet
        case rel => exact ⟨rfl, heap_setCell (heap_setCell (heap_setCell HP.out)), ((HB1.out.setCell (Nat.le_refl _) _).setCell (Nat.le_refl _) _).setCell (Nat.le_refl _) _⟩
      case rest =>
        obtain ⟨rfl, hP, hbc⟩ := hcut
        have HP : Hid (wc.heap[wr.heap.size]? = some (.cells #[.int .i64 Z.time, .int .u8 (lbB Z.l0), .int .u8 (lbB Z.l1), .int .u8 (lbB Z.l2), .int .i32 Z.value] 75 (0, 0))) := hP
        have HBC : Hid (Below wr.heap.size wr wc) := hbc
        have HDD : Hid (DkS wc B D X F s L lc sv lg) := HD.out.below (HB.out.trans (hbc.mono (by omega)))
        have d4 := HDD.out.cell 4 _ rfl
        have x0 := cell_blk (o := 0) hP rfl
        have z0 := froz_blk (o := 0) hP
        have hwc : wr.heap.size < wc.heap.size := (Array.getElem?_eq_some_iff.1 hP).1
        have HOL : Hid (∀ d, Calls Try.prog 27 #[.pointer (some ⟨D, 0, none⟩)] (wc.drewN d) fun e w' => e = .returned (.int .i64 (oldT s)) ∧ ∃ k, w' = (wc.drewN d).drewN k) := fun d => oldest_any D X s L s.c.lvs.length lc sv (wc.drewN d) HI'.out HDD.out.blk
        have HW : Hid (∀ D d, ((wc.drewN d).setCell ⟨wr.heap.size, 0, none⟩ (.int .i64 D)).heap[wr.heap.size]? = some (.cells #[.int .i64 D, .int .u8 (lbB Z.l0), .int .u8 (lbB Z.l1), .int .u8 (lbB Z.l2), .int .i32 Z.value] 75 (0, 0))) := fun D d => heap_setCell (w := wc.drewN d) hP
        have HX : Hid (∀ D d, Below wr.heap.size wr ((wc.drewN d).setCell ⟨wr.heap.size, 0, none⟩ (.int .i64 D))) := fun D d => (below_drewN hbc d).setCell (Nat.le_refl _) _
        clear hP hbc m0 m1 m2 m3 m4
        go_upto_region 7 with fail
        go_cut [7] from 8 to 46 (fun v wx => v = .pointer (some ⟨wr.heap.size, 0, none⟩) ∧ wx.heap[wr.heap.size]? = some (.cells #[.int .i64 (s.now - PK), .int .u8 (lbB Z.l0), .int .u8 (lbB Z.l1), .int .u8 (lbB Z.l2), .int .i32 Z.value] 75 (0, 0)) ∧ Below wr.heap.size wr wx)
        case first =>
          go_region_with (first | (go_at_call 27; refine (HOL.out _).mono ?_; rintro e w' ⟨rfl, d, rfl⟩) | (go_at_call 12; refine (HPKH.out _).mono ?_; rintro e w' ⟨rfl, rfl⟩))
          all_goals go_wp2_with fail
          all_goals go_meet
          all_goals (case rel => exact ⟨rfl, HW.out _ _, HX.out _ _⟩)
        case rest =>
          obtain ⟨rfl, hP, hbc⟩ := hcut
          have x0 := cell_blk (o := 0) hP rfl
          have x1 := cell_blk (o := 1) hP rfl
          have x2 := cell_blk (o := 2) hP rfl
          have x3 := cell_blk (o := 3) hP rfl
          have x4 := cell_blk (o := 4) hP rfl
          have HBC2 : Hid (Below wr.heap.size wr wc) := hbc
          have hwc2 : wr.heap.size < wc.heap.size := (Array.getElem?_eq_some_iff.1 hP).1
          have HOC : Hid (wc.ownsRow w.heap.size 75 5 u5 k (flatS (shpK s ls k))) := owns_below HO.out hbc (fun j e => (HO.out.lt j e).2)
          obtain ⟨va, vc, rfl⟩ := ownForm HO.out
          clear hP hbc HP HOL HW HX
          go_wp2_with (refine listAppend rfl (.tmp 43) (.tmp 45) 29 rfl w.heap.size 75 li0 (.agg #[.int .i64 0, .int .u8 0, .int .u8 0, .int .u8 0, .int .i32 0]) 5 16 Try.underlying29 hli lz0 lz1 lz2 rfl (by decide) (.slice va k vc) k (flatS (shpK s ls k)) (by simp [Act.eval]) (HOC.out.alloc _) ⟨wc.heap.size, 0, none⟩ 1 1 (Sm.cells ⟨s.now - PK, lbB Z.l0, lbB Z.l1, lbB Z.l2, Z.value⟩) (by simp [Act.eval]) rfl (newAt _ (Sm.cells ⟨s.now - PK, lbB Z.l0, lbB Z.l1, lbB Z.l2, Z.value⟩) 75 _ rfl) (cells_one _) (by unfold maxLen; omega) (by omega) (by simp; omega) ?_; intro v' w4 hown hgrow hblk)
          have HBW : Hid (Below w.heap.size w w4) := gr_below ((HB.out.trans (HBC2.out.mono (by omega))).alloc (by omega) _) hgrow (by simp; omega) (fun j e => (HO.out.lt j e).1)
          have HOW : Hid (w4.ownsRow w.heap.size 75 5 v' (k + 1) (flatS (shpK s ls (k + 1)))) := by
            show World.ownsRow _ _ _ _ _ _ _
            rw [HSU.out, HSP.out]
            exact hown
          clear hown hgrow hblk
          go_wp2_with fail
          exact ⟨⟨k + 1, by omega, by omega, by go_num, HOW.out, HBW.out⟩, by simp [intOf]; omega⟩
    · have HE : Hid (shpK s ls k = shp s ls) := shpK_all s ls k hk8 (by rw [HN.out]; exact hk) (by rw [HN.out]; exact hlt)
      have HLE : Hid ((shp s ls).length = k) := by
        show _ = _
        rw [← HE.out]
        have := HN.out
        simp [shpK]; omega
      by_cases hl1 : k < n
      · have hl2 : ¬ (k : Int) < 8 := by omega
        go_wp2_with fail
        go_ret
        exact ⟨_, rfl, by rw [HLE.out, ← HE.out]; exact HO.out, HB.out⟩
      · have hl2 : ¬ (k : Int) < n := by omega
        go_wp2_with fail
        go_ret
        exact ⟨_, rfl, by rw [HLE.out, ← HE.out]; exact HO.out, HB.out⟩

end Go.Proofs.Ythciddpljcbhiab

/- Walks: Right, of the program. -/
namespace Go.Proofs.Ythciddpljcbhiab
open Go.RowKit

abbrev cfgO (span keep : Int) (a : Option Addr) (n cap : Nat) : Obj := .cells #[.int .i64 span, .int .i64 keep, .slice a n cap] 24

set_option maxHeartbeats 1000000 in
theorem cfgRight_yes (b off n cap : Nat) (ls : List Lv) (span keep : Int) (w : World) (hn : ls.length = n) (hat : LvAt w b off ls) (hwf : LvWf ls)
    (h1 : 1 ≤ span) (h2 : span ≤ 100) (h3 : 0 ≤ keep) (h4 : keep ≤ 19) (h5 : 1 ≤ n) (h6 : n ≤ 4) :
    Calls Try.prog 17 #[.agg #[.int .i64 span, .int .i64 keep, .slice (some ⟨b, off, none⟩) n cap]] w fun e w' => e = .returned (.bool (agesB ls keep && winsB ls span && sersB ls)) ∧ Below w.heap.size w w' := by
  have hb0 : b < w.heap.size := hat.block (by omega)
  have HL : Hid (LvAt (w.alloc (cfgO span keep (some ⟨b, off, none⟩) n cap)) b off ls) := hat.below ((Below.refl w.heap.size w).alloc (Nat.le_refl _) _) hb0
  have hmx : n ≤ maxLen := by unfold maxLen; omega
  have HMX : Hid (n ≤ maxLen) := hmx
  have HN : Hid (ls.length = n) := hn
  have HW : Hid (LvWf ls) := hwf
  clear hat hn hwf hmx
  have hd1 : 1 ≤ (n : Int) := by omega
  have hd2 : (n : Int) ≤ 4 := by omega
  go_enter Try.func17, Try.ntmps17
  go_wp2_with fail
  refine (rightAges_some b off n cap ls keep _ HN.out HMX.out HL.out).mono ?_
  rintro e w' ⟨rfl, rfl⟩
  cases hA : agesB ls keep
  · go_wp2_with fail
    go_ret
    exact ⟨ret_bool (by simp [hA]), by go_grown⟩
  · go_wp2_with fail
    refine (rightWindows_some b off n cap ls span _ HN.out HMX.out HL.out HW.out h1 h2).mono ?_
    rintro e w' ⟨rfl, rfl⟩
    cases hB : winsB ls span
    · go_wp2_with fail
      go_ret
      exact ⟨ret_bool (by simp [hA, hB]), by go_grown⟩
    · go_wp2_with fail
      refine (rightSeries_some b off n cap ls _ HN.out HMX.out HL.out HW.out).mono ?_
      rintro e w1 ⟨rfl, hb1⟩
      go_wp2_with fail
      go_ret
      exact ⟨ret_bool (by simp [hA, hB]), ((Below.refl w.heap.size w).alloc (Nat.le_refl _) _).trans (hb1.mono (by simp))⟩

theorem lvs_alloc {w : World} {a : Option Addr} {n : Nat} {ls : List Lv} (h : IsLvs w a n ls) (o : Obj) : IsLvs (w.alloc o) a n ls :=
  ⟨h.1, fun hn => let ⟨b, off, e, hat⟩ := h.2 hn; ⟨b, off, e, hat.below ((Below.refl w.heap.size w).alloc (Nat.le_refl _) _) (hat.block (by rw [h.1]; exact hn))⟩⟩

theorem cfgRight_any (a : Option Addr) (n cap : Nat) (ls : List Lv) (span keep : Int) (w : World) (h : IsLvs w a n ls) (hwf : LvWf ls) :
    Calls Try.prog 17 #[.agg #[.int .i64 span, .int .i64 keep, .slice a n cap]] w fun e w' => e = .returned (.bool (rightB span keep ls)) ∧ Below w.heap.size w w' := by
  by_cases hf : 1 ≤ span ∧ span ≤ 100 ∧ 0 ≤ keep ∧ keep ≤ 19 ∧ 1 ≤ n ∧ n ≤ 4
  · obtain ⟨h1, h2, h3, h4, h5, h6⟩ := hf
    obtain ⟨hn, hx⟩ := h
    obtain ⟨b, off, rfl, hat⟩ := hx (by omega)
    rw [rightB_rest h1 h2 h3 h4 (by omega) (by omega)]
    exact cfgRight_yes b off n cap ls span keep w hn hat hwf h1 h2 h3 h4 h5 h6
  · rw [rightB_first (by rw [h.1]; exact hf)]
    exact cfgRight_no a n cap span keep w hf

end Go.Proofs.Ythciddpljcbhiab

/- Walks: the levels in a list of the caller's own (handedConfig). -/
namespace Go.Proofs.Ythciddpljcbhiab
open Go.RowKit

theorem Try.info85' : (Try.prog.info? 85).map (fun i => (i.zero, i.size, i.bytes)) = some (some (.agg #[.int .i64 0, .int .i64 0, .string ByteArray.empty, .int .i64 0]), 4, 40) := by kernel_rfl
theorem Try.size85 : (Try.prog.info? 85).map (·.size) = some 4 := by kernel_rfl

theorem make73 (n : Nat) (h : n ≤ 7000000000000) : ∃ Z : List Value, Z.length = (n + 1) * 4 ∧ ∀ w, (Instr.makeSlice 22 (.int .i64 ((n : Int) + 1)) (.int .i64 ((n : Int) + 1))).run Try.prog w =
    .ok (.slice (some ⟨w.heap.size, 0, none⟩) (n + 1) (n + 1)) (w.alloc (.cells Z.toArray 85)) := by
  have hinfo := Try.info85'
  cases hq : Try.prog.info? 85 with
  | none => simp [hq] at hinfo
  | some i =>
    simp only [hq, Option.map_some, Option.some.injEq, Prod.mk.injEq] at hinfo
    obtain ⟨hz, hs, hb⟩ := hinfo
    refine ⟨(madeCells (Value.cells (.agg #[.int .i64 0, .int .i64 0, .string ByteArray.empty, .int .i64 0])) ((n + 1) * 4)).toList, by simp [size_madeCells], fun w => ?_⟩
    have hr := run_make (P := Try.prog) w 22 85 i _ Try.underlying22 hq hz .i64 .i64 ((n : Int) + 1) ((n : Int) + 1) (by omega) (by omega) (by rw [hb]; omega) (by omega)
    rw [hr, hs, show ((n : Int) + 1).toNat = n + 1 from by omega]

theorem copy73 (X : World) (Z : List Value) (a : Option Addr) (n cap : Nat) (ls : List Lv) (hZ : Z.length = (n + 1) * 4) (h : IsLvs X a n ls) (g : Nat) (hg : g = X.heap.size) (ty : TypeId) :
    (Builtin.copy_ #[22, 22] ty #[.slice (some ⟨g, 0, none⟩) (n + 1) (n + 1), .slice a n cap]).run Try.prog (X.alloc (.cells Z.toArray 85)) =
      .ok (goInt n) (X.alloc (.cells (flat ls ++ Z.drop (n * 4)).toArray 85)) := by
  subst hg
  obtain ⟨hn, hx⟩ := h
  by_cases h0 : n = 0
  · subst h0
    have : ls = [] := List.eq_nil_of_length_eq_zero hn
    subst this
    rw [run_copyN_none _ 22 22 ty 85 4 _ _ _ _ _ _ Try.underlying22 Try.size85 (by simp)]
    simp [flat]
  · obtain ⟨b, off, rfl, hat⟩ := hx (by omega)
    have hb := hat.block (by omega)
    have hat' := at_of_lv (hat.below ((Below.refl X.heap.size X).alloc (Nat.le_refl _) (.cells Z.toArray 85)) hb)
    rw [run_copyN (P := Try.prog) _ 22 22 ty 85 4 X.heap.size 0 (n + 1) (n + 1) ⟨b, off, none⟩ n cap Z.toArray 85 (flat ls) Try.underlying22 Try.size85 (heap_alloc_new X _)
      (by rw [flat_len, hn]; congr 1; simp) (fun j v hj => by
        have := hat' j v hj
        rw [show (⟨b, off, none⟩ : Addr).add j = ⟨b, off + j, none⟩ from by unfold Addr.add; split <;> simp_all]
        exact this) (by simp [flat_len, hZ]; omega) (flat_one ls)]
    rw [setRow_alloc]
    have : Nat.min n (n + 1) = n := by simp
    rw [this]
    simp [flat_len, hn]

def blotLv : Lv := ⟨-77, 0, ⟨#[]⟩, 0⟩
theorem blot_set (ls : List Lv) (n : Nat) (R : List Value) (z0 z1 z2 z3 : Value) (hl : (flat ls).length = n * 4) (hR : R = flat ls ++ [z0, z1, z2, z3]) :
    ((((R.set (n * 4) (.int .i64 (-77))).set (n * 4 + 1) (.int .i64 0)).set (n * 4 + 2) (.string ⟨#[]⟩)).set (n * 4 + 3) (.int .i64 0)).toArray = (flat (ls ++ [blotLv])).toArray := by
  subst hR
  have : flat (ls ++ [blotLv]) = flat ls ++ [.int .i64 (-77), .int .i64 0, .string ⟨#[]⟩, .int .i64 0] := flat_snoc _ _ _
  rw [this]
  rw [List.set_append_right _ _ (by omega), hl, List.set_append_right _ _ (by omega), hl, List.set_append_right _ _ (by omega), hl, List.set_append_right _ _ (by omega), hl]
  simp

theorem world3 {w : World} {o1 o2 : Obj} {A B : Array Value} {t : TypeId} (h : A = B) : ((w.alloc o1).alloc o2).alloc (.cells A t) = ((w.alloc o1).alloc o2).alloc (.cells B t) := by rw [h]

end Go.Proofs.Ythciddpljcbhiab

/- Walks: a configuration made right. -/
namespace Go.Proofs.Ythciddpljcbhiab
open Go Go.RowKit

/-- All numbers of levels that came in are numbers. -/
def LvWf2 (ls : List Lv) : Prop := ∀ i, (-9223372036854775808 ≤ (lvG ls i).age ∧ (lvG ls i).age ≤ 9223372036854775807) ∧ (-9223372036854775808 ≤ (lvG ls i).window ∧ (lvG ls i).window ≤ 9223372036854775807) ∧ (lvG ls i).rule.size ≤ maxLen ∧ -9223372036854775808 ≤ (lvG ls i).limit ∧ (lvG ls i).limit ≤ 9223372036854775807

theorem Lv.one (l : Lv) : ∀ v ∈ l.cells, v.oneCell' = true := by intro v hv; simp [Lv.cells] at hv; rcases hv with h | h | h | h <;> subst h <;> rfl
theorem flat_snocL (ls : List Lv) (l : Lv) : flat (ls ++ [l]) = flat ls ++ l.cells := flat_snoc _ _ _

/-- The boxes of config: what came in, the answer, what is made. -/
structure CfM (w wr : World) (span keep : Int) (a : Option Addr) (n cap : Nat) (K : Int) (v : Value) (acc : List Lv) : Prop where
  raw : wr.heap[w.heap.size]? = some (.cells #[.int .i64 span, .int .i64 keep, .slice a n cap] 24 (0, 0))
  res : wr.heap[w.heap.size + 1]? = some (.cells #[.int .i64 0, .int .i64 0, .slice none 0 0] 24 (0, 0))
  cfg : wr.heap[w.heap.size + 2]? = some (.cells #[.int .i64 0, .int .i64 K, v] 24 (0, 0))
  own : wr.ownsRow (w.heap.size + 3) 85 4 v acc.length (flat acc)
  bel : Below w.heap.size w wr
section
variable {w wr : World} {span keep : Int} {a : Option Addr} {n cap : Nat} {K : Int} {v : Value} {acc : List Lv}
theorem CfM.lt (h : CfM w wr span keep a n cap K v acc) : w.heap.size + 2 < wr.heap.size := (Array.getElem?_eq_some_iff.1 h.cfg).1
theorem CfM.kept (h : CfM w wr span keep a n cap K v acc) {w' : World} (hb : Below wr.heap.size wr w') : CfM w w' span keep a n cap K v acc := by
  have hl := h.lt
  exact ⟨by rw [hb.block _ (by omega)]; exact h.raw, by rw [hb.block _ (by omega)]; exact h.res, by rw [hb.block _ (by omega)]; exact h.cfg, owns_below h.own hb (fun k hk => (h.own.lt k hk).2), h.bel.trans (hb.mono h.bel.size)⟩
/-- A level more. -/
theorem CfM.put (h : CfM w wr span keep a n cap K v acc) {W w3 : World} {v' : Value} {l : Lv} (hb : Below wr.heap.size wr W) (hg : W.grownBy w3 v.ownBlock) (ho : w3.ownsRow (w.heap.size + 3) 85 4 v' (acc.length + 1) (flat acc ++ l.cells)) :
    CfM w (w3.setCell ⟨w.heap.size + 2, 2, none⟩ v') span keep a n cap K v' (acc ++ [l]) := by
  have hl := h.lt
  have hv : ∀ k, k < w.heap.size + 3 → v.ownBlock ≠ some k := fun k hk e => by have := (h.own.lt k e).1; omega
  have hv' : ∀ k, k < w.heap.size + 3 → v'.ownBlock ≠ some k := fun k hk e => by have := (ho.lt k e).1; omega
  have hk : ∀ k, k < w.heap.size + 3 → k ≠ w.heap.size + 2 → (w3.setCell ⟨w.heap.size + 2, 2, none⟩ v').heap[k]? = wr.heap[k]? := fun k h1 h2 => by
    rw [Below.heap_setCell _ _ _ _ h2]; exact gr_heap hb hg (by omega) (hv k h1)
  refine ⟨by rw [hk _ (by omega) (by omega)]; exact h.raw, by rw [hk _ (by omega) (by omega)]; exact h.res, ?_, ?_, ?_⟩
  · exact heap_setCell ((gr_heap hb hg (by omega) (hv _ (by omega))).trans h.cfg)
  · rw [show (acc ++ [l]).length = acc.length + 1 by simp, flat_snocL]
    exact owns_other ho (hv' _ (by omega))
  · have h1 : Below w.heap.size w W := h.bel.trans (hb.mono h.bel.size)
    exact (gr_below h1 hg h1.size (fun k e => by have := (h.own.lt k e).1; omega)).setCell (by show w.heap.size ≤ w.heap.size + 2; omega) _
end

theorem cf_step {keep : Int} {ls : List Lv} {k : Nat} (hk : k < ls.length) {first : Bool} {W A : Int} : cfL keep (ls.drop k) first W A = (if keep < nxA first (lvG ls k) A then [] else nxL first (lvG ls k) W A :: cfL keep (ls.drop (k + 1)) false (nxW (lvG ls k) W) (nxA first (lvG ls k) A)) ∧
    cfW keep (ls.drop k) first W A = (if keep < nxA first (lvG ls k) A then W else cfW keep (ls.drop (k + 1)) false (nxW (lvG ls k) W) (nxA first (lvG ls k) A)) := by
  have e : lvG ls k = ls[k] := by simp [lvG, List.getD, hk]
  rw [List.drop_eq_getElem_cons hk, e]
  exact ⟨rfl, rfl⟩
theorem cf_end {keep : Int} {ls : List Lv} {k : Nat} (hk : ls.length ≤ k) {first : Bool} {W A : Int} : cfL keep (ls.drop k) first W A = [] ∧ cfW keep (ls.drop k) first W A = W := by
  rw [List.drop_eq_nil_of_le hk]; exact ⟨rfl, rfl⟩
theorem lvG_take (ls : List Lv) (m k : Nat) (h : k < m) : lvG (ls.take m) k = lvG ls k := by
  simp [lvG, List.getD, h]

end Go.Proofs.Ythciddpljcbhiab

/- Walks: a store opened. -/
namespace Go.Proofs.Ythciddpljcbhiab
open Go Go.RowKit Go.Lib

theorem redo_empty (X : Nat) (w : World) : Calls Try.prog 18 #[.pointer (some ⟨X, 0, none⟩), .string ⟨#[]⟩] w fun e w' => e = .returned (.int .i64 0) ∧ w' = w := by
  go_enter Try.func18, Try.ntmps18
  go_wp2_with fail
  go_loopw [5] (fun i wr => i = .int .i64 0 ∧ wr = w) (fun _ _ => 0)
  case atStart => exact ⟨rfl, rfl⟩
  case round =>
    obtain ⟨rfl, rfl⟩ := hrel
    go_wp2_with fail
    go_ret
    exact ⟨rfl, rfl⟩

/-- A block that holds no element is owned. -/
theorem owns_none {w : World} {base : Nat} {e : TypeId} {size g : Nat} (hb : base ≤ g) (hg : w.heap[g]? = some (.cells #[] e (0, 0))) : w.ownsRow base e size (.slice (some ⟨g, 0, none⟩) 0 0) 0 [] :=
  ⟨by simp, .inr ⟨g, 0, #[], rfl, hb, hg, Nat.le_refl _, by unfold maxLen; omega, by simp, by simp⟩⟩

theorem pts_none (c : Cf) : (St.new c).pts = [] := by simp [St.pts, St.new]

/-- What a store made of a right configuration is. -/
theorem st_open {w W : World} {c : Cf} {B X L lcap : Nat} (hr : c.right = true) (hwf : LvWf c.lvs) (hX : W.heap[X]? = some (.cells (stC (St.new c) 0 L lcap (.slice none 0 0) (.slice none 0 0) (.slice none 0 0)) 62 (0, 0)))
    (ho : W.ownsRow B 85 4 (.slice (some ⟨L, 0, none⟩) c.lvs.length lcap) c.lvs.length (flat c.lvs)) (hB : B = w.heap.size) (hBX : B ≤ X) (hXL : X ≠ L) : StoreAt W X (fun k => w.heap.size ≤ k ∧ k < W.heap.size) (St.new c) ⟨#[]⟩ := by
  subst hB
  have hn : ∀ (k : Nat), (Value.slice none 0 0).ownBlock ≠ some k := fun k => by simp [Value.ownBlock]
  refine ⟨L, lcap, .slice none 0 0, .slice none 0 0, [], .slice none 0 0, ?_⟩
  exact { blk := hX, lv := lvAt_of (owns_at ho), pts := by rw [pts_none]; exact World.ownsRow_nil _ _ _ _, bok := World.ownsRow_nil _ _ _ _, log := World.ownsRow_nil _ _ _ _, lgl := by simp [St.new]; rfl,
          bOk := bookOk_new c, inv := inv_new hr, wf := hwf, XL := hXL, pX := hn _, pL := hn _, bX := hn _, bL := hn _, pb := fun k e => hn _, gX := hn _, gL := hn _, gp := fun _ _ => hn _, gb := fun _ _ => hn _,
          fX := ⟨hBX, (Array.getElem?_eq_some_iff.1 hX).1⟩, fL := ho.lt L rfl, fp := fun k e => absurd e (hn k), fb := fun k e => absurd e (hn k), fg := fun k e => absurd e (hn k) }

theorem op_after {w w1 w2 : World} {c : Cf} {b off n cap : Nat} (hlt1 : w.heap.size < w1.heap.size) (hW1 : Below w.heap.size w w1) (hbk : w1.heap[w.heap.size]? = some (.cells (cfC c b off n cap) 24 (0, 0))) (hg : (w1.alloc (.cells #[] 85)).grownBy w2 (some w1.heap.size)) :
    w2.heap[w.heap.size]? = some (.cells (cfC c b off n cap) 24 (0, 0)) ∧ Below w.heap.size w w2 := by
  refine ⟨?_, ?_⟩
  · rw [hg.block w.heap.size (by rw [World.size_alloc]; omega) (fun e => by have := Option.some.inj e; omega), Below.heap_alloc _ _ _ hlt1]
    exact hbk
  · exact gr_below (hW1.alloc (by omega) _) hg (by rw [World.size_alloc]; omega) (fun k e => by have := Option.some.inj e; omega)

set_option maxHeartbeats 1000000 in
set_option maxRecDepth 100000 in
theorem open_of (c : Cf) (b off n cap : Nat) (log : ByteArray) (s' : St) (lg' : ByteArray) (D : Int) (w : World) (hr : c.right = true) (hn : c.lvs.length = n) (hat : LvAt w b off c.lvs) (hwf : LvWf c.lvs)
    (hredo : ∀ W X F, StoreAt W X F (St.new c) ⟨#[]⟩ → (∀ k, F k → k < W.heap.size) → Calls Try.prog 18 #[.pointer (some ⟨X, 0, none⟩), .string log] W fun e W' => e = .returned (.int .i64 D) ∧ StoreAt W' X (gF F W W') s' lg' ∧ Fr F W W') :
    Calls Try.prog 8 #[.agg (cfC c b off n cap), .string log] w fun e w' => ∃ X, e = .returned (.tuple #[.pointer (some ⟨X, 0, none⟩), .int .i64 D, .int .i64 0]) ∧ StoreAt w' X (fun k => w.heap.size ≤ k ∧ k < w'.heap.size) s' lg' ∧ Below w.heap.size w w' := by
  obtain ⟨h1, h2, h3, h4, q1, q4, _⟩ := Cf.right_parts hr
  have HR : Hid (c.right = true) := hr
  have HN : Hid (c.lvs.length = n) := hn
  have HAT : Hid (LvAt w b off c.lvs) := hat
  have HWF : Hid (LvWf c.lvs) := hwf
  have HRE : Hid (∀ W X F, StoreAt W X F (St.new c) ⟨#[]⟩ → (∀ k, F k → k < W.heap.size) → Calls Try.prog 18 #[.pointer (some ⟨X, 0, none⟩), .string log] W fun e W' => e = .returned (.int .i64 D) ∧ StoreAt W' X (gF F W W') s' lg' ∧ Fr F W W') := hredo
  have hbs : b < w.heap.size := hat.block (by omega)
  have hn4 : n ≤ 4 := by omega
  have hn1 : 1 ≤ n := by omega
  obtain ⟨li0, hli, lz0, lz1, lz2⟩ := infP Try.info85'
  have HBX : Hid (Below w.heap.size w (w.alloc (.cells (cfC c b off n cap) 24))) := (Below.refl _ _).alloc (Nat.le_refl _) _
  clear hr hn hat hwf hredo
  go_enter Try.func8, Try.ntmps8
  go_wp2_with fail
  refine (cfgRight_any (some ⟨b, off, none⟩) n cap c.lvs c.span c.keep _ ⟨HN.out, fun _ => ⟨b, off, rfl, HAT.out.below HBX.out hbs⟩⟩ HWF.out).mono ?_
  rintro e w1 ⟨rfl, hb1⟩
  rw [show rightB c.span c.keep c.lvs = true from HR.out]
  have hz1 : w.heap.size + 1 ≤ w1.heap.size := by have := hb1.size; simpa using this
  have hbk : w1.heap[w.heap.size]? = some (.cells (cfC c b off n cap) 24 (0, 0)) := by rw [hb1.block _ (by simp)]; exact heap_alloc_new w _
  have HW1 : Hid (Below w.heap.size w w1) := HBX.out.trans (hb1.mono (by simp))
  have HAT1 : Hid (LvAt w1 b off c.lvs) := HAT.out.below HW1.out hbs
  have p0 : w1.cell? ⟨w.heap.size, 0, none⟩ = some (.int .i64 c.span) := cell_blk hbk rfl
  have p1 : w1.cell? ⟨w.heap.size, 1, none⟩ = some (.int .i64 c.keep) := cell_blk hbk rfl
  have p2 : w1.cell? ⟨w.heap.size, 2, none⟩ = some (.slice (some ⟨b, off, none⟩) n cap) := cell_blk hbk rfl
  have pz := froz_blk (o := 2) hbk
  have HBK : Hid (w1.heap[w.heap.size]? = some (.cells (cfC c b off n cap) 24 (0, 0))) := hbk
  have hne : w.heap.size ≠ w1.heap.size := by omega
  have hlt1 : w.heap.size < w1.heap.size := by omega
  clear hb1 hbk
  have HOW : Hid ((w1.alloc (.cells #[] 85)).ownsRow (w.heap.size + 1) 85 4 (.slice (some ⟨w1.heap.size, 0, none⟩) 0 0) 0 []) := owns_none (by omega) (heap_alloc_new w1 _)
  have HLA : Hid (∀ j u, (flat c.lvs)[j]? = some u → (w1.alloc (.cells #[] 85)).cell? ((⟨b, off, none⟩ : Addr).add j) = some u) := by
    intro j u hj
    rw [Addr.add_lit]
    exact cell_alloc1 (at_of_lv HAT1.out j u hj)
  go_wp2_with (refine listAppend rfl (.tmp 12) (.tmp 14) 22 rfl (w.heap.size + 1) 85 li0 (.agg #[.int .i64 0, .int .i64 0, .string ByteArray.empty, .int .i64 0]) 4 40 Try.underlying22 hli lz0 lz1 lz2 rfl (by decide) (.slice (some ⟨w1.heap.size, 0, none⟩) 0 0) 0 [] (by simp [Act.eval]) HOW.out ⟨b, off, none⟩ n cap (flat c.lvs) (by simp [Act.eval]) (by rw [flat_len, HN.out]) HLA.out (one_of Lv.cells Lv.one c.lvs) (by unfold maxLen; omega) (by omega) (by simp; omega) ?_; intro v' w2 hown hgrow hblk; rw [Nat.zero_add, List.nil_append] at hown; obtain ⟨L, lcap, rfl, hL1, hL2, _⟩ := ownBlockForm hown (by omega); obtain ⟨hbk2, hgr2⟩ := op_after hlt1 HW1.out HBK.out hgrow; have r0 : w2.cell? ⟨w.heap.size, 0, none⟩ = some (.int .i64 c.span) := cell_blk hbk2 rfl; have r1 : w2.cell? ⟨w.heap.size, 1, none⟩ = some (.int .i64 c.keep) := cell_blk hbk2 rfl; have r2 : w2.cell? ⟨w.heap.size, 2, none⟩ = some (.slice (some ⟨b, off, none⟩) n cap) := cell_blk hbk2 rfl; have rz : w2.frozen? ⟨w.heap.size, 2, none⟩ = false := froz_blk hbk2; have HOW2 : Hid (w2.ownsRow (w.heap.size + 1) 85 4 (.slice (some ⟨L, 0, none⟩) n lcap) n (flat c.lvs)) := hown; have HGR : Hid (Below w.heap.size w w2) := hgr2; clear hown hgrow hblk hbk2 hgr2)
  have HWL : Hid (w.heap.size < w2.heap.size) := by show _ < _; omega
  have HST : Hid (StoreAt ((w2.setCell ⟨w.heap.size, 2, none⟩ (.slice (some ⟨L, 0, none⟩) n lcap)).alloc (.cells (stC (St.new c) 0 L lcap (.slice none 0 0) (.slice none 0 0) (.slice none 0 0)) 62)) w2.heap.size (fun k => w.heap.size ≤ k ∧ k < ((w2.setCell ⟨w.heap.size, 2, none⟩ (.slice (some ⟨L, 0, none⟩) n lcap)).alloc (.cells (stC (St.new c) 0 L lcap (.slice none 0 0) (.slice none 0 0) (.slice none 0 0)) 62)).heap.size) (St.new c) ⟨#[]⟩) := by
    have hsz : (w2.setCell ⟨w.heap.size, 2, none⟩ (.slice (some ⟨L, 0, none⟩) n lcap)).heap.size = w2.heap.size := by simp [World.setCell]
    refine st_open (B := w.heap.size) (L := L) (lcap := lcap) HR.out HWF.out ?_ ?_ rfl (by omega) (by omega)
    · have e := heap_alloc_new (w2.setCell ⟨w.heap.size, 2, none⟩ (.slice (some ⟨L, 0, none⟩) n lcap)) (.cells (stC (St.new c) 0 L lcap (.slice none 0 0) (.slice none 0 0) (.slice none 0 0)) 62)
      rw [hsz] at e
      exact e
    · have e : (w2.setCell ⟨w.heap.size, 2, none⟩ (.slice (some ⟨L, 0, none⟩) n lcap)).ownsRow (w.heap.size + 1) 85 4 (.slice (some ⟨L, 0, none⟩) n lcap) n (flat c.lvs) := owns_other HOW2.out (fun e => by have h9 : L = w.heap.size := Option.some.inj e; omega)
      rw [HN.out]
      exact owns_base (e.alloc _) (fun k hk => by have h9 : L = k := Option.some.inj hk; omega)
  have HBW : Hid (Below w.heap.size w ((w2.setCell ⟨w.heap.size, 2, none⟩ (.slice (some ⟨L, 0, none⟩) n lcap)).alloc (.cells (stC (St.new c) 0 L lcap (.slice none 0 0) (.slice none 0 0) (.slice none 0 0)) 62))) := by
    refine (HGR.out.setCell (Nat.le_refl _) _).alloc ?_ _
    simp [World.setCell]; omega
  rw [show stC (St.new c) 0 L lcap (.slice none 0 0) (.slice none 0 0) (.slice none 0 0) = #[.int .i64 c.span, .int .i64 c.keep, .slice (some ⟨L, 0, none⟩) n lcap, .int .i64 0, .int .i64 0, .slice none 0 0, .slice none 0 0, .slice none 0 0] from by show #[_, _, _, _, _, _, _, _] = _; rw [show (St.new c).c = c from rfl, HN.out]; rfl] at HST HBW
  refine (HRE.out _ _ _ HST.out (fun k e => e.2)).mono ?_
  rintro e w3 ⟨rfl, hst, hfr⟩
  go_wp2_with fail
  go_ret3
  refine ⟨w2.heap.size, rfl, hst.mono (fun k e => ?_), HBW.out.trans (hfr.below (B := w.heap.size) HBW.out.size (fun k e => e.1))⟩
  rcases e with e | e
  · exact ⟨e.1, by have := hfr.size; omega⟩
  · exact ⟨by have := HBW.out.size; omega, e.2⟩

theorem open_empty (c : Cf) (b off n cap : Nat) (w : World) (hr : c.right = true) (hn : c.lvs.length = n) (hat : LvAt w b off c.lvs) (hwf : LvWf c.lvs) :
    Calls Try.prog 8 #[.agg (cfC c b off n cap), .string ⟨#[]⟩] w fun e w' => ∃ X, e = .returned (.tuple #[.pointer (some ⟨X, 0, none⟩), .int .i64 0, .int .i64 0]) ∧ StoreAt w' X (fun k => w.heap.size ≤ k ∧ k < w'.heap.size) (St.new c) ⟨#[]⟩ ∧ Below w.heap.size w w' :=
  open_of c b off n cap ⟨#[]⟩ (St.new c) ⟨#[]⟩ 0 w hr hn hat hwf fun W X F h _ => (redo_empty X W).mono fun _ _ ⟨he, hw⟩ => by
    subst hw
    exact ⟨he, h.mono (fun k e => .inl e), Fr.refl _ _⟩

end Go.Proofs.Ythciddpljcbhiab

/- A call of a Go function as one step of a region that draws its order (any program). -/
namespace Go.Proofs.Ythciddpljcbhiab
open Go Go.RowKit

theorem stepCall {P : Program} {w : World} {ops : Array Oper} {o : Oper} {a : Act} {K : Act → World → Prop} {Q : Exit → Act → World → Prop} {E : Prop} (hgd : o.guard = none) (f : FuncId) (xs : Array Operand) (tys : Array TypeId)
    (ho : o.op = .call { callee := .value (.func f), args := xs, argTypes := tys }) (vs : Array Value) (hv : xs.map a.eval = vs) (hcf : ∀ vs w, (callFunc f vs).run P w = .ok (.enter f vs) w) (hc : Calls P f vs w fun e w' => ∃ v, e = .returned v ∧ K (a.put o.dst v) w') :
    if Region.wanted o (yielded ops a.tmps) = true then Oper.wp P o a w K Q else E := by
  have hw : Region.wanted o (yielded ops a.tmps) = true := by simp [Region.wanted, hgd]
  rw [if_pos hw]
  unfold Oper.wp execOp
  subst hv
  simp [ho, resolve, invoke, Act.eval, Deferred.ofValue, hcf]
  rw [Oper.upon_enter]
  refine hc.mono ?_
  rintro e w' ⟨v, rfl, h⟩
  exact h

theorem enter87 (vs : Array Value) (w : World) : (callFunc 37 vs).run Try.prog w = .ok (.enter 37 vs) w := by
  have hn : (Try.f37.name == "runtime.NumGoroutine") = false := by kernel_rfl
  have hb : Try.f37.body.isNone = false := by kernel_rfl
  have hn' : ¬ Try.f37.name = "runtime.NumGoroutine" := by simpa using hn
  have hb' : ¬ Try.f37.body = none := by intro h; rw [h] at hb; simp at hb
  simp [callFunc, Try.func37, hn', hb']
theorem enter16 (vs : Array Value) (w : World) : (callFunc 12 vs).run Try.prog w = .ok (.enter 12 vs) w := by
  have hn : (Try.f12.name == "runtime.NumGoroutine") = false := by kernel_rfl
  have hb : Try.f12.body.isNone = false := by kernel_rfl
  have hn' : ¬ Try.f12.name = "runtime.NumGoroutine" := by simpa using hn
  have hb' : ¬ Try.f12.body = none := by intro h; rw [h] at hb; simp at hb
  simp [callFunc, Try.func12, hn', hb']

end Go.Proofs.Ythciddpljcbhiab
