/- Texts of one claim put together: Udn. -/
import Derived.Test.YthciddpljcbhiabB5

/- Walks: Undone. -/
namespace Go.Proofs.Ythciddpljcbhiab
open Go Go.RowKit Go.Lib
attribute [local go_sem ↓] Go.wp_at_zero Go.wp_at_succ

set_option maxHeartbeats 2000000 in
set_option maxRecDepth 100000 in
theorem undone_any (a : Option Addr) (n cap : Nat) (ls : List Lv) (span keep : Int) (sa : Option Addr) (sn sc : Nat) (l : List Stp) (ba : Option Addr) (bn bc : Nat) (bs : List Sm) (m : Int) (w : World) (hls : IsLvs w a n ls) (hwf : LvWf2 ls) (s0 : -9223372036854775808 ≤ span) (s1 : span ≤ 9223372036854775807) (k0 : -9223372036854775808 ≤ keep) (k1 : keep ≤ 9223372036854775807)
    (hsc : IsScr w sa sn l) (hsn : sn ≤ 9000000000000) (hbs : IsSms w ba bn bs) (hbn : bn ≤ 9000000000000) (m0 : -9223372036854775808 ≤ m) (m1 : m ≤ 9223372036854775807) :
    Calls Try.prog 5 #[.agg #[.int .i64 span, .int .i64 keep, .slice a n cap], .slice sa sn sc, .slice ba bn bc, .int .i64 m] w fun e w' => e = .returned (.bool true) ∧ Below w.heap.size w w' := by
  have HB0 : Hid (Below w.heap.size w (w.alloc (.cells #[.int .i64 span, .int .i64 keep, .slice a n cap] 24))) := (Below.refl _ _).alloc (Nat.le_refl _) _
  have HPL := played_any a n cap ls span keep sa sn sc l _ (IsLvs.below hls HB0.out) hwf s0 s1 k0 k1 (IsScr.below hsc HB0.out) hsn
  have HBS : Hid (IsSms w ba bn bs) := hbs
  clear hls hwf hsc hbs
  generalize (playP (St.new (conf span keep ls)) ⟨#[]⟩ l).2 = LG at *
  generalize (playP (St.new (conf span keep ls)) ⟨#[]⟩ l).1 = S at *
  go_enter Try.func5, Try.ntmps5
  go_wp2_with fail
  refine HPL.mono ?_
  rintro e w1 ⟨D, rfl, ⟨X, F, L, lc, sv, hd⟩, hb1⟩
  obtain ⟨va, vc, rfl⟩ := ownForm hd.sms
  have HB1 : Hid (Below w.heap.size w w1) := HB0.out.trans (hb1.mono (by simp))
  have HD1 : Hid (DkS w1 (w.heap.size + 1) D X F S L lc (.slice va S.l.length vc) LG) := by show DkS _ _ _ _ _ _ _ _ _ _; simpa using hd
  have HI : Hid (Inv S) := hd.inv
  have d0 := HD1.out.cell 0 _ rfl
  clear hb1 HPL hd
  go_wp2_with fail
  refine (log_any X F S LG w1 HD1.out.st).mono ?_
  rintro e w1' ⟨rfl, rfl⟩
  have hrm := rows_many HI.out (wholeQ S)
  have HT : Hid (∀ W, Below w1'.heap.size w1' W → Calls Try.prog 13 #[.pointer (some ⟨D, 0, none⟩), .pointer (some ⟨X, 0, none⟩)] W fun e w' => ∃ la lc', e = .returned (.tuple #[.slice la (S.rows (wholeQ S)).length lc', .int .i64 S.now, .int .i64 (cellsN S : Int), .bool true]) ∧ RwsAt w' la (S.rows (wholeQ S)) ∧ Below W.heap.size W w') := fun W hW =>
    tells_any _ D X F S L lc _ LG X F LG W (HD1.out.below hW) (HD1.out.below hW).st
  generalize S.rows (wholeQ S) = R at *
  generalize cellsN S = CN at *
  go_wp2_with fail
  refine (HT.out w1' (Below.refl _ _)).mono ?_
  rintro e w2 ⟨la, lc1, rfl, hr2, hb2⟩
  have HR2 : Hid (RwsAt w2 la R) := hr2
  have HW2 : Hid (Below w1'.heap.size w1' w2) := hb2
  have HD2 : Hid (DkS w2 (w.heap.size + 1) D X F S L lc (.slice va S.l.length vc) LG) := HD1.out.below hb2
  have HBS2 : Hid (IsSms w2 ba bn bs) := HBS.out.below (HB1.out.trans (hb2.mono HB1.out.size))
  have HFN := fine_iff HI.out bs
  clear hr2 hb2
  go_wp2_with fail
  refine (fine_any D X S L S.c.lvs.length lc va vc ba bn bc bs w2 HI.out HD2.out.blk HBS2.out (by unfold maxLen; omega)).mono ?_
  rintro e w3 ⟨rfl, d, hw3⟩
  have HW3 : Hid (Below w2.heap.size w2 w3) := by rw [hw3]; exact below_drewN (Below.refl _ _) d
  have HBS3 : Hid (IsSms w3 ba bn bs) := HBS2.out.below HW3.out
  have HD3 : Hid (DkS w3 (w.heap.size + 1) D X F S L lc (.slice va S.l.length vc) LG) := HD2.out.below HW3.out
  clear hw3
  go_upto_if 50 with fail
  go_cut [15] from 25 to 122 (fun _ wx => Below w3.heap.size w3 wx)
  case first =>
    by_cases hf : fineB S bs = true
    · rw [hf]
      clear hf HFN
      go_wp2_with fail
      go_meet
      case rel => exact Below.refl _ _
    · have he : wrE S bs ≠ 0 := fun e => hf (HFN.2 e)
      have hfb : fineB S bs = false := by simpa using hf
      rw [hfb]
      obtain ⟨Z, hZ, hmk⟩ := make42m bn (by omega)
      have hcp := fun ty => copy42n w3 Z ba bn bc bs hZ HBS3.out ty
      have HN : Hid (bs.length = bn) := HBS3.out.1
      have hb4 : Below w3.heap.size w3 (w3.alloc (.cells (flatS bs).toArray 75)) := (Below.refl _ _).alloc (Nat.le_refl _) _
      have HB4 : Hid (Below w3.heap.size w3 (w3.alloc (.cells (flatS bs).toArray 75))) := hb4
      have HM4 : Hid (SmAt (w3.alloc (.cells (flatS bs).toArray 75)) w3.heap.size 0 bs) := smAt_of (at_alloc_new w3 (flatS bs) 75)
      have HD4 : Hid (DkS (w3.alloc (.cells (flatS bs).toArray 75)) (w.heap.size + 1) D X F S L lc (.slice va S.l.length vc) LG) := HD3.out.below hb4
      have e0 := HD4.out.cell 0 _ rfl
      have HE : Hid (wrE S bs ≠ 0) := he
      have hbq : (wrE S bs == 0) = false := by simpa using he
      obtain ⟨r0, r1⟩ := wrE_le S bs
      clear hZ hf he hfb HFN hb4
      generalize w3.alloc (.cells (flatS bs).toArray 75) = w4 at *
      go_wp2_with fail
      refine (write_no X F S (some ⟨w3.heap.size, 0, none⟩) bn bn bs w4 HD4.out.st ⟨HN.out, fun _ => ⟨_, _, rfl, HM4.out⟩⟩ (by unfold maxLen; omega) HE.out).mono ?_
      rintro e w5 ⟨rfl, hb5⟩
      have HB5 : Hid (Below w3.heap.size w3 w5) := HB4.out.trans (hb5.mono HB4.out.size)
      clear hb5
      generalize wrE S bs = E at *
      go_wp2_with fail
      go_meet
      case rel => exact HB5.out
  case rest =>
    have HC4 : Hid (Below w3.heap.size w3 wc) := hcut
    have HD4 : Hid (DkS wc (w.heap.size + 1) D X F S L lc (.slice va S.l.length vc) LG) := HD3.out.below hcut
    have e0 := HD4.out.cell 0 _ rfl
    clear hcut d0 HFN
    generalize wc = w4 at *
    go_upto_region 13 with fail
    go_cut [70] from 25 to 122 (fun v wx => v = .bool (decide (m < 1) || decide (1000 < m)) ∧ wx = w4)
    case first =>
      by_cases hm : m < 1
      · go_wp2_with fail
        go_meet
        case rel => exact ⟨by simp [hm], rfl⟩
      · by_cases hm2 : 1000 < m
        · go_wp2_with fail
          go_meet
          case rel => exact ⟨by simp [hm2], rfl⟩
        · go_wp2_with fail
          go_meet
          case rel => exact ⟨by simp [hm, hm2], rfl⟩
    case rest =>
    obtain ⟨rfl, hwe⟩ := hcut
    have hwe2 := hwe.symm
    clear hwe
    subst hwe2
    go_upto_if 70 with fail
    go_cut [] from 25 to 122 (fun wx => wx = w4)
    case first =>
      cases hm : (decide (m < 1) || decide (1000 < m))
      · go_wp2_with fail
        go_meet
        case rel => rfl
      · have he : tkE S m ≠ 0 := by
          simp only [Bool.or_eq_true, decide_eq_true_eq] at hm
          unfold tkE
          rw [if_pos (by omega)]
          omega
        have HE : Hid (tkE S m ≠ 0) := he
        clear he hm
        go_wp2_with fail
        refine (tick_no X F S m w4 HD4.out.st m0 m1 HE.out).mono ?_
        rintro e w5 ⟨rfl, rfl⟩
        go_wp2_with fail
        go_meet
        case rel => rfl
    case rest =>
      have hw := hcut.symm
      clear hcut
      subst hw
      go_wp2_with fail
      refine (log_any X F S LG _ HD4.out.st).mono ?_
      rintro e w5 ⟨rfl, hw5⟩
      have HW5 : Hid (Below w3.heap.size w3 w5) := by rw [hw5]; exact HC4.out
      have hw6 := hw5
      clear hw5
      have HD5 : Hid (DkS w5 (w.heap.size + 1) D X F S L lc (.slice va S.l.length vc) LG) := by rw [hw6]; exact HD4.out
      clear hw6 e0
      have e0 := HD5.out.cell 0 _ rfl
      have HW4 : Hid (Below w1'.heap.size w1' w5) := (HW2.out.trans (HW3.out.mono HW2.out.size)).trans (HW5.out.mono (Nat.le_trans HW2.out.size HW3.out.size))
      have HR4 : Hid (RwsAt w5 la R) := (HR2.out.below HW3.out).below HW5.out
      go_wp2_with fail
      refine (HT.out w5 HW4.out).mono ?_
      rintro e w6 ⟨lb, lc2, rfl, hr6, hb6⟩
      have HS6 : Hid (RwsAt w6 lb R) := hr6
      have HR6 : Hid (RwsAt w6 la R) := HR4.out.below hb6
      have HB6 : Hid (Below w.heap.size w w6) := HB1.out.trans ((HW4.out.trans (hb6.mono HW4.out.size)).mono HB1.out.size)
      clear hr6 hb6
      go_wp2_with fail
      go_loopw [24] (fun i wr => ∃ k : Nat, i = .int .i64 k ∧ k ≤ R.length ∧ ∃ d, wr = w6.drewN d) (fun i _ => R.length - (intOf i).toNat)
      case atStart => exact ⟨0, rfl, Nat.zero_le _, 0, rfl⟩
      case round =>
        obtain ⟨k, rfl, hk, d, rfl⟩ := hrel
        by_cases hlt : k < R.length
        · obtain ⟨ga, rfl, _, hra⟩ := HR6.out (by omega)
          obtain ⟨gb, rfl, _, hrb⟩ := HS6.out (by omega)
          obtain ⟨x0, x1, x2, x3, x4, x5, x6, x7⟩ := hra k hlt
          obtain ⟨y0, y1, y2, y3, y4, y5, y6, y7⟩ := hrb k hlt
          clear hra hrb
          generalize rwG R k = V at *
          have heq := fun w => eq26 9997 V.key.g0 V.key.g1 V.key.g2 V.key.g0 V.key.g1 V.key.g2 w
          simp only [beq_self_eq_true, Bool.and_self] at heq
          go_wp2_with fail
          go_quiet (fail)
          go_wp2_with fail
          exact ⟨⟨k + 1, by go_num, by omega, _, rfl⟩, by simp [intOf]; omega⟩
        · have hlt2 : ¬ (k : Int) < R.length := by omega
          go_wp2_with fail
          go_ret
          exact ⟨rfl, below_drewN HB6.out d⟩

end Go.Proofs.Ythciddpljcbhiab
