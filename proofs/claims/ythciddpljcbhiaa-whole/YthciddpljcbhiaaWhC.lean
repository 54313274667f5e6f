/- Walks: Whole. -/
import Derived.Test.YthciddpljcbhiaaWhS
import Derived.Deep.RegionWith
namespace Go.Proofs.Ythciddpljcbhiaa
open Go.RowKit

set_option maxHeartbeats 4000000 in
set_option maxRecDepth 100000 in
theorem whole_any (a : Option Addr) (n cap : Nat) (ls : List Sm) (tail : ByteArray) (c d : Int) (w : World) (h : IsSms w a n ls) (hwf : SmWf ls) (hn : n ≤ 10000000000000) (ht : tail.size ≤ 200000000000000)
    (hc0 : -9223372036854775808 ≤ c) (hc1 : c ≤ 9223372036854775807) (hd0 : -9223372036854775808 ≤ d) (hd1 : d ≤ 9223372036854775807) :
    Calls Try.prog 6 #[.slice a n cap, .string tail, .int .i64 c, .int .i64 d] w fun e w' => e = .returned (.bool true) ∧ Below w.heap.size w w' := by
  obtain ⟨i0, hi, hz0, hz1, hz2⟩ := info_parts Try.info42'
  have H0 : Hid (IsSms w a n ls) := h
  have HW : Hid (SmWf ls) := hwf
  have HN : Hid (ls.length = n) := h.1
  clear h hwf
  go_enter Try.func6, Try.ntmps6
  go_wp2_with fail
  go_loopw [9, 10] (fun v i wr => ∃ k : Nat, k ≤ n ∧ k ≤ 8 ∧ i = .int .i64 k ∧ wr.ownsRow w.heap.size 42 5 v k (flatS (fixL ls k)) ∧ Below w.heap.size w wr) (fun _ i _ => 8 - (intOf i).toNat)
  case atStart => exact ⟨0, Nat.zero_le _, Nat.zero_le _, rfl, World.ownsRow_nil _ _ _ _, Below.refl _ _⟩
  case round =>
    obtain ⟨k, hk, hk8, rfl, hown, hbel⟩ := hrel
    have HO : Hid (wr.ownsRow w.heap.size 42 5 u9 k (flatS (fixL ls k))) := hown
    have HB : Hid (Below w.heap.size w wr) := hbel
    have hsz := hbel.size
    clear hown hbel
    by_cases hlt : k < n ∧ k < 8
    · obtain ⟨hlt1, hlt2⟩ := hlt
      obtain ⟨b, off, rfl, hat⟩ := (H0.out.below HB.out).2 (by omega)
      obtain ⟨c0, c1, c2, c3, c4⟩ := hat k (by rw [HN.out]; exact hlt1)
      obtain ⟨⟨t0, t1⟩, hl0, hl1, hl2, _, _⟩ := HW.out k
      have HF : Hid (flatS (fixL ls (k + 1)) = flatS (fixL ls k) ++ (fixSm (smG ls k)).cells) := fixL_succ ls k (by rw [HN.out]; exact hlt1)
      clear hat
      generalize smG ls k = X at *
      go_wp2_with fail
      refine (labels_any X.l0 X.l1 X.l2 _ hl0 hl1 hl2).mono ?_
      rintro e w2 ⟨rfl, hb2⟩
      obtain ⟨hz, q0, q1, q2, q3, q4, f0, f1, f2, f3, f4⟩ := box5 hb2
      have HB2 : Hid (Below w.heap.size w w2) := (HB.out.alloc hsz _).trans (hb2.mono (by simp; omega))
      have HO2 : Hid (w2.ownsRow w.heap.size 42 5 u9 k (flatS (fixL ls k))) := owns_belowU (HO.out.alloc _) hb2
      have HX : Hid (∀ g, u9.ownBlock = some g → g ≠ wr.heap.size) := fun g hg => by have := HO.out.lt g hg; omega
      have hB0 : w.heap.size ≤ wr.heap.size := hsz
      have hsz2 : w.heap.size ≤ w2.heap.size := by omega
      clear hb2 HO HB c0 c1 c2 c3 c4
      go_wp2_with fail
      refine (pick_any X.time 100001 _ t0 t1 (by omega) (by omega)).mono ?_
      rintro e w3 ⟨rfl, rfl⟩
      go_wp2_with (first | (at_builtin; refine wpList_append_own _ rfl (.tmp 49) (.tmp 51) 28 rfl w.heap.size 42 i0 (.agg #[.int .i64 0, .int .u8 0, .int .u8 0, .int .u8 0, .int .i32 0]) 5 16 Try.underlying28 hi hz0 hz1 hz2 rfl (by decide) u9 k (flatS (fixL ls k)) rfl ?c0 ⟨w2.heap.size, 0, none⟩ 1 1 (fixSm X).cells rfl rfl ?c1 ?c2 ?c3 ?c4 ?c5 ?_) | fail)
      case c0 => exact (owns_set_ne (owns_set_ne (owns_set_ne (owns_set_ne HO2.out HX.out _ _) HX.out _ _) HX.out _ _) HX.out _ _).alloc _
      case c1 => exact new_cells _ (fixSm X).cells 42 _ (by simp)
      case c2 => exact cells_one _
      case c3 => unfold maxLen; omega
      case c4 => omega
      case c5 => simp; omega
      intro v' w4 hown' hgrow _
      have HB4 : Hid (Below w.heap.size w w4) := (((((HB2.out.setCell hB0 _).setCell hB0 _).setCell hB0 _).setCell hB0 _).alloc (by simp; omega) _).grown hgrow (by simp; omega) (fun g hg => (HO2.out.lt g hg).1)
      have HO4 : Hid (w4.ownsRow w.heap.size 42 5 v' (k + 1) (flatS (fixL ls (k + 1)))) := by (show World.ownsRow _ _ _ _ _ _ _; rw [HF.out]; exact hown')
      clear hown' hgrow
      go_wp2_with fail
      exact ⟨⟨k + 1, by omega, by omega, by go_num, HO4.out, HB4.out⟩, by simp [intOf]; omega⟩
    · obtain ⟨la, lc, rfl⟩ : ∃ la lc, u9 = .slice la k lc := by
        rcases HO.out.2 with ⟨rfl, rfl⟩ | ⟨g, cap', cur, rfl, _⟩
        · exact ⟨none, 0, rfl⟩
        · exact ⟨_, cap', rfl⟩
      have HLen : Hid ((fixL ls k).length = k) := fixL_len ls k (by rw [HN.out]; exact hk)
      by_cases hkn : k < n
      all_goals (
        go_upto_if 55 with (fail)
        go_cut [9] (fun v wc => ∃ L : List Sm, 1 ≤ L.length ∧ L.length ≤ 8 ∧ (∀ x ∈ L, smOk x = true) ∧ (∀ x ∈ L, x.wf) ∧ wc.ownsRow w.heap.size 42 5 v L.length (flatS L) ∧ Below w.heap.size w wc)
        case first =>
          by_cases hk0 : k = 0
          · first
            | (exfalso; omega)
            | (subst hk0
               go_wp2_with (first | (at_builtin; refine wpList_append_own _ rfl (.tmp 56) (.tmp 59) 28 rfl w.heap.size 42 i0 (.agg #[.int .i64 0, .int .u8 0, .int .u8 0, .int .u8 0, .int .i32 0]) 5 16 Try.underlying28 hi hz0 hz1 hz2 rfl (by decide) (.slice la 0 lc) 0 (flatS (fixL ls 0)) rfl (HO.out.alloc _) ⟨wr.heap.size, 0, none⟩ 1 1 dfltSm.cells rfl rfl (by exact new_cells _ dfltSm.cells 42 _ rfl) (cells_one _) (by unfold maxLen; omega) (by omega) (by simp; omega) ?_) | fail)
               intro v' w4 hown' hgrow _
               have HB4 : Hid (Below w.heap.size w w4) := (HB.out.alloc hsz _).grown hgrow (by simp; omega) (fun g hg => (HO.out.lt g hg).1)
               have HO4 : Hid (w4.ownsRow w.heap.size 42 5 v' 1 (flatS [dfltSm])) := by (show World.ownsRow _ _ _ _ _ _ _; exact hown')
               clear hown' hgrow
               go_wp2_with fail
               go_meet
               case rel => exact ⟨[dfltSm], by simp, by simp, by simp [dfltSm]; decide, by simp [dfltSm, Sm.wf], HO4.out, HB4.out⟩)
          · have hkz : ((k : Int) == 0) = false := by simp; omega
            go_wp2_with fail
            go_meet
            case rel => exact ⟨fixL ls k, by rw [HLen.out]; omega, by rw [HLen.out]; omega, fixL_ok ls k, fixL_wf HW.out k, by rw [HLen.out]; exact HO.out, HB.out⟩
        case rest =>
          obtain ⟨L, hL1, hL8, hok, hwf, hown, hbel⟩ := hcut
          obtain ⟨la2, lc2, rfl, hsm⟩ := owns_sms hown rfl
          obtain ⟨Z, hZ, hmk⟩ := make42m L.length (by omega)
          have hcp := fun ty => copy42m wc Z la2 L.length lc2 L hZ hsm (by omega) ty
          have HO : Hid (wc.ownsRow w.heap.size 42 5 (.slice la2 L.length lc2) L.length (flatS L)) := hown
          have HB : Hid (Below w.heap.size w wc) := hbel
          have HOK : Hid (smsOk L = true) := all_ok hok
          have HWF : Hid (SmWf L) := all_wf hwf
          have HE : Hid (batE L = 0) := (batE_zero L).2 ⟨hL1, hL8, all_ok hok⟩
          have HS : Hid (recS L = strOfNums (recB L)) := recS_yes ((batE_zero L).2 ⟨hL1, hL8, all_ok hok⟩)
          have HNU : Hid (nums (strOfNums (recB L)) = recB L) := nums_str _ (recB_byte2 (all_wf hwf) (by omega))
          have HRL : Hid ((recB L).length = 6 + L.length * 11) := recB_len L
          have hszr : (strOfNums (recB L)).size = 6 + L.length * 11 := by rw [strOfNums_size, recB_len]
          have hsum : (strOfNums (recB L)).size + tail.size ≤ 9223372036854775807 := by rw [hszr]; omega
          have hszc := hbel.size
          clear hok hwf hown hbel hZ hsm
          generalize hm : L.length = m at *
          have HM : Hid (L.length = m) := hm
          clear hm
          go_wp2_with fail
          refine (garRecord_any (some ⟨wc.heap.size, 0, none⟩) m m L _ ⟨HM.out, fun _ => ⟨_, 0, rfl, smAt_of (at_alloc_new wc (flatS L) 42)⟩⟩ HWF.out).mono ?_
          rw [HS.out, HE.out]
          rintro e w1 ⟨rfl, hb1⟩
          have HB1 : Hid (Below w.heap.size w w1) := (HB.out.alloc hszc _).trans (hb1.mono (by simp; omega))
          have HO1 : Hid (w1.ownsRow w.heap.size 42 5 (.slice la2 m lc2) m (flatS L)) := owns_belowU (HO.out.alloc _) hb1
          have hsz1 : w.heap.size ≤ w1.heap.size := HB1.out.size
          clear hb1 HO HB hmk hcp HS HE hszc
          have HT : Hid (unOk (strOfNums (recB L) ++ tail) = true ∧ cN (strOfNums (recB L) ++ tail) = m ∧ smsR (strOfNums (recB L) ++ tail) (cN (strOfNums (recB L) ++ tail)) = L) := by
            have h := whole_yes (s := strOfNums (recB L) ++ tail) (ls := L) (tail := nums tail) (by rw [HM.out]; exact hL1) (by rw [HM.out]; exact hL8) HWF.out HOK.out (by rw [nums_append, HNU.out])
            rw [HM.out] at h
            exact h
          have HTS : Hid ((strOfNums (recB L) ++ tail).size ≤ maxLen) := by show _ ≤ _; rw [ByteArray.size_append]; unfold maxLen; omega
          generalize strOfNums (recB L) = S at *
          go_wp2_with fail
          refine (garUnrecord_any (S ++ tail) _ HTS.out).mono ?_
          rintro e w2 ⟨hb2, ⟨hu, v, rfl, hown⟩ | ⟨hu, rfl⟩⟩
          rotate_left
          · exfalso
            rw [HT.out.1] at hu
            cases hu
          rw [HT.out.2.2, HT.out.2.1] at hown
          rw [HT.out.2.1]
          obtain ⟨a3, p3, rfl, hsm3⟩ := owns_sms hown HM.out
          have HB2 : Hid (Below w.heap.size w w2) := HB1.out.trans (hb2.mono hsz1)
          have HO2 : Hid (w2.ownsRow w.heap.size 42 5 (.slice la2 m lc2) m (flatS L)) := owns_belowU HO1.out hb2
          have HSM3 : Hid (IsSms w2 a3 m L) := hsm3
          clear hu hb2 hown hsm3 HT HTS HO1 HB1 hsz1
          obtain ⟨la3, lc3, hq3, hsm2⟩ := owns_sms HO2.out HM.out
          injection hq3 with hq31 hq32 hq33
          subst hq31 hq33
          have HSM2 : Hid (IsSms w2 la2 m L) := hsm2
          clear hq32 hsm2
          have hq0 : ((6 + 11 * (m : Int)) != (S.size : Int)) = false := by rw [hszr]; simp; omega
          have hq1 : ((S.size : Int) == 0) = false := by rw [hszr]; simp; omega
          go_wp2_with fail
          go_loopw [18] (fun i wr => ∃ k : Nat, k ≤ m ∧ i = .int .i64 k ∧ ∃ d, wr = w2.drewN d) (fun i _ => m - (intOf i).toNat)
          case atStart => exact ⟨0, Nat.zero_le _, rfl, 0, rfl⟩
          case round =>
            obtain ⟨j, hj, rfl, dd, rfl⟩ := hrel
            by_cases hjlt : j < m
            · obtain ⟨b, off, rfl, hat⟩ := HSM2.out.2 (by omega)
              obtain ⟨b', off', rfl, hat'⟩ := HSM3.out.2 (by omega)
              obtain ⟨c0, c1, c2, c3, c4⟩ := hat j (by rw [HM.out]; exact hjlt)
              obtain ⟨d0, d1, d2, d3, d4⟩ := hat' j (by rw [HM.out]; exact hjlt)
              clear hat hat'
              generalize smG L j = X at *
              have heq := fun w => eq26 9997 X.l0 X.l1 X.l2 X.l0 X.l1 X.l2 w
              simp only [beq_self_eq_true, Bool.and_self] at heq
              go_wp2_with fail
              go_quiet (fail)
              go_wp2_with fail
              exact ⟨⟨j + 1, by omega, by go_num, _, rfl⟩, by simp [intOf]; omega⟩
            · go_wp2_with fail
              refine (garUnrecord_any (S.extract 0 (5 + m * 11)) _ (by rw [ByteArray.size_extract]; unfold maxLen; omega)).mono ?_
              rintro e w3 ⟨hb3, ⟨hu, _⟩ | ⟨hu, rfl⟩⟩
              · exfalso
                rw [less_no HNU.out (by rw [HRL.out]; omega)] at hu
                cases hu
              have HB3 : Hid (Below w.heap.size w w3) := (below_drewN HB2.out dd).trans (hb3.mono HB2.out.size)
              clear hu hb3 HB2 HO2 HSM2 HSM3 hq0 hq1
              go_wp2_with fail
              refine (pick_any c _ _ hc0 hc1 (by omega) (by omega)).mono ?_
              rintro e w4 ⟨rfl, rfl⟩
              obtain ⟨hp0, hp1⟩ := pk_range c (6 + (m : Int) * 11 - 1) (by omega)
              generalize pk c (6 + (m : Int) * 11 - 1) = q at *
              obtain ⟨Q, rfl⟩ : ∃ Q : Nat, q = Q := ⟨q.toNat, by omega⟩
              go_upto_if 135 with (fail)
              go_cut [22] (fun v wx => ∃ K : Nat, v = .int .i64 K ∧ K < 6 + m * 11 ∧ K ≠ 1 ∧ wx = w4)
              case first =>
                by_cases hQ : 0 < Q
                · go_wp2_with fail
                  go_meet
                  case rel => exact ⟨Q + 1, by go_num, by omega, by omega, rfl⟩
                · go_wp2_with fail
                  go_meet
                  case rel => exact ⟨Q, rfl, by omega, by omega, rfl⟩
              case rest =>
                obtain ⟨K, rfl, hK, hK1, rfl⟩ := hcut
                obtain ⟨W, cap5, hconv, hbW, hszW, hBA, hfr⟩ := conv_bytes wc S
                have HBW : Hid (Below w.heap.size w W) := HB3.out.trans (hbW.mono HB3.out.size)
                have HBA : Hid (BytesAt W wc.heap.size (recB L)) := by show BytesAt _ _ _; rw [← HNU.out]; exact hBA
                have hfr := hfr K (by omega)
                have hcell := HBA.out K (by rw [HRL.out]; exact hK)
                have HKB : Hid (isByte ((recB L).getD K 0)) := by
                  show isByte _
                  have hlt : K < (recB L).length := by rw [HRL.out]; exact hK
                  rw [List.getD, List.getElem?_eq_getElem hlt]
                  exact recB_byte2 HWF.out (by rw [HM.out]; omega) _ (List.getElem_mem _)
                have HKG : Hid ((recB L)[K]? = some ((recB L).getD K 0)) := by
                  show _ = _
                  have hlt : K < (recB L).length := by rw [HRL.out]; exact hK
                  rw [List.getD, List.getElem?_eq_getElem hlt]; rfl
                obtain ⟨hx0, hx1⟩ := HKB.out
                generalize (recB L).getD K 0 = x at *
                clear hbW hBA
                have HG : Hid (w.heap.size ≤ wc.heap.size) := HB3.out.size
                generalize wc.heap.size = g at *
                go_upto_region 27 with (fail)
                go_cut [22] (fun v wx => v = .int .i64 K ∧ ∃ D, isByte D ∧ D ≠ x ∧ BytesAt wx g ((recB L).set K D) ∧ Below w.heap.size w wx)
                case first =>
                  obtain ⟨hy0, hy1⟩ := pk_range d 255 (by omega)
                  have HP : Hid (∀ w, Calls Try.prog 16 #[.int .i64 d, .int .i64 255] w fun e w' => e = .returned (.int .i64 (pk d 255)) ∧ w' = w) := fun w => pick_any d 255 w hd0 hd1 (by omega) (by omega)
                  generalize pk d 255 = y at *
                  go_region_with (go_at_call 16; refine (HP.out _).mono ?_; rintro e w' ⟨rfl, rfl⟩)
                  all_goals (go_wp2_with fail; go_meet)
                  all_goals exact turn_rel hy0 hy1 HBA.out HRL.out hK HBW.out HG.out (by first | exact turn_D1 | exact turn_D2 hy0 hy1)
                case rest =>
                  obtain ⟨rfl, D, hD0, hDx, hBA, hbx⟩ := hcut
                  have hcv := hBA.conv (6 + m * 11) cap5 (by rw [List.length_set, HRL.out])
                  have HBX : Hid (Below w.heap.size w wc) := hbx
                  have HTN : Hid (unOk (strOfNums ((recB L).set K D)) = false) := turned_no HWF.out (by rw [HM.out]; exact hL8) (by rw [HRL.out]; exact hK) hK1 hD0 (by rw [HKG.out]; intro h; exact hDx (Option.some.inj h).symm)
                  have HTZ : Hid ((strOfNums ((recB L).set K D)).size ≤ maxLen) := by show _ ≤ _; rw [strOfNums_size, List.length_set, HRL.out]; unfold maxLen; omega
                  clear hBA hbx hD0 hDx
                  generalize strOfNums ((recB L).set K D) = T at *
                  go_wp2_with fail
                  refine (garUnrecord_any T _ HTZ.out).mono ?_
                  rintro e w5 ⟨hb5, ⟨hu, _⟩ | ⟨hu, rfl⟩⟩
                  · exfalso
                    rw [HTN.out] at hu
                    cases hu
                  have HB5 : Hid (Below w.heap.size w w5) := HBX.out.trans (hb5.mono HBX.out.size)
                  clear hu hb5
                  go_wp2_with fail
                  go_ret
                  exact ⟨rfl, HB5.out⟩)

end Go.Proofs.Ythciddpljcbhiaa
