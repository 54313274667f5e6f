/- Walks: Unrecord by the document's answer. -/
import Derived.Test.YthciddpljcbhiaaUnD
import Derived.Test.YthciddpljcbhiaaUnE
import Derived.Test.YthciddpljcbhiaaSmB
namespace Go.Proofs.Ythciddpljcbhiaa
open Go.RowKit

theorem unOk_no_head {s : ByteArray} (h : ¬ headOk s = true) : unOk s = false := by simp [unOk, no_of h]

theorem str_nums (t : ByteArray) : strOfNums (nums t) = t := by
  unfold strOfNums nums
  apply ByteArray.ext
  rw [List.map_map]
  have : ((fun n : Int => UInt8.ofNat n.toNat) ∘ fun b : UInt8 => (b.toNat : Int)) = id := by
    funext b; simp
  rw [this]; simp
theorem recB_byte {ls : List Sm} (h : SmWf ls) (hn : ls.length ≤ 255) : ∀ y ∈ recB ls, isByte y := by
  intro y hy
  rcases List.mem_append.1 hy with hy | hy
  · exact bodyB_byte h hn y hy
  · exact lowN_byte _ _ y hy
theorem rec_str (s : ByteArray) (k : Nat) (hk : k ≤ 8) : ((strOfNums (recB (smsR s k))).toList == (s.extract 0 (2 + 11 * k + 4)).toList) = decide (recB (smsR s k) = (nums s).take (6 + 11 * k)) := by
  have e : nums (s.extract 0 (2 + 11 * k + 4)) = (nums s).take (6 + 11 * k) := by rw [nums_extract, show 2 + 11 * k + 4 = 6 + 11 * k by omega]
  rw [Bool.eq_iff_iff, beq_iff_eq, decide_eq_true_eq, ByteArray.toList_eq, ByteArray.toList_eq]
  constructor
  · intro h
    have h' : nums (strOfNums (recB (smsR s k))) = nums (s.extract 0 (2 + 11 * k + 4)) := by unfold nums; rw [h]
    rw [nums_str _ (recB_byte (smsR_wf s k) (by rw [smsR_len]; omega)), e] at h'
    exact h'
  · intro h
    rw [h, ← e, str_nums]

theorem newCells (w : World) (l : List Value) (t : TypeId) : ∀ j u, l[j]? = some u → (w.alloc (.cells l.toArray t)).drew.cell? ((⟨w.heap.size, 0, none⟩ : Addr).add j) = some u := by
  intro j u hj
  have h := at_alloc_new w l t j u hj
  rw [Nat.zero_add] at h
  rw [show (⟨w.heap.size, 0, none⟩ : Addr).add j = ⟨w.heap.size, j, none⟩ from by unfold Addr.add; split <;> simp_all]
  exact h
theorem newOnes (a b c d e : Int) : ∀ u ∈ [Value.int .i64 a, .int .u8 b, .int .u8 c, .int .u8 d, .int .i32 e], u.oneCell' = true := by
  intro u hu; simp at hu; rcases hu with rfl | rfl | rfl | rfl | rfl <;> rfl

set_option maxHeartbeats 4000000 in
set_option maxRecDepth 100000 in
theorem refUnrecord_any (s : ByteArray) (w : World) (hs : s.size ≤ maxLen) : Calls Try.prog 39 #[.string s] w (UnPost s w) := by
  have HM : Hid (s.size ≤ maxLen) := hs
  unfold maxLen at hs
  have HI : Hid (headOk s = true ↔ 2 ≤ s.size ∧ byt s 0 = 87 ∧ 1 ≤ cN s ∧ cN s ≤ 8 ∧ 6 + 11 * cN s ≤ s.size ∧ num4 s (2 + 11 * cN s) = chk ((nums s).take (2 + 11 * cN s))) := headOk_iff s
  by_cases h2 : 2 ≤ s.size
  · have hd2 : decide ((s.size : Int) < 2) = false := by simp; omega
    have hb1 : ((s[1].toNat : Nat) : Int) = ((cN s : Nat) : Int) := by rw [cN_eq]; exact byt_eq s 1 (by omega)
    have hc9 : ((cN s : Nat) : Int) ≤ 255 := by rw [← hb1]; have := s[1].toNat_lt; omega
    have i1 : (1 : Int) < (s.size : Int) := by omega
    have HP : Hid (∀ e w', UnPost s w e w' = (Below w.heap.size w w' ∧ ((unOk s = true ∧ ∃ v, e = .returned (.tuple #[v, .int .i64 (6 + 11 * (cN s : Int)), .int .i64 0]) ∧ w'.ownsRow w.heap.size 42 5 v (cN s) (flatS (smsR s (cN s)))) ∨
      (unOk s = false ∧ e = .returned (.tuple #[.slice none 0 0, .int .i64 0, .int .i64 13]))))) := fun _ _ => rfl
    have HRE : Hid (2 ≤ s.size → 6 + 11 * cN s ≤ s.size → (recB (smsR s (cN s)) = (nums s).take (6 + 11 * cN s) ↔ byt s 0 = 87 ∧ num4 s (2 + 11 * cN s) = chk ((nums s).take (2 + 11 * cN s)))) := rec_eq s
    have HU : Hid (unOk s = (headOk s && smsOk (smsR s (cN s)))) := rfl
    generalize cN s = c at *
    by_cases hc : c ≤ 8
    · have hd8 : decide (8 < (c : Int)) = false := by simp; omega
      by_cases hlen : 6 + 11 * c ≤ s.size
      · have hdl : decide ((s.size : Int) < 2 + 11 * (c : Int) + 4) = false := by simp; omega
        obtain ⟨i0, hi, hz0, hz1, hz2⟩ := info_parts Try.info42'
        go_enter Try.func39, Try.ntmps39
        go_wp2_with fail
        go_loopw [7, 8] (fun v i wr => ∃ k : Nat, k ≤ c ∧ i = .int .i64 k ∧ wr.ownsRow w.heap.size 42 5 v k (flatS (smsR s k)) ∧ Below w.heap.size w wr) (fun _ i _ => c - (intOf i).toNat)
        case atStart => exact ⟨0, Nat.zero_le _, rfl, World.ownsRow_nil _ _ _ _, Below.refl _ _⟩
        case round =>
          obtain ⟨k, hk, rfl, hown, hbel⟩ := hrel
          have HO : Hid (wr.ownsRow w.heap.size 42 5 u7 k (flatS (smsR s k))) := hown
          have HB : Hid (Below w.heap.size w wr) := hbel
          have hsz := hbel.size
          clear hown hbel
          by_cases hlt : k < c
          · have hq1 : (2 : Int) + 11 * (k : Int) ≤ 13 + 11 * (k : Int) := by omega
            have hq2 : 13 + 11 * k ≤ s.size := by omega
            have hq3 : 2 + 11 * k ≤ 13 + 11 * k := by omega
            go_wp2_with fail
            rw [show 13 + 11 * k - (2 + 11 * k) = 11 from by omega]
            have hPs : (s.extract (2 + 11 * k) (13 + 11 * k)).size = 11 := by rw [ByteArray.size_extract]; omega
            have HX : Hid (smR s (2 + 11 * k) = ⟨num4 (s.extract (2 + 11 * k) (13 + 11 * k)) 0, byt (s.extract (2 + 11 * k) (13 + 11 * k)) 4, byt (s.extract (2 + 11 * k) (13 + 11 * k)) 5, byt (s.extract (2 + 11 * k) (13 + 11 * k)) 6, sval (num4 (s.extract (2 + 11 * k) (13 + 11 * k)) 7)⟩) := by
              show _ = _
              rw [num4_extract s _ _ 0 (by omega) (by omega), num4_extract s _ _ 7 (by omega) (by omega), byt_extract s _ _ 4 (by omega) (by omega), byt_extract s _ _ 5 (by omega) (by omega), byt_extract s _ _ 6 (by omega) (by omega)]
              rfl
            generalize s.extract (2 + 11 * k) (13 + 11 * k) = P at *
            have e7 : num4 (P.extract 7 11) 0 = num4 P 7 := num4_extract P 7 11 0 (by omega) (by omega)
            have e0 : num4 (P.extract 0 4) 0 = num4 P 0 := num4_extract P 0 4 0 (by omega) (by omega)
            have E7 : Hid (num4 (P.extract 7 11) 0 = num4 P 7) := e7
            have E0 : Hid (num4 (P.extract 0 4) 0 = num4 P 0) := e0
            obtain ⟨v0, v1⟩ := num4_range P 7
            obtain ⟨t0, t1⟩ := num4_range P 0
            have B4 : Hid (((P[4].toNat : Nat) : Int) = byt P 4) := byt_eq P 4 (by omega)
            have B5 : Hid (((P[5].toNat : Nat) : Int) = byt P 5) := byt_eq P 5 (by omega)
            have B6 : Hid (((P[6].toNat : Nat) : Int) = byt P 6) := byt_eq P 6 (by omega)
            have HF : Hid (flatS (smsR s (k + 1)) = flatS (smsR s k) ++ (smR s (2 + 11 * k)).cells) := flatS_succ s k
            clear e7 e0
            refine (refNumber_any (P.extract 7 11) _ (by rw [ByteArray.size_extract]; omega)).mono ?_
            rintro e w1 ⟨rfl, rfl⟩
            rw [E7.out]
            generalize num4 P 7 = V at *
            by_cases hV : 2147483648 ≤ V
            · have HS : Hid (sval V = V - 4294967296) := by show _ = _; simp [sval, hV]
              go_wp2_with fail
              refine (refNumber_any (P.extract 0 4) _ (by rw [ByteArray.size_extract]; omega)).mono ?_
              rintro e w2 ⟨rfl, rfl⟩
              rw [E0.out]
              generalize num4 P 0 = A at *
              go_wp2_with fail
              have hcl : (⟨A, byt P 4, byt P 5, byt P 6, sval V⟩ : Sm).cells = [.int .i64 A, .int .u8 ((P[4].toNat : Nat) : Int), .int .u8 ((P[5].toNat : Nat) : Int), .int .u8 ((P[6].toNat : Nat) : Int), .int .i32 (IntKind.i32.wrap (V - 4294967296))] := by rw [B4.out, B5.out, B6.out, show IntKind.i32.wrap (V - 4294967296) = V - 4294967296 from by rw [IntKind.wrap_i32]; omega, ← HS.out]; rfl
              have HCL : Hid ((⟨A, byt P 4, byt P 5, byt P 6, sval V⟩ : Sm).cells = [.int .i64 A, .int .u8 ((P[4].toNat : Nat) : Int), .int .u8 ((P[5].toNat : Nat) : Int), .int .u8 ((P[6].toNat : Nat) : Int), .int .i32 (IntKind.i32.wrap (V - 4294967296))]) := hcl
              clear hcl
              go_region_law (refine step_append_mine rfl (.tmp 57) (.tmp 69) 28 rfl w.heap.size 42 i0 (.agg #[.int .i64 0, .int .u8 0, .int .u8 0, .int .u8 0, .int .i32 0]) 5 16 Try.underlying28 hi hz0 hz1 hz2 rfl (by decide) u7 k (flatS (smsR s k)) (by simp [Act.eval]) (HO.out.alloc _) ⟨w2.heap.size, 0, none⟩ 1 1 [.int .i64 A, .int .u8 ((P[4].toNat : Nat) : Int), .int .u8 ((P[5].toNat : Nat) : Int), .int .u8 ((P[6].toNat : Nat) : Int), .int .i32 (IntKind.i32.wrap (V - 4294967296))] (by simp [Act.eval]) rfl (newCells _ _ _) (newOnes _ _ _ _ _) (by unfold maxLen; omega) (by omega) (by simp; omega) ?_; intro v' w3 hown' hgrow)
              all_goals (have HB3 : Hid (Below w.heap.size w w3) := (HB.out.alloc hsz _).drew.grown hgrow (by simp; omega) (fun b hb => (HO.out.lt b hb).1))
              all_goals (have HO3 : Hid (w3.ownsRow w.heap.size 42 5 v' (k + 1) (flatS (smsR s (k + 1)))) := by (show World.ownsRow _ _ _ _ _ _ _; rw [HF.out, HX.out, HCL.out]; exact hown'))
              all_goals clear hown' hgrow
              all_goals go_wp2_with fail
              all_goals exact ⟨⟨k + 1, by omega, by go_num, HO3.out, HB3.out⟩, by simp [intOf]; omega⟩
            · have HS : Hid (sval V = V) := by show _ = _; simp [sval, hV]
              have hVd : decide (2147483648 ≤ V) = false := by simp; omega
              go_wp2_with fail
              refine (refNumber_any (P.extract 0 4) _ (by rw [ByteArray.size_extract]; omega)).mono ?_
              rintro e w2 ⟨rfl, rfl⟩
              rw [E0.out]
              generalize num4 P 0 = A at *
              go_wp2_with fail
              have hcl : (⟨A, byt P 4, byt P 5, byt P 6, sval V⟩ : Sm).cells = [.int .i64 A, .int .u8 ((P[4].toNat : Nat) : Int), .int .u8 ((P[5].toNat : Nat) : Int), .int .u8 ((P[6].toNat : Nat) : Int), .int .i32 (IntKind.i32.wrap V)] := by rw [B4.out, B5.out, B6.out, show IntKind.i32.wrap V = V from by rw [IntKind.wrap_i32]; omega, HS.out]; rfl
              have HCL : Hid ((⟨A, byt P 4, byt P 5, byt P 6, sval V⟩ : Sm).cells = [.int .i64 A, .int .u8 ((P[4].toNat : Nat) : Int), .int .u8 ((P[5].toNat : Nat) : Int), .int .u8 ((P[6].toNat : Nat) : Int), .int .i32 (IntKind.i32.wrap V)]) := hcl
              clear hcl
              go_region_law (refine step_append_mine rfl (.tmp 57) (.tmp 69) 28 rfl w.heap.size 42 i0 (.agg #[.int .i64 0, .int .u8 0, .int .u8 0, .int .u8 0, .int .i32 0]) 5 16 Try.underlying28 hi hz0 hz1 hz2 rfl (by decide) u7 k (flatS (smsR s k)) (by simp [Act.eval]) (HO.out.alloc _) ⟨w2.heap.size, 0, none⟩ 1 1 [.int .i64 A, .int .u8 ((P[4].toNat : Nat) : Int), .int .u8 ((P[5].toNat : Nat) : Int), .int .u8 ((P[6].toNat : Nat) : Int), .int .i32 (IntKind.i32.wrap V)] (by simp [Act.eval]) rfl (newCells _ _ _) (newOnes _ _ _ _ _) (by unfold maxLen; omega) (by omega) (by simp; omega) ?_; intro v' w3 hown' hgrow)
              all_goals (have HB3 : Hid (Below w.heap.size w w3) := (HB.out.alloc hsz _).drew.grown hgrow (by simp; omega) (fun b hb => (HO.out.lt b hb).1))
              all_goals (have HO3 : Hid (w3.ownsRow w.heap.size 42 5 v' (k + 1) (flatS (smsR s (k + 1)))) := by (show World.ownsRow _ _ _ _ _ _ _; rw [HF.out, HX.out, HCL.out]; exact hown'))
              all_goals clear hown' hgrow
              all_goals go_wp2_with fail
              all_goals exact ⟨⟨k + 1, by omega, by go_num, HO3.out, HB3.out⟩, by simp [intOf]; omega⟩
          · have hkc : k = c := by omega
            obtain ⟨a, cap, rfl, hsm⟩ := owns_sms HO.out (smsR_len s k)
            have HSM : Hid (IsSms wr a k (smsR s k)) := hsm
            have HWF : Hid (SmWf (smsR s k)) := smsR_wf s k
            clear hsm
            subst hkc
            go_wp2_with fail
            refine (rightBatch_any a k cap (smsR s k) _ HSM.out).mono ?_
            rintro e w1 ⟨rfl, hb1⟩
            have HB1 : Hid (Below w.heap.size w w1) := HB.out.trans (hb1.mono hsz)
            have HO1 : Hid (w1.ownsRow w.heap.size 42 5 (.slice a k cap) k (flatS (smsR s k))) := owns_belowU HO.out hb1
            have HSM1 : Hid (IsSms w1 a k (smsR s k)) := HSM.out.below hb1
            clear hb1 HB HO HSM
            by_cases hz : batE (smsR s k) = 0
            · obtain ⟨z1, z2, z3⟩ := (batE_zero _).1 hz
              rw [smsR_len] at z1 z2
              obtain ⟨b, off, rfl, hat⟩ := HSM1.out.2 (by omega)
              have HAT : Hid (SmAt w1 b off (smsR s k)) := hat
              have Z3 : Hid (smsOk (smsR s k) = true) := z3
              rw [hz]
              clear hz hat z3
              go_wp2_with fail
              have hst := rec_str s k hc
              have HST : Hid (((strOfNums (recB (smsR s k))).toList == (s.extract 0 (2 + 11 * k + 4)).toList) = decide (recB (smsR s k) = (nums s).take (6 + 11 * k))) := hst
              clear hst
              refine (written_any b off k cap (smsR s k) _ (smsR_len s k) hc HAT.out HWF.out Z3.out).mono ?_
              rintro e w2 ⟨rfl, hb2⟩
              have HB2 : Hid (Below w.heap.size w w2) := HB1.out.trans (hb2.mono HB1.out.size)
              have HO2 : Hid (w2.ownsRow w.heap.size 42 5 (.slice (some ⟨b, off, none⟩) k cap) k (flatS (smsR s k))) := owns_belowU HO1.out hb2
              clear hb2 HB1 HO1
              by_cases heq : recB (smsR s k) = (nums s).take (6 + 11 * k)
              · have HX : Hid (unOk s = true) := by
                  obtain ⟨x1, x2⟩ := (HRE.out h2 hlen).1 heq
                  show _ = _
                  rw [HU.out, Z3.out, Bool.and_true, HI.out]
                  exact ⟨h2, x1, z1, z2, hlen, x2⟩
                have hne : ((strOfNums (recB (smsR s k))).toList == (s.extract 0 (2 + 11 * k + 4)).toList) = true := by rw [HST.out]; simpa using heq
                clear heq HST
                go_wp2_with fail
                go_ret3
                rw [HP.out]
                exact ⟨HB2.out, Or.inl ⟨HX.out, _, by rw [show (2 : Int) + 11 * (k : Int) + 4 = 6 + 11 * (k : Int) from by omega]; rfl, HO2.out⟩⟩
              · have HX : Hid (unOk s = false) := unOk_no_head (by rw [HI.out]; intro hh; exact heq ((HRE.out h2 hlen).2 ⟨hh.2.1, hh.2.2.2.2.2⟩))
                have hne : ((strOfNums (recB (smsR s k))).toList == (s.extract 0 (2 + 11 * k + 4)).toList) = false := by rw [HST.out]; simpa using heq
                clear heq HST
                go_wp2_with fail
                go_ret3
                rw [HP.out]
                exact ⟨HB2.out, Or.inr ⟨HX.out, rfl⟩⟩
            · have hzz : (batE (smsR s k) == 0) = false := by simpa using hz
              have HX : Hid (unOk s = false) := by
                show _ = _
                rw [HU.out]
                cases hso : smsOk (smsR s k)
                · simp
                · rw [no_of (a := headOk s) (by rw [HI.out]; intro hh; exact hz ((batE_zero _).2 ⟨by rw [smsR_len]; exact hh.2.2.1, by rw [smsR_len]; exact hh.2.2.2.1, hso⟩))]; rfl
              clear hz
              go_wp2_with fail
              go_ret3
              rw [HP.out]
              exact ⟨HB1.out, Or.inr ⟨HX.out, rfl⟩⟩
      · have hdl : decide ((s.size : Int) < 2 + 11 * (c : Int) + 4) = true := by simp; omega
        have HX : Hid (unOk s = false) := unOk_no_head (by rw [HI.out]; omega)
        go_enter Try.func39, Try.ntmps39
        go_wp2_with fail
        go_ret3
        rw [HP.out]
        exact ⟨Below.refl _ _, Or.inr ⟨HX.out, rfl⟩⟩
    · have hd8 : decide (8 < (c : Int)) = true := by simp; omega
      have HX : Hid (unOk s = false) := unOk_no_head (by rw [HI.out]; omega)
      go_enter Try.func39, Try.ntmps39
      go_wp2_with fail
      go_ret3
      rw [HP.out]
      exact ⟨Below.refl _ _, Or.inr ⟨HX.out, rfl⟩⟩
  · have hd2 : (s.size : Int) < 2 := by omega
    have HX : Hid (unOk s = false) := unOk_no_head (by rw [HI.out]; omega)
    go_enter Try.func39, Try.ntmps39
    go_wp2_with fail
    go_ret3
    exact ⟨Below.refl _ _, Or.inr ⟨HX.out, rfl⟩⟩
end Go.Proofs.Ythciddpljcbhiaa
