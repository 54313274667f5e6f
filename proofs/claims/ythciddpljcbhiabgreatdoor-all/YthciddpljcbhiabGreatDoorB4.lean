/- Texts of one claim put together: UnF, Chg, Wld, LvC, Han, Sti, Stf, Pic, Wrt, Opn, OpS, Rul, OpZ, Stz, Kpa, Cfg, Ope, Rfo, Opd, Asn, Lok. -/
import Derived.Test.YthciddpljcbhiabGreatDoorB2
import Derived.Test.YthciddpljcbhiabGreatDoorB3
import Derived.Test.YthciddpljcbhiabGreatDoorA
import Derived.Test.YthciddpljcbhiabGreatDoorProg
import Derived.ProofKit
import Derived.OpenShut
import Derived.Deep.Slices
import Derived.Lib.SmallJoins
import Derived.Deep.Strs
import Derived.Test.YthciddpljcbhiabGreatDoorB1
import Derived.SizedLaws
import Derived.Deep.DrawnRows
import Derived.Deep.RegionHeld3
import Derived.Deep.RegionLaw
import Derived.Deep.CutBlock
import Derived.BigQuiet

/- Walks: Unrecord by the document's answer. -/
namespace Go.Proofs.YthciddpljcbhiabGreatDoor
open Go.RowKit

theorem unOk_no_head {s : ByteArray} (h : ¬ headOk s = true) : unOk s = false := by simp [unOk, no_of h]

theorem str_nums (t : ByteArray) : strOfNums (nums t) = t := by
  unfold strOfNums nums
  apply ByteArray.ext
  rw [List.map_map]
  have : ((fun n : Int => UInt8.ofNat n.toNat) ∘ fun b : UInt8 => (b.toNat : Int)) = id := by
    funext b; simp
  rw [this]; simp
theorem recB_byte {ls : List Sm} (h : SmWf ls) (hn : ls.length ≤ 255) : ∀ y ∈ recB ls, isByte y := by
  intro y hy
  rcases List.mem_append.1 hy with hy | hy
  · exact bodyB_byte h hn y hy
  · exact lowN_byte _ _ y hy
theorem rec_str (s : ByteArray) (k : Nat) (hk : k ≤ 8) : ((strOfNums (recB (smsR s k))).toList == (s.extract 0 (2 + 11 * k + 4)).toList) = decide (recB (smsR s k) = (nums s).take (6 + 11 * k)) := by
  have e : nums (s.extract 0 (2 + 11 * k + 4)) = (nums s).take (6 + 11 * k) := by rw [nums_extract, show 2 + 11 * k + 4 = 6 + 11 * k by omega]
  rw [Bool.eq_iff_iff, beq_iff_eq, decide_eq_true_eq, ByteArray.toList_eq, ByteArray.toList_eq]
  constructor
  · intro h
    have h' : nums (strOfNums (recB (smsR s k))) = nums (s.extract 0 (2 + 11 * k + 4)) := by unfold nums; rw [h]
    rw [nums_str _ (recB_byte (smsR_wf s k) (by rw [smsR_len]; omega)), e] at h'
    exact h'
  · intro h
    rw [h, ← e, str_nums]

theorem newCells (w : World) (l : List Value) (t : TypeId) : ∀ j u, l[j]? = some u → (w.alloc (.cells l.toArray t)).drew.cell? ((⟨w.heap.size, 0, none⟩ : Addr).add j) = some u := by
  intro j u hj
  have h := at_alloc_new w l t j u hj
  rw [Nat.zero_add] at h
  rw [show (⟨w.heap.size, 0, none⟩ : Addr).add j = ⟨w.heap.size, j, none⟩ from by unfold Addr.add; split <;> simp_all]
  exact h
theorem newOnes (a b c d e : Int) : ∀ u ∈ [Value.int .i64 a, .int .u8 b, .int .u8 c, .int .u8 d, .int .i32 e], u.oneCell' = true := by
  intro u hu; simp at hu; rcases hu with rfl | rfl | rfl | rfl | rfl <;> rfl

set_option maxHeartbeats 4000000 in
set_option maxRecDepth 100000 in
theorem refUnrecord_any (s : ByteArray) (w : World) (hs : s.size ≤ maxLen) : Calls Tryz.prog 35 #[.string s] w (UnPost s w) := by
  have HM : Hid (s.size ≤ maxLen) := hs
  unfold maxLen at hs
  have HI : Hid (headOk s = true ↔ 2 ≤ s.size ∧ byt s 0 = 87 ∧ 1 ≤ cN s ∧ cN s ≤ 8 ∧ 6 + 11 * cN s ≤ s.size ∧ num4 s (2 + 11 * cN s) = chk ((nums s).take (2 + 11 * cN s))) := headOk_iff s
  by_cases h2 : 2 ≤ s.size
  · have hd2 : decide ((s.size : Int) < 2) = false := by simp; omega
    have hb1 : ((s[1].toNat : Nat) : Int) = ((cN s : Nat) : Int) := by rw [cN_eq]; exact byt_eq s 1 (by omega)
    have hc9 : ((cN s : Nat) : Int) ≤ 255 := by rw [← hb1]; have := s[1].toNat_lt; omega
    have i1 : (1 : Int) < (s.size : Int) := by omega
    have HP : Hid (∀ e w', UnPost s w e w' = (Below w.heap.size w w' ∧ ((unOk s = true ∧ ∃ v, e = .returned (.tuple #[v, .int .i64 (6 + 11 * (cN s : Int)), .int .i64 0]) ∧ w'.ownsRow w.heap.size 76 5 v (cN s) (flatS (smsR s (cN s)))) ∨
      (unOk s = false ∧ e = .returned (.tuple #[.slice none 0 0, .int .i64 0, .int .i64 13]))))) := fun _ _ => rfl
    have HRE : Hid (2 ≤ s.size → 6 + 11 * cN s ≤ s.size → (recB (smsR s (cN s)) = (nums s).take (6 + 11 * cN s) ↔ byt s 0 = 87 ∧ num4 s (2 + 11 * cN s) = chk ((nums s).take (2 + 11 * cN s)))) := rec_eq s
    have HU : Hid (unOk s = (headOk s && smsOk (smsR s (cN s)))) := rfl
    generalize cN s = c at *
    by_cases hc : c ≤ 8
    · have hd8 : decide (8 < (c : Int)) = false := by simp; omega
      by_cases hlen : 6 + 11 * c ≤ s.size
      · have hdl : decide ((s.size : Int) < 2 + 11 * (c : Int) + 4) = false := by simp; omega
        obtain ⟨i0, hi, hz0, hz1, hz2⟩ := info_parts Tryz.info76'
        go_enter Tryz.func35, Tryz.ntmps35
        go_wp2_with fail
        go_loopw [7, 8] (fun v i wr => ∃ k : Nat, k ≤ c ∧ i = .int .i64 k ∧ wr.ownsRow w.heap.size 76 5 v k (flatS (smsR s k)) ∧ Below w.heap.size w wr) (fun _ i _ => c - (intOf i).toNat)
        case atStart => exact ⟨0, Nat.zero_le _, rfl, World.ownsRow_nil _ _ _ _, Below.refl _ _⟩
        case round =>
          obtain ⟨k, hk, rfl, hown, hbel⟩ := hrel
          have HO : Hid (wr.ownsRow w.heap.size 76 5 u7 k (flatS (smsR s k))) := hown
          have HB : Hid (Below w.heap.size w wr) := hbel
          have hsz := hbel.size
          clear hown hbel
          by_cases hlt : k < c
          · have hq1 : (2 : Int) + 11 * (k : Int) ≤ 13 + 11 * (k : Int) := by omega
            have hq2 : 13 + 11 * k ≤ s.size := by omega
            have hq3 : 2 + 11 * k ≤ 13 + 11 * k := by omega
            go_wp2_with fail
            rw [show 13 + 11 * k - (2 + 11 * k) = 11 from by omega]
            have hPs : (s.extract (2 + 11 * k) (13 + 11 * k)).size = 11 := by rw [ByteArray.size_extract]; omega
            have HX : Hid (smR s (2 + 11 * k) = ⟨num4 (s.extract (2 + 11 * k) (13 + 11 * k)) 0, byt (s.extract (2 + 11 * k) (13 + 11 * k)) 4, byt (s.extract (2 + 11 * k) (13 + 11 * k)) 5, byt (s.extract (2 + 11 * k) (13 + 11 * k)) 6, sval (num4 (s.extract (2 + 11 * k) (13 + 11 * k)) 7)⟩) := by
              show _ = _
              rw [num4_extract s _ _ 0 (by omega) (by omega), num4_extract s _ _ 7 (by omega) (by omega), byt_extract s _ _ 4 (by omega) (by omega), byt_extract s _ _ 5 (by omega) (by omega), byt_extract s _ _ 6 (by omega) (by omega)]
              rfl
            generalize s.extract (2 + 11 * k) (13 + 11 * k) = P at *
            have e7 : num4 (P.extract 7 11) 0 = num4 P 7 := num4_extract P 7 11 0 (by omega) (by omega)
            have e0 : num4 (P.extract 0 4) 0 = num4 P 0 := num4_extract P 0 4 0 (by omega) (by omega)
            have E7 : Hid (num4 (P.extract 7 11) 0 = num4 P 7) := e7
            have E0 : Hid (num4 (P.extract 0 4) 0 = num4 P 0) := e0
            obtain ⟨v0, v1⟩ := num4_range P 7
            obtain ⟨t0, t1⟩ := num4_range P 0
            have B4 : Hid (((P[4].toNat : Nat) : Int) = byt P 4) := byt_eq P 4 (by omega)
            have B5 : Hid (((P[5].toNat : Nat) : Int) = byt P 5) := byt_eq P 5 (by omega)
            have B6 : Hid (((P[6].toNat : Nat) : Int) = byt P 6) := byt_eq P 6 (by omega)
            have HF : Hid (flatS (smsR s (k + 1)) = flatS (smsR s k) ++ (smR s (2 + 11 * k)).cells) := flatS_succ s k
            clear e7 e0
            refine (refNumber_any (P.extract 7 11) _ (by rw [ByteArray.size_extract]; omega)).mono ?_
            rintro e w1 ⟨rfl, rfl⟩
            rw [E7.out]
            generalize num4 P 7 = V at *
            by_cases hV : 2147483648 ≤ V
            · have HS : Hid (sval V = V - 4294967296) := by show _ = _; simp [sval, hV]
              go_wp2_with fail
              refine (refNumber_any (P.extract 0 4) _ (by rw [ByteArray.size_extract]; omega)).mono ?_
              rintro e w2 ⟨rfl, rfl⟩
              rw [E0.out]
              generalize num4 P 0 = A at *
              go_wp2_with fail
              have hcl : (⟨A, byt P 4, byt P 5, byt P 6, sval V⟩ : Sm).cells = [.int .i64 A, .int .u8 ((P[4].toNat : Nat) : Int), .int .u8 ((P[5].toNat : Nat) : Int), .int .u8 ((P[6].toNat : Nat) : Int), .int .i32 (IntKind.i32.wrap (V - 4294967296))] := by rw [B4.out, B5.out, B6.out, show IntKind.i32.wrap (V - 4294967296) = V - 4294967296 from by rw [IntKind.wrap_i32]; omega, ← HS.out]; rfl
              have HCL : Hid ((⟨A, byt P 4, byt P 5, byt P 6, sval V⟩ : Sm).cells = [.int .i64 A, .int .u8 ((P[4].toNat : Nat) : Int), .int .u8 ((P[5].toNat : Nat) : Int), .int .u8 ((P[6].toNat : Nat) : Int), .int .i32 (IntKind.i32.wrap (V - 4294967296))]) := hcl
              clear hcl
              go_region_law (refine step_append_mine rfl (.tmp 57) (.tmp 69) 43 rfl w.heap.size 76 i0 (.agg #[.int .i64 0, .int .u8 0, .int .u8 0, .int .u8 0, .int .i32 0]) 5 16 Tryz.underlying43 hi hz0 hz1 hz2 rfl (by decide) u7 k (flatS (smsR s k)) (by simp [Act.eval]) (HO.out.alloc _) ⟨w2.heap.size, 0, none⟩ 1 1 [.int .i64 A, .int .u8 ((P[4].toNat : Nat) : Int), .int .u8 ((P[5].toNat : Nat) : Int), .int .u8 ((P[6].toNat : Nat) : Int), .int .i32 (IntKind.i32.wrap (V - 4294967296))] (by simp [Act.eval]) rfl (newCells _ _ _) (newOnes _ _ _ _ _) (by unfold maxLen; omega) (by omega) (by simp; omega) ?_; intro v' w3 hown' hgrow)
              all_goals (have HB3 : Hid (Below w.heap.size w w3) := (HB.out.alloc hsz _).drew.grown hgrow (by simp; omega) (fun b hb => (HO.out.lt b hb).1))
              all_goals (have HO3 : Hid (w3.ownsRow w.heap.size 76 5 v' (k + 1) (flatS (smsR s (k + 1)))) := by (show World.ownsRow _ _ _ _ _ _ _; rw [HF.out, HX.out, HCL.out]; exact hown'))
              all_goals clear hown' hgrow
              all_goals go_wp2_with fail
              all_goals exact ⟨⟨k + 1, by omega, by go_num, HO3.out, HB3.out⟩, by simp [intOf]; omega⟩
            · have HS : Hid (sval V = V) := by show _ = _; simp [sval, hV]
              have hVd : decide (2147483648 ≤ V) = false := by simp; omega
              go_wp2_with fail
              refine (refNumber_any (P.extract 0 4) _ (by rw [ByteArray.size_extract]; omega)).mono ?_
              rintro e w2 ⟨rfl, rfl⟩
              rw [E0.out]
              generalize num4 P 0 = A at *
              go_wp2_with fail
              have hcl : (⟨A, byt P 4, byt P 5, byt P 6, sval V⟩ : Sm).cells = [.int .i64 A, .int .u8 ((P[4].toNat : Nat) : Int), .int .u8 ((P[5].toNat : Nat) : Int), .int .u8 ((P[6].toNat : Nat) : Int), .int .i32 (IntKind.i32.wrap V)] := by rw [B4.out, B5.out, B6.out, show IntKind.i32.wrap V = V from by rw [IntKind.wrap_i32]; omega, HS.out]; rfl
              have HCL : Hid ((⟨A, byt P 4, byt P 5, byt P 6, sval V⟩ : Sm).cells = [.int .i64 A, .int .u8 ((P[4].toNat : Nat) : Int), .int .u8 ((P[5].toNat : Nat) : Int), .int .u8 ((P[6].toNat : Nat) : Int), .int .i32 (IntKind.i32.wrap V)]) := hcl
              clear hcl
              go_region_law (refine step_append_mine rfl (.tmp 57) (.tmp 69) 43 rfl w.heap.size 76 i0 (.agg #[.int .i64 0, .int .u8 0, .int .u8 0, .int .u8 0, .int .i32 0]) 5 16 Tryz.underlying43 hi hz0 hz1 hz2 rfl (by decide) u7 k (flatS (smsR s k)) (by simp [Act.eval]) (HO.out.alloc _) ⟨w2.heap.size, 0, none⟩ 1 1 [.int .i64 A, .int .u8 ((P[4].toNat : Nat) : Int), .int .u8 ((P[5].toNat : Nat) : Int), .int .u8 ((P[6].toNat : Nat) : Int), .int .i32 (IntKind.i32.wrap V)] (by simp [Act.eval]) rfl (newCells _ _ _) (newOnes _ _ _ _ _) (by unfold maxLen; omega) (by omega) (by simp; omega) ?_; intro v' w3 hown' hgrow)
              all_goals (have HB3 : Hid (Below w.heap.size w w3) := (HB.out.alloc hsz _).drew.grown hgrow (by simp; omega) (fun b hb => (HO.out.lt b hb).1))
              all_goals (have HO3 : Hid (w3.ownsRow w.heap.size 76 5 v' (k + 1) (flatS (smsR s (k + 1)))) := by (show World.ownsRow _ _ _ _ _ _ _; rw [HF.out, HX.out, HCL.out]; exact hown'))
              all_goals clear hown' hgrow
              all_goals go_wp2_with fail
              all_goals exact ⟨⟨k + 1, by omega, by go_num, HO3.out, HB3.out⟩, by simp [intOf]; omega⟩
          · have hkc : k = c := by omega
            obtain ⟨a, cap, rfl, hsm⟩ := owns_sms HO.out (smsR_len s k)
            have HSM : Hid (IsSms wr a k (smsR s k)) := hsm
            have HWF : Hid (SmWf (smsR s k)) := smsR_wf s k
            clear hsm
            subst hkc
            go_wp2_with fail
            refine (rightBatch_any a k cap (smsR s k) _ HSM.out).mono ?_
            rintro e w1 ⟨rfl, hb1⟩
            have HB1 : Hid (Below w.heap.size w w1) := HB.out.trans (hb1.mono hsz)
            have HO1 : Hid (w1.ownsRow w.heap.size 76 5 (.slice a k cap) k (flatS (smsR s k))) := owns_belowU HO.out hb1
            have HSM1 : Hid (IsSms w1 a k (smsR s k)) := HSM.out.below hb1
            clear hb1 HB HO HSM
            by_cases hz : batE (smsR s k) = 0
            · obtain ⟨z1, z2, z3⟩ := (batE_zero _).1 hz
              rw [smsR_len] at z1 z2
              obtain ⟨b, off, rfl, hat⟩ := HSM1.out.2 (by omega)
              have HAT : Hid (SmAt w1 b off (smsR s k)) := hat
              have Z3 : Hid (smsOk (smsR s k) = true) := z3
              rw [hz]
              clear hz hat z3
              go_wp2_with fail
              have hst := rec_str s k hc
              have HST : Hid (((strOfNums (recB (smsR s k))).toList == (s.extract 0 (2 + 11 * k + 4)).toList) = decide (recB (smsR s k) = (nums s).take (6 + 11 * k))) := hst
              clear hst
              refine (written_any b off k cap (smsR s k) _ (smsR_len s k) hc HAT.out HWF.out Z3.out).mono ?_
              rintro e w2 ⟨rfl, hb2⟩
              have HB2 : Hid (Below w.heap.size w w2) := HB1.out.trans (hb2.mono HB1.out.size)
              have HO2 : Hid (w2.ownsRow w.heap.size 76 5 (.slice (some ⟨b, off, none⟩) k cap) k (flatS (smsR s k))) := owns_belowU HO1.out hb2
              clear hb2 HB1 HO1
              by_cases heq : recB (smsR s k) = (nums s).take (6 + 11 * k)
              · have HX : Hid (unOk s = true) := by
                  obtain ⟨x1, x2⟩ := (HRE.out h2 hlen).1 heq
                  show _ = _
                  rw [HU.out, Z3.out, Bool.and_true, HI.out]
                  exact ⟨h2, x1, z1, z2, hlen, x2⟩
                have hne : ((strOfNums (recB (smsR s k))).toList == (s.extract 0 (2 + 11 * k + 4)).toList) = true := by rw [HST.out]; simpa using heq
                clear heq HST
                go_wp2_with fail
                go_ret3
                rw [HP.out]
                exact ⟨HB2.out, Or.inl ⟨HX.out, _, by rw [show (2 : Int) + 11 * (k : Int) + 4 = 6 + 11 * (k : Int) from by omega]; rfl, HO2.out⟩⟩
              · have HX : Hid (unOk s = false) := unOk_no_head (by rw [HI.out]; intro hh; exact heq ((HRE.out h2 hlen).2 ⟨hh.2.1, hh.2.2.2.2.2⟩))
                have hne : ((strOfNums (recB (smsR s k))).toList == (s.extract 0 (2 + 11 * k + 4)).toList) = false := by rw [HST.out]; simpa using heq
                clear heq HST
                go_wp2_with fail
                go_ret3
                rw [HP.out]
                exact ⟨HB2.out, Or.inr ⟨HX.out, rfl⟩⟩
            · have hzz : (batE (smsR s k) == 0) = false := by simpa using hz
              have HX : Hid (unOk s = false) := by
                show _ = _
                rw [HU.out]
                cases hso : smsOk (smsR s k)
                · simp
                · rw [no_of (a := headOk s) (by rw [HI.out]; intro hh; exact hz ((batE_zero _).2 ⟨by rw [smsR_len]; exact hh.2.2.1, by rw [smsR_len]; exact hh.2.2.2.1, hso⟩))]; rfl
              clear hz
              go_wp2_with fail
              go_ret3
              rw [HP.out]
              exact ⟨HB1.out, Or.inr ⟨HX.out, rfl⟩⟩
      · have hdl : decide ((s.size : Int) < 2 + 11 * (c : Int) + 4) = true := by simp; omega
        have HX : Hid (unOk s = false) := unOk_no_head (by rw [HI.out]; omega)
        go_enter Tryz.func35, Tryz.ntmps35
        go_wp2_with fail
        go_ret3
        rw [HP.out]
        exact ⟨Below.refl _ _, Or.inr ⟨HX.out, rfl⟩⟩
    · have hd8 : decide (8 < (c : Int)) = true := by simp; omega
      have HX : Hid (unOk s = false) := unOk_no_head (by rw [HI.out]; omega)
      go_enter Tryz.func35, Tryz.ntmps35
      go_wp2_with fail
      go_ret3
      rw [HP.out]
      exact ⟨Below.refl _ _, Or.inr ⟨HX.out, rfl⟩⟩
  · have hd2 : (s.size : Int) < 2 := by omega
    have HX : Hid (unOk s = false) := unOk_no_head (by rw [HI.out]; omega)
    go_enter Tryz.func35, Tryz.ntmps35
    go_wp2_with fail
    go_ret3
    exact ⟨Below.refl _ _, Or.inr ⟨HX.out, rfl⟩⟩
end Go.Proofs.YthciddpljcbhiabGreatDoor

/- Changes, their records, and what is done again out of bytes (no program). -/
namespace Go.Proofs.YthciddpljcbhiabGreatDoor
open Go Go.RowKit Go.Lib

def Chg.nums : Chg → List Int
  | .w b => recB b
  | .t n => tickB n
def Chg.ok (s : St) : Chg → Prop
  | .w b => wrE s b = 0 ∧ (∀ x ∈ b, x.wf)
  | .t n => tkE s n = 0
def Acc : St → List Chg → Prop
  | _, [] => True
  | s, c :: cs => c.ok s ∧ Acc (s.do c) cs
def logN (cs : List Chg) : List Int := cs.flatMap Chg.nums
theorem logN_cons (c : Chg) (cs : List Chg) : logN (c :: cs) = c.nums ++ logN cs := by simp [logN]
theorem logN_append (a b : List Chg) : logN (a ++ b) = logN a ++ logN b := by simp [logN]
theorem acc_append : ∀ (a : List Chg) (s : St) (b : List Chg), Acc s (a ++ b) ↔ Acc s a ∧ Acc (s.doAll a) b
  | [], s, b => by simp [Acc, St.doAll]
  | c :: a, s, b => by
    have := acc_append a (s.do c) b
    simp only [List.cons_append, Acc, this, and_assoc]
    rfl
theorem Chg.pos (c : Chg) : 6 ≤ c.nums.length := by
  cases c with
  | w b => show 6 ≤ (recB b).length; rw [recB_len]; omega
  | t n => show 6 ≤ (tickB n).length; rw [tickB_len]; omega
theorem Inv.do {s : St} (h : Inv s) {c : Chg} (hc : c.ok s) : Inv (s.do c) := by
  cases c with
  | w b => exact h.wr hc.1 hc.2
  | t n => exact h.tk hc
theorem batE_of {s : St} {b : List Sm} (h : wrE s b = 0) : batE b = 0 := (wrE_ok h).1
theorem tkE_in {s : St} {n : Int} (h : tkE s n = 0) : 1 ≤ n ∧ n ≤ 1000 ∧ s.now + n ≤ 100000 := by
  have : ¬ (n < 1 ∨ 1000 < n ∨ 100000 < s.now + n) := by
    intro hn; rw [tkE, if_pos hn] at h; omega
  omega
theorem tickB_byte {n : Int} (h0 : 0 ≤ n) (h1 : n ≤ 1000) : ∀ x ∈ tickB n, isByte x := by
  intro x hx
  unfold tickB at hx
  rw [List.mem_append] at hx
  rcases hx with hx | hx
  · exact tickH_byte h0 h1 x hx
  · exact lowN_byte 4 _ x hx
theorem Chg.byte {s : St} {c : Chg} (h : c.ok s) : ∀ x ∈ c.nums, isByte x := by
  cases c with
  | w b =>
    have hb := (batE_zero b).1 (batE_of h.1)
    exact recB_byte2 (all_wf h.2) (by omega)
  | t n =>
    have := tkE_in h
    exact tickB_byte (by omega) (by omega)
theorem acc_byte : ∀ (cs : List Chg) (s : St), Acc s cs → ∀ x ∈ logN cs, isByte x
  | [], _, _, x, hx => by simp [logN] at hx
  | c :: cs, s, h, x, hx => by
    rw [logN_cons, List.mem_append] at hx
    rcases hx with hx | hx
    · exact Chg.byte h.1 x hx
    · exact acc_byte cs (s.do c) h.2 x hx

/-! What stands at the head of bytes. -/
def tickR (s : ByteArray) : Int := byt s 1 + 256 * byt s 2
def tkOk (s : ByteArray) : Bool := decide (7 ≤ s.size) && decide (byt s 0 = 84) && decide (num4 s 3 = chk ((nums s).take 3))
theorem tkOk_iff (s : ByteArray) : tkOk s = true ↔ 7 ≤ s.size ∧ byt s 0 = 84 ∧ num4 s 3 = chk ((nums s).take 3) := by simp [tkOk, and_assoc]
def nextC (s : St) (x : ByteArray) : Option Chg :=
  if unOk x = true ∧ wrE s (smsR x (cN x)) = 0 then some (.w (smsR x (cN x))) else if tkOk x = true ∧ tkE s (tickR x) = 0 then some (.t (tickR x)) else none
def redoN : Nat → St → ByteArray → List Chg
  | 0, _, _ => []
  | f + 1, s, x => if x.size = 0 then [] else match nextC s x with
    | none => []
    | some c => c :: redoN f (s.do c) (x.extract c.nums.length x.size)

theorem nums_drop (x : ByteArray) (k : Nat) : nums (x.extract k x.size) = (nums x).drop k := by
  unfold nums
  rw [← List.map_drop]
  congr 1
  rw [ByteArray.data_extract, Array.toList_extract, List.extract_eq_take_drop]
  exact List.take_of_length_le (by rw [List.length_drop, Array.length_toList]; exact Nat.le_refl _)
theorem byt_get {x : ByteArray} {k : Nat} {v : Int} {l : List Int} (h : nums x = l) (hv : l[k]? = some v) : byt x k = v := byt_nums (by rw [h]; exact hv)
theorem unOk_first {x : ByteArray} (h : byt x 0 ≠ 87) : unOk x = false := by
  unfold unOk
  have : headOk x = false := by
    cases hh : headOk x
    · rfl
    · exact absurd ((headOk_iff x).1 hh).2.1 h
  rw [this]; rfl
theorem tickB_eq (n : Int) : tickB n = 84 :: (n % 256) :: (n / 256) :: lowN (chk (tickH n)) 4 := rfl
theorem tick_back {x : ByteArray} {n : Int} {rest : List Int} (h : nums x = tickB n ++ rest) : tkOk x = true ∧ tickR x = n ∧ unOk x = false := by
  have hb0 : byt x 0 = 84 := byt_get h rfl
  have hb1 : byt x 1 = n % 256 := byt_get h rfl
  have hb2 : byt x 2 = n / 256 := byt_get h rfl
  have hsz : x.size = 7 + rest.length := by rw [← nums_len, h, List.length_append, tickB_len]
  have ht : (nums x).take 3 = tickH n := by rw [h]; rfl
  have hn4 : num4 x 3 = chk (tickH n) := num4_low (l1 := tickH n) (l2 := rest) (chk_range _) (by rw [h]; rfl) rfl
  refine ⟨(tkOk_iff x).2 ⟨by omega, hb0, by rw [hn4, ht]⟩, ?_, unOk_first (by rw [hb0]; omega)⟩
  unfold tickR
  rw [hb1, hb2]
  omega
/-- A record that is accepted is what is done next, whatever stands behind it. -/
theorem next_ok {s : St} {c : Chg} (hc : c.ok s) {x : ByteArray} {rest : List Int} (h : nums x = c.nums ++ rest) : nextC s x = some c := by
  cases c with
  | w b =>
    obtain ⟨b1, b2, b3⟩ := (batE_zero b).1 (batE_of hc.1)
    obtain ⟨u1, u2, u3⟩ := whole_yes (s := x) (ls := b) b1 b2 (all_wf hc.2) b3 h
    unfold nextC
    rw [u3, if_pos ⟨u1, hc.1⟩]
  | t n =>
    obtain ⟨u1, u2, u3⟩ := tick_back (x := x) (n := n) h
    unfold nextC
    rw [u3, u2, if_neg (by simp), if_pos ⟨u1, hc⟩]
theorem redo_acc : ∀ (cs : List Chg) (f : Nat) (s : St) (x : ByteArray) (tail : List Int), x.size ≤ f → Acc s cs → nums x = logN cs ++ tail → (tail = [] ∨ ∀ y : ByteArray, nums y = tail → nextC (s.doAll cs) y = none) → redoN f s x = cs
  | [], f, s, x, tail, hf, _, h, ht => by
    have h' : nums x = tail := by simpa [logN] using h
    cases f with
    | zero => rfl
    | succ f =>
      unfold redoN
      by_cases h0 : x.size = 0
      · rw [if_pos h0]
      · rw [if_neg h0]
        rcases ht with ht | ht
        · rw [ht] at h'
          have := nums_len x
          rw [h'] at this
          simp at this
          omega
        · have : nextC s x = none := ht x h'
          rw [this]
  | c :: cs, f, s, x, tail, hf, ha, h, ht => by
    have hpos := c.pos
    rw [logN_cons, List.append_assoc] at h
    have hsz : x.size = c.nums.length + (logN cs ++ tail).length := by rw [← nums_len, h, List.length_append]
    cases f with
    | zero => omega
    | succ f =>
      unfold redoN
      rw [if_neg (by omega), next_ok ha.1 h]
      have hd : nums (x.extract c.nums.length x.size) = logN cs ++ tail := by rw [nums_drop, h, List.drop_left]
      have hz : (x.extract c.nums.length x.size).size ≤ f := by rw [← nums_len, hd]; omega
      have := redo_acc cs f (s.do c) (x.extract c.nums.length x.size) tail hz ha.2 hd ht
      simp only [this]

theorem str_nil : strOfNums [] = ByteArray.empty := rfl
theorem ba_append_nil (a : ByteArray) : a ++ strOfNums [] = a := by rw [str_nil]; exact ByteArray.append_empty
theorem doAll_c : ∀ (cs : List Chg) (s : St), (s.doAll cs).c = s.c
  | [], _ => rfl
  | c :: cs, s => by
    have := doAll_c cs (s.do c)
    show ((s.do c).doAll cs).c = s.c
    rw [this]
    cases c <;> rfl

end Go.Proofs.YthciddpljcbhiabGreatDoor

/- All that a script has made: the world, its books, its drawer, each in blocks of its own (no program). -/
namespace Go.Proofs.YthciddpljcbhiabGreatDoor
open Go Go.RowKit Go.Lib

/-- The record of a change, and the log of all. -/
def Chg.bytes : Chg → ByteArray
  | .w b => strOfNums (recB b)
  | .t n => strOfNums (tickB n)
def logC (cs : List Chg) : ByteArray := cs.foldl (fun a c => a ++ c.bytes) ⟨#[]⟩
theorem logC_snoc (cs : List Chg) (c : Chg) : logC (cs ++ [c]) = logC cs ++ c.bytes := by simp [logC]

/-- A book: where the two stores lie; what the program's is (s, lg), what the document's is (c, cs). -/
structure Bk where
  X : Nat
  R : Nat
  c : Cf
  cs : List Chg
  s : St
  lg : ByteArray
def Bk.ok (b : Bk) : Prop := b.s = (St.new b.c).doAll b.cs ∧ b.lg = logC b.cs ∧ Acc (St.new b.c) b.cs
def bkC (b : Bk) : List Value := [.pointer (some ⟨b.X, 0, none⟩), .pointer (some ⟨b.R, 0, none⟩)]
def flatK (bs : List Bk) : List Value := bs.flatMap bkC
theorem bkC_len (b : Bk) : (bkC b).length = 2 := rfl
theorem flatK_len (bs : List Bk) : (flatK bs).length = bs.length * 2 := flat_length bkC 2 bkC_len bs
def Bk.zero : Bk := ⟨0, 0, ⟨0, 0, []⟩, [], St.new ⟨0, 0, []⟩, ⟨#[]⟩⟩
def bkG (bs : List Bk) (i : Nat) : Bk := bs.getD i Bk.zero
theorem bkG_get (bs : List Bk) (i : Nat) (h : i < bs.length) : bkG bs i = bs[i] := by simp [bkG, List.getD, h]
theorem bkG_set (bs : List Bk) (i : Nat) (b : Bk) (j : Nat) (hj : j < bs.length) : bkG (bs.set i b) j = if i = j then b else bkG bs j := by
  rw [bkG_get _ _ (by simpa using hj), bkG_get _ _ hj, List.getElem_set]
theorem bkG_old (bs : List Bk) (b : Bk) (j : Nat) (hj : j < bs.length) : bkG (bs ++ [b]) j = bkG bs j := by
  rw [bkG_get _ _ (by simp; omega), bkG_get _ _ hj, List.getElem_append_left hj]
theorem bkG_new (bs : List Bk) (b : Bk) : bkG (bs ++ [b]) bs.length = b := by
  rw [bkG_get _ _ (by simp)]; simp
theorem flatK_set (bs : List Bk) (i : Nat) (b : Bk) (hb : bkC b = bkC (bkG bs i)) : flatK (bs.set i b) = flatK bs := by
  unfold flatK
  induction bs generalizing i with
  | nil => rfl
  | cons a bs ih =>
    cases i with
    | zero =>
      have e : bkC b = bkC a := hb
      simp [e]
    | succ i =>
      have e := ih i (by simpa [bkG, List.getD] using hb)
      simp [e]

/-- Whose a block is: 0 nobody's, 1 the world's, 2 the row of books', 3 the drawer's, 4 + 2 * i the i-th store's, 5 + 2 * i the i-th of the document's. -/
def upd (own : Nat → Nat) (w w' : World) (j k : Nat) : Nat := if w.heap.size ≤ k ∧ k < w'.heap.size then j else own k
theorem upd_old {own : Nat → Nat} {w : World} (w' : World) (j : Nat) (ho : ∀ k, w.heap.size ≤ k → own k = 0) {k i : Nat} (hi : i ≠ 0) (h : own k = i) : upd own w w' j k = i := by
  unfold upd
  split
  · next h1 => exact absurd (h.symm.trans (ho k h1.1)) hi
  · exact h
theorem upd_out {own : Nat → Nat} {w w' : World} {j : Nat} (ho : ∀ k, w.heap.size ≤ k → own k = 0) (hs : w.heap.size ≤ w'.heap.size) (k : Nat) (hk : w'.heap.size ≤ k) : upd own w w' j k = 0 := by
  unfold upd
  rw [if_neg (by omega)]
  exact ho k (by omega)
theorem upd_low {own : Nat → Nat} {w w' : World} {j base : Nat} (hb : base ≤ w.heap.size) (hl : ∀ k, k < base → own k = 0) (k : Nat) (hk : k < base) : upd own w w' j k = 0 := by
  unfold upd
  rw [if_neg (by omega)]
  exact hl k hk
theorem upd_gF {own : Nat → Nat} {w w' : World} {j : Nat} (k : Nat) (h : gF (fun k => own k = j) w w' k) : upd own w w' j k = j := by
  unfold upd
  rcases h with h | h
  · split
    · rfl
    · exact h
  · rw [if_pos h]

theorem RfAt.keep {w w' : World} {R : Nat} {F F' : Nat → Prop} {c : Cf} {cs : List Chg} (h : RfAt w R F c cs) {S : Nat → Prop} (hf : Fr S w w') (hn : ∀ k, F k → ¬ S k) (hF : ∀ k, F k → F' k) : RfAt w' R F' c cs := by
  obtain ⟨ps, L, lcap, cv, e, h⟩ := h
  have h2 := h.keep hf hn
  refine ⟨ps, L, lcap, cv, e, { h2 with bat := fun i hi => ?_, fR := hF _ h2.fR, fL := hF _ h2.fL, fc := fun k e => hF k (h2.fc k e) }⟩
  obtain ⟨a, n, cap, h1, h3, h4, h5⟩ := h2.bat i hi
  refine ⟨a, n, cap, h1, h3, h4, fun hp => ?_⟩
  obtain ⟨b, e, hb, r⟩ := h5 hp
  exact ⟨b, e, hF b hb, r⟩
theorem StoreAt.went {w w' : World} {X : Nat} {F F' : Nat → Prop} {s : St} {lg : ByteArray} (h : StoreAt w X F s lg) {S : Nat → Prop} (hf : Fr S w w') (hn : ∀ k, F k → ¬ S k) (hF : ∀ k, F k → F' k) : StoreAt w' X F' s lg :=
  (h.keep fun k hk hl => hf.block k hl (hn k hk)).mono hF

structure WdAt (w : World) (own : Nat → Nat) (base W D : Nat) (bv : Value) (bs : List Bk) (N : Nat) : Prop where
  out : ∀ k, w.heap.size ≤ k → own k = 0
  low : ∀ k, k < base → own k = 0
  bas : base ≤ w.heap.size
  wb : w.heap[W]? = some (.cells #[bv, .pointer (some ⟨D, 0, none⟩)] 34 (0, 0))
  oW : own W = 1
  row : w.ownsRow 0 62 2 bv bs.length (flatK bs)
  orow : ∀ k, bv.ownBlock = some k → own k = 2
  dr : DrAt w D (fun k => own k = 3) N
  st : ∀ i, i < bs.length → StoreAt w (bkG bs i).X (fun k => own k = 4 + 2 * i) (bkG bs i).s (bkG bs i).lg
  rf : ∀ i, i < bs.length → RfAt w (bkG bs i).R (fun k => own k = 5 + 2 * i) (bkG bs i).c (bkG bs i).cs
def AllOk (bs : List Bk) : Prop := ∀ i, i < bs.length → (bkG bs i).ok

section
variable {w w' : World} {own : Nat → Nat} {base W D : Nat} {bv : Value} {bs : List Bk} {N : Nat}
theorem WdAt.Wlt (h : WdAt w own base W D bv bs N) : W < w.heap.size := (Array.getElem?_eq_some_iff.1 h.wb).1
/-- What touches nobody's blocks. -/
theorem WdAt.keep (h : WdAt w own base W D bv bs N) {S : Nat → Prop} (hf : Fr S w w') (hn : ∀ k, own k ≠ 0 → ¬ S k) : WdAt w' own base W D bv bs N where
  out := fun k hk => h.out k (Nat.le_trans hf.size hk)
  low := h.low
  bas := Nat.le_trans h.bas hf.size
  wb := by rw [hf.block W h.Wlt (hn W (by rw [h.oW]; omega))]; exact h.wb
  oW := h.oW
  row := owns_fr h.row hf (fun k e => hn k (by rw [h.orow k e]; omega))
  orow := h.orow
  dr := h.dr.keep hf (fun k e => hn k (by have e' : own k = 3 := e; omega)) (fun _ e => e)
  st := fun i hi => (h.st i hi).went hf (fun k e => hn k (by have e' : own k = 4 + 2 * i := e; omega)) (fun _ e => e)
  rf := fun i hi => (h.rf i hi).keep hf (fun k e => hn k (by have e' : own k = 5 + 2 * i := e; omega)) (fun _ e => e)
theorem WdAt.below (h : WdAt w own base W D bv bs N) (hb : Below w.heap.size w w') : WdAt w' own base W D bv bs N := h.keep (S := fun _ => False) (Fr.of_below hb) (fun _ _ e => e)
theorem WdAt.more (h : WdAt w own base W D bv bs N) {M : Nat} (hm : N ≤ M) : WdAt w own base W D bv bs M := { h with dr := h.dr.more hm }
/-- A step of the i-th store. -/
theorem WdAt.stepX (h : WdAt w own base W D bv bs N) {i : Nat} (_hi : i < bs.length) {s' : St} {lg' : ByteArray} (hf : Fr (fun k => own k = 4 + 2 * i) w w') (hs : StoreAt w' (bkG bs i).X (gF (fun k => own k = 4 + 2 * i) w w') s' lg') :
    WdAt w' (upd own w w' (4 + 2 * i)) base W D bv (bs.set i { bkG bs i with s := s', lg := lg' }) N where
  out := upd_out h.out hf.size
  low := upd_low h.bas h.low
  bas := Nat.le_trans h.bas hf.size
  wb := by rw [hf.block W h.Wlt (by rw [h.oW]; omega)]; exact h.wb
  oW := upd_old _ _ h.out (by omega) h.oW
  row := by
    rw [List.length_set, flatK_set]
    · exact owns_fr h.row hf (fun k e => by rw [h.orow k e]; omega)
    · rfl
  orow := fun k e => upd_old _ _ h.out (by omega) (h.orow k e)
  dr := h.dr.keep hf (fun k e => by have e' : own k = 3 := e; omega) (fun k e => upd_old _ _ h.out (by omega) e)
  st := fun j hj => by
    rw [List.length_set] at hj
    rw [bkG_set _ _ _ _ hj]
    split
    · next e => subst e; exact hs.mono (fun k e => upd_gF k e)
    · next e => exact (h.st j hj).went hf (fun k e' => by have e2 : own k = 4 + 2 * j := e'; omega) (fun k e' => upd_old _ _ h.out (by omega) e')
  rf := fun j hj => by
    rw [List.length_set] at hj
    have h1 := (h.rf j hj).keep hf (fun k e' => by have e2 : own k = 5 + 2 * j := e'; omega) (fun k e' => upd_old w' (4 + 2 * i) h.out (show 5 + 2 * j ≠ 0 by omega) e')
    rw [bkG_set _ _ _ _ hj]
    split
    · next e => subst e; exact h1
    · exact h1
/-- A step of the i-th of the document's. -/
theorem WdAt.stepR (h : WdAt w own base W D bv bs N) {i : Nat} (_hi : i < bs.length) {cs' : List Chg} (hf : Fr (fun k => own k = 5 + 2 * i) w w') (hs : RfAt w' (bkG bs i).R (gF (fun k => own k = 5 + 2 * i) w w') (bkG bs i).c cs') :
    WdAt w' (upd own w w' (5 + 2 * i)) base W D bv (bs.set i { bkG bs i with cs := cs' }) N where
  out := upd_out h.out hf.size
  low := upd_low h.bas h.low
  bas := Nat.le_trans h.bas hf.size
  wb := by rw [hf.block W h.Wlt (by rw [h.oW]; omega)]; exact h.wb
  oW := upd_old _ _ h.out (by omega) h.oW
  row := by
    rw [List.length_set, flatK_set]
    · exact owns_fr h.row hf (fun k e => by rw [h.orow k e]; omega)
    · rfl
  orow := fun k e => upd_old _ _ h.out (by omega) (h.orow k e)
  dr := h.dr.keep hf (fun k e => by have e' : own k = 3 := e; omega) (fun k e => upd_old _ _ h.out (by omega) e)
  st := fun j hj => by
    rw [List.length_set] at hj
    have h1 := (h.st j hj).went hf (fun k e' => by have e2 : own k = 4 + 2 * j := e'; omega) (fun k e' => upd_old w' (5 + 2 * i) h.out (show 4 + 2 * j ≠ 0 by omega) e')
    rw [bkG_set _ _ _ _ hj]
    split
    · next e => subst e; exact h1
    · exact h1
  rf := fun j hj => by
    rw [List.length_set] at hj
    rw [bkG_set _ _ _ _ hj]
    split
    · next e => subst e; exact hs.keep (S := fun _ => False) (Fr.refl _ _) (fun _ _ e => e) (fun k e => upd_gF k e)
    · next e => exact (h.rf j hj).keep hf (fun k e' => by have e2 : own k = 5 + 2 * j := e'; omega) (fun k e' => upd_old _ _ h.out (by omega) e')
/-- Everything below the base is as it was. -/
theorem WdAt.bel (h : WdAt w own base W D bv bs N) {S : Nat → Prop} (hf : Fr S w w') (hS : ∀ k, S k → own k ≠ 0 ∨ base ≤ k) : Below base w w' :=
  hf.below h.bas (fun k e => by
    rcases hS k e with e' | e'
    · by_cases hk : k < base
      · exact absurd (h.low k hk) e'
      · omega
    · exact e')
/-- The books' cells. -/
theorem WdAt.book (h : WdAt w own base W D bv bs N) (i : Nat) (hi : i < bs.length) : ∃ g cap, bv = .slice (some ⟨g, 0, none⟩) bs.length cap ∧ w.cell? ⟨g, i * 2, none⟩ = some (.pointer (some ⟨(bkG bs i).X, 0, none⟩)) ∧ w.cell? ⟨g, i * 2 + 1, none⟩ = some (.pointer (some ⟨(bkG bs i).R, 0, none⟩)) := by
  obtain ⟨g, cap, e, _, _, _⟩ := ownBlockForm h.row (by omega)
  have hrow := h.row
  rw [e] at hrow
  have hat := owns_at hrow
  have hg : ∀ j, j < 2 → (flatK bs)[i * 2 + j]? = (bkC (bkG bs i))[j]? := fun j hj => by
    unfold flatK
    rw [bkG_get bs i hi]
    exact flat_get bkC 2 bkC_len bs i j hj hi
  refine ⟨g, cap, e, ?_, ?_⟩
  · have := hat (i * 2) _ (by have := hg 0 (by omega); simpa [bkC] using this)
    simpa using this
  · have := hat (i * 2 + 1) _ (by have := hg 1 (by omega); simpa [bkC] using this)
    simpa using this
/-- A book more. -/
theorem WdAt.add {w0 w3 w5 : World} (h0 : WdAt w0 own base W D bv bs N) {F G : Nat → Prop} {b : Bk} {bv' : Value} (hb : Below w0.heap.size w0 w3) (hF : ∀ k, F k → w0.heap.size ≤ k ∧ k < w3.heap.size ∧ ¬ G k) (hG : ∀ k, G k → w0.heap.size ≤ k ∧ k < w3.heap.size)
    (hs : StoreAt w3 b.X F b.s b.lg) (hr : RfAt w3 b.R G b.c b.cs) (hg : w3.grownBy w5 bv.ownBlock) (ho : w5.ownsRow 0 62 2 bv' (bs.length + 1) (flatK bs ++ bkC b)) (hk : bv'.ownBlock = bv.ownBlock ∨ ∀ k, bv'.ownBlock = some k → w3.heap.size ≤ k) :
    ∃ own', WdAt (w5.setCell ⟨W, 0, none⟩ bv') own' base W D bv' (bs ++ [b]) N ∧ Below base w0 (w5.setCell ⟨W, 0, none⟩ bv') := by
  have hsz : (w5.setCell ⟨W, 0, none⟩ bv').heap.size = w5.heap.size := by simp [World.setCell]
  have h3 := hb.size
  have h5 := hg.size
  have hf : Fr (fun k => own k = 1 ∨ own k = 2) w0 (w5.setCell ⟨W, 0, none⟩ bv') := ((Fr.of_below hb).grown hg (fun k e => .inl (.inr (h0.orow k e)))).setCell (.inl (.inl h0.oW)) _
  have hf3 : Fr (fun k => own k = 1 ∨ own k = 2) w3 (w5.setCell ⟨W, 0, none⟩ bv') := ((Fr.refl _ _).grown hg (fun k e => .inl (.inr (h0.orow k e)))).setCell (.inl (.inl h0.oW)) _
  classical
  refine ⟨fun k => if F k then 4 + 2 * bs.length else if G k then 5 + 2 * bs.length else if w3.heap.size ≤ k ∧ k < w5.heap.size then 2 else own k, ?_, h0.bel hf (fun k e => .inl (by omega))⟩
  have hold : ∀ k i, i ≠ 0 → own k = i → (if F k then 4 + 2 * bs.length else if G k then 5 + 2 * bs.length else if w3.heap.size ≤ k ∧ k < w5.heap.size then 2 else own k) = i := by
    intro k i hi e
    have hlt : k < w0.heap.size := by
      by_cases hk : k < w0.heap.size
      · exact hk
      · exact absurd (e.symm.trans (h0.out k (by omega))) hi
    rw [if_neg (fun e => by have := (hF k e).1; omega), if_neg (fun e => by have := (hG k e).1; omega), if_neg (by omega)]
    exact e
  have hWr : bv.ownBlock ≠ some W := fun e => by have h1 := h0.orow W e; have h2 := h0.oW; omega
  have hW5 : bv'.ownBlock ≠ some W := fun e => by
    rcases hk with hk | hk
    · rw [hk] at e; exact hWr e
    · have h1 := hk W e; have h2 := h0.Wlt; omega
  exact {
    out := fun k hk' => by
      rw [hsz] at hk'
      show (if F k then _ else _) = _
      rw [if_neg (fun e => by have := (hF k e).2.1; omega), if_neg (fun e => by have := (hG k e).2; omega), if_neg (by omega)]
      exact h0.out k (by omega)
    low := fun k hk' => by
      have hl := h0.bas
      show (if F k then _ else _) = _
      rw [if_neg (fun e => by have := (hF k e).1; omega), if_neg (fun e => by have := (hG k e).1; omega), if_neg (by omega)]
      exact h0.low k hk'
    bas := by have := h0.bas; omega
    wb := by
      have e1 : w5.heap[W]? = some (.cells #[bv, .pointer (some ⟨D, 0, none⟩)] 34 (0, 0)) := by
        rw [hg.block W (by have := h0.Wlt; omega) (fun e => hWr e.symm), hb.block W h0.Wlt]
        exact h0.wb
      exact heap_setCell e1
    oW := hold W 1 (by omega) h0.oW
    row := by
      rw [List.length_append, show flatK (bs ++ [b]) = flatK bs ++ bkC b from flat_snoc _ _ _]
      exact owns_other ho hW5
    orow := fun k e => by
      rcases hk with hk | hk
      · rw [hk] at e; exact hold k 2 (by omega) (h0.orow k e)
      · have h1 := hk k e
        have h2 := (ho.lt k e).2
        show (if F k then _ else _) = _
        rw [if_neg (fun e => by have := (hF k e).2.1; omega), if_neg (fun e => by have := (hG k e).2; omega), if_pos ⟨h1, h2⟩]
    dr := h0.dr.keep hf (fun k e => by have e' : own k = 3 := e; omega) (fun k e => hold k 3 (by omega) e)
    st := fun i hi => by
      by_cases hlt : i < bs.length
      · rw [bkG_old _ _ _ hlt]
        exact (h0.st i hlt).went hf (fun k e => by have e' : own k = 4 + 2 * i := e; omega) (fun k e => hold k _ (by omega) e)
      · have : i = bs.length := by simp at hi; omega
        subst this
        rw [bkG_new]
        refine hs.went hf3 (fun k e => ?_) (fun k e => if_pos e)
        have := h0.out k (hF k e).1
        omega
    rf := fun i hi => by
      by_cases hlt : i < bs.length
      · rw [bkG_old _ _ _ hlt]
        exact (h0.rf i hlt).keep hf (fun k e => by have e' : own k = 5 + 2 * i := e; omega) (fun k e => hold k _ (by omega) e)
      · have : i = bs.length := by simp at hi; omega
        subst this
        rw [bkG_new]
        refine hr.keep hf3 (fun k e => ?_) (fun k e => ?_)
        · have := h0.out k (hG k e).1
          omega
        · show (if F k then _ else _) = _
          rw [if_neg (fun e' => (hF k e').2.2 e), if_pos e] }
end

end Go.Proofs.YthciddpljcbhiabGreatDoor

/- Walks: Right, of the program. -/
namespace Go.Proofs.YthciddpljcbhiabGreatDoor
open Go.RowKit

abbrev cfgO (span keep : Int) (a : Option Addr) (n cap : Nat) : Obj := .cells #[.int .i64 span, .int .i64 keep, .slice a n cap] 40

set_option maxHeartbeats 1000000 in
theorem cfgRight_yes (b off n cap : Nat) (ls : List Lv) (span keep : Int) (w : World) (hn : ls.length = n) (hat : LvAt w b off ls) (hwf : LvWf ls)
    (h1 : 1 ≤ span) (h2 : span ≤ 100) (h3 : 0 ≤ keep) (h4 : keep ≤ 19) (h5 : 1 ≤ n) (h6 : n ≤ 4) :
    Calls Tryz.prog 23 #[.agg #[.int .i64 span, .int .i64 keep, .slice (some ⟨b, off, none⟩) n cap]] w fun e w' => e = .returned (.bool (agesB ls keep && winsB ls span && sersB ls)) ∧ Below w.heap.size w w' := by
  have hb0 : b < w.heap.size := hat.block (by omega)
  have HL : Hid (LvAt (w.alloc (cfgO span keep (some ⟨b, off, none⟩) n cap)) b off ls) := hat.below ((Below.refl w.heap.size w).alloc (Nat.le_refl _) _) hb0
  have hmx : n ≤ maxLen := by unfold maxLen; omega
  have HMX : Hid (n ≤ maxLen) := hmx
  have HN : Hid (ls.length = n) := hn
  have HW : Hid (LvWf ls) := hwf
  clear hat hn hwf hmx
  have hd1 : 1 ≤ (n : Int) := by omega
  have hd2 : (n : Int) ≤ 4 := by omega
  go_enter Tryz.func23, Tryz.ntmps23
  go_wp2_with fail
  refine (rightAges_some b off n cap ls keep _ HN.out HMX.out HL.out).mono ?_
  rintro e w' ⟨rfl, rfl⟩
  cases hA : agesB ls keep
  · go_wp2_with fail
    go_ret
    exact ⟨ret_bool (by simp [hA]), by go_grown⟩
  · go_wp2_with fail
    refine (rightWindows_some b off n cap ls span _ HN.out HMX.out HL.out HW.out h1 h2).mono ?_
    rintro e w' ⟨rfl, rfl⟩
    cases hB : winsB ls span
    · go_wp2_with fail
      go_ret
      exact ⟨ret_bool (by simp [hA, hB]), by go_grown⟩
    · go_wp2_with fail
      refine (rightSeries_some b off n cap ls _ HN.out HMX.out HL.out HW.out).mono ?_
      rintro e w1 ⟨rfl, hb1⟩
      go_wp2_with fail
      go_ret
      exact ⟨ret_bool (by simp [hA, hB]), ((Below.refl w.heap.size w).alloc (Nat.le_refl _) _).trans (hb1.mono (by simp))⟩

theorem lvs_alloc {w : World} {a : Option Addr} {n : Nat} {ls : List Lv} (h : IsLvs w a n ls) (o : Obj) : IsLvs (w.alloc o) a n ls :=
  ⟨h.1, fun hn => let ⟨b, off, e, hat⟩ := h.2 hn; ⟨b, off, e, hat.below ((Below.refl w.heap.size w).alloc (Nat.le_refl _) _) (hat.block (by rw [h.1]; exact hn))⟩⟩

theorem cfgRight_any (a : Option Addr) (n cap : Nat) (ls : List Lv) (span keep : Int) (w : World) (h : IsLvs w a n ls) (hwf : LvWf ls) :
    Calls Tryz.prog 23 #[.agg #[.int .i64 span, .int .i64 keep, .slice a n cap]] w fun e w' => e = .returned (.bool (rightB span keep ls)) ∧ Below w.heap.size w w' := by
  by_cases hf : 1 ≤ span ∧ span ≤ 100 ∧ 0 ≤ keep ∧ keep ≤ 19 ∧ 1 ≤ n ∧ n ≤ 4
  · obtain ⟨h1, h2, h3, h4, h5, h6⟩ := hf
    obtain ⟨hn, hx⟩ := h
    obtain ⟨b, off, rfl, hat⟩ := hx (by omega)
    rw [rightB_rest h1 h2 h3 h4 (by omega) (by omega)]
    exact cfgRight_yes b off n cap ls span keep w hn hat hwf h1 h2 h3 h4 h5 h6
  · rw [rightB_first (by rw [h.1]; exact hf)]
    exact cfgRight_no a n cap span keep w hf

theorem refRight_any (a : Option Addr) (n cap : Nat) (ls : List Lv) (span keep : Int) (w : World) (h : IsLvs w a n ls) (hwf : LvWf ls) :
    Calls Tryz.prog 25 #[.agg #[.int .i64 span, .int .i64 keep, .slice a n cap]] w fun e w' => e = .returned (.int .i64 (errR (rightB span keep ls))) ∧ Below w.heap.size w w' := by
  by_cases hf : 1 ≤ span ∧ span ≤ 100 ∧ 0 ≤ keep ∧ keep ≤ 19 ∧ 1 ≤ n ∧ n ≤ 4
  · obtain ⟨h1, h2, h3, h4, h5, h6⟩ := hf
    obtain ⟨hn, hx⟩ := h
    obtain ⟨b, off, rfl, hat⟩ := hx (by omega)
    rw [rightB_rest h1 h2 h3 h4 (by omega) (by omega), ← refsB_eq]
    exact refRight_yes b off n cap ls span keep w hn hat hwf h1 h2 h3 h4 h5 h6
  · rw [rightB_first (by rw [h.1]; exact hf)]
    exact refRight_no a n cap span keep w hf

theorem garRight_any (a : Option Addr) (n cap : Nat) (ls : List Lv) (span keep : Int) (w : World) (h : IsLvs w a n ls) (hwf : LvWf ls) :
    Calls Tryz.prog 27 #[.agg #[.int .i64 span, .int .i64 keep, .slice a n cap]] w fun e w' => e = .returned (.int .i64 (errR (rightB span keep ls))) ∧ Below w.heap.size w w' := by
  have HL : Hid (IsLvs (w.alloc (cfgO span keep a n cap)) a n ls) := lvs_alloc h _
  have HW : Hid (LvWf ls) := hwf
  clear h hwf
  go_enter Tryz.func27, Tryz.ntmps27
  go_wp2_with fail
  refine (cfgRight_any a n cap ls span keep _ HL.out HW.out).mono ?_
  rintro e w1 ⟨rfl, hb1⟩
  have hb : Below w.heap.size w w1 := ((Below.refl w.heap.size w).alloc (Nat.le_refl _) _).trans (hb1.mono (by simp))
  cases hr : rightB span keep ls
  · go_wp2_with fail
    go_ret
    exact ⟨ret_i64 (by simp [errR, hr]), hb⟩
  · go_wp2_with fail
    go_ret
    exact ⟨ret_i64 (by simp [errR, hr]), hb⟩

end Go.Proofs.YthciddpljcbhiabGreatDoor

/- Walks: the levels in a list of the caller's own (handedConfig). -/
namespace Go.Proofs.YthciddpljcbhiabGreatDoor
open Go.RowKit

theorem Tryz.info37' : (Tryz.prog.info? 37).map (fun i => (i.zero, i.size, i.bytes)) = some (some (.agg #[.int .i64 0, .int .i64 0, .string ByteArray.empty, .int .i64 0]), 4, 40) := by kernel_rfl
theorem Tryz.size37 : (Tryz.prog.info? 37).map (·.size) = some 4 := by kernel_rfl

theorem make73 (n : Nat) (h : n ≤ 7000000000000) : ∃ Z : List Value, Z.length = (n + 1) * 4 ∧ ∀ w, (Instr.makeSlice 38 (.int .i64 ((n : Int) + 1)) (.int .i64 ((n : Int) + 1))).run Tryz.prog w =
    .ok (.slice (some ⟨w.heap.size, 0, none⟩) (n + 1) (n + 1)) (w.alloc (.cells Z.toArray 37)) := by
  have hinfo := Tryz.info37'
  cases hq : Tryz.prog.info? 37 with
  | none => simp [hq] at hinfo
  | some i =>
    simp only [hq, Option.map_some, Option.some.injEq, Prod.mk.injEq] at hinfo
    obtain ⟨hz, hs, hb⟩ := hinfo
    refine ⟨(madeCells (Value.cells (.agg #[.int .i64 0, .int .i64 0, .string ByteArray.empty, .int .i64 0])) ((n + 1) * 4)).toList, by simp [size_madeCells], fun w => ?_⟩
    have hr := run_make (P := Tryz.prog) w 38 37 i _ Tryz.underlying38 hq hz .i64 .i64 ((n : Int) + 1) ((n : Int) + 1) (by omega) (by omega) (by rw [hb]; omega) (by omega)
    rw [hr, hs, show ((n : Int) + 1).toNat = n + 1 from by omega]

theorem copy73 (X : World) (Z : List Value) (a : Option Addr) (n cap : Nat) (ls : List Lv) (hZ : Z.length = (n + 1) * 4) (h : IsLvs X a n ls) (g : Nat) (hg : g = X.heap.size) (ty : TypeId) :
    (Builtin.copy_ #[38, 38] ty #[.slice (some ⟨g, 0, none⟩) (n + 1) (n + 1), .slice a n cap]).run Tryz.prog (X.alloc (.cells Z.toArray 37)) =
      .ok (goInt n) (X.alloc (.cells (flat ls ++ Z.drop (n * 4)).toArray 37)) := by
  subst hg
  obtain ⟨hn, hx⟩ := h
  by_cases h0 : n = 0
  · subst h0
    have : ls = [] := List.eq_nil_of_length_eq_zero hn
    subst this
    rw [run_copyN_none _ 38 38 ty 37 4 _ _ _ _ _ _ Tryz.underlying38 Tryz.size37 (by simp)]
    simp [flat]
  · obtain ⟨b, off, rfl, hat⟩ := hx (by omega)
    have hb := hat.block (by omega)
    have hat' := at_of_lv (hat.below ((Below.refl X.heap.size X).alloc (Nat.le_refl _) (.cells Z.toArray 37)) hb)
    rw [run_copyN (P := Tryz.prog) _ 38 38 ty 37 4 X.heap.size 0 (n + 1) (n + 1) ⟨b, off, none⟩ n cap Z.toArray 37 (flat ls) Tryz.underlying38 Tryz.size37 (heap_alloc_new X _)
      (by rw [flat_len, hn]; congr 1; simp) (fun j v hj => by
        have := hat' j v hj
        rw [show (⟨b, off, none⟩ : Addr).add j = ⟨b, off + j, none⟩ from by unfold Addr.add; split <;> simp_all]
        exact this) (by simp [flat_len, hZ]; omega) (flat_one ls)]
    rw [setRow_alloc]
    have : Nat.min n (n + 1) = n := by simp
    rw [this]
    simp [flat_len, hn]

def blotLv : Lv := ⟨-77, 0, ⟨#[]⟩, 0⟩
theorem blot_set (ls : List Lv) (n : Nat) (R : List Value) (z0 z1 z2 z3 : Value) (hl : (flat ls).length = n * 4) (hR : R = flat ls ++ [z0, z1, z2, z3]) :
    ((((R.set (n * 4) (.int .i64 (-77))).set (n * 4 + 1) (.int .i64 0)).set (n * 4 + 2) (.string ⟨#[]⟩)).set (n * 4 + 3) (.int .i64 0)).toArray = (flat (ls ++ [blotLv])).toArray := by
  subst hR
  have : flat (ls ++ [blotLv]) = flat ls ++ [.int .i64 (-77), .int .i64 0, .string ⟨#[]⟩, .int .i64 0] := flat_snoc _ _ _
  rw [this]
  rw [List.set_append_right _ _ (by omega), hl, List.set_append_right _ _ (by omega), hl, List.set_append_right _ _ (by omega), hl, List.set_append_right _ _ (by omega), hl]
  simp

theorem world3 {w : World} {o1 o2 : Obj} {A B : Array Value} {t : TypeId} (h : A = B) : ((w.alloc o1).alloc o2).alloc (.cells A t) = ((w.alloc o1).alloc o2).alloc (.cells B t) := by rw [h]

set_option maxHeartbeats 1000000 in
theorem handedConfig_any (a : Option Addr) (n cap : Nat) (ls : List Lv) (span keep : Int) (w : World) (h : IsLvs w a n ls) (hr : n ≤ 7000000000000) :
    Calls Tryz.prog 9 #[.agg #[.int .i64 span, .int .i64 keep, .slice a n cap]] w fun e w' =>
      e = .returned (.tuple #[.agg #[.int .i64 span, .int .i64 keep, .slice (some ⟨w.heap.size + 1 + 1, 0, none⟩) n (n + 1)], .slice (some ⟨w.heap.size + 1 + 1, 0, none⟩) (n + 1) (n + 1)]) ∧
      w' = ((w.alloc (cfgO span keep (some ⟨w.heap.size + 1 + 1, 0, none⟩) n (n + 1))).alloc (cfgO span keep (some ⟨w.heap.size + 1 + 1, 0, none⟩) n (n + 1))).alloc (.cells (flat (ls ++ [blotLv])).toArray 37) := by
  obtain ⟨Z, hZ, hmk⟩ := make73 n hr
  have HZ : Hid (Z.length = (n + 1) * 4) := hZ
  clear hZ
  have hcp := fun ty => copy73 ((w.alloc (cfgO span keep a n cap)).alloc (cfgO 0 0 none 0 0)) Z a n cap ls HZ.out (lvs_alloc (lvs_alloc h _) _) (w.heap.size + 1 + 1) (by simp) ty
  have hfl : (flat ls).length = n * 4 := by rw [flat_len, h.1]
  obtain ⟨z0, z1, z2, z3, hz⟩ : ∃ z0 z1 z2 z3, Z.drop (n * 4) = [z0, z1, z2, z3] := by
    have : (Z.drop (n * 4)).length = 4 := by simp [HZ.out]; omega
    match hd : Z.drop (n * 4), this with
    | [z0, z1, z2, z3], _ => exact ⟨z0, z1, z2, z3, rfl⟩
  clear h
  have HLen : Hid ((flat ls).length = n * 4) := hfl
  clear hfl
  generalize hR : flat ls ++ Z.drop (n * 4) = R at hcp
  have e0 : R[n * 4]? = some z0 := by rw [← hR, hz, List.getElem?_append_right (by rw [HLen.out]; omega), HLen.out]; simp
  have e1 : R[n * 4 + 1]? = some z1 := by rw [← hR, hz, List.getElem?_append_right (by rw [HLen.out]; omega), HLen.out]; simp
  have e2 : R[n * 4 + 2]? = some z2 := by rw [← hR, hz, List.getElem?_append_right (by rw [HLen.out]; omega), HLen.out]; simp
  have e3 : R[n * 4 + 3]? = some z3 := by rw [← hR, hz, List.getElem?_append_right (by rw [HLen.out]; omega), HLen.out]; simp
  have HR : Hid (R = flat ls ++ [z0, z1, z2, z3]) := by rw [← hR, hz]; rfl
  clear hR hz HZ
  go_enter Tryz.func9, Tryz.ntmps9
  go_wp2_with fail
  go_returns
  exact ⟨rfl, world3 (blot_set ls n R z0 z1 z2 z3 HLen.out HR.out)⟩

end Go.Proofs.YthciddpljcbhiabGreatDoor

/- Walks: do the levels read as they did? (stillConfig) -/
namespace Go.Proofs.YthciddpljcbhiabGreatDoor
open Go.RowKit

theorem lvG_left (ls : List Lv) (x : Lv) (i : Nat) (h : i < ls.length) : lvG (ls ++ [x]) i = lvG ls i := by
  simp [lvG, List.getD, List.getElem?_append_left h]
theorem lvG_last (ls : List Lv) (x : Lv) : lvG (ls ++ [x]) ls.length = x := by simp [lvG, List.getD]

set_option maxHeartbeats 1000000 in
theorem stillConfig_any (a : Option Addr) (g n cap : Nat) (ls : List Lv) (w : World) (hn : ls.length = n) (hr : n ≤ 7000000000000)
    (hall : LvAt w g 0 (ls ++ [blotLv])) (hrow : Row w g ((n + 1) * 4)) (hl : IsLvs w a n ls) :
    Calls Tryz.prog 11 #[.slice (some ⟨g, 0, none⟩) (n + 1) (n + 1), .slice a n cap] w fun e w' => e = .returned (.bool true) ∧ Below g w w' := by
  have HA : Hid (LvAt w g 0 (ls ++ [blotLv])) := hall
  have HL : Hid (IsLvs w a n ls) := hl
  have HRow : Hid (Row w g ((n + 1) * 4)) := hrow
  have HN : Hid (ls.length = n) := hn
  clear hall hl hrow hn
  obtain ⟨c0, _, _, _⟩ := HA.out n (by simp [HN.out])
  rw [show lvG (ls ++ [blotLv]) n = blotLv from by rw [← HN.out]; exact lvG_last ls _] at c0
  simp only [Nat.zero_add] at c0
  have hage : blotLv.age = -77 := rfl
  rw [hage] at c0
  clear hage
  go_enter Tryz.func11, Tryz.ntmps11
  go_wp2_with fail
  go_loopw [6, 7] (fun ok i wr => ∃ k : Nat, k ≤ n ∧ i = .int .i64 k ∧ ok = .bool true ∧ ∃ d, wr = w.drewN d) (fun _ i _ => n - (intOf i).toNat)
  case atStart => exact ⟨0, Nat.zero_le _, rfl, rfl, 0, rfl⟩
  case round =>
    obtain ⟨k, hk, rfl, rfl, d, rfl⟩ := hrel
    by_cases hlt : k < n
    · obtain ⟨a0, a1, a2, a3⟩ := HA.out k (by simp [HN.out]; omega)
      rw [lvG_left ls _ k (by rw [HN.out]; exact hlt)] at a0 a1 a2 a3
      simp only [Nat.zero_add] at a0 a1 a2 a3
      obtain ⟨b, off, rfl, hla⟩ := HL.out.2 (by omega)
      obtain ⟨b0, b1, b2, b3⟩ := hla k (by rw [HN.out]; exact hlt)
      clear hla
      go_wp2_with fail
      go_quiet (fail)
      go_wp2_with fail
      exact ⟨⟨k + 1, by omega, by go_num, rfl, _, rfl⟩, by simp [intOf]; omega⟩
    · go_wp2_with fail
      go_loopw [8] (fun i wr => ∃ k : Nat, k ≤ n + 1 ∧ i = .int .i64 k ∧ Below g w wr ∧ Row wr g ((n + 1) * 4)) (fun i _ => n + 1 - (intOf i).toNat)
      case atStart => exact ⟨0, Nat.zero_le _, rfl, below_drewN (Below.refl _ _) _, HRow.out.drew d⟩
      case round =>
        obtain ⟨k2, hk2, rfl, hbel, hrow⟩ := hrel
        have HR2 : Hid (Row wr g ((n + 1) * 4)) := hrow
        clear hrow
        by_cases hlt2 : k2 < n + 1
        · obtain ⟨⟨v0, q0⟩, f0⟩ := HR2.out.cell (o := k2 * 4) (by omega)
          obtain ⟨⟨v1, q1⟩, f1⟩ := HR2.out.cell (o := k2 * 4 + 1) (by omega)
          obtain ⟨⟨v2, q2⟩, f2⟩ := HR2.out.cell (o := k2 * 4 + 2) (by omega)
          obtain ⟨⟨v3, q3⟩, f3⟩ := HR2.out.cell (o := k2 * 4 + 3) (by omega)
          go_wp2_with fail
          refine ⟨⟨k2 + 1, by omega, by go_num, ?_, ?_⟩, by simp [intOf]; omega⟩
          · exact (((hbel.setCell (Nat.le_refl _) _).setCell (Nat.le_refl _) _).setCell (Nat.le_refl _) _).setCell (Nat.le_refl _) _
          · exact ((((HR2.out.set _).set _).set _).set _)
        · go_wp2_with fail
          go_ret
          exact ⟨rfl, hbel⟩

end Go.Proofs.YthciddpljcbhiabGreatDoor

/- Walks: what still and stillConfig leave: all but the one list (the caller writes over it). -/
namespace Go.Proofs.YthciddpljcbhiabGreatDoor
open Go.RowKit

set_option maxHeartbeats 1000000 in
theorem stillConfig_fr (a : Option Addr) (g n cap : Nat) (ls : List Lv) (w : World) (hn : ls.length = n) (hr : n ≤ 7000000000000)
    (hall : LvAt w g 0 (ls ++ [blotLv])) (hrow : Row w g ((n + 1) * 4)) (hl : IsLvs w a n ls) :
    Calls Tryz.prog 11 #[.slice (some ⟨g, 0, none⟩) (n + 1) (n + 1), .slice a n cap] w fun e w' => e = .returned (.bool true) ∧ Fr (fun k => k = g) w w' := by
  have HA : Hid (LvAt w g 0 (ls ++ [blotLv])) := hall
  have HL : Hid (IsLvs w a n ls) := hl
  have HRow : Hid (Row w g ((n + 1) * 4)) := hrow
  have HN : Hid (ls.length = n) := hn
  clear hall hl hrow hn
  obtain ⟨c0, _, _, _⟩ := HA.out n (by simp [HN.out])
  rw [show lvG (ls ++ [blotLv]) n = blotLv from by rw [← HN.out]; exact lvG_last ls _] at c0
  simp only [Nat.zero_add] at c0
  have hage : blotLv.age = -77 := rfl
  rw [hage] at c0
  clear hage
  go_enter Tryz.func11, Tryz.ntmps11
  go_wp2_with fail
  go_loopw [6, 7] (fun ok i wr => ∃ k : Nat, k ≤ n ∧ i = .int .i64 k ∧ ok = .bool true ∧ ∃ d, wr = w.drewN d) (fun _ i _ => n - (intOf i).toNat)
  case atStart => exact ⟨0, Nat.zero_le _, rfl, rfl, 0, rfl⟩
  case round =>
    obtain ⟨k, hk, rfl, rfl, d, rfl⟩ := hrel
    by_cases hlt : k < n
    · obtain ⟨a0, a1, a2, a3⟩ := HA.out k (by simp [HN.out]; omega)
      rw [lvG_left ls _ k (by rw [HN.out]; exact hlt)] at a0 a1 a2 a3
      simp only [Nat.zero_add] at a0 a1 a2 a3
      obtain ⟨b, off, rfl, hla⟩ := HL.out.2 (by omega)
      obtain ⟨b0, b1, b2, b3⟩ := hla k (by rw [HN.out]; exact hlt)
      clear hla
      go_wp2_with fail
      go_quiet (fail)
      go_wp2_with fail
      exact ⟨⟨k + 1, by omega, by go_num, rfl, _, rfl⟩, by simp [intOf]; omega⟩
    · go_wp2_with fail
      go_loopw [8] (fun i wr => ∃ k : Nat, k ≤ n + 1 ∧ i = .int .i64 k ∧ Fr (fun k => k = g) w wr ∧ Row wr g ((n + 1) * 4)) (fun i _ => n + 1 - (intOf i).toNat)
      case atStart => exact ⟨0, Nat.zero_le _, rfl, Fr.of_below (below_drewN (Below.refl _ _) _), HRow.out.drew d⟩
      case round =>
        obtain ⟨k2, hk2, rfl, hbel, hrow⟩ := hrel
        have HR2 : Hid (Row wr g ((n + 1) * 4)) := hrow
        clear hrow
        by_cases hlt2 : k2 < n + 1
        · obtain ⟨⟨v0, q0⟩, f0⟩ := HR2.out.cell (o := k2 * 4) (by omega)
          obtain ⟨⟨v1, q1⟩, f1⟩ := HR2.out.cell (o := k2 * 4 + 1) (by omega)
          obtain ⟨⟨v2, q2⟩, f2⟩ := HR2.out.cell (o := k2 * 4 + 2) (by omega)
          obtain ⟨⟨v3, q3⟩, f3⟩ := HR2.out.cell (o := k2 * 4 + 3) (by omega)
          go_wp2_with fail
          refine ⟨⟨k2 + 1, by omega, by go_num, ?_, ?_⟩, by simp [intOf]; omega⟩
          · exact (((hbel.setCell (.inl rfl) _).setCell (.inl rfl) _).setCell (.inl rfl) _).setCell (.inl rfl) _
          · exact ((((HR2.out.set _).set _).set _).set _)
        · go_wp2_with fail
          go_ret
          exact ⟨rfl, hbel⟩

set_option maxHeartbeats 1000000 in
theorem still_fr (a : Option Addr) (g n cap : Nat) (ls : List Sm) (w : World) (hr : n ≤ 10000000000000)
    (hall : SmAt w g 0 (ls ++ [blotSm])) (hrow : Row w g ((n + 1) * 5)) (hl : IsSms w a n ls) :
    Calls Tryz.prog 32 #[.slice (some ⟨g, 0, none⟩) (n + 1) (n + 1), .slice a n cap] w fun e w' => e = .returned (.bool true) ∧ Fr (fun k => k = g) w w' := by
  have HA : Hid (SmAt w g 0 (ls ++ [blotSm])) := hall
  have HL : Hid (IsSms w a n ls) := hl
  have HRow : Hid (Row w g ((n + 1) * 5)) := hrow
  have HN : Hid (ls.length = n) := hl.1
  clear hall hl hrow
  obtain ⟨c0, _, _, _, _⟩ := HA.out n (by simp [HN.out])
  rw [show smG (ls ++ [blotSm]) n = blotSm from by rw [← HN.out]; exact smG_last ls _] at c0
  simp only [Nat.zero_add] at c0
  have hage : blotSm.time = -77 := rfl
  rw [hage] at c0
  clear hage
  go_enter Tryz.func32, Tryz.ntmps32
  go_wp2_with fail
  refine (sameSamples_yes (some ⟨g, 0, none⟩) a n (n + 1) cap ls _ hr ⟨HN.out, fun _ => ⟨g, 0, rfl, smAt_left HA.out⟩⟩ HL.out).mono ?_
  rintro e w1 ⟨rfl, d, rfl⟩
  go_wp2_with fail
  go_loopw [8] (fun i wr => ∃ k : Nat, k ≤ n + 1 ∧ i = .int .i64 k ∧ Fr (fun k => k = g) w wr ∧ Row wr g ((n + 1) * 5)) (fun i _ => n + 1 - (intOf i).toNat)
  case atStart => exact ⟨0, Nat.zero_le _, rfl, Fr.of_below (below_drewN (Below.refl _ _) _), HRow.out.drew d⟩
  case round =>
    obtain ⟨k2, hk2, rfl, hbel, hrow⟩ := hrel
    have HR2 : Hid (Row wr g ((n + 1) * 5)) := hrow
    clear hrow
    by_cases hlt2 : k2 < n + 1
    · obtain ⟨⟨v0, q0⟩, f0⟩ := HR2.out.cell (o := k2 * 5) (by omega)
      obtain ⟨⟨v1, q1⟩, f1⟩ := HR2.out.cell (o := k2 * 5 + 1) (by omega)
      obtain ⟨⟨v2, q2⟩, f2⟩ := HR2.out.cell (o := k2 * 5 + 2) (by omega)
      obtain ⟨⟨v3, q3⟩, f3⟩ := HR2.out.cell (o := k2 * 5 + 3) (by omega)
      obtain ⟨⟨v4, q4⟩, f4⟩ := HR2.out.cell (o := k2 * 5 + 4) (by omega)
      go_wp2_with fail
      refine ⟨⟨k2 + 1, by omega, by go_num, ?_, ?_⟩, by simp [intOf]; omega⟩
      · exact ((((hbel.setCell (.inl rfl) _).setCell (.inl rfl) _).setCell (.inl rfl) _).setCell (.inl rfl) _).setCell (.inl rfl) _
      · exact (((((HR2.out.set _).set _).set _).set _).set _)
    · go_wp2_with fail
      go_ret
      exact ⟨rfl, hbel⟩

end Go.Proofs.YthciddpljcbhiabGreatDoor

/- Walks: which of n things; an error's number (garnerlaw). -/
namespace Go.Proofs.YthciddpljcbhiabGreatDoor
open Go Go.RowKit Go.Lib

theorem num_law (e : Int) (w : World) :
    Calls Tryz.prog 13 #[.int .i64 e] w fun r w' => r = .returned (.int .i64 e) ∧ w' = w := by
  go_enter Tryz.func13, Tryz.ntmps13
  go_wp2_with fail
  go_ret
  exact ⟨rfl, rfl⟩
theorem num_law2 (e : Int) (w : World) : Calls Tryz.prog 13 #[.int .i64 e] w fun r w' => r = .returned (.int .i64 e) ∧ w = w' :=
  (num_law e w).mono fun _ _ h => ⟨h.1, h.2.symm⟩
theorem pick_law (c n : Int) (w : World) (hc0 : -9223372036854775808 ≤ c) (hc1 : c ≤ 9223372036854775807) (hn : 0 < n) (hn1 : n ≤ 9223372036854775807) :
    Calls Tryz.prog 17 #[.int .i64 c, .int .i64 n] w fun e w' => e = .returned (.int .i64 (pk c n)) ∧ w' = w := by
  have e : ∀ x y : Int, x = y → Ending.returned (.int .i64 x) = Ending.returned (.int .i64 y) := fun x y h => by rw [h]
  have HE : Hid (∀ x y : Int, x = y → Ending.returned (.int .i64 x) = Ending.returned (.int .i64 y)) := e
  clear e
  by_cases h : c < 0
  · have HP : Hid (pk c n = (-(c + 1)) % n) := by show _ = _; simp [pk, h]
    go_enter Tryz.func17, Tryz.ntmps17
    go_wp2
    go_ret
    exact ⟨HE.out _ _ (by rw [HP.out, ← Int.neg_tmod, Int.tmod_eq_emod_of_nonneg (by omega)]), rfl⟩
  · have HP : Hid (pk c n = c % n) := by show _ = _; simp [pk, h]
    go_enter Tryz.func17, Tryz.ntmps17
    go_wp2
    go_ret
    exact ⟨HE.out _ _ (by rw [HP.out]), rfl⟩

theorem pick_law2 (c n : Int) (w : World) (hc0 : -9223372036854775808 ≤ c) (hc1 : c ≤ 9223372036854775807) (hn : 0 < n) (hn1 : n ≤ 9223372036854775807) :
    Calls Tryz.prog 17 #[.int .i64 c, .int .i64 n] w fun e w' => e = .returned (.int .i64 (pk c n)) ∧ w = w' := (pick_law c n w hc0 hc1 hn hn1).mono fun _ _ h => ⟨h.1, h.2.symm⟩

end Go.Proofs.YthciddpljcbhiabGreatDoor

/- Walks: a Write of a book (wrote). -/
namespace Go.Proofs.YthciddpljcbhiabGreatDoor
open Go Go.RowKit Go.Lib

theorem wr_ref_yes {R : Nat} {F : Nat → Prop} {c : Cf} {cs : List Chg} (a : Option Addr) (n cap : Nat) (ls : List Sm) (w : World) (h : RfAt w R F c cs) (hs : IsSms w a n ls) (hwf : ∀ x ∈ ls, x.wf) (he : wrE ((St.new c).doAll cs) ls = 0) :
    Calls Tryz.prog 42 #[.pointer (some ⟨R, 0, none⟩), .slice a n cap] w fun e w' => e = .returned (.int .i64 0) ∧ RfAt w' R (gF F w w') c (cs ++ [.w ls]) ∧ Fr F w w' := by
  obtain ⟨ps, L, lcap, cv, rfl, h⟩ := h
  refine (write_ref_yes R F c ps L lcap cv a n cap ls w h hs hwf he).mono ?_
  rintro e w' ⟨rfl, ⟨cv', bv, h1⟩, h2⟩
  exact ⟨rfl, ⟨_, L, lcap, cv', by simp, h1⟩, h2⟩
theorem wr_ref_no {R : Nat} {F : Nat → Prop} {c : Cf} {cs : List Chg} (a : Option Addr) (n cap : Nat) (ls : List Sm) (w : World) (h : RfAt w R F c cs) (hs : IsSms w a n ls) (he : wrE ((St.new c).doAll cs) ls ≠ 0) :
    Calls Tryz.prog 42 #[.pointer (some ⟨R, 0, none⟩), .slice a n cap] w fun e w' => e = .returned (.int .i64 (wrE ((St.new c).doAll cs) ls)) ∧ Below w.heap.size w w' := by
  obtain ⟨ps, L, lcap, cv, rfl, h⟩ := h
  exact write_ref_no R F c ps L lcap cv a n cap ls w h hs he
theorem tk_ref_yes {R : Nat} {F : Nat → Prop} {c : Cf} {cs : List Chg} (n : Int) (w : World) (h : RfAt w R F c cs) (he : tkE ((St.new c).doAll cs) n = 0) :
    Calls Tryz.prog 19 #[.pointer (some ⟨R, 0, none⟩), .int .i64 n] w fun e w' => e = .returned (.int .i64 0) ∧ RfAt w' R (gF F w w') c (cs ++ [.t n]) ∧ Fr F w w' := by
  obtain ⟨ps, L, lcap, cv, rfl, h⟩ := h
  refine (tick_ref_yes R F c ps L lcap cv n w h he).mono ?_
  rintro e w' ⟨rfl, ⟨cv', h1⟩, h2⟩
  exact ⟨rfl, ⟨_, L, lcap, cv', by simp, h1⟩, h2⟩
theorem tk_ref_no {R : Nat} {F : Nat → Prop} {c : Cf} {cs : List Chg} (n : Int) (w : World) (h : RfAt w R F c cs) (h0 : -9223372036854775808 ≤ n) (h1 : n ≤ 9223372036854775807) (he : tkE ((St.new c).doAll cs) n ≠ 0) :
    Calls Tryz.prog 19 #[.pointer (some ⟨R, 0, none⟩), .int .i64 n] w fun e w' => e = .returned (.int .i64 8) ∧ w' = w := by
  obtain ⟨ps, L, lcap, cv, rfl, h⟩ := h
  exact tick_ref_no R F c ps L lcap cv n w h h0 h1 he
theorem nw_ref {R : Nat} {F : Nat → Prop} {c : Cf} {cs : List Chg} (w : World) (h : RfAt w R F c cs) : Calls Tryz.prog 40 #[.pointer (some ⟨R, 0, none⟩)] w fun e w' => e = .returned (.int .i64 ((St.new c).doAll cs).now) ∧ w' = w := by
  obtain ⟨ps, L, lcap, cv, rfl, h⟩ := h
  rw [rf_now]
  exact now_ref R F c ps L lcap cv w h

/-- A book whose two stores took the same change. -/
theorem ok_set {bs : List Bk} (h : AllOk bs) {i : Nat} {b : Bk} (hb : b.ok) : AllOk (bs.set i b) := by
  intro j hj
  rw [List.length_set] at hj
  rw [bkG_set _ _ _ _ hj]
  split
  · exact hb
  · exact h j hj
theorem set_set (bs : List Bk) (i : Nat) (b b' : Bk) : (bs.set i b).set i b' = bs.set i b' := by simp
theorem ok_step {bs : List Bk} (h : AllOk bs) {i : Nat} (hi : i < bs.length) (c : Chg) {s' : St} {lg' : ByteArray} (hs : s' = (bkG bs i).s.do c) (hl : lg' = (bkG bs i).lg ++ c.bytes) (hc : c.ok (bkG bs i).s) :
    AllOk ((bs.set i { bkG bs i with s := s', lg := lg' }).set i { bkG (bs.set i { bkG bs i with s := s', lg := lg' }) i with cs := (bkG bs i).cs ++ [c] }) := by
  rw [set_set]
  refine ok_set h ?_
  rw [bkG_set _ _ _ _ hi, if_pos rfl]
  obtain ⟨e1, e2, e3⟩ := h i hi
  refine ⟨?_, ?_, ?_⟩
  · show s' = (St.new (bkG bs i).c).doAll ((bkG bs i).cs ++ [c])
    rw [doAll_append, hs, e1]
    rfl
  · show lg' = logC ((bkG bs i).cs ++ [c])
    rw [logC_snoc, hl, e2]
  · show Acc (St.new (bkG bs i).c) ((bkG bs i).cs ++ [c])
    rw [acc_append]
    exact ⟨e3, by rw [← e1]; exact hc, trivial⟩

/-- What a step leaves: all in order, and nothing below the base touched. -/
def Went (w w' : World) (base W D : Nat) (N : Nat) (len : Nat) : Prop := (∃ own' bv' bs', WdAt w' own' base W D bv' bs' N ∧ AllOk bs' ∧ bs'.length ≤ len) ∧ Below base w w'

set_option maxHeartbeats 2000000 in
set_option maxRecDepth 100000 in
theorem wrote_any (own : Nat → Nat) (base W D : Nat) (bv : Value) (bs : List Bk) (N : Nat) (i : Nat) (a : Option Addr) (n cap : Nat) (ls : List Sm) (w : World) (h : WdAt w own base W D bv bs N) (hok : AllOk bs) (hi : i < bs.length) (hs : IsSms w a n ls) (hwf : SmWf ls) (hn : n ≤ 9000000000000) (hlow : ∀ b off, 0 < n → a = some ⟨b, off, none⟩ → b < base) :
    Calls Tryz.prog 20 #[.agg #[.pointer (some ⟨(bkG bs i).X, 0, none⟩), .pointer (some ⟨(bkG bs i).R, 0, none⟩)], .slice a n cap] w fun e w' => e = .returned (.bool true) ∧ Went w w' base W D N bs.length := by
  have hbx : Below w.heap.size w (w.alloc (.cells #[.pointer (some ⟨(bkG bs i).X, 0, none⟩), .pointer (some ⟨(bkG bs i).R, 0, none⟩)] 62)) := (Below.refl _ _).alloc (Nat.le_refl _) _
  have hbk0 : (w.alloc (.cells #[.pointer (some ⟨(bkG bs i).X, 0, none⟩), .pointer (some ⟨(bkG bs i).R, 0, none⟩)] 62)).heap[w.heap.size]? = some (.cells #[.pointer (some ⟨(bkG bs i).X, 0, none⟩), .pointer (some ⟨(bkG bs i).R, 0, none⟩)] 62 (0, 0)) := heap_alloc_new _ _
  have hsz0 : (w.alloc (.cells #[.pointer (some ⟨(bkG bs i).X, 0, none⟩), .pointer (some ⟨(bkG bs i).R, 0, none⟩)] 62)).heap.size = w.heap.size + 1 := World.size_alloc _ _
  have H0 : Hid (WdAt (w.alloc (.cells #[.pointer (some ⟨(bkG bs i).X, 0, none⟩), .pointer (some ⟨(bkG bs i).R, 0, none⟩)] 62)) own base W D bv bs N) := h.below hbx
  have HS0 : Hid (IsSms (w.alloc (.cells #[.pointer (some ⟨(bkG bs i).X, 0, none⟩), .pointer (some ⟨(bkG bs i).R, 0, none⟩)] 62)) a n ls) := hs.below hbx
  have HW : Hid (WdAt w own base W D bv bs N) := h
  have HOK : Hid (AllOk bs) := hok
  have HWF : Hid (SmWf ls) := hwf
  have HLO : Hid (∀ b off, 0 < n → a = some ⟨b, off, none⟩ → b < base) := hlow
  have HN : Hid (ls.length = n) := hs.1
  have HBX : Hid (Below base w (w.alloc (.cells #[.pointer (some ⟨(bkG bs i).X, 0, none⟩), .pointer (some ⟨(bkG bs i).R, 0, none⟩)] 62))) := hbx.mono h.bas
  have HBK0 : Hid ((w.alloc (.cells #[.pointer (some ⟨(bkG bs i).X, 0, none⟩), .pointer (some ⟨(bkG bs i).R, 0, none⟩)] 62)).heap[w.heap.size]? = some (.cells #[.pointer (some ⟨(bkG bs i).X, 0, none⟩), .pointer (some ⟨(bkG bs i).R, 0, none⟩)] 62 (0, 0))) := hbk0
  have HMS : Hid (∀ V, Below base w V → IsSms V a n ls) := fun V hV => by
    refine ⟨hs.1, fun h0 => ?_⟩
    obtain ⟨b, off, e, hat⟩ := hs.2 h0
    exact ⟨b, off, e, hat.below hV (hlow b off h0 e)⟩
  obtain ⟨e1, e2⟩ := hok i hi
  clear h hs hok hwf hlow hbx hbk0
  go_enter Tryz.func20, Tryz.ntmps20
  go_wp2_with fail
  generalize hX : (bkG bs i).X = X at *
  generalize hR : (bkG bs i).R = R at *
  generalize hV : w.alloc (.cells #[.pointer (some ⟨X, 0, none⟩), .pointer (some ⟨R, 0, none⟩)] 62) = w0 at *
  clear hV
  refine (handed_any a n cap ls w0 HS0.out (by omega)).mono ?_
  rintro e w1 ⟨rfl, hw1⟩
  have hb1 : Below w0.heap.size w0 w1 := by rw [hw1]; exact (Below.refl _ _).alloc (Nat.le_refl _) _
  have hh1 : w1.heap[w0.heap.size]? = some (.cells (flatS (ls ++ [blotSm])).toArray 76 (0, 0)) := by rw [hw1]; exact heap_alloc_new _ _
  have hz1 : w1.heap.size = w0.heap.size + 1 := by rw [hw1]; exact World.size_alloc _ _
  have HROW1 : Hid (Row w1 w0.heap.size ((n + 1) * 5)) := ⟨_, by simp [flatS_len, HN.out], 76, hh1⟩
  have HAT1 : Hid (SmAt w1 w0.heap.size 0 (ls ++ [blotSm])) := smAt_of (at_block hh1)
  have H1 : Hid (WdAt w1 own base W D bv bs N) := H0.out.below hb1
  have HBK1 : Hid (w1.heap[w.heap.size]? = some (.cells #[.pointer (some ⟨X, 0, none⟩), .pointer (some ⟨R, 0, none⟩)] 62 (0, 0))) := by show _ = _; rw [hb1.block _ (by omega)]; exact HBK0.out
  have HB1 : Hid (Below base w w1) := HBX.out.trans (hb1.mono H0.out.bas)
  have p0 : w1.cell? ⟨w.heap.size, 0, none⟩ = some (.pointer (some ⟨X, 0, none⟩)) := cell_blk HBK1.out rfl
  have hbase := H0.out.bas
  have HWB : Hid (base ≤ w.heap.size) := HW.out.bas
  have HOUT : Hid (∀ k, w.heap.size ≤ k → own k = 0) := HW.out.out
  generalize hg : w0.heap.size = g at *
  have hg1 : w.heap.size + 1 ≤ g := by omega
  have hg2 : g ≤ w.heap.size + 1 := by omega
  have hz1a : g + 1 ≤ w1.heap.size := by omega
  have hz1b : w1.heap.size ≤ g + 1 := by omega
  clear hw1 hh1 hb1 HBK0 hg hsz0 hz1
  by_cases hE : wrE (bkG bs i).s ls = 0
  · have hE' : wrE ((St.new (bkG bs i).c).doAll (bkG bs i).cs) ls = 0 := by rw [← e1]; exact hE
    have HE : Hid (wrE (bkG bs i).s ls = 0) := hE
    have HE' : Hid (wrE ((St.new (bkG bs i).c).doAll (bkG bs i).cs) ls = 0) := hE'
    clear hE hE' e1 e2
    have hst1 : StoreAt w1 X (fun k => own k = 4 + 2 * i) (bkG bs i).s (bkG bs i).lg := by have h9 := H1.out.st i hi; rw [hX] at h9; exact h9
    have hgF : ¬ (fun k => own k = 4 + 2 * i) g := fun e => by have e' : own g = 4 + 2 * i := e; have h9 := HOUT.out g (by omega); omega
    have HWY := write_yes X (fun k => own k = 4 + 2 * i) (bkG bs i).s g 0 n (n + 1) ls (bkG bs i).lg w1 hst1 HN.out (smAt_left HAT1.out) hgF (fun x hx => mem_wf HWF.out hx) HWF.out HE.out
    clear hst1 hgF
    go_wp2_with fail
    refine HWY.mono ?_
    clear HWY
    rintro e w2 ⟨rfl, hst, hf2⟩
    have hz2 := hf2.size
    have H2 : Hid (WdAt w2 (upd own w1 w2 (4 + 2 * i)) base W D bv (bs.set i { bkG bs i with s := (bkG bs i).s.wr ls, lg := (bkG bs i).lg ++ strOfNums (recB ls) }) N) := H1.out.stepX hi hf2 (by rw [hX]; exact hst)
    have HB2 : Hid (Below base w w2) := HB1.out.trans (H1.out.bel hf2 (fun k e => .inl (by omega)))
    have HROW2 : Hid (Row w2 g ((n + 1) * 5)) := by
      obtain ⟨C, hC, t, hh⟩ := HROW1.out
      exact ⟨C, hC, t, by rw [hf2.block g (by omega) (fun e => by have h9 := HOUT.out g (by omega); omega)]; exact hh⟩
    have HAT2 : Hid (SmAt w2 g 0 (ls ++ [blotSm])) := smAt_of (At.fr (at_of_sm HAT1.out) hf2 (fun e => by have h9 := HOUT.out g (by omega); omega))
    have HBK2 : Hid (w2.heap[w.heap.size]? = some (.cells #[.pointer (some ⟨X, 0, none⟩), .pointer (some ⟨R, 0, none⟩)] 62 (0, 0))) := by show _ = _; rw [hf2.block _ (by omega) (fun e => by have h9 := HOUT.out w.heap.size (by omega); omega)]; exact HBK1.out
    have hg0 : upd own w1 w2 (4 + 2 * i) g = 0 := by unfold upd; rw [if_neg (by omega)]; exact HOUT.out g (by omega)
    have HG0 : Hid (upd own w1 w2 (4 + 2 * i) g = 0) := hg0
    clear hst hf2 p0 HROW1 HAT1 HBK1 hg0
    go_wp2_with fail
    refine (still_fr a g n cap ls w2 (by omega) HAT2.out HROW2.out (HMS.out w2 HB2.out)).mono ?_
    rintro e w3 ⟨rfl, hf3⟩
    have H3 : Hid (WdAt w3 (upd own w1 w2 (4 + 2 * i)) base W D bv (bs.set i { bkG bs i with s := (bkG bs i).s.wr ls, lg := (bkG bs i).lg ++ strOfNums (recB ls) }) N) := H2.out.keep hf3 (fun k hk e => hk (by rw [e]; exact HG0.out))
    have HB3 : Hid (Below base w w3) := HB2.out.trans (hf3.below H2.out.bas (fun k e => by omega))
    have hbk3 : w3.heap[w.heap.size]? = some (.cells #[.pointer (some ⟨X, 0, none⟩), .pointer (some ⟨R, 0, none⟩)] 62 (0, 0)) := by rw [hf3.block _ (by omega) (by omega)]; exact HBK2.out
    have p1 : w3.cell? ⟨w.heap.size, 1, none⟩ = some (.pointer (some ⟨R, 0, none⟩)) := cell_blk hbk3 rfl
    have hrf := H3.out.rf i (by simpa using hi)
    rw [bkG_set _ _ _ _ hi, if_pos rfl] at hrf
    have HRF : Hid (RfAt w3 R (fun k => upd own w1 w2 (4 + 2 * i) k = 5 + 2 * i) (bkG bs i).c (bkG bs i).cs) := by rw [← hR]; exact hrf
    clear hf3 hbk3 hrf
    go_wp2_with fail
    refine (wr_ref_yes a n cap ls w3 HRF.out (HMS.out w3 HB3.out) (fun x hx => mem_wf HWF.out hx) HE'.out).mono ?_
    rintro e w4 ⟨rfl, hr4, hf4⟩
    have H4 : Hid (WdAt w4 (upd (upd own w1 w2 (4 + 2 * i)) w3 w4 (5 + 2 * i)) base W D bv ((bs.set i { bkG bs i with s := (bkG bs i).s.wr ls, lg := (bkG bs i).lg ++ strOfNums (recB ls) }).set i { bkG (bs.set i { bkG bs i with s := (bkG bs i).s.wr ls, lg := (bkG bs i).lg ++ strOfNums (recB ls) }) i with cs := (bkG bs i).cs ++ [.w ls] }) N) :=
      H3.out.stepR (by simpa using hi) hf4 (by rw [bkG_set _ _ _ _ hi, if_pos rfl]; show RfAt w4 (bkG bs i).R _ _ _; rw [hR]; exact hr4)
    have HB4 : Hid (Below base w w4) := HB3.out.trans (H3.out.bel hf4 (fun k e => .inl (by omega)))
    clear hr4 hf4 p1
    go_wp2_with (go_at_call 13; refine (num_law2 _ _).mono ?_; rintro e w' ⟨rfl, rfl⟩)
    go_ret
    exact ⟨rfl, ⟨_, _, _, H4.out, ok_step HOK.out hi (.w ls) rfl rfl ⟨HE.out, fun x hx => mem_wf HWF.out hx⟩, by simp⟩, HB4.out⟩
  · have hE' : wrE ((St.new (bkG bs i).c).doAll (bkG bs i).cs) ls ≠ 0 := by rw [← e1]; exact hE
    have HE : Hid (wrE (bkG bs i).s ls ≠ 0) := hE
    have HE' : Hid (wrE ((St.new (bkG bs i).c).doAll (bkG bs i).cs) ls ≠ 0) := hE'
    have HEE : Hid (wrE ((St.new (bkG bs i).c).doAll (bkG bs i).cs) ls = wrE (bkG bs i).s ls) := by show _ = _; rw [← e1]
    clear hE hE' e1 e2
    go_wp2_with fail
    refine (write_no X (fun k => own k = 4 + 2 * i) (bkG bs i).s (some ⟨g, 0, none⟩) n (n + 1) ls (lg := (bkG bs i).lg) w1 (by rw [← hX]; exact H1.out.st i hi) ⟨HN.out, fun _ => ⟨g, 0, rfl, smAt_left HAT1.out⟩⟩ (by unfold maxLen; omega) HE.out).mono ?_
    rintro e w2 ⟨rfl, hb2⟩
    have hz2 := hb2.size
    have H2 : Hid (WdAt w2 own base W D bv bs N) := H1.out.below hb2
    have HB2 : Hid (Below base w w2) := HB1.out.trans (hb2.mono H1.out.bas)
    have HROW2 : Hid (Row w2 g ((n + 1) * 5)) := HROW1.out.below hb2 (by omega)
    have HAT2 : Hid (SmAt w2 g 0 (ls ++ [blotSm])) := HAT1.out.below hb2 (by omega)
    have HBK2 : Hid (w2.heap[w.heap.size]? = some (.cells #[.pointer (some ⟨X, 0, none⟩), .pointer (some ⟨R, 0, none⟩)] 62 (0, 0))) := by show _ = _; rw [hb2.block _ (by omega)]; exact HBK1.out
    clear hb2 p0 HROW1 HAT1 HBK1
    go_wp2_with fail
    refine (still_fr a g n cap ls w2 (by omega) HAT2.out HROW2.out (HMS.out w2 HB2.out)).mono ?_
    rintro e w3 ⟨rfl, hf3⟩
    have H3 : Hid (WdAt w3 own base W D bv bs N) := H2.out.keep hf3 (fun k hk e => hk (by rw [e]; exact HOUT.out g (by omega)))
    have HB3 : Hid (Below base w w3) := HB2.out.trans (hf3.below H2.out.bas (fun k e => by omega))
    have hbk3 : w3.heap[w.heap.size]? = some (.cells #[.pointer (some ⟨X, 0, none⟩), .pointer (some ⟨R, 0, none⟩)] 62 (0, 0)) := by rw [hf3.block _ (by omega) (by omega)]; exact HBK2.out
    have p1 : w3.cell? ⟨w.heap.size, 1, none⟩ = some (.pointer (some ⟨R, 0, none⟩)) := cell_blk hbk3 rfl
    have HRF : Hid (RfAt w3 R (fun k => own k = 5 + 2 * i) (bkG bs i).c (bkG bs i).cs) := by rw [← hR]; exact H3.out.rf i hi
    clear hf3 hbk3
    go_wp2_with fail
    refine (wr_ref_no a n cap ls w3 HRF.out (HMS.out w3 HB3.out) HE'.out).mono ?_
    rintro e w4 ⟨rfl, hb4⟩
    rw [HEE.out]
    have H4 : Hid (WdAt w4 own base W D bv bs N) := H3.out.below hb4
    have HB4 : Hid (Below base w w4) := HB3.out.trans (hb4.mono H3.out.bas)
    clear hb4 p1
    generalize wrE (bkG bs i).s ls = er at *
    go_wp2_with (go_at_call 13; refine (num_law2 _ _).mono ?_; rintro e w' ⟨rfl, rfl⟩)
    go_ret
    exact ⟨rfl, ⟨_, _, _, H4.out, HOK.out, Nat.le_refl _⟩, HB4.out⟩

end Go.Proofs.YthciddpljcbhiabGreatDoor

/- A slice of levels and labels that came in, opened. -/
namespace Go.Proofs.YthciddpljcbhiabGreatDoor
open Go Go.RowKit Go.Deep Go.ChangeShapes Go.WideShapes Go.Joins

theorem Tryz.cells37 : Tryz.prog.cellsOf 37 = 4 := by kernel_rfl
theorem Tryz.cells38 : Tryz.prog.cellsOf 38 = 1 := by kernel_rfl
theorem Tryz.cells3 : Tryz.prog.cellsOf 3 = 1 := by kernel_rfl
theorem Tryz.cells9 : Tryz.prog.cellsOf 9 = 1 := by kernel_rfl
theorem Tryz.cells5 : Tryz.prog.cellsOf 5 = 1 := by kernel_rfl
theorem Tryz.cells42 : Tryz.prog.cellsOf 42 = 3 := by kernel_rfl
theorem Tryz.cells40 : Tryz.prog.cellsOf 40 = 3 := by kernel_rfl

theorem add_none (b off j : Nat) : (⟨b, off, none⟩ : Addr).add j = ⟨b, off + j, none⟩ := by unfold Addr.add; split <;> simp_all

section
variable {H : Type} {enc : TypeId × Value → H} {w : World} {base : Nat} {spare : Nat → Bool} {held : Bool}

theorem i64_range {n : Int} (h : (Lit.int .i64 n).wf = true) : -9223372036854775808 ≤ n ∧ n ≤ 9223372036854775807 := by
  simpa [Lit.wf, IntKind.min, IntKind.max, IntKind.signed, IntKind.bits] using h

theorem list4 {α : Type} {cs : List α} (h : cs.length = 4) : ∃ c0 c1 c2 c3, cs = [c0, c1, c2, c3] := by
  match cs, h with
  | [c0, c1, c2, c3], _ => exact ⟨c0, c1, c2, c3, rfl⟩

theorem open_level {fuel : Nat} {cs : List Value} {x : DataW H × List MemPlace} (h : DataW.trod enc Tryz.prog w base spare held fuel 37 cs = some x) :
    ∃ l : Lv, cs = l.cells ∧ -9223372036854775808 ≤ l.window ∧ l.window ≤ 9223372036854775807 ∧ l.rule.size ≤ maxLen := by
  obtain ⟨y0, y1, y2, y3, n, _, hlen, h0, h1, h2, h3⟩ := trod_struct4 Tryz.underlying37 h
  rw [Tryz.cells37] at hlen
  obtain ⟨c0, c1, c2, c3, rfl⟩ := list4 hlen
  simp only [Tryz.cells3, Tryz.cells9] at h0 h1 h2 h3
  obtain ⟨a, e0, _, _⟩ := DataW.trod_int Tryz.underlying3 h0
  obtain ⟨b, e1, _, wb⟩ := DataW.trod_int Tryz.underlying3 h1
  obtain ⟨s, e2, _, hs⟩ := DataW.trod_string Tryz.underlying9 h2
  obtain ⟨c, e3, _, _⟩ := DataW.trod_int Tryz.underlying3 h3
  simp at e0 e1 e2 e3
  subst e0 e1 e2 e3
  exact ⟨⟨a, b, s, c⟩, rfl, (i64_range wb).1, (i64_range wb).2, hs⟩

theorem open_levels {fuel : Nat} {v : Value} {y : DataW H × List MemPlace} (hf : DataW.trod enc Tryz.prog w base spare held fuel 38 [v] = some y) :
    ∃ a n cap ls, v = .slice a n cap ∧ IsLvs w a n ls ∧ LvWf ls ∧ (n = 0 ∨ ∃ D sp, y.1 = .slice D sp ∧ D.length = n) := by
  have zero : LvWf [] := fun i => by simp [lvG, Lv.zero, maxLen]
  rcases open_slice Tryz.underlying38 hf with ⟨hcs, _⟩ | ⟨a, len, cap, m, k, D, Pl, hcs, _, hl, hm, hmm, hx, he⟩
  · simp at hcs
    exact ⟨none, 0, 0, [], hcs, ⟨rfl, fun h => absurd h (by omega)⟩, zero, .inl rfl⟩
  · simp at hcs
    have hlm : len ≤ m := by rw [hmm]; split <;> omega
    rw [Tryz.cells37] at he
    have hall : ∀ i, i < len → ∃ l : Lv, (∀ j, j < 4 → w.cell? ((a.add (i * 4)).add j) = l.cells[j]?) ∧ -9223372036854775808 ≤ l.window ∧ l.window ≤ 9223372036854775807 ∧ l.rule.size ≤ maxLen := fun i hi => by
      obtain ⟨cs', h1, h2⟩ := he i (by omega)
      obtain ⟨l, rfl, hb⟩ := open_level h2
      exact ⟨l, (World.cells?_some h1).2.2, hb⟩
    haveI : Inhabited Lv := ⟨Lv.zero⟩
    obtain ⟨f, hff⟩ := choose_lt hall
    refine ⟨some a, len, cap, (List.range len).map f, hcs, ⟨by simp, fun hn => ?_⟩, fun i => ?_, .inr ⟨_, _, by rw [hx], by simp⟩⟩
    · obtain ⟨b, off, spot⟩ := a
      have h0 := (hff 0 hn).1 0 (by omega)
      have hspot : spot = none := by
        have := World.cell?_spot (h0.trans rfl)
        simpa [Addr.add] using this
      subst hspot
      refine ⟨b, off, rfl, fun i hi => ?_⟩
      simp at hi
      have hc := (hff i hi).1
      have e : lvG ((List.range len).map f) i = f i := by simp [lvG, List.getD, hi]
      rw [e]
      simp only [add_none] at hc
      exact ⟨hc 0 (by omega), hc 1 (by omega), hc 2 (by omega), hc 3 (by omega)⟩
    · by_cases hi : i < len
      · have e : lvG ((List.range len).map f) i = f i := by simp [lvG, List.getD, hi]
        rw [e]
        exact (hff i hi).2
      · have e : lvG ((List.range len).map f) i = Lv.zero := by simp [lvG, List.getD, hi]
        rw [e]
        simp [Lv.zero, maxLen]

set_option maxRecDepth 100000 in
theorem okWide_lab {r : Reach} {b0 : Nat} {v : Value} (h : Value.okWide Tryz.prog w r b0 42 v) : ∃ c0 c1 c2, v = .agg #[c0, c1, c2] := by
  simp only [Value.okWide, Tryz.underlying42] at h
  obtain ⟨cs, h1, h2, _⟩ := h
  rw [Tryz.cells42] at h2
  obtain ⟨c0, c1, c2, rfl⟩ := array3 h2
  exact ⟨c0, c1, c2, h1⟩

theorem open_labs {fuel : Nat} {c0 c1 c2 : Value} {y : DataW H × List MemPlace} (hf : DataW.trod enc Tryz.prog w base spare held fuel 42 [c0, c1, c2] = some y) :
    ∃ x z t, c0 = .int .u8 x ∧ c1 = .int .u8 z ∧ c2 = .int .u8 t ∧ (0 ≤ x ∧ x ≤ 255) ∧ (0 ≤ z ∧ z ≤ 255) ∧ (0 ≤ t ∧ t ≤ 255) := by
  obtain ⟨xs, m, _, _, _, hlen, he⟩ := DataW.trod_array Tryz.underlying42 hf
  rw [Tryz.cells5] at he
  have get : ∀ i, i < 3 → ∃ q, xs[i]? = some q := fun i hi => ⟨xs[i]'(by omega), by simp⟩
  have g0 := he 0 (by omega)
  have g1 := he 1 (by omega)
  have g2 := he 2 (by omega)
  obtain ⟨q0, e0⟩ := get 0 (by omega)
  obtain ⟨q1, e1⟩ := get 1 (by omega)
  obtain ⟨q2, e2⟩ := get 2 (by omega)
  rw [e0] at g0
  rw [e1] at g1
  rw [e2] at g2
  obtain ⟨x, a0, _, w0⟩ := DataW.trod_int Tryz.underlying5 g0
  obtain ⟨z, a1, _, w1⟩ := DataW.trod_int Tryz.underlying5 g1
  obtain ⟨t, a2, _, w2⟩ := DataW.trod_int Tryz.underlying5 g2
  simp at a0 a1 a2
  have u8 : ∀ {n : Int}, (Lit.int .u8 n).wf = true → 0 ≤ n ∧ n ≤ 255 := fun {n} h => by simpa [Lit.wf, IntKind.min, IntKind.max, IntKind.signed, IntKind.bits] using h
  exact ⟨x, z, t, a0, a1, a2, u8 w0, u8 w1, u8 w2⟩
end

end Go.Proofs.YthciddpljcbhiabGreatDoor

/- A slice of samples that came in, opened. -/
namespace Go.Proofs.YthciddpljcbhiabGreatDoor
open Go Go.RowKit Go.Deep Go.ChangeShapes Go.WideShapes Go.Joins

theorem Tryz.cells76 : Tryz.prog.cellsOf 76 = 5 := by kernel_rfl
theorem Tryz.cells21 : Tryz.prog.cellsOf 21 = 1 := by kernel_rfl

theorem list5 {α : Type} {cs : List α} (h : cs.length = 5) : ∃ c0 c1 c2 c3 c4, cs = [c0, c1, c2, c3, c4] := by
  match cs, h with
  | [c0, c1, c2, c3, c4], _ => exact ⟨c0, c1, c2, c3, c4, rfl⟩

section
variable {H : Type} {enc : TypeId × Value → H} {w : World} {base : Nat} {spare : Nat → Bool} {held : Bool}

theorem i32_range {n : Int} (h : (Lit.int .i32 n).wf = true) : -2147483648 ≤ n ∧ n ≤ 2147483647 := by
  simpa [Lit.wf, IntKind.min, IntKind.max, IntKind.signed, IntKind.bits] using h

theorem open_sample {fuel : Nat} {cs : List Value} {x : DataW H × List MemPlace} (h : DataW.trod enc Tryz.prog w base spare held fuel 76 cs = some x) :
    ∃ s : Sm, cs = s.cells ∧ s.wf := by
  obtain ⟨y0, y1, y2, n, _, hlen, h0, h1, h2⟩ := trod_struct3 Tryz.underlying76 h
  rw [Tryz.cells76] at hlen
  obtain ⟨c0, c1, c2, c3, c4, rfl⟩ := list5 hlen
  simp only [Tryz.cells3, Tryz.cells42, Tryz.cells21] at h0 h1 h2
  obtain ⟨a, e0, _, wa⟩ := DataW.trod_int Tryz.underlying3 h0
  obtain ⟨x, z, t, rfl, rfl, rfl, b0, b1, b2⟩ := open_labs (by simpa using h1)
  obtain ⟨v, e4, _, wv⟩ := DataW.trod_int Tryz.underlying21 h2
  simp at e0 e4
  subst e0 e4
  exact ⟨⟨a, x, z, t, v⟩, rfl, i64_range wa, b0, b1, b2, i32_range wv⟩

theorem open_samples {fuel : Nat} {v : Value} {y : DataW H × List MemPlace} (hf : DataW.trod enc Tryz.prog w base spare held fuel 43 [v] = some y) :
    ∃ a n cap ls, v = .slice a n cap ∧ IsSms w a n ls ∧ SmWf ls ∧ (n = 0 ∨ ∃ D sp, y.1 = .slice D sp ∧ D.length = n) := by
  have zwf : Sm.zero.wf := by simp [Sm.wf, Sm.zero]
  have zero : SmWf [] := fun i => by simpa [smG] using zwf
  rcases open_slice Tryz.underlying43 hf with ⟨hcs, _⟩ | ⟨a, len, cap, m, k, D, Pl, hcs, _, hl, hm, hmm, hx, he⟩
  · simp at hcs
    exact ⟨none, 0, 0, [], hcs, ⟨rfl, fun h => absurd h (by omega)⟩, zero, .inl rfl⟩
  · simp at hcs
    have hlm : len ≤ m := by rw [hmm]; split <;> omega
    rw [Tryz.cells76] at he
    have hall : ∀ i, i < len → ∃ l : Sm, (∀ j, j < 5 → w.cell? ((a.add (i * 5)).add j) = l.cells[j]?) ∧ l.wf := fun i hi => by
      obtain ⟨cs', h1, h2⟩ := he i (by omega)
      obtain ⟨l, rfl, hb⟩ := open_sample h2
      exact ⟨l, (World.cells?_some h1).2.2, hb⟩
    haveI : Inhabited Sm := ⟨Sm.zero⟩
    obtain ⟨f, hff⟩ := choose_lt hall
    refine ⟨some a, len, cap, (List.range len).map f, hcs, ⟨by simp, fun hn => ?_⟩, fun i => ?_, .inr ⟨_, _, by rw [hx], by simp⟩⟩
    · obtain ⟨b, off, spot⟩ := a
      have h0 := (hff 0 hn).1 0 (by omega)
      have hspot : spot = none := by
        have := World.cell?_spot (h0.trans rfl)
        simpa [Addr.add] using this
      subst hspot
      refine ⟨b, off, rfl, fun i hi => ?_⟩
      simp at hi
      have hc := (hff i hi).1
      have e : smG ((List.range len).map f) i = f i := by simp [smG, List.getD, hi]
      rw [e]
      simp only [add_none] at hc
      exact ⟨hc 0 (by omega), hc 1 (by omega), hc 2 (by omega), hc 3 (by omega), hc 4 (by omega)⟩
    · by_cases hi : i < len
      · have e : smG ((List.range len).map f) i = f i := by simp [smG, List.getD, hi]
        rw [e]
        exact (hff i hi).2
      · have e : smG ((List.range len).map f) i = Sm.zero := by simp [smG, List.getD, hi]
        rw [e]
        exact zwf
end

end Go.Proofs.YthciddpljcbhiabGreatDoor

/- Walks: Right and Project against the document's answer (ruled, Rules). -/
namespace Go.Proofs.YthciddpljcbhiabGreatDoor
open Go.RowKit

/-- The two boxes of the caller: a configuration and labels. -/
def Boxes (w : World) (N : Nat) (span keep : Int) (a : Option Addr) (n cap : Nat) (x y z : Int) : Prop :=
  N + 1 < w.heap.size ∧ w.cell? ⟨N, 0, none⟩ = some (.int .i64 span) ∧ w.cell? ⟨N, 1, none⟩ = some (.int .i64 keep) ∧ w.cell? ⟨N, 2, none⟩ = some (.slice a n cap) ∧
  w.cell? ⟨N + 1, 0, none⟩ = some (.int .u8 x) ∧ w.cell? ⟨N + 1, 1, none⟩ = some (.int .u8 y) ∧ w.cell? ⟨N + 1, 2, none⟩ = some (.int .u8 z)

theorem Boxes.below {w w' : World} {N B : Nat} {span keep : Int} {a : Option Addr} {n cap : Nat} {x y z : Int} (h : Boxes w N span keep a n cap x y z) (hb : Below B w w') (hB : N + 1 < B) : Boxes w' N span keep a n cap x y z := by
  obtain ⟨h0, h1, h2, h3, h4, h5, h6⟩ := h
  have hz := hb.size
  exact ⟨by omega, (hb.cell (p := ⟨N, 0, none⟩) (show N < B by omega)).trans h1, (hb.cell (p := ⟨N, 1, none⟩) (show N < B by omega)).trans h2, (hb.cell (p := ⟨N, 2, none⟩) (show N < B by omega)).trans h3,
    (hb.cell (p := ⟨N + 1, 0, none⟩) hB).trans h4, (hb.cell (p := ⟨N + 1, 1, none⟩) hB).trans h5, (hb.cell (p := ⟨N + 1, 2, none⟩) hB).trans h6⟩

theorem IsLvs.below {w w' : World} {a : Option Addr} {n : Nat} {ls : List Lv} {B : Nat} (h : IsLvs w a n ls) (hb : Below B w w') (hB : w.heap.size ≤ B) : IsLvs w' a n ls :=
  ⟨h.1, fun hn => let ⟨b, off, e, hat⟩ := h.2 hn; ⟨b, off, e, hat.below hb (Nat.lt_of_lt_of_le (hat.block (by rw [h.1]; exact hn)) hB)⟩⟩
theorem IsLvs.from {w0 w' : World} {a : Option Addr} {n : Nat} {ls : List Lv} (h : IsLvs w0 a n ls) (hb : Below w0.heap.size w0 w') : IsLvs w' a n ls := h.below hb (Nat.le_refl _)

theorem errR_le (b : Bool) : 0 ≤ errR b ∧ errR b ≤ 13 := by cases b <;> simp [errR]
theorem prE_le (s : ByteArray) (a b c : Int) : 0 ≤ prE s a b c ∧ prE s a b c ≤ 13 := by unfold prE; split <;> (try split) <;> omega

theorem three_new (W : World) (o1 o2 : Obj) (C : List Value) (t : TypeId) :
    (((W.alloc o1).alloc o2).alloc (.cells C.toArray t)).heap[W.heap.size + 1 + 1]? = some (.cells C.toArray t (0, 0)) ∧ (((W.alloc o1).alloc o2).alloc (.cells C.toArray t)).heap.size = W.heap.size + 1 + 1 + 1 ∧
    Below W.heap.size W (((W.alloc o1).alloc o2).alloc (.cells C.toArray t)) := by
  refine ⟨?_, by simp, ?_⟩
  · have := heap_alloc_new ((W.alloc o1).alloc o2) (.cells C.toArray t)
    simpa only [World.size_alloc] using this
  · exact (((Below.refl _ _).alloc (Nat.le_refl _) _).alloc (by simp) _).alloc (by simp; omega) _

theorem handedConfig_use (a : Option Addr) (n cap : Nat) (ls : List Lv) (span keep : Int) (w : World) (h : IsLvs w a n ls) (hr : n ≤ 7000000000000) :
    Calls Tryz.prog 9 #[.agg #[.int .i64 span, .int .i64 keep, .slice a n cap]] w fun e w' => ∃ g,
      e = .returned (.tuple #[.agg #[.int .i64 span, .int .i64 keep, .slice (some ⟨g, 0, none⟩) n (n + 1)], .slice (some ⟨g, 0, none⟩) (n + 1) (n + 1)]) ∧ w.heap.size < g ∧
      w'.heap[g]? = some (.cells (flat (ls ++ [blotLv])).toArray 37 (0, 0)) ∧ w'.heap.size = g + 1 ∧ Below w.heap.size w w' := by
  refine (handedConfig_any a n cap ls span keep w h hr).mono ?_
  rintro e w' ⟨rfl, rfl⟩
  obtain ⟨h1, h2, h3⟩ := three_new w (cfgO span keep (some ⟨w.heap.size + 1 + 1, 0, none⟩) n (n + 1)) (cfgO span keep (some ⟨w.heap.size + 1 + 1, 0, none⟩) n (n + 1)) (flat (ls ++ [blotLv])) 37
  exact ⟨_, rfl, by omega, h1, h2, h3⟩

theorem lvAt_left {w : World} {b off : Nat} {ls : List Lv} {x : Lv} (h : LvAt w b off (ls ++ [x])) : LvAt w b off ls := by
  intro i hi
  have := h i (by simp; omega)
  rwa [lvG_left ls x i hi] at this

set_option maxRecDepth 100000 in
set_option maxHeartbeats 2000000 in
theorem ruled_any (a : Option Addr) (n cap : Nat) (ls : List Lv) (span keep : Int) (s : ByteArray) (x y z : Int) (w : World) (h : IsLvs w a n ls) (hwf : LvWf ls) (hr : n ≤ 7000000000000) (hs : s.size ≤ maxLen) :
    Calls Tryz.prog 14 #[.agg #[.int .i64 span, .int .i64 keep, .slice a n cap], .string s, .agg #[.int .u8 x, .int .u8 y, .int .u8 z]] w fun e w' => e = .returned (.bool true) ∧ Below w.heap.size w w' := by
  have H1 : Hid (IsLvs ((w.alloc (cfgO span keep a n cap)).alloc (c3 x y z)) a n ls) := lvs_alloc (lvs_alloc h _) _
  have HW : Hid (LvWf ls) := hwf
  have H0 : Hid (IsLvs w a n ls) := h
  clear h hwf
  go_enter Tryz.func14, Tryz.ntmps14
  go_wp2_with fail
  refine (handedConfig_use a n cap ls span keep _ H1.out hr).mono ?_
  rintro e w1 ⟨g, rfl, hg, hh1, hsz1, hbel1⟩
  simp only [World.size_alloc] at hg
  have hrow1 : Hid (Row w1 g ((n + 1) * 4)) := ⟨_, by simp [flat_len, H1.out.1], 37, hh1⟩
  have hat1 : Hid (LvAt w1 g 0 (ls ++ [blotLv])) := lvAt_of (at_block hh1)
  have hbx1 : Hid (Boxes w1 w.heap.size span keep a n cap x y z) := by
    refine Boxes.below (w := (w.alloc (cfgO span keep a n cap)).alloc (c3 x y z)) ⟨by simp, ?_, ?_, ?_, ?_, ?_, ?_⟩ hbel1 (by simp) <;> simp [go_sem]
  have hbw1 : Hid (Below w.heap.size w w1) := (((Below.refl _ _).alloc (Nat.le_refl _) _).alloc (by simp) _).trans (hbel1.mono (by simp; omega))
  clear hh1 hbel1
  have HS1 : Hid (w1.heap.size = g + 1) := hsz1
  -- Right(h)
  go_wp2_with fail
  have hal : Below w1.heap.size w1 (w1.alloc (cfgO span keep (some ⟨g, 0, none⟩) n (n + 1))) := (Below.refl _ _).alloc (Nat.le_refl _) _
  refine (garRight_any (some ⟨g, 0, none⟩) n (n + 1) ls span keep _ ⟨H1.out.1, fun _ => ⟨g, 0, rfl, (lvAt_left hat1.out).below hal (by omega)⟩⟩ HW.out).mono ?_
  rintro e w2 ⟨rfl, hb2⟩
  have hb12 : Below w1.heap.size w1 w2 := hal.trans (hb2.mono (by simp))
  have hrow2 : Hid (Row w2 g ((n + 1) * 4)) := hrow1.out.below hb12 (by omega)
  have hat2 : Hid (LvAt w2 g 0 (ls ++ [blotLv])) := hat1.out.below hb12 (by omega)
  have hbx2 : Hid (Boxes w2 w.heap.size span keep a n cap x y z) := hbx1.out.below hb12 (by omega)
  have hbw2 : Hid (Below w.heap.size w w2) := hbw1.out.trans (hb12.mono (by omega))
  have hsz2 : g + 1 < w2.heap.size := by have := hb2.size; simp at this; omega
  clear hal hb2 hb12 hrow1 hat1 hbx1 hbw1 hsz1 HS1
  obtain ⟨k0, k1, k2, k3, k4, k5, k6⟩ := hbx2.out
  -- still?
  go_wp2_with fail
  refine (stillConfig_any a g n cap ls _ H1.out.1 hr hat2.out hrow2.out (H0.out.from hbw2.out)).mono ?_
  rintro e w3 ⟨rfl, hb3⟩
  have hbx3 : Hid (Boxes w3 w.heap.size span keep a n cap x y z) := hbx2.out.below hb3 (by omega)
  have hbw3 : Hid (Below w.heap.size w w3) := hbw2.out.trans (hb3.mono (by omega))
  clear hrow2 hat2 hbx2 hbw2 hb3 k0 k1 k2 k3 k4 k5 k6 hsz2
  obtain ⟨k0, k1, k2, k3, k4, k5, k6⟩ := hbx3.out
  -- the document's Right
  go_wp2_with fail
  refine (refRight_any a n cap ls span keep _ (H0.out.from hbw3.out) HW.out).mono ?_
  rintro e w4 ⟨rfl, hb4⟩
  have hbx4 : Hid (Boxes w4 w.heap.size span keep a n cap x y z) := hbx3.out.below hb4 k0
  have hbw4 : Hid (Below w.heap.size w w4) := hbw3.out.trans (hb4.mono (by omega))
  clear hbx3 hbw3 hb4 k0 k1 k2 k3 k4 k5 k6
  obtain ⟨k0, k1, k2, k3, k4, k5, k6⟩ := hbx4.out
  -- Project
  go_wp2_with fail
  refine (garProject_any s x y z _ hs).mono ?_
  rintro e w5 ⟨rfl, hb5⟩
  have hbx5 : Hid (Boxes w5 w.heap.size span keep a n cap x y z) := hbx4.out.below hb5 k0
  have hbw5 : Hid (Below w.heap.size w w5) := hbw4.out.trans (hb5.mono (by omega))
  clear hbx4 hbw4 hb5 k0 k1 k2 k3 k4 k5 k6
  obtain ⟨k0, k1, k2, k3, k4, k5, k6⟩ := hbx5.out
  obtain ⟨hE1, hE2⟩ := prE_le s x y z
  obtain ⟨hR1, hR2⟩ := errR_le (rightB span keep ls)
  unfold prV
  go_wp2_with fail
  refine (refProject_any s x y z _ hs).mono ?_
  rintro e w6 ⟨rfl, hb6⟩
  unfold prV
  generalize prX s x y z 0 = p0 at *
  generalize prX s x y z 1 = p1 at *
  generalize prX s x y z 2 = p2 at *
  generalize prE s x y z = pe at *
  generalize errR (rightB span keep ls) = er at *
  have hal : Below w5.heap.size w5 (w5.alloc (c3 p0 p1 p2)) := (Below.refl _ _).alloc (Nat.le_refl _) _
  have hbw6 : Hid (Below w.heap.size w w6) := hbw5.out.trans ((hal.mono (by omega)).trans (hb6.mono (by simp; omega)))
  have hsz6 : w5.heap.size < w6.heap.size := by have := hb6.size; simp at this; omega
  have j0 : w6.cell? ⟨w5.heap.size, 0, none⟩ = some (.int .u8 p0) := by rw [hb6.cell (p := ⟨w5.heap.size, 0, none⟩) (by simp)]; simp [go_sem]
  have j1 : w6.cell? ⟨w5.heap.size, 1, none⟩ = some (.int .u8 p1) := by rw [hb6.cell (p := ⟨w5.heap.size, 1, none⟩) (by simp)]; simp [go_sem]
  have j2 : w6.cell? ⟨w5.heap.size, 2, none⟩ = some (.int .u8 p2) := by rw [hb6.cell (p := ⟨w5.heap.size, 2, none⟩) (by simp)]; simp [go_sem]
  clear hbx5 hbw5 hb6 hal k0 k1 k2 k3 k4 k5 k6
  have heq := fun w => eq26 9998 p0 p1 p2 p0 p1 p2 w
  simp only [beq_self_eq_true, Bool.and_self] at heq
  go_wp2_with (go_at_call 13; refine (num_any _ _ (by omega) (by omega)).mono ?_; rintro e w' ⟨rfl, rfl⟩)
  go_ret
  exact ⟨rfl, hbw6.out.alloc (by have := hbw6.out.size; omega) _⟩

end Go.Proofs.YthciddpljcbhiabGreatDoor

/- A script of steps that came in, opened. -/
namespace Go.Proofs.YthciddpljcbhiabGreatDoor
open Go Go.RowKit Go.Deep Go.ChangeShapes Go.WideShapes Go.Joins

theorem Tryz.cells47 : Tryz.prog.cellsOf 47 = 16 := by kernel_rfl
theorem Tryz.cells43 : Tryz.prog.cellsOf 43 = 1 := by kernel_rfl
theorem Tryz.cells45 : Tryz.prog.cellsOf 45 = 5 := by kernel_rfl
theorem Tryz.zbytes76 : Tryz.prog.bytesOf 76 = 16 := by kernel_rfl
theorem Tryz.zbytes37 : Tryz.prog.bytesOf 37 = 40 := by kernel_rfl
theorem Tryz.zbytes47 : Tryz.prog.bytesOf 47 = 168 := by kernel_rfl

/-- A step of a script. -/
structure Opr where
  kind : Int
  on : Int
  a : Int
  s : ByteArray
  l0 : Int
  l1 : Int
  l2 : Int
  span : Int
  keep : Int
  lvs : List Lv
  bat : List Sm
  q : Qy
def i64r (n : Int) : Prop := -9223372036854775808 ≤ n ∧ n ≤ 9223372036854775807
structure OpWf (o : Opr) : Prop where
  kind : i64r o.kind
  on : i64r o.on
  a : i64r o.a
  s : o.s.size ≤ maxLen
  l0 : 0 ≤ o.l0 ∧ o.l0 ≤ 255
  l1 : 0 ≤ o.l1 ∧ o.l1 ≤ 255
  l2 : 0 ≤ o.l2 ∧ o.l2 ≤ 255
  span : i64r o.span
  keep : i64r o.keep
  lvs : LvWf o.lvs
  bat : SmWf o.bat
  fr : i64r o.q.fr
  tt : i64r o.q.to
  step : i64r o.q.step
  mt : o.q.mt.size ≤ maxLen
  gb : o.q.gb.size ≤ maxLen
def opC (o : Opr) (la : Option Addr) (ln lc : Nat) (ba : Option Addr) (bn bc : Nat) : List Value :=
  [.int .i64 o.kind, .int .i64 o.on, .int .i64 o.a, .string o.s, .int .u8 o.l0, .int .u8 o.l1, .int .u8 o.l2, .int .i64 o.span, .int .i64 o.keep, .slice la ln lc, .slice ba bn bc,
   .int .i64 o.q.fr, .int .i64 o.q.to, .int .i64 o.q.step, .string o.q.mt, .string o.q.gb]
/-- What a step brings with it lies there. -/
structure OpIn (w : World) (o : Opr) (la : Option Addr) (ln : Nat) (ba : Option Addr) (bn : Nat) : Prop where
  lv : IsLvs w la ln o.lvs
  ln : ln ≤ 7000000000000
  sm : IsSms w ba bn o.bat
  bn : bn ≤ 9000000000000
theorem OpIn.below {w w' : World} {o : Opr} {la : Option Addr} {ln : Nat} {ba : Option Addr} {bn : Nat} (h : OpIn w o la ln ba bn) (hb : Below w.heap.size w w') : OpIn w' o la ln ba bn := ⟨h.lv.from hb, h.ln, h.sm.below hb, h.bn⟩
def OpAt (w : World) (b off : Nat) (o : Opr) : Prop := ∃ la ln lc ba bn bc, At w b off (opC o la ln lc ba bn bc) ∧ OpIn w o la ln ba bn
def Opr.zero : Opr := ⟨0, 0, 0, ⟨#[]⟩, 0, 0, 0, 0, 0, [], [], ⟨0, 0, 0, ⟨#[]⟩, ⟨#[]⟩⟩⟩
def opG (l : List Opr) (i : Nat) : Opr := l.getD i Opr.zero
theorem opG_get (l : List Opr) (i : Nat) (h : i < l.length) : opG l i = l[i] := by simp [opG, List.getD, h]
def IsOps (w : World) (a : Option Addr) (n : Nat) (l : List Opr) : Prop := l.length = n ∧ (∀ x ∈ l, OpWf x) ∧ (0 < n → ∃ b off, a = some ⟨b, off, none⟩ ∧ b < w.heap.size ∧ ∀ i, i < n → OpAt w b (off + i * 16) (opG l i))
theorem IsOps.below {w w' : World} {a : Option Addr} {n : Nat} {l : List Opr} (h : IsOps w a n l) (hb : Below w.heap.size w w') : IsOps w' a n l := by
  refine ⟨h.1, h.2.1, fun hn => ?_⟩
  obtain ⟨b, off, e, hlt, hall⟩ := h.2.2 hn
  refine ⟨b, off, e, Nat.lt_of_lt_of_le hlt hb.size, fun i hi => ?_⟩
  obtain ⟨la, ln, lc, ba, bn, bc, hat, hin⟩ := hall i hi
  exact ⟨la, ln, lc, ba, bn, bc, hat.below hb hlt, hin.below hb⟩

section
variable {H : Type} {enc : TypeId × Value → H} {w : World} {base : Nat} {spare : Nat → Bool} {held : Bool} {P : Program}

theorem trod_struct5 {t : TypeId} {f0 f1 f2 f3 f4 : Field} {fuel : Nat} {cs : List Value} {x : DataW H × List MemPlace} (ht : P.underlying t = some (.struct #[f0, f1, f2, f3, f4])) (h : DataW.trod enc P w base spare held fuel t cs = some x) :
    ∃ y0 y1 y2 y3 y4 n, x.1 = .agg [y0.1, y1.1, y2.1, y3.1, y4.1] ∧ cs.length = P.cellsOf t ∧ DataW.trod enc P w base spare held n f0.type ((cs.drop f0.offset).take (P.cellsOf f0.type)) = some y0 ∧
      DataW.trod enc P w base spare held n f1.type ((cs.drop f1.offset).take (P.cellsOf f1.type)) = some y1 ∧ DataW.trod enc P w base spare held n f2.type ((cs.drop f2.offset).take (P.cellsOf f2.type)) = some y2 ∧
      DataW.trod enc P w base spare held n f3.type ((cs.drop f3.offset).take (P.cellsOf f3.type)) = some y3 ∧ DataW.trod enc P w base spare held n f4.type ((cs.drop f4.offset).take (P.cellsOf f4.type)) = some y4 := by
  obtain ⟨xs, n, _, rfl, hl, hlen, hf⟩ := DataW.trod_struct ht h
  match xs, hlen with
  | [y0, y1, y2, y3, y4], _ => exact ⟨y0, y1, y2, y3, y4, n, by simp, hl, by simpa using hf 0 f0 rfl, by simpa using hf 1 f1 rfl, by simpa using hf 2 f2 rfl, by simpa using hf 3 f3 rfl, by simpa using hf 4 f4 rfl⟩
theorem trod_struct8 {t : TypeId} {f0 f1 f2 f3 f4 f5 f6 f7 : Field} {fuel : Nat} {cs : List Value} {x : DataW H × List MemPlace} (ht : P.underlying t = some (.struct #[f0, f1, f2, f3, f4, f5, f6, f7])) (h : DataW.trod enc P w base spare held fuel t cs = some x) :
    ∃ y0 y1 y2 y3 y4 y5 y6 y7 n, x.1 = .agg [y0.1, y1.1, y2.1, y3.1, y4.1, y5.1, y6.1, y7.1] ∧ cs.length = P.cellsOf t ∧ DataW.trod enc P w base spare held n f0.type ((cs.drop f0.offset).take (P.cellsOf f0.type)) = some y0 ∧
      DataW.trod enc P w base spare held n f1.type ((cs.drop f1.offset).take (P.cellsOf f1.type)) = some y1 ∧ DataW.trod enc P w base spare held n f2.type ((cs.drop f2.offset).take (P.cellsOf f2.type)) = some y2 ∧
      DataW.trod enc P w base spare held n f3.type ((cs.drop f3.offset).take (P.cellsOf f3.type)) = some y3 ∧ DataW.trod enc P w base spare held n f4.type ((cs.drop f4.offset).take (P.cellsOf f4.type)) = some y4 ∧
      DataW.trod enc P w base spare held n f5.type ((cs.drop f5.offset).take (P.cellsOf f5.type)) = some y5 ∧ DataW.trod enc P w base spare held n f6.type ((cs.drop f6.offset).take (P.cellsOf f6.type)) = some y6 ∧
      DataW.trod enc P w base spare held n f7.type ((cs.drop f7.offset).take (P.cellsOf f7.type)) = some y7 := by
  obtain ⟨xs, n, _, rfl, hl, hlen, hf⟩ := DataW.trod_struct ht h
  match xs, hlen with
  | [y0, y1, y2, y3, y4, y5, y6, y7], _ => exact ⟨y0, y1, y2, y3, y4, y5, y6, y7, n, by simp, hl, by simpa using hf 0 f0 rfl, by simpa using hf 1 f1 rfl, by simpa using hf 2 f2 rfl, by simpa using hf 3 f3 rfl, by simpa using hf 4 f4 rfl, by simpa using hf 5 f5 rfl, by simpa using hf 6 f6 rfl, by simpa using hf 7 f7 rfl⟩
theorem list16 {α : Type} {cs : List α} (h : cs.length = 16) : ∃ c0 c1 c2 c3 c4 c5 c6 c7 c8 c9 c10 c11 c12 c13 c14 c15, cs = [c0, c1, c2, c3, c4, c5, c6, c7, c8, c9, c10, c11, c12, c13, c14, c15] := by
  match cs, h with
  | [c0, c1, c2, c3, c4, c5, c6, c7, c8, c9, c10, c11, c12, c13, c14, c15], _ => exact ⟨c0, c1, c2, c3, c4, c5, c6, c7, c8, c9, c10, c11, c12, c13, c14, c15, rfl⟩
theorem list3z {α : Type} {cs : List α} (h : cs.length = 3) : ∃ c0 c1 c2, cs = [c0, c1, c2] := by
  match cs, h with
  | [c0, c1, c2], _ => exact ⟨c0, c1, c2, rfl⟩

/-- A step that came in. -/
theorem open_op {fuel : Nat} {cs : List Value} {x : DataW H × List MemPlace} (h : DataW.trod enc Tryz.prog w base spare held fuel 47 cs = some x) (hw : ∀ k ∈ x.1.weights Tryz.prog 47, k ≤ reachBytes) :
    ∃ (o : Opr) (la : Option Addr) (ln lc : Nat) (ba : Option Addr) (bn bc : Nat), cs = opC o la ln lc ba bn bc ∧ OpIn w o la ln ba bn ∧ OpWf o := by
  obtain ⟨y0, y1, y2, y3, y4, y5, y6, y7, n, hx, hlen, h0, h1, h2, h3, h4, h5, h6, h7⟩ := trod_struct8 Tryz.underlying47 h
  rw [Tryz.cells47] at hlen
  obtain ⟨c0, c1, c2, c3, c4, c5, c6, c7, c8, c9, c10, c11, c12, c13, c14, c15, rfl⟩ := list16 hlen
  simp only [Tryz.cells3, Tryz.cells9, Tryz.cells42, Tryz.cells40, Tryz.cells43, Tryz.cells45] at h0 h1 h2 h3 h4 h5 h6 h7
  obtain ⟨kd, e0, d0, w0⟩ := DataW.trod_int Tryz.underlying3 h0
  obtain ⟨on, e1, d1, w1⟩ := DataW.trod_int Tryz.underlying3 h1
  obtain ⟨a, e2, d2, w2⟩ := DataW.trod_int Tryz.underlying3 h2
  obtain ⟨s, e3, d3, hs⟩ := DataW.trod_string Tryz.underlying9 h3
  obtain ⟨l0, l1, l2, rfl, rfl, rfl, b0, b1, b2⟩ := open_labs (by simpa using h4)
  simp at e0 e1 e2 e3
  subst e0 e1 e2 e3
  obtain ⟨z0, z1, z2, m, hz, _, g0, g1, g2⟩ := trod_struct3 Tryz.underlying40 h5
  simp only [Tryz.cells3, Tryz.cells38] at g0 g1 g2
  obtain ⟨span, f0, _, ws⟩ := DataW.trod_int Tryz.underlying3 g0
  obtain ⟨keep, f1, _, wk⟩ := DataW.trod_int Tryz.underlying3 g1
  simp at f0 f1
  subst f0 f1
  obtain ⟨la, ln, lc, ls, f2, hlv, hlwf, hll⟩ := open_levels (v := c9) (y := z2) (by simpa using g2)
  subst f2
  obtain ⟨ba, bn, bc, bs, e6, hsm, hswf, hsl⟩ := open_samples (v := c10) (y := y6) (by simpa using h6)
  subst e6
  obtain ⟨q0, q1, q2, q3, q4, m7, hq, _, p0, p1, p2, p3, p4⟩ := trod_struct5 Tryz.underlying45 h7
  simp only [Tryz.cells3, Tryz.cells9] at p0 p1 p2 p3 p4
  obtain ⟨fr, r0, _, wr⟩ := DataW.trod_int Tryz.underlying3 p0
  obtain ⟨tq, r1, _, wt⟩ := DataW.trod_int Tryz.underlying3 p1
  obtain ⟨st, r2, _, wp⟩ := DataW.trod_int Tryz.underlying3 p2
  obtain ⟨mt, r3, _, hm⟩ := DataW.trod_string Tryz.underlying9 p3
  obtain ⟨gb, r4, _, hg⟩ := DataW.trod_string Tryz.underlying9 p4
  simp at r0 r1 r2 r3 r4
  subst r0 r1 r2 r3 r4
  refine ⟨⟨kd, on, a, s, l0, l1, l2, span, keep, ls, bs, ⟨fr, tq, st, mt, gb⟩⟩, la, ln, lc, ba, bn, bc, rfl, ⟨hlv, ?_, hsm, ?_⟩, ⟨i64_range w0, i64_range w1, i64_range w2, hs, b0, b1, b2, i64_range ws, i64_range wk, hlwf, hswf, i64_range wr, i64_range wt, i64_range wp, hm, hg⟩⟩
  · rcases hll with rfl | ⟨D, sp, hD, rfl⟩
    · omega
    · have hm := hw ((D.length + sp.length) * Tryz.prog.bytesOf 37) (by rw [hx]; simp [DataW.weights, Tryz.underlying47, DataW.weightsEach, hz, Tryz.underlying40, hD, Tryz.underlying38])
      rw [Tryz.zbytes37] at hm
      have hm' : (D.length + sp.length) * 40 ≤ 140737488351232 := hm
      omega
  · rcases hsl with rfl | ⟨D, sp, hD, rfl⟩
    · omega
    · have hm := hw ((D.length + sp.length) * Tryz.prog.bytesOf 76) (by rw [hx]; simp [DataW.weights, Tryz.underlying47, DataW.weightsEach, hD, Tryz.underlying43])
      rw [Tryz.zbytes76] at hm
      have hm' : (D.length + sp.length) * 16 ≤ 140737488351232 := hm
      omega
theorem weights_allz {e : TypeId} : ∀ {l : List (DataW H)} {d : DataW H}, d ∈ l → ∀ k ∈ d.weights P e, k ∈ DataW.weightsAll P e l
  | x :: l, d, hd, k, hk => by
    rw [DataW.weightsAll, List.mem_append]
    rcases List.mem_cons.1 hd with rfl | hd
    · exact .inl hk
    · exact .inr (weights_allz hd k hk)

theorem open_ops {fuel : Nat} {v : Value} {y : DataW H × List MemPlace} (hf : DataW.trod enc Tryz.prog w base spare held fuel 22 [v] = some y) (hw : ∀ k ∈ y.1.weights Tryz.prog 22, k ≤ reachBytes) :
    ∃ a n cap l, v = .slice a n cap ∧ IsOps w a n l ∧ n ≤ 837723145000 := by
  rcases open_slice Tryz.underlying22 hf with ⟨hcs, _⟩ | ⟨a, len, cap, m, k, D, Pl, hcs, _, hl, hm, hmm, rfl, he⟩
  · simp at hcs
    exact ⟨none, 0, 0, [], hcs, ⟨rfl, fun x hx => absurd hx (by simp), fun h => absurd h (by omega)⟩, by omega⟩
  · simp at hcs
    have hlm : len ≤ m := by rw [hmm]; split <;> omega
    rw [Tryz.cells47] at he
    have hW : ∀ i, i < len → ∀ k ∈ (D i).weights Tryz.prog 47, k ≤ reachBytes := fun i hi k hk => by
      refine hw k ?_
      simp only [DataW.weights, Tryz.underlying22, List.mem_cons, List.mem_append]
      exact .inr (.inl (weights_allz (List.mem_map.2 ⟨i, List.mem_range.2 hi, rfl⟩) k hk))
    have hN : len ≤ 837723145000 := by
      have h9 := hw ((len + (m - len)) * Tryz.prog.bytesOf 47) (by simp [DataW.weights, Tryz.underlying22])
      rw [Tryz.zbytes47] at h9
      have h9' : (len + (m - len)) * 168 ≤ 140737488351232 := h9
      omega
    have hall : ∀ i, i < len → ∃ o : Opr, (∃ la ln lc ba bn bc, (∀ j, j < 16 → w.cell? ((a.add (i * 16)).add j) = (opC o la ln lc ba bn bc)[j]?) ∧ OpIn w o la ln ba bn) ∧ OpWf o := fun i hi => by
      obtain ⟨cs', h1, h2⟩ := he i (by omega)
      obtain ⟨o, la, ln, lc, ba, bn, bc, rfl, hin, hwf⟩ := open_op h2 (hW i hi)
      exact ⟨o, ⟨la, ln, lc, ba, bn, bc, (World.cells?_some h1).2.2, hin⟩, hwf⟩
    haveI : Inhabited Opr := ⟨Opr.zero⟩
    obtain ⟨f, hff⟩ := choose_lt hall
    refine ⟨some a, len, cap, (List.range len).map f, hcs, ⟨by simp, fun x hx => ?_, fun hn => ?_⟩, hN⟩
    · obtain ⟨i, hi, rfl⟩ := List.mem_map.1 hx
      exact (hff i (List.mem_range.1 hi)).2
    · obtain ⟨b, off, spot⟩ := a
      obtain ⟨⟨la, ln, lc, ba, bn, bc, h0, _⟩, _⟩ := hff 0 hn
      have h00 := h0 0 (by omega)
      have hspot : spot = none := by
        have := World.cell?_spot (h00.trans rfl)
        simpa [Addr.add] using this
      subst hspot
      refine ⟨b, off, rfl, ?_, fun i hi => ?_⟩
      · have := World.block_lt_of_cell? w _ (h00.trans rfl)
        simpa [Addr.add] using this
      · obtain ⟨⟨la, ln, lc, ba, bn, bc, hc, hin⟩, _⟩ := hff i hi
        have e : opG ((List.range len).map f) i = f i := by simp [opG, List.getD, hi]
        rw [e]
        refine ⟨la, ln, lc, ba, bn, bc, fun j v hj => ?_, hin⟩
        have hlt : j < 16 := (List.getElem?_eq_some_iff.1 hj).1
        have h9 := hc j hlt
        simp only [add_none] at h9
        rw [h9]
        exact hj
end

end Go.Proofs.YthciddpljcbhiabGreatDoor

/- Walks: a step on a book (step): Tick, Write, or a question. -/
namespace Go.Proofs.YthciddpljcbhiabGreatDoor
open Go Go.RowKit Go.Lib

abbrev bkV (b : Bk) : Value := .agg #[.pointer (some ⟨b.X, 0, none⟩), .pointer (some ⟨b.R, 0, none⟩)]
abbrev opV (o : Opr) (la : Option Addr) (ln lc : Nat) (ba : Option Addr) (bn bc : Nat) : Value := .agg (opC o la ln lc ba bn bc).toArray
/-- The book that a raw number speaks of. -/
def bki (o : Opr) (bs : List Bk) : Nat := (pk o.on bs.length).toNat
theorem bki_lt {o : Opr} {bs : List Bk} (h : 0 < bs.length) : bki o bs < bs.length := by
  have h1 := pk_range o.on bs.length (by omega)
  unfold bki
  omega
theorem bki_eq {o : Opr} {bs : List Bk} (h : 0 < bs.length) : pk o.on bs.length = (bki o bs : Nat) := by
  have h1 := pk_range o.on bs.length (by omega)
  unfold bki
  omega

set_option maxHeartbeats 2000000 in
set_option maxRecDepth 100000 in
theorem step_on (own : Nat → Nat) (base W D : Nat) (bv : Value) (bs : List Bk) (N : Nat) (o : Opr) (la : Option Addr) (ln lc : Nat) (ba : Option Addr) (bn bc : Nat) (w : World) (h : WdAt w own base W D bv bs N) (hok : AllOk bs) (hbs : bs.length ≤ 2000000000000) (hin : OpIn w o la ln ba bn) (hwf : OpWf o)
    (hlow : ∀ b off, 0 < bn → ba = some ⟨b, off, none⟩ → b < base) (k1 : o.kind ≠ 1) (k8 : o.kind ≠ 8) (k10 : o.kind ≠ 10) (k11 : o.kind ≠ 11) (k9 : o.kind ≠ 9)
    (hask : o.kind ≠ 2 → o.kind ≠ 3 → ∀ V, WdAt V own base W D bv bs N → Below w.heap.size w V → bki o bs < bs.length → Calls Tryz.prog 22 #[.pointer (some ⟨W, 0, none⟩), bkV (bkG bs (bki o bs)), opV o la ln lc ba bn bc] V fun e w' => e = .returned (.bool true) ∧ Went V w' base W D (N + 1) bs.length) :
    Calls Tryz.prog 7 #[.pointer (some ⟨W, 0, none⟩), opV o la ln lc ba bn bc] w fun e w' => e = .returned (.bool true) ∧ Went w w' base W D (N + 1) bs.length := by
  have hbx : Below w.heap.size w (w.alloc (.cells (opC o la ln lc ba bn bc).toArray 47)) := (Below.refl _ _).alloc (Nat.le_refl _) _
  have hbk0 : (w.alloc (.cells (opC o la ln lc ba bn bc).toArray 47)).heap[w.heap.size]? = some (.cells (opC o la ln lc ba bn bc).toArray 47 (0, 0)) := heap_alloc_new _ _
  have HH : Hid (WdAt w own base W D bv bs N) := h
  have H0 : Hid (WdAt (w.alloc (.cells (opC o la ln lc ba bn bc).toArray 47)) own base W D bv bs N) := h.below hbx
  have HBK0 : Hid ((w.alloc (.cells (opC o la ln lc ba bn bc).toArray 47)).heap[w.heap.size]? = some (.cells (opC o la ln lc ba bn bc).toArray 47 (0, 0))) := hbk0
  have hz0 : (w.alloc (.cells (opC o la ln lc ba bn bc).toArray 47)).heap.size = w.heap.size + 1 := World.size_alloc _ _
  have HBX : Hid (Below w.heap.size w (w.alloc (.cells (opC o la ln lc ba bn bc).toArray 47))) := hbx
  have HOK : Hid (AllOk bs) := hok
  have HIN : Hid (OpIn w o la ln ba bn) := hin
  have HWF : Hid (OpWf o) := hwf
  have HLO : Hid (∀ b off, 0 < bn → ba = some ⟨b, off, none⟩ → b < base) := hlow
  have HASK : Hid (o.kind ≠ 2 → o.kind ≠ 3 → ∀ V, WdAt V own base W D bv bs N → Below w.heap.size w V → bki o bs < bs.length → Calls Tryz.prog 22 #[.pointer (some ⟨W, 0, none⟩), bkV (bkG bs (bki o bs)), opV o la ln lc ba bn bc] V fun e w' => e = .returned (.bool true) ∧ Went V w' base W D (N + 1) bs.length) := hask
  obtain ⟨o0, o1⟩ := hwf.on
  obtain ⟨va, vc, rfl⟩ := ownForm h.row
  have hbas := h.bas
  clear h hok hin hwf hlow hask hbx hbk0
  go_enter Tryz.func7, Tryz.ntmps7
  go_upto_region 1 with fail
  generalize hV : w.alloc (.cells (opC o la ln lc ba bn bc).toArray 47) = w0 at *
  have hb0 : w0.cell? ⟨w.heap.size, 0, none⟩ = some (.int .i64 o.kind) := cell_blk HBK0.out rfl
  have hb1 : w0.cell? ⟨w.heap.size, 1, none⟩ = some (.int .i64 o.on) := cell_blk HBK0.out rfl
  have cw : w0.cell? ⟨W, 0, none⟩ = some (.slice va bs.length vc) := cell_blk H0.out.wb rfl
  have hz0a : w.heap.size + 1 ≤ w0.heap.size := by omega
  have HWL : Hid (w0.heap.size = w.heap.size + 1) := hz0
  clear hV hz0
  by_cases hlen : bs.length = 0
  · rw [hlen] at cw
    go_wp2_with fail
    go_ret
    exact ⟨rfl, ⟨_, _, _, H0.out.more (Nat.le_succ _), HOK.out, Nat.le_refl _⟩, HBX.out.mono hbas⟩
  · have hpos : 0 < bs.length := by omega
    have hi : bki o bs < bs.length := bki_lt hpos
    have HPK : Hid (∀ V : World, Calls Tryz.prog 17 #[.int .i64 o.on, .int .i64 bs.length] V fun e w' => e = .returned (.int .i64 (bki o bs : Nat)) ∧ V = w') := fun V => by
      have h9 := pick_law2 o.on bs.length V o0 o1 (by omega) (by omega)
      rw [bki_eq hpos] at h9
      exact h9
    obtain ⟨g, cap, eg, r0, r1⟩ := H0.out.book (bki o bs) hi
    injection eg with eg1 _ eg2
    subst eg1 eg2
    generalize hII : bki o bs = i at *
    generalize hX : (bkG bs i).X = X at *
    generalize hR : (bkG bs i).R = R at *
    have hne0 : ¬ (bs.length : Int) = 0 := by omega
    have f1 : (o.kind == 1) = false := by simpa using k1
    have f8 : (o.kind == 8) = false := by simpa using k8
    have f10 : (o.kind == 10) = false := by simpa using k10
    have f11 : (o.kind == 11) = false := by simpa using k11
    have fl : ((bs.length : Int) == 0) = false := by simpa using hne0
    go_upto_region 14 with fail
    clear f1 f8 f10 f11 fl
    have hiI : (i : Int) < (bs.length : Int) := by omega
    have q0 : w0.drew.cell? ⟨W, 0, none⟩ = some (.slice (some ⟨g, 0, none⟩) bs.length vc) := cw
    have q1 : w0.drew.cell? ⟨w.heap.size, 1, none⟩ = some (.int .i64 o.on) := hb1
    have q2 : w0.drew.cell? ⟨g, i * 2, none⟩ = some (.pointer (some ⟨X, 0, none⟩)) := r0
    have q3 : w0.drew.cell? ⟨g, i * 2 + 1, none⟩ = some (.pointer (some ⟨R, 0, none⟩)) := r1
    go_cut [7] from 55 to 68 (fun v wx => v = .pointer (some ⟨w0.heap.size, 0, none⟩) ∧ wx = (w0.alloc (.cells #[.pointer (some ⟨X, 0, none⟩), .pointer (some ⟨R, 0, none⟩)] 62)).drew)
    case first =>
      go_region_held3 (fun w' => w'.cell? ⟨W, 0, none⟩ = some (.slice (some ⟨g, 0, none⟩) bs.length vc) ∧ w'.cell? ⟨w.heap.size, 1, none⟩ = some (.int .i64 o.on) ∧ w'.cell? ⟨g, i * 2, none⟩ = some (.pointer (some ⟨X, 0, none⟩)) ∧ w'.cell? ⟨g, i * 2 + 1, none⟩ = some (.pointer (some ⟨R, 0, none⟩))) (first | exact ⟨q0, q1, q2, q3⟩ | exact ⟨cell_alloc1 q0, cell_alloc1 q1, cell_alloc1 q2, cell_alloc1 q3⟩)
        (first | (go_at_call 17; refine (HPK.out _).mono ?_; rintro e w' ⟨rfl, rfl⟩))
      all_goals go_wp2_with fail
      all_goals go_meet
      all_goals (case rel => exact ⟨rfl, rfl⟩)
    case rest =>
      obtain ⟨rfl, hwc⟩ := hcut
      have hb2 : Below w0.heap.size w0 wc := by rw [hwc]; exact ((Below.refl _ _).alloc (Nat.le_refl _) _).drew
      have hbk : wc.heap[w0.heap.size]? = some (.cells #[.pointer (some ⟨X, 0, none⟩), .pointer (some ⟨R, 0, none⟩)] 62 (0, 0)) := by rw [hwc]; exact heap_alloc_new w0 _
      have hobk : wc.heap[w.heap.size]? = some (.cells (opC o la ln lc ba bn bc).toArray 47 (0, 0)) := by rw [hb2.block _ (by omega)]; exact HBK0.out
      have HBW : Hid (Below w.heap.size w wc) := HBX.out.trans (hb2.mono (by omega))
      have HW2 : Hid (WdAt wc own base W D (.slice (some ⟨g, 0, none⟩) bs.length vc) bs N) := H0.out.below hb2
      have HBK : Hid (wc.heap[w0.heap.size]? = some (.cells #[.pointer (some ⟨X, 0, none⟩), .pointer (some ⟨R, 0, none⟩)] 62 (0, 0))) := hbk
      have HOB : Hid (wc.heap[w.heap.size]? = some (.cells (opC o la ln lc ba bn bc).toArray 47 (0, 0))) := hobk
      have hz2 : w0.heap.size < wc.heap.size := (Array.getElem?_eq_some_iff.1 hbk).1
      generalize hbb : w0.heap.size = bb at *
      have hbw : w.heap.size + 1 ≤ bb := hz0a
      have b0 : wc.cell? ⟨bb, 0, none⟩ = some (.pointer (some ⟨X, 0, none⟩)) := cell_blk hbk rfl
      have b1 : wc.cell? ⟨bb, 1, none⟩ = some (.pointer (some ⟨R, 0, none⟩)) := cell_blk hbk rfl
      have p0 : wc.cell? ⟨w.heap.size, 0, none⟩ = some (.int .i64 o.kind) := cell_blk hobk rfl
      have p2 : wc.cell? ⟨w.heap.size, 2, none⟩ = some (.int .i64 o.a) := cell_blk hobk rfl
      have HOUT : Hid (∀ k, w.heap.size ≤ k → own k = 0) := HH.out.out
      have HWW : Hid (w.heap.size + 1 ≤ bb) := hbw
      clear hwc hb2 hbk hobk hbb HWL hz0a q0 q1 q2 q3 cw hb0 hb1 r0 r1 HBK0 H0 HBX HPK
      obtain ⟨e1, e2⟩ := HOK.out i hi
      by_cases k2 : o.kind = 2
      · rw [k2] at p0 k1 k8 k10 k11 k9
        obtain ⟨a0, a1⟩ := HWF.out.a
        have hst1 : StoreAt wc X (fun k => own k = 4 + 2 * i) (bkG bs i).s (bkG bs i).lg := by have h9 := HW2.out.st i hi; rw [hX] at h9; exact h9
        have hrf1 : RfAt wc R (fun k => own k = 5 + 2 * i) (bkG bs i).c (bkG bs i).cs := by have h9 := HW2.out.rf i hi; rw [hR] at h9; exact h9
        by_cases hE : tkE (bkG bs i).s o.a = 0
        · have HE0 : Hid (tkE (bkG bs i).s o.a = 0) := hE
          have HE' : Hid (tkE ((St.new (bkG bs i).c).doAll (bkG bs i).cs) o.a = 0) := by show _ = _; rw [← e1]; exact hE
          have HTY := tick_yes X (fun k => own k = 4 + 2 * i) (bkG bs i).s o.a (bkG bs i).lg wc hst1 hE
          clear hst1 hrf1 hE e1 e2
          go_wp2_with fail
          refine HTY.mono ?_
          clear HTY
          rintro e w3 ⟨rfl, hst, hf3⟩
          have hz3 := hf3.size
          have H3 : Hid (WdAt w3 (upd own wc w3 (4 + 2 * i)) base W D (.slice (some ⟨g, 0, none⟩) bs.length vc) (bs.set i { bkG bs i with s := (bkG bs i).s.tk o.a, lg := (bkG bs i).lg ++ strOfNums (tickB o.a) }) N) := HW2.out.stepX hi hf3 (by rw [hX]; exact hst)
          have HB3 : Hid (Below base w w3) := (HBW.out.mono hbas).trans (HW2.out.bel hf3 (fun k e => .inl (by have e' : own k = 4 + 2 * i := e; omega)))
          have hnot : ∀ k, w.heap.size ≤ k → ¬ own k = 4 + 2 * i := fun k hk e => by have h9 := HOUT.out k hk; omega
          have c1 : w3.cell? ⟨bb, 1, none⟩ = some (.pointer (some ⟨R, 0, none⟩)) := (hf3.cell (p := ⟨bb, 1, none⟩) hz2 (hnot bb (by omega))).trans b1
          have c2 : w3.cell? ⟨w.heap.size, 2, none⟩ = some (.int .i64 o.a) := (hf3.cell (p := ⟨w.heap.size, 2, none⟩) (by omega : w.heap.size < wc.heap.size) (hnot _ (Nat.le_refl _))).trans p2
          have hrf := H3.out.rf i (by simpa using hi)
          rw [bkG_set _ _ _ _ hi, if_pos rfl] at hrf
          have hrf2 : RfAt w3 R (fun k => upd own wc w3 (4 + 2 * i) k = 5 + 2 * i) (bkG bs i).c (bkG bs i).cs := by rw [← hR]; exact hrf
          have HTR := tk_ref_yes o.a w3 hrf2 HE'.out
          clear hst hf3 b0 b1 p0 p2 hnot hrf hrf2
          go_wp2_with fail
          refine HTR.mono ?_
          clear HTR
          rintro e w4 ⟨rfl, hr4, hf4⟩
          have H4 : Hid (WdAt w4 (upd (upd own wc w3 (4 + 2 * i)) w3 w4 (5 + 2 * i)) base W D (.slice (some ⟨g, 0, none⟩) bs.length vc) ((bs.set i { bkG bs i with s := (bkG bs i).s.tk o.a, lg := (bkG bs i).lg ++ strOfNums (tickB o.a) }).set i { bkG (bs.set i { bkG bs i with s := (bkG bs i).s.tk o.a, lg := (bkG bs i).lg ++ strOfNums (tickB o.a) }) i with cs := (bkG bs i).cs ++ [.t o.a] }) N) :=
            H3.out.stepR (by simpa using hi) hf4 (by rw [bkG_set _ _ _ _ hi, if_pos rfl]; show RfAt w4 (bkG bs i).R _ _ _; rw [hR]; exact hr4)
          have HB4 : Hid (Below base w w4) := HB3.out.trans (H3.out.bel hf4 (fun k e => .inl (by have e' : upd own wc w3 (4 + 2 * i) k = 5 + 2 * i := e; omega)))
          clear hr4 hf4 c1 c2
          go_wp2_with (go_at_call 13; refine (num_law2 _ _).mono ?_; rintro e w' ⟨rfl, rfl⟩)
          go_ret
          exact ⟨rfl, ⟨_, _, _, H4.out.more (Nat.le_succ _), ok_step HOK.out hi (.t o.a) rfl rfl HE0.out, by simp⟩, HB4.out⟩
        · have HE' : Hid (tkE ((St.new (bkG bs i).c).doAll (bkG bs i).cs) o.a ≠ 0) := by show _ ≠ _; rw [← e1]; exact hE
          have HTY := tick_no X (fun k => own k = 4 + 2 * i) (bkG bs i).s o.a wc hst1 a0 a1 hE
          have HTR := tk_ref_no o.a wc hrf1 a0 a1 HE'.out
          clear hst1 hrf1 hE e1 e2
          go_wp2_with fail
          refine HTY.mono ?_
          clear HTY
          rintro e w3 ⟨rfl, h3⟩
          obtain rfl := h3.symm
          go_wp2_with fail
          refine HTR.mono ?_
          clear HTR
          rintro e w4 ⟨rfl, h4⟩
          obtain rfl := h4.symm
          go_wp2_with (go_at_call 13; refine (num_law2 _ _).mono ?_; rintro e w' ⟨rfl, rfl⟩)
          go_ret
          exact ⟨rfl, ⟨_, _, _, HW2.out.more (Nat.le_succ _), HOK.out, Nat.le_refl _⟩, HBW.out.mono hbas⟩
      · by_cases k3 : o.kind = 3
        · rw [k3] at p0 k1 k8 k10 k11 k9 k2
          have p10 : wc.cell? ⟨w.heap.size, 10, none⟩ = some (.slice ba bn bc) := cell_blk HOB.out rfl
          have HWR := wrote_any own base W D _ bs N i ba bn bc o.bat wc HW2.out HOK.out hi (HIN.out.sm.below HBW.out) HWF.out.bat HIN.out.bn HLO.out
          rw [hX, hR] at HWR
          clear e1 e2
          go_wp2_with fail
          refine HWR.mono ?_
          clear HWR
          rintro e w3 ⟨rfl, ⟨own', bv', bs', h1, h2, h3⟩, h4⟩
          have HF : Hid (Went w w3 base W D (N + 1) bs.length) := ⟨⟨own', bv', bs', h1.more (Nat.le_succ _), h2, h3⟩, (HBW.out.mono hbas).trans h4⟩
          clear h1 h2 h3 h4
          go_wp2_with fail
          go_ret
          exact ⟨rfl, HF.out⟩
        · have HA := HASK.out k2 k3 wc HW2.out HBW.out hi
          rw [show bkV (bkG bs i) = .agg #[.pointer (some ⟨X, 0, none⟩), .pointer (some ⟨R, 0, none⟩)] from by unfold bkV; rw [hX, hR]] at HA
          have p1 : wc.cell? ⟨w.heap.size, 1, none⟩ = some (.int .i64 o.on) := cell_blk HOB.out rfl
          have p3 : wc.cell? ⟨w.heap.size, 3, none⟩ = some (.string o.s) := cell_blk HOB.out rfl
          have p4 : wc.cell? ⟨w.heap.size, 4, none⟩ = some (.int .u8 o.l0) := cell_blk HOB.out rfl
          have p5 : wc.cell? ⟨w.heap.size, 5, none⟩ = some (.int .u8 o.l1) := cell_blk HOB.out rfl
          have p6 : wc.cell? ⟨w.heap.size, 6, none⟩ = some (.int .u8 o.l2) := cell_blk HOB.out rfl
          have p7 : wc.cell? ⟨w.heap.size, 7, none⟩ = some (.int .i64 o.span) := cell_blk HOB.out rfl
          have p8 : wc.cell? ⟨w.heap.size, 8, none⟩ = some (.int .i64 o.keep) := cell_blk HOB.out rfl
          have p9 : wc.cell? ⟨w.heap.size, 9, none⟩ = some (.slice la ln lc) := cell_blk HOB.out rfl
          have p10 : wc.cell? ⟨w.heap.size, 10, none⟩ = some (.slice ba bn bc) := cell_blk HOB.out rfl
          have p11 : wc.cell? ⟨w.heap.size, 11, none⟩ = some (.int .i64 o.q.fr) := cell_blk HOB.out rfl
          have p12 : wc.cell? ⟨w.heap.size, 12, none⟩ = some (.int .i64 o.q.to) := cell_blk HOB.out rfl
          have p13 : wc.cell? ⟨w.heap.size, 13, none⟩ = some (.int .i64 o.q.step) := cell_blk HOB.out rfl
          have p14 : wc.cell? ⟨w.heap.size, 14, none⟩ = some (.string o.q.mt) := cell_blk HOB.out rfl
          have p15 : wc.cell? ⟨w.heap.size, 15, none⟩ = some (.string o.q.gb) := cell_blk HOB.out rfl
          clear e1 e2
          go_wp2_with fail
          refine HA.mono ?_
          clear HA
          rintro e w3 ⟨rfl, ⟨own', bv', bs', h1, h2, h3⟩, h4⟩
          have HF : Hid (Went w w3 base W D (N + 1) bs.length) := ⟨⟨own', bv', bs', h1, h2, h3⟩, (HBW.out.mono hbas).trans h4⟩
          clear h1 h2 h3 h4
          go_wp2_with fail
          go_ret
          exact ⟨rfl, HF.out⟩

end Go.Proofs.YthciddpljcbhiabGreatDoor

/- Walks: rows joined, a rule made right (garnerkeep). -/
namespace Go.Proofs.YthciddpljcbhiabGreatDoor
open Go Go.RowKit

/-- Numbers small enough to add. -/
def SmR (a : Ag) : Prop := 0 ≤ a.cnt ∧ a.cnt ≤ 1000000 ∧ -4000000000000000 ≤ a.sum ∧ a.sum ≤ 4000000000000000
theorem joinR_zero {a b : Rw} (h : a.ag.cnt = 0) : joinR a b = b := if_pos h
theorem joinR_more {a b : Rw} (h : ¬ a.ag.cnt = 0) : joinR a b = ⟨a.key, ⟨a.ag.cnt + b.ag.cnt, a.ag.sum + b.ag.sum, min a.ag.mn b.ag.mn, max a.ag.mx b.ag.mx⟩⟩ := if_neg h
theorem kgd_fin : ∀ r : Fin 3, ((((⟨#[107, 103, 100]⟩ : ByteArray)[r.val]'(show r.val < 3 from r.isLt)).toNat : Nat) : Int) = if r.val = 0 then 107 else if r.val = 1 then 103 else 100 := by decide
theorem kgd_get (m : Nat) (h : m % 3 < (⟨#[107, 103, 100]⟩ : ByteArray).size) : ((((⟨#[107, 103, 100]⟩ : ByteArray)[m % 3]'h).toNat : Nat) : Int) = rlB (m : Int) := by
  have h' : m % 3 < 3 := by omega
  have := kgd_fin ⟨m % 3, h'⟩
  simp only at this
  refine this.trans ?_
  unfold rlB
  by_cases e : (m : Int) % 3 = 0
  · rw [if_pos (by omega), if_pos e]
  · rw [if_neg (by omega), if_neg e]
    by_cases e1 : (m : Int) % 3 = 1
    · rw [if_pos (by omega), if_pos e1]
    · rw [if_neg (by omega), if_neg e1]
abbrev b3 (a b c : Int) : Obj := .cells #[.int .u8 a, .int .u8 b, .int .u8 c] 5
theorem wEqB {w : World} {a b c a' b' c' : Int} (h : a = a') (h1 : b = b') (h2 : c = c') : w.alloc (b3 a b c) = w.alloc (b3 a' b' c') := by rw [h, h1, h2]
theorem rl_in {raw : ByteArray} {i : Nat} (h : i < raw.size) : rl raw i = rlB (byt raw i) := if_pos h
theorem rl_out {raw : ByteArray} {i : Nat} (h : ¬ i < raw.size) : rl raw i = 107 := if_neg h

end Go.Proofs.YthciddpljcbhiabGreatDoor

/- Walks: a configuration made right. -/
namespace Go.Proofs.YthciddpljcbhiabGreatDoor
open Go Go.RowKit

/-- All numbers of levels that came in are numbers. -/
def LvWf2 (ls : List Lv) : Prop := ∀ i, (-9223372036854775808 ≤ (lvG ls i).age ∧ (lvG ls i).age ≤ 9223372036854775807) ∧ (-9223372036854775808 ≤ (lvG ls i).window ∧ (lvG ls i).window ≤ 9223372036854775807) ∧ (lvG ls i).rule.size ≤ maxLen ∧ -9223372036854775808 ≤ (lvG ls i).limit ∧ (lvG ls i).limit ≤ 9223372036854775807

theorem Lv.one (l : Lv) : ∀ v ∈ l.cells, v.oneCell' = true := by intro v hv; simp [Lv.cells] at hv; rcases hv with h | h | h | h <;> subst h <;> rfl
theorem flat_snocL (ls : List Lv) (l : Lv) : flat (ls ++ [l]) = flat ls ++ l.cells := flat_snoc _ _ _

/-- The boxes of config: what came in, the answer, what is made. -/
structure CfM (w wr : World) (span keep : Int) (a : Option Addr) (n cap : Nat) (K : Int) (v : Value) (acc : List Lv) : Prop where
  raw : wr.heap[w.heap.size]? = some (.cells #[.int .i64 span, .int .i64 keep, .slice a n cap] 40 (0, 0))
  res : wr.heap[w.heap.size + 1]? = some (.cells #[.int .i64 0, .int .i64 0, .slice none 0 0] 40 (0, 0))
  cfg : wr.heap[w.heap.size + 2]? = some (.cells #[.int .i64 0, .int .i64 K, v] 40 (0, 0))
  own : wr.ownsRow (w.heap.size + 3) 37 4 v acc.length (flat acc)
  bel : Below w.heap.size w wr
section
variable {w wr : World} {span keep : Int} {a : Option Addr} {n cap : Nat} {K : Int} {v : Value} {acc : List Lv}
theorem CfM.lt (h : CfM w wr span keep a n cap K v acc) : w.heap.size + 2 < wr.heap.size := (Array.getElem?_eq_some_iff.1 h.cfg).1
theorem CfM.kept (h : CfM w wr span keep a n cap K v acc) {w' : World} (hb : Below wr.heap.size wr w') : CfM w w' span keep a n cap K v acc := by
  have hl := h.lt
  exact ⟨by rw [hb.block _ (by omega)]; exact h.raw, by rw [hb.block _ (by omega)]; exact h.res, by rw [hb.block _ (by omega)]; exact h.cfg, owns_below h.own hb (fun k hk => (h.own.lt k hk).2), h.bel.trans (hb.mono h.bel.size)⟩
/-- A level more. -/
theorem CfM.put (h : CfM w wr span keep a n cap K v acc) {W w3 : World} {v' : Value} {l : Lv} (hb : Below wr.heap.size wr W) (hg : W.grownBy w3 v.ownBlock) (ho : w3.ownsRow (w.heap.size + 3) 37 4 v' (acc.length + 1) (flat acc ++ l.cells)) :
    CfM w (w3.setCell ⟨w.heap.size + 2, 2, none⟩ v') span keep a n cap K v' (acc ++ [l]) := by
  have hl := h.lt
  have hv : ∀ k, k < w.heap.size + 3 → v.ownBlock ≠ some k := fun k hk e => by have := (h.own.lt k e).1; omega
  have hv' : ∀ k, k < w.heap.size + 3 → v'.ownBlock ≠ some k := fun k hk e => by have := (ho.lt k e).1; omega
  have hk : ∀ k, k < w.heap.size + 3 → k ≠ w.heap.size + 2 → (w3.setCell ⟨w.heap.size + 2, 2, none⟩ v').heap[k]? = wr.heap[k]? := fun k h1 h2 => by
    rw [Below.heap_setCell _ _ _ _ h2]; exact gr_heap hb hg (by omega) (hv k h1)
  refine ⟨by rw [hk _ (by omega) (by omega)]; exact h.raw, by rw [hk _ (by omega) (by omega)]; exact h.res, ?_, ?_, ?_⟩
  · exact heap_setCell ((gr_heap hb hg (by omega) (hv _ (by omega))).trans h.cfg)
  · rw [show (acc ++ [l]).length = acc.length + 1 by simp, flat_snocL]
    exact owns_other ho (hv' _ (by omega))
  · have h1 : Below w.heap.size w W := h.bel.trans (hb.mono h.bel.size)
    exact (gr_below h1 hg h1.size (fun k e => by have := (h.own.lt k e).1; omega)).setCell (by show w.heap.size ≤ w.heap.size + 2; omega) _
end

theorem cf_step {keep : Int} {ls : List Lv} {k : Nat} (hk : k < ls.length) {first : Bool} {W A : Int} : cfL keep (ls.drop k) first W A = (if keep < nxA first (lvG ls k) A then [] else nxL first (lvG ls k) W A :: cfL keep (ls.drop (k + 1)) false (nxW (lvG ls k) W) (nxA first (lvG ls k) A)) ∧
    cfW keep (ls.drop k) first W A = (if keep < nxA first (lvG ls k) A then W else cfW keep (ls.drop (k + 1)) false (nxW (lvG ls k) W) (nxA first (lvG ls k) A)) := by
  have e : lvG ls k = ls[k] := by simp [lvG, List.getD, hk]
  rw [List.drop_eq_getElem_cons hk, e]
  exact ⟨rfl, rfl⟩
theorem cf_end {keep : Int} {ls : List Lv} {k : Nat} (hk : ls.length ≤ k) {first : Bool} {W A : Int} : cfL keep (ls.drop k) first W A = [] ∧ cfW keep (ls.drop k) first W A = W := by
  rw [List.drop_eq_nil_of_le hk]; exact ⟨rfl, rfl⟩
theorem lvG_take (ls : List Lv) (m k : Nat) (h : k < m) : lvG (ls.take m) k = lvG ls k := by
  simp [lvG, List.getD, h]

end Go.Proofs.YthciddpljcbhiabGreatDoor

/- Walks: a store opened. -/
namespace Go.Proofs.YthciddpljcbhiabGreatDoor
open Go Go.RowKit Go.Lib

theorem redo_empty (X : Nat) (w : World) : Calls Tryz.prog 24 #[.pointer (some ⟨X, 0, none⟩), .string ⟨#[]⟩] w fun e w' => e = .returned (.int .i64 0) ∧ w' = w := by
  go_enter Tryz.func24, Tryz.ntmps24
  go_wp2_with fail
  go_loopw [5] (fun i wr => i = .int .i64 0 ∧ wr = w) (fun _ _ => 0)
  case atStart => exact ⟨rfl, rfl⟩
  case round =>
    obtain ⟨rfl, rfl⟩ := hrel
    go_wp2_with fail
    go_ret
    exact ⟨rfl, rfl⟩

/-- A block that holds no element is owned. -/
theorem owns_none {w : World} {base : Nat} {e : TypeId} {size g : Nat} (hb : base ≤ g) (hg : w.heap[g]? = some (.cells #[] e (0, 0))) : w.ownsRow base e size (.slice (some ⟨g, 0, none⟩) 0 0) 0 [] :=
  ⟨by simp, .inr ⟨g, 0, #[], rfl, hb, hg, Nat.le_refl _, by unfold maxLen; omega, by simp, by simp⟩⟩

theorem pts_none (c : Cf) : (St.new c).pts = [] := by simp [St.pts, St.new]

/-- What a store made of a right configuration is. -/
theorem st_open {w W : World} {c : Cf} {B X L lcap : Nat} (hr : c.right = true) (hwf : LvWf c.lvs) (hX : W.heap[X]? = some (.cells (stC (St.new c) 0 L lcap (.slice none 0 0) (.slice none 0 0) (.slice none 0 0)) 87 (0, 0)))
    (ho : W.ownsRow B 37 4 (.slice (some ⟨L, 0, none⟩) c.lvs.length lcap) c.lvs.length (flat c.lvs)) (hB : B = w.heap.size) (hBX : B ≤ X) (hXL : X ≠ L) : StoreAt W X (fun k => w.heap.size ≤ k ∧ k < W.heap.size) (St.new c) ⟨#[]⟩ := by
  subst hB
  have hn : ∀ (k : Nat), (Value.slice none 0 0).ownBlock ≠ some k := fun k => by simp [Value.ownBlock]
  refine ⟨L, lcap, .slice none 0 0, .slice none 0 0, [], .slice none 0 0, ?_⟩
  exact { blk := hX, lv := lvAt_of (owns_at ho), pts := by rw [pts_none]; exact World.ownsRow_nil _ _ _ _, bok := World.ownsRow_nil _ _ _ _, log := World.ownsRow_nil _ _ _ _, lgl := by simp [St.new]; rfl,
          bOk := bookOk_new c, inv := inv_new hr, wf := hwf, XL := hXL, pX := hn _, pL := hn _, bX := hn _, bL := hn _, pb := fun k e => hn _, gX := hn _, gL := hn _, gp := fun _ _ => hn _, gb := fun _ _ => hn _,
          fX := ⟨hBX, (Array.getElem?_eq_some_iff.1 hX).1⟩, fL := ho.lt L rfl, fp := fun k e => absurd e (hn k), fb := fun k e => absurd e (hn k), fg := fun k e => absurd e (hn k) }

theorem op_after {w w1 w2 : World} {c : Cf} {b off n cap : Nat} (hlt1 : w.heap.size < w1.heap.size) (hW1 : Below w.heap.size w w1) (hbk : w1.heap[w.heap.size]? = some (.cells (cfC c b off n cap) 40 (0, 0))) (hg : (w1.alloc (.cells #[] 37)).grownBy w2 (some w1.heap.size)) :
    w2.heap[w.heap.size]? = some (.cells (cfC c b off n cap) 40 (0, 0)) ∧ Below w.heap.size w w2 := by
  refine ⟨?_, ?_⟩
  · rw [hg.block w.heap.size (by rw [World.size_alloc]; omega) (fun e => by have := Option.some.inj e; omega), Below.heap_alloc _ _ _ hlt1]
    exact hbk
  · exact gr_below (hW1.alloc (by omega) _) hg (by rw [World.size_alloc]; omega) (fun k e => by have := Option.some.inj e; omega)

set_option maxHeartbeats 1000000 in
set_option maxRecDepth 100000 in
theorem open_of (c : Cf) (b off n cap : Nat) (log : ByteArray) (s' : St) (lg' : ByteArray) (D : Int) (w : World) (hr : c.right = true) (hn : c.lvs.length = n) (hat : LvAt w b off c.lvs) (hwf : LvWf c.lvs)
    (hredo : ∀ W X F, StoreAt W X F (St.new c) ⟨#[]⟩ → (∀ k, F k → k < W.heap.size) → Calls Tryz.prog 24 #[.pointer (some ⟨X, 0, none⟩), .string log] W fun e W' => e = .returned (.int .i64 D) ∧ StoreAt W' X (gF F W W') s' lg' ∧ Fr F W W') :
    Calls Tryz.prog 10 #[.agg (cfC c b off n cap), .string log] w fun e w' => ∃ X, e = .returned (.tuple #[.pointer (some ⟨X, 0, none⟩), .int .i64 D, .int .i64 0]) ∧ StoreAt w' X (fun k => w.heap.size ≤ k ∧ k < w'.heap.size) s' lg' ∧ Below w.heap.size w w' := by
  obtain ⟨h1, h2, h3, h4, q1, q4, _⟩ := Cf.right_parts hr
  have HR : Hid (c.right = true) := hr
  have HN : Hid (c.lvs.length = n) := hn
  have HAT : Hid (LvAt w b off c.lvs) := hat
  have HWF : Hid (LvWf c.lvs) := hwf
  have HRE : Hid (∀ W X F, StoreAt W X F (St.new c) ⟨#[]⟩ → (∀ k, F k → k < W.heap.size) → Calls Tryz.prog 24 #[.pointer (some ⟨X, 0, none⟩), .string log] W fun e W' => e = .returned (.int .i64 D) ∧ StoreAt W' X (gF F W W') s' lg' ∧ Fr F W W') := hredo
  have hbs : b < w.heap.size := hat.block (by omega)
  have hn4 : n ≤ 4 := by omega
  have hn1 : 1 ≤ n := by omega
  obtain ⟨li0, hli, lz0, lz1, lz2⟩ := infP Tryz.info37'
  have HBX : Hid (Below w.heap.size w (w.alloc (.cells (cfC c b off n cap) 40))) := (Below.refl _ _).alloc (Nat.le_refl _) _
  clear hr hn hat hwf hredo
  go_enter Tryz.func10, Tryz.ntmps10
  go_wp2_with fail
  refine (cfgRight_any (some ⟨b, off, none⟩) n cap c.lvs c.span c.keep _ ⟨HN.out, fun _ => ⟨b, off, rfl, HAT.out.below HBX.out hbs⟩⟩ HWF.out).mono ?_
  rintro e w1 ⟨rfl, hb1⟩
  rw [show rightB c.span c.keep c.lvs = true from HR.out]
  have hz1 : w.heap.size + 1 ≤ w1.heap.size := by have := hb1.size; simpa using this
  have hbk : w1.heap[w.heap.size]? = some (.cells (cfC c b off n cap) 40 (0, 0)) := by rw [hb1.block _ (by simp)]; exact heap_alloc_new w _
  have HW1 : Hid (Below w.heap.size w w1) := HBX.out.trans (hb1.mono (by simp))
  have HAT1 : Hid (LvAt w1 b off c.lvs) := HAT.out.below HW1.out hbs
  have p0 : w1.cell? ⟨w.heap.size, 0, none⟩ = some (.int .i64 c.span) := cell_blk hbk rfl
  have p1 : w1.cell? ⟨w.heap.size, 1, none⟩ = some (.int .i64 c.keep) := cell_blk hbk rfl
  have p2 : w1.cell? ⟨w.heap.size, 2, none⟩ = some (.slice (some ⟨b, off, none⟩) n cap) := cell_blk hbk rfl
  have pz := froz_blk (o := 2) hbk
  have HBK : Hid (w1.heap[w.heap.size]? = some (.cells (cfC c b off n cap) 40 (0, 0))) := hbk
  have hne : w.heap.size ≠ w1.heap.size := by omega
  have hlt1 : w.heap.size < w1.heap.size := by omega
  clear hb1 hbk
  have HOW : Hid ((w1.alloc (.cells #[] 37)).ownsRow (w.heap.size + 1) 37 4 (.slice (some ⟨w1.heap.size, 0, none⟩) 0 0) 0 []) := owns_none (by omega) (heap_alloc_new w1 _)
  have HLA : Hid (∀ j u, (flat c.lvs)[j]? = some u → (w1.alloc (.cells #[] 37)).cell? ((⟨b, off, none⟩ : Addr).add j) = some u) := by
    intro j u hj
    rw [Addr.add_lit]
    exact cell_alloc1 (at_of_lv HAT1.out j u hj)
  go_wp2_with (refine listAppend rfl (.tmp 12) (.tmp 14) 38 rfl (w.heap.size + 1) 37 li0 (.agg #[.int .i64 0, .int .i64 0, .string ByteArray.empty, .int .i64 0]) 4 40 Tryz.underlying38 hli lz0 lz1 lz2 rfl (by decide) (.slice (some ⟨w1.heap.size, 0, none⟩) 0 0) 0 [] (by simp [Act.eval]) HOW.out ⟨b, off, none⟩ n cap (flat c.lvs) (by simp [Act.eval]) (by rw [flat_len, HN.out]) HLA.out (one_of Lv.cells Lv.one c.lvs) (by unfold maxLen; omega) (by omega) (by simp; omega) ?_; intro v' w2 hown hgrow hblk; rw [Nat.zero_add, List.nil_append] at hown; obtain ⟨L, lcap, rfl, hL1, hL2, _⟩ := ownBlockForm hown (by omega); obtain ⟨hbk2, hgr2⟩ := op_after hlt1 HW1.out HBK.out hgrow; have r0 : w2.cell? ⟨w.heap.size, 0, none⟩ = some (.int .i64 c.span) := cell_blk hbk2 rfl; have r1 : w2.cell? ⟨w.heap.size, 1, none⟩ = some (.int .i64 c.keep) := cell_blk hbk2 rfl; have r2 : w2.cell? ⟨w.heap.size, 2, none⟩ = some (.slice (some ⟨b, off, none⟩) n cap) := cell_blk hbk2 rfl; have rz : w2.frozen? ⟨w.heap.size, 2, none⟩ = false := froz_blk hbk2; have HOW2 : Hid (w2.ownsRow (w.heap.size + 1) 37 4 (.slice (some ⟨L, 0, none⟩) n lcap) n (flat c.lvs)) := hown; have HGR : Hid (Below w.heap.size w w2) := hgr2; clear hown hgrow hblk hbk2 hgr2)
  have HWL : Hid (w.heap.size < w2.heap.size) := by show _ < _; omega
  have HST : Hid (StoreAt ((w2.setCell ⟨w.heap.size, 2, none⟩ (.slice (some ⟨L, 0, none⟩) n lcap)).alloc (.cells (stC (St.new c) 0 L lcap (.slice none 0 0) (.slice none 0 0) (.slice none 0 0)) 87)) w2.heap.size (fun k => w.heap.size ≤ k ∧ k < ((w2.setCell ⟨w.heap.size, 2, none⟩ (.slice (some ⟨L, 0, none⟩) n lcap)).alloc (.cells (stC (St.new c) 0 L lcap (.slice none 0 0) (.slice none 0 0) (.slice none 0 0)) 87)).heap.size) (St.new c) ⟨#[]⟩) := by
    have hsz : (w2.setCell ⟨w.heap.size, 2, none⟩ (.slice (some ⟨L, 0, none⟩) n lcap)).heap.size = w2.heap.size := by simp [World.setCell]
    refine st_open (B := w.heap.size) (L := L) (lcap := lcap) HR.out HWF.out ?_ ?_ rfl (by omega) (by omega)
    · have e := heap_alloc_new (w2.setCell ⟨w.heap.size, 2, none⟩ (.slice (some ⟨L, 0, none⟩) n lcap)) (.cells (stC (St.new c) 0 L lcap (.slice none 0 0) (.slice none 0 0) (.slice none 0 0)) 87)
      rw [hsz] at e
      exact e
    · have e : (w2.setCell ⟨w.heap.size, 2, none⟩ (.slice (some ⟨L, 0, none⟩) n lcap)).ownsRow (w.heap.size + 1) 37 4 (.slice (some ⟨L, 0, none⟩) n lcap) n (flat c.lvs) := owns_other HOW2.out (fun e => by have h9 : L = w.heap.size := Option.some.inj e; omega)
      rw [HN.out]
      exact owns_base (e.alloc _) (fun k hk => by have h9 : L = k := Option.some.inj hk; omega)
  have HBW : Hid (Below w.heap.size w ((w2.setCell ⟨w.heap.size, 2, none⟩ (.slice (some ⟨L, 0, none⟩) n lcap)).alloc (.cells (stC (St.new c) 0 L lcap (.slice none 0 0) (.slice none 0 0) (.slice none 0 0)) 87))) := by
    refine (HGR.out.setCell (Nat.le_refl _) _).alloc ?_ _
    simp [World.setCell]; omega
  rw [show stC (St.new c) 0 L lcap (.slice none 0 0) (.slice none 0 0) (.slice none 0 0) = #[.int .i64 c.span, .int .i64 c.keep, .slice (some ⟨L, 0, none⟩) n lcap, .int .i64 0, .int .i64 0, .slice none 0 0, .slice none 0 0, .slice none 0 0] from by show #[_, _, _, _, _, _, _, _] = _; rw [show (St.new c).c = c from rfl, HN.out]; rfl] at HST HBW
  refine (HRE.out _ _ _ HST.out (fun k e => e.2)).mono ?_
  rintro e w3 ⟨rfl, hst, hfr⟩
  go_wp2_with fail
  go_ret3
  refine ⟨w2.heap.size, rfl, hst.mono (fun k e => ?_), HBW.out.trans (hfr.below (B := w.heap.size) HBW.out.size (fun k e => e.1))⟩
  rcases e with e | e
  · exact ⟨e.1, by have := hfr.size; omega⟩
  · exact ⟨by have := HBW.out.size; omega, e.2⟩

theorem open_empty (c : Cf) (b off n cap : Nat) (w : World) (hr : c.right = true) (hn : c.lvs.length = n) (hat : LvAt w b off c.lvs) (hwf : LvWf c.lvs) :
    Calls Tryz.prog 10 #[.agg (cfC c b off n cap), .string ⟨#[]⟩] w fun e w' => ∃ X, e = .returned (.tuple #[.pointer (some ⟨X, 0, none⟩), .int .i64 0, .int .i64 0]) ∧ StoreAt w' X (fun k => w.heap.size ≤ k ∧ k < w'.heap.size) (St.new c) ⟨#[]⟩ ∧ Below w.heap.size w w' :=
  open_of c b off n cap ⟨#[]⟩ (St.new c) ⟨#[]⟩ 0 w hr hn hat hwf fun W X F h _ => (redo_empty X W).mono fun _ _ ⟨he, hw⟩ => by
    subst hw
    exact ⟨he, h.mono (fun k e => .inl e), Fr.refl _ _⟩

end Go.Proofs.YthciddpljcbhiabGreatDoor

/- Walks: the document's Open of the empty log, and of a configuration that is not right (garnerref; the program's too). -/
namespace Go.Proofs.YthciddpljcbhiabGreatDoor
open Go Go.RowKit Go.Lib

theorem make37m (n : Nat) (h : n ≤ 7000000000000) : ∃ Z : List Value, Z.length = n * 4 ∧ ∀ w, (Instr.makeSlice 38 (.int .i64 (n : Int)) (.int .i64 (n : Int))).run Tryz.prog w =
    .ok (.slice (some ⟨w.heap.size, 0, none⟩) n n) (w.alloc (.cells Z.toArray 37)) := by
  have hinfo := Tryz.info37'
  cases hq : Tryz.prog.info? 37 with
  | none => simp [hq] at hinfo
  | some i =>
    simp only [hq, Option.map_some, Option.some.injEq, Prod.mk.injEq] at hinfo
    obtain ⟨hz, hs, hb⟩ := hinfo
    refine ⟨(madeCells (Value.cells (.agg #[.int .i64 0, .int .i64 0, .string ByteArray.empty, .int .i64 0])) (n * 4)).toList, by simp [size_madeCells], fun w => ?_⟩
    have hr := run_make (P := Tryz.prog) w 38 37 i _ Tryz.underlying38 hq hz .i64 .i64 (n : Int) (n : Int) (by omega) (by omega) (by rw [hb]; omega) (by omega)
    rw [hr, hs, Int.toNat_natCast]
/-- The copy of levels into a row that is known whole. -/
theorem copy37m (W : World) (Z : List Value) (g : Nat) (a : Addr) (n cap : Nat) (ls : List Lv) (hZ : Z.length = n * 4) (hn : ls.length = n) (hg : W.heap[g]? = some (.cells Z.toArray 37 (0, 0))) (hat : ∀ j u, (flat ls)[j]? = some u → W.cell? (a.add j) = some u) (ty : TypeId) :
    (Builtin.copy_ #[38, 38] ty #[.slice (some ⟨g, 0, none⟩) n n, .slice (some a) n cap]).run Tryz.prog W = .ok (goInt n) (W.setRow g (flat ls).toArray) := by
  rw [run_copyN (P := Tryz.prog) _ 38 38 ty 37 4 g 0 n n a n cap Z.toArray 37 (flat ls) Tryz.underlying38 Tryz.size37 hg (by rw [flat_len, hn]; congr 1; simp) hat (by simp [flat_len, hZ]; omega) (flat_one ls)]
  have : Nat.min n n = n := by simp
  rw [this]
  have hd : Z.drop (flat ls).length = [] := by rw [List.drop_eq_nil_iff, flat_len]; omega
  simp [hd]

theorem copy37a (X : World) (Z : List Value) (g : Nat) (b off n cap : Nat) (ls : List Lv) (hZ : Z.length = n * 4) (hn : ls.length = n) (hg : g = X.heap.size) (hat : LvAt X b off ls) (hb : b < X.heap.size) (ty : TypeId) :
    (Builtin.copy_ #[38, 38] ty #[.slice (some ⟨g, 0, none⟩) n n, .slice (some ⟨b, off, none⟩) n cap]).run Tryz.prog (X.alloc (.cells Z.toArray 37)).drew = .ok (goInt n) (X.alloc (.cells (flat ls).toArray 37)).drew := by
  subst hg
  rw [copy37m (X.alloc (.cells Z.toArray 37)).drew Z X.heap.size ⟨b, off, none⟩ n cap ls hZ hn (heap_alloc_new X _) (fun j u hj => ?_) ty]
  · congr 1
    show ((X.alloc (.cells Z.toArray 37)).setRow X.heap.size (flat ls).toArray).drew = _
    rw [setRow_alloc]
  · rw [Addr.add_lit]
    exact at_of_lv (hat.below ((Below.refl _ _).alloc (Nat.le_refl _) _) hb) j u hj

theorem unOk_none : unOk ⟨#[]⟩ = false := by
  cases h : unOk ⟨#[]⟩ with
  | false => rfl
  | true =>
    simp only [unOk, Bool.and_eq_true, headOk_iff] at h
    have h1 : 2 ≤ (⟨#[]⟩ : ByteArray).size := h.1.1
    exact absurd h1 (by decide)
theorem done_empty (R : Nat) (w : World) : Calls Tryz.prog 26 #[.pointer (some ⟨R, 0, none⟩), .string ⟨#[]⟩] w fun e w' => e = .returned (.int .i64 0) ∧ Below w.heap.size w w' := by
  go_enter Tryz.func26, Tryz.ntmps26
  go_wp2_with fail
  refine (refUnrecord_any ⟨#[]⟩ _ (by simp [ByteArray.size, maxLen])).mono ?_
  rintro e w1 ⟨hb1, ⟨hu, _⟩ | ⟨hu, rfl⟩⟩
  · exfalso
    rw [unOk_none] at hu
    cases hu
  · have HB : Hid (Below w.heap.size w w1) := hb1
    clear hb1 hu
    go_wp2_with fail
    go_ret
    exact ⟨rfl, HB.out⟩

theorem rf_new {W : World} {c : Cf} {R L lcap : Nat} {F : Nat → Prop} (hr : c.right = true) (hR : W.heap[R]? = some (.cells (rfC c L lcap (.slice none 0 0)) 73 (0, 0))) (hL : LvAt W L 0 c.lvs) (hRL : R ≠ L) (fR : F R) (fL : F L) : RfS W R F c [] L lcap (.slice none 0 0) :=
  have hn : ∀ (k : Nat), (Value.slice none 0 0).ownBlock ≠ some k := fun k => by simp [Value.ownBlock]
  { blk := hR, lv := hL, chg := World.ownsRow_nil _ _ _ _, bat := fun i hi => by simp at hi, inv := inv_new hr, tks := fun x hx => by simp at hx, RL := hRL, cR := hn _, cL := hn _, fR := fR, fL := fL, fc := fun k e => absurd e (hn k) }

theorem RfAt.mk {w : World} {R : Nat} {F F' : Nat → Prop} {c : Cf} {ps : List Cp} {L lcap : Nat} {cv : Value} (h : RfS w R F c ps L lcap cv) (hF : ∀ k, F k → F' k) : RfAt w R F' c (ps.map (·.1)) := by
  refine ⟨ps, L, lcap, cv, rfl, { h with bat := fun i hi => ?_, fR := hF _ h.fR, fL := hF _ h.fL, fc := fun k e => hF k (h.fc k e) }⟩
  obtain ⟨a, n, cap, h1, h3, h4, h5⟩ := h.bat i hi
  refine ⟨a, n, cap, h1, h3, h4, fun hp => ?_⟩
  obtain ⟨b, e, hb, r⟩ := h5 hp
  exact ⟨b, e, hF b hb, r⟩

/-- A configuration that is not right is refused. -/
theorem open_no (a : Option Addr) (n cap : Nat) (ls : List Lv) (span keep : Int) (log : ByteArray) (w : World) (h : IsLvs w a n ls) (hwf : LvWf ls) (hr : rightB span keep ls = false) :
    Calls Tryz.prog 10 #[.agg #[.int .i64 span, .int .i64 keep, .slice a n cap], .string log] w fun e w' => e = .returned (.tuple #[.pointer none, .int .i64 0, .int .i64 1]) ∧ Below w.heap.size w w' := by
  have HL : Hid (IsLvs (w.alloc (cfgO span keep a n cap)) a n ls) := lvs_alloc h _
  have HW : Hid (LvWf ls) := hwf
  have HR : Hid (rightB span keep ls = false) := hr
  clear h hwf hr
  go_enter Tryz.func10, Tryz.ntmps10
  go_wp2_with fail
  refine (cfgRight_any a n cap ls span keep _ HL.out HW.out).mono ?_
  rintro e w1 ⟨rfl, hb1⟩
  rw [HR.out]
  have HB : Hid (Below w.heap.size w w1) := ((Below.refl w.heap.size w).alloc (Nat.le_refl _) _).trans (hb1.mono (by simp))
  clear hb1
  go_wp2_with fail
  go_ret3
  exact ⟨rfl, HB.out⟩
theorem open_ref_no (a : Option Addr) (n cap : Nat) (ls : List Lv) (span keep : Int) (log : ByteArray) (w : World) (h : IsLvs w a n ls) (hwf : LvWf ls) (hr : rightB span keep ls = false) :
    Calls Tryz.prog 12 #[.agg #[.int .i64 span, .int .i64 keep, .slice a n cap], .string log] w fun e w' => e = .returned (.tuple #[.pointer none, .int .i64 0, .int .i64 1]) ∧ Below w.heap.size w w' := by
  have HL : Hid (IsLvs (w.alloc (cfgO span keep a n cap)) a n ls) := lvs_alloc h _
  have HW : Hid (LvWf ls) := hwf
  have HR : Hid (rightB span keep ls = false) := hr
  clear h hwf hr
  go_enter Tryz.func12, Tryz.ntmps12
  go_wp2_with fail
  refine (refRight_any a n cap ls span keep _ HL.out HW.out).mono ?_
  rintro e w1 ⟨rfl, hb1⟩
  rw [HR.out]
  have HB : Hid (Below w.heap.size w w1) := ((Below.refl w.heap.size w).alloc (Nat.le_refl _) _).trans (hb1.mono (by simp))
  clear hb1
  have hee : errR false = 1 := rfl
  rw [hee]
  clear hee
  go_wp2_with fail
  go_ret3
  exact ⟨rfl, HB.out⟩

set_option maxHeartbeats 1000000 in
set_option maxRecDepth 100000 in
theorem open_ref_new (a : Option Addr) (n cap : Nat) (ls : List Lv) (span keep : Int) (w : World) (h : IsLvs w a n ls) (hwf : LvWf ls) (hr : rightB span keep ls = true) :
    Calls Tryz.prog 12 #[.agg #[.int .i64 span, .int .i64 keep, .slice a n cap], .string ⟨#[]⟩] w fun e w' => ∃ R, e = .returned (.tuple #[.pointer (some ⟨R, 0, none⟩), .int .i64 0, .int .i64 0]) ∧ RfAt w' R (fun k => w.heap.size ≤ k ∧ k < w'.heap.size) ⟨span, keep, ls⟩ [] ∧ Below w.heap.size w w' := by
  obtain ⟨h1, h2, h3, h4, q1, q4, _⟩ := Cf.right_parts (c := ⟨span, keep, ls⟩) hr
  have q1' : 1 ≤ ls.length := q1
  have q4' : ls.length ≤ 4 := q4
  have hnl := h.1
  obtain ⟨b, off, rfl, hat⟩ := h.2 (by omega)
  have hbs : b < w.heap.size := hat.block (by omega)
  have HL : Hid (IsLvs (w.alloc (cfgO span keep (some ⟨b, off, none⟩) n cap)) (some ⟨b, off, none⟩) n ls) := lvs_alloc h _
  have HAT : Hid (LvAt w b off ls) := hat
  have HW : Hid (LvWf ls) := hwf
  have HR : Hid (rightB span keep ls = true) := hr
  have HN : Hid (ls.length = n) := hnl
  have hn4 : n ≤ 4 := by omega
  have hn1 : 1 ≤ n := by omega
  have HBX : Hid (Below w.heap.size w (w.alloc (cfgO span keep (some ⟨b, off, none⟩) n cap))) := (Below.refl _ _).alloc (Nat.le_refl _) _
  obtain ⟨Z, hZ, hmk⟩ := make37m n (by omega)
  have HZ : Hid (Z.length = n * 4) := hZ
  clear h hwf hr hat hZ q1 q4 q1' q4' hnl
  go_enter Tryz.func12, Tryz.ntmps12
  go_wp2_with fail
  refine (refRight_any (some ⟨b, off, none⟩) n cap ls span keep _ HL.out HW.out).mono ?_
  rintro e w1 ⟨rfl, hb1⟩
  rw [HR.out]
  have hee : errR true = 0 := rfl
  rw [hee]
  clear hee
  have hz1 : w.heap.size + 1 ≤ w1.heap.size := by have := hb1.size; simpa using this
  have hbk : w1.heap[w.heap.size]? = some (.cells #[.int .i64 span, .int .i64 keep, .slice (some ⟨b, off, none⟩) n cap] 40 (0, 0)) := by rw [hb1.block _ (by simp)]; exact heap_alloc_new w _
  have HW1 : Hid (Below w.heap.size w w1) := HBX.out.trans (hb1.mono (by simp))
  have p0 : w1.cell? ⟨w.heap.size, 0, none⟩ = some (.int .i64 span) := cell_blk hbk rfl
  have p1 : w1.cell? ⟨w.heap.size, 1, none⟩ = some (.int .i64 keep) := cell_blk hbk rfl
  have p2 : w1.cell? ⟨w.heap.size, 2, none⟩ = some (.slice (some ⟨b, off, none⟩) n cap) := cell_blk hbk rfl
  have hne : w.heap.size ≠ w1.heap.size := by omega
  have hlt1 : w.heap.size < w1.heap.size := by omega
  clear hb1 hbk
  go_wp2_with fail
  have hzR : (w1.alloc (.cells #[.int .i64 span, .int .i64 keep, .slice (some ⟨w1.heap.size + 1, 0, none⟩) n n, .slice none 0 0] 73)).heap.size = w1.heap.size + 1 := World.size_alloc _ _
  have hbR : Below w1.heap.size w1 (w1.alloc (.cells #[.int .i64 span, .int .i64 keep, .slice (some ⟨w1.heap.size + 1, 0, none⟩) n n, .slice none 0 0] 73)) := (Below.refl _ _).alloc (Nat.le_refl _) _
  have hblkR : (w1.alloc (.cells #[.int .i64 span, .int .i64 keep, .slice (some ⟨w1.heap.size + 1, 0, none⟩) n n, .slice none 0 0] 73)).heap[w1.heap.size]? = some (.cells #[.int .i64 span, .int .i64 keep, .slice (some ⟨w1.heap.size + 1, 0, none⟩) n n, .slice none 0 0] 73 (0, 0)) := heap_alloc_new _ _
  have r2 : (w1.alloc (.cells #[.int .i64 span, .int .i64 keep, .slice (some ⟨w1.heap.size + 1, 0, none⟩) n n, .slice none 0 0] 73)).cell? ⟨w1.heap.size, 2, none⟩ = some (.slice (some ⟨w1.heap.size + 1, 0, none⟩) n n) := cell_blk hblkR rfl
  have s2 : (w1.alloc (.cells #[.int .i64 span, .int .i64 keep, .slice (some ⟨w1.heap.size + 1, 0, none⟩) n n, .slice none 0 0] 73)).cell? ⟨w.heap.size, 2, none⟩ = some (.slice (some ⟨b, off, none⟩) n cap) := (hbR.cell (p := ⟨w.heap.size, 2, none⟩) hlt1).trans p2
  have HBR : Hid (Below w.heap.size w (w1.alloc (.cells #[.int .i64 span, .int .i64 keep, .slice (some ⟨w1.heap.size + 1, 0, none⟩) n n, .slice none 0 0] 73))) := HW1.out.trans (hbR.mono (by omega))
  generalize hX : w1.alloc (.cells #[.int .i64 span, .int .i64 keep, .slice (some ⟨w1.heap.size + 1, 0, none⟩) n n, .slice none 0 0] 73) = X at *
  clear hX hbR p0 p1 p2
  have hcp := fun ty => copy37a X Z (w1.heap.size + 1) b off n cap ls HZ.out HN.out hzR.symm (HAT.out.below HBR.out hbs) (by omega) ty
  have u2 : (X.alloc (.cells Z.toArray 37)).cell? ⟨w1.heap.size, 2, none⟩ = some (.slice (some ⟨w1.heap.size + 1, 0, none⟩) n n) := cell_alloc1 r2
  have v2 : (X.alloc (.cells Z.toArray 37)).cell? ⟨w.heap.size, 2, none⟩ = some (.slice (some ⟨b, off, none⟩) n cap) := cell_alloc1 s2
  have HBL : Hid (X.heap[w1.heap.size]? = some (.cells #[.int .i64 span, .int .i64 keep, .slice (some ⟨w1.heap.size + 1, 0, none⟩) n n, .slice none 0 0] 73 (0, 0))) := hblkR
  clear hblkR r2 s2
  have hX1 : w1.heap.size < X.heap.size := by omega
  go_region
  have hYs : (X.alloc (.cells (flat ls).toArray 37)).drew.heap.size = w1.heap.size + 1 + 1 := by show (X.alloc (.cells (flat ls).toArray 37)).heap.size = _; rw [World.size_alloc]; omega
  have HRF : Hid (RfS (X.alloc (.cells (flat ls).toArray 37)).drew w1.heap.size (fun k => w.heap.size ≤ k ∧ k < w1.heap.size + 1 + 1) ⟨span, keep, ls⟩ [] (w1.heap.size + 1) n (.slice none 0 0)) := by
    refine rf_new HR.out ?_ (lvAt_of (at_block (t := 37) (fr := (0, 0)) ?_)) (by omega) ⟨by omega, by omega⟩ ⟨by omega, by omega⟩
    · show (X.alloc (.cells (flat ls).toArray 37)).heap[w1.heap.size]? = _
      rw [Below.heap_alloc _ _ _ hX1, HBL.out]
      show some (Obj.cells #[.int .i64 span, .int .i64 keep, .slice (some ⟨w1.heap.size + 1, 0, none⟩) n n, .slice none 0 0] 73 (0, 0)) = some (Obj.cells #[.int .i64 span, .int .i64 keep, .slice (some ⟨w1.heap.size + 1, 0, none⟩) ls.length n, .slice none 0 0] 73 (0, 0))
      rw [HN.out]
    · show (X.alloc (.cells (flat ls).toArray 37)).heap[w1.heap.size + 1]? = _
      rw [← hzR]
      exact heap_alloc_new _ _
  have HBY : Hid (Below w.heap.size w (X.alloc (.cells (flat ls).toArray 37)).drew) := (HBR.out.alloc (by omega) _).drew
  generalize hY : (X.alloc (.cells (flat ls).toArray 37)).drew = Y at *
  clear hY hcp u2 v2 HBL hmk
  go_wp2_with fail
  go_loopw [9] (fun i wr => i = .int .i64 0 ∧ Below Y.heap.size Y wr) (fun _ _ => 0)
  case atStart => exact ⟨rfl, Below.refl _ _⟩
  case round =>
    obtain ⟨rfl, hb⟩ := hrel
    have HB : Hid (Below Y.heap.size Y wr) := hb
    clear hb
    go_wp2_with fail
    refine (done_empty w1.heap.size wr).mono ?_
    rintro e w5 ⟨rfl, hb5⟩
    have HB5 : Hid (Below Y.heap.size Y w5) := HB.out.trans (hb5.mono HB.out.size)
    clear hb5
    go_wp2_with fail
    go_ret3
    have hz5 := HB5.out.size
    exact ⟨w1.heap.size, rfl, RfAt.mk (HRF.out.below HB5.out) (fun k e => ⟨e.1, by omega⟩), HBY.out.trans (HB5.out.mono (by omega))⟩

end Go.Proofs.YthciddpljcbhiabGreatDoor

/- Walks: a store opened beside the document's (opened). -/
namespace Go.Proofs.YthciddpljcbhiabGreatDoor
open Go Go.RowKit Go.Lib

theorem Tryz.info62' : (Tryz.prog.info? 62).map (fun i => (i.zero, i.size, i.bytes)) = some (some (.agg #[.pointer none, .pointer none]), 2, 16) := by kernel_rfl

/-- A box of a configuration, behind calls that leave it. -/
theorem box3 {w w1 : World} {x0 x1 x2 : Value} {t : TypeId} (hb : Below (w.alloc (.cells #[x0, x1, x2] t)).heap.size (w.alloc (.cells #[x0, x1, x2] t)) w1) :
    w.heap.size < w1.heap.size ∧ w1.heap[w.heap.size]? = some (.cells #[x0, x1, x2] t (0, 0)) := by
  have hz := hb.size
  rw [World.size_alloc] at hb hz
  exact ⟨by omega, by rw [hb.block _ (by omega), heap_alloc_new]⟩

set_option maxHeartbeats 2000000 in
set_option maxRecDepth 100000 in
theorem opened_no (W : Nat) (a : Option Addr) (n cap : Nat) (ls : List Lv) (span keep : Int) (log : ByteArray) (w : World) (hl : IsLvs w a n ls) (hwf : LvWf ls) (hn7 : n ≤ 7000000000000) (hr : rightB span keep ls = false) :
    Calls Tryz.prog 6 #[.pointer (some ⟨W, 0, none⟩), .agg #[.int .i64 span, .int .i64 keep, .slice a n cap], .string log] w fun e w' => e = .returned (.bool true) ∧ Below w.heap.size w w' := by
  have H0 : Hid (IsLvs w a n ls) := hl
  have H1 : Hid (IsLvs (w.alloc (cfgO span keep a n cap)) a n ls) := lvs_alloc hl _
  have HW : Hid (LvWf ls) := hwf
  have HR : Hid (rightB span keep ls = false) := hr
  have HN : Hid (ls.length = n) := hl.1
  clear hl hwf hr
  go_enter Tryz.func6, Tryz.ntmps6
  go_wp2_with fail
  refine (handedConfig_use a n cap ls span keep _ H1.out hn7).mono ?_
  rintro e w1 ⟨g, rfl, hg, hh1, hsz1, hbel1⟩
  simp only [World.size_alloc] at hg
  obtain ⟨hlt1, hbk1⟩ := box3 hbel1
  have HB1 : Hid (Below w.heap.size w w1) := ((Below.refl _ _).alloc (Nat.le_refl _) _).trans (hbel1.mono (by simp))
  have HROW1 : Hid (Row w1 g ((n + 1) * 4)) := ⟨_, by simp [flat_len, HN.out], 37, hh1⟩
  have HAT1 : Hid (LvAt w1 g 0 (ls ++ [blotLv])) := lvAt_of (at_block hh1)
  have HBK1 : Hid (w1.heap[w.heap.size]? = some (.cells #[.int .i64 span, .int .i64 keep, .slice a n cap] 40 (0, 0))) := hbk1
  have p2 : w1.cell? ⟨w.heap.size, 2, none⟩ = some (.slice a n cap) := cell_blk hbk1 rfl
  have HS1 : Hid (w1.heap.size = g + 1) := hsz1
  clear hh1 hbel1 hbk1
  go_wp2_with fail
  have hal : Below w1.heap.size w1 (w1.alloc (cfgO span keep (some ⟨g, 0, none⟩) n (n + 1))) := (Below.refl _ _).alloc (Nat.le_refl _) _
  refine (open_no (some ⟨g, 0, none⟩) n (n + 1) ls span keep log _ ⟨HN.out, fun _ => ⟨g, 0, rfl, (lvAt_left HAT1.out).below hal (by omega)⟩⟩ HW.out HR.out).mono ?_
  rintro e w2 ⟨rfl, hb2⟩
  have hb12 : Below w1.heap.size w1 w2 := hal.trans (hb2.mono (by simp))
  have hz2 := hb12.size
  have HB2 : Hid (Below w.heap.size w w2) := HB1.out.trans (hb12.mono (by omega))
  have HROW2 : Hid (Row w2 g ((n + 1) * 4)) := HROW1.out.below hb12 (by omega)
  have HAT2 : Hid (LvAt w2 g 0 (ls ++ [blotLv])) := HAT1.out.below hb12 (by omega)
  have HBK2 : Hid (w2.heap[w.heap.size]? = some (.cells #[.int .i64 span, .int .i64 keep, .slice a n cap] 40 (0, 0))) := by show _ = _; rw [hb12.block _ hlt1]; exact HBK1.out
  have r2 : w2.cell? ⟨w.heap.size, 2, none⟩ = some (.slice a n cap) := cell_blk HBK2.out rfl
  clear hal hb2 hb12 p2 HROW1 HAT1 HBK1
  go_wp2_with fail
  refine (stillConfig_fr a g n cap ls w2 HN.out hn7 HAT2.out HROW2.out (H0.out.from HB2.out)).mono ?_
  rintro e w3 ⟨rfl, hf3⟩
  have HB3 : Hid (Below w.heap.size w w3) := HB2.out.trans (hf3.below (by omega) (fun k e => by omega))
  have hbk3 : w3.heap[w.heap.size]? = some (.cells #[.int .i64 span, .int .i64 keep, .slice a n cap] 40 (0, 0)) := by rw [hf3.block _ (by omega) (by omega)]; exact HBK2.out
  have t0 : w3.cell? ⟨w.heap.size, 0, none⟩ = some (.int .i64 span) := cell_blk hbk3 rfl
  have t1 : w3.cell? ⟨w.heap.size, 1, none⟩ = some (.int .i64 keep) := cell_blk hbk3 rfl
  have t2 : w3.cell? ⟨w.heap.size, 2, none⟩ = some (.slice a n cap) := cell_blk hbk3 rfl
  have hz3 := hf3.size
  clear hf3 hbk3 r2 HROW2 HAT2 HBK2
  go_wp2_with fail
  refine (open_ref_no a n cap ls span keep log w3 (H0.out.from HB3.out) HW.out HR.out).mono ?_
  rintro e w4 ⟨rfl, hb4⟩
  have HB4 : Hid (Below w.heap.size w w4) := HB3.out.trans (hb4.mono (by omega))
  clear hb4 t0 t1 t2
  go_wp2_with (go_at_call 13; refine (num_law2 _ _).mono ?_; rintro e w' ⟨rfl, rfl⟩)
  go_ret
  exact ⟨rfl, HB4.out⟩

set_option maxHeartbeats 2000000 in
set_option maxRecDepth 100000 in
theorem opened_fr (own : Nat → Nat) (base W D : Nat) (bv : Value) (bs : List Bk) (N : Nat) (a : Option Addr) (n cap : Nat) (ls : List Lv) (span keep : Int) (log : ByteArray) (Dn : Int) (s' : St) (lg' : ByteArray) (cs' : List Chg) (w : World)
    (h : WdAt w own base W D bv bs N) (hl : IsLvs w a n ls) (hr : rightB span keep ls = true) (hbs : bs.length ≤ 2000000000000)
    (hO : ∀ (V : World) (b : Nat), LvAt V b 0 ls → Calls Tryz.prog 10 #[.agg #[.int .i64 span, .int .i64 keep, .slice (some ⟨b, 0, none⟩) n (n + 1)], .string log] V fun e w' => ∃ X, e = .returned (.tuple #[.pointer (some ⟨X, 0, none⟩), .int .i64 Dn, .int .i64 0]) ∧ StoreAt w' X (fun k => V.heap.size ≤ k ∧ k < w'.heap.size) s' lg' ∧ Below V.heap.size V w')
    (hR : ∀ V : World, IsLvs V a n ls → Calls Tryz.prog 12 #[.agg #[.int .i64 span, .int .i64 keep, .slice a n cap], .string log] V fun e w' => ∃ R, e = .returned (.tuple #[.pointer (some ⟨R, 0, none⟩), .int .i64 Dn, .int .i64 0]) ∧ RfAt w' R (fun k => V.heap.size ≤ k ∧ k < w'.heap.size) ⟨span, keep, ls⟩ cs' ∧ Below V.heap.size V w') :
    Calls Tryz.prog 6 #[.pointer (some ⟨W, 0, none⟩), .agg #[.int .i64 span, .int .i64 keep, .slice a n cap], .string log] w fun e w' => e = .returned (.bool true) ∧ (∃ own' bv' X R, WdAt w' own' base W D bv' (bs ++ [⟨X, R, ⟨span, keep, ls⟩, cs', s', lg'⟩]) N) ∧ Below base w w' ∧ Fr (fun k => own k = 1 ∨ own k = 2) w w' := by
  obtain ⟨_, _, _, _, q1, q4, _⟩ := Cf.right_parts (c := ⟨span, keep, ls⟩) hr
  have q1' : 1 ≤ ls.length := q1
  have q4' : ls.length ≤ 4 := q4
  have hnl := hl.1
  have hn4 : n ≤ 4 := by omega
  have H : Hid (WdAt w own base W D bv bs N) := h
  have H0 : Hid (IsLvs w a n ls) := hl
  have H1 : Hid (IsLvs (w.alloc (cfgO span keep a n cap)) a n ls) := lvs_alloc hl _
  have HN : Hid (ls.length = n) := hl.1
  have HO : Hid (∀ (V : World) (b : Nat), LvAt V b 0 ls → Calls Tryz.prog 10 #[.agg #[.int .i64 span, .int .i64 keep, .slice (some ⟨b, 0, none⟩) n (n + 1)], .string log] V fun e w' => ∃ X, e = .returned (.tuple #[.pointer (some ⟨X, 0, none⟩), .int .i64 Dn, .int .i64 0]) ∧ StoreAt w' X (fun k => V.heap.size ≤ k ∧ k < w'.heap.size) s' lg' ∧ Below V.heap.size V w') := hO
  have HRf : Hid (∀ V : World, IsLvs V a n ls → Calls Tryz.prog 12 #[.agg #[.int .i64 span, .int .i64 keep, .slice a n cap], .string log] V fun e w' => ∃ R, e = .returned (.tuple #[.pointer (some ⟨R, 0, none⟩), .int .i64 Dn, .int .i64 0]) ∧ RfAt w' R (fun k => V.heap.size ≤ k ∧ k < w'.heap.size) ⟨span, keep, ls⟩ cs' ∧ Below V.heap.size V w') := hR
  obtain ⟨li0, hli, lz0, lz1, lz2⟩ := infP Tryz.info62'
  have hWw := h.Wlt
  clear hl hr h hO hR q1 q4 q1' q4' hnl
  go_enter Tryz.func6, Tryz.ntmps6
  go_wp2_with fail
  refine (handedConfig_use a n cap ls span keep _ H1.out (by omega)).mono ?_
  rintro e w1 ⟨g, rfl, hg, hh1, hsz1, hbel1⟩
  simp only [World.size_alloc] at hg
  obtain ⟨hlt1, hbk1⟩ := box3 hbel1
  have HB1 : Hid (Below w.heap.size w w1) := ((Below.refl _ _).alloc (Nat.le_refl _) _).trans (hbel1.mono (by simp))
  have HROW1 : Hid (Row w1 g ((n + 1) * 4)) := ⟨_, by simp [flat_len, HN.out], 37, hh1⟩
  have HAT1 : Hid (LvAt w1 g 0 (ls ++ [blotLv])) := lvAt_of (at_block hh1)
  have HBK1 : Hid (w1.heap[w.heap.size]? = some (.cells #[.int .i64 span, .int .i64 keep, .slice a n cap] 40 (0, 0))) := hbk1
  have p2 : w1.cell? ⟨w.heap.size, 2, none⟩ = some (.slice a n cap) := cell_blk hbk1 rfl
  have HS1 : Hid (w1.heap.size = g + 1) := hsz1
  clear hh1 hbel1 hbk1
  go_wp2_with fail
  have hal : Below w1.heap.size w1 (w1.alloc (cfgO span keep (some ⟨g, 0, none⟩) n (n + 1))) := (Below.refl _ _).alloc (Nat.le_refl _) _
  refine (HO.out (w1.alloc (cfgO span keep (some ⟨g, 0, none⟩) n (n + 1))) g ((lvAt_left HAT1.out).below hal (by omega))).mono ?_
  rintro e w2 ⟨X, rfl, hst, hb2⟩
  rw [World.size_alloc] at hst hb2
  have hb12 : Below w1.heap.size w1 w2 := hal.trans (hb2.mono (by simp))
  have hz2 := hb2.size
  rw [World.size_alloc] at hz2
  have HB2 : Hid (Below w.heap.size w w2) := HB1.out.trans (hb12.mono (by omega))
  have HROW2 : Hid (Row w2 g ((n + 1) * 4)) := HROW1.out.below hb12 (by omega)
  have HAT2 : Hid (LvAt w2 g 0 (ls ++ [blotLv])) := HAT1.out.below hb12 (by omega)
  have HBK2 : Hid (w2.heap[w.heap.size]? = some (.cells #[.int .i64 span, .int .i64 keep, .slice a n cap] 40 (0, 0))) := by show _ = _; rw [hb12.block _ hlt1]; exact HBK1.out
  have HST2 : Hid (StoreAt w2 X (fun k => w1.heap.size + 1 ≤ k ∧ k < w2.heap.size) s' lg') := hst
  have r2 : w2.cell? ⟨w.heap.size, 2, none⟩ = some (.slice a n cap) := cell_blk HBK2.out rfl
  clear hal hb2 hb12 p2 HROW1 HAT1 HBK1 hst
  go_wp2_with fail
  refine (stillConfig_fr a g n cap ls w2 HN.out (by omega) HAT2.out HROW2.out (H0.out.from HB2.out)).mono ?_
  rintro e w3 ⟨rfl, hf3⟩
  have HB3 : Hid (Below w.heap.size w w3) := HB2.out.trans (hf3.below (by omega) (fun k e => by omega))
  have hbk3 : w3.heap[w.heap.size]? = some (.cells #[.int .i64 span, .int .i64 keep, .slice a n cap] 40 (0, 0)) := by rw [hf3.block _ (by omega) (by omega)]; exact HBK2.out
  have HST3 : Hid (StoreAt w3 X (fun k => w1.heap.size + 1 ≤ k ∧ k < w2.heap.size) s' lg') := HST2.out.went hf3 (fun k e => by omega) (fun _ e => e)
  have t0 : w3.cell? ⟨w.heap.size, 0, none⟩ = some (.int .i64 span) := cell_blk hbk3 rfl
  have t1 : w3.cell? ⟨w.heap.size, 1, none⟩ = some (.int .i64 keep) := cell_blk hbk3 rfl
  have t2 : w3.cell? ⟨w.heap.size, 2, none⟩ = some (.slice a n cap) := cell_blk hbk3 rfl
  have hz3 := hf3.size
  clear hf3 hbk3 r2 HROW2 HAT2 HBK2 HST2
  go_wp2_with fail
  refine (HRf.out w3 (H0.out.from HB3.out)).mono ?_
  rintro e w4 ⟨R, rfl, hrf, hb4⟩
  have hz4 := hb4.size
  have HB4 : Hid (Below w.heap.size w w4) := HB3.out.trans (hb4.mono (by omega))
  have HST4 : Hid (StoreAt w4 X (fun k => w1.heap.size + 1 ≤ k ∧ k < w2.heap.size) s' lg') := HST3.out.below hb4
  have HRF4 : Hid (RfAt w4 R (fun k => w3.heap.size ≤ k ∧ k < w4.heap.size) ⟨span, keep, ls⟩ cs') := hrf
  have HW4 : Hid (WdAt w4 own base W D bv bs N) := H.out.below HB4.out
  obtain ⟨va, vc, rfl⟩ := ownForm H.out.row
  have c0 : w4.cell? ⟨W, 0, none⟩ = some (.slice va bs.length vc) := cell_blk HW4.out.wb rfl
  have z0 : w4.frozen? ⟨W, 0, none⟩ = false := froz_blk HW4.out.wb
  have hW4 := HW4.out.Wlt
  have hb5 : Below w4.heap.size w4 (w4.alloc (.cells (bkC ⟨X, R, ⟨span, keep, ls⟩, cs', s', lg'⟩).toArray 62)) := (Below.refl _ _).alloc (Nat.le_refl _) _
  have HB5 : Hid (Below w.heap.size w (w4.alloc (.cells (bkC ⟨X, R, ⟨span, keep, ls⟩, cs', s', lg'⟩).toArray 62))) := HB4.out.trans (hb5.mono (by omega))
  have HW5 : Hid (WdAt (w4.alloc (.cells (bkC ⟨X, R, ⟨span, keep, ls⟩, cs', s', lg'⟩).toArray 62)) own base W D (.slice va bs.length vc) bs N) := HW4.out.below hb5
  have HST5 : Hid (StoreAt (w4.alloc (.cells (bkC ⟨X, R, ⟨span, keep, ls⟩, cs', s', lg'⟩).toArray 62)) X (fun k => w1.heap.size + 1 ≤ k ∧ k < w2.heap.size) s' lg') := HST4.out.below hb5
  have HRF5 : Hid (RfAt (w4.alloc (.cells (bkC ⟨X, R, ⟨span, keep, ls⟩, cs', s', lg'⟩).toArray 62)) R (fun k => w3.heap.size ≤ k ∧ k < w4.heap.size) ⟨span, keep, ls⟩ cs') := HRF4.out.keep (Fr.of_below (S := fun _ => False) hb5) (fun _ _ e => e) (fun _ e => e)
  have HNW : Hid (∀ j u, (bkC ⟨X, R, ⟨span, keep, ls⟩, cs', s', lg'⟩)[j]? = some u → (w4.alloc (.cells (bkC ⟨X, R, ⟨span, keep, ls⟩, cs', s', lg'⟩).toArray 62)).cell? ((⟨w4.heap.size, 0, none⟩ : Addr).add j) = some u) := newAt _ _ _ _ rfl
  have HWR : Hid ((Value.slice va bs.length vc).ownBlock ≠ some W) := fun e => by have h1 := H.out.orow W e; have h2 := H.out.oW; omega
  have d0 : (w4.alloc (.cells (bkC ⟨X, R, ⟨span, keep, ls⟩, cs', s', lg'⟩).toArray 62)).cell? ⟨W, 0, none⟩ = some (.slice va bs.length vc) := (hb5.cell (p := ⟨W, 0, none⟩) hW4).trans c0
  have y0 : (w4.alloc (.cells (bkC ⟨X, R, ⟨span, keep, ls⟩, cs', s', lg'⟩).toArray 62)).frozen? ⟨W, 0, none⟩ = false := (World.frozen?_of_block (hb5.block W hW4)).trans z0
  have hlt5 : W < (w4.alloc (.cells (bkC ⟨X, R, ⟨span, keep, ls⟩, cs', s', lg'⟩).toArray 62)).heap.size := by rw [World.size_alloc]; omega
  have hz5 : (w4.alloc (.cells (bkC ⟨X, R, ⟨span, keep, ls⟩, cs', s', lg'⟩).toArray 62)).heap.size = w4.heap.size + 1 := World.size_alloc _ _
  clear hb4 hb5 t0 t1 t2 hrf HST3
  go_upto_region 8 with (go_at_call 13; refine (num_law2 _ _).mono ?_; rintro e w' ⟨rfl, rfl⟩)
  go_wp2_with (refine listAppend rfl (.tmp 65) (.tmp 69) 32 rfl 0 62 li0 (.agg #[.pointer none, .pointer none]) 2 16 Tryz.underlying32 hli lz0 lz1 lz2 rfl (by decide) (.slice va bs.length vc) bs.length (flatK bs) (by simp [Act.eval]) HW5.out.row ⟨w4.heap.size, 0, none⟩ 1 1 (bkC ⟨X, R, ⟨span, keep, ls⟩, cs', s', lg'⟩) (by simp [Act.eval]) rfl HNW.out (by simp [bkC, Value.oneCell']) (by unfold maxLen; omega) (by omega) (Nat.zero_le _) ?_; intro sv' w6 hown hgrow hblk; have d4 : w6.cell? ⟨W, 0, none⟩ = some (.slice va bs.length vc) := hgrow.cell d0 (fun e => HWR.out e.symm); have z4 : w6.frozen? ⟨W, 0, none⟩ = false := (World.frozen?_of_block (hgrow.block W hlt5 (fun e => HWR.out e.symm))).trans y0; obtain ⟨a', p', rfl⟩ := ownForm hown)
  go_ret
  obtain ⟨own', hw', hbw⟩ := H.out.add (b := ⟨X, R, ⟨span, keep, ls⟩, cs', s', lg'⟩) HB5.out (F := fun k => w1.heap.size + 1 ≤ k ∧ k < w2.heap.size) (G := fun k => w3.heap.size ≤ k ∧ k < w4.heap.size) (fun k e => ⟨by omega, by omega, fun e' => by omega⟩) (fun k e => ⟨by omega, by omega⟩) HST5.out HRF5.out hgrow hown hblk
  exact ⟨rfl, ⟨own', _, X, R, hw'⟩, hbw, ((Fr.of_below HB5.out).grown hgrow (fun k e => .inl (.inr (H.out.orow k e)))).setCell (.inl (.inl H.out.oW)) _⟩
theorem opened_yes (own : Nat → Nat) (base W D : Nat) (bv : Value) (bs : List Bk) (N : Nat) (a : Option Addr) (n cap : Nat) (ls : List Lv) (span keep : Int) (log : ByteArray) (Dn : Int) (s' : St) (lg' : ByteArray) (cs' : List Chg) (w : World)
    (h : WdAt w own base W D bv bs N) (hl : IsLvs w a n ls) (hr : rightB span keep ls = true) (hbs : bs.length ≤ 2000000000000)
    (hO : ∀ (V : World) (b : Nat), LvAt V b 0 ls → Calls Tryz.prog 10 #[.agg #[.int .i64 span, .int .i64 keep, .slice (some ⟨b, 0, none⟩) n (n + 1)], .string log] V fun e w' => ∃ X, e = .returned (.tuple #[.pointer (some ⟨X, 0, none⟩), .int .i64 Dn, .int .i64 0]) ∧ StoreAt w' X (fun k => V.heap.size ≤ k ∧ k < w'.heap.size) s' lg' ∧ Below V.heap.size V w')
    (hR : ∀ V : World, IsLvs V a n ls → Calls Tryz.prog 12 #[.agg #[.int .i64 span, .int .i64 keep, .slice a n cap], .string log] V fun e w' => ∃ R, e = .returned (.tuple #[.pointer (some ⟨R, 0, none⟩), .int .i64 Dn, .int .i64 0]) ∧ RfAt w' R (fun k => V.heap.size ≤ k ∧ k < w'.heap.size) ⟨span, keep, ls⟩ cs' ∧ Below V.heap.size V w') :
    Calls Tryz.prog 6 #[.pointer (some ⟨W, 0, none⟩), .agg #[.int .i64 span, .int .i64 keep, .slice a n cap], .string log] w fun e w' => e = .returned (.bool true) ∧ (∃ own' bv' X R, WdAt w' own' base W D bv' (bs ++ [⟨X, R, ⟨span, keep, ls⟩, cs', s', lg'⟩]) N) ∧ Below base w w' := by
  refine (opened_fr own base W D bv bs N a n cap ls span keep log Dn s' lg' cs' w h hl hr hbs hO hR).mono ?_
  rintro e w' ⟨h1, h2, h3, _⟩
  exact ⟨h1, h2, h3⟩

end Go.Proofs.YthciddpljcbhiabGreatDoor

/- Walks: a question that is Now, or none (asked); a step that opens a store of the empty log (step). -/
namespace Go.Proofs.YthciddpljcbhiabGreatDoor
open Go Go.RowKit Go.Lib

/-- The two boxes of a question. -/
theorem box2q (w : World) (b : Bk) (o : Opr) (la : Option Addr) (ln lc : Nat) (ba : Option Addr) (bn bc : Nat) :
    ((w.alloc (.cells #[.pointer (some ⟨b.X, 0, none⟩), .pointer (some ⟨b.R, 0, none⟩)] 62)).alloc (.cells (opC o la ln lc ba bn bc).toArray 47)).heap[w.heap.size]? = some (.cells #[.pointer (some ⟨b.X, 0, none⟩), .pointer (some ⟨b.R, 0, none⟩)] 62 (0, 0)) ∧
    ((w.alloc (.cells #[.pointer (some ⟨b.X, 0, none⟩), .pointer (some ⟨b.R, 0, none⟩)] 62)).alloc (.cells (opC o la ln lc ba bn bc).toArray 47)).heap[w.heap.size + 1]? = some (.cells (opC o la ln lc ba bn bc).toArray 47 (0, 0)) ∧
    Below w.heap.size w ((w.alloc (.cells #[.pointer (some ⟨b.X, 0, none⟩), .pointer (some ⟨b.R, 0, none⟩)] 62)).alloc (.cells (opC o la ln lc ba bn bc).toArray 47)) := by
  refine ⟨?_, ?_, ((Below.refl _ _).alloc (Nat.le_refl _) _).alloc (by simp) _⟩
  · rw [Below.heap_alloc _ _ _ (by simp)]
    exact heap_alloc_new _ _
  · have := heap_alloc_new (w.alloc (.cells #[.pointer (some ⟨b.X, 0, none⟩), .pointer (some ⟨b.R, 0, none⟩)] 62)) (.cells (opC o la ln lc ba bn bc).toArray 47)
    simpa only [World.size_alloc] using this

set_option maxHeartbeats 1000000 in
set_option maxRecDepth 100000 in
theorem asked_now (own : Nat → Nat) (base W D : Nat) (bv : Value) (bs : List Bk) (N : Nat) (i : Nat) (o : Opr) (la : Option Addr) (ln lc : Nat) (ba : Option Addr) (bn bc : Nat) (w : World) (h : WdAt w own base W D bv bs N) (hok : AllOk bs) (hi : i < bs.length) (hk : o.kind = 4) :
    Calls Tryz.prog 22 #[.pointer (some ⟨W, 0, none⟩), bkV (bkG bs i), opV o la ln lc ba bn bc] w fun e w' => e = .returned (.bool true) ∧ Went w w' base W D (N + 1) bs.length := by
  obtain ⟨hb0, hb1, hb2⟩ := box2q w (bkG bs i) o la ln lc ba bn bc
  have HOK : Hid (AllOk bs) := hok
  have hbas := h.bas
  have H0 : Hid (WdAt ((w.alloc (.cells #[.pointer (some ⟨(bkG bs i).X, 0, none⟩), .pointer (some ⟨(bkG bs i).R, 0, none⟩)] 62)).alloc (.cells (opC o la ln lc ba bn bc).toArray 47)) own base W D bv bs N) := h.below hb2
  obtain ⟨e1, e2⟩ := hok i hi
  have HNX := now_any (bkG bs i).X _ (bkG bs i).s _ (H0.out.st i hi)
  have HNR := nw_ref _ (H0.out.rf i hi)
  rw [← e1] at HNR
  have HB : Hid (Below w.heap.size w ((w.alloc (.cells #[.pointer (some ⟨(bkG bs i).X, 0, none⟩), .pointer (some ⟨(bkG bs i).R, 0, none⟩)] 62)).alloc (.cells (opC o la ln lc ba bn bc).toArray 47))) := hb2
  have HB0 : Hid (((w.alloc (.cells #[.pointer (some ⟨(bkG bs i).X, 0, none⟩), .pointer (some ⟨(bkG bs i).R, 0, none⟩)] 62)).alloc (.cells (opC o la ln lc ba bn bc).toArray 47)).heap[w.heap.size]? = some (.cells #[.pointer (some ⟨(bkG bs i).X, 0, none⟩), .pointer (some ⟨(bkG bs i).R, 0, none⟩)] 62 (0, 0))) := hb0
  have HB1 : Hid (((w.alloc (.cells #[.pointer (some ⟨(bkG bs i).X, 0, none⟩), .pointer (some ⟨(bkG bs i).R, 0, none⟩)] 62)).alloc (.cells (opC o la ln lc ba bn bc).toArray 47)).heap[w.heap.size + 1]? = some (.cells (opC o la ln lc ba bn bc).toArray 47 (0, 0))) := hb1
  clear h hok hb0 hb1 hb2 e1 e2
  generalize (bkG bs i).s.now = nw at *
  go_enter Tryz.func22, Tryz.ntmps22
  go_upto_region 1 with fail
  generalize (w.alloc (.cells #[.pointer (some ⟨(bkG bs i).X, 0, none⟩), .pointer (some ⟨(bkG bs i).R, 0, none⟩)] 62)).alloc (.cells (opC o la ln lc ba bn bc).toArray 47) = w0 at *
  have c0 : w0.cell? ⟨w.heap.size, 0, none⟩ = some (.pointer (some ⟨(bkG bs i).X, 0, none⟩)) := cell_blk HB0.out rfl
  have c1 : w0.cell? ⟨w.heap.size, 1, none⟩ = some (.pointer (some ⟨(bkG bs i).R, 0, none⟩)) := cell_blk HB0.out rfl
  have p0 : w0.cell? ⟨w.heap.size + 1, 0, none⟩ = some (.int .i64 o.kind) := cell_blk HB1.out rfl
  rw [hk] at p0
  go_wp2_with fail
  refine HNX.mono ?_
  rintro e w1 ⟨rfl, h1⟩
  obtain rfl := h1.symm
  clear HNX
  go_wp2_with fail
  refine HNR.mono ?_
  rintro e w2 ⟨rfl, h2⟩
  obtain rfl := h2.symm
  clear HNR
  go_wp2_with fail
  go_ret
  exact ⟨rfl, ⟨_, _, _, H0.out.more (Nat.le_succ _), HOK.out, Nat.le_refl _⟩, HB.out.mono hbas⟩

set_option maxHeartbeats 1000000 in
set_option maxRecDepth 100000 in
theorem asked_none (own : Nat → Nat) (base W D : Nat) (bv : Value) (bs : List Bk) (N : Nat) (i : Nat) (o : Opr) (la : Option Addr) (ln lc : Nat) (ba : Option Addr) (bn bc : Nat) (w : World) (h : WdAt w own base W D bv bs N) (hok : AllOk bs) (k4 : o.kind ≠ 4) (k5 : o.kind ≠ 5) (k6 : o.kind ≠ 6) (k7 : o.kind ≠ 7) :
    Calls Tryz.prog 22 #[.pointer (some ⟨W, 0, none⟩), bkV (bkG bs i), opV o la ln lc ba bn bc] w fun e w' => e = .returned (.bool true) ∧ Went w w' base W D (N + 1) bs.length := by
  obtain ⟨hb0, hb1, hb2⟩ := box2q w (bkG bs i) o la ln lc ba bn bc
  have HOK : Hid (AllOk bs) := hok
  have hbas := h.bas
  have H0 : Hid (WdAt ((w.alloc (.cells #[.pointer (some ⟨(bkG bs i).X, 0, none⟩), .pointer (some ⟨(bkG bs i).R, 0, none⟩)] 62)).alloc (.cells (opC o la ln lc ba bn bc).toArray 47)) own base W D bv bs N) := h.below hb2
  have HB : Hid (Below w.heap.size w ((w.alloc (.cells #[.pointer (some ⟨(bkG bs i).X, 0, none⟩), .pointer (some ⟨(bkG bs i).R, 0, none⟩)] 62)).alloc (.cells (opC o la ln lc ba bn bc).toArray 47))) := hb2
  have HB1 : Hid (((w.alloc (.cells #[.pointer (some ⟨(bkG bs i).X, 0, none⟩), .pointer (some ⟨(bkG bs i).R, 0, none⟩)] 62)).alloc (.cells (opC o la ln lc ba bn bc).toArray 47)).heap[w.heap.size + 1]? = some (.cells (opC o la ln lc ba bn bc).toArray 47 (0, 0))) := hb1
  clear h hok hb0 hb1 hb2
  go_enter Tryz.func22, Tryz.ntmps22
  go_upto_region 1 with fail
  generalize (w.alloc (.cells #[.pointer (some ⟨(bkG bs i).X, 0, none⟩), .pointer (some ⟨(bkG bs i).R, 0, none⟩)] 62)).alloc (.cells (opC o la ln lc ba bn bc).toArray 47) = w0 at *
  have p0 : w0.cell? ⟨w.heap.size + 1, 0, none⟩ = some (.int .i64 o.kind) := cell_blk HB1.out rfl
  go_wp2_with fail
  go_ret
  exact ⟨rfl, ⟨_, _, _, H0.out.more (Nat.le_succ _), HOK.out, Nat.le_refl _⟩, HB.out.mono hbas⟩

theorem ok_new {bs : List Bk} (h : AllOk bs) {b : Bk} (hb : b.ok) : AllOk (bs ++ [b]) := by
  intro i hi
  by_cases hlt : i < bs.length
  · rw [bkG_old _ _ _ hlt]; exact h i hlt
  · have : i = bs.length := by simp at hi; omega
    subst this
    rw [bkG_new]; exact hb
/-- Open of the empty log, whatever the configuration. -/
theorem opened_new (own : Nat → Nat) (base W D : Nat) (bv : Value) (bs : List Bk) (N : Nat) (a : Option Addr) (n cap : Nat) (ls : List Lv) (span keep : Int) (w : World) (h : WdAt w own base W D bv bs N) (hok : AllOk bs) (hl : IsLvs w a n ls) (hwf : LvWf ls) (hn : n ≤ 7000000000000) (hbs : bs.length ≤ 2000000000000) :
    Calls Tryz.prog 6 #[.pointer (some ⟨W, 0, none⟩), .agg #[.int .i64 span, .int .i64 keep, .slice a n cap], .string ⟨#[]⟩] w fun e w' => e = .returned (.bool true) ∧ Went w w' base W D N (bs.length + 1) := by
  cases hr : rightB span keep ls with
  | false =>
    refine (opened_no W a n cap ls span keep _ w hl hwf hn hr).mono ?_
    rintro e w' ⟨rfl, hb⟩
    exact ⟨rfl, ⟨own, bv, bs, h.below hb, hok, Nat.le_succ _⟩, hb.mono h.bas⟩
  | true =>
    have hnl := hl.1
    refine (opened_yes own base W D bv bs N a n cap ls span keep _ 0 (St.new ⟨span, keep, ls⟩) ⟨#[]⟩ [] w h hl hr hbs (fun V b hat => open_empty ⟨span, keep, ls⟩ b 0 n (n + 1) V hr hnl hat hwf) (fun V hV => open_ref_new a n cap ls span keep V hV hwf hr)).mono ?_
    rintro e w' ⟨rfl, ⟨own', bv', X, R, h1⟩, h2⟩
    exact ⟨rfl, ⟨own', bv', _, h1, ok_new hok ⟨rfl, rfl, trivial⟩, by simp⟩, h2⟩

set_option maxHeartbeats 1000000 in
set_option maxRecDepth 100000 in
theorem step_new (own : Nat → Nat) (base W D : Nat) (bv : Value) (bs : List Bk) (N : Nat) (o : Opr) (la : Option Addr) (ln lc : Nat) (ba : Option Addr) (bn bc : Nat) (w : World) (h : WdAt w own base W D bv bs N) (hok : AllOk bs) (hbs : bs.length ≤ 2000000000000) (hin : OpIn w o la ln ba bn) (hwf : OpWf o) (k1 : o.kind = 1) :
    Calls Tryz.prog 7 #[.pointer (some ⟨W, 0, none⟩), opV o la ln lc ba bn bc] w fun e w' => e = .returned (.bool true) ∧ Went w w' base W D (N + 1) (bs.length + 1) := by
  have hbx : Below w.heap.size w (w.alloc (.cells (opC o la ln lc ba bn bc).toArray 47)) := (Below.refl _ _).alloc (Nat.le_refl _) _
  have HBK0 : Hid ((w.alloc (.cells (opC o la ln lc ba bn bc).toArray 47)).heap[w.heap.size]? = some (.cells (opC o la ln lc ba bn bc).toArray 47 (0, 0))) := heap_alloc_new _ _
  have HBX : Hid (Below base w (w.alloc (.cells (opC o la ln lc ba bn bc).toArray 47))) := hbx.mono h.bas
  have HOP := opened_new own base W D bv bs N la ln lc o.lvs o.span o.keep _ (h.below hbx) hok (hin.lv.from hbx) hwf.lvs hin.ln hbs
  clear h hok hin hwf hbx
  go_enter Tryz.func7, Tryz.ntmps7
  go_upto_region 1 with fail
  generalize w.alloc (.cells (opC o la ln lc ba bn bc).toArray 47) = w0 at *
  have p0 : w0.cell? ⟨w.heap.size, 0, none⟩ = some (.int .i64 o.kind) := cell_blk HBK0.out rfl
  have p7 : w0.cell? ⟨w.heap.size, 7, none⟩ = some (.int .i64 o.span) := cell_blk HBK0.out rfl
  have p8 : w0.cell? ⟨w.heap.size, 8, none⟩ = some (.int .i64 o.keep) := cell_blk HBK0.out rfl
  have p9 : w0.cell? ⟨w.heap.size, 9, none⟩ = some (.slice la ln lc) := cell_blk HBK0.out rfl
  rw [k1] at p0
  go_wp2_with fail
  refine HOP.mono ?_
  clear HOP
  rintro e w1 ⟨rfl, ⟨own', bv', bs', h1, h2, h3⟩, h4⟩
  have HF : Hid (Went w w1 base W D (N + 1) (bs.length + 1)) := ⟨⟨own', bv', bs', h1.more (Nat.le_succ _), h2, h3⟩, HBX.out.trans h4⟩
  clear h1 h2 h3 h4
  go_wp2_with fail
  go_ret
  exact ⟨rfl, HF.out⟩

end Go.Proofs.YthciddpljcbhiabGreatDoor

/- Walks: do all lists that came out read as their owner left them? (looks) -/
namespace Go.Proofs.YthciddpljcbhiabGreatDoor
open Go Go.RowKit Go.Lib

/-- A cell of an owned row of one-cell elements. -/
theorem owns_one {w : World} {B : Nat} {e : TypeId} {v : Value} {n : Nat} {xs : List Value} (h : w.ownsRow B e 1 v n xs) (i : Nat) (u : Value) (hi : xs[i]? = some u) : ∃ g cap, v = .slice (some ⟨g, 0, none⟩) n cap ∧ w.cell? ⟨g, i, none⟩ = some u := by
  have hlt : i < xs.length := (List.getElem?_eq_some_iff.1 hi).1
  have h1 := h.1
  obtain ⟨g, cap, e', _, _, _⟩ := ownBlockForm h (by omega)
  subst e'
  have := owns_at h i u hi
  simp only [Nat.zero_add] at this
  exact ⟨g, cap, rfl, this⟩

set_option maxHeartbeats 2000000 in
set_option maxRecDepth 100000 in
theorem looks_any (D : Nat) (ow : Nat → Nat) (n : Int) (ss rs : List Ls) (sv rv nv mv : Value) (w : World) (h : DrS w D ow n ss rs sv rv nv mv) (hs : ss.length ≤ 4000000000000) (hr : rs.length ≤ 4000000000000) :
    Calls Tryz.prog 8 #[.pointer (some ⟨D, 0, none⟩)] w fun e w' => e = .returned (.bool true) ∧ Below w.heap.size w w' := by
  have HD : Hid (DrS w D ow n ss rs sv rv nv mv) := h
  obtain ⟨sa, sc, rfl⟩ := ownForm h.so
  obtain ⟨ra, rc, rfl⟩ := ownForm h.ro
  have HK : Hid (∀ V : World, Below w.heap.size w V → DrS V D ow n ss rs (.slice sa ss.length sc) (.slice ra rs.length rc) nv mv) := fun V hV => h.keep (S := fun _ => False) (Fr.of_below hV) (fun _ _ e => e)
  clear h
  go_enter Tryz.func8, Tryz.ntmps8
  go_wp2_with fail
  go_loopw [3] (fun i wr => ∃ k : Nat, i = .int .i64 k ∧ k ≤ ss.length ∧ Below w.heap.size w wr) (fun i _ => ss.length - (intOf i).toNat)
  case atStart => exact ⟨0, rfl, Nat.zero_le _, Below.refl _ _⟩
  case round =>
    obtain ⟨k, rfl, hk, hb⟩ := hrel
    rename World => V
    have HB : Hid (Below w.heap.size w V) := hb
    have c1 : V.cell? ⟨D, 1, none⟩ = some (.slice sa ss.length sc) := cell_blk (HK.out V hb).blk rfl
    clear hb
    by_cases hlt : k < ss.length
    · have HS := HK.out V HB.out
      have c3 : V.cell? ⟨D, 3, none⟩ = some nv := cell_blk HS.blk rfl
      obtain ⟨g, cap, eg, cg⟩ := owns_one HS.so k (ss[k].1) (by simp [hlt])
      obtain ⟨g', cap', eg', cg'⟩ := owns_one HS.no k (.int .i64 ss[k].2) (by simp [hlt])
      injection eg with eg1 _ eg2
      subst eg1 eg2 eg'
      obtain ⟨la, m, lcap, elv, hm, hat⟩ := HS.sat ss[k] (List.getElem_mem _)
      rw [elv] at cg
      have HAT : Hid (0 < m → ∃ b off, la = some ⟨b, off, none⟩ ∧ ow b = 6 ∧ RepAt V b off m (smD ss[k].2)) := hat
      clear HS hat elv
      generalize ss[k].2 = x at *
      go_wp2_with fail
      have HX : Hid ((V.alloc (.cells #[.int .i64 x, .int .u8 0, .int .u8 0, .int .u8 0, .int .i32 0] 76)).heap[V.heap.size]? = some (.cells #[.int .i64 x, .int .u8 0, .int .u8 0, .int .u8 0, .int .i32 0] 76 (0, 0))) := heap_alloc_new _ _
      have HBX : Hid (Below V.heap.size V (V.alloc (.cells #[.int .i64 x, .int .u8 0, .int .u8 0, .int .u8 0, .int .i32 0] 76))) := (Below.refl _ _).alloc (Nat.le_refl _) _
      have hDlt : D < V.heap.size := World.block_lt_of_cell? V _ c1
      have hglt : g < V.heap.size := World.block_lt_of_cell? V _ cg
      go_loopw [5] (fun i wx => ∃ j : Nat, i = .int .i64 j ∧ j ≤ m ∧ Below V.heap.size V wx ∧ wx.heap[V.heap.size]? = some (.cells #[.int .i64 x, .int .u8 0, .int .u8 0, .int .u8 0, .int .i32 0] 76 (0, 0))) (fun i _ => m - (intOf i).toNat)
      case atStart => exact ⟨0, rfl, Nat.zero_le _, HBX.out, HX.out⟩
      case round =>
        obtain ⟨j, rfl, hj, hbx, hxx⟩ := hrel
        rename World => wx
        have d1 : wx.cell? ⟨D, 1, none⟩ = some (.slice (some ⟨g, 0, none⟩) ss.length sc) := (hbx.cell (p := ⟨D, 1, none⟩) hDlt).trans c1
        have dg : wx.cell? ⟨g, k, none⟩ = some (.slice la m lcap) := (hbx.cell (p := ⟨g, k, none⟩) hglt).trans cg
        have x0 : wx.cell? ⟨V.heap.size, 0, none⟩ = some (.int .i64 x) := cell_blk hxx rfl
        have x1 : wx.cell? ⟨V.heap.size, 1, none⟩ = some (.int .u8 0) := cell_blk hxx rfl
        have x2 : wx.cell? ⟨V.heap.size, 2, none⟩ = some (.int .u8 0) := cell_blk hxx rfl
        have x3 : wx.cell? ⟨V.heap.size, 3, none⟩ = some (.int .u8 0) := cell_blk hxx rfl
        have x4 : wx.cell? ⟨V.heap.size, 4, none⟩ = some (.int .i32 0) := cell_blk hxx rfl
        have HBW : Hid (Below V.heap.size V wx) := hbx
        have HXX : Hid (wx.heap[V.heap.size]? = some (.cells #[.int .i64 x, .int .u8 0, .int .u8 0, .int .u8 0, .int .i32 0] 76 (0, 0))) := hxx
        clear hbx hxx
        by_cases hlj : j < m
        · obtain ⟨b, off, rfl, _, hre⟩ := HAT.out (by omega)
          have hbl : b < V.heap.size := World.block_lt_of_cell? V _ (hre 0 (by omega) 0 _ rfl)
          have y0 : wx.cell? ⟨b, off + j * 5, none⟩ = some (.int .i64 x) := (HBW.out.cell (p := ⟨b, off + j * 5, none⟩) hbl).trans (hre j hlj 0 _ rfl)
          have y1 : wx.cell? ⟨b, off + j * 5 + 1, none⟩ = some (.int .u8 0) := (HBW.out.cell (p := ⟨b, off + j * 5 + 1, none⟩) hbl).trans (hre j hlj 1 _ rfl)
          have y2 : wx.cell? ⟨b, off + j * 5 + 2, none⟩ = some (.int .u8 0) := (HBW.out.cell (p := ⟨b, off + j * 5 + 2, none⟩) hbl).trans (hre j hlj 2 _ rfl)
          have y3 : wx.cell? ⟨b, off + j * 5 + 3, none⟩ = some (.int .u8 0) := (HBW.out.cell (p := ⟨b, off + j * 5 + 3, none⟩) hbl).trans (hre j hlj 3 _ rfl)
          have y4 : wx.cell? ⟨b, off + j * 5 + 4, none⟩ = some (.int .i32 0) := (HBW.out.cell (p := ⟨b, off + j * 5 + 4, none⟩) hbl).trans (hre j hlj 4 _ rfl)
          clear hre
          have heq := fun w => eq26 9997 0 0 0 0 0 0 w
          simp only [beq_self_eq_true, Bool.and_self] at heq
          go_wp2_with fail
          go_quiet (fail)
          go_wp2_with fail
          exact ⟨⟨j + 1, by go_num, by omega, below_drewN HBW.out _, HXX.out⟩, by simp [intOf]; omega⟩
        · go_wp2_with fail
          have hzw := HB.out.size
          exact ⟨⟨k + 1, by go_num, by omega, HB.out.trans (HBW.out.mono hzw)⟩, by simp [intOf]; omega⟩
    · have hkE : k = ss.length := by omega
      go_wp2_with fail
      go_loopw [6] (fun i wr => ∃ k : Nat, i = .int .i64 k ∧ k ≤ rs.length ∧ Below w.heap.size w wr) (fun i _ => rs.length - (intOf i).toNat)
      case atStart => exact ⟨0, rfl, Nat.zero_le _, HB.out⟩
      case round =>
        clear c1 HB hlt hkE hk
        obtain ⟨k, rfl, hk, hb⟩ := hrel
        rename World => V
        have HB : Hid (Below w.heap.size w V) := hb
        have c1 : V.cell? ⟨D, 2, none⟩ = some (.slice ra rs.length rc) := cell_blk (HK.out V hb).blk rfl
        clear hb
        by_cases hlt : k < rs.length
        · have HS := HK.out V HB.out
          have c3 : V.cell? ⟨D, 4, none⟩ = some mv := cell_blk HS.blk rfl
          obtain ⟨g, cap, eg, cg⟩ := owns_one HS.ro k (rs[k].1) (by simp [hlt])
          obtain ⟨g', cap', eg', cg'⟩ := owns_one HS.mo k (.int .i64 rs[k].2) (by simp [hlt])
          injection eg with eg1 _ eg2
          subst eg1 eg2 eg'
          obtain ⟨la, m, lcap, elv, hm, hat⟩ := HS.rat rs[k] (List.getElem_mem _)
          rw [elv] at cg
          have HAT : Hid (0 < m → ∃ b off, la = some ⟨b, off, none⟩ ∧ ow b = 6 ∧ RepAt V b off m (rwD rs[k].2)) := hat
          clear HS hat elv
          generalize rs[k].2 = x at *
          go_wp2_with fail
          have HX : Hid ((V.alloc (.cells #[.int .i64 x, .int .u8 0, .int .u8 0, .int .u8 0, .int .i64 0, .int .i64 0, .int .i32 0, .int .i32 0] 78)).heap[V.heap.size]? = some (.cells #[.int .i64 x, .int .u8 0, .int .u8 0, .int .u8 0, .int .i64 0, .int .i64 0, .int .i32 0, .int .i32 0] 78 (0, 0))) := heap_alloc_new _ _
          have HBX : Hid (Below V.heap.size V (V.alloc (.cells #[.int .i64 x, .int .u8 0, .int .u8 0, .int .u8 0, .int .i64 0, .int .i64 0, .int .i32 0, .int .i32 0] 78))) := (Below.refl _ _).alloc (Nat.le_refl _) _
          have hDlt : D < V.heap.size := World.block_lt_of_cell? V _ c1
          have hglt : g < V.heap.size := World.block_lt_of_cell? V _ cg
          go_loopw [8] (fun i wx => ∃ j : Nat, i = .int .i64 j ∧ j ≤ m ∧ Below V.heap.size V wx ∧ wx.heap[V.heap.size]? = some (.cells #[.int .i64 x, .int .u8 0, .int .u8 0, .int .u8 0, .int .i64 0, .int .i64 0, .int .i32 0, .int .i32 0] 78 (0, 0))) (fun i _ => m - (intOf i).toNat)
          case atStart => exact ⟨0, rfl, Nat.zero_le _, HBX.out, HX.out⟩
          case round =>
            obtain ⟨j, rfl, hj, hbx, hxx⟩ := hrel
            rename World => wx
            have d1 : wx.cell? ⟨D, 2, none⟩ = some (.slice (some ⟨g, 0, none⟩) rs.length rc) := (hbx.cell (p := ⟨D, 2, none⟩) hDlt).trans c1
            have dg : wx.cell? ⟨g, k, none⟩ = some (.slice la m lcap) := (hbx.cell (p := ⟨g, k, none⟩) hglt).trans cg
            have x0 : wx.cell? ⟨V.heap.size, 0, none⟩ = some (.int .i64 x) := cell_blk hxx rfl
            have x1 : wx.cell? ⟨V.heap.size, 1, none⟩ = some (.int .u8 0) := cell_blk hxx rfl
            have x2 : wx.cell? ⟨V.heap.size, 2, none⟩ = some (.int .u8 0) := cell_blk hxx rfl
            have x3 : wx.cell? ⟨V.heap.size, 3, none⟩ = some (.int .u8 0) := cell_blk hxx rfl
            have x4 : wx.cell? ⟨V.heap.size, 4, none⟩ = some (.int .i64 0) := cell_blk hxx rfl
            have x5 : wx.cell? ⟨V.heap.size, 5, none⟩ = some (.int .i64 0) := cell_blk hxx rfl
            have x6 : wx.cell? ⟨V.heap.size, 6, none⟩ = some (.int .i32 0) := cell_blk hxx rfl
            have x7 : wx.cell? ⟨V.heap.size, 7, none⟩ = some (.int .i32 0) := cell_blk hxx rfl
            have HBW : Hid (Below V.heap.size V wx) := hbx
            have HXX : Hid (wx.heap[V.heap.size]? = some (.cells #[.int .i64 x, .int .u8 0, .int .u8 0, .int .u8 0, .int .i64 0, .int .i64 0, .int .i32 0, .int .i32 0] 78 (0, 0))) := hxx
            clear hbx hxx
            by_cases hlj : j < m
            · obtain ⟨b, off, rfl, _, hre⟩ := HAT.out (by omega)
              have hbl : b < V.heap.size := World.block_lt_of_cell? V _ (hre 0 (by omega) 0 _ rfl)
              have HRE : Hid (∀ o u, (rwD x)[o]? = some u → wx.cell? ⟨b, off + j * 8 + o, none⟩ = some u) := fun o u ho => (HBW.out.cell (p := ⟨b, off + j * 8 + o, none⟩) hbl).trans (hre j hlj o u ho)
              have y0 : wx.cell? ⟨b, off + j * 8, none⟩ = some (.int .i64 x) := HRE.out 0 _ rfl
              have y1 := HRE.out 1 _ rfl
              have y2 := HRE.out 2 _ rfl
              have y3 := HRE.out 3 _ rfl
              have y4 := HRE.out 4 _ rfl
              have y5 := HRE.out 5 _ rfl
              have y6 := HRE.out 6 _ rfl
              have y7 := HRE.out 7 _ rfl
              clear hre
              have heq := fun w => eq26 9997 0 0 0 0 0 0 w
              simp only [beq_self_eq_true, Bool.and_self] at heq
              go_wp2_with fail
              go_quiet (fail)
              go_wp2_with fail
              exact ⟨⟨j + 1, by go_num, by omega, below_drewN HBW.out _, HXX.out⟩, by simp [intOf]; omega⟩
            · go_wp2_with fail
              have hzw := HB.out.size
              exact ⟨⟨k + 1, by go_num, by omega, HB.out.trans (HBW.out.mono hzw)⟩, by simp [intOf]; omega⟩
        · go_wp2_with fail
          go_ret
          exact ⟨rfl, HB.out⟩

end Go.Proofs.YthciddpljcbhiabGreatDoor
