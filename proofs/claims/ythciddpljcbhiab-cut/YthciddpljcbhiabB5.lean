/- Texts of one claim put together: Cfw, Sea, Ply, Chg, Red, Rdo, Stq, Cnt, Cts, Mk, Kpc, Bnd, Ask, Tls, Opn, OpS, OpX. -/
import Derived.Test.YthciddpljcbhiabB4
import Derived.Test.YthciddpljcbhiabB3
import Derived.Laws.BitsLemmas
import Derived.Deep.RegionHeld3
import Derived.Deep.DrawnRows
import Derived.Laws.MakeOwn
import Derived.Test.YthciddpljcbhiabB1
import Derived.Laws.Strings
import Derived.Test.YthciddpljcbhiabA
import Derived.Test.YthciddpljcbhiabProg
import Derived.ProofKit
import Derived.OpenShut
import Derived.Deep.Slices
import Derived.Lib.SmallJoins
import Derived.Deep.Strs
import Derived.SizedLaws

/- Walks: a configuration made right (the walk). -/
namespace Go.Proofs.Ythciddpljcbhiab
open Go Go.RowKit

theorem nxA_range {first : Bool} {l : Lv} {A : Int} : A ≤ nxA first l A ∧ nxA first l A ≤ A + 20 := by
  have := pk_range l.age 19 (by omega)
  unfold nxA
  split <;> omega
/-- What is left to read of a level's box. -/
def BxL (w : World) (P : Nat) (l : Lv) : Prop := w.cell? ⟨P, 2, none⟩ = some (.string l.rule) ∧ w.cell? ⟨P, 3, none⟩ = some (.int .i64 l.limit) ∧ P < w.heap.size
theorem wrapM {W p : Int} (h0 : 0 ≤ p) (h1 : p < 100) (m0 : 1 ≤ W * (1 + p)) (m1 : W * (1 + p) ≤ 100) : IntKind.i64.wrap (W * IntKind.i64.wrap (1 + p)) = W * (1 + p) := by
  have e1 : IntKind.i64.wrap (1 + p) = 1 + p := by simp [IntKind.wrap, IntKind.bits, IntKind.signed]; omega
  rw [e1]
  generalize W * (1 + p) = z at *
  simp [IntKind.wrap, IntKind.bits, IntKind.signed]; omega
theorem setc_ne {w : World} {b o b' o' : Nat} (h : b' ≠ b) (v : Value) : (w.setCell ⟨b, o, none⟩ v).cell? ⟨b', o', none⟩ = w.cell? ⟨b', o', none⟩ := World.cell?_of_block (Below.heap_setCell _ _ _ _ h)
theorem put_wr {w w' : World} {span keep : Int} {a : Option Addr} {n cap : Nat} {K : Int} {v : Value} {acc : List Lv} {A W : Int} {R : ByteArray} {x y : Int} (e : x = y) (h : CfM w w' span keep a n cap K v (acc ++ [⟨A, W, R, x⟩])) : CfM w w' span keep a n cap K v (acc ++ [⟨A, W, R, y⟩]) := e ▸ h
/-- What is made, with its span; the answer's box. -/
structure CfN (w wr : World) (K SP : Int) (v : Value) (acc : List Lv) : Prop where
  res : wr.heap[w.heap.size + 1]? = some (.cells #[.int .i64 0, .int .i64 0, .slice none 0 0] 24 (0, 0))
  cfg : wr.heap[w.heap.size + 2]? = some (.cells #[.int .i64 SP, .int .i64 K, v] 24 (0, 0))
  own : wr.ownsRow (w.heap.size + 3) 85 4 v acc.length (flat acc)
  bel : Below w.heap.size w wr
theorem CfM.span {w wr : World} {span keep : Int} {a : Option Addr} {n cap : Nat} {K : Int} {v : Value} {acc : List Lv} (h : CfM w wr span keep a n cap K v acc) {SP SP' : Int} (he : SP' = SP) (D : Nat) : CfN w ((wr.setCell ⟨w.heap.size + 2, 0, none⟩ (.int .i64 SP')).drewN D) K SP v acc := by
  subst he
  have hb : CfN w (wr.setCell ⟨w.heap.size + 2, 0, none⟩ (.int .i64 SP')) K SP' v acc := ⟨by rw [Below.heap_setCell _ _ _ _ (by show w.heap.size + 1 ≠ w.heap.size + 2; omega)]; exact h.res, heap_setCell h.cfg, owns_other h.own (fun e => by have := (h.own.lt _ e).1; omega), h.bel.setCell (by show w.heap.size ≤ w.heap.size + 2; omega) _⟩
  exact ⟨hb.res, hb.cfg, hb.own, below_drewN hb.bel D⟩
theorem cfg_after {w wr w7 : World} {span keep : Int} {a : Option Addr} {n cap : Nat} {K : Int} {v : Value} {acc : List Lv} {o : Obj} (h : CfM w wr span keep a n cap K v acc) (hg : (wr.alloc o).grownBy w7 v.ownBlock) : w7.cell? ⟨w.heap.size + 2, 2, none⟩ = some v ∧ w7.frozen? ⟨w.heap.size + 2, 2, none⟩ = false := by
  have e : w7.heap[w.heap.size + 2]? = some (.cells #[.int .i64 0, .int .i64 K, v] 24 (0, 0)) := by
    rw [hg.block (w.heap.size + 2) (by have := h.lt; rw [World.size_alloc]; omega) (fun e => by have := (h.own.lt _ e.symm).1; omega), Below.heap_alloc _ _ _ h.lt]
    exact h.cfg
  exact ⟨cell_blk e rfl, froz_blk e⟩
theorem conf_lvs {span keep : Int} {ls : List Lv} : (conf span keep ls).lvs = confL (pk keep 20) ls := rfl

set_option maxHeartbeats 4000000 in
set_option maxRecDepth 100000 in
theorem config_any (a : Option Addr) (n cap : Nat) (ls : List Lv) (span keep : Int) (w : World) (hls : IsLvs w a n ls) (hwf : LvWf2 ls) (s0 : -9223372036854775808 ≤ span) (s1 : span ≤ 9223372036854775807) (k0 : -9223372036854775808 ≤ keep) (k1 : keep ≤ 9223372036854775807) :
    Calls Try.prog 19 #[.agg #[.int .i64 span, .int .i64 keep, .slice a n cap]] w fun e w' => ∃ b m c, e = .returned (.agg (cfC (conf span keep ls) b 0 m c)) ∧ m = (conf span keep ls).lvs.length ∧ w'.ownsRow w.heap.size 85 4 (.slice (some ⟨b, 0, none⟩) m c) m (flat (conf span keep ls).lvs) ∧ Below w.heap.size w w' := by
  have HLS : Hid (IsLvs w a n ls) := hls
  have HN : Hid (ls.length = n) := hls.1
  have HWF : Hid (LvWf2 ls) := hwf
  obtain ⟨q0, q1⟩ := pk_range keep 20 (by omega)
  have HK := pick_any keep 20
  generalize hK : pk keep 20 = K at *
  obtain ⟨li0, hli, lz0, lz1, lz2⟩ := infP Try.info85'
  clear hls hwf
  go_enter Try.func19, Try.ntmps19
  go_wp2_with fail
  refine (HK _ k0 k1 (by omega) (by omega)).mono ?_
  rintro e w1 ⟨rfl, rfl⟩
  have HM0 : Hid (CfM w (((w.alloc (.cells #[.int .i64 span, .int .i64 keep, .slice a n cap] 24)).alloc (.cells #[.int .i64 0, .int .i64 0, .slice none 0 0] 24)).alloc (.cells #[.int .i64 0, .int .i64 K, .slice none 0 0] 24)) span keep a n cap K (.slice none 0 0) []) := by
    refine ⟨?_, ?_, ?_, World.ownsRow_nil _ _ _ _, (((Below.refl _ _).alloc (Nat.le_refl _) _).alloc (by simp) _).alloc (by simp; omega) _⟩
    · rw [Below.heap_alloc _ _ _ (by simp; omega), Below.heap_alloc _ _ _ (by simp), heap_alloc_new]
    · have e := heap_alloc_new (w.alloc (.cells #[.int .i64 span, .int .i64 keep, .slice a n cap] 24)) (.cells #[.int .i64 0, .int .i64 0, .slice none 0 0] 24)
      rw [World.size_alloc] at e
      rw [Below.heap_alloc _ _ _ (by simp)]; exact e
    · have e := heap_alloc_new ((w.alloc (.cells #[.int .i64 span, .int .i64 keep, .slice a n cap] 24)).alloc (.cells #[.int .i64 0, .int .i64 0, .slice none 0 0] 24)) (.cells #[.int .i64 0, .int .i64 K, .slice none 0 0] 24)
      rw [World.size_alloc, World.size_alloc] at e
      exact e
  go_upto_block 0 with fail
  go_cut [4] from 5 to 62 (fun wv wx => ∃ v, wv = .int .i64 (confW K ls) ∧ CfM w wx span keep a n cap K v (cfL K (ls.take 4) true 1 0))
  case first =>
    go_wp2_with fail
    go_loopw [4, 5, 6] (fun wv ag i wr => ∃ (k : Nat) (W A : Int) (v : Value) (acc : List Lv), wv = .int .i64 W ∧ ag = .int .i64 A ∧ i = .int .i64 k ∧ k ≤ 4 ∧ k ≤ n ∧ acc.length = k ∧ 1 ≤ W ∧ W ≤ 100 ∧ 0 ≤ A ∧ A ≤ 20 * k ∧ CfM w wr span keep a n cap K v acc ∧
      cfL K (ls.take 4) true 1 0 = acc ++ cfL K ((ls.take 4).drop k) (decide (k = 0)) W A ∧ confW K ls = cfW K ((ls.take 4).drop k) (decide (k = 0)) W A) (fun _ _ i _ => 4 - (intOf i).toNat)
    case atStart => exact ⟨0, 1, 0, _, [], rfl, rfl, rfl, by omega, by omega, rfl, by omega, by omega, by omega, by omega, HM0.out, rfl, rfl⟩
    case round =>
      obtain ⟨k, W, A, v, acc, rfl, rfl, rfl, hk4, hkn, hacc, w0, w1, a0, a1, hm, hL, hW⟩ := hrel
      have HM : Hid (CfM w wr span keep a n cap K v acc) := hm
      have HCL : Hid (cfL K (ls.take 4) true 1 0 = acc ++ cfL K ((ls.take 4).drop k) (decide (k = 0)) W A) := hL
      have HCW : Hid (confW K ls = cfW K ((ls.take 4).drop k) (decide (k = 0)) W A) := hW
      have HAC : Hid (acc.length = k) := hacc
      have HOB0 : Hid (∀ k, v.ownBlock = some k → k < wr.heap.size) := fun k e => (hm.own.lt k e).2
      have r0 := cell_blk (o := 0) hm.raw rfl
      have r1 := cell_blk (o := 1) hm.raw rfl
      have r2 := cell_blk (o := 2) hm.raw rfl
      have g1 := cell_blk (o := 1) hm.cfg rfl
      have g2 := cell_blk (o := 2) hm.cfg rfl
      have gf := froz_blk (o := 2) hm.cfg
      have hlt2 := hm.lt
      have hT : (ls.take 4).length = min 4 n := by rw [List.length_take, HN.out]
      clear hm hL hW hacc
      by_cases hlt : k < n ∧ k < 4
      · obtain ⟨hl1, hl2⟩ := hlt
        obtain ⟨b, off, rfl, hat⟩ := HLS.out.2 (by omega)
        have hbs : b < w.heap.size := hat.block (by rw [HN.out]; omega)
        obtain ⟨c0, c1, c2, c3⟩ := (hat.below HM.out.bel hbs) k (by rw [HN.out]; exact hl1)
        obtain ⟨⟨f0, f1⟩, ⟨f2, f3⟩, f4, f5, f6⟩ := HWF.out k
        have hbw : b < wr.heap.size := by have := HM.out.bel.size; omega
        obtain ⟨HST1, HST2⟩ := cf_step (keep := K) (ls := ls.take 4) (k := k) (by rw [hT]; omega) (first := decide (k = 0)) (W := W) (A := A)
        rw [lvG_take ls 4 k hl2] at HST1 HST2
        generalize hl : lvG ls k = l at *
        clear hat
        obtain ⟨z0, z1⟩ := nxA_range (first := decide (k = 0)) (l := l) (A := A)
        obtain ⟨y0, y1, _⟩ := nxW_range (l := l) w0 w1
        have HA : Hid (k ≠ 0 → A + 1 + pk l.age 19 = nxA (decide (k = 0)) l A) := fun h => by simp [nxA, h]
        have HA0 : Hid (k = 0 → A = nxA (decide (k = 0)) l A) := fun h => by simp [nxA, h]
        obtain ⟨u0, u1⟩ := pk_range l.age 19 (by omega)
        have HPA := pick_any l.age 19 (w := wr.alloc (.cells #[.int .i64 l.age, .int .i64 l.window, .string l.rule, .int .i64 l.limit] 85)) f0 f1 (by omega) (by omega)
        have hXb : w.heap.size + 2 ≠ wr.heap.size := by omega
        generalize hpk : pk l.age 19 = pa at *
        generalize hnx : nxA (decide (k = 0)) l A = NA at *
        go_upto_if 29 with fail
        go_cut [5] from 12 to 62 (fun v wx => v = .int .i64 NA ∧ wx = wr.alloc (.cells #[.int .i64 l.age, .int .i64 l.window, .string l.rule, .int .i64 l.limit] 85))
        case first =>
          by_cases hk0 : k = 0
          · have hkb : decide ((0 : Int) < (k : Int)) = false := by simp [hk0]
            go_wp2_with fail
            go_meet
            case rel => exact ⟨by rw [HA0.out hk0], rfl⟩
          · have hkb : decide ((0 : Int) < (k : Int)) = true := by simp; omega
            go_wp2_with fail
            refine HPA.mono ?_
            rintro e w' ⟨rfl, rfl⟩
            go_wp2_with fail
            go_meet
            case rel => exact ⟨by rw [HA.out hk0], rfl⟩
        case rest =>
          obtain ⟨rfl, hwc⟩ := hcut
          have HMC : Hid (CfM w wc span keep (some ⟨b, off, none⟩) n cap K v acc) := by rw [hwc]; exact HM.out.kept ((Below.refl _ _).alloc (Nat.le_refl _) _)
          have e0 : wc.cell? ⟨wr.heap.size, 0, none⟩ = some (.int .i64 l.age) := by rw [hwc]; simp [go_sem]
          have e1 : wc.cell? ⟨wr.heap.size, 1, none⟩ = some (.int .i64 l.window) := by rw [hwc]; simp [go_sem]
          have e2 : wc.cell? ⟨wr.heap.size, 2, none⟩ = some (.string l.rule) := by rw [hwc]; simp [go_sem]
          have e3 : wc.cell? ⟨wr.heap.size, 3, none⟩ = some (.int .i64 l.limit) := by rw [hwc]; simp [go_sem]
          have g1 := cell_blk (o := 1) HMC.out.cfg rfl
          have g2 := cell_blk (o := 2) HMC.out.cfg rfl
          have gf := froz_blk (o := 2) HMC.out.cfg
          have hlc := HMC.out.lt
          have hbc : wr.heap.size < wc.heap.size := World.block_lt_of_cell? wc _ e0
          clear hwc r0 r1 r2 c0 c1 c2 c3 HPA HA HA0 HM
          by_cases hbr : K < NA
          · have HE1 : Hid (cfL K (ls.take 4) true 1 0 = acc) := by show _ = _; rw [HCL.out, HST1, if_pos hbr, List.append_nil]
            have HE2 : Hid (confW K ls = W) := by show _ = _; rw [HCW.out, HST2, if_pos hbr]
            go_wp2_with fail
            go_meet
            case rel => exact ⟨v, by rw [HE2.out], by rw [HE1.out]; exact HMC.out⟩
          · rw [if_neg hbr] at HST1 HST2
            have HPW := fun d => pick_any l.window (100 / W) (wc.drewN d) f2 f3
            obtain ⟨o0, o1⟩ : 1 ≤ 100 / W ∧ 100 / W ≤ 100 := ⟨by rw [Int.le_ediv_iff_mul_le (by omega)]; omega, Int.ediv_le_self _ (by omega)⟩
            have HNW : Hid (W * (1 + pk l.window (100 / W)) = nxW l W) := rfl
            obtain ⟨p0, p1⟩ := pk_range l.window (100 / W) (by omega)
            have HM0' : Hid (1 ≤ W * (1 + pk l.window (100 / W)) ∧ W * (1 + pk l.window (100 / W)) ≤ 100) := ⟨y0, y1⟩
            generalize hpw : pk l.window (100 / W) = pw at *
            obtain ⟨m0, m1⟩ := HM0'.out
            have HPW' := fun d => HPW d (by omega) (by omega)
            have HD : Hid (∀ D, CfM w (wc.drewN D) span keep (some ⟨b, off, none⟩) n cap K v acc) := fun D => HMC.out.kept (below_drewN (Below.refl _ _) D)
            have HD2 : Hid (∀ D, BxL (wc.drewN D) wr.heap.size l) := fun D => ⟨e2, e3, hbc⟩
            clear HPW
            go_upto_region 11 with fail
            go_cut [4] from 12 to 62 (fun wv wx => wv = .int .i64 (nxW l W) ∧ CfM w wx span keep (some ⟨b, off, none⟩) n cap K v acc ∧ BxL wx wr.heap.size l)
            case first =>
              go_region_with (go_at_call 12; refine (HPW' _).mono ?_; rintro e w' ⟨rfl, rfl⟩)
              all_goals go_wp2_with fail
              all_goals go_meet
              all_goals (case rel => exact ⟨by rw [wrapM p0 (by omega) m0 m1, HNW.out], HD.out _, HD2.out _⟩)
            case rest =>
              obtain ⟨rfl, hm5, e2', e3', hb5⟩ := hcut
              have HM5 : Hid (CfM w wc span keep (some ⟨b, off, none⟩) n cap K v acc) := hm5
              have HSL : Hid (cfL K (ls.take 4) true 1 0 = (acc ++ [⟨NA, nxW l W, ruleOf l.rule, 1 + pk l.limit 20⟩]) ++ cfL K ((ls.take 4).drop (k + 1)) (decide (k + 1 = 0)) (nxW l W) NA) := by
                show _ = _
                rw [HCL.out, HST1]
                simp [nxL, hnx]
              have HSW : Hid (confW K ls = cfW K ((ls.take 4).drop (k + 1)) (decide (k + 1 = 0)) (nxW l W) NA) := by
                show _ = _
                rw [HCW.out, HST2]
                simp
              have HPL := fun w => pick_any l.limit 20 w f5 f6 (by omega) (by omega)
              have HRU := fun w => rule_any l.rule f4 w
              obtain ⟨l0, l1⟩ := pk_range l.limit 20 (by omega)
              have g1 := cell_blk (o := 1) hm5.cfg rfl
              have g2 := cell_blk (o := 2) hm5.cfg rfl
              have gf := froz_blk (o := 2) hm5.cfg
              obtain ⟨va, vc, rfl⟩ := ownForm hm5.own
              have HOB : Hid (∀ k, (Value.slice va acc.length vc).ownBlock = some k → k < wr.heap.size) := HOB0.out
              have hlc := hm5.lt
              have hPB : wr.heap.size ≠ w.heap.size + 1 + 1 := by omega
              have HLen : Hid ((acc ++ [(⟨NA, nxW l W, ruleOf l.rule, 1 + pk l.limit 20⟩ : Lv)]).length = k + 1) := by show _ = _; rw [List.length_append, HAC.out]; rfl
              generalize hnw : nxW l W = NW at *
              generalize hpl : pk l.limit 20 = PL at *
              generalize hru : ruleOf l.rule = RU at *
              have HWR : Hid (IntKind.i64.wrap (1 + PL) = 1 + PL) := by show _ = _; simp [IntKind.wrap, IntKind.bits, IntKind.signed]; omega
              have hacl : acc.length ≤ 4 := by rw [HAC.out]; omega
              have HPLH : Hid (∀ w, Calls Try.prog 12 #[.int .i64 l.limit, .int .i64 20] w fun e w' => e = .returned (.int .i64 PL) ∧ w' = w) := HPL
              have HRUH : Hid (∀ w, Calls Try.prog 37 #[.string l.rule] w fun e w' => e = .returned (.string RU) ∧ Below w.heap.size w w') := HRU
              have HLI : Hid (Try.prog.info? 85 = some li0 ∧ li0.zero = some (.agg #[.int .i64 0, .int .i64 0, .string ByteArray.empty, .int .i64 0]) ∧ li0.size = 4 ∧ li0.bytes = 40) := ⟨hli, lz0, lz1, lz2⟩
              clear hm5 HST1 HST2 HCL HCW HMC HPW' HD HD2 e0 e1 e2 e3 HPL HRU hli lz0 lz1 lz2 HK hK HLS HN HWF HM0 HNW HM0' m0 m1 p0 p1 o0 o1 f0 f1 f2 f3 f4 f5 f6 u0 u1 q0 q1 s0 s1 k0 k1 hpw hpk hl hbs hbw w0 w1 hT hnx hbr g1 hlt2 hbc
              go_upto_region 12 with fail
              go_region_law (first
                  | (refine stepCall rfl 37 #[.tmp 53] #[9] rfl #[.string l.rule] (by simp [Act.eval]) enter87 ?_; refine (HRUH.out _).mono ?_; rintro e w6 ⟨rfl, hb6⟩; refine ⟨_, rfl, ?_⟩; have hm6 : Hid (CfM w w6 span keep (some ⟨b, off, none⟩) n cap K (.slice va acc.length vc) acc) := HM5.out.kept ⟨hb6.os, hb6.tape, hb6.output, hb6.size, hb6.block⟩; have hz6 := hm6.out.lt; have hz7 : wr.heap.size < w6.heap.size := Nat.lt_of_lt_of_le hb5 hb6.size; have x2 : w6.cell? ⟨wr.heap.size, 2, none⟩ = some (.string l.rule) := (hb6.cell (p := ⟨wr.heap.size, 2, none⟩) hb5).trans e2'; have x3 : w6.cell? ⟨wr.heap.size, 3, none⟩ = some (.int .i64 l.limit) := (hb6.cell (p := ⟨wr.heap.size, 3, none⟩) hb5).trans e3'; have x4 : w6.cell? ⟨w.heap.size + 2, 2, none⟩ = some (.slice va acc.length vc) := (hb6.cell (p := ⟨w.heap.size + 2, 2, none⟩) hlc).trans g2; clear hb6)
                  | (refine stepCall rfl 12 #[.tmp 56, .const (.int .i64 20)] #[3, 3] rfl #[.int .i64 l.limit, .int .i64 20] (by simp [Act.eval]) enter16 ?_; refine (HPLH.out _).mono ?_; rintro e w' ⟨rfl, hw'⟩; refine ⟨_, rfl, ?_⟩; have hw2 := hw'.symm; clear hw'; subst hw2)
                  | (refine stepAppend rfl (.tmp 49) (.tmp 60) 22 rfl (w.heap.size + 3) 85 li0 (.agg #[.int .i64 0, .int .i64 0, .string ByteArray.empty, .int .i64 0]) 4 40 Try.underlying22 HLI.out.1 HLI.out.2.1 HLI.out.2.2.1 HLI.out.2.2.2 rfl (by decide) (.slice va acc.length vc) acc.length (flat acc) (by simp [Act.eval]) (hm6.out.own.alloc _) ⟨w6.heap.size, 0, none⟩ 1 1 (Lv.cells ⟨NA, NW, RU, IntKind.i64.wrap (1 + PL)⟩) (by simp [Act.eval]) rfl (newAt _ (Lv.cells ⟨NA, NW, RU, IntKind.i64.wrap (1 + PL)⟩) 85 _ rfl) (Lv.one _) (by unfold maxLen; omega) (by omega) (by simp; omega) ?_; intro v' w7 hown' hgrow hblk; have hv7 : ∀ k, k < w.heap.size + 3 → (Value.slice va acc.length vc).ownBlock ≠ some k := fun k hk e => Nat.lt_irrefl _ (Nat.lt_of_lt_of_le hk (hm6.out.own.lt k e).1); have t4 : w7.cell? ⟨w.heap.size + 2, 2, none⟩ = some (.slice va acc.length vc) := hgrow.cell (cell_alloc1 x4) (fun e => hv7 _ (Nat.lt_succ_self _) e.symm); have t5 : w7.frozen? ⟨w.heap.size + 2, 2, none⟩ = false := (World.frozen?_of_block (hgrow.block (w.heap.size + 2) (by simp; omega) (fun e => hv7 _ (Nat.lt_succ_self _) e.symm))).trans (frozen_alloc1 hm6.out.lt (froz_blk hm6.out.cfg)); clear hv7; obtain ⟨a', p', rfl⟩ := ownForm hown'))
              all_goals (have HX : Hid (CfM w (w7.setCell ⟨w.heap.size + 2, 2, none⟩ (.slice a' (acc.length + 1) p')) span keep (some ⟨b, off, none⟩) n cap K (.slice a' (acc.length + 1) p') (acc ++ [⟨NA, NW, RU, 1 + PL⟩])) := put_wr HWR.out (hm6.out.put ((Below.refl _ _).alloc (Nat.le_refl _) _) hgrow hown'))
              all_goals clear hgrow hown' hblk t4 t5 hm6 x2 x3 x4
              all_goals go_wp2_with fail
              all_goals exact ⟨⟨k + 1, NW, NA, .slice a' (acc.length + 1) p', acc ++ [⟨NA, NW, RU, 1 + PL⟩], rfl, rfl, by go_num, by omega, by omega, HLen.out, y0, y1, by omega, by omega, HX.out, HSL.out, HSW.out⟩, by simp [intOf]; omega⟩
      · have HE := cf_end (keep := K) (ls := ls.take 4) (k := k) (by rw [hT]; omega) (first := decide (k = 0)) (W := W) (A := A)
        have HE1 : Hid (cfL K (ls.take 4) true 1 0 = acc) := by show _ = _; rw [HCL.out, HE.1, List.append_nil]
        have HE2 : Hid (confW K ls = W) := by show _ = _; rw [HCW.out, HE.2]
        clear HE
        by_cases hl1 : k < n
        · have hl2 : ¬ (k : Int) < 4 := by omega
          go_wp2_with fail
          go_meet
          case rel => exact ⟨v, by rw [HE2.out], by rw [HE1.out]; exact HM.out⟩
        · have hl2 : ¬ (k : Int) < n := by omega
          go_wp2_with fail
          go_meet
          case rel => exact ⟨v, by rw [HE2.out], by rw [HE1.out]; exact HM.out⟩
  case rest =>
    obtain ⟨v, rfl, hm⟩ := hcut
    have HM : Hid (CfM w wc span keep a n cap K v (cfL K (ls.take 4) true 1 0)) := hm
    obtain ⟨w0, w1, _⟩ := cfW_range K (ls.take 4) true 1 0 (by omega) (by omega)
    have HCW : Hid (confW K ls = cfW K (ls.take 4) true 1 0) := rfl
    have HSP : Hid ((conf span keep ls).span = confW K ls * (1 + pk span (100 / confW K ls))) := by show _ = _; rw [← hK]; rfl
    have HKK : Hid ((conf span keep ls).keep = K) := hK
    have HLL : Hid ((conf span keep ls).lvs = confL K ls) := by show confL (pk keep 20) ls = _; rw [hK]
    have HCR := Cf.right_parts (conf_right span keep ls)
    rw [← HCW.out] at w0 w1
    generalize hCL : cfL K (ls.take 4) true 1 0 = acc at *
    have HCF : Hid (confL K ls = if acc = [] then [⟨0, 1, strOfNums [107, 107, 107], 20⟩] else acc) := by show _ = _; unfold confL; rw [hCL]
    have g2 := cell_blk (o := 2) hm.cfg rfl
    have gf := froz_blk (o := 2) hm.cfg
    obtain ⟨va, vc, rfl⟩ := ownForm hm.own
    have hlc := hm.lt
    have hal : acc.length ≤ 4 := by
      have := cfL_len K (ls.take 4) true 1 0
      rw [hCL, List.length_take] at this
      omega
    generalize hCW2 : confW K ls = W at *
    have HPS := fun w => pick_any span (100 / W) w s0 s1
    obtain ⟨o0, o1⟩ : 1 ≤ 100 / W ∧ 100 / W ≤ 100 := ⟨by rw [Int.le_ediv_iff_mul_le (by omega)]; omega, Int.ediv_le_self _ (by omega)⟩
    have HPSH : Hid (∀ w, Calls Try.prog 12 #[.int .i64 span, .int .i64 (100 / W)] w fun e w' => e = .returned (.int .i64 (pk span (100 / W))) ∧ w' = w) := fun w => HPS w (by omega) (by omega)
    obtain ⟨p0, p1⟩ := pk_range span (100 / W) (by omega)
    generalize hps : pk span (100 / W) = ps at *
    have HSP1 : 1 ≤ W * (1 + ps) := by rw [← HSP.out]; exact HCR.1
    have HSP2 : W * (1 + ps) ≤ 100 := by rw [← HSP.out]; exact HCR.2.1
    have HLI : Hid (Try.prog.info? 85 = some li0 ∧ li0.zero = some (.agg #[.int .i64 0, .int .i64 0, .string ByteArray.empty, .int .i64 0]) ∧ li0.size = 4 ∧ li0.bytes = 40) := ⟨hli, lz0, lz1, lz2⟩
    clear hm HPS HK HM0 hli lz0 lz1 lz2 HLS HWF
    go_upto_if 66 with fail
    go_cut [66] from 12 to 72 (fun _ wx => ∃ v', CfM w wx span keep a n cap K v' (confL K ls))
    case first =>
      by_cases h0 : acc = []
      · subst h0
        have HC2 : Hid (confL K ls = [] ++ [⟨0, 1, strOfNums [107, 107, 107], 20⟩]) := by show _ = _; rw [HCF.out, if_pos rfl]; rfl
        go_wp2_with (refine listAppend rfl (.tmp 68) (.tmp 70) 22 rfl (w.heap.size + 3) 85 li0 (.agg #[.int .i64 0, .int .i64 0, .string ByteArray.empty, .int .i64 0]) 4 40 Try.underlying22 HLI.out.1 HLI.out.2.1 HLI.out.2.2.1 HLI.out.2.2.2 rfl (by decide) (.slice va 0 vc) 0 [] (by simp [Act.eval]) (HM.out.own.alloc _) ⟨wc.heap.size, 0, none⟩ 1 1 (Lv.cells ⟨0, 1, ⟨#[107, 107, 107]⟩, 20⟩) (by simp [Act.eval]) rfl (newAt _ (Lv.cells ⟨0, 1, ⟨#[107, 107, 107]⟩, 20⟩) 85 _ rfl) (Lv.one _) (by unfold maxLen; omega) (by omega) (by simp; omega) ?_; intro v' w7 hown' hgrow hblk; have hm7 := HM.out.put (l := ⟨0, 1, ⟨#[107, 107, 107]⟩, 20⟩) ((Below.refl _ _).alloc (Nat.le_refl _) _) hgrow hown'; obtain ⟨t4, t5⟩ := cfg_after HM.out hgrow; obtain ⟨a', p', rfl⟩ := ownForm hown'; have HM7 : Hid (CfM w (w7.setCell ⟨w.heap.size + 2, 2, none⟩ (.slice a' (0 + 1) p')) span keep a n cap K (.slice a' (0 + 1) p') ([] ++ [⟨0, 1, ⟨#[107, 107, 107]⟩, 20⟩])) := hm7; clear hm7 hown' hgrow hblk)
        go_meet
        case rel => exact ⟨_, by rw [HC2.out]; exact HM7.out⟩
      · have h1 : ¬ (acc.length : Int) = 0 := by have := List.length_pos_iff.2 h0; omega
        have hbq : ((acc.length : Int) == 0) = false := by simpa using h1
        have HC2 : Hid (confL K ls = acc) := by show _ = _; rw [HCF.out, if_neg h0]
        go_wp2_with fail
        go_meet
        case rel => exact ⟨_, by rw [HC2.out]; exact HM.out⟩
    case rest =>
      obtain ⟨v', hm'⟩ := hcut
      have HM' : Hid (CfM w wc span keep a n cap K v' (confL K ls)) := hm'
      have r0 := cell_blk (o := 0) hm'.raw rfl
      have g0 := cell_blk (o := 0) hm'.cfg rfl
      have gz := froz_blk (o := 0) hm'.cfg
      have hlc := hm'.lt
      clear hm' g2 gf
      go_upto_region 15 with fail
      go_cut [81] from 12 to 81 (fun _ wx => CfN w wx K (W * (1 + ps)) v' (confL K ls))
      case first =>
        go_region_with (go_at_call 12; refine (HPSH.out _).mono ?_; rintro e w' ⟨rfl, rfl⟩)
        all_goals go_wp2_with fail
        all_goals go_meet
        all_goals (case rel => exact HM'.out.span (wrapM p0 (by omega) HSP1 HSP2) _)
      case rest =>
        have hn1 : 1 ≤ (confL K ls).length := by rw [← HLL.out]; exact HCR.2.2.2.2.1
        have HRES := hcut
        obtain ⟨b, c', rfl, hb1, hb2, hb3⟩ := ownBlockForm hcut.own (by omega)
        have HN : Hid (CfN w wc K (W * (1 + ps)) (.slice (some ⟨b, 0, none⟩) (confL K ls).length c') (confL K ls)) := hcut
        have y0 := cell_blk (o := 0) hcut.cfg rfl
        have y1 := cell_blk (o := 1) hcut.cfg rfl
        have y2 := cell_blk (o := 2) hcut.cfg rfl
        have t0 : wc.cell? ⟨w.heap.size + 1, 0, none⟩ = some (.int .i64 0) := cell_blk (o := 0) hcut.res rfl
        have t1 : wc.cell? ⟨w.heap.size + 1, 1, none⟩ = some (.int .i64 0) := cell_blk (o := 1) hcut.res rfl
        have t2 : wc.cell? ⟨w.heap.size + 1, 2, none⟩ = some (.slice none 0 0) := cell_blk (o := 2) hcut.res rfl
        have tz := fun o => froz_blk (o := o) hcut.res
        clear hcut HRES r0 g0 gz HM'
        go_wp2_with fail
        refine bodyPost_ret (v := .agg #[.int .i64 (W * (1 + ps)), .int .i64 K, .slice (some ⟨b, 0, none⟩) (confL K ls).length c']) (by simp [results, Try.results19, go_sem, t0, t1, t2]) rfl ?_
        refine ⟨b, (confL K ls).length, c', ?_, by rw [HLL.out], ?_, ?_⟩
        · show _ = Ending.returned (.agg #[.int .i64 (conf span keep ls).span, .int .i64 (conf span keep ls).keep, .slice (some ⟨b, 0, none⟩) (confL K ls).length c'])
          rw [HSP.out, HKK.out]
        · rw [HLL.out]
          have hne : (Value.slice (some ⟨b, 0, none⟩) (confL K ls).length c').ownBlock ≠ some (w.heap.size + 1) := fun e => by have h9 : b = w.heap.size + 1 := Option.some.inj e; omega
          exact owns_base (owns_other (owns_other (owns_other HN.out.own hne) hne) hne) (fun j e => by have h9 : b = j := Option.some.inj e; omega)
        · exact ((HN.out.bel.setCell (by show w.heap.size ≤ w.heap.size + 1; omega) _).setCell (by show w.heap.size ≤ w.heap.size + 1; omega) _).setCell (by show w.heap.size ≤ w.heap.size + 1; omega) _

end Go.Proofs.Ythciddpljcbhiab

/- Walks: a desk made, a step, a script (garnerkeep). -/
namespace Go.Proofs.Ythciddpljcbhiab
open Go Go.RowKit Go.Lib

theorem right_wf {c : Cf} (h : c.right = true) : LvWf c.lvs := by
  obtain ⟨h1, h2, _, _, _, _, h7⟩ := Cf.right_parts h
  intro i
  by_cases hi : i < c.lvs.length
  · obtain ⟨a, b, r, _⟩ := h7 i hi
    have hd : (lvG c.lvs i).window ≤ c.span := Int.le_of_dvd (by omega) (Int.dvd_of_emod_eq_zero b)
    have hs : (lvG c.lvs i).rule.size = 3 := by
      simp only [ruleB, Bool.and_eq_true, decide_eq_true_eq] at r
      exact r.1.1.1
    exact ⟨by omega, by omega, by rw [hs]; unfold maxLen; omega⟩
  · have e : lvG c.lvs i = Lv.zero := by simp [lvG, List.getD, List.getElem?_eq_none (by omega : c.lvs.length ≤ i)]
    rw [e]
    simp [Lv.zero, maxLen]
theorem DkAt.mono {w : World} {B B' D : Nat} {s : St} {lg : ByteArray} (h : DkAt w B D s lg) (hB : B' ≤ B) : DkAt w B' D s lg := by
  obtain ⟨X, F, L, lc, sv, h⟩ := h
  exact ⟨X, F, L, lc, sv, h.blk, h.st, h.lv, h.sms, fun k e => ⟨Nat.le_trans hB (h.fb k e).1, (h.fb k e).2⟩, Nat.le_trans hB h.bD, h.nD, h.nL, h.DL, fun k e => ⟨Nat.le_trans hB (h.bS k e).1, (h.bS k e).2⟩⟩
theorem IsLvs.below {w w' : World} {a : Option Addr} {n : Nat} {ls : List Lv} (h : IsLvs w a n ls) (hb : Below w.heap.size w w') : IsLvs w' a n ls :=
  ⟨h.1, fun hn => let ⟨b, off, e, hat⟩ := h.2 hn; ⟨b, off, e, hat.below hb (hat.block (by rw [h.1]; exact hn))⟩⟩
/-- A configuration's box, behind a call. -/
theorem box3 {w w1 : World} {x0 x1 x2 : Value} (hb : Below (w.alloc (.cells #[x0, x1, x2] 24)).heap.size (w.alloc (.cells #[x0, x1, x2] 24)) w1) :
    w.heap.size < w1.heap.size ∧ w1.heap[w.heap.size]? = some (.cells #[x0, x1, x2] 24 (0, 0)) := by
  have hz := hb.size
  rw [World.size_alloc] at hb hz
  exact ⟨by omega, by rw [hb.block _ (by omega), heap_alloc_new]⟩

set_option maxHeartbeats 2000000 in
set_option maxRecDepth 100000 in
theorem seated_any (a : Option Addr) (n cap : Nat) (ls : List Lv) (span keep : Int) (w : World) (hls : IsLvs w a n ls) (hwf : LvWf2 ls) (s0 : -9223372036854775808 ≤ span) (s1 : span ≤ 9223372036854775807) (k0 : -9223372036854775808 ≤ keep) (k1 : keep ≤ 9223372036854775807) :
    Calls Try.prog 10 #[.agg #[.int .i64 span, .int .i64 keep, .slice a n cap]] w fun e w' => ∃ D, e = .returned (.pointer (some ⟨D, 0, none⟩)) ∧ DkAt w' w.heap.size D (St.new (conf span keep ls)) ⟨#[]⟩ ∧ Below w.heap.size w w' := by
  have HR : Hid ((conf span keep ls).right = true) := conf_right span keep ls
  have HLS : Hid (IsLvs w a n ls) := hls
  have HWF : Hid (LvWf2 ls) := hwf
  have HB0 : Hid (Below w.heap.size w (w.alloc (.cells #[.int .i64 span, .int .i64 keep, .slice a n cap] 24))) := (Below.refl _ _).alloc (Nat.le_refl _) _
  have HL0 : Hid (IsLvs (w.alloc (.cells #[.int .i64 span, .int .i64 keep, .slice a n cap] 24)) a n ls) := IsLvs.below hls HB0.out
  have HCF := config_any a n cap ls span keep _ HL0.out HWF.out s0 s1 k0 k1
  clear hls hwf
  generalize hC : conf span keep ls = C at *
  go_enter Try.func10, Try.ntmps10
  go_wp2_with fail
  refine HCF.mono ?_
  rintro e w1 ⟨b, m, c, rfl, hm, hown, hb1⟩
  subst hm
  have HOW : Hid (w1.ownsRow (w.heap.size + 1) 85 4 (.slice (some ⟨b, 0, none⟩) C.lvs.length c) C.lvs.length (flat C.lvs)) := by show World.ownsRow _ _ _ _ _ _ _; simpa using hown
  have HB1 : Hid (Below w.heap.size w w1) := HB0.out.trans (hb1.mono (by simp))
  have hz1 : w.heap.size < w1.heap.size := by have := hb1.size; simp at this; omega
  clear hown hb1 HCF
  have HB2 : Hid (Below w1.heap.size w1 (w1.alloc (.cells (cfC C b 0 C.lvs.length c) 24))) := (Below.refl _ _).alloc (Nat.le_refl _) _
  have hbl := (HOW.out.lt b rfl)
  have HLV : Hid (LvAt (w1.alloc (.cells (cfC C b 0 C.lvs.length c) 24)) b 0 C.lvs) := lvAt_of ((owns_at HOW.out).below HB2.out hbl.2)
  go_wp2_with fail
  refine (open_empty C b 0 C.lvs.length c _ HR.out rfl HLV.out (right_wf HR.out)).mono ?_
  rintro e w2 ⟨X, rfl, hst, hb2⟩
  obtain ⟨z2, hP⟩ := box3 hb2
  have q0 := cell_blk (o := 0) hP rfl
  have q1 := cell_blk (o := 1) hP rfl
  have q2 := cell_blk (o := 2) hP rfl
  have HST : Hid (StoreAt w2 X (fun k => w1.heap.size + 1 ≤ k ∧ k < w2.heap.size) (St.new C) ⟨#[]⟩) := by show StoreAt _ _ _ _ _; simpa using hst
  have HBB : Hid (Below w.heap.size w w2) := (HB1.out.alloc (by omega) _).trans (hb2.mono (by simp; omega))
  have HL2 : Hid (LvAt w2 b 0 C.lvs) := HLV.out.below hb2 (by simp; omega)
  clear hst hb2 hP
  go_wp2_with fail
  go_ret
  have hd := DkS.new (w := w) (w2 := w2) (L := b) (lc := c) HR.out HST.out (fun k e => ⟨by have := e.1; omega, e.2⟩) HL2.out (fun e => by have := e.1; omega) HBB.out.size
  exact ⟨w2.heap.size, rfl, hd.at, HBB.out.alloc (by omega) _⟩

/-! A script in memory. -/
def Stp.zero : Stp := ⟨0, 0, []⟩
def stpG (l : List Stp) (i : Nat) : Stp := l.getD i Stp.zero
theorem stpG_get (l : List Stp) (i : Nat) (h : i < l.length) : stpG l i = l[i] := by simp [stpG, List.getD, h]
/-- A step at a place: its batch is samples that came in. -/
def StpAt (w : World) (b o : Nat) (x : Stp) : Prop := ∃ ba bn bc, w.cell? ⟨b, o, none⟩ = some (.int .i64 x.kind) ∧ w.cell? ⟨b, o + 1, none⟩ = some (.int .i64 x.a) ∧ w.cell? ⟨b, o + 2, none⟩ = some (.slice ba bn bc) ∧
  IsSms w ba bn x.batch ∧ bn ≤ 9000000000000
def StpWf (x : Stp) : Prop := (-9223372036854775808 ≤ x.kind ∧ x.kind ≤ 9223372036854775807) ∧ (-9223372036854775808 ≤ x.a ∧ x.a ≤ 9223372036854775807) ∧ SmWf x.batch
def IsScr (w : World) (a : Option Addr) (n : Nat) (l : List Stp) : Prop := l.length = n ∧ (∀ x ∈ l, StpWf x) ∧ (0 < n → ∃ b off, a = some ⟨b, off, none⟩ ∧ b < w.heap.size ∧ ∀ i, i < n → StpAt w b (off + i * 3) (stpG l i))
theorem IsScr.below {w w' : World} {a : Option Addr} {n : Nat} {l : List Stp} (h : IsScr w a n l) (hb : Below w.heap.size w w') : IsScr w' a n l := by
  refine ⟨h.1, h.2.1, fun hn => ?_⟩
  obtain ⟨b, off, e, hlt, hall⟩ := h.2.2 hn
  refine ⟨b, off, e, Nat.lt_of_lt_of_le hlt hb.size, fun i hi => ?_⟩
  obtain ⟨ba, bn, bc, c0, c1, c2, hs, hbn⟩ := hall i hi
  exact ⟨ba, bn, bc, (hb.cell (p := ⟨b, off + i * 3, none⟩) hlt).trans c0, (hb.cell (p := ⟨b, off + i * 3 + 1, none⟩) hlt).trans c1, (hb.cell (p := ⟨b, off + i * 3 + 2, none⟩) hlt).trans c2, hs.below hb, hbn⟩
def St.step' (s : St) (o : Stp) : St := if o.kind = 1 then s.tick' o.a else if o.kind = 2 then s.try' (shp s o.batch) else if o.kind = 3 then s.try' o.batch else s
theorem step_eq (s : St) (o : Stp) : s.step' o = s.step o := rfl
def stepL (s : St) (o : Stp) (lg : ByteArray) : ByteArray := if o.kind = 1 then tickL s o.a lg else if o.kind = 2 then tryL s (shp s o.batch) lg else if o.kind = 3 then tryL s o.batch lg else lg
theorem wf_mem {ls : List Sm} (h : SmWf ls) : ∀ x ∈ ls, x.wf := fun _ hx => mem_wf h hx
theorem wf_of {ls : List Sm} (h : ∀ x ∈ ls, x.wf) : SmWf ls := all_wf h

set_option maxHeartbeats 2000000 in
set_option maxRecDepth 100000 in
theorem step_any (B D : Nat) (s : St) (lg : ByteArray) (o : Stp) (ba : Option Addr) (bn bc : Nat) (w : World) (h : DkAt w B D s lg) (hwf : StpWf o) (hs : IsSms w ba bn o.batch) (hn : bn ≤ 9000000000000) (hb : 0 < bn → ∀ b off, ba = some ⟨b, off, none⟩ → b < B) :
    Calls Try.prog 11 #[.pointer (some ⟨D, 0, none⟩), .agg #[.int .i64 o.kind, .int .i64 o.a, .slice ba bn bc]] w fun e w' => e = .returned (.bool true) ∧ DkAt w' B D (s.step o) (stepL s o lg) ∧ Below B w w' := by
  obtain ⟨⟨w0, w1⟩, ⟨w2, w3⟩, w4⟩ := hwf
  have hbx : Below w.heap.size w (w.alloc (.cells #[.int .i64 o.kind, .int .i64 o.a, .slice ba bn bc] 42)) := (Below.refl _ _).alloc (Nat.le_refl _) _
  have HD : Hid (DkAt (w.alloc (.cells #[.int .i64 o.kind, .int .i64 o.a, .slice ba bn bc] 42)) B D s lg) := h.below hbx
  have HS : Hid (IsSms (w.alloc (.cells #[.int .i64 o.kind, .int .i64 o.a, .slice ba bn bc] 42)) ba bn o.batch) := hs.below hbx
  have hBw : B ≤ w.heap.size := by have := h.lt; omega
  have HBX : Hid (Below B w (w.alloc (.cells #[.int .i64 o.kind, .int .i64 o.a, .slice ba bn bc] 42))) := hbx.mono hBw
  have HB : Hid (0 < bn → ∀ b off, ba = some ⟨b, off, none⟩ → b < B) := hb
  have HW : Hid (SmWf o.batch) := w4
  have HI : Hid (Inv s) := h.inv
  clear h hs hb hbx w4
  rw [← step_eq]
  by_cases k1 : o.kind = 1
  · have HE : Hid (s.step' o = s.tick' o.a ∧ stepL s o lg = tickL s o.a lg) := ⟨if_pos k1, if_pos k1⟩
    rw [HE.out.1, HE.out.2]
    have hq1 : (o.kind == 1) = true := by simpa using k1
    clear k1
    go_enter Try.func11, Try.ntmps11
    go_wp2_with fail
    refine (ticks_any B D s lg o.a _ HD.out w2 w3).mono ?_
    rintro e w' ⟨rfl, hd, hb⟩
    have HX : Hid (DkAt w' B D (s.tick' o.a) (tickL s o.a lg) ∧ Below B w w') := ⟨hd, HBX.out.trans hb⟩
    clear hd hb
    go_wp2_with fail
    go_ret
    exact ⟨rfl, HX.out.1, HX.out.2⟩
  · by_cases k2 : o.kind = 2
    · have HE : Hid (s.step' o = s.try' (shp s o.batch) ∧ stepL s o lg = tryL s (shp s o.batch) lg) := ⟨by unfold St.step'; rw [if_neg k1, if_pos k2], by unfold stepL; rw [if_neg k1, if_pos k2]⟩
      rw [HE.out.1, HE.out.2]
      obtain ⟨X, F, L, lc, sv, hd⟩ := HD.out
      have HDS : Hid (DkS (w.alloc (.cells #[.int .i64 o.kind, .int .i64 o.a, .slice ba bn bc] 42)) B D X F s L lc sv lg) := hd
      have hq1 : (o.kind == 1) = false := by simpa using k1
      have hq2 : (o.kind == 2) = true := by simpa using k2
      clear hd k2
      go_enter Try.func11, Try.ntmps11
      go_wp2_with fail
      refine (shaped_any B D X F s L lc sv lg ba bn bc o.batch _ HDS.out HS.out hn HW.out).mono ?_
      rintro e w' ⟨v, rfl, hown, hb'⟩
      have HD2 : Hid (DkS w' B D X F s L lc sv lg) := HDS.out.below hb'
      have HBW : Hid (Below B w w') := HBX.out.trans (hb'.mono (by simp; omega))
      obtain ⟨va, vc, rfl⟩ := ownForm hown
      have HSS : Hid (IsSms w' va (shp s o.batch).length (shp s o.batch)) := ⟨rfl, fun hp => by
        obtain ⟨g, c', he, _⟩ := ownBlockForm hown hp
        injection he with h1 h2 h3
        subst h1
        exact ⟨g, 0, rfl, smAt_of (owns_at hown)⟩⟩
      have HOU : Hid (0 < (shp s o.batch).length → ∀ b off, va = some ⟨b, off, none⟩ → ¬ F b) := fun _ b off e hF => by
        subst e
        have h1 := (hown.lt b rfl).1
        have h2 := (HDS.out.fb b hF).2
        omega
      have hl8 : (shp s o.batch).length ≤ 8 := by simp [shp]; omega
      have HSW := shp_wf HI.out (wf_mem HW.out)
      clear hown hb'
      generalize hsh : shp s o.batch = S at *
      go_wp2_with fail
      refine (writes_any B D X F s L lc sv lg va S.length vc S _ HD2.out HSS.out (by omega) HSW (wf_of HSW) HOU.out).mono ?_
      rintro e w'' ⟨rfl, hd, hb⟩
      have HX : Hid (DkAt w'' B D (s.try' S) (tryL s S lg) ∧ Below B w w'') := ⟨hd, HBW.out.trans hb⟩
      clear hd hb
      go_wp2_with fail
      go_ret
      exact ⟨rfl, by rw [hsh]; exact HX.out.1, HX.out.2⟩
    · have hq1 : (o.kind == 1) = false := by simpa using k1
      have hq2 : (o.kind == 2) = false := by simpa using k2
      by_cases k3 : o.kind = 3
      · have HE : Hid (s.step' o = s.try' o.batch ∧ stepL s o lg = tryL s o.batch lg) := ⟨by unfold St.step'; rw [if_neg k1, if_neg k2, if_pos k3], by unfold stepL; rw [if_neg k1, if_neg k2, if_pos k3]⟩
        rw [HE.out.1, HE.out.2]
        obtain ⟨X, F, L, lc, sv, hd⟩ := HD.out
        have HDS : Hid (DkS (w.alloc (.cells #[.int .i64 o.kind, .int .i64 o.a, .slice ba bn bc] 42)) B D X F s L lc sv lg) := hd
        have HOU : Hid (0 < bn → ∀ b off, ba = some ⟨b, off, none⟩ → ¬ F b) := fun hp b off e hF => by
          have h1 := HB.out hp b off e
          have h2 := (HDS.out.fb b hF).1
          omega
        have hq3 : (o.kind == 3) = true := by simpa using k3
        clear hd k3
        go_enter Try.func11, Try.ntmps11
        go_wp2_with fail
        refine (writes_any B D X F s L lc sv lg ba bn bc o.batch _ HDS.out HS.out hn (wf_mem HW.out) HW.out HOU.out).mono ?_
        rintro e w'' ⟨rfl, hd, hb⟩
        have HX : Hid (DkAt w'' B D (s.try' o.batch) (tryL s o.batch lg) ∧ Below B w w'') := ⟨hd, HBX.out.trans hb⟩
        clear hd hb
        go_wp2_with fail
        go_ret
        exact ⟨rfl, HX.out.1, HX.out.2⟩
      · have hq3 : (o.kind == 3) = false := by simpa using k3
        have HE : Hid (s.step' o = s ∧ stepL s o lg = lg) := ⟨by unfold St.step'; rw [if_neg k1, if_neg k2, if_neg k3], by unfold stepL; rw [if_neg k1, if_neg k2, if_neg k3]⟩
        rw [HE.out.1, HE.out.2]
        go_enter Try.func11, Try.ntmps11
        go_wp2_with fail
        go_ret
        exact ⟨rfl, HD.out, HBX.out⟩

end Go.Proofs.Ythciddpljcbhiab

/- Walks: a desk behind a script (garnerkeep). -/
namespace Go.Proofs.Ythciddpljcbhiab
open Go Go.RowKit Go.Lib

def playP (s : St) (lg : ByteArray) (l : List Stp) : St × ByteArray := l.foldl (fun p o => (p.1.step o, stepL p.1 o p.2)) (s, lg)
theorem playP_fst (l : List Stp) : ∀ (s : St) (lg : ByteArray), (playP s lg l).1 = s.play l := by
  induction l with
  | nil => intro s lg; rfl
  | cons o l ih => intro s lg; exact ih (s.step o) (stepL s o lg)
theorem playP_snoc (s : St) (lg : ByteArray) (l : List Stp) (k : Nat) (h : k < l.length) : playP s lg (l.take (k + 1)) = ((playP s lg (l.take k)).1.step (stpG l k), stepL (playP s lg (l.take k)).1 (stpG l k) (playP s lg (l.take k)).2) := by
  unfold playP
  rw [List.take_succ_eq_append_getElem h, List.foldl_append, stpG_get l k h]
  rfl

set_option maxHeartbeats 2000000 in
set_option maxRecDepth 100000 in
theorem played_any (a : Option Addr) (n cap : Nat) (ls : List Lv) (span keep : Int) (sa : Option Addr) (sn sc : Nat) (l : List Stp) (w : World) (hls : IsLvs w a n ls) (hwf : LvWf2 ls) (s0 : -9223372036854775808 ≤ span) (s1 : span ≤ 9223372036854775807) (k0 : -9223372036854775808 ≤ keep) (k1 : keep ≤ 9223372036854775807)
    (hsc : IsScr w sa sn l) (hsn : sn ≤ 9000000000000) :
    Calls Try.prog 6 #[.agg #[.int .i64 span, .int .i64 keep, .slice a n cap], .slice sa sn sc] w fun e w' => ∃ D, e = .returned (.pointer (some ⟨D, 0, none⟩)) ∧ DkAt w' w.heap.size D (playP (St.new (conf span keep ls)) ⟨#[]⟩ l).1 (playP (St.new (conf span keep ls)) ⟨#[]⟩ l).2 ∧ Below w.heap.size w w' := by
  have HSC : Hid (IsScr w sa sn l) := hsc
  have HN : Hid (l.length = sn) := hsc.1
  have HLS : Hid (IsLvs w a n ls) := hls
  have HWF : Hid (LvWf2 ls) := hwf
  have HB0 : Hid (Below w.heap.size w (w.alloc (.cells #[.int .i64 span, .int .i64 keep, .slice a n cap] 24))) := (Below.refl _ _).alloc (Nat.le_refl _) _
  have HL0 : Hid (IsLvs (w.alloc (.cells #[.int .i64 span, .int .i64 keep, .slice a n cap] 24)) a n ls) := IsLvs.below hls HB0.out
  have HSE := seated_any a n cap ls span keep _ HL0.out HWF.out s0 s1 k0 k1
  clear hls hwf hsc
  generalize hC : St.new (conf span keep ls) = S0 at *
  go_enter Try.func6, Try.ntmps6
  go_wp2_with fail
  refine HSE.mono ?_
  rintro e w1 ⟨D, rfl, hd, hb1⟩
  have HD1 : Hid (DkAt w1 w.heap.size D S0 ⟨#[]⟩) := hd.mono (by simp)
  have HB1 : Hid (Below w.heap.size w w1) := HB0.out.trans (hb1.mono (by simp))
  clear hd hb1 HSE
  go_wp2_with fail
  go_loopw [6] (fun i wr => ∃ k : Nat, i = .int .i64 k ∧ k ≤ sn ∧ DkAt wr w.heap.size D (playP S0 ⟨#[]⟩ (l.take k)).1 (playP S0 ⟨#[]⟩ (l.take k)).2 ∧ Below w.heap.size w wr) (fun i _ => sn - (intOf i).toNat)
  case atStart => exact ⟨0, rfl, Nat.zero_le _, HD1.out, HB1.out⟩
  case round =>
    obtain ⟨k, rfl, hk, hd, hb⟩ := hrel
    have HD : Hid (DkAt wr w.heap.size D (playP S0 ⟨#[]⟩ (l.take k)).1 (playP S0 ⟨#[]⟩ (l.take k)).2) := hd
    have HB : Hid (Below w.heap.size w wr) := hb
    clear hd hb
    by_cases hlt : k < sn
    · obtain ⟨b, off, rfl, hbl, hall⟩ := HSC.out.2.2 (by omega)
      obtain ⟨ba, bn, bc, c0, c1, c2, hsm, hbn⟩ := hall k hlt
      have HPS : Hid (playP S0 ⟨#[]⟩ (l.take (k + 1)) = ((playP S0 ⟨#[]⟩ (l.take k)).1.step (stpG l k), stepL (playP S0 ⟨#[]⟩ (l.take k)).1 (stpG l k) (playP S0 ⟨#[]⟩ (l.take k)).2)) := playP_snoc S0 _ l k (by rw [HN.out]; exact hlt)
      have HWX : Hid (StpWf (stpG l k)) := HSC.out.2.1 _ (by rw [stpG_get l k (by rw [HN.out]; exact hlt)]; exact List.getElem_mem _)
      generalize hZ : stpG l k = Z at *
      have d0 : wr.cell? ⟨b, off + k * 3, none⟩ = some (.int .i64 Z.kind) := (HB.out.cell (p := ⟨b, off + k * 3, none⟩) hbl).trans c0
      have d1 : wr.cell? ⟨b, off + k * 3 + 1, none⟩ = some (.int .i64 Z.a) := (HB.out.cell (p := ⟨b, off + k * 3 + 1, none⟩) hbl).trans c1
      have d2 : wr.cell? ⟨b, off + k * 3 + 2, none⟩ = some (.slice ba bn bc) := (HB.out.cell (p := ⟨b, off + k * 3 + 2, none⟩) hbl).trans c2
      have HSM : Hid (IsSms wr ba bn Z.batch) := hsm.below HB.out
      have HBL : Hid (0 < bn → ∀ b' off', ba = some ⟨b', off', none⟩ → b' < w.heap.size) := fun hp b' off' e => by
        obtain ⟨b2, off2, e2, hat⟩ := hsm.2 hp
        rw [e] at e2
        injection e2 with e2
        injection e2 with e2
        rw [e2]
        exact hat.block (by rw [hsm.1]; exact hp)
      clear hall c0 c1 c2 hsm
      generalize hP : playP S0 ⟨#[]⟩ (l.take k) = P at *
      go_wp2_with fail
      refine (step_any w.heap.size D P.1 P.2 Z ba bn bc wr HD.out HWX.out HSM.out hbn HBL.out).mono ?_
      rintro e w2 ⟨rfl, hd, hb2⟩
      have HX : Hid (DkAt w2 w.heap.size D (playP S0 ⟨#[]⟩ (l.take (k + 1))).1 (playP S0 ⟨#[]⟩ (l.take (k + 1))).2 ∧ Below w.heap.size w w2) := by
        show _ ∧ _
        rw [HPS.out]
        exact ⟨hd, HB.out.trans hb2⟩
      clear hd hb2
      go_wp2_with fail
      exact ⟨⟨k + 1, by go_num, by omega, HX.out.1, HX.out.2⟩, by simp [intOf]; omega⟩
    · have HE : Hid (l.take k = l) := List.take_of_length_le (by rw [HN.out]; omega)
      go_wp2_with fail
      go_ret
      exact ⟨D, rfl, by rw [HE.out] at HD; exact HD.out, HB.out⟩

end Go.Proofs.Ythciddpljcbhiab

/- Changes, their records, and what is done again out of bytes (no program). -/
namespace Go.Proofs.Ythciddpljcbhiab
open Go Go.RowKit Go.Lib

inductive Chg where
  | w (b : List Sm)
  | t (n : Int)
def Chg.nums : Chg → List Int
  | .w b => recB b
  | .t n => tickB n
def Chg.ok (s : St) : Chg → Prop
  | .w b => wrE s b = 0 ∧ (∀ x ∈ b, x.wf)
  | .t n => tkE s n = 0
def St.do (s : St) : Chg → St
  | .w b => s.wr b
  | .t n => s.tk n
def St.doAll (s : St) (cs : List Chg) : St := cs.foldl St.do s
def Acc : St → List Chg → Prop
  | _, [] => True
  | s, c :: cs => c.ok s ∧ Acc (s.do c) cs
def logN (cs : List Chg) : List Int := cs.flatMap Chg.nums
theorem logN_cons (c : Chg) (cs : List Chg) : logN (c :: cs) = c.nums ++ logN cs := by simp [logN]
theorem logN_append (a b : List Chg) : logN (a ++ b) = logN a ++ logN b := by simp [logN]
theorem doAll_append (s : St) (a b : List Chg) : s.doAll (a ++ b) = (s.doAll a).doAll b := by simp [St.doAll]
theorem acc_append : ∀ (a : List Chg) (s : St) (b : List Chg), Acc s (a ++ b) ↔ Acc s a ∧ Acc (s.doAll a) b
  | [], s, b => by simp [Acc, St.doAll]
  | c :: a, s, b => by
    have := acc_append a (s.do c) b
    simp only [List.cons_append, Acc, this, and_assoc]
    rfl
theorem Chg.pos (c : Chg) : 6 ≤ c.nums.length := by
  cases c with
  | w b => show 6 ≤ (recB b).length; rw [recB_len]; omega
  | t n => show 6 ≤ (tickB n).length; rw [tickB_len]; omega
theorem Inv.do {s : St} (h : Inv s) {c : Chg} (hc : c.ok s) : Inv (s.do c) := by
  cases c with
  | w b => exact h.wr hc.1 hc.2
  | t n => exact h.tk hc
theorem batE_of {s : St} {b : List Sm} (h : wrE s b = 0) : batE b = 0 := (wrE_ok h).1
theorem tickB_byte {n : Int} (h0 : 0 ≤ n) (h1 : n ≤ 1000) : ∀ x ∈ tickB n, isByte x := by
  intro x hx
  unfold tickB at hx
  rw [List.mem_append] at hx
  rcases hx with hx | hx
  · exact tickH_byte h0 h1 x hx
  · exact lowN_byte 4 _ x hx
theorem Chg.byte {s : St} {c : Chg} (h : c.ok s) : ∀ x ∈ c.nums, isByte x := by
  cases c with
  | w b =>
    have hb := (batE_zero b).1 (batE_of h.1)
    exact recB_byte2 (all_wf h.2) (by omega)
  | t n =>
    have := tkE_zero h
    exact tickB_byte (by omega) (by omega)
theorem acc_byte : ∀ (cs : List Chg) (s : St), Acc s cs → ∀ x ∈ logN cs, isByte x
  | [], _, _, x, hx => by simp [logN] at hx
  | c :: cs, s, h, x, hx => by
    rw [logN_cons, List.mem_append] at hx
    rcases hx with hx | hx
    · exact Chg.byte h.1 x hx
    · exact acc_byte cs (s.do c) h.2 x hx

/-! What stands at the head of bytes. -/
def tickR (s : ByteArray) : Int := byt s 1 + 256 * byt s 2
def tkOk (s : ByteArray) : Bool := decide (7 ≤ s.size) && decide (byt s 0 = 84) && decide (num4 s 3 = chk ((nums s).take 3))
theorem tkOk_iff (s : ByteArray) : tkOk s = true ↔ 7 ≤ s.size ∧ byt s 0 = 84 ∧ num4 s 3 = chk ((nums s).take 3) := by simp [tkOk, and_assoc]
def nextC (s : St) (x : ByteArray) : Option Chg :=
  if unOk x = true ∧ wrE s (smsR x (cN x)) = 0 then some (.w (smsR x (cN x))) else if tkOk x = true ∧ tkE s (tickR x) = 0 then some (.t (tickR x)) else none
def redoN : Nat → St → ByteArray → List Chg
  | 0, _, _ => []
  | f + 1, s, x => if x.size = 0 then [] else match nextC s x with
    | none => []
    | some c => c :: redoN f (s.do c) (x.extract c.nums.length x.size)

theorem nums_drop (x : ByteArray) (k : Nat) : nums (x.extract k x.size) = (nums x).drop k := by
  unfold nums
  rw [← List.map_drop]
  congr 1
  rw [ByteArray.data_extract, Array.toList_extract, List.extract_eq_take_drop]
  exact List.take_of_length_le (by rw [List.length_drop, Array.length_toList]; exact Nat.le_refl _)
theorem byt_get {x : ByteArray} {k : Nat} {v : Int} {l : List Int} (h : nums x = l) (hv : l[k]? = some v) : byt x k = v := byt_nums (by rw [h]; exact hv)
theorem unOk_first {x : ByteArray} (h : byt x 0 ≠ 87) : unOk x = false := by
  unfold unOk
  have : headOk x = false := by
    cases hh : headOk x
    · rfl
    · exact absurd ((headOk_iff x).1 hh).2.1 h
  rw [this]; rfl
theorem tickB_eq (n : Int) : tickB n = 84 :: (n % 256) :: (n / 256) :: lowN (chk (tickH n)) 4 := rfl
theorem tick_back {x : ByteArray} {n : Int} {rest : List Int} (h : nums x = tickB n ++ rest) : tkOk x = true ∧ tickR x = n ∧ unOk x = false := by
  have hb0 : byt x 0 = 84 := byt_get h rfl
  have hb1 : byt x 1 = n % 256 := byt_get h rfl
  have hb2 : byt x 2 = n / 256 := byt_get h rfl
  have hsz : x.size = 7 + rest.length := by rw [← nums_len, h, List.length_append, tickB_len]
  have ht : (nums x).take 3 = tickH n := by rw [h]; rfl
  have hn4 : num4 x 3 = chk (tickH n) := num4_low (l1 := tickH n) (l2 := rest) (chk_range _) (by rw [h]; rfl) rfl
  refine ⟨(tkOk_iff x).2 ⟨by omega, hb0, by rw [hn4, ht]⟩, ?_, unOk_first (by rw [hb0]; omega)⟩
  unfold tickR
  rw [hb1, hb2]
  omega
/-- A record that is accepted is what is done next, whatever stands behind it. -/
theorem next_ok {s : St} {c : Chg} (hc : c.ok s) {x : ByteArray} {rest : List Int} (h : nums x = c.nums ++ rest) : nextC s x = some c := by
  cases c with
  | w b =>
    obtain ⟨b1, b2, b3⟩ := (batE_zero b).1 (batE_of hc.1)
    obtain ⟨u1, u2, u3⟩ := whole_yes (s := x) (ls := b) b1 b2 (all_wf hc.2) b3 h
    unfold nextC
    rw [u3, if_pos ⟨u1, hc.1⟩]
  | t n =>
    obtain ⟨u1, u2, u3⟩ := tick_back (x := x) (n := n) h
    unfold nextC
    rw [u3, u2, if_neg (by simp), if_pos ⟨u1, hc⟩]
theorem redo_acc : ∀ (cs : List Chg) (f : Nat) (s : St) (x : ByteArray) (tail : List Int), x.size ≤ f → Acc s cs → nums x = logN cs ++ tail → (tail = [] ∨ ∀ y : ByteArray, nums y = tail → nextC (s.doAll cs) y = none) → redoN f s x = cs
  | [], f, s, x, tail, hf, _, h, ht => by
    have h' : nums x = tail := by simpa [logN] using h
    cases f with
    | zero => rfl
    | succ f =>
      unfold redoN
      by_cases h0 : x.size = 0
      · rw [if_pos h0]
      · rw [if_neg h0]
        rcases ht with ht | ht
        · rw [ht] at h'
          have := nums_len x
          rw [h'] at this
          simp at this
          omega
        · have : nextC s x = none := ht x h'
          rw [this]
  | c :: cs, f, s, x, tail, hf, ha, h, ht => by
    have hpos := c.pos
    rw [logN_cons, List.append_assoc] at h
    have hsz : x.size = c.nums.length + (logN cs ++ tail).length := by rw [← nums_len, h, List.length_append]
    cases f with
    | zero => omega
    | succ f =>
      unfold redoN
      rw [if_neg (by omega), next_ok ha.1 h]
      have hd : nums (x.extract c.nums.length x.size) = logN cs ++ tail := by rw [nums_drop, h, List.drop_left]
      have hz : (x.extract c.nums.length x.size).size ≤ f := by rw [← nums_len, hd]; omega
      have := redo_acc cs f (s.do c) (x.extract c.nums.length x.size) tail hz ha.2 hd ht
      simp only [this]

/-! The changes of a script. -/
def tryC (s : St) (b : List Sm) : List Chg := if fineB s b then [.w b] else []
def stepC (s : St) (o : Stp) : List Chg := if o.kind = 1 then (if tkE s o.a = 0 then [.t o.a] else []) else if o.kind = 2 then tryC s (shp s o.batch) else if o.kind = 3 then tryC s o.batch else []
def playC : St → List Stp → List Chg
  | _, [] => []
  | s, o :: l => stepC s o ++ playC (s.step o) l
theorem playC_cons (s : St) (o : Stp) (l : List Stp) : playC s (o :: l) = stepC s o ++ playC (s.step o) l := rfl
theorem tryC_do (s : St) (b : List Sm) : s.doAll (tryC s b) = s.try' b := by unfold tryC St.try'; split <;> rfl
theorem stepC_do (s : St) (o : Stp) : s.doAll (stepC s o) = s.step o := by
  rw [← step_eq]
  unfold stepC St.step' St.tick'
  split
  · split <;> rfl
  · split
    · exact tryC_do _ _
    · split
      · exact tryC_do _ _
      · rfl
theorem str_nil : strOfNums [] = ByteArray.empty := rfl
theorem ba_append_nil (a : ByteArray) : a ++ strOfNums [] = a := by rw [str_nil]; exact ByteArray.append_empty
theorem tryL_eq (s : St) (b : List Sm) (lg : ByteArray) : tryL s b lg = lg ++ strOfNums (logN (tryC s b)) := by
  unfold tryL tryC
  split
  · simp [logN, Chg.nums]
  · exact (ba_append_nil lg).symm
theorem stepL_eq (s : St) (o : Stp) (lg : ByteArray) : stepL s o lg = lg ++ strOfNums (logN (stepC s o)) := by
  unfold stepL stepC tickL
  split
  · split
    · simp [logN, Chg.nums]
    · exact (ba_append_nil lg).symm
  · split
    · exact tryL_eq _ _ _
    · split
      · exact tryL_eq _ _ _
      · exact (ba_append_nil lg).symm
theorem playC_eq : ∀ (l : List Stp) (s : St) (lg : ByteArray), playP s lg l = (s.doAll (playC s l), lg ++ strOfNums (logN (playC s l)))
  | [], s, lg => by
    show (s, lg) = (s, lg ++ strOfNums (logN []))
    rw [show logN [] = [] from rfl, ba_append_nil]
  | o :: l, s, lg => by
    have h : playP s lg (o :: l) = playP (s.step o) (stepL s o lg) l := rfl
    rw [h, playC_eq l, stepL_eq, playC_cons]
    rw [doAll_append, stepC_do, logN_append, ← str_add, ByteArray.append_assoc]
theorem tryC_acc {s : St} (h : Inv s) {b : List Sm} (hw : ∀ x ∈ b, x.wf) : Acc s (tryC s b) := by
  unfold tryC
  split
  · next hf => exact ⟨⟨(fine_iff h b).1 hf, hw⟩, trivial⟩
  · trivial
theorem stepC_acc {s : St} (h : Inv s) {o : Stp} (hw : ∀ x ∈ o.batch, x.wf) : Acc s (stepC s o) := by
  unfold stepC
  split
  · split
    · next he => exact ⟨he, trivial⟩
    · trivial
  · split
    · exact tryC_acc h (shp_wf h hw)
    · split
      · exact tryC_acc h hw
      · trivial
theorem playC_acc : ∀ (l : List Stp) (s : St), Inv s → (∀ o ∈ l, ∀ x ∈ o.batch, x.wf) → Acc s (playC s l)
  | [], _, _, _ => trivial
  | o :: l, s, h, hw => by
    rw [playC_cons, acc_append, stepC_do]
    exact ⟨stepC_acc h (hw o (by simp)), playC_acc l (s.step o) (h.step (hw o (by simp))) (fun x hx => hw x (by simp [hx]))⟩
theorem doAll_c : ∀ (cs : List Chg) (s : St), (s.doAll cs).c = s.c
  | [], _ => rfl
  | c :: cs, s => by
    have := doAll_c cs (s.do c)
    show ((s.do c).doAll cs).c = s.c
    rw [this]
    cases c <;> rfl

end Go.Proofs.Ythciddpljcbhiab

/- Walks: the log; a log's records done again. -/
namespace Go.Proofs.Ythciddpljcbhiab
open Go Go.RowKit Go.Lib

/-! Bytes as a string. -/
theorem str_nums (s : ByteArray) : strOfNums (nums s) = s := by
  apply ByteArray.ext
  apply Array.ext'
  rw [strOfNums_data]
  unfold nums
  rw [List.map_map]
  have : ((fun n : Int => UInt8.ofNat n.toNat) ∘ fun b : UInt8 => (b.toNat : Int)) = id := by
    funext b
    simp
  rw [this, List.map_id]
theorem strCells_nums (s : ByteArray) : strCells s = (nums s).map (Value.int .u8) := by unfold strCells nums; rw [List.map_map]; rfl
theorem nums_ba_inj {a b : ByteArray} (h : nums a = nums b) : a = b := by rw [← str_nums a, h, str_nums]
theorem conv_log {w : World} {B : Nat} {v : Value} {lg : ByteArray} (h : w.ownsRow B 5 1 v lg.size (strCells lg)) : (convert 60 9 v).run Try.prog w = .ok (.string lg) w := by
  by_cases h0 : 0 < lg.size
  · rw [strCells_nums] at h
    have := convOwn h h0
    rw [str_nums] at this
    exact this
  · have he : lg = ByteArray.empty := by
      apply nums_ba_inj
      have := nums_len lg
      have h1 : nums lg = [] := List.eq_nil_of_length_eq_zero (by omega)
      rw [h1]; rfl
    rcases h.2 with ⟨rfl, _⟩ | ⟨g, cap, cur, rfl, _⟩
    · rw [run_convert_bytes_nil (P := Try.prog) w 60 5 Try.underlying60 Try.underlying5 _ _ 9 Try.underlying9, he]
    · have := run_convert_bytes_arg (P := Try.prog) w 60 5 Try.underlying60 Try.underlying5 g 0 lg.size cap [] (by simp; omega) (fun i hi => by omega) 9 Try.underlying9
      rw [this, he]; rfl

set_option maxHeartbeats 400000 in
theorem log_any (X : Nat) (F : Nat → Prop) (s : St) (lg : ByteArray) (w : World) (h : StoreAt w X F s lg) : Calls Try.prog 7 #[.pointer (some ⟨X, 0, none⟩)] w fun e w' => e = .returned (.string lg) ∧ w' = w := by
  obtain ⟨L, lcap, pv, bv, bk, gv, h⟩ := h
  have c7 := h.cell 7 _ rfl
  have hcv := conv_log h.log
  clear h
  go_enter Try.func7, Try.ntmps7
  go_wp2_with fail
  go_ret
  exact ⟨rfl, rfl⟩

/-! The record of a Tick, read. -/
theorem wIn (n : Int) (h : -9223372036854775808 ≤ n ∧ n ≤ 9223372036854775807) : wrap64 n = n := by unfold wrap64; omega
theorem or8i {x y : Nat} (hx : x < 256) (hy : y < 256) : bits .or .i64 (wrap64 (x : Int)) (wrap64 (wrap64 (y : Int) * 256)) = (x : Int) + 256 * (y : Int) := by
  rw [wIn (x : Int) (by omega), wIn (y : Int) (by omega), wIn ((y : Int) * 256) (by omega)]
  have e : (y : Int) * 256 = ((2 ^ 8 * y : Nat) : Int) := by omega
  rw [e, (bits_nat .i64 16 (by decide) (fun n h0 h1 => by rw [IntKind.wrap_i64]; omega) x (2 ^ 8 * y) (by omega) (by omega)).2, Nat.or_comm, ← Nat.two_pow_add_eq_or_of_lt (show x < 2 ^ 8 by omega) y]
  omega
theorem tickR_eq {s : ByteArray} (h1 : 1 < s.size) (h2 : 2 < s.size) : bits .or .i64 (wrap64 ((s[1].toNat : Nat) : Int)) (wrap64 (wrap64 ((s[2].toNat : Nat) : Int) * 256)) = tickR s := by
  rw [or8i s[1].toNat_lt s[2].toNat_lt, byt_eq s 1 h1, byt_eq s 2 h2]
  rfl
theorem ret3_i {a b : Int} {v1 v2 : Value} (h : a = b) : Ending.returned (.tuple #[.int .i64 a, v1, v2]) = .returned (.tuple #[.int .i64 b, v1, v2]) := by rw [h]
/-- What ReadTick answers. -/
def TkPost (s : ByteArray) (w : World) (e : Ending) (w' : World) : Prop :=
  Below w.heap.size w w' ∧ ((tkOk s = true ∧ e = .returned (.tuple #[.int .i64 (tickR s), .int .i64 7, .int .i64 0])) ∨ (tkOk s = false ∧ e = .returned (.tuple #[.int .i64 0, .int .i64 0, .int .i64 13])))
theorem tkOk_no {s : ByteArray} (h : ¬ (7 ≤ s.size ∧ byt s 0 = 84 ∧ num4 s 3 = chk ((nums s).take 3))) : tkOk s = false := by
  cases hh : tkOk s
  · rfl
  · exact absurd ((tkOk_iff s).1 hh) h

set_option maxHeartbeats 1000000 in
set_option maxRecDepth 100000 in
theorem readTick_any (s : ByteArray) (w : World) (hs : s.size ≤ maxLen) : Calls Try.prog 67 #[.string s] w (TkPost s w) := by
  have HS : Hid (s.size ≤ maxLen) := hs
  unfold maxLen at hs
  by_cases h7 : 7 ≤ s.size
  · have B0 : ((s[0].toNat : Nat) : Int) = byt s 0 := byt_eq s 0 (by omega)
    have i1 : 1 < s.size := by omega
    have i2 : 2 < s.size := by omega
    by_cases hT : byt s 0 = 84
    · have hTb : (((s[0].toNat : Nat) : Int) != 84) = false := by rw [B0, hT]; rfl
      have HCK := fun w => check_any (s.extract 0 3) w (by simp [ByteArray.size_extract]; unfold maxLen; omega)
      rw [nums_extract] at HCK
      have HRN := fun w => readNumber_any s 3 w HS.out (by omega)
      by_cases hc : num4 s 3 = chk ((nums s).take 3)
      · have HOK : Hid (tkOk s = true) := (tkOk_iff s).2 ⟨h7, hT, hc⟩
        have hcb : (num4 s 3 != chk ((nums s).take 3)) = false := by rw [hc]; simp
        have HTR := tickR_eq i1 i2
        have HTRH : Hid (bits .or .i64 (wrap64 ((s[1].toNat : Nat) : Int)) (wrap64 (wrap64 ((s[2].toNat : Nat) : Int) * 256)) = tickR s) := HTR
        clear hc hT B0 HTR
        generalize num4 s 3 = N4 at *
        generalize chk ((nums s).take 3) = CK at *
        go_enter Try.func67, Try.ntmps67
        go_wp2_with fail
        refine (HCK _).mono ?_
        rintro e w1 ⟨rfl, rfl⟩
        go_wp2_with fail
        refine (HRN _).mono ?_
        rintro e w1 ⟨rfl, rfl⟩
        go_wp2_with fail
        go_region_with fail
        all_goals go_wp2_with fail
        all_goals go_ret3
        all_goals exact ⟨by first | exact (Below.refl _ _).drew | exact below_drewN (Below.refl _ _) _ | exact Below.refl _ _, .inl ⟨HOK.out, ret3_i HTRH.out⟩⟩
      · have HNO : Hid (tkOk s = false) := tkOk_no (fun h => hc h.2.2)
        have hcb : (num4 s 3 != chk ((nums s).take 3)) = true := by simpa using hc
        clear hc hT B0
        generalize num4 s 3 = N4 at *
        generalize chk ((nums s).take 3) = CK at *
        go_enter Try.func67, Try.ntmps67
        go_wp2_with fail
        refine (HCK _).mono ?_
        rintro e w1 ⟨rfl, rfl⟩
        go_wp2_with fail
        refine (HRN _).mono ?_
        rintro e w1 ⟨rfl, rfl⟩
        go_wp2_with fail
        go_ret3
        exact ⟨Below.refl _ _, .inr ⟨HNO.out, rfl⟩⟩
    · have HNO : Hid (tkOk s = false) := tkOk_no (fun h => hT h.2.1)
      have hTb : (((s[0].toNat : Nat) : Int) != 84) = true := by rw [B0]; simpa using hT
      clear hT B0
      go_enter Try.func67, Try.ntmps67
      go_wp2_with fail
      go_ret3
      exact ⟨Below.refl _ _, .inr ⟨HNO.out, rfl⟩⟩
  · have HNO : Hid (tkOk s = false) := tkOk_no (fun h => h7 h.1)
    have h7' : (s.size : Int) < 7 := by omega
    go_enter Try.func67, Try.ntmps67
    go_wp2_with fail
    go_ret3
    exact ⟨Below.refl _ _, .inr ⟨HNO.out, rfl⟩⟩

/-! Records done. -/
/-- What became of a store by a change, or none: a number of bytes is told. -/
def DoPost (X : Nat) (F : Nat → Prop) (s : St) (lg : ByteArray) (w : World) (c : Option Chg) (e : Ending) (w' : World) : Prop :=
  match c with
  | some c => e = .returned (.int .i64 (c.nums.length : Int)) ∧ StoreAt w' X (gF F w w') (s.do c) (lg ++ strOfNums c.nums) ∧ Fr F w w'
  | none => e = .returned (.int .i64 0) ∧ Below w.heap.size w w'
def nextT (s : St) (x : ByteArray) : Option Chg := if tkOk x = true ∧ tkE s (tickR x) = 0 then some (.t (tickR x)) else none
def nextW (s : St) (x : ByteArray) : Option Chg := if unOk x = true ∧ wrE s (smsR x (cN x)) = 0 then some (.w (smsR x (cN x))) else none
theorem tickR_range (s : ByteArray) : 0 ≤ tickR s ∧ tickR s ≤ 65535 := by
  have := byt_range s 1
  have := byt_range s 2
  unfold tickR; omega
theorem gF_below {F : Nat → Prop} {w w1 w2 : World} (hb : Below w.heap.size w w1) : ∀ k, gF F w1 w2 k → gF F w w2 k := fun k e => by
  rcases e with e | e
  · exact .inl e
  · exact .inr ⟨by have := hb.size; omega, e.2⟩

set_option maxHeartbeats 1000000 in
theorem redoTick_any (X : Nat) (F : Nat → Prop) (s : St) (lg x : ByteArray) (w : World) (h : StoreAt w X F s lg) (hs : x.size ≤ maxLen) :
    Calls Try.prog 50 #[.pointer (some ⟨X, 0, none⟩), .string x] w (DoPost X F s lg w (nextT s x)) := by
  have HS : Hid (StoreAt w X F s lg) := h
  have HM : Hid (x.size ≤ maxLen) := hs
  obtain ⟨r0, r1⟩ := tickR_range x
  clear h hs
  go_enter Try.func50, Try.ntmps50
  go_wp2_with fail
  refine (readTick_any x w HM.out).mono ?_
  rintro e w1 ⟨hb, ⟨hok, rfl⟩ | ⟨hok, rfl⟩⟩
  · have HS1 : Hid (StoreAt w1 X F s lg) := HS.out.below hb
    have HB : Hid (Below w.heap.size w w1) := hb
    have HOK : Hid (tkOk x = true) := hok
    clear hb hok
    go_wp2_with fail
    by_cases he : tkE s (tickR x) = 0
    · have HN : Hid (nextT s x = some (.t (tickR x))) := if_pos ⟨HOK.out, he⟩
      have HE : Hid (tkE s (tickR x) = 0) := he
      clear he
      refine (tick_yes X F s (tickR x) lg w1 HS1.out HE.out).mono ?_
      rintro e w2 ⟨rfl, hst, hfr⟩
      go_wp2_with fail
      go_ret
      rw [HN.out]
      exact ⟨by show _ = Ending.returned (.int .i64 ((tickB (tickR x)).length : Int)); rw [tickB_len]; rfl, hst.mono (gF_below HB.out), (Fr.of_below (S := F) HB.out).trans hfr (fun k e => .inl e)⟩
    · have HN : Hid (nextT s x = none) := if_neg (fun h => he h.2)
      refine (tick_no X F s (tickR x) w1 HS1.out (by omega) (by omega) he).mono ?_
      rintro e w2 ⟨rfl, rfl⟩
      go_wp2_with fail
      go_ret
      rw [HN.out]
      exact ⟨rfl, HB.out⟩
  · have HN : Hid (nextT s x = none) := if_neg (fun h => by rw [hok] at h; exact absurd h.1 (by simp))
    have HB : Hid (Below w.heap.size w w1) := hb
    clear hb hok
    go_wp2_with fail
    go_ret
    rw [HN.out]
    exact ⟨rfl, HB.out⟩

set_option maxHeartbeats 1000000 in
theorem redoWrite_any (X : Nat) (F : Nat → Prop) (s : St) (lg x : ByteArray) (w : World) (h : StoreAt w X F s lg) (hF : ∀ k, F k → k < w.heap.size) (hs : x.size ≤ maxLen) :
    Calls Try.prog 49 #[.pointer (some ⟨X, 0, none⟩), .string x] w (DoPost X F s lg w (nextW s x)) := by
  have HS : Hid (StoreAt w X F s lg) := h
  have HM : Hid (x.size ≤ maxLen) := hs
  have HFF : Hid (∀ k, F k → k < w.heap.size) := hF
  clear h hs hF
  go_enter Try.func49, Try.ntmps49
  go_wp2_with fail
  refine (readBatch_any x w HM.out).mono ?_
  rintro e w1 ⟨hb, ⟨hok, v, rfl, hown⟩ | ⟨hok, rfl⟩⟩
  · have HS1 : Hid (StoreAt w1 X F s lg) := HS.out.below hb
    have HB : Hid (Below w.heap.size w w1) := hb
    have HOK : Hid (unOk x = true) := hok
    have hcn : 1 ≤ cN x ∧ cN x ≤ 8 := by
      have h1 : headOk x = true := by
        have h2 := hok
        unfold unOk at h2
        rw [Bool.and_eq_true] at h2
        exact h2.1
      have := (headOk_iff x).1 h1
      omega
    obtain ⟨hc1, hc8⟩ := hcn
    obtain ⟨g, cap, rfl, hg1, hg2, _⟩ := ownBlockForm hown (by omega)
    have HAT : Hid (SmAt w1 g 0 (smsR x (cN x))) := smAt_of (owns_at hown)
    have HLN : Hid ((smsR x (cN x)).length = cN x) := smsR_len x (cN x)
    have HGF : Hid (¬ F g) := fun e => by have := HFF.out g e; omega
    clear hb hok hown
    go_wp2_with fail
    by_cases he : wrE s (smsR x (cN x)) = 0
    · have HN : Hid (nextW s x = some (.w (smsR x (cN x)))) := if_pos ⟨HOK.out, he⟩
      have HE : Hid (wrE s (smsR x (cN x)) = 0) := he
      clear he
      refine (write_yes X F s g 0 (cN x) cap (smsR x (cN x)) lg w1 HS1.out HLN.out HAT.out HGF.out (wf_mem (smsR_wf x (cN x))) (smsR_wf x (cN x)) HE.out).mono ?_
      rintro e w2 ⟨rfl, hst, hfr⟩
      go_wp2_with fail
      go_ret
      rw [HN.out]
      exact ⟨by show _ = Ending.returned (.int .i64 ((recB (smsR x (cN x))).length : Int)); rw [recB_len, HLN.out]; show Ending.returned (.int .i64 _) = _; congr 2; omega, hst.mono (gF_below HB.out), (Fr.of_below (S := F) HB.out).trans hfr (fun k e => .inl e)⟩
    · have HN : Hid (nextW s x = none) := if_neg (fun h => he h.2)
      have hbq : (wrE s (smsR x (cN x)) != 0) = true := by simpa using he
      have HE : Hid (wrE s (smsR x (cN x)) ≠ 0) := he
      clear he
      refine (write_no X F s (some ⟨g, 0, none⟩) (cN x) cap (smsR x (cN x)) w1 HS1.out ⟨HLN.out, fun _ => ⟨g, 0, rfl, HAT.out⟩⟩ (by unfold maxLen; omega) HE.out).mono ?_
      rintro e w2 ⟨rfl, hb2⟩
      have HB2 : Hid (Below w.heap.size w w2) := HB.out.trans (hb2.mono HB.out.size)
      clear hb2
      generalize wrE s (smsR x (cN x)) = E at *
      go_wp2_with fail
      go_ret
      rw [HN.out]
      exact ⟨rfl, HB2.out⟩
  · have HN : Hid (nextW s x = none) := if_neg (fun h => by rw [hok] at h; exact absurd h.1 (by simp))
    have HB : Hid (Below w.heap.size w w1) := hb
    clear hb hok
    go_wp2_with fail
    go_ret
    rw [HN.out]
    exact ⟨rfl, HB.out⟩

end Go.Proofs.Ythciddpljcbhiab

/- Walks: a log's records done again, one behind the other. -/
namespace Go.Proofs.Ythciddpljcbhiab
open Go Go.RowKit Go.Lib

theorem nextC_eq (s : St) (x : ByteArray) : nextC s x = match nextW s x with | some c => some c | none => nextT s x := by
  unfold nextC nextW nextT
  split <;> rfl
theorem nextC_le {s : St} {x : ByteArray} {c : Chg} (h : nextC s x = some c) : c.nums.length ≤ x.size ∧ c.nums.length ≤ 100 := by
  unfold nextC at h
  split at h
  · next hc =>
    have := Option.some.inj h
    subst this
    have h1 : headOk x = true := by
      have h2 := hc.1
      unfold unOk at h2
      rw [Bool.and_eq_true] at h2
      exact h2.1
    have h3 := (headOk_iff x).1 h1
    show (recB (smsR x (cN x))).length ≤ x.size ∧ (recB (smsR x (cN x))).length ≤ 100
    rw [recB_len, smsR_len]
    omega
  · split at h
    · next hc =>
      have := Option.some.inj h
      subst this
      have h3 := (tkOk_iff x).1 hc.1
      show (tickB (tickR x)).length ≤ x.size ∧ (tickB (tickR x)).length ≤ 100
      rw [tickB_len]
      omega
    · cases h

set_option maxHeartbeats 1000000 in
theorem redoFirst_any (X : Nat) (F : Nat → Prop) (s : St) (lg x : ByteArray) (w : World) (h : StoreAt w X F s lg) (hF : ∀ k, F k → k < w.heap.size) (hs : x.size ≤ maxLen) :
    Calls Try.prog 36 #[.pointer (some ⟨X, 0, none⟩), .string x] w (DoPost X F s lg w (nextC s x)) := by
  have HS : Hid (StoreAt w X F s lg) := h
  have HM : Hid (x.size ≤ maxLen) := hs
  have HW := redoWrite_any X F s lg x w h hF hs
  have HNC : Hid (nextC s x = match nextW s x with | some c => some c | none => nextT s x) := nextC_eq s x
  clear h hs
  cases hw : nextW s x with
  | some c =>
    rw [hw] at HW HNC
    have hp := c.pos
    have hpi : ¬ (c.nums.length : Int) ≤ 0 := by omega
    have HC : Hid (nextC s x = some c) := HNC.out
    clear hw HNC
    go_enter Try.func36, Try.ntmps36
    go_wp2_with fail
    refine HW.mono ?_
    rintro e w1 ⟨rfl, hst, hfr⟩
    go_wp2_with fail
    go_ret
    rw [HC.out]
    exact ⟨rfl, hst, hfr⟩
  | none =>
    rw [hw] at HW HNC
    have HC : Hid (nextC s x = nextT s x) := HNC.out
    clear hw HNC
    go_enter Try.func36, Try.ntmps36
    go_wp2_with fail
    refine HW.mono ?_
    rintro e w1 ⟨rfl, hb⟩
    have HS1 : Hid (StoreAt w1 X F s lg) := HS.out.below hb
    have HB : Hid (Below w.heap.size w w1) := hb
    clear hb
    go_wp2_with fail
    refine (redoTick_any X F s lg x w1 HS1.out HM.out).mono ?_
    intro e w2 hp
    rw [← HC.out] at hp
    cases hn : nextC s x with
    | some c =>
      rw [hn] at hp
      obtain ⟨rfl, hst, hfr⟩ := hp
      go_wp2_with fail
      go_ret
      rw [hn]
      exact ⟨rfl, hst.mono (gF_below HB.out), (Fr.of_below (S := F) HB.out).trans hfr (fun k e => .inl e)⟩
    | none =>
      rw [hn] at hp
      obtain ⟨rfl, hb⟩ := hp
      go_wp2_with fail
      go_ret
      rw [hn]
      exact ⟨rfl, HB.out.trans (hb.mono HB.out.size)⟩

theorem redoN_some {f : Nat} {s : St} {x : ByteArray} {c : Chg} (h0 : x.size ≠ 0) (h : nextC s x = some c) : redoN (f + 1) s x = c :: redoN f (s.do c) (x.extract c.nums.length x.size) := by
  rw [redoN, if_neg h0, h]
theorem redoN_none {f : Nat} {s : St} {x : ByteArray} (h : nextC s x = none) : redoN (f + 1) s x = [] := by
  rw [redoN, h]; split <;> rfl
theorem redoN_zero {f : Nat} {s : St} {x : ByteArray} (h : x.size = 0) : redoN f s x = [] := by
  cases f with
  | zero => rfl
  | succ f => rw [redoN, if_pos h]
theorem extract_extract (x : ByteArray) (p k : Nat) : (x.extract p x.size).extract k (x.extract p x.size).size = x.extract (p + k) x.size := by
  apply nums_ba_inj
  rw [nums_drop, nums_drop, nums_drop, List.drop_drop]
theorem size_suffix (x : ByteArray) (p : Nat) : (x.extract p x.size).size = x.size - p := by
  rw [← nums_len, nums_drop, List.length_drop, nums_len]

set_option maxHeartbeats 1000000 in
set_option maxRecDepth 100000 in
theorem redo_any (X : Nat) (F : Nat → Prop) (s : St) (lg log : ByteArray) (w : World) (h : StoreAt w X F s lg) (hF : ∀ k, F k → k < w.heap.size) (hs : log.size ≤ maxLen) :
    Calls Try.prog 18 #[.pointer (some ⟨X, 0, none⟩), .string log] w fun e w' => e = .returned (.int .i64 ((logN (redoN log.size s log)).length : Int)) ∧ StoreAt w' X (gF F w w') (s.doAll (redoN log.size s log)) (lg ++ strOfNums (logN (redoN log.size s log))) ∧ Fr F w w' := by
  have HS : Hid (StoreAt w X F s lg) := h
  have HM : Hid (log.size ≤ maxLen) := hs
  have HFF : Hid (∀ k, F k → k < w.heap.size) := hF
  unfold maxLen at hs
  generalize hR : redoN log.size s log = R at *
  have HR : Hid (redoN log.size s log = R) := hR
  clear h hF hR
  go_enter Try.func18, Try.ntmps18
  go_wp2_with fail
  go_loopw [5] (fun p wr => ∃ (cs : List Chg) (q f : Nat), p = .int .i64 q ∧ q ≤ log.size ∧ q = (logN cs).length ∧ R = cs ++ redoN f (s.doAll cs) (log.extract q log.size) ∧ log.size - q ≤ f ∧ StoreAt wr X (gF F w wr) (s.doAll cs) (lg ++ strOfNums (logN cs)) ∧ Fr F w wr) (fun p _ => log.size - (intOf p).toNat)
  case atStart =>
    refine ⟨[], 0, log.size, rfl, Nat.zero_le _, rfl, ?_, by omega, ?_, Fr.refl _ _⟩
    · have e : log.extract 0 log.size = log := by apply nums_ba_inj; rw [nums_drop, List.drop_zero]
      rw [e, ← HR.out]; rfl
    · show StoreAt w X (gF F w w) s (lg ++ strOfNums [])
      rw [ba_append_nil]
      exact HS.out.mono (fun k e => .inl e)
  case round =>
    obtain ⟨cs, q, f, rfl, hq, hqe, hRc, hf, hst, hfr⟩ := hrel
    have HST : Hid (StoreAt wr X (gF F w wr) (s.doAll cs) (lg ++ strOfNums (logN cs))) := hst
    have HFR : Hid (Fr F w wr) := hfr
    have HQE : Hid (q = (logN cs).length) := hqe
    have HRC : Hid (R = cs ++ redoN f (s.doAll cs) (log.extract q log.size)) := hRc
    clear hst hfr hqe hRc
    by_cases hlt : q < log.size
    · obtain ⟨f', rfl⟩ : ∃ f', f = f' + 1 := ⟨f - 1, by omega⟩
      have HSZ : Hid ((log.extract q log.size).size = log.size - q) := size_suffix log q
      have HXX := extract_extract log q
      generalize hx : log.extract q log.size = x at *
      have HRF := redoFirst_any X (gF F w wr) (s.doAll cs) (lg ++ strOfNums (logN cs)) x wr HST.out (fun k e => by
        rcases e with e | e
        · exact Nat.lt_of_lt_of_le (HFF.out k e) HFR.out.size
        · exact e.2) (by rw [HSZ.out]; unfold maxLen; omega)
      have HXH : Hid (log.extract q log.size = x) := hx
      go_wp2_with fail
      refine HRF.mono ?_
      intro e w2 hp
      cases hn : nextC (s.doAll cs) x with
      | none =>
        rw [hn] at hp
        obtain ⟨rfl, hb⟩ := hp
        have HE : Hid (R = cs) := by show _ = _; rw [HRC.out, redoN_none hn, List.append_nil]
        have HB : Hid (Below wr.heap.size wr w2) := hb
        clear hb hn HRF
        go_wp2_with fail
        go_ret
        rw [HE.out]
        refine ⟨ret_i64'' (by rw [HQE.out]), (HST.out.below HB.out).mono (fun k e => ?_), HFR.out.trans (Fr.of_below (S := fun _ => False) HB.out) (fun _ e => e.elim)⟩
        rcases e with e | e
        · exact .inl e
        · exact .inr ⟨e.1, by have := HB.out.size; omega⟩
      | some c =>
        rw [hn] at hp
        obtain ⟨rfl, hst, hfr⟩ := hp
        obtain ⟨l1, l2⟩ := nextC_le hn
        have hpos := c.pos
        have HRN : Hid (R = (cs ++ [c]) ++ redoN f' (s.doAll (cs ++ [c])) (log.extract (q + c.nums.length) log.size)) := by
          show _ = _
          rw [HRC.out, redoN_some (by rw [HSZ.out]; omega) hn, HXX c.nums.length, doAll_append, List.append_assoc]
          rfl
        have HST2 : Hid (StoreAt w2 X (gF F w w2) (s.doAll (cs ++ [c])) (lg ++ strOfNums (logN (cs ++ [c])))) := by
          show StoreAt _ _ _ _ _
          have e1 : s.doAll (cs ++ [c]) = (s.doAll cs).do c := by rw [doAll_append]; rfl
          have e2 : lg ++ strOfNums (logN (cs ++ [c])) = lg ++ strOfNums (logN cs) ++ strOfNums c.nums := by
            rw [logN_append, ← str_add, ByteArray.append_assoc]
            simp [logN]
          rw [e1, e2]
          exact hst.mono (gF_trans HFR.out.size hfr.size)
        have HFR2 : Hid (Fr F w w2) := Fr.gF HFR.out hfr
        have HLQ : Hid (q + c.nums.length = (logN (cs ++ [c])).length) := by show _ = _; rw [logN_append, List.length_append, ← HQE.out]; simp [logN]
        have hqx : x.size = log.size - q := HSZ.out
        have hpi : ¬ (c.nums.length : Int) < 1 := by omega
        clear hst hfr hn HRF
        generalize hcl : c.nums.length = CL at *
        go_wp2_with fail
        exact ⟨⟨cs ++ [c], q + CL, f', by go_num, by omega, HLQ.out, HRN.out, by omega, HST2.out, HFR2.out⟩, by simp [intOf]; omega⟩
    · have hlt2 : ¬ (q : Int) < log.size := by omega
      have HE : Hid (R = cs) := by
        show _ = _
        rw [HRC.out, redoN_zero (by rw [size_suffix]; omega), List.append_nil]
      go_wp2_with fail
      go_ret
      rw [HE.out]
      exact ⟨ret_i64'' (by rw [HQE.out]), HST.out, HFR.out⟩

end Go.Proofs.Ythciddpljcbhiab

/- Walks: a query of a store. -/
namespace Go.Proofs.Ythciddpljcbhiab
open Go Go.RowKit

set_option maxHeartbeats 4000000 in
set_option maxRecDepth 100000 in
theorem query_any (X : Nat) (F : Nat → Prop) (s : St) (q : Qy) {lg : ByteArray} (w : World) (h : StoreAt w X F s lg) (hq : q.wf) :
    Calls Try.prog 23 #[.pointer (some ⟨X, 0, none⟩), .agg (qyC q)] w fun e w' => ∃ v, e = .returned (.tuple #[v, .int .i64 (qE s.c s.now q)]) ∧ w'.ownsRow w.heap.size 54 8 v (rowsA s q).length (flatR (rowsA s q)) ∧ Below w.heap.size w w' := by
  obtain ⟨L, lcap, pv, bv, bk, gv, h⟩ := h
  have HS : Hid (StAt w X F s s s.l.length L lcap pv bv bk gv lg) := h
  have c0 := h.cell 0 _ rfl
  have c1 := h.cell 1 _ rfl
  have c2 := h.cell 2 _ rfl
  have c3 := h.cell 3 _ rfl
  have c5 := h.cell 5 _ rfl
  have hX := h.lt
  obtain ⟨pa, pcap, rfl⟩ := ownForm h.pts
  have HQ : Hid q.wf := hq
  have hXw : X ≠ w.heap.size := by omega
  clear h hq
  have hbox : Below w.heap.size w (w.alloc (.cells (qyC q) 71)) := (Below.refl _ _).alloc (Nat.le_refl _) _
  have HBX : Hid (Below w.heap.size w (w.alloc (.cells (qyC q) 71))) := hbox
  clear hbox
  go_enter Try.func23, Try.ntmps23
  go_upto_region 1 with fail
  go_cut [6] from 6 to 16 (fun v wx => v = .int .i64 (qE s.c s.now q) ∧ Below (w.heap.size + 1) (w.alloc (.cells (qyC q) 71)) wx)
  case first =>
    have k0 : (w.alloc (.cells (qyC q) 71)).drew.cell? ⟨X, 0, none⟩ = some (.int .i64 s.c.span) := cell_alloc1 c0
    have k1 : (w.alloc (.cells (qyC q) 71)).drew.cell? ⟨X, 1, none⟩ = some (.int .i64 s.c.keep) := cell_alloc1 c1
    have k2 : (w.alloc (.cells (qyC q) 71)).drew.cell? ⟨X, 2, none⟩ = some (.slice (some ⟨L, 0, none⟩) s.c.lvs.length lcap) := cell_alloc1 c2
    have k3 : (w.alloc (.cells (qyC q) 71)).drew.cell? ⟨X, 3, none⟩ = some (.int .i64 s.now) := cell_alloc1 c3
    have j0 : (w.alloc (.cells (qyC q) 71)).drew.cell? ⟨w.heap.size, 0, none⟩ = some (.int .i64 q.fr) := by simp [go_sem]
    have j1 : (w.alloc (.cells (qyC q) 71)).drew.cell? ⟨w.heap.size, 1, none⟩ = some (.int .i64 q.to) := by simp [go_sem]
    have j2 : (w.alloc (.cells (qyC q) 71)).drew.cell? ⟨w.heap.size, 2, none⟩ = some (.int .i64 q.step) := by simp [go_sem]
    have j3 : (w.alloc (.cells (qyC q) 71)).drew.cell? ⟨w.heap.size, 3, none⟩ = some (.string q.mt) := by simp [go_sem]
    have j4 : (w.alloc (.cells (qyC q) 71)).drew.cell? ⟨w.heap.size, 4, none⟩ = some (.string q.gb) := by simp [go_sem]
    have hXa : X < (w.alloc (.cells (qyC q) 71)).drew.heap.size := by show X < (w.alloc (.cells (qyC q) 71)).heap.size; simp; omega
    have hwa : w.heap.size < (w.alloc (.cells (qyC q) 71)).drew.heap.size := by show w.heap.size < (w.alloc (.cells (qyC q) 71)).heap.size; simp
    go_region_held3 (fun w' => w'.cell? ⟨X, 0, none⟩ = some (.int .i64 s.c.span) ∧ w'.cell? ⟨X, 1, none⟩ = some (.int .i64 s.c.keep) ∧ w'.cell? ⟨X, 2, none⟩ = some (.slice (some ⟨L, 0, none⟩) s.c.lvs.length lcap) ∧ w'.cell? ⟨X, 3, none⟩ = some (.int .i64 s.now) ∧ w'.cell? ⟨w.heap.size, 0, none⟩ = some (.int .i64 q.fr) ∧ w'.cell? ⟨w.heap.size, 1, none⟩ = some (.int .i64 q.to) ∧ w'.cell? ⟨w.heap.size, 2, none⟩ = some (.int .i64 q.step) ∧ w'.cell? ⟨w.heap.size, 3, none⟩ = some (.string q.mt) ∧ w'.cell? ⟨w.heap.size, 4, none⟩ = some (.string q.gb)) (first | exact ⟨k0, k1, k2, k3, j0, j1, j2, j3, j4⟩ | exact ⟨y0, y1, y2, y3, z0, z1, z2, z3, z4⟩)
      (first | (go_at_call 39; refine (check_q s.c q L 0 s.c.lvs.length lcap s.now _ HS.out.inv.right rfl ((HS.out.below HBX.out.drew).lv) HS.out.inv.n0 HS.out.inv.n1 HQ.out).mono ?_; rintro e w' ⟨rfl, hb'⟩; have y0 := (hb'.cell (p := ⟨X, 0, none⟩) hXa).trans k0; have y1 := (hb'.cell (p := ⟨X, 1, none⟩) hXa).trans k1; have y2 := (hb'.cell (p := ⟨X, 2, none⟩) hXa).trans k2; have y3 := (hb'.cell (p := ⟨X, 3, none⟩) hXa).trans k3; have z0 := (hb'.cell (p := ⟨w.heap.size, 0, none⟩) hwa).trans j0; have z1 := (hb'.cell (p := ⟨w.heap.size, 1, none⟩) hwa).trans j1; have z2 := (hb'.cell (p := ⟨w.heap.size, 2, none⟩) hwa).trans j2; have z3 := (hb'.cell (p := ⟨w.heap.size, 3, none⟩) hwa).trans j3; have z4 := (hb'.cell (p := ⟨w.heap.size, 4, none⟩) hwa).trans j4))
    all_goals go_wp2_with fail
    all_goals go_meet
    all_goals (case rel => exact ⟨rfl, ⟨hb'.os, hb'.tape, hb'.output, hb'.size, fun k hk => hb'.block k (by simpa using hk)⟩⟩)
  case rest =>
    obtain ⟨rfl, hb1⟩ := hcut
    have hz1 : w.heap.size + 1 ≤ wc.heap.size := by have := hb1.size; simpa using this
    have HW1 : Hid (Below w.heap.size w wc) := HBX.out.trans (hb1.mono (by omega))
    have HB1 : Hid (Below (w.heap.size + 1) (w.alloc (.cells (qyC q) 71)) wc) := hb1
    have HS1 : Hid (StAt wc X F s s s.l.length L lcap (.slice pa s.pts.length pcap) bv bk gv lg) := HS.out.below HW1.out
    clear c0 c1 c2 c3 c5 hb1
    by_cases he : qE s.c s.now q = 0
    · have HRA : Hid (rowsA s q = s.rows q) := if_pos he
      have HZ := qE_zero he
      have HRR : Hid (s.rows q = rowsOf (s.pts.filterMap (kvP s.c s.now q))) := by
        show rowsOf _ = _
        rw [kv_pts s (Cf.right_parts HS.out.inv.right).1 q HZ.2]
      have HE : Hid (qE s.c s.now q = 0) := he
      rw [he]
      have c0 := HS1.out.cell 0 _ rfl
      have c1 := HS1.out.cell 1 _ rfl
      have c2 := HS1.out.cell 2 _ rfl
      have c3 := HS1.out.cell 3 _ rfl
      have c5 := HS1.out.cell 5 _ rfl
      have hX1 := HS1.out.lt
      have p0 : wc.cell? ⟨w.heap.size, 0, none⟩ = some (.int .i64 q.fr) := by rw [HB1.out.cell (p := ⟨w.heap.size, 0, none⟩) (by simp)]; simp [go_sem]
      have p1 : wc.cell? ⟨w.heap.size, 1, none⟩ = some (.int .i64 q.to) := by rw [HB1.out.cell (p := ⟨w.heap.size, 1, none⟩) (by simp)]; simp [go_sem]
      have p2 : wc.cell? ⟨w.heap.size, 2, none⟩ = some (.int .i64 q.step) := by rw [HB1.out.cell (p := ⟨w.heap.size, 2, none⟩) (by simp)]; simp [go_sem]
      have p3 : wc.cell? ⟨w.heap.size, 3, none⟩ = some (.string q.mt) := by rw [HB1.out.cell (p := ⟨w.heap.size, 3, none⟩) (by simp)]; simp [go_sem]
      have p4 : wc.cell? ⟨w.heap.size, 4, none⟩ = some (.string q.gb) := by rw [HB1.out.cell (p := ⟨w.heap.size, 4, none⟩) (by simp)]; simp [go_sem]
      clear he
      go_wp2_with fail
      have hwa : w.heap.size < wc.heap.size := by omega
      go_region_held3 (fun w' => w'.cell? ⟨X, 0, none⟩ = some (.int .i64 s.c.span) ∧ w'.cell? ⟨X, 1, none⟩ = some (.int .i64 s.c.keep) ∧ w'.cell? ⟨X, 2, none⟩ = some (.slice (some ⟨L, 0, none⟩) s.c.lvs.length lcap) ∧ w'.cell? ⟨X, 3, none⟩ = some (.int .i64 s.now) ∧ w'.cell? ⟨w.heap.size, 0, none⟩ = some (.int .i64 q.fr) ∧ w'.cell? ⟨w.heap.size, 1, none⟩ = some (.int .i64 q.to) ∧ w'.cell? ⟨w.heap.size, 2, none⟩ = some (.int .i64 q.step) ∧ w'.cell? ⟨w.heap.size, 3, none⟩ = some (.string q.mt) ∧ w'.cell? ⟨w.heap.size, 4, none⟩ = some (.string q.gb) ∧ w'.cell? ⟨X, 5, none⟩ = some (.slice pa s.pts.length pcap)) (first | exact ⟨c0, c1, c2, c3, p0, p1, p2, p3, p4, c5⟩ | exact ⟨y0, y1, y2, y3, z0, z1, z2, z3, z4, y5⟩)
        (first | (go_at_call 40; refine (rows_any s.c q L 0 s.c.lvs.length lcap s.now pa s.pts.length pcap s.pts _ HS.out.inv.right rfl (HS1.out.below (Below.refl _ _).drew).lv HS.out.inv.n0 HS.out.inv.n1 HZ.1 (PtsAt.of_owns (owns_drew HS1.out.pts) rfl) rfl (pts_ok HS.out.inv) (pts_len HS.out.inv)).mono ?_; rintro e w' ⟨v, rfl, hv, hb'⟩; have y0 := (hb'.cell (p := ⟨X, 0, none⟩) hX1).trans c0; have y1 := (hb'.cell (p := ⟨X, 1, none⟩) hX1).trans c1; have y2 := (hb'.cell (p := ⟨X, 2, none⟩) hX1).trans c2; have y3 := (hb'.cell (p := ⟨X, 3, none⟩) hX1).trans c3; have y5 := (hb'.cell (p := ⟨X, 5, none⟩) hX1).trans c5; have z0 := (hb'.cell (p := ⟨w.heap.size, 0, none⟩) hwa).trans p0; have z1 := (hb'.cell (p := ⟨w.heap.size, 1, none⟩) hwa).trans p1; have z2 := (hb'.cell (p := ⟨w.heap.size, 2, none⟩) hwa).trans p2; have z3 := (hb'.cell (p := ⟨w.heap.size, 3, none⟩) hwa).trans p3; have z4 := (hb'.cell (p := ⟨w.heap.size, 4, none⟩) hwa).trans p4))
      all_goals go_wp2_with fail
      all_goals go_ret2
      all_goals exact ⟨v, by rw [HE.out]; rfl, by rw [HRA.out, HRR.out]; exact owns_base hv (fun k hk => by have h9 : wc.heap.size ≤ k := (hv.lt k hk).1; omega), HW1.out.trans ((show Below wc.heap.size wc w' from ⟨hb'.os, hb'.tape, hb'.output, hb'.size, hb'.block⟩).mono (by omega))⟩
    · have HRA : Hid (rowsA s q = []) := if_neg he
      have hneb : (qE s.c s.now q != 0) = true := by simpa using he
      go_wp2_with fail
      go_ret2
      refine ⟨_, rfl, ?_, HW1.out⟩
      rw [HRA.out]
      exact World.ownsRow_nil _ _ _ _

end Go.Proofs.Ythciddpljcbhiab

/- Walks: how many cells there are. -/
namespace Go.Proofs.Ythciddpljcbhiab
open Go Go.RowKit Go.Lib
attribute [local go_sem ↓] Go.wp_at_zero Go.wp_at_succ

/-! The keys of cells. -/
structure Ky where
  st : Int
  nm : Lb
deriving DecidableEq
def Ky.zero : Ky := ⟨0, Lb.zero⟩
abbrev kyC (k : Ky) : Array Value := #[.int .i64 k.st, .int .u8 k.nm.a, .int .u8 k.nm.b, .int .u8 k.nm.c]
def Ky.cells (k : Ky) : List Value := [.int .i64 k.st, .int .u8 k.nm.a, .int .u8 k.nm.b, .int .u8 k.nm.c]
def flatK (l : List Ky) : List Value := l.flatMap Ky.cells
theorem len4K (k : Ky) : k.cells.length = 4 := rfl
def kyG (l : List Ky) (i : Nat) : Ky := l.getD i Ky.zero
theorem kyG_get (l : List Ky) (i : Nat) (h : i < l.length) : kyG l i = l[i] := by simp [kyG, List.getD, h]
theorem Ky.one (k : Ky) : ∀ v ∈ k.cells, v.oneCell' = true := by intro v hv; simp [Ky.cells] at hv; rcases hv with h | h | h | h <;> subst h <;> rfl
theorem Try.info111' : (Try.prog.info? 111).map (fun i => (i.zero, i.size, i.bytes)) = some (some (.agg #[.int .i64 0, .int .u8 0, .int .u8 0, .int .u8 0]), 4, 16) := by kernel_rfl
theorem owns_ky {w : World} {base g n cap : Nat} {l : List Ky} (h : w.ownsRow base 111 4 (.slice (some ⟨g, 0, none⟩) n cap) n (flatK l)) (i : Nat) (hi : i < l.length) :
    w.cell? ⟨g, i * 4, none⟩ = some (.int .i64 (kyG l i).st) ∧ w.cell? ⟨g, i * 4 + 1, none⟩ = some (.int .u8 (kyG l i).nm.a) ∧ w.cell? ⟨g, i * 4 + 2, none⟩ = some (.int .u8 (kyG l i).nm.b) ∧ w.cell? ⟨g, i * 4 + 3, none⟩ = some (.int .u8 (kyG l i).nm.c) := by
  have k := fun j (hj : j < 4) => flat_get Ky.cells 4 len4K l i j hj hi
  rw [kyG_get l i hi]
  exact ⟨owns_cell h (k 0 (by omega)), owns_cell h (k 1 (by omega)), owns_cell h (k 2 (by omega)), owns_cell h (k 3 (by omega))⟩
def kyP (c : Cf) (now : Int) (p : Pt) : Ky := ⟨p.time - p.time % (lvG c.lvs (c.lvl now p.time)).window, sG p (c.lvl now p.time)⟩
def keyA (l : List Ky) (k : Ky) : List Ky := if k ∈ l then l else l ++ [k]
def keysK (c : Cf) (now : Int) (ps : List Pt) (k : Nat) : List Ky := ((ps.take k).map (kyP c now)).foldl keyA []
theorem keysK_succ (c : Cf) (now : Int) (ps : List Pt) (k : Nat) (h : k < ps.length) : keysK c now ps (k + 1) = keyA (keysK c now ps k) (kyP c now (ptG ps k)) := by
  unfold keysK
  rw [List.take_succ_eq_append_getElem h, List.map_append, List.foldl_append, ptG_get ps k h]
  rfl
theorem keyA_len (l : List Ky) (k : Ky) : (keyA l k).length ≤ l.length + 1 := by unfold keyA; split <;> simp
theorem keysK_len (c : Cf) (now : Int) (ps : List Pt) (k : Nat) : (keysK c now ps k).length ≤ k := by
  induction k with
  | zero => simp [keysK]
  | succ k ih =>
    by_cases h : k < ps.length
    · rw [keysK_succ c now ps k h]; have := keyA_len (keysK c now ps k) (kyP c now (ptG ps k)); omega
    · have e : keysK c now ps (k + 1) = keysK c now ps k := by unfold keysK; rw [List.take_of_length_le (by omega), List.take_of_length_le (by omega)]
      rw [e]; omega
def cellsN (s : St) : Nat := (keysK s.c s.now s.pts s.pts.length).length

set_option maxHeartbeats 400000 in
theorem winStart_any (lvs : List Lv) (b off n cap k : Nat) (t : Int) (w : World) (hn : lvs.length = n) (hk : k < n) (hat : LvAt w b off lvs) (w1 : 1 ≤ (lvG lvs k).window) (w2 : (lvG lvs k).window ≤ 100) (t0 : 0 ≤ t) (t1 : t ≤ 100000) :
    Calls Try.prog 74 #[.slice (some ⟨b, off, none⟩) n cap, .int .i64 k, .int .i64 t] w fun e w' => e = .returned (.int .i64 (t - t % (lvG lvs k).window)) ∧ w' = w := by
  obtain ⟨_, c1, _, _⟩ := hat k (by rw [hn]; exact hk)
  generalize lvG lvs k = V at *
  have hk0 : ¬ (k : Int) < 0 := by omega
  have hk1 : ¬ (n : Int) ≤ k := by omega
  have hv : ¬ V.window < 1 := by omega
  clear hat hn
  go_enter Try.func74, Try.ntmps74
  go_wp2_with fail
  go_ret
  have e1 := Int.emod_nonneg t (show V.window ≠ 0 by omega)
  have e2 := Int.emod_lt_of_pos t (show 0 < V.window by omega)
  exact ⟨ret_i64'' (wIn _ (by omega)), rfl⟩

set_option maxHeartbeats 1000000 in
theorem hasK_any (a : Option Addr) (n cap base : Nat) (l : List Ky) (K : Ky) (w : World) (hown : w.ownsRow base 111 4 (.slice a n cap) n (flatK l)) (hn : l.length = n) (hn2 : n ≤ 100000) :
    Calls Try.prog 59 #[.slice a n cap, .agg (kyC K)] w fun e w' => e = .returned (.bool (decide (K ∈ l))) ∧ Below w.heap.size w w' := by
  have HO : Hid (w.ownsRow base 111 4 (.slice a n cap) n (flatK l)) := hown
  have HN : Hid (l.length = n) := hn
  clear hown hn
  go_enter Try.func59, Try.ntmps59
  go_wp2_with fail
  go_loopw [5] (fun i wr => ∃ k : Nat, i = .int .i64 k ∧ k ≤ n ∧ (∀ j, j < k → kyG l j ≠ K) ∧ ∃ d, wr = (w.alloc (.cells (kyC K) 111)).drewN d) (fun i _ => n - (intOf i).toNat)
  case atStart => exact ⟨0, rfl, Nat.zero_le _, fun j hj => by omega, 0, rfl⟩
  case round =>
    obtain ⟨k, rfl, hk, hno, d, rfl⟩ := hrel
    have HA : Hid (∀ j, j < k → kyG l j ≠ K) := hno
    clear hno
    by_cases hlt : k < n
    · obtain ⟨g, cap', he, _, hgs, hcap⟩ := ownBlockForm HO.out (by omega)
      obtain ⟨rfl, rfl⟩ : a = some ⟨g, 0, none⟩ ∧ cap = cap' := by injection he with h1 h2 h3; exact ⟨h1, h3⟩
      obtain ⟨x0, x1, x2, x3⟩ := owns_ky HO.out k (by rw [HN.out]; exact hlt)
      have hgne : g ≠ w.heap.size := by omega
      have HMEM : Hid (kyG l k = K → K ∈ l) := fun e => by rw [← e, kyG_get l k (by rw [HN.out]; exact hlt)]; exact List.getElem_mem _
      have HEQ : Hid (kyG l k = K ↔ ((kyG l k).st == K.st && ((kyG l k).nm.a == K.nm.a && (kyG l k).nm.b == K.nm.b && (kyG l k).nm.c == K.nm.c)) = true) := by
        show _ ↔ _
        constructor
        · intro e; rw [e]; simp
        · intro e
          simp only [Bool.and_eq_true, beq_iff_eq] at e
          cases hh : kyG l k with
          | mk st nm =>
            rw [hh] at e
            cases K with
            | mk st' nm' =>
              obtain ⟨e1, ⟨e2, e3⟩, e4⟩ := e
              have := lb_ext e2 e3 e4
              simp only at e1 this
              rw [e1, this]
      generalize hY : kyG l k = Y at *
      have HYY : Hid (kyG l k = Y) := hY
      clear hY
      have heq := fun w => eq26 9997 Y.nm.a Y.nm.b Y.nm.c K.nm.a K.nm.b K.nm.c w
      cases e1 : (Y.st == K.st)
      · have hne : Y ≠ K := fun e => by rw [e] at e1; simp at e1
        cases e2 : (Y.nm.a == K.nm.a && Y.nm.b == K.nm.b && Y.nm.c == K.nm.c)
        all_goals
          rw [e2] at heq
          go_wp2_with fail
          go_quiet (fail)
          go_wp2_with fail
          exact ⟨⟨k + 1, by go_num, by omega, fun j hj => by (by_cases hjk : j = k; rw [hjk, HYY.out]; exact hne; exact HA.out j (by omega)), _, rfl⟩, by simp [intOf]; omega⟩
      · cases e2 : (Y.nm.a == K.nm.a && Y.nm.b == K.nm.b && Y.nm.c == K.nm.c)
        · have hne : Y ≠ K := fun e => by rw [e] at e2; simp at e2
          rw [e2] at heq
          go_wp2_with fail
          go_quiet (fail)
          go_wp2_with fail
          exact ⟨⟨k + 1, by go_num, by omega, fun j hj => by (by_cases hjk : j = k; rw [hjk, HYY.out]; exact hne; exact HA.out j (by omega)), _, rfl⟩, by simp [intOf]; omega⟩
        · have hm : K ∈ l := HMEM.out (HEQ.out.2 (by rw [e1, e2]; rfl))
          have HM : Hid (decide (K ∈ l) = true) := by show _ = _; simpa using hm
          clear hm
          rw [e2] at heq
          go_wp2_with fail
          go_quiet (fail)
          go_wp2_with fail
          go_ret
          exact ⟨ret_bool HM.out.symm, below_drewN (below_drewN ((Below.refl _ _).alloc (Nat.le_refl _) _) _) _⟩
    · have hlt2 : ¬ (k : Int) < n := by omega
      have HM : Hid (decide (K ∈ l) = false) := by
        show _ = _
        refine decide_eq_false fun hm => ?_
        obtain ⟨i, hi, e⟩ := List.getElem_of_mem hm
        exact HA.out i (by rw [HN.out] at hi; omega) (by rw [kyG_get l i hi]; exact e)
      go_wp2_with fail
      go_ret
      exact ⟨ret_bool HM.out.symm, below_drewN ((Below.refl _ _).alloc (Nat.le_refl _) _) _⟩

theorem pt_blk {w : World} {P : Nat} {p : Pt} (h : w.heap[P]? = some (.cells (ptC p) 78 (0, 0))) (o : Nat) (v : Value) (hv : (ptC p)[o]? = some v) : w.cell? ⟨P, o, none⟩ = some v := cell_blk h hv

set_option maxHeartbeats 2000000 in
set_option maxRecDepth 100000 in
theorem keyOf_any (c : Cf) (b off n cap : Nat) (now : Int) (p : Pt) (w : World) (hr : c.right = true) (n0 : 0 ≤ now) (n1 : now ≤ 100000) (hn : c.lvs.length = n) (hat : LvAt w b off c.lvs) (hp : PtOk c p) :
    Calls Try.prog 58 #[.agg (cfC c b off n cap), .int .i64 now, .agg (ptC p)] w fun e w' => e = .returned (.agg (kyC (kyP c now p))) ∧ Below w.heap.size w w' := by
  obtain ⟨h1, h2, _, _, q1, q4, h7⟩ := Cf.right_parts hr
  have hlv := Cf.lvl_lt hr now p.time
  have HWI := h7 _ hlv
  have HW2 : (lvG c.lvs (c.lvl now p.time)).window ≤ 100 := by
    have := Int.le_of_dvd (by omega) (Int.dvd_of_emod_eq_zero HWI.2.1)
    omega
  have HW1 := HWI.1
  have HAT : Hid (LvAt w b off c.lvs) := hat
  have HN : Hid (c.lvs.length = n) := hn
  have hbs : b < w.heap.size := hat.block (by omega)
  have t0 := hp.t0
  have t1 := hp.t1
  have HKY : Hid (kyP c now p = ⟨p.time - p.time % (lvG c.lvs (c.lvl now p.time)).window, sG p (c.lvl now p.time)⟩) := rfl
  have HLV : Hid (c.lvl now p.time < n) := by show _ < _; omega
  have HLE := fun w hat => level_any c b off n cap now p.time w h1 h2 n0 n1 t0 (by omega) hn (by omega) (by omega) hat
  have HWS := fun w hat => winStart_any c.lvs b off n cap (c.lvl now p.time) p.time w hn (by omega) hat HW1 HW2 t0 t1
  have HOF := fun w => of_any p (c.lvl now p.time) (by omega) w
  have HLEH : Hid (∀ w, LvAt w b off c.lvs → Calls Try.prog 52 #[.agg (cfC c b off n cap), .int .i64 now, .int .i64 p.time] w fun e w' => e = .returned (.int .i64 (c.lvl now p.time)) ∧ Below w.heap.size w w') := HLE
  have HWSH : Hid (∀ w, LvAt w b off c.lvs → Calls Try.prog 74 #[.slice (some ⟨b, off, none⟩) n cap, .int .i64 ((c.lvl now p.time : Nat) : Int), .int .i64 p.time] w fun e w' => e = .returned (.int .i64 (p.time - p.time % (lvG c.lvs (c.lvl now p.time)).window)) ∧ w' = w) := HWS
  have HOFH : Hid (∀ w, Calls Try.prog 55 #[.agg (ptC p), .int .i64 ((c.lvl now p.time : Nat) : Int)] w fun e w' => e = .returned (.agg (lbA (sG p (c.lvl now p.time)))) ∧ Below w.heap.size w w') := HOF
  clear hr hn hat hp HLE HWS HOF h7 HWI hlv HW1 HW2 h1 h2 q1 q4
  generalize c.lvl now p.time = K at *
  generalize hST : p.time - p.time % (lvG c.lvs K).window = ST at *
  have HB0 : Hid (Below w.heap.size w (((w.alloc (.cells (cfC c b off n cap) 24)).alloc (.cells (ptC p) 78)).alloc (.cells #[.int .i64 0, .int .u8 0, .int .u8 0, .int .u8 0] 111))) := (((Below.refl _ _).alloc (Nat.le_refl _) _).alloc (by simp) _).alloc (by simp; omega) _
  go_enter Try.func58, Try.ntmps58
  go_wp2_with fail
  refine (HLEH.out _ (HAT.out.below HB0.out hbs)).mono ?_
  rintro e w1 ⟨rfl, hb1⟩
  have hz1 : w.heap.size + 2 < w1.heap.size := by have := hb1.size; simp at this; omega
  have HC1 : Hid (w1.heap[w.heap.size]? = some (.cells (cfC c b off n cap) 24 (0, 0))) := by
    show _ = _
    rw [hb1.block _ (by simp; omega), Below.heap_alloc _ _ _ (by simp; omega), Below.heap_alloc _ _ _ (by simp)]
    exact heap_alloc_new w _
  have HP1 : Hid (w1.heap[w.heap.size + 1]? = some (.cells (ptC p) 78 (0, 0))) := by
    show _ = _
    rw [hb1.block _ (by simp), Below.heap_alloc _ _ _ (by simp)]
    have e := heap_alloc_new (w.alloc (.cells (cfC c b off n cap) 24)) (.cells (ptC p) 78)
    rw [World.size_alloc] at e
    exact e
  have HR1 : Hid (w1.heap[w.heap.size + 1 + 1]? = some (.cells #[.int .i64 0, .int .u8 0, .int .u8 0, .int .u8 0] 111 (0, 0))) := by
    show _ = _
    rw [hb1.block _ (by simp)]
    have e := heap_alloc_new ((w.alloc (.cells (cfC c b off n cap) 24)).alloc (.cells (ptC p) 78)) (.cells #[.int .i64 0, .int .u8 0, .int .u8 0, .int .u8 0] 111)
    rw [World.size_alloc, World.size_alloc] at e
    exact e
  have HB1 : Hid (Below w.heap.size w w1) := HB0.out.trans (hb1.mono (by simp; omega))
  have x2 := cell_blk (o := 2) HC1.out rfl
  have y0 := pt_blk HP1.out 0 _ rfl
  have y1 := pt_blk HP1.out 1 _ rfl
  have y2 := pt_blk HP1.out 2 _ rfl
  have y3 := pt_blk HP1.out 3 _ rfl
  have y4 := pt_blk HP1.out 4 _ rfl
  have y5 := pt_blk HP1.out 5 _ rfl
  have y6 := pt_blk HP1.out 6 _ rfl
  have y7 := pt_blk HP1.out 7 _ rfl
  have y8 := pt_blk HP1.out 8 _ rfl
  have y9 := pt_blk HP1.out 9 _ rfl
  have y10 := pt_blk HP1.out 10 _ rfl
  have y11 := pt_blk HP1.out 11 _ rfl
  have y12 := pt_blk HP1.out 12 _ rfl
  have y13 := pt_blk HP1.out 13 _ rfl
  clear hb1
  go_wp2_with fail
  refine (HWSH.out _ (HAT.out.below HB1.out hbs)).mono ?_
  rintro e w2 ⟨rfl, rfl⟩
  go_wp2_with fail
  refine (HOFH.out _).mono ?_
  rintro e w3 ⟨rfl, hb3⟩
  have HR3 : Hid (w3.heap[w.heap.size + 1 + 1]? = some (.cells #[.int .i64 0, .int .u8 0, .int .u8 0, .int .u8 0] 111 (0, 0))) := (hb3.block _ (by omega)).trans HR1.out
  have HB3 : Hid (Below w.heap.size w w3) := HB1.out.trans (hb3.mono HB1.out.size)
  have r0 : w3.cell? ⟨w.heap.size + 1 + 1, 0, none⟩ = some (.int .i64 0) := cell_blk (o := 0) HR3.out rfl
  have r1 : w3.cell? ⟨w.heap.size + 1 + 1, 1, none⟩ = some (.int .u8 0) := cell_blk (o := 1) HR3.out rfl
  have r2 : w3.cell? ⟨w.heap.size + 1 + 1, 2, none⟩ = some (.int .u8 0) := cell_blk (o := 2) HR3.out rfl
  have r3 : w3.cell? ⟨w.heap.size + 1 + 1, 3, none⟩ = some (.int .u8 0) := cell_blk (o := 3) HR3.out rfl
  have rz := fun o => froz_blk (o := o) HR3.out
  have hz3 : w.heap.size + 1 + 1 < w3.heap.size := by have := hb3.size; omega
  have hzn : w.heap.size + 1 + 1 ≠ w3.heap.size := by omega
  clear hb3 x2 y0 y1 y2 y3 y4 y5 y6 y7 y8 y9 y10 y11 y12 y13
  generalize sG p K = NM at *
  have hF : (((((w3.setCell ⟨w.heap.size + 1 + 1, 0, none⟩ (.int .i64 ST)).setCell ⟨w.heap.size + 1 + 1, 1, none⟩ (.int .u8 NM.a)).setCell ⟨w.heap.size + 1 + 1, 2, none⟩ (.int .u8 NM.b)).setCell ⟨w.heap.size + 1 + 1, 3, none⟩ (.int .u8 NM.c)).alloc (.cells #[.int .u8 NM.a, .int .u8 NM.b, .int .u8 NM.c] 52)).heap[w.heap.size + 1 + 1]? = some (.cells #[.int .i64 ST, .int .u8 NM.a, .int .u8 NM.b, .int .u8 NM.c] 111 (0, 0)) := by
    rw [Below.heap_alloc _ _ _ (by simpa [World.setCell] using hz3)]
    have h0 := heap_setCell (o := 0) (v := (.int .i64 ST)) HR3.out
    have h1 := heap_setCell (o := 1) (v := (.int .u8 NM.a)) h0
    have h2 := heap_setCell (o := 2) (v := (.int .u8 NM.b)) h1
    have h3 := heap_setCell (o := 3) (v := (.int .u8 NM.c)) h2
    simp only [List.setIfInBounds_toArray, List.set_cons_succ, List.set_cons_zero] at h3
    exact h3
  have HF : Hid (_ = _) := hF
  clear hF
  go_wp2_with fail
  have f0 := cell_blk (v := .int .i64 ST) (o := 0) HF.out rfl
  have f1 := cell_blk (v := .int .u8 NM.a) (o := 1) HF.out rfl
  have f2 := cell_blk (v := .int .u8 NM.b) (o := 2) HF.out rfl
  have f3 := cell_blk (v := .int .u8 NM.c) (o := 3) HF.out rfl
  refine bodyPost_ret (v := .agg #[.int .i64 ST, .int .u8 NM.a, .int .u8 NM.b, .int .u8 NM.c]) (by simp [results, Try.results58, go_sem, f0, f1, f2, f3]) rfl ⟨by rw [HKY.out], ?_⟩
  exact (bel_set (bel_set (bel_set (bel_set HB3.out (by omega)) (by omega)) (by omega)) (by omega)).alloc (by have := HB3.out.size; simpa [World.setCell] using this) _

end Go.Proofs.Ythciddpljcbhiab

/- Walks: cell.Count, Cells. -/
namespace Go.Proofs.Ythciddpljcbhiab
open Go Go.RowKit Go.Lib
attribute [local go_sem ↓] Go.wp_at_zero Go.wp_at_succ

theorem set4_box {w : World} {P : Nat} {k : Ky} (h : w.heap[P]? = some (.cells #[.int .i64 0, .int .u8 0, .int .u8 0, .int .u8 0] 111 (0, 0))) :
    ((((w.setCell ⟨P, 0, none⟩ (.int .i64 k.st)).setCell ⟨P, 1, none⟩ (.int .u8 k.nm.a)).setCell ⟨P, 2, none⟩ (.int .u8 k.nm.b)).setCell ⟨P, 3, none⟩ (.int .u8 k.nm.c)).heap[P]? = some (.cells (kyC k) 111 (0, 0)) := by
  have h0 := heap_setCell (o := 0) (v := (.int .i64 k.st)) h
  have h1 := heap_setCell (o := 1) (v := (.int .u8 k.nm.a)) h0
  have h2 := heap_setCell (o := 2) (v := (.int .u8 k.nm.b)) h1
  have h3 := heap_setCell (o := 3) (v := (.int .u8 k.nm.c)) h2
  simp only [List.setIfInBounds_toArray, List.set_cons_succ, List.set_cons_zero] at h3
  exact h3

set_option maxHeartbeats 2000000 in
set_option maxRecDepth 100000 in
theorem count_any' (c : Cf) (b off n cap : Nat) (now : Int) (pa : Option Addr) (pn pcap base : Nat) (ps : List Pt) (w : World) (hr : c.right = true) (n0 : 0 ≤ now) (n1 : now ≤ 100000) (hn : c.lvs.length = n) (hat : LvAt w b off c.lvs)
    (hown : w.ownsRow base 78 14 (.slice pa pn pcap) pn (flatP ps)) (hpn : ps.length = pn) (hp5 : pn ≤ 500) (hp : ∀ p ∈ ps, PtOk c p) :
    Calls Try.prog 41 #[.agg (cfC c b off n cap), .int .i64 now, .slice pa pn pcap] w fun e w' => e = .returned (.int .i64 ((keysK c now ps pn).length : Int)) ∧ Below w.heap.size w w' := by
  have HR : Hid (c.right = true) := hr
  have HN : Hid (c.lvs.length = n) := hn
  have HAT : Hid (LvAt w b off c.lvs) := hat
  have HOW : Hid (w.ownsRow base 78 14 (.slice pa pn pcap) pn (flatP ps)) := hown
  have HPN : Hid (ps.length = pn) := hpn
  have HPO : Hid (∀ p ∈ ps, PtOk c p) := hp
  have hbs : b < w.heap.size := hat.block (by have := (Cf.right_parts hr).2.2.2.2.1; omega)
  obtain ⟨li0, hli, lz0, lz1, lz2⟩ := infP Try.info111'
  have HB0 : Hid (Below w.heap.size w (w.alloc (.cells (cfC c b off n cap) 24))) := (Below.refl _ _).alloc (Nat.le_refl _) _
  clear hr hn hat hown hpn hp
  go_enter Try.func41, Try.ntmps41
  go_wp2_with fail
  go_loopw [7, 8] (fun v i wr => ∃ k : Nat, i = .int .i64 k ∧ k ≤ pn ∧ wr.ownsRow (w.heap.size + 1) 111 4 v (keysK c now ps k).length (flatK (keysK c now ps k)) ∧ wr.heap[w.heap.size]? = some (.cells (cfC c b off n cap) 24 (0, 0)) ∧ Below w.heap.size w wr) (fun _ i _ => pn - (intOf i).toNat)
  case atStart => exact ⟨0, rfl, Nat.zero_le _, World.ownsRow_nil _ _ _ _, heap_alloc_new w _, HB0.out⟩
  case round =>
    obtain ⟨k, rfl, hk, ho, hC, hB⟩ := hrel
    have HO : Hid (wr.ownsRow (w.heap.size + 1) 111 4 u7 (keysK c now ps k).length (flatK (keysK c now ps k))) := ho
    have HC : Hid (wr.heap[w.heap.size]? = some (.cells (cfC c b off n cap) 24 (0, 0))) := hC
    have HB : Hid (Below w.heap.size w wr) := hB
    have hkl := keysK_len c now ps k
    obtain ⟨ea, ec, rfl⟩ := ownForm ho
    have x0 : wr.cell? ⟨w.heap.size, 0, none⟩ = some (.int .i64 c.span) := cell_blk (o := 0) hC rfl
    have x1 : wr.cell? ⟨w.heap.size, 1, none⟩ = some (.int .i64 c.keep) := cell_blk (o := 1) hC rfl
    have x2 : wr.cell? ⟨w.heap.size, 2, none⟩ = some (.slice (some ⟨b, off, none⟩) n cap) := cell_blk (o := 2) hC rfl
    have hWr : w.heap.size < wr.heap.size := (Array.getElem?_eq_some_iff.1 hC).1
    clear ho hC hB
    by_cases hlt : k < pn
    · obtain ⟨g, cap', he, _, hgs, hcap⟩ := ownBlockForm HOW.out (by omega)
      obtain ⟨rfl, rfl⟩ : pa = some ⟨g, 0, none⟩ ∧ pcap = cap' := by injection he with h1 h2 h3; exact ⟨h1, h3⟩
      have hpt : PtAt wr g (k * 14) (ptG ps k) := At.below (owns_pt HOW.out k (by rw [HPN.out]; exact hlt)) HB.out hgs
      have HOK := HPO.out (ptG ps k) (by rw [ptG_get ps k (by rw [HPN.out]; exact hlt)]; exact List.getElem_mem _)
      have HSU : Hid (keysK c now ps (k + 1) = keyA (keysK c now ps k) (kyP c now (ptG ps k))) := keysK_succ c now ps k (by rw [HPN.out]; exact hlt)
      generalize ptG ps k = Z at *
      obtain ⟨y0, y1, y2, y3, y4, y5, y6, y7, y8, y9, y10, y11, y12, y13⟩ := PtAt.all hpt
      have HK : Hid (∀ W, Below wr.heap.size wr W → Calls Try.prog 58 #[.agg (cfC c b off n cap), .int .i64 now, .agg (ptC Z)] W fun e w' => e = .returned (.agg (kyC (kyP c now Z))) ∧ Below W.heap.size W w') := fun W hW =>
        keyOf_any c b off n cap now Z W HR.out n0 n1 HN.out (HAT.out.below (HB.out.trans (hW.mono (by omega))) hbs) HOK
      have hgr : g < wr.heap.size := by omega
      clear hpt HOK
      generalize kyP c now Z = Y at *
      generalize hE : keysK c now ps k = E at *
      go_upto_region 5 with fail
      go_cut [9] from 10 to 30 (fun v wx => ∃ P, v = .pointer (some ⟨P, 0, none⟩) ∧ wx.heap[P]? = some (.cells (kyC Y) 111 (0, 0)) ∧ wr.heap.size ≤ P ∧ Below wr.heap.size wr wx)
      case first =>
        go_region_with (first
          | (go_at_call 58; refine (HK.out wr.drew (Below.refl _ _).drew).mono ?_; rintro e w' ⟨rfl, hb'⟩; have HB' : Hid (Below wr.heap.size wr w') := ⟨hb'.os, hb'.tape, hb'.output, hb'.size, hb'.block⟩; clear hb')
          | (go_at_call 58; refine (HK.out (wr.alloc (.cells #[.int .i64 0, .int .u8 0, .int .u8 0, .int .u8 0] 111)).drew (((Below.refl _ _).alloc (Nat.le_refl _) _).drew)).mono ?_; rintro e w' ⟨rfl, hb'⟩; have hPw : w'.heap[wr.heap.size]? = some (.cells #[.int .i64 0, .int .u8 0, .int .u8 0, .int .u8 0] 111 (0, 0)) := (hb'.block wr.heap.size (by show wr.heap.size < (wr.alloc _).heap.size; simp)).trans (heap_alloc_new wr _); have HPw : Hid (w'.heap[wr.heap.size]? = some (.cells #[.int .i64 0, .int .u8 0, .int .u8 0, .int .u8 0] 111 (0, 0))) := hPw; have HB2 : Hid (Below wr.heap.size wr w') := ((Below.refl _ _).alloc (Nat.le_refl _) _).trans (Below.mono ⟨hb'.os, hb'.tape, hb'.output, hb'.size, hb'.block⟩ (by show wr.heap.size ≤ (wr.alloc _).heap.size; simp)); have q0 := cell_blk (o := 0) hPw rfl; have q1 := cell_blk (o := 1) hPw rfl; have q2 := cell_blk (o := 2) hPw rfl; have q3 := cell_blk (o := 3) hPw rfl; have qz := fun o => froz_blk (o := o) hPw; clear hb' hPw))
        all_goals go_wp2_with fail
        all_goals go_meet
        all_goals (case rel => first
          | (have h9 := set4_box (k := Y) HPw.out; exact ⟨wr.heap.size, rfl, h9, Nat.le_refl _, bel_set (bel_set (bel_set (bel_set HB2.out (Nat.le_refl _)) (Nat.le_refl _)) (Nat.le_refl _)) (Nat.le_refl _)⟩)
          | (have h9 := HB'.out.size; exact ⟨w'.heap.size, rfl, heap_alloc_new w' _, h9, HB'.out.alloc h9 _⟩))
      case rest =>
        obtain ⟨P, rfl, hP, hPl, hbc⟩ := hcut
        have hPc : P < wc.heap.size := (Array.getElem?_eq_some_iff.1 hP).1
        have HP : Hid (wc.heap[P]? = some (.cells (kyC Y) 111 (0, 0))) := hP
        have HOc : Hid (wc.ownsRow (w.heap.size + 1) 111 4 (.slice ea E.length ec) E.length (flatK E)) := owns_below HO.out hbc (fun j e => (HO.out.lt j e).2)
        have HCc : Hid (wc.heap[w.heap.size]? = some (.cells (cfC c b off n cap) 24 (0, 0))) := (hbc.block _ hWr).trans HC.out
        have HBc : Hid (Below w.heap.size w wc) := HB.out.trans (hbc.mono (by omega))
        have z0 := cell_blk (o := 0) hP rfl
        have z1 := cell_blk (o := 1) hP rfl
        have z2 := cell_blk (o := 2) hP rfl
        have z3 := cell_blk (o := 3) hP rfl
        have hWc : w.heap.size < wc.heap.size := Nat.lt_of_lt_of_le hWr hbc.size
        clear hP hbc y0 y1 y2 y3 y4 y5 y6 y7 y8 y9 y10 y11 y12 y13 x0 x1 x2
        go_wp2_with fail
        refine (hasK_any ea E.length ec (w.heap.size + 1) E Y wc HOc.out rfl (by omega)).mono ?_
        rintro e w4 ⟨rfl, hb4⟩
        have HO4 : Hid (w4.ownsRow (w.heap.size + 1) 111 4 (.slice ea E.length ec) E.length (flatK E)) := owns_below HOc.out hb4 (fun j e => (HOc.out.lt j e).2)
        have HC4 : Hid (w4.heap[w.heap.size]? = some (.cells (cfC c b off n cap) 24 (0, 0))) := (hb4.block _ hWc).trans HCc.out
        have HB4 : Hid (Below w.heap.size w w4) := HBc.out.trans (hb4.mono (by omega))
        have HP4 := (hb4.block _ hPc).trans HP.out
        have z0 := cell_blk (o := 0) HP4 rfl
        have z1 := cell_blk (o := 1) HP4 rfl
        have z2 := cell_blk (o := 2) HP4 rfl
        have z3 := cell_blk (o := 3) HP4 rfl
        have hP4 : P < w4.heap.size := Nat.lt_of_lt_of_le hPc hb4.size
        have hW4 : w.heap.size < w4.heap.size := Nat.lt_of_lt_of_le hWc hb4.size
        clear hb4 HP4
        cases hm : decide (Y ∈ E)
        · have HSN : Hid (keyA E Y = E ++ [Y]) := if_neg (of_decide_eq_false hm)
          clear hm
          go_wp2_with (refine listAppend rfl (.tmp 27) (.tmp 29) 109 rfl (w.heap.size + 1) 111 li0 (.agg #[.int .i64 0, .int .u8 0, .int .u8 0, .int .u8 0]) 4 16 Try.underlying109 hli lz0 lz1 lz2 rfl (by decide) (.slice ea E.length ec) E.length (flatK E) (by simp [Act.eval]) (HO4.out.alloc _) ⟨w4.heap.size, 0, none⟩ 1 1 (Ky.cells Y) (by simp [Act.eval]) rfl (newAt _ (Ky.cells Y) 111 _ rfl) (Ky.one _) (by unfold maxLen; omega) (by omega) (by simp; omega) ?_; intro v' w5 hown hgrow hblk)
          have HOW5 : Hid (w5.ownsRow (w.heap.size + 1) 111 4 v' (keysK c now ps (k + 1)).length (flatK (keysK c now ps (k + 1)))) := by
            show World.ownsRow _ _ _ _ _ _ _
            rw [HSU.out, HSN.out, List.length_append, show flatK (E ++ [Y]) = flatK E ++ Y.cells from flat_snoc _ _ _]
            exact hown
          have HB5 : Hid (Below w.heap.size w w5) := gr_below (HB4.out.alloc (by omega) _) hgrow (by simp; omega) (fun j e => by have := (HO4.out.lt j e).1; omega)
          have HC5 : Hid (w5.heap[w.heap.size]? = some (.cells (cfC c b off n cap) 24 (0, 0))) := by
            show _ = _
            rw [hgrow.block w.heap.size (by simp; omega) (fun e => by have := (HO4.out.lt _ e.symm).1; omega), Below.heap_alloc _ _ _ hW4]
            exact HC4.out
          clear hown hgrow hblk
          go_wp2_with fail
          exact ⟨⟨k + 1, by go_num, by omega, HOW5.out, HC5.out, HB5.out⟩, by simp [intOf]; omega⟩
        · have HSN : Hid (keyA E Y = E) := if_pos (of_decide_eq_true hm)
          clear hm
          go_wp2_with fail
          exact ⟨⟨k + 1, by go_num, by omega, by rw [HSU.out, HSN.out]; exact HO4.out, HC4.out, HB4.out⟩, by simp [intOf]; omega⟩
    · have hlt2 : ¬ (k : Int) < pn := by omega
      have hke : k = pn := by omega
      subst hke
      go_wp2_with fail
      go_ret
      exact ⟨rfl, HB.out⟩

end Go.Proofs.Ythciddpljcbhiab

/- Rows made: all 0. -/
namespace Go.Proofs.Ythciddpljcbhiab
open Go Go.RowKit

abbrev zRw : Array Value := #[.int .i64 0, .int .u8 0, .int .u8 0, .int .u8 0, .int .i64 0, .int .i64 0, .int .i32 0, .int .i32 0]
theorem made_rows (n : Nat) : (madeCells (Value.cells (.agg zRw)) (n * 8)).toList = flatR (List.replicate n Rw.zero) := by
  have hz : Value.cells (.agg zRw) = zRw := rfl
  rw [hz]
  apply List.ext_getElem?
  intro j
  by_cases hj : j < n * 8
  · have hi : j / 8 < (List.replicate n Rw.zero).length := by simp; omega
    have e : j = j / 8 * 8 + j % 8 := by omega
    have h1 : (madeCells zRw (n * 8)).toList[j]? = some (zRw[j % 8]!) := by
      unfold madeCells
      rw [Array.getElem?_toList, Array.getElem?_map, Array.getElem?_range]
      simp [hj]
    have h2 : (flatR (List.replicate n Rw.zero))[j]? = (Rw.cells Rw.zero)[j % 8]? := by
      rw [e]
      have := flat_get Rw.cells 8 len8 (List.replicate n Rw.zero) (j / 8) (j % 8) (by omega) hi
      rw [show (j / 8 * 8 + j % 8) % 8 = j % 8 by omega]
      rw [show flatR (List.replicate n Rw.zero) = (List.replicate n Rw.zero).flatMap Rw.cells from rfl, this]
      simp
    rw [h1, h2]
    have hm : j % 8 = 0 ∨ j % 8 = 1 ∨ j % 8 = 2 ∨ j % 8 = 3 ∨ j % 8 = 4 ∨ j % 8 = 5 ∨ j % 8 = 6 ∨ j % 8 = 7 := by omega
    rcases hm with hm | hm | hm | hm | hm | hm | hm | hm <;> rw [hm] <;> rfl
  · rw [List.getElem?_eq_none (by rw [Array.length_toList, size_madeCells]; omega), List.getElem?_eq_none (by rw [flatR_len]; simp; omega)]

theorem make72 (n : Nat) (h : n ≤ 1000) (w : World) : (Instr.makeSlice 45 (.int .i64 (n : Int)) (.int .i64 (n : Int))).run Try.prog w =
    .ok (.slice (some ⟨w.heap.size, 0, none⟩) n n) (w.alloc (.cells (flatR (List.replicate n Rw.zero)).toArray 54)) := by
  obtain ⟨i, hi, hz, hs, hb⟩ := infP Try.info54'
  have hr := run_make (P := Try.prog) w 45 54 i _ Try.underlying45 hi hz .i64 .i64 (n : Int) (n : Int) (by omega) (by omega) (by rw [hb]; omega) (by omega)
  rw [hr, hs, Int.toNat_natCast, ← made_rows, Array.toArray_toList]
theorem owns_made (w : World) (n B : Nat) (hn : n ≤ 1000) (hB : B ≤ w.heap.size) : (w.alloc (.cells (flatR (List.replicate n Rw.zero)).toArray 54)).ownsRow B 54 8 (.slice (some ⟨w.heap.size, 0, none⟩) n n) n (flatR (List.replicate n Rw.zero)) := by
  refine ⟨by rw [flatR_len]; simp, .inr ⟨w.heap.size, n, _, rfl, hB, heap_alloc_new _ _, Nat.le_refl _, by unfold maxLen; omega, by simp [flatR_len], ?_⟩⟩
  rw [List.take_of_length_le]
  simp [flatR_len]

/-- Rows that the caller takes for rows, small enough to be joined. -/
def SmRs (l : List Rw) : Prop := ∀ i, i < l.length → SmR (rwG l i).ag
/-- The rows of the first k, step by step. -/
def stK (N : Nat) (l : List Rw) (k : Nat) : List Rw := stepsR N (l.take k)
theorem stK_succ (N : Nat) (l : List Rw) (k : Nat) (hk : k < l.length) : stK N l (k + 1) = (stK N l k).set (rwG l k).key.st.toNat (joinR (rwG (stK N l k) (rwG l k).key.st.toNat) (rwG l k)) := by
  unfold stK stepsR
  rw [List.take_succ_eq_append_getElem hk, List.map_append, rwG_get l k hk]
  unfold putAll
  rw [List.foldl_append]
  rfl
theorem stK_len (N : Nat) (l : List Rw) (k : Nat) : (stK N l k).length = N := stepsR_len N _
theorem stK_zero (N : Nat) (l : List Rw) : stK N l 0 = List.replicate N Rw.zero := by unfold stK stepsR; simp [putAll]
/-- The cells of a row set in an owned list. -/
theorem owns_rwset8 {w : World} {base g n cap : Nat} {l : List Rw} (h : w.ownsRow base 54 8 (.slice (some ⟨g, 0, none⟩) n cap) n (flatR l)) (i : Nat) (hi : i < l.length) (r : Rw) : (set8 w g (i * 8) r).ownsRow base 54 8 (.slice (some ⟨g, 0, none⟩) n cap) n (flatR (l.set i r)) := owns_rwset h i hi r

end Go.Proofs.Ythciddpljcbhiab

/- Walks: the query of all that is kept (garnerkeep). -/
namespace Go.Proofs.Ythciddpljcbhiab
open Go Go.RowKit

def dots : ByteArray := ⟨#[46, 46, 46]⟩
def zeros : ByteArray := ⟨#[48, 48, 48]⟩
def wholeQ (s : St) : Qy := ⟨oldT s, (s.now / s.c.span + 1) * s.c.span, s.c.span, dots, zeros⟩

set_option maxHeartbeats 1000000 in
set_option maxRecDepth 100000 in
theorem whole_any (D X : Nat) (s : St) (L n cap : Nat) (sv : Value) (w : World) (hI : Inv s) (hD : w.heap[D]? = some (.cells (dkC X s L n cap sv) 31 (0, 0))) :
    Calls Try.prog 24 #[.pointer (some ⟨D, 0, none⟩)] w fun e w' => e = .returned (.agg (qyC (wholeQ s))) ∧ Below w.heap.size w w' := by
  obtain ⟨h1, h2, h3, h4, _⟩ := Cf.right_parts hI.right
  have HI : Hid (Inv s) := hI
  have n0 := hI.n0
  have n1 := hI.n1
  have d1 : w.cell? ⟨D, 1, none⟩ = some (.int .i64 s.c.span) := cell_blk' hD rfl
  have d4 : w.cell? ⟨D, 4, none⟩ = some (.int .i64 s.now) := cell_blk' hD rfl
  have hDs : D < w.heap.size := (Array.getElem?_eq_some_iff.1 hD).1
  have HD : Hid (w.heap[D]? = some (.cells (dkC X s L n cap sv) 31 (0, 0))) := hD
  have hsp : ¬ s.c.span = 0 := by omega
  have q0 : 0 ≤ s.now / s.c.span := Int.ediv_nonneg n0 (by omega)
  have q1 : s.now / s.c.span ≤ 100000 := Int.le_trans (Int.ediv_le_self _ n0) n1
  have m0 : 0 ≤ (s.now / s.c.span + 1) * s.c.span := Int.mul_nonneg (by omega) (by omega)
  have m1 : (s.now / s.c.span + 1) * s.c.span ≤ 100001 * 100 := Int.mul_le_mul (by omega) h2 (by omega) (by omega)
  have HQ : Hid (qyC (wholeQ s) = #[.int .i64 (oldT s), .int .i64 ((s.now / s.c.span + 1) * s.c.span), .int .i64 s.c.span, .string ⟨#[46, 46, 46]⟩, .string ⟨#[48, 48, 48]⟩]) := rfl
  clear hD hI
  go_enter Try.func24, Try.ntmps24
  go_wp2_with fail
  refine (oldest_any D X s L n cap sv _ HI.out (by rw [Below.heap_alloc _ _ _ hDs]; exact HD.out)).mono ?_
  rintro e w1 ⟨rfl, d, rfl⟩
  go_wp2_with fail
  go_quiet (fail)
  go_wp2_with fail
  refine bodyPost_ret (v := .agg #[.int .i64 (oldT s), .int .i64 ((s.now / s.c.span + 1) * s.c.span), .int .i64 s.c.span, .string ⟨#[46, 46, 46]⟩, .string ⟨#[48, 48, 48]⟩]) (by simp [results, Try.results24, go_sem]) rfl ?_
  rw [HQ.out]
  refine ⟨rfl, ?_⟩
  exact bel_set (bel_set (bel_set (bel_set (bel_set (below_drewN ((Below.refl _ _).alloc (Nat.le_refl _) _) _) (Nat.le_refl _)) (Nat.le_refl _)) (Nat.le_refl _)) (Nat.le_refl _)) (Nat.le_refl _)


def kkk : ByteArray := ⟨#[107, 107, 107]⟩
def keptB (lvs : List Lv) : Bool := (List.range lvs.length).all fun i => decide ((lvG lvs i).rule = kkk)

end Go.Proofs.Ythciddpljcbhiab

/- Bounds of what rows come to; the query of all that is kept. -/
namespace Go.Proofs.Ythciddpljcbhiab
open Go Go.RowKit

structure Tg (a : Ag) : Prop where
  c0 : 0 ≤ a.cnt
  lo : -2147483648 * a.cnt ≤ a.sum
  hi : a.sum ≤ 2147483648 * a.cnt
theorem agOf_tg : ∀ {l : List Int} {a : Ag}, (∀ v ∈ l, v32 v) → agOf l = some a → Tg a
  | [], _, _, h => by cases h
  | v :: l, a, hv, h => by
    have h0 := hv v (by simp)
    unfold v32 at h0
    rw [agOf_cons] at h
    cases hl : agOf l with
    | none => rw [hl] at h; simp [oj] at h; subst h; exact ⟨by simp [Ag.one], by simp [Ag.one]; omega, by simp [Ag.one]; omega⟩
    | some b =>
      rw [hl] at h
      simp only [oj, Option.some.injEq] at h
      subst h
      obtain ⟨b0, b1, b2⟩ := agOf_tg (fun x hx => hv x (by simp [hx])) hl
      refine ⟨?_, ?_, ?_⟩ <;> simp [Ag.join, Ag.one] <;> omega
theorem SmR.of {a : Ag} (h : Tg a) (hc : a.cnt ≤ 1000000) : SmR a := by
  obtain ⟨h0, h1, h2⟩ := h
  exact ⟨h0, hc, by omega, by omega⟩
theorem joinR_tg {a b : Rw} (ha : Tg a.ag) (hb : Tg b.ag) : Tg (joinR a b).ag ∧ (joinR a b).ag.cnt ≤ a.ag.cnt + b.ag.cnt := by
  obtain ⟨a0, a1, a2⟩ := ha
  obtain ⟨b0, b1, b2⟩ := hb
  unfold joinR
  split
  · exact ⟨⟨b0, b1, b2⟩, by omega⟩
  · exact ⟨⟨by simp [Ag.join]; omega, by simp [Ag.join]; omega, by simp [Ag.join]; omega⟩, by simp [Ag.join]⟩
theorem putAll_bd (l : List (Nat × Rw)) : ∀ (out : List Rw) (C : Int), (∀ j, Tg (rwG out j).ag ∧ (rwG out j).ag.cnt ≤ C) → (∀ p ∈ l, Tg p.2.ag) → ∀ j, Tg (rwG (putAll out l) j).ag ∧ (rwG (putAll out l) j).ag.cnt ≤ C + (l.map fun p => p.2.ag.cnt).sum := by
  induction l with
  | nil => intro out C h _ j; simpa [putAll] using h j
  | cons p l ih =>
    intro out C h hp j
    have hp0 := hp p (by simp)
    have h' : ∀ j, Tg (rwG (putR out p.1 p.2) j).ag ∧ (rwG (putR out p.1 p.2) j).ag.cnt ≤ C + p.2.ag.cnt := by
      intro j
      by_cases hi : p.1 < out.length
      · rw [rwG_put _ _ _ _ hi]
        split
        · have := joinR_tg (h p.1).1 hp0
          have := (h p.1).2
          exact ⟨(joinR_tg (h p.1).1 hp0).1, by omega⟩
        · have := hp0.c0
          have := (h j).2
          exact ⟨(h j).1, by omega⟩
      · have e : putR out p.1 p.2 = out := by unfold putR; exact List.set_eq_of_length_le (by omega)
        rw [e]
        have := hp0.c0
        have := (h j).2
        exact ⟨(h j).1, by omega⟩
    have := ih (putR out p.1 p.2) (C + p.2.ag.cnt) h' (fun x hx => hp x (by simp [hx])) j
    refine ⟨this.1, ?_⟩
    have h2 := this.2
    rw [List.map_cons, List.sum_cons]
    show (rwG (putAll (putR out p.1 p.2) l) j).ag.cnt ≤ _
    omega
theorem tg_zero : Tg Rw.zero.ag := ⟨by simp [Rw.zero], by simp [Rw.zero], by simp [Rw.zero]⟩
theorem rep_bd (N : Nat) : ∀ j, Tg (rwG (List.replicate N Rw.zero) j).ag ∧ (rwG (List.replicate N Rw.zero) j).ag.cnt ≤ 0 := fun j => by
  rw [rwG_rep]; exact ⟨tg_zero, by simp [Rw.zero]⟩
theorem cntSum_take {l : List Rw} (h : ∀ r ∈ l, 0 ≤ r.ag.cnt) (k : Nat) : cntSum (l.take k) ≤ cntSum l := by
  have e : cntSum l = cntSum (l.take k) + cntSum (l.drop k) := by
    conv => lhs; rw [← List.take_append_drop k l]
    unfold cntSum
    rw [List.map_append, List.sum_append]
  have h2 : ∀ m : List Rw, (∀ r ∈ m, 0 ≤ r.ag.cnt) → 0 ≤ cntSum m := by
    intro m
    induction m with
    | nil => intro _; simp [cntSum]
    | cons r m ih =>
      intro hm
      have a := hm r (by simp)
      have b := ih (fun x hx => hm x (by simp [hx]))
      simp [cntSum] at b ⊢
      omega
  have := h2 (l.drop k) (fun r hr => h r (List.mem_of_mem_drop hr))
  omega
theorem cntSum_map (l : List Rw) : ((l.map fun r => (r.key.st.toNat, r)).map fun p => p.2.ag.cnt).sum = cntSum l := by
  unfold cntSum; rw [List.map_map]; rfl
theorem stK_sm {N : Nat} {l : List Rw} (ht : ∀ r ∈ l, Tg r.ag) (hc : cntSum l ≤ 1000000) (k i : Nat) : SmR (rwG (stK N l k) i).ag := by
  have h := putAll_bd ((l.take k).map fun r => (r.key.st.toNat, r)) (List.replicate N Rw.zero) 0 (rep_bd N) (fun p hp => by
    obtain ⟨r, hr, rfl⟩ := List.mem_map.1 hp
    exact ht r (List.mem_of_mem_take hr)) i
  rw [cntSum_map] at h
  have := cntSum_take (fun r hr => (ht r hr).c0) k
  exact SmR.of h.1 (by have := h.2; unfold stK stepsR; omega)

/-! The rows of a state. -/
theorem kv_v32 {s : St} (h : Inv s) (q : Qy) : ∀ p ∈ kvOf q s.at s.l, v32 p.2 := by
  intro p hp
  obtain ⟨x, hx, _, g, _, rfl⟩ := kv_mem hp
  exact (h.ok x hx).2.2.2.2.2
theorem kv_len (s : St) (q : Qy) : (kvOf q s.at s.l).length ≤ s.l.length := List.length_filterMap_le _ _
theorem rows_tg {s : St} (h : Inv s) (q : Qy) : ∀ r ∈ s.rows q, Tg r.ag := by
  intro r hr
  refine agOf_tg ?_ ((rowsOf_is (kvOf q s.at s.l)).ag r hr)
  intro v hv
  unfold valsIf at hv
  obtain ⟨p, hp, rfl⟩ := List.mem_map.1 hv
  exact kv_v32 h q p (List.mem_filter.1 hp).1
theorem rows_total (kv : List (Key × Int)) : cntSum (rowsOf kv) = (kv.length : Int) := by
  have h1 := (rowsOf_is kv).joined (fun _ => true)
  have e : (rowsOf kv).filter (fun r => (fun _ => true) r.key) = rowsOf kv := List.filter_eq_self.2 fun a _ => rfl
  rw [e] at h1
  have h3 := agRows_cnt (rowsOf kv)
  rw [h1] at h3
  rw [← h3, agOf_count]
  unfold valsIf
  rw [List.length_map, List.filter_eq_self.2 fun a _ => rfl]
theorem rows_sum {s : St} (h : Inv s) (q : Qy) : cntSum (s.rows q) ≤ 500 := by
  have h1 := rows_total (kvOf q s.at s.l)
  have h2 := kv_len s q
  have h3 := h.len
  show cntSum (rowsOf (kvOf q s.at s.l)) ≤ 500
  omega
theorem rows_many {s : St} (h : Inv s) (q : Qy) : (s.rows q).length ≤ 500 := by
  have h1 := rowsOf_len (kvOf q s.at s.l)
  have h2 := kv_len s q
  have h3 := h.len
  show (rowsOf (kvOf q s.at s.l)).length ≤ 500
  omega
theorem rows_smr {s : St} (h : Inv s) (q : Qy) : SmRs (s.rows q) := fun i hi => by
  have hm : rwG (s.rows q) i ∈ s.rows q := by rw [rwG_get _ _ hi]; exact List.getElem_mem _
  have h1 := rows_tg h q _ hm
  refine SmR.of h1 ?_
  have h2 := rows_sum h q
  have h3 : ∀ (l : List Rw), (∀ r ∈ l, 0 ≤ r.ag.cnt) → ∀ r ∈ l, r.ag.cnt ≤ cntSum l := by
    intro l
    induction l with
    | nil => intro _ r hr; cases hr
    | cons x l ih =>
      intro hl r hr
      have a := hl x (by simp)
      have b := ih (fun y hy => hl y (by simp [hy]))
      have c : 0 ≤ cntSum l := by
        cases l with
        | nil => simp [cntSum]
        | cons y l' => have := b y (by simp); have := hl y (by simp); omega
      have e : cntSum (x :: l) = x.ag.cnt + cntSum l := by simp [cntSum]
      rcases List.mem_cons.1 hr with rfl | hr
      · omega
      · have := b r hr; omega
  have := h3 (s.rows q) (fun r hr => (rows_tg h q r hr).c0) _ hm
  omega
theorem rows_stK {s : St} (h : Inv s) (q : Qy) (N k i : Nat) : SmR (rwG (stK N (s.rows q) k) i).ag := stK_sm (rows_tg h q) (by have := rows_sum h q; omega) k i

/-! The query of all that is kept. -/
def wholeN (s : St) : Nat := (s.c.cnt s.now).toNat
theorem dots_b : byt dots 0 = 46 ∧ byt dots 1 = 46 ∧ byt dots 2 = 46 ∧ byt zeros 0 = 48 ∧ byt zeros 1 = 48 ∧ byt zeros 2 = 48 := by decide
theorem dots_m : (mB (byt dots 0) = true ∧ mB (byt dots 1) = true ∧ mB (byt dots 2) = true) ∧ bB (byt zeros 0) = true ∧ bB (byt zeros 1) = true ∧ bB (byt zeros 2) = true := by decide
theorem whole_is {s : St} (h : Inv s) : WholeQ s.c (wholeQ s) (s.c.old s.now) 1 (s.c.cnt s.now) := by
  obtain ⟨o1, o2, o3, o4, o5⟩ := Cf.old_range h.right h.n0
  refine ⟨rfl, by show s.c.span = 1 * s.c.span; omega, ?_, o1, by omega, o4, o5, ⟨rfl, dots_m.1⟩, ⟨rfl, dots_m.2⟩⟩
  show (s.now / s.c.span + 1) * s.c.span = s.c.old s.now * s.c.span + s.c.cnt s.now * s.c.span
  rw [← Int.add_mul]
  congr 1
  unfold Cf.cnt
  omega
structure WQ (s : St) (q : Qy) (N : Nat) : Prop where
  f0 : 0 ≤ q.fr
  f1 : q.fr < q.to
  f2 : q.to ≤ 100100
  s1 : 1 ≤ q.step
  s2 : q.step ≤ 100100
  n1 : 1 ≤ N
  n2 : N ≤ 20
  div : (q.to - q.fr) / q.step = N
  mul : q.to - q.fr = N * q.step
theorem wq_of {s : St} (h : Inv s) {q : Qy} {m k n : Int} (hw : WholeQ s.c q m k n) (hto : q.to ≤ (s.now / s.c.span + 1) * s.c.span) {N : Nat} (hN : n = N) : WQ s q N := by
  have hr := hw.right h.right h.n1 hto
  simp only [rightQ, Bool.and_eq_true, decide_eq_true_eq] at hr
  obtain ⟨⟨⟨⟨⟨⟨⟨⟨⟨f0, f1⟩, f2⟩, s1⟩, _⟩, _⟩, _⟩, _⟩, _⟩, _⟩ := hr
  have hn1 := hw.n1
  have hn2 := hw.n20
  have e : q.to - q.fr = N * q.step := by rw [hw.to, hN]; omega
  have hd : (q.to - q.fr) / q.step = N := by rw [e]; exact Int.mul_ediv_cancel _ (by omega)
  refine ⟨f0, f1, f2, s1, ?_, by omega, by omega, hd, e⟩
  have h1 : 1 * q.step ≤ (N : Int) * q.step := Int.mul_le_mul_of_nonneg_right (by omega) (by omega)
  omega
theorem whole_wq {s : St} (h : Inv s) : WQ s (wholeQ s) (wholeN s) := by
  obtain ⟨_, _, _, o4, _⟩ := Cf.old_range h.right h.n0
  exact wq_of h (whole_is h) (Int.le_refl _) (by unfold wholeN; omega)
theorem whole_any' (s : St) : anyM (wholeQ s) ∧ noBy (wholeQ s) := ⟨⟨dots_b.1, dots_b.2.1, dots_b.2.2.1⟩, dots_b.2.2.2⟩
theorem whole_err {s : St} (h : Inv s) : qE s.c s.now (wholeQ s) = 0 := by
  obtain ⟨_, _, o3, _, _⟩ := Cf.old_range h.right h.n0
  rw [(whole_is h).err h.right h.n1 (Int.le_refl _) o3, lost_not, if_neg (by simp)]
  intro i hi
  obtain ⟨d0, d1, d2, d3, d4, d5⟩ := dots_b
  have : i = 0 ∨ i = 1 ∨ i = 2 := by omega
  have e1 : (wholeQ s).mt = dots := rfl
  have e2 : (wholeQ s).gb = zeros := rfl
  unfold namedB
  rw [e1, e2]
  rcases this with rfl | rfl | rfl
  · rw [d0, d3]; decide
  · rw [d1, d4]; decide
  · rw [d2, d5]; decide

end Go.Proofs.Ythciddpljcbhiab

/- What a desk's store is asked (garnerkeep). -/
namespace Go.Proofs.Ythciddpljcbhiab
open Go Go.RowKit Go.Lib

theorem IsSms.of_owns {w : World} {B : Nat} {a : Option Addr} {n cap : Nat} {l : List Sm} (h : w.ownsRow B 75 5 (.slice a n cap) n (flatS l)) (hn : l.length = n) : IsSms w a n l := ⟨hn, fun hp => by
  obtain ⟨g, c', he, _⟩ := ownBlockForm h hp
  injection he with h1 h2 h3
  subst h1
  exact ⟨g, 0, rfl, smAt_of (owns_at h)⟩⟩
theorem rowsA_ok {s : St} {q : Qy} (h : qE s.c s.now q = 0) : rowsA s q = s.rows q := if_pos h
/-- A query's box, behind a call. -/
theorem box5q {w w1 : World} {q : Qy} (hb : Below (w.alloc (.cells (qyC q) 71)).heap.size (w.alloc (.cells (qyC q) 71)) w1) : w.heap.size < w1.heap.size ∧ w1.heap[w.heap.size]? = some (.cells (qyC q) 71 (0, 0)) := by
  have hz := hb.size
  rw [World.size_alloc] at hb hz
  exact ⟨by omega, by rw [hb.block _ (by omega), heap_alloc_new]⟩

theorem WQ.wf {s : St} {q : Qy} {N : Nat} (h : WQ s q N) (hm : q.mt.size = 3) (hg : q.gb.size = 3) : q.wf := by
  obtain ⟨f0, f1, f2, t1, t2, _, _, _, _⟩ := h
  exact ⟨by omega, by omega, by omega, by omega, by omega, by omega, by rw [hm]; unfold maxLen; omega, by rw [hg]; unfold maxLen; omega⟩
/-- A query of a store, asked at a world or behind draws. -/
def QAsk (w : World) (X : Nat) (q : Qy) (rows : List Rw) (E : Int) : Prop := ∀ d, Calls Try.prog 23 #[.pointer (some ⟨X, 0, none⟩), .agg (qyC q)] (w.drewN d) fun e w' => ∃ la lc, e = .returned (.tuple #[.slice la rows.length lc, .int .i64 E]) ∧ w'.ownsRow w.heap.size 54 8 (.slice la rows.length lc) rows.length (flatR rows) ∧ Below w.heap.size w w'
theorem QAsk.of {w : World} {X : Nat} {F : Nat → Prop} {s : St} {q : Qy} {lg : ByteArray} (h : StoreAt w X F s lg) (hq : q.wf) : QAsk w X q (rowsA s q) (qE s.c s.now q) := fun d => by
  refine (query_any X F s q (w.drewN d) (h.below (below_drewN (Below.refl _ _) d)) hq).mono ?_
  rintro e w' ⟨v, rfl, ho, hb⟩
  obtain ⟨la, lc, rfl⟩ := ownForm ho
  exact ⟨la, lc, rfl, ho, below_und hb⟩

/-- A cell of another block set. -/
theorem DkS.set {w : World} {B D X : Nat} {F : Nat → Prop} {s : St} {L lc : Nat} {sv : Value} {lg : ByteArray} (h : DkS w B D X F s L lc sv lg) {P o : Nat} (v : Value) (hD : P ≠ D) (hF : ¬ F P) (hL : P ≠ L) (hS : sv.ownBlock ≠ some P) : DkS (w.setCell ⟨P, o, none⟩ v) B D X F s L lc sv lg := by
  have hfr : Fr (fun k => k = P) w (w.setCell ⟨P, o, none⟩ v) := Fr.setCell (S := fun k => k = P) (Fr.refl _ _) (.inl rfl) _
  have hs : (w.setCell ⟨P, o, none⟩ v).heap.size = w.heap.size := by simp [World.setCell]
  exact ⟨by rw [Below.heap_setCell _ _ _ _ (Ne.symm hD)]; exact h.blk, h.st.keep (fun k e _ => Below.heap_setCell _ _ _ _ (fun e' => hF ((show k = P from e') ▸ e))), lvAt_of (At.fr (at_of_lv h.lv) hfr (fun e => hL e.symm)), owns_other h.sms hS, fun k e => ⟨(h.fb k e).1, by rw [hs]; exact (h.fb k e).2⟩, h.bD, h.nD, h.nL, h.DL, h.bS⟩
theorem RwAt.set {w : World} {g i : Nat} {r : Rw} (h : RwAt w g i r) {P o : Nat} (v : Value) (hP : g ≠ P) : RwAt (w.setCell ⟨P, o, none⟩ v) g i r := by
  obtain ⟨h0, h1, h2, h3, h4, h5, h6, h7⟩ := h
  have k : ∀ j, (w.setCell ⟨P, o, none⟩ v).cell? ⟨g, j, none⟩ = w.cell? ⟨g, j, none⟩ := fun j => World.cell?_of_block (Below.heap_setCell _ _ _ _ hP)
  exact ⟨(k _).trans h0, (k _).trans h1, (k _).trans h2, (k _).trans h3, (k _).trans h4, (k _).trans h5, (k _).trans h6, (k _).trans h7⟩
theorem RwsAt.set {w : World} {a : Option Addr} {l : List Rw} (h : RwsAt w a l) {P o : Nat} (v : Value) (hP : ∀ g, a = some ⟨g, 0, none⟩ → g ≠ P) : RwsAt (w.setCell ⟨P, o, none⟩ v) a l := by
  intro hp
  obtain ⟨g, e, hl, hr⟩ := h hp
  exact ⟨g, e, by simpa [World.setCell] using hl, fun i hi => (hr i hi).set v (hP g e)⟩
/-! Rows of what is answered or refused. -/
theorem rowsA_cases (s : St) (q : Qy) : rowsA s q = s.rows q ∨ rowsA s q = [] := by unfold rowsA; split; exact .inl rfl; exact .inr rfl
theorem rowsA_sub (s : St) (q : Qy) {r : Rw} (h : r ∈ rowsA s q) : r ∈ s.rows q := by
  rcases rowsA_cases s q with e | e
  · rw [e] at h; exact h
  · rw [e] at h; cases h
theorem goodsA {s : St} {q : Qy} {N : Nat} (hs : 1 ≤ q.step) (hn : q.to - q.fr = N * q.step) : Goods N (rowsA s q) := by
  have g := rows_goods (s := s) hs hn
  rcases rowsA_cases s q with e | e
  · rw [e]; exact g
  · rw [e]; exact ⟨List.Pairwise.nil, fun r hr => absurd hr (by simp), fun r hr => absurd hr (by simp)⟩
theorem manyA {s : St} (h : Inv s) (q : Qy) : (rowsA s q).length ≤ 500 := by
  rcases rowsA_cases s q with e | e
  · rw [e]; exact rows_many h q
  · rw [e]; simp
theorem smrsA {s : St} (h : Inv s) (q : Qy) : SmRs (rowsA s q) := by
  rcases rowsA_cases s q with e | e
  · rw [e]; exact rows_smr h q
  · rw [e]; exact fun i hi => by simp at hi
theorem stKA {s : St} (h : Inv s) (q : Qy) (N k i : Nat) : SmR (rwG (stK N (rowsA s q) k) i).ag := by
  rcases rowsA_cases s q with e | e
  · rw [e]; exact rows_stK h q N k i
  · rw [e]; exact stK_sm (fun r hr => by cases hr) (by simp [cntSum]) k i
theorem byte_lab {a : Int} (h : labB a = true) : 0 ≤ a ∧ a ≤ 255 := by
  rcases lab_good h with h | h <;> omega
theorem byte_g {b x : Int} (h : 0 ≤ x ∧ x ≤ 255) : 0 ≤ gB b x ∧ gB b x ≤ 255 := by
  unfold gB; split <;> omega
/-- The groups of rows are bytes. -/
theorem rows_byte {s : St} (h : Inv s) (q : Qy) : ∀ r ∈ s.rows q, (0 ≤ r.key.g0 ∧ r.key.g0 ≤ 255) ∧ (0 ≤ r.key.g1 ∧ r.key.g1 ≤ 255) ∧ 0 ≤ r.key.g2 ∧ r.key.g2 ≤ 255 := by
  intro r hr
  obtain ⟨x, hx, _, _, g, hg, e0, e1, e2⟩ := rows_mem s hr
  rw [e0, e1, e2]
  have hok := at_ok s ((smOk_iff x).1 (h.ok x hx).1).2.2
  unfold grpOf at hg
  by_cases ho : s.at x = over
  · rw [if_pos ho] at hg
    have := Option.some.inj hg
    subst this
    simp [over]
  · rw [if_neg ho] at hg
    have hl : lab3 (s.at x).a (s.at x).b (s.at x).c = true := by
      rcases hok with hok | hok
      · exact absurd hok ho
      · exact hok
    simp only [lab3, Bool.and_eq_true] at hl
    split at hg
    · have := Option.some.inj hg
      subst this
      exact ⟨byte_g (byte_lab hl.1.1), byte_g (byte_lab hl.1.2), byte_g (byte_lab hl.2)⟩
    · cases hg
end Go.Proofs.Ythciddpljcbhiab

/- Walks: Cells; what a store tells; do two stores tell the same (garnerkeep). -/
namespace Go.Proofs.Ythciddpljcbhiab
open Go Go.RowKit Go.Lib
attribute [local go_sem ↓] Go.wp_at_zero Go.wp_at_succ

set_option maxHeartbeats 1000000 in
theorem cells_any (X : Nat) (F : Nat → Prop) (s : St) (lg : ByteArray) (w : World) (h : StoreAt w X F s lg) : Calls Try.prog 26 #[.pointer (some ⟨X, 0, none⟩)] w fun e w' => e = .returned (.int .i64 (cellsN s : Int)) ∧ Below w.heap.size w w' := by
  obtain ⟨L, lcap, pv, bv, bk, gv, h⟩ := h
  obtain ⟨pa, pcap, rfl⟩ := ownForm h.pts
  have c0 := h.cell 0 _ rfl
  have c1 := h.cell 1 _ rfl
  have c2 := h.cell 2 _ rfl
  have c3 := h.cell 3 _ rfl
  have c5 := h.cell 5 _ rfl
  have HK : Hid (∀ d, Calls Try.prog 41 #[.agg (cfC s.c L 0 s.c.lvs.length lcap), .int .i64 s.now, .slice pa s.pts.length pcap] (w.drewN d) fun e w' => e = .returned (.int .i64 (cellsN s : Int)) ∧ Below w.heap.size w w') := fun d => by
    have hd : Below w.heap.size w (w.drewN d) := below_drewN (Below.refl _ _) d
    refine (count_any' s.c L 0 s.c.lvs.length lcap s.now pa s.pts.length pcap 0 s.pts (w.drewN d) h.inv.right h.inv.n0 h.inv.n1 rfl (h.lv.below hd h.Llt) (owns_drewN h.pts d) rfl (pts_len h.inv) (pts_ok h.inv)).mono ?_
    rintro e w' ⟨rfl, hb⟩
    exact ⟨rfl, hd.trans hb⟩
  have HK0 : Hid (Calls Try.prog 41 #[.agg (cfC s.c L 0 s.c.lvs.length lcap), .int .i64 s.now, .slice pa s.pts.length pcap] w.drew fun e w' => e = .returned (.int .i64 (cellsN s : Int)) ∧ Below w.heap.size w w') := by
    have hd : Below w.heap.size w w.drew := (Below.refl _ _).drew
    refine (count_any' s.c L 0 s.c.lvs.length lcap s.now pa s.pts.length pcap 0 s.pts w.drew h.inv.right h.inv.n0 h.inv.n1 rfl (h.lv.below hd h.Llt) (owns_drew h.pts) rfl (pts_len h.inv) (pts_ok h.inv)).mono ?_
    rintro e w' ⟨rfl, hb⟩
    exact ⟨rfl, hd.trans hb⟩
  clear h
  go_enter Try.func26, Try.ntmps26
  go_wp2_with fail
  go_region_with (go_at_call 41; refine HK0.out.mono ?_; rintro e w' ⟨rfl, hb⟩)
  all_goals go_wp2_with fail
  all_goals go_ret
  all_goals exact ⟨rfl, hb⟩

set_option maxHeartbeats 1000000 in
theorem tells_any (B D X : Nat) (F : Nat → Prop) (S : St) (L lc : Nat) (sv : Value) (lg : ByteArray) (Y : Nat) (F2 : Nat → Prop) (lg2 : ByteArray) (w : World) (h : DkS w B D X F S L lc sv lg) (h2 : StoreAt w Y F2 S lg2) :
    Calls Try.prog 13 #[.pointer (some ⟨D, 0, none⟩), .pointer (some ⟨Y, 0, none⟩)] w fun e w' => ∃ la lc', e = .returned (.tuple #[.slice la (S.rows (wholeQ S)).length lc', .int .i64 S.now, .int .i64 (cellsN S : Int), .bool true]) ∧ RwsAt w' la (S.rows (wholeQ S)) ∧ Below w.heap.size w w' := by
  have HD : Hid (DkS w B D X F S L lc sv lg) := h
  have HS : Hid (StoreAt w Y F2 S lg2) := h2
  have HI : Hid (Inv S) := h.inv
  have HQE : Hid (qE S.c S.now (wholeQ S) = 0) := whole_err h.inv
  have HQW : Hid ((wholeQ S).wf) := (whole_wq h.inv).wf rfl rfl
  have HRA : Hid (rowsA S (wholeQ S) = S.rows (wholeQ S)) := rowsA_ok HQE.out
  clear h h2
  go_enter Try.func13, Try.ntmps13
  go_wp2_with fail
  refine (whole_any D X S L S.c.lvs.length lc sv w HI.out HD.out.blk).mono ?_
  rintro e w1 ⟨rfl, hb1⟩
  have HB1 : Hid (Below w.heap.size w w1) := hb1
  have HS1 : Hid (StoreAt w1 Y F2 S lg2) := HS.out.below hb1
  clear hb1
  go_wp2_with fail
  refine (query_any Y F2 S (wholeQ S) w1 HS1.out HQW.out).mono ?_
  rintro e w2 ⟨v, rfl, ho, hb2⟩
  rw [HRA.out] at ho
  rw [HQE.out]
  obtain ⟨la, lc', rfl⟩ := ownForm ho
  have HR2 : Hid (RwsAt w2 la (S.rows (wholeQ S))) := RwsAt.of_owns ho rfl
  have HB2 : Hid (Below w.heap.size w w2) := HB1.out.trans (hb2.mono HB1.out.size)
  have HS2 : Hid (StoreAt w2 Y F2 S lg2) := HS1.out.below hb2
  clear ho hb2
  go_wp2_with fail
  refine (now_any Y F2 S w2 HS2.out).mono ?_
  rintro e w3 ⟨rfl, rfl⟩
  go_wp2_with fail
  refine (cells_any Y F2 S lg2 w3 HS2.out).mono ?_
  rintro e w4 ⟨rfl, hb4⟩
  have HR4 : Hid (RwsAt w4 la (S.rows (wholeQ S))) := HR2.out.below hb4
  have HB4 : Hid (Below w.heap.size w w4) := HB2.out.trans (hb4.mono HB2.out.size)
  clear hb4
  go_wp2_with fail
  exact bodyPost_ret (v := .tuple #[.slice la (S.rows (wholeQ S)).length lc', .int .i64 S.now, .int .i64 (cellsN S : Int), .bool true]) (by simp [results, Try.results13, go_sem]) rfl ⟨la, lc', rfl, HR4.out, HB4.out⟩

set_option maxHeartbeats 2000000 in
set_option maxRecDepth 100000 in
theorem same_any (B D X : Nat) (F : Nat → Prop) (S : St) (L lc : Nat) (sv : Value) (lg : ByteArray) (Y Z : Nat) (F2 F3 : Nat → Prop) (lg2 lg3 : ByteArray) (w : World) (h : DkS w B D X F S L lc sv lg) (h2 : StoreAt w Y F2 S lg2) (h3 : StoreAt w Z F3 S lg3) :
    Calls Try.prog 9 #[.pointer (some ⟨D, 0, none⟩), .pointer (some ⟨Y, 0, none⟩), .pointer (some ⟨Z, 0, none⟩)] w fun e w' => e = .returned (.bool true) ∧ Below w.heap.size w w' := by
  have HD : Hid (DkS w B D X F S L lc sv lg) := h
  have HZ : Hid (StoreAt w Z F3 S lg3) := h3
  have HT := tells_any B D X F S L lc sv lg Y F2 lg2 w h h2
  have hrm := rows_many h.inv (wholeQ S)
  have HT2 : Hid (∀ w1, Below w.heap.size w w1 → Calls Try.prog 13 #[.pointer (some ⟨D, 0, none⟩), .pointer (some ⟨Z, 0, none⟩)] w1 fun e w' => ∃ la lc', e = .returned (.tuple #[.slice la (S.rows (wholeQ S)).length lc', .int .i64 S.now, .int .i64 (cellsN S : Int), .bool true]) ∧ RwsAt w' la (S.rows (wholeQ S)) ∧ Below w1.heap.size w1 w') := fun w1 hb =>
    tells_any B D X F S L lc sv lg Z F3 lg3 w1 (HD.out.below hb) (HZ.out.below hb)
  clear h h2 h3
  generalize S.rows (wholeQ S) = R at *
  generalize cellsN S = CN at *
  go_enter Try.func9, Try.ntmps9
  go_wp2_with fail
  refine HT.mono ?_
  rintro e w1 ⟨la, lc1, rfl, hr1, hb1⟩
  have HB1 : Hid (Below w.heap.size w w1) := hb1
  have HR1 : Hid (RwsAt w1 la R) := hr1
  clear hr1 hb1 HT
  go_wp2_with fail
  refine (HT2.out w1 HB1.out).mono ?_
  rintro e w2 ⟨lb, lc2, rfl, hr2, hb2⟩
  have HR2 : Hid (RwsAt w2 lb R) := hr2
  have HA2 : Hid (RwsAt w2 la R) := HR1.out.below hb2
  have HB2 : Hid (Below w.heap.size w w2) := HB1.out.trans (hb2.mono HB1.out.size)
  clear hr2 hb2
  go_wp2_with fail
  go_loopw [15] (fun i wr => ∃ k : Nat, i = .int .i64 k ∧ k ≤ R.length ∧ ∃ d, wr = w2.drewN d) (fun i _ => R.length - (intOf i).toNat)
  case atStart => exact ⟨0, rfl, Nat.zero_le _, 0, rfl⟩
  case round =>
    obtain ⟨k, rfl, hk, d, rfl⟩ := hrel
    by_cases hlt : k < R.length
    · obtain ⟨ga, rfl, _, hra⟩ := HA2.out (by omega)
      obtain ⟨gb, rfl, _, hrb⟩ := HR2.out (by omega)
      obtain ⟨x0, x1, x2, x3, x4, x5, x6, x7⟩ := hra k hlt
      obtain ⟨y0, y1, y2, y3, y4, y5, y6, y7⟩ := hrb k hlt
      clear hra hrb
      generalize rwG R k = V at *
      have heq := fun w => eq26 9997 V.key.g0 V.key.g1 V.key.g2 V.key.g0 V.key.g1 V.key.g2 w
      simp only [beq_self_eq_true, Bool.and_self] at heq
      go_wp2_with fail
      go_quiet (fail)
      go_wp2_with fail
      exact ⟨⟨k + 1, by go_num, by omega, _, rfl⟩, by simp [intOf]; omega⟩
    · have hlt2 : ¬ (k : Int) < R.length := by omega
      go_wp2_with fail
      go_ret
      exact ⟨rfl, below_drewN HB2.out d⟩

end Go.Proofs.Ythciddpljcbhiab

/- A slice of levels and labels that came in, opened. -/
namespace Go.Proofs.Ythciddpljcbhiab
open Go Go.RowKit Go.Deep Go.ChangeShapes Go.WideShapes Go.Joins

theorem Try.cells85 : Try.prog.cellsOf 85 = 4 := by kernel_rfl
theorem Try.cells22 : Try.prog.cellsOf 22 = 1 := by kernel_rfl
theorem Try.cells3 : Try.prog.cellsOf 3 = 1 := by kernel_rfl
theorem Try.cells9 : Try.prog.cellsOf 9 = 1 := by kernel_rfl
theorem Try.cells5 : Try.prog.cellsOf 5 = 1 := by kernel_rfl
theorem Try.cells52 : Try.prog.cellsOf 52 = 3 := by kernel_rfl
theorem Try.cells24 : Try.prog.cellsOf 24 = 3 := by kernel_rfl

theorem add_none (b off j : Nat) : (⟨b, off, none⟩ : Addr).add j = ⟨b, off + j, none⟩ := by unfold Addr.add; split <;> simp_all

section
variable {H : Type} {enc : TypeId × Value → H} {w : World} {base : Nat} {spare : Nat → Bool} {held : Bool}

theorem i64_range {n : Int} (h : (Lit.int .i64 n).wf = true) : -9223372036854775808 ≤ n ∧ n ≤ 9223372036854775807 := by
  simpa [Lit.wf, IntKind.min, IntKind.max, IntKind.signed, IntKind.bits] using h

theorem list4 {α : Type} {cs : List α} (h : cs.length = 4) : ∃ c0 c1 c2 c3, cs = [c0, c1, c2, c3] := by
  match cs, h with
  | [c0, c1, c2, c3], _ => exact ⟨c0, c1, c2, c3, rfl⟩

theorem open_level {fuel : Nat} {cs : List Value} {x : DataW H × List MemPlace} (h : DataW.trod enc Try.prog w base spare held fuel 85 cs = some x) :
    ∃ l : Lv, cs = l.cells ∧ -9223372036854775808 ≤ l.window ∧ l.window ≤ 9223372036854775807 ∧ l.rule.size ≤ maxLen := by
  obtain ⟨y0, y1, y2, y3, n, _, hlen, h0, h1, h2, h3⟩ := trod_struct4 Try.underlying85 h
  rw [Try.cells85] at hlen
  obtain ⟨c0, c1, c2, c3, rfl⟩ := list4 hlen
  simp only [Try.cells3, Try.cells9] at h0 h1 h2 h3
  obtain ⟨a, e0, _, _⟩ := DataW.trod_int Try.underlying3 h0
  obtain ⟨b, e1, _, wb⟩ := DataW.trod_int Try.underlying3 h1
  obtain ⟨s, e2, _, hs⟩ := DataW.trod_string Try.underlying9 h2
  obtain ⟨c, e3, _, _⟩ := DataW.trod_int Try.underlying3 h3
  simp at e0 e1 e2 e3
  subst e0 e1 e2 e3
  exact ⟨⟨a, b, s, c⟩, rfl, (i64_range wb).1, (i64_range wb).2, hs⟩

theorem open_levels {fuel : Nat} {v : Value} {y : DataW H × List MemPlace} (hf : DataW.trod enc Try.prog w base spare held fuel 22 [v] = some y) :
    ∃ a n cap ls, v = .slice a n cap ∧ IsLvs w a n ls ∧ LvWf ls ∧ (n = 0 ∨ ∃ D sp, y.1 = .slice D sp ∧ D.length = n) := by
  have zero : LvWf [] := fun i => by simp [lvG, Lv.zero, maxLen]
  rcases open_slice Try.underlying22 hf with ⟨hcs, _⟩ | ⟨a, len, cap, m, k, D, Pl, hcs, _, hl, hm, hmm, hx, he⟩
  · simp at hcs
    exact ⟨none, 0, 0, [], hcs, ⟨rfl, fun h => absurd h (by omega)⟩, zero, .inl rfl⟩
  · simp at hcs
    have hlm : len ≤ m := by rw [hmm]; split <;> omega
    rw [Try.cells85] at he
    have hall : ∀ i, i < len → ∃ l : Lv, (∀ j, j < 4 → w.cell? ((a.add (i * 4)).add j) = l.cells[j]?) ∧ -9223372036854775808 ≤ l.window ∧ l.window ≤ 9223372036854775807 ∧ l.rule.size ≤ maxLen := fun i hi => by
      obtain ⟨cs', h1, h2⟩ := he i (by omega)
      obtain ⟨l, rfl, hb⟩ := open_level h2
      exact ⟨l, (World.cells?_some h1).2.2, hb⟩
    haveI : Inhabited Lv := ⟨Lv.zero⟩
    obtain ⟨f, hff⟩ := choose_lt hall
    refine ⟨some a, len, cap, (List.range len).map f, hcs, ⟨by simp, fun hn => ?_⟩, fun i => ?_, .inr ⟨_, _, by rw [hx], by simp⟩⟩
    · obtain ⟨b, off, spot⟩ := a
      have h0 := (hff 0 hn).1 0 (by omega)
      have hspot : spot = none := by
        have := World.cell?_spot (h0.trans rfl)
        simpa [Addr.add] using this
      subst hspot
      refine ⟨b, off, rfl, fun i hi => ?_⟩
      simp at hi
      have hc := (hff i hi).1
      have e : lvG ((List.range len).map f) i = f i := by simp [lvG, List.getD, hi]
      rw [e]
      simp only [add_none] at hc
      exact ⟨hc 0 (by omega), hc 1 (by omega), hc 2 (by omega), hc 3 (by omega)⟩
    · by_cases hi : i < len
      · have e : lvG ((List.range len).map f) i = f i := by simp [lvG, List.getD, hi]
        rw [e]
        exact (hff i hi).2
      · have e : lvG ((List.range len).map f) i = Lv.zero := by simp [lvG, List.getD, hi]
        rw [e]
        simp [Lv.zero, maxLen]

set_option maxRecDepth 100000 in
theorem okWide_lab {r : Reach} {b0 : Nat} {v : Value} (h : Value.okWide Try.prog w r b0 52 v) : ∃ c0 c1 c2, v = .agg #[c0, c1, c2] := by
  simp only [Value.okWide, Try.underlying52] at h
  obtain ⟨cs, h1, h2, _⟩ := h
  rw [Try.cells52] at h2
  obtain ⟨c0, c1, c2, rfl⟩ := array3 h2
  exact ⟨c0, c1, c2, h1⟩

theorem open_labs {fuel : Nat} {c0 c1 c2 : Value} {y : DataW H × List MemPlace} (hf : DataW.trod enc Try.prog w base spare held fuel 52 [c0, c1, c2] = some y) :
    ∃ x z t, c0 = .int .u8 x ∧ c1 = .int .u8 z ∧ c2 = .int .u8 t ∧ (0 ≤ x ∧ x ≤ 255) ∧ (0 ≤ z ∧ z ≤ 255) ∧ (0 ≤ t ∧ t ≤ 255) := by
  obtain ⟨xs, m, _, _, _, hlen, he⟩ := DataW.trod_array Try.underlying52 hf
  rw [Try.cells5] at he
  have get : ∀ i, i < 3 → ∃ q, xs[i]? = some q := fun i hi => ⟨xs[i]'(by omega), by simp⟩
  have g0 := he 0 (by omega)
  have g1 := he 1 (by omega)
  have g2 := he 2 (by omega)
  obtain ⟨q0, e0⟩ := get 0 (by omega)
  obtain ⟨q1, e1⟩ := get 1 (by omega)
  obtain ⟨q2, e2⟩ := get 2 (by omega)
  rw [e0] at g0
  rw [e1] at g1
  rw [e2] at g2
  obtain ⟨x, a0, _, w0⟩ := DataW.trod_int Try.underlying5 g0
  obtain ⟨z, a1, _, w1⟩ := DataW.trod_int Try.underlying5 g1
  obtain ⟨t, a2, _, w2⟩ := DataW.trod_int Try.underlying5 g2
  simp at a0 a1 a2
  have u8 : ∀ {n : Int}, (Lit.int .u8 n).wf = true → 0 ≤ n ∧ n ≤ 255 := fun {n} h => by simpa [Lit.wf, IntKind.min, IntKind.max, IntKind.signed, IntKind.bits] using h
  exact ⟨x, z, t, a0, a1, a2, u8 w0, u8 w1, u8 w2⟩
end

end Go.Proofs.Ythciddpljcbhiab

/- A slice of samples that came in, opened. -/
namespace Go.Proofs.Ythciddpljcbhiab
open Go Go.RowKit Go.Deep Go.ChangeShapes Go.WideShapes Go.Joins

theorem Try.cells75 : Try.prog.cellsOf 75 = 5 := by kernel_rfl
theorem Try.cells21 : Try.prog.cellsOf 21 = 1 := by kernel_rfl

theorem list5 {α : Type} {cs : List α} (h : cs.length = 5) : ∃ c0 c1 c2 c3 c4, cs = [c0, c1, c2, c3, c4] := by
  match cs, h with
  | [c0, c1, c2, c3, c4], _ => exact ⟨c0, c1, c2, c3, c4, rfl⟩

section
variable {H : Type} {enc : TypeId × Value → H} {w : World} {base : Nat} {spare : Nat → Bool} {held : Bool}

theorem i32_range {n : Int} (h : (Lit.int .i32 n).wf = true) : -2147483648 ≤ n ∧ n ≤ 2147483647 := by
  simpa [Lit.wf, IntKind.min, IntKind.max, IntKind.signed, IntKind.bits] using h

theorem open_sample {fuel : Nat} {cs : List Value} {x : DataW H × List MemPlace} (h : DataW.trod enc Try.prog w base spare held fuel 75 cs = some x) :
    ∃ s : Sm, cs = s.cells ∧ s.wf := by
  obtain ⟨y0, y1, y2, n, _, hlen, h0, h1, h2⟩ := trod_struct3 Try.underlying75 h
  rw [Try.cells75] at hlen
  obtain ⟨c0, c1, c2, c3, c4, rfl⟩ := list5 hlen
  simp only [Try.cells3, Try.cells52, Try.cells21] at h0 h1 h2
  obtain ⟨a, e0, _, wa⟩ := DataW.trod_int Try.underlying3 h0
  obtain ⟨x, z, t, rfl, rfl, rfl, b0, b1, b2⟩ := open_labs (by simpa using h1)
  obtain ⟨v, e4, _, wv⟩ := DataW.trod_int Try.underlying21 h2
  simp at e0 e4
  subst e0 e4
  exact ⟨⟨a, x, z, t, v⟩, rfl, i64_range wa, b0, b1, b2, i32_range wv⟩

theorem open_samples {fuel : Nat} {v : Value} {y : DataW H × List MemPlace} (hf : DataW.trod enc Try.prog w base spare held fuel 29 [v] = some y) :
    ∃ a n cap ls, v = .slice a n cap ∧ IsSms w a n ls ∧ SmWf ls ∧ (n = 0 ∨ ∃ D sp, y.1 = .slice D sp ∧ D.length = n) := by
  have zwf : Sm.zero.wf := by simp [Sm.wf, Sm.zero]
  have zero : SmWf [] := fun i => by simpa [smG] using zwf
  rcases open_slice Try.underlying29 hf with ⟨hcs, _⟩ | ⟨a, len, cap, m, k, D, Pl, hcs, _, hl, hm, hmm, hx, he⟩
  · simp at hcs
    exact ⟨none, 0, 0, [], hcs, ⟨rfl, fun h => absurd h (by omega)⟩, zero, .inl rfl⟩
  · simp at hcs
    have hlm : len ≤ m := by rw [hmm]; split <;> omega
    rw [Try.cells75] at he
    have hall : ∀ i, i < len → ∃ l : Sm, (∀ j, j < 5 → w.cell? ((a.add (i * 5)).add j) = l.cells[j]?) ∧ l.wf := fun i hi => by
      obtain ⟨cs', h1, h2⟩ := he i (by omega)
      obtain ⟨l, rfl, hb⟩ := open_sample h2
      exact ⟨l, (World.cells?_some h1).2.2, hb⟩
    haveI : Inhabited Sm := ⟨Sm.zero⟩
    obtain ⟨f, hff⟩ := choose_lt hall
    refine ⟨some a, len, cap, (List.range len).map f, hcs, ⟨by simp, fun hn => ?_⟩, fun i => ?_, .inr ⟨_, _, by rw [hx], by simp⟩⟩
    · obtain ⟨b, off, spot⟩ := a
      have h0 := (hff 0 hn).1 0 (by omega)
      have hspot : spot = none := by
        have := World.cell?_spot (h0.trans rfl)
        simpa [Addr.add] using this
      subst hspot
      refine ⟨b, off, rfl, fun i hi => ?_⟩
      simp at hi
      have hc := (hff i hi).1
      have e : smG ((List.range len).map f) i = f i := by simp [smG, List.getD, hi]
      rw [e]
      simp only [add_none] at hc
      exact ⟨hc 0 (by omega), hc 1 (by omega), hc 2 (by omega), hc 3 (by omega), hc 4 (by omega)⟩
    · by_cases hi : i < len
      · have e : smG ((List.range len).map f) i = f i := by simp [smG, List.getD, hi]
        rw [e]
        exact (hff i hi).2
      · have e : smG ((List.range len).map f) i = Sm.zero := by simp [smG, List.getD, hi]
        rw [e]
        exact zwf
end

end Go.Proofs.Ythciddpljcbhiab

/- A configuration's levels and a script that came in, opened. -/
namespace Go.Proofs.Ythciddpljcbhiab
open Go Go.RowKit Go.Deep Go.ChangeShapes Go.WideShapes Go.Joins

theorem Try.cells42 : Try.prog.cellsOf 42 = 3 := by kernel_rfl
theorem Try.cells29 : Try.prog.cellsOf 29 = 1 := by kernel_rfl
theorem Try.xbytes42 : Try.prog.bytesOf 75 = 16 := by kernel_rfl
theorem Try.xbytes100 : Try.prog.bytesOf 42 = 40 := by kernel_rfl

section
variable {H : Type} {enc : TypeId × Value → H} {w : World} {base : Nat} {spare : Nat → Bool} {held : Bool}

theorem list3 {α : Type} {cs : List α} (h : cs.length = 3) : ∃ c0 c1 c2, cs = [c0, c1, c2] := by
  match cs, h with
  | [c0, c1, c2], _ => exact ⟨c0, c1, c2, rfl⟩

def Lv.wf2 (l : Lv) : Prop := (-9223372036854775808 ≤ l.age ∧ l.age ≤ 9223372036854775807) ∧ (-9223372036854775808 ≤ l.window ∧ l.window ≤ 9223372036854775807) ∧ l.rule.size ≤ maxLen ∧ -9223372036854775808 ≤ l.limit ∧ l.limit ≤ 9223372036854775807
theorem open_level2 {fuel : Nat} {cs : List Value} {x : DataW H × List MemPlace} (h : DataW.trod enc Try.prog w base spare held fuel 85 cs = some x) : ∃ l : Lv, cs = l.cells ∧ l.wf2 := by
  obtain ⟨y0, y1, y2, y3, n, _, hlen, h0, h1, h2, h3⟩ := trod_struct4 Try.underlying85 h
  rw [Try.cells85] at hlen
  obtain ⟨c0, c1, c2, c3, rfl⟩ := list4 hlen
  simp only [Try.cells3, Try.cells9] at h0 h1 h2 h3
  obtain ⟨a, e0, _, wa⟩ := DataW.trod_int Try.underlying3 h0
  obtain ⟨b, e1, _, wb⟩ := DataW.trod_int Try.underlying3 h1
  obtain ⟨s, e2, _, hs⟩ := DataW.trod_string Try.underlying9 h2
  obtain ⟨c, e3, _, wc⟩ := DataW.trod_int Try.underlying3 h3
  simp at e0 e1 e2 e3
  subst e0 e1 e2 e3
  exact ⟨⟨a, b, s, c⟩, rfl, i64_range wa, i64_range wb, hs, i64_range wc⟩
theorem zero_wf2 : Lv.zero.wf2 := by simp [Lv.wf2, Lv.zero, maxLen]

theorem open_levels2 {fuel : Nat} {v : Value} {y : DataW H × List MemPlace} (hf : DataW.trod enc Try.prog w base spare held fuel 22 [v] = some y) :
    ∃ a n cap ls, v = .slice a n cap ∧ IsLvs w a n ls ∧ LvWf2 ls := by
  rcases open_slice Try.underlying22 hf with ⟨hcs, _⟩ | ⟨a, len, cap, m, k, D, Pl, hcs, _, hl, hm, hmm, hx, he⟩
  · simp at hcs
    exact ⟨none, 0, 0, [], hcs, ⟨rfl, fun h => absurd h (by omega)⟩, fun i => by have h := zero_wf2; simpa [lvG, Lv.wf2] using h⟩
  · simp at hcs
    have hlm : len ≤ m := by rw [hmm]; split <;> omega
    rw [Try.cells85] at he
    have hall : ∀ i, i < len → ∃ l : Lv, (∀ j, j < 4 → w.cell? ((a.add (i * 4)).add j) = l.cells[j]?) ∧ l.wf2 := fun i hi => by
      obtain ⟨cs', h1, h2⟩ := he i (by omega)
      obtain ⟨l, rfl, hb⟩ := open_level2 h2
      exact ⟨l, (World.cells?_some h1).2.2, hb⟩
    haveI : Inhabited Lv := ⟨Lv.zero⟩
    obtain ⟨f, hff⟩ := choose_lt hall
    refine ⟨some a, len, cap, (List.range len).map f, hcs, ⟨by simp, fun hn => ?_⟩, fun i => ?_⟩
    · obtain ⟨b, off, spot⟩ := a
      have h0 := (hff 0 hn).1 0 (by omega)
      have hspot : spot = none := by
        have := World.cell?_spot (h0.trans rfl)
        simpa [Addr.add] using this
      subst hspot
      refine ⟨b, off, rfl, fun i hi => ?_⟩
      simp at hi
      have hc := (hff i hi).1
      have e : lvG ((List.range len).map f) i = f i := by simp [lvG, List.getD, hi]
      rw [e]
      simp only [add_none] at hc
      exact ⟨hc 0 (by omega), hc 1 (by omega), hc 2 (by omega), hc 3 (by omega)⟩
    · by_cases hi : i < len
      · have e : lvG ((List.range len).map f) i = f i := by simp [lvG, List.getD, hi]
        rw [e]
        exact (hff i hi).2
      · have e : lvG ((List.range len).map f) i = Lv.zero := by simp [lvG, List.getD, hi]
        rw [e]
        exact zero_wf2

/-- A step that came in. -/
theorem open_stp {fuel : Nat} {cs : List Value} {x : DataW H × List MemPlace} (h : DataW.trod enc Try.prog w base spare held fuel 42 cs = some x) (hw : ∀ k ∈ x.1.weights Try.prog 42, k ≤ reachBytes) :
    ∃ (o : Stp) (ba : Option Addr) (bn bc : Nat), cs = [.int .i64 o.kind, .int .i64 o.a, .slice ba bn bc] ∧ IsSms w ba bn o.batch ∧ bn ≤ 9000000000000 ∧ StpWf o := by
  obtain ⟨y0, y1, y2, n, rfl, hlen, h0, h1, h2⟩ := trod_struct3 Try.underlying42 h
  rw [Try.cells42] at hlen
  obtain ⟨c0, c1, c2, rfl⟩ := list3 hlen
  simp only [Try.cells3, Try.cells29] at h0 h1 h2
  obtain ⟨a, e0, d0, wa⟩ := DataW.trod_int Try.underlying3 h0
  obtain ⟨b, e1, d1, wb⟩ := DataW.trod_int Try.underlying3 h1
  simp at e0 e1
  subst e0 e1
  obtain ⟨ba, bn, bc, ls, e2, hs, hwf, hl⟩ := open_samples (v := c2) (y := y2) (by simpa using h2)
  subst e2
  refine ⟨⟨a, b, ls⟩, ba, bn, bc, rfl, hs, ?_, i64_range wa, i64_range wb, hwf⟩
  rcases hl with rfl | ⟨D, sp, hD, rfl⟩
  · omega
  · have hm := hw ((D.length + sp.length) * Try.prog.bytesOf 75) (by simp [DataW.weights, Try.underlying42, DataW.weightsEach, hD, Try.underlying29])
    rw [Try.xbytes42] at hm
    have hm' : (D.length + sp.length) * 16 ≤ 140737488351232 := hm
    omega
theorem weights_all {P : Program} {e : TypeId} : ∀ {l : List (DataW H)} {d : DataW H}, d ∈ l → ∀ k ∈ d.weights P e, k ∈ DataW.weightsAll P e l
  | x :: l, d, hd, k, hk => by
    rw [DataW.weightsAll, List.mem_append]
    rcases List.mem_cons.1 hd with rfl | hd
    · exact .inl hk
    · exact .inr (weights_all hd k hk)

theorem open_script {fuel : Nat} {v : Value} {y : DataW H × List MemPlace} (hf : DataW.trod enc Try.prog w base spare held fuel 25 [v] = some y) (hw : ∀ k ∈ y.1.weights Try.prog 25, k ≤ reachBytes) :
    ∃ a n cap l, v = .slice a n cap ∧ IsScr w a n l ∧ n ≤ 9000000000000 := by
  rcases open_slice Try.underlying25 hf with ⟨hcs, _⟩ | ⟨a, len, cap, m, k, D, Pl, hcs, _, hl, hm, hmm, rfl, he⟩
  · simp at hcs
    exact ⟨none, 0, 0, [], hcs, ⟨rfl, fun x hx => absurd hx (by simp), fun h => absurd h (by omega)⟩, by omega⟩
  · simp at hcs
    have hlm : len ≤ m := by rw [hmm]; split <;> omega
    rw [Try.cells42] at he
    have hW : ∀ i, i < len → ∀ k ∈ (D i).weights Try.prog 42, k ≤ reachBytes := fun i hi k hk => by
      refine hw k ?_
      simp only [DataW.weights, Try.underlying25, List.mem_cons, List.mem_append]
      exact .inr (.inl (weights_all (List.mem_map.2 ⟨i, List.mem_range.2 hi, rfl⟩) k hk))
    have hN : len ≤ 9000000000000 := by
      have h9 := hw ((len + (m - len)) * Try.prog.bytesOf 42) (by simp [DataW.weights, Try.underlying25])
      rw [Try.xbytes100] at h9
      have h9' : (len + (m - len)) * 40 ≤ 140737488351232 := h9
      omega
    have hall : ∀ i, i < len → ∃ o : Stp, (∃ ba bn bc, (∀ j, j < 3 → w.cell? ((a.add (i * 3)).add j) = ([.int .i64 o.kind, .int .i64 o.a, .slice ba bn bc] : List Value)[j]?) ∧ IsSms w ba bn o.batch ∧ bn ≤ 9000000000000) ∧ StpWf o := fun i hi => by
      obtain ⟨cs', h1, h2⟩ := he i (by omega)
      obtain ⟨o, ba, bn, bc, rfl, hs, hb, hwf⟩ := open_stp h2 (hW i hi)
      exact ⟨o, ⟨ba, bn, bc, (World.cells?_some h1).2.2, hs, hb⟩, hwf⟩
    haveI : Inhabited Stp := ⟨Stp.zero⟩
    obtain ⟨f, hff⟩ := choose_lt hall
    refine ⟨some a, len, cap, (List.range len).map f, hcs, ⟨by simp, fun x hx => ?_, fun hn => ?_⟩, hN⟩
    · obtain ⟨i, hi, rfl⟩ := List.mem_map.1 hx
      exact (hff i (List.mem_range.1 hi)).2
    · obtain ⟨b, off, spot⟩ := a
      obtain ⟨⟨ba, bn, bc, h0, _⟩, _⟩ := hff 0 hn
      have h00 := h0 0 (by omega)
      have hspot : spot = none := by
        have := World.cell?_spot (h00.trans rfl)
        simpa [Addr.add] using this
      subst hspot
      refine ⟨b, off, rfl, ?_, fun i hi => ?_⟩
      · have := World.block_lt_of_cell? w _ (h00.trans rfl)
        simpa [Addr.add] using this
      · obtain ⟨⟨ba, bn, bc, hc, hs, hb⟩, _⟩ := hff i hi
        have e : stpG ((List.range len).map f) i = f i := by simp [stpG, List.getD, hi]
        rw [e]
        simp only [add_none] at hc
        exact ⟨ba, bn, bc, hc 0 (by omega), hc 1 (by omega), hc 2 (by omega), hs, hb⟩
end

end Go.Proofs.Ythciddpljcbhiab
