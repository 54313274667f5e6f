/- Texts of one claim put together: Cfw, Sea, Ply, Mk, Kpc, Bnd, Stq, Bls. -/
import Derived.Test.YthciddpljcbhiaaB4
import Derived.Test.YthciddpljcbhiaaB3
import Derived.Laws.MakeOwn
import Derived.Test.YthciddpljcbhiaaB1
import Derived.Laws.Strings
import Derived.Test.YthciddpljcbhiaaA
import Derived.Deep.RegionHeld3

/- Walks: a configuration made right (the walk). -/
namespace Go.Proofs.Ythciddpljcbhiaa
open Go Go.RowKit

theorem nxA_range {first : Bool} {l : Lv} {A : Int} : A ≤ nxA first l A ∧ nxA first l A ≤ A + 20 := by
  have := pk_range l.age 19 (by omega)
  unfold nxA
  split <;> omega
/-- What is left to read of a level's box. -/
def BxL (w : World) (P : Nat) (l : Lv) : Prop := w.cell? ⟨P, 2, none⟩ = some (.string l.rule) ∧ w.cell? ⟨P, 3, none⟩ = some (.int .i64 l.limit) ∧ P < w.heap.size
theorem wrapM {W p : Int} (h0 : 0 ≤ p) (h1 : p < 100) (m0 : 1 ≤ W * (1 + p)) (m1 : W * (1 + p) ≤ 100) : IntKind.i64.wrap (W * IntKind.i64.wrap (1 + p)) = W * (1 + p) := by
  have e1 : IntKind.i64.wrap (1 + p) = 1 + p := by simp [IntKind.wrap, IntKind.bits, IntKind.signed]; omega
  rw [e1]
  generalize W * (1 + p) = z at *
  simp [IntKind.wrap, IntKind.bits, IntKind.signed]; omega
theorem setc_ne {w : World} {b o b' o' : Nat} (h : b' ≠ b) (v : Value) : (w.setCell ⟨b, o, none⟩ v).cell? ⟨b', o', none⟩ = w.cell? ⟨b', o', none⟩ := World.cell?_of_block (Below.heap_setCell _ _ _ _ h)
theorem put_wr {w w' : World} {span keep : Int} {a : Option Addr} {n cap : Nat} {K : Int} {v : Value} {acc : List Lv} {A W : Int} {R : ByteArray} {x y : Int} (e : x = y) (h : CfM w w' span keep a n cap K v (acc ++ [⟨A, W, R, x⟩])) : CfM w w' span keep a n cap K v (acc ++ [⟨A, W, R, y⟩]) := e ▸ h
/-- What is made, with its span; the answer's box. -/
structure CfN (w wr : World) (K SP : Int) (v : Value) (acc : List Lv) : Prop where
  res : wr.heap[w.heap.size + 1]? = some (.cells #[.int .i64 0, .int .i64 0, .slice none 0 0] 24 (0, 0))
  cfg : wr.heap[w.heap.size + 2]? = some (.cells #[.int .i64 SP, .int .i64 K, v] 24 (0, 0))
  own : wr.ownsRow (w.heap.size + 3) 76 4 v acc.length (flat acc)
  bel : Below w.heap.size w wr
theorem CfM.span {w wr : World} {span keep : Int} {a : Option Addr} {n cap : Nat} {K : Int} {v : Value} {acc : List Lv} (h : CfM w wr span keep a n cap K v acc) {SP SP' : Int} (he : SP' = SP) (D : Nat) : CfN w ((wr.setCell ⟨w.heap.size + 2, 0, none⟩ (.int .i64 SP')).drewN D) K SP v acc := by
  subst he
  have hb : CfN w (wr.setCell ⟨w.heap.size + 2, 0, none⟩ (.int .i64 SP')) K SP' v acc := ⟨by rw [Below.heap_setCell _ _ _ _ (by show w.heap.size + 1 ≠ w.heap.size + 2; omega)]; exact h.res, heap_setCell h.cfg, owns_other h.own (fun e => by have := (h.own.lt _ e).1; omega), h.bel.setCell (by show w.heap.size ≤ w.heap.size + 2; omega) _⟩
  exact ⟨hb.res, hb.cfg, hb.own, below_drewN hb.bel D⟩
theorem cfg_after {w wr w7 : World} {span keep : Int} {a : Option Addr} {n cap : Nat} {K : Int} {v : Value} {acc : List Lv} {o : Obj} (h : CfM w wr span keep a n cap K v acc) (hg : (wr.alloc o).grownBy w7 v.ownBlock) : w7.cell? ⟨w.heap.size + 2, 2, none⟩ = some v ∧ w7.frozen? ⟨w.heap.size + 2, 2, none⟩ = false := by
  have e : w7.heap[w.heap.size + 2]? = some (.cells #[.int .i64 0, .int .i64 K, v] 24 (0, 0)) := by
    rw [hg.block (w.heap.size + 2) (by have := h.lt; rw [World.size_alloc]; omega) (fun e => by have := (h.own.lt _ e.symm).1; omega), Below.heap_alloc _ _ _ h.lt]
    exact h.cfg
  exact ⟨cell_blk e rfl, froz_blk e⟩
theorem conf_lvs {span keep : Int} {ls : List Lv} : (conf span keep ls).lvs = confL (pk keep 20) ls := rfl

set_option maxHeartbeats 4000000 in
set_option maxRecDepth 100000 in
theorem config_any (a : Option Addr) (n cap : Nat) (ls : List Lv) (span keep : Int) (w : World) (hls : IsLvs w a n ls) (hwf : LvWf2 ls) (s0 : -9223372036854775808 ≤ span) (s1 : span ≤ 9223372036854775807) (k0 : -9223372036854775808 ≤ keep) (k1 : keep ≤ 9223372036854775807) :
    Calls Try.prog 64 #[.agg #[.int .i64 span, .int .i64 keep, .slice a n cap]] w fun e w' => ∃ b m c, e = .returned (.agg (cfC (conf span keep ls) b 0 m c)) ∧ m = (conf span keep ls).lvs.length ∧ w'.ownsRow w.heap.size 76 4 (.slice (some ⟨b, 0, none⟩) m c) m (flat (conf span keep ls).lvs) ∧ Below w.heap.size w w' := by
  have HLS : Hid (IsLvs w a n ls) := hls
  have HN : Hid (ls.length = n) := hls.1
  have HWF : Hid (LvWf2 ls) := hwf
  obtain ⟨q0, q1⟩ := pk_range keep 20 (by omega)
  have HK := pick_any keep 20
  generalize hK : pk keep 20 = K at *
  obtain ⟨li0, hli, lz0, lz1, lz2⟩ := infP Try.info76'
  clear hls hwf
  go_enter Try.func64, Try.ntmps64
  go_wp2_with fail
  refine (HK _ k0 k1 (by omega) (by omega)).mono ?_
  rintro e w1 ⟨rfl, rfl⟩
  have HM0 : Hid (CfM w (((w.alloc (.cells #[.int .i64 span, .int .i64 keep, .slice a n cap] 24)).alloc (.cells #[.int .i64 0, .int .i64 0, .slice none 0 0] 24)).alloc (.cells #[.int .i64 0, .int .i64 K, .slice none 0 0] 24)) span keep a n cap K (.slice none 0 0) []) := by
    refine ⟨?_, ?_, ?_, World.ownsRow_nil _ _ _ _, (((Below.refl _ _).alloc (Nat.le_refl _) _).alloc (by simp) _).alloc (by simp; omega) _⟩
    · rw [Below.heap_alloc _ _ _ (by simp; omega), Below.heap_alloc _ _ _ (by simp), heap_alloc_new]
    · have e := heap_alloc_new (w.alloc (.cells #[.int .i64 span, .int .i64 keep, .slice a n cap] 24)) (.cells #[.int .i64 0, .int .i64 0, .slice none 0 0] 24)
      rw [World.size_alloc] at e
      rw [Below.heap_alloc _ _ _ (by simp)]; exact e
    · have e := heap_alloc_new ((w.alloc (.cells #[.int .i64 span, .int .i64 keep, .slice a n cap] 24)).alloc (.cells #[.int .i64 0, .int .i64 0, .slice none 0 0] 24)) (.cells #[.int .i64 0, .int .i64 K, .slice none 0 0] 24)
      rw [World.size_alloc, World.size_alloc] at e
      exact e
  go_upto_block 0 with fail
  go_cut [4] from 5 to 62 (fun wv wx => ∃ v, wv = .int .i64 (confW K ls) ∧ CfM w wx span keep a n cap K v (cfL K (ls.take 4) true 1 0))
  case first =>
    go_wp2_with fail
    go_loopw [4, 5, 6] (fun wv ag i wr => ∃ (k : Nat) (W A : Int) (v : Value) (acc : List Lv), wv = .int .i64 W ∧ ag = .int .i64 A ∧ i = .int .i64 k ∧ k ≤ 4 ∧ k ≤ n ∧ acc.length = k ∧ 1 ≤ W ∧ W ≤ 100 ∧ 0 ≤ A ∧ A ≤ 20 * k ∧ CfM w wr span keep a n cap K v acc ∧
      cfL K (ls.take 4) true 1 0 = acc ++ cfL K ((ls.take 4).drop k) (decide (k = 0)) W A ∧ confW K ls = cfW K ((ls.take 4).drop k) (decide (k = 0)) W A) (fun _ _ i _ => 4 - (intOf i).toNat)
    case atStart => exact ⟨0, 1, 0, _, [], rfl, rfl, rfl, by omega, by omega, rfl, by omega, by omega, by omega, by omega, HM0.out, rfl, rfl⟩
    case round =>
      obtain ⟨k, W, A, v, acc, rfl, rfl, rfl, hk4, hkn, hacc, w0, w1, a0, a1, hm, hL, hW⟩ := hrel
      have HM : Hid (CfM w wr span keep a n cap K v acc) := hm
      have HCL : Hid (cfL K (ls.take 4) true 1 0 = acc ++ cfL K ((ls.take 4).drop k) (decide (k = 0)) W A) := hL
      have HCW : Hid (confW K ls = cfW K ((ls.take 4).drop k) (decide (k = 0)) W A) := hW
      have HAC : Hid (acc.length = k) := hacc
      have HOB0 : Hid (∀ k, v.ownBlock = some k → k < wr.heap.size) := fun k e => (hm.own.lt k e).2
      have r0 := cell_blk (o := 0) hm.raw rfl
      have r1 := cell_blk (o := 1) hm.raw rfl
      have r2 := cell_blk (o := 2) hm.raw rfl
      have g1 := cell_blk (o := 1) hm.cfg rfl
      have g2 := cell_blk (o := 2) hm.cfg rfl
      have gf := froz_blk (o := 2) hm.cfg
      have hlt2 := hm.lt
      have hT : (ls.take 4).length = min 4 n := by rw [List.length_take, HN.out]
      clear hm hL hW hacc
      by_cases hlt : k < n ∧ k < 4
      · obtain ⟨hl1, hl2⟩ := hlt
        obtain ⟨b, off, rfl, hat⟩ := HLS.out.2 (by omega)
        have hbs : b < w.heap.size := hat.block (by rw [HN.out]; omega)
        obtain ⟨c0, c1, c2, c3⟩ := (hat.below HM.out.bel hbs) k (by rw [HN.out]; exact hl1)
        obtain ⟨⟨f0, f1⟩, ⟨f2, f3⟩, f4, f5, f6⟩ := HWF.out k
        have hbw : b < wr.heap.size := by have := HM.out.bel.size; omega
        obtain ⟨HST1, HST2⟩ := cf_step (keep := K) (ls := ls.take 4) (k := k) (by rw [hT]; omega) (first := decide (k = 0)) (W := W) (A := A)
        rw [lvG_take ls 4 k hl2] at HST1 HST2
        generalize hl : lvG ls k = l at *
        clear hat
        obtain ⟨z0, z1⟩ := nxA_range (first := decide (k = 0)) (l := l) (A := A)
        obtain ⟨y0, y1, _⟩ := nxW_range (l := l) w0 w1
        have HA : Hid (k ≠ 0 → A + 1 + pk l.age 19 = nxA (decide (k = 0)) l A) := fun h => by simp [nxA, h]
        have HA0 : Hid (k = 0 → A = nxA (decide (k = 0)) l A) := fun h => by simp [nxA, h]
        obtain ⟨u0, u1⟩ := pk_range l.age 19 (by omega)
        have HPA := pick_any l.age 19 (w := wr.alloc (.cells #[.int .i64 l.age, .int .i64 l.window, .string l.rule, .int .i64 l.limit] 76)) f0 f1 (by omega) (by omega)
        have hXb : w.heap.size + 2 ≠ wr.heap.size := by omega
        generalize hpk : pk l.age 19 = pa at *
        generalize hnx : nxA (decide (k = 0)) l A = NA at *
        go_upto_if 29 with fail
        go_cut [5] from 12 to 62 (fun v wx => v = .int .i64 NA ∧ wx = wr.alloc (.cells #[.int .i64 l.age, .int .i64 l.window, .string l.rule, .int .i64 l.limit] 76))
        case first =>
          by_cases hk0 : k = 0
          · have hkb : decide ((0 : Int) < (k : Int)) = false := by simp [hk0]
            go_wp2_with fail
            go_meet
            case rel => exact ⟨by rw [HA0.out hk0], rfl⟩
          · have hkb : decide ((0 : Int) < (k : Int)) = true := by simp; omega
            go_wp2_with fail
            refine HPA.mono ?_
            rintro e w' ⟨rfl, rfl⟩
            go_wp2_with fail
            go_meet
            case rel => exact ⟨by rw [HA.out hk0], rfl⟩
        case rest =>
          obtain ⟨rfl, hwc⟩ := hcut
          have HMC : Hid (CfM w wc span keep (some ⟨b, off, none⟩) n cap K v acc) := by rw [hwc]; exact HM.out.kept ((Below.refl _ _).alloc (Nat.le_refl _) _)
          have e0 : wc.cell? ⟨wr.heap.size, 0, none⟩ = some (.int .i64 l.age) := by rw [hwc]; simp [go_sem]
          have e1 : wc.cell? ⟨wr.heap.size, 1, none⟩ = some (.int .i64 l.window) := by rw [hwc]; simp [go_sem]
          have e2 : wc.cell? ⟨wr.heap.size, 2, none⟩ = some (.string l.rule) := by rw [hwc]; simp [go_sem]
          have e3 : wc.cell? ⟨wr.heap.size, 3, none⟩ = some (.int .i64 l.limit) := by rw [hwc]; simp [go_sem]
          have g1 := cell_blk (o := 1) HMC.out.cfg rfl
          have g2 := cell_blk (o := 2) HMC.out.cfg rfl
          have gf := froz_blk (o := 2) HMC.out.cfg
          have hlc := HMC.out.lt
          have hbc : wr.heap.size < wc.heap.size := World.block_lt_of_cell? wc _ e0
          clear hwc r0 r1 r2 c0 c1 c2 c3 HPA HA HA0 HM
          by_cases hbr : K < NA
          · have HE1 : Hid (cfL K (ls.take 4) true 1 0 = acc) := by show _ = _; rw [HCL.out, HST1, if_pos hbr, List.append_nil]
            have HE2 : Hid (confW K ls = W) := by show _ = _; rw [HCW.out, HST2, if_pos hbr]
            go_wp2_with fail
            go_meet
            case rel => exact ⟨v, by rw [HE2.out], by rw [HE1.out]; exact HMC.out⟩
          · rw [if_neg hbr] at HST1 HST2
            have HPW := fun d => pick_any l.window (100 / W) (wc.drewN d) f2 f3
            obtain ⟨o0, o1⟩ : 1 ≤ 100 / W ∧ 100 / W ≤ 100 := ⟨by rw [Int.le_ediv_iff_mul_le (by omega)]; omega, Int.ediv_le_self _ (by omega)⟩
            have HNW : Hid (W * (1 + pk l.window (100 / W)) = nxW l W) := rfl
            obtain ⟨p0, p1⟩ := pk_range l.window (100 / W) (by omega)
            have HM0' : Hid (1 ≤ W * (1 + pk l.window (100 / W)) ∧ W * (1 + pk l.window (100 / W)) ≤ 100) := ⟨y0, y1⟩
            generalize hpw : pk l.window (100 / W) = pw at *
            obtain ⟨m0, m1⟩ := HM0'.out
            have HPW' := fun d => HPW d (by omega) (by omega)
            have HD : Hid (∀ D, CfM w (wc.drewN D) span keep (some ⟨b, off, none⟩) n cap K v acc) := fun D => HMC.out.kept (below_drewN (Below.refl _ _) D)
            have HD2 : Hid (∀ D, BxL (wc.drewN D) wr.heap.size l) := fun D => ⟨e2, e3, hbc⟩
            clear HPW
            go_upto_region 11 with fail
            go_cut [4] from 12 to 62 (fun wv wx => wv = .int .i64 (nxW l W) ∧ CfM w wx span keep (some ⟨b, off, none⟩) n cap K v acc ∧ BxL wx wr.heap.size l)
            case first =>
              go_region_with (go_at_call 16; refine (HPW' _).mono ?_; rintro e w' ⟨rfl, rfl⟩)
              all_goals go_wp2_with fail
              all_goals go_meet
              all_goals (case rel => exact ⟨by rw [wrapM p0 (by omega) m0 m1, HNW.out], HD.out _, HD2.out _⟩)
            case rest =>
              obtain ⟨rfl, hm5, e2', e3', hb5⟩ := hcut
              have HM5 : Hid (CfM w wc span keep (some ⟨b, off, none⟩) n cap K v acc) := hm5
              have HSL : Hid (cfL K (ls.take 4) true 1 0 = (acc ++ [⟨NA, nxW l W, ruleOf l.rule, 1 + pk l.limit 20⟩]) ++ cfL K ((ls.take 4).drop (k + 1)) (decide (k + 1 = 0)) (nxW l W) NA) := by
                show _ = _
                rw [HCL.out, HST1]
                simp [nxL, hnx]
              have HSW : Hid (confW K ls = cfW K ((ls.take 4).drop (k + 1)) (decide (k + 1 = 0)) (nxW l W) NA) := by
                show _ = _
                rw [HCW.out, HST2]
                simp
              have HPL := fun w => pick_any l.limit 20 w f5 f6 (by omega) (by omega)
              have HRU := fun w => rule_any l.rule f4 w
              obtain ⟨l0, l1⟩ := pk_range l.limit 20 (by omega)
              have g1 := cell_blk (o := 1) hm5.cfg rfl
              have g2 := cell_blk (o := 2) hm5.cfg rfl
              have gf := froz_blk (o := 2) hm5.cfg
              obtain ⟨va, vc, rfl⟩ := ownForm hm5.own
              have HOB : Hid (∀ k, (Value.slice va acc.length vc).ownBlock = some k → k < wr.heap.size) := HOB0.out
              have hlc := hm5.lt
              have hPB : wr.heap.size ≠ w.heap.size + 1 + 1 := by omega
              have HLen : Hid ((acc ++ [(⟨NA, nxW l W, ruleOf l.rule, 1 + pk l.limit 20⟩ : Lv)]).length = k + 1) := by show _ = _; rw [List.length_append, HAC.out]; rfl
              generalize hnw : nxW l W = NW at *
              generalize hpl : pk l.limit 20 = PL at *
              generalize hru : ruleOf l.rule = RU at *
              have HWR : Hid (IntKind.i64.wrap (1 + PL) = 1 + PL) := by show _ = _; simp [IntKind.wrap, IntKind.bits, IntKind.signed]; omega
              have hacl : acc.length ≤ 4 := by rw [HAC.out]; omega
              have HPLH : Hid (∀ w, Calls Try.prog 16 #[.int .i64 l.limit, .int .i64 20] w fun e w' => e = .returned (.int .i64 PL) ∧ w' = w) := HPL
              have HRUH : Hid (∀ w, Calls Try.prog 87 #[.string l.rule] w fun e w' => e = .returned (.string RU) ∧ Below w.heap.size w w') := HRU
              have HLI : Hid (Try.prog.info? 76 = some li0 ∧ li0.zero = some (.agg #[.int .i64 0, .int .i64 0, .string ByteArray.empty, .int .i64 0]) ∧ li0.size = 4 ∧ li0.bytes = 40) := ⟨hli, lz0, lz1, lz2⟩
              clear hm5 HST1 HST2 HCL HCW HMC HPW' HD HD2 e0 e1 e2 e3 HPL HRU hli lz0 lz1 lz2 HK hK HLS HN HWF HM0 HNW HM0' m0 m1 p0 p1 o0 o1 f0 f1 f2 f3 f4 f5 f6 u0 u1 q0 q1 s0 s1 k0 k1 hpw hpk hl hbs hbw w0 w1 hT hnx hbr g1 hlt2 hbc
              go_upto_region 12 with fail
              go_region_law (first
                  | (refine stepCall rfl 87 #[.tmp 53] #[9] rfl #[.string l.rule] (by simp [Act.eval]) enter87 ?_; refine (HRUH.out _).mono ?_; rintro e w6 ⟨rfl, hb6⟩; refine ⟨_, rfl, ?_⟩; have hm6 : Hid (CfM w w6 span keep (some ⟨b, off, none⟩) n cap K (.slice va acc.length vc) acc) := HM5.out.kept ⟨hb6.os, hb6.tape, hb6.output, hb6.size, hb6.block⟩; have hz6 := hm6.out.lt; have hz7 : wr.heap.size < w6.heap.size := Nat.lt_of_lt_of_le hb5 hb6.size; have x2 : w6.cell? ⟨wr.heap.size, 2, none⟩ = some (.string l.rule) := (hb6.cell (p := ⟨wr.heap.size, 2, none⟩) hb5).trans e2'; have x3 : w6.cell? ⟨wr.heap.size, 3, none⟩ = some (.int .i64 l.limit) := (hb6.cell (p := ⟨wr.heap.size, 3, none⟩) hb5).trans e3'; have x4 : w6.cell? ⟨w.heap.size + 2, 2, none⟩ = some (.slice va acc.length vc) := (hb6.cell (p := ⟨w.heap.size + 2, 2, none⟩) hlc).trans g2; clear hb6)
                  | (refine stepCall rfl 16 #[.tmp 56, .const (.int .i64 20)] #[3, 3] rfl #[.int .i64 l.limit, .int .i64 20] (by simp [Act.eval]) enter16 ?_; refine (HPLH.out _).mono ?_; rintro e w' ⟨rfl, hw'⟩; refine ⟨_, rfl, ?_⟩; have hw2 := hw'.symm; clear hw'; subst hw2)
                  | (refine stepAppend rfl (.tmp 49) (.tmp 60) 22 rfl (w.heap.size + 3) 76 li0 (.agg #[.int .i64 0, .int .i64 0, .string ByteArray.empty, .int .i64 0]) 4 40 Try.underlying22 HLI.out.1 HLI.out.2.1 HLI.out.2.2.1 HLI.out.2.2.2 rfl (by decide) (.slice va acc.length vc) acc.length (flat acc) (by simp [Act.eval]) (hm6.out.own.alloc _) ⟨w6.heap.size, 0, none⟩ 1 1 (Lv.cells ⟨NA, NW, RU, IntKind.i64.wrap (1 + PL)⟩) (by simp [Act.eval]) rfl (newAt _ (Lv.cells ⟨NA, NW, RU, IntKind.i64.wrap (1 + PL)⟩) 76 _ rfl) (Lv.one _) (by unfold maxLen; omega) (by omega) (by simp; omega) ?_; intro v' w7 hown' hgrow hblk; have hv7 : ∀ k, k < w.heap.size + 3 → (Value.slice va acc.length vc).ownBlock ≠ some k := fun k hk e => Nat.lt_irrefl _ (Nat.lt_of_lt_of_le hk (hm6.out.own.lt k e).1); have t4 : w7.cell? ⟨w.heap.size + 2, 2, none⟩ = some (.slice va acc.length vc) := hgrow.cell (cell_alloc1 x4) (fun e => hv7 _ (Nat.lt_succ_self _) e.symm); have t5 : w7.frozen? ⟨w.heap.size + 2, 2, none⟩ = false := (World.frozen?_of_block (hgrow.block (w.heap.size + 2) (by simp; omega) (fun e => hv7 _ (Nat.lt_succ_self _) e.symm))).trans (frozen_alloc1 hm6.out.lt (froz_blk hm6.out.cfg)); clear hv7; obtain ⟨a', p', rfl⟩ := ownForm hown'))
              all_goals (have HX : Hid (CfM w (w7.setCell ⟨w.heap.size + 2, 2, none⟩ (.slice a' (acc.length + 1) p')) span keep (some ⟨b, off, none⟩) n cap K (.slice a' (acc.length + 1) p') (acc ++ [⟨NA, NW, RU, 1 + PL⟩])) := put_wr HWR.out (hm6.out.put ((Below.refl _ _).alloc (Nat.le_refl _) _) hgrow hown'))
              all_goals clear hgrow hown' hblk t4 t5 hm6 x2 x3 x4
              all_goals go_wp2_with fail
              all_goals exact ⟨⟨k + 1, NW, NA, .slice a' (acc.length + 1) p', acc ++ [⟨NA, NW, RU, 1 + PL⟩], rfl, rfl, by go_num, by omega, by omega, HLen.out, y0, y1, by omega, by omega, HX.out, HSL.out, HSW.out⟩, by simp [intOf]; omega⟩
      · have HE := cf_end (keep := K) (ls := ls.take 4) (k := k) (by rw [hT]; omega) (first := decide (k = 0)) (W := W) (A := A)
        have HE1 : Hid (cfL K (ls.take 4) true 1 0 = acc) := by show _ = _; rw [HCL.out, HE.1, List.append_nil]
        have HE2 : Hid (confW K ls = W) := by show _ = _; rw [HCW.out, HE.2]
        clear HE
        by_cases hl1 : k < n
        · have hl2 : ¬ (k : Int) < 4 := by omega
          go_wp2_with fail
          go_meet
          case rel => exact ⟨v, by rw [HE2.out], by rw [HE1.out]; exact HM.out⟩
        · have hl2 : ¬ (k : Int) < n := by omega
          go_wp2_with fail
          go_meet
          case rel => exact ⟨v, by rw [HE2.out], by rw [HE1.out]; exact HM.out⟩
  case rest =>
    obtain ⟨v, rfl, hm⟩ := hcut
    have HM : Hid (CfM w wc span keep a n cap K v (cfL K (ls.take 4) true 1 0)) := hm
    obtain ⟨w0, w1, _⟩ := cfW_range K (ls.take 4) true 1 0 (by omega) (by omega)
    have HCW : Hid (confW K ls = cfW K (ls.take 4) true 1 0) := rfl
    have HSP : Hid ((conf span keep ls).span = confW K ls * (1 + pk span (100 / confW K ls))) := by show _ = _; rw [← hK]; rfl
    have HKK : Hid ((conf span keep ls).keep = K) := hK
    have HLL : Hid ((conf span keep ls).lvs = confL K ls) := by show confL (pk keep 20) ls = _; rw [hK]
    have HCR := Cf.right_parts (conf_right span keep ls)
    rw [← HCW.out] at w0 w1
    generalize hCL : cfL K (ls.take 4) true 1 0 = acc at *
    have HCF : Hid (confL K ls = if acc = [] then [⟨0, 1, strOfNums [107, 107, 107], 20⟩] else acc) := by show _ = _; unfold confL; rw [hCL]
    have g2 := cell_blk (o := 2) hm.cfg rfl
    have gf := froz_blk (o := 2) hm.cfg
    obtain ⟨va, vc, rfl⟩ := ownForm hm.own
    have hlc := hm.lt
    have hal : acc.length ≤ 4 := by
      have := cfL_len K (ls.take 4) true 1 0
      rw [hCL, List.length_take] at this
      omega
    generalize hCW2 : confW K ls = W at *
    have HPS := fun w => pick_any span (100 / W) w s0 s1
    obtain ⟨o0, o1⟩ : 1 ≤ 100 / W ∧ 100 / W ≤ 100 := ⟨by rw [Int.le_ediv_iff_mul_le (by omega)]; omega, Int.ediv_le_self _ (by omega)⟩
    have HPSH : Hid (∀ w, Calls Try.prog 16 #[.int .i64 span, .int .i64 (100 / W)] w fun e w' => e = .returned (.int .i64 (pk span (100 / W))) ∧ w' = w) := fun w => HPS w (by omega) (by omega)
    obtain ⟨p0, p1⟩ := pk_range span (100 / W) (by omega)
    generalize hps : pk span (100 / W) = ps at *
    have HSP1 : 1 ≤ W * (1 + ps) := by rw [← HSP.out]; exact HCR.1
    have HSP2 : W * (1 + ps) ≤ 100 := by rw [← HSP.out]; exact HCR.2.1
    have HLI : Hid (Try.prog.info? 76 = some li0 ∧ li0.zero = some (.agg #[.int .i64 0, .int .i64 0, .string ByteArray.empty, .int .i64 0]) ∧ li0.size = 4 ∧ li0.bytes = 40) := ⟨hli, lz0, lz1, lz2⟩
    clear hm HPS HK HM0 hli lz0 lz1 lz2 HLS HWF
    go_upto_if 66 with fail
    go_cut [66] from 12 to 72 (fun _ wx => ∃ v', CfM w wx span keep a n cap K v' (confL K ls))
    case first =>
      by_cases h0 : acc = []
      · subst h0
        have HC2 : Hid (confL K ls = [] ++ [⟨0, 1, strOfNums [107, 107, 107], 20⟩]) := by show _ = _; rw [HCF.out, if_pos rfl]; rfl
        go_wp2_with (refine listAppend rfl (.tmp 68) (.tmp 70) 22 rfl (w.heap.size + 3) 76 li0 (.agg #[.int .i64 0, .int .i64 0, .string ByteArray.empty, .int .i64 0]) 4 40 Try.underlying22 HLI.out.1 HLI.out.2.1 HLI.out.2.2.1 HLI.out.2.2.2 rfl (by decide) (.slice va 0 vc) 0 [] (by simp [Act.eval]) (HM.out.own.alloc _) ⟨wc.heap.size, 0, none⟩ 1 1 (Lv.cells ⟨0, 1, ⟨#[107, 107, 107]⟩, 20⟩) (by simp [Act.eval]) rfl (newAt _ (Lv.cells ⟨0, 1, ⟨#[107, 107, 107]⟩, 20⟩) 76 _ rfl) (Lv.one _) (by unfold maxLen; omega) (by omega) (by simp; omega) ?_; intro v' w7 hown' hgrow hblk; have hm7 := HM.out.put (l := ⟨0, 1, ⟨#[107, 107, 107]⟩, 20⟩) ((Below.refl _ _).alloc (Nat.le_refl _) _) hgrow hown'; obtain ⟨t4, t5⟩ := cfg_after HM.out hgrow; obtain ⟨a', p', rfl⟩ := ownForm hown'; have HM7 : Hid (CfM w (w7.setCell ⟨w.heap.size + 2, 2, none⟩ (.slice a' (0 + 1) p')) span keep a n cap K (.slice a' (0 + 1) p') ([] ++ [⟨0, 1, ⟨#[107, 107, 107]⟩, 20⟩])) := hm7; clear hm7 hown' hgrow hblk)
        go_meet
        case rel => exact ⟨_, by rw [HC2.out]; exact HM7.out⟩
      · have h1 : ¬ (acc.length : Int) = 0 := by have := List.length_pos_iff.2 h0; omega
        have hbq : ((acc.length : Int) == 0) = false := by simpa using h1
        have HC2 : Hid (confL K ls = acc) := by show _ = _; rw [HCF.out, if_neg h0]
        go_wp2_with fail
        go_meet
        case rel => exact ⟨_, by rw [HC2.out]; exact HM.out⟩
    case rest =>
      obtain ⟨v', hm'⟩ := hcut
      have HM' : Hid (CfM w wc span keep a n cap K v' (confL K ls)) := hm'
      have r0 := cell_blk (o := 0) hm'.raw rfl
      have g0 := cell_blk (o := 0) hm'.cfg rfl
      have gz := froz_blk (o := 0) hm'.cfg
      have hlc := hm'.lt
      clear hm' g2 gf
      go_upto_region 15 with fail
      go_cut [81] from 12 to 81 (fun _ wx => CfN w wx K (W * (1 + ps)) v' (confL K ls))
      case first =>
        go_region_with (go_at_call 16; refine (HPSH.out _).mono ?_; rintro e w' ⟨rfl, rfl⟩)
        all_goals go_wp2_with fail
        all_goals go_meet
        all_goals (case rel => exact HM'.out.span (wrapM p0 (by omega) HSP1 HSP2) _)
      case rest =>
        have hn1 : 1 ≤ (confL K ls).length := by rw [← HLL.out]; exact HCR.2.2.2.2.1
        have HRES := hcut
        obtain ⟨b, c', rfl, hb1, hb2, hb3⟩ := ownBlockForm hcut.own (by omega)
        have HN : Hid (CfN w wc K (W * (1 + ps)) (.slice (some ⟨b, 0, none⟩) (confL K ls).length c') (confL K ls)) := hcut
        have y0 := cell_blk (o := 0) hcut.cfg rfl
        have y1 := cell_blk (o := 1) hcut.cfg rfl
        have y2 := cell_blk (o := 2) hcut.cfg rfl
        have t0 : wc.cell? ⟨w.heap.size + 1, 0, none⟩ = some (.int .i64 0) := cell_blk (o := 0) hcut.res rfl
        have t1 : wc.cell? ⟨w.heap.size + 1, 1, none⟩ = some (.int .i64 0) := cell_blk (o := 1) hcut.res rfl
        have t2 : wc.cell? ⟨w.heap.size + 1, 2, none⟩ = some (.slice none 0 0) := cell_blk (o := 2) hcut.res rfl
        have tz := fun o => froz_blk (o := o) hcut.res
        clear hcut HRES r0 g0 gz HM'
        go_wp2_with fail
        refine bodyPost_ret (v := .agg #[.int .i64 (W * (1 + ps)), .int .i64 K, .slice (some ⟨b, 0, none⟩) (confL K ls).length c']) (by simp [results, Try.results64, go_sem, t0, t1, t2]) rfl ?_
        refine ⟨b, (confL K ls).length, c', ?_, by rw [HLL.out], ?_, ?_⟩
        · show _ = Ending.returned (.agg #[.int .i64 (conf span keep ls).span, .int .i64 (conf span keep ls).keep, .slice (some ⟨b, 0, none⟩) (confL K ls).length c'])
          rw [HSP.out, HKK.out]
        · rw [HLL.out]
          have hne : (Value.slice (some ⟨b, 0, none⟩) (confL K ls).length c').ownBlock ≠ some (w.heap.size + 1) := fun e => by have h9 : b = w.heap.size + 1 := Option.some.inj e; omega
          exact owns_base (owns_other (owns_other (owns_other HN.out.own hne) hne) hne) (fun j e => by have h9 : b = j := Option.some.inj e; omega)
        · exact ((HN.out.bel.setCell (by show w.heap.size ≤ w.heap.size + 1; omega) _).setCell (by show w.heap.size ≤ w.heap.size + 1; omega) _).setCell (by show w.heap.size ≤ w.heap.size + 1; omega) _

end Go.Proofs.Ythciddpljcbhiaa

/- Walks: a desk made, a step, a script (garnerkeep). -/
namespace Go.Proofs.Ythciddpljcbhiaa
open Go Go.RowKit Go.Lib

theorem right_wf {c : Cf} (h : c.right = true) : LvWf c.lvs := by
  obtain ⟨h1, h2, _, _, _, _, h7⟩ := Cf.right_parts h
  intro i
  by_cases hi : i < c.lvs.length
  · obtain ⟨a, b, r, _⟩ := h7 i hi
    have hd : (lvG c.lvs i).window ≤ c.span := Int.le_of_dvd (by omega) (Int.dvd_of_emod_eq_zero b)
    have hs : (lvG c.lvs i).rule.size = 3 := by
      simp only [ruleB, Bool.and_eq_true, decide_eq_true_eq] at r
      exact r.1.1.1
    exact ⟨by omega, by omega, by rw [hs]; unfold maxLen; omega⟩
  · have e : lvG c.lvs i = Lv.zero := by simp [lvG, List.getD, List.getElem?_eq_none (by omega : c.lvs.length ≤ i)]
    rw [e]
    simp [Lv.zero, maxLen]
theorem DkAt.mono {w : World} {B B' D : Nat} {s : St} {lg : ByteArray} (h : DkAt w B D s lg) (hB : B' ≤ B) : DkAt w B' D s lg := by
  obtain ⟨X, F, L, lc, sv, h⟩ := h
  exact ⟨X, F, L, lc, sv, h.blk, h.st, h.lv, h.sms, fun k e => ⟨Nat.le_trans hB (h.fb k e).1, (h.fb k e).2⟩, Nat.le_trans hB h.bD, h.nD, h.nL, h.DL, fun k e => ⟨Nat.le_trans hB (h.bS k e).1, (h.bS k e).2⟩⟩
theorem IsLvs.below {w w' : World} {a : Option Addr} {n : Nat} {ls : List Lv} (h : IsLvs w a n ls) (hb : Below w.heap.size w w') : IsLvs w' a n ls :=
  ⟨h.1, fun hn => let ⟨b, off, e, hat⟩ := h.2 hn; ⟨b, off, e, hat.below hb (hat.block (by rw [h.1]; exact hn))⟩⟩
/-- A configuration's box, behind a call. -/
theorem box3 {w w1 : World} {x0 x1 x2 : Value} (hb : Below (w.alloc (.cells #[x0, x1, x2] 24)).heap.size (w.alloc (.cells #[x0, x1, x2] 24)) w1) :
    w.heap.size < w1.heap.size ∧ w1.heap[w.heap.size]? = some (.cells #[x0, x1, x2] 24 (0, 0)) := by
  have hz := hb.size
  rw [World.size_alloc] at hb hz
  exact ⟨by omega, by rw [hb.block _ (by omega), heap_alloc_new]⟩

set_option maxHeartbeats 2000000 in
set_option maxRecDepth 100000 in
theorem seated_any (a : Option Addr) (n cap : Nat) (ls : List Lv) (span keep : Int) (w : World) (hls : IsLvs w a n ls) (hwf : LvWf2 ls) (s0 : -9223372036854775808 ≤ span) (s1 : span ≤ 9223372036854775807) (k0 : -9223372036854775808 ≤ keep) (k1 : keep ≤ 9223372036854775807) :
    Calls Try.prog 45 #[.agg #[.int .i64 span, .int .i64 keep, .slice a n cap]] w fun e w' => ∃ D, e = .returned (.pointer (some ⟨D, 0, none⟩)) ∧ DkAt w' w.heap.size D (St.new (conf span keep ls)) ⟨#[]⟩ ∧ Below w.heap.size w w' := by
  have HR : Hid ((conf span keep ls).right = true) := conf_right span keep ls
  have HLS : Hid (IsLvs w a n ls) := hls
  have HWF : Hid (LvWf2 ls) := hwf
  have HB0 : Hid (Below w.heap.size w (w.alloc (.cells #[.int .i64 span, .int .i64 keep, .slice a n cap] 24))) := (Below.refl _ _).alloc (Nat.le_refl _) _
  have HL0 : Hid (IsLvs (w.alloc (.cells #[.int .i64 span, .int .i64 keep, .slice a n cap] 24)) a n ls) := IsLvs.below hls HB0.out
  have HCF := config_any a n cap ls span keep _ HL0.out HWF.out s0 s1 k0 k1
  clear hls hwf
  generalize hC : conf span keep ls = C at *
  go_enter Try.func45, Try.ntmps45
  go_wp2_with fail
  refine HCF.mono ?_
  rintro e w1 ⟨b, m, c, rfl, hm, hown, hb1⟩
  subst hm
  have HOW : Hid (w1.ownsRow (w.heap.size + 1) 76 4 (.slice (some ⟨b, 0, none⟩) C.lvs.length c) C.lvs.length (flat C.lvs)) := by show World.ownsRow _ _ _ _ _ _ _; simpa using hown
  have HB1 : Hid (Below w.heap.size w w1) := HB0.out.trans (hb1.mono (by simp))
  have hz1 : w.heap.size < w1.heap.size := by have := hb1.size; simp at this; omega
  clear hown hb1 HCF
  have HB2 : Hid (Below w1.heap.size w1 (w1.alloc (.cells (cfC C b 0 C.lvs.length c) 24))) := (Below.refl _ _).alloc (Nat.le_refl _) _
  have hbl := (HOW.out.lt b rfl)
  have HLV : Hid (LvAt (w1.alloc (.cells (cfC C b 0 C.lvs.length c) 24)) b 0 C.lvs) := lvAt_of ((owns_at HOW.out).below HB2.out hbl.2)
  go_wp2_with fail
  refine (open_empty C b 0 C.lvs.length c _ HR.out rfl HLV.out (right_wf HR.out)).mono ?_
  rintro e w2 ⟨X, rfl, hst, hb2⟩
  obtain ⟨z2, hP⟩ := box3 hb2
  have q0 := cell_blk (o := 0) hP rfl
  have q1 := cell_blk (o := 1) hP rfl
  have q2 := cell_blk (o := 2) hP rfl
  have HST : Hid (StoreAt w2 X (fun k => w1.heap.size + 1 ≤ k ∧ k < w2.heap.size) (St.new C) ⟨#[]⟩) := by show StoreAt _ _ _ _ _; simpa using hst
  have HBB : Hid (Below w.heap.size w w2) := (HB1.out.alloc (by omega) _).trans (hb2.mono (by simp; omega))
  have HL2 : Hid (LvAt w2 b 0 C.lvs) := HLV.out.below hb2 (by simp; omega)
  clear hst hb2 hP
  go_wp2_with fail
  go_ret
  have hd := DkS.new (w := w) (w2 := w2) (L := b) (lc := c) HR.out HST.out (fun k e => ⟨by have := e.1; omega, e.2⟩) HL2.out (fun e => by have := e.1; omega) HBB.out.size
  exact ⟨w2.heap.size, rfl, hd.at, HBB.out.alloc (by omega) _⟩

/-! A script in memory. -/
def Stp.zero : Stp := ⟨0, 0, []⟩
def stpG (l : List Stp) (i : Nat) : Stp := l.getD i Stp.zero
theorem stpG_get (l : List Stp) (i : Nat) (h : i < l.length) : stpG l i = l[i] := by simp [stpG, List.getD, h]
/-- A step at a place: its batch is samples that came in. -/
def StpAt (w : World) (b o : Nat) (x : Stp) : Prop := ∃ ba bn bc, w.cell? ⟨b, o, none⟩ = some (.int .i64 x.kind) ∧ w.cell? ⟨b, o + 1, none⟩ = some (.int .i64 x.a) ∧ w.cell? ⟨b, o + 2, none⟩ = some (.slice ba bn bc) ∧
  IsSms w ba bn x.batch ∧ bn ≤ 9000000000000
def StpWf (x : Stp) : Prop := (-9223372036854775808 ≤ x.kind ∧ x.kind ≤ 9223372036854775807) ∧ (-9223372036854775808 ≤ x.a ∧ x.a ≤ 9223372036854775807) ∧ SmWf x.batch
def IsScr (w : World) (a : Option Addr) (n : Nat) (l : List Stp) : Prop := l.length = n ∧ (∀ x ∈ l, StpWf x) ∧ (0 < n → ∃ b off, a = some ⟨b, off, none⟩ ∧ b < w.heap.size ∧ ∀ i, i < n → StpAt w b (off + i * 3) (stpG l i))
theorem IsScr.below {w w' : World} {a : Option Addr} {n : Nat} {l : List Stp} (h : IsScr w a n l) (hb : Below w.heap.size w w') : IsScr w' a n l := by
  refine ⟨h.1, h.2.1, fun hn => ?_⟩
  obtain ⟨b, off, e, hlt, hall⟩ := h.2.2 hn
  refine ⟨b, off, e, Nat.lt_of_lt_of_le hlt hb.size, fun i hi => ?_⟩
  obtain ⟨ba, bn, bc, c0, c1, c2, hs, hbn⟩ := hall i hi
  exact ⟨ba, bn, bc, (hb.cell (p := ⟨b, off + i * 3, none⟩) hlt).trans c0, (hb.cell (p := ⟨b, off + i * 3 + 1, none⟩) hlt).trans c1, (hb.cell (p := ⟨b, off + i * 3 + 2, none⟩) hlt).trans c2, hs.below hb, hbn⟩
def St.step' (s : St) (o : Stp) : St := if o.kind = 1 then s.tick' o.a else if o.kind = 2 then s.try' (shp s o.batch) else if o.kind = 3 then s.try' o.batch else s
theorem step_eq (s : St) (o : Stp) : s.step' o = s.step o := rfl
def stepL (s : St) (o : Stp) (lg : ByteArray) : ByteArray := if o.kind = 1 then tickL s o.a lg else if o.kind = 2 then tryL s (shp s o.batch) lg else if o.kind = 3 then tryL s o.batch lg else lg
theorem wf_mem {ls : List Sm} (h : SmWf ls) : ∀ x ∈ ls, x.wf := fun _ hx => mem_wf h hx
theorem wf_of {ls : List Sm} (h : ∀ x ∈ ls, x.wf) : SmWf ls := all_wf h

set_option maxHeartbeats 2000000 in
set_option maxRecDepth 100000 in
theorem step_any (B D : Nat) (s : St) (lg : ByteArray) (o : Stp) (ba : Option Addr) (bn bc : Nat) (w : World) (h : DkAt w B D s lg) (hwf : StpWf o) (hs : IsSms w ba bn o.batch) (hn : bn ≤ 9000000000000) (hb : 0 < bn → ∀ b off, ba = some ⟨b, off, none⟩ → b < B) :
    Calls Try.prog 46 #[.pointer (some ⟨D, 0, none⟩), .agg #[.int .i64 o.kind, .int .i64 o.a, .slice ba bn bc]] w fun e w' => e = .returned (.bool true) ∧ DkAt w' B D (s.step o) (stepL s o lg) ∧ Below B w w' := by
  obtain ⟨⟨w0, w1⟩, ⟨w2, w3⟩, w4⟩ := hwf
  have hbx : Below w.heap.size w (w.alloc (.cells #[.int .i64 o.kind, .int .i64 o.a, .slice ba bn bc] 100)) := (Below.refl _ _).alloc (Nat.le_refl _) _
  have HD : Hid (DkAt (w.alloc (.cells #[.int .i64 o.kind, .int .i64 o.a, .slice ba bn bc] 100)) B D s lg) := h.below hbx
  have HS : Hid (IsSms (w.alloc (.cells #[.int .i64 o.kind, .int .i64 o.a, .slice ba bn bc] 100)) ba bn o.batch) := hs.below hbx
  have hBw : B ≤ w.heap.size := by have := h.lt; omega
  have HBX : Hid (Below B w (w.alloc (.cells #[.int .i64 o.kind, .int .i64 o.a, .slice ba bn bc] 100))) := hbx.mono hBw
  have HB : Hid (0 < bn → ∀ b off, ba = some ⟨b, off, none⟩ → b < B) := hb
  have HW : Hid (SmWf o.batch) := w4
  have HI : Hid (Inv s) := h.inv
  clear h hs hb hbx w4
  rw [← step_eq]
  by_cases k1 : o.kind = 1
  · have HE : Hid (s.step' o = s.tick' o.a ∧ stepL s o lg = tickL s o.a lg) := ⟨if_pos k1, if_pos k1⟩
    rw [HE.out.1, HE.out.2]
    have hq1 : (o.kind == 1) = true := by simpa using k1
    clear k1
    go_enter Try.func46, Try.ntmps46
    go_wp2_with fail
    refine (ticks_any B D s lg o.a _ HD.out w2 w3).mono ?_
    rintro e w' ⟨rfl, hd, hb⟩
    have HX : Hid (DkAt w' B D (s.tick' o.a) (tickL s o.a lg) ∧ Below B w w') := ⟨hd, HBX.out.trans hb⟩
    clear hd hb
    go_wp2_with fail
    go_ret
    exact ⟨rfl, HX.out.1, HX.out.2⟩
  · by_cases k2 : o.kind = 2
    · have HE : Hid (s.step' o = s.try' (shp s o.batch) ∧ stepL s o lg = tryL s (shp s o.batch) lg) := ⟨by unfold St.step'; rw [if_neg k1, if_pos k2], by unfold stepL; rw [if_neg k1, if_pos k2]⟩
      rw [HE.out.1, HE.out.2]
      obtain ⟨X, F, L, lc, sv, hd⟩ := HD.out
      have HDS : Hid (DkS (w.alloc (.cells #[.int .i64 o.kind, .int .i64 o.a, .slice ba bn bc] 100)) B D X F s L lc sv lg) := hd
      have hq1 : (o.kind == 1) = false := by simpa using k1
      have hq2 : (o.kind == 2) = true := by simpa using k2
      clear hd k2
      go_enter Try.func46, Try.ntmps46
      go_wp2_with fail
      refine (shaped_any B D X F s L lc sv lg ba bn bc o.batch _ HDS.out HS.out hn HW.out).mono ?_
      rintro e w' ⟨v, rfl, hown, hb'⟩
      have HD2 : Hid (DkS w' B D X F s L lc sv lg) := HDS.out.below hb'
      have HBW : Hid (Below B w w') := HBX.out.trans (hb'.mono (by simp; omega))
      obtain ⟨va, vc, rfl⟩ := ownForm hown
      have HSS : Hid (IsSms w' va (shp s o.batch).length (shp s o.batch)) := ⟨rfl, fun hp => by
        obtain ⟨g, c', he, _⟩ := ownBlockForm hown hp
        injection he with h1 h2 h3
        subst h1
        exact ⟨g, 0, rfl, smAt_of (owns_at hown)⟩⟩
      have HOU : Hid (0 < (shp s o.batch).length → ∀ b off, va = some ⟨b, off, none⟩ → ¬ F b) := fun _ b off e hF => by
        subst e
        have h1 := (hown.lt b rfl).1
        have h2 := (HDS.out.fb b hF).2
        omega
      have hl8 : (shp s o.batch).length ≤ 8 := by simp [shp]; omega
      have HSW := shp_wf HI.out (wf_mem HW.out)
      clear hown hb'
      generalize hsh : shp s o.batch = S at *
      go_wp2_with fail
      refine (writes_any B D X F s L lc sv lg va S.length vc S _ HD2.out HSS.out (by omega) HSW (wf_of HSW) HOU.out).mono ?_
      rintro e w'' ⟨rfl, hd, hb⟩
      have HX : Hid (DkAt w'' B D (s.try' S) (tryL s S lg) ∧ Below B w w'') := ⟨hd, HBW.out.trans hb⟩
      clear hd hb
      go_wp2_with fail
      go_ret
      exact ⟨rfl, by rw [hsh]; exact HX.out.1, HX.out.2⟩
    · have hq1 : (o.kind == 1) = false := by simpa using k1
      have hq2 : (o.kind == 2) = false := by simpa using k2
      by_cases k3 : o.kind = 3
      · have HE : Hid (s.step' o = s.try' o.batch ∧ stepL s o lg = tryL s o.batch lg) := ⟨by unfold St.step'; rw [if_neg k1, if_neg k2, if_pos k3], by unfold stepL; rw [if_neg k1, if_neg k2, if_pos k3]⟩
        rw [HE.out.1, HE.out.2]
        obtain ⟨X, F, L, lc, sv, hd⟩ := HD.out
        have HDS : Hid (DkS (w.alloc (.cells #[.int .i64 o.kind, .int .i64 o.a, .slice ba bn bc] 100)) B D X F s L lc sv lg) := hd
        have HOU : Hid (0 < bn → ∀ b off, ba = some ⟨b, off, none⟩ → ¬ F b) := fun hp b off e hF => by
          have h1 := HB.out hp b off e
          have h2 := (HDS.out.fb b hF).1
          omega
        have hq3 : (o.kind == 3) = true := by simpa using k3
        clear hd k3
        go_enter Try.func46, Try.ntmps46
        go_wp2_with fail
        refine (writes_any B D X F s L lc sv lg ba bn bc o.batch _ HDS.out HS.out hn (wf_mem HW.out) HW.out HOU.out).mono ?_
        rintro e w'' ⟨rfl, hd, hb⟩
        have HX : Hid (DkAt w'' B D (s.try' o.batch) (tryL s o.batch lg) ∧ Below B w w'') := ⟨hd, HBX.out.trans hb⟩
        clear hd hb
        go_wp2_with fail
        go_ret
        exact ⟨rfl, HX.out.1, HX.out.2⟩
      · have hq3 : (o.kind == 3) = false := by simpa using k3
        have HE : Hid (s.step' o = s ∧ stepL s o lg = lg) := ⟨by unfold St.step'; rw [if_neg k1, if_neg k2, if_neg k3], by unfold stepL; rw [if_neg k1, if_neg k2, if_neg k3]⟩
        rw [HE.out.1, HE.out.2]
        go_enter Try.func46, Try.ntmps46
        go_wp2_with fail
        go_ret
        exact ⟨rfl, HD.out, HBX.out⟩

end Go.Proofs.Ythciddpljcbhiaa

/- Walks: a desk behind a script (garnerkeep). -/
namespace Go.Proofs.Ythciddpljcbhiaa
open Go Go.RowKit Go.Lib

def playP (s : St) (lg : ByteArray) (l : List Stp) : St × ByteArray := l.foldl (fun p o => (p.1.step o, stepL p.1 o p.2)) (s, lg)
theorem playP_fst (l : List Stp) : ∀ (s : St) (lg : ByteArray), (playP s lg l).1 = s.play l := by
  induction l with
  | nil => intro s lg; rfl
  | cons o l ih => intro s lg; exact ih (s.step o) (stepL s o lg)
theorem playP_snoc (s : St) (lg : ByteArray) (l : List Stp) (k : Nat) (h : k < l.length) : playP s lg (l.take (k + 1)) = ((playP s lg (l.take k)).1.step (stpG l k), stepL (playP s lg (l.take k)).1 (stpG l k) (playP s lg (l.take k)).2) := by
  unfold playP
  rw [List.take_succ_eq_append_getElem h, List.foldl_append, stpG_get l k h]
  rfl

set_option maxHeartbeats 2000000 in
set_option maxRecDepth 100000 in
theorem played_any (a : Option Addr) (n cap : Nat) (ls : List Lv) (span keep : Int) (sa : Option Addr) (sn sc : Nat) (l : List Stp) (w : World) (hls : IsLvs w a n ls) (hwf : LvWf2 ls) (s0 : -9223372036854775808 ≤ span) (s1 : span ≤ 9223372036854775807) (k0 : -9223372036854775808 ≤ keep) (k1 : keep ≤ 9223372036854775807)
    (hsc : IsScr w sa sn l) (hsn : sn ≤ 9000000000000) :
    Calls Try.prog 19 #[.agg #[.int .i64 span, .int .i64 keep, .slice a n cap], .slice sa sn sc] w fun e w' => ∃ D, e = .returned (.pointer (some ⟨D, 0, none⟩)) ∧ DkAt w' w.heap.size D (playP (St.new (conf span keep ls)) ⟨#[]⟩ l).1 (playP (St.new (conf span keep ls)) ⟨#[]⟩ l).2 ∧ Below w.heap.size w w' := by
  have HSC : Hid (IsScr w sa sn l) := hsc
  have HN : Hid (l.length = sn) := hsc.1
  have HLS : Hid (IsLvs w a n ls) := hls
  have HWF : Hid (LvWf2 ls) := hwf
  have HB0 : Hid (Below w.heap.size w (w.alloc (.cells #[.int .i64 span, .int .i64 keep, .slice a n cap] 24))) := (Below.refl _ _).alloc (Nat.le_refl _) _
  have HL0 : Hid (IsLvs (w.alloc (.cells #[.int .i64 span, .int .i64 keep, .slice a n cap] 24)) a n ls) := IsLvs.below hls HB0.out
  have HSE := seated_any a n cap ls span keep _ HL0.out HWF.out s0 s1 k0 k1
  clear hls hwf hsc
  generalize hC : St.new (conf span keep ls) = S0 at *
  go_enter Try.func19, Try.ntmps19
  go_wp2_with fail
  refine HSE.mono ?_
  rintro e w1 ⟨D, rfl, hd, hb1⟩
  have HD1 : Hid (DkAt w1 w.heap.size D S0 ⟨#[]⟩) := hd.mono (by simp)
  have HB1 : Hid (Below w.heap.size w w1) := HB0.out.trans (hb1.mono (by simp))
  clear hd hb1 HSE
  go_wp2_with fail
  go_loopw [6] (fun i wr => ∃ k : Nat, i = .int .i64 k ∧ k ≤ sn ∧ DkAt wr w.heap.size D (playP S0 ⟨#[]⟩ (l.take k)).1 (playP S0 ⟨#[]⟩ (l.take k)).2 ∧ Below w.heap.size w wr) (fun i _ => sn - (intOf i).toNat)
  case atStart => exact ⟨0, rfl, Nat.zero_le _, HD1.out, HB1.out⟩
  case round =>
    obtain ⟨k, rfl, hk, hd, hb⟩ := hrel
    have HD : Hid (DkAt wr w.heap.size D (playP S0 ⟨#[]⟩ (l.take k)).1 (playP S0 ⟨#[]⟩ (l.take k)).2) := hd
    have HB : Hid (Below w.heap.size w wr) := hb
    clear hd hb
    by_cases hlt : k < sn
    · obtain ⟨b, off, rfl, hbl, hall⟩ := HSC.out.2.2 (by omega)
      obtain ⟨ba, bn, bc, c0, c1, c2, hsm, hbn⟩ := hall k hlt
      have HPS : Hid (playP S0 ⟨#[]⟩ (l.take (k + 1)) = ((playP S0 ⟨#[]⟩ (l.take k)).1.step (stpG l k), stepL (playP S0 ⟨#[]⟩ (l.take k)).1 (stpG l k) (playP S0 ⟨#[]⟩ (l.take k)).2)) := playP_snoc S0 _ l k (by rw [HN.out]; exact hlt)
      have HWX : Hid (StpWf (stpG l k)) := HSC.out.2.1 _ (by rw [stpG_get l k (by rw [HN.out]; exact hlt)]; exact List.getElem_mem _)
      generalize hZ : stpG l k = Z at *
      have d0 : wr.cell? ⟨b, off + k * 3, none⟩ = some (.int .i64 Z.kind) := (HB.out.cell (p := ⟨b, off + k * 3, none⟩) hbl).trans c0
      have d1 : wr.cell? ⟨b, off + k * 3 + 1, none⟩ = some (.int .i64 Z.a) := (HB.out.cell (p := ⟨b, off + k * 3 + 1, none⟩) hbl).trans c1
      have d2 : wr.cell? ⟨b, off + k * 3 + 2, none⟩ = some (.slice ba bn bc) := (HB.out.cell (p := ⟨b, off + k * 3 + 2, none⟩) hbl).trans c2
      have HSM : Hid (IsSms wr ba bn Z.batch) := hsm.below HB.out
      have HBL : Hid (0 < bn → ∀ b' off', ba = some ⟨b', off', none⟩ → b' < w.heap.size) := fun hp b' off' e => by
        obtain ⟨b2, off2, e2, hat⟩ := hsm.2 hp
        rw [e] at e2
        injection e2 with e2
        injection e2 with e2
        rw [e2]
        exact hat.block (by rw [hsm.1]; exact hp)
      clear hall c0 c1 c2 hsm
      generalize hP : playP S0 ⟨#[]⟩ (l.take k) = P at *
      go_wp2_with fail
      refine (step_any w.heap.size D P.1 P.2 Z ba bn bc wr HD.out HWX.out HSM.out hbn HBL.out).mono ?_
      rintro e w2 ⟨rfl, hd, hb2⟩
      have HX : Hid (DkAt w2 w.heap.size D (playP S0 ⟨#[]⟩ (l.take (k + 1))).1 (playP S0 ⟨#[]⟩ (l.take (k + 1))).2 ∧ Below w.heap.size w w2) := by
        show _ ∧ _
        rw [HPS.out]
        exact ⟨hd, HB.out.trans hb2⟩
      clear hd hb2
      go_wp2_with fail
      exact ⟨⟨k + 1, by go_num, by omega, HX.out.1, HX.out.2⟩, by simp [intOf]; omega⟩
    · have HE : Hid (l.take k = l) := List.take_of_length_le (by rw [HN.out]; omega)
      go_wp2_with fail
      go_ret
      exact ⟨D, rfl, by rw [HE.out] at HD; exact HD.out, HB.out⟩

end Go.Proofs.Ythciddpljcbhiaa

/- Rows made: all 0. -/
namespace Go.Proofs.Ythciddpljcbhiaa
open Go Go.RowKit

abbrev zRw : Array Value := #[.int .i64 0, .int .u8 0, .int .u8 0, .int .u8 0, .int .i64 0, .int .i64 0, .int .i32 0, .int .i32 0]
theorem made_rows (n : Nat) : (madeCells (Value.cells (.agg zRw)) (n * 8)).toList = flatR (List.replicate n Rw.zero) := by
  have hz : Value.cells (.agg zRw) = zRw := rfl
  rw [hz]
  apply List.ext_getElem?
  intro j
  by_cases hj : j < n * 8
  · have hi : j / 8 < (List.replicate n Rw.zero).length := by simp; omega
    have e : j = j / 8 * 8 + j % 8 := by omega
    have h1 : (madeCells zRw (n * 8)).toList[j]? = some (zRw[j % 8]!) := by
      unfold madeCells
      rw [Array.getElem?_toList, Array.getElem?_map, Array.getElem?_range]
      simp [hj]
    have h2 : (flatR (List.replicate n Rw.zero))[j]? = (Rw.cells Rw.zero)[j % 8]? := by
      rw [e]
      have := flat_get Rw.cells 8 len8 (List.replicate n Rw.zero) (j / 8) (j % 8) (by omega) hi
      rw [show (j / 8 * 8 + j % 8) % 8 = j % 8 by omega]
      rw [show flatR (List.replicate n Rw.zero) = (List.replicate n Rw.zero).flatMap Rw.cells from rfl, this]
      simp
    rw [h1, h2]
    have hm : j % 8 = 0 ∨ j % 8 = 1 ∨ j % 8 = 2 ∨ j % 8 = 3 ∨ j % 8 = 4 ∨ j % 8 = 5 ∨ j % 8 = 6 ∨ j % 8 = 7 := by omega
    rcases hm with hm | hm | hm | hm | hm | hm | hm | hm <;> rw [hm] <;> rfl
  · rw [List.getElem?_eq_none (by rw [Array.length_toList, size_madeCells]; omega), List.getElem?_eq_none (by rw [flatR_len]; simp; omega)]

theorem make72 (n : Nat) (h : n ≤ 1000) (w : World) : (Instr.makeSlice 58 (.int .i64 (n : Int)) (.int .i64 (n : Int))).run Try.prog w =
    .ok (.slice (some ⟨w.heap.size, 0, none⟩) n n) (w.alloc (.cells (flatR (List.replicate n Rw.zero)).toArray 72)) := by
  obtain ⟨i, hi, hz, hs, hb⟩ := infP Try.info72'
  have hr := run_make (P := Try.prog) w 58 72 i _ Try.underlying58 hi hz .i64 .i64 (n : Int) (n : Int) (by omega) (by omega) (by rw [hb]; omega) (by omega)
  rw [hr, hs, Int.toNat_natCast, ← made_rows, Array.toArray_toList]
theorem owns_made (w : World) (n B : Nat) (hn : n ≤ 1000) (hB : B ≤ w.heap.size) : (w.alloc (.cells (flatR (List.replicate n Rw.zero)).toArray 72)).ownsRow B 72 8 (.slice (some ⟨w.heap.size, 0, none⟩) n n) n (flatR (List.replicate n Rw.zero)) := by
  refine ⟨by rw [flatR_len]; simp, .inr ⟨w.heap.size, n, _, rfl, hB, heap_alloc_new _ _, Nat.le_refl _, by unfold maxLen; omega, by simp [flatR_len], ?_⟩⟩
  rw [List.take_of_length_le]
  simp [flatR_len]

/-- Rows that the caller takes for rows, small enough to be joined. -/
def SmRs (l : List Rw) : Prop := ∀ i, i < l.length → SmR (rwG l i).ag
/-- The rows of the first k, step by step. -/
def stK (N : Nat) (l : List Rw) (k : Nat) : List Rw := stepsR N (l.take k)
theorem stK_succ (N : Nat) (l : List Rw) (k : Nat) (hk : k < l.length) : stK N l (k + 1) = (stK N l k).set (rwG l k).key.st.toNat (joinR (rwG (stK N l k) (rwG l k).key.st.toNat) (rwG l k)) := by
  unfold stK stepsR
  rw [List.take_succ_eq_append_getElem hk, List.map_append, rwG_get l k hk]
  unfold putAll
  rw [List.foldl_append]
  rfl
theorem stK_len (N : Nat) (l : List Rw) (k : Nat) : (stK N l k).length = N := stepsR_len N _
theorem stK_zero (N : Nat) (l : List Rw) : stK N l 0 = List.replicate N Rw.zero := by unfold stK stepsR; simp [putAll]
/-- The cells of a row set in an owned list. -/
theorem owns_rwset8 {w : World} {base g n cap : Nat} {l : List Rw} (h : w.ownsRow base 72 8 (.slice (some ⟨g, 0, none⟩) n cap) n (flatR l)) (i : Nat) (hi : i < l.length) (r : Rw) : (set8 w g (i * 8) r).ownsRow base 72 8 (.slice (some ⟨g, 0, none⟩) n cap) n (flatR (l.set i r)) := owns_rwset h i hi r

end Go.Proofs.Ythciddpljcbhiaa

/- Walks: the query of all that is kept (garnerkeep). -/
namespace Go.Proofs.Ythciddpljcbhiaa
open Go Go.RowKit

def dots : ByteArray := ⟨#[46, 46, 46]⟩
def zeros : ByteArray := ⟨#[48, 48, 48]⟩
def wholeQ (s : St) : Qy := ⟨oldT s, (s.now / s.c.span + 1) * s.c.span, s.c.span, dots, zeros⟩

set_option maxHeartbeats 1000000 in
set_option maxRecDepth 100000 in
theorem whole_any (D X : Nat) (s : St) (L n cap : Nat) (sv : Value) (w : World) (hI : Inv s) (hD : w.heap[D]? = some (.cells (dkC X s L n cap sv) 62 (0, 0))) :
    Calls Try.prog 20 #[.pointer (some ⟨D, 0, none⟩)] w fun e w' => e = .returned (.agg (qyC (wholeQ s))) ∧ Below w.heap.size w w' := by
  obtain ⟨h1, h2, h3, h4, _⟩ := Cf.right_parts hI.right
  have HI : Hid (Inv s) := hI
  have n0 := hI.n0
  have n1 := hI.n1
  have d1 : w.cell? ⟨D, 1, none⟩ = some (.int .i64 s.c.span) := cell_blk' hD rfl
  have d4 : w.cell? ⟨D, 4, none⟩ = some (.int .i64 s.now) := cell_blk' hD rfl
  have hDs : D < w.heap.size := (Array.getElem?_eq_some_iff.1 hD).1
  have HD : Hid (w.heap[D]? = some (.cells (dkC X s L n cap sv) 62 (0, 0))) := hD
  have hsp : ¬ s.c.span = 0 := by omega
  have q0 : 0 ≤ s.now / s.c.span := Int.ediv_nonneg n0 (by omega)
  have q1 : s.now / s.c.span ≤ 100000 := Int.le_trans (Int.ediv_le_self _ n0) n1
  have m0 : 0 ≤ (s.now / s.c.span + 1) * s.c.span := Int.mul_nonneg (by omega) (by omega)
  have m1 : (s.now / s.c.span + 1) * s.c.span ≤ 100001 * 100 := Int.mul_le_mul (by omega) h2 (by omega) (by omega)
  have HQ : Hid (qyC (wholeQ s) = #[.int .i64 (oldT s), .int .i64 ((s.now / s.c.span + 1) * s.c.span), .int .i64 s.c.span, .string ⟨#[46, 46, 46]⟩, .string ⟨#[48, 48, 48]⟩]) := rfl
  clear hD hI
  go_enter Try.func20, Try.ntmps20
  go_wp2_with fail
  refine (oldest_any D X s L n cap sv _ HI.out (by rw [Below.heap_alloc _ _ _ hDs]; exact HD.out)).mono ?_
  rintro e w1 ⟨rfl, d, rfl⟩
  go_wp2_with fail
  go_quiet (fail)
  go_wp2_with fail
  refine bodyPost_ret (v := .agg #[.int .i64 (oldT s), .int .i64 ((s.now / s.c.span + 1) * s.c.span), .int .i64 s.c.span, .string ⟨#[46, 46, 46]⟩, .string ⟨#[48, 48, 48]⟩]) (by simp [results, Try.results20, go_sem]) rfl ?_
  rw [HQ.out]
  refine ⟨rfl, ?_⟩
  exact bel_set (bel_set (bel_set (bel_set (bel_set (below_drewN ((Below.refl _ _).alloc (Nat.le_refl _) _) _) (Nat.le_refl _)) (Nat.le_refl _)) (Nat.le_refl _)) (Nat.le_refl _)) (Nat.le_refl _)


def kkk : ByteArray := ⟨#[107, 107, 107]⟩
def keptB (lvs : List Lv) : Bool := (List.range lvs.length).all fun i => decide ((lvG lvs i).rule = kkk)

set_option maxHeartbeats 1000000 in
set_option maxRecDepth 100000 in
theorem kept_any (D X : Nat) (s : St) (L n cap : Nat) (sv : Value) (w : World) (hD : w.heap[D]? = some (.cells (dkC X s L n cap sv) 62 (0, 0))) (hn : s.c.lvs.length = n) (hn4 : n ≤ 4) (hat : LvAt w L 0 s.c.lvs) :
    Calls Try.prog 26 #[.pointer (some ⟨D, 0, none⟩)] w fun e w' => e = .returned (.bool (keptB s.c.lvs)) ∧ w' = w := by
  have d3 : w.cell? ⟨D, 3, none⟩ = some (.slice (some ⟨L, 0, none⟩) n cap) := cell_blk' hD rfl
  have HAT : Hid (LvAt w L 0 s.c.lvs) := hat
  have HN : Hid (s.c.lvs.length = n) := hn
  clear hD hat hn
  go_enter Try.func26, Try.ntmps26
  go_wp2_with fail
  go_loop [3] (fun i => ∃ k : Nat, i = .int .i64 k ∧ k ≤ n ∧ ∀ j, j < k → decide ((lvG s.c.lvs j).rule = kkk) = true) (fun i => n - (intOf i).toNat)
  case atStart => exact ⟨0, rfl, Nat.zero_le _, fun j hj => by omega⟩
  case round =>
    obtain ⟨k, rfl, hk, hall⟩ := hrel
    have HA : Hid (∀ j, j < k → decide ((lvG s.c.lvs j).rule = kkk) = true) := hall
    clear hall
    by_cases hlt : k < n
    · obtain ⟨_, _, c2, _⟩ := HAT.out k (by rw [HN.out]; exact hlt)
      simp only [Nat.zero_add] at c2
      by_cases hr : (lvG s.c.lvs k).rule = kkk
      · have HR : decide ((lvG s.c.lvs k).rule = kkk) = true := by simpa using hr
        have hyes : ((lvG s.c.lvs k).rule.toList == [107, 107, 107]) = true := by rw [hr, ByteArray.toList_eq]; rfl
        clear hr
        go_wp2_with fail
        exact ⟨⟨k + 1, by go_num, by omega, upto_succ HA.out HR⟩, by simp [intOf]; omega⟩
      · have HR : decide ((lvG s.c.lvs k).rule = kkk) = false := by simpa using hr
        have hno : ((lvG s.c.lvs k).rule.toList == [107, 107, 107]) = false := by
          apply no_of
          intro h
          rw [beq_iff_eq, ByteArray.toList_eq] at h
          exact hr (ByteArray.ext (Array.ext' h))
        clear hr
        go_wp2_with fail
        go_ret
        exact ⟨ret_bool (all_false k (by rw [HN.out]; exact hlt) HR).symm, rfl⟩
    · go_wp2_with fail
      go_ret
      exact ⟨ret_bool (all_true (fun j hj => HA.out j (by rw [HN.out] at hj; omega))).symm, rfl⟩

end Go.Proofs.Ythciddpljcbhiaa

/- Bounds of what rows come to; the query of all that is kept. -/
namespace Go.Proofs.Ythciddpljcbhiaa
open Go Go.RowKit

structure Tg (a : Ag) : Prop where
  c0 : 0 ≤ a.cnt
  lo : -2147483648 * a.cnt ≤ a.sum
  hi : a.sum ≤ 2147483648 * a.cnt
theorem agOf_tg : ∀ {l : List Int} {a : Ag}, (∀ v ∈ l, v32 v) → agOf l = some a → Tg a
  | [], _, _, h => by cases h
  | v :: l, a, hv, h => by
    have h0 := hv v (by simp)
    unfold v32 at h0
    rw [agOf_cons] at h
    cases hl : agOf l with
    | none => rw [hl] at h; simp [oj] at h; subst h; exact ⟨by simp [Ag.one], by simp [Ag.one]; omega, by simp [Ag.one]; omega⟩
    | some b =>
      rw [hl] at h
      simp only [oj, Option.some.injEq] at h
      subst h
      obtain ⟨b0, b1, b2⟩ := agOf_tg (fun x hx => hv x (by simp [hx])) hl
      refine ⟨?_, ?_, ?_⟩ <;> simp [Ag.join, Ag.one] <;> omega
theorem SmR.of {a : Ag} (h : Tg a) (hc : a.cnt ≤ 1000000) : SmR a := by
  obtain ⟨h0, h1, h2⟩ := h
  exact ⟨h0, hc, by omega, by omega⟩
theorem joinR_tg {a b : Rw} (ha : Tg a.ag) (hb : Tg b.ag) : Tg (joinR a b).ag ∧ (joinR a b).ag.cnt ≤ a.ag.cnt + b.ag.cnt := by
  obtain ⟨a0, a1, a2⟩ := ha
  obtain ⟨b0, b1, b2⟩ := hb
  unfold joinR
  split
  · exact ⟨⟨b0, b1, b2⟩, by omega⟩
  · exact ⟨⟨by simp [Ag.join]; omega, by simp [Ag.join]; omega, by simp [Ag.join]; omega⟩, by simp [Ag.join]⟩
theorem putAll_bd (l : List (Nat × Rw)) : ∀ (out : List Rw) (C : Int), (∀ j, Tg (rwG out j).ag ∧ (rwG out j).ag.cnt ≤ C) → (∀ p ∈ l, Tg p.2.ag) → ∀ j, Tg (rwG (putAll out l) j).ag ∧ (rwG (putAll out l) j).ag.cnt ≤ C + (l.map fun p => p.2.ag.cnt).sum := by
  induction l with
  | nil => intro out C h _ j; simpa [putAll] using h j
  | cons p l ih =>
    intro out C h hp j
    have hp0 := hp p (by simp)
    have h' : ∀ j, Tg (rwG (putR out p.1 p.2) j).ag ∧ (rwG (putR out p.1 p.2) j).ag.cnt ≤ C + p.2.ag.cnt := by
      intro j
      by_cases hi : p.1 < out.length
      · rw [rwG_put _ _ _ _ hi]
        split
        · have := joinR_tg (h p.1).1 hp0
          have := (h p.1).2
          exact ⟨(joinR_tg (h p.1).1 hp0).1, by omega⟩
        · have := hp0.c0
          have := (h j).2
          exact ⟨(h j).1, by omega⟩
      · have e : putR out p.1 p.2 = out := by unfold putR; exact List.set_eq_of_length_le (by omega)
        rw [e]
        have := hp0.c0
        have := (h j).2
        exact ⟨(h j).1, by omega⟩
    have := ih (putR out p.1 p.2) (C + p.2.ag.cnt) h' (fun x hx => hp x (by simp [hx])) j
    refine ⟨this.1, ?_⟩
    have h2 := this.2
    rw [List.map_cons, List.sum_cons]
    show (rwG (putAll (putR out p.1 p.2) l) j).ag.cnt ≤ _
    omega
theorem tg_zero : Tg Rw.zero.ag := ⟨by simp [Rw.zero], by simp [Rw.zero], by simp [Rw.zero]⟩
theorem rep_bd (N : Nat) : ∀ j, Tg (rwG (List.replicate N Rw.zero) j).ag ∧ (rwG (List.replicate N Rw.zero) j).ag.cnt ≤ 0 := fun j => by
  rw [rwG_rep]; exact ⟨tg_zero, by simp [Rw.zero]⟩
theorem cntSum_take {l : List Rw} (h : ∀ r ∈ l, 0 ≤ r.ag.cnt) (k : Nat) : cntSum (l.take k) ≤ cntSum l := by
  have e : cntSum l = cntSum (l.take k) + cntSum (l.drop k) := by
    conv => lhs; rw [← List.take_append_drop k l]
    unfold cntSum
    rw [List.map_append, List.sum_append]
  have h2 : ∀ m : List Rw, (∀ r ∈ m, 0 ≤ r.ag.cnt) → 0 ≤ cntSum m := by
    intro m
    induction m with
    | nil => intro _; simp [cntSum]
    | cons r m ih =>
      intro hm
      have a := hm r (by simp)
      have b := ih (fun x hx => hm x (by simp [hx]))
      simp [cntSum] at b ⊢
      omega
  have := h2 (l.drop k) (fun r hr => h r (List.mem_of_mem_drop hr))
  omega
theorem cntSum_map (l : List Rw) : ((l.map fun r => (r.key.st.toNat, r)).map fun p => p.2.ag.cnt).sum = cntSum l := by
  unfold cntSum; rw [List.map_map]; rfl
theorem stK_sm {N : Nat} {l : List Rw} (ht : ∀ r ∈ l, Tg r.ag) (hc : cntSum l ≤ 1000000) (k i : Nat) : SmR (rwG (stK N l k) i).ag := by
  have h := putAll_bd ((l.take k).map fun r => (r.key.st.toNat, r)) (List.replicate N Rw.zero) 0 (rep_bd N) (fun p hp => by
    obtain ⟨r, hr, rfl⟩ := List.mem_map.1 hp
    exact ht r (List.mem_of_mem_take hr)) i
  rw [cntSum_map] at h
  have := cntSum_take (fun r hr => (ht r hr).c0) k
  exact SmR.of h.1 (by have := h.2; unfold stK stepsR; omega)

/-! The rows of a state. -/
theorem kv_v32 {s : St} (h : Inv s) (q : Qy) : ∀ p ∈ kvOf q s.at s.l, v32 p.2 := by
  intro p hp
  obtain ⟨x, hx, _, g, _, rfl⟩ := kv_mem hp
  exact (h.ok x hx).2.2.2.2.2
theorem kv_len (s : St) (q : Qy) : (kvOf q s.at s.l).length ≤ s.l.length := List.length_filterMap_le _ _
theorem rows_tg {s : St} (h : Inv s) (q : Qy) : ∀ r ∈ s.rows q, Tg r.ag := by
  intro r hr
  refine agOf_tg ?_ ((rowsOf_is (kvOf q s.at s.l)).ag r hr)
  intro v hv
  unfold valsIf at hv
  obtain ⟨p, hp, rfl⟩ := List.mem_map.1 hv
  exact kv_v32 h q p (List.mem_filter.1 hp).1
theorem rows_total (kv : List (Key × Int)) : cntSum (rowsOf kv) = (kv.length : Int) := by
  have h1 := (rowsOf_is kv).joined (fun _ => true)
  have e : (rowsOf kv).filter (fun r => (fun _ => true) r.key) = rowsOf kv := List.filter_eq_self.2 fun a _ => rfl
  rw [e] at h1
  have h3 := agRows_cnt (rowsOf kv)
  rw [h1] at h3
  rw [← h3, agOf_count]
  unfold valsIf
  rw [List.length_map, List.filter_eq_self.2 fun a _ => rfl]
theorem rows_sum {s : St} (h : Inv s) (q : Qy) : cntSum (s.rows q) ≤ 500 := by
  have h1 := rows_total (kvOf q s.at s.l)
  have h2 := kv_len s q
  have h3 := h.len
  show cntSum (rowsOf (kvOf q s.at s.l)) ≤ 500
  omega
theorem rows_many {s : St} (h : Inv s) (q : Qy) : (s.rows q).length ≤ 500 := by
  have h1 := rowsOf_len (kvOf q s.at s.l)
  have h2 := kv_len s q
  have h3 := h.len
  show (rowsOf (kvOf q s.at s.l)).length ≤ 500
  omega
theorem rows_smr {s : St} (h : Inv s) (q : Qy) : SmRs (s.rows q) := fun i hi => by
  have hm : rwG (s.rows q) i ∈ s.rows q := by rw [rwG_get _ _ hi]; exact List.getElem_mem _
  have h1 := rows_tg h q _ hm
  refine SmR.of h1 ?_
  have h2 := rows_sum h q
  have h3 : ∀ (l : List Rw), (∀ r ∈ l, 0 ≤ r.ag.cnt) → ∀ r ∈ l, r.ag.cnt ≤ cntSum l := by
    intro l
    induction l with
    | nil => intro _ r hr; cases hr
    | cons x l ih =>
      intro hl r hr
      have a := hl x (by simp)
      have b := ih (fun y hy => hl y (by simp [hy]))
      have c : 0 ≤ cntSum l := by
        cases l with
        | nil => simp [cntSum]
        | cons y l' => have := b y (by simp); have := hl y (by simp); omega
      have e : cntSum (x :: l) = x.ag.cnt + cntSum l := by simp [cntSum]
      rcases List.mem_cons.1 hr with rfl | hr
      · omega
      · have := b r hr; omega
  have := h3 (s.rows q) (fun r hr => (rows_tg h q r hr).c0) _ hm
  omega
theorem rows_stK {s : St} (h : Inv s) (q : Qy) (N k i : Nat) : SmR (rwG (stK N (s.rows q) k) i).ag := stK_sm (rows_tg h q) (by have := rows_sum h q; omega) k i

/-! The query of all that is kept. -/
def wholeN (s : St) : Nat := (s.c.cnt s.now).toNat
theorem dots_b : byt dots 0 = 46 ∧ byt dots 1 = 46 ∧ byt dots 2 = 46 ∧ byt zeros 0 = 48 ∧ byt zeros 1 = 48 ∧ byt zeros 2 = 48 := by decide
theorem dots_m : (mB (byt dots 0) = true ∧ mB (byt dots 1) = true ∧ mB (byt dots 2) = true) ∧ bB (byt zeros 0) = true ∧ bB (byt zeros 1) = true ∧ bB (byt zeros 2) = true := by decide
theorem whole_is {s : St} (h : Inv s) : WholeQ s.c (wholeQ s) (s.c.old s.now) 1 (s.c.cnt s.now) := by
  obtain ⟨o1, o2, o3, o4, o5⟩ := Cf.old_range h.right h.n0
  refine ⟨rfl, by show s.c.span = 1 * s.c.span; omega, ?_, o1, by omega, o4, o5, ⟨rfl, dots_m.1⟩, ⟨rfl, dots_m.2⟩⟩
  show (s.now / s.c.span + 1) * s.c.span = s.c.old s.now * s.c.span + s.c.cnt s.now * s.c.span
  rw [← Int.add_mul]
  congr 1
  unfold Cf.cnt
  omega
structure WQ (s : St) (q : Qy) (N : Nat) : Prop where
  f0 : 0 ≤ q.fr
  f1 : q.fr < q.to
  f2 : q.to ≤ 100100
  s1 : 1 ≤ q.step
  s2 : q.step ≤ 100100
  n1 : 1 ≤ N
  n2 : N ≤ 20
  div : (q.to - q.fr) / q.step = N
  mul : q.to - q.fr = N * q.step
theorem wq_of {s : St} (h : Inv s) {q : Qy} {m k n : Int} (hw : WholeQ s.c q m k n) (hto : q.to ≤ (s.now / s.c.span + 1) * s.c.span) {N : Nat} (hN : n = N) : WQ s q N := by
  have hr := hw.right h.right h.n1 hto
  simp only [rightQ, Bool.and_eq_true, decide_eq_true_eq] at hr
  obtain ⟨⟨⟨⟨⟨⟨⟨⟨⟨f0, f1⟩, f2⟩, s1⟩, _⟩, _⟩, _⟩, _⟩, _⟩, _⟩ := hr
  have hn1 := hw.n1
  have hn2 := hw.n20
  have e : q.to - q.fr = N * q.step := by rw [hw.to, hN]; omega
  have hd : (q.to - q.fr) / q.step = N := by rw [e]; exact Int.mul_ediv_cancel _ (by omega)
  refine ⟨f0, f1, f2, s1, ?_, by omega, by omega, hd, e⟩
  have h1 : 1 * q.step ≤ (N : Int) * q.step := Int.mul_le_mul_of_nonneg_right (by omega) (by omega)
  omega
theorem whole_wq {s : St} (h : Inv s) : WQ s (wholeQ s) (wholeN s) := by
  obtain ⟨_, _, _, o4, _⟩ := Cf.old_range h.right h.n0
  exact wq_of h (whole_is h) (Int.le_refl _) (by unfold wholeN; omega)
theorem whole_any' (s : St) : anyM (wholeQ s) ∧ noBy (wholeQ s) := ⟨⟨dots_b.1, dots_b.2.1, dots_b.2.2.1⟩, dots_b.2.2.2⟩
theorem whole_err {s : St} (h : Inv s) : qE s.c s.now (wholeQ s) = 0 := by
  obtain ⟨_, _, o3, _, _⟩ := Cf.old_range h.right h.n0
  rw [(whole_is h).err h.right h.n1 (Int.le_refl _) o3, lost_not, if_neg (by simp)]
  intro i hi
  obtain ⟨d0, d1, d2, d3, d4, d5⟩ := dots_b
  have : i = 0 ∨ i = 1 ∨ i = 2 := by omega
  have e1 : (wholeQ s).mt = dots := rfl
  have e2 : (wholeQ s).gb = zeros := rfl
  unfold namedB
  rw [e1, e2]
  rcases this with rfl | rfl | rfl
  · rw [d0, d3]; decide
  · rw [d1, d4]; decide
  · rw [d2, d5]; decide

end Go.Proofs.Ythciddpljcbhiaa

/- Walks: a query of a store. -/
namespace Go.Proofs.Ythciddpljcbhiaa
open Go Go.RowKit

set_option maxHeartbeats 4000000 in
set_option maxRecDepth 100000 in
theorem query_any (X : Nat) (F : Nat → Prop) (s : St) (q : Qy) {lg : ByteArray} (w : World) (h : StoreAt w X F s lg) (hq : q.wf) :
    Calls Try.prog 21 #[.pointer (some ⟨X, 0, none⟩), .agg (qyC q)] w fun e w' => ∃ v, e = .returned (.tuple #[v, .int .i64 (qE s.c s.now q)]) ∧ w'.ownsRow w.heap.size 72 8 v (rowsA s q).length (flatR (rowsA s q)) ∧ Below w.heap.size w w' := by
  obtain ⟨L, lcap, pv, bv, bk, gv, h⟩ := h
  have HS : Hid (StAt w X F s s s.l.length L lcap pv bv bk gv lg) := h
  have c0 := h.cell 0 _ rfl
  have c1 := h.cell 1 _ rfl
  have c2 := h.cell 2 _ rfl
  have c3 := h.cell 3 _ rfl
  have c5 := h.cell 5 _ rfl
  have hX := h.lt
  obtain ⟨pa, pcap, rfl⟩ := ownForm h.pts
  have HQ : Hid q.wf := hq
  have hXw : X ≠ w.heap.size := by omega
  clear h hq
  have hbox : Below w.heap.size w (w.alloc (.cells (qyC q) 56)) := (Below.refl _ _).alloc (Nat.le_refl _) _
  have HBX : Hid (Below w.heap.size w (w.alloc (.cells (qyC q) 56))) := hbox
  clear hbox
  go_enter Try.func21, Try.ntmps21
  go_upto_region 1 with fail
  go_cut [6] from 6 to 16 (fun v wx => v = .int .i64 (qE s.c s.now q) ∧ Below (w.heap.size + 1) (w.alloc (.cells (qyC q) 56)) wx)
  case first =>
    have k0 : (w.alloc (.cells (qyC q) 56)).drew.cell? ⟨X, 0, none⟩ = some (.int .i64 s.c.span) := cell_alloc1 c0
    have k1 : (w.alloc (.cells (qyC q) 56)).drew.cell? ⟨X, 1, none⟩ = some (.int .i64 s.c.keep) := cell_alloc1 c1
    have k2 : (w.alloc (.cells (qyC q) 56)).drew.cell? ⟨X, 2, none⟩ = some (.slice (some ⟨L, 0, none⟩) s.c.lvs.length lcap) := cell_alloc1 c2
    have k3 : (w.alloc (.cells (qyC q) 56)).drew.cell? ⟨X, 3, none⟩ = some (.int .i64 s.now) := cell_alloc1 c3
    have j0 : (w.alloc (.cells (qyC q) 56)).drew.cell? ⟨w.heap.size, 0, none⟩ = some (.int .i64 q.fr) := by simp [go_sem]
    have j1 : (w.alloc (.cells (qyC q) 56)).drew.cell? ⟨w.heap.size, 1, none⟩ = some (.int .i64 q.to) := by simp [go_sem]
    have j2 : (w.alloc (.cells (qyC q) 56)).drew.cell? ⟨w.heap.size, 2, none⟩ = some (.int .i64 q.step) := by simp [go_sem]
    have j3 : (w.alloc (.cells (qyC q) 56)).drew.cell? ⟨w.heap.size, 3, none⟩ = some (.string q.mt) := by simp [go_sem]
    have j4 : (w.alloc (.cells (qyC q) 56)).drew.cell? ⟨w.heap.size, 4, none⟩ = some (.string q.gb) := by simp [go_sem]
    have hXa : X < (w.alloc (.cells (qyC q) 56)).drew.heap.size := by show X < (w.alloc (.cells (qyC q) 56)).heap.size; simp; omega
    have hwa : w.heap.size < (w.alloc (.cells (qyC q) 56)).drew.heap.size := by show w.heap.size < (w.alloc (.cells (qyC q) 56)).heap.size; simp
    go_region_held3 (fun w' => w'.cell? ⟨X, 0, none⟩ = some (.int .i64 s.c.span) ∧ w'.cell? ⟨X, 1, none⟩ = some (.int .i64 s.c.keep) ∧ w'.cell? ⟨X, 2, none⟩ = some (.slice (some ⟨L, 0, none⟩) s.c.lvs.length lcap) ∧ w'.cell? ⟨X, 3, none⟩ = some (.int .i64 s.now) ∧ w'.cell? ⟨w.heap.size, 0, none⟩ = some (.int .i64 q.fr) ∧ w'.cell? ⟨w.heap.size, 1, none⟩ = some (.int .i64 q.to) ∧ w'.cell? ⟨w.heap.size, 2, none⟩ = some (.int .i64 q.step) ∧ w'.cell? ⟨w.heap.size, 3, none⟩ = some (.string q.mt) ∧ w'.cell? ⟨w.heap.size, 4, none⟩ = some (.string q.gb)) (first | exact ⟨k0, k1, k2, k3, j0, j1, j2, j3, j4⟩ | exact ⟨y0, y1, y2, y3, z0, z1, z2, z3, z4⟩)
      (first | (go_at_call 47; refine (check_q s.c q L 0 s.c.lvs.length lcap s.now _ HS.out.inv.right rfl ((HS.out.below HBX.out.drew).lv) HS.out.inv.n0 HS.out.inv.n1 HQ.out).mono ?_; rintro e w' ⟨rfl, hb'⟩; have y0 := (hb'.cell (p := ⟨X, 0, none⟩) hXa).trans k0; have y1 := (hb'.cell (p := ⟨X, 1, none⟩) hXa).trans k1; have y2 := (hb'.cell (p := ⟨X, 2, none⟩) hXa).trans k2; have y3 := (hb'.cell (p := ⟨X, 3, none⟩) hXa).trans k3; have z0 := (hb'.cell (p := ⟨w.heap.size, 0, none⟩) hwa).trans j0; have z1 := (hb'.cell (p := ⟨w.heap.size, 1, none⟩) hwa).trans j1; have z2 := (hb'.cell (p := ⟨w.heap.size, 2, none⟩) hwa).trans j2; have z3 := (hb'.cell (p := ⟨w.heap.size, 3, none⟩) hwa).trans j3; have z4 := (hb'.cell (p := ⟨w.heap.size, 4, none⟩) hwa).trans j4))
    all_goals go_wp2_with fail
    all_goals go_meet
    all_goals (case rel => exact ⟨rfl, ⟨hb'.os, hb'.tape, hb'.output, hb'.size, fun k hk => hb'.block k (by simpa using hk)⟩⟩)
  case rest =>
    obtain ⟨rfl, hb1⟩ := hcut
    have hz1 : w.heap.size + 1 ≤ wc.heap.size := by have := hb1.size; simpa using this
    have HW1 : Hid (Below w.heap.size w wc) := HBX.out.trans (hb1.mono (by omega))
    have HB1 : Hid (Below (w.heap.size + 1) (w.alloc (.cells (qyC q) 56)) wc) := hb1
    have HS1 : Hid (StAt wc X F s s s.l.length L lcap (.slice pa s.pts.length pcap) bv bk gv lg) := HS.out.below HW1.out
    clear c0 c1 c2 c3 c5 hb1
    by_cases he : qE s.c s.now q = 0
    · have HRA : Hid (rowsA s q = s.rows q) := if_pos he
      have HZ := qE_zero he
      have HRR : Hid (s.rows q = rowsOf (s.pts.filterMap (kvP s.c s.now q))) := by
        show rowsOf _ = _
        rw [kv_pts s (Cf.right_parts HS.out.inv.right).1 q HZ.2]
      have HE : Hid (qE s.c s.now q = 0) := he
      rw [he]
      have c0 := HS1.out.cell 0 _ rfl
      have c1 := HS1.out.cell 1 _ rfl
      have c2 := HS1.out.cell 2 _ rfl
      have c3 := HS1.out.cell 3 _ rfl
      have c5 := HS1.out.cell 5 _ rfl
      have hX1 := HS1.out.lt
      have p0 : wc.cell? ⟨w.heap.size, 0, none⟩ = some (.int .i64 q.fr) := by rw [HB1.out.cell (p := ⟨w.heap.size, 0, none⟩) (by simp)]; simp [go_sem]
      have p1 : wc.cell? ⟨w.heap.size, 1, none⟩ = some (.int .i64 q.to) := by rw [HB1.out.cell (p := ⟨w.heap.size, 1, none⟩) (by simp)]; simp [go_sem]
      have p2 : wc.cell? ⟨w.heap.size, 2, none⟩ = some (.int .i64 q.step) := by rw [HB1.out.cell (p := ⟨w.heap.size, 2, none⟩) (by simp)]; simp [go_sem]
      have p3 : wc.cell? ⟨w.heap.size, 3, none⟩ = some (.string q.mt) := by rw [HB1.out.cell (p := ⟨w.heap.size, 3, none⟩) (by simp)]; simp [go_sem]
      have p4 : wc.cell? ⟨w.heap.size, 4, none⟩ = some (.string q.gb) := by rw [HB1.out.cell (p := ⟨w.heap.size, 4, none⟩) (by simp)]; simp [go_sem]
      clear he
      go_wp2_with fail
      have hwa : w.heap.size < wc.heap.size := by omega
      go_region_held3 (fun w' => w'.cell? ⟨X, 0, none⟩ = some (.int .i64 s.c.span) ∧ w'.cell? ⟨X, 1, none⟩ = some (.int .i64 s.c.keep) ∧ w'.cell? ⟨X, 2, none⟩ = some (.slice (some ⟨L, 0, none⟩) s.c.lvs.length lcap) ∧ w'.cell? ⟨X, 3, none⟩ = some (.int .i64 s.now) ∧ w'.cell? ⟨w.heap.size, 0, none⟩ = some (.int .i64 q.fr) ∧ w'.cell? ⟨w.heap.size, 1, none⟩ = some (.int .i64 q.to) ∧ w'.cell? ⟨w.heap.size, 2, none⟩ = some (.int .i64 q.step) ∧ w'.cell? ⟨w.heap.size, 3, none⟩ = some (.string q.mt) ∧ w'.cell? ⟨w.heap.size, 4, none⟩ = some (.string q.gb) ∧ w'.cell? ⟨X, 5, none⟩ = some (.slice pa s.pts.length pcap)) (first | exact ⟨c0, c1, c2, c3, p0, p1, p2, p3, p4, c5⟩ | exact ⟨y0, y1, y2, y3, z0, z1, z2, z3, z4, y5⟩)
        (first | (go_at_call 48; refine (rows_any s.c q L 0 s.c.lvs.length lcap s.now pa s.pts.length pcap s.pts _ HS.out.inv.right rfl (HS1.out.below (Below.refl _ _).drew).lv HS.out.inv.n0 HS.out.inv.n1 HZ.1 (PtsAt.of_owns (owns_drew HS1.out.pts) rfl) rfl (pts_ok HS.out.inv) (pts_len HS.out.inv)).mono ?_; rintro e w' ⟨v, rfl, hv, hb'⟩; have y0 := (hb'.cell (p := ⟨X, 0, none⟩) hX1).trans c0; have y1 := (hb'.cell (p := ⟨X, 1, none⟩) hX1).trans c1; have y2 := (hb'.cell (p := ⟨X, 2, none⟩) hX1).trans c2; have y3 := (hb'.cell (p := ⟨X, 3, none⟩) hX1).trans c3; have y5 := (hb'.cell (p := ⟨X, 5, none⟩) hX1).trans c5; have z0 := (hb'.cell (p := ⟨w.heap.size, 0, none⟩) hwa).trans p0; have z1 := (hb'.cell (p := ⟨w.heap.size, 1, none⟩) hwa).trans p1; have z2 := (hb'.cell (p := ⟨w.heap.size, 2, none⟩) hwa).trans p2; have z3 := (hb'.cell (p := ⟨w.heap.size, 3, none⟩) hwa).trans p3; have z4 := (hb'.cell (p := ⟨w.heap.size, 4, none⟩) hwa).trans p4))
      all_goals go_wp2_with fail
      all_goals go_ret2
      all_goals exact ⟨v, by rw [HE.out]; rfl, by rw [HRA.out, HRR.out]; exact owns_base hv (fun k hk => by have h9 : wc.heap.size ≤ k := (hv.lt k hk).1; omega), HW1.out.trans ((show Below wc.heap.size wc w' from ⟨hb'.os, hb'.tape, hb'.output, hb'.size, hb'.block⟩).mono (by omega))⟩
    · have HRA : Hid (rowsA s q = []) := if_neg he
      have hneb : (qE s.c s.now q != 0) = true := by simpa using he
      go_wp2_with fail
      go_ret2
      refine ⟨_, rfl, ?_, HW1.out⟩
      rw [HRA.out]
      exact World.ownsRow_nil _ _ _ _

end Go.Proofs.Ythciddpljcbhiaa

/- Three bytes ahead of three others, as strings. -/
namespace Go.Proofs.Ythciddpljcbhiaa
open Go Go.RowKit

theorem u8lt {a b : Int} (ha : 0 ≤ a ∧ a ≤ 255) (hb : 0 ≤ b ∧ b ≤ 255) : (UInt8.ofNat a.toNat < UInt8.ofNat b.toNat) ↔ a < b := by
  rw [UInt8.lt_iff_toNat_lt]
  simp only [UInt8.toNat_ofNat']
  omega
theorem u8eq {a b : Int} (ha : 0 ≤ a ∧ a ≤ 255) (hb : 0 ≤ b ∧ b ≤ 255) : (UInt8.ofNat a.toNat = UInt8.ofNat b.toNat) ↔ a = b := by
  rw [← UInt8.toNat_inj]
  simp only [UInt8.toNat_ofNat']
  omega
theorem str_less {P R : Key} (hP : (0 ≤ P.g0 ∧ P.g0 ≤ 255) ∧ (0 ≤ P.g1 ∧ P.g1 ≤ 255) ∧ (0 ≤ P.g2 ∧ P.g2 ≤ 255)) (hR : (0 ≤ R.g0 ∧ R.g0 ≤ 255) ∧ (0 ≤ R.g1 ∧ R.g1 ≤ 255) ∧ (0 ≤ R.g2 ∧ R.g2 ≤ 255)) (hs : P.st = R.st) (hl : P.lt R) :
    Op.bytesLess (strOfNums [P.g0, P.g1, P.g2]).toList (strOfNums [R.g0, R.g1, R.g2]).toList = true := by
  rw [ByteArray.toList_eq, ByteArray.toList_eq]
  obtain ⟨p0, p1, p2⟩ := hP
  obtain ⟨r0, r1, r2⟩ := hR
  have e1 := u8lt p0 r0
  have e2 := u8lt p1 r1
  have e3 := u8lt p2 r2
  unfold Key.lt at hl
  simp only [strOfNums, List.map_cons, List.map_nil, Op.bytesLess]
  simp only [e1, e2, e3]
  by_cases h0 : P.g0 < R.g0
  · simp [h0]
  · by_cases h1 : P.g1 < R.g1
    · have : P.g0 = R.g0 := by omega
      simp [h1, this]
    · have a0 : P.g0 = R.g0 := by omega
      have a1 : P.g1 = R.g1 := by omega
      have a2 : P.g2 < R.g2 := by omega
      simp [a0, a1, a2]

end Go.Proofs.Ythciddpljcbhiaa
