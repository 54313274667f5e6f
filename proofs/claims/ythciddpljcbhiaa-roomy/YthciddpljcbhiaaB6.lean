/- Texts of one claim put together: Stw, Ask, Opn, OpS, OpX, Roo. -/
import Derived.Test.YthciddpljcbhiaaB5
import Derived.Test.YthciddpljcbhiaaB4
import Derived.Test.YthciddpljcbhiaaA
import Derived.Test.YthciddpljcbhiaaProg
import Derived.ProofKit
import Derived.OpenShut
import Derived.Deep.Slices
import Derived.Lib.SmallJoins
import Derived.Deep.Strs
import Derived.SizedLaws
import Derived.Deep.DrawnRows
import Derived.Deep.CutBlock

/- Walks: rows as one for each step (garnerkeep). -/
namespace Go.Proofs.Ythciddpljcbhiaa
open Go Go.RowKit

theorem conv3At (w : World) (g o : Nat) (a b c : Int) (h0 : w.cell? ⟨g, o, none⟩ = some (.int .u8 a)) (h1 : w.cell? ⟨g, o + 1, none⟩ = some (.int .u8 b)) (h2 : w.cell? ⟨g, o + 2, none⟩ = some (.int .u8 c)) :
    (convert 50 9 (.slice (some ⟨g, o, none⟩) 3 3)).run Try.prog w = .ok (.string (strOfNums [a, b, c])) w := by
  refine run_convert_bytes_arg (P := Try.prog) _ 50 5 Try.underlying50 Try.underlying5 _ o _ 3 [a, b, c] rfl (fun i hi => ?_) 9 Try.underlying9
  have hi3 : i < 3 := hi
  have : i = 0 ∨ i = 1 ∨ i = 2 := by omega
  rcases this with rfl | rfl | rfl
  · exact h0
  · exact h1
  · exact h2

set_option maxHeartbeats 4000000 in
set_option maxRecDepth 100000 in
theorem steps_yes (a : Option Addr) (m cap N : Nat) (l : List Rw) (w : World) (hat : RwsAt w a l) (hm : l.length = m) (hm2 : m ≤ 1000) (hN : N ≤ 1000) (hg : Goods N l) (hs : SmRs l) (hss : ∀ k, k ≤ m → ∀ i, SmR (rwG (stK N l k) i).ag)
    (hgb : ∀ r ∈ l, (0 ≤ r.key.g0 ∧ r.key.g0 ≤ 255) ∧ (0 ≤ r.key.g1 ∧ r.key.g1 ≤ 255) ∧ (0 ≤ r.key.g2 ∧ r.key.g2 ≤ 255)) :
    Calls Try.prog 22 #[.slice a m cap, .int .i64 N] w fun e w' => ∃ g, e = .returned (.tuple #[.slice (some ⟨g, 0, none⟩) N N, .bool true]) ∧ w'.ownsRow w.heap.size 72 8 (.slice (some ⟨g, 0, none⟩) N N) N (flatR (stepsR N l)) ∧ Below w.heap.size w w' := by
  have HA : Hid (RwsAt w a l) := hat
  have HM : Hid (l.length = m) := hm
  have HG : Hid (Goods N l) := hg
  have HS : Hid (SmRs l) := hs
  have HSS : Hid (∀ k, k ≤ m → ∀ i, SmR (rwG (stK N l k) i).ag) := hss
  have HGB : Hid (∀ r ∈ l, (0 ≤ r.key.g0 ∧ r.key.g0 ≤ 255) ∧ (0 ≤ r.key.g1 ∧ r.key.g1 ≤ 255) ∧ (0 ≤ r.key.g2 ∧ r.key.g2 ≤ 255)) := hgb
  have hmk := make72 N hN
  clear hat hm hg hs hss hgb
  go_enter Try.func22, Try.ntmps22
  go_wp2_with fail
  go_loopw [7] (fun i wr => ∃ k : Nat, i = .int .i64 k ∧ k ≤ m ∧ wr.ownsRow w.heap.size 72 8 (.slice (some ⟨w.heap.size, 0, none⟩) N N) N (flatR (stK N l k)) ∧ Below w.heap.size w wr) (fun i _ => m - (intOf i).toNat)
  case atStart => exact ⟨0, rfl, Nat.zero_le _, by rw [stK_zero]; exact owns_made w N _ hN (Nat.le_refl _), (Below.refl _ _).alloc (Nat.le_refl _) _⟩
  case round =>
    obtain ⟨k, rfl, hk, hown, hbel⟩ := hrel
    have HO : Hid (wr.ownsRow w.heap.size 72 8 (.slice (some ⟨w.heap.size, 0, none⟩) N N) N (flatR (stK N l k))) := hown
    have HB : Hid (Below w.heap.size w wr) := hbel
    clear hown hbel hmk
    by_cases hlt : k < m
    · obtain ⟨g, rfl, hgs, hra⟩ := HA.out (by rw [HM.out]; omega)
      have hmem : rwG l k ∈ l := by rw [rwG_get l k (by rw [HM.out]; exact hlt)]; exact List.getElem_mem _
      obtain ⟨s0, s1⟩ := HG.out.s0 _ hmem
      obtain ⟨k1, k2⟩ := HG.out.ok _ hmem
      have hat := (hra k (by rw [HM.out]; exact hlt)).block (HB.out.block g hgs)
      have HSR := HS.out k (by rw [HM.out]; exact hlt)
      have hsz := HB.out.size
      have hgr : g < wr.heap.size := by omega
      have HST : Hid (stK N l (k + 1) = (stK N l k).set (rwG l k).key.st.toNat (joinR (rwG (stK N l k) (rwG l k).key.st.toNat) (rwG l k))) := stK_succ N l k (by rw [HM.out]; exact hlt)
      have HSX := HSS.out k hk
      have HPRE : Hid (∀ j, k = j + 1 → ∃ P : Rw, RwAt wr g (j * 8) P ∧ P.key.lt (rwG l k).key ∧ ((0 ≤ P.key.g0 ∧ P.key.g0 ≤ 255) ∧ (0 ≤ P.key.g1 ∧ P.key.g1 ≤ 255) ∧ (0 ≤ P.key.g2 ∧ P.key.g2 ≤ 255))) := fun j e =>
        ⟨rwG l j, (hra j (by rw [HM.out]; omega)).block (HB.out.block g hgs), up_le HG.out.up (by omega) (by rw [HM.out]; exact hlt), HGB.out _ (by rw [rwG_get l j (by rw [HM.out]; omega)]; exact List.getElem_mem _)⟩
      have hgbR := HGB.out _ hmem
      clear hmem hra
      generalize hR : rwG l k = R at *
      obtain ⟨st, hst⟩ : ∃ st : Nat, R.key.st = st := ⟨R.key.st.toNat, by omega⟩
      have hstN : st < N := by omega
      obtain ⟨x0, x1, x2, x3, x4, x5, x6, x7⟩ := hat
      rw [hst] at x0
      have u1 : decide ((st : Int) < 0) = false := by simp
      have u2 : decide ((N : Int) ≤ (st : Int)) = false := by simp; omega
      have u2' : decide (N ≤ st) = false := by simp; omega
      have u3 : decide (R.ag.cnt < 1) = false := by simp; omega
      have u4 : decide (R.ag.mx < R.ag.mn) = false := by simp; omega
      have HRa : Hid (RwAt wr g (k * 8) R) := ⟨by rw [hst]; exact x0, x1, x2, x3, x4, x5, x6, x7⟩
      rw [show R.key.st.toNat = st by omega] at HST
      have HSTT : Hid (R.key.st = st) := hst
      have HRR : Hid (rwG l k = R) := hR
      clear hst hR
      go_upto_region 6 with fail
      go_cut [52] from 25 to 52 (fun v wx => v = .bool false ∧ Below wr.heap.size wr wx)
      case first =>
        go_quiet (fail)
        go_wp2_with fail
        go_meet
        case rel => exact ⟨rfl, below_drewN (Below.refl _ _) _⟩
      case rest =>
        obtain ⟨rfl, hwb⟩ := hcut
        have HRc : Hid (RwAt wc g (k * 8) R) := HRa.out.below hwb
        have HOc : Hid (wc.ownsRow w.heap.size 72 8 (.slice (some ⟨w.heap.size, 0, none⟩) N N) N (flatR (stK N l k))) := owns_below HO.out hwb (fun k hk => (HO.out.lt k hk).2)
        have HBc : Hid (Below w.heap.size w wc) := HB.out.trans (hwb.mono hsz)
        have hszc : w.heap.size ≤ wc.heap.size := HBc.out.size
        have HPc : Hid (∀ j, k = j + 1 → ∃ P : Rw, RwAt wc g (j * 8) P ∧ P.key.lt R.key ∧ ((0 ≤ P.key.g0 ∧ P.key.g0 ≤ 255) ∧ (0 ≤ P.key.g1 ∧ P.key.g1 ≤ 255) ∧ (0 ≤ P.key.g2 ∧ P.key.g2 ≤ 255))) := fun j e =>
          let ⟨P, h1, h2, h3⟩ := HPRE.out j e; ⟨P, h1.below hwb, h2, h3⟩
        have hgc : g < wc.heap.size := by have := hwb.size; omega
        clear hwb x0 x1 x2 x3 x4 x5 x6 x7 HRa HPRE HO
        have hGc : w.heap.size < wc.heap.size := (HOc.out.lt _ rfl).2
        have HA0 := owns_rw HOc.out st (by rw [stK_len]; exact hstN)
        have HSA := HSX st
        generalize hA : rwG (stK N l k) st = A at *
        have HJ : Hid (∀ W, Below wc.heap.size wc W → Calls Try.prog 27 #[.agg (rwC A), .agg #[.int .i64 (st : Int), .int .u8 R.key.g0, .int .u8 R.key.g1, .int .u8 R.key.g2, .int .i64 R.ag.cnt, .int .i64 R.ag.sum, .int .i32 R.ag.mn, .int .i32 R.ag.mx]] W fun e w' => e = .returned (.agg (rwC (joinR A R))) ∧ RwAt w' w.heap.size (st * 8) A ∧ RwAt w' g (k * 8) R ∧ (∀ o, w'.frozen? ⟨w.heap.size, o, none⟩ = false) ∧ w'.ownsRow w.heap.size 72 8 (.slice (some ⟨w.heap.size, 0, none⟩) N N) N (flatR (stK N l k)) ∧ Below w.heap.size w w') := by
          intro W hW
          have hc := joined_any A R W HSA HSR
          have e9 : rwC R = #[.int .i64 (st : Int), .int .u8 R.key.g0, .int .u8 R.key.g1, .int .u8 R.key.g2, .int .i64 R.ag.cnt, .int .i64 R.ag.sum, .int .i32 R.ag.mn, .int .i32 R.ag.mx] := by unfold rwC; rw [HSTT.out]
          rw [e9] at hc
          refine hc.mono ?_
          rintro e w' ⟨rfl, hb'⟩
          have hb2 : Below wc.heap.size wc w' := hW.trans (hb'.mono hW.size)
          have ho2 := owns_below HOc.out hb2 (fun k hk => (HOc.out.lt k hk).2)
          exact ⟨rfl, HA0.below hb2, HRc.out.below hb2, owns_frozen ho2, ho2, HBc.out.trans (hb2.mono hszc)⟩
        obtain ⟨a0, a1, a2, a3, a4, a5, a6, a7⟩ := HA0
        obtain ⟨x0, x1, x2, x3, x4, x5, x6, x7⟩ := HRc.out
        rw [HSTT.out] at x0
        have HAA : Hid (rwG (stK N l k) st = A) := hA
        clear hA
        by_cases hk0 : k = 0
        · subst hk0
          simp only [Nat.zero_mul, Nat.zero_add] at x0 x1 x2 x3 x4 x5 x6 x7
          go_wp2_with fail
          go_region_with (go_at_call 27; refine (HJ.out _ (by first | exact (Below.refl _ _).drew | exact below_drewN (Below.refl _ _) _)).mono ?_; rintro e w' ⟨rfl, hya, hyr, hfz, hown2, hbw2⟩; obtain ⟨b0, b1, b2, b3, b4, b5, b6, b7⟩ := hya; obtain ⟨z0, z1, z2, z3, z4, z5, z6, z7⟩ := hyr; rw [HSTT.out] at z0)
          all_goals go_wp2_with fail
          all_goals exact ⟨⟨_ + 1, by go_num, by omega, by rw [HST.out]; exact owns_rwset8 hown2 st (by rw [stK_len]; exact hstN) (joinR A R), set8_below hbw2 (Nat.le_refl _)⟩, by simp [intOf]; omega⟩
        · obtain ⟨j, rfl⟩ : ∃ j, k = j + 1 := ⟨k - 1, by omega⟩
          obtain ⟨P, ⟨y0, y1, y2, y3, y4, y5, y6, y7⟩, hlt2, hgbP⟩ := HPc.out j rfl
          have HLT : Hid (P.key.lt R.key) := hlt2
          clear hlt2
          by_cases hps : P.key.st = (st : Int)
          · have HPS : Hid (P.key.st = (st : Int)) := hps
            rw [hps] at y0
            clear hps
            have hcP := conv3At (wc.alloc (.cells #[.int .i64 (st : Int), .int .u8 P.key.g0, .int .u8 P.key.g1, .int .u8 P.key.g2, .int .i64 P.ag.cnt, .int .i64 P.ag.sum, .int .i32 P.ag.mn, .int .i32 P.ag.mx] 72)) wc.heap.size 1 P.key.g0 P.key.g1 P.key.g2 (by simp [go_sem]) (by simp [go_sem]) (by simp [go_sem])
            have hcR := conv3At (wc.alloc (.cells #[.int .i64 (st : Int), .int .u8 P.key.g0, .int .u8 P.key.g1, .int .u8 P.key.g2, .int .i64 P.ag.cnt, .int .i64 P.ag.sum, .int .i32 P.ag.mn, .int .i32 P.ag.mx] 72)) g ((j + 1) * 8 + 1) R.key.g0 R.key.g1 R.key.g2 (cell_alloc1 x1) (cell_alloc1 x2) (cell_alloc1 x3)
            have hbl := str_less hgbP hgbR (HPS.out.trans HSTT.out.symm) HLT.out
            go_wp2_with fail
            go_region_with (go_at_call 27; refine (HJ.out _ (by first | exact ((Below.refl _ _).alloc (Nat.le_refl _) _).drew | exact below_drewN ((Below.refl _ _).alloc (Nat.le_refl _) _) _)).mono ?_; rintro e w' ⟨rfl, hya, hyr, hfz, hown2, hbw2⟩; obtain ⟨b0, b1, b2, b3, b4, b5, b6, b7⟩ := hya; obtain ⟨z0, z1, z2, z3, z4, z5, z6, z7⟩ := hyr; rw [HSTT.out] at z0)
            all_goals go_wp2_with fail
            all_goals exact ⟨⟨j + 1 + 1, by go_num, by omega, by rw [HST.out]; exact owns_rwset8 hown2 st (by rw [stK_len]; exact hstN) (joinR A R), set8_below hbw2 (Nat.le_refl _)⟩, by simp [intOf]; omega⟩
          · have hps2 : P.key.st < (st : Int) := by
              have h9 := HLT.out
              have h8 := HSTT.out
              unfold Key.lt at h9
              omega
            have hpb : (P.key.st == (st : Int)) = false := by simp; omega
            have hpd : decide ((st : Int) < P.key.st) = false := by simp; omega
            have hcP := conv3At (wc.alloc (.cells #[.int .i64 P.key.st, .int .u8 P.key.g0, .int .u8 P.key.g1, .int .u8 P.key.g2, .int .i64 P.ag.cnt, .int .i64 P.ag.sum, .int .i32 P.ag.mn, .int .i32 P.ag.mx] 72)) wc.heap.size 1 P.key.g0 P.key.g1 P.key.g2 (by simp [go_sem]) (by simp [go_sem]) (by simp [go_sem])
            have hcR := conv3At (wc.alloc (.cells #[.int .i64 P.key.st, .int .u8 P.key.g0, .int .u8 P.key.g1, .int .u8 P.key.g2, .int .i64 P.ag.cnt, .int .i64 P.ag.sum, .int .i32 P.ag.mn, .int .i32 P.ag.mx] 72)) g ((j + 1) * 8 + 1) R.key.g0 R.key.g1 R.key.g2 (cell_alloc1 x1) (cell_alloc1 x2) (cell_alloc1 x3)
            go_wp2_with fail
            go_region_with (go_at_call 27; refine (HJ.out _ (by first | exact ((Below.refl _ _).alloc (Nat.le_refl _) _).drew | exact below_drewN ((Below.refl _ _).alloc (Nat.le_refl _) _) _)).mono ?_; rintro e w' ⟨rfl, hya, hyr, hfz, hown2, hbw2⟩; obtain ⟨b0, b1, b2, b3, b4, b5, b6, b7⟩ := hya; obtain ⟨z0, z1, z2, z3, z4, z5, z6, z7⟩ := hyr; rw [HSTT.out] at z0)
            all_goals go_wp2_with fail
            all_goals exact ⟨⟨j + 1 + 1, by go_num, by omega, by rw [HST.out]; exact owns_rwset8 hown2 st (by rw [stK_len]; exact hstN) (joinR A R), set8_below hbw2 (Nat.le_refl _)⟩, by simp [intOf]; omega⟩
    · have hke : k = m := by omega
      have HE : Hid (stK N l k = stepsR N l) := by show _ = _; unfold stK; rw [List.take_of_length_le (by rw [HM.out]; omega)]
      go_wp2_with fail
      go_ret2
      exact ⟨w.heap.size, rfl, by rw [← HE.out]; exact HO.out, HB.out⟩

end Go.Proofs.Ythciddpljcbhiaa

/- What a desk's store is asked (garnerkeep). -/
namespace Go.Proofs.Ythciddpljcbhiaa
open Go Go.RowKit Go.Lib

theorem IsSms.of_owns {w : World} {B : Nat} {a : Option Addr} {n cap : Nat} {l : List Sm} (h : w.ownsRow B 42 5 (.slice a n cap) n (flatS l)) (hn : l.length = n) : IsSms w a n l := ⟨hn, fun hp => by
  obtain ⟨g, c', he, _⟩ := ownBlockForm h hp
  injection he with h1 h2 h3
  subst h1
  exact ⟨g, 0, rfl, smAt_of (owns_at h)⟩⟩
theorem rowsA_ok {s : St} {q : Qy} (h : qE s.c s.now q = 0) : rowsA s q = s.rows q := if_pos h
/-- A query's box, behind a call. -/
theorem box5q {w w1 : World} {q : Qy} (hb : Below (w.alloc (.cells (qyC q) 56)).heap.size (w.alloc (.cells (qyC q) 56)) w1) : w.heap.size < w1.heap.size ∧ w1.heap[w.heap.size]? = some (.cells (qyC q) 56 (0, 0)) := by
  have hz := hb.size
  rw [World.size_alloc] at hb hz
  exact ⟨by omega, by rw [hb.block _ (by omega), heap_alloc_new]⟩

theorem WQ.wf {s : St} {q : Qy} {N : Nat} (h : WQ s q N) (hm : q.mt.size = 3) (hg : q.gb.size = 3) : q.wf := by
  obtain ⟨f0, f1, f2, t1, t2, _, _, _, _⟩ := h
  exact ⟨by omega, by omega, by omega, by omega, by omega, by omega, by rw [hm]; unfold maxLen; omega, by rw [hg]; unfold maxLen; omega⟩
/-- A query of a store, asked at a world or behind draws. -/
def QAsk (w : World) (X : Nat) (q : Qy) (rows : List Rw) (E : Int) : Prop := ∀ d, Calls Try.prog 21 #[.pointer (some ⟨X, 0, none⟩), .agg (qyC q)] (w.drewN d) fun e w' => ∃ la lc, e = .returned (.tuple #[.slice la rows.length lc, .int .i64 E]) ∧ w'.ownsRow w.heap.size 72 8 (.slice la rows.length lc) rows.length (flatR rows) ∧ Below w.heap.size w w'
theorem QAsk.of {w : World} {X : Nat} {F : Nat → Prop} {s : St} {q : Qy} {lg : ByteArray} (h : StoreAt w X F s lg) (hq : q.wf) : QAsk w X q (rowsA s q) (qE s.c s.now q) := fun d => by
  refine (query_any X F s q (w.drewN d) (h.below (below_drewN (Below.refl _ _) d)) hq).mono ?_
  rintro e w' ⟨v, rfl, ho, hb⟩
  obtain ⟨la, lc, rfl⟩ := ownForm ho
  exact ⟨la, lc, rfl, ho, below_und hb⟩

/-- A cell of another block set. -/
theorem DkS.set {w : World} {B D X : Nat} {F : Nat → Prop} {s : St} {L lc : Nat} {sv : Value} {lg : ByteArray} (h : DkS w B D X F s L lc sv lg) {P o : Nat} (v : Value) (hD : P ≠ D) (hF : ¬ F P) (hL : P ≠ L) (hS : sv.ownBlock ≠ some P) : DkS (w.setCell ⟨P, o, none⟩ v) B D X F s L lc sv lg := by
  have hfr : Fr (fun k => k = P) w (w.setCell ⟨P, o, none⟩ v) := Fr.setCell (S := fun k => k = P) (Fr.refl _ _) (.inl rfl) _
  have hs : (w.setCell ⟨P, o, none⟩ v).heap.size = w.heap.size := by simp [World.setCell]
  exact ⟨by rw [Below.heap_setCell _ _ _ _ (Ne.symm hD)]; exact h.blk, h.st.keep (fun k e _ => Below.heap_setCell _ _ _ _ (fun e' => hF ((show k = P from e') ▸ e))), lvAt_of (At.fr (at_of_lv h.lv) hfr (fun e => hL e.symm)), owns_other h.sms hS, fun k e => ⟨(h.fb k e).1, by rw [hs]; exact (h.fb k e).2⟩, h.bD, h.nD, h.nL, h.DL, h.bS⟩
theorem RwAt.set {w : World} {g i : Nat} {r : Rw} (h : RwAt w g i r) {P o : Nat} (v : Value) (hP : g ≠ P) : RwAt (w.setCell ⟨P, o, none⟩ v) g i r := by
  obtain ⟨h0, h1, h2, h3, h4, h5, h6, h7⟩ := h
  have k : ∀ j, (w.setCell ⟨P, o, none⟩ v).cell? ⟨g, j, none⟩ = w.cell? ⟨g, j, none⟩ := fun j => World.cell?_of_block (Below.heap_setCell _ _ _ _ hP)
  exact ⟨(k _).trans h0, (k _).trans h1, (k _).trans h2, (k _).trans h3, (k _).trans h4, (k _).trans h5, (k _).trans h6, (k _).trans h7⟩
theorem RwsAt.set {w : World} {a : Option Addr} {l : List Rw} (h : RwsAt w a l) {P o : Nat} (v : Value) (hP : ∀ g, a = some ⟨g, 0, none⟩ → g ≠ P) : RwsAt (w.setCell ⟨P, o, none⟩ v) a l := by
  intro hp
  obtain ⟨g, e, hl, hr⟩ := h hp
  exact ⟨g, e, by simpa [World.setCell] using hl, fun i hi => (hr i hi).set v (hP g e)⟩
/-! Rows of what is answered or refused. -/
theorem rowsA_cases (s : St) (q : Qy) : rowsA s q = s.rows q ∨ rowsA s q = [] := by unfold rowsA; split; exact .inl rfl; exact .inr rfl
theorem rowsA_sub (s : St) (q : Qy) {r : Rw} (h : r ∈ rowsA s q) : r ∈ s.rows q := by
  rcases rowsA_cases s q with e | e
  · rw [e] at h; exact h
  · rw [e] at h; cases h
theorem goodsA {s : St} {q : Qy} {N : Nat} (hs : 1 ≤ q.step) (hn : q.to - q.fr = N * q.step) : Goods N (rowsA s q) := by
  have g := rows_goods (s := s) hs hn
  rcases rowsA_cases s q with e | e
  · rw [e]; exact g
  · rw [e]; exact ⟨List.Pairwise.nil, fun r hr => absurd hr (by simp), fun r hr => absurd hr (by simp)⟩
theorem manyA {s : St} (h : Inv s) (q : Qy) : (rowsA s q).length ≤ 500 := by
  rcases rowsA_cases s q with e | e
  · rw [e]; exact rows_many h q
  · rw [e]; simp
theorem smrsA {s : St} (h : Inv s) (q : Qy) : SmRs (rowsA s q) := by
  rcases rowsA_cases s q with e | e
  · rw [e]; exact rows_smr h q
  · rw [e]; exact fun i hi => by simp at hi
theorem stKA {s : St} (h : Inv s) (q : Qy) (N k i : Nat) : SmR (rwG (stK N (rowsA s q) k) i).ag := by
  rcases rowsA_cases s q with e | e
  · rw [e]; exact rows_stK h q N k i
  · rw [e]; exact stK_sm (fun r hr => by cases hr) (by simp [cntSum]) k i
theorem byte_lab {a : Int} (h : labB a = true) : 0 ≤ a ∧ a ≤ 255 := by
  rcases lab_good h with h | h <;> omega
theorem byte_g {b x : Int} (h : 0 ≤ x ∧ x ≤ 255) : 0 ≤ gB b x ∧ gB b x ≤ 255 := by
  unfold gB; split <;> omega
/-- The groups of rows are bytes. -/
theorem rows_byte {s : St} (h : Inv s) (q : Qy) : ∀ r ∈ s.rows q, (0 ≤ r.key.g0 ∧ r.key.g0 ≤ 255) ∧ (0 ≤ r.key.g1 ∧ r.key.g1 ≤ 255) ∧ 0 ≤ r.key.g2 ∧ r.key.g2 ≤ 255 := by
  intro r hr
  obtain ⟨x, hx, _, _, g, hg, e0, e1, e2⟩ := rows_mem s hr
  rw [e0, e1, e2]
  have hok := at_ok s ((smOk_iff x).1 (h.ok x hx).1).2.2
  unfold grpOf at hg
  by_cases ho : s.at x = over
  · rw [if_pos ho] at hg
    have := Option.some.inj hg
    subst this
    simp [over]
  · rw [if_neg ho] at hg
    have hl : lab3 (s.at x).a (s.at x).b (s.at x).c = true := by
      rcases hok with hok | hok
      · exact absurd hok ho
      · exact hok
    simp only [lab3, Bool.and_eq_true] at hl
    split at hg
    · have := Option.some.inj hg
      subst this
      exact ⟨byte_g (byte_lab hl.1.1), byte_g (byte_lab hl.1.2), byte_g (byte_lab hl.2)⟩
    · cases hg
theorem steps_q (la : Option Addr) (lc N : Nat) (s : St) (q : Qy) (w : World) (h : Inv s) (hN : N ≤ 1000) (hs : 1 ≤ q.step) (hn : q.to - q.fr = N * q.step) (hat : RwsAt w la (rowsA s q)) :
    Calls Try.prog 22 #[.slice la (rowsA s q).length lc, .int .i64 N] w fun e w' => ∃ g, e = .returned (.tuple #[.slice (some ⟨g, 0, none⟩) N N, .bool true]) ∧ w'.ownsRow w.heap.size 72 8 (.slice (some ⟨g, 0, none⟩) N N) N (flatR (stepsR N (rowsA s q))) ∧ Below w.heap.size w w' :=
  steps_yes la _ lc N _ w hat rfl (by have := manyA h q; omega) hN (goodsA hs hn) (smrsA h q) (fun k _ i => stKA h q N k i) (fun r hr => rows_byte h q r (rowsA_sub s q hr))

end Go.Proofs.Ythciddpljcbhiaa

/- A slice of levels and labels that came in, opened. -/
namespace Go.Proofs.Ythciddpljcbhiaa
open Go Go.RowKit Go.Deep Go.ChangeShapes Go.WideShapes Go.Joins

theorem Try.cells76 : Try.prog.cellsOf 76 = 4 := by kernel_rfl
theorem Try.cells22 : Try.prog.cellsOf 22 = 1 := by kernel_rfl
theorem Try.cells3 : Try.prog.cellsOf 3 = 1 := by kernel_rfl
theorem Try.cells9 : Try.prog.cellsOf 9 = 1 := by kernel_rfl
theorem Try.cells5 : Try.prog.cellsOf 5 = 1 := by kernel_rfl
theorem Try.cells26 : Try.prog.cellsOf 26 = 3 := by kernel_rfl
theorem Try.cells24 : Try.prog.cellsOf 24 = 3 := by kernel_rfl

theorem add_none (b off j : Nat) : (⟨b, off, none⟩ : Addr).add j = ⟨b, off + j, none⟩ := by unfold Addr.add; split <;> simp_all

section
variable {H : Type} {enc : TypeId × Value → H} {w : World} {base : Nat} {spare : Nat → Bool} {held : Bool}

theorem i64_range {n : Int} (h : (Lit.int .i64 n).wf = true) : -9223372036854775808 ≤ n ∧ n ≤ 9223372036854775807 := by
  simpa [Lit.wf, IntKind.min, IntKind.max, IntKind.signed, IntKind.bits] using h

theorem list4 {α : Type} {cs : List α} (h : cs.length = 4) : ∃ c0 c1 c2 c3, cs = [c0, c1, c2, c3] := by
  match cs, h with
  | [c0, c1, c2, c3], _ => exact ⟨c0, c1, c2, c3, rfl⟩

theorem open_level {fuel : Nat} {cs : List Value} {x : DataW H × List MemPlace} (h : DataW.trod enc Try.prog w base spare held fuel 76 cs = some x) :
    ∃ l : Lv, cs = l.cells ∧ -9223372036854775808 ≤ l.window ∧ l.window ≤ 9223372036854775807 ∧ l.rule.size ≤ maxLen := by
  obtain ⟨y0, y1, y2, y3, n, _, hlen, h0, h1, h2, h3⟩ := trod_struct4 Try.underlying76 h
  rw [Try.cells76] at hlen
  obtain ⟨c0, c1, c2, c3, rfl⟩ := list4 hlen
  simp only [Try.cells3, Try.cells9] at h0 h1 h2 h3
  obtain ⟨a, e0, _, _⟩ := DataW.trod_int Try.underlying3 h0
  obtain ⟨b, e1, _, wb⟩ := DataW.trod_int Try.underlying3 h1
  obtain ⟨s, e2, _, hs⟩ := DataW.trod_string Try.underlying9 h2
  obtain ⟨c, e3, _, _⟩ := DataW.trod_int Try.underlying3 h3
  simp at e0 e1 e2 e3
  subst e0 e1 e2 e3
  exact ⟨⟨a, b, s, c⟩, rfl, (i64_range wb).1, (i64_range wb).2, hs⟩

theorem open_levels {fuel : Nat} {v : Value} {y : DataW H × List MemPlace} (hf : DataW.trod enc Try.prog w base spare held fuel 22 [v] = some y) :
    ∃ a n cap ls, v = .slice a n cap ∧ IsLvs w a n ls ∧ LvWf ls ∧ (n = 0 ∨ ∃ D sp, y.1 = .slice D sp ∧ D.length = n) := by
  have zero : LvWf [] := fun i => by simp [lvG, Lv.zero, maxLen]
  rcases open_slice Try.underlying22 hf with ⟨hcs, _⟩ | ⟨a, len, cap, m, k, D, Pl, hcs, _, hl, hm, hmm, hx, he⟩
  · simp at hcs
    exact ⟨none, 0, 0, [], hcs, ⟨rfl, fun h => absurd h (by omega)⟩, zero, .inl rfl⟩
  · simp at hcs
    have hlm : len ≤ m := by rw [hmm]; split <;> omega
    rw [Try.cells76] at he
    have hall : ∀ i, i < len → ∃ l : Lv, (∀ j, j < 4 → w.cell? ((a.add (i * 4)).add j) = l.cells[j]?) ∧ -9223372036854775808 ≤ l.window ∧ l.window ≤ 9223372036854775807 ∧ l.rule.size ≤ maxLen := fun i hi => by
      obtain ⟨cs', h1, h2⟩ := he i (by omega)
      obtain ⟨l, rfl, hb⟩ := open_level h2
      exact ⟨l, (World.cells?_some h1).2.2, hb⟩
    haveI : Inhabited Lv := ⟨Lv.zero⟩
    obtain ⟨f, hff⟩ := choose_lt hall
    refine ⟨some a, len, cap, (List.range len).map f, hcs, ⟨by simp, fun hn => ?_⟩, fun i => ?_, .inr ⟨_, _, by rw [hx], by simp⟩⟩
    · obtain ⟨b, off, spot⟩ := a
      have h0 := (hff 0 hn).1 0 (by omega)
      have hspot : spot = none := by
        have := World.cell?_spot (h0.trans rfl)
        simpa [Addr.add] using this
      subst hspot
      refine ⟨b, off, rfl, fun i hi => ?_⟩
      simp at hi
      have hc := (hff i hi).1
      have e : lvG ((List.range len).map f) i = f i := by simp [lvG, List.getD, hi]
      rw [e]
      simp only [add_none] at hc
      exact ⟨hc 0 (by omega), hc 1 (by omega), hc 2 (by omega), hc 3 (by omega)⟩
    · by_cases hi : i < len
      · have e : lvG ((List.range len).map f) i = f i := by simp [lvG, List.getD, hi]
        rw [e]
        exact (hff i hi).2
      · have e : lvG ((List.range len).map f) i = Lv.zero := by simp [lvG, List.getD, hi]
        rw [e]
        simp [Lv.zero, maxLen]

set_option maxRecDepth 100000 in
theorem okWide_lab {r : Reach} {b0 : Nat} {v : Value} (h : Value.okWide Try.prog w r b0 26 v) : ∃ c0 c1 c2, v = .agg #[c0, c1, c2] := by
  simp only [Value.okWide, Try.underlying26] at h
  obtain ⟨cs, h1, h2, _⟩ := h
  rw [Try.cells26] at h2
  obtain ⟨c0, c1, c2, rfl⟩ := array3 h2
  exact ⟨c0, c1, c2, h1⟩

theorem open_labs {fuel : Nat} {c0 c1 c2 : Value} {y : DataW H × List MemPlace} (hf : DataW.trod enc Try.prog w base spare held fuel 26 [c0, c1, c2] = some y) :
    ∃ x z t, c0 = .int .u8 x ∧ c1 = .int .u8 z ∧ c2 = .int .u8 t ∧ (0 ≤ x ∧ x ≤ 255) ∧ (0 ≤ z ∧ z ≤ 255) ∧ (0 ≤ t ∧ t ≤ 255) := by
  obtain ⟨xs, m, _, _, _, hlen, he⟩ := DataW.trod_array Try.underlying26 hf
  rw [Try.cells5] at he
  have get : ∀ i, i < 3 → ∃ q, xs[i]? = some q := fun i hi => ⟨xs[i]'(by omega), by simp⟩
  have g0 := he 0 (by omega)
  have g1 := he 1 (by omega)
  have g2 := he 2 (by omega)
  obtain ⟨q0, e0⟩ := get 0 (by omega)
  obtain ⟨q1, e1⟩ := get 1 (by omega)
  obtain ⟨q2, e2⟩ := get 2 (by omega)
  rw [e0] at g0
  rw [e1] at g1
  rw [e2] at g2
  obtain ⟨x, a0, _, w0⟩ := DataW.trod_int Try.underlying5 g0
  obtain ⟨z, a1, _, w1⟩ := DataW.trod_int Try.underlying5 g1
  obtain ⟨t, a2, _, w2⟩ := DataW.trod_int Try.underlying5 g2
  simp at a0 a1 a2
  have u8 : ∀ {n : Int}, (Lit.int .u8 n).wf = true → 0 ≤ n ∧ n ≤ 255 := fun {n} h => by simpa [Lit.wf, IntKind.min, IntKind.max, IntKind.signed, IntKind.bits] using h
  exact ⟨x, z, t, a0, a1, a2, u8 w0, u8 w1, u8 w2⟩
end

end Go.Proofs.Ythciddpljcbhiaa

/- A slice of samples that came in, opened. -/
namespace Go.Proofs.Ythciddpljcbhiaa
open Go Go.RowKit Go.Deep Go.ChangeShapes Go.WideShapes Go.Joins

theorem Try.cells42 : Try.prog.cellsOf 42 = 5 := by kernel_rfl
theorem Try.cells21 : Try.prog.cellsOf 21 = 1 := by kernel_rfl

theorem list5 {α : Type} {cs : List α} (h : cs.length = 5) : ∃ c0 c1 c2 c3 c4, cs = [c0, c1, c2, c3, c4] := by
  match cs, h with
  | [c0, c1, c2, c3, c4], _ => exact ⟨c0, c1, c2, c3, c4, rfl⟩

section
variable {H : Type} {enc : TypeId × Value → H} {w : World} {base : Nat} {spare : Nat → Bool} {held : Bool}

theorem i32_range {n : Int} (h : (Lit.int .i32 n).wf = true) : -2147483648 ≤ n ∧ n ≤ 2147483647 := by
  simpa [Lit.wf, IntKind.min, IntKind.max, IntKind.signed, IntKind.bits] using h

theorem open_sample {fuel : Nat} {cs : List Value} {x : DataW H × List MemPlace} (h : DataW.trod enc Try.prog w base spare held fuel 42 cs = some x) :
    ∃ s : Sm, cs = s.cells ∧ s.wf := by
  obtain ⟨y0, y1, y2, n, _, hlen, h0, h1, h2⟩ := trod_struct3 Try.underlying42 h
  rw [Try.cells42] at hlen
  obtain ⟨c0, c1, c2, c3, c4, rfl⟩ := list5 hlen
  simp only [Try.cells3, Try.cells26, Try.cells21] at h0 h1 h2
  obtain ⟨a, e0, _, wa⟩ := DataW.trod_int Try.underlying3 h0
  obtain ⟨x, z, t, rfl, rfl, rfl, b0, b1, b2⟩ := open_labs (by simpa using h1)
  obtain ⟨v, e4, _, wv⟩ := DataW.trod_int Try.underlying21 h2
  simp at e0 e4
  subst e0 e4
  exact ⟨⟨a, x, z, t, v⟩, rfl, i64_range wa, b0, b1, b2, i32_range wv⟩

theorem open_samples {fuel : Nat} {v : Value} {y : DataW H × List MemPlace} (hf : DataW.trod enc Try.prog w base spare held fuel 28 [v] = some y) :
    ∃ a n cap ls, v = .slice a n cap ∧ IsSms w a n ls ∧ SmWf ls ∧ (n = 0 ∨ ∃ D sp, y.1 = .slice D sp ∧ D.length = n) := by
  have zwf : Sm.zero.wf := by simp [Sm.wf, Sm.zero]
  have zero : SmWf [] := fun i => by simpa [smG] using zwf
  rcases open_slice Try.underlying28 hf with ⟨hcs, _⟩ | ⟨a, len, cap, m, k, D, Pl, hcs, _, hl, hm, hmm, hx, he⟩
  · simp at hcs
    exact ⟨none, 0, 0, [], hcs, ⟨rfl, fun h => absurd h (by omega)⟩, zero, .inl rfl⟩
  · simp at hcs
    have hlm : len ≤ m := by rw [hmm]; split <;> omega
    rw [Try.cells42] at he
    have hall : ∀ i, i < len → ∃ l : Sm, (∀ j, j < 5 → w.cell? ((a.add (i * 5)).add j) = l.cells[j]?) ∧ l.wf := fun i hi => by
      obtain ⟨cs', h1, h2⟩ := he i (by omega)
      obtain ⟨l, rfl, hb⟩ := open_sample h2
      exact ⟨l, (World.cells?_some h1).2.2, hb⟩
    haveI : Inhabited Sm := ⟨Sm.zero⟩
    obtain ⟨f, hff⟩ := choose_lt hall
    refine ⟨some a, len, cap, (List.range len).map f, hcs, ⟨by simp, fun hn => ?_⟩, fun i => ?_, .inr ⟨_, _, by rw [hx], by simp⟩⟩
    · obtain ⟨b, off, spot⟩ := a
      have h0 := (hff 0 hn).1 0 (by omega)
      have hspot : spot = none := by
        have := World.cell?_spot (h0.trans rfl)
        simpa [Addr.add] using this
      subst hspot
      refine ⟨b, off, rfl, fun i hi => ?_⟩
      simp at hi
      have hc := (hff i hi).1
      have e : smG ((List.range len).map f) i = f i := by simp [smG, List.getD, hi]
      rw [e]
      simp only [add_none] at hc
      exact ⟨hc 0 (by omega), hc 1 (by omega), hc 2 (by omega), hc 3 (by omega), hc 4 (by omega)⟩
    · by_cases hi : i < len
      · have e : smG ((List.range len).map f) i = f i := by simp [smG, List.getD, hi]
        rw [e]
        exact (hff i hi).2
      · have e : smG ((List.range len).map f) i = Sm.zero := by simp [smG, List.getD, hi]
        rw [e]
        exact zwf
end

end Go.Proofs.Ythciddpljcbhiaa

/- A configuration's levels and a script that came in, opened. -/
namespace Go.Proofs.Ythciddpljcbhiaa
open Go Go.RowKit Go.Deep Go.ChangeShapes Go.WideShapes Go.Joins

theorem Try.cells100 : Try.prog.cellsOf 100 = 3 := by kernel_rfl
theorem Try.cells28 : Try.prog.cellsOf 28 = 1 := by kernel_rfl
theorem Try.xbytes42 : Try.prog.bytesOf 42 = 16 := by kernel_rfl
theorem Try.xbytes100 : Try.prog.bytesOf 100 = 40 := by kernel_rfl

section
variable {H : Type} {enc : TypeId × Value → H} {w : World} {base : Nat} {spare : Nat → Bool} {held : Bool}

theorem list3 {α : Type} {cs : List α} (h : cs.length = 3) : ∃ c0 c1 c2, cs = [c0, c1, c2] := by
  match cs, h with
  | [c0, c1, c2], _ => exact ⟨c0, c1, c2, rfl⟩

def Lv.wf2 (l : Lv) : Prop := (-9223372036854775808 ≤ l.age ∧ l.age ≤ 9223372036854775807) ∧ (-9223372036854775808 ≤ l.window ∧ l.window ≤ 9223372036854775807) ∧ l.rule.size ≤ maxLen ∧ -9223372036854775808 ≤ l.limit ∧ l.limit ≤ 9223372036854775807
theorem open_level2 {fuel : Nat} {cs : List Value} {x : DataW H × List MemPlace} (h : DataW.trod enc Try.prog w base spare held fuel 76 cs = some x) : ∃ l : Lv, cs = l.cells ∧ l.wf2 := by
  obtain ⟨y0, y1, y2, y3, n, _, hlen, h0, h1, h2, h3⟩ := trod_struct4 Try.underlying76 h
  rw [Try.cells76] at hlen
  obtain ⟨c0, c1, c2, c3, rfl⟩ := list4 hlen
  simp only [Try.cells3, Try.cells9] at h0 h1 h2 h3
  obtain ⟨a, e0, _, wa⟩ := DataW.trod_int Try.underlying3 h0
  obtain ⟨b, e1, _, wb⟩ := DataW.trod_int Try.underlying3 h1
  obtain ⟨s, e2, _, hs⟩ := DataW.trod_string Try.underlying9 h2
  obtain ⟨c, e3, _, wc⟩ := DataW.trod_int Try.underlying3 h3
  simp at e0 e1 e2 e3
  subst e0 e1 e2 e3
  exact ⟨⟨a, b, s, c⟩, rfl, i64_range wa, i64_range wb, hs, i64_range wc⟩
theorem zero_wf2 : Lv.zero.wf2 := by simp [Lv.wf2, Lv.zero, maxLen]

theorem open_levels2 {fuel : Nat} {v : Value} {y : DataW H × List MemPlace} (hf : DataW.trod enc Try.prog w base spare held fuel 22 [v] = some y) :
    ∃ a n cap ls, v = .slice a n cap ∧ IsLvs w a n ls ∧ LvWf2 ls := by
  rcases open_slice Try.underlying22 hf with ⟨hcs, _⟩ | ⟨a, len, cap, m, k, D, Pl, hcs, _, hl, hm, hmm, hx, he⟩
  · simp at hcs
    exact ⟨none, 0, 0, [], hcs, ⟨rfl, fun h => absurd h (by omega)⟩, fun i => by have h := zero_wf2; simpa [lvG, Lv.wf2] using h⟩
  · simp at hcs
    have hlm : len ≤ m := by rw [hmm]; split <;> omega
    rw [Try.cells76] at he
    have hall : ∀ i, i < len → ∃ l : Lv, (∀ j, j < 4 → w.cell? ((a.add (i * 4)).add j) = l.cells[j]?) ∧ l.wf2 := fun i hi => by
      obtain ⟨cs', h1, h2⟩ := he i (by omega)
      obtain ⟨l, rfl, hb⟩ := open_level2 h2
      exact ⟨l, (World.cells?_some h1).2.2, hb⟩
    haveI : Inhabited Lv := ⟨Lv.zero⟩
    obtain ⟨f, hff⟩ := choose_lt hall
    refine ⟨some a, len, cap, (List.range len).map f, hcs, ⟨by simp, fun hn => ?_⟩, fun i => ?_⟩
    · obtain ⟨b, off, spot⟩ := a
      have h0 := (hff 0 hn).1 0 (by omega)
      have hspot : spot = none := by
        have := World.cell?_spot (h0.trans rfl)
        simpa [Addr.add] using this
      subst hspot
      refine ⟨b, off, rfl, fun i hi => ?_⟩
      simp at hi
      have hc := (hff i hi).1
      have e : lvG ((List.range len).map f) i = f i := by simp [lvG, List.getD, hi]
      rw [e]
      simp only [add_none] at hc
      exact ⟨hc 0 (by omega), hc 1 (by omega), hc 2 (by omega), hc 3 (by omega)⟩
    · by_cases hi : i < len
      · have e : lvG ((List.range len).map f) i = f i := by simp [lvG, List.getD, hi]
        rw [e]
        exact (hff i hi).2
      · have e : lvG ((List.range len).map f) i = Lv.zero := by simp [lvG, List.getD, hi]
        rw [e]
        exact zero_wf2

/-- A step that came in. -/
theorem open_stp {fuel : Nat} {cs : List Value} {x : DataW H × List MemPlace} (h : DataW.trod enc Try.prog w base spare held fuel 100 cs = some x) (hw : ∀ k ∈ x.1.weights Try.prog 100, k ≤ reachBytes) :
    ∃ (o : Stp) (ba : Option Addr) (bn bc : Nat), cs = [.int .i64 o.kind, .int .i64 o.a, .slice ba bn bc] ∧ IsSms w ba bn o.batch ∧ bn ≤ 9000000000000 ∧ StpWf o := by
  obtain ⟨y0, y1, y2, n, rfl, hlen, h0, h1, h2⟩ := trod_struct3 Try.underlying100 h
  rw [Try.cells100] at hlen
  obtain ⟨c0, c1, c2, rfl⟩ := list3 hlen
  simp only [Try.cells3, Try.cells28] at h0 h1 h2
  obtain ⟨a, e0, d0, wa⟩ := DataW.trod_int Try.underlying3 h0
  obtain ⟨b, e1, d1, wb⟩ := DataW.trod_int Try.underlying3 h1
  simp at e0 e1
  subst e0 e1
  obtain ⟨ba, bn, bc, ls, e2, hs, hwf, hl⟩ := open_samples (v := c2) (y := y2) (by simpa using h2)
  subst e2
  refine ⟨⟨a, b, ls⟩, ba, bn, bc, rfl, hs, ?_, i64_range wa, i64_range wb, hwf⟩
  rcases hl with rfl | ⟨D, sp, hD, rfl⟩
  · omega
  · have hm := hw ((D.length + sp.length) * Try.prog.bytesOf 42) (by simp [DataW.weights, Try.underlying100, DataW.weightsEach, hD, Try.underlying28])
    rw [Try.xbytes42] at hm
    have hm' : (D.length + sp.length) * 16 ≤ 140737488351232 := hm
    omega
theorem weights_all {P : Program} {e : TypeId} : ∀ {l : List (DataW H)} {d : DataW H}, d ∈ l → ∀ k ∈ d.weights P e, k ∈ DataW.weightsAll P e l
  | x :: l, d, hd, k, hk => by
    rw [DataW.weightsAll, List.mem_append]
    rcases List.mem_cons.1 hd with rfl | hd
    · exact .inl hk
    · exact .inr (weights_all hd k hk)

theorem open_script {fuel : Nat} {v : Value} {y : DataW H × List MemPlace} (hf : DataW.trod enc Try.prog w base spare held fuel 52 [v] = some y) (hw : ∀ k ∈ y.1.weights Try.prog 52, k ≤ reachBytes) :
    ∃ a n cap l, v = .slice a n cap ∧ IsScr w a n l ∧ n ≤ 9000000000000 := by
  rcases open_slice Try.underlying52 hf with ⟨hcs, _⟩ | ⟨a, len, cap, m, k, D, Pl, hcs, _, hl, hm, hmm, rfl, he⟩
  · simp at hcs
    exact ⟨none, 0, 0, [], hcs, ⟨rfl, fun x hx => absurd hx (by simp), fun h => absurd h (by omega)⟩, by omega⟩
  · simp at hcs
    have hlm : len ≤ m := by rw [hmm]; split <;> omega
    rw [Try.cells100] at he
    have hW : ∀ i, i < len → ∀ k ∈ (D i).weights Try.prog 100, k ≤ reachBytes := fun i hi k hk => by
      refine hw k ?_
      simp only [DataW.weights, Try.underlying52, List.mem_cons, List.mem_append]
      exact .inr (.inl (weights_all (List.mem_map.2 ⟨i, List.mem_range.2 hi, rfl⟩) k hk))
    have hN : len ≤ 9000000000000 := by
      have h9 := hw ((len + (m - len)) * Try.prog.bytesOf 100) (by simp [DataW.weights, Try.underlying52])
      rw [Try.xbytes100] at h9
      have h9' : (len + (m - len)) * 40 ≤ 140737488351232 := h9
      omega
    have hall : ∀ i, i < len → ∃ o : Stp, (∃ ba bn bc, (∀ j, j < 3 → w.cell? ((a.add (i * 3)).add j) = ([.int .i64 o.kind, .int .i64 o.a, .slice ba bn bc] : List Value)[j]?) ∧ IsSms w ba bn o.batch ∧ bn ≤ 9000000000000) ∧ StpWf o := fun i hi => by
      obtain ⟨cs', h1, h2⟩ := he i (by omega)
      obtain ⟨o, ba, bn, bc, rfl, hs, hb, hwf⟩ := open_stp h2 (hW i hi)
      exact ⟨o, ⟨ba, bn, bc, (World.cells?_some h1).2.2, hs, hb⟩, hwf⟩
    haveI : Inhabited Stp := ⟨Stp.zero⟩
    obtain ⟨f, hff⟩ := choose_lt hall
    refine ⟨some a, len, cap, (List.range len).map f, hcs, ⟨by simp, fun x hx => ?_, fun hn => ?_⟩, hN⟩
    · obtain ⟨i, hi, rfl⟩ := List.mem_map.1 hx
      exact (hff i (List.mem_range.1 hi)).2
    · obtain ⟨b, off, spot⟩ := a
      obtain ⟨⟨ba, bn, bc, h0, _⟩, _⟩ := hff 0 hn
      have h00 := h0 0 (by omega)
      have hspot : spot = none := by
        have := World.cell?_spot (h00.trans rfl)
        simpa [Addr.add] using this
      subst hspot
      refine ⟨b, off, rfl, ?_, fun i hi => ?_⟩
      · have := World.block_lt_of_cell? w _ (h00.trans rfl)
        simpa [Addr.add] using this
      · obtain ⟨⟨ba, bn, bc, hc, hs, hb⟩, _⟩ := hff i hi
        have e : stpG ((List.range len).map f) i = f i := by simp [stpG, List.getD, hi]
        rw [e]
        simp only [add_none] at hc
        exact ⟨ba, bn, bc, hc 0 (by omega), hc 1 (by omega), hc 2 (by omega), hs, hb⟩
end

end Go.Proofs.Ythciddpljcbhiaa

/- Walks: Roomy. -/
namespace Go.Proofs.Ythciddpljcbhiaa
open Go Go.RowKit Go.Lib
attribute [local go_sem ↓] Go.wp_at_zero Go.wp_at_succ

/-! Labels in memory. -/
theorem Try.info26' : (Try.prog.info? 26).map (fun i => (i.zero, i.size, i.bytes)) = some (some (.agg #[.int .u8 0, .int .u8 0, .int .u8 0]), 3, 3) := by kernel_rfl
def flatB (l : List Lb) : List Value := l.flatMap lbC
theorem len3B (l : Lb) : (lbC l).length = 3 := rfl
def lbG (l : List Lb) (i : Nat) : Lb := l.getD i Lb.zero
theorem lbG_get (l : List Lb) (i : Nat) (h : i < l.length) : lbG l i = l[i] := by simp [lbG, List.getD, h]
theorem lbC_one (b : Lb) : ∀ v ∈ lbC b, v.oneCell' = true := by intro v hv; simp [lbC] at hv; rcases hv with h | h | h <;> subst h <;> rfl
theorem owns_lb {w : World} {base g n cap : Nat} {l : List Lb} (h : w.ownsRow base 26 3 (.slice (some ⟨g, 0, none⟩) n cap) n (flatB l)) (i : Nat) (hi : i < l.length) :
    w.cell? ⟨g, i * 3, none⟩ = some (.int .u8 (lbG l i).a) ∧ w.cell? ⟨g, i * 3 + 1, none⟩ = some (.int .u8 (lbG l i).b) ∧ w.cell? ⟨g, i * 3 + 2, none⟩ = some (.int .u8 (lbG l i).c) := by
  have k := fun j (hj : j < 3) => flat_get lbC 3 len3B l i j hj hi
  rw [lbG_get l i hi]
  exact ⟨owns_cell h (k 0 (by omega)), owns_cell h (k 1 (by omega)), owns_cell h (k 2 (by omega))⟩

/-! The labels that were seen. -/
def seenA (seen : List Lb) (b : Lb) : List Lb := if b ∈ seen then seen else seen ++ [b]
def seenK (l : List Sm) (k : Nat) : List Lb := ((l.take k).map Sm.lb).foldl seenA []
theorem seenK_succ (l : List Sm) (k : Nat) (h : k < l.length) : seenK l (k + 1) = seenA (seenK l k) (smG l k).lb := by
  unfold seenK
  rw [List.take_succ_eq_append_getElem h, List.map_append, List.foldl_append, smG_get l k h]
  rfl
theorem seenA_len (s : List Lb) (b : Lb) : (seenA s b).length ≤ s.length + 1 := by
  unfold seenA; split <;> simp
theorem seenK_len (l : List Sm) (k : Nat) : (seenK l k).length ≤ k := by
  induction k with
  | zero => simp [seenK]
  | succ k ih =>
    by_cases h : k < l.length
    · rw [seenK_succ l k h]; have := seenA_len (seenK l k) (smG l k).lb; omega
    · have e : seenK l (k + 1) = seenK l k := by unfold seenK; rw [List.take_of_length_le (by omega), List.take_of_length_le (by omega)]
      rw [e]; omega
theorem seenA_mem (s : List Lb) (b : Lb) : b ∈ seenA s b ∧ ∀ x ∈ s, x ∈ seenA s b := by
  unfold seenA
  split
  · next h => exact ⟨h, fun x hx => hx⟩
  · exact ⟨by simp, fun x hx => by simp [hx]⟩
theorem seen_all (l : List Sm) : ∀ k, k ≤ l.length → ∀ x ∈ l.take k, x.lb ∈ seenK l k := by
  intro k
  induction k with
  | zero => intro _ x hx; simp at hx
  | succ k ih =>
    intro hk x hx
    rw [seenK_succ l k (by omega)]
    rw [List.take_succ_eq_append_getElem (by omega), List.mem_append] at hx
    rcases hx with hx | hx
    · exact (seenA_mem _ _).2 _ (ih (by omega) x hx)
    · rw [List.mem_singleton] at hx
      rw [hx, ← smG_get l k (by omega)]
      exact (seenA_mem _ _).1
theorem take_mem_succ {l : List Lb} {b : Lb} {k : Nat} (h : k < l.length) : decide (b ∈ l.take (k + 1)) = (decide (b ∈ l.take k) || decide (lbG l k = b)) := by
  have e : (b ∈ l.take (k + 1)) ↔ (b ∈ l.take k ∨ lbG l k = b) := by
    rw [List.take_succ_eq_append_getElem h, List.mem_append, List.mem_singleton, lbG_get l k h]
    exact ⟨fun h => h.imp id Eq.symm, fun h => h.imp id Eq.symm⟩
  rw [decide_eq_decide.2 e]
  exact Bool.decide_or _ _
/-- Is there room at the first levels? -/
def roomK (lvs : List Lv) (n : Nat) (k : Nat) : Bool := (List.range k).all fun j => decide ((n : Int) ≤ (lvG lvs j).limit)
theorem roomK_succ (lvs : List Lv) (n k : Nat) : roomK lvs n (k + 1) = (roomK lvs n k && decide ((n : Int) ≤ (lvG lvs k).limit)) := by
  unfold roomK; rw [List.range_succ, List.all_append]; simp
theorem room_dots {s : St} (h : Inv s) (hr : roomK s.c.lvs (seenK s.l s.l.length).length s.c.lvs.length = true) : ∀ r ∈ s.rows (wholeQ s), r.key.g0 = 46 ∧ r.key.g1 = 46 ∧ r.key.g2 = 46 := by
  intro r hr'
  refine rows_room (whole_any' s).2 ?_ hr'
  refine roomy s h.right (fun x hx => ((smOk_iff x).1 (h.ok x hx).1).2.2) (seenK s.l s.l.length) (fun x hx => seen_all s.l _ (Nat.le_refl _) x (by rw [List.take_length]; exact hx)) ?_
  intro lv hlv
  obtain ⟨i, hi, rfl⟩ := List.getElem_of_mem hlv
  have := of_decide_eq_true (List.all_eq_true.1 hr i (List.mem_range.2 hi))
  have e : lvG s.c.lvs i = s.c.lvs[i] := by simp [lvG, List.getD, hi]
  rw [e] at this
  exact this
def oldK (s : St) (k : Nat) : Nat := ((s.l.take k).filter fun x => decide (oldT s ≤ x.time)).length
theorem oldK_succ (s : St) (k : Nat) (h : k < s.l.length) : oldK s (k + 1) = oldK s k + if oldT s ≤ (smG s.l k).time then 1 else 0 := by
  unfold oldK
  rw [List.take_succ_eq_append_getElem h, List.filter_append, List.length_append, ← smG_get s.l k h]
  by_cases hh : oldT s ≤ (smG s.l k).time <;> simp [hh]
theorem oldK_len (s : St) (k : Nat) : oldK s k ≤ k := by
  unfold oldK
  have := List.length_filter_le (fun x : Sm => decide (oldT s ≤ x.time)) (s.l.take k)
  have := List.length_take_le k s.l
  omega
theorem rows_old {s : St} (h : Inv s) : cntSum (s.rows (wholeQ s)) = (oldK s s.l.length : Int) := by
  rw [rows_count (whole_any' s).1]
  unfold oldK
  rw [List.take_length]
  congr 2
  apply List.filter_congr
  intro x hx
  have hp := h.past x hx
  have hd : s.now < (wholeQ s).to := by
    show s.now < (s.now / s.c.span + 1) * s.c.span
    have := (Cf.right_parts h.right).1
    have h1 := Int.lt_ediv_add_one_mul_self s.now (show 0 < s.c.span by omega)
    exact h1
  have hf : (wholeQ s).fr = oldT s := rfl
  unfold inQ
  rw [hf]
  have : decide (x.time < (wholeQ s).to) = true := by simp; omega
  rw [this, Bool.and_true]
theorem cntSum_snoc (l : List Rw) (k : Nat) (h : k < l.length) : cntSum (l.take (k + 1)) = cntSum (l.take k) + (rwG l k).ag.cnt := by
  unfold cntSum
  rw [List.take_succ_eq_append_getElem h, List.map_append, List.sum_append, rwG_get l k h]
  simp

set_option maxHeartbeats 4000000 in
set_option maxRecDepth 100000 in
theorem roomy_any (a : Option Addr) (n cap : Nat) (ls : List Lv) (span keep : Int) (sa : Option Addr) (sn sc : Nat) (l : List Stp) (w : World) (hls : IsLvs w a n ls) (hwf : LvWf2 ls) (s0 : -9223372036854775808 ≤ span) (s1 : span ≤ 9223372036854775807) (k0 : -9223372036854775808 ≤ keep) (k1 : keep ≤ 9223372036854775807)
    (hsc : IsScr w sa sn l) (hsn : sn ≤ 9000000000000) :
    Calls Try.prog 11 #[.agg #[.int .i64 span, .int .i64 keep, .slice a n cap], .slice sa sn sc] w fun e w' => e = .returned (.bool true) ∧ Below w.heap.size w w' := by
  have HB0 : Hid (Below w.heap.size w (w.alloc (.cells #[.int .i64 span, .int .i64 keep, .slice a n cap] 24))) := (Below.refl _ _).alloc (Nat.le_refl _) _
  have HPL := played_any a n cap ls span keep sa sn sc l _ (IsLvs.below hls HB0.out) hwf s0 s1 k0 k1 (IsScr.below hsc HB0.out) hsn
  clear hls hwf hsc
  generalize (playP (St.new (conf span keep ls)) ⟨#[]⟩ l).2 = LG at *
  generalize (playP (St.new (conf span keep ls)) ⟨#[]⟩ l).1 = S at *
  go_enter Try.func11, Try.ntmps11
  go_wp2_with fail
  refine HPL.mono ?_
  rintro e w1 ⟨D, rfl, ⟨X, F, L, lc, sv, hd⟩, hb1⟩
  have HB1 : Hid (Below w.heap.size w w1) := HB0.out.trans (hb1.mono (by simp))
  have HD1 : Hid (DkS w1 (w.heap.size + 1) D X F S L lc sv LG) := by show DkS _ _ _ _ _ _ _ _ _ _; simpa using hd
  have HI : Hid (Inv S) := hd.inv
  clear hb1 HPL hd
  obtain ⟨li0, hli, lz0, lz1, lz2⟩ := infP Try.info26'
  have l5 := HI.out.len
  obtain ⟨va, vc, rfl⟩ := ownForm HD1.out.sms
  have hDl := HD1.out.lt
  go_wp2_with fail
  go_loopw [6, 7] (fun sv' i wr => ∃ k : Nat, i = .int .i64 k ∧ k ≤ S.l.length ∧ wr.ownsRow w1.heap.size 26 3 sv' (seenK S.l k).length (flatB (seenK S.l k)) ∧ Below w1.heap.size w1 wr) (fun _ i _ => S.l.length - (intOf i).toNat)
  case atStart => exact ⟨0, rfl, Nat.zero_le _, World.ownsRow_nil _ _ _ _, Below.refl _ _⟩
  case round =>
    obtain ⟨k, rfl, hk, hown, hbel⟩ := hrel
    have HO : Hid (wr.ownsRow w1.heap.size 26 3 u6 (seenK S.l k).length (flatB (seenK S.l k))) := hown
    have HB : Hid (Below w1.heap.size w1 wr) := hbel
    have HD : Hid (DkS wr (w.heap.size + 1) D X F S L lc (.slice va S.l.length vc) LG) := HD1.out.below hbel
    have d5 := HD.out.cell 5 _ rfl
    have hsz := hbel.size
    have hsl := seenK_len S.l k
    obtain ⟨ea, ec, rfl⟩ := ownForm hown
    clear hown hbel
    by_cases hlt : k < S.l.length
    · obtain ⟨b, off, rfl, hat⟩ := (IsSms.of_owns HD.out.sms rfl).2 (by omega)
      obtain ⟨_, m1, m2, m3, _⟩ := hat k hlt
      have HAT : Hid (SmAt wr b off S.l) := hat
      have HSU : Hid (seenK S.l (k + 1) = seenA (seenK S.l k) (smG S.l k).lb) := seenK_succ S.l k hlt
      have hbl : b < wr.heap.size := hat.block (by omega)
      generalize hZ : smG S.l k = Z at *
      generalize hSE : seenK S.l k = E at *
      clear hat
      have HBD : Hid (∀ d, Below wr.heap.size wr (wr.drewN d)) := fun d => below_drewN (Below.refl _ _) d
      go_wp2_with fail
      go_loopw [8, 9] (fun o j wx => ∃ jj : Nat, j = .int .i64 jj ∧ jj ≤ E.length ∧ o = .bool (decide (Z.lb ∈ E.take jj)) ∧ ∃ d, wx = wr.drewN d) (fun _ j _ => E.length - (intOf j).toNat)
      case atStart => exact ⟨0, rfl, Nat.zero_le _, by simp, 0, rfl⟩
      case round =>
        obtain ⟨jj, rfl, hjj, rfl, d, rfl⟩ := hrel
        by_cases hlt2 : jj < E.length
        · obtain ⟨g, cap', he, _, hgs, hcap⟩ := ownBlockForm HO.out (by omega)
          obtain ⟨rfl, rfl⟩ : ea = some ⟨g, 0, none⟩ ∧ ec = cap' := by injection he with h1 h2 h3; exact ⟨h1, h3⟩
          obtain ⟨x0, x1, x2⟩ := owns_lb HO.out jj hlt2
          have HTK : Hid (decide (Z.lb ∈ E.take (jj + 1)) = (decide (Z.lb ∈ E.take jj) || decide (lbG E jj = Z.lb))) := take_mem_succ hlt2
          have HEQ : Hid (decide (lbG E jj = Z.lb) = ((lbG E jj).a == Z.l0 && (lbG E jj).b == Z.l1 && (lbG E jj).c == Z.l2)) := by
            show _ = _
            by_cases h : lbG E jj = Z.lb
            · rw [h]; simp [Sm.lb]
            · rw [decide_eq_false h]
              cases hq : ((lbG E jj).a == Z.l0 && (lbG E jj).b == Z.l1 && (lbG E jj).c == Z.l2)
              · rfl
              · simp only [Bool.and_eq_true, beq_iff_eq] at hq
                exact absurd (lb_ext hq.1.1 hq.1.2 hq.2) h
          generalize lbG E jj = Y at *
          have heq := fun w => eq26 9998 Y.a Y.b Y.c Z.l0 Z.l1 Z.l2 w
          cases hO : decide (Z.lb ∈ E.take jj)
          · rw [hO] at HTK
            go_wp2_with fail
            go_quiet (fail)
            go_wp2_with fail
            exact ⟨⟨jj + 1, by go_num, by omega, by rw [HTK.out, Bool.false_or, HEQ.out], _, rfl⟩, by simp [intOf]; omega⟩
          · rw [hO] at HTK
            go_wp2_with fail
            go_quiet (fail)
            go_wp2_with fail
            exact ⟨⟨jj + 1, by go_num, by omega, by rw [HTK.out, Bool.true_or], _, rfl⟩, by simp [intOf]; omega⟩
        · have hlt3 : ¬ (jj : Int) < E.length := by omega
          have HAL : Hid (E.take jj = E) := List.take_of_length_le (by omega)
          rw [HAL.out]
          have HOd : Hid ((wr.drewN d).ownsRow w1.heap.size 26 3 (.slice ea E.length ec) E.length (flatB E)) := HO.out
          have HBd : Hid (Below w1.heap.size w1 (wr.drewN d)) := below_drewN HB.out d
          have d5' : (wr.drewN d).cell? ⟨D, 5, none⟩ = some (.slice (some ⟨b, off, none⟩) S.l.length vc) := d5
          have m1' := (show (wr.drewN d).cell? _ = _ from m1)
          have m2' := (show (wr.drewN d).cell? _ = _ from m2)
          have m3' := (show (wr.drewN d).cell? _ = _ from m3)
          have hsz' : w1.heap.size ≤ (wr.drewN d).heap.size := hsz
          have hDw : D < (wr.drewN d).heap.size := Nat.lt_of_lt_of_le hDl hsz
          have hbw : b < (wr.drewN d).heap.size := hbl
          clear d5 m1 m2 m3
          generalize wr.drewN d = wq at *
          cases hO : decide (Z.lb ∈ E)
          · have HSN : Hid (seenA E Z.lb = E ++ [Z.lb]) := if_neg (of_decide_eq_false hO)
            go_wp2_with (refine listAppend rfl (.tmp 56) (.tmp 65) 74 rfl w1.heap.size 26 li0 (.agg #[.int .u8 0, .int .u8 0, .int .u8 0]) 3 3 Try.underlying74 hli lz0 lz1 lz2 rfl (by decide) (.slice ea E.length ec) E.length (flatB E) (by simp [Act.eval]) (HOd.out.alloc _) ⟨wq.heap.size, 0, none⟩ 1 1 (lbC Z.lb) (by simp [Act.eval]) rfl (newAt _ (lbC Z.lb) 26 _ rfl) (lbC_one _) (by unfold maxLen; omega) (by omega) (by simp; omega) ?_; intro v' w4 hown hgrow hblk)
            have HOW : Hid (w4.ownsRow w1.heap.size 26 3 v' (seenK S.l (k + 1)).length (flatB (seenK S.l (k + 1)))) := by
              show World.ownsRow _ _ _ _ _ _ _
              rw [HSU.out, HSN.out, List.length_append, show flatB (E ++ [Z.lb]) = flatB E ++ lbC Z.lb from flat_snoc _ _ _]
              exact hown
            have HBW : Hid (Below w1.heap.size w1 w4) := gr_below (HBd.out.alloc hsz' _) hgrow (by simp; omega) (fun j e => (HOd.out.lt j e).1)
            clear hown hgrow hblk
            go_wp2_with fail
            exact ⟨⟨k + 1, by go_num, by omega, HOW.out, HBW.out⟩, by simp [intOf]; omega⟩
          · have HSN : Hid (seenA E Z.lb = E) := if_pos (of_decide_eq_true hO)
            go_wp2_with fail
            exact ⟨⟨k + 1, by go_num, by omega, by rw [HSU.out, HSN.out]; exact HOd.out, HBd.out⟩, by simp [intOf]; omega⟩
    · have hlt2 : ¬ (k : Int) < S.l.length := by omega
      have hke : k = S.l.length := by omega
      subst hke
      obtain ⟨q1, q4⟩ := HD.out.len
      have d3 := HD.out.cell 3 _ rfl
      have hRD : Hid (roomK S.c.lvs (seenK S.l S.l.length).length S.c.lvs.length = true → ∀ r ∈ S.rows (wholeQ S), r.key.g0 = 46 ∧ r.key.g1 = 46 ∧ r.key.g2 = 46) := room_dots HI.out
      generalize seenK S.l S.l.length = E at *
      go_wp2_with fail
      go_loop [10, 11] (fun o i => ∃ kk : Nat, i = .int .i64 kk ∧ kk ≤ S.c.lvs.length ∧ o = .bool (roomK S.c.lvs E.length kk)) (fun _ i => S.c.lvs.length - (intOf i).toNat)
      case atStart => exact ⟨0, rfl, Nat.zero_le _, rfl⟩
      case round =>
        obtain ⟨kk, rfl, hkk, rfl⟩ := hrel
        by_cases hl3 : kk < S.c.lvs.length
        · obtain ⟨_, _, _, c3'⟩ := HD.out.lv kk hl3
          simp only [Nat.zero_add] at c3'
          have HRS : Hid (roomK S.c.lvs E.length (kk + 1) = (roomK S.c.lvs E.length kk && decide ((E.length : Int) ≤ (lvG S.c.lvs kk).limit))) := roomK_succ _ _ _
          generalize lvG S.c.lvs kk = V at *
          cases hR : roomK S.c.lvs E.length kk
          · rw [hR] at HRS
            go_wp2_with fail
            exact ⟨⟨kk + 1, by go_num, by omega, by rw [HRS.out]; rfl⟩, by simp [intOf]; omega⟩
          · rw [hR] at HRS
            go_wp2_with fail
            exact ⟨⟨kk + 1, by go_num, by omega, by rw [HRS.out, Bool.true_and]⟩, by simp [intOf]; omega⟩
        · have hl4 : ¬ (kk : Int) < S.c.lvs.length := by omega
          have hke : kk = S.c.lvs.length := by omega
          subst hke
          generalize roomK S.c.lvs E.length S.c.lvs.length = room at *
          have HQE : Hid (qE S.c S.now (wholeQ S) = 0) := whole_err HI.out
          have HQW : Hid ((wholeQ S).wf) := (whole_wq HI.out).wf rfl rfl
          have HRO : Hid (cntSum (S.rows (wholeQ S)) = (oldK S S.l.length : Int)) := rows_old HI.out
          have HRT : Hid (∀ k, k ≤ (S.rows (wholeQ S)).length → 0 ≤ cntSum ((S.rows (wholeQ S)).take k) ∧ cntSum ((S.rows (wholeQ S)).take k) ≤ 500) := fun k _ => by
            have h1 := cntSum_take (fun r hr => (rows_tg HI.out (wholeQ S) r hr).c0) k
            have h2 := rows_sum HI.out (wholeQ S)
            refine ⟨?_, by omega⟩
            have h3 := cntSum_take (l := (S.rows (wholeQ S)).take k) (fun r hr => (rows_tg HI.out (wholeQ S) r (List.mem_of_mem_take hr)).c0) 0
            simpa [cntSum] using h3
          have HRC : Hid (∀ k, k < (S.rows (wholeQ S)).length → 1 ≤ (rwG (S.rows (wholeQ S)) k).ag.cnt ∧ (rwG (S.rows (wholeQ S)) k).ag.cnt ≤ 1000000) := fun k hk => by
            have hm : rwG (S.rows (wholeQ S)) k ∈ S.rows (wholeQ S) := by rw [rwG_get _ _ hk]; exact List.getElem_mem _
            exact ⟨(rows_cnt S hm).1, (rows_smr HI.out (wholeQ S) k hk).2.1⟩
          have HRA : Hid (rowsA S (wholeQ S) = S.rows (wholeQ S)) := rowsA_ok HQE.out
          have hrm := rows_many HI.out (wholeQ S)
          have HWH : Hid (∀ W, Below wr.heap.size wr W → Calls Try.prog 20 #[.pointer (some ⟨D, 0, none⟩)] W fun e w' => e = .returned (.agg (qyC (wholeQ S))) ∧ Below wr.heap.size wr w') := fun W hW => by
            refine (whole_any D X S L S.c.lvs.length lc _ W HI.out (HD.out.below hW).blk).mono ?_
            rintro e w' ⟨rfl, hb⟩
            exact ⟨rfl, hW.trans (hb.mono hW.size)⟩
          have HQU : Hid (∀ W, Below wr.heap.size wr W → Calls Try.prog 21 #[.pointer (some ⟨X, 0, none⟩), .agg (qyC (wholeQ S))] W fun e w' => ∃ la lc, e = .returned (.tuple #[.slice la (S.rows (wholeQ S)).length lc, .int .i64 0]) ∧ w'.ownsRow wr.heap.size 72 8 (.slice la (S.rows (wholeQ S)).length lc) (S.rows (wholeQ S)).length (flatR (S.rows (wholeQ S))) ∧ Below wr.heap.size wr w') := fun W hW => by
            refine (query_any X F S (wholeQ S) W (HD.out.below hW).st HQW.out).mono ?_
            rintro e w' ⟨v, rfl, ho, hb⟩
            rw [HRA.out] at ho
            obtain ⟨la, lc', rfl⟩ := ownForm ho
            exact ⟨la, lc', by rw [HQE.out], owns_base ho (fun k e => Nat.le_trans hW.size (ho.lt k e).1), hW.trans (hb.mono hW.size)⟩
          have d0 := HD.out.cell 0 _ rfl
          generalize hQ : wholeQ S = Q at *
          generalize hRW : S.rows Q = R at *
          go_upto_region 20 with fail
          go_cut [12, 13] from 18 to 151 (fun lv ev wx => ∃ la lc, lv = .slice la R.length lc ∧ ev = .int .i64 0 ∧ wx.ownsRow wr.heap.size 72 8 (.slice la R.length lc) R.length (flatR R) ∧ Below wr.heap.size wr wx)
          case first =>
            go_region_with (first
              | (go_at_call 20; refine (HWH.out _ (by first | exact below_drewN (Below.refl _ _) _ | exact (Below.refl _ _).drew | exact Below.refl _ _)).mono ?_; rintro e w' ⟨rfl, hbw⟩; have dd0 : w'.cell? ⟨D, 0, none⟩ = some (.pointer (some ⟨X, 0, none⟩)) := (HD.out.below hbw).cell 0 _ rfl; have HBQ : Hid (Below wr.heap.size wr w') := hbw; clear hbw)
              | (go_at_call 21; refine (HQU.out _ HBQ.out).mono ?_; rintro e w'' ⟨la, lc', rfl, ho, hb⟩))
            all_goals go_wp2_with fail
            all_goals go_meet
            all_goals (case rel => exact ⟨la, lc', rfl, rfl, ho, hb⟩)
          case rest =>
            obtain ⟨la, lc', rfl, rfl, ho, hb⟩ := hcut
            have HR4 : Hid (RwsAt wc la R) := RwsAt.of_owns ho rfl
            have HD4 : Hid (DkS wc (w.heap.size + 1) D X F S L lc (.slice va S.l.length vc) LG) := HD.out.below hb
            have HB4 : Hid (Below w.heap.size w wc) := HB1.out.trans ((HB.out.trans (hb.mono hsz)).mono HB1.out.size)
            clear ho hb d0 d3 d5 HWH HQU
            go_wp2_with fail
            go_loop [14, 15] (fun tot i => ∃ kk : Nat, i = .int .i64 kk ∧ kk ≤ R.length ∧ tot = .int .i64 (cntSum (R.take kk))) (fun _ i => R.length - (intOf i).toNat)
            case atStart => exact ⟨0, rfl, Nat.zero_le _, rfl⟩
            case round =>
              obtain ⟨kk, rfl, hkk, rfl⟩ := hrel
              by_cases hl5 : kk < R.length
              · obtain ⟨g, rfl, _, hr⟩ := HR4.out (by omega)
                obtain ⟨_, x1, x2, x3, x4, _, _, _⟩ := hr kk hl5
                have HCS : Hid (cntSum (R.take (kk + 1)) = cntSum (R.take kk) + (rwG R kk).ag.cnt) := cntSum_snoc R kk hl5
                obtain ⟨b0, b1⟩ := HRT.out kk (by omega)
                obtain ⟨b2, b3⟩ := HRC.out kk hl5
                have HGD : Hid (room = true → (rwG R kk).key.g0 = 46 ∧ (rwG R kk).key.g1 = 46 ∧ (rwG R kk).key.g2 = 46) := fun h => hRD.out h _ (by rw [rwG_get R kk hl5]; exact List.getElem_mem _)
                clear hr
                generalize rwG R kk = Y at *
                generalize hcs : cntSum (R.take kk) = CS at *
                cases room
                · go_wp2_with fail
                  exact ⟨⟨kk + 1, by go_num, by omega, by rw [HCS.out]⟩, by simp [intOf]; omega⟩
                · obtain ⟨e0, e1, e2⟩ := HGD.out rfl
                  rw [e0] at x1
                  rw [e1] at x2
                  rw [e2] at x3
                  have heq := fun w => eq26 9998 46 46 46 46 46 46 w
                  clear e0 e1 e2
                  go_wp2_with fail
                  exact ⟨⟨kk + 1, by go_num, by omega, by rw [HCS.out]⟩, by simp [intOf]; omega⟩
              · have hl6 : ¬ (kk : Int) < R.length := by omega
                have HAL : Hid (cntSum (R.take kk) = (oldK S S.l.length : Int)) := by show _ = _; rw [List.take_of_length_le (by omega)]; exact HRO.out
                rw [HAL.out]
                have d5 := HD4.out.cell 5 _ rfl
                have hDc := HD4.out.lt
                have HOL : Hid (∀ d, Calls Try.prog 28 #[.pointer (some ⟨D, 0, none⟩)] (wc.drewN d) fun e w' => e = .returned (.int .i64 (oldT S)) ∧ ∃ k, w' = (wc.drewN d).drewN k) := fun d => oldest_any D X S L S.c.lvs.length lc _ (wc.drewN d) HI.out HD4.out.blk
                have hok := oldK_len S S.l.length
                clear HAL
                go_wp2_with fail
                go_loopw [16, 17] (fun nv i wx => ∃ jj : Nat, i = .int .i64 jj ∧ jj ≤ S.l.length ∧ nv = .int .i64 (oldK S jj) ∧ ∃ d, wx = wc.drewN d) (fun _ i _ => S.l.length - (intOf i).toNat)
                case atStart => exact ⟨0, rfl, Nat.zero_le _, rfl, 0, rfl⟩
                case round =>
                  obtain ⟨jj, rfl, hjj, rfl, d, rfl⟩ := hrel
                  by_cases hl7 : jj < S.l.length
                  · obtain ⟨b, off, rfl, hat⟩ := (IsSms.of_owns HD4.out.sms rfl).2 (by omega)
                    obtain ⟨m0, _, _, _, _⟩ := hat jj hl7
                    have HOS : Hid (oldK S (jj + 1) = oldK S jj + if oldT S ≤ (smG S.l jj).time then 1 else 0) := oldK_succ S jj hl7
                    have hok2 := oldK_len S jj
                    generalize smG S.l jj = Z at *
                    clear hat
                    go_upto_region 34 with fail
                    go_cut [146] from 127 to 148 (fun v wx => v = .bool (decide (oldT S ≤ Z.time)) ∧ ∃ d, wx = wc.drewN d)
                    case first =>
                      go_region_with (go_at_call 28; refine (HOL.out _).mono ?_; rintro e w' ⟨rfl, dd, rfl⟩)
                      all_goals go_wp2_with fail
                      all_goals go_meet
                      all_goals (case rel => exact ⟨rfl, _, rfl⟩)
                    case rest =>
                      obtain ⟨rfl, d', rfl⟩ := hcut
                      by_cases ho : oldT S ≤ Z.time
                      · rw [if_pos ho] at HOS
                        rw [decide_eq_true ho]
                        go_wp2_with fail
                        exact ⟨⟨jj + 1, by go_num, by omega, by rw [HOS.out]; go_num, d', rfl⟩, by simp [intOf]; omega⟩
                      · rw [if_neg ho] at HOS
                        rw [decide_eq_false ho]
                        go_wp2_with fail
                        exact ⟨⟨jj + 1, by go_num, by omega, by rw [HOS.out]; rfl, d', rfl⟩, by simp [intOf]; omega⟩
                  · have hl8 : ¬ (jj : Int) < S.l.length := by omega
                    have hje : jj = S.l.length := by omega
                    subst hje
                    go_wp2_with fail
                    go_ret
                    exact ⟨rfl, below_drewN HB4.out d⟩

end Go.Proofs.Ythciddpljcbhiaa
