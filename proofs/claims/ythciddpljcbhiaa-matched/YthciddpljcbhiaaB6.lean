/- Texts of one claim put together: Stw, Ask, Opn, OpS, OpX, Gro, Mat. -/
import Derived.Test.YthciddpljcbhiaaB5
import Derived.Test.YthciddpljcbhiaaB4
import Derived.Test.YthciddpljcbhiaaA
import Derived.Test.YthciddpljcbhiaaProg
import Derived.ProofKit
import Derived.OpenShut
import Derived.Deep.Slices
import Derived.Lib.SmallJoins
import Derived.Deep.Strs
import Derived.SizedLaws
import Derived.Deep.DrawnRows

/- Walks: rows as one for each step (garnerkeep). -/
namespace Go.Proofs.Ythciddpljcbhiaa
open Go Go.RowKit

theorem conv3At (w : World) (g o : Nat) (a b c : Int) (h0 : w.cell? ⟨g, o, none⟩ = some (.int .u8 a)) (h1 : w.cell? ⟨g, o + 1, none⟩ = some (.int .u8 b)) (h2 : w.cell? ⟨g, o + 2, none⟩ = some (.int .u8 c)) :
    (convert 50 9 (.slice (some ⟨g, o, none⟩) 3 3)).run Try.prog w = .ok (.string (strOfNums [a, b, c])) w := by
  refine run_convert_bytes_arg (P := Try.prog) _ 50 5 Try.underlying50 Try.underlying5 _ o _ 3 [a, b, c] rfl (fun i hi => ?_) 9 Try.underlying9
  have hi3 : i < 3 := hi
  have : i = 0 ∨ i = 1 ∨ i = 2 := by omega
  rcases this with rfl | rfl | rfl
  · exact h0
  · exact h1
  · exact h2

set_option maxHeartbeats 4000000 in
set_option maxRecDepth 100000 in
theorem steps_yes (a : Option Addr) (m cap N : Nat) (l : List Rw) (w : World) (hat : RwsAt w a l) (hm : l.length = m) (hm2 : m ≤ 1000) (hN : N ≤ 1000) (hg : Goods N l) (hs : SmRs l) (hss : ∀ k, k ≤ m → ∀ i, SmR (rwG (stK N l k) i).ag)
    (hgb : ∀ r ∈ l, (0 ≤ r.key.g0 ∧ r.key.g0 ≤ 255) ∧ (0 ≤ r.key.g1 ∧ r.key.g1 ≤ 255) ∧ (0 ≤ r.key.g2 ∧ r.key.g2 ≤ 255)) :
    Calls Try.prog 22 #[.slice a m cap, .int .i64 N] w fun e w' => ∃ g, e = .returned (.tuple #[.slice (some ⟨g, 0, none⟩) N N, .bool true]) ∧ w'.ownsRow w.heap.size 72 8 (.slice (some ⟨g, 0, none⟩) N N) N (flatR (stepsR N l)) ∧ Below w.heap.size w w' := by
  have HA : Hid (RwsAt w a l) := hat
  have HM : Hid (l.length = m) := hm
  have HG : Hid (Goods N l) := hg
  have HS : Hid (SmRs l) := hs
  have HSS : Hid (∀ k, k ≤ m → ∀ i, SmR (rwG (stK N l k) i).ag) := hss
  have HGB : Hid (∀ r ∈ l, (0 ≤ r.key.g0 ∧ r.key.g0 ≤ 255) ∧ (0 ≤ r.key.g1 ∧ r.key.g1 ≤ 255) ∧ (0 ≤ r.key.g2 ∧ r.key.g2 ≤ 255)) := hgb
  have hmk := make72 N hN
  clear hat hm hg hs hss hgb
  go_enter Try.func22, Try.ntmps22
  go_wp2_with fail
  go_loopw [7] (fun i wr => ∃ k : Nat, i = .int .i64 k ∧ k ≤ m ∧ wr.ownsRow w.heap.size 72 8 (.slice (some ⟨w.heap.size, 0, none⟩) N N) N (flatR (stK N l k)) ∧ Below w.heap.size w wr) (fun i _ => m - (intOf i).toNat)
  case atStart => exact ⟨0, rfl, Nat.zero_le _, by rw [stK_zero]; exact owns_made w N _ hN (Nat.le_refl _), (Below.refl _ _).alloc (Nat.le_refl _) _⟩
  case round =>
    obtain ⟨k, rfl, hk, hown, hbel⟩ := hrel
    have HO : Hid (wr.ownsRow w.heap.size 72 8 (.slice (some ⟨w.heap.size, 0, none⟩) N N) N (flatR (stK N l k))) := hown
    have HB : Hid (Below w.heap.size w wr) := hbel
    clear hown hbel hmk
    by_cases hlt : k < m
    · obtain ⟨g, rfl, hgs, hra⟩ := HA.out (by rw [HM.out]; omega)
      have hmem : rwG l k ∈ l := by rw [rwG_get l k (by rw [HM.out]; exact hlt)]; exact List.getElem_mem _
      obtain ⟨s0, s1⟩ := HG.out.s0 _ hmem
      obtain ⟨k1, k2⟩ := HG.out.ok _ hmem
      have hat := (hra k (by rw [HM.out]; exact hlt)).block (HB.out.block g hgs)
      have HSR := HS.out k (by rw [HM.out]; exact hlt)
      have hsz := HB.out.size
      have hgr : g < wr.heap.size := by omega
      have HST : Hid (stK N l (k + 1) = (stK N l k).set (rwG l k).key.st.toNat (joinR (rwG (stK N l k) (rwG l k).key.st.toNat) (rwG l k))) := stK_succ N l k (by rw [HM.out]; exact hlt)
      have HSX := HSS.out k hk
      have HPRE : Hid (∀ j, k = j + 1 → ∃ P : Rw, RwAt wr g (j * 8) P ∧ P.key.lt (rwG l k).key ∧ ((0 ≤ P.key.g0 ∧ P.key.g0 ≤ 255) ∧ (0 ≤ P.key.g1 ∧ P.key.g1 ≤ 255) ∧ (0 ≤ P.key.g2 ∧ P.key.g2 ≤ 255))) := fun j e =>
        ⟨rwG l j, (hra j (by rw [HM.out]; omega)).block (HB.out.block g hgs), up_le HG.out.up (by omega) (by rw [HM.out]; exact hlt), HGB.out _ (by rw [rwG_get l j (by rw [HM.out]; omega)]; exact List.getElem_mem _)⟩
      have hgbR := HGB.out _ hmem
      clear hmem hra
      generalize hR : rwG l k = R at *
      obtain ⟨st, hst⟩ : ∃ st : Nat, R.key.st = st := ⟨R.key.st.toNat, by omega⟩
      have hstN : st < N := by omega
      obtain ⟨x0, x1, x2, x3, x4, x5, x6, x7⟩ := hat
      rw [hst] at x0
      have u1 : decide ((st : Int) < 0) = false := by simp
      have u2 : decide ((N : Int) ≤ (st : Int)) = false := by simp; omega
      have u2' : decide (N ≤ st) = false := by simp; omega
      have u3 : decide (R.ag.cnt < 1) = false := by simp; omega
      have u4 : decide (R.ag.mx < R.ag.mn) = false := by simp; omega
      have HRa : Hid (RwAt wr g (k * 8) R) := ⟨by rw [hst]; exact x0, x1, x2, x3, x4, x5, x6, x7⟩
      rw [show R.key.st.toNat = st by omega] at HST
      have HSTT : Hid (R.key.st = st) := hst
      have HRR : Hid (rwG l k = R) := hR
      clear hst hR
      go_upto_region 6 with fail
      go_cut [52] from 25 to 52 (fun v wx => v = .bool false ∧ Below wr.heap.size wr wx)
      case first =>
        go_quiet (fail)
        go_wp2_with fail
        go_meet
        case rel => exact ⟨rfl, below_drewN (Below.refl _ _) _⟩
      case rest =>
        obtain ⟨rfl, hwb⟩ := hcut
        have HRc : Hid (RwAt wc g (k * 8) R) := HRa.out.below hwb
        have HOc : Hid (wc.ownsRow w.heap.size 72 8 (.slice (some ⟨w.heap.size, 0, none⟩) N N) N (flatR (stK N l k))) := owns_below HO.out hwb (fun k hk => (HO.out.lt k hk).2)
        have HBc : Hid (Below w.heap.size w wc) := HB.out.trans (hwb.mono hsz)
        have hszc : w.heap.size ≤ wc.heap.size := HBc.out.size
        have HPc : Hid (∀ j, k = j + 1 → ∃ P : Rw, RwAt wc g (j * 8) P ∧ P.key.lt R.key ∧ ((0 ≤ P.key.g0 ∧ P.key.g0 ≤ 255) ∧ (0 ≤ P.key.g1 ∧ P.key.g1 ≤ 255) ∧ (0 ≤ P.key.g2 ∧ P.key.g2 ≤ 255))) := fun j e =>
          let ⟨P, h1, h2, h3⟩ := HPRE.out j e; ⟨P, h1.below hwb, h2, h3⟩
        have hgc : g < wc.heap.size := by have := hwb.size; omega
        clear hwb x0 x1 x2 x3 x4 x5 x6 x7 HRa HPRE HO
        have hGc : w.heap.size < wc.heap.size := (HOc.out.lt _ rfl).2
        have HA0 := owns_rw HOc.out st (by rw [stK_len]; exact hstN)
        have HSA := HSX st
        generalize hA : rwG (stK N l k) st = A at *
        have HJ : Hid (∀ W, Below wc.heap.size wc W → Calls Try.prog 27 #[.agg (rwC A), .agg #[.int .i64 (st : Int), .int .u8 R.key.g0, .int .u8 R.key.g1, .int .u8 R.key.g2, .int .i64 R.ag.cnt, .int .i64 R.ag.sum, .int .i32 R.ag.mn, .int .i32 R.ag.mx]] W fun e w' => e = .returned (.agg (rwC (joinR A R))) ∧ RwAt w' w.heap.size (st * 8) A ∧ RwAt w' g (k * 8) R ∧ (∀ o, w'.frozen? ⟨w.heap.size, o, none⟩ = false) ∧ w'.ownsRow w.heap.size 72 8 (.slice (some ⟨w.heap.size, 0, none⟩) N N) N (flatR (stK N l k)) ∧ Below w.heap.size w w') := by
          intro W hW
          have hc := joined_any A R W HSA HSR
          have e9 : rwC R = #[.int .i64 (st : Int), .int .u8 R.key.g0, .int .u8 R.key.g1, .int .u8 R.key.g2, .int .i64 R.ag.cnt, .int .i64 R.ag.sum, .int .i32 R.ag.mn, .int .i32 R.ag.mx] := by unfold rwC; rw [HSTT.out]
          rw [e9] at hc
          refine hc.mono ?_
          rintro e w' ⟨rfl, hb'⟩
          have hb2 : Below wc.heap.size wc w' := hW.trans (hb'.mono hW.size)
          have ho2 := owns_below HOc.out hb2 (fun k hk => (HOc.out.lt k hk).2)
          exact ⟨rfl, HA0.below hb2, HRc.out.below hb2, owns_frozen ho2, ho2, HBc.out.trans (hb2.mono hszc)⟩
        obtain ⟨a0, a1, a2, a3, a4, a5, a6, a7⟩ := HA0
        obtain ⟨x0, x1, x2, x3, x4, x5, x6, x7⟩ := HRc.out
        rw [HSTT.out] at x0
        have HAA : Hid (rwG (stK N l k) st = A) := hA
        clear hA
        by_cases hk0 : k = 0
        · subst hk0
          simp only [Nat.zero_mul, Nat.zero_add] at x0 x1 x2 x3 x4 x5 x6 x7
          go_wp2_with fail
          go_region_with (go_at_call 27; refine (HJ.out _ (by first | exact (Below.refl _ _).drew | exact below_drewN (Below.refl _ _) _)).mono ?_; rintro e w' ⟨rfl, hya, hyr, hfz, hown2, hbw2⟩; obtain ⟨b0, b1, b2, b3, b4, b5, b6, b7⟩ := hya; obtain ⟨z0, z1, z2, z3, z4, z5, z6, z7⟩ := hyr; rw [HSTT.out] at z0)
          all_goals go_wp2_with fail
          all_goals exact ⟨⟨_ + 1, by go_num, by omega, by rw [HST.out]; exact owns_rwset8 hown2 st (by rw [stK_len]; exact hstN) (joinR A R), set8_below hbw2 (Nat.le_refl _)⟩, by simp [intOf]; omega⟩
        · obtain ⟨j, rfl⟩ : ∃ j, k = j + 1 := ⟨k - 1, by omega⟩
          obtain ⟨P, ⟨y0, y1, y2, y3, y4, y5, y6, y7⟩, hlt2, hgbP⟩ := HPc.out j rfl
          have HLT : Hid (P.key.lt R.key) := hlt2
          clear hlt2
          by_cases hps : P.key.st = (st : Int)
          · have HPS : Hid (P.key.st = (st : Int)) := hps
            rw [hps] at y0
            clear hps
            have hcP := conv3At (wc.alloc (.cells #[.int .i64 (st : Int), .int .u8 P.key.g0, .int .u8 P.key.g1, .int .u8 P.key.g2, .int .i64 P.ag.cnt, .int .i64 P.ag.sum, .int .i32 P.ag.mn, .int .i32 P.ag.mx] 72)) wc.heap.size 1 P.key.g0 P.key.g1 P.key.g2 (by simp [go_sem]) (by simp [go_sem]) (by simp [go_sem])
            have hcR := conv3At (wc.alloc (.cells #[.int .i64 (st : Int), .int .u8 P.key.g0, .int .u8 P.key.g1, .int .u8 P.key.g2, .int .i64 P.ag.cnt, .int .i64 P.ag.sum, .int .i32 P.ag.mn, .int .i32 P.ag.mx] 72)) g ((j + 1) * 8 + 1) R.key.g0 R.key.g1 R.key.g2 (cell_alloc1 x1) (cell_alloc1 x2) (cell_alloc1 x3)
            have hbl := str_less hgbP hgbR (HPS.out.trans HSTT.out.symm) HLT.out
            go_wp2_with fail
            go_region_with (go_at_call 27; refine (HJ.out _ (by first | exact ((Below.refl _ _).alloc (Nat.le_refl _) _).drew | exact below_drewN ((Below.refl _ _).alloc (Nat.le_refl _) _) _)).mono ?_; rintro e w' ⟨rfl, hya, hyr, hfz, hown2, hbw2⟩; obtain ⟨b0, b1, b2, b3, b4, b5, b6, b7⟩ := hya; obtain ⟨z0, z1, z2, z3, z4, z5, z6, z7⟩ := hyr; rw [HSTT.out] at z0)
            all_goals go_wp2_with fail
            all_goals exact ⟨⟨j + 1 + 1, by go_num, by omega, by rw [HST.out]; exact owns_rwset8 hown2 st (by rw [stK_len]; exact hstN) (joinR A R), set8_below hbw2 (Nat.le_refl _)⟩, by simp [intOf]; omega⟩
          · have hps2 : P.key.st < (st : Int) := by
              have h9 := HLT.out
              have h8 := HSTT.out
              unfold Key.lt at h9
              omega
            have hpb : (P.key.st == (st : Int)) = false := by simp; omega
            have hpd : decide ((st : Int) < P.key.st) = false := by simp; omega
            have hcP := conv3At (wc.alloc (.cells #[.int .i64 P.key.st, .int .u8 P.key.g0, .int .u8 P.key.g1, .int .u8 P.key.g2, .int .i64 P.ag.cnt, .int .i64 P.ag.sum, .int .i32 P.ag.mn, .int .i32 P.ag.mx] 72)) wc.heap.size 1 P.key.g0 P.key.g1 P.key.g2 (by simp [go_sem]) (by simp [go_sem]) (by simp [go_sem])
            have hcR := conv3At (wc.alloc (.cells #[.int .i64 P.key.st, .int .u8 P.key.g0, .int .u8 P.key.g1, .int .u8 P.key.g2, .int .i64 P.ag.cnt, .int .i64 P.ag.sum, .int .i32 P.ag.mn, .int .i32 P.ag.mx] 72)) g ((j + 1) * 8 + 1) R.key.g0 R.key.g1 R.key.g2 (cell_alloc1 x1) (cell_alloc1 x2) (cell_alloc1 x3)
            go_wp2_with fail
            go_region_with (go_at_call 27; refine (HJ.out _ (by first | exact ((Below.refl _ _).alloc (Nat.le_refl _) _).drew | exact below_drewN ((Below.refl _ _).alloc (Nat.le_refl _) _) _)).mono ?_; rintro e w' ⟨rfl, hya, hyr, hfz, hown2, hbw2⟩; obtain ⟨b0, b1, b2, b3, b4, b5, b6, b7⟩ := hya; obtain ⟨z0, z1, z2, z3, z4, z5, z6, z7⟩ := hyr; rw [HSTT.out] at z0)
            all_goals go_wp2_with fail
            all_goals exact ⟨⟨j + 1 + 1, by go_num, by omega, by rw [HST.out]; exact owns_rwset8 hown2 st (by rw [stK_len]; exact hstN) (joinR A R), set8_below hbw2 (Nat.le_refl _)⟩, by simp [intOf]; omega⟩
    · have hke : k = m := by omega
      have HE : Hid (stK N l k = stepsR N l) := by show _ = _; unfold stK; rw [List.take_of_length_le (by rw [HM.out]; omega)]
      go_wp2_with fail
      go_ret2
      exact ⟨w.heap.size, rfl, by rw [← HE.out]; exact HO.out, HB.out⟩

end Go.Proofs.Ythciddpljcbhiaa

/- What a desk's store is asked (garnerkeep). -/
namespace Go.Proofs.Ythciddpljcbhiaa
open Go Go.RowKit Go.Lib

theorem IsSms.of_owns {w : World} {B : Nat} {a : Option Addr} {n cap : Nat} {l : List Sm} (h : w.ownsRow B 42 5 (.slice a n cap) n (flatS l)) (hn : l.length = n) : IsSms w a n l := ⟨hn, fun hp => by
  obtain ⟨g, c', he, _⟩ := ownBlockForm h hp
  injection he with h1 h2 h3
  subst h1
  exact ⟨g, 0, rfl, smAt_of (owns_at h)⟩⟩
theorem rowsA_ok {s : St} {q : Qy} (h : qE s.c s.now q = 0) : rowsA s q = s.rows q := if_pos h
/-- A query's box, behind a call. -/
theorem box5q {w w1 : World} {q : Qy} (hb : Below (w.alloc (.cells (qyC q) 56)).heap.size (w.alloc (.cells (qyC q) 56)) w1) : w.heap.size < w1.heap.size ∧ w1.heap[w.heap.size]? = some (.cells (qyC q) 56 (0, 0)) := by
  have hz := hb.size
  rw [World.size_alloc] at hb hz
  exact ⟨by omega, by rw [hb.block _ (by omega), heap_alloc_new]⟩

theorem WQ.wf {s : St} {q : Qy} {N : Nat} (h : WQ s q N) (hm : q.mt.size = 3) (hg : q.gb.size = 3) : q.wf := by
  obtain ⟨f0, f1, f2, t1, t2, _, _, _, _⟩ := h
  exact ⟨by omega, by omega, by omega, by omega, by omega, by omega, by rw [hm]; unfold maxLen; omega, by rw [hg]; unfold maxLen; omega⟩
/-- A query of a store, asked at a world or behind draws. -/
def QAsk (w : World) (X : Nat) (q : Qy) (rows : List Rw) (E : Int) : Prop := ∀ d, Calls Try.prog 21 #[.pointer (some ⟨X, 0, none⟩), .agg (qyC q)] (w.drewN d) fun e w' => ∃ la lc, e = .returned (.tuple #[.slice la rows.length lc, .int .i64 E]) ∧ w'.ownsRow w.heap.size 72 8 (.slice la rows.length lc) rows.length (flatR rows) ∧ Below w.heap.size w w'
theorem QAsk.of {w : World} {X : Nat} {F : Nat → Prop} {s : St} {q : Qy} {lg : ByteArray} (h : StoreAt w X F s lg) (hq : q.wf) : QAsk w X q (rowsA s q) (qE s.c s.now q) := fun d => by
  refine (query_any X F s q (w.drewN d) (h.below (below_drewN (Below.refl _ _) d)) hq).mono ?_
  rintro e w' ⟨v, rfl, ho, hb⟩
  obtain ⟨la, lc, rfl⟩ := ownForm ho
  exact ⟨la, lc, rfl, ho, below_und hb⟩

/-- A cell of another block set. -/
theorem DkS.set {w : World} {B D X : Nat} {F : Nat → Prop} {s : St} {L lc : Nat} {sv : Value} {lg : ByteArray} (h : DkS w B D X F s L lc sv lg) {P o : Nat} (v : Value) (hD : P ≠ D) (hF : ¬ F P) (hL : P ≠ L) (hS : sv.ownBlock ≠ some P) : DkS (w.setCell ⟨P, o, none⟩ v) B D X F s L lc sv lg := by
  have hfr : Fr (fun k => k = P) w (w.setCell ⟨P, o, none⟩ v) := Fr.setCell (S := fun k => k = P) (Fr.refl _ _) (.inl rfl) _
  have hs : (w.setCell ⟨P, o, none⟩ v).heap.size = w.heap.size := by simp [World.setCell]
  exact ⟨by rw [Below.heap_setCell _ _ _ _ (Ne.symm hD)]; exact h.blk, h.st.keep (fun k e _ => Below.heap_setCell _ _ _ _ (fun e' => hF ((show k = P from e') ▸ e))), lvAt_of (At.fr (at_of_lv h.lv) hfr (fun e => hL e.symm)), owns_other h.sms hS, fun k e => ⟨(h.fb k e).1, by rw [hs]; exact (h.fb k e).2⟩, h.bD, h.nD, h.nL, h.DL, h.bS⟩
theorem RwAt.set {w : World} {g i : Nat} {r : Rw} (h : RwAt w g i r) {P o : Nat} (v : Value) (hP : g ≠ P) : RwAt (w.setCell ⟨P, o, none⟩ v) g i r := by
  obtain ⟨h0, h1, h2, h3, h4, h5, h6, h7⟩ := h
  have k : ∀ j, (w.setCell ⟨P, o, none⟩ v).cell? ⟨g, j, none⟩ = w.cell? ⟨g, j, none⟩ := fun j => World.cell?_of_block (Below.heap_setCell _ _ _ _ hP)
  exact ⟨(k _).trans h0, (k _).trans h1, (k _).trans h2, (k _).trans h3, (k _).trans h4, (k _).trans h5, (k _).trans h6, (k _).trans h7⟩
theorem RwsAt.set {w : World} {a : Option Addr} {l : List Rw} (h : RwsAt w a l) {P o : Nat} (v : Value) (hP : ∀ g, a = some ⟨g, 0, none⟩ → g ≠ P) : RwsAt (w.setCell ⟨P, o, none⟩ v) a l := by
  intro hp
  obtain ⟨g, e, hl, hr⟩ := h hp
  exact ⟨g, e, by simpa [World.setCell] using hl, fun i hi => (hr i hi).set v (hP g e)⟩
/-! Rows of what is answered or refused. -/
theorem rowsA_cases (s : St) (q : Qy) : rowsA s q = s.rows q ∨ rowsA s q = [] := by unfold rowsA; split; exact .inl rfl; exact .inr rfl
theorem rowsA_sub (s : St) (q : Qy) {r : Rw} (h : r ∈ rowsA s q) : r ∈ s.rows q := by
  rcases rowsA_cases s q with e | e
  · rw [e] at h; exact h
  · rw [e] at h; cases h
theorem goodsA {s : St} {q : Qy} {N : Nat} (hs : 1 ≤ q.step) (hn : q.to - q.fr = N * q.step) : Goods N (rowsA s q) := by
  have g := rows_goods (s := s) hs hn
  rcases rowsA_cases s q with e | e
  · rw [e]; exact g
  · rw [e]; exact ⟨List.Pairwise.nil, fun r hr => absurd hr (by simp), fun r hr => absurd hr (by simp)⟩
theorem manyA {s : St} (h : Inv s) (q : Qy) : (rowsA s q).length ≤ 500 := by
  rcases rowsA_cases s q with e | e
  · rw [e]; exact rows_many h q
  · rw [e]; simp
theorem smrsA {s : St} (h : Inv s) (q : Qy) : SmRs (rowsA s q) := by
  rcases rowsA_cases s q with e | e
  · rw [e]; exact rows_smr h q
  · rw [e]; exact fun i hi => by simp at hi
theorem stKA {s : St} (h : Inv s) (q : Qy) (N k i : Nat) : SmR (rwG (stK N (rowsA s q) k) i).ag := by
  rcases rowsA_cases s q with e | e
  · rw [e]; exact rows_stK h q N k i
  · rw [e]; exact stK_sm (fun r hr => by cases hr) (by simp [cntSum]) k i
theorem byte_lab {a : Int} (h : labB a = true) : 0 ≤ a ∧ a ≤ 255 := by
  rcases lab_good h with h | h <;> omega
theorem byte_g {b x : Int} (h : 0 ≤ x ∧ x ≤ 255) : 0 ≤ gB b x ∧ gB b x ≤ 255 := by
  unfold gB; split <;> omega
/-- The groups of rows are bytes. -/
theorem rows_byte {s : St} (h : Inv s) (q : Qy) : ∀ r ∈ s.rows q, (0 ≤ r.key.g0 ∧ r.key.g0 ≤ 255) ∧ (0 ≤ r.key.g1 ∧ r.key.g1 ≤ 255) ∧ 0 ≤ r.key.g2 ∧ r.key.g2 ≤ 255 := by
  intro r hr
  obtain ⟨x, hx, _, _, g, hg, e0, e1, e2⟩ := rows_mem s hr
  rw [e0, e1, e2]
  have hok := at_ok s ((smOk_iff x).1 (h.ok x hx).1).2.2
  unfold grpOf at hg
  by_cases ho : s.at x = over
  · rw [if_pos ho] at hg
    have := Option.some.inj hg
    subst this
    simp [over]
  · rw [if_neg ho] at hg
    have hl : lab3 (s.at x).a (s.at x).b (s.at x).c = true := by
      rcases hok with hok | hok
      · exact absurd hok ho
      · exact hok
    simp only [lab3, Bool.and_eq_true] at hl
    split at hg
    · have := Option.some.inj hg
      subst this
      exact ⟨byte_g (byte_lab hl.1.1), byte_g (byte_lab hl.1.2), byte_g (byte_lab hl.2)⟩
    · cases hg
theorem steps_q (la : Option Addr) (lc N : Nat) (s : St) (q : Qy) (w : World) (h : Inv s) (hN : N ≤ 1000) (hs : 1 ≤ q.step) (hn : q.to - q.fr = N * q.step) (hat : RwsAt w la (rowsA s q)) :
    Calls Try.prog 22 #[.slice la (rowsA s q).length lc, .int .i64 N] w fun e w' => ∃ g, e = .returned (.tuple #[.slice (some ⟨g, 0, none⟩) N N, .bool true]) ∧ w'.ownsRow w.heap.size 72 8 (.slice (some ⟨g, 0, none⟩) N N) N (flatR (stepsR N (rowsA s q))) ∧ Below w.heap.size w w' :=
  steps_yes la _ lc N _ w hat rfl (by have := manyA h q; omega) hN (goodsA hs hn) (smrsA h q) (fun k _ i => stKA h q N k i) (fun r hr => rows_byte h q r (rowsA_sub s q hr))

end Go.Proofs.Ythciddpljcbhiaa

/- A slice of levels and labels that came in, opened. -/
namespace Go.Proofs.Ythciddpljcbhiaa
open Go Go.RowKit Go.Deep Go.ChangeShapes Go.WideShapes Go.Joins

theorem Try.cells76 : Try.prog.cellsOf 76 = 4 := by kernel_rfl
theorem Try.cells22 : Try.prog.cellsOf 22 = 1 := by kernel_rfl
theorem Try.cells3 : Try.prog.cellsOf 3 = 1 := by kernel_rfl
theorem Try.cells9 : Try.prog.cellsOf 9 = 1 := by kernel_rfl
theorem Try.cells5 : Try.prog.cellsOf 5 = 1 := by kernel_rfl
theorem Try.cells26 : Try.prog.cellsOf 26 = 3 := by kernel_rfl
theorem Try.cells24 : Try.prog.cellsOf 24 = 3 := by kernel_rfl

theorem add_none (b off j : Nat) : (⟨b, off, none⟩ : Addr).add j = ⟨b, off + j, none⟩ := by unfold Addr.add; split <;> simp_all

section
variable {H : Type} {enc : TypeId × Value → H} {w : World} {base : Nat} {spare : Nat → Bool} {held : Bool}

theorem i64_range {n : Int} (h : (Lit.int .i64 n).wf = true) : -9223372036854775808 ≤ n ∧ n ≤ 9223372036854775807 := by
  simpa [Lit.wf, IntKind.min, IntKind.max, IntKind.signed, IntKind.bits] using h

theorem list4 {α : Type} {cs : List α} (h : cs.length = 4) : ∃ c0 c1 c2 c3, cs = [c0, c1, c2, c3] := by
  match cs, h with
  | [c0, c1, c2, c3], _ => exact ⟨c0, c1, c2, c3, rfl⟩

theorem open_level {fuel : Nat} {cs : List Value} {x : DataW H × List MemPlace} (h : DataW.trod enc Try.prog w base spare held fuel 76 cs = some x) :
    ∃ l : Lv, cs = l.cells ∧ -9223372036854775808 ≤ l.window ∧ l.window ≤ 9223372036854775807 ∧ l.rule.size ≤ maxLen := by
  obtain ⟨y0, y1, y2, y3, n, _, hlen, h0, h1, h2, h3⟩ := trod_struct4 Try.underlying76 h
  rw [Try.cells76] at hlen
  obtain ⟨c0, c1, c2, c3, rfl⟩ := list4 hlen
  simp only [Try.cells3, Try.cells9] at h0 h1 h2 h3
  obtain ⟨a, e0, _, _⟩ := DataW.trod_int Try.underlying3 h0
  obtain ⟨b, e1, _, wb⟩ := DataW.trod_int Try.underlying3 h1
  obtain ⟨s, e2, _, hs⟩ := DataW.trod_string Try.underlying9 h2
  obtain ⟨c, e3, _, _⟩ := DataW.trod_int Try.underlying3 h3
  simp at e0 e1 e2 e3
  subst e0 e1 e2 e3
  exact ⟨⟨a, b, s, c⟩, rfl, (i64_range wb).1, (i64_range wb).2, hs⟩

theorem open_levels {fuel : Nat} {v : Value} {y : DataW H × List MemPlace} (hf : DataW.trod enc Try.prog w base spare held fuel 22 [v] = some y) :
    ∃ a n cap ls, v = .slice a n cap ∧ IsLvs w a n ls ∧ LvWf ls ∧ (n = 0 ∨ ∃ D sp, y.1 = .slice D sp ∧ D.length = n) := by
  have zero : LvWf [] := fun i => by simp [lvG, Lv.zero, maxLen]
  rcases open_slice Try.underlying22 hf with ⟨hcs, _⟩ | ⟨a, len, cap, m, k, D, Pl, hcs, _, hl, hm, hmm, hx, he⟩
  · simp at hcs
    exact ⟨none, 0, 0, [], hcs, ⟨rfl, fun h => absurd h (by omega)⟩, zero, .inl rfl⟩
  · simp at hcs
    have hlm : len ≤ m := by rw [hmm]; split <;> omega
    rw [Try.cells76] at he
    have hall : ∀ i, i < len → ∃ l : Lv, (∀ j, j < 4 → w.cell? ((a.add (i * 4)).add j) = l.cells[j]?) ∧ -9223372036854775808 ≤ l.window ∧ l.window ≤ 9223372036854775807 ∧ l.rule.size ≤ maxLen := fun i hi => by
      obtain ⟨cs', h1, h2⟩ := he i (by omega)
      obtain ⟨l, rfl, hb⟩ := open_level h2
      exact ⟨l, (World.cells?_some h1).2.2, hb⟩
    haveI : Inhabited Lv := ⟨Lv.zero⟩
    obtain ⟨f, hff⟩ := choose_lt hall
    refine ⟨some a, len, cap, (List.range len).map f, hcs, ⟨by simp, fun hn => ?_⟩, fun i => ?_, .inr ⟨_, _, by rw [hx], by simp⟩⟩
    · obtain ⟨b, off, spot⟩ := a
      have h0 := (hff 0 hn).1 0 (by omega)
      have hspot : spot = none := by
        have := World.cell?_spot (h0.trans rfl)
        simpa [Addr.add] using this
      subst hspot
      refine ⟨b, off, rfl, fun i hi => ?_⟩
      simp at hi
      have hc := (hff i hi).1
      have e : lvG ((List.range len).map f) i = f i := by simp [lvG, List.getD, hi]
      rw [e]
      simp only [add_none] at hc
      exact ⟨hc 0 (by omega), hc 1 (by omega), hc 2 (by omega), hc 3 (by omega)⟩
    · by_cases hi : i < len
      · have e : lvG ((List.range len).map f) i = f i := by simp [lvG, List.getD, hi]
        rw [e]
        exact (hff i hi).2
      · have e : lvG ((List.range len).map f) i = Lv.zero := by simp [lvG, List.getD, hi]
        rw [e]
        simp [Lv.zero, maxLen]

set_option maxRecDepth 100000 in
theorem okWide_lab {r : Reach} {b0 : Nat} {v : Value} (h : Value.okWide Try.prog w r b0 26 v) : ∃ c0 c1 c2, v = .agg #[c0, c1, c2] := by
  simp only [Value.okWide, Try.underlying26] at h
  obtain ⟨cs, h1, h2, _⟩ := h
  rw [Try.cells26] at h2
  obtain ⟨c0, c1, c2, rfl⟩ := array3 h2
  exact ⟨c0, c1, c2, h1⟩

theorem open_labs {fuel : Nat} {c0 c1 c2 : Value} {y : DataW H × List MemPlace} (hf : DataW.trod enc Try.prog w base spare held fuel 26 [c0, c1, c2] = some y) :
    ∃ x z t, c0 = .int .u8 x ∧ c1 = .int .u8 z ∧ c2 = .int .u8 t ∧ (0 ≤ x ∧ x ≤ 255) ∧ (0 ≤ z ∧ z ≤ 255) ∧ (0 ≤ t ∧ t ≤ 255) := by
  obtain ⟨xs, m, _, _, _, hlen, he⟩ := DataW.trod_array Try.underlying26 hf
  rw [Try.cells5] at he
  have get : ∀ i, i < 3 → ∃ q, xs[i]? = some q := fun i hi => ⟨xs[i]'(by omega), by simp⟩
  have g0 := he 0 (by omega)
  have g1 := he 1 (by omega)
  have g2 := he 2 (by omega)
  obtain ⟨q0, e0⟩ := get 0 (by omega)
  obtain ⟨q1, e1⟩ := get 1 (by omega)
  obtain ⟨q2, e2⟩ := get 2 (by omega)
  rw [e0] at g0
  rw [e1] at g1
  rw [e2] at g2
  obtain ⟨x, a0, _, w0⟩ := DataW.trod_int Try.underlying5 g0
  obtain ⟨z, a1, _, w1⟩ := DataW.trod_int Try.underlying5 g1
  obtain ⟨t, a2, _, w2⟩ := DataW.trod_int Try.underlying5 g2
  simp at a0 a1 a2
  have u8 : ∀ {n : Int}, (Lit.int .u8 n).wf = true → 0 ≤ n ∧ n ≤ 255 := fun {n} h => by simpa [Lit.wf, IntKind.min, IntKind.max, IntKind.signed, IntKind.bits] using h
  exact ⟨x, z, t, a0, a1, a2, u8 w0, u8 w1, u8 w2⟩
end

end Go.Proofs.Ythciddpljcbhiaa

/- A slice of samples that came in, opened. -/
namespace Go.Proofs.Ythciddpljcbhiaa
open Go Go.RowKit Go.Deep Go.ChangeShapes Go.WideShapes Go.Joins

theorem Try.cells42 : Try.prog.cellsOf 42 = 5 := by kernel_rfl
theorem Try.cells21 : Try.prog.cellsOf 21 = 1 := by kernel_rfl

theorem list5 {α : Type} {cs : List α} (h : cs.length = 5) : ∃ c0 c1 c2 c3 c4, cs = [c0, c1, c2, c3, c4] := by
  match cs, h with
  | [c0, c1, c2, c3, c4], _ => exact ⟨c0, c1, c2, c3, c4, rfl⟩

section
variable {H : Type} {enc : TypeId × Value → H} {w : World} {base : Nat} {spare : Nat → Bool} {held : Bool}

theorem i32_range {n : Int} (h : (Lit.int .i32 n).wf = true) : -2147483648 ≤ n ∧ n ≤ 2147483647 := by
  simpa [Lit.wf, IntKind.min, IntKind.max, IntKind.signed, IntKind.bits] using h

theorem open_sample {fuel : Nat} {cs : List Value} {x : DataW H × List MemPlace} (h : DataW.trod enc Try.prog w base spare held fuel 42 cs = some x) :
    ∃ s : Sm, cs = s.cells ∧ s.wf := by
  obtain ⟨y0, y1, y2, n, _, hlen, h0, h1, h2⟩ := trod_struct3 Try.underlying42 h
  rw [Try.cells42] at hlen
  obtain ⟨c0, c1, c2, c3, c4, rfl⟩ := list5 hlen
  simp only [Try.cells3, Try.cells26, Try.cells21] at h0 h1 h2
  obtain ⟨a, e0, _, wa⟩ := DataW.trod_int Try.underlying3 h0
  obtain ⟨x, z, t, rfl, rfl, rfl, b0, b1, b2⟩ := open_labs (by simpa using h1)
  obtain ⟨v, e4, _, wv⟩ := DataW.trod_int Try.underlying21 h2
  simp at e0 e4
  subst e0 e4
  exact ⟨⟨a, x, z, t, v⟩, rfl, i64_range wa, b0, b1, b2, i32_range wv⟩

theorem open_samples {fuel : Nat} {v : Value} {y : DataW H × List MemPlace} (hf : DataW.trod enc Try.prog w base spare held fuel 28 [v] = some y) :
    ∃ a n cap ls, v = .slice a n cap ∧ IsSms w a n ls ∧ SmWf ls ∧ (n = 0 ∨ ∃ D sp, y.1 = .slice D sp ∧ D.length = n) := by
  have zwf : Sm.zero.wf := by simp [Sm.wf, Sm.zero]
  have zero : SmWf [] := fun i => by simpa [smG] using zwf
  rcases open_slice Try.underlying28 hf with ⟨hcs, _⟩ | ⟨a, len, cap, m, k, D, Pl, hcs, _, hl, hm, hmm, hx, he⟩
  · simp at hcs
    exact ⟨none, 0, 0, [], hcs, ⟨rfl, fun h => absurd h (by omega)⟩, zero, .inl rfl⟩
  · simp at hcs
    have hlm : len ≤ m := by rw [hmm]; split <;> omega
    rw [Try.cells42] at he
    have hall : ∀ i, i < len → ∃ l : Sm, (∀ j, j < 5 → w.cell? ((a.add (i * 5)).add j) = l.cells[j]?) ∧ l.wf := fun i hi => by
      obtain ⟨cs', h1, h2⟩ := he i (by omega)
      obtain ⟨l, rfl, hb⟩ := open_sample h2
      exact ⟨l, (World.cells?_some h1).2.2, hb⟩
    haveI : Inhabited Sm := ⟨Sm.zero⟩
    obtain ⟨f, hff⟩ := choose_lt hall
    refine ⟨some a, len, cap, (List.range len).map f, hcs, ⟨by simp, fun hn => ?_⟩, fun i => ?_, .inr ⟨_, _, by rw [hx], by simp⟩⟩
    · obtain ⟨b, off, spot⟩ := a
      have h0 := (hff 0 hn).1 0 (by omega)
      have hspot : spot = none := by
        have := World.cell?_spot (h0.trans rfl)
        simpa [Addr.add] using this
      subst hspot
      refine ⟨b, off, rfl, fun i hi => ?_⟩
      simp at hi
      have hc := (hff i hi).1
      have e : smG ((List.range len).map f) i = f i := by simp [smG, List.getD, hi]
      rw [e]
      simp only [add_none] at hc
      exact ⟨hc 0 (by omega), hc 1 (by omega), hc 2 (by omega), hc 3 (by omega), hc 4 (by omega)⟩
    · by_cases hi : i < len
      · have e : smG ((List.range len).map f) i = f i := by simp [smG, List.getD, hi]
        rw [e]
        exact (hff i hi).2
      · have e : smG ((List.range len).map f) i = Sm.zero := by simp [smG, List.getD, hi]
        rw [e]
        exact zwf
end

end Go.Proofs.Ythciddpljcbhiaa

/- A configuration's levels and a script that came in, opened. -/
namespace Go.Proofs.Ythciddpljcbhiaa
open Go Go.RowKit Go.Deep Go.ChangeShapes Go.WideShapes Go.Joins

theorem Try.cells100 : Try.prog.cellsOf 100 = 3 := by kernel_rfl
theorem Try.cells28 : Try.prog.cellsOf 28 = 1 := by kernel_rfl
theorem Try.xbytes42 : Try.prog.bytesOf 42 = 16 := by kernel_rfl
theorem Try.xbytes100 : Try.prog.bytesOf 100 = 40 := by kernel_rfl

section
variable {H : Type} {enc : TypeId × Value → H} {w : World} {base : Nat} {spare : Nat → Bool} {held : Bool}

theorem list3 {α : Type} {cs : List α} (h : cs.length = 3) : ∃ c0 c1 c2, cs = [c0, c1, c2] := by
  match cs, h with
  | [c0, c1, c2], _ => exact ⟨c0, c1, c2, rfl⟩

def Lv.wf2 (l : Lv) : Prop := (-9223372036854775808 ≤ l.age ∧ l.age ≤ 9223372036854775807) ∧ (-9223372036854775808 ≤ l.window ∧ l.window ≤ 9223372036854775807) ∧ l.rule.size ≤ maxLen ∧ -9223372036854775808 ≤ l.limit ∧ l.limit ≤ 9223372036854775807
theorem open_level2 {fuel : Nat} {cs : List Value} {x : DataW H × List MemPlace} (h : DataW.trod enc Try.prog w base spare held fuel 76 cs = some x) : ∃ l : Lv, cs = l.cells ∧ l.wf2 := by
  obtain ⟨y0, y1, y2, y3, n, _, hlen, h0, h1, h2, h3⟩ := trod_struct4 Try.underlying76 h
  rw [Try.cells76] at hlen
  obtain ⟨c0, c1, c2, c3, rfl⟩ := list4 hlen
  simp only [Try.cells3, Try.cells9] at h0 h1 h2 h3
  obtain ⟨a, e0, _, wa⟩ := DataW.trod_int Try.underlying3 h0
  obtain ⟨b, e1, _, wb⟩ := DataW.trod_int Try.underlying3 h1
  obtain ⟨s, e2, _, hs⟩ := DataW.trod_string Try.underlying9 h2
  obtain ⟨c, e3, _, wc⟩ := DataW.trod_int Try.underlying3 h3
  simp at e0 e1 e2 e3
  subst e0 e1 e2 e3
  exact ⟨⟨a, b, s, c⟩, rfl, i64_range wa, i64_range wb, hs, i64_range wc⟩
theorem zero_wf2 : Lv.zero.wf2 := by simp [Lv.wf2, Lv.zero, maxLen]

theorem open_levels2 {fuel : Nat} {v : Value} {y : DataW H × List MemPlace} (hf : DataW.trod enc Try.prog w base spare held fuel 22 [v] = some y) :
    ∃ a n cap ls, v = .slice a n cap ∧ IsLvs w a n ls ∧ LvWf2 ls := by
  rcases open_slice Try.underlying22 hf with ⟨hcs, _⟩ | ⟨a, len, cap, m, k, D, Pl, hcs, _, hl, hm, hmm, hx, he⟩
  · simp at hcs
    exact ⟨none, 0, 0, [], hcs, ⟨rfl, fun h => absurd h (by omega)⟩, fun i => by have h := zero_wf2; simpa [lvG, Lv.wf2] using h⟩
  · simp at hcs
    have hlm : len ≤ m := by rw [hmm]; split <;> omega
    rw [Try.cells76] at he
    have hall : ∀ i, i < len → ∃ l : Lv, (∀ j, j < 4 → w.cell? ((a.add (i * 4)).add j) = l.cells[j]?) ∧ l.wf2 := fun i hi => by
      obtain ⟨cs', h1, h2⟩ := he i (by omega)
      obtain ⟨l, rfl, hb⟩ := open_level2 h2
      exact ⟨l, (World.cells?_some h1).2.2, hb⟩
    haveI : Inhabited Lv := ⟨Lv.zero⟩
    obtain ⟨f, hff⟩ := choose_lt hall
    refine ⟨some a, len, cap, (List.range len).map f, hcs, ⟨by simp, fun hn => ?_⟩, fun i => ?_⟩
    · obtain ⟨b, off, spot⟩ := a
      have h0 := (hff 0 hn).1 0 (by omega)
      have hspot : spot = none := by
        have := World.cell?_spot (h0.trans rfl)
        simpa [Addr.add] using this
      subst hspot
      refine ⟨b, off, rfl, fun i hi => ?_⟩
      simp at hi
      have hc := (hff i hi).1
      have e : lvG ((List.range len).map f) i = f i := by simp [lvG, List.getD, hi]
      rw [e]
      simp only [add_none] at hc
      exact ⟨hc 0 (by omega), hc 1 (by omega), hc 2 (by omega), hc 3 (by omega)⟩
    · by_cases hi : i < len
      · have e : lvG ((List.range len).map f) i = f i := by simp [lvG, List.getD, hi]
        rw [e]
        exact (hff i hi).2
      · have e : lvG ((List.range len).map f) i = Lv.zero := by simp [lvG, List.getD, hi]
        rw [e]
        exact zero_wf2

/-- A step that came in. -/
theorem open_stp {fuel : Nat} {cs : List Value} {x : DataW H × List MemPlace} (h : DataW.trod enc Try.prog w base spare held fuel 100 cs = some x) (hw : ∀ k ∈ x.1.weights Try.prog 100, k ≤ reachBytes) :
    ∃ (o : Stp) (ba : Option Addr) (bn bc : Nat), cs = [.int .i64 o.kind, .int .i64 o.a, .slice ba bn bc] ∧ IsSms w ba bn o.batch ∧ bn ≤ 9000000000000 ∧ StpWf o := by
  obtain ⟨y0, y1, y2, n, rfl, hlen, h0, h1, h2⟩ := trod_struct3 Try.underlying100 h
  rw [Try.cells100] at hlen
  obtain ⟨c0, c1, c2, rfl⟩ := list3 hlen
  simp only [Try.cells3, Try.cells28] at h0 h1 h2
  obtain ⟨a, e0, d0, wa⟩ := DataW.trod_int Try.underlying3 h0
  obtain ⟨b, e1, d1, wb⟩ := DataW.trod_int Try.underlying3 h1
  simp at e0 e1
  subst e0 e1
  obtain ⟨ba, bn, bc, ls, e2, hs, hwf, hl⟩ := open_samples (v := c2) (y := y2) (by simpa using h2)
  subst e2
  refine ⟨⟨a, b, ls⟩, ba, bn, bc, rfl, hs, ?_, i64_range wa, i64_range wb, hwf⟩
  rcases hl with rfl | ⟨D, sp, hD, rfl⟩
  · omega
  · have hm := hw ((D.length + sp.length) * Try.prog.bytesOf 42) (by simp [DataW.weights, Try.underlying100, DataW.weightsEach, hD, Try.underlying28])
    rw [Try.xbytes42] at hm
    have hm' : (D.length + sp.length) * 16 ≤ 140737488351232 := hm
    omega
theorem weights_all {P : Program} {e : TypeId} : ∀ {l : List (DataW H)} {d : DataW H}, d ∈ l → ∀ k ∈ d.weights P e, k ∈ DataW.weightsAll P e l
  | x :: l, d, hd, k, hk => by
    rw [DataW.weightsAll, List.mem_append]
    rcases List.mem_cons.1 hd with rfl | hd
    · exact .inl hk
    · exact .inr (weights_all hd k hk)

theorem open_script {fuel : Nat} {v : Value} {y : DataW H × List MemPlace} (hf : DataW.trod enc Try.prog w base spare held fuel 52 [v] = some y) (hw : ∀ k ∈ y.1.weights Try.prog 52, k ≤ reachBytes) :
    ∃ a n cap l, v = .slice a n cap ∧ IsScr w a n l ∧ n ≤ 9000000000000 := by
  rcases open_slice Try.underlying52 hf with ⟨hcs, _⟩ | ⟨a, len, cap, m, k, D, Pl, hcs, _, hl, hm, hmm, rfl, he⟩
  · simp at hcs
    exact ⟨none, 0, 0, [], hcs, ⟨rfl, fun x hx => absurd hx (by simp), fun h => absurd h (by omega)⟩, by omega⟩
  · simp at hcs
    have hlm : len ≤ m := by rw [hmm]; split <;> omega
    rw [Try.cells100] at he
    have hW : ∀ i, i < len → ∀ k ∈ (D i).weights Try.prog 100, k ≤ reachBytes := fun i hi k hk => by
      refine hw k ?_
      simp only [DataW.weights, Try.underlying52, List.mem_cons, List.mem_append]
      exact .inr (.inl (weights_all (List.mem_map.2 ⟨i, List.mem_range.2 hi, rfl⟩) k hk))
    have hN : len ≤ 9000000000000 := by
      have h9 := hw ((len + (m - len)) * Try.prog.bytesOf 100) (by simp [DataW.weights, Try.underlying52])
      rw [Try.xbytes100] at h9
      have h9' : (len + (m - len)) * 40 ≤ 140737488351232 := h9
      omega
    have hall : ∀ i, i < len → ∃ o : Stp, (∃ ba bn bc, (∀ j, j < 3 → w.cell? ((a.add (i * 3)).add j) = ([.int .i64 o.kind, .int .i64 o.a, .slice ba bn bc] : List Value)[j]?) ∧ IsSms w ba bn o.batch ∧ bn ≤ 9000000000000) ∧ StpWf o := fun i hi => by
      obtain ⟨cs', h1, h2⟩ := he i (by omega)
      obtain ⟨o, ba, bn, bc, rfl, hs, hb, hwf⟩ := open_stp h2 (hW i hi)
      exact ⟨o, ⟨ba, bn, bc, (World.cells?_some h1).2.2, hs, hb⟩, hwf⟩
    haveI : Inhabited Stp := ⟨Stp.zero⟩
    obtain ⟨f, hff⟩ := choose_lt hall
    refine ⟨some a, len, cap, (List.range len).map f, hcs, ⟨by simp, fun x hx => ?_, fun hn => ?_⟩, hN⟩
    · obtain ⟨i, hi, rfl⟩ := List.mem_map.1 hx
      exact (hff i (List.mem_range.1 hi)).2
    · obtain ⟨b, off, spot⟩ := a
      obtain ⟨⟨ba, bn, bc, h0, _⟩, _⟩ := hff 0 hn
      have h00 := h0 0 (by omega)
      have hspot : spot = none := by
        have := World.cell?_spot (h00.trans rfl)
        simpa [Addr.add] using this
      subst hspot
      refine ⟨b, off, rfl, ?_, fun i hi => ?_⟩
      · have := World.block_lt_of_cell? w _ (h00.trans rfl)
        simpa [Addr.add] using this
      · obtain ⟨⟨ba, bn, bc, hc, hs, hb⟩, _⟩ := hff i hi
        have e : stpG ((List.range len).map f) i = f i := by simp [stpG, List.getD, hi]
        rw [e]
        simp only [add_none] at hc
        exact ⟨ba, bn, bc, hc 0 (by omega), hc 1 (by omega), hc 2 (by omega), hs, hb⟩
end

end Go.Proofs.Ythciddpljcbhiaa

/- Walks: Grouped. -/
namespace Go.Proofs.Ythciddpljcbhiaa
open Go Go.RowKit Go.Lib
attribute [local go_sem ↓] Go.wp_at_zero Go.wp_at_succ

def ones : ByteArray := ⟨#[49, 49, 49]⟩
theorem ones_b : bB (byt ones 0) = true ∧ bB (byt ones 1) = true ∧ bB (byt ones 2) = true := by decide
def onesQ (s : St) : Qy := { wholeQ s with gb := ones }
theorem onesQ_is {s : St} (h : Inv s) : WholeQ s.c (onesQ s) (s.c.old s.now) 1 (s.c.cnt s.now) := by
  have w := whole_is h
  exact ⟨w.fr, w.step, w.to, w.m0, w.k1, w.n1, w.n20, w.mt, ⟨rfl, ones_b⟩⟩
theorem kkk_b : byt kkk 0 = 107 ∧ byt kkk 1 = 107 ∧ byt kkk 2 = 107 := by decide
theorem kept_lost {c : Cf} (hc : c.right = true) (hk : keptB c.lvs = true) (q : Qy) (now : Int) : (blocks c q).any (lostAt c now q) = false := by
  refine lost_kept hc (fun j hj i hi => ?_) q now
  have h := of_decide_eq_true (List.all_eq_true.1 hk j (List.mem_range.2 hj))
  rw [h]
  obtain ⟨k0, k1, k2⟩ := kkk_b
  have : i = 0 ∨ i = 1 ∨ i = 2 := by omega
  rcases this with rfl | rfl | rfl
  · exact k0
  · exact k1
  · exact k2
/-- A query of whole blocks: answered, or lost where a key is not kept. -/
theorem WholeQ.two {s : St} (h : Inv s) {q : Qy} {m k n : Int} (hw : WholeQ s.c q m k n) (hto : q.to ≤ (s.now / s.c.span + 1) * s.c.span) (hm : s.now / s.c.span - m ≤ s.c.keep) :
    (qE s.c s.now q = 0 ∧ rowsA s q = s.rows q) ∨ (qE s.c s.now q = 11 ∧ keptB s.c.lvs = false ∧ rowsA s q = []) := by
  have e := hw.err h.right h.n1 hto hm
  cases hl : (blocks s.c q).any (lostAt s.c s.now q)
  · rw [hl, if_neg (by simp)] at e
    exact .inl ⟨e, if_pos e⟩
  · rw [hl, if_pos rfl] at e
    refine .inr ⟨e, ?_, if_neg (by rw [e]; omega)⟩
    cases hk : keptB s.c.lvs
    · rfl
    · rw [kept_lost h.right hk] at hl; cases hl

set_option maxHeartbeats 4000000 in
set_option maxRecDepth 100000 in
theorem grouped_any (a : Option Addr) (n cap : Nat) (ls : List Lv) (span keep : Int) (sa : Option Addr) (sn sc : Nat) (l : List Stp) (w : World) (hls : IsLvs w a n ls) (hwf : LvWf2 ls) (s0 : -9223372036854775808 ≤ span) (s1 : span ≤ 9223372036854775807) (k0 : -9223372036854775808 ≤ keep) (k1 : keep ≤ 9223372036854775807)
    (hsc : IsScr w sa sn l) (hsn : sn ≤ 9000000000000) :
    Calls Try.prog 8 #[.agg #[.int .i64 span, .int .i64 keep, .slice a n cap], .slice sa sn sc] w fun e w' => e = .returned (.bool true) ∧ Below w.heap.size w w' := by
  have HB0 : Hid (Below w.heap.size w (w.alloc (.cells #[.int .i64 span, .int .i64 keep, .slice a n cap] 24))) := (Below.refl _ _).alloc (Nat.le_refl _) _
  have HPL := played_any a n cap ls span keep sa sn sc l _ (IsLvs.below hls HB0.out) hwf s0 s1 k0 k1 (IsScr.below hsc HB0.out) hsn
  clear hls hwf hsc
  generalize (playP (St.new (conf span keep ls)) ⟨#[]⟩ l).2 = LG at *
  generalize (playP (St.new (conf span keep ls)) ⟨#[]⟩ l).1 = S at *
  go_enter Try.func8, Try.ntmps8
  go_wp2_with fail
  refine HPL.mono ?_
  rintro e w1 ⟨D, rfl, ⟨X, F, L, lc, sv, hd⟩, hb1⟩
  have HB1 : Hid (Below w.heap.size w w1) := HB0.out.trans (hb1.mono (by simp))
  have HD1 : Hid (DkS w1 (w.heap.size + 1) D X F S L lc sv LG) := by show DkS _ _ _ _ _ _ _ _ _ _; simpa using hd
  have HI : Hid (Inv S) := hd.inv
  clear hb1 HPL hd
  go_wp2_with fail
  refine (whole_any D X S L S.c.lvs.length lc _ w1 HI.out HD1.out.blk).mono ?_
  rintro e w2 ⟨rfl, hb2⟩
  have HD2 : Hid (DkS w2 (w.heap.size + 1) D X F S L lc sv LG) := HD1.out.below hb2
  have HB2 : Hid (Below w.heap.size w w2) := HB1.out.trans (hb2.mono HB1.out.size)
  obtain ⟨_, _, o3, o4, _⟩ := Cf.old_range HI.out.right HI.out.n0
  have HWQ := whole_wq HI.out
  have HW1 : WQ S (onesQ S) (wholeN S) := wq_of HI.out (onesQ_is HI.out) (Int.le_refl _) (by unfold wholeN; omega)
  have HQE : Hid (qE S.c S.now (wholeQ S) = 0) := whole_err HI.out
  have HTW : Hid ((qE S.c S.now (onesQ S) = 0 ∧ rowsA S (onesQ S) = S.rows (onesQ S)) ∨ (qE S.c S.now (onesQ S) = 11 ∧ keptB S.c.lvs = false ∧ rowsA S (onesQ S) = [])) := (onesQ_is HI.out).two HI.out (Int.le_refl _) o3
  have HTO : Hid (alikeB (stepsR (wholeN S) (S.rows (wholeQ S))) (stepsR (wholeN S) (S.rows (onesQ S))) = true) := grouped HWQ.s1 HWQ.mul (whole_any' S).1 (whole_any' S).1 rfl rfl rfl
  have HQW : Hid ((wholeQ S).wf) := HWQ.wf rfl rfl
  have HQ1 : Hid ((onesQ S).wf) := HW1.wf rfl rfl
  have HOQ : Hid (qyC (onesQ S) = #[.int .i64 (wholeQ S).fr, .int .i64 (wholeQ S).to, .int .i64 (wholeQ S).step, .string (wholeQ S).mt, .string ⟨#[49, 49, 49]⟩]) := rfl
  have HRA : Hid (rowsA S (wholeQ S) = S.rows (wholeQ S)) := rowsA_ok HQE.out
  have HMU1 : Hid ((onesQ S).to - (onesQ S).fr = wholeN S * (onesQ S).step ∧ 1 ≤ (onesQ S).step) := ⟨HW1.mul, HW1.s1⟩
  generalize hQ1 : onesQ S = Q1 at *
  generalize hQ : wholeQ S = Q at *
  generalize hN : wholeN S = N at *
  obtain ⟨f0, f1, f2, t1, t2, n1, n2, hdv, hmu⟩ := HWQ
  have HMU : Hid (Q.to - Q.fr = N * Q.step) := hmu
  have HDV : Hid ((Q.to - Q.fr) / Q.step = N) := hdv
  have hst0 : ¬ Q.step = 0 := by omega
  clear hb2 HD1 hmu hdv HW1 o3 o4
  go_upto_region 6 with fail
  rw [HDV.out]
  have HP3 : Hid ((w2.alloc (.cells (qyC Q) 56)).heap[w2.heap.size]? = some (.cells (qyC Q) 56 (0, 0))) := heap_alloc_new w2 _
  have HD3 : Hid (DkS (w2.alloc (.cells (qyC Q) 56)) (w.heap.size + 1) D X F S L lc sv LG) := HD2.out.below ((Below.refl _ _).alloc (Nat.le_refl _) _)
  have HB3 : Hid (Below w.heap.size w (w2.alloc (.cells (qyC Q) 56))) := HB2.out.alloc HB2.out.size _
  have HPl : w2.heap.size < (w2.alloc (.cells (qyC Q) 56)).heap.size := by simp
  have HQA : Hid (QAsk (w2.alloc (.cells (qyC Q) 56)) X Q (rowsA S Q) 0) := by
    have := QAsk.of HD3.out.st HQW.out
    rw [HQE.out] at this
    exact this
  have HDP : D < w2.heap.size := HD2.out.lt
  have HF2 : Hid (¬ F w2.heap.size) := fun e => by have := (HD2.out.fb _ e).2; omega
  have HL2 : Hid (L < w2.heap.size) := HD2.out.Llt
  have HS2 : Hid (∀ k, sv.ownBlock = some k → k < w2.heap.size) := fun k e => (HD2.out.sms.lt k e).2
  clear HD2
  generalize w2.alloc (.cells (qyC Q) 56) = w3 at *
  have p0 := cell_blk (o := 0) HP3.out rfl
  have p1 := cell_blk (o := 1) HP3.out rfl
  have p2 := cell_blk (o := 2) HP3.out rfl
  have p3 := cell_blk (o := 3) HP3.out rfl
  have p4 := cell_blk (o := 4) HP3.out rfl
  have d0 := HD3.out.cell 0 _ rfl
  have hrm := manyA HI.out Q
  go_cut [8, 9] from 17 to 89 (fun lv ev wx => ∃ la lc, lv = .slice la (rowsA S Q).length lc ∧ ev = .int .i64 0 ∧ wx.ownsRow w3.heap.size 72 8 (.slice la (rowsA S Q).length lc) (rowsA S Q).length (flatR (rowsA S Q)) ∧ Below w3.heap.size w3 wx)
  case first =>
    go_region_with (go_at_call 21; refine (HQA.out _).mono ?_; rintro e w' ⟨la, lc', rfl, ho, hb⟩)
    all_goals go_wp2_with fail
    all_goals go_meet
    all_goals (case rel => exact ⟨la, lc', rfl, rfl, ho, hb⟩)
  case rest =>
    obtain ⟨la, lc', rfl, rfl, ho, hb⟩ := hcut
    have HRA4 : Hid (RwsAt wc la (rowsA S Q)) := RwsAt.of_owns ho rfl
    have HD4 : Hid (DkS wc (w.heap.size + 1) D X F S L lc sv LG) := HD3.out.below hb
    have HB4 : Hid (Below w.heap.size w wc) := HB3.out.trans (hb.mono HB3.out.size)
    have HP4 : Hid (wc.heap[w2.heap.size]? = some (.cells (qyC Q) 56 (0, 0))) := (hb.block _ HPl).trans HP3.out
    have hPc : w2.heap.size < wc.heap.size := Nat.lt_of_lt_of_le HPl hb.size
    clear ho hb p0 p1 p2 p3 p4 d0
    go_wp2_with fail
    refine (steps_q la lc' N S Q wc HI.out (by omega) t1 HMU.out HRA4.out).mono ?_
    rintro e w5 ⟨g, rfl, ho, hb⟩
    have HRA5 : Hid (RwsAt w5 (some ⟨g, 0, none⟩) (stepsR N (rowsA S Q))) := RwsAt.of_owns ho (stepsR_len N _)
    have HD5 : Hid (DkS w5 (w.heap.size + 1) D X F S L lc sv LG) := HD4.out.below hb
    have HB5 : Hid (Below w.heap.size w w5) := HB4.out.trans (hb.mono HB4.out.size)
    have HP5 : Hid (w5.heap[w2.heap.size]? = some (.cells (qyC Q) 56 (0, 0))) := (hb.block _ hPc).trans HP4.out
    have hP5 : w2.heap.size < w5.heap.size := Nat.lt_of_lt_of_le hPc hb.size
    have hg5 : g ≠ w2.heap.size := by have := (ho.lt g rfl).1; omega
    have d0 := HD5.out.cell 0 _ rfl
    have p4 := cell_blk (o := 4) HP5.out rfl
    have z4 := froz_blk (o := 4) HP5.out
    clear ho hb
    go_upto_region 9 with fail
    have HP6 : Hid ((w5.setCell ⟨w2.heap.size, 4, none⟩ (.string ⟨#[49, 49, 49]⟩)).heap[w2.heap.size]? = some (.cells (qyC Q1) 56 (0, 0))) := by
      show _ = _
      rw [HOQ.out]
      exact heap_setCell HP5.out
    have HD6 : Hid (DkS (w5.setCell ⟨w2.heap.size, 4, none⟩ (.string ⟨#[49, 49, 49]⟩)) (w.heap.size + 1) D X F S L lc sv LG) := HD5.out.set _ (by omega) HF2.out (by have := HL2.out; omega) (fun e => by have := HS2.out _ e; omega)
    have HB6 : Hid (Below w.heap.size w (w5.setCell ⟨w2.heap.size, 4, none⟩ (.string ⟨#[49, 49, 49]⟩))) := HB5.out.setCell HB2.out.size _
    have HR6 : Hid (RwsAt (w5.setCell ⟨w2.heap.size, 4, none⟩ (.string ⟨#[49, 49, 49]⟩)) (some ⟨g, 0, none⟩) (stepsR N (rowsA S Q))) := HRA5.out.set _ (fun g' e => by injection e with e; injection e with e; rw [← e]; exact hg5)
    have hP6 : w2.heap.size < (w5.setCell ⟨w2.heap.size, 4, none⟩ (.string ⟨#[49, 49, 49]⟩)).heap.size := by simpa [World.setCell] using hP5
    clear d0 p4 z4 HP5 HD5 HB5 HRA5 hP5
    generalize w5.setCell ⟨w2.heap.size, 4, none⟩ (.string ⟨#[49, 49, 49]⟩) = w6 at *
    have HQA6 : Hid (QAsk w6 X Q1 (rowsA S Q1) (qE S.c S.now Q1)) := QAsk.of HD6.out.st HQ1.out
    have p0 := cell_blk (o := 0) HP6.out rfl
    have p1 := cell_blk (o := 1) HP6.out rfl
    have p2 := cell_blk (o := 2) HP6.out rfl
    have p3 := cell_blk (o := 3) HP6.out rfl
    have p4 := cell_blk (o := 4) HP6.out rfl
    have d0 := HD6.out.cell 0 _ rfl
    have hrm1 := manyA HI.out Q1
    go_cut [12, 13] from 17 to 89 (fun lv ev wx => ∃ la lc, lv = .slice la (rowsA S Q1).length lc ∧ ev = .int .i64 (qE S.c S.now Q1) ∧ wx.ownsRow w6.heap.size 72 8 (.slice la (rowsA S Q1).length lc) (rowsA S Q1).length (flatR (rowsA S Q1)) ∧ Below w6.heap.size w6 wx)
    case first =>
      go_region_with (go_at_call 21; refine (HQA6.out _).mono ?_; rintro e w' ⟨la, lc', rfl, ho, hb⟩)
      all_goals go_wp2_with fail
      all_goals go_meet
      all_goals (case rel => exact ⟨la, lc', rfl, rfl, ho, hb⟩)
    case rest =>
      obtain ⟨lb, lc2, rfl, rfl, ho, hb⟩ := hcut
      have HRA7 : Hid (RwsAt wc lb (rowsA S Q1)) := RwsAt.of_owns ho rfl
      have HD7 : Hid (DkS wc (w.heap.size + 1) D X F S L lc sv LG) := HD6.out.below hb
      have HB7 : Hid (Below w.heap.size w wc) := HB6.out.trans (hb.mono HB6.out.size)
      have HR7 : Hid (RwsAt wc (some ⟨g, 0, none⟩) (stepsR N (rowsA S Q))) := HR6.out.below hb
      clear ho hb p0 p1 p2 p3 p4 d0
      go_wp2_with fail
      refine (steps_q lb lc2 N S Q1 wc HI.out (by omega) HMU1.out.2 HMU1.out.1 HRA7.out).mono ?_
      rintro e w8 ⟨g2, rfl, ho, hb⟩
      have HRA8 : Hid (RwsAt w8 (some ⟨g2, 0, none⟩) (stepsR N (rowsA S Q1))) := RwsAt.of_owns ho (stepsR_len N _)
      have HR8 : Hid (RwsAt w8 (some ⟨g, 0, none⟩) (stepsR N (rowsA S Q))) := HR7.out.below hb
      have HD8 : Hid (DkS w8 (w.heap.size + 1) D X F S L lc sv LG) := HD7.out.below hb
      have HB8 : Hid (Below w.heap.size w w8) := HB7.out.trans (hb.mono HB7.out.size)
      clear ho hb
      go_wp2_with fail
      refine (kept_any D X S L S.c.lvs.length lc sv w8 HD8.out.blk rfl HD8.out.len.2 HD8.out.lv).mono ?_
      rintro e w9 ⟨rfl, rfl⟩
      rcases HTW.out with ⟨hE, hR⟩ | ⟨hE, hK, hR⟩
      · rw [hE]
        have HAL : Hid (alikeB (stepsR N (rowsA S Q)) (stepsR N (rowsA S Q1)) = true) := by
          show _ = _
          rw [hR, HRA.out]; exact HTO.out
        clear hE hR
        go_wp2_with fail
        refine (alike_yes _ _ N N N _ _ w9 HR8.out HRA8.out (stepsR_len N _) (stepsR_len N _) (by omega) HAL.out).mono ?_
        rintro e w10 ⟨rfl, d, rfl⟩
        go_wp2_with fail
        go_ret
        exact ⟨rfl, below_drewN HB8.out d⟩
      · rw [hE, hK, hR]
        clear hE hK hR
        go_wp2_with fail
        go_ret
        exact ⟨rfl, HB8.out⟩

end Go.Proofs.Ythciddpljcbhiaa

/- Walks: Matched. -/
namespace Go.Proofs.Ythciddpljcbhiaa
open Go Go.RowKit Go.Lib
attribute [local go_sem ↓] Go.wp_at_zero Go.wp_at_succ

/-! Sums, letter by letter, row by row. -/
def keepW (i : Nat) (r : Rw) : Bool := !(isOver r.key && decide (0 < i))
def sumJ (s : St) (q : Qy) (n k j : Nat) : List Rw := putRows (sumK s q n k) (((s.rows (mq q (ways.getD k 0))).take j).filter (keepW k))
theorem sumJ_zero (s : St) (q : Qy) (n k : Nat) : sumJ s q n k 0 = sumK s q n k := rfl
theorem sumJ_all (s : St) (q : Qy) (n k : Nat) : sumJ s q n k (s.rows (mq q (ways.getD k 0))).length = sumK s q n (k + 1) := by
  unfold sumJ
  rw [List.take_length]
  rfl
theorem sumJ_len (s : St) (q : Qy) (n k j : Nat) : (sumJ s q n k j).length = n := by unfold sumJ; rw [putRows_len, sumK_len]
theorem sumJ_skip {s : St} {q : Qy} {n k j : Nat} (hj : j < (s.rows (mq q (ways.getD k 0))).length) (h : keepW k (rwG (s.rows (mq q (ways.getD k 0))) j) = false) : sumJ s q n k (j + 1) = sumJ s q n k j := by
  unfold sumJ
  rw [List.take_succ_eq_append_getElem hj, ← rwG_get _ _ hj, List.filter_append, List.filter_cons, h]
  simp
theorem sumJ_put {s : St} {q : Qy} {n k j : Nat} (hj : j < (s.rows (mq q (ways.getD k 0))).length) (h : keepW k (rwG (s.rows (mq q (ways.getD k 0))) j) = true) {st : Nat} (hs : (rwG (s.rows (mq q (ways.getD k 0))) j).key.st = st) :
    sumJ s q n k (j + 1) = (sumJ s q n k j).set st (joinR (rwG (sumJ s q n k j) st) (rwG (s.rows (mq q (ways.getD k 0))) j)) := by
  unfold sumJ
  rw [List.take_succ_eq_append_getElem hj, ← rwG_get _ _ hj, List.filter_append]
  simp only [List.filter_cons, h, if_true, List.filter_nil]
  unfold putRows putAll
  rw [List.map_append, List.foldl_append]
  simp only [List.map_cons, List.map_nil, List.foldl_cons, List.foldl_nil, hs, Int.toNat_natCast]
  rfl
theorem cnt_filter (p : Rw → Bool) : ∀ {l : List Rw}, (∀ r ∈ l, 0 ≤ r.ag.cnt) → cntSum (l.filter p) ≤ cntSum l
  | [], _ => by simp [cntSum]
  | r :: l, h => by
    have ih := cnt_filter p (l := l) (fun x hx => h x (by simp [hx]))
    have h0 := h r (by simp)
    rw [List.filter_cons]
    split
    · simp [cntSum] at ih ⊢; omega
    · simp [cntSum] at ih ⊢; omega
theorem sumK_bd {s : St} (h : Inv s) (q : Qy) (n : Nat) : ∀ k, ∀ j, Tg (rwG (sumK s q n k) j).ag ∧ (rwG (sumK s q n k) j).ag.cnt ≤ 500 * k
  | 0, j => by have := rep_bd n j; exact ⟨this.1, by have := this.2; show (rwG (List.replicate n Rw.zero) j).ag.cnt ≤ _; omega⟩
  | k + 1, j => by
    have hr := rows_tg h (mq q (ways.getD k 0))
    have hb := putAll_bd ((wrows s q k).map fun r => (r.key.st.toNat, r)) (sumK s q n k) (500 * k) (sumK_bd h q n k) (fun p hp => by
      obtain ⟨r, hr', rfl⟩ := List.mem_map.1 hp
      exact hr r (List.mem_filter.1 hr').1) j
    rw [cntSum_map] at hb
    have h1 := cnt_filter (fun r => !(isOver r.key && decide (0 < k))) (l := s.rows (mq q (ways.getD k 0))) (fun r hr' => (hr r hr').c0)
    have h2 := rows_sum h (mq q (ways.getD k 0))
    refine ⟨hb.1, ?_⟩
    have h3 := hb.2
    have h4 : cntSum (wrows s q k) ≤ 500 := by
      have h5 : cntSum (wrows s q k) ≤ cntSum (s.rows (mq q (ways.getD k 0))) := h1
      omega
    show (rwG (putAll (sumK s q n k) ((wrows s q k).map fun r => (r.key.st.toNat, r))) j).ag.cnt ≤ _
    omega
theorem sumJ_sm {s : St} (h : Inv s) (q : Qy) (n k j i : Nat) (hk : k < 27) : SmR (rwG (sumJ s q n k j) i).ag := by
  have hr := rows_tg h (mq q (ways.getD k 0))
  have hb := putAll_bd ((((s.rows (mq q (ways.getD k 0))).take j).filter (keepW k)).map fun r => (r.key.st.toNat, r)) (sumK s q n k) (500 * k) (sumK_bd h q n k) (fun p hp => by
    obtain ⟨r, hr', rfl⟩ := List.mem_map.1 hp
    exact hr r (List.mem_of_mem_take (List.mem_filter.1 hr').1)) i
  rw [cntSum_map] at hb
  have h1 := cnt_filter (keepW k) (l := (s.rows (mq q (ways.getD k 0))).take j) (fun r hr' => (hr r (List.mem_of_mem_take hr')).c0)
  have h2 := cntSum_take (fun r hr' => (hr r hr').c0) j
  have h3 := rows_sum h (mq q (ways.getD k 0))
  refine SmR.of hb.1 ?_
  have h4 := hb.2
  show (rwG (putAll (sumK s q n k) _) i).ag.cnt ≤ 1000000
  omega
theorem ways_m : ∀ w ∈ ways, mB w = true := by decide
theorem ways_mem {k : Nat} (h : k < 27) : ways.getD k 0 ∈ ways := by
  have hlen : ways.length = 27 := by decide
  rw [List.getD_eq_getElem?_getD, List.getElem?_eq_getElem (by omega)]
  exact List.getElem_mem _
theorem mq_is {s : St} (h : Inv s) {k : Nat} (hk : k < 27) : WholeQ s.c (mq (wholeQ s) (ways.getD k 0)) (s.c.old s.now) 1 (s.c.cnt s.now) := by
  have w := whole_is h
  obtain ⟨m0, m1, m2⟩ := mq_bytes (wholeQ s) (ways_mem hk)
  exact ⟨w.fr, w.step, w.to, w.m0, w.k1, w.n1, w.n20, ⟨by show (strOfNums _).size = 3; rw [strOfNums_size]; rfl, by rw [m0]; exact ways_m _ (ways_mem hk), by rw [m1]; decide, by rw [m2]; decide⟩, w.gb⟩

theorem way_fin : ∀ k : Fin 27, (⟨#[97, 98, 99, 100, 101, 102, 103, 104, 105, 106, 107, 108, 109, 110, 111, 112, 113, 114, 115, 116, 117, 118, 119, 120, 121, 122, 45]⟩ : ByteArray).extract k.val (k.val + 1) ++ ⟨#[46, 46]⟩ = strOfNums [ways.getD k.val 0, 46, 46] := by decide
theorem way_str {k : Nat} (h : k < 27) : (⟨#[97, 98, 99, 100, 101, 102, 103, 104, 105, 106, 107, 108, 109, 110, 111, 112, 113, 114, 115, 116, 117, 118, 119, 120, 121, 122, 45]⟩ : ByteArray).extract k (k + 1) ++ ⟨#[46, 46]⟩ = strOfNums [ways.getD k 0, 46, 46] := way_fin ⟨k, h⟩
/-- A frame of one block. -/
theorem DkS.one {w w' : World} {B D X : Nat} {F : Nat → Prop} {s : St} {L lc : Nat} {sv : Value} {lg : ByteArray} (h : DkS w B D X F s L lc sv lg) {G : Nat} (hf : Fr (fun k => k = G) w w') (hD : D ≠ G) (hF : ¬ F G) (hL : L ≠ G) (hS : sv.ownBlock ≠ some G) : DkS w' B D X F s L lc sv lg :=
  ⟨(hf.block D h.lt hD).trans h.blk, h.st.keep (fun k e hk => hf.block k hk (fun e' => hF ((show k = G from e') ▸ e))), lvAt_of (At.fr (at_of_lv h.lv) hf hL), owns_fr h.sms hf (fun k e e' => hS ((show k = G from e') ▸ e)), fun k e => ⟨(h.fb k e).1, Nat.lt_of_lt_of_le (h.fb k e).2 hf.size⟩, h.bD, h.nD, h.nL, h.DL, h.bS⟩
theorem RwsAt.one {w w' : World} {a : Option Addr} {l : List Rw} (h : RwsAt w a l) {G : Nat} (hf : Fr (fun k => k = G) w w') (hP : ∀ g, a = some ⟨g, 0, none⟩ → g ≠ G) : RwsAt w' a l := by
  intro hp
  obtain ⟨g, e, hl, hr⟩ := h hp
  refine ⟨g, e, Nat.lt_of_lt_of_le hl hf.size, fun i hi => ?_⟩
  obtain ⟨h0, h1, h2, h3, h4, h5, h6, h7⟩ := hr i hi
  have k : ∀ j, w'.cell? ⟨g, j, none⟩ = w.cell? ⟨g, j, none⟩ := fun j => hf.cell (p := ⟨g, j, none⟩) hl (hP g e)
  exact ⟨(k _).trans h0, (k _).trans h1, (k _).trans h2, (k _).trans h3, (k _).trans h4, (k _).trans h5, (k _).trans h6, (k _).trans h7⟩
theorem Fr.set8 {S : Nat → Prop} {a w : World} {g o : Nat} {r : Rw} (h : Fr S a w) (hg : S g ∨ a.heap.size ≤ g) : Fr S a (set8 w g o r) :=
  (((((((h.setCell hg _).setCell hg _).setCell hg _).setCell hg _).setCell hg _).setCell hg _).setCell hg _).setCell hg _
theorem over_key {r : Rw} : isOver r.key = (r.key.g0 == 42 && r.key.g1 == 42 && r.key.g2 == 42) := by
  unfold isOver
  rw [Bool.eq_iff_iff]
  simp [and_assoc]

set_option maxHeartbeats 4000000 in
set_option maxRecDepth 100000 in
theorem matched_any (a : Option Addr) (n cap : Nat) (ls : List Lv) (span keep : Int) (sa : Option Addr) (sn sc : Nat) (l : List Stp) (w : World) (hls : IsLvs w a n ls) (hwf : LvWf2 ls) (s0 : -9223372036854775808 ≤ span) (s1 : span ≤ 9223372036854775807) (k0 : -9223372036854775808 ≤ keep) (k1 : keep ≤ 9223372036854775807)
    (hsc : IsScr w sa sn l) (hsn : sn ≤ 9000000000000) :
    Calls Try.prog 9 #[.agg #[.int .i64 span, .int .i64 keep, .slice a n cap], .slice sa sn sc] w fun e w' => e = .returned (.bool true) ∧ Below w.heap.size w w' := by
  have HB0 : Hid (Below w.heap.size w (w.alloc (.cells #[.int .i64 span, .int .i64 keep, .slice a n cap] 24))) := (Below.refl _ _).alloc (Nat.le_refl _) _
  have HPL := played_any a n cap ls span keep sa sn sc l _ (IsLvs.below hls HB0.out) hwf s0 s1 k0 k1 (IsScr.below hsc HB0.out) hsn
  clear hls hwf hsc
  generalize (playP (St.new (conf span keep ls)) ⟨#[]⟩ l).2 = LG at *
  generalize (playP (St.new (conf span keep ls)) ⟨#[]⟩ l).1 = S at *
  go_enter Try.func9, Try.ntmps9
  go_wp2_with fail
  refine HPL.mono ?_
  rintro e w1 ⟨D, rfl, ⟨X, F, L, lc, sv, hd⟩, hb1⟩
  have HB1 : Hid (Below w.heap.size w w1) := HB0.out.trans (hb1.mono (by simp))
  have HD1 : Hid (DkS w1 (w.heap.size + 1) D X F S L lc sv LG) := by show DkS _ _ _ _ _ _ _ _ _ _; simpa using hd
  have HI : Hid (Inv S) := hd.inv
  clear hb1 HPL hd
  go_wp2_with fail
  refine (whole_any D X S L S.c.lvs.length lc _ w1 HI.out HD1.out.blk).mono ?_
  rintro e w2 ⟨rfl, hb2⟩
  have HD2 : Hid (DkS w2 (w.heap.size + 1) D X F S L lc sv LG) := HD1.out.below hb2
  have HB2 : Hid (Below w.heap.size w w2) := HB1.out.trans (hb2.mono HB1.out.size)
  obtain ⟨_, _, o3, o4, _⟩ := Cf.old_range HI.out.right HI.out.n0
  have HWQ := whole_wq HI.out
  have HWM : Hid (∀ k, k < 27 → WQ S (mq (wholeQ S) (ways.getD k 0)) (wholeN S)) := fun k hk => wq_of HI.out (mq_is HI.out hk) (Int.le_refl _) (by unfold wholeN; omega)
  have HTW : Hid (∀ k, k < 27 → (qE S.c S.now (mq (wholeQ S) (ways.getD k 0)) = 0 ∧ rowsA S (mq (wholeQ S) (ways.getD k 0)) = S.rows (mq (wholeQ S) (ways.getD k 0))) ∨ (qE S.c S.now (mq (wholeQ S) (ways.getD k 0)) = 11 ∧ keptB S.c.lvs = false ∧ rowsA S (mq (wholeQ S) (ways.getD k 0)) = [])) := fun k hk => (mq_is HI.out hk).two HI.out (Int.le_refl _) o3
  have HQE : Hid (qE S.c S.now (wholeQ S) = 0) := whole_err HI.out
  have HTO : Hid (alikeB (stepsR (wholeN S) (S.rows (wholeQ S))) (sumK S (wholeQ S) (wholeN S) 27) = true) := matched HI.out HWQ.s1 HWQ.mul (whole_any' S).1 (whole_any' S).2
  have HQW : Hid ((wholeQ S).wf) := HWQ.wf rfl rfl
  have HMW : Hid (∀ k, k < 27 → (mq (wholeQ S) (ways.getD k 0)).wf) := fun k hk => (HWM.out k hk).wf (by show (strOfNums _).size = 3; rw [strOfNums_size]; rfl) rfl
  have HRA : Hid (rowsA S (wholeQ S) = S.rows (wholeQ S)) := rowsA_ok HQE.out
  generalize hQ : wholeQ S = Q at *
  generalize hN : wholeN S = N at *
  obtain ⟨f0, f1, f2, t1, t2, n1, n2, hdv, hmu⟩ := HWQ
  have HMU : Hid (Q.to - Q.fr = N * Q.step) := hmu
  have HDV : Hid ((Q.to - Q.fr) / Q.step = N) := hdv
  have hst0 : ¬ Q.step = 0 := by omega
  clear hb2 HD1 hmu hdv o3 o4
  go_upto_region 6 with fail
  rw [HDV.out]
  have HP3 : Hid ((w2.alloc (.cells (qyC Q) 56)).heap[w2.heap.size]? = some (.cells (qyC Q) 56 (0, 0))) := heap_alloc_new w2 _
  have HD3 : Hid (DkS (w2.alloc (.cells (qyC Q) 56)) (w.heap.size + 1) D X F S L lc sv LG) := HD2.out.below ((Below.refl _ _).alloc (Nat.le_refl _) _)
  have HB3 : Hid (Below w.heap.size w (w2.alloc (.cells (qyC Q) 56))) := HB2.out.alloc HB2.out.size _
  have HPl : w2.heap.size < (w2.alloc (.cells (qyC Q) 56)).heap.size := by simp
  have HQA : Hid (QAsk (w2.alloc (.cells (qyC Q) 56)) X Q (rowsA S Q) 0) := by
    have := QAsk.of HD3.out.st HQW.out
    rw [HQE.out] at this
    exact this
  have HDP : D < w2.heap.size := HD2.out.lt
  have HF2 : Hid (∀ k, w2.heap.size ≤ k → ¬ F k) := fun k hk e => by have := (HD2.out.fb _ e).2; omega
  have HL2 : Hid (L < w2.heap.size) := HD2.out.Llt
  have HS2 : Hid (∀ k, sv.ownBlock = some k → k < w2.heap.size) := fun k e => (HD2.out.sms.lt k e).2
  clear HD2
  generalize w2.alloc (.cells (qyC Q) 56) = w3 at *
  have p0 := cell_blk (o := 0) HP3.out rfl
  have p1 := cell_blk (o := 1) HP3.out rfl
  have p2 := cell_blk (o := 2) HP3.out rfl
  have p3 := cell_blk (o := 3) HP3.out rfl
  have p4 := cell_blk (o := 4) HP3.out rfl
  have d0 := HD3.out.cell 0 _ rfl
  have hrm := manyA HI.out Q
  go_cut [8, 9] from 20 to 139 (fun lv ev wx => ∃ la lc, lv = .slice la (rowsA S Q).length lc ∧ ev = .int .i64 0 ∧ wx.ownsRow w3.heap.size 72 8 (.slice la (rowsA S Q).length lc) (rowsA S Q).length (flatR (rowsA S Q)) ∧ Below w3.heap.size w3 wx)
  case first =>
    go_region_with (go_at_call 21; refine (HQA.out _).mono ?_; rintro e w' ⟨la, lc', rfl, ho, hb⟩)
    all_goals go_wp2_with fail
    all_goals go_meet
    all_goals (case rel => exact ⟨la, lc', rfl, rfl, ho, hb⟩)
  case rest =>
    obtain ⟨la, lc', rfl, rfl, ho, hb⟩ := hcut
    have HRA4 : Hid (RwsAt wc la (rowsA S Q)) := RwsAt.of_owns ho rfl
    have HD4 : Hid (DkS wc (w.heap.size + 1) D X F S L lc sv LG) := HD3.out.below hb
    have HB4 : Hid (Below w.heap.size w wc) := HB3.out.trans (hb.mono HB3.out.size)
    have HP4 : Hid (wc.heap[w2.heap.size]? = some (.cells (qyC Q) 56 (0, 0))) := (hb.block _ HPl).trans HP3.out
    have hPc : w2.heap.size < wc.heap.size := Nat.lt_of_lt_of_le HPl hb.size
    have HST := steps_q la lc' N S Q wc HI.out (by omega) t1 HMU.out HRA4.out
    have hmk := make72 N (by omega)
    clear ho hb p0 p1 p2 p3 p4 d0
    go_wp2_with fail
    refine HST.mono ?_
    rintro e w5 ⟨g, rfl, ho, hb⟩
    have HR5 : Hid (RwsAt w5 (some ⟨g, 0, none⟩) (stepsR N (rowsA S Q))) := RwsAt.of_owns ho (stepsR_len N _)
    have HD5 : Hid (DkS w5 (w.heap.size + 1) D X F S L lc sv LG) := HD4.out.below hb
    have HB5 : Hid (Below w.heap.size w w5) := HB4.out.trans (hb.mono HB4.out.size)
    have HP5 : Hid (w5.heap[w2.heap.size]? = some (.cells (qyC Q) 56 (0, 0))) := (hb.block _ hPc).trans HP4.out
    have hP5 : w2.heap.size < w5.heap.size := Nat.lt_of_lt_of_le hPc hb.size
    have hg5 : g < w5.heap.size := (ho.lt g rfl).2
    have hg6 : g ≠ w2.heap.size := by have := (ho.lt g rfl).1; omega
    clear ho hb HST HRA4 HD4 HB4 HP4
    go_wp2_with fail
    go_loopw [13] (fun i wr => ∃ (k : Nat) (mt : ByteArray), i = .int .i64 k ∧ k ≤ 27 ∧ wr.ownsRow w5.heap.size 72 8 (.slice (some ⟨w5.heap.size, 0, none⟩) N N) N (flatR (sumK S Q N k)) ∧ wr.heap[w2.heap.size]? = some (.cells (qyC { Q with mt := mt }) 56 (0, 0)) ∧ DkS wr (w.heap.size + 1) D X F S L lc sv LG ∧ RwsAt wr (some ⟨g, 0, none⟩) (stepsR N (rowsA S Q)) ∧ Below w.heap.size w wr) (fun i _ => 27 - (intOf i).toNat)
    case atStart =>
      have hbz : Below w5.heap.size w5 (w5.alloc (.cells (flatR (List.replicate N Rw.zero)).toArray 72)) := (Below.refl _ _).alloc (Nat.le_refl _) _
      exact ⟨0, Q.mt, rfl, by omega, owns_made w5 N w5.heap.size (by omega) (Nat.le_refl _), (hbz.block _ hP5).trans HP5.out, HD5.out.below hbz, HR5.out.below hbz, HB5.out.alloc HB5.out.size _⟩
    case round =>
      obtain ⟨k, mt, rfl, hk, ho, hP, hD, hR, hB⟩ := hrel
      have HO : Hid (wr.ownsRow w5.heap.size 72 8 (.slice (some ⟨w5.heap.size, 0, none⟩) N N) N (flatR (sumK S Q N k))) := ho
      have HP : Hid (wr.heap[w2.heap.size]? = some (.cells (qyC { Q with mt := mt }) 56 (0, 0))) := hP
      have HD : Hid (DkS wr (w.heap.size + 1) D X F S L lc sv LG) := hD
      have HR : Hid (RwsAt wr (some ⟨g, 0, none⟩) (stepsR N (rowsA S Q))) := hR
      have HB : Hid (Below w.heap.size w wr) := hB
      have p3 := cell_blk (o := 3) hP rfl
      have z3 := froz_blk (o := 3) hP
      have hPr : w2.heap.size < wr.heap.size := (Array.getElem?_eq_some_iff.1 hP).1
      have hGr : w5.heap.size < wr.heap.size := (ho.lt _ rfl).2
      clear ho hP hD hR hB hmk
      by_cases hlt : k < 27
      · go_upto_region 15 with fail
        rw [way_str hlt]
        have HGP : w5.heap.size ≠ w2.heap.size := by omega
        have HP6 : Hid ((wr.setCell ⟨w2.heap.size, 3, none⟩ (.string (strOfNums [ways.getD k 0, 46, 46]))).heap[w2.heap.size]? = some (.cells (qyC (mq Q (ways.getD k 0))) 56 (0, 0))) := heap_setCell HP.out
        have HD6 : Hid (DkS (wr.setCell ⟨w2.heap.size, 3, none⟩ (.string (strOfNums [ways.getD k 0, 46, 46]))) (w.heap.size + 1) D X F S L lc sv LG) := HD.out.set _ (by omega) (HF2.out _ (Nat.le_refl _)) (by have := HL2.out; omega) (fun e => by have := HS2.out _ e; omega)
        have HB6 : Hid (Below w.heap.size w (wr.setCell ⟨w2.heap.size, 3, none⟩ (.string (strOfNums [ways.getD k 0, 46, 46])))) := HB.out.setCell HB2.out.size _
        have HR6 : Hid (RwsAt (wr.setCell ⟨w2.heap.size, 3, none⟩ (.string (strOfNums [ways.getD k 0, 46, 46]))) (some ⟨g, 0, none⟩) (stepsR N (rowsA S Q))) := HR.out.set _ (fun g' e => by injection e with e; injection e with e; rw [← e]; exact hg6)
        have HO6 : Hid ((wr.setCell ⟨w2.heap.size, 3, none⟩ (.string (strOfNums [ways.getD k 0, 46, 46]))).ownsRow w5.heap.size 72 8 (.slice (some ⟨w5.heap.size, 0, none⟩) N N) N (flatR (sumK S Q N k))) := owns_other HO.out (fun e => HGP (Option.some.inj e))
        have hP6 : w2.heap.size < (wr.setCell ⟨w2.heap.size, 3, none⟩ (.string (strOfNums [ways.getD k 0, 46, 46]))).heap.size := by simpa [World.setCell] using hPr
        have hG6 : w5.heap.size < (wr.setCell ⟨w2.heap.size, 3, none⟩ (.string (strOfNums [ways.getD k 0, 46, 46]))).heap.size := by simpa [World.setCell] using hGr
        clear p3 z3 HP HD HB HR HO hPr hGr
        generalize wr.setCell ⟨w2.heap.size, 3, none⟩ (.string (strOfNums [ways.getD k 0, 46, 46])) = w6 at *
        have HTk := HTW.out k hlt
        have HWk := HWM.out k hlt
        have HMk : Hid ((mq Q (ways.getD k 0)).wf) := HMW.out k hlt
        have HJ0 : Hid (sumJ S Q N k 0 = sumK S Q N k) := sumJ_zero S Q N k
        have HJA : Hid (sumJ S Q N k (S.rows (mq Q (ways.getD k 0))).length = sumK S Q N (k + 1)) := sumJ_all S Q N k
        have HJS : Hid (∀ j, j < (S.rows (mq Q (ways.getD k 0))).length → keepW k (rwG (S.rows (mq Q (ways.getD k 0))) j) = false → sumJ S Q N k (j + 1) = sumJ S Q N k j) := fun j h1 h2 => sumJ_skip h1 h2
        have HJP : Hid (∀ j, j < (S.rows (mq Q (ways.getD k 0))).length → keepW k (rwG (S.rows (mq Q (ways.getD k 0))) j) = true → ∀ st : Nat, (rwG (S.rows (mq Q (ways.getD k 0))) j).key.st = st → sumJ S Q N k (j + 1) = (sumJ S Q N k j).set st (joinR (rwG (sumJ S Q N k j) st) (rwG (S.rows (mq Q (ways.getD k 0))) j))) := fun j h1 h2 st h3 => sumJ_put h1 h2 h3
        have HJM : Hid (∀ j i, SmR (rwG (sumJ S Q N k j) i).ag) := fun j i => sumJ_sm HI.out Q N k j i hlt
        have HJL : Hid (∀ j, (sumJ S Q N k j).length = N) := fun j => sumJ_len S Q N k j
        have HMQ : Hid (∃ mt, mq Q (ways.getD k 0) = { Q with mt := mt }) := ⟨_, rfl⟩
        generalize mq Q (ways.getD k 0) = Qk at *
        have HQA6 : Hid (QAsk w6 X Qk (rowsA S Qk) (qE S.c S.now Qk)) := QAsk.of HD6.out.st HMk.out
        have p0 := cell_blk (o := 0) HP6.out rfl
        have p1 := cell_blk (o := 1) HP6.out rfl
        have p2 := cell_blk (o := 2) HP6.out rfl
        have p3 := cell_blk (o := 3) HP6.out rfl
        have p4 := cell_blk (o := 4) HP6.out rfl
        have d0 := HD6.out.cell 0 _ rfl
        have hrm1 := manyA HI.out Qk
        go_cut [14, 15] from 58 to 136 (fun lv ev wx => ∃ la lc, lv = .slice la (rowsA S Qk).length lc ∧ ev = .int .i64 (qE S.c S.now Qk) ∧ wx.ownsRow w6.heap.size 72 8 (.slice la (rowsA S Qk).length lc) (rowsA S Qk).length (flatR (rowsA S Qk)) ∧ Below w6.heap.size w6 wx)
        case first =>
          go_region_with (go_at_call 21; refine (HQA6.out _).mono ?_; rintro e w' ⟨la, lc', rfl, ho, hb⟩)
          all_goals go_wp2_with fail
          all_goals go_meet
          all_goals (case rel => exact ⟨la, lc', rfl, rfl, ho, hb⟩)
        case rest =>
          obtain ⟨lb, lc2, rfl, rfl, ho, hb⟩ := hcut
          generalize wc = w7 at *
          have HL7 : Hid (RwsAt w7 lb (rowsA S Qk)) := RwsAt.of_owns ho rfl
          have HLB : Hid (∀ g, lb = some ⟨g, 0, none⟩ → g ≠ w5.heap.size ∧ g ≠ w2.heap.size) := fun g' e => by
            subst e
            have := (ho.lt g' rfl).1
            omega
          have HD7 : Hid (DkS w7 (w.heap.size + 1) D X F S L lc sv LG) := HD6.out.below hb
          have HB7 : Hid (Below w.heap.size w w7) := HB6.out.trans (hb.mono HB6.out.size)
          have HR7 : Hid (RwsAt w7 (some ⟨g, 0, none⟩) (stepsR N (rowsA S Q))) := HR6.out.below hb
          have HP7 : Hid (w7.heap[w2.heap.size]? = some (.cells (qyC Qk) 56 (0, 0))) := (hb.block _ hP6).trans HP6.out
          have HO7 : Hid (w7.ownsRow w5.heap.size 72 8 (.slice (some ⟨w5.heap.size, 0, none⟩) N N) N (flatR (sumK S Q N k))) := owns_below HO6.out hb (fun j e => (HO6.out.lt j e).2)
          clear ho hb p0 p1 p2 p3 p4 d0 HP6 HD6 HB6 HR6 HO6 HQA6
          rcases HTk with ⟨hE, hRk⟩ | ⟨hE, hK, hRk⟩
          · rw [hE]
            clear hE
            rw [hRk] at HL7 hrm1
            rw [hRk]
            have HST := steps_yes lb (S.rows Qk).length lc2 N (S.rows Qk) w7 HL7.out rfl (by omega) (by omega) (rows_goods HWk.s1 HWk.mul) (rows_smr HI.out Qk) (fun k' _ i => rows_stK HI.out Qk N k' i) (rows_byte HI.out Qk)
            have HGO := rows_goods (s := S) HWk.s1 HWk.mul
            have HS0 : Hid (∀ r ∈ S.rows Qk, 0 ≤ r.key.st ∧ r.key.st < N) := HGO.s0
            have HSR : Hid (SmRs (S.rows Qk)) := rows_smr HI.out Qk
            clear HGO HWk
            generalize S.rows Qk = R at *
            go_wp2_with fail
            refine HST.mono ?_
            rintro e w8 ⟨g2, rfl, _, hb⟩
            have HL8 : Hid (RwsAt w8 lb R) := HL7.out.below hb
            have HD8 : Hid (DkS w8 (w.heap.size + 1) D X F S L lc sv LG) := HD7.out.below hb
            have HB8 : Hid (Below w.heap.size w w8) := HB7.out.trans (hb.mono HB7.out.size)
            have HR8 : Hid (RwsAt w8 (some ⟨g, 0, none⟩) (stepsR N (rowsA S Q))) := HR7.out.below hb
            have HP8 : Hid (w8.heap[w2.heap.size]? = some (.cells (qyC Qk) 56 (0, 0))) := (hb.block _ (Array.getElem?_eq_some_iff.1 HP7.out).1).trans HP7.out
            have HO8 : Hid (w8.ownsRow w5.heap.size 72 8 (.slice (some ⟨w5.heap.size, 0, none⟩) N N) N (flatR (sumJ S Q N k 0))) := by
              show World.ownsRow _ _ _ _ _ _ _
              rw [HJ0.out]
              exact owns_below HO7.out hb (fun j e => (HO7.out.lt j e).2)
            have hG8 : w5.heap.size < w8.heap.size := (HO8.out.lt _ rfl).2
            clear hb HST HL7 HD7 HB7 HR7 HP7 HO7
            have HKW : Hid (∀ r, keepW k r = !((r.key.g0 == 42 && r.key.g1 == 42 && r.key.g2 == 42) && decide (0 < k))) := fun r => by unfold keepW; rw [over_key]
            go_wp2_with fail
            go_loopw [19] (fun jv wx => ∃ j : Nat, jv = .int .i64 j ∧ j ≤ R.length ∧ wx.ownsRow w5.heap.size 72 8 (.slice (some ⟨w5.heap.size, 0, none⟩) N N) N (flatR (sumJ S Q N k j)) ∧ Fr (fun k => k = w5.heap.size) w8 wx) (fun jv _ => R.length - (intOf jv).toNat)
            case atStart => exact ⟨0, rfl, Nat.zero_le _, HO8.out, Fr.refl _ _⟩
            case round =>
              obtain ⟨j, rfl, hj, ho, hf⟩ := hrel
              generalize wr = w9 at *
              have HO : Hid (w9.ownsRow w5.heap.size 72 8 (.slice (some ⟨w5.heap.size, 0, none⟩) N N) N (flatR (sumJ S Q N k j))) := ho
              have HF : Hid (Fr (fun k => k = w5.heap.size) w8 w9) := hf
              have hG9 : w5.heap.size < w9.heap.size := (ho.lt _ rfl).2
              clear ho hf
              by_cases hl2 : j < R.length
              · have HL9 : Hid (RwsAt w9 lb R) := HL8.out.one HF.out (fun g' e => (HLB.out g' e).1)
                obtain ⟨gl, rfl, hgl, hr⟩ := HL9.out (by omega)
                have hrj := hr j hl2
                obtain ⟨r0, r1⟩ := HS0.out (rwG R j) (by rw [rwG_get R j hl2]; exact List.getElem_mem _)
                have HSRj := HSR.out j hl2
                have HKj := HKW.out (rwG R j)
                have HSKj : Hid (keepW k (rwG R j) = false → sumJ S Q N k (j + 1) = sumJ S Q N k j) := HJS.out j hl2
                have HPUj : Hid (keepW k (rwG R j) = true → ∀ st : Nat, (rwG R j).key.st = st → sumJ S Q N k (j + 1) = (sumJ S Q N k j).set st (joinR (rwG (sumJ S Q N k j) st) (rwG R j))) := HJP.out j hl2
                clear hr
                generalize hRj : rwG R j = r at *
                have HRJ : Hid (rwG R j = r) := hRj
                clear hRj
                obtain ⟨st, hst⟩ : ∃ st : Nat, r.key.st = st := ⟨r.key.st.toNat, by omega⟩
                have hstN : st < N := by omega
                have HRa : Hid (RwAt w9 gl (j * 8) r) := hrj
                obtain ⟨x0, x1, x2, x3, x4, x5, x6, x7⟩ := hrj
                rw [hst] at x0
                have HSTT : Hid (r.key.st = st) := hst
                have hKB : Hid (keepW k r = !((r.key.g0 == 42 && r.key.g1 == 42 && r.key.g2 == 42) && decide (0 < k))) := HKj
                clear hst HKj r0 r1
                have heq := fun w => eq26 9998 r.key.g0 r.key.g1 r.key.g2 42 42 42 w
                go_upto_region 25 with fail
                go_cut [116] from 100 to 136 (fun v wx => v = .bool (!(keepW k r)) ∧ wx = w9)
                case first =>
                  cases hO : (r.key.g0 == 42 && r.key.g1 == 42 && r.key.g2 == 42)
                  · rw [hO] at heq
                    go_wp2_with fail
                    go_meet
                    case rel => exact ⟨by rw [hKB.out, hO]; simp, rfl⟩
                  · rw [hO] at heq
                    go_wp2_with fail
                    go_meet
                    case rel => exact ⟨by rw [hKB.out, hO]; simp, rfl⟩
                case rest =>
                  obtain ⟨rfl, hwc⟩ := hcut
                  have hwc2 := hwc.symm
                  clear hwc
                  subst hwc2
                  cases hK : keepW k r
                  · have HSK : Hid (sumJ S Q N k (j + 1) = sumJ S Q N k j) := HSKj.out hK
                    clear hK
                    go_wp2_with fail
                    exact ⟨⟨j + 1, by go_num, by omega, by rw [HSK.out]; exact HO.out, HF.out⟩, by simp [intOf]; omega⟩
                  · have HPU : Hid (sumJ S Q N k (j + 1) = (sumJ S Q N k j).set st (joinR (rwG (sumJ S Q N k j) st) r)) := HPUj.out hK st HSTT.out
                    clear hK heq
                    have HA0 := owns_rw HO.out st (by rw [HJL.out]; exact hstN)
                    have HSA := HJM.out j st
                    generalize hA : rwG (sumJ S Q N k j) st = A at *
                    have HAA : Hid (rwG (sumJ S Q N k j) st = A) := hA
                    have HJc : Hid (∀ W, Below w9.heap.size w9 W → Calls Try.prog 27 #[.agg (rwC A), .agg #[.int .i64 (st : Int), .int .u8 r.key.g0, .int .u8 r.key.g1, .int .u8 r.key.g2, .int .i64 r.ag.cnt, .int .i64 r.ag.sum, .int .i32 r.ag.mn, .int .i32 r.ag.mx]] W fun e w' => e = .returned (.agg (rwC (joinR A r))) ∧ RwAt w' w5.heap.size (st * 8) A ∧ RwAt w' gl (j * 8) r ∧ (∀ o, w'.frozen? ⟨w5.heap.size, o, none⟩ = false) ∧ w'.ownsRow w5.heap.size 72 8 (.slice (some ⟨w5.heap.size, 0, none⟩) N N) N (flatR (sumJ S Q N k j)) ∧ Fr (fun k => k = w5.heap.size) w8 w') := by
                      intro W hW
                      have hc := joined_any A r W HSA HSRj
                      have e9 : rwC r = #[.int .i64 (st : Int), .int .u8 r.key.g0, .int .u8 r.key.g1, .int .u8 r.key.g2, .int .i64 r.ag.cnt, .int .i64 r.ag.sum, .int .i32 r.ag.mn, .int .i32 r.ag.mx] := by unfold rwC; rw [HSTT.out]
                      rw [e9] at hc
                      refine hc.mono ?_
                      rintro e w' ⟨rfl, hb'⟩
                      have hb2 : Below w9.heap.size w9 w' := hW.trans (hb'.mono hW.size)
                      have ho2 := owns_below HO.out hb2 (fun k hk => (HO.out.lt k hk).2)
                      exact ⟨rfl, HA0.below hb2, HRa.out.below hb2, owns_frozen ho2, ho2, HF.out.trans (Fr.of_below (S := fun _ => False) hb2) (fun _ e => e.elim)⟩
                    obtain ⟨a0, a1, a2, a3, a4, a5, a6, a7⟩ := HA0
                    clear hA
                    go_wp2_with fail
                    go_region_with (go_at_call 27; refine (HJc.out _ (by first | exact (Below.refl _ _).drew | exact below_drewN (Below.refl _ _) _)).mono ?_; rintro e w' ⟨rfl, hya, hyr, hfz, hown2, hf2⟩; obtain ⟨b0, b1, b2, b3, b4, b5, b6, b7⟩ := hya; obtain ⟨z0, z1, z2, z3, z4, z5, z6, z7⟩ := hyr; rw [HSTT.out] at z0)
                    all_goals go_wp2_with fail
                    all_goals exact ⟨⟨j + 1, by go_num, by omega, by rw [HPU.out]; exact owns_rwset8 hown2 st (by rw [HJL.out]; exact hstN) (joinR A r), Fr.set8 hf2 (.inl rfl)⟩, by simp [intOf]; omega⟩
              · have hl3 : ¬ (j : Int) < R.length := by omega
                have hje : j = R.length := by omega
                subst hje
                obtain ⟨mt', hmt⟩ := HMQ.out
                go_wp2_with fail
                exact ⟨⟨k + 1, mt', by go_num, by omega, by rw [← HJA.out]; exact HO.out, by rw [← hmt]; exact (HF.out.block _ (Array.getElem?_eq_some_iff.1 HP8.out).1 (by omega)).trans HP8.out, HD8.out.one HF.out (by omega) (HF2.out _ (by omega)) (by have := HL2.out; omega) (fun e => by have := HS2.out _ e; omega), HR8.out.one HF.out (fun g' e => by injection e with e; injection e with e; omega), HB8.out.trans (HF.out.below HB8.out.size (fun k' e => by have := HB5.out.size; omega))⟩, by simp [intOf]; omega⟩
          · rw [hE, hRk]
            clear hE
            have HKE := kept_any D X S L S.c.lvs.length lc sv w7 HD7.out.blk rfl HD7.out.len.2 HD7.out.lv
            rw [hK] at HKE
            clear hK hRk
            go_wp2_with fail
            refine HKE.mono ?_
            rintro e w9 ⟨rfl, rfl⟩
            go_wp2_with fail
            go_ret
            exact ⟨rfl, HB7.out⟩
      · have hlt2 : ¬ (k : Int) < 27 := by omega
        have hke : k = 27 := by omega
        subst hke
        have HRS : Hid (RwsAt wr (some ⟨w5.heap.size, 0, none⟩) (sumK S Q N 27)) := RwsAt.of_owns HO.out (sumK_len S Q N 27)
        have HAL : Hid (alikeB (stepsR N (rowsA S Q)) (sumK S Q N 27) = true) := by show _ = _; rw [HRA.out]; exact HTO.out
        go_wp2_with fail
        refine (alike_yes _ _ N N N _ _ wr HR.out HRS.out (stepsR_len N _) (sumK_len S Q N 27) (by omega) HAL.out).mono ?_
        rintro e w10 ⟨rfl, d, rfl⟩
        go_wp2_with fail
        go_ret
        exact ⟨rfl, below_drewN HB.out d⟩

end Go.Proofs.Ythciddpljcbhiaa
