/- Texts of one claim put together: Stw, Ask, Opn, OpS, OpX, Coq, Coa. -/
import Derived.Test.YthciddpljcbhiaaB5
import Derived.Test.YthciddpljcbhiaaB4
import Derived.Test.YthciddpljcbhiaaA
import Derived.Test.YthciddpljcbhiaaProg
import Derived.ProofKit
import Derived.OpenShut
import Derived.Deep.Slices
import Derived.Lib.SmallJoins
import Derived.Deep.Strs
import Derived.SizedLaws
import Derived.Deep.DrawnRows

/- Walks: rows as one for each step (garnerkeep). -/
namespace Go.Proofs.Ythciddpljcbhiaa
open Go Go.RowKit

theorem conv3At (w : World) (g o : Nat) (a b c : Int) (h0 : w.cell? ⟨g, o, none⟩ = some (.int .u8 a)) (h1 : w.cell? ⟨g, o + 1, none⟩ = some (.int .u8 b)) (h2 : w.cell? ⟨g, o + 2, none⟩ = some (.int .u8 c)) :
    (convert 50 9 (.slice (some ⟨g, o, none⟩) 3 3)).run Try.prog w = .ok (.string (strOfNums [a, b, c])) w := by
  refine run_convert_bytes_arg (P := Try.prog) _ 50 5 Try.underlying50 Try.underlying5 _ o _ 3 [a, b, c] rfl (fun i hi => ?_) 9 Try.underlying9
  have hi3 : i < 3 := hi
  have : i = 0 ∨ i = 1 ∨ i = 2 := by omega
  rcases this with rfl | rfl | rfl
  · exact h0
  · exact h1
  · exact h2

set_option maxHeartbeats 4000000 in
set_option maxRecDepth 100000 in
theorem steps_yes (a : Option Addr) (m cap N : Nat) (l : List Rw) (w : World) (hat : RwsAt w a l) (hm : l.length = m) (hm2 : m ≤ 1000) (hN : N ≤ 1000) (hg : Goods N l) (hs : SmRs l) (hss : ∀ k, k ≤ m → ∀ i, SmR (rwG (stK N l k) i).ag)
    (hgb : ∀ r ∈ l, (0 ≤ r.key.g0 ∧ r.key.g0 ≤ 255) ∧ (0 ≤ r.key.g1 ∧ r.key.g1 ≤ 255) ∧ (0 ≤ r.key.g2 ∧ r.key.g2 ≤ 255)) :
    Calls Try.prog 22 #[.slice a m cap, .int .i64 N] w fun e w' => ∃ g, e = .returned (.tuple #[.slice (some ⟨g, 0, none⟩) N N, .bool true]) ∧ w'.ownsRow w.heap.size 72 8 (.slice (some ⟨g, 0, none⟩) N N) N (flatR (stepsR N l)) ∧ Below w.heap.size w w' := by
  have HA : Hid (RwsAt w a l) := hat
  have HM : Hid (l.length = m) := hm
  have HG : Hid (Goods N l) := hg
  have HS : Hid (SmRs l) := hs
  have HSS : Hid (∀ k, k ≤ m → ∀ i, SmR (rwG (stK N l k) i).ag) := hss
  have HGB : Hid (∀ r ∈ l, (0 ≤ r.key.g0 ∧ r.key.g0 ≤ 255) ∧ (0 ≤ r.key.g1 ∧ r.key.g1 ≤ 255) ∧ (0 ≤ r.key.g2 ∧ r.key.g2 ≤ 255)) := hgb
  have hmk := make72 N hN
  clear hat hm hg hs hss hgb
  go_enter Try.func22, Try.ntmps22
  go_wp2_with fail
  go_loopw [7] (fun i wr => ∃ k : Nat, i = .int .i64 k ∧ k ≤ m ∧ wr.ownsRow w.heap.size 72 8 (.slice (some ⟨w.heap.size, 0, none⟩) N N) N (flatR (stK N l k)) ∧ Below w.heap.size w wr) (fun i _ => m - (intOf i).toNat)
  case atStart => exact ⟨0, rfl, Nat.zero_le _, by rw [stK_zero]; exact owns_made w N _ hN (Nat.le_refl _), (Below.refl _ _).alloc (Nat.le_refl _) _⟩
  case round =>
    obtain ⟨k, rfl, hk, hown, hbel⟩ := hrel
    have HO : Hid (wr.ownsRow w.heap.size 72 8 (.slice (some ⟨w.heap.size, 0, none⟩) N N) N (flatR (stK N l k))) := hown
    have HB : Hid (Below w.heap.size w wr) := hbel
    clear hown hbel hmk
    by_cases hlt : k < m
    · obtain ⟨g, rfl, hgs, hra⟩ := HA.out (by rw [HM.out]; omega)
      have hmem : rwG l k ∈ l := by rw [rwG_get l k (by rw [HM.out]; exact hlt)]; exact List.getElem_mem _
      obtain ⟨s0, s1⟩ := HG.out.s0 _ hmem
      obtain ⟨k1, k2⟩ := HG.out.ok _ hmem
      have hat := (hra k (by rw [HM.out]; exact hlt)).block (HB.out.block g hgs)
      have HSR := HS.out k (by rw [HM.out]; exact hlt)
      have hsz := HB.out.size
      have hgr : g < wr.heap.size := by omega
      have HST : Hid (stK N l (k + 1) = (stK N l k).set (rwG l k).key.st.toNat (joinR (rwG (stK N l k) (rwG l k).key.st.toNat) (rwG l k))) := stK_succ N l k (by rw [HM.out]; exact hlt)
      have HSX := HSS.out k hk
      have HPRE : Hid (∀ j, k = j + 1 → ∃ P : Rw, RwAt wr g (j * 8) P ∧ P.key.lt (rwG l k).key ∧ ((0 ≤ P.key.g0 ∧ P.key.g0 ≤ 255) ∧ (0 ≤ P.key.g1 ∧ P.key.g1 ≤ 255) ∧ (0 ≤ P.key.g2 ∧ P.key.g2 ≤ 255))) := fun j e =>
        ⟨rwG l j, (hra j (by rw [HM.out]; omega)).block (HB.out.block g hgs), up_le HG.out.up (by omega) (by rw [HM.out]; exact hlt), HGB.out _ (by rw [rwG_get l j (by rw [HM.out]; omega)]; exact List.getElem_mem _)⟩
      have hgbR := HGB.out _ hmem
      clear hmem hra
      generalize hR : rwG l k = R at *
      obtain ⟨st, hst⟩ : ∃ st : Nat, R.key.st = st := ⟨R.key.st.toNat, by omega⟩
      have hstN : st < N := by omega
      obtain ⟨x0, x1, x2, x3, x4, x5, x6, x7⟩ := hat
      rw [hst] at x0
      have u1 : decide ((st : Int) < 0) = false := by simp
      have u2 : decide ((N : Int) ≤ (st : Int)) = false := by simp; omega
      have u2' : decide (N ≤ st) = false := by simp; omega
      have u3 : decide (R.ag.cnt < 1) = false := by simp; omega
      have u4 : decide (R.ag.mx < R.ag.mn) = false := by simp; omega
      have HRa : Hid (RwAt wr g (k * 8) R) := ⟨by rw [hst]; exact x0, x1, x2, x3, x4, x5, x6, x7⟩
      rw [show R.key.st.toNat = st by omega] at HST
      have HSTT : Hid (R.key.st = st) := hst
      have HRR : Hid (rwG l k = R) := hR
      clear hst hR
      go_upto_region 6 with fail
      go_cut [52] from 25 to 52 (fun v wx => v = .bool false ∧ Below wr.heap.size wr wx)
      case first =>
        go_quiet (fail)
        go_wp2_with fail
        go_meet
        case rel => exact ⟨rfl, below_drewN (Below.refl _ _) _⟩
      case rest =>
        obtain ⟨rfl, hwb⟩ := hcut
        have HRc : Hid (RwAt wc g (k * 8) R) := HRa.out.below hwb
        have HOc : Hid (wc.ownsRow w.heap.size 72 8 (.slice (some ⟨w.heap.size, 0, none⟩) N N) N (flatR (stK N l k))) := owns_below HO.out hwb (fun k hk => (HO.out.lt k hk).2)
        have HBc : Hid (Below w.heap.size w wc) := HB.out.trans (hwb.mono hsz)
        have hszc : w.heap.size ≤ wc.heap.size := HBc.out.size
        have HPc : Hid (∀ j, k = j + 1 → ∃ P : Rw, RwAt wc g (j * 8) P ∧ P.key.lt R.key ∧ ((0 ≤ P.key.g0 ∧ P.key.g0 ≤ 255) ∧ (0 ≤ P.key.g1 ∧ P.key.g1 ≤ 255) ∧ (0 ≤ P.key.g2 ∧ P.key.g2 ≤ 255))) := fun j e =>
          let ⟨P, h1, h2, h3⟩ := HPRE.out j e; ⟨P, h1.below hwb, h2, h3⟩
        have hgc : g < wc.heap.size := by have := hwb.size; omega
        clear hwb x0 x1 x2 x3 x4 x5 x6 x7 HRa HPRE HO
        have hGc : w.heap.size < wc.heap.size := (HOc.out.lt _ rfl).2
        have HA0 := owns_rw HOc.out st (by rw [stK_len]; exact hstN)
        have HSA := HSX st
        generalize hA : rwG (stK N l k) st = A at *
        have HJ : Hid (∀ W, Below wc.heap.size wc W → Calls Try.prog 27 #[.agg (rwC A), .agg #[.int .i64 (st : Int), .int .u8 R.key.g0, .int .u8 R.key.g1, .int .u8 R.key.g2, .int .i64 R.ag.cnt, .int .i64 R.ag.sum, .int .i32 R.ag.mn, .int .i32 R.ag.mx]] W fun e w' => e = .returned (.agg (rwC (joinR A R))) ∧ RwAt w' w.heap.size (st * 8) A ∧ RwAt w' g (k * 8) R ∧ (∀ o, w'.frozen? ⟨w.heap.size, o, none⟩ = false) ∧ w'.ownsRow w.heap.size 72 8 (.slice (some ⟨w.heap.size, 0, none⟩) N N) N (flatR (stK N l k)) ∧ Below w.heap.size w w') := by
          intro W hW
          have hc := joined_any A R W HSA HSR
          have e9 : rwC R = #[.int .i64 (st : Int), .int .u8 R.key.g0, .int .u8 R.key.g1, .int .u8 R.key.g2, .int .i64 R.ag.cnt, .int .i64 R.ag.sum, .int .i32 R.ag.mn, .int .i32 R.ag.mx] := by unfold rwC; rw [HSTT.out]
          rw [e9] at hc
          refine hc.mono ?_
          rintro e w' ⟨rfl, hb'⟩
          have hb2 : Below wc.heap.size wc w' := hW.trans (hb'.mono hW.size)
          have ho2 := owns_below HOc.out hb2 (fun k hk => (HOc.out.lt k hk).2)
          exact ⟨rfl, HA0.below hb2, HRc.out.below hb2, owns_frozen ho2, ho2, HBc.out.trans (hb2.mono hszc)⟩
        obtain ⟨a0, a1, a2, a3, a4, a5, a6, a7⟩ := HA0
        obtain ⟨x0, x1, x2, x3, x4, x5, x6, x7⟩ := HRc.out
        rw [HSTT.out] at x0
        have HAA : Hid (rwG (stK N l k) st = A) := hA
        clear hA
        by_cases hk0 : k = 0
        · subst hk0
          simp only [Nat.zero_mul, Nat.zero_add] at x0 x1 x2 x3 x4 x5 x6 x7
          go_wp2_with fail
          go_region_with (go_at_call 27; refine (HJ.out _ (by first | exact (Below.refl _ _).drew | exact below_drewN (Below.refl _ _) _)).mono ?_; rintro e w' ⟨rfl, hya, hyr, hfz, hown2, hbw2⟩; obtain ⟨b0, b1, b2, b3, b4, b5, b6, b7⟩ := hya; obtain ⟨z0, z1, z2, z3, z4, z5, z6, z7⟩ := hyr; rw [HSTT.out] at z0)
          all_goals go_wp2_with fail
          all_goals exact ⟨⟨_ + 1, by go_num, by omega, by rw [HST.out]; exact owns_rwset8 hown2 st (by rw [stK_len]; exact hstN) (joinR A R), set8_below hbw2 (Nat.le_refl _)⟩, by simp [intOf]; omega⟩
        · obtain ⟨j, rfl⟩ : ∃ j, k = j + 1 := ⟨k - 1, by omega⟩
          obtain ⟨P, ⟨y0, y1, y2, y3, y4, y5, y6, y7⟩, hlt2, hgbP⟩ := HPc.out j rfl
          have HLT : Hid (P.key.lt R.key) := hlt2
          clear hlt2
          by_cases hps : P.key.st = (st : Int)
          · have HPS : Hid (P.key.st = (st : Int)) := hps
            rw [hps] at y0
            clear hps
            have hcP := conv3At (wc.alloc (.cells #[.int .i64 (st : Int), .int .u8 P.key.g0, .int .u8 P.key.g1, .int .u8 P.key.g2, .int .i64 P.ag.cnt, .int .i64 P.ag.sum, .int .i32 P.ag.mn, .int .i32 P.ag.mx] 72)) wc.heap.size 1 P.key.g0 P.key.g1 P.key.g2 (by simp [go_sem]) (by simp [go_sem]) (by simp [go_sem])
            have hcR := conv3At (wc.alloc (.cells #[.int .i64 (st : Int), .int .u8 P.key.g0, .int .u8 P.key.g1, .int .u8 P.key.g2, .int .i64 P.ag.cnt, .int .i64 P.ag.sum, .int .i32 P.ag.mn, .int .i32 P.ag.mx] 72)) g ((j + 1) * 8 + 1) R.key.g0 R.key.g1 R.key.g2 (cell_alloc1 x1) (cell_alloc1 x2) (cell_alloc1 x3)
            have hbl := str_less hgbP hgbR (HPS.out.trans HSTT.out.symm) HLT.out
            go_wp2_with fail
            go_region_with (go_at_call 27; refine (HJ.out _ (by first | exact ((Below.refl _ _).alloc (Nat.le_refl _) _).drew | exact below_drewN ((Below.refl _ _).alloc (Nat.le_refl _) _) _)).mono ?_; rintro e w' ⟨rfl, hya, hyr, hfz, hown2, hbw2⟩; obtain ⟨b0, b1, b2, b3, b4, b5, b6, b7⟩ := hya; obtain ⟨z0, z1, z2, z3, z4, z5, z6, z7⟩ := hyr; rw [HSTT.out] at z0)
            all_goals go_wp2_with fail
            all_goals exact ⟨⟨j + 1 + 1, by go_num, by omega, by rw [HST.out]; exact owns_rwset8 hown2 st (by rw [stK_len]; exact hstN) (joinR A R), set8_below hbw2 (Nat.le_refl _)⟩, by simp [intOf]; omega⟩
          · have hps2 : P.key.st < (st : Int) := by
              have h9 := HLT.out
              have h8 := HSTT.out
              unfold Key.lt at h9
              omega
            have hpb : (P.key.st == (st : Int)) = false := by simp; omega
            have hpd : decide ((st : Int) < P.key.st) = false := by simp; omega
            have hcP := conv3At (wc.alloc (.cells #[.int .i64 P.key.st, .int .u8 P.key.g0, .int .u8 P.key.g1, .int .u8 P.key.g2, .int .i64 P.ag.cnt, .int .i64 P.ag.sum, .int .i32 P.ag.mn, .int .i32 P.ag.mx] 72)) wc.heap.size 1 P.key.g0 P.key.g1 P.key.g2 (by simp [go_sem]) (by simp [go_sem]) (by simp [go_sem])
            have hcR := conv3At (wc.alloc (.cells #[.int .i64 P.key.st, .int .u8 P.key.g0, .int .u8 P.key.g1, .int .u8 P.key.g2, .int .i64 P.ag.cnt, .int .i64 P.ag.sum, .int .i32 P.ag.mn, .int .i32 P.ag.mx] 72)) g ((j + 1) * 8 + 1) R.key.g0 R.key.g1 R.key.g2 (cell_alloc1 x1) (cell_alloc1 x2) (cell_alloc1 x3)
            go_wp2_with fail
            go_region_with (go_at_call 27; refine (HJ.out _ (by first | exact ((Below.refl _ _).alloc (Nat.le_refl _) _).drew | exact below_drewN ((Below.refl _ _).alloc (Nat.le_refl _) _) _)).mono ?_; rintro e w' ⟨rfl, hya, hyr, hfz, hown2, hbw2⟩; obtain ⟨b0, b1, b2, b3, b4, b5, b6, b7⟩ := hya; obtain ⟨z0, z1, z2, z3, z4, z5, z6, z7⟩ := hyr; rw [HSTT.out] at z0)
            all_goals go_wp2_with fail
            all_goals exact ⟨⟨j + 1 + 1, by go_num, by omega, by rw [HST.out]; exact owns_rwset8 hown2 st (by rw [stK_len]; exact hstN) (joinR A R), set8_below hbw2 (Nat.le_refl _)⟩, by simp [intOf]; omega⟩
    · have hke : k = m := by omega
      have HE : Hid (stK N l k = stepsR N l) := by show _ = _; unfold stK; rw [List.take_of_length_le (by rw [HM.out]; omega)]
      go_wp2_with fail
      go_ret2
      exact ⟨w.heap.size, rfl, by rw [← HE.out]; exact HO.out, HB.out⟩

end Go.Proofs.Ythciddpljcbhiaa

/- What a desk's store is asked (garnerkeep). -/
namespace Go.Proofs.Ythciddpljcbhiaa
open Go Go.RowKit Go.Lib

theorem IsSms.of_owns {w : World} {B : Nat} {a : Option Addr} {n cap : Nat} {l : List Sm} (h : w.ownsRow B 42 5 (.slice a n cap) n (flatS l)) (hn : l.length = n) : IsSms w a n l := ⟨hn, fun hp => by
  obtain ⟨g, c', he, _⟩ := ownBlockForm h hp
  injection he with h1 h2 h3
  subst h1
  exact ⟨g, 0, rfl, smAt_of (owns_at h)⟩⟩
theorem rowsA_ok {s : St} {q : Qy} (h : qE s.c s.now q = 0) : rowsA s q = s.rows q := if_pos h
/-- A query's box, behind a call. -/
theorem box5q {w w1 : World} {q : Qy} (hb : Below (w.alloc (.cells (qyC q) 56)).heap.size (w.alloc (.cells (qyC q) 56)) w1) : w.heap.size < w1.heap.size ∧ w1.heap[w.heap.size]? = some (.cells (qyC q) 56 (0, 0)) := by
  have hz := hb.size
  rw [World.size_alloc] at hb hz
  exact ⟨by omega, by rw [hb.block _ (by omega), heap_alloc_new]⟩

theorem WQ.wf {s : St} {q : Qy} {N : Nat} (h : WQ s q N) (hm : q.mt.size = 3) (hg : q.gb.size = 3) : q.wf := by
  obtain ⟨f0, f1, f2, t1, t2, _, _, _, _⟩ := h
  exact ⟨by omega, by omega, by omega, by omega, by omega, by omega, by rw [hm]; unfold maxLen; omega, by rw [hg]; unfold maxLen; omega⟩
/-- A query of a store, asked at a world or behind draws. -/
def QAsk (w : World) (X : Nat) (q : Qy) (rows : List Rw) (E : Int) : Prop := ∀ d, Calls Try.prog 21 #[.pointer (some ⟨X, 0, none⟩), .agg (qyC q)] (w.drewN d) fun e w' => ∃ la lc, e = .returned (.tuple #[.slice la rows.length lc, .int .i64 E]) ∧ w'.ownsRow w.heap.size 72 8 (.slice la rows.length lc) rows.length (flatR rows) ∧ Below w.heap.size w w'
theorem QAsk.of {w : World} {X : Nat} {F : Nat → Prop} {s : St} {q : Qy} {lg : ByteArray} (h : StoreAt w X F s lg) (hq : q.wf) : QAsk w X q (rowsA s q) (qE s.c s.now q) := fun d => by
  refine (query_any X F s q (w.drewN d) (h.below (below_drewN (Below.refl _ _) d)) hq).mono ?_
  rintro e w' ⟨v, rfl, ho, hb⟩
  obtain ⟨la, lc, rfl⟩ := ownForm ho
  exact ⟨la, lc, rfl, ho, below_und hb⟩

/-- A cell of another block set. -/
theorem DkS.set {w : World} {B D X : Nat} {F : Nat → Prop} {s : St} {L lc : Nat} {sv : Value} {lg : ByteArray} (h : DkS w B D X F s L lc sv lg) {P o : Nat} (v : Value) (hD : P ≠ D) (hF : ¬ F P) (hL : P ≠ L) (hS : sv.ownBlock ≠ some P) : DkS (w.setCell ⟨P, o, none⟩ v) B D X F s L lc sv lg := by
  have hfr : Fr (fun k => k = P) w (w.setCell ⟨P, o, none⟩ v) := Fr.setCell (S := fun k => k = P) (Fr.refl _ _) (.inl rfl) _
  have hs : (w.setCell ⟨P, o, none⟩ v).heap.size = w.heap.size := by simp [World.setCell]
  exact ⟨by rw [Below.heap_setCell _ _ _ _ (Ne.symm hD)]; exact h.blk, h.st.keep (fun k e _ => Below.heap_setCell _ _ _ _ (fun e' => hF ((show k = P from e') ▸ e))), lvAt_of (At.fr (at_of_lv h.lv) hfr (fun e => hL e.symm)), owns_other h.sms hS, fun k e => ⟨(h.fb k e).1, by rw [hs]; exact (h.fb k e).2⟩, h.bD, h.nD, h.nL, h.DL, h.bS⟩
theorem RwAt.set {w : World} {g i : Nat} {r : Rw} (h : RwAt w g i r) {P o : Nat} (v : Value) (hP : g ≠ P) : RwAt (w.setCell ⟨P, o, none⟩ v) g i r := by
  obtain ⟨h0, h1, h2, h3, h4, h5, h6, h7⟩ := h
  have k : ∀ j, (w.setCell ⟨P, o, none⟩ v).cell? ⟨g, j, none⟩ = w.cell? ⟨g, j, none⟩ := fun j => World.cell?_of_block (Below.heap_setCell _ _ _ _ hP)
  exact ⟨(k _).trans h0, (k _).trans h1, (k _).trans h2, (k _).trans h3, (k _).trans h4, (k _).trans h5, (k _).trans h6, (k _).trans h7⟩
theorem RwsAt.set {w : World} {a : Option Addr} {l : List Rw} (h : RwsAt w a l) {P o : Nat} (v : Value) (hP : ∀ g, a = some ⟨g, 0, none⟩ → g ≠ P) : RwsAt (w.setCell ⟨P, o, none⟩ v) a l := by
  intro hp
  obtain ⟨g, e, hl, hr⟩ := h hp
  exact ⟨g, e, by simpa [World.setCell] using hl, fun i hi => (hr i hi).set v (hP g e)⟩
/-! Rows of what is answered or refused. -/
theorem rowsA_cases (s : St) (q : Qy) : rowsA s q = s.rows q ∨ rowsA s q = [] := by unfold rowsA; split; exact .inl rfl; exact .inr rfl
theorem rowsA_sub (s : St) (q : Qy) {r : Rw} (h : r ∈ rowsA s q) : r ∈ s.rows q := by
  rcases rowsA_cases s q with e | e
  · rw [e] at h; exact h
  · rw [e] at h; cases h
theorem goodsA {s : St} {q : Qy} {N : Nat} (hs : 1 ≤ q.step) (hn : q.to - q.fr = N * q.step) : Goods N (rowsA s q) := by
  have g := rows_goods (s := s) hs hn
  rcases rowsA_cases s q with e | e
  · rw [e]; exact g
  · rw [e]; exact ⟨List.Pairwise.nil, fun r hr => absurd hr (by simp), fun r hr => absurd hr (by simp)⟩
theorem manyA {s : St} (h : Inv s) (q : Qy) : (rowsA s q).length ≤ 500 := by
  rcases rowsA_cases s q with e | e
  · rw [e]; exact rows_many h q
  · rw [e]; simp
theorem smrsA {s : St} (h : Inv s) (q : Qy) : SmRs (rowsA s q) := by
  rcases rowsA_cases s q with e | e
  · rw [e]; exact rows_smr h q
  · rw [e]; exact fun i hi => by simp at hi
theorem stKA {s : St} (h : Inv s) (q : Qy) (N k i : Nat) : SmR (rwG (stK N (rowsA s q) k) i).ag := by
  rcases rowsA_cases s q with e | e
  · rw [e]; exact rows_stK h q N k i
  · rw [e]; exact stK_sm (fun r hr => by cases hr) (by simp [cntSum]) k i
theorem byte_lab {a : Int} (h : labB a = true) : 0 ≤ a ∧ a ≤ 255 := by
  rcases lab_good h with h | h <;> omega
theorem byte_g {b x : Int} (h : 0 ≤ x ∧ x ≤ 255) : 0 ≤ gB b x ∧ gB b x ≤ 255 := by
  unfold gB; split <;> omega
/-- The groups of rows are bytes. -/
theorem rows_byte {s : St} (h : Inv s) (q : Qy) : ∀ r ∈ s.rows q, (0 ≤ r.key.g0 ∧ r.key.g0 ≤ 255) ∧ (0 ≤ r.key.g1 ∧ r.key.g1 ≤ 255) ∧ 0 ≤ r.key.g2 ∧ r.key.g2 ≤ 255 := by
  intro r hr
  obtain ⟨x, hx, _, _, g, hg, e0, e1, e2⟩ := rows_mem s hr
  rw [e0, e1, e2]
  have hok := at_ok s ((smOk_iff x).1 (h.ok x hx).1).2.2
  unfold grpOf at hg
  by_cases ho : s.at x = over
  · rw [if_pos ho] at hg
    have := Option.some.inj hg
    subst this
    simp [over]
  · rw [if_neg ho] at hg
    have hl : lab3 (s.at x).a (s.at x).b (s.at x).c = true := by
      rcases hok with hok | hok
      · exact absurd hok ho
      · exact hok
    simp only [lab3, Bool.and_eq_true] at hl
    split at hg
    · have := Option.some.inj hg
      subst this
      exact ⟨byte_g (byte_lab hl.1.1), byte_g (byte_lab hl.1.2), byte_g (byte_lab hl.2)⟩
    · cases hg
theorem steps_q (la : Option Addr) (lc N : Nat) (s : St) (q : Qy) (w : World) (h : Inv s) (hN : N ≤ 1000) (hs : 1 ≤ q.step) (hn : q.to - q.fr = N * q.step) (hat : RwsAt w la (rowsA s q)) :
    Calls Try.prog 22 #[.slice la (rowsA s q).length lc, .int .i64 N] w fun e w' => ∃ g, e = .returned (.tuple #[.slice (some ⟨g, 0, none⟩) N N, .bool true]) ∧ w'.ownsRow w.heap.size 72 8 (.slice (some ⟨g, 0, none⟩) N N) N (flatR (stepsR N (rowsA s q))) ∧ Below w.heap.size w w' :=
  steps_yes la _ lc N _ w hat rfl (by have := manyA h q; omega) hN (goodsA hs hn) (smrsA h q) (fun k _ i => stKA h q N k i) (fun r hr => rows_byte h q r (rowsA_sub s q hr))

end Go.Proofs.Ythciddpljcbhiaa

/- A slice of levels and labels that came in, opened. -/
namespace Go.Proofs.Ythciddpljcbhiaa
open Go Go.RowKit Go.Deep Go.ChangeShapes Go.WideShapes Go.Joins

theorem Try.cells76 : Try.prog.cellsOf 76 = 4 := by kernel_rfl
theorem Try.cells22 : Try.prog.cellsOf 22 = 1 := by kernel_rfl
theorem Try.cells3 : Try.prog.cellsOf 3 = 1 := by kernel_rfl
theorem Try.cells9 : Try.prog.cellsOf 9 = 1 := by kernel_rfl
theorem Try.cells5 : Try.prog.cellsOf 5 = 1 := by kernel_rfl
theorem Try.cells26 : Try.prog.cellsOf 26 = 3 := by kernel_rfl
theorem Try.cells24 : Try.prog.cellsOf 24 = 3 := by kernel_rfl

theorem add_none (b off j : Nat) : (⟨b, off, none⟩ : Addr).add j = ⟨b, off + j, none⟩ := by unfold Addr.add; split <;> simp_all

section
variable {H : Type} {enc : TypeId × Value → H} {w : World} {base : Nat} {spare : Nat → Bool} {held : Bool}

theorem i64_range {n : Int} (h : (Lit.int .i64 n).wf = true) : -9223372036854775808 ≤ n ∧ n ≤ 9223372036854775807 := by
  simpa [Lit.wf, IntKind.min, IntKind.max, IntKind.signed, IntKind.bits] using h

theorem list4 {α : Type} {cs : List α} (h : cs.length = 4) : ∃ c0 c1 c2 c3, cs = [c0, c1, c2, c3] := by
  match cs, h with
  | [c0, c1, c2, c3], _ => exact ⟨c0, c1, c2, c3, rfl⟩

theorem open_level {fuel : Nat} {cs : List Value} {x : DataW H × List MemPlace} (h : DataW.trod enc Try.prog w base spare held fuel 76 cs = some x) :
    ∃ l : Lv, cs = l.cells ∧ -9223372036854775808 ≤ l.window ∧ l.window ≤ 9223372036854775807 ∧ l.rule.size ≤ maxLen := by
  obtain ⟨y0, y1, y2, y3, n, _, hlen, h0, h1, h2, h3⟩ := trod_struct4 Try.underlying76 h
  rw [Try.cells76] at hlen
  obtain ⟨c0, c1, c2, c3, rfl⟩ := list4 hlen
  simp only [Try.cells3, Try.cells9] at h0 h1 h2 h3
  obtain ⟨a, e0, _, _⟩ := DataW.trod_int Try.underlying3 h0
  obtain ⟨b, e1, _, wb⟩ := DataW.trod_int Try.underlying3 h1
  obtain ⟨s, e2, _, hs⟩ := DataW.trod_string Try.underlying9 h2
  obtain ⟨c, e3, _, _⟩ := DataW.trod_int Try.underlying3 h3
  simp at e0 e1 e2 e3
  subst e0 e1 e2 e3
  exact ⟨⟨a, b, s, c⟩, rfl, (i64_range wb).1, (i64_range wb).2, hs⟩

theorem open_levels {fuel : Nat} {v : Value} {y : DataW H × List MemPlace} (hf : DataW.trod enc Try.prog w base spare held fuel 22 [v] = some y) :
    ∃ a n cap ls, v = .slice a n cap ∧ IsLvs w a n ls ∧ LvWf ls ∧ (n = 0 ∨ ∃ D sp, y.1 = .slice D sp ∧ D.length = n) := by
  have zero : LvWf [] := fun i => by simp [lvG, Lv.zero, maxLen]
  rcases open_slice Try.underlying22 hf with ⟨hcs, _⟩ | ⟨a, len, cap, m, k, D, Pl, hcs, _, hl, hm, hmm, hx, he⟩
  · simp at hcs
    exact ⟨none, 0, 0, [], hcs, ⟨rfl, fun h => absurd h (by omega)⟩, zero, .inl rfl⟩
  · simp at hcs
    have hlm : len ≤ m := by rw [hmm]; split <;> omega
    rw [Try.cells76] at he
    have hall : ∀ i, i < len → ∃ l : Lv, (∀ j, j < 4 → w.cell? ((a.add (i * 4)).add j) = l.cells[j]?) ∧ -9223372036854775808 ≤ l.window ∧ l.window ≤ 9223372036854775807 ∧ l.rule.size ≤ maxLen := fun i hi => by
      obtain ⟨cs', h1, h2⟩ := he i (by omega)
      obtain ⟨l, rfl, hb⟩ := open_level h2
      exact ⟨l, (World.cells?_some h1).2.2, hb⟩
    haveI : Inhabited Lv := ⟨Lv.zero⟩
    obtain ⟨f, hff⟩ := choose_lt hall
    refine ⟨some a, len, cap, (List.range len).map f, hcs, ⟨by simp, fun hn => ?_⟩, fun i => ?_, .inr ⟨_, _, by rw [hx], by simp⟩⟩
    · obtain ⟨b, off, spot⟩ := a
      have h0 := (hff 0 hn).1 0 (by omega)
      have hspot : spot = none := by
        have := World.cell?_spot (h0.trans rfl)
        simpa [Addr.add] using this
      subst hspot
      refine ⟨b, off, rfl, fun i hi => ?_⟩
      simp at hi
      have hc := (hff i hi).1
      have e : lvG ((List.range len).map f) i = f i := by simp [lvG, List.getD, hi]
      rw [e]
      simp only [add_none] at hc
      exact ⟨hc 0 (by omega), hc 1 (by omega), hc 2 (by omega), hc 3 (by omega)⟩
    · by_cases hi : i < len
      · have e : lvG ((List.range len).map f) i = f i := by simp [lvG, List.getD, hi]
        rw [e]
        exact (hff i hi).2
      · have e : lvG ((List.range len).map f) i = Lv.zero := by simp [lvG, List.getD, hi]
        rw [e]
        simp [Lv.zero, maxLen]

set_option maxRecDepth 100000 in
theorem okWide_lab {r : Reach} {b0 : Nat} {v : Value} (h : Value.okWide Try.prog w r b0 26 v) : ∃ c0 c1 c2, v = .agg #[c0, c1, c2] := by
  simp only [Value.okWide, Try.underlying26] at h
  obtain ⟨cs, h1, h2, _⟩ := h
  rw [Try.cells26] at h2
  obtain ⟨c0, c1, c2, rfl⟩ := array3 h2
  exact ⟨c0, c1, c2, h1⟩

theorem open_labs {fuel : Nat} {c0 c1 c2 : Value} {y : DataW H × List MemPlace} (hf : DataW.trod enc Try.prog w base spare held fuel 26 [c0, c1, c2] = some y) :
    ∃ x z t, c0 = .int .u8 x ∧ c1 = .int .u8 z ∧ c2 = .int .u8 t ∧ (0 ≤ x ∧ x ≤ 255) ∧ (0 ≤ z ∧ z ≤ 255) ∧ (0 ≤ t ∧ t ≤ 255) := by
  obtain ⟨xs, m, _, _, _, hlen, he⟩ := DataW.trod_array Try.underlying26 hf
  rw [Try.cells5] at he
  have get : ∀ i, i < 3 → ∃ q, xs[i]? = some q := fun i hi => ⟨xs[i]'(by omega), by simp⟩
  have g0 := he 0 (by omega)
  have g1 := he 1 (by omega)
  have g2 := he 2 (by omega)
  obtain ⟨q0, e0⟩ := get 0 (by omega)
  obtain ⟨q1, e1⟩ := get 1 (by omega)
  obtain ⟨q2, e2⟩ := get 2 (by omega)
  rw [e0] at g0
  rw [e1] at g1
  rw [e2] at g2
  obtain ⟨x, a0, _, w0⟩ := DataW.trod_int Try.underlying5 g0
  obtain ⟨z, a1, _, w1⟩ := DataW.trod_int Try.underlying5 g1
  obtain ⟨t, a2, _, w2⟩ := DataW.trod_int Try.underlying5 g2
  simp at a0 a1 a2
  have u8 : ∀ {n : Int}, (Lit.int .u8 n).wf = true → 0 ≤ n ∧ n ≤ 255 := fun {n} h => by simpa [Lit.wf, IntKind.min, IntKind.max, IntKind.signed, IntKind.bits] using h
  exact ⟨x, z, t, a0, a1, a2, u8 w0, u8 w1, u8 w2⟩
end

end Go.Proofs.Ythciddpljcbhiaa

/- A slice of samples that came in, opened. -/
namespace Go.Proofs.Ythciddpljcbhiaa
open Go Go.RowKit Go.Deep Go.ChangeShapes Go.WideShapes Go.Joins

theorem Try.cells42 : Try.prog.cellsOf 42 = 5 := by kernel_rfl
theorem Try.cells21 : Try.prog.cellsOf 21 = 1 := by kernel_rfl

theorem list5 {α : Type} {cs : List α} (h : cs.length = 5) : ∃ c0 c1 c2 c3 c4, cs = [c0, c1, c2, c3, c4] := by
  match cs, h with
  | [c0, c1, c2, c3, c4], _ => exact ⟨c0, c1, c2, c3, c4, rfl⟩

section
variable {H : Type} {enc : TypeId × Value → H} {w : World} {base : Nat} {spare : Nat → Bool} {held : Bool}

theorem i32_range {n : Int} (h : (Lit.int .i32 n).wf = true) : -2147483648 ≤ n ∧ n ≤ 2147483647 := by
  simpa [Lit.wf, IntKind.min, IntKind.max, IntKind.signed, IntKind.bits] using h

theorem open_sample {fuel : Nat} {cs : List Value} {x : DataW H × List MemPlace} (h : DataW.trod enc Try.prog w base spare held fuel 42 cs = some x) :
    ∃ s : Sm, cs = s.cells ∧ s.wf := by
  obtain ⟨y0, y1, y2, n, _, hlen, h0, h1, h2⟩ := trod_struct3 Try.underlying42 h
  rw [Try.cells42] at hlen
  obtain ⟨c0, c1, c2, c3, c4, rfl⟩ := list5 hlen
  simp only [Try.cells3, Try.cells26, Try.cells21] at h0 h1 h2
  obtain ⟨a, e0, _, wa⟩ := DataW.trod_int Try.underlying3 h0
  obtain ⟨x, z, t, rfl, rfl, rfl, b0, b1, b2⟩ := open_labs (by simpa using h1)
  obtain ⟨v, e4, _, wv⟩ := DataW.trod_int Try.underlying21 h2
  simp at e0 e4
  subst e0 e4
  exact ⟨⟨a, x, z, t, v⟩, rfl, i64_range wa, b0, b1, b2, i32_range wv⟩

theorem open_samples {fuel : Nat} {v : Value} {y : DataW H × List MemPlace} (hf : DataW.trod enc Try.prog w base spare held fuel 28 [v] = some y) :
    ∃ a n cap ls, v = .slice a n cap ∧ IsSms w a n ls ∧ SmWf ls ∧ (n = 0 ∨ ∃ D sp, y.1 = .slice D sp ∧ D.length = n) := by
  have zwf : Sm.zero.wf := by simp [Sm.wf, Sm.zero]
  have zero : SmWf [] := fun i => by simpa [smG] using zwf
  rcases open_slice Try.underlying28 hf with ⟨hcs, _⟩ | ⟨a, len, cap, m, k, D, Pl, hcs, _, hl, hm, hmm, hx, he⟩
  · simp at hcs
    exact ⟨none, 0, 0, [], hcs, ⟨rfl, fun h => absurd h (by omega)⟩, zero, .inl rfl⟩
  · simp at hcs
    have hlm : len ≤ m := by rw [hmm]; split <;> omega
    rw [Try.cells42] at he
    have hall : ∀ i, i < len → ∃ l : Sm, (∀ j, j < 5 → w.cell? ((a.add (i * 5)).add j) = l.cells[j]?) ∧ l.wf := fun i hi => by
      obtain ⟨cs', h1, h2⟩ := he i (by omega)
      obtain ⟨l, rfl, hb⟩ := open_sample h2
      exact ⟨l, (World.cells?_some h1).2.2, hb⟩
    haveI : Inhabited Sm := ⟨Sm.zero⟩
    obtain ⟨f, hff⟩ := choose_lt hall
    refine ⟨some a, len, cap, (List.range len).map f, hcs, ⟨by simp, fun hn => ?_⟩, fun i => ?_, .inr ⟨_, _, by rw [hx], by simp⟩⟩
    · obtain ⟨b, off, spot⟩ := a
      have h0 := (hff 0 hn).1 0 (by omega)
      have hspot : spot = none := by
        have := World.cell?_spot (h0.trans rfl)
        simpa [Addr.add] using this
      subst hspot
      refine ⟨b, off, rfl, fun i hi => ?_⟩
      simp at hi
      have hc := (hff i hi).1
      have e : smG ((List.range len).map f) i = f i := by simp [smG, List.getD, hi]
      rw [e]
      simp only [add_none] at hc
      exact ⟨hc 0 (by omega), hc 1 (by omega), hc 2 (by omega), hc 3 (by omega), hc 4 (by omega)⟩
    · by_cases hi : i < len
      · have e : smG ((List.range len).map f) i = f i := by simp [smG, List.getD, hi]
        rw [e]
        exact (hff i hi).2
      · have e : smG ((List.range len).map f) i = Sm.zero := by simp [smG, List.getD, hi]
        rw [e]
        exact zwf
end

end Go.Proofs.Ythciddpljcbhiaa

/- A configuration's levels and a script that came in, opened. -/
namespace Go.Proofs.Ythciddpljcbhiaa
open Go Go.RowKit Go.Deep Go.ChangeShapes Go.WideShapes Go.Joins

theorem Try.cells100 : Try.prog.cellsOf 100 = 3 := by kernel_rfl
theorem Try.cells28 : Try.prog.cellsOf 28 = 1 := by kernel_rfl
theorem Try.xbytes42 : Try.prog.bytesOf 42 = 16 := by kernel_rfl
theorem Try.xbytes100 : Try.prog.bytesOf 100 = 40 := by kernel_rfl

section
variable {H : Type} {enc : TypeId × Value → H} {w : World} {base : Nat} {spare : Nat → Bool} {held : Bool}

theorem list3 {α : Type} {cs : List α} (h : cs.length = 3) : ∃ c0 c1 c2, cs = [c0, c1, c2] := by
  match cs, h with
  | [c0, c1, c2], _ => exact ⟨c0, c1, c2, rfl⟩

def Lv.wf2 (l : Lv) : Prop := (-9223372036854775808 ≤ l.age ∧ l.age ≤ 9223372036854775807) ∧ (-9223372036854775808 ≤ l.window ∧ l.window ≤ 9223372036854775807) ∧ l.rule.size ≤ maxLen ∧ -9223372036854775808 ≤ l.limit ∧ l.limit ≤ 9223372036854775807
theorem open_level2 {fuel : Nat} {cs : List Value} {x : DataW H × List MemPlace} (h : DataW.trod enc Try.prog w base spare held fuel 76 cs = some x) : ∃ l : Lv, cs = l.cells ∧ l.wf2 := by
  obtain ⟨y0, y1, y2, y3, n, _, hlen, h0, h1, h2, h3⟩ := trod_struct4 Try.underlying76 h
  rw [Try.cells76] at hlen
  obtain ⟨c0, c1, c2, c3, rfl⟩ := list4 hlen
  simp only [Try.cells3, Try.cells9] at h0 h1 h2 h3
  obtain ⟨a, e0, _, wa⟩ := DataW.trod_int Try.underlying3 h0
  obtain ⟨b, e1, _, wb⟩ := DataW.trod_int Try.underlying3 h1
  obtain ⟨s, e2, _, hs⟩ := DataW.trod_string Try.underlying9 h2
  obtain ⟨c, e3, _, wc⟩ := DataW.trod_int Try.underlying3 h3
  simp at e0 e1 e2 e3
  subst e0 e1 e2 e3
  exact ⟨⟨a, b, s, c⟩, rfl, i64_range wa, i64_range wb, hs, i64_range wc⟩
theorem zero_wf2 : Lv.zero.wf2 := by simp [Lv.wf2, Lv.zero, maxLen]

theorem open_levels2 {fuel : Nat} {v : Value} {y : DataW H × List MemPlace} (hf : DataW.trod enc Try.prog w base spare held fuel 22 [v] = some y) :
    ∃ a n cap ls, v = .slice a n cap ∧ IsLvs w a n ls ∧ LvWf2 ls := by
  rcases open_slice Try.underlying22 hf with ⟨hcs, _⟩ | ⟨a, len, cap, m, k, D, Pl, hcs, _, hl, hm, hmm, hx, he⟩
  · simp at hcs
    exact ⟨none, 0, 0, [], hcs, ⟨rfl, fun h => absurd h (by omega)⟩, fun i => by have h := zero_wf2; simpa [lvG, Lv.wf2] using h⟩
  · simp at hcs
    have hlm : len ≤ m := by rw [hmm]; split <;> omega
    rw [Try.cells76] at he
    have hall : ∀ i, i < len → ∃ l : Lv, (∀ j, j < 4 → w.cell? ((a.add (i * 4)).add j) = l.cells[j]?) ∧ l.wf2 := fun i hi => by
      obtain ⟨cs', h1, h2⟩ := he i (by omega)
      obtain ⟨l, rfl, hb⟩ := open_level2 h2
      exact ⟨l, (World.cells?_some h1).2.2, hb⟩
    haveI : Inhabited Lv := ⟨Lv.zero⟩
    obtain ⟨f, hff⟩ := choose_lt hall
    refine ⟨some a, len, cap, (List.range len).map f, hcs, ⟨by simp, fun hn => ?_⟩, fun i => ?_⟩
    · obtain ⟨b, off, spot⟩ := a
      have h0 := (hff 0 hn).1 0 (by omega)
      have hspot : spot = none := by
        have := World.cell?_spot (h0.trans rfl)
        simpa [Addr.add] using this
      subst hspot
      refine ⟨b, off, rfl, fun i hi => ?_⟩
      simp at hi
      have hc := (hff i hi).1
      have e : lvG ((List.range len).map f) i = f i := by simp [lvG, List.getD, hi]
      rw [e]
      simp only [add_none] at hc
      exact ⟨hc 0 (by omega), hc 1 (by omega), hc 2 (by omega), hc 3 (by omega)⟩
    · by_cases hi : i < len
      · have e : lvG ((List.range len).map f) i = f i := by simp [lvG, List.getD, hi]
        rw [e]
        exact (hff i hi).2
      · have e : lvG ((List.range len).map f) i = Lv.zero := by simp [lvG, List.getD, hi]
        rw [e]
        exact zero_wf2

/-- A step that came in. -/
theorem open_stp {fuel : Nat} {cs : List Value} {x : DataW H × List MemPlace} (h : DataW.trod enc Try.prog w base spare held fuel 100 cs = some x) (hw : ∀ k ∈ x.1.weights Try.prog 100, k ≤ reachBytes) :
    ∃ (o : Stp) (ba : Option Addr) (bn bc : Nat), cs = [.int .i64 o.kind, .int .i64 o.a, .slice ba bn bc] ∧ IsSms w ba bn o.batch ∧ bn ≤ 9000000000000 ∧ StpWf o := by
  obtain ⟨y0, y1, y2, n, rfl, hlen, h0, h1, h2⟩ := trod_struct3 Try.underlying100 h
  rw [Try.cells100] at hlen
  obtain ⟨c0, c1, c2, rfl⟩ := list3 hlen
  simp only [Try.cells3, Try.cells28] at h0 h1 h2
  obtain ⟨a, e0, d0, wa⟩ := DataW.trod_int Try.underlying3 h0
  obtain ⟨b, e1, d1, wb⟩ := DataW.trod_int Try.underlying3 h1
  simp at e0 e1
  subst e0 e1
  obtain ⟨ba, bn, bc, ls, e2, hs, hwf, hl⟩ := open_samples (v := c2) (y := y2) (by simpa using h2)
  subst e2
  refine ⟨⟨a, b, ls⟩, ba, bn, bc, rfl, hs, ?_, i64_range wa, i64_range wb, hwf⟩
  rcases hl with rfl | ⟨D, sp, hD, rfl⟩
  · omega
  · have hm := hw ((D.length + sp.length) * Try.prog.bytesOf 42) (by simp [DataW.weights, Try.underlying100, DataW.weightsEach, hD, Try.underlying28])
    rw [Try.xbytes42] at hm
    have hm' : (D.length + sp.length) * 16 ≤ 140737488351232 := hm
    omega
theorem weights_all {P : Program} {e : TypeId} : ∀ {l : List (DataW H)} {d : DataW H}, d ∈ l → ∀ k ∈ d.weights P e, k ∈ DataW.weightsAll P e l
  | x :: l, d, hd, k, hk => by
    rw [DataW.weightsAll, List.mem_append]
    rcases List.mem_cons.1 hd with rfl | hd
    · exact .inl hk
    · exact .inr (weights_all hd k hk)

theorem open_script {fuel : Nat} {v : Value} {y : DataW H × List MemPlace} (hf : DataW.trod enc Try.prog w base spare held fuel 52 [v] = some y) (hw : ∀ k ∈ y.1.weights Try.prog 52, k ≤ reachBytes) :
    ∃ a n cap l, v = .slice a n cap ∧ IsScr w a n l ∧ n ≤ 9000000000000 := by
  rcases open_slice Try.underlying52 hf with ⟨hcs, _⟩ | ⟨a, len, cap, m, k, D, Pl, hcs, _, hl, hm, hmm, rfl, he⟩
  · simp at hcs
    exact ⟨none, 0, 0, [], hcs, ⟨rfl, fun x hx => absurd hx (by simp), fun h => absurd h (by omega)⟩, by omega⟩
  · simp at hcs
    have hlm : len ≤ m := by rw [hmm]; split <;> omega
    rw [Try.cells100] at he
    have hW : ∀ i, i < len → ∀ k ∈ (D i).weights Try.prog 100, k ≤ reachBytes := fun i hi k hk => by
      refine hw k ?_
      simp only [DataW.weights, Try.underlying52, List.mem_cons, List.mem_append]
      exact .inr (.inl (weights_all (List.mem_map.2 ⟨i, List.mem_range.2 hi, rfl⟩) k hk))
    have hN : len ≤ 9000000000000 := by
      have h9 := hw ((len + (m - len)) * Try.prog.bytesOf 100) (by simp [DataW.weights, Try.underlying52])
      rw [Try.xbytes100] at h9
      have h9' : (len + (m - len)) * 40 ≤ 140737488351232 := h9
      omega
    have hall : ∀ i, i < len → ∃ o : Stp, (∃ ba bn bc, (∀ j, j < 3 → w.cell? ((a.add (i * 3)).add j) = ([.int .i64 o.kind, .int .i64 o.a, .slice ba bn bc] : List Value)[j]?) ∧ IsSms w ba bn o.batch ∧ bn ≤ 9000000000000) ∧ StpWf o := fun i hi => by
      obtain ⟨cs', h1, h2⟩ := he i (by omega)
      obtain ⟨o, ba, bn, bc, rfl, hs, hb, hwf⟩ := open_stp h2 (hW i hi)
      exact ⟨o, ⟨ba, bn, bc, (World.cells?_some h1).2.2, hs, hb⟩, hwf⟩
    haveI : Inhabited Stp := ⟨Stp.zero⟩
    obtain ⟨f, hff⟩ := choose_lt hall
    refine ⟨some a, len, cap, (List.range len).map f, hcs, ⟨by simp, fun x hx => ?_, fun hn => ?_⟩, hN⟩
    · obtain ⟨i, hi, rfl⟩ := List.mem_map.1 hx
      exact (hff i (List.mem_range.1 hi)).2
    · obtain ⟨b, off, spot⟩ := a
      obtain ⟨⟨ba, bn, bc, h0, _⟩, _⟩ := hff 0 hn
      have h00 := h0 0 (by omega)
      have hspot : spot = none := by
        have := World.cell?_spot (h00.trans rfl)
        simpa [Addr.add] using this
      subst hspot
      refine ⟨b, off, rfl, ?_, fun i hi => ?_⟩
      · have := World.block_lt_of_cell? w _ (h00.trans rfl)
        simpa [Addr.add] using this
      · obtain ⟨⟨ba, bn, bc, hc, hs, hb⟩, _⟩ := hff i hi
        have e : stpG ((List.range len).map f) i = f i := by simp [stpG, List.getD, hi]
        rw [e]
        simp only [add_none] at hc
        exact ⟨ba, bn, bc, hc 0 (by omega), hc 1 (by omega), hc 2 (by omega), hs, hb⟩
end

end Go.Proofs.Ythciddpljcbhiaa

/- The queries of Coarser (no program but the query of all that is kept). -/
namespace Go.Proofs.Ythciddpljcbhiaa
open Go Go.RowKit Go.Lib

def twoQ (q : Qy) : Qy := { q with step := 2 * q.step }
structure CQ (s : St) (q : Qy) (m : Nat) : Prop where
  w1 : WQ s q (2 * m)
  w2 : WQ s (twoQ q) m
  e1 : qE s.c s.now q = 0
  e2 : qE s.c s.now (twoQ q) = 0
  sz : q.mt.size = 3 ∧ q.gb.size = 3
  s3 : q.step ≤ 100
  co : ∀ i, sameR (twoR (rwG (stepsR (2 * m) (s.rows q)) (2 * i)) (rwG (stepsR (2 * m) (s.rows q)) (2 * i + 1))) (rwG (stepsR m (s.rows (twoQ q))) i) = true
theorem named_not {q : Qy} (ha : anyM q) (hb : noBy q) : ∀ i, i < 3 → namedB q i = false := by
  intro i hi
  obtain ⟨a0, a1, a2⟩ := ha
  obtain ⟨b0, b1, b2⟩ := hb
  have : i = 0 ∨ i = 1 ∨ i = 2 := by omega
  unfold namedB
  rcases this with rfl | rfl | rfl
  · rw [a0, b0]; decide
  · rw [a1, b1]; decide
  · rw [a2, b2]; decide
theorem cq_of {s : St} (h : Inv s) {q : Qy} {b : Int} {m : Nat} (hw : WholeQ s.c q b 1 ((2 * m : Nat) : Int)) (hto : q.to ≤ (s.now / s.c.span + 1) * s.c.span) (hb : s.now / s.c.span - b ≤ s.c.keep) (ha : anyM q) (hn : noBy q) : CQ s q m := by
  have hm : 1 ≤ m := by have := hw.n1; omega
  have hstep : (twoQ q).step = 2 * s.c.span := by show 2 * q.step = _; rw [hw.step]; omega
  have hw2 : WholeQ s.c (twoQ q) b 2 (m : Int) := by
    refine ⟨hw.fr, hstep, ?_, hw.m0, by omega, by omega, by have := hw.n20; omega, hw.mt, hw.gb⟩
    show q.to = q.fr + (m : Int) * (2 * q.step)
    rw [hw.to, ← Int.mul_assoc, Int.mul_comm (m : Int) 2]
    rfl
  have w1 := wq_of h hw hto rfl
  have e : ∀ {p : Qy} {k n : Int}, WholeQ s.c p b k n → p.to = q.to → anyM p → noBy p → qE s.c s.now p = 0 := fun hp ht a c => by
    rw [hp.err h.right h.n1 (by rw [ht]; exact hto) hb, lost_not (named_not a c), if_neg (by simp)]
  exact ⟨w1, wq_of h hw2 hto rfl, e hw rfl ha hn, e hw2 rfl ha hn, ⟨hw.mt.1, hw.gb.1⟩, by rw [hw.step]; have := (Cf.right_parts h.right).2.1; omega, fun i => coarser (q2 := twoQ q) w1.s1 w1.mul ha ha rfl rfl rfl i⟩
theorem coar_even {s : St} (h : Inv s) {m : Nat} (hn : wholeN s = 2 * m) : CQ s (wholeQ s) m := by
  obtain ⟨_, _, o3, o4, _⟩ := Cf.old_range h.right h.n0
  have hw := whole_is h
  have e : s.c.cnt s.now = ((2 * m : Nat) : Int) := by unfold wholeN at hn; omega
  rw [e] at hw
  exact cq_of h hw (Int.le_refl _) o3 (whole_any' s).1 (whole_any' s).2
def shiftQ (q : Qy) : Qy := { q with fr := q.fr + q.step }
theorem coar_odd {s : St} (h : Inv s) {m : Nat} (hn : wholeN s = 2 * m + 1) (hm : 1 ≤ m) : CQ s (shiftQ (wholeQ s)) m := by
  obtain ⟨o1, _, o3, o4, o5⟩ := Cf.old_range h.right h.n0
  have hw := whole_is h
  have e : s.c.cnt s.now = ((2 * m + 1 : Nat) : Int) := by unfold wholeN at hn; omega
  rw [e] at hw
  have hw' : WholeQ s.c (shiftQ (wholeQ s)) (s.c.old s.now + 1) 1 ((2 * m : Nat) : Int) := by
    refine ⟨?_, hw.step, ?_, by omega, by omega, by omega, by omega, hw.mt, hw.gb⟩
    · show (wholeQ s).fr + (wholeQ s).step = _
      rw [hw.fr, hw.step, Int.add_mul]
    · show (wholeQ s).to = (wholeQ s).fr + (wholeQ s).step + ((2 * m : Nat) : Int) * (wholeQ s).step
      rw [hw.to, show ((2 * m + 1 : Nat) : Int) = 1 + ((2 * m : Nat) : Int) by omega, Int.add_mul, Int.one_mul, Int.add_assoc]
  exact cq_of h hw' (Int.le_refl _) (by omega) (whole_any' s).1 (whole_any' s).2

end Go.Proofs.Ythciddpljcbhiaa

/- Walks: Coarser. -/
namespace Go.Proofs.Ythciddpljcbhiaa
open Go Go.RowKit Go.Lib
attribute [local go_sem ↓] Go.wp_at_zero Go.wp_at_succ

theorem rwAt_blk {w : World} {P : Nat} {r : Rw} (h : w.heap[P]? = some (.cells (rwC r) 72 (0, 0))) : RwAt w P 0 r := ⟨cell_blk h rfl, cell_blk h rfl, cell_blk h rfl, cell_blk h rfl, cell_blk h rfl, cell_blk h rfl, cell_blk h rfl, cell_blk h rfl⟩
theorem set8_box {w : World} {P : Nat} {x r : Rw} (h : w.heap[P]? = some (.cells (rwC x) 72 (0, 0))) : RwAt (set8 w P 0 r) P 0 r := by
  have h0 := heap_setCell (o := 0) (v := (.int .i64 r.key.st)) h
  have h1 := heap_setCell (o := 1) (v := (.int .u8 r.key.g0)) h0
  have h2 := heap_setCell (o := 2) (v := (.int .u8 r.key.g1)) h1
  have h3 := heap_setCell (o := 3) (v := (.int .u8 r.key.g2)) h2
  have h4 := heap_setCell (o := 4) (v := (.int .i64 r.ag.cnt)) h3
  have h5 := heap_setCell (o := 5) (v := (.int .i64 r.ag.sum)) h4
  have h6 := heap_setCell (o := 6) (v := (.int .i32 r.ag.mn)) h5
  have h7 := heap_setCell (o := 7) (v := (.int .i32 r.ag.mx)) h6
  simp only [List.setIfInBounds_toArray, List.set_cons_succ, List.set_cons_zero] at h7
  exact rwAt_blk h7

set_option maxHeartbeats 4000000 in
set_option maxRecDepth 100000 in
theorem coarser_any (a : Option Addr) (n cap : Nat) (ls : List Lv) (span keep : Int) (sa : Option Addr) (sn sc : Nat) (l : List Stp) (w : World) (hls : IsLvs w a n ls) (hwf : LvWf2 ls) (s0 : -9223372036854775808 ≤ span) (s1 : span ≤ 9223372036854775807) (k0 : -9223372036854775808 ≤ keep) (k1 : keep ≤ 9223372036854775807)
    (hsc : IsScr w sa sn l) (hsn : sn ≤ 9000000000000) :
    Calls Try.prog 10 #[.agg #[.int .i64 span, .int .i64 keep, .slice a n cap], .slice sa sn sc] w fun e w' => e = .returned (.bool true) ∧ Below w.heap.size w w' := by
  have HB0 : Hid (Below w.heap.size w (w.alloc (.cells #[.int .i64 span, .int .i64 keep, .slice a n cap] 24))) := (Below.refl _ _).alloc (Nat.le_refl _) _
  have HPL := played_any a n cap ls span keep sa sn sc l _ (IsLvs.below hls HB0.out) hwf s0 s1 k0 k1 (IsScr.below hsc HB0.out) hsn
  clear hls hwf hsc
  generalize (playP (St.new (conf span keep ls)) ⟨#[]⟩ l).2 = LG at *
  generalize (playP (St.new (conf span keep ls)) ⟨#[]⟩ l).1 = S at *
  go_enter Try.func10, Try.ntmps10
  go_wp2_with fail
  refine HPL.mono ?_
  rintro e w1 ⟨D, rfl, ⟨X, F, L, lc, sv, hd⟩, hb1⟩
  have HB1 : Hid (Below w.heap.size w w1) := HB0.out.trans (hb1.mono (by simp))
  have HD1 : Hid (DkS w1 (w.heap.size + 1) D X F S L lc sv LG) := by show DkS _ _ _ _ _ _ _ _ _ _; simpa using hd
  have HI : Hid (Inv S) := hd.inv
  clear hb1 HPL hd
  go_wp2_with fail
  refine (whole_any D X S L S.c.lvs.length lc _ w1 HI.out HD1.out.blk).mono ?_
  rintro e w2 ⟨rfl, hb2⟩
  have HD2 : Hid (DkS w2 (w.heap.size + 1) D X F S L lc sv LG) := HD1.out.below hb2
  have HB2 : Hid (Below w.heap.size w w2) := HB1.out.trans (hb2.mono HB1.out.size)
  have HWQ := whole_wq HI.out
  have HQE : Hid (qE S.c S.now (wholeQ S) = 0) := whole_err HI.out
  have HQW : Hid ((wholeQ S).wf) := HWQ.wf rfl rfl
  have HCE : Hid (∀ m, wholeN S = 2 * m → CQ S (wholeQ S) m) := fun m h => coar_even HI.out h
  have HCO : Hid (∀ m, wholeN S = 2 * m + 1 → 1 ≤ m → CQ S (shiftQ (wholeQ S)) m) := fun m h h1 => coar_odd HI.out h h1
  generalize hQ : wholeQ S = Q at *
  generalize hN : wholeN S = N at *
  obtain ⟨f0, f1, f2, t1, t2, n1, n2, hdv, hmu⟩ := HWQ
  have HMU : Hid (Q.to - Q.fr = N * Q.step) := hmu
  have HDV : Hid ((Q.to - Q.fr) / Q.step = N) := hdv
  have hst0 : ¬ Q.step = 0 := by omega
  clear hb2 HD1 hmu hdv
  go_upto_if 38 with fail
  rw [HDV.out, show ((N : Int)).tmod 2 = (N : Int) % 2 from Int.tmod_eq_emod_of_nonneg (by omega)]
  have HP3 : Hid ((w2.alloc (.cells (qyC Q) 56)).heap[w2.heap.size]? = some (.cells (qyC Q) 56 (0, 0))) := heap_alloc_new w2 _
  have HD3 : Hid (DkS (w2.alloc (.cells (qyC Q) 56)) (w.heap.size + 1) D X F S L lc sv LG) := HD2.out.below ((Below.refl _ _).alloc (Nat.le_refl _) _)
  have HB3 : Hid (Below w.heap.size w (w2.alloc (.cells (qyC Q) 56))) := HB2.out.alloc HB2.out.size _
  have HPl : w2.heap.size < (w2.alloc (.cells (qyC Q) 56)).heap.size := by simp
  have HQA : Hid (QAsk (w2.alloc (.cells (qyC Q) 56)) X Q (rowsA S Q) 0) := by
    have := QAsk.of HD3.out.st HQW.out
    rw [HQE.out] at this
    exact this
  have HDP : D < w2.heap.size := HD2.out.lt
  have HF2 : Hid (¬ F w2.heap.size) := fun e => by have := (HD2.out.fb _ e).2; omega
  have HL2 : Hid (L < w2.heap.size) := HD2.out.Llt
  have HS2 : Hid (∀ k, sv.ownBlock = some k → k < w2.heap.size) := fun k e => (HD2.out.sms.lt k e).2
  clear HD2
  generalize w2.alloc (.cells (qyC Q) 56) = w3 at *
  have hrm := manyA HI.out Q
  go_cut [] from 22 to 121 (fun wx => ∃ Q' m, CQ S Q' m ∧ wx.heap[w2.heap.size]? = some (.cells (qyC Q') 56 (0, 0)) ∧ DkS wx (w.heap.size + 1) D X F S L lc sv LG ∧ Below w.heap.size w wx)
  case first =>
    by_cases hpar : N % 2 = 0
    · obtain ⟨m, hm⟩ : ∃ m, N = 2 * m := ⟨N / 2, by omega⟩
      have HCQ : Hid (CQ S Q m) := HCE.out m hm
      have hb : ((N : Int) % 2 == 1) = false := by simp; omega
      clear hm
      go_wp2_with fail
      go_meet
      case rel => exact ⟨Q, m, HCQ.out, HP3.out, HD3.out, HB3.out⟩
    · obtain ⟨m, hm⟩ : ∃ m, N = 2 * m + 1 := ⟨N / 2, by omega⟩
      have hb : ((N : Int) % 2 == 1) = true := by simp; omega
      have HNM : Hid (N = 2 * m + 1) := hm
      clear hm
      have p0 := cell_blk (o := 0) HP3.out rfl
      have p1 := cell_blk (o := 1) HP3.out rfl
      have p2 := cell_blk (o := 2) HP3.out rfl
      have p3 := cell_blk (o := 3) HP3.out rfl
      have p4 := cell_blk (o := 4) HP3.out rfl
      have d0 := HD3.out.cell 0 _ rfl
      go_upto_region 6 with fail
      go_cut [7, 8] from 22 to 121 (fun lv ev wx => ev = .int .i64 0 ∧ wx.heap[w2.heap.size]? = some (.cells (qyC Q) 56 (0, 0)) ∧ DkS wx (w.heap.size + 1) D X F S L lc sv LG ∧ Below w.heap.size w wx)
      case first =>
        go_region_with (go_at_call 21; refine (HQA.out _).mono ?_; rintro e w' ⟨la, lc', rfl, ho, hb⟩)
        all_goals go_wp2_with fail
        all_goals go_meet
        all_goals (case rel => exact ⟨rfl, (hb.block _ HPl).trans HP3.out, HD3.out.below hb, HB3.out.trans (hb.mono HB3.out.size)⟩)
      case rest =>
        obtain ⟨rfl, hP, hD, hB⟩ := hcut
        have HP : Hid (wc.heap[w2.heap.size]? = some (.cells (qyC Q) 56 (0, 0))) := hP
        have HD : Hid (DkS wc (w.heap.size + 1) D X F S L lc sv LG) := hD
        have HB : Hid (Below w.heap.size w wc) := hB
        clear p0 p1 p2 p3 p4 d0 hD hB
        have p0 := cell_blk (o := 0) hP rfl
        have p1 := cell_blk (o := 1) hP rfl
        have p2 := cell_blk (o := 2) hP rfl
        have z0 := froz_blk (o := 0) hP
        clear hP
        by_cases hm0 : m = 0
        · have hft : Q.fr + Q.step = Q.to := by
            have h1 := HMU.out
            have h2 := HNM.out
            rw [h2, hm0] at h1
            omega
          have hbq : (Q.fr + Q.step == Q.to) = true := by simpa using hft
          have HBX : Hid (Below w.heap.size w (wc.setCell ⟨w2.heap.size, 0, none⟩ (.int .i64 (Q.fr + Q.step)))) := HB.out.setCell HB2.out.size _
          clear hft
          go_wp2_with fail
          go_ret
          exact ⟨rfl, HBX.out⟩
        · have HCQ : Hid (CQ S (shiftQ Q) m) := HCO.out m HNM.out (by omega)
          have hne : ¬ Q.fr + Q.step = Q.to := by
            have := HCQ.out.w1.f1
            show ¬ (shiftQ Q).fr = (shiftQ Q).to
            omega
          have hbq : (Q.fr + Q.step == Q.to) = false := by simpa using hne
          clear hne
          go_wp2_with fail
          go_meet
          case rel => exact ⟨shiftQ Q, m, HCQ.out, heap_setCell HP.out, HD.out.set _ (by omega) HF2.out (by have := HL2.out; omega) (fun e => by have := HS2.out _ e; omega), HB.out.setCell HB2.out.size _⟩
  case rest =>
    clear HP3 HD3 HB3 HQA HPl hrm HCE HCO HMU HDV hst0 f0 f1 f2 t1 t2 n1 n2 HQW HQE
    obtain ⟨Q', m, hcq, hP, hD, hB⟩ := hcut
    generalize wc = w4 at *
    have HCQ : Hid (CQ S Q' m) := hcq
    have HP3 : Hid (w4.heap[w2.heap.size]? = some (.cells (qyC Q') 56 (0, 0))) := hP
    have HD3 : Hid (DkS w4 (w.heap.size + 1) D X F S L lc sv LG) := hD
    have HB3 : Hid (Below w.heap.size w w4) := hB
    obtain ⟨f0, f1, f2, t1, t2, n1, n2, hdv, hmu⟩ := hcq.w1
    have HMU : Hid (Q'.to - Q'.fr = ((2 * m : Nat) : Int) * Q'.step) := hmu
    obtain ⟨M, hM⟩ : ∃ M : Nat, M = 2 * m := ⟨_, rfl⟩
    have HDV : Hid ((Q'.to - Q'.fr) / Q'.step = M) := by show _ = _; rw [hM]; exact hdv
    have t3 := hcq.s3
    have hst0 : ¬ Q'.step = 0 := by omega
    have HQW : Hid (Q'.wf) := hcq.w1.wf hcq.sz.1 hcq.sz.2
    have HQ2 : Hid ((twoQ Q').wf) := hcq.w2.wf hcq.sz.1 hcq.sz.2
    have HQA : Hid (QAsk w4 X Q' (rowsA S Q') 0) := by
      have := QAsk.of hD.st HQW.out
      rw [hcq.e1] at this
      exact this
    have HPl : w2.heap.size < w4.heap.size := (Array.getElem?_eq_some_iff.1 hP).1
    have hM2 : (M : Int) / 2 = m := by omega
    have HM : Hid (M = 2 * m) := hM
    have hm20 : M ≤ 20 := by omega
    have hrm := manyA HI.out Q'
    clear hcq hP hD hB hdv hmu hM
    have p0 := cell_blk (o := 0) HP3.out rfl
    have p1 := cell_blk (o := 1) HP3.out rfl
    have p2 := cell_blk (o := 2) HP3.out rfl
    have p3 := cell_blk (o := 3) HP3.out rfl
    have p4 := cell_blk (o := 4) HP3.out rfl
    have d0 := HD3.out.cell 0 _ rfl
    go_upto_region 11 with fail
    rw [HDV.out]
    go_cut [10, 11] from 22 to 121 (fun lv ev wx => ∃ la lc, lv = .slice la (rowsA S Q').length lc ∧ ev = .int .i64 0 ∧ wx.ownsRow w4.heap.size 72 8 (.slice la (rowsA S Q').length lc) (rowsA S Q').length (flatR (rowsA S Q')) ∧ Below w4.heap.size w4 wx)
    case first =>
      go_region_with (go_at_call 21; refine (HQA.out _).mono ?_; rintro e w' ⟨la, lc', rfl, ho, hb⟩)
      all_goals go_wp2_with fail
      all_goals go_meet
      all_goals (case rel => exact ⟨la, lc', rfl, rfl, ho, hb⟩)
    case rest =>
      obtain ⟨la, lc', rfl, rfl, ho, hb⟩ := hcut
      have HR4 : Hid (RwsAt wc la (rowsA S Q')) := RwsAt.of_owns ho rfl
      have HD4 : Hid (DkS wc (w.heap.size + 1) D X F S L lc sv LG) := HD3.out.below hb
      have HB4 : Hid (Below w.heap.size w wc) := HB3.out.trans (hb.mono HB3.out.size)
      have HP4 : Hid (wc.heap[w2.heap.size]? = some (.cells (qyC Q') 56 (0, 0))) := (hb.block _ HPl).trans HP3.out
      have hPc : w2.heap.size < wc.heap.size := Nat.lt_of_lt_of_le HPl hb.size
      have HST := steps_q la lc' M S Q' wc HI.out (by omega) t1 (by rw [HM.out]; exact HMU.out) HR4.out
      clear ho hb p0 p1 p2 p3 p4 d0
      go_wp2_with fail
      refine HST.mono ?_
      rintro e w5 ⟨g, rfl, ho, hb⟩
      have HR5 : Hid (RwsAt w5 (some ⟨g, 0, none⟩) (stepsR M (rowsA S Q'))) := RwsAt.of_owns ho (stepsR_len M _)
      have HD5 : Hid (DkS w5 (w.heap.size + 1) D X F S L lc sv LG) := HD4.out.below hb
      have HB5 : Hid (Below w.heap.size w w5) := HB4.out.trans (hb.mono HB4.out.size)
      have HP5 : Hid (w5.heap[w2.heap.size]? = some (.cells (qyC Q') 56 (0, 0))) := (hb.block _ hPc).trans HP4.out
      have hP5 : w2.heap.size < w5.heap.size := Nat.lt_of_lt_of_le hPc hb.size
      have hg5 : g ≠ w2.heap.size := by have := (ho.lt g rfl).1; omega
      have p2 := cell_blk (o := 2) HP5.out rfl
      have z2 := froz_blk (o := 2) HP5.out
      clear ho hb HST HR4 HD4 HB4 HP4
      go_upto_region 14 with fail
      have HP6 : Hid ((w5.setCell ⟨w2.heap.size, 2, none⟩ (.int .i64 (2 * Q'.step))).heap[w2.heap.size]? = some (.cells (qyC (twoQ Q')) 56 (0, 0))) := heap_setCell HP5.out
      have HD6 : Hid (DkS (w5.setCell ⟨w2.heap.size, 2, none⟩ (.int .i64 (2 * Q'.step))) (w.heap.size + 1) D X F S L lc sv LG) := HD5.out.set _ (by omega) HF2.out (by have := HL2.out; omega) (fun e => by have := HS2.out _ e; omega)
      have HB6 : Hid (Below w.heap.size w (w5.setCell ⟨w2.heap.size, 2, none⟩ (.int .i64 (2 * Q'.step)))) := HB5.out.setCell HB2.out.size _
      have HR6 : Hid (RwsAt (w5.setCell ⟨w2.heap.size, 2, none⟩ (.int .i64 (2 * Q'.step))) (some ⟨g, 0, none⟩) (stepsR M (rowsA S Q'))) := HR5.out.set _ (fun g' e => by injection e with e; injection e with e; rw [← e]; exact hg5)
      have hP6 : w2.heap.size < (w5.setCell ⟨w2.heap.size, 2, none⟩ (.int .i64 (2 * Q'.step))).heap.size := by simpa [World.setCell] using hP5
      clear p2 z2 HP5 HD5 HB5 HR5 hP5
      generalize w5.setCell ⟨w2.heap.size, 2, none⟩ (.int .i64 (2 * Q'.step)) = w6 at *
      have HQA6 : Hid (QAsk w6 X (twoQ Q') (rowsA S (twoQ Q')) 0) := by
        have := QAsk.of HD6.out.st HQ2.out
        rw [HCQ.out.e2] at this
        exact this
      have p0 := cell_blk (o := 0) HP6.out rfl
      have p1 := cell_blk (o := 1) HP6.out rfl
      have p2 := cell_blk (o := 2) HP6.out rfl
      have p3 := cell_blk (o := 3) HP6.out rfl
      have p4 := cell_blk (o := 4) HP6.out rfl
      have d0 := HD6.out.cell 0 _ rfl
      have hrm1 := manyA HI.out (twoQ Q')
      go_cut [14, 15] from 22 to 121 (fun lv ev wx => ∃ la lc, lv = .slice la (rowsA S (twoQ Q')).length lc ∧ ev = .int .i64 0 ∧ wx.ownsRow w6.heap.size 72 8 (.slice la (rowsA S (twoQ Q')).length lc) (rowsA S (twoQ Q')).length (flatR (rowsA S (twoQ Q'))) ∧ Below w6.heap.size w6 wx)
      case first =>
        go_region_with (go_at_call 21; refine (HQA6.out _).mono ?_; rintro e w' ⟨la, lc', rfl, ho, hb⟩)
        all_goals go_wp2_with fail
        all_goals go_meet
        all_goals (case rel => exact ⟨la, lc', rfl, rfl, ho, hb⟩)
      case rest =>
        obtain ⟨lb, lc2, rfl, rfl, ho, hb⟩ := hcut
        have HR7 : Hid (RwsAt wc lb (rowsA S (twoQ Q'))) := RwsAt.of_owns ho rfl
        have HB7 : Hid (Below w.heap.size w wc) := HB6.out.trans (hb.mono HB6.out.size)
        have HA7 : Hid (RwsAt wc (some ⟨g, 0, none⟩) (stepsR M (rowsA S Q'))) := HR6.out.below hb
        have HST := steps_q lb lc2 m S (twoQ Q') wc HI.out (by omega) HCQ.out.w2.s1 HCQ.out.w2.mul HR7.out
        clear ho hb p0 p1 p2 p3 p4 d0
        go_wp2_with fail
        refine HST.mono ?_
        rintro e w8 ⟨g2, rfl, ho, hb⟩
        have HR8 : Hid (RwsAt w8 (some ⟨g2, 0, none⟩) (stepsR m (rowsA S (twoQ Q')))) := RwsAt.of_owns ho (stepsR_len m _)
        have HA8 : Hid (RwsAt w8 (some ⟨g, 0, none⟩) (stepsR M (rowsA S Q'))) := HA7.out.below hb
        have HB8 : Hid (Below w.heap.size w w8) := HB7.out.trans (hb.mono HB7.out.size)
        have HSM : Hid (∀ i, SmR (rwG (stepsR M (rowsA S Q')) i).ag) := fun i => by
          have := stKA HI.out Q' M (rowsA S Q').length i
          unfold stK at this
          rw [List.take_length] at this
          exact this
        have HSA : Hid (∀ i, sameR (twoR (rwG (stepsR M (rowsA S Q')) (2 * i)) (rwG (stepsR M (rowsA S Q')) (2 * i + 1))) (rwG (stepsR m (rowsA S (twoQ Q'))) i) = true) := fun i => by
          rw [rowsA_ok HCQ.out.e1, rowsA_ok HCQ.out.e2, HM.out]
          exact HCQ.out.co i
        have HLA : Hid ((stepsR M (rowsA S Q')).length = M) := stepsR_len M _
        have HLB : Hid ((stepsR m (rowsA S (twoQ Q'))).length = m) := stepsR_len m _
        clear ho hb HST HA7 HR7 HB7
        generalize stepsR M (rowsA S Q') = A at *
        generalize stepsR m (rowsA S (twoQ Q')) = C at *
        go_wp2_with fail
        go_loopw [18] (fun i wr => ∃ k : Nat, i = .int .i64 k ∧ k ≤ m ∧ RwsAt wr (some ⟨g, 0, none⟩) A ∧ RwsAt wr (some ⟨g2, 0, none⟩) C ∧ Below w.heap.size w wr) (fun i _ => m - (intOf i).toNat)
        case atStart => exact ⟨0, rfl, Nat.zero_le _, HA8.out, HR8.out, HB8.out⟩
        case round =>
          obtain ⟨k, rfl, hk, hA, hC, hB⟩ := hrel
          have HA : Hid (RwsAt wr (some ⟨g, 0, none⟩) A) := hA
          have HC : Hid (RwsAt wr (some ⟨g2, 0, none⟩) C) := hC
          have HB : Hid (Below w.heap.size w wr) := hB
          clear hB
          by_cases hlt : k < m
          · obtain ⟨j, hj⟩ : ∃ j : Nat, 2 * (k : Int) = (j : Int) := ⟨2 * k, by omega⟩
            have hjk : j = 2 * k := by omega
            have hjM : j + 1 < M := by have := HM.out; omega
            obtain ⟨ga, hga, hgl, hra⟩ := hA (by rw [HLA.out]; omega)
            injection hga with hga
            injection hga with hga
            subst hga
            obtain ⟨gb, hgb, hgl2, hrb⟩ := hC (by rw [HLB.out]; omega)
            injection hgb with hgb
            injection hgb with hgb
            subst hgb
            have hx := hra j (by rw [HLA.out]; omega)
            have hy := hra (j + 1) (by rw [HLA.out]; omega)
            have hz := hrb k (by rw [HLB.out]; exact hlt)
            have HSX := HSM.out j
            have HSY := HSM.out (j + 1)
            have hss := HSA.out k
            rw [← hjk] at hss
            generalize rwG A j = x at *
            generalize rwG A (j + 1) = y at *
            generalize rwG C k = z at *
            have HX : Hid (RwAt wr g (j * 8) x) := hx
            have HZ : Hid (RwAt wr g2 (k * 8) z) := hz
            obtain ⟨x0, x1, x2, x3, x4, x5, x6, x7⟩ := hx
            obtain ⟨y0, y1, y2, y3, y4, y5, y6, y7⟩ := hy
            have HSS : Hid (sameR (twoR x y) z = true) := hss
            clear hz hra hrb hA hC hss hjk
            go_upto_if 142 with fail
            have HW3 : Hid (Below wr.heap.size wr (((wr.alloc (.cells (rwC x) 72)).alloc (.cells (rwC y) 72)).alloc (.cells (rwC x) 72))) := (((Below.refl _ _).alloc (Nat.le_refl _) _).alloc (by simp) _).alloc (by simp; omega) _
            have HZ3 : Hid ((((wr.alloc (.cells (rwC x) 72)).alloc (.cells (rwC y) 72)).alloc (.cells (rwC x) 72)).heap[wr.heap.size + 1 + 1]? = some (.cells (rwC x) 72 (0, 0))) := by
              have e := heap_alloc_new ((wr.alloc (.cells (rwC x) 72)).alloc (.cells (rwC y) 72)) (.cells (rwC x) 72)
              rw [World.size_alloc, World.size_alloc] at e
              exact e
            have HJO : Hid (∀ W, Calls Try.prog 27 #[.agg (rwC x), .agg (rwC y)] W fun e w' => e = .returned (.agg (rwC (joinR x y))) ∧ Below W.heap.size W w') := fun W => joined_any x y W HSX HSY
            go_cut [] from 122 to 183 (fun wx => RwAt wx (wr.heap.size + 1 + 1) 0 (twoR x y) ∧ Below wr.heap.size wr wx)
            case first =>
              by_cases hy0 : 0 < y.ag.cnt
              · have HT : Hid (twoR x y = joinR x y) := if_pos hy0
                go_wp2_with fail
                refine (HJO.out _).mono ?_
                rintro e w9 ⟨rfl, hb9⟩
                have HZ9 : Hid (w9.heap[wr.heap.size + 1 + 1]? = some (.cells (rwC x) 72 (0, 0))) := (hb9.block _ (by simp)).trans HZ3.out
                have HB9 : Hid (Below wr.heap.size wr w9) := HW3.out.trans (hb9.mono (by simp; omega))
                have q0 := cell_blk (o := 0) HZ9.out rfl
                have q1 := cell_blk (o := 1) HZ9.out rfl
                have q2 := cell_blk (o := 2) HZ9.out rfl
                have q3 := cell_blk (o := 3) HZ9.out rfl
                have q4 := cell_blk (o := 4) HZ9.out rfl
                have q5 := cell_blk (o := 5) HZ9.out rfl
                have q6 := cell_blk (o := 6) HZ9.out rfl
                have q7 := cell_blk (o := 7) HZ9.out rfl
                have qz := fun o => froz_blk (o := o) HZ9.out
                clear hb9
                go_wp2_with fail
                go_meet
                case rel => exact ⟨by rw [HT.out]; exact set8_box HZ9.out, set8_below HB9.out (by omega)⟩
              · have HT : Hid (twoR x y = x) := if_neg hy0
                go_wp2_with fail
                go_meet
                case rel => exact ⟨by rw [HT.out]; exact rwAt_blk HZ3.out, HW3.out⟩
            case rest =>
              obtain ⟨hT, hbT⟩ := hcut
              have HZc : RwAt wc g2 (k * 8) z := HZ.out.below hbT
              have HAc : Hid (RwsAt wc (some ⟨g, 0, none⟩) A) := HA.out.below hbT
              have HCc : Hid (RwsAt wc (some ⟨g2, 0, none⟩) C) := HC.out.below hbT
              have HBc : Hid (Below w.heap.size w wc) := HB.out.trans (hbT.mono HB.out.size)
              obtain ⟨s1', s2', s3', s4'⟩ := sameR_iff HSS.out
              generalize twoR x y = T at *
              obtain ⟨_, _, _, _, v4, v5, v6, v7⟩ := hT
              obtain ⟨_, _, _, _, z4, z5, z6, z7⟩ := HZc
              clear hbT HSX HSY HJO HW3 HZ3 x0 x1 x2 x3 x4 x5 x6 x7 y0 y1 y2 y3 y4 y5 y6 y7
              simp only [Nat.zero_add] at v4 v5 v6 v7
              go_upto_region 26 with fail
              go_quiet (fail)
              go_wp2_with fail
              exact ⟨⟨k + 1, by go_num, by omega, HAc.out.below (below_drewN (Below.refl _ _) _), HCc.out.below (below_drewN (Below.refl _ _) _), below_drewN HBc.out _⟩, by simp [intOf]; omega⟩
          · have hlt2 : ¬ (k : Int) < m := by omega
            go_wp2_with fail
            go_ret
            exact ⟨rfl, HB.out⟩

end Go.Proofs.Ythciddpljcbhiaa
