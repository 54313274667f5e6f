/- Texts of one claim put together: Stw, Ask, Opn, OpS, OpX, Rwr, Tol. -/
import Derived.Test.YthciddpljcbhiaaB5
import Derived.Test.YthciddpljcbhiaaB4
import Derived.Test.YthciddpljcbhiaaA
import Derived.Test.YthciddpljcbhiaaProg
import Derived.ProofKit
import Derived.OpenShut
import Derived.Deep.Slices
import Derived.Lib.SmallJoins
import Derived.Deep.Strs
import Derived.SizedLaws
import Derived.Test.YthciddpljcbhiaaB1
import Derived.Test.YthciddpljcbhiaaB3
import Derived.Deep.DrawnRows

/- Walks: rows as one for each step (garnerkeep). -/
namespace Go.Proofs.Ythciddpljcbhiaa
open Go Go.RowKit

theorem conv3At (w : World) (g o : Nat) (a b c : Int) (h0 : w.cell? ⟨g, o, none⟩ = some (.int .u8 a)) (h1 : w.cell? ⟨g, o + 1, none⟩ = some (.int .u8 b)) (h2 : w.cell? ⟨g, o + 2, none⟩ = some (.int .u8 c)) :
    (convert 50 9 (.slice (some ⟨g, o, none⟩) 3 3)).run Try.prog w = .ok (.string (strOfNums [a, b, c])) w := by
  refine run_convert_bytes_arg (P := Try.prog) _ 50 5 Try.underlying50 Try.underlying5 _ o _ 3 [a, b, c] rfl (fun i hi => ?_) 9 Try.underlying9
  have hi3 : i < 3 := hi
  have : i = 0 ∨ i = 1 ∨ i = 2 := by omega
  rcases this with rfl | rfl | rfl
  · exact h0
  · exact h1
  · exact h2

set_option maxHeartbeats 4000000 in
set_option maxRecDepth 100000 in
theorem steps_yes (a : Option Addr) (m cap N : Nat) (l : List Rw) (w : World) (hat : RwsAt w a l) (hm : l.length = m) (hm2 : m ≤ 1000) (hN : N ≤ 1000) (hg : Goods N l) (hs : SmRs l) (hss : ∀ k, k ≤ m → ∀ i, SmR (rwG (stK N l k) i).ag)
    (hgb : ∀ r ∈ l, (0 ≤ r.key.g0 ∧ r.key.g0 ≤ 255) ∧ (0 ≤ r.key.g1 ∧ r.key.g1 ≤ 255) ∧ (0 ≤ r.key.g2 ∧ r.key.g2 ≤ 255)) :
    Calls Try.prog 22 #[.slice a m cap, .int .i64 N] w fun e w' => ∃ g, e = .returned (.tuple #[.slice (some ⟨g, 0, none⟩) N N, .bool true]) ∧ w'.ownsRow w.heap.size 72 8 (.slice (some ⟨g, 0, none⟩) N N) N (flatR (stepsR N l)) ∧ Below w.heap.size w w' := by
  have HA : Hid (RwsAt w a l) := hat
  have HM : Hid (l.length = m) := hm
  have HG : Hid (Goods N l) := hg
  have HS : Hid (SmRs l) := hs
  have HSS : Hid (∀ k, k ≤ m → ∀ i, SmR (rwG (stK N l k) i).ag) := hss
  have HGB : Hid (∀ r ∈ l, (0 ≤ r.key.g0 ∧ r.key.g0 ≤ 255) ∧ (0 ≤ r.key.g1 ∧ r.key.g1 ≤ 255) ∧ (0 ≤ r.key.g2 ∧ r.key.g2 ≤ 255)) := hgb
  have hmk := make72 N hN
  clear hat hm hg hs hss hgb
  go_enter Try.func22, Try.ntmps22
  go_wp2_with fail
  go_loopw [7] (fun i wr => ∃ k : Nat, i = .int .i64 k ∧ k ≤ m ∧ wr.ownsRow w.heap.size 72 8 (.slice (some ⟨w.heap.size, 0, none⟩) N N) N (flatR (stK N l k)) ∧ Below w.heap.size w wr) (fun i _ => m - (intOf i).toNat)
  case atStart => exact ⟨0, rfl, Nat.zero_le _, by rw [stK_zero]; exact owns_made w N _ hN (Nat.le_refl _), (Below.refl _ _).alloc (Nat.le_refl _) _⟩
  case round =>
    obtain ⟨k, rfl, hk, hown, hbel⟩ := hrel
    have HO : Hid (wr.ownsRow w.heap.size 72 8 (.slice (some ⟨w.heap.size, 0, none⟩) N N) N (flatR (stK N l k))) := hown
    have HB : Hid (Below w.heap.size w wr) := hbel
    clear hown hbel hmk
    by_cases hlt : k < m
    · obtain ⟨g, rfl, hgs, hra⟩ := HA.out (by rw [HM.out]; omega)
      have hmem : rwG l k ∈ l := by rw [rwG_get l k (by rw [HM.out]; exact hlt)]; exact List.getElem_mem _
      obtain ⟨s0, s1⟩ := HG.out.s0 _ hmem
      obtain ⟨k1, k2⟩ := HG.out.ok _ hmem
      have hat := (hra k (by rw [HM.out]; exact hlt)).block (HB.out.block g hgs)
      have HSR := HS.out k (by rw [HM.out]; exact hlt)
      have hsz := HB.out.size
      have hgr : g < wr.heap.size := by omega
      have HST : Hid (stK N l (k + 1) = (stK N l k).set (rwG l k).key.st.toNat (joinR (rwG (stK N l k) (rwG l k).key.st.toNat) (rwG l k))) := stK_succ N l k (by rw [HM.out]; exact hlt)
      have HSX := HSS.out k hk
      have HPRE : Hid (∀ j, k = j + 1 → ∃ P : Rw, RwAt wr g (j * 8) P ∧ P.key.lt (rwG l k).key ∧ ((0 ≤ P.key.g0 ∧ P.key.g0 ≤ 255) ∧ (0 ≤ P.key.g1 ∧ P.key.g1 ≤ 255) ∧ (0 ≤ P.key.g2 ∧ P.key.g2 ≤ 255))) := fun j e =>
        ⟨rwG l j, (hra j (by rw [HM.out]; omega)).block (HB.out.block g hgs), up_le HG.out.up (by omega) (by rw [HM.out]; exact hlt), HGB.out _ (by rw [rwG_get l j (by rw [HM.out]; omega)]; exact List.getElem_mem _)⟩
      have hgbR := HGB.out _ hmem
      clear hmem hra
      generalize hR : rwG l k = R at *
      obtain ⟨st, hst⟩ : ∃ st : Nat, R.key.st = st := ⟨R.key.st.toNat, by omega⟩
      have hstN : st < N := by omega
      obtain ⟨x0, x1, x2, x3, x4, x5, x6, x7⟩ := hat
      rw [hst] at x0
      have u1 : decide ((st : Int) < 0) = false := by simp
      have u2 : decide ((N : Int) ≤ (st : Int)) = false := by simp; omega
      have u2' : decide (N ≤ st) = false := by simp; omega
      have u3 : decide (R.ag.cnt < 1) = false := by simp; omega
      have u4 : decide (R.ag.mx < R.ag.mn) = false := by simp; omega
      have HRa : Hid (RwAt wr g (k * 8) R) := ⟨by rw [hst]; exact x0, x1, x2, x3, x4, x5, x6, x7⟩
      rw [show R.key.st.toNat = st by omega] at HST
      have HSTT : Hid (R.key.st = st) := hst
      have HRR : Hid (rwG l k = R) := hR
      clear hst hR
      go_upto_region 6 with fail
      go_cut [52] from 25 to 52 (fun v wx => v = .bool false ∧ Below wr.heap.size wr wx)
      case first =>
        go_quiet (fail)
        go_wp2_with fail
        go_meet
        case rel => exact ⟨rfl, below_drewN (Below.refl _ _) _⟩
      case rest =>
        obtain ⟨rfl, hwb⟩ := hcut
        have HRc : Hid (RwAt wc g (k * 8) R) := HRa.out.below hwb
        have HOc : Hid (wc.ownsRow w.heap.size 72 8 (.slice (some ⟨w.heap.size, 0, none⟩) N N) N (flatR (stK N l k))) := owns_below HO.out hwb (fun k hk => (HO.out.lt k hk).2)
        have HBc : Hid (Below w.heap.size w wc) := HB.out.trans (hwb.mono hsz)
        have hszc : w.heap.size ≤ wc.heap.size := HBc.out.size
        have HPc : Hid (∀ j, k = j + 1 → ∃ P : Rw, RwAt wc g (j * 8) P ∧ P.key.lt R.key ∧ ((0 ≤ P.key.g0 ∧ P.key.g0 ≤ 255) ∧ (0 ≤ P.key.g1 ∧ P.key.g1 ≤ 255) ∧ (0 ≤ P.key.g2 ∧ P.key.g2 ≤ 255))) := fun j e =>
          let ⟨P, h1, h2, h3⟩ := HPRE.out j e; ⟨P, h1.below hwb, h2, h3⟩
        have hgc : g < wc.heap.size := by have := hwb.size; omega
        clear hwb x0 x1 x2 x3 x4 x5 x6 x7 HRa HPRE HO
        have hGc : w.heap.size < wc.heap.size := (HOc.out.lt _ rfl).2
        have HA0 := owns_rw HOc.out st (by rw [stK_len]; exact hstN)
        have HSA := HSX st
        generalize hA : rwG (stK N l k) st = A at *
        have HJ : Hid (∀ W, Below wc.heap.size wc W → Calls Try.prog 27 #[.agg (rwC A), .agg #[.int .i64 (st : Int), .int .u8 R.key.g0, .int .u8 R.key.g1, .int .u8 R.key.g2, .int .i64 R.ag.cnt, .int .i64 R.ag.sum, .int .i32 R.ag.mn, .int .i32 R.ag.mx]] W fun e w' => e = .returned (.agg (rwC (joinR A R))) ∧ RwAt w' w.heap.size (st * 8) A ∧ RwAt w' g (k * 8) R ∧ (∀ o, w'.frozen? ⟨w.heap.size, o, none⟩ = false) ∧ w'.ownsRow w.heap.size 72 8 (.slice (some ⟨w.heap.size, 0, none⟩) N N) N (flatR (stK N l k)) ∧ Below w.heap.size w w') := by
          intro W hW
          have hc := joined_any A R W HSA HSR
          have e9 : rwC R = #[.int .i64 (st : Int), .int .u8 R.key.g0, .int .u8 R.key.g1, .int .u8 R.key.g2, .int .i64 R.ag.cnt, .int .i64 R.ag.sum, .int .i32 R.ag.mn, .int .i32 R.ag.mx] := by unfold rwC; rw [HSTT.out]
          rw [e9] at hc
          refine hc.mono ?_
          rintro e w' ⟨rfl, hb'⟩
          have hb2 : Below wc.heap.size wc w' := hW.trans (hb'.mono hW.size)
          have ho2 := owns_below HOc.out hb2 (fun k hk => (HOc.out.lt k hk).2)
          exact ⟨rfl, HA0.below hb2, HRc.out.below hb2, owns_frozen ho2, ho2, HBc.out.trans (hb2.mono hszc)⟩
        obtain ⟨a0, a1, a2, a3, a4, a5, a6, a7⟩ := HA0
        obtain ⟨x0, x1, x2, x3, x4, x5, x6, x7⟩ := HRc.out
        rw [HSTT.out] at x0
        have HAA : Hid (rwG (stK N l k) st = A) := hA
        clear hA
        by_cases hk0 : k = 0
        · subst hk0
          simp only [Nat.zero_mul, Nat.zero_add] at x0 x1 x2 x3 x4 x5 x6 x7
          go_wp2_with fail
          go_region_with (go_at_call 27; refine (HJ.out _ (by first | exact (Below.refl _ _).drew | exact below_drewN (Below.refl _ _) _)).mono ?_; rintro e w' ⟨rfl, hya, hyr, hfz, hown2, hbw2⟩; obtain ⟨b0, b1, b2, b3, b4, b5, b6, b7⟩ := hya; obtain ⟨z0, z1, z2, z3, z4, z5, z6, z7⟩ := hyr; rw [HSTT.out] at z0)
          all_goals go_wp2_with fail
          all_goals exact ⟨⟨_ + 1, by go_num, by omega, by rw [HST.out]; exact owns_rwset8 hown2 st (by rw [stK_len]; exact hstN) (joinR A R), set8_below hbw2 (Nat.le_refl _)⟩, by simp [intOf]; omega⟩
        · obtain ⟨j, rfl⟩ : ∃ j, k = j + 1 := ⟨k - 1, by omega⟩
          obtain ⟨P, ⟨y0, y1, y2, y3, y4, y5, y6, y7⟩, hlt2, hgbP⟩ := HPc.out j rfl
          have HLT : Hid (P.key.lt R.key) := hlt2
          clear hlt2
          by_cases hps : P.key.st = (st : Int)
          · have HPS : Hid (P.key.st = (st : Int)) := hps
            rw [hps] at y0
            clear hps
            have hcP := conv3At (wc.alloc (.cells #[.int .i64 (st : Int), .int .u8 P.key.g0, .int .u8 P.key.g1, .int .u8 P.key.g2, .int .i64 P.ag.cnt, .int .i64 P.ag.sum, .int .i32 P.ag.mn, .int .i32 P.ag.mx] 72)) wc.heap.size 1 P.key.g0 P.key.g1 P.key.g2 (by simp [go_sem]) (by simp [go_sem]) (by simp [go_sem])
            have hcR := conv3At (wc.alloc (.cells #[.int .i64 (st : Int), .int .u8 P.key.g0, .int .u8 P.key.g1, .int .u8 P.key.g2, .int .i64 P.ag.cnt, .int .i64 P.ag.sum, .int .i32 P.ag.mn, .int .i32 P.ag.mx] 72)) g ((j + 1) * 8 + 1) R.key.g0 R.key.g1 R.key.g2 (cell_alloc1 x1) (cell_alloc1 x2) (cell_alloc1 x3)
            have hbl := str_less hgbP hgbR (HPS.out.trans HSTT.out.symm) HLT.out
            go_wp2_with fail
            go_region_with (go_at_call 27; refine (HJ.out _ (by first | exact ((Below.refl _ _).alloc (Nat.le_refl _) _).drew | exact below_drewN ((Below.refl _ _).alloc (Nat.le_refl _) _) _)).mono ?_; rintro e w' ⟨rfl, hya, hyr, hfz, hown2, hbw2⟩; obtain ⟨b0, b1, b2, b3, b4, b5, b6, b7⟩ := hya; obtain ⟨z0, z1, z2, z3, z4, z5, z6, z7⟩ := hyr; rw [HSTT.out] at z0)
            all_goals go_wp2_with fail
            all_goals exact ⟨⟨j + 1 + 1, by go_num, by omega, by rw [HST.out]; exact owns_rwset8 hown2 st (by rw [stK_len]; exact hstN) (joinR A R), set8_below hbw2 (Nat.le_refl _)⟩, by simp [intOf]; omega⟩
          · have hps2 : P.key.st < (st : Int) := by
              have h9 := HLT.out
              have h8 := HSTT.out
              unfold Key.lt at h9
              omega
            have hpb : (P.key.st == (st : Int)) = false := by simp; omega
            have hpd : decide ((st : Int) < P.key.st) = false := by simp; omega
            have hcP := conv3At (wc.alloc (.cells #[.int .i64 P.key.st, .int .u8 P.key.g0, .int .u8 P.key.g1, .int .u8 P.key.g2, .int .i64 P.ag.cnt, .int .i64 P.ag.sum, .int .i32 P.ag.mn, .int .i32 P.ag.mx] 72)) wc.heap.size 1 P.key.g0 P.key.g1 P.key.g2 (by simp [go_sem]) (by simp [go_sem]) (by simp [go_sem])
            have hcR := conv3At (wc.alloc (.cells #[.int .i64 P.key.st, .int .u8 P.key.g0, .int .u8 P.key.g1, .int .u8 P.key.g2, .int .i64 P.ag.cnt, .int .i64 P.ag.sum, .int .i32 P.ag.mn, .int .i32 P.ag.mx] 72)) g ((j + 1) * 8 + 1) R.key.g0 R.key.g1 R.key.g2 (cell_alloc1 x1) (cell_alloc1 x2) (cell_alloc1 x3)
            go_wp2_with fail
            go_region_with (go_at_call 27; refine (HJ.out _ (by first | exact ((Below.refl _ _).alloc (Nat.le_refl _) _).drew | exact below_drewN ((Below.refl _ _).alloc (Nat.le_refl _) _) _)).mono ?_; rintro e w' ⟨rfl, hya, hyr, hfz, hown2, hbw2⟩; obtain ⟨b0, b1, b2, b3, b4, b5, b6, b7⟩ := hya; obtain ⟨z0, z1, z2, z3, z4, z5, z6, z7⟩ := hyr; rw [HSTT.out] at z0)
            all_goals go_wp2_with fail
            all_goals exact ⟨⟨j + 1 + 1, by go_num, by omega, by rw [HST.out]; exact owns_rwset8 hown2 st (by rw [stK_len]; exact hstN) (joinR A R), set8_below hbw2 (Nat.le_refl _)⟩, by simp [intOf]; omega⟩
    · have hke : k = m := by omega
      have HE : Hid (stK N l k = stepsR N l) := by show _ = _; unfold stK; rw [List.take_of_length_le (by rw [HM.out]; omega)]
      go_wp2_with fail
      go_ret2
      exact ⟨w.heap.size, rfl, by rw [← HE.out]; exact HO.out, HB.out⟩

end Go.Proofs.Ythciddpljcbhiaa

/- What a desk's store is asked (garnerkeep). -/
namespace Go.Proofs.Ythciddpljcbhiaa
open Go Go.RowKit Go.Lib

theorem IsSms.of_owns {w : World} {B : Nat} {a : Option Addr} {n cap : Nat} {l : List Sm} (h : w.ownsRow B 42 5 (.slice a n cap) n (flatS l)) (hn : l.length = n) : IsSms w a n l := ⟨hn, fun hp => by
  obtain ⟨g, c', he, _⟩ := ownBlockForm h hp
  injection he with h1 h2 h3
  subst h1
  exact ⟨g, 0, rfl, smAt_of (owns_at h)⟩⟩
theorem rowsA_ok {s : St} {q : Qy} (h : qE s.c s.now q = 0) : rowsA s q = s.rows q := if_pos h
/-- A query's box, behind a call. -/
theorem box5q {w w1 : World} {q : Qy} (hb : Below (w.alloc (.cells (qyC q) 56)).heap.size (w.alloc (.cells (qyC q) 56)) w1) : w.heap.size < w1.heap.size ∧ w1.heap[w.heap.size]? = some (.cells (qyC q) 56 (0, 0)) := by
  have hz := hb.size
  rw [World.size_alloc] at hb hz
  exact ⟨by omega, by rw [hb.block _ (by omega), heap_alloc_new]⟩

theorem WQ.wf {s : St} {q : Qy} {N : Nat} (h : WQ s q N) (hm : q.mt.size = 3) (hg : q.gb.size = 3) : q.wf := by
  obtain ⟨f0, f1, f2, t1, t2, _, _, _, _⟩ := h
  exact ⟨by omega, by omega, by omega, by omega, by omega, by omega, by rw [hm]; unfold maxLen; omega, by rw [hg]; unfold maxLen; omega⟩
/-- A query of a store, asked at a world or behind draws. -/
def QAsk (w : World) (X : Nat) (q : Qy) (rows : List Rw) (E : Int) : Prop := ∀ d, Calls Try.prog 21 #[.pointer (some ⟨X, 0, none⟩), .agg (qyC q)] (w.drewN d) fun e w' => ∃ la lc, e = .returned (.tuple #[.slice la rows.length lc, .int .i64 E]) ∧ w'.ownsRow w.heap.size 72 8 (.slice la rows.length lc) rows.length (flatR rows) ∧ Below w.heap.size w w'
theorem QAsk.of {w : World} {X : Nat} {F : Nat → Prop} {s : St} {q : Qy} {lg : ByteArray} (h : StoreAt w X F s lg) (hq : q.wf) : QAsk w X q (rowsA s q) (qE s.c s.now q) := fun d => by
  refine (query_any X F s q (w.drewN d) (h.below (below_drewN (Below.refl _ _) d)) hq).mono ?_
  rintro e w' ⟨v, rfl, ho, hb⟩
  obtain ⟨la, lc, rfl⟩ := ownForm ho
  exact ⟨la, lc, rfl, ho, below_und hb⟩

/-- A cell of another block set. -/
theorem DkS.set {w : World} {B D X : Nat} {F : Nat → Prop} {s : St} {L lc : Nat} {sv : Value} {lg : ByteArray} (h : DkS w B D X F s L lc sv lg) {P o : Nat} (v : Value) (hD : P ≠ D) (hF : ¬ F P) (hL : P ≠ L) (hS : sv.ownBlock ≠ some P) : DkS (w.setCell ⟨P, o, none⟩ v) B D X F s L lc sv lg := by
  have hfr : Fr (fun k => k = P) w (w.setCell ⟨P, o, none⟩ v) := Fr.setCell (S := fun k => k = P) (Fr.refl _ _) (.inl rfl) _
  have hs : (w.setCell ⟨P, o, none⟩ v).heap.size = w.heap.size := by simp [World.setCell]
  exact ⟨by rw [Below.heap_setCell _ _ _ _ (Ne.symm hD)]; exact h.blk, h.st.keep (fun k e _ => Below.heap_setCell _ _ _ _ (fun e' => hF ((show k = P from e') ▸ e))), lvAt_of (At.fr (at_of_lv h.lv) hfr (fun e => hL e.symm)), owns_other h.sms hS, fun k e => ⟨(h.fb k e).1, by rw [hs]; exact (h.fb k e).2⟩, h.bD, h.nD, h.nL, h.DL, h.bS⟩
theorem RwAt.set {w : World} {g i : Nat} {r : Rw} (h : RwAt w g i r) {P o : Nat} (v : Value) (hP : g ≠ P) : RwAt (w.setCell ⟨P, o, none⟩ v) g i r := by
  obtain ⟨h0, h1, h2, h3, h4, h5, h6, h7⟩ := h
  have k : ∀ j, (w.setCell ⟨P, o, none⟩ v).cell? ⟨g, j, none⟩ = w.cell? ⟨g, j, none⟩ := fun j => World.cell?_of_block (Below.heap_setCell _ _ _ _ hP)
  exact ⟨(k _).trans h0, (k _).trans h1, (k _).trans h2, (k _).trans h3, (k _).trans h4, (k _).trans h5, (k _).trans h6, (k _).trans h7⟩
theorem RwsAt.set {w : World} {a : Option Addr} {l : List Rw} (h : RwsAt w a l) {P o : Nat} (v : Value) (hP : ∀ g, a = some ⟨g, 0, none⟩ → g ≠ P) : RwsAt (w.setCell ⟨P, o, none⟩ v) a l := by
  intro hp
  obtain ⟨g, e, hl, hr⟩ := h hp
  exact ⟨g, e, by simpa [World.setCell] using hl, fun i hi => (hr i hi).set v (hP g e)⟩
/-! Rows of what is answered or refused. -/
theorem rowsA_cases (s : St) (q : Qy) : rowsA s q = s.rows q ∨ rowsA s q = [] := by unfold rowsA; split; exact .inl rfl; exact .inr rfl
theorem rowsA_sub (s : St) (q : Qy) {r : Rw} (h : r ∈ rowsA s q) : r ∈ s.rows q := by
  rcases rowsA_cases s q with e | e
  · rw [e] at h; exact h
  · rw [e] at h; cases h
theorem goodsA {s : St} {q : Qy} {N : Nat} (hs : 1 ≤ q.step) (hn : q.to - q.fr = N * q.step) : Goods N (rowsA s q) := by
  have g := rows_goods (s := s) hs hn
  rcases rowsA_cases s q with e | e
  · rw [e]; exact g
  · rw [e]; exact ⟨List.Pairwise.nil, fun r hr => absurd hr (by simp), fun r hr => absurd hr (by simp)⟩
theorem manyA {s : St} (h : Inv s) (q : Qy) : (rowsA s q).length ≤ 500 := by
  rcases rowsA_cases s q with e | e
  · rw [e]; exact rows_many h q
  · rw [e]; simp
theorem smrsA {s : St} (h : Inv s) (q : Qy) : SmRs (rowsA s q) := by
  rcases rowsA_cases s q with e | e
  · rw [e]; exact rows_smr h q
  · rw [e]; exact fun i hi => by simp at hi
theorem stKA {s : St} (h : Inv s) (q : Qy) (N k i : Nat) : SmR (rwG (stK N (rowsA s q) k) i).ag := by
  rcases rowsA_cases s q with e | e
  · rw [e]; exact rows_stK h q N k i
  · rw [e]; exact stK_sm (fun r hr => by cases hr) (by simp [cntSum]) k i
theorem byte_lab {a : Int} (h : labB a = true) : 0 ≤ a ∧ a ≤ 255 := by
  rcases lab_good h with h | h <;> omega
theorem byte_g {b x : Int} (h : 0 ≤ x ∧ x ≤ 255) : 0 ≤ gB b x ∧ gB b x ≤ 255 := by
  unfold gB; split <;> omega
/-- The groups of rows are bytes. -/
theorem rows_byte {s : St} (h : Inv s) (q : Qy) : ∀ r ∈ s.rows q, (0 ≤ r.key.g0 ∧ r.key.g0 ≤ 255) ∧ (0 ≤ r.key.g1 ∧ r.key.g1 ≤ 255) ∧ 0 ≤ r.key.g2 ∧ r.key.g2 ≤ 255 := by
  intro r hr
  obtain ⟨x, hx, _, _, g, hg, e0, e1, e2⟩ := rows_mem s hr
  rw [e0, e1, e2]
  have hok := at_ok s ((smOk_iff x).1 (h.ok x hx).1).2.2
  unfold grpOf at hg
  by_cases ho : s.at x = over
  · rw [if_pos ho] at hg
    have := Option.some.inj hg
    subst this
    simp [over]
  · rw [if_neg ho] at hg
    have hl : lab3 (s.at x).a (s.at x).b (s.at x).c = true := by
      rcases hok with hok | hok
      · exact absurd hok ho
      · exact hok
    simp only [lab3, Bool.and_eq_true] at hl
    split at hg
    · have := Option.some.inj hg
      subst this
      exact ⟨byte_g (byte_lab hl.1.1), byte_g (byte_lab hl.1.2), byte_g (byte_lab hl.2)⟩
    · cases hg
theorem steps_q (la : Option Addr) (lc N : Nat) (s : St) (q : Qy) (w : World) (h : Inv s) (hN : N ≤ 1000) (hs : 1 ≤ q.step) (hn : q.to - q.fr = N * q.step) (hat : RwsAt w la (rowsA s q)) :
    Calls Try.prog 22 #[.slice la (rowsA s q).length lc, .int .i64 N] w fun e w' => ∃ g, e = .returned (.tuple #[.slice (some ⟨g, 0, none⟩) N N, .bool true]) ∧ w'.ownsRow w.heap.size 72 8 (.slice (some ⟨g, 0, none⟩) N N) N (flatR (stepsR N (rowsA s q))) ∧ Below w.heap.size w w' :=
  steps_yes la _ lc N _ w hat rfl (by have := manyA h q; omega) hN (goodsA hs hn) (smrsA h q) (fun k _ i => stKA h q N k i) (fun r hr => rows_byte h q r (rowsA_sub s q hr))

end Go.Proofs.Ythciddpljcbhiaa

/- A slice of levels and labels that came in, opened. -/
namespace Go.Proofs.Ythciddpljcbhiaa
open Go Go.RowKit Go.Deep Go.ChangeShapes Go.WideShapes Go.Joins

theorem Try.cells76 : Try.prog.cellsOf 76 = 4 := by kernel_rfl
theorem Try.cells22 : Try.prog.cellsOf 22 = 1 := by kernel_rfl
theorem Try.cells3 : Try.prog.cellsOf 3 = 1 := by kernel_rfl
theorem Try.cells9 : Try.prog.cellsOf 9 = 1 := by kernel_rfl
theorem Try.cells5 : Try.prog.cellsOf 5 = 1 := by kernel_rfl
theorem Try.cells26 : Try.prog.cellsOf 26 = 3 := by kernel_rfl
theorem Try.cells24 : Try.prog.cellsOf 24 = 3 := by kernel_rfl

theorem add_none (b off j : Nat) : (⟨b, off, none⟩ : Addr).add j = ⟨b, off + j, none⟩ := by unfold Addr.add; split <;> simp_all

section
variable {H : Type} {enc : TypeId × Value → H} {w : World} {base : Nat} {spare : Nat → Bool} {held : Bool}

theorem i64_range {n : Int} (h : (Lit.int .i64 n).wf = true) : -9223372036854775808 ≤ n ∧ n ≤ 9223372036854775807 := by
  simpa [Lit.wf, IntKind.min, IntKind.max, IntKind.signed, IntKind.bits] using h

theorem list4 {α : Type} {cs : List α} (h : cs.length = 4) : ∃ c0 c1 c2 c3, cs = [c0, c1, c2, c3] := by
  match cs, h with
  | [c0, c1, c2, c3], _ => exact ⟨c0, c1, c2, c3, rfl⟩

theorem open_level {fuel : Nat} {cs : List Value} {x : DataW H × List MemPlace} (h : DataW.trod enc Try.prog w base spare held fuel 76 cs = some x) :
    ∃ l : Lv, cs = l.cells ∧ -9223372036854775808 ≤ l.window ∧ l.window ≤ 9223372036854775807 ∧ l.rule.size ≤ maxLen := by
  obtain ⟨y0, y1, y2, y3, n, _, hlen, h0, h1, h2, h3⟩ := trod_struct4 Try.underlying76 h
  rw [Try.cells76] at hlen
  obtain ⟨c0, c1, c2, c3, rfl⟩ := list4 hlen
  simp only [Try.cells3, Try.cells9] at h0 h1 h2 h3
  obtain ⟨a, e0, _, _⟩ := DataW.trod_int Try.underlying3 h0
  obtain ⟨b, e1, _, wb⟩ := DataW.trod_int Try.underlying3 h1
  obtain ⟨s, e2, _, hs⟩ := DataW.trod_string Try.underlying9 h2
  obtain ⟨c, e3, _, _⟩ := DataW.trod_int Try.underlying3 h3
  simp at e0 e1 e2 e3
  subst e0 e1 e2 e3
  exact ⟨⟨a, b, s, c⟩, rfl, (i64_range wb).1, (i64_range wb).2, hs⟩

theorem open_levels {fuel : Nat} {v : Value} {y : DataW H × List MemPlace} (hf : DataW.trod enc Try.prog w base spare held fuel 22 [v] = some y) :
    ∃ a n cap ls, v = .slice a n cap ∧ IsLvs w a n ls ∧ LvWf ls ∧ (n = 0 ∨ ∃ D sp, y.1 = .slice D sp ∧ D.length = n) := by
  have zero : LvWf [] := fun i => by simp [lvG, Lv.zero, maxLen]
  rcases open_slice Try.underlying22 hf with ⟨hcs, _⟩ | ⟨a, len, cap, m, k, D, Pl, hcs, _, hl, hm, hmm, hx, he⟩
  · simp at hcs
    exact ⟨none, 0, 0, [], hcs, ⟨rfl, fun h => absurd h (by omega)⟩, zero, .inl rfl⟩
  · simp at hcs
    have hlm : len ≤ m := by rw [hmm]; split <;> omega
    rw [Try.cells76] at he
    have hall : ∀ i, i < len → ∃ l : Lv, (∀ j, j < 4 → w.cell? ((a.add (i * 4)).add j) = l.cells[j]?) ∧ -9223372036854775808 ≤ l.window ∧ l.window ≤ 9223372036854775807 ∧ l.rule.size ≤ maxLen := fun i hi => by
      obtain ⟨cs', h1, h2⟩ := he i (by omega)
      obtain ⟨l, rfl, hb⟩ := open_level h2
      exact ⟨l, (World.cells?_some h1).2.2, hb⟩
    haveI : Inhabited Lv := ⟨Lv.zero⟩
    obtain ⟨f, hff⟩ := choose_lt hall
    refine ⟨some a, len, cap, (List.range len).map f, hcs, ⟨by simp, fun hn => ?_⟩, fun i => ?_, .inr ⟨_, _, by rw [hx], by simp⟩⟩
    · obtain ⟨b, off, spot⟩ := a
      have h0 := (hff 0 hn).1 0 (by omega)
      have hspot : spot = none := by
        have := World.cell?_spot (h0.trans rfl)
        simpa [Addr.add] using this
      subst hspot
      refine ⟨b, off, rfl, fun i hi => ?_⟩
      simp at hi
      have hc := (hff i hi).1
      have e : lvG ((List.range len).map f) i = f i := by simp [lvG, List.getD, hi]
      rw [e]
      simp only [add_none] at hc
      exact ⟨hc 0 (by omega), hc 1 (by omega), hc 2 (by omega), hc 3 (by omega)⟩
    · by_cases hi : i < len
      · have e : lvG ((List.range len).map f) i = f i := by simp [lvG, List.getD, hi]
        rw [e]
        exact (hff i hi).2
      · have e : lvG ((List.range len).map f) i = Lv.zero := by simp [lvG, List.getD, hi]
        rw [e]
        simp [Lv.zero, maxLen]

set_option maxRecDepth 100000 in
theorem okWide_lab {r : Reach} {b0 : Nat} {v : Value} (h : Value.okWide Try.prog w r b0 26 v) : ∃ c0 c1 c2, v = .agg #[c0, c1, c2] := by
  simp only [Value.okWide, Try.underlying26] at h
  obtain ⟨cs, h1, h2, _⟩ := h
  rw [Try.cells26] at h2
  obtain ⟨c0, c1, c2, rfl⟩ := array3 h2
  exact ⟨c0, c1, c2, h1⟩

theorem open_labs {fuel : Nat} {c0 c1 c2 : Value} {y : DataW H × List MemPlace} (hf : DataW.trod enc Try.prog w base spare held fuel 26 [c0, c1, c2] = some y) :
    ∃ x z t, c0 = .int .u8 x ∧ c1 = .int .u8 z ∧ c2 = .int .u8 t ∧ (0 ≤ x ∧ x ≤ 255) ∧ (0 ≤ z ∧ z ≤ 255) ∧ (0 ≤ t ∧ t ≤ 255) := by
  obtain ⟨xs, m, _, _, _, hlen, he⟩ := DataW.trod_array Try.underlying26 hf
  rw [Try.cells5] at he
  have get : ∀ i, i < 3 → ∃ q, xs[i]? = some q := fun i hi => ⟨xs[i]'(by omega), by simp⟩
  have g0 := he 0 (by omega)
  have g1 := he 1 (by omega)
  have g2 := he 2 (by omega)
  obtain ⟨q0, e0⟩ := get 0 (by omega)
  obtain ⟨q1, e1⟩ := get 1 (by omega)
  obtain ⟨q2, e2⟩ := get 2 (by omega)
  rw [e0] at g0
  rw [e1] at g1
  rw [e2] at g2
  obtain ⟨x, a0, _, w0⟩ := DataW.trod_int Try.underlying5 g0
  obtain ⟨z, a1, _, w1⟩ := DataW.trod_int Try.underlying5 g1
  obtain ⟨t, a2, _, w2⟩ := DataW.trod_int Try.underlying5 g2
  simp at a0 a1 a2
  have u8 : ∀ {n : Int}, (Lit.int .u8 n).wf = true → 0 ≤ n ∧ n ≤ 255 := fun {n} h => by simpa [Lit.wf, IntKind.min, IntKind.max, IntKind.signed, IntKind.bits] using h
  exact ⟨x, z, t, a0, a1, a2, u8 w0, u8 w1, u8 w2⟩
end

end Go.Proofs.Ythciddpljcbhiaa

/- A slice of samples that came in, opened. -/
namespace Go.Proofs.Ythciddpljcbhiaa
open Go Go.RowKit Go.Deep Go.ChangeShapes Go.WideShapes Go.Joins

theorem Try.cells42 : Try.prog.cellsOf 42 = 5 := by kernel_rfl
theorem Try.cells21 : Try.prog.cellsOf 21 = 1 := by kernel_rfl

theorem list5 {α : Type} {cs : List α} (h : cs.length = 5) : ∃ c0 c1 c2 c3 c4, cs = [c0, c1, c2, c3, c4] := by
  match cs, h with
  | [c0, c1, c2, c3, c4], _ => exact ⟨c0, c1, c2, c3, c4, rfl⟩

section
variable {H : Type} {enc : TypeId × Value → H} {w : World} {base : Nat} {spare : Nat → Bool} {held : Bool}

theorem i32_range {n : Int} (h : (Lit.int .i32 n).wf = true) : -2147483648 ≤ n ∧ n ≤ 2147483647 := by
  simpa [Lit.wf, IntKind.min, IntKind.max, IntKind.signed, IntKind.bits] using h

theorem open_sample {fuel : Nat} {cs : List Value} {x : DataW H × List MemPlace} (h : DataW.trod enc Try.prog w base spare held fuel 42 cs = some x) :
    ∃ s : Sm, cs = s.cells ∧ s.wf := by
  obtain ⟨y0, y1, y2, n, _, hlen, h0, h1, h2⟩ := trod_struct3 Try.underlying42 h
  rw [Try.cells42] at hlen
  obtain ⟨c0, c1, c2, c3, c4, rfl⟩ := list5 hlen
  simp only [Try.cells3, Try.cells26, Try.cells21] at h0 h1 h2
  obtain ⟨a, e0, _, wa⟩ := DataW.trod_int Try.underlying3 h0
  obtain ⟨x, z, t, rfl, rfl, rfl, b0, b1, b2⟩ := open_labs (by simpa using h1)
  obtain ⟨v, e4, _, wv⟩ := DataW.trod_int Try.underlying21 h2
  simp at e0 e4
  subst e0 e4
  exact ⟨⟨a, x, z, t, v⟩, rfl, i64_range wa, b0, b1, b2, i32_range wv⟩

theorem open_samples {fuel : Nat} {v : Value} {y : DataW H × List MemPlace} (hf : DataW.trod enc Try.prog w base spare held fuel 28 [v] = some y) :
    ∃ a n cap ls, v = .slice a n cap ∧ IsSms w a n ls ∧ SmWf ls ∧ (n = 0 ∨ ∃ D sp, y.1 = .slice D sp ∧ D.length = n) := by
  have zwf : Sm.zero.wf := by simp [Sm.wf, Sm.zero]
  have zero : SmWf [] := fun i => by simpa [smG] using zwf
  rcases open_slice Try.underlying28 hf with ⟨hcs, _⟩ | ⟨a, len, cap, m, k, D, Pl, hcs, _, hl, hm, hmm, hx, he⟩
  · simp at hcs
    exact ⟨none, 0, 0, [], hcs, ⟨rfl, fun h => absurd h (by omega)⟩, zero, .inl rfl⟩
  · simp at hcs
    have hlm : len ≤ m := by rw [hmm]; split <;> omega
    rw [Try.cells42] at he
    have hall : ∀ i, i < len → ∃ l : Sm, (∀ j, j < 5 → w.cell? ((a.add (i * 5)).add j) = l.cells[j]?) ∧ l.wf := fun i hi => by
      obtain ⟨cs', h1, h2⟩ := he i (by omega)
      obtain ⟨l, rfl, hb⟩ := open_sample h2
      exact ⟨l, (World.cells?_some h1).2.2, hb⟩
    haveI : Inhabited Sm := ⟨Sm.zero⟩
    obtain ⟨f, hff⟩ := choose_lt hall
    refine ⟨some a, len, cap, (List.range len).map f, hcs, ⟨by simp, fun hn => ?_⟩, fun i => ?_, .inr ⟨_, _, by rw [hx], by simp⟩⟩
    · obtain ⟨b, off, spot⟩ := a
      have h0 := (hff 0 hn).1 0 (by omega)
      have hspot : spot = none := by
        have := World.cell?_spot (h0.trans rfl)
        simpa [Addr.add] using this
      subst hspot
      refine ⟨b, off, rfl, fun i hi => ?_⟩
      simp at hi
      have hc := (hff i hi).1
      have e : smG ((List.range len).map f) i = f i := by simp [smG, List.getD, hi]
      rw [e]
      simp only [add_none] at hc
      exact ⟨hc 0 (by omega), hc 1 (by omega), hc 2 (by omega), hc 3 (by omega), hc 4 (by omega)⟩
    · by_cases hi : i < len
      · have e : smG ((List.range len).map f) i = f i := by simp [smG, List.getD, hi]
        rw [e]
        exact (hff i hi).2
      · have e : smG ((List.range len).map f) i = Sm.zero := by simp [smG, List.getD, hi]
        rw [e]
        exact zwf
end

end Go.Proofs.Ythciddpljcbhiaa

/- A configuration's levels and a script that came in, opened. -/
namespace Go.Proofs.Ythciddpljcbhiaa
open Go Go.RowKit Go.Deep Go.ChangeShapes Go.WideShapes Go.Joins

theorem Try.cells100 : Try.prog.cellsOf 100 = 3 := by kernel_rfl
theorem Try.cells28 : Try.prog.cellsOf 28 = 1 := by kernel_rfl
theorem Try.xbytes42 : Try.prog.bytesOf 42 = 16 := by kernel_rfl
theorem Try.xbytes100 : Try.prog.bytesOf 100 = 40 := by kernel_rfl

section
variable {H : Type} {enc : TypeId × Value → H} {w : World} {base : Nat} {spare : Nat → Bool} {held : Bool}

theorem list3 {α : Type} {cs : List α} (h : cs.length = 3) : ∃ c0 c1 c2, cs = [c0, c1, c2] := by
  match cs, h with
  | [c0, c1, c2], _ => exact ⟨c0, c1, c2, rfl⟩

def Lv.wf2 (l : Lv) : Prop := (-9223372036854775808 ≤ l.age ∧ l.age ≤ 9223372036854775807) ∧ (-9223372036854775808 ≤ l.window ∧ l.window ≤ 9223372036854775807) ∧ l.rule.size ≤ maxLen ∧ -9223372036854775808 ≤ l.limit ∧ l.limit ≤ 9223372036854775807
theorem open_level2 {fuel : Nat} {cs : List Value} {x : DataW H × List MemPlace} (h : DataW.trod enc Try.prog w base spare held fuel 76 cs = some x) : ∃ l : Lv, cs = l.cells ∧ l.wf2 := by
  obtain ⟨y0, y1, y2, y3, n, _, hlen, h0, h1, h2, h3⟩ := trod_struct4 Try.underlying76 h
  rw [Try.cells76] at hlen
  obtain ⟨c0, c1, c2, c3, rfl⟩ := list4 hlen
  simp only [Try.cells3, Try.cells9] at h0 h1 h2 h3
  obtain ⟨a, e0, _, wa⟩ := DataW.trod_int Try.underlying3 h0
  obtain ⟨b, e1, _, wb⟩ := DataW.trod_int Try.underlying3 h1
  obtain ⟨s, e2, _, hs⟩ := DataW.trod_string Try.underlying9 h2
  obtain ⟨c, e3, _, wc⟩ := DataW.trod_int Try.underlying3 h3
  simp at e0 e1 e2 e3
  subst e0 e1 e2 e3
  exact ⟨⟨a, b, s, c⟩, rfl, i64_range wa, i64_range wb, hs, i64_range wc⟩
theorem zero_wf2 : Lv.zero.wf2 := by simp [Lv.wf2, Lv.zero, maxLen]

theorem open_levels2 {fuel : Nat} {v : Value} {y : DataW H × List MemPlace} (hf : DataW.trod enc Try.prog w base spare held fuel 22 [v] = some y) :
    ∃ a n cap ls, v = .slice a n cap ∧ IsLvs w a n ls ∧ LvWf2 ls := by
  rcases open_slice Try.underlying22 hf with ⟨hcs, _⟩ | ⟨a, len, cap, m, k, D, Pl, hcs, _, hl, hm, hmm, hx, he⟩
  · simp at hcs
    exact ⟨none, 0, 0, [], hcs, ⟨rfl, fun h => absurd h (by omega)⟩, fun i => by have h := zero_wf2; simpa [lvG, Lv.wf2] using h⟩
  · simp at hcs
    have hlm : len ≤ m := by rw [hmm]; split <;> omega
    rw [Try.cells76] at he
    have hall : ∀ i, i < len → ∃ l : Lv, (∀ j, j < 4 → w.cell? ((a.add (i * 4)).add j) = l.cells[j]?) ∧ l.wf2 := fun i hi => by
      obtain ⟨cs', h1, h2⟩ := he i (by omega)
      obtain ⟨l, rfl, hb⟩ := open_level2 h2
      exact ⟨l, (World.cells?_some h1).2.2, hb⟩
    haveI : Inhabited Lv := ⟨Lv.zero⟩
    obtain ⟨f, hff⟩ := choose_lt hall
    refine ⟨some a, len, cap, (List.range len).map f, hcs, ⟨by simp, fun hn => ?_⟩, fun i => ?_⟩
    · obtain ⟨b, off, spot⟩ := a
      have h0 := (hff 0 hn).1 0 (by omega)
      have hspot : spot = none := by
        have := World.cell?_spot (h0.trans rfl)
        simpa [Addr.add] using this
      subst hspot
      refine ⟨b, off, rfl, fun i hi => ?_⟩
      simp at hi
      have hc := (hff i hi).1
      have e : lvG ((List.range len).map f) i = f i := by simp [lvG, List.getD, hi]
      rw [e]
      simp only [add_none] at hc
      exact ⟨hc 0 (by omega), hc 1 (by omega), hc 2 (by omega), hc 3 (by omega)⟩
    · by_cases hi : i < len
      · have e : lvG ((List.range len).map f) i = f i := by simp [lvG, List.getD, hi]
        rw [e]
        exact (hff i hi).2
      · have e : lvG ((List.range len).map f) i = Lv.zero := by simp [lvG, List.getD, hi]
        rw [e]
        exact zero_wf2

/-- A step that came in. -/
theorem open_stp {fuel : Nat} {cs : List Value} {x : DataW H × List MemPlace} (h : DataW.trod enc Try.prog w base spare held fuel 100 cs = some x) (hw : ∀ k ∈ x.1.weights Try.prog 100, k ≤ reachBytes) :
    ∃ (o : Stp) (ba : Option Addr) (bn bc : Nat), cs = [.int .i64 o.kind, .int .i64 o.a, .slice ba bn bc] ∧ IsSms w ba bn o.batch ∧ bn ≤ 9000000000000 ∧ StpWf o := by
  obtain ⟨y0, y1, y2, n, rfl, hlen, h0, h1, h2⟩ := trod_struct3 Try.underlying100 h
  rw [Try.cells100] at hlen
  obtain ⟨c0, c1, c2, rfl⟩ := list3 hlen
  simp only [Try.cells3, Try.cells28] at h0 h1 h2
  obtain ⟨a, e0, d0, wa⟩ := DataW.trod_int Try.underlying3 h0
  obtain ⟨b, e1, d1, wb⟩ := DataW.trod_int Try.underlying3 h1
  simp at e0 e1
  subst e0 e1
  obtain ⟨ba, bn, bc, ls, e2, hs, hwf, hl⟩ := open_samples (v := c2) (y := y2) (by simpa using h2)
  subst e2
  refine ⟨⟨a, b, ls⟩, ba, bn, bc, rfl, hs, ?_, i64_range wa, i64_range wb, hwf⟩
  rcases hl with rfl | ⟨D, sp, hD, rfl⟩
  · omega
  · have hm := hw ((D.length + sp.length) * Try.prog.bytesOf 42) (by simp [DataW.weights, Try.underlying100, DataW.weightsEach, hD, Try.underlying28])
    rw [Try.xbytes42] at hm
    have hm' : (D.length + sp.length) * 16 ≤ 140737488351232 := hm
    omega
theorem weights_all {P : Program} {e : TypeId} : ∀ {l : List (DataW H)} {d : DataW H}, d ∈ l → ∀ k ∈ d.weights P e, k ∈ DataW.weightsAll P e l
  | x :: l, d, hd, k, hk => by
    rw [DataW.weightsAll, List.mem_append]
    rcases List.mem_cons.1 hd with rfl | hd
    · exact .inl hk
    · exact .inr (weights_all hd k hk)

theorem open_script {fuel : Nat} {v : Value} {y : DataW H × List MemPlace} (hf : DataW.trod enc Try.prog w base spare held fuel 52 [v] = some y) (hw : ∀ k ∈ y.1.weights Try.prog 52, k ≤ reachBytes) :
    ∃ a n cap l, v = .slice a n cap ∧ IsScr w a n l ∧ n ≤ 9000000000000 := by
  rcases open_slice Try.underlying52 hf with ⟨hcs, _⟩ | ⟨a, len, cap, m, k, D, Pl, hcs, _, hl, hm, hmm, rfl, he⟩
  · simp at hcs
    exact ⟨none, 0, 0, [], hcs, ⟨rfl, fun x hx => absurd hx (by simp), fun h => absurd h (by omega)⟩, by omega⟩
  · simp at hcs
    have hlm : len ≤ m := by rw [hmm]; split <;> omega
    rw [Try.cells100] at he
    have hW : ∀ i, i < len → ∀ k ∈ (D i).weights Try.prog 100, k ≤ reachBytes := fun i hi k hk => by
      refine hw k ?_
      simp only [DataW.weights, Try.underlying52, List.mem_cons, List.mem_append]
      exact .inr (.inl (weights_all (List.mem_map.2 ⟨i, List.mem_range.2 hi, rfl⟩) k hk))
    have hN : len ≤ 9000000000000 := by
      have h9 := hw ((len + (m - len)) * Try.prog.bytesOf 100) (by simp [DataW.weights, Try.underlying52])
      rw [Try.xbytes100] at h9
      have h9' : (len + (m - len)) * 40 ≤ 140737488351232 := h9
      omega
    have hall : ∀ i, i < len → ∃ o : Stp, (∃ ba bn bc, (∀ j, j < 3 → w.cell? ((a.add (i * 3)).add j) = ([.int .i64 o.kind, .int .i64 o.a, .slice ba bn bc] : List Value)[j]?) ∧ IsSms w ba bn o.batch ∧ bn ≤ 9000000000000) ∧ StpWf o := fun i hi => by
      obtain ⟨cs', h1, h2⟩ := he i (by omega)
      obtain ⟨o, ba, bn, bc, rfl, hs, hb, hwf⟩ := open_stp h2 (hW i hi)
      exact ⟨o, ⟨ba, bn, bc, (World.cells?_some h1).2.2, hs, hb⟩, hwf⟩
    haveI : Inhabited Stp := ⟨Stp.zero⟩
    obtain ⟨f, hff⟩ := choose_lt hall
    refine ⟨some a, len, cap, (List.range len).map f, hcs, ⟨by simp, fun x hx => ?_, fun hn => ?_⟩, hN⟩
    · obtain ⟨i, hi, rfl⟩ := List.mem_map.1 hx
      exact (hff i (List.mem_range.1 hi)).2
    · obtain ⟨b, off, spot⟩ := a
      obtain ⟨⟨ba, bn, bc, h0, _⟩, _⟩ := hff 0 hn
      have h00 := h0 0 (by omega)
      have hspot : spot = none := by
        have := World.cell?_spot (h00.trans rfl)
        simpa [Addr.add] using this
      subst hspot
      refine ⟨b, off, rfl, ?_, fun i hi => ?_⟩
      · have := World.block_lt_of_cell? w _ (h00.trans rfl)
        simpa [Addr.add] using this
      · obtain ⟨⟨ba, bn, bc, hc, hs, hb⟩, _⟩ := hff i hi
        have e : stpG ((List.range len).map f) i = f i := by simp [stpG, List.getD, hi]
        rw [e]
        simp only [add_none] at hc
        exact ⟨ba, bn, bc, hc 0 (by omega), hc 1 (by omega), hc 2 (by omega), hs, hb⟩
end

end Go.Proofs.Ythciddpljcbhiaa

/- Walks: the caller's own samples, step by step (garnerkeep). -/
namespace Go.Proofs.Ythciddpljcbhiaa
open Go Go.RowKit

attribute [local go_sem ↓] Go.wp_at_zero Go.wp_at_succ

def rawK (N : Nat) (q : Qy) (l : List Sm) (k : Nat) : List Rw := rawR N q (l.take k)
theorem rawK_skip {N : Nat} {q : Qy} {l : List Sm} {k : Nat} (hk : k < l.length) (h : inQ q (smG l k).time = false) : rawK N q l (k + 1) = rawK N q l k := by
  unfold rawK rawR
  rw [List.take_succ_eq_append_getElem hk, ← smG_get l k hk, List.filter_append]
  simp [h]
theorem rawK_put {N : Nat} {q : Qy} {l : List Sm} {k : Nat} (hk : k < l.length) (h : inQ q (smG l k).time = true) {st : Nat} (hs : stepOf q (smG l k).time = st) : rawK N q l (k + 1) = (rawK N q l k).set st (joinR (rwG (rawK N q l k) st) (rawRow (smG l k))) := by
  unfold rawK rawR
  rw [List.take_succ_eq_append_getElem hk, ← smG_get l k hk, List.filter_append]
  simp only [List.filter_cons, h, if_true, List.filter_nil, List.map_append, List.map_cons, List.map_nil]
  unfold putAll
  rw [List.foldl_append, hs]
  rfl
theorem rawK_len (N : Nat) (q : Qy) (l : List Sm) (k : Nat) : (rawK N q l k).length = N := rawR_len N q _
theorem rawK_zero (N : Nat) (q : Qy) (l : List Sm) : rawK N q l 0 = List.replicate N Rw.zero := by unfold rawK rawR; simp [putAll]

set_option maxHeartbeats 4000000 in
set_option maxRecDepth 100000 in
theorem raw_any (D X : Nat) (s : St) (L ln lcap : Nat) (sa : Option Addr) (sc N : Nat) (q : Qy) (w : World) (hI : Inv s) (hD : w.heap[D]? = some (.cells (dkC X s L ln lcap (.slice sa s.l.length sc)) 62 (0, 0))) (hs : IsSms w sa s.l.length s.l)
    (hN : N ≤ 1000) (f0 : 0 ≤ q.fr) (f1 : q.fr ≤ q.to) (f2 : q.to ≤ 200000) (s1 : 1 ≤ q.step) (s2 : q.step ≤ 200000) (hNs : (q.to - q.fr) / q.step = N) (hNe : q.to - q.fr = N * q.step) (hss : ∀ k i, SmR (rwG (rawK N q s.l k) i).ag) :
    Calls Try.prog 24 #[.pointer (some ⟨D, 0, none⟩), .agg (qyC q)] w fun e w' => ∃ g, e = .returned (.slice (some ⟨g, 0, none⟩) N N) ∧ w'.ownsRow w.heap.size 72 8 (.slice (some ⟨g, 0, none⟩) N N) N (flatR (rawR N q s.l)) ∧ Below w.heap.size w w' := by
  have HI : Hid (Inv s) := hI
  have l5 := hI.len
  have d5 : w.cell? ⟨D, 5, none⟩ = some (.slice sa s.l.length sc) := cell_blk' hD rfl
  have hDs : D < w.heap.size := (Array.getElem?_eq_some_iff.1 hD).1
  have HS : Hid (IsSms w sa s.l.length s.l) := hs
  have HSS : Hid (∀ k i, SmR (rwG (rawK N q s.l k) i).ag) := hss
  have HNE : Hid (q.to - q.fr = N * q.step) := hNe
  have hmk := make72 N hN
  have hsp : ¬ q.step = 0 := by omega
  clear hI hD hs hss hNe
  go_enter Try.func24, Try.ntmps24
  go_wp2_with fail
  rw [hNs]
  clear hNs
  go_loopw [6] (fun i wr => ∃ k : Nat, i = .int .i64 k ∧ k ≤ s.l.length ∧ wr.ownsRow (w.heap.size + 1) 72 8 (.slice (some ⟨w.heap.size + 1, 0, none⟩) N N) N (flatR (rawK N q s.l k)) ∧ Below (w.heap.size + 1) (w.alloc (.cells (qyC q) 56)) wr) (fun i _ => s.l.length - (intOf i).toNat)
  case atStart =>
    refine ⟨0, rfl, Nat.zero_le _, ?_, (Below.refl _ _).alloc (by simp) _⟩
    rw [rawK_zero]
    have h := owns_made (w.alloc (.cells (qyC q) 56)) N (w.heap.size + 1) hN (by simp)
    rw [show (w.alloc (.cells (qyC q) 56)).heap.size = w.heap.size + 1 by simp] at h
    exact h
  case round =>
    obtain ⟨k, rfl, hk, hown, hbel⟩ := hrel
    have HO : Hid (wr.ownsRow (w.heap.size + 1) 72 8 (.slice (some ⟨w.heap.size + 1, 0, none⟩) N N) N (flatR (rawK N q s.l k))) := hown
    have HB : Hid (Below (w.heap.size + 1) (w.alloc (.cells (qyC q) 56)) wr) := hbel
    have HW : Hid (Below w.heap.size w wr) := ((Below.refl _ _).alloc (Nat.le_refl _) _).trans (hbel.mono (by omega))
    have hG : w.heap.size + 1 < wr.heap.size := (hown.lt _ rfl).2
    have e5 : wr.cell? ⟨D, 5, none⟩ = some (.slice sa s.l.length sc) := (HW.out.cell (p := ⟨D, 5, none⟩) hDs).trans d5
    have p0 : wr.cell? ⟨w.heap.size, 0, none⟩ = some (.int .i64 q.fr) := by rw [HB.out.cell (p := ⟨w.heap.size, 0, none⟩) (by simp)]; simp [go_sem]
    have p1 : wr.cell? ⟨w.heap.size, 1, none⟩ = some (.int .i64 q.to) := by rw [HB.out.cell (p := ⟨w.heap.size, 1, none⟩) (by simp)]; simp [go_sem]
    have p2 : wr.cell? ⟨w.heap.size, 2, none⟩ = some (.int .i64 q.step) := by rw [HB.out.cell (p := ⟨w.heap.size, 2, none⟩) (by simp)]; simp [go_sem]
    clear hown hbel hmk d5
    by_cases hlt : k < s.l.length
    · obtain ⟨b, off, rfl, hat⟩ := HS.out.2 (by omega)
      have hbs : b < w.heap.size := hat.block (by omega)
      obtain ⟨m0, m1, m2, m3, m4⟩ := (hat.below HW.out hbs) k hlt
      have HOK := HI.out.ok (smG s.l k) (by rw [smG_get s.l k hlt]; exact List.getElem_mem _)
      have HT := (smOk_iff _).1 HOK.1
      obtain ⟨t0, t1, _⟩ := HT
      have HV := HOK.2.2.2.2.2
      obtain ⟨v0, v1⟩ := HV
      have HSK : Hid (inQ q (smG s.l k).time = false → rawK N q s.l (k + 1) = rawK N q s.l k) := rawK_skip hlt
      have HPU : Hid (∀ st : Nat, inQ q (smG s.l k).time = true → stepOf q (smG s.l k).time = st → rawK N q s.l (k + 1) = (rawK N q s.l k).set st (joinR (rwG (rawK N q s.l k) st) (rawRow (smG s.l k)))) := fun st h1 h2 => rawK_put hlt h1 h2
      have hbr : b < wr.heap.size := by omega
      have hDr : D < wr.heap.size := by omega
      have hwr0 : w.heap.size < wr.heap.size := by omega
      clear HOK hat
      generalize hZ : smG s.l k = Z at *
      by_cases ha : Z.time < q.fr
      · have HR : Hid (rawK N q s.l (k + 1) = rawK N q s.l k) := HSK.out (by simp [inQ]; omega)
        go_wp2_with fail
        exact ⟨⟨k + 1, by go_num, by omega, by rw [HR.out]; exact HO.out.alloc _, HB.out.alloc (by omega) _⟩, by simp [intOf]; omega⟩
      · by_cases hb : q.to ≤ Z.time
        · have HR : Hid (rawK N q s.l (k + 1) = rawK N q s.l k) := HSK.out (by simp [inQ]; omega)
          go_wp2_with fail
          exact ⟨⟨k + 1, by go_num, by omega, by rw [HR.out]; exact HO.out.alloc _, HB.out.alloc (by omega) _⟩, by simp [intOf]; omega⟩
        · have hin : inQ q Z.time = true := by simp [inQ]; omega
          obtain ⟨r0, r1⟩ := step_range s1 HNE.out hin
          obtain ⟨st, hst⟩ : ∃ st : Nat, stepOf q Z.time = st := ⟨(stepOf q Z.time).toNat, by omega⟩
          have HR : Hid (rawK N q s.l (k + 1) = (rawK N q s.l k).set st (joinR (rwG (rawK N q s.l k) st) (rawRow Z))) := HPU.out st hin hst
          have hstN : st < N := by omega
          have hq : (Z.time - q.fr) / q.step = (st : Int) := hst
          clear hin r0 r1 hst
          go_upto_region 8 with fail
          rw [hq]
          clear hq
          have hbW : Below wr.heap.size wr (wr.alloc (.cells #[.int .i64 Z.time, .int .u8 Z.l0, .int .u8 Z.l1, .int .u8 Z.l2, .int .i32 Z.value] 42)) := (Below.refl _ _).alloc (Nat.le_refl _) _
          have y4 : (wr.alloc (.cells #[.int .i64 Z.time, .int .u8 Z.l0, .int .u8 Z.l1, .int .u8 Z.l2, .int .i32 Z.value] 42)).cell? ⟨wr.heap.size, 4, none⟩ = some (.int .i32 Z.value) := by simp [go_sem]
          have hWs : wr.heap.size < (wr.alloc (.cells #[.int .i64 Z.time, .int .u8 Z.l0, .int .u8 Z.l1, .int .u8 Z.l2, .int .i32 Z.value] 42)).heap.size := by simp
          generalize wr.alloc (.cells #[.int .i64 Z.time, .int .u8 Z.l0, .int .u8 Z.l1, .int .u8 Z.l2, .int .i32 Z.value] 42) = W at *
          have HOW : Hid (W.ownsRow (w.heap.size + 1) 72 8 (.slice (some ⟨w.heap.size + 1, 0, none⟩) N N) N (flatR (rawK N q s.l k))) := owns_below HO.out hbW (fun k hk => (HO.out.lt k hk).2)
          have HBW : Hid (Below (w.heap.size + 1) (w.alloc (.cells (qyC q) 56)) W) := HB.out.trans (hbW.mono (by omega))
          have HAW := owns_rw HOW.out st (by rw [rawK_len]; exact hstN)
          have HSA := HSS.out k st
          generalize hA : rwG (rawK N q s.l k) st = A at *
          have HAA : Hid (rwG (rawK N q s.l k) st = A) := hA
          have HZZ : Hid (smG s.l k = Z) := hZ
          have hne : w.heap.size + 1 ≠ wr.heap.size := by omega
          have HJ : Hid (∀ V, Below W.heap.size W V → Calls Try.prog 27 #[.agg (rwC A), .agg #[.int .i64 0, .int .u8 0, .int .u8 0, .int .u8 0, .int .i64 1, .int .i64 Z.value, .int .i32 Z.value, .int .i32 Z.value]] V fun e w' => e = .returned (.agg (rwC (joinR A (rawRow Z)))) ∧ RwAt w' (w.heap.size + 1) (st * 8) A ∧ w'.cell? ⟨wr.heap.size, 4, none⟩ = some (.int .i32 Z.value) ∧ (∀ o, w'.frozen? ⟨w.heap.size + 1, o, none⟩ = false) ∧ w'.ownsRow (w.heap.size + 1) 72 8 (.slice (some ⟨w.heap.size + 1, 0, none⟩) N N) N (flatR (rawK N q s.l k)) ∧ Below (w.heap.size + 1) (w.alloc (.cells (qyC q) 56)) w') := by
            intro V hV
            have hz : SmR (rawRow Z).ag := ⟨by show (0 : Int) ≤ 1; omega, by show (1 : Int) ≤ 1000000; omega, by show _ ≤ Z.value; omega, by show Z.value ≤ _; omega⟩
            refine (joined_any A (rawRow Z) V HSA hz).mono ?_
            rintro e w' ⟨rfl, hb'⟩
            have hb2 : Below W.heap.size W w' := hV.trans (hb'.mono hV.size)
            have ho2 := owns_below HOW.out hb2 (fun k hk => (HOW.out.lt k hk).2)
            exact ⟨rfl, HAW.below hb2, (hb2.cell (p := ⟨wr.heap.size, 4, none⟩) hWs).trans y4, owns_frozen ho2, ho2, HBW.out.trans (hb2.mono (by omega))⟩
          obtain ⟨a0, a1, a2, a3, a4, a5, a6, a7⟩ := HAW
          clear hA hZ m0 m1 m2 m3 m4 e5 p0 p1 p2
          have hwv : IntKind.i64.wrap Z.value = Z.value := by
            first | (rw [IntKind.wrap_i64]; omega) | (simp only [IntKind.wrap]; omega) | (unfold IntKind.wrap; simp; omega)
          go_region_with (go_at_call 27; refine (HJ.out _ (by first | exact (Below.refl _ _).drew | exact Below.refl _ _)).mono ?_; rintro e w' ⟨rfl, hya, z4, hfz, hown2, hbw2⟩; obtain ⟨b0, b1, b2, b3, b4, b5, b6, b7⟩ := hya)
          all_goals go_wp2_with fail
          all_goals exact ⟨⟨k + 1, by go_num, by omega, by rw [HR.out]; exact owns_rwset8 hown2 st (by rw [rawK_len]; exact hstN) (joinR A (rawRow Z)), set8_below hbw2 (Nat.le_refl _)⟩, by simp [intOf]; omega⟩
    · have hke : k = s.l.length := by omega
      have HE : Hid (rawK N q s.l k = rawR N q s.l) := by show _ = _; unfold rawK; rw [List.take_of_length_le (by omega)]
      go_wp2_with fail
      go_ret
      exact ⟨w.heap.size + 1, rfl, by rw [← HE.out]; exact owns_base HO.out (fun j hj => by have := (HO.out.lt j hj).1; omega), HW.out⟩

end Go.Proofs.Ythciddpljcbhiaa

/- Walks: Told. -/
namespace Go.Proofs.Ythciddpljcbhiaa
open Go Go.RowKit Go.Lib
attribute [local go_sem ↓] Go.wp_at_zero Go.wp_at_succ

theorem rawK_sm {s : St} (h : Inv s) (N : Nat) (q : Qy) (k i : Nat) : SmR (rwG (rawK N q s.l k) i).ag := by
  have h1 := putAll_bd (((s.l.take k).filter fun x => inQ q x.time).map fun x => ((stepOf q x.time).toNat, rawRow x)) (List.replicate N Rw.zero) 0 (rep_bd N) (fun p hp => by
    obtain ⟨x, hx, rfl⟩ := List.mem_map.1 hp
    have hv := (h.ok x (List.mem_of_mem_take (List.mem_filter.1 hx).1)).2.2.2.2.2
    exact ⟨by simp [rawRow, Ag.one], by simp [rawRow, Ag.one]; omega, by simp [rawRow, Ag.one]; omega⟩) i
  refine SmR.of h1.1 ?_
  have h2 : ∀ l : List Sm, ((l.map fun x => ((stepOf q x.time).toNat, rawRow x)).map fun p => p.2.ag.cnt).sum = (l.length : Int) := by
    intro l
    induction l with
    | nil => rfl
    | cons x l ih => rw [List.map_cons, List.map_cons, List.sum_cons, ih, List.length_cons]; simp [rawRow, Ag.one]; omega
  have h3 := h1.2
  rw [h2] at h3
  have h4 := List.length_filter_le (fun x : Sm => inQ q x.time) (s.l.take k)
  have h5 : (s.l.take k).length ≤ s.l.length := List.length_take_le' _ _
  have h6 := h.len
  unfold rawK rawR
  omega
set_option maxHeartbeats 4000000 in
set_option maxRecDepth 100000 in
theorem told_any (a : Option Addr) (n cap : Nat) (ls : List Lv) (span keep : Int) (sa : Option Addr) (sn sc : Nat) (l : List Stp) (w : World) (hls : IsLvs w a n ls) (hwf : LvWf2 ls) (s0 : -9223372036854775808 ≤ span) (s1 : span ≤ 9223372036854775807) (k0 : -9223372036854775808 ≤ keep) (k1 : keep ≤ 9223372036854775807)
    (hsc : IsScr w sa sn l) (hsn : sn ≤ 9000000000000) :
    Calls Try.prog 7 #[.agg #[.int .i64 span, .int .i64 keep, .slice a n cap], .slice sa sn sc] w fun e w' => e = .returned (.bool true) ∧ Below w.heap.size w w' := by
  have HB0 : Hid (Below w.heap.size w (w.alloc (.cells #[.int .i64 span, .int .i64 keep, .slice a n cap] 24))) := (Below.refl _ _).alloc (Nat.le_refl _) _
  have HPL := played_any a n cap ls span keep sa sn sc l _ (IsLvs.below hls HB0.out) hwf s0 s1 k0 k1 (IsScr.below hsc HB0.out) hsn
  clear hls hwf hsc
  generalize (playP (St.new (conf span keep ls)) ⟨#[]⟩ l).2 = LG at *
  generalize (playP (St.new (conf span keep ls)) ⟨#[]⟩ l).1 = S at *
  go_enter Try.func7, Try.ntmps7
  go_wp2_with fail
  refine HPL.mono ?_
  rintro e w1 ⟨D, rfl, ⟨X, F, L, lc, sv, hd⟩, hb1⟩
  have HB1 : Hid (Below w.heap.size w w1) := HB0.out.trans (hb1.mono (by simp))
  obtain ⟨va, vc, rfl⟩ := ownForm hd.sms
  have HD1 : Hid (DkS w1 (w.heap.size + 1) D X F S L lc (.slice va S.l.length vc) LG) := by show DkS _ _ _ _ _ _ _ _ _ _; simpa using hd
  have HI : Hid (Inv S) := hd.inv
  clear hb1 HPL hd
  go_wp2_with fail
  refine (whole_any D X S L S.c.lvs.length lc _ w1 HI.out HD1.out.blk).mono ?_
  rintro e w2 ⟨rfl, hb2⟩
  have HD2 : Hid (DkS w2 (w.heap.size + 1) D X F S L lc (.slice va S.l.length vc) LG) := HD1.out.below hb2
  have HB2 : Hid (Below w.heap.size w w2) := HB1.out.trans (hb2.mono HB1.out.size)
  have HWQ := whole_wq HI.out
  have HQE : Hid (qE S.c S.now (wholeQ S) = 0) := whole_err HI.out
  have HTO : Hid (alikeB (stepsR (wholeN S) (S.rows (wholeQ S))) (rawR (wholeN S) (wholeQ S) S.l) = true) := told HWQ.s1 HWQ.mul (whole_any' S).1
  have HQW : Hid ((wholeQ S).wf) := HWQ.wf rfl rfl
  generalize hQ : wholeQ S = Q at *
  generalize hN : wholeN S = N at *
  obtain ⟨f0, f1, f2, t1, t2, n1, n2, hdv, hmu⟩ := HWQ
  have HMU : Hid (Q.to - Q.fr = N * Q.step) := hmu
  have HDV : Hid ((Q.to - Q.fr) / Q.step = N) := hdv
  have hst0 : ¬ Q.step = 0 := by omega
  clear hb2 HD1 hmu hdv
  have HGO : Hid (Goods N (S.rows Q)) := rows_goods t1 HMU.out
  have HSR : Hid (SmRs (S.rows Q)) := rows_smr HI.out Q
  have HSK : Hid (∀ k, k ≤ (S.rows Q).length → ∀ i, SmR (rwG (stK N (S.rows Q) k) i).ag) := fun k _ i => rows_stK HI.out Q N k i
  have HBY : Hid (∀ r ∈ S.rows Q, (0 ≤ r.key.g0 ∧ r.key.g0 ≤ 255) ∧ (0 ≤ r.key.g1 ∧ r.key.g1 ≤ 255) ∧ 0 ≤ r.key.g2 ∧ r.key.g2 ≤ 255) := rows_byte HI.out Q
  have hrm := rows_many HI.out Q
  have HRA : Hid (rowsA S Q = S.rows Q) := rowsA_ok HQE.out
  go_upto_region 6 with fail
  rw [HDV.out]
  have HP3 : Hid ((w2.alloc (.cells (qyC Q) 56)).heap[w2.heap.size]? = some (.cells (qyC Q) 56 (0, 0))) := heap_alloc_new w2 _
  have HD3 : Hid (DkS (w2.alloc (.cells (qyC Q) 56)) (w.heap.size + 1) D X F S L lc (.slice va S.l.length vc) LG) := HD2.out.below ((Below.refl _ _).alloc (Nat.le_refl _) _)
  have HB3 : Hid (Below w.heap.size w (w2.alloc (.cells (qyC Q) 56))) := HB2.out.alloc HB2.out.size _
  have HPl : w2.heap.size < (w2.alloc (.cells (qyC Q) 56)).heap.size := by simp
  have HQA : Hid (QAsk (w2.alloc (.cells (qyC Q) 56)) X Q (S.rows Q) 0) := by
    have := QAsk.of HD3.out.st HQW.out
    rw [HRA.out, HQE.out] at this
    exact this
  have HDP : D < w2.heap.size := HD2.out.lt
  clear HD2
  generalize w2.alloc (.cells (qyC Q) 56) = w3 at *
  have p0 := cell_blk (o := 0) HP3.out rfl
  have p1 := cell_blk (o := 1) HP3.out rfl
  have p2 := cell_blk (o := 2) HP3.out rfl
  have p3 := cell_blk (o := 3) HP3.out rfl
  have p4 := cell_blk (o := 4) HP3.out rfl
  have d0 := HD3.out.cell 0 _ rfl
  generalize hRW : S.rows Q = R at *
  go_cut [8, 9] from 14 to 68 (fun lv ev wx => ∃ la lc, lv = .slice la R.length lc ∧ ev = .int .i64 0 ∧ wx.ownsRow w3.heap.size 72 8 (.slice la R.length lc) R.length (flatR R) ∧ Below w3.heap.size w3 wx)
  case first =>
    go_region_with (go_at_call 21; refine (HQA.out _).mono ?_; rintro e w' ⟨la, lc', rfl, ho, hb⟩)
    all_goals go_wp2_with fail
    all_goals go_meet
    all_goals (case rel => exact ⟨la, lc', rfl, rfl, ho, hb⟩)
  case rest =>
    obtain ⟨la, lc', rfl, rfl, ho, hb⟩ := hcut
    have HRA4 : Hid (RwsAt wc la R) := RwsAt.of_owns ho rfl
    have HD4 : Hid (DkS wc (w.heap.size + 1) D X F S L lc (.slice va S.l.length vc) LG) := HD3.out.below hb
    have HB4 : Hid (Below w.heap.size w wc) := HB3.out.trans (hb.mono HB3.out.size)
    have HP4 : Hid (wc.heap[w2.heap.size]? = some (.cells (qyC Q) 56 (0, 0))) := (hb.block _ HPl).trans HP3.out
    have hPc : w2.heap.size < wc.heap.size := Nat.lt_of_lt_of_le HPl hb.size
    clear ho hb p0 p1 p2 p3 p4 d0
    go_wp2_with fail
    refine (steps_yes la R.length lc' N R wc HRA4.out rfl (by omega) (by omega) HGO.out HSR.out HSK.out HBY.out).mono ?_
    rintro e w5 ⟨g, rfl, ho, hb⟩
    have HRA5 : Hid (RwsAt w5 (some ⟨g, 0, none⟩) (stepsR N R)) := RwsAt.of_owns ho (stepsR_len N R)
    have HD5 : Hid (DkS w5 (w.heap.size + 1) D X F S L lc (.slice va S.l.length vc) LG) := HD4.out.below hb
    have HB5 : Hid (Below w.heap.size w w5) := HB4.out.trans (hb.mono HB4.out.size)
    have HP5 : Hid (w5.heap[w2.heap.size]? = some (.cells (qyC Q) 56 (0, 0))) := (hb.block _ hPc).trans HP4.out
    have hP5 : w2.heap.size < w5.heap.size := Nat.lt_of_lt_of_le hPc hb.size
    have d0 := HD5.out.cell 0 _ rfl
    have d4 := HD5.out.cell 4 _ rfl
    have p0 := cell_blk (o := 0) HP5.out rfl
    have p1 := cell_blk (o := 1) HP5.out rfl
    have p2 := cell_blk (o := 2) HP5.out rfl
    have p3 := cell_blk (o := 3) HP5.out rfl
    have p4 := cell_blk (o := 4) HP5.out rfl
    clear ho hb
    go_wp2_with fail
    refine (now_any X F S w5 HD5.out.st).mono ?_
    rintro e w6 ⟨rfl, rfl⟩
    go_wp2_with fail
    refine (raw_any D X S L S.c.lvs.length lc va vc N Q w6 HI.out HD5.out.blk (IsSms.of_owns HD5.out.sms rfl) (by omega) f0 (by omega) (by omega) t1 (by omega) HDV.out HMU.out (rawK_sm HI.out N Q)).mono ?_
    rintro e w7 ⟨g', rfl, ho, hb⟩
    have HRA7 : Hid (RwsAt w7 (some ⟨g', 0, none⟩) (rawR N Q S.l)) := RwsAt.of_owns ho (rawR_len N Q S.l)
    have HRB7 : Hid (RwsAt w7 (some ⟨g, 0, none⟩) (stepsR N R)) := HRA5.out.below hb
    have HB7 : Hid (Below w.heap.size w w7) := HB5.out.trans (hb.mono HB5.out.size)
    clear ho hb
    go_wp2_with fail
    refine (alike_yes _ _ N N N (stepsR N R) (rawR N Q S.l) w7 HRB7.out HRA7.out (stepsR_len N R) (rawR_len N Q S.l) (by omega) HTO.out).mono ?_
    rintro e w8 ⟨rfl, d, rfl⟩
    go_wp2_with fail
    go_ret
    exact ⟨rfl, below_drewN HB7.out d⟩

end Go.Proofs.Ythciddpljcbhiaa
