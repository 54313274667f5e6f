/- Texts of one claim put together: Chk, Rws, RwQ, Sto, Rfp, Stl, Tcr, Tck, Cwr, Wra, Wri, Tik, Rft, Rfs, Rfa, Rfw, Rfn, Drw, UnE. -/
import Derived.Test.YthciddpljcbhiabGreatDoorB1
import Derived.Test.YthciddpljcbhiabGreatDoorB2
import Derived.Test.YthciddpljcbhiabGreatDoorA
import Derived.Lib.AppendStr
import Derived.Deep.RegionHeld3
import Derived.Deep.RegionLaw
import Derived.BigQuiet

/- Walks: why a query cannot be answered. -/
namespace Go.Proofs.YthciddpljcbhiabGreatDoor
open Go.RowKit

theorem any_false {n : Nat} {p : Nat → Bool} (h : ∀ j, j < n → p j = false) : (List.range n).any p = false := by
  rw [List.any_eq_false]; intro x hx; simp [h x (List.mem_range.1 hx)]
theorem any_true {n : Nat} {p : Nat → Bool} (k : Nat) (hk : k < n) (h : p k = true) : (List.range n).any p = true := by
  rw [List.any_eq_true]; exact ⟨k, List.mem_range.2 hk, h⟩

set_option maxHeartbeats 1000000 in
theorem lost_any (q : Qy) (lvs : List Lv) (b off n cap last : Nat) (w : World) (hn : lvs.length = n) (hn4 : n ≤ 4) (hl : last < n) (hat : LvAt w b off lvs) (hr : ∀ j, j < n → (lvG lvs j).rule.size = 3) (hm : q.mt.size = 3) (hg : q.gb.size = 3) :
    Calls Tryz.prog 98 #[.slice (some ⟨b, off, none⟩) n cap, .int .i64 last, .agg (qyC q)] w fun e w' => e = .returned (.bool (lostL lvs q (last + 1))) ∧ Below w.heap.size w w' := by
  have HAT : Hid (LvAt w b off lvs) := hat
  have HN : Hid (lvs.length = n) := hn
  have HR : Hid (∀ j, j < n → (lvG lvs j).rule.size = 3) := hr
  have HM : Hid (q.mt.size = 3) := hm
  have HG : Hid (q.gb.size = 3) := hg
  have hb0 : b < w.heap.size := hat.block (by omega)
  clear hat hn hr hm hg
  go_enter Tryz.func98, Tryz.ntmps98
  go_wp2_with fail
  go_loopw [7] (fun i wr => ∃ k : Nat, k ≤ last + 1 ∧ i = .int .i64 k ∧ Below (w.heap.size + 1) (w.alloc (.cells (qyC q) 45)) wr ∧ ∀ j, j < k → lostB q (lvG lvs j) = false) (fun i _ => last + 1 - (intOf i).toNat)
  case atStart => exact ⟨0, Nat.zero_le _, rfl, Below.refl _ _, fun j hj => by omega⟩
  case round =>
    obtain ⟨k, hk, rfl, hbel, hall⟩ := hrel
    have HA : Hid (∀ j, j < k → lostB q (lvG lvs j) = false) := hall
    clear hall
    have hsz : w.heap.size + 1 ≤ wr.heap.size := by have := hbel.size; simpa using this
    have hw0 : Below w.heap.size w wr := (((Below.refl _ _).alloc (Nat.le_refl _) _).trans (hbel.mono (by omega)))
    by_cases hlt : k < last + 1
    · have hkn : k < n := by omega
      have hkl : k ≤ last := by omega
      have HL := (HAT.out.below hw0 hb0) k (by rw [HN.out]; exact hkn)
      obtain ⟨_, _, c2, _⟩ := HL
      have q0 : wr.cell? ⟨w.heap.size, 0, none⟩ = some (.int .i64 q.fr) := by rw [hbel.cell (p := ⟨w.heap.size, 0, none⟩) (by simp)]; simp [go_sem]
      have q1 : wr.cell? ⟨w.heap.size, 1, none⟩ = some (.int .i64 q.to) := by rw [hbel.cell (p := ⟨w.heap.size, 1, none⟩) (by simp)]; simp [go_sem]
      have q2 : wr.cell? ⟨w.heap.size, 2, none⟩ = some (.int .i64 q.step) := by rw [hbel.cell (p := ⟨w.heap.size, 2, none⟩) (by simp)]; simp [go_sem]
      have q3 : wr.cell? ⟨w.heap.size, 3, none⟩ = some (.string q.mt) := by rw [hbel.cell (p := ⟨w.heap.size, 3, none⟩) (by simp)]; simp [go_sem]
      have q4 : wr.cell? ⟨w.heap.size, 4, none⟩ = some (.string q.gb) := by rw [hbel.cell (p := ⟨w.heap.size, 4, none⟩) (by simp)]; simp [go_sem]
      have HC : Hid (∀ w, Calls Tryz.prog 119 #[.string (lvG lvs k).rule, .agg (qyC q)] w fun e w' => e = .returned (.bool (lostB q (lvG lvs k))) ∧ w' = w.alloc (.cells (qyC q) 45)) :=
        fun w => loses_any q (lvG lvs k) w (HR.out k hkn) HM.out HG.out
      cases hb : lostB q (lvG lvs k)
      all_goals have HB : Hid (lostB q (lvG lvs k) = _) := hb
      all_goals rw [hb] at HC
      all_goals clear hb
      all_goals go_wp2_with fail
      all_goals go_region_with (go_at_call 119; refine (HC.out _).mono ?_; rintro e w' ⟨rfl, rfl⟩)
      all_goals go_wp2_with fail
      all_goals first
        | exact ⟨⟨k + 1, by omega, by go_num, by (repeat (first | exact hbel | refine below_drewN ?_ _ | refine Below.drew ?_ | refine Below.alloc ?_ (by simpa using hsz) _)), upto_succ HA.out HB.out⟩, by simp [intOf]; omega⟩
        | (go_ret; exact ⟨ret_bool (any_true k hlt HB.out).symm, by (repeat (first | exact hw0 | refine below_drewN ?_ _ | refine Below.drew ?_ | refine Below.alloc ?_ (by first | omega | (simp; omega)) _))⟩)
    · by_cases hkn : k < n
      · go_wp2_with fail
        go_ret
        exact ⟨ret_bool (any_false (fun j hj => HA.out j (by omega))).symm, hw0⟩
      · go_wp2_with fail
        go_ret
        exact ⟨ret_bool (any_false (fun j hj => HA.out j (by omega))).symm, hw0⟩

set_option maxHeartbeats 1000000 in
theorem fits_any (q : Qy) (lvs : List Lv) (b off n cap last : Nat) (w : World) (hn : lvs.length = n) (hn4 : n ≤ 4) (hl : last < n) (hat : LvAt w b off lvs) (hw : 1 ≤ (lvG lvs last).window) (_hw2 : (lvG lvs last).window ≤ 100)
    (_f0 : 0 ≤ q.fr) (_f1 : q.fr ≤ 100100) (_s0 : 1 ≤ q.step) (_s1 : q.step ≤ 100100) :
    Calls Tryz.prog 99 #[.slice (some ⟨b, off, none⟩) n cap, .int .i64 last, .agg (qyC q)] w fun e w' => e = .returned (.bool (fitB (lvG lvs last) q)) ∧ Below w.heap.size w w' := by
  have hb0 : b < w.heap.size := hat.block (by omega)
  obtain ⟨_, c1, _, _⟩ := hat last (by omega)
  clear hat hn
  generalize lvG lvs last = L at *
  have hz : ¬ L.window = 0 := by omega
  cases e1 : (q.fr % L.window == 0) <;> cases e2 : (q.step % L.window == 0)
  all_goals have HF : Hid (fitB L q = ((q.fr % L.window == 0) && (q.step % L.window == 0))) := by (show _ = _; unfold fitB; rw [Bool.eq_iff_iff]; simp)
  all_goals rw [e1, e2] at HF
  all_goals rw [HF.out]
  all_goals go_enter Tryz.func99, Tryz.ntmps99
  all_goals go_wp2_with fail
  all_goals go_ret
  all_goals exact ⟨rfl, by go_grown⟩

/-- Two boxes of a call's own, and what a call made behind them. -/
theorem cf_cells {w w1 : World} {c : Cf} {b off n cap : Nat} {q : Qy} (hb : Below (w.heap.size + 2) ((w.alloc (.cells (cfC c b off n cap) 40)).alloc (.cells (qyC q) 45)) w1) :
    w.heap.size + 1 < w1.heap.size ∧ w1.cell? ⟨w.heap.size, 0, none⟩ = some (.int .i64 c.span) ∧ w1.cell? ⟨w.heap.size, 1, none⟩ = some (.int .i64 c.keep) ∧ w1.cell? ⟨w.heap.size, 2, none⟩ = some (.slice (some ⟨b, off, none⟩) n cap) ∧
    w1.cell? ⟨w.heap.size + 1, 0, none⟩ = some (.int .i64 q.fr) ∧ w1.cell? ⟨w.heap.size + 1, 1, none⟩ = some (.int .i64 q.to) ∧ w1.cell? ⟨w.heap.size + 1, 2, none⟩ = some (.int .i64 q.step) ∧ w1.cell? ⟨w.heap.size + 1, 3, none⟩ = some (.string q.mt) ∧ w1.cell? ⟨w.heap.size + 1, 4, none⟩ = some (.string q.gb) := by
  have hz := hb.size
  simp only [World.size_alloc] at hz
  refine ⟨by omega, ?_, ?_, ?_, ?_, ?_, ?_, ?_, ?_⟩
  · rw [hb.cell (p := ⟨w.heap.size, 0, none⟩) (by show w.heap.size < _; omega)]; simp [go_sem]
  · rw [hb.cell (p := ⟨w.heap.size, 1, none⟩) (by show w.heap.size < _; omega)]; simp [go_sem]
  · rw [hb.cell (p := ⟨w.heap.size, 2, none⟩) (by show w.heap.size < _; omega)]; simp [go_sem]
  · rw [hb.cell (p := ⟨w.heap.size + 1, 0, none⟩) (by show w.heap.size + 1 < _; omega)]; simp [go_sem]
  · rw [hb.cell (p := ⟨w.heap.size + 1, 1, none⟩) (by show w.heap.size + 1 < _; omega)]; simp [go_sem]
  · rw [hb.cell (p := ⟨w.heap.size + 1, 2, none⟩) (by show w.heap.size + 1 < _; omega)]; simp [go_sem]
  · rw [hb.cell (p := ⟨w.heap.size + 1, 3, none⟩) (by show w.heap.size + 1 < _; omega)]; simp [go_sem]
  · rw [hb.cell (p := ⟨w.heap.size + 1, 4, none⟩) (by show w.heap.size + 1 < _; omega)]; simp [go_sem]

/-- What a right configuration says of its levels. -/
theorem Cf.rules {c : Cf} (h : c.right = true) : ∀ j, j < c.lvs.length → (lvG c.lvs j).rule.size = 3 := by
  intro j hj
  have := ((Cf.right_parts h).2.2.2.2.2.2 j hj).2.2.1
  simp [ruleB] at this
  exact this.1.1.1
theorem Cf.wins {c : Cf} (h : c.right = true) : ∀ j, j < c.lvs.length → 1 ≤ (lvG c.lvs j).window ∧ (lvG c.lvs j).window ≤ 100 := by
  intro j hj
  obtain ⟨h1, h2, _⟩ := Cf.right_parts h
  obtain ⟨a, b, _⟩ := (Cf.right_parts h).2.2.2.2.2.2 j hj
  exact ⟨a, Int.le_trans (Int.le_of_dvd (by omega) (Int.dvd_of_emod_eq_zero b)) h2⟩

set_option maxHeartbeats 2000000 in
theorem check_q (c : Cf) (q : Qy) (b off n cap : Nat) (now : Int) (w : World) (hc : c.right = true) (hn : c.lvs.length = n) (hat : LvAt w b off c.lvs) (n0 : 0 ≤ now) (n1 : now ≤ 100000) (hq : q.wf) :
    Calls Tryz.prog 76 #[.agg (cfC c b off n cap), .int .i64 now, .agg (qyC q)] w fun e w' => e = .returned (.int .i64 (qE c now q)) ∧ Below w.heap.size w w' := by
  obtain ⟨h1, h2, h3, h4, h5, h6, _⟩ := Cf.right_parts hc
  have HE : Hid (qE c now q = _) := qE_eq (q := q) (now := now) hc
  have hb0 : b < w.heap.size := hat.block (by omega)
  have HAT : Hid (LvAt w b off c.lvs) := hat
  have HW := Cf.wins hc (c.lvl now q.fr) (Cf.lvl_lt hc now q.fr)
  have HL : Hid (c.lvl now q.fr < n) := by have := Cf.lvl_lt hc now q.fr; show _ < _; omega
  have HRU : Hid (∀ j, j < n → (lvG c.lvs j).rule.size = 3) := fun j hj => Cf.rules hc j (by omega)
  have HQ : Hid q.wf := hq
  have HC : Hid (c.right = true) := hc
  have HN : Hid (c.lvs.length = n) := hn
  have h5' : 1 ≤ n := by omega
  have h6' : n ≤ 4 := by omega
  clear hat hq hc hn h5 h6
  cases hr : rightQ q
  · go_enter Tryz.func76, Tryz.ntmps76
    go_wp2_with fail
    refine (queryRight_any q _ HQ.out).mono ?_
    rintro e w1 ⟨rfl, hb1⟩
    rw [hr]
    go_wp2_with fail
    go_ret
    refine ⟨ret_i64 (by rw [HE.out, if_pos hr]), ?_⟩
    exact (((Below.refl _ _).alloc (Nat.le_refl _) _).alloc (by simp) _).trans (hb1.mono (by simp; omega))
  · have HT := (timesB_iff q).1 (by have := rightQ_eq q; rw [hr] at this; cases h : timesB q; rw [h] at this; simp at this; rfl)
    have HMG : q.mt.size = 3 ∧ q.gb.size = 3 := by
      have := rightQ_eq q; rw [hr] at this
      have := this.symm
      simp only [mtB, gbB, Bool.and_eq_true, decide_eq_true_eq] at this
      exact ⟨this.1.2.1.1.1, this.2.1.1.1⟩
    obtain ⟨f1, f2, f3, f4, f5, f6⟩ := HT
    have fs : q.step ≤ 100100 := by
      have h := Int.le_of_dvd (by omega) (Int.dvd_of_emod_eq_zero f5)
      omega
    clear f5 f6
    have ff : q.fr ≤ 100100 := by omega
    have HR : Hid (rightQ q = true) := hr
    clear hr
    go_enter Tryz.func76, Tryz.ntmps76
    go_wp2_with fail
    refine (queryRight_any q _ HQ.out).mono ?_
    rintro e w1 ⟨rfl, hb1⟩
    have hb1' := hb1.mono (show w.heap.size + 2 ≤ _ by simp)
    have Hb1 : Hid (Below (w.heap.size + 2) ((w.alloc (.cells (cfC c b off n cap) 40)).alloc (.cells (qyC q) 45)) w1) := hb1'
    obtain ⟨hz, p0, p1, p2, p3, p4, p5, p6, p7⟩ := cf_cells hb1'
    have Hw1 : Hid (Below w.heap.size w w1) := (((Below.refl _ _).alloc (Nat.le_refl _) _).alloc (by simp) _).trans (hb1'.mono (by omega))
    clear hb1 hb1'
    rw [HR.out]
    go_wp2_with fail
    refine (expired_any c b off n cap now q.fr _ h1 h2 n0 n1 f1 ff).mono ?_
    rintro e w2 ⟨rfl, hb2⟩
    have Hb2 : Hid (Below (w.heap.size + 2) ((w.alloc (.cells (cfC c b off n cap) 40)).alloc (.cells (qyC q) 45)) w2) := Hb1.out.trans (hb2.mono (by omega))
    have Hw2 : Hid (Below w.heap.size w w2) := Hw1.out.trans (hb2.mono (by omega))
    clear hb2 p0 p1 p2 p3 p4 p5 p6 p7 hz Hb1 Hw1
    obtain ⟨hz, p0, p1, p2, p3, p4, p5, p6, p7⟩ := cf_cells Hb2.out
    cases he : decide (c.keep < c.age now q.fr)
    · have hne : ¬ c.keep < c.age now q.fr := by simpa using he
      have HNE : Hid (¬ c.keep < c.age now q.fr) := hne
      clear he hne
      go_wp2_with fail
      refine (level_any c b off n cap now q.fr _ h1 h2 n0 n1 f1 ff HN.out h5' h6' (HAT.out.below Hw2.out hb0)).mono ?_
      rintro e w3 ⟨rfl, hb3⟩
      have Hb3 : Hid (Below (w.heap.size + 2) ((w.alloc (.cells (cfC c b off n cap) 40)).alloc (.cells (qyC q) 45)) w3) := Hb2.out.trans (hb3.mono (by omega))
      have Hw3 : Hid (Below w.heap.size w w3) := Hw2.out.trans (hb3.mono (by omega))
      clear hb3 p0 p1 p2 p3 p4 p5 p6 p7 hz Hb2 Hw2
      obtain ⟨hz, p0, p1, p2, p3, p4, p5, p6, p7⟩ := cf_cells Hb3.out
      go_wp2_with fail
      refine (lost_any q c.lvs b off n cap (c.lvl now q.fr) _ HN.out h6' HL.out (HAT.out.below Hw3.out hb0) HRU.out HMG.1 HMG.2).mono ?_
      rintro e w4 ⟨rfl, hb4⟩
      have Hb4 : Hid (Below (w.heap.size + 2) ((w.alloc (.cells (cfC c b off n cap) 40)).alloc (.cells (qyC q) 45)) w4) := Hb3.out.trans (hb4.mono (by omega))
      have Hw4 : Hid (Below w.heap.size w w4) := Hw3.out.trans (hb4.mono (by omega))
      clear hb4 p0 p1 p2 p3 p4 p5 p6 p7 hz Hb3 Hw3
      obtain ⟨hz, p0, p1, p2, p3, p4, p5, p6, p7⟩ := cf_cells Hb4.out
      cases hlo : lostL c.lvs q (c.lvl now q.fr + 1)
      · go_wp2_with fail
        refine (fits_any q c.lvs b off n cap (c.lvl now q.fr) _ HN.out h6' HL.out (HAT.out.below Hw4.out hb0) HW.1 HW.2 f1 ff f4 fs).mono ?_
        rintro e w5 ⟨rfl, hb5⟩
        have Hw5 : Hid (Below w.heap.size w w5) := Hw4.out.trans (hb5.mono (by omega))
        cases hfi : fitB (lvG c.lvs (c.lvl now q.fr)) q
        · go_wp2_with fail
          go_ret
          refine ⟨ret_i64 ?_, Hw5.out⟩
          rw [HE.out, HR.out, if_neg (by simp), if_neg (Int.not_lt.2 HNE.out), hlo, hfi]; simp
        · go_wp2_with fail
          go_ret
          refine ⟨ret_i64 ?_, Hw5.out⟩
          rw [HE.out, HR.out, if_neg (by simp), if_neg (Int.not_lt.2 HNE.out), hlo, hfi]; simp
      · go_wp2_with fail
        go_ret
        refine ⟨ret_i64 ?_, Hw4.out⟩
        rw [HE.out, HR.out, if_neg (by simp), if_neg (Int.not_lt.2 HNE.out), hlo]; simp
    · have hne : c.keep < c.age now q.fr := by simpa using he
      go_wp2_with fail
      go_ret
      refine ⟨ret_i64 ?_, Hw2.out⟩
      rw [HE.out, HR.out, if_neg (by simp), if_pos hne]

end Go.Proofs.YthciddpljcbhiabGreatDoor

/- Walks: the rows of a query. -/
namespace Go.Proofs.YthciddpljcbhiabGreatDoor
open Go Go.RowKit

/-- The cells of a point. -/
def PtAt (w : World) (g o : Nat) (p : Pt) : Prop := At w g o p.cells
theorem PtAt.get {w : World} {g o : Nat} {p : Pt} (h : PtAt w g o p) (j : Nat) (v : Value) (hv : p.cells[j]? = some v) : w.cell? ⟨g, o + j, none⟩ = some v := h j v hv
theorem PtAt.all {w : World} {g o : Nat} {p : Pt} (h : PtAt w g o p) : w.cell? ⟨g, o, none⟩ = some (.int .i64 p.time) ∧ w.cell? ⟨g, o + 1, none⟩ = some (.int .i32 p.value) ∧
    w.cell? ⟨g, o + 2, none⟩ = some (.int .u8 (sG p 0).a) ∧ w.cell? ⟨g, o + 3, none⟩ = some (.int .u8 (sG p 0).b) ∧ w.cell? ⟨g, o + 4, none⟩ = some (.int .u8 (sG p 0).c) ∧
    w.cell? ⟨g, o + 5, none⟩ = some (.int .u8 (sG p 1).a) ∧ w.cell? ⟨g, o + 6, none⟩ = some (.int .u8 (sG p 1).b) ∧ w.cell? ⟨g, o + 7, none⟩ = some (.int .u8 (sG p 1).c) ∧
    w.cell? ⟨g, o + 8, none⟩ = some (.int .u8 (sG p 2).a) ∧ w.cell? ⟨g, o + 9, none⟩ = some (.int .u8 (sG p 2).b) ∧ w.cell? ⟨g, o + 10, none⟩ = some (.int .u8 (sG p 2).c) ∧
    w.cell? ⟨g, o + 11, none⟩ = some (.int .u8 (sG p 3).a) ∧ w.cell? ⟨g, o + 12, none⟩ = some (.int .u8 (sG p 3).b) ∧ w.cell? ⟨g, o + 13, none⟩ = some (.int .u8 (sG p 3).c) :=
  ⟨h.get 0 _ rfl, h.get 1 _ rfl, h.get 2 _ rfl, h.get 3 _ rfl, h.get 4 _ rfl, h.get 5 _ rfl, h.get 6 _ rfl, h.get 7 _ rfl, h.get 8 _ rfl, h.get 9 _ rfl, h.get 10 _ rfl, h.get 11 _ rfl, h.get 12 _ rfl, h.get 13 _ rfl⟩
theorem PtAt.lt {w : World} {g o : Nat} {p : Pt} (h : PtAt w g o p) : g < w.heap.size := At.block h (by simp [Pt.cells])
theorem PtAt.below {w w' : World} {g o : Nat} {p : Pt} (h : PtAt w g o p) (hb : Below w.heap.size w w') : PtAt w' g o p := At.below h hb h.lt
theorem PtAt.new (w : World) (p : Pt) : PtAt (w.alloc (.cells (ptC p) 127)) w.heap.size 0 p := at_alloc_new w p.cells 127
theorem owns_pt {w : World} {base g n cap : Nat} {l : List Pt} (h : w.ownsRow base 127 14 (.slice (some ⟨g, 0, none⟩) n cap) n (flatP l)) (i : Nat) (hi : i < l.length) : PtAt w g (i * 14) (ptG l i) := by
  intro j v hv
  rw [ptG_get l i hi] at hv
  have hj : j < 14 := by rw [← len14 l[i]]; exact (List.getElem?_eq_some_iff.1 hv).1
  exact owns_cell h (by rw [show flatP l = l.flatMap Pt.cells from rfl, flat_get Pt.cells 14 len14 l i j hj hi]; exact hv)

/-- What a point may be. -/
structure PtOk (c : Cf) (p : Pt) : Prop where
  t0 : 0 ≤ p.time
  t1 : p.time ≤ 100000
  v0 : -2147483648 ≤ p.value
  v1 : p.value ≤ 2147483647
  ser : p.ser.length = c.lvs.length
theorem PtOk.sG {c : Cf} {p : Pt} (h : PtOk c p) {k : Nat} (hk : k < c.lvs.length) : sG p k = p.ser.getD k over := by
  have : k < p.ser.length := by rw [h.ser]; exact hk
  simp [Go.Proofs.YthciddpljcbhiabGreatDoor.sG, List.getD, this]

/-- The rows of the first k points. -/
def rowsK (c : Cf) (now : Int) (q : Qy) (ps : List Pt) (k : Nat) : List Rw := rowsOf ((ps.take k).filterMap (kvP c now q))
theorem rowsK_none {c : Cf} {now : Int} {q : Qy} {ps : List Pt} {k : Nat} (hk : k < ps.length) (h : kvP c now q (ptG ps k) = none) : rowsK c now q ps (k + 1) = rowsK c now q ps k := by
  unfold rowsK
  rw [List.take_succ_eq_append_getElem hk, List.filterMap_append, ← ptG_get ps k hk]
  simp [h]
theorem rowsK_some {c : Cf} {now : Int} {q : Qy} {ps : List Pt} {k : Nat} (hk : k < ps.length) {p : Key × Int} (h : kvP c now q (ptG ps k) = some p) : rowsK c now q ps (k + 1) = addR (rowsK c now q ps k) p.1 p.2 := by
  unfold rowsK
  rw [List.take_succ_eq_append_getElem hk, List.filterMap_append, ← ptG_get ps k hk]
  simp only [List.filterMap_cons, h, List.filterMap_nil]
  exact rowsOf_snoc _ _
theorem kvP_mem {c : Cf} {now : Int} {q : Qy} {ps : List Pt} (hp : ∀ p ∈ ps, PtOk c p) {kv : Key × Int} (h : kv ∈ ps.filterMap (kvP c now q)) : v32 kv.2 := by
  obtain ⟨p, hpm, e⟩ := List.mem_filterMap.1 h
  unfold kvP at e
  split at e
  · obtain ⟨g, _, e⟩ := Option.map_eq_some_iff.1 e
    rw [← e]
    exact ⟨(hp p hpm).v0, (hp p hpm).v1⟩
  · cases e
theorem rowsK_small {c : Cf} {now : Int} {q : Qy} {ps : List Pt} (hp : ∀ p ∈ ps, PtOk c p) (hl : ps.length ≤ 500) (k : Nat) : SmallR (rowsK c now q ps k) ∧ (rowsK c now q ps k).length ≤ 1000 ∧ (rowsK c now q ps k).Pairwise fun a b => a.key.lt b.key := by
  have hkv : ((ps.take k).filterMap (kvP c now q)).length ≤ 500 := by
    have h1 := List.length_filterMap_le (kvP c now q) (ps.take k)
    have h2 := List.length_take_le' k ps
    omega
  have hv : ∀ x ∈ (ps.take k).filterMap (kvP c now q), v32 x.2 := fun x hx => kvP_mem (fun p hpm => hp p (List.mem_of_mem_take hpm)) hx
  refine ⟨fun i hi => ?_, ?_, (rowsOf_is _).up⟩
  · have hb := (rowsOf_is ((ps.take k).filterMap (kvP c now q))).bd hv (r := rwG (rowsK c now q ps k) i) (by rw [rwG_get _ i hi]; exact List.getElem_mem _)
    obtain ⟨b1, b2, b3, b4, _⟩ := hb
    have : (((ps.take k).filterMap (kvP c now q)).length : Int) ≤ 500 := by omega
    omega
  · have := rowsOf_len ((ps.take k).filterMap (kvP c now q))
    unfold rowsK
    omega

end Go.Proofs.YthciddpljcbhiabGreatDoor

/- Walks: the rows of a query, one point behind the other. -/
namespace Go.Proofs.YthciddpljcbhiabGreatDoor
open Go Go.RowKit

/-- Where the points of a slice lie. -/
def PtsAt (w : World) (a : Option Addr) (ps : List Pt) : Prop := 0 < ps.length → ∃ g, a = some ⟨g, 0, none⟩ ∧ g < w.heap.size ∧ ∀ i, i < ps.length → PtAt w g (i * 14) (ptG ps i)
theorem PtsAt.of_owns {w : World} {base : Nat} {a : Option Addr} {n cap : Nat} {ps : List Pt} (h : w.ownsRow base 127 14 (.slice a n cap) n (flatP ps)) (hn : ps.length = n) : PtsAt w a ps := by
  intro hp
  obtain ⟨g, cap', he, _, hg, _⟩ := ownBlockForm h (by omega)
  injection he with h1 h2 h3
  subst h1
  exact ⟨g, rfl, hg, fun i hi => owns_pt h i hi⟩

abbrev qW (w : World) (c : Cf) (b off n cap : Nat) (q : Qy) : World := (w.alloc (.cells (cfC c b off n cap) 40)).alloc (.cells (qyC q) 45)

structure LbAt (w : World) (g : Nat) (l : Lb) : Prop where
  c0 : w.cell? ⟨g, 0, none⟩ = some (.int .u8 l.a)
  c1 : w.cell? ⟨g, 1, none⟩ = some (.int .u8 l.b)
  c2 : w.cell? ⟨g, 2, none⟩ = some (.int .u8 l.c)
theorem LbAt.new (w : World) (l : Lb) : LbAt (w.alloc (.cells (lbA l) 42)) w.heap.size l := by constructor <;> simp [go_sem]
theorem LbAt.lt {w : World} {g : Nat} {l : Lb} (h : LbAt w g l) : g < w.heap.size := World.block_lt_of_cell? w _ h.c0
theorem LbAt.below {w w' : World} {g : Nat} {l : Lb} (h : LbAt w g l) (hb : Below w.heap.size w w') : LbAt w' g l :=
  ⟨(hb.cell (p := ⟨g, 0, none⟩) h.lt).trans h.c0, (hb.cell (p := ⟨g, 1, none⟩) h.lt).trans h.c1, (hb.cell (p := ⟨g, 2, none⟩) h.lt).trans h.c2⟩

/-- What a round holds: the boxes, the table, the point. -/
structure RS (w w1 : World) (c : Cf) (b off n cap : Nat) (q : Qy) (v : Value) (l : List Rw) (P : Nat) (X : Pt) : Prop where
  bel : Below (w.heap.size + 2) (qW w c b off n cap q) w1
  tab : TabAt w1 (w.heap.size + 2) (w.heap.size + 2) v l
  pt : PtAt w1 P 0 X
theorem RS.next {w w1 w2 : World} {c : Cf} {b off n cap : Nat} {q : Qy} {v : Value} {l : List Rw} {P : Nat} {X : Pt} (h : RS w w1 c b off n cap q v l P X) (hb : Below w1.heap.size w1 w2) : RS w w2 c b off n cap q v l P X :=
  ⟨h.bel.trans (hb.mono (by have := h.tab.lt; omega)), h.tab.kept hb, h.pt.below hb⟩
theorem RS.low {w w1 : World} {c : Cf} {b off n cap : Nat} {q : Qy} {v : Value} {l : List Rw} {P : Nat} {X : Pt} (h : RS w w1 c b off n cap q v l P X) : Below w.heap.size w w1 :=
  (((Below.refl _ _).alloc (Nat.le_refl _) _).alloc (by simp) _).trans (h.bel.mono (by omega))

set_option maxHeartbeats 4000000 in
set_option maxRecDepth 100000 in
theorem rows_any (c : Cf) (q : Qy) (b off n cap : Nat) (now : Int) (a : Option Addr) (pn pcap : Nat) (ps : List Pt) (w : World) (hc : c.right = true) (hn : c.lvs.length = n) (hat : LvAt w b off c.lvs) (n0 : 0 ≤ now) (n1 : now ≤ 100000)
    (hr : rightQ q = true) (hp : PtsAt w a ps) (hpn : ps.length = pn) (hok : ∀ p ∈ ps, PtOk c p) (hl : pn ≤ 500) :
    Calls Tryz.prog 77 #[.agg (cfC c b off n cap), .int .i64 now, .agg (qyC q), .slice a pn pcap] w fun e w' => ∃ v, e = .returned v ∧ w'.ownsRow w.heap.size 78 8 v (rowsOf (ps.filterMap (kvP c now q))).length (flatR (rowsOf (ps.filterMap (kvP c now q)))) ∧ Below w.heap.size w w' := by
  obtain ⟨h1, h2, h3, h4, h5, h6, _⟩ := Cf.right_parts hc
  have hb0 : b < w.heap.size := hat.block (by omega)
  have HAT : Hid (LvAt w b off c.lvs) := hat
  have HP : Hid (PtsAt w a ps) := hp
  have HPN : Hid (ps.length = pn) := hpn
  have HOK : Hid (∀ p ∈ ps, PtOk c p) := hok
  have HSM : Hid (∀ k, SmallR (rowsK c now q ps k) ∧ (rowsK c now q ps k).length ≤ 1000 ∧ (rowsK c now q ps k).Pairwise fun a b => a.key.lt b.key) := rowsK_small hok (by omega)
  have HLV : Hid (∀ t, c.lvl now t < c.lvs.length) := fun t => Cf.lvl_lt hc now t
  have HN : Hid (c.lvs.length = n) := hn
  have HT := (timesB_iff q).1 (by have := rightQ_eq q; rw [hr] at this; cases h : timesB q; rw [h] at this; simp at this; rfl)
  have HMG : q.mt.size = 3 ∧ q.gb.size = 3 := by
    have := rightQ_eq q; rw [hr] at this
    have := this.symm
    simp only [mtB, gbB, Bool.and_eq_true, decide_eq_true_eq] at this
    exact ⟨this.1.2.1.1.1, this.2.1.1.1⟩
  obtain ⟨hm3, hg3⟩ := HMG
  obtain ⟨f1, f2, f3, f4, f5, f6⟩ := HT
  have fs : q.step ≤ 100100 := by
    have h := Int.le_of_dvd (by omega) (Int.dvd_of_emod_eq_zero f5)
    omega
  have h5' : 1 ≤ n := by omega
  have h6' : n ≤ 4 := by omega
  clear hat hp hpn hok f5 f6 hr hn h5 h6 hc
  go_enter Tryz.func77, Tryz.ntmps77
  go_wp2_with fail
  go_loopw [10] (fun i wr => ∃ k : Nat, i = .int .i64 k ∧ k ≤ pn ∧ (∃ v, TabAt wr (w.heap.size + 2) (w.heap.size + 2) v (rowsK c now q ps k)) ∧ Below (w.heap.size + 2) (qW w c b off n cap q) wr) (fun i _ => pn - (intOf i).toNat)
  case atStart =>
    refine ⟨0, rfl, Nat.zero_le _, ⟨.slice none 0 0, ?_, ?_, Nat.le_refl _, by simp [Value.ownBlock]⟩, (Below.refl _ _).alloc (by simp) _⟩
    · have h := heap_alloc_new (qW w c b off n cap q) (.cells #[.slice none 0 0] 162)
      rw [show (qW w c b off n cap q).heap.size = w.heap.size + 2 by simp] at h
      exact h
    · exact World.ownsRow_nil _ _ _ _
  case round =>
    obtain ⟨k, rfl, hk, ⟨v, ht⟩, hbel⟩ := hrel
    have HT0 : Hid (TabAt wr (w.heap.size + 2) (w.heap.size + 2) v (rowsK c now q ps k)) := ht
    have HB0 : Hid (Below (w.heap.size + 2) (qW w c b off n cap q) wr) := hbel
    have qT := ht.cell
    have hT0 := ht.lt
    obtain ⟨hz, p0, p1, p2, p3, p4, p5, p6, p7⟩ := cf_cells hbel
    have HW0 : Hid (Below w.heap.size w wr) := (((Below.refl _ _).alloc (Nat.le_refl _) _).alloc (by simp) _).trans (hbel.mono (by omega))
    have hz0 : w.heap.size < wr.heap.size := by omega
    clear ht hbel
    by_cases hlt : k < pn
    · obtain ⟨g, rfl, hgs, hpt⟩ := HP.out (by rw [HPN.out]; omega)
      have hpk := hpt k (by rw [HPN.out]; exact hlt)
      have hpk' : PtAt wr g (k * 14) (ptG ps k) := At.below hpk HW0.out hgs
      have HPO := HOK.out (ptG ps k) (by rw [ptG_get ps k (by rw [HPN.out]; exact hlt)]; exact List.getElem_mem _)
      have HNo : Hid (kvP c now q (ptG ps k) = none → rowsK c now q ps (k + 1) = rowsK c now q ps k) := rowsK_none (by rw [HPN.out]; exact hlt)
      have HSo : Hid (∀ p, kvP c now q (ptG ps k) = some p → rowsK c now q ps (k + 1) = addR (rowsK c now q ps k) p.1 p.2) := fun p => rowsK_some (by rw [HPN.out]; exact hlt)
      obtain ⟨x0, x1, x2, x3, x4, x5, x6, x7, x8, x9, x10, x11, x12, x13⟩ := hpk'.all
      have HKV : Hid (∀ p, kvP c now q p = _) := fun p => rfl
      clear hpt hpk hpk' hgs
      generalize hX : ptG ps k = X at *
      obtain ⟨t0, t1, v0, v1, hser⟩ := HPO
      have HSER : Hid (X.ser.length = c.lvs.length) := hser
      clear hser
      by_cases ha : X.time < q.fr
      · have hin : inQ q X.time = false := by simp [inQ]; omega
        have HR : Hid (rowsK c now q ps (k + 1) = rowsK c now q ps k) := HNo.out (by unfold kvP; rw [hin]; rfl)
        clear hin
        go_wp2_with fail
        refine ⟨⟨k + 1, by go_num, by omega, ⟨v, ?_⟩, ?_⟩, by simp [intOf]; omega⟩
        · rw [HR.out]; exact HT0.out.kept ((Below.refl _ _).alloc (Nat.le_refl _) _)
        · exact HB0.out.alloc (by omega) _
      · by_cases hb : q.to ≤ X.time
        · have hin : inQ q X.time = false := by simp [inQ]; omega
          have HR : Hid (rowsK c now q ps (k + 1) = rowsK c now q ps k) := HNo.out (by unfold kvP; rw [hin]; rfl)
          clear hin
          go_wp2_with fail
          refine ⟨⟨k + 1, by go_num, by omega, ⟨v, ?_⟩, ?_⟩, by simp [intOf]; omega⟩
          · rw [HR.out]; exact HT0.out.kept ((Below.refl _ _).alloc (Nat.le_refl _) _)
          · exact HB0.out.alloc (by omega) _
        · have hin : inQ q X.time = true := by simp [inQ]; omega
          have HIN : Hid (inQ q X.time = true) := hin
          clear hin
          go_wp2_with fail
          refine (level_any c b off n cap now X.time _ h1 h2 n0 n1 t0 (by omega) HN.out h5' h6' ((HAT.out.below HW0.out hb0).below ((Below.refl _ _).alloc (Nat.le_refl _) _) (by have := HW0.out.size; omega))).mono ?_
          rintro e w1 ⟨rfl, hb1⟩
          have S1 : Hid (RS w w1 c b off n cap q v (rowsK c now q ps k) wr.heap.size X) := RS.next (w1 := wr.alloc (.cells (ptC X) 127)) ⟨HB0.out.alloc (by omega) _, HT0.out.kept ((Below.refl _ _).alloc (Nat.le_refl _) _), PtAt.new wr X⟩ hb1
          clear hb1 x0 x1 x2 x3 x4 x5 x6 x7 x8 x9 x10 x11 x12 x13 p0 p1 p2 p3 p4 p5 p6 p7 qT hz hz0
          obtain ⟨x0, x1, x2, x3, x4, x5, x6, x7, x8, x9, x10, x11, x12, x13⟩ := S1.out.pt.all
          simp only [Nat.zero_add] at x1 x2 x3 x4 x5 x6 x7 x8 x9 x10 x11 x12 x13
          have HL4 : Hid (c.lvl now X.time < 4) := by have := HLV.out X.time; have := HN.out; show _ < _; omega
          have HSG : Hid (sG X (c.lvl now X.time) = X.ser.getD (c.lvl now X.time) over) := by
            show _ = _
            have h : c.lvl now X.time < X.ser.length := by rw [HSER.out]; exact HLV.out X.time
            simp [sG, List.getD, h]
          go_wp2_with fail
          refine (of_any X (c.lvl now X.time) HL4.out _).mono ?_
          rintro e w2 ⟨rfl, hb2⟩
          rw [HSG.out]
          generalize hS : X.ser.getD (c.lvl now X.time) over = S at *
          have HKV2 : Hid (kvP c now q X = (grpOf q S).map fun g => (⟨stepOf q X.time, g.a, g.b, g.c⟩, X.value)) := by show _ = _; unfold kvP; rw [HIN.out, hS]; rfl
          have S2 : Hid (RS w w2 c b off n cap q v (rowsK c now q ps k) wr.heap.size X) := S1.out.next hb2
          clear hb2 x0 x1 x2 x3 x4 x5 x6 x7 x8 x9 x10 x11 x12 x13 S1
          obtain ⟨hz, p0, p1, p2, p3, p4, p5, p6, p7⟩ := cf_cells S2.out.bel
          have hz0 : w.heap.size < w2.heap.size := by omega
          go_wp2_with fail
          refine (groupOf_any q S _ hm3 hg3).mono ?_
          rintro e w3 ⟨rfl, hb3⟩
          have S3 : Hid (RS w w3 c b off n cap q v (rowsK c now q ps k) wr.heap.size X) := RS.next (w1 := w2.alloc (.cells (lbA S) 42)) (S2.out.next ((Below.refl _ _).alloc (Nat.le_refl _) _)) hb3
          clear hb3 p0 p1 p2 p3 p4 p5 p6 p7 hz hz0 S2
          obtain ⟨hz, p0, p1, p2, p3, p4, p5, p6, p7⟩ := cf_cells S3.out.bel
          have hz0 : w.heap.size < w3.heap.size := by omega
          have hzp := S3.out.pt.lt
          have hzt := S3.out.tab.lt
          obtain ⟨x0, x1, _⟩ := S3.out.pt.all
          simp only [Nat.zero_add] at x1
          unfold gpV
          cases hgr : grpOf q S with
          | none =>
            have HR : Hid (rowsK c now q ps (k + 1) = rowsK c now q ps k) := HNo.out (by rw [HKV2.out, hgr]; rfl)
            have e1 : gpT q S = false := by unfold gpT; rw [hgr]; rfl
            rw [e1]
            go_wp2_with fail
            have S4 := S3.out.next ((Below.refl _ _).alloc (Nat.le_refl _) (.cells (lbA (gpX q S)) 42))
            refine ⟨⟨k + 1, by go_num, by omega, ⟨v, ?_⟩, ?_⟩, by simp [intOf]; omega⟩
            · rw [HR.out]; exact S4.tab
            · exact S4.bel
          | some G =>
            have e1 : gpT q S = true := by unfold gpT; rw [hgr]; rfl
            have e2 : gpX q S = G := by unfold gpX; rw [hgr]; rfl
            have HR : Hid (rowsK c now q ps (k + 1) = addR (rowsK c now q ps k) ⟨stepOf q X.time, G.a, G.b, G.c⟩ X.value) := HSo.out (⟨stepOf q X.time, G.a, G.b, G.c⟩, X.value) (by rw [HKV2.out, hgr]; rfl)
            rw [e1, e2]
            clear e1 e2
            have S4 : Hid (RS w (w3.alloc (.cells (lbA G) 42)) c b off n cap q v (rowsK c now q ps k) wr.heap.size X) := S3.out.next ((Below.refl _ _).alloc (Nat.le_refl _) _)
            obtain ⟨m1, m2, m3⟩ := HSM.out k
            go_wp2_with fail
            refine (add_any (w.heap.size + 2) (w.heap.size + 2) v (rowsK c now q ps k) (stepOf q X.time) X.value G _ S4.out.tab m2 m3 m1 v0 v1).mono ?_
            rintro e w5 ⟨rfl, v', ht5, hb5⟩
            have HT5 : Hid (TabAt w5 (w.heap.size + 2) (w.heap.size + 2) v' (rowsK c now q ps (k + 1))) := by show TabAt _ _ _ _ _; rw [HR.out]; exact ht5
            have HB5 : Hid (Below (w.heap.size + 2) (qW w c b off n cap q) w5) := S4.out.bel.trans hb5
            clear ht5 hb5
            go_wp2_with fail
            exact ⟨⟨k + 1, by go_num, by omega, ⟨v', HT5.out⟩, HB5.out⟩, by simp [intOf]; omega⟩
    · have hke : k = pn := by omega
      subst hke
      have HRE : Hid (rowsK c now q ps k = rowsOf (ps.filterMap (kvP c now q))) := by show _ = _; unfold rowsK; rw [List.take_of_length_le (by rw [HPN.out]; omega)]
      obtain ⟨va, vc, rfl⟩ := ownForm HT0.out.own
      go_wp2_with fail
      go_ret
      have HO : wr.ownsRow w.heap.size 78 8 (.slice va (rowsK c now q ps k).length vc) (rowsOf (ps.filterMap (kvP c now q))).length (flatR (rowsOf (ps.filterMap (kvP c now q)))) := by
        have := HT0.out.own
        rw [← HRE.out]
        exact owns_base this (fun k hk => by have := (HT0.out.own.lt k hk).1; omega)
      exact ⟨.slice va (rowsK c now q ps k).length vc, rfl, HO, HW0.out⟩

end Go.Proofs.YthciddpljcbhiabGreatDoor

/- A store in memory; its time; a query of it. -/
namespace Go.Proofs.YthciddpljcbhiabGreatDoor
open Go Go.RowKit Go.Lib

abbrev stC (s : St) (tk : Int) (L lcap : Nat) (pv bv gv : Value) : Array Value := #[.int .i64 s.c.span, .int .i64 s.c.keep, .slice (some ⟨L, 0, none⟩) s.c.lvs.length lcap, .int .i64 s.now, .int .i64 tk, pv, bv, gv]
/-- A store at a block, by what it is made of; all of it lies in blocks of F. -/
structure StAt (w : World) (X : Nat) (F : Nat → Prop) (s sb : St) (tk : Int) (L lcap : Nat) (pv bv : Value) (bk : List Ad) (gv : Value) (lg : ByteArray) : Prop where
  blk : w.heap[X]? = some (.cells (stC s tk L lcap pv bv gv) 87 (0, 0))
  lv : LvAt w L 0 s.c.lvs
  pts : w.ownsRow 0 127 14 pv s.pts.length (flatP s.pts)
  bok : w.ownsRow 0 180 4 bv bk.length (flatA bk)
  log : w.ownsRow 0 5 1 gv lg.size (strCells lg)
  lgl : (lg.size : Int) ≤ 7 * s.now + 17 * tk
  bOk : BookOk sb bk
  inv : Inv s
  wf : LvWf s.c.lvs
  XL : X ≠ L
  pX : pv.ownBlock ≠ some X
  pL : pv.ownBlock ≠ some L
  bX : bv.ownBlock ≠ some X
  bL : bv.ownBlock ≠ some L
  pb : ∀ k, pv.ownBlock = some k → bv.ownBlock ≠ some k
  gX : gv.ownBlock ≠ some X
  gL : gv.ownBlock ≠ some L
  gp : ∀ k, pv.ownBlock = some k → gv.ownBlock ≠ some k
  gb : ∀ k, bv.ownBlock = some k → gv.ownBlock ≠ some k
  fX : F X
  fL : F L
  fp : ∀ k, pv.ownBlock = some k → F k
  fb : ∀ k, bv.ownBlock = some k → F k
  fg : ∀ k, gv.ownBlock = some k → F k
def StoreAt (w : World) (X : Nat) (F : Nat → Prop) (s : St) (lg : ByteArray) : Prop := ∃ L lcap pv bv bk gv, StAt w X F s s s.l.length L lcap pv bv bk gv lg

section
variable {w : World} {X : Nat} {F : Nat → Prop} {s sb : St} {tk : Int} {L lcap : Nat} {pv bv : Value} {bk : List Ad} {gv : Value} {lg : ByteArray}
theorem StAt.lt (h : StAt w X F s sb tk L lcap pv bv bk gv lg) : X < w.heap.size := (Array.getElem?_eq_some_iff.1 h.blk).1
theorem StAt.len (h : StAt w X F s sb tk L lcap pv bv bk gv lg) : 1 ≤ s.c.lvs.length ∧ s.c.lvs.length ≤ 4 := ⟨(Cf.right_parts h.inv.right).2.2.2.2.1, (Cf.right_parts h.inv.right).2.2.2.2.2.1⟩
theorem StAt.Llt (h : StAt w X F s sb tk L lcap pv bv bk gv lg) : L < w.heap.size := h.lv.block (by have := h.len; omega)
theorem StAt.cell (h : StAt w X F s sb tk L lcap pv bv bk gv lg) (j : Nat) (v : Value) (hv : (stC s tk L lcap pv bv gv)[j]? = some v) : w.cell? ⟨X, j, none⟩ = some v := cell_blk h.blk hv
theorem StAt.frozen (h : StAt w X F s sb tk L lcap pv bv bk gv lg) (j : Nat) : w.frozen? ⟨X, j, none⟩ = false := froz_blk h.blk
/-- What leaves the store's blocks as they were leaves the store. -/
theorem StAt.keep (h : StAt w X F s sb tk L lcap pv bv bk gv lg) {w' : World} (hk : ∀ k, F k → k < w.heap.size → w'.heap[k]? = w.heap[k]?) : StAt w' X F s sb tk L lcap pv bv bk gv lg := by
  have ho : ∀ {e : TypeId} {size : Nat} {v : Value} {n : Nat} {xs : List Value}, w.ownsRow 0 e size v n xs → (∀ k, v.ownBlock = some k → F k) → w'.ownsRow 0 e size v n xs := by
    intro e size v n xs h1 h2
    refine ⟨h1.1, ?_⟩
    rcases h1.2 with hn | ⟨g, cap, cur, rfl, hb', hg, rest⟩
    · exact .inl hn
    · refine .inr ⟨g, cap, cur, rfl, hb', ?_, rest⟩
      rw [hk g (h2 g rfl) (Array.getElem?_eq_some_iff.1 hg).1]
      exact hg
  have hlv : LvAt w' L 0 s.c.lvs := by
    intro i hi
    have e := hk L h.fL h.Llt
    obtain ⟨c0, c1, c2, c3⟩ := h.lv i hi
    exact ⟨(World.cell?_of_block (a := ⟨L, _, none⟩) e).trans c0, (World.cell?_of_block (a := ⟨L, _, none⟩) e).trans c1, (World.cell?_of_block (a := ⟨L, _, none⟩) e).trans c2, (World.cell?_of_block (a := ⟨L, _, none⟩) e).trans c3⟩
  exact { h with blk := by rw [hk X h.fX h.lt]; exact h.blk, lv := hlv, pts := ho h.pts h.fp, bok := ho h.bok h.fb, log := ho h.log h.fg }
theorem StAt.below (h : StAt w X F s sb tk L lcap pv bv bk gv lg) {w' : World} (hb : Below w.heap.size w w') : StAt w' X F s sb tk L lcap pv bv bk gv lg := h.keep fun k _ hk => hb.block k hk
theorem StoreAt.keep (h : StoreAt w X F s lg) {w' : World} (hk : ∀ k, F k → k < w.heap.size → w'.heap[k]? = w.heap[k]?) : StoreAt w' X F s lg :=
  let ⟨L, lcap, pv, bv, bk, gv, h⟩ := h; ⟨L, lcap, pv, bv, bk, gv, h.keep hk⟩
theorem StoreAt.below (h : StoreAt w X F s lg) {w' : World} (hb : Below w.heap.size w w') : StoreAt w' X F s lg := h.keep fun k _ hk => hb.block k hk
theorem StoreAt.lt (h : StoreAt w X F s lg) : X < w.heap.size := let ⟨_, _, _, _, _, _, h⟩ := h; h.lt
theorem StoreAt.inv (h : StoreAt w X F s lg) : Inv s := let ⟨_, _, _, _, _, _, h⟩ := h; h.inv
theorem StoreAt.mono (h : StoreAt w X F s lg) {F' : Nat → Prop} (hF : ∀ k, F k → F' k) : StoreAt w X F' s lg :=
  let ⟨L, lcap, pv, bv, bk, gv, h⟩ := h; ⟨L, lcap, pv, bv, bk, gv, { h with fX := hF _ h.fX, fL := hF _ h.fL, fp := fun k e => hF k (h.fp k e), fb := fun k e => hF k (h.fb k e), fg := fun k e => hF k (h.fg k e) }⟩
end

/-- All points are points of the store. -/
theorem serOf_len' (s : St) (x : Sm) : (serOf s.c.lvs s.adm x.lb).length = s.c.lvs.length := serOf_len _ _ _
theorem pts_ok {s : St} (h : Inv s) : ∀ p ∈ s.pts, PtOk s.c p := by
  intro p hp
  unfold St.pts at hp
  obtain ⟨x, hx, rfl⟩ := List.mem_map.1 (List.mem_filter.1 hp).1
  obtain ⟨h1, h2⟩ := h.ok x hx
  obtain ⟨t0, t1, _⟩ := (smOk_iff x).1 h1
  exact ⟨t0, t1, h2.2.2.2.2.1, h2.2.2.2.2.2, serOf_len' s x⟩
theorem pts_len {s : St} (h : Inv s) : s.pts.length ≤ 500 := by
  unfold St.pts
  have h1 := List.length_filter_le (fun p : Pt => liveB s.c s.now p.time) (s.l.map (ptOf s.c.lvs s.adm))
  rw [List.length_map] at h1
  have := h.len
  omega

theorem now_any (X : Nat) (F : Nat → Prop) (s : St) {lg : ByteArray} (w : World) (h : StoreAt w X F s lg) : Calls Tryz.prog 45 #[.pointer (some ⟨X, 0, none⟩)] w fun e w' => e = .returned (.int .i64 s.now) ∧ w' = w := by
  obtain ⟨L, lcap, pv, bv, bk, gv, h⟩ := h
  have c3 := h.cell 3 _ rfl
  clear h
  go_enter Tryz.func45, Tryz.ntmps45
  go_wp2_with fail
  go_ret
  exact ⟨rfl, rfl⟩

/-- The rows of a query that is answered, none of one that is not. -/
def rowsA (s : St) (q : Qy) : List Rw := if qE s.c s.now q = 0 then s.rows q else []
theorem qE_zero {c : Cf} {now : Int} {q : Qy} (h : qE c now q = 0) : rightQ q = true ∧ ¬ c.keep < c.age now q.fr := by
  unfold qE at h
  split at h
  · omega
  · next h1 =>
    split at h
    · omega
    · next h2 => exact ⟨by simpa using h1, h2⟩
theorem qE_le (c : Cf) (now : Int) (q : Qy) : 0 ≤ qE c now q ∧ qE c now q ≤ 13 := by
  unfold qE
  repeat (first | split | omega)


/-- All that was in F, and what is new. -/
def gF (F : Nat → Prop) (w w' : World) (k : Nat) : Prop := F k ∨ (w.heap.size ≤ k ∧ k < w'.heap.size)
theorem StAt.mono {w : World} {X : Nat} {F F' : Nat → Prop} {s sb : St} {tk : Int} {L lcap : Nat} {pv bv : Value} {bk : List Ad} {gv : Value} {lg : ByteArray} (h : StAt w X F s sb tk L lcap pv bv bk gv lg) (hF : ∀ k, F k → F' k) : StAt w X F' s sb tk L lcap pv bv bk gv lg :=
  { h with fX := hF _ h.fX, fL := hF _ h.fL, fp := fun k e => hF k (h.fp k e), fb := fun k e => hF k (h.fb k e), fg := fun k e => hF k (h.fg k e) }
theorem gF_trans {F : Nat → Prop} {w w1 w2 : World} (h1 : w.heap.size ≤ w1.heap.size) (h2 : w1.heap.size ≤ w2.heap.size) : ∀ k, gF (gF F w w1) w1 w2 k → gF F w w2 k := by
  intro k h
  rcases h with (h | h) | h
  · exact .inl h
  · exact .inr ⟨h.1, by omega⟩
  · exact .inr ⟨by omega, h.2⟩
theorem Fr.gF {F : Nat → Prop} {w w1 w2 : World} (h1 : Fr F w w1) (h2 : Fr (gF F w w1) w1 w2) : Fr F w w2 := h1.trans h2 fun k e => by rcases e with e | e; exact .inl e; exact .inr e.1

/-- What leaves the store's own blocks as they were leaves the store. -/
theorem StAt.keepE {w w' : World} {X : Nat} {F : Nat → Prop} {s sb : St} {tk : Int} {L lcap : Nat} {pv bv : Value} {bk : List Ad} {gv : Value} {lg : ByteArray} (h : StAt w X F s sb tk L lcap pv bv bk gv lg) (hk : ∀ k, k = X ∨ k = L ∨ pv.ownBlock = some k ∨ bv.ownBlock = some k ∨ gv.ownBlock = some k → w'.heap[k]? = w.heap[k]?) : StAt w' X F s sb tk L lcap pv bv bk gv lg := by
  have h0 : StAt w X (fun k => k = X ∨ k = L ∨ pv.ownBlock = some k ∨ bv.ownBlock = some k ∨ gv.ownBlock = some k) s sb tk L lcap pv bv bk gv lg := { h with fX := .inl rfl, fL := .inr (.inl rfl), fp := fun k e => .inr (.inr (.inl e)), fb := fun k e => .inr (.inr (.inr (.inl e))), fg := fun k e => .inr (.inr (.inr (.inr e))) }
  refine (h0.keep (fun k e _ => hk k e)).mono (fun k e => ?_)
  rcases e with rfl | rfl | e | e | e
  · exact h.fX
  · exact h.fL
  · exact h.fp k e
  · exact h.fb k e
  · exact h.fg k e

/-- The book of a store behind an entering. -/
theorem st_book {w w' : World} {X : Nat} {F : Nat → Prop} {s sb sb' : St} {tk : Int} {L lcap : Nat} {pv bv : Value} {bk bk' : List Ad} {gv : Value} {lg : ByteArray} (h : StAt w X F s sb tk L lcap pv bv bk gv lg) (hp : BookPost w X 6 (stC s tk L lcap pv bv gv) 87 bv bk' w') (hb : BookOk sb' bk') :
    ∃ bv', StAt w' X (gF F w w') s sb' tk L lcap pv bv' bk' gv lg ∧ Fr F w w' ∧ (bv'.ownBlock = bv.ownBlock ∨ ∀ k, bv'.ownBlock = some k → w.heap.size ≤ k) := by
  obtain ⟨bv', h1, h2, h3⟩ := hp
  have hne : ∀ k, k < w.heap.size → bv.ownBlock ≠ some k → bv'.ownBlock ≠ some k := by
    intro k hk hn e
    rcases h3 with h3 | h3
    · rw [h3] at e; exact hn e
    · have := h3 k e; omega
  have hnot : ∀ k, k ≠ X → bv.ownBlock ≠ some k → ¬ (k = X ∨ bv.ownBlock = some k) := fun k a b e => e.elim a b
  refine ⟨bv', ?_, h2.mono fun k e => by (rcases e with e | e; (rw [e]; exact h.fX); exact h.fb k e), h3⟩
  exact { blk := h1.blk, lv := lvAt_of (At.fr (at_of_lv h.lv) h2 (hnot L (fun e => h.XL e.symm) h.bL)), pts := owns_fr h.pts h2 (fun k e => hnot k (fun e' => h.pX (by rw [← e']; exact e)) (h.pb k e)), bok := h1.own, log := owns_fr h.log h2 (fun k e => hnot k (fun e' => h.gX (by rw [← e']; exact e)) (fun e' => h.gb k e' e)), lgl := h.lgl, bOk := hb, inv := h.inv, wf := h.wf, XL := h.XL, pX := h.pX, pL := h.pL, bX := h1.ne,
          bL := hne L h.Llt h.bL, pb := fun k e => hne k (h.pts.lt k e).2 (h.pb k e), gX := h.gX, gL := h.gL, gp := h.gp, gb := fun k e e' => hne k (h.log.lt k e').2 (fun e2 => h.gb k e2 e') e, fg := fun k e => .inl (h.fg k e), fX := .inl h.fX, fL := .inl h.fL, fp := fun k e => .inl (h.fp k e),
          fb := fun k e => by
            rcases h3 with h3 | h3
            · rw [h3] at e; exact .inl (h.fb k e)
            · exact .inr ⟨h3 k e, (h1.own.lt k e).2⟩ }
/-- The points of a store behind an append. -/
theorem st_put {w W w3 : World} {X : Nat} {F : Nat → Prop} {s s' sb : St} {tk : Int} {L lcap : Nat} {pv pv' bv : Value} {bk : List Ad} {p : Pt} {gv : Value} {lg : ByteArray} (h : StAt w X F s sb tk L lcap pv bv bk gv lg) (hb : Below w.heap.size w W) (hg : W.grownBy w3 pv.ownBlock) (ho : w3.ownsRow 0 127 14 pv' (s.pts.length + 1) (flatP s.pts ++ p.cells))
    (hk : pv'.ownBlock = pv.ownBlock ∨ ∀ k, pv'.ownBlock = some k → W.heap.size ≤ k) (hc : s'.c = s.c) (hn : s'.now = s.now) (hp : s'.pts = s.pts ++ [p]) (hi : Inv s') :
    StAt (w3.setCell ⟨X, 5, none⟩ pv') X (gF F w (w3.setCell ⟨X, 5, none⟩ pv')) s' sb tk L lcap pv' bv bk gv lg ∧ Fr F w (w3.setCell ⟨X, 5, none⟩ pv') := by
  have hs3 : (w3.setCell ⟨X, 5, none⟩ pv').heap.size = w3.heap.size := by simp [World.setCell]
  have hX3 : w3.heap[X]? = w.heap[X]? := gr_heap hb hg h.lt h.pX
  have hpX := gr_ne hb hk h.lt h.pX
  have hpL := gr_ne hb hk h.Llt h.pL
  have hblk : ∀ k, k < w.heap.size → pv.ownBlock ≠ some k → k ≠ X → (w3.setCell ⟨X, 5, none⟩ pv').heap[k]? = w.heap[k]? := by
    intro k hk1 hk2 hk3
    rw [Below.heap_setCell _ _ _ _ hk3]
    exact gr_heap hb hg hk1 hk2
  have hfr : Fr F w (w3.setCell ⟨X, 5, none⟩ pv') := (Fr.grown (Fr.of_below hb) hg (fun k e => .inl (h.fp k e))).setCell (.inl h.fX) _
  have hfr' : Fr (fun k => k = X ∨ pv.ownBlock = some k) w (w3.setCell ⟨X, 5, none⟩ pv') := (Fr.grown (Fr.of_below hb) hg (fun k e => .inl (.inr e))).setCell (.inl (.inl rfl)) _
  refine ⟨?_, hfr⟩
  have hlv := lvAt_of (At.fr (at_of_lv h.lv) hfr' (fun e => by rcases e with e | e; exact h.XL e.symm; exact h.pL e))
  have hbo : ∀ k, bv.ownBlock = some k → ¬ (k = X ∨ pv.ownBlock = some k) := fun k e e' => by
    rcases e' with e' | e'
    · exact h.bX (by rw [← e']; exact e)
    · exact h.pb k e' e
  have hgo : ∀ k, gv.ownBlock = some k → ¬ (k = X ∨ pv.ownBlock = some k) := fun k e e' => by
    rcases e' with e' | e'
    · exact h.gX (by rw [← e']; exact e)
    · exact h.gp k e' e
  exact { blk := by
            have e : stC s' tk L lcap pv' bv gv = (stC s tk L lcap pv bv gv).setIfInBounds 5 pv' := by unfold stC; rw [hc, hn]; rfl
            rw [e]
            exact heap_setCell (hX3.trans h.blk),
          lv := by rw [hc]; exact hlv, pts := by
            rw [hp, show (s.pts ++ [p]).length = s.pts.length + 1 by simp, show flatP (s.pts ++ [p]) = flatP s.pts ++ p.cells from flat_snoc _ _ _]
            exact owns_other ho hpX,
          bok := owns_fr h.bok hfr' hbo, log := owns_fr h.log hfr' hgo, lgl := by rw [hn]; exact h.lgl, bOk := h.bOk, inv := hi, wf := by rw [hc]; exact h.wf, XL := h.XL, pX := hpX, pL := hpL, bX := h.bX, bL := h.bL,
          pb := fun k e e' => by
            rcases hk with hk | hk
            · rw [hk] at e; exact h.pb k e e'
            · have := hk k e; have := (h.bok.lt k e').2; have := hb.size; omega
          gX := h.gX, gL := h.gL, gb := h.gb, fg := fun k e => .inl (h.fg k e), gp := fun k e e' => by
            rcases hk with hk | hk
            · rw [hk] at e; exact h.gp k e e'
            · have := hk k e; have := (h.log.lt k e').2; have := hb.size; omega
          fX := .inl h.fX, fL := .inl h.fL, fp := fun k e => by
            rcases hk with hk | hk
            · rw [hk] at e; exact .inl (h.fp k e)
            · have h1 := hk k e; have h2 := (ho.lt k e).2; have h3 := hb.size; exact .inr ⟨by omega, by rw [hs3]; exact h2⟩
          fb := fun k e => .inl (h.fb k e) }

end Go.Proofs.YthciddpljcbhiabGreatDoor

/- The document's store behind a change: a row more (garnerref). -/
namespace Go.Proofs.YthciddpljcbhiabGreatDoor
open Go Go.RowKit Go.Lib

theorem flatH_snoc (ps : List Cp) (p : Cp) : flatH (ps ++ [p]) = flatH ps ++ cpC p := by simp [flatH]
theorem cpG_old (ps : List Cp) (p : Cp) (i : Nat) (h : i < ps.length) : cpG (ps ++ [p]) i = cpG ps i := by
  rw [cpG_get _ _ (by simp; omega), cpG_get _ _ h]
  simp [List.getElem_append_left h]
theorem cpG_new (ps : List Cp) (p : Cp) : cpG (ps ++ [p]) ps.length = p := by
  rw [cpG_get _ _ (by simp)]
  simp
/-- One change more. -/
theorem RfS.put {w W w3 : World} {R : Nat} {F : Nat → Prop} {c : Cf} {ps : List Cp} {L lcap : Nat} {cv cv' : Value} {p : Cp} (h : RfS w R F c ps L lcap cv) (hb : Below w.heap.size w W) (hg : W.grownBy w3 cv.ownBlock) (ho : w3.ownsRow 0 110 2 cv' (ps.length + 1) (flatH ps ++ cpC p))
    (hk : cv'.ownBlock = cv.ownBlock ∨ ∀ k, cv'.ownBlock = some k → W.heap.size ≤ k) (hi : Inv ((St.new c).doAll ((ps ++ [p]).map (·.1)))) (ht : TkOk ((ps ++ [p]).map (·.1)))
    (hp : BatAt (w3.setCell ⟨R, 3, none⟩ cv') (gF F w (w3.setCell ⟨R, 3, none⟩ cv')) R L cv' p.2 p.1.smp) :
    RfS (w3.setCell ⟨R, 3, none⟩ cv') R (gF F w (w3.setCell ⟨R, 3, none⟩ cv')) c (ps ++ [p]) L lcap cv' ∧ Fr F w (w3.setCell ⟨R, 3, none⟩ cv') := by
  have hs3 : (w3.setCell ⟨R, 3, none⟩ cv').heap.size = w3.heap.size := by simp [World.setCell]
  have hR3 : w3.heap[R]? = w.heap[R]? := gr_heap hb hg h.lt h.cR
  have hcR := gr_ne hb hk h.lt h.cR
  have hcL := gr_ne hb hk h.Llt h.cL
  have hfr : Fr F w (w3.setCell ⟨R, 3, none⟩ cv') := (Fr.grown (Fr.of_below hb) hg (fun k e => .inl (h.fc k e))).setCell (.inl h.fR) _
  have hfr' : Fr (fun k => k = R ∨ cv.ownBlock = some k) w (w3.setCell ⟨R, 3, none⟩ cv') := (Fr.grown (Fr.of_below hb) hg (fun k e => .inl (.inr e))).setCell (.inl (.inl rfl)) _
  refine ⟨?_, hfr⟩
  exact { blk := heap_setCell (hR3.trans h.blk)
          lv := lvAt_of (At.fr (at_of_lv h.lv) hfr' (fun e => by rcases e with e | e; exact h.RL e.symm; exact h.cL e))
          chg := by
            rw [flatH_snoc, List.length_append]
            exact owns_other ho hcR
          bat := fun i hi' => by
            by_cases hlt : i < ps.length
            · rw [cpG_old ps p i hlt]
              obtain ⟨a, n, cap, h1, h2, h4, h3⟩ := h.bat i hlt
              refine ⟨a, n, cap, h1, h2, h4, fun hp' => ?_⟩
              obtain ⟨b, e, hF, r1, r2, r3, hat⟩ := h3 hp'
              have hbl : b < w.heap.size := hat.block (by rw [h2]; exact hp')
              exact ⟨b, e, .inl hF, r1, r2, gr_ne hb hk hbl r3, smAt_of (At.fr (at_of_sm hat) hfr' (fun e' => by rcases e' with e' | e'; exact r1 e'; exact r3 e'))⟩
            · have : i = ps.length := by rw [List.length_append] at hi'; simp at hi'; omega
              subst this
              rw [cpG_new]
              exact hp
          inv := hi
          tks := ht
          RL := h.RL
          cR := hcR
          cL := hcL
          fR := .inl h.fR
          fL := .inl h.fL
          fc := fun k e => by
            rcases hk with hk | hk
            · rw [hk] at e; exact .inl (h.fc k e)
            · have h1 := hk k e; have h2 := (ho.lt k e).2; have h3 := hb.size; exact .inr ⟨by omega, by rw [hs3]; exact h2⟩ }

end Go.Proofs.YthciddpljcbhiabGreatDoor

/- A store's log: bytes appended (any program); its cells set. -/
namespace Go.Proofs.YthciddpljcbhiabGreatDoor
open Go Go.RowKit Go.Lib

/-- An append of a string's bytes leaves the row where it was, or makes a new block. -/
theorem append_block_str {P : Program} {w : World} (base : Nat) (t u ty e : TypeId) (i : TypeInfo) (ht : P.underlying t = some (.slice e)) (hu : P.underlying u = some .string) (hi : P.info? e = some i) (hz : i.zero = some (.int .u8 0))
    (hsize : i.size = 1) (hby : i.bytes = 1) (v : Value) (n : Nat) (xs : List Value) (hown : w.ownsRow base e 1 v n xs) (x : ByteArray)
    (h63 : n + x.size ≤ maxLen) (hbytes : n + x.size ≤ 140737488355328) {v' : Value} {w' : World} (hr : (Builtin.append_ #[t, u] ty #[v, .string x]).run P w = .ok v' w') :
    v'.ownBlock = v.ownBlock ∨ ∀ k, v'.ownBlock = some k → w.heap.size ≤ k := by
  have hxl : xs.length = n := by simpa using hown.1
  rcases hown.2 with ⟨rfl, rfl⟩ | ⟨g, cap, cur, rfl, hbg, hg, hnc, hcm, hcs, htake⟩
  · obtain rfl : xs = [] := List.eq_nil_of_length_eq_zero hxl
    obtain ⟨v2, w2, hr2, h2, _, _⟩ := run_append_own_string (P := P) w w.heap.size t u ty e i ht hu hi hz hsize hby (.slice none 0 0) 0 [] (World.ownsRow_nil _ _ _ _) x h63 hbytes (Nat.le_refl _)
    rw [hr2] at hr
    injection hr with h3 _
    subst h3
    exact .inr fun k hk => (h2.lt k hk).1
  · have hcs' : cur.size = cap := by simpa using hcs
    by_cases hroom : n + x.size ≤ cap
    · have hr2 := run_append_room_string (P := P) w t u ty e i ht hu hi hsize g n cap cur hg x hroom (by omega)
      rw [hr2] at hr
      injection hr with h3 _
      subst h3
      exact .inl rfl
    · have holds : ∀ j u, xs[j]? = some u → w.cell? ((⟨g, 0, none⟩ : Addr).add j) = some u := hown.cells (g := g) rfl
      have hr2 := run_append_grow_string (P := P) w t u ty e i (.int .u8 0) ht hu hi hz ⟨g, 0, none⟩ n cap xs (by rw [hsize]; simpa using hxl) holds x (by omega) (by omega) (by rw [hby]; exact growslice_fits (by omega) (by omega))
      rw [hr2] at hr
      injection hr with h3 _
      subst h3
      refine .inr fun k hk => ?_
      simp [Value.ownBlock] at hk
      omega

/-- An append of a string's bytes onto a row of the call's own, as a step of a list. -/
theorem listAppendStr {P : Program} {w : World} {ops : Array Oper} {rest : List Oper} {o : Oper} {a : Act} {Q : Exit → Act → World → Prop} (hgd : o.guard = none) (s x : Operand) (t u : TypeId)
    (ho : o.op = .call { callee := .builtin .append, args := #[s, x], argTypes := #[t, u] })
    (base : Nat) (e : TypeId) (i : TypeInfo) (ht : P.underlying t = some (.slice e)) (hu : P.underlying u = some .string) (hi : P.info? e = some i) (hz : i.zero = some (.int .u8 0)) (hsize : i.size = 1) (hby : i.bytes = 1)
    (v : Value) (n : Nat) (xs : List Value) (hs : a.eval s = v) (hown : w.ownsRow base e 1 v n xs) (y : ByteArray) (hx : a.eval x = .string y)
    (h63 : n + y.size ≤ maxLen) (hbytes : n + y.size ≤ 140737488355328) (hbase : base ≤ w.heap.size)
    (h : ∀ v' w', w'.ownsRow base e 1 v' (n + y.size) (xs ++ strCells y) → w.grownBy w' v.ownBlock → (v'.ownBlock = v.ownBlock ∨ ∀ k, v'.ownBlock = some k → w.heap.size ≤ k) → wpList P ops Q rest (a.put o.dst v') w') : wpList P ops Q (o :: rest) a w := by
  refine wpList_plain hgd fun K hK => ?_
  obtain ⟨v', w', hr, h2, h3, _⟩ := run_append_own_string (P := P) w base t u o.type e i ht hu hi hz hsize hby v n xs hown y h63 hbytes hbase
  have hk := append_block_str base t u o.type e i ht hu hi hz hsize hby v n xs hown y h63 hbytes hr
  unfold Oper.wp execOp
  simp only [ho, resolve, invoke, builtin, Sem.run_bind, Sem.run_pure, Result.andThen_ok, List.map_toArray, List.map_cons, List.map_nil, hs, hx, hr]
  exact hK _ _ (h v' w' h2 h3 hk)

theorem strCells_append (a b : ByteArray) : strCells (a ++ b) = strCells a ++ strCells b := by simp [strCells]

section
variable {w w3 : World} {X : Nat} {F : Nat → Prop} {s sb : St} {tk : Int} {L lcap : Nat} {pv bv : Value} {bk : List Ad} {gv gv' : Value} {lg : ByteArray}
/-- The log of a store behind an append. -/
theorem st_log {x : ByteArray} (h : StAt w X F s sb tk L lcap pv bv bk gv lg) (hg : w.grownBy w3 gv.ownBlock) (ho : w3.ownsRow 0 5 1 gv' (lg.size + x.size) (strCells lg ++ strCells x))
    (hk : gv'.ownBlock = gv.ownBlock ∨ ∀ k, gv'.ownBlock = some k → w.heap.size ≤ k) (hl : (((lg ++ x).size : Nat) : Int) ≤ 7 * s.now + 17 * tk) :
    StAt (w3.setCell ⟨X, 7, none⟩ gv') X (gF F w (w3.setCell ⟨X, 7, none⟩ gv')) s sb tk L lcap pv bv bk gv' (lg ++ x) ∧ Fr F w (w3.setCell ⟨X, 7, none⟩ gv') := by
  have hb : Below w.heap.size w w := Below.refl _ _
  have hs3 : (w3.setCell ⟨X, 7, none⟩ gv').heap.size = w3.heap.size := by simp [World.setCell]
  have hX3 : w3.heap[X]? = w.heap[X]? := gr_heap hb hg h.lt h.gX
  have hgX := gr_ne hb hk h.lt h.gX
  have hgL := gr_ne hb hk h.Llt h.gL
  have hfr : Fr F w (w3.setCell ⟨X, 7, none⟩ gv') := (Fr.grown (Fr.of_below hb) hg (fun k e => .inl (h.fg k e))).setCell (.inl h.fX) _
  have hfr' : Fr (fun k => k = X ∨ gv.ownBlock = some k) w (w3.setCell ⟨X, 7, none⟩ gv') := (Fr.grown (Fr.of_below hb) hg (fun k e => .inl (.inr e))).setCell (.inl (.inl rfl)) _
  refine ⟨?_, hfr⟩
  have hlv := lvAt_of (At.fr (at_of_lv h.lv) hfr' (fun e => by rcases e with e | e; exact h.XL e.symm; exact h.gL e))
  have hpo : ∀ k, pv.ownBlock = some k → ¬ (k = X ∨ gv.ownBlock = some k) := fun k e e' => by
    rcases e' with e' | e'
    · exact h.pX (by rw [← e']; exact e)
    · exact h.gp k e e'
  have hbo : ∀ k, bv.ownBlock = some k → ¬ (k = X ∨ gv.ownBlock = some k) := fun k e e' => by
    rcases e' with e' | e'
    · exact h.bX (by rw [← e']; exact e)
    · exact h.gb k e e'
  have hnew : ∀ k, k < w.heap.size → gv.ownBlock ≠ some k → gv'.ownBlock ≠ some k := fun k h1 h2 => gr_ne hb hk h1 h2
  exact { blk := by
            have e : stC s tk L lcap pv bv gv' = (stC s tk L lcap pv bv gv).setIfInBounds 7 gv' := rfl
            rw [e]
            exact heap_setCell (hX3.trans h.blk),
          lv := hlv, pts := owns_fr h.pts hfr' hpo, bok := owns_fr h.bok hfr' hbo,
          log := by
            rw [ByteArray.size_append, strCells_append]
            exact owns_other ho hgX,
          lgl := hl, bOk := h.bOk, inv := h.inv, wf := h.wf, XL := h.XL, pX := h.pX, pL := h.pL, bX := h.bX, bL := h.bL, pb := h.pb,
          gX := hgX, gL := hgL, gp := fun k e => hnew k (h.pts.lt k e).2 (h.gp k e), gb := fun k e => hnew k (h.bok.lt k e).2 (h.gb k e),
          fX := .inl h.fX, fL := .inl h.fL, fp := fun k e => .inl (h.fp k e), fb := fun k e => .inl (h.fb k e), fg := fun k e => by
            rcases hk with hk | hk
            · rw [hk] at e; exact .inl (h.fg k e)
            · have h1 := hk k e; have h2 := (ho.lt k e).2; exact .inr ⟨h1, by rw [hs3]; exact h2⟩ }

/-- A cell of the store itself set. -/
theorem st_set {s' : St} {tk' : Int} {o : Nat} {v : Value} (h : StAt w X F s sb tk L lcap pv bv bk gv lg) (he : stC s' tk' L lcap pv bv gv = (stC s tk L lcap pv bv gv).setIfInBounds o v) (hc : s'.c = s.c) (hp : s'.pts = s.pts) (hi : Inv s') (hl : (lg.size : Int) ≤ 7 * s'.now + 17 * tk') :
    StAt (w.setCell ⟨X, o, none⟩ v) X F s' sb tk' L lcap pv bv bk gv lg ∧ Fr F w (w.setCell ⟨X, o, none⟩ v) := by
  have hfr' : Fr (fun k => k = X) w (w.setCell ⟨X, o, none⟩ v) := Fr.setCell (S := fun k => k = X) (Fr.refl _ _) (.inl rfl) _
  refine ⟨?_, hfr'.mono fun k e => by rw [e]; exact h.fX⟩
  exact { blk := by rw [he]; exact heap_setCell h.blk,
          lv := by rw [hc]; exact lvAt_of (At.fr (at_of_lv h.lv) hfr' (fun e => h.XL e.symm)),
          pts := by rw [hp]; exact owns_fr h.pts hfr' (fun k e e' => h.pX (by rw [← e']; exact e)), bok := owns_fr h.bok hfr' (fun k e e' => h.bX (by rw [← e']; exact e)), log := owns_fr h.log hfr' (fun k e e' => h.gX (by rw [← e']; exact e)),
          lgl := hl, bOk := h.bOk, inv := hi, wf := by rw [hc]; exact h.wf, XL := h.XL, pX := h.pX, pL := h.pL, bX := h.bX, bL := h.bL, pb := h.pb, gX := h.gX, gL := h.gL, gp := h.gp, gb := h.gb, fX := h.fX, fL := h.fL, fp := h.fp, fb := h.fb, fg := h.fg }
theorem StAt.bytes (h : StAt w X F s sb tk L lcap pv bv bk gv lg) (ht : tk ≤ 500) : lg.size ≤ 800000 := by
  have h1 := h.lgl
  have h2 := h.inv.n1
  omega
end

end Go.Proofs.YthciddpljcbhiabGreatDoor

/- Walks: the record of a Tick; what is expired is forgotten. -/
namespace Go.Proofs.YthciddpljcbhiabGreatDoor
open Go Go.RowKit Go.Lib

/-! The record of a Tick. -/
def tickH (n : Int) : List Int := [84, n % 256, n / 256]
def tickB (n : Int) : List Int := tickH n ++ lowN (chk (tickH n)) 4
theorem tickB_len (n : Int) : (tickB n).length = 7 := by unfold tickB; rw [List.length_append, lowN_len]; rfl
theorem tickH_byte {n : Int} (h0 : 0 ≤ n) (h1 : n ≤ 1000) : ∀ x ∈ tickH n, isByte x := by
  intro x hx
  simp [tickH] at hx
  unfold isByte
  rcases hx with rfl | rfl | rfl <;> omega

set_option maxHeartbeats 400000 in
set_option maxRecDepth 100000 in
theorem ofTick_any (n : Int) (w : World) (h0 : 1 ≤ n) (h1 : n ≤ 1000) : Calls Tryz.prog 39 #[.int .i64 n] w fun e w' => e = .returned (.string (strOfNums (tickB n))) ∧ Below w.heap.size w w' := by
  have hcv := fun w g hg => conv3' w g hg 84 (n % 256) (n / 256)
  have HNU : Hid (nums (strOfNums [84, n % 256, n / 256]) = [84, n % 256, n / 256]) := nums_str _ (tickH_byte (by omega) h1)
  obtain ⟨q0, q1⟩ := chk_range [84, n % 256, n / 256]
  have hsum : (strOfNums [84, n % 256, n / 256]).size + (strOfNums (lowN (chk [84, n % 256, n / 256]) 4)).size ≤ 9223372036854775807 := by rw [strOfNums_size, strOfNums_size, lowN_len]; simp
  have HE : Hid (strOfNums [84, n % 256, n / 256] ++ strOfNums (lowN (chk [84, n % 256, n / 256]) 4) = strOfNums (tickB n)) := by show _ = _; rw [str_add]; rfl
  go_enter Tryz.func39, Tryz.ntmps39
  go_wp2_with fail
  refine (check_any (strOfNums [84, n % 256, n / 256]) _ (by rw [strOfNums_size]; unfold maxLen; simp)).mono ?_
  rintro e w1 ⟨rfl, rfl⟩
  rw [HNU.out]
  go_wp2_with fail
  refine (number_any _ _ q0 q1).mono ?_
  rintro e w1 ⟨rfl, o1, rfl⟩
  go_wp2_with fail
  go_ret
  exact ⟨ret_str HE.out, ((Below.refl _ _).alloc (Nat.le_refl _) _).alloc (by simp) _⟩

/-! A point set in its row. -/
abbrev set14o (w : World) (g o : Nat) (p : Pt) : World := (((((((((((((w.setCell ⟨g, o, none⟩ (.int .i64 p.time)).setCell ⟨g, o + 1, none⟩ (.int .i32 p.value)).setCell ⟨g, o + 2, none⟩ (.int .u8 (sG p 0).a)).setCell ⟨g, o + 3, none⟩ (.int .u8 (sG p 0).b)).setCell ⟨g, o + 4, none⟩ (.int .u8 (sG p 0).c)).setCell ⟨g, o + 5, none⟩ (.int .u8 (sG p 1).a)).setCell ⟨g, o + 6, none⟩ (.int .u8 (sG p 1).b)).setCell ⟨g, o + 7, none⟩ (.int .u8 (sG p 1).c)).setCell ⟨g, o + 8, none⟩ (.int .u8 (sG p 2).a)).setCell ⟨g, o + 9, none⟩ (.int .u8 (sG p 2).b)).setCell ⟨g, o + 10, none⟩ (.int .u8 (sG p 2).c)).setCell ⟨g, o + 11, none⟩ (.int .u8 (sG p 3).a)).setCell ⟨g, o + 12, none⟩ (.int .u8 (sG p 3).b)).setCell ⟨g, o + 13, none⟩ (.int .u8 (sG p 3).c)
theorem set14o_other {w : World} {g o : Nat} {p : Pt} {k : Nat} (h : k ≠ g) : (set14o w g o p).heap[k]? = w.heap[k]? := by
  unfold set14o
  rw [Below.heap_setCell _ _ _ _ h, Below.heap_setCell _ _ _ _ h, Below.heap_setCell _ _ _ _ h, Below.heap_setCell _ _ _ _ h, Below.heap_setCell _ _ _ _ h, Below.heap_setCell _ _ _ _ h, Below.heap_setCell _ _ _ _ h, Below.heap_setCell _ _ _ _ h, Below.heap_setCell _ _ _ _ h, Below.heap_setCell _ _ _ _ h, Below.heap_setCell _ _ _ _ h, Below.heap_setCell _ _ _ _ h, Below.heap_setCell _ _ _ _ h, Below.heap_setCell _ _ _ _ h]
theorem set14o_fr {F : Nat → Prop} {a w : World} {g o : Nat} {p : Pt} (h : Fr F a w) (hP : F g ∨ a.heap.size ≤ g) : Fr F a (set14o w g o p) := by
  unfold set14o
  exact ((((((((((((((h.setCell hP _).setCell hP _).setCell hP _).setCell hP _).setCell hP _).setCell hP _).setCell hP _).setCell hP _).setCell hP _).setCell hP _).setCell hP _).setCell hP _).setCell hP _).setCell hP _)
set_option maxRecDepth 10000 in
theorem flatP_set (l : List Pt) (p : Pt) : ∀ i, i < l.length → ((((((((((((((flatP l).set (i * 14) (.int .i64 p.time)).set (i * 14 + 1) (.int .i32 p.value)).set (i * 14 + 2) (.int .u8 (sG p 0).a)).set (i * 14 + 3) (.int .u8 (sG p 0).b)).set (i * 14 + 4) (.int .u8 (sG p 0).c)).set (i * 14 + 5) (.int .u8 (sG p 1).a)).set (i * 14 + 6) (.int .u8 (sG p 1).b)).set (i * 14 + 7) (.int .u8 (sG p 1).c)).set (i * 14 + 8) (.int .u8 (sG p 2).a)).set (i * 14 + 9) (.int .u8 (sG p 2).b)).set (i * 14 + 10) (.int .u8 (sG p 2).c)).set (i * 14 + 11) (.int .u8 (sG p 3).a)).set (i * 14 + 12) (.int .u8 (sG p 3).b)).set (i * 14 + 13) (.int .u8 (sG p 3).c) = flatP (l.set i p) := by
  induction l with
  | nil => intro i hi; simp at hi
  | cons a l ih =>
    intro i hi
    cases i with
    | zero => rfl
    | succ i =>
      have h := ih i (by simpa using hi)
      have hs : ∀ (Y : List Value) (m : Nat) (v : Value), (a.cells ++ Y).set (m + 14) v = a.cells ++ Y.set m v := fun Y m v => by
        rw [List.set_append_right _ _ (by rw [len14]; omega), len14, Nat.add_sub_cancel]
      have e0 : (i + 1) * 14 = (i * 14) + 14 := by omega
      have e1 : (i + 1) * 14 + 1 = (i * 14 + 1) + 14 := by omega
      have e2 : (i + 1) * 14 + 2 = (i * 14 + 2) + 14 := by omega
      have e3 : (i + 1) * 14 + 3 = (i * 14 + 3) + 14 := by omega
      have e4 : (i + 1) * 14 + 4 = (i * 14 + 4) + 14 := by omega
      have e5 : (i + 1) * 14 + 5 = (i * 14 + 5) + 14 := by omega
      have e6 : (i + 1) * 14 + 6 = (i * 14 + 6) + 14 := by omega
      have e7 : (i + 1) * 14 + 7 = (i * 14 + 7) + 14 := by omega
      have e8 : (i + 1) * 14 + 8 = (i * 14 + 8) + 14 := by omega
      have e9 : (i + 1) * 14 + 9 = (i * 14 + 9) + 14 := by omega
      have e10 : (i + 1) * 14 + 10 = (i * 14 + 10) + 14 := by omega
      have e11 : (i + 1) * 14 + 11 = (i * 14 + 11) + 14 := by omega
      have e12 : (i + 1) * 14 + 12 = (i * 14 + 12) + 14 := by omega
      have e13 : (i + 1) * 14 + 13 = (i * 14 + 13) + 14 := by omega
      show _ = a.cells ++ flatP (l.set i p)
      rw [← h, show flatP (a :: l) = a.cells ++ flatP l from rfl]
      rw [e1, e2, e3, e4, e5, e6, e7, e8, e9, e10, e11, e12, e13, e0]
      rw [hs, hs, hs, hs, hs, hs, hs, hs, hs, hs, hs, hs, hs, hs]
theorem owns_ptset {w : World} {base g n cap : Nat} {l : List Pt} (h : w.ownsRow base 127 14 (.slice (some ⟨g, 0, none⟩) n cap) n (flatP l)) (i : Nat) (hi : i < l.length) (p : Pt) : (set14o w g (i * 14) p).ownsRow base 127 14 (.slice (some ⟨g, 0, none⟩) n cap) n (flatP (l.set i p)) := by
  rw [← flatP_set l p i hi]
  exact owns_set (owns_set (owns_set (owns_set (owns_set (owns_set (owns_set (owns_set (owns_set (owns_set (owns_set (owns_set (owns_set (owns_set h _) _) _) _) _) _) _) _) _) _) _) _) _) _
/-- A row's beginning. -/
theorem owns_take {w : World} {base g n cap : Nat} {l : List Pt} (h : w.ownsRow base 127 14 (.slice (some ⟨g, 0, none⟩) n cap) n (flatP l)) (hl : l.length = n) (k : Nat) (hk : k ≤ n) : w.ownsRow base 127 14 (.slice (some ⟨g, 0, none⟩) k cap) k (flatP (l.take k)) := by
  rcases h.2 with ⟨h', _⟩ | ⟨g', cap', cur, he, hb, hg, hnc, hcm, hcs, ht⟩
  · cases h'
  · obtain ⟨rfl, rfl⟩ : g = g' ∧ cap = cap' := by injection he with h1 h2 h3; injection h1 with h1; injection h1 with h1 h4; exact ⟨h1, h3⟩
    have hf : flatP (l.take k) = (flatP l).take (k * 14) := by
      have e : flatP l = flatP (l.take k) ++ flatP (l.drop k) := by unfold flatP; rw [← List.flatMap_append, List.take_append_drop]
      have hlen : (flatP (l.take k)).length = k * 14 := by rw [flatP_len, List.length_take]; omega
      rw [e, ← hlen, List.take_left]
    refine ⟨by rw [flatP_len, List.length_take]; omega, .inr ⟨g, cap, cur, rfl, hb, hg, by omega, hcm, hcs, ?_⟩⟩
    rw [hf, ← ht, List.take_take]
    congr 1
    omega

end Go.Proofs.YthciddpljcbhiabGreatDoor

/- Walks: what is expired is forgotten; a Tick. -/
namespace Go.Proofs.YthciddpljcbhiabGreatDoor
open Go Go.RowKit Go.Lib

/-- The points that live. -/
def liveP (s : St) (l : List Pt) : List Pt := l.filter fun p => liveB s.c s.now p.time
theorem liveP_succ (s : St) (l : List Pt) (k : Nat) (hk : k < l.length) : liveP s (l.take (k + 1)) = if liveB s.c s.now (ptG l k).time = true then liveP s (l.take k) ++ [ptG l k] else liveP s (l.take k) := by
  unfold liveP
  rw [List.take_succ_eq_append_getElem hk, List.filter_append, ptG_get l k hk]
  by_cases h : liveB s.c s.now l[k].time = true
  · simp [h]
  · simp [h]
theorem liveP_len (s : St) (l : List Pt) (k : Nat) : (liveP s (l.take k)).length ≤ k := by
  unfold liveP
  refine Nat.le_trans (List.length_filter_le _ _) ?_
  rw [List.length_take]; omega

/-- A store whose points run behind its time. -/
structure FgAt (w wr : World) (X : Nat) (s : St) (tk : Int) (L lcap : Nat) (pv bv gv : Value) (M : List Pt) (n : Nat) : Prop where
  blk : wr.heap[X]? = some (.cells (stC s tk L lcap pv bv gv) 87 (0, 0))
  own : wr.ownsRow 0 127 14 pv n (flatP M)
  len : M.length = n
  fr : Fr (fun k => k = X ∨ pv.ownBlock = some k) w wr
theorem FgAt.lt {w wr : World} {X : Nat} {s : St} {tk : Int} {L lcap : Nat} {pv bv gv : Value} {M : List Pt} {n : Nat} (h : FgAt w wr X s tk L lcap pv bv gv M n) : X < wr.heap.size := (Array.getElem?_eq_some_iff.1 h.blk).1
theorem FgAt.below {w wr w' : World} {X : Nat} {s : St} {tk : Int} {L lcap : Nat} {pv bv gv : Value} {M : List Pt} {n : Nat} (h : FgAt w wr X s tk L lcap pv bv gv M n) (hb : Below wr.heap.size wr w') : FgAt w w' X s tk L lcap pv bv gv M n :=
  ⟨by rw [hb.block X h.lt]; exact h.blk, owns_below h.own hb (fun k hk => (h.own.lt k hk).2), h.len, h.fr.trans (Fr.of_below (S := fun _ => False) hb) (fun _ e => e.elim)⟩
theorem FgAt.put {w wr : World} {X : Nat} {s : St} {tk : Int} {L lcap : Nat} {g cap : Nat} {bv gv : Value} {M : List Pt} {n : Nat} (h : FgAt w wr X s tk L lcap (.slice (some ⟨g, 0, none⟩) n cap) bv gv M n) (hX : X ≠ g) (i : Nat) (hi : i < n) (p : Pt) :
    FgAt w (set14o wr g (i * 14) p) X s tk L lcap (.slice (some ⟨g, 0, none⟩) n cap) bv gv (M.set i p) n :=
  ⟨by rw [set14o_other hX]; exact h.blk, owns_ptset h.own i (by rw [h.len]; exact hi) p, by rw [List.length_set]; exact h.len, set14o_fr h.fr (.inl (.inr rfl))⟩

set_option maxHeartbeats 4000000 in
set_option maxRecDepth 100000 in
theorem forget_any (X : Nat) (s : St) (tk : Int) (L lcap : Nat) (pv bv gv : Value) (l : List Pt) (n : Nat) (w : World) (hc : s.c.right = true) (n0 : 0 ≤ s.now) (n1 : s.now ≤ 100000)
    (hb : w.heap[X]? = some (.cells (stC s tk L lcap pv bv gv) 87 (0, 0))) (ho : w.ownsRow 0 127 14 pv n (flatP l)) (hl : l.length = n) (h5 : n ≤ 500) (hX : pv.ownBlock ≠ some X) (hok : ∀ p ∈ l, 0 ≤ p.time ∧ p.time ≤ 100000) :
    Calls Tryz.prog 38 #[.pointer (some ⟨X, 0, none⟩)] w fun e w' => e = .returned (.tuple #[]) ∧ ∃ pv', FgAt w w' X s tk L lcap pv' bv gv (liveP s l) (liveP s l).length ∧ pv'.ownBlock = pv.ownBlock := by
  obtain ⟨h1, h2, _, _, _⟩ := Cf.right_parts hc
  have HFG : Hid (FgAt w w X s tk L lcap pv bv gv l n) := ⟨hb, ho, hl, Fr.refl _ _⟩
  have HOK : Hid (∀ k, k < n → 0 ≤ (ptG l k).time ∧ (ptG l k).time ≤ 100000) := fun k hk => by rw [ptG_get l k (by omega)]; exact hok _ (List.getElem_mem _)
  have HL : Hid (l.length = n) := hl
  have HPX : Hid (pv.ownBlock ≠ some X) := hX
  obtain ⟨pa, pcap, rfl⟩ := ownForm ho
  clear hb ho hl hX hok
  go_enter Tryz.func38, Tryz.ntmps38
  go_wp2_with fail
  go_loopw [2, 3] (fun lf i wr => ∃ (j k : Nat) (M : List Pt), lf = .int .i64 j ∧ i = .int .i64 k ∧ k ≤ n ∧ j ≤ k ∧ FgAt w wr X s tk L lcap (.slice pa n pcap) bv gv M n ∧ M.take j = liveP s (l.take k) ∧ M.drop k = l.drop k) (fun _ i _ => n - (intOf i).toNat)
  case atStart => exact ⟨0, 0, l, rfl, rfl, Nat.zero_le _, Nat.le_refl _, HFG.out, by simp [liveP], rfl⟩
  case round =>
    obtain ⟨j, k, M, rfl, rfl, hk, hj, hfg, hM1, hM2⟩ := hrel
    have HG : Hid (FgAt w wr X s tk L lcap (.slice pa n pcap) bv gv M n) := hfg
    have H1 : Hid (M.take j = liveP s (l.take k)) := hM1
    have H2 : Hid (M.drop k = l.drop k) := hM2
    have c5 : wr.cell? ⟨X, 5, none⟩ = some (.slice pa n pcap) := cell_blk hfg.blk rfl
    have hXr := hfg.lt
    have fX : ∀ o, wr.frozen? ⟨X, o, none⟩ = false := fun o => froz_blk hfg.blk
    clear hfg hM1 hM2
    by_cases hlt : k < n
    · obtain ⟨g, cap', he, _, hg, _⟩ := ownBlockForm HG.out.own (by omega)
      injection he with he1 he2 he3
      subst he1 he3
      have hXg : X ≠ g := fun e => HPX.out (by rw [e]; rfl)
      have HP : Hid (PtAt wr g (k * 14) (ptG M k)) := by
        obtain ⟨g', he, _, hp⟩ := PtsAt.of_owns HG.out.own HG.out.len (by rw [HG.out.len]; omega)
        injection he with he; injection he with he
        subst he
        exact hp k (by rw [HG.out.len]; exact hlt)
      have HMk : Hid (ptG M k = ptG l k) := by
        show _ = _
        have e := congrArg (fun x => x[0]?) H2.out
        simp only [List.getElem?_drop, Nat.add_zero] at e
        simp [ptG, List.getD, e]
      obtain ⟨t0, t1⟩ := HOK.out k hlt
      have HSU := liveP_succ s l k (by rw [HL.out]; exact hlt)
      rw [HMk.out] at HP
      generalize hp : ptG l k = p at *
      obtain ⟨p0, p1, p2, p3, p4, p5, p6, p7, p8, p9, p10, p11, p12, p13⟩ := PtAt.all HP.out
      have HBX : Hid (Below wr.heap.size wr (wr.alloc (.cells (ptC p) 127))) := (Below.refl _ _).alloc (Nat.le_refl _) _
      have hXw : X ≠ wr.heap.size := by omega
      have hgw : g ≠ wr.heap.size := by omega
      go_upto_region 5 with fail
      go_cut [32] from 21 to 32 (fun v wx => v = .bool (liveB s.c s.now p.time) ∧ Below (wr.heap.size + 1) (wr.alloc (.cells (ptC p) 127)) wx)
      case first =>
        have k0 : (wr.alloc (.cells (ptC p) 127)).drew.cell? ⟨X, 0, none⟩ = some (.int .i64 s.c.span) := cell_alloc1 (cell_blk HG.out.blk rfl)
        have k1 : (wr.alloc (.cells (ptC p) 127)).drew.cell? ⟨X, 1, none⟩ = some (.int .i64 s.c.keep) := cell_alloc1 (cell_blk HG.out.blk rfl)
        have k2 : (wr.alloc (.cells (ptC p) 127)).drew.cell? ⟨X, 2, none⟩ = some (.slice (some ⟨L, 0, none⟩) s.c.lvs.length lcap) := cell_alloc1 (cell_blk HG.out.blk rfl)
        have k3 : (wr.alloc (.cells (ptC p) 127)).drew.cell? ⟨X, 3, none⟩ = some (.int .i64 s.now) := cell_alloc1 (cell_blk HG.out.blk rfl)
        have j0 : (wr.alloc (.cells (ptC p) 127)).drew.cell? ⟨wr.heap.size, 0, none⟩ = some (.int .i64 p.time) := by simp [go_sem]
        have hXa : X < (wr.alloc (.cells (ptC p) 127)).drew.heap.size := by show X < (wr.alloc (.cells (ptC p) 127)).heap.size; simp; omega
        have hwa : wr.heap.size < (wr.alloc (.cells (ptC p) 127)).drew.heap.size := by show wr.heap.size < (wr.alloc (.cells (ptC p) 127)).heap.size; simp
        go_region_held3 (fun w' => w'.cell? ⟨X, 0, none⟩ = some (.int .i64 s.c.span) ∧ w'.cell? ⟨X, 1, none⟩ = some (.int .i64 s.c.keep) ∧ w'.cell? ⟨X, 2, none⟩ = some (.slice (some ⟨L, 0, none⟩) s.c.lvs.length lcap) ∧ w'.cell? ⟨X, 3, none⟩ = some (.int .i64 s.now) ∧ w'.cell? ⟨wr.heap.size, 0, none⟩ = some (.int .i64 p.time)) (first | exact ⟨k0, k1, k2, k3, j0⟩ | exact ⟨y0, y1, y2, y3, z0⟩)
          (first | (go_at_call 67; refine (expired_any s.c L 0 s.c.lvs.length lcap s.now p.time _ h1 h2 n0 n1 t0 (by omega)).mono ?_; rintro e w' ⟨rfl, hb'⟩; have y0 := (hb'.cell (p := ⟨X, 0, none⟩) hXa).trans k0; have y1 := (hb'.cell (p := ⟨X, 1, none⟩) hXa).trans k1; have y2 := (hb'.cell (p := ⟨X, 2, none⟩) hXa).trans k2; have y3 := (hb'.cell (p := ⟨X, 3, none⟩) hXa).trans k3; have z0 := (hb'.cell (p := ⟨wr.heap.size, 0, none⟩) hwa).trans j0))
        all_goals go_wp2_with fail
        all_goals go_meet
        all_goals (case rel => exact ⟨rfl, ⟨hb'.os, hb'.tape, hb'.output, hb'.size, fun k hk => hb'.block k (by simpa using hk)⟩⟩)
      case rest =>
        obtain ⟨rfl, hb2⟩ := hcut
        have hz2 : wr.heap.size + 1 ≤ wc.heap.size := by have := hb2.size; simpa using this
        have HG2 : Hid (FgAt w wc X s tk L lcap (.slice (some ⟨g, 0, none⟩) n pcap) bv gv M n) := HG.out.below (HBX.out.trans (hb2.mono (by omega)))
        have hbk : wc.heap[wr.heap.size]? = some (.cells (ptC p) 127 (0, 0)) := by rw [hb2.block wr.heap.size (by omega)]; exact heap_alloc_new wr _
        have x0 := cell_blk (o := 0) hbk rfl
        have x1 := cell_blk (o := 1) hbk rfl
        have x2 := cell_blk (o := 2) hbk rfl
        have x3 := cell_blk (o := 3) hbk rfl
        have x4 := cell_blk (o := 4) hbk rfl
        have x5 := cell_blk (o := 5) hbk rfl
        have x6 := cell_blk (o := 6) hbk rfl
        have x7 := cell_blk (o := 7) hbk rfl
        have x8 := cell_blk (o := 8) hbk rfl
        have x9 := cell_blk (o := 9) hbk rfl
        have x10 := cell_blk (o := 10) hbk rfl
        have x11 := cell_blk (o := 11) hbk rfl
        have x12 := cell_blk (o := 12) hbk rfl
        have x13 := cell_blk (o := 13) hbk rfl
        have d5 : wc.cell? ⟨X, 5, none⟩ = some (.slice (some ⟨g, 0, none⟩) n pcap) := cell_blk HG2.out.blk rfl
        have hXc := HG2.out.lt
        clear c5 fX p0 p1 p2 p3 p4 p5 p6 p7 p8 p9 p10 p11 p12 p13 hbk hb2
        cases hlv : liveB s.c s.now p.time
        · have HS1 : Hid (liveP s (l.take (k + 1)) = liveP s (l.take k)) := by show _ = _; rw [HSU, if_neg (by rw [hlv]; simp)]
          go_wp2_with fail
          refine ⟨⟨j, k + 1, M, rfl, by go_num, by omega, by omega, HG2.out, by rw [HS1.out]; exact H1.out, ?_⟩, by simp [intOf]; omega⟩
          have e := congrArg (List.drop 1) H2.out
          simpa [List.drop_drop, Nat.add_comm] using e
        · have HS1 : Hid (liveP s (l.take (k + 1)) = liveP s (l.take k) ++ [p]) := by show _ = _; rw [HSU, if_pos hlv]
          have q0 : ∀ i : Nat, i < 14 → ∃ v, wc.cell? ⟨g, j * 14 + i, none⟩ = some v := fun i hi => by
            obtain ⟨g', he, _, hp⟩ := PtsAt.of_owns HG2.out.own HG2.out.len (by rw [HG2.out.len]; omega)
            injection he with he; injection he with he
            subst he
            have := hp j (by rw [HG2.out.len]; omega)
            exact ⟨_, this i _ (List.getElem?_eq_getElem (by rw [len14]; exact hi))⟩
          have fz : ∀ o, wc.frozen? ⟨g, o, none⟩ = false := fun o => owns_frozen HG2.out.own o
          obtain ⟨u0, r0⟩ := q0 0 (by omega)
          obtain ⟨u1, r1⟩ := q0 1 (by omega)
          obtain ⟨u2, r2⟩ := q0 2 (by omega)
          obtain ⟨u3, r3⟩ := q0 3 (by omega)
          obtain ⟨u4, r4⟩ := q0 4 (by omega)
          obtain ⟨u5, r5⟩ := q0 5 (by omega)
          obtain ⟨u6, r6⟩ := q0 6 (by omega)
          obtain ⟨u7, r7⟩ := q0 7 (by omega)
          obtain ⟨u8, r8⟩ := q0 8 (by omega)
          obtain ⟨u9, r9⟩ := q0 9 (by omega)
          obtain ⟨u10, r10⟩ := q0 10 (by omega)
          obtain ⟨u11, r11⟩ := q0 11 (by omega)
          obtain ⟨u12, r12⟩ := q0 12 (by omega)
          obtain ⟨u13, r13⟩ := q0 13 (by omega)
          rw [Nat.add_zero] at r0
          have hjn : j < n := by omega
          clear q0
          go_upto_region 6 with fail
          go_cut [39] from 33 to 39 (fun v wx => FgAt w wx X s tk L lcap (.slice (some ⟨g, 0, none⟩) n pcap) bv gv (M.set j p) n)
          case first =>
            have HPU : Hid (FgAt w (set14o wc g (j * 14) p) X s tk L lcap (.slice (some ⟨g, 0, none⟩) n pcap) bv gv (M.set j p) n) := HG2.out.put hXg j hjn p
            go_region_with fail
            all_goals go_wp2_with fail
            all_goals go_meet
            all_goals (case rel => exact HPU.out.below (Below.refl _ _).drew)
          case rest =>
            have HG3 : Hid (FgAt w wc X s tk L lcap (.slice (some ⟨g, 0, none⟩) n pcap) bv gv (M.set j p) n) := hcut
            clear hcut
            go_wp2_with fail
            refine ⟨⟨j + 1, k + 1, M.set j p, by go_num, by go_num, by omega, by omega, HG3.out, ?_, ?_⟩, by simp [intOf]; omega⟩
            · rw [HS1.out, ← H1.out, List.take_set, List.take_succ_eq_append_getElem (by rw [HG2.out.len]; exact hjn)]
              have hl' : (M.take j).length = j := by rw [List.length_take, HG2.out.len]; omega
              rw [List.set_append_right _ _ (by omega), hl']
              simp
            · rw [List.drop_set_of_lt (by omega)]
              have e := congrArg (List.drop 1) H2.out
              simpa [List.drop_drop, Nat.add_comm] using e
    · have hkn : k = n := by omega
      have HJ : Hid (M.take j = liveP s l) := by
        show _ = _
        rw [H1.out, hkn, List.take_of_length_le (by rw [HL.out]; exact Nat.le_refl _)]
      have HJL : Hid ((liveP s l).length = j) := by
        show _ = _
        rw [← HJ.out, List.length_take, HG.out.len]; omega
      rcases HG.out.own.2 with ⟨he, _⟩ | ⟨g, cap', cur, he, _, hg, hnc, _, hcs, _⟩
      · injection he with he1 he2 he3
        subst he1 he2 he3
        have hj0 : j = 0 := by omega
        subst hj0
        have HO : Hid ((wr.setCell ⟨X, 5, none⟩ (.slice none 0 0)).ownsRow 0 127 14 (.slice none 0 0) (liveP s l).length (flatP (liveP s l))) := by
          have e : liveP s l = [] := List.eq_nil_of_length_eq_zero HJL.out
          rw [e]; exact World.ownsRow_nil _ _ _ _
        go_wp2_with fail
        go_end0
        exact ⟨rfl, .slice none 0 0, ⟨heap_setCell HG.out.blk, HO.out, rfl, HG.out.fr.setCell (.inl (.inl rfl)) _⟩, rfl⟩
      · injection he with he1 he2 he3
        subst he1 he3
        have hjc : j ≤ pcap := by omega
        have HO : Hid ((wr.setCell ⟨X, 5, none⟩ (.slice (some ⟨g, 0, none⟩) j pcap)).ownsRow 0 127 14 (.slice (some ⟨g, 0, none⟩) j pcap) (liveP s l).length (flatP (liveP s l))) := by
          have e := owns_take HG.out.own HG.out.len j (by omega)
          rw [HJ.out] at e
          rw [HJL.out]
          exact owns_other e HPX.out
        go_wp2_with fail
        go_end0
        exact ⟨rfl, .slice (some ⟨g, 0, none⟩) j pcap, ⟨heap_setCell HG.out.blk, HO.out, rfl, HG.out.fr.setCell (.inl (.inl rfl)) _⟩, rfl⟩

end Go.Proofs.YthciddpljcbhiabGreatDoor

/- Walks: why a batch cannot be accepted. -/
namespace Go.Proofs.YthciddpljcbhiabGreatDoor
open Go Go.RowKit

theorem wrE_bat {s : St} {ls : List Sm} (h : batE ls ≠ 0) : wrE s ls = batE ls := if_pos h
theorem wrE_late {s : St} {ls : List Sm} (h : batE ls = 0) {k : Nat} (hk : k < ls.length) (hl : lateB s (smG ls k) = true) : wrE s ls = 6 := by
  unfold wrE
  rw [if_neg (by simp [h]), if_pos]
  rw [List.any_eq_true]
  exact ⟨ls[k], List.getElem_mem _, by rw [← smG_get ls k hk]; exact hl⟩
theorem wrE_rest {s : St} {ls : List Sm} (h : batE ls = 0) (hl : ∀ k, k < ls.length → lateB s (smG ls k) = false) : wrE s ls = if 500 < s.l.length + ls.length then 7 else 0 := by
  unfold wrE
  rw [if_neg (by simp [h]), if_neg]
  simp only [Bool.not_eq_true]
  rw [List.any_eq_false]
  intro x hx
  obtain ⟨i, hi, rfl⟩ := List.getElem_of_mem hx
  have := hl i hi
  rw [smG_get ls i hi] at this
  simp [this]

set_option maxHeartbeats 4000000 in
set_option maxRecDepth 100000 in
theorem checkWrite_any (X : Nat) (F : Nat → Prop) (s : St) (a : Option Addr) (n cap : Nat) (ls : List Sm) {lg : ByteArray} (w : World) (h : StoreAt w X F s lg) (hs : IsSms w a n ls) (hn : n ≤ maxLen) :
    Calls Tryz.prog 70 #[.pointer (some ⟨X, 0, none⟩), .slice a n cap] w fun e w' => e = .returned (.int .i64 (wrE s ls)) ∧ Below w.heap.size w w' := by
  obtain ⟨L, lcap, pv, bv, bk, gv, h⟩ := h
  have HS : Hid (StAt w X F s s s.l.length L lcap pv bv bk gv lg) := h
  have HI : Hid (IsSms w a n ls) := hs
  have hlen : ls.length = n := hs.1
  have HL : Hid (ls.length = n) := hlen
  obtain ⟨h1, h2, h3, h4, _⟩ := Cf.right_parts h.inv.right
  have n0 := h.inv.n0
  have n1 := h.inv.n1
  have l5 := h.inv.len
  unfold maxLen at hn
  clear h hs hlen
  by_cases hb : batE ls = 0
  · obtain ⟨b1, b2, b3⟩ := (batE_zero ls).1 hb
    have hn8 : n ≤ 8 := by have := HL.out; omega
    have hn1 : 1 ≤ n := by have := HL.out; omega
    have HB : Hid (batE ls = 0) := hb
    have HOK : Hid (∀ j, j < n → smOk (smG ls j) = true) := fun j hj => List.all_eq_true.1 b3 j (List.mem_range.2 (by rw [HL.out]; exact hj))
    obtain ⟨b, off, rfl, hat⟩ := HI.out.2 (by omega)
    have HAT : Hid (SmAt w b off ls) := hat
    have hbs : b < w.heap.size := hat.block (by rw [HL.out]; omega)
    clear hb b1 b2 b3 hat
    go_enter Tryz.func70, Tryz.ntmps70
    go_wp2_with fail
    refine (checkBatch_any _ n cap ls _ HI.out).mono ?_
    rintro e w1 ⟨rfl, hb1⟩
    rw [HB.out]
    have HB1 : Hid (Below w.heap.size w w1) := hb1
    clear hb1
    go_wp2_with fail
    go_loopw [6] (fun i wr => ∃ k : Nat, i = .int .i64 k ∧ k ≤ n ∧ (∀ j, j < k → lateB s (smG ls j) = false) ∧ Below w.heap.size w wr) (fun i _ => n - (intOf i).toNat)
    case atStart => exact ⟨0, rfl, Nat.zero_le _, fun j hj => by omega, HB1.out⟩
    case round =>
      obtain ⟨k, rfl, hk, hno, hbw⟩ := hrel
      have HA : Hid (∀ j, j < k → lateB s (smG ls j) = false) := hno
      have HW : Hid (Below w.heap.size w wr) := hbw
      have hsz := hbw.size
      have HS1 : Hid (StAt wr X F s s s.l.length L lcap pv bv bk gv lg) := HS.out.below hbw
      have c0 := HS1.out.cell 0 _ rfl
      have c1 := HS1.out.cell 1 _ rfl
      have c2 := HS1.out.cell 2 _ rfl
      have c3 := HS1.out.cell 3 _ rfl
      have c4 := HS1.out.cell 4 _ rfl
      clear hno hbw
      by_cases hlt : k < n
      · obtain ⟨m0, _⟩ := (HAT.out.below HW.out hbs) k (by rw [HL.out]; exact hlt)
        have HX := (smOk_iff _).1 (HOK.out k hlt)
        obtain ⟨t0, t1, _⟩ := HX
        have HLT : Hid (∀ b, lateB s (smG ls k) = b → b = true → wrE s ls = 6) := fun b e e' => wrE_late HB.out (by rw [HL.out]; exact hlt) (e.trans e')
        generalize hX' : smG ls k = Z at *
        go_upto_region 8 with fail
        go_cut [41] from 24 to 41 (fun v wx => v = .bool (lateB s Z) ∧ Below w.heap.size w wx)
        case first =>
          by_cases hgt : s.now < Z.time
          · have hl : Hid (lateB s Z = true) := by show _ = _; simp [lateB, hgt]
            have hgb : decide (s.now < Z.time) = true := by simpa using hgt
            go_quiet (fail)
            go_wp2_with fail
            go_meet
            case rel => exact ⟨by rw [hl.out], below_drewN HW.out _⟩
          · have hl : lateB s Z = decide (s.c.keep < s.c.age s.now Z.time) := by simp [lateB, hgt]
            have HLL : Hid (lateB s Z = decide (s.c.keep < s.c.age s.now Z.time)) := hl
            clear hl
            have hgb : decide (s.now < Z.time) = false := by simpa using hgt
            go_region_held3 (fun w' => w'.cell? ⟨X, 0, none⟩ = some (.int .i64 s.c.span) ∧ w'.cell? ⟨X, 1, none⟩ = some (.int .i64 s.c.keep) ∧ w'.cell? ⟨X, 2, none⟩ = some (.slice (some ⟨L, 0, none⟩) s.c.lvs.length lcap) ∧ w'.cell? ⟨X, 3, none⟩ = some (.int .i64 s.now)) (first | exact ⟨c0, c1, c2, c3⟩ | exact ⟨y0, y1, y2, y3⟩)
              (first | (go_at_call 67; refine (expired_any s.c L 0 s.c.lvs.length lcap s.now Z.time _ h1 h2 n0 n1 t0 (by omega)).mono ?_; rintro e w' ⟨rfl, hb'⟩; have y0 : w'.cell? ⟨X, 0, none⟩ = some (.int .i64 s.c.span) := (hb'.cell (p := ⟨X, 0, none⟩) HS1.out.lt).trans c0; have y1 : w'.cell? ⟨X, 1, none⟩ = some (.int .i64 s.c.keep) := (hb'.cell (p := ⟨X, 1, none⟩) HS1.out.lt).trans c1; have y2 : w'.cell? ⟨X, 2, none⟩ = some (.slice (some ⟨L, 0, none⟩) s.c.lvs.length lcap) := (hb'.cell (p := ⟨X, 2, none⟩) HS1.out.lt).trans c2; have y3 : w'.cell? ⟨X, 3, none⟩ = some (.int .i64 s.now) := (hb'.cell (p := ⟨X, 3, none⟩) HS1.out.lt).trans c3))
            all_goals go_wp2_with fail
            all_goals go_meet
            all_goals (case rel => exact ⟨by rw [HLL.out], HW.out.trans ((show Below wr.heap.size wr w' from ⟨hb'.os, hb'.tape, hb'.output, hb'.size, hb'.block⟩).mono hsz)⟩)
        case rest =>
          obtain ⟨rfl, hb2⟩ := hcut
          cases hl : lateB s Z
          · go_wp2_with fail
            exact ⟨⟨k + 1, by go_num, by omega, upto_succ HA.out (by rw [hX']; exact hl), hb2⟩, by simp [intOf]; omega⟩
          · have HE : Hid (wrE s ls = 6) := HLT.out true hl rfl
            go_wp2_with fail
            go_ret
            exact ⟨ret_i64' HE.out.symm, hb2⟩
      · have HE : Hid (wrE s ls = if 500 < s.l.length + ls.length then 7 else 0) := wrE_rest HB.out (fun j hj => HA.out j (by rw [HL.out] at hj; omega))
        by_cases hf : 500 < s.l.length + n
        · have hf' : (500 : Int) < (s.l.length : Int) + (n : Int) := by omega
          have HE' : Hid (wrE s ls = 7) := by show _ = _; rw [HE.out, HL.out, if_pos hf]
          go_wp2_with fail
          go_ret
          exact ⟨ret_i64' HE'.out.symm, HW.out⟩
        · have hf' : ¬ (500 : Int) < (s.l.length : Int) + (n : Int) := by omega
          have HE' : Hid (wrE s ls = 0) := by show _ = _; rw [HE.out, HL.out, if_neg hf]
          go_wp2_with fail
          go_ret
          exact ⟨ret_i64' HE'.out.symm, HW.out⟩
  · have HE : Hid (wrE s ls = batE ls) := wrE_bat hb
    have hbb : (batE ls != 0) = true := by simpa using hb
    go_enter Tryz.func70, Tryz.ntmps70
    go_wp2_with fail
    refine (checkBatch_any _ n cap ls _ HI.out).mono ?_
    rintro e w1 ⟨rfl, hb1⟩
    go_wp2_with fail
    go_ret
    exact ⟨ret_i64' HE.out.symm, hb1⟩

end Go.Proofs.YthciddpljcbhiabGreatDoor

/- A point's box beside a store; a batch refused. -/
namespace Go.Proofs.YthciddpljcbhiabGreatDoor
open Go Go.RowKit Go.Lib

theorem Tryz.info127' : (Tryz.prog.info? 127).map (fun i => (i.zero, i.size, i.bytes)) = some (some (.agg zPt), 14, 24) := by kernel_rfl

theorem wr_take {s : St} {ls : List Sm} {k : Nat} (hk : k < ls.length) : s.wr (ls.take (k + 1)) = (s.wr (ls.take k)).wr [smG ls k] := by
  unfold St.wr
  rw [List.take_succ_eq_append_getElem hk, smG_get ls k hk]
  simp
theorem Inv.take {s : St} {ls : List Sm} (h : Inv (s.wr ls)) (k : Nat) : Inv (s.wr (ls.take k)) := by
  have hsub : ∀ x ∈ s.l ++ ls.take k, x ∈ s.l ++ ls := by
    intro x hx
    rcases List.mem_append.1 hx with hx | hx
    · exact List.mem_append_left _ hx
    · exact List.mem_append_right _ (List.mem_of_mem_take hx)
  refine ⟨h.right, h.n0, h.n1, ?_, fun x hx => h.ok x (hsub x hx), fun x hx => h.past x (hsub x hx)⟩
  have h1 := h.len
  show (s.l ++ ls.take k).length ≤ 500
  have h2 : (s.l ++ ls).length ≤ 500 := h1
  rw [List.length_append] at h2 ⊢
  have := List.length_take_le' k ls
  omega
theorem wrE_ok {s : St} {ls : List Sm} (h : wrE s ls = 0) : batE ls = 0 ∧ (∀ x ∈ ls, lateB s x = false) ∧ s.l.length + ls.length ≤ 500 := by
  by_cases hb : batE ls = 0
  · unfold wrE at h
    rw [if_neg (by simp [hb])] at h
    cases hl : ls.any (lateB s)
    · rw [hl] at h
      refine ⟨hb, fun x hx => ?_, ?_⟩
      · have := List.any_eq_false.1 hl x hx; simpa using this
      · by_cases h7 : 500 < s.l.length + ls.length
        · rw [if_neg (by simp), if_pos h7] at h; omega
        · omega
    · rw [hl, if_pos rfl] at h; omega
  · rw [wrE_bat hb] at h; exact absurd h hb

theorem StAt.book {w : World} {X : Nat} {F : Nat → Prop} {s sb : St} {tk : Int} {L lcap : Nat} {pv bv : Value} {bk : List Ad} {gv : Value} {lg : ByteArray} (h : StAt w X F s sb tk L lcap pv bv bk gv lg) : BookSt w X 6 (stC s tk L lcap pv bv gv) 87 bv bk := ⟨h.blk, rfl, h.bok, h.bX⟩
theorem Cf.lims {c : Cf} (h : c.right = true) : ∀ j, j < c.lvs.length → 1 ≤ (lvG c.lvs j).limit ∧ (lvG c.lvs j).limit ≤ 20 := by
  intro j hj
  simp only [Cf.right, rightB, Bool.and_eq_true] at h
  exact ((okSer_iff _ _).1 (List.all_eq_true.1 h.2 j (List.mem_range.2 hj))).2

abbrev set14 (w : World) (P : Nat) (p : Pt) : World := (((((((((((((w.setCell ⟨P, 0, none⟩ (.int .i64 p.time)).setCell ⟨P, 1, none⟩ (.int .i32 p.value)).setCell ⟨P, 2, none⟩ (.int .u8 (sG p 0).a)).setCell ⟨P, 3, none⟩ (.int .u8 (sG p 0).b)).setCell ⟨P, 4, none⟩ (.int .u8 (sG p 0).c)).setCell ⟨P, 5, none⟩ (.int .u8 (sG p 1).a)).setCell ⟨P, 6, none⟩ (.int .u8 (sG p 1).b)).setCell ⟨P, 7, none⟩ (.int .u8 (sG p 1).c)).setCell ⟨P, 8, none⟩ (.int .u8 (sG p 2).a)).setCell ⟨P, 9, none⟩ (.int .u8 (sG p 2).b)).setCell ⟨P, 10, none⟩ (.int .u8 (sG p 2).c)).setCell ⟨P, 11, none⟩ (.int .u8 (sG p 3).a)).setCell ⟨P, 12, none⟩ (.int .u8 (sG p 3).b)).setCell ⟨P, 13, none⟩ (.int .u8 (sG p 3).c)
theorem set14_other {w : World} {P : Nat} {p : Pt} {k : Nat} (h : k ≠ P) : (set14 w P p).heap[k]? = w.heap[k]? := by
  unfold set14
  rw [Below.heap_setCell _ _ _ _ h, Below.heap_setCell _ _ _ _ h, Below.heap_setCell _ _ _ _ h, Below.heap_setCell _ _ _ _ h, Below.heap_setCell _ _ _ _ h, Below.heap_setCell _ _ _ _ h, Below.heap_setCell _ _ _ _ h, Below.heap_setCell _ _ _ _ h, Below.heap_setCell _ _ _ _ h, Below.heap_setCell _ _ _ _ h, Below.heap_setCell _ _ _ _ h, Below.heap_setCell _ _ _ _ h, Below.heap_setCell _ _ _ _ h, Below.heap_setCell _ _ _ _ h]
theorem set14_own {w : World} {P : Nat} {p : Pt} (h : w.heap[P]? = some (.cells zPt 127 (0, 0))) : (set14 w P p).heap[P]? = some (.cells (ptC p) 127 (0, 0)) := by
  have h0 := heap_setCell (o := 0) (v := (.int .i64 p.time)) h
  have h1 := heap_setCell (o := 1) (v := (.int .i32 p.value)) h0
  have h2 := heap_setCell (o := 2) (v := (.int .u8 (sG p 0).a)) h1
  have h3 := heap_setCell (o := 3) (v := (.int .u8 (sG p 0).b)) h2
  have h4 := heap_setCell (o := 4) (v := (.int .u8 (sG p 0).c)) h3
  have h5 := heap_setCell (o := 5) (v := (.int .u8 (sG p 1).a)) h4
  have h6 := heap_setCell (o := 6) (v := (.int .u8 (sG p 1).b)) h5
  have h7 := heap_setCell (o := 7) (v := (.int .u8 (sG p 1).c)) h6
  have h8 := heap_setCell (o := 8) (v := (.int .u8 (sG p 2).a)) h7
  have h9 := heap_setCell (o := 9) (v := (.int .u8 (sG p 2).b)) h8
  have h10 := heap_setCell (o := 10) (v := (.int .u8 (sG p 2).c)) h9
  have h11 := heap_setCell (o := 11) (v := (.int .u8 (sG p 3).a)) h10
  have h12 := heap_setCell (o := 12) (v := (.int .u8 (sG p 3).b)) h11
  have h13 := heap_setCell (o := 13) (v := (.int .u8 (sG p 3).c)) h12
  simp only [List.setIfInBounds_toArray, List.set_cons_succ, List.set_cons_zero] at h13
  exact h13
theorem set14_size {w : World} {P : Nat} {p : Pt} : (set14 w P p).heap.size = w.heap.size := by simp [set14, World.setCell]
theorem set14_fr {F : Nat → Prop} {a w : World} {P : Nat} {p : Pt} (h : Fr F a w) (hP : F P ∨ a.heap.size ≤ P) : Fr F a (set14 w P p) := by
  unfold set14
  exact ((((((((((((((h.setCell hP _).setCell hP _).setCell hP _).setCell hP _).setCell hP _).setCell hP _).setCell hP _).setCell hP _).setCell hP _).setCell hP _).setCell hP _).setCell hP _).setCell hP _).setCell hP _)
/-- A point's box beside a store. -/
structure PtBox (w wx : World) (X : Nat) (F : Nat → Prop) (s sb : St) (tk : Int) (L lcap : Nat) (pv bv : Value) (bk : List Ad) (gv : Value) (lg : ByteArray) (P : Nat) (p : Pt) : Prop where
  box : wx.heap[P]? = some (.cells (ptC p) 127 (0, 0))
  st : StAt wx X (gF F w wx) s sb tk L lcap pv bv bk gv lg
  fr : Fr F w wx
  ne : P ≠ X
section
variable {w w' : World} {X : Nat} {F : Nat → Prop} {s sb : St} {tk : Int} {L lcap : Nat} {pv bv : Value} {bk : List Ad} {gv : Value} {lg : ByteArray} {P : Nat} {p : Pt}
theorem st_box (h : StAt w' X (gF F w w') s sb tk L lcap pv bv bk gv lg) (hf : Fr F w w') (hP : w.heap.size ≤ P) (hb : w'.heap[P]? = some (.cells zPt 127 (0, 0))) (hX : P ≠ X) (hL : P ≠ L) (hp : pv.ownBlock ≠ some P) (hv : bv.ownBlock ≠ some P) (hg : gv.ownBlock ≠ some P) :
    PtBox w (set14 w' P p) X F s sb tk L lcap pv bv bk gv lg P p := by
  refine ⟨set14_own hb, ?_, set14_fr hf (.inr hP), hX⟩
  refine (h.keepE (fun k e => set14_other (fun e' => ?_))).mono (fun k e => by rcases e with e | e; exact .inl e; exact .inr ⟨e.1, by rw [set14_size]; exact e.2⟩)
  subst e'
  rcases e with e | e | e | e | e
  · exact hX e
  · exact hL e
  · exact hp e
  · exact hv e
  · exact hg e
theorem st_new (h : StAt w' X (gF F w w') s sb tk L lcap pv bv bk gv lg) (hf : Fr F w w') : PtBox w (w'.alloc (.cells (ptC p) 127)) X F s sb tk L lcap pv bv bk gv lg w'.heap.size p := by
  refine ⟨heap_alloc_new _ _, ?_, hf.alloc _, by have := h.lt; omega⟩
  exact (h.below ((Below.refl _ _).alloc (Nat.le_refl _) _)).mono (fun k e => by rcases e with e | e; exact .inl e; exact .inr ⟨e.1, by simp; omega⟩)
end

theorem write_no (X : Nat) (F : Nat → Prop) (s : St) (a : Option Addr) (n cap : Nat) (ls : List Sm) {lg : ByteArray} (w : World) (h : StoreAt w X F s lg) (hs : IsSms w a n ls) (hn : n ≤ maxLen) (he : wrE s ls ≠ 0) :
    Calls Tryz.prog 41 #[.pointer (some ⟨X, 0, none⟩), .slice a n cap] w fun e w' => e = .returned (.int .i64 (wrE s ls)) ∧ Below w.heap.size w w' := by
  have H : Hid (StoreAt w X F s lg) := h
  have HS : Hid (IsSms w a n ls) := hs
  have hbb : (wrE s ls != 0) = true := by simpa using he
  clear h hs he
  go_enter Tryz.func41, Tryz.ntmps41
  go_wp2_with fail
  refine (checkWrite_any X F s a n cap ls _ H.out HS.out hn).mono ?_
  rintro e w1 ⟨rfl, hb1⟩
  go_wp2_with fail
  go_ret
  exact ⟨rfl, hb1⟩

end Go.Proofs.YthciddpljcbhiabGreatDoor

/- Walks: a batch written. -/
namespace Go.Proofs.YthciddpljcbhiabGreatDoor
open Go Go.RowKit Go.Lib

theorem rec_size (ls : List Sm) : (strOfNums (recB ls)).size = 6 + 11 * ls.length := by
  rw [strOfNums_size]; unfold recB; rw [List.length_append, bodyB_len, lowN_len]; omega
theorem StAt.toStore {w : World} {X : Nat} {F : Nat → Prop} {s : St} {tk : Int} {L lcap : Nat} {pv bv : Value} {bk : List Ad} {gv : Value} {lg : ByteArray} (h : StAt w X F s s tk L lcap pv bv bk gv lg) (ht : tk = s.l.length) : StoreAt w X F s lg := by
  subst ht; exact ⟨L, lcap, pv, bv, bk, gv, h⟩
theorem StAt.toSb {w : World} {X : Nat} {F : Nat → Prop} {s sb sb' : St} {tk : Int} {L lcap : Nat} {pv bv : Value} {bk : List Ad} {gv : Value} {lg : ByteArray} (h : StAt w X F s sb tk L lcap pv bv bk gv lg) (he : sb' = sb) : StAt w X F s sb' tk L lcap pv bv bk gv lg := by
  rw [he]; exact h

set_option maxHeartbeats 4000000 in
set_option maxRecDepth 100000 in
theorem write_yes (X : Nat) (F : Nat → Prop) (s : St) (b off n cap : Nat) (ls : List Sm) (lg : ByteArray) (w : World) (h : StoreAt w X F s lg) (hn : ls.length = n) (hat : SmAt w b off ls) (hbF : ¬ F b) (hwf : ∀ x ∈ ls, x.wf) (hwf' : SmWf ls) (he : wrE s ls = 0) :
    Calls Tryz.prog 41 #[.pointer (some ⟨X, 0, none⟩), .slice (some ⟨b, off, none⟩) n cap] w fun e w' => e = .returned (.int .i64 0) ∧ StoreAt w' X (gF F w w') (s.wr ls) (lg ++ strOfNums (recB ls)) ∧ Fr F w w' := by
  have HSt : Hid (StoreAt w X F s lg) := h
  obtain ⟨hbat, hlate, hfull⟩ := wrE_ok he
  obtain ⟨b1, b2, b3⟩ := (batE_zero ls).1 hbat
  have HB3 : Hid (smsOk ls = true) := b3
  have HWF : Hid (SmWf ls) := hwf'
  have hI := h.inv
  have HINV : Hid (∀ k, Inv (s.wr (ls.take k))) := fun k => (hI.wr he hwf).take k
  have HLA : Hid (∀ k, k < n → liveB s.c s.now (smG ls k).time = true) := fun k hk => by
    have := hlate (smG ls k) (by rw [smG_get ls k (by omega)]; exact List.getElem_mem _)
    show liveB _ _ _ = true
    rw [live_iff]
    simp [lateB] at this
    omega
  have HOK : Hid (∀ k, k < n → lab3 (smG ls k).l0 (smG ls k).l1 (smG ls k).l2 = true) := fun k hk => by
    have := batE_ok hbat (smG ls k) (by rw [smG_get ls k (by omega)]; exact List.getElem_mem _)
    exact ((smOk_iff _).1 this).2.2
  have HE : Hid (wrE s ls = 0) := he
  have HN : Hid (ls.length = n) := hn
  have hn8 : n ≤ 8 := by omega
  have hn1 : 1 ≤ n := by omega
  have HAT : Hid (SmAt w b off ls) := hat
  have HBF : Hid (¬ F b) := hbF
  have HL5 : Hid (s.l.length + ls.length ≤ 500) := hfull
  have hsl : s.l.length ≤ 500 := by omega
  have hbs : b < w.heap.size := hat.block (by omega)
  have HSMS : Hid (IsSms w (some ⟨b, off, none⟩) n ls) := ⟨hn, fun _ => ⟨b, off, rfl, hat⟩⟩
  obtain ⟨pi0, hpi, pz0, pz1, pz2⟩ := infP Tryz.info127'
  obtain ⟨bi0, hbi, bz0, bz1, bz2⟩ := infP Tryz.info5'
  clear hbat hlate hfull b1 b2 b3 hI he hn hat hbF h hwf hwf'
  go_enter Tryz.func41, Tryz.ntmps41
  go_wp2_with fail
  refine (checkWrite_any X F s _ n cap ls _ HSt.out HSMS.out (by unfold maxLen; omega)).mono ?_
  rintro e w1 ⟨rfl, hb1⟩
  rw [HE.out]
  have HB1 : Hid (Below w.heap.size w w1) := hb1
  clear hb1
  go_wp2_with fail
  go_loopw [6] (fun i wr => ∃ (k : Nat) (L lcap : Nat) (pv bv : Value) (bk : List Ad) (gv : Value), i = .int .i64 k ∧ k ≤ n ∧ StAt wr X (gF F w wr) (s.wr (ls.take k)) (s.wr (ls.take k)) s.l.length L lcap pv bv bk gv lg ∧ Fr F w wr) (fun i _ => n - (intOf i).toNat)
  case atStart =>
    obtain ⟨L, lcap, pv, bv, bk, gv, hst⟩ := HSt.out
    refine ⟨0, L, lcap, pv, bv, bk, gv, rfl, Nat.zero_le _, ?_, Fr.of_below HB1.out⟩
    have e0 : s.wr (ls.take 0) = s := by unfold St.wr; simp
    rw [e0]
    exact (hst.below HB1.out).mono (fun k e => .inl e)
  case round =>
    obtain ⟨k, L, lcap, pv, bv, bk, gv, rfl, hk, hst, hfr⟩ := hrel
    have HS : Hid (StAt wr X (gF F w wr) (s.wr (ls.take k)) (s.wr (ls.take k)) s.l.length L lcap pv bv bk gv lg) := hst
    have HF : Hid (Fr F w wr) := hfr
    have hsz := hfr.size
    have hXr := hst.lt
    clear hst hfr
    by_cases hlt : k < n
    · have HAr : Hid (SmAt wr b off ls) := smAt_of (At.fr (at_of_sm HAT.out) HF.out HBF.out)
      obtain ⟨m0, m1, m2, m3, m4⟩ := HAr.out k (by rw [HN.out]; exact hlt)
      have HWT : Hid (s.wr (ls.take (k + 1)) = (s.wr (ls.take k)).wr [smG ls k]) := wr_take (by rw [HN.out]; exact hlt)
      have HLV := HLA.out k hlt
      have HLB := HOK.out k hlt
      have HIN := HINV.out (k + 1)
      generalize hsk : s.wr (ls.take k) = sk at *
      have hskc : sk.c = s.c := by rw [← hsk]; rfl
      have hskn : sk.now = s.now := by rw [← hsk]; rfl
      have hskl : sk.l.length ≤ 500 := HS.out.inv.len
      generalize hZ : smG ls k = Z at *
      have HBW := bookOk_wr1 HS.out.bOk Z
      have HPT := pts_wr1 sk Z (by rw [hskc, hskn]; exact HLV)
      have HBK := HS.out.bOk.2
      obtain ⟨q1, q4⟩ := HS.out.len
      have hbkl : bk.length ≤ 4000 := by
        have : sk.l.length * sk.c.lvs.length ≤ 500 * 4 := Nat.mul_le_mul hskl q4
        omega
      have c2 := HS.out.cell 2 _ rfl
      have hbX : b ≠ X := fun e => HBF.out (by
        rcases HS.out.fX with h | h
        · rw [e]; exact h
        · omega)
      have hLok : ∀ j, j < sk.c.lvs.length → ruleB (lvG sk.c.lvs j).rule = true ∧ (lvG sk.c.lvs j).rule.size ≤ maxLen ∧ 1 ≤ (lvG sk.c.lvs j).limit ∧ (lvG sk.c.lvs j).limit ≤ 20 := fun j hj =>
        ⟨((Cf.right_parts HS.out.inv.right).2.2.2.2.2.2 j hj).2.2.1, (HS.out.wf j).2.2, (Cf.lims HS.out.inv.right j hj).1, (Cf.lims HS.out.inv.right j hj).2⟩
      have HSd : Hid (StAt wr.drew X (gF F w wr) sk sk s.l.length L lcap pv bv bk gv lg) := HS.out.keep (fun _ _ _ => rfl)
      obtain ⟨pt, hpt⟩ : ∃ p : Pt, p = ⟨Z.time, Z.value, entS sk.c.lvs 0 bk Z.lb⟩ := ⟨_, rfl⟩
      have HGEN : Hid (∀ W, StAt W X (gF F w W) sk sk s.l.length L lcap pv bv bk gv lg → Fr F w W → Calls Tryz.prog 71 #[.pointer (some ⟨X, 6, none⟩), .slice (some ⟨L, 0, none⟩) sk.c.lvs.length lcap, .agg (smC Z)] W fun e w' => e = .returned (.agg (ptC pt)) ∧ (∃ bv2, StAt w' X (gF F w w') sk (sk.wr [Z]) s.l.length L lcap pv bv2 (entB sk.c.lvs 0 bk Z.lb) gv lg ∧ (bv2.ownBlock = bv.ownBlock ∨ ∀ k, bv2.ownBlock = some k → W.heap.size ≤ k)) ∧ Fr F w w' ∧ W.heap.size ≤ w'.heap.size ∧ ∀ k, k < W.heap.size → k ≠ X → bv.ownBlock ≠ some k → w'.heap[k]? = W.heap[k]?) := by
        intro W hst hfr
        refine (enter_any X 6 (stC sk s.l.length L lcap pv bv gv) 87 bv bk L sk.c.lvs.length lcap sk.c.lvs Z W hst.book hbkl HLB rfl q4 hst.lv hst.Llt (fun e => hst.XL e.symm) hst.bL hLok).mono ?_
        rintro e w' ⟨rfl, hp⟩
        obtain ⟨bv2, h1, h2, h3⟩ := st_book hst hp HBW.1
        obtain ⟨_, _, hp2, _⟩ := hp
        exact ⟨by rw [hpt], ⟨bv2, h1.mono (gF_trans hfr.size h2.size), h3⟩, Fr.gF hfr h2, h2.size, fun k a1 a2 a3 => hp2.block k a1 (fun e => e.elim a2 a3)⟩
      have HPT' : Hid ((sk.wr [Z]).pts = sk.pts ++ [pt]) := by show _ = _; rw [HPT, hpt, HBW.2]
      clear HPT
      have HSC : Hid (sk.c = s.c) := hskc
      have HSN : Hid (sk.now = s.now) := hskn
      have HSK : Hid (s.wr (ls.take k) = sk) := hsk
      have HZZ : Hid (smG ls k = Z) := hZ
      have HBWB := HBW.1
      generalize hbkn : entB sk.c.lvs 0 bk Z.lb = bkn at *
      clear hskc hskn hsk hZ HBW hpt hbkn
      have HFd : Hid (Fr F w wr.drew) := HF.out.drew
      have hbr : b < wr.heap.size := by omega
      have HSe : Hid (StAt (wr.alloc (.cells zPt 127)).drew X (gF F w (wr.alloc (.cells zPt 127)).drew) sk sk s.l.length L lcap pv bv bk gv lg) := by
        have e1 := HS.out.keep (w' := (wr.alloc (.cells zPt 127)).drew) (fun k _ hk => Below.heap_alloc wr (.cells zPt 127) k hk)
        refine StAt.mono e1 (fun k e => ?_)
        rcases e with e | e
        · exact Or.inl e
        · exact Or.inr ⟨e.1, by show k < (wr.alloc (.cells zPt 127)).heap.size; simp; omega⟩
      have HFe : Hid (Fr F w (wr.alloc (.cells zPt 127)).drew) := (HF.out.alloc _).drew
      have HPB : Hid (∀ w' : World, (∀ k, k < (wr.alloc (.cells zPt 127)).drew.heap.size → k ≠ X → bv.ownBlock ≠ some k → w'.heap[k]? = (wr.alloc (.cells zPt 127)).drew.heap[k]?) → w'.heap[wr.heap.size]? = some (.cells zPt 127 (0, 0))) := by
        intro w' hk
        rw [hk wr.heap.size (by show wr.heap.size < (wr.alloc (.cells zPt 127)).heap.size; simp) (by omega) (fun e => by have := (HS.out.bok.lt _ e).2; omega)]
        exact heap_alloc_new wr _
      have HBX : Hid (∀ w' bv2, StAt w' X (gF F w w') sk (sk.wr [Z]) s.l.length L lcap pv bv2 bkn gv lg → Fr F w w' → (bv2.ownBlock = bv.ownBlock ∨ ∀ k, bv2.ownBlock = some k → (wr.alloc (.cells zPt 127)).drew.heap.size ≤ k) → w'.heap[wr.heap.size]? = some (.cells zPt 127 (0, 0)) → PtBox w (set14 w' wr.heap.size pt) X F sk (sk.wr [Z]) s.l.length L lcap pv bv2 bkn gv lg wr.heap.size pt) := by
        intro w' bv2 h1 h2 h3 h4
        refine st_box h1 h2 hsz h4 (by omega) (by have := HS.out.Llt; omega) (fun e => by have := (HS.out.pts.lt _ e).2; omega) (fun e => ?_) (fun e => by have := (HS.out.log.lt _ e).2; omega)
        rcases h3 with ho | ho
        · rw [ho] at e; have := (HS.out.bok.lt _ e).2; omega
        · have h9 : (wr.alloc (.cells zPt 127)).heap.size ≤ wr.heap.size := ho _ e
          rw [World.size_alloc] at h9
          omega
      go_upto_region 7 with fail
      go_cut [7] from 15 to 43 (fun v wx => ∃ P bv2, v = .pointer (some ⟨P, 0, none⟩) ∧ PtBox w wx X F sk (sk.wr [Z]) s.l.length L lcap pv bv2 bkn gv lg P pt)
      case first =>
        go_region_with (first
          | (go_at_call 71; refine (HGEN.out wr.drew HSd.out HFd.out).mono ?_; rintro e w' ⟨rfl, ⟨bv2, hst2, hob⟩, hf2, hsz2, hkp⟩; have hXw := hst2.lt; have HN7 : Hid (PtBox w (w'.alloc (.cells (ptC pt) 127)) X F sk (sk.wr [Z]) s.l.length L lcap pv bv2 bkn gv lg w'.heap.size pt) := st_new hst2 hf2; clear hst2 hob hf2 hsz2 hkp)
          | (go_at_call 71; refine (HGEN.out (wr.alloc (.cells zPt 127)).drew HSe.out HFe.out).mono ?_; rintro e w' ⟨rfl, ⟨bv2, hst2, hob⟩, hf2, hsz2, hkp⟩; have hXw := hst2.lt; have hPb := HPB.out w' hkp; have HN8 : Hid (PtBox w (set14 w' wr.heap.size pt) X F sk (sk.wr [Z]) s.l.length L lcap pv bv2 bkn gv lg wr.heap.size pt) := HBX.out w' bv2 hst2 hf2 hob hPb; have x0 := cell_blk (o := 0) hPb rfl; have x1 := cell_blk (o := 1) hPb rfl; have x2 := cell_blk (o := 2) hPb rfl; have x3 := cell_blk (o := 3) hPb rfl; have x4 := cell_blk (o := 4) hPb rfl; have x5 := cell_blk (o := 5) hPb rfl; have x6 := cell_blk (o := 6) hPb rfl; have x7 := cell_blk (o := 7) hPb rfl; have x8 := cell_blk (o := 8) hPb rfl; have x9 := cell_blk (o := 9) hPb rfl; have x10 := cell_blk (o := 10) hPb rfl; have x11 := cell_blk (o := 11) hPb rfl; have x12 := cell_blk (o := 12) hPb rfl; have x13 := cell_blk (o := 13) hPb rfl; have xz := fun o => froz_blk (o := o) hPb; clear hst2 hob hf2 hsz2 hkp hPb))
        all_goals go_wp2_with fail
        all_goals go_meet
        all_goals (case rel => first
          | (have h9 := HN8.out; exact ⟨wr.heap.size, bv2, rfl, h9⟩)
          | (have h9 := HN7.out; exact ⟨w'.heap.size, bv2, rfl, h9⟩))
      case rest =>
        obtain ⟨P, bv2, rfl, hbx⟩ := hcut
        have HS3 : Hid (StAt wc X (gF F w wc) sk (sk.wr [Z]) s.l.length L lcap pv bv2 bkn gv lg) := hbx.st
        have HF3 : Hid (Fr F w wc) := hbx.fr
        have hPX := hbx.ne
        have hPlt : P < wc.heap.size := (Array.getElem?_eq_some_iff.1 hbx.box).1
        have x0 := cell_blk (o := 0) hbx.box rfl
        have x1 := cell_blk (o := 1) hbx.box rfl
        have x2 := cell_blk (o := 2) hbx.box rfl
        have x3 := cell_blk (o := 3) hbx.box rfl
        have x4 := cell_blk (o := 4) hbx.box rfl
        have x5 := cell_blk (o := 5) hbx.box rfl
        have x6 := cell_blk (o := 6) hbx.box rfl
        have x7 := cell_blk (o := 7) hbx.box rfl
        have x8 := cell_blk (o := 8) hbx.box rfl
        have x9 := cell_blk (o := 9) hbx.box rfl
        have x10 := cell_blk (o := 10) hbx.box rfl
        have x11 := cell_blk (o := 11) hbx.box rfl
        have x12 := cell_blk (o := 12) hbx.box rfl
        have x13 := cell_blk (o := 13) hbx.box rfl
        obtain ⟨pa, pcap, rfl⟩ := ownForm HS3.out.pts
        have c5 := HS3.out.cell 5 _ rfl
        have f5 := HS3.out.frozen 5
        have hX3 := HS3.out.lt
        have hXn : X ≠ wc.heap.size := by omega
        have hp5 := pts_len HS3.out.inv
        have HIN' : Hid (Inv (sk.wr [Z])) := by show Inv _; rw [← HWT.out]; exact HIN
        have HSC' : Hid ((sk.wr [Z]).c = sk.c) := rfl
        have HSN' : Hid ((sk.wr [Z]).now = sk.now) := rfl
        clear hbx HGEN HSd HFd HSe HFe HPB HBX m0 m1 m2 m3 m4 c2 HAr
        go_upto_region 8 with fail
        go_region_law (refine stepAppend rfl (.tmp 38) (.tmp 40) 81 rfl 0 127 pi0 (.agg zPt) 14 24 Tryz.underlying81 hpi pz0 pz1 pz2 rfl (by decide) (.slice pa sk.pts.length pcap) sk.pts.length (flatP sk.pts) (by simp [Act.eval]) (HS3.out.pts.alloc _) ⟨wc.heap.size, 0, none⟩ 1 1 (Pt.cells pt) (by simp [Act.eval]) rfl (newAt _ (Pt.cells pt) 127 _ rfl) (Pt.one _) (by unfold maxLen; omega) (by omega) (Nat.zero_le _) ?_; intro v' w3 hown' hgrow hblk; have qX3 : w3.cell? ⟨X, 5, none⟩ = some (.slice pa sk.pts.length pcap) := hgrow.cell (cell_alloc1 c5) (fun e => HS3.out.pX e.symm); have fX3 : w3.frozen? ⟨X, 5, none⟩ = false := (World.frozen?_of_block (hgrow.block X (by simp; omega) (fun e => HS3.out.pX e.symm))).trans (frozen_alloc1 hX3 f5); obtain ⟨a', p', rfl⟩ := ownForm hown')
        all_goals (have hg' := gr_undrew hgrow)
        all_goals (have H5 : Hid (∃ pv', StAt (w3.setCell ⟨X, 5, none⟩ (.slice a' (sk.pts.length + 1) p')) X (gF F w (w3.setCell ⟨X, 5, none⟩ (.slice a' (sk.pts.length + 1) p'))) (sk.wr [Z]) (sk.wr [Z]) s.l.length L lcap pv' bv2 bkn gv lg ∧ Fr F w (w3.setCell ⟨X, 5, none⟩ (.slice a' (sk.pts.length + 1) p'))) := let ⟨h1, h2⟩ := st_put (s' := sk.wr [Z]) (p := pt) HS3.out ((Below.refl _ _).alloc (Nat.le_refl _) _) hg' hown' hblk HSC'.out HSN'.out HPT'.out HIN'.out; ⟨_, h1.mono (gF_trans HF3.out.size h2.size), Fr.gF HF3.out h2⟩)
        all_goals clear hgrow hg' hblk hown'
        all_goals go_wp2_with fail
        all_goals (obtain ⟨pv', h1, h2⟩ := H5.out)
        all_goals exact ⟨⟨k + 1, L, lcap, pv', bv2, bkn, gv, by go_num, by omega, by rw [HWT.out]; exact h1, h2⟩, by simp [intOf]; omega⟩
    · have HAL : Hid (s.wr (ls.take k) = s.wr ls) := by show _ = _; rw [List.take_of_length_le (by rw [HN.out]; omega)]
      rw [HAL.out] at HS
      have c4 := HS.out.cell 4 _ rfl
      have f4 := HS.out.frozen 4
      have HSL : Hid (((s.wr ls).l.length : Int) = s.l.length + n) := by show ((s.l ++ ls).length : Int) = _; rw [List.length_append, HN.out]; omega
      have HS5 := st_set (o := 4) (v := .int .i64 ((s.l.length : Int) + n)) (s' := s.wr ls) (tk' := (s.l.length : Int) + n) HS.out rfl rfl rfl HS.out.inv (by have := HS.out.lgl; omega)
      have HS6 : Hid (StAt (wr.setCell ⟨X, 4, none⟩ (.int .i64 ((s.l.length : Int) + n))) X (gF F w wr) (s.wr ls) (s.wr ls) ((s.l.length : Int) + n) L lcap pv bv bk gv lg) := HS5.1
      have HF6 : Hid (Fr F w (wr.setCell ⟨X, 4, none⟩ (.int .i64 ((s.l.length : Int) + n)))) := Fr.gF HF.out HS5.2
      have HA6 : Hid (SmAt (wr.setCell ⟨X, 4, none⟩ (.int .i64 ((s.l.length : Int) + n))) b off ls) := smAt_of (At.fr (at_of_sm HAT.out) HF6.out HBF.out)
      have hl5 : s.l.length + n ≤ 500 := by have := HL5.out; have := HN.out; omega
      have HLG : Hid ((lg.size : Int) ≤ 7 * s.now + 17 * (s.l.length : Int)) := HS.out.lgl
      clear HS5
      go_wp2_with fail
      refine (ofBatch_any b off n cap ls _ HN.out hn8 HA6.out HWF.out HB3.out).mono ?_
      rintro e w3 ⟨rfl, hb3⟩
      have HS7 : Hid (StAt w3 X (gF F w w3) (s.wr ls) (s.wr ls) ((s.l.length : Int) + n) L lcap pv bv bk gv lg) := (HS6.out.below hb3).mono (fun k e => by
        rcases e with e | e
        · exact .inl e
        · exact .inr ⟨e.1, by have := hb3.size; simp [World.setCell] at this; omega⟩)
      have HF7 : Hid (Fr F w w3) := HF6.out.trans (Fr.of_below (S := fun _ => False) hb3) (fun _ e => e.elim)
      obtain ⟨ga, gc, rfl⟩ := ownForm HS7.out.log
      have d7 := HS7.out.cell 7 _ rfl
      have f7 := HS7.out.frozen 7
      have hX7 := HS7.out.lt
      have hlg : lg.size ≤ 800000 := HS7.out.bytes (by omega)
      have HRS : Hid ((strOfNums (recB ls)).size = 6 + 11 * n) := by show _ = _; rw [rec_size, HN.out]
      clear hb3 HS6 HF6 HA6 c4 f4
      go_wp2_with (refine listAppendStr rfl (.tmp 59) (.tmp 60) 85 9 rfl 0 5 bi0 Tryz.underlying85 Tryz.underlying9 hbi bz0 bz1 bz2 (.slice ga lg.size gc) lg.size (strCells lg) (by simp [Act.eval]) HS7.out.log (strOfNums (recB ls)) (by simp [Act.eval]) (by rw [HRS.out]; unfold maxLen; omega) (by rw [HRS.out]; omega) (Nat.zero_le _) ?_; intro gv' w4 hown hgrow hblk; have f4 : w4.frozen? ⟨X, 7, none⟩ = false := (World.frozen?_of_block (hgrow.block X hX7 (fun e => HS7.out.gX e.symm))).trans f7; have d4 : w4.cell? ⟨X, 7, none⟩ = some (.slice ga lg.size gc) := hgrow.cell d7 (fun e => HS7.out.gX e.symm); obtain ⟨a', p', rfl⟩ := ownForm hown)
      go_ret
      obtain ⟨h1, h2⟩ := st_log HS7.out hgrow hown hblk (by
        rw [ByteArray.size_append, HRS.out]
        have := HLG.out
        show ((lg.size + (6 + 11 * n) : Nat) : Int) ≤ 7 * s.now + 17 * ((s.l.length : Int) + n)
        omega)
      exact ⟨rfl, (h1.mono (gF_trans HF7.out.size h2.size)).toStore HSL.out.symm, Fr.gF HF7.out h2⟩

end Go.Proofs.YthciddpljcbhiabGreatDoor

/- Walks: a Tick. -/
namespace Go.Proofs.YthciddpljcbhiabGreatDoor
open Go Go.RowKit Go.Lib

theorem tkE_zero {s : St} {n : Int} (h : tkE s n = 0) : 1 ≤ n ∧ n ≤ 1000 ∧ s.now + n ≤ 100000 := by
  unfold tkE at h
  split at h
  · omega
  · omega
theorem tkE_no {s : St} {n : Int} (h : tkE s n ≠ 0) : tkE s n = 8 ∧ (n < 1 ∨ 1 ≤ n ∧ 1000 < n ∨ 1 ≤ n ∧ n ≤ 1000 ∧ 100000 < s.now + n) := by
  unfold tkE at h ⊢
  split
  · refine ⟨rfl, ?_⟩; omega
  · next h' => rw [if_neg h'] at h; omega
theorem tick_size (n : Int) : (strOfNums (tickB n)).size = 7 := by rw [strOfNums_size, tickB_len]

/-- A store whose time went on and whose expired points were let go. -/
theorem st_fg {w w2 : World} {X : Nat} {F : Nat → Prop} {s : St} {tk : Int} {L lcap : Nat} {pv pv' bv : Value} {bk : List Ad} {gv : Value} {lg : ByteArray} {n m : Int} {v : Value} (h : StAt w X F s s tk L lcap pv bv bk gv lg) (hn : 1 ≤ n) (hi : Inv (s.tk n))
    (fg : FgAt (w.setCell ⟨X, 3, none⟩ v) w2 X (s.tk n) tk L lcap pv' bv gv (liveP (s.tk n) s.pts) (liveP (s.tk n) s.pts).length) (hp : pv'.ownBlock = pv.ownBlock) (_ : m = n) :
    StAt w2 X F (s.tk n) (s.tk n) tk L lcap pv' bv bk gv lg ∧ Fr F w w2 := by
  have hfr : Fr (fun k => k = X ∨ pv.ownBlock = some k) w w2 := by
    have h1 : Fr (fun k => k = X ∨ pv.ownBlock = some k) w (w.setCell ⟨X, 3, none⟩ v) := Fr.setCell (S := fun k => k = X ∨ pv.ownBlock = some k) (Fr.refl _ _) (.inl (.inl rfl)) _
    exact h1.trans fg.fr (fun k e => .inl (by rw [← hp]; exact e))
  have hpe : (s.tk n).pts = liveP (s.tk n) s.pts := pts_tk s (Cf.right_parts h.inv.right).1 (by omega)
  refine ⟨?_, hfr.mono fun k e => by (rcases e with e | e; (rw [e]; exact h.fX); exact h.fp k e)⟩
  have hbk : BookOk (s.tk n) bk := h.bOk
  exact { blk := fg.blk,
          lv := lvAt_of (At.fr (at_of_lv h.lv) hfr (fun e => by rcases e with e | e; exact h.XL e.symm; exact h.pL e)),
          pts := by rw [hpe]; exact fg.own,
          bok := owns_fr h.bok hfr (fun k e e' => by rcases e' with e' | e'; exact h.bX (by rw [← e']; exact e); exact h.pb k e' e),
          log := owns_fr h.log hfr (fun k e e' => by rcases e' with e' | e'; exact h.gX (by rw [← e']; exact e); exact h.gp k e' e),
          lgl := by have := h.lgl; show (lg.size : Int) ≤ 7 * (s.now + n) + 17 * tk; omega
          bOk := hbk, inv := hi, wf := h.wf, XL := h.XL, pX := by rw [hp]; exact h.pX, pL := by rw [hp]; exact h.pL, bX := h.bX, bL := h.bL, pb := by rw [hp]; exact h.pb,
          gX := h.gX, gL := h.gL, gp := by rw [hp]; exact h.gp, gb := h.gb, fX := h.fX, fL := h.fL, fp := by rw [hp]; exact h.fp, fb := h.fb, fg := h.fg }

set_option maxHeartbeats 1000000 in
set_option maxRecDepth 100000 in
theorem tick_no (X : Nat) (F : Nat → Prop) (s : St) (n : Int) {lg : ByteArray} (w : World) (h : StoreAt w X F s lg) (h0 : -9223372036854775808 ≤ n) (h1 : n ≤ 9223372036854775807) (he : tkE s n ≠ 0) :
    Calls Tryz.prog 18 #[.pointer (some ⟨X, 0, none⟩), .int .i64 n] w fun e w' => e = .returned (.int .i64 8) ∧ w' = w := by
  obtain ⟨L, lcap, pv, bv, bk, gv, h⟩ := h
  have c3 := h.cell 3 _ rfl
  have i0 := h.inv.n0
  have i1 := h.inv.n1
  obtain ⟨_, hd⟩ := tkE_no he
  clear h he
  rcases hd with hd | ⟨hd1, hd2⟩ | ⟨hd1, hd2, hd3⟩
  · go_enter Tryz.func18, Tryz.ntmps18
    go_wp2_with fail
    go_ret
    exact ⟨rfl, rfl⟩
  · go_enter Tryz.func18, Tryz.ntmps18
    go_wp2_with fail
    go_ret
    exact ⟨rfl, rfl⟩
  · have hd4 : 100000 - n < s.now := by omega
    go_enter Tryz.func18, Tryz.ntmps18
    go_wp2_with fail
    go_ret
    exact ⟨rfl, rfl⟩

set_option maxHeartbeats 1000000 in
set_option maxRecDepth 100000 in
theorem tick_yes (X : Nat) (F : Nat → Prop) (s : St) (n : Int) (lg : ByteArray) (w : World) (h : StoreAt w X F s lg) (he : tkE s n = 0) :
    Calls Tryz.prog 18 #[.pointer (some ⟨X, 0, none⟩), .int .i64 n] w fun e w' => e = .returned (.int .i64 0) ∧ StoreAt w' X (gF F w w') (s.tk n) (lg ++ strOfNums (tickB n)) ∧ Fr F w w' := by
  obtain ⟨L, lcap, pv, bv, bk, gv, h⟩ := h
  have HS : Hid (StAt w X F s s s.l.length L lcap pv bv bk gv lg) := h
  have c3 := h.cell 3 _ rfl
  have i0 := h.inv.n0
  have i1 := h.inv.n1
  have HI : Hid (Inv (s.tk n)) := h.inv.tk he
  obtain ⟨e1, e2, e3⟩ := tkE_zero he
  have e4 : ¬ 100000 - n < s.now := by omega
  have hXw := h.lt
  have fX := h.frozen 3
  obtain ⟨bi0, hbi, bz0, bz1, bz2⟩ := infP Tryz.info5'
  clear h he
  go_enter Tryz.func18, Tryz.ntmps18
  go_wp2_with fail
  have HF0 : Hid (Calls Tryz.prog 38 #[.pointer (some ⟨X, 0, none⟩)] (w.setCell ⟨X, 3, none⟩ (.int .i64 (s.now + n))) fun e w' => e = .returned (.tuple #[]) ∧ ∃ pv', FgAt (w.setCell ⟨X, 3, none⟩ (.int .i64 (s.now + n))) w' X (s.tk n) s.l.length L lcap pv' bv gv (liveP (s.tk n) s.pts) (liveP (s.tk n) s.pts).length ∧ pv'.ownBlock = pv.ownBlock) := by
    refine forget_any X (s.tk n) s.l.length L lcap pv bv gv s.pts s.pts.length _ HI.out.right HI.out.n0 HI.out.n1 ?_ (owns_other HS.out.pts HS.out.pX) rfl (pts_len HS.out.inv) HS.out.pX (fun p hp => ?_)
    · exact heap_setCell HS.out.blk
    · have := pts_ok HS.out.inv p hp
      exact ⟨this.t0, this.t1⟩
  refine HF0.out.mono ?_
  rintro e w2 ⟨rfl, pv', hfg, hpb⟩
  obtain ⟨hst, hfr⟩ := st_fg (m := n) HS.out e1 HI.out hfg hpb rfl
  have HS2 : Hid (StAt w2 X F (s.tk n) (s.tk n) s.l.length L lcap pv' bv bk gv lg) := hst
  have HR2 : Hid (Fr F w w2) := hfr
  clear hfg hpb hst hfr HF0 c3 fX
  go_wp2_with fail
  refine (ofTick_any n _ e1 e2).mono ?_
  rintro e w3 ⟨rfl, hb3⟩
  have HS3 : Hid (StAt w3 X F (s.tk n) (s.tk n) s.l.length L lcap pv' bv bk gv lg) := HS2.out.below hb3
  have HR3 : Hid (Fr F w w3) := HR2.out.trans (Fr.of_below (S := fun _ => False) hb3) (fun _ e => e.elim)
  obtain ⟨ga, gc, rfl⟩ := ownForm HS3.out.log
  have d7 := HS3.out.cell 7 _ rfl
  have f7 := HS3.out.frozen 7
  have hX3 := HS3.out.lt
  have hsl := HS.out.inv.len
  have hlg : lg.size ≤ 800000 := HS3.out.bytes (by omega)
  clear hb3
  go_wp2_with (refine listAppendStr rfl (.tmp 37) (.tmp 38) 85 9 rfl 0 5 bi0 Tryz.underlying85 Tryz.underlying9 hbi bz0 bz1 bz2 (.slice ga lg.size gc) lg.size (strCells lg) (by simp [Act.eval]) HS3.out.log (strOfNums (tickB n)) (by simp [Act.eval]) (by rw [tick_size]; unfold maxLen; omega) (by rw [tick_size]; omega) (Nat.zero_le _) ?_; intro gv' w4 hown hgrow hblk; have f4 : w4.frozen? ⟨X, 7, none⟩ = false := (World.frozen?_of_block (hgrow.block X hX3 (fun e => HS3.out.gX e.symm))).trans f7; have d4 : w4.cell? ⟨X, 7, none⟩ = some (.slice ga lg.size gc) := hgrow.cell d7 (fun e => HS3.out.gX e.symm); obtain ⟨a', p', rfl⟩ := ownForm hown)
  go_ret
  obtain ⟨h1, h2⟩ := st_log HS3.out hgrow hown hblk (by
    rw [ByteArray.size_append, tick_size]
    have := HS.out.lgl
    show ((lg.size + 7 : Nat) : Int) ≤ 7 * (s.now + n) + 17 * (s.l.length : Int)
    omega)
  refine ⟨rfl, ?_, ?_⟩
  · exact (h1.mono (fun k e => by
      rcases e with e | e
      · exact .inl e
      · exact .inr ⟨by have := HR3.out.size; omega, e.2⟩)).toStore rfl
  · exact HR3.out.trans h2 (fun k e => .inl e)

end Go.Proofs.YthciddpljcbhiabGreatDoor

/- Walks: the document's store: a Tick (garnerref). -/
namespace Go.Proofs.YthciddpljcbhiabGreatDoor
open Go Go.RowKit Go.Lib

theorem Tryz.info110' : (Tryz.prog.info? 110).map (fun i => (i.zero, i.size, i.bytes)) = some (some (.agg #[.int .i64 0, .slice none 0 0]), 2, 32) := by kernel_rfl
theorem chg_few {w : World} {R : Nat} {F : Nat → Prop} {c : Cf} {ps : List Cp} {L lcap : Nat} {cv : Value} (h : RfS w R F c ps L lcap cv) : ps.length ≤ 100500 := by
  have h1 := few_chg h.tks
  have h2 := h.inv.len
  have h4 := h.inv.n1
  rw [rf_now] at h4
  rw [doAll_l] at h2
  have h3 : ((St.new c).l ++ allS (ps.map (·.1))).length = (allS (ps.map (·.1))).length := rfl
  rw [h3] at h2
  rw [List.length_map] at h1
  omega

set_option maxHeartbeats 1000000 in
set_option maxRecDepth 100000 in
theorem tick_ref_yes (R : Nat) (F : Nat → Prop) (c : Cf) (ps : List Cp) (L lcap : Nat) (cv : Value) (n : Int) (w : World) (h : RfS w R F c ps L lcap cv) (he : tkE ((St.new c).doAll (ps.map (·.1))) n = 0) :
    Calls Tryz.prog 19 #[.pointer (some ⟨R, 0, none⟩), .int .i64 n] w fun e w' => e = .returned (.int .i64 0) ∧ (∃ cv', RfS w' R (gF F w w') c (ps ++ [(.t n, .slice none 0 0)]) L lcap cv') ∧ Fr F w w' := by
  obtain ⟨a, cap, rfl⟩ := ownForm h.chg
  have HH : Hid (RfS w R F c ps L lcap (.slice a ps.length cap)) := h
  have hfew := chg_few h
  have n1 : sumT (ps.map (·.1)) ≤ 100000 := by
    have h1 := h.inv.n1
    rw [rf_now] at h1
    exact h1
  have n0 : 0 ≤ sumT (ps.map (·.1)) := sumT_nn h.tks
  obtain ⟨e1, e2, e3⟩ := tkE_zero he
  rw [rf_now] at e3
  have HI : Hid (Inv ((St.new c).doAll ((ps ++ [((.t n, .slice none 0 0) : Cp)]).map (·.1)))) := by
    show Inv _
    rw [List.map_append, doAll_append]
    exact h.inv.tk he
  have HT : Hid (TkOk ((ps ++ [((.t n, .slice none 0 0) : Cp)]).map (·.1))) := by
    intro x hx
    rw [List.map_append, List.mem_append] at hx
    rcases hx with hx | hx
    · exact h.tks x hx
    · simp at hx
      subst hx
      show 0 ≤ n ∧ 1 ≤ n + (([] : List Sm).length : Int)
      simp
      omega
  have HN := now_ref R F c ps L lcap _ w h
  obtain ⟨li0, hli, lz0, lz1, lz2⟩ := infP Tryz.info110'
  have c3 := h.cell 3 _ rfl
  have hlt := h.lt
  have z3 : w.frozen? ⟨R, 3, none⟩ = false := froz_blk h.blk
  have hb1 : Below w.heap.size w (w.alloc (.cells (cpC (.t n, .slice none 0 0)).toArray 110)) := (Below.refl _ _).alloc (Nat.le_refl _) _
  have HB1 : Hid (Below w.heap.size w (w.alloc (.cells (cpC (.t n, .slice none 0 0)).toArray 110))) := hb1
  have HO : Hid ((w.alloc (.cells (cpC (.t n, .slice none 0 0)).toArray 110)).ownsRow 0 110 2 (.slice a ps.length cap) ps.length (flatH ps)) := (h.below hb1).chg
  have HNW : Hid (∀ j u, (cpC (.t n, .slice none 0 0))[j]? = some u → (w.alloc (.cells (cpC (.t n, .slice none 0 0)).toArray 110)).cell? ((⟨w.heap.size, 0, none⟩ : Addr).add j) = some u) := newAt _ _ _ _ rfl
  have HCR : Hid ((Value.slice a ps.length cap).ownBlock ≠ some R) := h.cR
  have hlt1 : R < (w.alloc (.cells (cpC (.t n, .slice none 0 0)).toArray 110)).heap.size := by rw [World.size_alloc]; omega
  have d3 : (w.alloc (.cells (cpC (.t n, .slice none 0 0)).toArray 110)).cell? ⟨R, 3, none⟩ = some (.slice a ps.length cap) := (hb1.cell (p := ⟨R, 3, none⟩) hlt).trans c3
  have y3 : (w.alloc (.cells (cpC (.t n, .slice none 0 0)).toArray 110)).frozen? ⟨R, 3, none⟩ = false := (World.frozen?_of_block (hb1.block R hlt)).trans z3
  clear h he hb1
  generalize sumT (ps.map (·.1)) = now at *
  go_enter Tryz.func19, Tryz.ntmps19
  go_wp2_with fail
  refine HN.mono ?_
  rintro e w1 ⟨rfl, rfl⟩
  clear HN
  go_wp2_with (refine listAppend rfl (.tmp 24) (.tmp 27) 71 rfl 0 110 li0 (.agg #[.int .i64 0, .slice none 0 0]) 2 32 Tryz.underlying71 hli lz0 lz1 lz2 rfl (by decide) (.slice a ps.length cap) ps.length (flatH ps) (by simp [Act.eval]) HO.out ⟨w1.heap.size, 0, none⟩ 1 1 (cpC (.t n, .slice none 0 0)) (by simp [Act.eval]) rfl HNW.out (by simp [cpC, Value.oneCell']) (by unfold maxLen; omega) (by omega) (Nat.zero_le _) ?_; intro sv' w4 hown hgrow hblk; have d4 : w4.cell? ⟨R, 3, none⟩ = some (.slice a ps.length cap) := hgrow.cell d3 (fun e => HCR.out e.symm); have z4 : w4.frozen? ⟨R, 3, none⟩ = false := (World.frozen?_of_block (hgrow.block R hlt1 (fun e => HCR.out e.symm))).trans y3; obtain ⟨a', p', rfl⟩ := ownForm hown)
  go_ret
  obtain ⟨g1, g2⟩ := HH.out.put HB1.out hgrow hown hblk HI.out HT.out ⟨none, 0, 0, rfl, rfl, fun _ => ⟨rfl, rfl⟩, fun h => by omega⟩
  exact ⟨rfl, ⟨_, g1⟩, g2⟩

set_option maxHeartbeats 1000000 in
set_option maxRecDepth 100000 in
theorem tick_ref_no (R : Nat) (F : Nat → Prop) (c : Cf) (ps : List Cp) (L lcap : Nat) (cv : Value) (n : Int) (w : World) (h : RfS w R F c ps L lcap cv) (h0 : -9223372036854775808 ≤ n) (h1 : n ≤ 9223372036854775807) (he : tkE ((St.new c).doAll (ps.map (·.1))) n ≠ 0) :
    Calls Tryz.prog 19 #[.pointer (some ⟨R, 0, none⟩), .int .i64 n] w fun e w' => e = .returned (.int .i64 8) ∧ w' = w := by
  have n1 : sumT (ps.map (·.1)) ≤ 100000 := by
    have h1 := h.inv.n1
    rw [rf_now] at h1
    exact h1
  have n0 : 0 ≤ sumT (ps.map (·.1)) := sumT_nn h.tks
  have HN := now_ref R F c ps L lcap _ w h
  obtain ⟨_, hr⟩ := tkE_no he
  rw [rf_now] at hr
  clear h he
  generalize sumT (ps.map (·.1)) = now at *
  have hd : 100000 < now + n → decide (now + n ≤ 100000) = false := fun h => by simp; omega
  rcases hr with hr | ⟨hr, hr2⟩ | ⟨hr, hr2, hr3⟩
  case' inr.inr => have hd' := hd hr3
  all_goals
    clear hd
    go_enter Tryz.func19, Tryz.ntmps19
    go_wp2_with fail
    refine HN.mono ?_
    rintro e w1 ⟨rfl, rfl⟩
    clear HN
    go_wp2_with fail
    go_ret
    exact ⟨rfl, rfl⟩

end Go.Proofs.YthciddpljcbhiabGreatDoor

/- Walks: the document's store: all samples, the age of a time (garnerref). -/
namespace Go.Proofs.YthciddpljcbhiabGreatDoor
open Go Go.RowKit Go.Lib

theorem flatS_add (a b : List Sm) : flatS (a ++ b) = flatS a ++ flatS b := by simp [flatS]
theorem allS_succ (ps : List Cp) (k : Nat) (h : k < ps.length) : allS ((ps.map (·.1)).take (k + 1)) = allS ((ps.map (·.1)).take k) ++ (cpG ps k).1.smp := by
  rw [List.take_succ_eq_append_getElem (by simpa using h), allS_append, cpG_get ps k h]
  simp [allS]
theorem allS_take (cs : List Chg) (k : Nat) : (allS (cs.take k)).length ≤ (allS cs).length := by
  have h := allS_append (cs.take k) (cs.drop k)
  rw [List.take_append_drop] at h
  rw [h, List.length_append]
  omega

set_option maxHeartbeats 1000000 in
set_option maxRecDepth 100000 in
theorem samples_ref (R : Nat) (F : Nat → Prop) (c : Cf) (ps : List Cp) (L lcap : Nat) (cv : Value) (w : World) (h : RfS w R F c ps L lcap cv) :
    Calls Tryz.prog 73 #[.pointer (some ⟨R, 0, none⟩)] w fun e w' => ∃ va vc, e = .returned (.slice va (allS (ps.map (·.1))).length vc) ∧ w'.ownsRow w.heap.size 76 5 (.slice va (allS (ps.map (·.1))).length vc) (allS (ps.map (·.1))).length (flatS (allS (ps.map (·.1)))) ∧ Below w.heap.size w w' := by
  obtain ⟨a, cap, rfl⟩ := ownForm h.chg
  have HH : Hid (RfS w R F c ps L lcap (.slice a ps.length cap)) := h
  have hfew : ps.length ≤ 100500 := by
    have h1 := few_chg h.tks
    have h2 := h.inv.len
    have h4 := h.inv.n1
    rw [rf_now] at h4
    rw [doAll_l] at h2
    have h3 : ((St.new c).l ++ allS (ps.map (·.1))).length = (allS (ps.map (·.1))).length := rfl
    rw [h3] at h2
    rw [List.length_map] at h1
    omega
  have hlen : (allS (ps.map (·.1))).length ≤ 500 := by
    have h2 := h.inv.len
    rw [doAll_l] at h2
    exact h2
  have HSU : Hid (∀ k, k < ps.length → allS ((ps.map (·.1)).take (k + 1)) = allS ((ps.map (·.1)).take k) ++ (cpG ps k).1.smp) := allS_succ ps
  have HTK : Hid (∀ k, (allS ((ps.map (·.1)).take k)).length ≤ (allS (ps.map (·.1))).length) := fun k => allS_take _ k
  have HAL : Hid ((ps.map (·.1)).take ps.length = ps.map (·.1)) := List.take_of_length_le (by simp)
  obtain ⟨li0, hli, lz0, lz1, lz2⟩ := infP Tryz.info76'
  clear h
  generalize hcs : ps.map (·.1) = cs at *
  clear hcs
  go_enter Tryz.func73, Tryz.ntmps73
  go_wp2_with fail
  go_loopw [3, 4] (fun l i wr => ∃ k : Nat, i = .int .i64 k ∧ k ≤ ps.length ∧ ∃ va vc, l = .slice va (allS (cs.take k)).length vc ∧ wr.ownsRow w.heap.size 76 5 (.slice va (allS (cs.take k)).length vc) (allS (cs.take k)).length (flatS (allS (cs.take k))) ∧ Below w.heap.size w wr) (fun _ i _ => ps.length - (intOf i).toNat)
  case atStart => exact ⟨0, rfl, Nat.zero_le _, none, 0, rfl, World.ownsRow_nil _ _ _ _, Below.refl _ _⟩
  case round =>
    obtain ⟨k, rfl, hk, va, vc, rfl, hown, hb⟩ := hrel
    have HR : Hid (RfS wr R F c ps L lcap (.slice a ps.length cap)) := HH.out.below hb
    have HB : Hid (Below w.heap.size w wr) := hb
    have HO : Hid (wr.ownsRow w.heap.size 76 5 (.slice va (allS (cs.take k)).length vc) (allS (cs.take k)).length (flatS (allS (cs.take k)))) := hown
    have hz := hb.size
    clear hown hb
    have c3 := HR.out.cell 3 _ rfl
    by_cases hlt : k < ps.length
    · obtain ⟨g, rfl, e0, e1⟩ := owns_cp HR.out.chg k hlt
      obtain ⟨ba, bn, bc, hbv, hbn, hb0, hbat⟩ := HR.out.bat k hlt
      have HS := HSU.out k hlt
      have ht1 := HTK.out (k + 1)
      rw [hbv] at e1
      clear e0
      generalize (cpG ps k).1.smp = S at *
      generalize hA : allS (cs.take k) = A at *
      have HB1 : Hid (allS (cs.take (k + 1)) = A ++ S) := HS
      have hsum : A.length + bn ≤ 500 := by rw [HS, List.length_append] at ht1; omega
      clear hA HS ht1
      by_cases h0 : bn = 0
      · obtain ⟨rfl, rfl⟩ := hb0 h0
        subst h0
        have hS : S = [] := List.eq_nil_of_length_eq_zero hbn
        subst hS
        have HX : Hid (wr.ownsRow w.heap.size 76 5 (.slice va (allS (cs.take (k + 1))).length vc) (allS (cs.take (k + 1))).length (flatS (allS (cs.take (k + 1)))) ∧ A.length = (allS (cs.take (k + 1))).length) := by
          show _ ∧ _
          rw [HB1.out, List.append_nil]
          exact ⟨HO.out, rfl⟩
        clear hbat hbn hb0
        have hform : (va = none ∧ A.length = 0 ∧ vc = 0) ∨ ∃ g', va = some ⟨g', 0, none⟩ ∧ A.length ≤ vc := by
          rcases HO.out.2 with ⟨hv, _⟩ | ⟨g', cp, _, hv, _, _, hc, _⟩
          · injection hv with q1 q2 q3
            exact .inl ⟨q1, q2, q3⟩
          · injection hv with q1 q2 q3
            exact .inr ⟨g', q1, by omega⟩
        rcases hform with ⟨rfl, hA0, rfl⟩ | ⟨g', rfl, hle⟩
        · rw [hA0] at HX ⊢
          go_wp2_with fail
          exact ⟨⟨k + 1, by go_num, by omega, none, 0, by rw [← HX.out.2], HX.out.1, HB.out⟩, by simp [intOf]; omega⟩
        · go_wp2_with fail
          exact ⟨⟨k + 1, by go_num, by omega, _, vc, by rw [HX.out.2], HX.out.1, HB.out⟩, by simp [intOf]; omega⟩
      · obtain ⟨b, rfl, _, _, _, _, hat⟩ := hbat (by omega)
        have HAT : Hid (∀ j u, (flatS S)[j]? = some u → wr.cell? ((⟨b, 0, none⟩ : Addr).add j) = some u) := fun j u hj => by rw [Addr.add_lit]; exact at_of_sm hat j u hj
        have HN : Hid (S.length = bn) := hbn
        clear hat hbat hbn
        go_wp2_with (refine listAppend rfl (.tmp 14) (.tmp 22) 43 rfl w.heap.size 76 li0 (.agg #[.int .i64 0, .int .u8 0, .int .u8 0, .int .u8 0, .int .i32 0]) 5 16 Tryz.underlying43 hli lz0 lz1 lz2 rfl (by decide) (.slice va A.length vc) A.length (flatS A) (by simp [Act.eval]) HO.out ⟨b, 0, none⟩ bn bc (flatS S) (by simp [Act.eval]) (by rw [flatS_len, HN.out]) HAT.out (flatS_one S) (by unfold maxLen; omega) (by omega) hz ?_; intro sv' w4 hown hgrow hblk; obtain ⟨a', p', rfl⟩ := ownForm hown)
        have HX : Hid (w4.ownsRow w.heap.size 76 5 (.slice a' (allS (cs.take (k + 1))).length p') (allS (cs.take (k + 1))).length (flatS (allS (cs.take (k + 1)))) ∧ Below w.heap.size w w4 ∧ A.length + bn = (allS (cs.take (k + 1))).length) := by
          show _ ∧ _ ∧ _
          rw [HB1.out, List.length_append, HN.out, flatS_add]
          exact ⟨hown, HB.out.grown hgrow hz (fun k e => (HO.out.lt k e).1), rfl⟩
        clear hown hgrow hblk
        go_wp2_with fail
        exact ⟨⟨k + 1, by go_num, by omega, a', p', by rw [HX.out.2.2], HX.out.1, HX.out.2.1⟩, by simp [intOf]; omega⟩
    · have hkE : ps.length = k := by omega
      have HA2 : Hid (cs.take k = cs) := by rw [← hkE]; exact HAL.out
      rw [HA2.out] at HO ⊢
      go_wp2_with fail
      go_ret
      exact ⟨va, vc, rfl, HO.out, HB.out⟩

end Go.Proofs.YthciddpljcbhiabGreatDoor

/- Walks: the document's store: the age of a time (garnerref). -/
namespace Go.Proofs.YthciddpljcbhiabGreatDoor
open Go Go.RowKit Go.Lib

theorem age_ref (R : Nat) (F : Nat → Prop) (c : Cf) (ps : List Cp) (L lcap : Nat) (cv : Value) (t : Int) (w : World) (h : RfS w R F c ps L lcap cv) (h1 : 1 ≤ c.span) (h2 : c.span ≤ 100) (t0 : 0 ≤ t) (t1 : t ≤ 100100) :
    Calls Tryz.prog 72 #[.pointer (some ⟨R, 0, none⟩), .int .i64 t] w fun e w' => e = .returned (.int .i64 (c.age (sumT (ps.map (·.1))) t)) ∧ ∃ d, w' = w.drewN d := by
  have HH : Hid (RfS w R F c ps L lcap cv) := h
  have n1 : sumT (ps.map (·.1)) ≤ 100000 := by
    have h1 := h.inv.n1
    rw [rf_now] at h1
    exact h1
  have n0 : 0 ≤ sumT (ps.map (·.1)) := sumT_nn h.tks
  have c0 := h.cell 0 _ rfl
  clear h
  have HN := now_ref R F c ps L lcap cv w HH.out
  generalize sumT (ps.map (·.1)) = now at *
  have hsp : ¬ c.span = 0 := by omega
  have d0 : 0 ≤ now / c.span := Int.ediv_nonneg n0 (by omega)
  have d1 : now / c.span ≤ now := Int.ediv_le_self _ n0
  have d2 : 0 ≤ t / c.span := Int.ediv_nonneg t0 (by omega)
  have d3 : t / c.span ≤ t := Int.ediv_le_self _ t0
  go_enter Tryz.func72, Tryz.ntmps72
  go_wp2_with fail
  refine HN.mono ?_
  rintro e w1 ⟨rfl, rfl⟩
  clear HN
  go_wp2_with fail
  go_quiet (fail)
  go_wp2_with fail
  go_ret
  exact ⟨rfl, _, rfl⟩

end Go.Proofs.YthciddpljcbhiabGreatDoor

/- Walks: the document's store: a Write that is accepted (garnerref). -/
namespace Go.Proofs.YthciddpljcbhiabGreatDoor
open Go Go.RowKit Go.Lib

set_option maxHeartbeats 1000000 in
set_option maxRecDepth 100000 in
theorem write_ref_yes (R : Nat) (F : Nat → Prop) (c : Cf) (ps : List Cp) (L lcap : Nat) (cv : Value) (a : Option Addr) (n cap : Nat) (ls : List Sm) (w : World) (h : RfS w R F c ps L lcap cv) (hs : IsSms w a n ls) (hwf : ∀ x ∈ ls, x.wf) (he : wrE ((St.new c).doAll (ps.map (·.1))) ls = 0) :
    Calls Tryz.prog 42 #[.pointer (some ⟨R, 0, none⟩), .slice a n cap] w fun e w' => e = .returned (.int .i64 0) ∧ (∃ cv' bv, RfS w' R (gF F w w') c (ps ++ [(.w ls, bv)]) L lcap cv') ∧ Fr F w w' := by
  obtain ⟨ca, cc, rfl⟩ := ownForm h.chg
  have HH : Hid (RfS w R F c ps L lcap (.slice ca ps.length cc)) := h
  have HS : Hid (IsSms w a n ls) := hs
  obtain ⟨hb0, hlate, hroom⟩ := wrE_ok he
  obtain ⟨b1, b2, b3⟩ := (batE_zero ls).1 hb0
  have hnl : ls.length = n := hs.1
  obtain ⟨b, off, rfl, hat⟩ := hs.2 (by omega)
  have hbl : b < w.heap.size := hat.block (by omega)
  have n1 : sumT (ps.map (·.1)) ≤ 100000 := by
    have h1 := h.inv.n1
    rw [rf_now] at h1
    exact h1
  have n0 : 0 ≤ sumT (ps.map (·.1)) := sumT_nn h.tks
  have hfew := chg_few h
  have hallS : ((St.new c).doAll (ps.map (·.1))).l.length = (allS (ps.map (·.1))).length := by rw [doAll_l]; rfl
  have hcc : ∀ (cs : List Chg) (s : St), (s.doAll cs).c = s.c := by
    intro cs
    induction cs with
    | nil => intro s; rfl
    | cons c cs ih =>
      intro s
      show ((s.do c).doAll cs).c = s.c
      rw [ih]
      cases c <;> rfl
  have HLT : Hid (∀ x ∈ ls, x.time ≤ sumT (ps.map (·.1)) ∧ c.age (sumT (ps.map (·.1))) x.time ≤ c.keep) := fun x hx => by
    have h1 := hlate x hx
    unfold lateB at h1
    rw [rf_now, hcc] at h1
    simp only [Bool.or_eq_false_iff, decide_eq_false_iff_not] at h1
    exact ⟨by omega, by have := h1.2; show _ ≤ _; exact Int.not_lt.1 this⟩
  have HOK : Hid (∀ x ∈ ls, 0 ≤ x.time ∧ x.time ≤ 100000) := fun x hx => by
    obtain ⟨i, hi, rfl⟩ := List.getElem_of_mem hx
    have h3 := List.all_eq_true.1 b3 i (by simpa using hi)
    rw [smG_get ls i hi] at h3
    have h2 := (smOk_iff _).1 h3
    exact ⟨h2.1, h2.2.1⟩
  obtain ⟨sp1, sp2, _⟩ := Cf.right_parts (show c.right = true by have := h.inv.right; rw [hcc] at this; exact this)
  rw [hallS] at hroom
  have HI : Hid (∀ bv, Inv ((St.new c).doAll ((ps ++ [((.w ls, bv) : Cp)]).map (·.1)))) := fun bv => by
    rw [List.map_append, doAll_append]
    exact h.inv.wr he hwf
  have HT : Hid (∀ bv, TkOk ((ps ++ [((.w ls, bv) : Cp)]).map (·.1))) := fun bv x hx => by
    rw [List.map_append, List.mem_append] at hx
    rcases hx with hx | hx
    · exact h.tks x hx
    · simp at hx
      subst hx
      show (0 : Int) ≤ 0 ∧ 1 ≤ 0 + (ls.length : Int)
      omega
  have HB0 : Hid (batE ls = 0) := hb0
  have HAT : Hid (SmAt w b off ls) := hat
  obtain ⟨li0, hli, lz0, lz1, lz2⟩ := infP Tryz.info110'
  clear h he hs hlate hb0 hat hallS hcc
  go_enter Tryz.func42, Tryz.ntmps42
  go_wp2_with fail
  refine (rightBatch_any _ n cap ls w HS.out).mono ?_
  rintro e w1 ⟨rfl, hb1⟩
  rw [HB0.out]
  have HB1 : Hid (Below w.heap.size w w1) := hb1
  clear hb1
  go_wp2_with fail
  refine (now_ref R F c ps L lcap _ w1 (HH.out.below HB1.out)).mono ?_
  rintro e w2 ⟨rfl, rfl⟩
  have HAGE : Hid (∀ t W, Below w.heap.size w W → 0 ≤ t → t ≤ 100000 → Calls Tryz.prog 72 #[.pointer (some ⟨R, 0, none⟩), .int .i64 t] W fun e w' => e = .returned (.int .i64 (c.age (sumT (ps.map (·.1))) t)) ∧ ∃ d, w' = W.drewN d) := fun t W hW t0 t1 => age_ref R F c ps L lcap _ t W (HH.out.below hW) sp1 sp2 t0 (by omega)
  have HSMP := fun W (hW : Below w.heap.size w W) => samples_ref R F c ps L lcap _ W (HH.out.below hW)
  have HSM2 : Hid (∀ W (hW : Below w.heap.size w W), Calls Tryz.prog 73 #[.pointer (some ⟨R, 0, none⟩)] W fun e w' => ∃ va vc, e = .returned (.slice va (allS (ps.map (·.1))).length vc) ∧ w'.ownsRow W.heap.size 76 5 (.slice va (allS (ps.map (·.1))).length vc) (allS (ps.map (·.1))).length (flatS (allS (ps.map (·.1)))) ∧ Below W.heap.size W w') := HSMP
  clear HSMP
  generalize sumT (ps.map (·.1)) = now at *
  generalize (allS (ps.map (·.1))).length = N at *
  go_wp2_with fail
  go_loopw [7] (fun i wr => ∃ k : Nat, i = .int .i64 k ∧ k ≤ n ∧ Below w.heap.size w wr) (fun i _ => n - (intOf i).toNat)
  case atStart => exact ⟨0, rfl, Nat.zero_le _, HB1.out⟩
  case round =>
    obtain ⟨k, rfl, hk, hb⟩ := hrel
    have HB : Hid (Below w.heap.size w wr) := hb
    clear hb
    by_cases hlt : k < n
    · obtain ⟨c0, _⟩ := HAT.out k (by omega)
      have hmem : smG ls k ∈ ls := by rw [smG_get ls k (by omega)]; exact List.getElem_mem _
      obtain ⟨t0, t1⟩ := HOK.out _ hmem
      obtain ⟨t2, t3⟩ := HLT.out _ hmem
      have x0 : wr.cell? ⟨b, off + k * 5, none⟩ = some (.int .i64 (smG ls k).time) := (HB.out.cell (p := ⟨b, off + k * 5, none⟩) hbl).trans c0
      have x1 := (HH.out.below HB.out).cell 1 _ rfl
      clear c0 hmem
      generalize (smG ls k).time = t at *
      have HA := HAGE.out t wr HB.out t0 t1
      generalize c.age now t = ag at *
      have HKP : Hid (Below w.heap.size w wr) := HB.out
      go_wp2_with fail
      refine HA.mono ?_
      rintro e w3 ⟨rfl, d, rfl⟩
      clear HA
      have y0 : (wr.drewN d).cell? ⟨b, off + k * 5, none⟩ = some (.int .i64 t) := x0
      have y1 : (wr.drewN d).cell? ⟨R, 1, none⟩ = some (.int .i64 c.keep) := x1
      have HB3 : Hid (Below w.heap.size w (wr.drewN d)) := below_drewN HB.out d
      clear x0 x1
      generalize wr.drewN d = w3 at *
      go_wp2_with fail
      exact ⟨⟨k + 1, by go_num, by omega, HB3.out⟩, by simp [intOf]; omega⟩
    · have hlt2 : ¬ (k : Int) < n := by omega
      go_wp2_with fail
      refine (HSM2.out wr HB.out).mono ?_
      rintro e w3 ⟨va, vc, rfl, _, hb3⟩
      have HB3 : Hid (Below w.heap.size w w3) := HB.out.trans (hb3.mono HB.out.size)
      clear hb3
      obtain ⟨Z, hZ, hmk⟩ := make42m n (by omega)
      have hcp := fun ty => copy42m w3 Z (some ⟨b, off, none⟩) n cap ls hZ (HS.out.below HB3.out) (by omega) ty
      clear hZ
      have hz3 := HB3.out.size
      have HM4 : Hid (SmAt (w3.alloc (.cells (flatS ls).toArray 76)) w3.heap.size 0 ls) := smAt_of (at_alloc_new w3 (flatS ls) 76)
      have HB4 : Hid (Below w.heap.size w (w3.alloc (.cells (flatS ls).toArray 76))) := HB3.out.alloc hz3 _
      have hz4 : (w3.alloc (.cells (flatS ls).toArray 76)).heap.size = w3.heap.size + 1 := World.size_alloc _ _
      generalize hW4 : w3.alloc (.cells (flatS ls).toArray 76) = w4 at *
      have HH4 := HH.out.below HB4.out
      have c3 := HH4.cell 3 _ rfl
      have hlt4 := HH4.lt
      have z3 : w4.frozen? ⟨R, 3, none⟩ = false := froz_blk HH4.blk
      have hb5 : Below w4.heap.size w4 (w4.alloc (.cells (cpC (.w ls, .slice (some ⟨w3.heap.size, 0, none⟩) n n)).toArray 110)) := (Below.refl _ _).alloc (Nat.le_refl _) _
      have HB5 : Hid (Below w.heap.size w (w4.alloc (.cells (cpC (.w ls, .slice (some ⟨w3.heap.size, 0, none⟩) n n)).toArray 110))) := HB4.out.alloc (by omega) _
      have HO : Hid ((w4.alloc (.cells (cpC (.w ls, .slice (some ⟨w3.heap.size, 0, none⟩) n n)).toArray 110)).ownsRow 0 110 2 (.slice ca ps.length cc) ps.length (flatH ps)) := (HH4.below hb5).chg
      have HNW : Hid (∀ j u, (cpC (.w ls, .slice (some ⟨w3.heap.size, 0, none⟩) n n))[j]? = some u → (w4.alloc (.cells (cpC (.w ls, .slice (some ⟨w3.heap.size, 0, none⟩) n n)).toArray 110)).cell? ((⟨w4.heap.size, 0, none⟩ : Addr).add j) = some u) := newAt _ _ _ _ rfl
      have HCR : Hid ((Value.slice ca ps.length cc).ownBlock ≠ some R) := HH4.cR
      have hlt1 : R < (w4.alloc (.cells (cpC (.w ls, .slice (some ⟨w3.heap.size, 0, none⟩) n n)).toArray 110)).heap.size := by rw [World.size_alloc]; omega
      have hz5 : (w4.alloc (.cells (cpC (.w ls, .slice (some ⟨w3.heap.size, 0, none⟩) n n)).toArray 110)).heap.size = w4.heap.size + 1 := World.size_alloc _ _
      have d3 : (w4.alloc (.cells (cpC (.w ls, .slice (some ⟨w3.heap.size, 0, none⟩) n n)).toArray 110)).cell? ⟨R, 3, none⟩ = some (.slice ca ps.length cc) := (hb5.cell (p := ⟨R, 3, none⟩) hlt4).trans c3
      have y3 : (w4.alloc (.cells (cpC (.w ls, .slice (some ⟨w3.heap.size, 0, none⟩) n n)).toArray 110)).frozen? ⟨R, 3, none⟩ = false := (World.frozen?_of_block (hb5.block R hlt4)).trans z3
      have HM5 : Hid (SmAt (w4.alloc (.cells (cpC (.w ls, .slice (some ⟨w3.heap.size, 0, none⟩) n n)).toArray 110)) w3.heap.size 0 ls) := HM4.out.below hb5 (by omega)
      clear hb5 HH4 hW4
      go_wp2_with (refine listAppend rfl (.tmp 65) (.tmp 68) 71 rfl 0 110 li0 (.agg #[.int .i64 0, .slice none 0 0]) 2 32 Tryz.underlying71 hli lz0 lz1 lz2 rfl (by decide) (.slice ca ps.length cc) ps.length (flatH ps) (by simp [Act.eval]) HO.out ⟨w4.heap.size, 0, none⟩ 1 1 (cpC (.w ls, .slice (some ⟨w3.heap.size, 0, none⟩) n n)) (by simp [Act.eval]) rfl HNW.out (by simp [cpC, Value.oneCell']) (by unfold maxLen; omega) (by omega) (Nat.zero_le _) ?_; intro sv' w6 hown hgrow hblk; have d4 : w6.cell? ⟨R, 3, none⟩ = some (.slice ca ps.length cc) := hgrow.cell d3 (fun e => HCR.out e.symm); have z4 : w6.frozen? ⟨R, 3, none⟩ = false := (World.frozen?_of_block (hgrow.block R hlt1 (fun e => HCR.out e.symm))).trans y3; obtain ⟨a', p', rfl⟩ := ownForm hown)
      go_ret
      have hoc : (Value.slice ca ps.length cc).ownBlock ≠ some w3.heap.size := fun e => by have := (HH.out.chg.lt _ e).2; omega
      have hfr' : Fr (fun k => k = R ∨ (Value.slice ca ps.length cc).ownBlock = some k) (w4.alloc (.cells (cpC (.w ls, .slice (some ⟨w3.heap.size, 0, none⟩) n n)).toArray 110)) (w6.setCell ⟨R, 3, none⟩ (.slice a' (ps.length + 1) p')) := (Fr.grown (Fr.refl _ _) hgrow (fun k e => .inl (.inr e))).setCell (.inl (.inl rfl)) _
      have hzz := hfr'.size
      have hRl := HH.out.lt
      have hLl := HH.out.Llt
      obtain ⟨g1, g2⟩ := HH.out.put HB5.out hgrow hown hblk (HI.out _) (HT.out _) ⟨_, n, n, rfl, hnl, fun h => by omega, fun _ => ⟨w3.heap.size, rfl, .inr ⟨hz3, by omega⟩, by omega, by omega, fun e => by
        rcases hblk with hk2 | hk2
        · rw [hk2] at e; exact hoc e
        · have h9 : (w4.alloc (.cells (cpC (.w ls, .slice (some ⟨w3.heap.size, 0, none⟩) n n)).toArray 110)).heap.size ≤ w3.heap.size := hk2 _ e
          omega, smAt_of (At.fr (at_of_sm HM5.out) hfr' (fun e => by rcases e with e | e; omega; exact hoc e))⟩⟩
      exact ⟨rfl, ⟨_, _, g1⟩, g2⟩

end Go.Proofs.YthciddpljcbhiabGreatDoor

/- Walks: the document's store: a Write that is refused (garnerref). -/
namespace Go.Proofs.YthciddpljcbhiabGreatDoor
open Go Go.RowKit Go.Lib

theorem doAll_cf : ∀ (cs : List Chg) (s : St), (s.doAll cs).c = s.c
  | [], _ => rfl
  | c :: cs, s => by
    have := doAll_cf cs (s.do c)
    show ((s.do c).doAll cs).c = s.c
    rw [this]
    cases c <;> rfl
theorem wrE_lateR {s : St} {ls : List Sm} (h : batE ls = 0) {x : Sm} (hx : x ∈ ls) (hl : lateB s x = true) : wrE s ls = 6 := by
  unfold wrE
  rw [if_neg (by simpa using h), if_pos (List.any_eq_true.2 ⟨x, hx, hl⟩)]
theorem wrE_fullR {s : St} {ls : List Sm} (h : batE ls = 0) (hl : ∀ x ∈ ls, lateB s x = false) (he : wrE s ls ≠ 0) : wrE s ls = 7 ∧ 500 < s.l.length + ls.length := by
  unfold wrE at he ⊢
  have h1 : ¬ (ls.any (lateB s) = true) := by
    rw [List.any_eq_true]
    rintro ⟨x, hx, h2⟩
    rw [hl x hx] at h2
    cases h2
  rw [if_neg (by simpa using h), if_neg h1] at he ⊢
  split
  · next h2 => exact ⟨rfl, h2⟩
  · next h2 => rw [if_neg h2] at he; exact absurd rfl he

set_option maxHeartbeats 1000000 in
set_option maxRecDepth 100000 in
theorem write_ref_no (R : Nat) (F : Nat → Prop) (c : Cf) (ps : List Cp) (L lcap : Nat) (cv : Value) (a : Option Addr) (n cap : Nat) (ls : List Sm) (w : World) (h : RfS w R F c ps L lcap cv) (hs : IsSms w a n ls) (he : wrE ((St.new c).doAll (ps.map (·.1))) ls ≠ 0) :
    Calls Tryz.prog 42 #[.pointer (some ⟨R, 0, none⟩), .slice a n cap] w fun e w' => e = .returned (.int .i64 (wrE ((St.new c).doAll (ps.map (·.1))) ls)) ∧ Below w.heap.size w w' := by
  obtain ⟨ca, cc, rfl⟩ := ownForm h.chg
  have HH : Hid (RfS w R F c ps L lcap (.slice ca ps.length cc)) := h
  have HS : Hid (IsSms w a n ls) := hs
  by_cases hb0 : batE ls = 0
  · obtain ⟨b1, b2, b3⟩ := (batE_zero ls).1 hb0
    have hnl : ls.length = n := hs.1
    obtain ⟨b, off, rfl, hat⟩ := hs.2 (by omega)
    have hbl : b < w.heap.size := hat.block (by omega)
    have n1 : sumT (ps.map (·.1)) ≤ 100000 := by
      have h1 := h.inv.n1
      rw [rf_now] at h1
      exact h1
    have n0 : 0 ≤ sumT (ps.map (·.1)) := sumT_nn h.tks
    have hlen : ((St.new c).doAll (ps.map (·.1))).l.length = (allS (ps.map (·.1))).length := by rw [doAll_l]; rfl
    have hl5 : (allS (ps.map (·.1))).length ≤ 500 := by have := h.inv.len; omega
    have HLB : Hid (∀ x, lateB ((St.new c).doAll (ps.map (·.1))) x = (decide (sumT (ps.map (·.1)) < x.time) || decide (c.keep < c.age (sumT (ps.map (·.1))) x.time))) := fun x => by
      unfold lateB
      rw [rf_now, doAll_cf]
      rfl
    have HOK : Hid (∀ x ∈ ls, 0 ≤ x.time ∧ x.time ≤ 100000) := fun x hx => by
      obtain ⟨i, hi, rfl⟩ := List.getElem_of_mem hx
      have h3 := List.all_eq_true.1 b3 i (by simpa using hi)
      rw [smG_get ls i hi] at h3
      have h2 := (smOk_iff _).1 h3
      exact ⟨h2.1, h2.2.1⟩
    obtain ⟨sp1, sp2, _⟩ := Cf.right_parts (show c.right = true by have := h.inv.right; rw [doAll_cf] at this; exact this)
    have HB0 : Hid (batE ls = 0) := hb0
    have HE : Hid (wrE ((St.new c).doAll (ps.map (·.1))) ls ≠ 0) := he
    have HAT : Hid (SmAt w b off ls) := hat
    have HLA : Hid (∀ x ∈ ls, lateB ((St.new c).doAll (ps.map (·.1))) x = true → wrE ((St.new c).doAll (ps.map (·.1))) ls = 6) := fun x hx hl => wrE_lateR HB0.out hx hl
    have HFU : Hid ((∀ x ∈ ls, lateB ((St.new c).doAll (ps.map (·.1))) x = false) → wrE ((St.new c).doAll (ps.map (·.1))) ls = 7 ∧ 500 < (allS (ps.map (·.1))).length + n) := fun hl => by
      obtain ⟨h1, h2⟩ := wrE_fullR HB0.out hl HE.out
      exact ⟨h1, by omega⟩
    have HAGE : Hid (∀ t W, Below w.heap.size w W → 0 ≤ t → t ≤ 100000 → Calls Tryz.prog 72 #[.pointer (some ⟨R, 0, none⟩), .int .i64 t] W fun e w' => e = .returned (.int .i64 (c.age (sumT (ps.map (·.1))) t)) ∧ ∃ d, w' = W.drewN d) := fun t W hW t0 t1 => age_ref R F c ps L lcap _ t W (HH.out.below hW) sp1 sp2 t0 (by omega)
    have HSM2 : Hid (∀ W (hW : Below w.heap.size w W), Calls Tryz.prog 73 #[.pointer (some ⟨R, 0, none⟩)] W fun e w' => ∃ va vc, e = .returned (.slice va (allS (ps.map (·.1))).length vc) ∧ w'.ownsRow W.heap.size 76 5 (.slice va (allS (ps.map (·.1))).length vc) (allS (ps.map (·.1))).length (flatS (allS (ps.map (·.1)))) ∧ Below W.heap.size W w') := fun W hW => samples_ref R F c ps L lcap _ W (HH.out.below hW)
    clear h he hs hb0 hat hlen
    generalize hSS : (St.new c).doAll (ps.map (·.1)) = SS at *
    clear hSS
    go_enter Tryz.func42, Tryz.ntmps42
    go_wp2_with fail
    refine (rightBatch_any _ n cap ls w HS.out).mono ?_
    rintro e w1 ⟨rfl, hb1⟩
    rw [HB0.out]
    have HB1 : Hid (Below w.heap.size w w1) := hb1
    clear hb1
    go_wp2_with fail
    refine (now_ref R F c ps L lcap _ w1 (HH.out.below HB1.out)).mono ?_
    rintro e w2 ⟨rfl, rfl⟩
    generalize sumT (ps.map (·.1)) = now at *
    generalize (allS (ps.map (·.1))).length = N at *
    go_wp2_with fail
    go_loopw [7] (fun i wr => ∃ k : Nat, i = .int .i64 k ∧ k ≤ n ∧ (∀ i, i < k → lateB SS (smG ls i) = false) ∧ Below w.heap.size w wr) (fun i _ => n - (intOf i).toNat)
    case atStart => exact ⟨0, rfl, Nat.zero_le _, fun i hi => by omega, HB1.out⟩
    case round =>
      obtain ⟨k, rfl, hk, hnl8, hb⟩ := hrel
      have HB : Hid (Below w.heap.size w wr) := hb
      have HNL : Hid (∀ i, i < k → lateB SS (smG ls i) = false) := hnl8
      clear hb hnl8
      by_cases hlt : k < n
      · obtain ⟨c0, _⟩ := HAT.out k (by omega)
        have hmem : smG ls k ∈ ls := by rw [smG_get ls k (by omega)]; exact List.getElem_mem _
        obtain ⟨t0, t1⟩ := HOK.out _ hmem
        have HLk : Hid (lateB SS (smG ls k) = (decide (now < (smG ls k).time) || decide (c.keep < c.age now (smG ls k).time))) := HLB.out _
        have HL6 : Hid (lateB SS (smG ls k) = true → wrE SS ls = 6) := HLA.out _ hmem
        have x0 : wr.cell? ⟨b, off + k * 5, none⟩ = some (.int .i64 (smG ls k).time) := (HB.out.cell (p := ⟨b, off + k * 5, none⟩) hbl).trans c0
        have x1 := (HH.out.below HB.out).cell 1 _ rfl
        have HA := HAGE.out _ wr HB.out t0 t1
        clear c0 hmem
        have HNX : Hid (lateB SS (smG ls k) = false → ∀ i, i < k + 1 → lateB SS (smG ls i) = false) := fun h i hi => by
          by_cases e : i = k
          · rw [e]; exact h
          · exact HNL.out i (by omega)
        generalize lateB SS (smG ls k) = LB at *
        generalize (smG ls k).time = t at *
        generalize c.age now t = ag at *
        go_wp2_with fail
        refine HA.mono ?_
        rintro e w3 ⟨rfl, d, rfl⟩
        clear HA
        have y0 : (wr.drewN d).cell? ⟨b, off + k * 5, none⟩ = some (.int .i64 t) := x0
        have y1 : (wr.drewN d).cell? ⟨R, 1, none⟩ = some (.int .i64 c.keep) := x1
        have HB3 : Hid (Below w.heap.size w (wr.drewN d)) := below_drewN HB.out d
        clear x0 x1
        generalize wr.drewN d = w3 at *
        by_cases q1 : now < t
        · have h6 := HL6.out (by rw [HLk.out]; simp [q1])
          have H6 : Hid (wrE SS ls = 6) := h6
          clear h6
          go_wp2_with fail
          go_ret
          exact ⟨by rw [H6.out]; rfl, HB3.out⟩
        · by_cases q2 : c.keep < ag
          · have h6 := HL6.out (by rw [HLk.out]; simp [q2])
            have H6 : Hid (wrE SS ls = 6) := h6
            clear h6
            go_wp2_with fail
            go_ret
            exact ⟨by rw [H6.out]; rfl, HB3.out⟩
          · have h7 := HNX.out (by rw [HLk.out]; simp [q1, q2])
            have H7 : Hid (∀ i, i < k + 1 → lateB SS (smG ls i) = false) := h7
            clear h7
            go_wp2_with fail
            exact ⟨⟨k + 1, by go_num, by omega, H7.out, HB3.out⟩, by simp [intOf]; omega⟩
      · have hlt2 : ¬ (k : Int) < n := by omega
        obtain ⟨h7, h8⟩ := HFU.out (fun x hx => by
          obtain ⟨i, hi, rfl⟩ := List.getElem_of_mem hx
          rw [← smG_get ls i hi]
          exact HNL.out i (by omega))
        have H7 : Hid (wrE SS ls = 7) := h7
        clear h7
        go_wp2_with fail
        refine (HSM2.out wr HB.out).mono ?_
        rintro e w3 ⟨va, vc, rfl, _, hb3⟩
        have HB3 : Hid (Below w.heap.size w w3) := HB.out.trans (hb3.mono HB.out.size)
        clear hb3
        go_wp2_with fail
        go_ret
        exact ⟨by rw [H7.out]; rfl, HB3.out⟩
  · have hw : wrE ((St.new c).doAll (ps.map (·.1))) ls = batE ls := by unfold wrE; rw [if_pos hb0]
    rw [hw]
    obtain ⟨e0, e1⟩ := batE_le ls
    have hbq : (batE ls != 0) = true := by simpa using hb0
    have HRB := rightBatch_any a n cap ls w HS.out
    clear hw he hb0 h hs
    generalize batE ls = E at *
    go_enter Tryz.func42, Tryz.ntmps42
    go_wp2_with fail
    refine HRB.mono ?_
    rintro e w1 ⟨rfl, hb1⟩
    have HB1 : Hid (Below w.heap.size w w1) := hb1
    clear hb1 HRB
    go_wp2_with fail
    go_ret
    exact ⟨rfl, HB1.out⟩

end Go.Proofs.YthciddpljcbhiabGreatDoor

/- The drawer: all lists that came out, each written over (no program). -/
namespace Go.Proofs.YthciddpljcbhiabGreatDoor
open Go Go.RowKit Go.Lib

/-- What the owner of a list writes over it. -/
def smD (n : Int) : List Value := [.int .i64 n, .int .u8 0, .int .u8 0, .int .u8 0, .int .i32 0]
def rwD (n : Int) : List Value := [.int .i64 n, .int .u8 0, .int .u8 0, .int .u8 0, .int .i64 0, .int .i64 0, .int .i32 0, .int .i32 0]
/-- A list each element of which has these cells. -/
def RepAt (w : World) (b off m : Nat) (C : List Value) : Prop := ∀ i, i < m → ∀ j v, C[j]? = some v → w.cell? ⟨b, off + i * C.length + j, none⟩ = some v
theorem RepAt.fr {S : Nat → Prop} {w w' : World} {b off m : Nat} {C : List Value} (h : RepAt w b off m C) (hf : Fr S w w') (hn : ¬ S b) : RepAt w' b off m C := by
  intro i hi j v hj
  have h1 := h i hi j v hj
  rw [hf.cell (p := ⟨b, off + i * C.length + j, none⟩) (World.block_lt_of_cell? w _ h1) hn]
  exact h1
def LstAt (w : World) (O : Nat → Prop) (C : List Value) (v : Value) : Prop := ∃ a m cap, v = .slice a m cap ∧ m ≤ 1000000 ∧ (0 < m → ∃ b off, a = some ⟨b, off, none⟩ ∧ O b ∧ RepAt w b off m C)
theorem LstAt.fr {S O O' : Nat → Prop} {w w' : World} {C : List Value} {v : Value} (h : LstAt w O C v) (hf : Fr S w w') (hn : ∀ k, O k → ¬ S k) (ho : ∀ k, O k → O' k) : LstAt w' O' C v := by
  obtain ⟨a, m, cap, e, hm, hh⟩ := h
  refine ⟨a, m, cap, e, hm, fun h0 => ?_⟩
  obtain ⟨b, off, e', hO, hat⟩ := hh h0
  exact ⟨b, off, e', ho b hO, hat.fr hf (hn b hO)⟩
abbrev Ls := Value × Int
structure DrS (w : World) (D : Nat) (ow : Nat → Nat) (n : Int) (ss rs : List Ls) (sv rv nv mv : Value) : Prop where
  blk : w.heap[D]? = some (.cells #[.int .i64 n, sv, rv, nv, mv] 31 (0, 0))
  so : w.ownsRow 0 43 1 sv ss.length (ss.map (·.1))
  ro : w.ownsRow 0 79 1 rv rs.length (rs.map (·.1))
  no : w.ownsRow 0 3 1 nv ss.length (ss.map fun p => .int .i64 p.2)
  mo : w.ownsRow 0 3 1 mv rs.length (rs.map fun p => .int .i64 p.2)
  sat : ∀ p ∈ ss, LstAt w (fun k => ow k = 6) (smD p.2) p.1
  rat : ∀ p ∈ rs, LstAt w (fun k => ow k = 6) (rwD p.2) p.1
  oD : ow D = 1
  os : ∀ k, sv.ownBlock = some k → ow k = 2
  or' : ∀ k, rv.ownBlock = some k → ow k = 3
  on : ∀ k, nv.ownBlock = some k → ow k = 4
  om : ∀ k, mv.ownBlock = some k → ow k = 5
/-- A drawer with what so many steps have put into it; all of it lies in blocks of H. -/
def DrAt (w : World) (D : Nat) (H : Nat → Prop) (N : Nat) : Prop :=
  ∃ ow n ss rs sv rv nv mv, (∀ k, ow k ≠ 0 → H k) ∧ 0 ≤ n ∧ n ≤ N ∧ ss.length ≤ 4 * N ∧ rs.length ≤ 4 * N ∧ DrS w D ow n ss rs sv rv nv mv
theorem DrS.lt {w : World} {D : Nat} {ow : Nat → Nat} {n : Int} {ss rs : List Ls} {sv rv nv mv : Value} (h : DrS w D ow n ss rs sv rv nv mv) : D < w.heap.size := (Array.getElem?_eq_some_iff.1 h.blk).1
theorem DrS.keep {w w' : World} {D : Nat} {ow : Nat → Nat} {n : Int} {ss rs : List Ls} {sv rv nv mv : Value} (h : DrS w D ow n ss rs sv rv nv mv) {S : Nat → Prop} (hf : Fr S w w') (hn : ∀ k, ow k ≠ 0 → ¬ S k) : DrS w' D ow n ss rs sv rv nv mv :=
  { h with
    blk := by rw [hf.block D h.lt (hn D (by rw [h.oD]; omega))]; exact h.blk
    so := owns_fr h.so hf (fun k e => hn k (by rw [h.os k e]; omega))
    ro := owns_fr h.ro hf (fun k e => hn k (by rw [h.or' k e]; omega))
    no := owns_fr h.no hf (fun k e => hn k (by rw [h.on k e]; omega))
    mo := owns_fr h.mo hf (fun k e => hn k (by rw [h.om k e]; omega))
    sat := fun p hp => (h.sat p hp).fr hf (fun k e => hn k (by rw [e]; omega)) (fun _ e => e)
    rat := fun p hp => (h.rat p hp).fr hf (fun k e => hn k (by rw [e]; omega)) (fun _ e => e) }
theorem DrAt.keep {w w' : World} {D : Nat} {H H' : Nat → Prop} {N : Nat} (h : DrAt w D H N) {S : Nat → Prop} (hf : Fr S w w') (hn : ∀ k, H k → ¬ S k) (hH : ∀ k, H k → H' k) : DrAt w' D H' N := by
  obtain ⟨ow, n, ss, rs, sv, rv, nv, mv, h1, h2, h3, h4, h5, h6⟩ := h
  exact ⟨ow, n, ss, rs, sv, rv, nv, mv, fun k e => hH k (h1 k e), h2, h3, h4, h5, h6.keep hf (fun k e => hn k (h1 k e))⟩
theorem DrAt.more {w : World} {D : Nat} {H : Nat → Prop} {N M : Nat} (h : DrAt w D H N) (hm : N ≤ M) : DrAt w D H M := by
  obtain ⟨ow, n, ss, rs, sv, rv, nv, mv, h1, h2, h3, h4, h5, h6⟩ := h
  exact ⟨ow, n, ss, rs, sv, rv, nv, mv, h1, h2, by omega, by omega, by omega, h6⟩
/-- A new one. -/
theorem DrAt.new {w : World} {D : Nat} (h : w.heap[D]? = some (.cells #[.int .i64 0, .slice none 0 0, .slice none 0 0, .slice none 0 0, .slice none 0 0] 31 (0, 0))) : DrAt w D (fun k => k = D) 0 := by
  have hn : ∀ (k : Nat), (Value.slice none 0 0).ownBlock ≠ some k := fun k => by simp [Value.ownBlock]
  refine ⟨fun k => if k = D then 1 else 0, 0, [], [], .slice none 0 0, .slice none 0 0, .slice none 0 0, .slice none 0 0, fun k e => ?_, by omega, by simp, by simp, by simp, ?_⟩
  · by_cases hk : k = D
    · exact hk
    · exact absurd (if_neg hk) e
  · exact { blk := h, so := World.ownsRow_nil _ _ _ _, ro := World.ownsRow_nil _ _ _ _, no := World.ownsRow_nil _ _ _ _, mo := World.ownsRow_nil _ _ _ _, sat := by simp, rat := by simp, oD := by simp,
            os := fun k e => absurd e (hn k), or' := fun k e => absurd e (hn k), on := fun k e => absurd e (hn k), om := fun k e => absurd e (hn k) }

end Go.Proofs.YthciddpljcbhiabGreatDoor

/- Walks: a number read by the document's answer; an append within a region. -/
namespace Go.Proofs.YthciddpljcbhiabGreatDoor
open Go.RowKit

theorem byt_extract (s : ByteArray) (a b j : Nat) (h : a + j < b) (hb : b ≤ s.size) : byt (s.extract a b) j = byt s (a + j) := by
  have h1 := nums_get (s.extract a b) j (by rw [ByteArray.size_extract]; omega)
  have h2 := nums_get s (a + j) (by omega)
  have e : nums (s.extract a b) = ((nums s).take b).drop a := by
    unfold nums
    rw [← List.map_take, ← List.map_drop]
    congr 1
    simp [ByteArray.data_extract, List.extract, List.drop_take]
  rw [e, List.getElem?_drop, List.getElem?_take_of_lt (by omega), h2] at h1
  exact (Option.some.inj h1).symm
theorem num4_extract (s : ByteArray) (a b p : Nat) (h : a + p + 4 ≤ b) (hb : b ≤ s.size) : num4 (s.extract a b) p = num4 s (a + p) := by
  unfold num4
  rw [byt_extract s a b p (by omega) hb, byt_extract s a b (p + 1) (by omega) hb, byt_extract s a b (p + 2) (by omega) hb, byt_extract s a b (p + 3) (by omega) hb]
  rfl

set_option maxHeartbeats 400000 in
set_option maxRecDepth 100000 in
theorem refNumber_any (s : ByteArray) (w : World) (hp : s.size = 4) :
    Calls Tryz.prog 58 #[.string s] w fun e w' => e = .returned (.int .i64 (num4 s 0)) ∧ w' = w := by
  obtain ⟨a0, a1⟩ := byt_range s 3
  obtain ⟨b0, b1⟩ := byt_range s 2
  obtain ⟨c0, c1⟩ := byt_range s 1
  obtain ⟨d0, d1⟩ := byt_range s 0
  have B3 : Hid (((s[3].toNat : Nat) : Int) = byt s 3) := byt_eq s 3 (by omega)
  have B2 : Hid (((s[2].toNat : Nat) : Int) = byt s 2) := byt_eq s 2 (by omega)
  have B1 : Hid (((s[1].toNat : Nat) : Int) = byt s 1) := byt_eq s 1 (by omega)
  have B0 : Hid (((s[0].toNat : Nat) : Int) = byt s 0) := byt_eq s 0 (by omega)
  have E3 : ((s[3].toNat : Nat) : Int) ≤ 255 := by rw [B3.out]; exact a1
  have E2 : ((s[2].toNat : Nat) : Int) ≤ 255 := by rw [B2.out]; exact b1
  have E1 : ((s[1].toNat : Nat) : Int) ≤ 255 := by rw [B1.out]; exact c1
  have E0 : ((s[0].toNat : Nat) : Int) ≤ 255 := by rw [B0.out]; exact d1
  have HE' : Hid (∀ x y : Int, x = y → Value.int IntKind.i64 x = .int .i64 y) := fun x y h => by rw [h]
  go_enter Tryz.func58, Tryz.ntmps58
  go_wp2
  go_loop [3, 4] (fun n i => (i = .int .i64 3 ∧ n = .int .i64 0) ∨ (i = .int .i64 2 ∧ n = .int .i64 (byt s 3)) ∨ (i = .int .i64 1 ∧ n = .int .i64 (byt s 2 + 256 * byt s 3))
    ∨ (i = .int .i64 0 ∧ n = .int .i64 (byt s 1 + 256 * (byt s 2 + 256 * byt s 3))) ∨ (i = .int .i64 (-1) ∧ n = .int .i64 (num4 s 0))) (fun _ i => (intOf i + 1).toNat)
  case atStart => exact Or.inl ⟨rfl, rfl⟩
  case round =>
    rcases hrel with ⟨rfl, rfl⟩ | ⟨rfl, rfl⟩ | ⟨rfl, rfl⟩ | ⟨rfl, rfl⟩ | ⟨rfl, rfl⟩
    · go_wp2
      refine ⟨Or.inr (Or.inl ⟨rfl, HE'.out _ _ ?_⟩), by simp [intOf]⟩
      rw [B3.out]
    · go_wp2
      refine ⟨Or.inr (Or.inr (Or.inl ⟨rfl, HE'.out _ _ ?_⟩)), by simp [intOf]⟩
      rw [B2.out]; omega
    · generalize hq : byt s 2 + 256 * byt s 3 = q at *
      have hq0 : 0 ≤ q := by omega
      have hq1 : q ≤ 65535 := by omega
      clear hq
      go_wp2
      refine ⟨Or.inr (Or.inr (Or.inr (Or.inl ⟨rfl, HE'.out _ _ ?_⟩))), by simp [intOf]⟩
      rw [B1.out]; omega
    · generalize hq : byt s 1 + 256 * (byt s 2 + 256 * byt s 3) = q at *
      have hq0 : 0 ≤ q := by omega
      have hq1 : q ≤ 16777215 := by omega
      have HQ : Hid (num4 s 0 = byt s 0 + 256 * q) := by show _ = _; unfold num4; rw [hq]
      clear hq
      go_wp2
      refine ⟨Or.inr (Or.inr (Or.inr (Or.inr ⟨rfl, HE'.out _ _ ?_⟩))), by simp [intOf]⟩
      rw [HQ.out, B0.out]; omega
    · go_wp2
      go_ret
      exact ⟨rfl, rfl⟩

/-- An append onto a row of the call's own, as one step of a region that draws its order. -/
theorem step_append_mine {P : Program} {w : World} {ops : Array Oper} {o : Oper} {a : Act} {K : Act → World → Prop} {Q : Exit → Act → World → Prop} {E : Prop} (hgd : o.guard = none) (s x : Operand) (t : TypeId)
    (ho : o.op = .call { callee := .builtin .append, args := #[s, x], argTypes := #[t, t] })
    (base : Nat) (e : TypeId) (i : TypeInfo) (z : Value) (size bytes : Nat) (ht : P.underlying t = some (.slice e)) (hi : P.info? e = some i) (hz : i.zero = some z)
    (hsize : i.size = size) (hby : i.bytes = bytes) (hzs : z.cells.size = size) (hsz : 0 < size)
    (v : Value) (n : Nat) (xs : List Value) (hs : a.eval s = v) (hown : w.ownsRow base e size v n xs)
    (ad : Addr) (m c : Nat) (news : List Value) (hx : a.eval x = .slice (some ad) m c) (hl : news.length = m * size) (hnews : ∀ j u, news[j]? = some u → w.cell? (ad.add j) = some u) (h1 : ∀ u ∈ news, u.oneCell' = true)
    (h63 : n + m ≤ maxLen) (hbytes : (n + m) * bytes ≤ 140737488355328) (hbase : base ≤ w.heap.size)
    (h : ∀ v' w', w'.ownsRow base e size v' (n + m) (xs ++ news) → w.grownBy w' v.ownBlock → K (a.put o.dst v') w') :
    if Region.wanted o (yielded ops a.tmps) = true then Oper.wp P o a w K Q else E := by
  have hw : Region.wanted o (yielded ops a.tmps) = true := by simp [Region.wanted, hgd]
  rw [if_pos hw]
  exact wp_append_own w s x t ho base e i z size bytes ht hi hz hsize hby hzs hsz v n xs hs hown ad m c news hx hl hnews h1 h63 hbytes hbase fun v' w' h2 h3 _ => h v' w' h2 h3

end Go.Proofs.YthciddpljcbhiabGreatDoor
