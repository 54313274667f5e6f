/- Texts of one claim put together: Gpl, Adr, Rqr, Lst, Rfd, Qrf, Smr, Qrs, Alo. -/
import Derived.Test.YthciddpljcbhiabGreatDoorB6
import Derived.Test.YthciddpljcbhiabGreatDoorB1
import Derived.BigQuiet
import Derived.Test.YthciddpljcbhiabGreatDoorB5
import Derived.Deep.RegionHeld3

/- Walks: the group of a series (garnerref). -/
namespace Go.Proofs.YthciddpljcbhiabGreatDoor
open Go Go.RowKit Go.Lib

def triL (s : Lb) (i : Nat) : Int := match i with | 0 => s.a | 1 => s.b | _ => s.c
abbrev lbA3 (s : Lb) : Array Value := #[.int .u8 s.a, .int .u8 s.b, .int .u8 s.c]
theorem lbA3_get (s : Lb) (k : Nat) (h : k < 3) : (lbA3 s)[k]? = some (.int .u8 (triL s k)) := by
  have : k = 0 ∨ k = 1 ∨ k = 2 := by omega
  rcases this with rfl | rfl | rfl <;> rfl
/-- The group so far. -/
def grK (q : Qy) (s : Lb) (k : Nat) : Lb := ⟨if 0 < k then gB (byt q.gb 0) s.a else 46, if 1 < k then gB (byt q.gb 1) s.b else 46, if 2 < k then gB (byt q.gb 2) s.c else 46⟩
theorem grK_set (q : Qy) (s : Lb) (k : Nat) (h : k < 3) (hb : byt q.gb k = 49) : (lbA3 (grK q s k)).setIfInBounds k (.int .u8 (triL s k)) = lbA3 (grK q s (k + 1)) := by
  have : k = 0 ∨ k = 1 ∨ k = 2 := by omega
  rcases this with rfl | rfl | rfl <;> simp [lbA3, grK, triL, gB, hb]
theorem grK_same (q : Qy) (s : Lb) (k : Nat) (h : k < 3) (hb : ¬ byt q.gb k = 49) : grK q s k = grK q s (k + 1) := by
  have : k = 0 ∨ k = 1 ∨ k = 2 := by omega
  rcases this with rfl | rfl | rfl <;> simp [grK, gB, hb]
theorem grp_all {q : Qy} {s : Lb} (ho : ¬ s = over) (h : ∀ j, j < 3 → mOk (byt q.mt j) (triL s j) = true) : grpOf q s = some (grK q s 3) := by
  have h0 : mOk (byt q.mt 0) s.a = true := h 0 (by omega)
  have h1 : mOk (byt q.mt 1) s.b = true := h 1 (by omega)
  have h2 : mOk (byt q.mt 2) s.c = true := h 2 (by omega)
  unfold grpOf
  rw [if_neg ho, if_pos (by simp [h0, h1, h2])]
  simp [grK]
theorem grp_no {q : Qy} {s : Lb} (ho : ¬ s = over) {j : Nat} (hj : j < 3) (h : mOk (byt q.mt j) (triL s j) = false) : grpOf q s = none := by
  unfold grpOf
  rw [if_neg ho, if_neg]
  have : j = 0 ∨ j = 1 ∨ j = 2 := by omega
  rcases this with rfl | rfl | rfl
  · have h' : mOk (byt q.mt 0) s.a = false := h
    simp [h']
  · have h' : mOk (byt q.mt 1) s.b = false := h
    simp [h']
  · have h' : mOk (byt q.mt 2) s.c = false := h
    simp [h']
def GrPost (q : Qy) (s : Lb) (w : World) (e : Ending) (w' : World) : Prop := ∃ g, e = .returned (.tuple #[.agg (lbA3 g), .bool (grpOf q s).isSome]) ∧ (∀ x, grpOf q s = some x → g = x) ∧ Below w.heap.size w w'
/-- The boxes of a call. -/
structure GrS (w w' : World) (q : Qy) (s g : Lb) : Prop where
  bq : w'.heap[w.heap.size]? = some (.cells (qyC q) 45 (0, 0))
  bs : w'.heap[w.heap.size + 1]? = some (.cells (lbA3 s) 42 (0, 0))
  br : w'.heap[w.heap.size + 1 + 1]? = some (.cells (lbA3 Lb.zero) 42 (0, 0))
  bg : w'.heap[w.heap.size + 3]? = some (.cells (lbA3 g) 42 (0, 0))
  bel : Below w.heap.size w w'

set_option maxHeartbeats 2000000 in
set_option maxRecDepth 100000 in
theorem group_ref (q : Qy) (s : Lb) (w : World) (hm : q.mt.size = 3) (hg : q.gb.size = 3) (hov : OvAt w) :
    Calls Tryz.prog 81 #[.agg (qyC q), .agg (lbA3 s)] w (GrPost q s w) := by
  have hpos := hov.pos
  obtain ⟨o0, o1, o2⟩ := hov
  have heq := fun w => eq26 9998 s.a s.b s.c 42 42 42 w
  rw [show (s.a == 42 && s.b == 42 && s.c == 42) = decide (s = over) from lb_beq over s] at heq
  have h0a : (0 : Nat) ≠ w.heap.size := by omega
  have h0b : (0 : Nat) ≠ w.heap.size + 1 := by omega
  have h0c : (0 : Nat) ≠ w.heap.size + 1 + 1 := by omega
  go_enter Tryz.func81, Tryz.ntmps81
  go_upto_region 1 with fail
  have hz0 : (((w.alloc (Obj.cells (qyC q) 45)).alloc (Obj.cells (lbA3 s) 42)).alloc (Obj.cells (lbA3 Lb.zero) 42)).heap.size = w.heap.size + 1 + 1 + 1 := by simp
  have hB0 : Below w.heap.size w (((w.alloc (Obj.cells (qyC q) 45)).alloc (Obj.cells (lbA3 s) 42)).alloc (Obj.cells (lbA3 Lb.zero) 42)) := (((Below.refl _ _).alloc (Nat.le_refl _) _).alloc (by simp) _).alloc (by simp; omega) _
  have hq0 : (((w.alloc (Obj.cells (qyC q) 45)).alloc (Obj.cells (lbA3 s) 42)).alloc (Obj.cells (lbA3 Lb.zero) 42)).heap[w.heap.size]? = some (.cells (qyC q) 45 (0, 0)) := by
    rw [Below.heap_alloc _ _ _ (by simp; omega), Below.heap_alloc _ _ _ (by simp)]
    exact heap_alloc_new _ _
  have hs0 : (((w.alloc (Obj.cells (qyC q) 45)).alloc (Obj.cells (lbA3 s) 42)).alloc (Obj.cells (lbA3 Lb.zero) 42)).heap[w.heap.size + 1]? = some (.cells (lbA3 s) 42 (0, 0)) := by
    rw [Below.heap_alloc _ _ _ (by simp)]
    have h9 := heap_alloc_new (w.alloc (Obj.cells (qyC q) 45)) (Obj.cells (lbA3 s) 42)
    simpa only [World.size_alloc] using h9
  have hr0 : (((w.alloc (Obj.cells (qyC q) 45)).alloc (Obj.cells (lbA3 s) 42)).alloc (Obj.cells (lbA3 Lb.zero) 42)).heap[w.heap.size + 1 + 1]? = some (.cells (lbA3 Lb.zero) 42 (0, 0)) := by
    have h9 := heap_alloc_new ((w.alloc (Obj.cells (qyC q) 45)).alloc (Obj.cells (lbA3 s) 42)) (Obj.cells (lbA3 Lb.zero) 42)
    simpa only [World.size_alloc] using h9
  rw [show (Obj.cells #[Value.int IntKind.u8 0, Value.int IntKind.u8 0, Value.int IntKind.u8 0] 42) = Obj.cells (lbA3 Lb.zero) 42 from rfl]
  generalize ((w.alloc (Obj.cells (qyC q) 45)).alloc (Obj.cells (lbA3 s) 42)).alloc (Obj.cells (lbA3 Lb.zero) 42) = w0 at *
  have HB0 : Hid (Below w.heap.size w w0) := hB0
  have HQ0 : Hid (w0.heap[w.heap.size]? = some (.cells (qyC q) 45 (0, 0))) := hq0
  have HS0 : Hid (w0.heap[w.heap.size + 1]? = some (.cells (lbA3 s) 42 (0, 0))) := hs0
  have HR0 : Hid (w0.heap[w.heap.size + 1 + 1]? = some (.cells (lbA3 Lb.zero) 42 (0, 0))) := hr0
  have g0 : w0.cell? ⟨0, 0, none⟩ = some (.int .u8 42) := (hB0.cell (p := ⟨0, 0, none⟩) hpos).trans o0
  have g1 : w0.cell? ⟨0, 1, none⟩ = some (.int .u8 42) := (hB0.cell (p := ⟨0, 1, none⟩) hpos).trans o1
  have g2 : w0.cell? ⟨0, 2, none⟩ = some (.int .u8 42) := (hB0.cell (p := ⟨0, 2, none⟩) hpos).trans o2
  have s0 : w0.cell? ⟨w.heap.size + 1, 0, none⟩ = some (.int .u8 s.a) := cell_blk hs0 rfl
  have s1 : w0.cell? ⟨w.heap.size + 1, 1, none⟩ = some (.int .u8 s.b) := cell_blk hs0 rfl
  have s2 : w0.cell? ⟨w.heap.size + 1, 2, none⟩ = some (.int .u8 s.c) := cell_blk hs0 rfl
  have r0 : w0.cell? ⟨w.heap.size + 1 + 1, 0, none⟩ = some (.int .u8 0) := cell_blk hr0 rfl
  have r1 : w0.cell? ⟨w.heap.size + 1 + 1, 1, none⟩ = some (.int .u8 0) := cell_blk hr0 rfl
  have r2 : w0.cell? ⟨w.heap.size + 1 + 1, 2, none⟩ = some (.int .u8 0) := cell_blk hr0 rfl
  have f0 : w0.frozen? ⟨w.heap.size + 1 + 1, 0, none⟩ = false := froz_blk hr0
  have f1 : w0.frozen? ⟨w.heap.size + 1 + 1, 1, none⟩ = false := froz_blk hr0
  have f2 : w0.frozen? ⟨w.heap.size + 1 + 1, 2, none⟩ = false := froz_blk hr0
  have HZ0 : Hid (w0.heap.size = w.heap.size + 1 + 1 + 1) := hz0
  clear hB0 hq0 hs0 hr0 o0 o1 o2 hz0
  obtain ⟨bd, hbd⟩ : ∃ bd, bd = decide (s = over) := ⟨_, rfl⟩
  rw [← hbd] at heq
  have HBD : Hid (bd = decide (s = over)) := hbd
  clear hbd
  cases bd
  case true =>
    have HG : Hid (grpOf q s = some over) := by
      have hov : s = over := by simpa using HBD.out.symm
      exact if_pos hov
    go_wp2_with fail
    refine bodyPost_ret (v := .tuple #[.agg (lbA3 over), .bool true]) (by simp [results, Tryz.results81, go_sem, r0, r1, r2, over]) rfl ?_
    refine ⟨over, by rw [HG.out]; rfl, fun x hx => ?_, ?_⟩
    · rw [HG.out] at hx; exact Option.some.inj hx
    · exact ((HB0.out.setCell (show w.heap.size ≤ w.heap.size + 1 + 1 by omega) _).setCell (show w.heap.size ≤ w.heap.size + 1 + 1 by omega) _).setCell (show w.heap.size ≤ w.heap.size + 1 + 1 by omega) _
  case false =>
    have HNO : Hid (¬ s = over) := by show ¬ _; simpa using HBD.out.symm
    have hz1 : w0.heap.size = w.heap.size + 3 := HZ0.out
    go_upto_region 4 with fail
    have HG0 : Hid (GrS w (w0.alloc (.cells #[.int .u8 46, .int .u8 46, .int .u8 46] 42)) q s (grK q s 0)) :=
      { bq := by rw [Below.heap_alloc _ _ _ (by omega)]; exact HQ0.out, bs := by rw [Below.heap_alloc _ _ _ (by omega)]; exact HS0.out, br := by rw [Below.heap_alloc _ _ _ (by omega)]; exact HR0.out,
        bg := by rw [← hz1]; exact heap_alloc_new _ _, bel := HB0.out.alloc (by omega) _ }
    generalize w0.alloc (.cells #[.int .u8 46, .int .u8 46, .int .u8 46] 42) = w1 at *
    clear g0 g1 g2 s0 s1 s2 r0 r1 r2 f0 f1 f2 heq h0a h0b h0c
    clear hz1
    go_wp2_with fail
    go_loopw [7] (fun i wr => ∃ k : Nat, i = .int .i64 k ∧ k ≤ 3 ∧ (∀ j, j < k → mOk (byt q.mt j) (triL s j) = true) ∧ GrS w wr q s (grK q s k)) (fun i _ => 3 - (intOf i).toNat)
    case atStart => exact ⟨0, rfl, Nat.zero_le _, fun j hj => by omega, HG0.out⟩
    case round =>
      obtain ⟨k, rfl, hk, hall, hgs⟩ := hrel
      have HA : Hid (∀ j, j < k → mOk (byt q.mt j) (triL s j) = true) := hall
      have HS : Hid (GrS w wr q s (grK q s k)) := hgs
      have x3 : wr.cell? ⟨w.heap.size, 3, none⟩ = some (.string q.mt) := cell_blk hgs.bq rfl
      have x4 : wr.cell? ⟨w.heap.size, 4, none⟩ = some (.string q.gb) := cell_blk hgs.bq rfl
      have r0 : wr.cell? ⟨w.heap.size + 1 + 1, 0, none⟩ = some (.int .u8 0) := cell_blk hgs.br rfl
      have r1 : wr.cell? ⟨w.heap.size + 1 + 1, 1, none⟩ = some (.int .u8 0) := cell_blk hgs.br rfl
      have r2 : wr.cell? ⟨w.heap.size + 1 + 1, 2, none⟩ = some (.int .u8 0) := cell_blk hgs.br rfl
      have f0 : wr.frozen? ⟨w.heap.size + 1 + 1, 0, none⟩ = false := froz_blk hgs.br
      have f1 : wr.frozen? ⟨w.heap.size + 1 + 1, 1, none⟩ = false := froz_blk hgs.br
      have f2 : wr.frozen? ⟨w.heap.size + 1 + 1, 2, none⟩ = false := froz_blk hgs.br
      have g0 : wr.cell? ⟨w.heap.size + 3, 0, none⟩ = some (.int .u8 (grK q s k).a) := cell_blk hgs.bg rfl
      have g1 : wr.cell? ⟨w.heap.size + 3, 1, none⟩ = some (.int .u8 (grK q s k).b) := cell_blk hgs.bg rfl
      have g2 : wr.cell? ⟨w.heap.size + 3, 2, none⟩ = some (.int .u8 (grK q s k).c) := cell_blk hgs.bg rfl
      have HBS : Hid (∀ d, Below w.heap.size w (((wr.drewN d).setCell ⟨w.heap.size + 1 + 1, 0, none⟩ (.int .u8 (grK q s k).a)).setCell ⟨w.heap.size + 1 + 1, 1, none⟩ (.int .u8 (grK q s k).b) |>.setCell ⟨w.heap.size + 1 + 1, 2, none⟩ (.int .u8 (grK q s k).c))) := fun d =>
        (((below_drewN hgs.bel d).setCell (show w.heap.size ≤ w.heap.size + 1 + 1 by omega) _).setCell (show w.heap.size ≤ w.heap.size + 1 + 1 by omega) _).setCell (show w.heap.size ≤ w.heap.size + 1 + 1 by omega) _
      clear hall
      by_cases hlt : k < 3
      · have y0 : wr.cell? ⟨w.heap.size + 1, k, none⟩ = some (.int .u8 (triL s k)) := cell_blk hgs.bs (lbA3_get s k hlt)
        have gk : ∃ v, wr.cell? ⟨w.heap.size + 3, k, none⟩ = some v := ⟨_, cell_blk hgs.bg (lbA3_get _ k hlt)⟩
        obtain ⟨gv, gk⟩ := gk
        have fk : wr.frozen? ⟨w.heap.size + 3, k, none⟩ = false := froz_blk hgs.bg
        have HBm : Hid (((q.mt[k].toNat : Nat) : Int) = byt q.mt k) := byt_eq q.mt k (by omega)
        have HBg : Hid (((q.gb[k].toNat : Nat) : Int) = byt q.gb k) := byt_eq q.gb k (by omega)
        have hk1 : k < q.mt.size := by omega
        have hk2 : k < q.gb.size := by omega
        have HMO : Hid (mOk (byt q.mt k) (triL s k) = (((q.mt[k].toNat : Nat) : Int) == 46 || ((q.mt[k].toNat : Nat) : Int) == triL s k)) := by show _ = _; rw [HBm.out]; rfl
        have HBY : Hid (byt q.gb k = ((q.gb[k].toNat : Nat) : Int)) := HBg.out.symm
        have HNX : Hid (mOk (byt q.mt k) (triL s k) = true → ∀ j, j < k + 1 → mOk (byt q.mt j) (triL s j) = true) := fun u j hj => by
          by_cases e : j = k
          · subst e; exact u
          · exact HA.out j (by omega)
        have HNG : Hid (mOk (byt q.mt k) (triL s k) = false → grpOf q s = none) := fun u => grp_no HNO.out hlt u
        clear hgs
        generalize mOk (byt q.mt k) (triL s k) = MO at *
        have hM : (MO = true ∧ ((((q.mt[k].toNat : Nat) : Int) != 46) = false ∨ ((((q.mt[k].toNat : Nat) : Int) != 46) = true ∧ (((q.mt[k].toNat : Nat) : Int) != triL s k) = false))) ∨ (MO = false ∧ (((q.mt[k].toNat : Nat) : Int) != 46) = true ∧ (((q.mt[k].toNat : Nat) : Int) != triL s k) = true) := by
          rw [HMO.out]
          unfold bne
          cases (((q.mt[k].toNat : Nat) : Int) == 46) <;> cases (((q.mt[k].toNat : Nat) : Int) == triL s k) <;> simp
        clear HMO
        rcases hM with ⟨hMO, h | ⟨h, h'⟩⟩ | ⟨hMO, h, h'⟩
        rotate_left 2
        · have HN := HNG.out hMO
          have HG : Hid (grpOf q s = none) := HN
          clear HN hMO
          go_wp2_with fail
          go_quiet (fail)
          go_wp2_with fail
          refine bodyPost_ret (v := .tuple #[.agg (lbA3 (grK q s k)), .bool false]) (by simp [results, Tryz.results81, go_sem, r0, r1, r2]) rfl ?_
          exact ⟨grK q s k, by rw [HG.out]; rfl, (fun x hx => by rw [HG.out] at hx; cases hx), HBS.out _⟩
        all_goals
          have HNN : Hid (∀ j, j < k + 1 → mOk (byt q.mt j) (triL s j) = true) := HNX.out hMO
          clear hMO
          by_cases hby : byt q.gb k = 49
          · have hbb : (((q.gb[k].toNat : Nat) : Int) == 49) = true := by rw [← HBY.out, hby]; rfl
            have HST : Hid (∀ d, GrS w ((wr.drewN d).setCell ⟨w.heap.size + 3, k, none⟩ (.int .u8 (triL s k))) q s (grK q s (k + 1))) := fun d =>
              { bq := by rw [Below.heap_setCell _ _ _ _ (show w.heap.size ≠ w.heap.size + 3 by omega)]; exact HS.out.bq, bs := by rw [Below.heap_setCell _ _ _ _ (show w.heap.size + 1 ≠ w.heap.size + 3 by omega)]; exact HS.out.bs, br := by rw [Below.heap_setCell _ _ _ _ (show w.heap.size + 1 + 1 ≠ w.heap.size + 3 by omega)]; exact HS.out.br,
                bg := by rw [← grK_set q s k hlt hby]; exact heap_setCell HS.out.bg, bel := (below_drewN HS.out.bel d).setCell (show w.heap.size ≤ w.heap.size + 3 by omega) _ }
            clear hby
            go_wp2_with fail
            go_quiet (fail)
            go_wp2_with fail
            exact ⟨⟨k + 1, by go_num, by omega, HNN.out, HST.out _⟩, by simp [intOf]; omega⟩
          · have hbb : (((q.gb[k].toNat : Nat) : Int) == 49) = false := by rw [← HBY.out]; simpa using hby
            have HST : Hid (∀ d, GrS w (wr.drewN d) q s (grK q s (k + 1))) := fun d => by
              rw [← grK_same q s k hlt hby]
              exact { bq := HS.out.bq, bs := HS.out.bs, br := HS.out.br, bg := HS.out.bg, bel := below_drewN HS.out.bel d }
            clear hby
            go_wp2_with fail
            go_quiet (fail)
            go_wp2_with fail
            exact ⟨⟨k + 1, by go_num, by omega, HNN.out, HST.out _⟩, by simp [intOf]; omega⟩
      · have hkE : k = 3 := by omega
        have HG : Hid (grpOf q s = some (grK q s k)) := by rw [hkE]; exact grp_all HNO.out (fun j hj => HA.out j (by omega))
        clear hgs
        generalize grK q s k = gg at *
        go_wp2_with fail
        refine bodyPost_ret (v := .tuple #[.agg (lbA3 gg), .bool true]) (by simp [results, Tryz.results81, go_sem, r0, r1, r2]) rfl ?_
        exact ⟨gg, by rw [HG.out]; rfl, (fun x hx => by rw [HG.out] at hx; exact Option.some.inj hx), HBS.out 0⟩

end Go.Proofs.YthciddpljcbhiabGreatDoor

/- Walks: one value more among the rows (garnerref: added). -/
namespace Go.Proofs.YthciddpljcbhiabGreatDoor
open Go Go.RowKit Go.Lib

theorem key_beq (y : Rw) (k : Key) : (decide (y.key = k)) = ((y.key.st == k.st) && (y.key.g0 == k.g0 && y.key.g1 == k.g1 && y.key.g2 == k.g2)) := by
  rw [Bool.eq_iff_iff, decide_eq_true_eq]
  simp only [Bool.and_eq_true, beq_iff_eq]
  constructor
  · intro e; rw [e]; exact ⟨rfl, ⟨rfl, rfl⟩, rfl⟩
  · rintro ⟨h0, ⟨h1, h2⟩, h3⟩; exact Key.ext' h0 h1 h2 h3
theorem fr_set1 {w w' : World} {yb o : Nat} {u : Value} (h : Fr (fun k => k = yb) w w') : Fr (fun k => k = yb) w (w'.setCell ⟨yb, o, none⟩ u) := h.setCell (.inl rfl) u
/-- The rows so far, the row at hand in its box. -/
structure AdS (w1 w' : World) (yb : Nat) (y : Rw) (ov : Value) (out : List Rw) : Prop where
  bel : Below w1.heap.size w1 w'
  own : w'.ownsRow w1.heap.size 78 8 ov out.length (flatR out)
  by' : w'.heap[yb]? = some (.cells (rwA y) 78 (0, 0))
  yl : w1.heap.size ≤ yb
  ne : ov.ownBlock ≠ some yb
theorem AdS.lt {w1 w' : World} {yb : Nat} {y : Rw} {ov : Value} {out : List Rw} (h : AdS w1 w' yb y ov out) : yb < w'.heap.size := (Array.getElem?_eq_some_iff.1 h.by').1
theorem AdS.below {w1 w' w2 : World} {yb : Nat} {y : Rw} {ov : Value} {out : List Rw} (h : AdS w1 w' yb y ov out) (hb : Below w'.heap.size w' w2) : AdS w1 w2 yb y ov out where
  bel := h.bel.trans (hb.mono h.bel.size)
  own := owns_fr h.own (Fr.of_below (S := fun _ => False) hb) (fun _ _ e => e)
  by' := by rw [hb.block yb h.lt]; exact h.by'
  yl := h.yl
  ne := h.ne
theorem AdS.app {w1 w' W w3 : World} {yb : Nat} {y x : Rw} {ov ov' : Value} {out : List Rw} (h : AdS w1 w' yb y ov out) (hb : Below w'.heap.size w' W) (hg : W.grownBy w3 ov.ownBlock) (ho : w3.ownsRow w1.heap.size 78 8 ov' (out.length + 1) (flatR out ++ x.cells))
    (hk : ov'.ownBlock = ov.ownBlock ∨ ∀ k, ov'.ownBlock = some k → W.heap.size ≤ k) : AdS w1 w3 yb y ov' (out ++ [x]) where
  bel := (h.bel.trans (hb.mono h.bel.size)).grown hg (by have := h.bel.size; have := hb.size; omega) (fun k e => (h.own.lt k e).1)
  own := by
    rw [List.length_append, show flatR (out ++ [x]) = flatR out ++ x.cells from flat_snoc _ _ _]
    exact ho
  by' := by rw [hg.block yb (by have := h.lt; have := hb.size; omega) (fun e => h.ne e.symm), hb.block yb h.lt]; exact h.by'
  yl := h.yl
  ne := fun e => by
    rcases hk with hk | hk
    · rw [hk] at e; exact h.ne e
    · have h1 := hk yb e; have h2 := h.lt; have h3 := hb.size; omega
theorem AdS.set {w1 w' : World} {yb : Nat} {y y' : Rw} {ov : Value} {out : List Rw} (h : AdS w1 w' yb y ov out) {w2 : World} (hf : Fr (fun k => k = yb) w' w2) (hy : w2.heap[yb]? = some (.cells (rwA y') 78 (0, 0))) : AdS w1 w2 yb y' ov out where
  bel := h.bel.trans (hf.below h.bel.size (fun k e => by have e' : k = yb := e; have := h.yl; omega))
  own := owns_fr h.own hf (fun k e e' => by have e2 : k = yb := e'; rw [e2] at e; exact h.ne e)
  by' := hy
  yl := h.yl
  ne := h.ne

set_option maxHeartbeats 4000000 in
set_option maxRecDepth 100000 in
theorem added_ref (a : Option Addr) (n cap : Nat) (l : List Rw) (st v : Int) (g : Lb) (w : World) (hn : l.length = n) (hn5 : n ≤ 500) (hat : 0 < n → ∃ b, a = some ⟨b, 0, none⟩ ∧ At w b 0 (flatR l)) (hup : l.Pairwise fun a b => a.key.lt b.key) (hbd : ∀ i, i < n → Bd 500 (rwG l i).ag) (hv : v32 v) :
    Calls Tryz.prog 82 #[.slice a n cap, .int .i64 st, .agg (lbA3 g), .int .i32 v] w fun e w' => ∃ ov, e = .returned ov ∧ w'.ownsRow w.heap.size 78 8 ov (addR l ⟨st, g.a, g.b, g.c⟩ v).length (flatR (addR l ⟨st, g.a, g.b, g.c⟩ v)) ∧ Below w.heap.size w w' := by
  obtain ⟨v0, v1⟩ := hv
  have HAT : Hid (0 < n → ∃ b, a = some ⟨b, 0, none⟩ ∧ At w b 0 (flatR l)) := hat
  have HN : Hid (l.length = n) := hn
  have HUP : Hid (l.Pairwise fun a b => a.key.lt b.key) := hup
  have HBD : Hid (∀ i, i < n → Bd 500 (rwG l i).ag) := hbd
  obtain ⟨i0, hi, hz0, hz1, hz2⟩ := infP Tryz.info78'
  clear hat hup hbd hn
  go_enter Tryz.func82, Tryz.ntmps82
  go_upto_region 2 with fail
  have hB0 : Below w.heap.size w ((w.alloc (.cells (lbA3 g) 42)).alloc (.cells (rwA ⟨⟨st, g.a, g.b, g.c⟩, .one v⟩) 78)) := ((Below.refl _ _).alloc (Nat.le_refl _) _).alloc (by simp) _
  have hg0 : ((w.alloc (.cells (lbA3 g) 42)).alloc (.cells (rwA ⟨⟨st, g.a, g.b, g.c⟩, .one v⟩) 78)).heap[w.heap.size]? = some (.cells (lbA3 g) 42 (0, 0)) := by
    rw [Below.heap_alloc _ _ _ (by simp)]
    exact heap_alloc_new _ _
  have hx0 : ((w.alloc (.cells (lbA3 g) 42)).alloc (.cells (rwA ⟨⟨st, g.a, g.b, g.c⟩, .one v⟩) 78)).heap[w.heap.size + 1]? = some (.cells (rwA ⟨⟨st, g.a, g.b, g.c⟩, .one v⟩) 78 (0, 0)) := by
    have h9 := heap_alloc_new (w.alloc (.cells (lbA3 g) 42)) (.cells (rwA ⟨⟨st, g.a, g.b, g.c⟩, .one v⟩) 78)
    simpa only [World.size_alloc] using h9
  rw [show (Obj.cells #[Value.int IntKind.i64 st, Value.int IntKind.u8 g.a, Value.int IntKind.u8 g.b, Value.int IntKind.u8 g.c, Value.int IntKind.i64 1, Value.int IntKind.i64 v, Value.int IntKind.i32 v, Value.int IntKind.i32 v] 78) = Obj.cells (rwA ⟨⟨st, g.a, g.b, g.c⟩, .one v⟩) 78 from rfl]
  generalize (w.alloc (.cells (lbA3 g) 42)).alloc (.cells (rwA ⟨⟨st, g.a, g.b, g.c⟩, .one v⟩) 78) = w1 at *
  have HB0 : Hid (Below w.heap.size w w1) := hB0
  have hl0 : w.heap.size + 1 < w1.heap.size := (Array.getElem?_eq_some_iff.1 hx0).1
  have HFX : Hid (∀ W, Below w1.heap.size w1 W → (W.cell? ⟨w.heap.size, 0, none⟩ = some (.int .u8 g.a) ∧ W.cell? ⟨w.heap.size, 1, none⟩ = some (.int .u8 g.b) ∧ W.cell? ⟨w.heap.size, 2, none⟩ = some (.int .u8 g.c)) ∧ W.cell? ⟨w.heap.size + 1, 0, none⟩ = some (.int .i64 st) ∧ W.cell? ⟨w.heap.size + 1, 1, none⟩ = some (.int .u8 g.a) ∧ W.cell? ⟨w.heap.size + 1, 2, none⟩ = some (.int .u8 g.b) ∧ W.cell? ⟨w.heap.size + 1, 3, none⟩ = some (.int .u8 g.c) ∧ W.cell? ⟨w.heap.size + 1, 4, none⟩ = some (.int .i64 1) ∧ W.cell? ⟨w.heap.size + 1, 5, none⟩ = some (.int .i64 v) ∧ W.cell? ⟨w.heap.size + 1, 6, none⟩ = some (.int .i32 v) ∧ W.cell? ⟨w.heap.size + 1, 7, none⟩ = some (.int .i32 v)) := fun W hW => by
    have e1 : W.heap[w.heap.size]? = some (.cells (lbA3 g) 42 (0, 0)) := by rw [hW.block _ (by omega)]; exact hg0
    have e2 : W.heap[w.heap.size + 1]? = some (.cells (rwA ⟨⟨st, g.a, g.b, g.c⟩, .one v⟩) 78 (0, 0)) := by rw [hW.block _ hl0]; exact hx0
    exact ⟨⟨cell_blk e1 rfl, cell_blk e1 rfl, cell_blk e1 rfl⟩, cell_blk e2 rfl, cell_blk e2 rfl, cell_blk e2 rfl, cell_blk e2 rfl, cell_blk e2 rfl, cell_blk e2 rfl, cell_blk e2 rfl, cell_blk e2 rfl⟩
  have HAT1 : Hid (∀ W, Below w1.heap.size w1 W → 0 < n → ∃ b, a = some ⟨b, 0, none⟩ ∧ At W b 0 (flatR l)) := fun W hW h0 => by
    obtain ⟨b, e, hat⟩ := HAT.out h0
    refine ⟨b, e, fun j u hj => ?_⟩
    have h9 := hat j u hj
    have hbl : b < w.heap.size := World.block_lt_of_cell? w _ h9
    exact ((hB0.trans (hW.mono hB0.size)).cell (p := ⟨b, 0 + j, none⟩) hbl).trans h9
  clear hB0 hg0 hx0 HAT
  go_wp2_with fail
  go_loopw [10, 11, 12] (fun ov inv i wr => ∃ (k : Nat) (inb : Bool) (out : List Rw), i = .int .i64 k ∧ k ≤ n ∧ inv = .bool inb ∧ wr.ownsRow w1.heap.size 78 8 ov out.length (flatR out) ∧ addR l ⟨st, g.a, g.b, g.c⟩ v = out ++ rest inb (l.drop k) ⟨st, g.a, g.b, g.c⟩ v ∧ (inb = true → ∀ r ∈ l.drop k, Key.lt ⟨st, g.a, g.b, g.c⟩ r.key) ∧ out.length ≤ k + 1 ∧ (inb = false → out.length ≤ k) ∧ Below w1.heap.size w1 wr) (fun _ _ i _ => n - (intOf i).toNat)
  case atStart => exact ⟨0, false, [], rfl, Nat.zero_le _, rfl, World.ownsRow_nil _ _ _ _, by simp [rest], (fun e => by cases e), by simp, by simp, Below.refl _ _⟩
  case round =>
    obtain ⟨k, inb, out, rfl, hk, rfl, hown, hinv, hin, hol, hol2, hbe⟩ := hrel
    rename World => V
    have HOW : Hid (V.ownsRow w1.heap.size 78 8 u10 out.length (flatR out)) := hown
    have HINV : Hid (addR l ⟨st, g.a, g.b, g.c⟩ v = out ++ rest inb (l.drop k) ⟨st, g.a, g.b, g.c⟩ v) := hinv
    have HIN : Hid (inb = true → ∀ r ∈ l.drop k, Key.lt ⟨st, g.a, g.b, g.c⟩ r.key) := hin
    have HBE : Hid (Below w1.heap.size w1 V) := hbe
    obtain ⟨ua, ucap, eu⟩ := ownForm hown
    subst eu
    have HOL2 : Hid (inb = false → out.length ≤ k) := hol2
    clear hown hinv hin hbe hol2
    by_cases hlt : k < n
    · obtain ⟨b, rfl, hat⟩ := HAT1.out V HBE.out (by omega)
      have hgt : ∀ j u, (Rw.cells (rwG l k))[j]? = some u → V.cell? ⟨b, k * 8 + j, none⟩ = some u := fun j u hu => by
        have hkl : k < l.length := by rw [HN.out]; exact hlt
        rw [rwG_get l k hkl] at hu
        have h9 := at_elem Rw.cells 8 len8 hat k hkl j u hu
        simpa using h9
      have c0 : V.cell? ⟨b, k * 8, none⟩ = some (.int .i64 (rwG l k).key.st) := hgt 0 _ rfl
      have c1 := hgt 1 _ rfl
      have c2 := hgt 2 _ rfl
      have c3 := hgt 3 _ rfl
      have c4 := hgt 4 _ rfl
      have c5 := hgt 5 _ rfl
      have c6 := hgt 6 _ rfl
      have c7 := hgt 7 _ rfl
      have hbd := HBD.out k hlt
      have hzV := HBE.out.size
      have HAD0 : Hid (AdS w1 (V.alloc (.cells (rwA (rwG l k)) 78)) V.heap.size (rwG l k) (.slice ua out.length ucap) out) :=
        { bel := HBE.out.alloc hzV _, own := HOW.out.alloc _, by' := heap_alloc_new _ _, yl := hzV, ne := fun e => by have := (HOW.out.lt _ e).2; omega }
      have HSTEP : Hid (∀ dk r : Bool, (dk = true ↔ (rwG l k).key = ⟨st, g.a, g.b, g.c⟩) → (r = true ↔ Key.lt ⟨st, g.a, g.b, g.c⟩ (rwG l k).key) → addR l ⟨st, g.a, g.b, g.c⟩ v = (out ++ apX (!(inb || dk) && r) ⟨st, g.a, g.b, g.c⟩ v ++ [joY dk (rwG l k) v]) ++ rest ((inb || dk) || (!(inb || dk) && r)) (l.drop (k + 1)) ⟨st, g.a, g.b, g.c⟩ v ∧ (((inb || dk) || (!(inb || dk) && r)) = true → ∀ x ∈ l.drop (k + 1), Key.lt ⟨st, g.a, g.b, g.c⟩ x.key)) := fun dk r h1 h2 => ad_step HUP.out (by rw [HN.out]; exact hlt) HINV.out HIN.out h1 h2
      clear hat hgt
      generalize rwG l k = y at *
      go_upto_region 8 with fail
      rw [show (Obj.cells #[Value.int IntKind.i64 y.key.st, Value.int IntKind.u8 y.key.g0, Value.int IntKind.u8 y.key.g1, Value.int IntKind.u8 y.key.g2, Value.int IntKind.i64 y.ag.cnt, Value.int IntKind.i64 y.ag.sum, Value.int IntKind.i32 y.ag.mn, Value.int IntKind.i32 y.ag.mx] 78) = Obj.cells (rwA y) 78 from rfl]
      generalize V.alloc (.cells (rwA y) 78) = w2 at *
      generalize V.heap.size = yb at *
      clear c0 c1 c2 c3 c4 c5 c6 c7
      have z0 : w2.cell? ⟨yb, 0, none⟩ = some (.int .i64 y.key.st) := cell_blk HAD0.out.by' rfl
      have z1 : w2.cell? ⟨yb, 1, none⟩ = some (.int .u8 y.key.g0) := cell_blk HAD0.out.by' rfl
      have z2 : w2.cell? ⟨yb, 2, none⟩ = some (.int .u8 y.key.g1) := cell_blk HAD0.out.by' rfl
      have z3 : w2.cell? ⟨yb, 3, none⟩ = some (.int .u8 y.key.g2) := cell_blk HAD0.out.by' rfl
      obtain ⟨⟨g0, g1, g2⟩, x0, x1, x2, x3, x4, x5, x6, x7⟩ := HFX.out w2 HAD0.out.bel
      have HKB : Hid (decide (y.key = ⟨st, g.a, g.b, g.c⟩) = ((y.key.st == st) && (y.key.g0 == g.a && y.key.g1 == g.b && y.key.g2 == g.c))) := key_beq y _
      go_cut [41] from 22 to 79 (fun vv wz => vv = .bool (decide (y.key = ⟨st, g.a, g.b, g.c⟩)) ∧ wz = w2)
      case first =>
        have heq := fun w => eq26 9998 y.key.g0 y.key.g1 y.key.g2 g.a g.b g.c w
        cases e1 : (y.key.st == st) <;> cases e2 : (y.key.g0 == g.a && y.key.g1 == g.b && y.key.g2 == g.c)
        all_goals
          rw [e2] at heq
          rw [e1, e2] at HKB
          go_wp2_with fail
          go_meet
          case rel => exact ⟨by rw [HKB.out]; rfl, rfl⟩
      case rest =>
        obtain ⟨rfl, hwc⟩ := hcut
        obtain rfl := hwc.symm
        obtain ⟨dk, hdk⟩ : ∃ dk, dk = decide (y.key = ⟨st, g.a, g.b, g.c⟩) := ⟨_, rfl⟩
        rw [← hdk]
        have HDK : Hid (dk = true ↔ y.key = ⟨st, g.a, g.b, g.c⟩) := by rw [hdk, decide_eq_true_eq]; exact Iff.rfl
        clear hdk HKB
        have z4 : w2.cell? ⟨yb, 4, none⟩ = some (.int .i64 y.ag.cnt) := cell_blk HAD0.out.by' rfl
        have z5 : w2.cell? ⟨yb, 5, none⟩ = some (.int .i64 y.ag.sum) := cell_blk HAD0.out.by' rfl
        have z6 : w2.cell? ⟨yb, 6, none⟩ = some (.int .i32 y.ag.mn) := cell_blk HAD0.out.by' rfl
        have z7 : w2.cell? ⟨yb, 7, none⟩ = some (.int .i32 y.ag.mx) := cell_blk HAD0.out.by' rfl
        have f4 : w2.frozen? ⟨yb, 4, none⟩ = false := froz_blk HAD0.out.by'
        have f5 : w2.frozen? ⟨yb, 5, none⟩ = false := froz_blk HAD0.out.by'
        have f6 : w2.frozen? ⟨yb, 6, none⟩ = false := froz_blk HAD0.out.by'
        have f7 : w2.frozen? ⟨yb, 7, none⟩ = false := froz_blk HAD0.out.by'
        go_upto_if 41 with fail
        go_cut [11] from 22 to 79 (fun vv wz => vv = .bool (inb || dk) ∧ AdS w1 wz yb (joY dk y v) (.slice ua out.length ucap) out)
        case first =>
          cases dk
          · go_wp2_with fail
            go_meet
            case rel => exact ⟨by rw [Bool.or_false], HAD0.out⟩
          · obtain ⟨b1, b2, b3, b4, b5, b6, b7, b8⟩ := hbd
            have HIO : Hid ((inb || true) = true) := Bool.or_true _
            have HJY : Hid (rwA (joY true y v) = #[.int .i64 y.key.st, .int .u8 y.key.g0, .int .u8 y.key.g1, .int .u8 y.key.g2, .int .i64 (y.ag.cnt + 1), .int .i64 (y.ag.sum + v), .int .i32 (min y.ag.mn v), .int .i32 (max y.ag.mx v)]) := rfl
            have s0 : -9223372036854775808 ≤ y.ag.sum + v := by omega
            have s1 : y.ag.sum + v ≤ 9223372036854775807 := by omega
            have HYB : Hid (w2.heap[yb]? = some (.cells (rwA y) 78 (0, 0))) := HAD0.out.by'
            by_cases hmn : v < y.ag.mn <;> by_cases hmx : y.ag.mx < v
            all_goals
              have HMN : Hid (min y.ag.mn v = if v < y.ag.mn then v else y.ag.mn) := by show _ = _; split <;> omega
              have HMX : Hid (max y.ag.mx v = if y.ag.mx < v then v else y.ag.mx) := by show _ = _; split <;> omega
              go_wp2_with fail
              go_meet
              case rel =>
                refine ⟨by rw [HIO.out], HAD0.out.set ?_ ?_⟩
                · repeat (first | exact Fr.refl _ _ | refine fr_set1 ?_)
                · rw [HJY.out, HMN.out, HMX.out]
                  first
                    | (rw [if_pos (by omega), if_pos (by omega)]; exact heap_setCell (heap_setCell (heap_setCell (heap_setCell HYB.out))))
                    | (rw [if_pos (by omega), if_neg (by omega)]; exact heap_setCell (heap_setCell (heap_setCell HYB.out)))
                    | (rw [if_neg (by omega), if_pos (by omega)]; exact heap_setCell (heap_setCell (heap_setCell HYB.out)))
                    | (rw [if_neg (by omega), if_neg (by omega)]; exact heap_setCell (heap_setCell HYB.out))
        case rest =>
          obtain ⟨rfl, had⟩ := hcut
          have HAD : Hid (AdS w1 wc yb (joY dk y v) (.slice ua out.length ucap) out) := had
          clear had z0 z1 z2 z3 z4 z5 z6 z7 f4 f5 f6 f7 g0 g1 g2 x0 x1 x2 x3 x4 x5 x6 x7 HAD0
          have HKY : Hid ((joY dk y v).key = y.key) := joY_key dk y v
          have HFY : Hid (∀ W, AdS w1 W yb (joY dk y v) (.slice ua out.length ucap) out → W.cell? ⟨yb, 0, none⟩ = some (.int .i64 (joY dk y v).key.st) ∧ W.cell? ⟨yb, 1, none⟩ = some (.int .u8 (joY dk y v).key.g0) ∧ W.cell? ⟨yb, 2, none⟩ = some (.int .u8 (joY dk y v).key.g1) ∧ W.cell? ⟨yb, 3, none⟩ = some (.int .u8 (joY dk y v).key.g2) ∧ W.cell? ⟨yb, 4, none⟩ = some (.int .i64 (joY dk y v).ag.cnt) ∧ W.cell? ⟨yb, 5, none⟩ = some (.int .i64 (joY dk y v).ag.sum) ∧ W.cell? ⟨yb, 6, none⟩ = some (.int .i32 (joY dk y v).ag.mn) ∧ W.cell? ⟨yb, 7, none⟩ = some (.int .i32 (joY dk y v).ag.mx)) := fun W hW => ⟨cell_blk hW.by' rfl, cell_blk hW.by' rfl, cell_blk hW.by' rfl, cell_blk hW.by' rfl, cell_blk hW.by' rfl, cell_blk hW.by' rfl, cell_blk hW.by' rfl, cell_blk hW.by' rfl⟩
          obtain ⟨z0, z1, z2, z3, z4, z5, z6, z7⟩ := HFY.out wc HAD.out
          obtain ⟨⟨g0, g1, g2⟩, x0, x1, x2, x3, x4, x5, x6, x7⟩ := HFX.out wc HAD.out.bel
          have HLS := less_ref ⟨⟨st, g.a, g.b, g.c⟩, .one v⟩ (joY dk y v) wc
          have HST2 := fun r => HSTEP.out dk r HDK.out
          have HST3 : Hid (∀ r : Bool, (r = true ↔ Key.lt ⟨st, g.a, g.b, g.c⟩ (joY dk y v).key) → addR l ⟨st, g.a, g.b, g.c⟩ v = (out ++ apX (!(inb || dk) && r) ⟨st, g.a, g.b, g.c⟩ v ++ [joY dk y v]) ++ rest ((inb || dk) || (!(inb || dk) && r)) (l.drop (k + 1)) ⟨st, g.a, g.b, g.c⟩ v ∧ (((inb || dk) || (!(inb || dk) && r)) = true → ∀ x ∈ l.drop (k + 1), Key.lt ⟨st, g.a, g.b, g.c⟩ x.key)) := by
            rw [HKY.out]
            exact HST2
          have hol3 : (inb || dk) = false → out.length ≤ k := fun e => HOL2.out (by cases inb; rfl; simp at e)
          have HOL3 : Hid ((inb || dk) = false → out.length ≤ k) := hol3
          clear HST2 hol3 HKY HSTEP HDK HINV HIN
          generalize (inb || dk) = ii at *
          generalize joY dk y v = yy at *
          go_wp2_with fail
          refine HLS.mono ?_
          clear HLS
          rintro e w3 ⟨⟨r, rfl, hr⟩, hb3⟩
          obtain ⟨he1, he2⟩ := HST3.out r hr
          have HE1 : Hid (addR l ⟨st, g.a, g.b, g.c⟩ v = (out ++ apX (!ii && r) ⟨st, g.a, g.b, g.c⟩ v ++ [yy]) ++ rest (ii || (!ii && r)) (l.drop (k + 1)) ⟨st, g.a, g.b, g.c⟩ v) := he1
          have HE2 : Hid ((ii || (!ii && r)) = true → ∀ x ∈ l.drop (k + 1), Key.lt ⟨st, g.a, g.b, g.c⟩ x.key) := he2
          have HAD3 : Hid (AdS w1 w3 yb yy (.slice ua out.length ucap) out) := HAD.out.below hb3
          clear he1 he2 hr hb3 z0 z1 z2 z3 z4 z5 z6 z7 g0 g1 g2 x0 x1 x2 x3 x4 x5 x6 x7 HST3 HAD
          go_upto_region 17 with fail
          go_cut [71] from 22 to 79 (fun vv wz => vv = .bool (!ii && r) ∧ wz = w3)
          case first =>
            cases ii <;> cases r
            all_goals
              go_wp2_with fail
              go_meet
              case rel => exact ⟨rfl, rfl⟩
          case rest =>
          obtain ⟨rfl, hwc⟩ := hcut
          obtain rfl := hwc.symm
          go_upto_if 71 with fail
          go_cut [10, 11] from 22 to 79 (fun ov iv wz => iv = .bool (ii || (!ii && r)) ∧ AdS w1 wz yb yy ov (out ++ apX (!ii && r) ⟨st, g.a, g.b, g.c⟩ v))
          case first =>
            have HB4 : Hid (Below w1.heap.size w1 w3) := HAD3.out.bel
            obtain ⟨⟨g0, g1, g2⟩, x0, x1, x2, x3, x4, x5, x6, x7⟩ := HFX.out w3 HB4.out
            cases ii
            · cases r
              · go_wp2_with fail
                go_meet
                case rel => exact ⟨rfl, by simp only [apX]; simpa using HAD3.out⟩
              · have HOW4 : Hid ((w3.alloc (.cells (Rw.cells ⟨⟨st, g.a, g.b, g.c⟩, .one v⟩).toArray 78)).ownsRow w1.heap.size 78 8 (.slice ua out.length ucap) out.length (flatR out)) := HAD3.out.own.alloc _
                have HNW : Hid (∀ j u, (Rw.cells ⟨⟨st, g.a, g.b, g.c⟩, .one v⟩)[j]? = some u → (w3.alloc (.cells (Rw.cells ⟨⟨st, g.a, g.b, g.c⟩, .one v⟩).toArray 78)).cell? ((⟨w3.heap.size, 0, none⟩ : Addr).add j) = some u) := newAt _ _ _ _ rfl
                have hz3 := HB4.out.size
                go_wp2_with (refine listAppend rfl (.tmp 72) (.tmp 74) 79 rfl w1.heap.size 78 i0 (.agg #[.int .i64 0, .int .u8 0, .int .u8 0, .int .u8 0, .int .i64 0, .int .i64 0, .int .i32 0, .int .i32 0]) 8 40 Tryz.underlying79 hi hz0 hz1 hz2 rfl (by decide) (.slice ua out.length ucap) out.length (flatR out) (by simp [Act.eval]) HOW4.out ⟨w3.heap.size, 0, none⟩ 1 1 (Rw.cells ⟨⟨st, g.a, g.b, g.c⟩, .one v⟩) (by simp [Act.eval]) rfl HNW.out (Rw.one _) (by unfold maxLen; omega) (by omega) (by rw [World.size_alloc]; omega) ?_; intro ov' w5 hown' hgrow hblk; have HA5 : Hid (AdS w1 w5 yb yy ov' (out ++ [⟨⟨st, g.a, g.b, g.c⟩, .one v⟩])) := HAD3.out.app ((Below.refl _ _).alloc (Nat.le_refl _) _) hgrow hown' hblk; clear hown' hgrow hblk)
                go_meet
                case rel => exact ⟨rfl, HA5.out⟩
            · rw [show (!true && r) = false from rfl]
              go_wp2_with fail
              go_meet
              case rel => exact ⟨rfl, by simp only [apX]; simpa using HAD3.out⟩
          case rest =>
            obtain ⟨rfl, had⟩ := hcut
            have HAD5 : Hid (AdS w1 wc yb yy u10 (out ++ apX (!ii && r) ⟨st, g.a, g.b, g.c⟩ v)) := had
            have hol5 : (out ++ apX (!ii && r) ⟨st, g.a, g.b, g.c⟩ v).length ≤ k + 1 := by
              rw [List.length_append]
              cases ii
              · have h9 := HOL3.out rfl
                cases r <;> simp [apX] <;> omega
              · simp [apX]; omega
            have HOL6 : Hid ((ii || (!ii && r)) = false → (out ++ apX (!ii && r) ⟨st, g.a, g.b, g.c⟩ v).length ≤ k) := fun e => by
              cases ii
              · cases r
                · have h9 := HOL3.out rfl
                  simp [apX]; omega
                · simp at e
              · simp at e
            clear had HAD3 HFX
            generalize out ++ apX (!ii && r) ⟨st, g.a, g.b, g.c⟩ v = out2 at *
            generalize hjj : (ii || (!ii && r)) = jj at *
            obtain ⟨ra, rcap, er⟩ := ownForm HAD5.out.own
            subst er
            have z0 : wc.cell? ⟨yb, 0, none⟩ = some (.int .i64 yy.key.st) := cell_blk HAD5.out.by' rfl
            have z1 : wc.cell? ⟨yb, 1, none⟩ = some (.int .u8 yy.key.g0) := cell_blk HAD5.out.by' rfl
            have z2 : wc.cell? ⟨yb, 2, none⟩ = some (.int .u8 yy.key.g1) := cell_blk HAD5.out.by' rfl
            have z3 : wc.cell? ⟨yb, 3, none⟩ = some (.int .u8 yy.key.g2) := cell_blk HAD5.out.by' rfl
            have z4 : wc.cell? ⟨yb, 4, none⟩ = some (.int .i64 yy.ag.cnt) := cell_blk HAD5.out.by' rfl
            have z5 : wc.cell? ⟨yb, 5, none⟩ = some (.int .i64 yy.ag.sum) := cell_blk HAD5.out.by' rfl
            have z6 : wc.cell? ⟨yb, 6, none⟩ = some (.int .i32 yy.ag.mn) := cell_blk HAD5.out.by' rfl
            have z7 : wc.cell? ⟨yb, 7, none⟩ = some (.int .i32 yy.ag.mx) := cell_blk HAD5.out.by' rfl
            have HOW6 : Hid ((wc.alloc (.cells (Rw.cells yy).toArray 78)).ownsRow w1.heap.size 78 8 (.slice ra out2.length rcap) out2.length (flatR out2)) := HAD5.out.own.alloc _
            have HNW : Hid (∀ j u, (Rw.cells yy)[j]? = some u → (wc.alloc (.cells (Rw.cells yy).toArray 78)).cell? ((⟨wc.heap.size, 0, none⟩ : Addr).add j) = some u) := newAt _ _ _ _ rfl
            have hz5 := HAD5.out.bel.size
            go_wp2_with (refine listAppend rfl (.tmp 76) (.tmp 78) 79 rfl w1.heap.size 78 i0 (.agg #[.int .i64 0, .int .u8 0, .int .u8 0, .int .u8 0, .int .i64 0, .int .i64 0, .int .i32 0, .int .i32 0]) 8 40 Tryz.underlying79 hi hz0 hz1 hz2 rfl (by decide) (.slice ra out2.length rcap) out2.length (flatR out2) (by simp [Act.eval]) HOW6.out ⟨wc.heap.size, 0, none⟩ 1 1 (Rw.cells yy) (by simp [Act.eval]) rfl HNW.out (Rw.one _) (by unfold maxLen; omega) (by omega) (by rw [World.size_alloc]; omega) ?_; intro ov' w7 hown' hgrow hblk; have HA7 : Hid (AdS w1 w7 yb yy ov' (out2 ++ [yy])) := HAD5.out.app ((Below.refl _ _).alloc (Nat.le_refl _) _) hgrow hown' hblk; clear hown' hgrow hblk)
            exact ⟨⟨k + 1, jj, out2 ++ [yy], by go_num, by omega, rfl, HA7.out.own, HE1.out, HE2.out, by simp; omega, (fun e => by have h9 := HOL6.out e; simp; omega), HA7.out.bel⟩, by simp [intOf]; omega⟩
    · have hkE : k = l.length := by rw [HN.out]; omega
      have HEND : Hid (addR l ⟨st, g.a, g.b, g.c⟩ v = out ++ apX (!inb) ⟨st, g.a, g.b, g.c⟩ v) := ad_end (by rw [← hkE]; exact HINV.out)
      have HBF : Hid (∀ W, Below w1.heap.size w1 W → Below w.heap.size w W) := fun W hW => HB0.out.trans (hW.mono HB0.out.size)
      have hz1' := HB0.out.size
      obtain ⟨⟨g0, g1, g2⟩, x0, x1, x2, x3, x4, x5, x6, x7⟩ := HFX.out V HBE.out
      cases inb
      · have HOW4 : Hid ((V.alloc (.cells (Rw.cells ⟨⟨st, g.a, g.b, g.c⟩, .one v⟩).toArray 78)).ownsRow w1.heap.size 78 8 (.slice ua out.length ucap) out.length (flatR out)) := HOW.out.alloc _
        have HNW : Hid (∀ j u, (Rw.cells ⟨⟨st, g.a, g.b, g.c⟩, .one v⟩)[j]? = some u → (V.alloc (.cells (Rw.cells ⟨⟨st, g.a, g.b, g.c⟩, .one v⟩).toArray 78)).cell? ((⟨V.heap.size, 0, none⟩ : Addr).add j) = some u) := newAt _ _ _ _ rfl
        have hz3 := HBE.out.size
        have HBA : Hid (Below w1.heap.size w1 (V.alloc (.cells (Rw.cells ⟨⟨st, g.a, g.b, g.c⟩, .one v⟩).toArray 78))) := HBE.out.alloc hz3 _
        have HUB : Hid (∀ kk, (Value.slice ua out.length ucap).ownBlock = some kk → w1.heap.size ≤ kk) := fun kk e => (HOW.out.lt kk e).1
        go_wp2_with (refine listAppend rfl (.tmp 82) (.tmp 84) 79 rfl w1.heap.size 78 i0 (.agg #[.int .i64 0, .int .u8 0, .int .u8 0, .int .u8 0, .int .i64 0, .int .i64 0, .int .i32 0, .int .i32 0]) 8 40 Tryz.underlying79 hi hz0 hz1 hz2 rfl (by decide) (.slice ua out.length ucap) out.length (flatR out) (by simp [Act.eval]) HOW4.out ⟨V.heap.size, 0, none⟩ 1 1 (Rw.cells ⟨⟨st, g.a, g.b, g.c⟩, .one v⟩) (by simp [Act.eval]) rfl HNW.out (Rw.one _) (by unfold maxLen; omega) (by omega) (by rw [World.size_alloc]; omega) ?_; intro ov' w5 hown' hgrow hblk; have HA5 : Hid (w5.ownsRow w1.heap.size 78 8 ov' (out.length + 1) (flatR out ++ Rw.cells ⟨⟨st, g.a, g.b, g.c⟩, .one v⟩) ∧ Below w1.heap.size w1 w5) := ⟨hown', HBA.out.grown hgrow (by rw [World.size_alloc]; omega) HUB.out⟩; clear hown' hgrow hblk)
        go_ret
        refine ⟨_, rfl, ?_, HBF.out _ HA5.out.2⟩
        rw [HEND.out, show out ++ apX (!false) ⟨st, g.a, g.b, g.c⟩ v = out ++ [⟨⟨st, g.a, g.b, g.c⟩, .one v⟩] from rfl, List.length_append, show flatR (out ++ [⟨⟨st, g.a, g.b, g.c⟩, .one v⟩]) = flatR out ++ Rw.cells ⟨⟨st, g.a, g.b, g.c⟩, .one v⟩ from flat_snoc _ _ _]
        exact owns_base HA5.out.1 (fun kk e => by have := (HA5.out.1.lt kk e).1; omega)
      · go_wp2_with fail
        go_ret
        refine ⟨_, rfl, ?_, HBF.out _ HBE.out⟩
        rw [HEND.out, show out ++ apX (!true) ⟨st, g.a, g.b, g.c⟩ v = out from List.append_nil _]
        exact owns_base HOW.out (fun kk e => by have := (HOW.out.lt kk e).1; omega)

end Go.Proofs.YthciddpljcbhiabGreatDoor

/- Walks: is it a query? does a level not keep a key that it names? (garnerref) -/
namespace Go.Proofs.YthciddpljcbhiabGreatDoor
open Go Go.RowKit Go.Lib

def headQ (q : Qy) : Prop := 0 ≤ q.fr ∧ q.fr < q.to ∧ q.to ≤ 100100 ∧ 1 ≤ q.step ∧ q.mt.size = 3 ∧ q.gb.size = 3
theorem head_parts {q : Qy} (h : ¬ headQ q) : q.fr < 0 ∨ (0 ≤ q.fr ∧ q.to ≤ q.fr) ∨ (0 ≤ q.fr ∧ q.fr < q.to ∧ 100100 < q.to) ∨ (0 ≤ q.fr ∧ q.fr < q.to ∧ q.to ≤ 100100 ∧ q.step < 1) ∨
    (0 ≤ q.fr ∧ q.fr < q.to ∧ q.to ≤ 100100 ∧ 1 ≤ q.step ∧ ¬ q.mt.size = 3) ∨ (0 ≤ q.fr ∧ q.fr < q.to ∧ q.to ≤ 100100 ∧ 1 ≤ q.step ∧ q.mt.size = 3 ∧ ¬ q.gb.size = 3) := by
  unfold headQ at h
  omega
theorem rightQ_head {q : Qy} (h : ¬ headQ q) : rightQ q = false := by
  cases hr : rightQ q with
  | false => rfl
  | true =>
    exfalso
    apply h
    simp only [rightQ, Bool.and_eq_true, decide_eq_true_eq] at hr
    exact ⟨by omega, by omega, by omega, by omega, by omega, by omega⟩
theorem rightQ_rest {q : Qy} (h : headQ q) : rightQ q = (decide ((q.to - q.fr) % q.step = 0) && decide ((q.to - q.fr) / q.step ≤ 20) && (mB (byt q.mt 0) && mB (byt q.mt 1) && mB (byt q.mt 2)) && (bB (byt q.gb 0) && bB (byt q.gb 1) && bB (byt q.gb 2))) := by
  obtain ⟨h1, h2, h3, h4, h5, h6⟩ := h
  simp [rightQ, h1, h2, h3, h4, h5, h6]
theorem box5q (w : World) (q : Qy) : (w.alloc (.cells (qyC q) 45)).heap[w.heap.size]? = some (.cells (qyC q) 45 (0, 0)) ∧ Below w.heap.size w (w.alloc (.cells (qyC q) 45)) := ⟨heap_alloc_new _ _, (Below.refl _ _).alloc (Nat.le_refl _) _⟩

set_option maxHeartbeats 4000000 in
set_option maxRecDepth 100000 in
theorem rightq_ref (q : Qy) (w : World) (hq : q.wf) : Calls Tryz.prog 103 #[.agg (qyC q)] w fun e w' => e = .returned (.bool (rightQ q)) ∧ Below w.heap.size w w' := by
  obtain ⟨a0, a1, b0, b1, c0, c1, m1, g1⟩ := hq
  unfold maxLen at m1 g1
  obtain ⟨hbk, hbl⟩ := box5q w q
  have HBL : Hid (Below w.heap.size w (w.alloc (.cells (qyC q) 45))) := hbl
  have HBK : Hid ((w.alloc (.cells (qyC q) 45)).heap[w.heap.size]? = some (.cells (qyC q) 45 (0, 0))) := hbk
  clear hbk hbl
  by_cases hh : headQ q
  · have HR : Hid (rightQ q = _) := rightQ_rest hh
    obtain ⟨h1, h2, h3, h4, h5, h6⟩ := hh
    have hd0 : 0 ≤ q.to - q.fr := by omega
    have e1 : (q.to - q.fr).tdiv q.step = (q.to - q.fr) / q.step := Int.tdiv_eq_ediv_of_nonneg hd0
    have e2 : (q.to - q.fr).tmod q.step = (q.to - q.fr) % q.step := Int.tmod_eq_emod_of_nonneg hd0
    have f0 : 0 ≤ (q.to - q.fr) / q.step := Int.ediv_nonneg hd0 (by omega)
    have f1 : (q.to - q.fr) / q.step ≤ q.to - q.fr := Int.ediv_le_self _ hd0
    have hs0 : ¬ q.step = 0 := by omega
    have s5 : ((q.mt.size : Int) != 3) = false := by simp; omega
    have s6 : ((q.gb.size : Int) != 3) = false := by simp; omega
    by_cases hm : (q.to - q.fr) % q.step = 0
    · have hmb : (((q.to - q.fr) % q.step) != 0) = false := by simp [hm]
      have HM : Hid (decide ((q.to - q.fr) % q.step = 0) = true) := by show _ = _; simp [hm]
      clear hm
      by_cases hn : (q.to - q.fr) / q.step ≤ 20
      · have HN : Hid (decide ((q.to - q.fr) / q.step ≤ 20) = true) := by show _ = _; simp [hn]
        go_enter Tryz.func103, Tryz.ntmps103
        go_upto_region 1 with fail
        generalize w.alloc (.cells (qyC q) 45) = w0 at *
        have x0 : w0.cell? ⟨w.heap.size, 0, none⟩ = some (.int .i64 q.fr) := cell_blk HBK.out rfl
        have x1 : w0.cell? ⟨w.heap.size, 1, none⟩ = some (.int .i64 q.to) := cell_blk HBK.out rfl
        have x2 : w0.cell? ⟨w.heap.size, 2, none⟩ = some (.int .i64 q.step) := cell_blk HBK.out rfl
        have x3 : w0.cell? ⟨w.heap.size, 3, none⟩ = some (.string q.mt) := cell_blk HBK.out rfl
        have x4 : w0.cell? ⟨w.heap.size, 4, none⟩ = some (.string q.gb) := cell_blk HBK.out rfl
        go_wp2_with fail
        go_loopw [4] (fun i wr => ∃ k : Nat, k ≤ 3 ∧ i = .int .i64 k ∧ (∀ j, j < k → mB (byt q.mt j) = true ∧ bB (byt q.gb j) = true) ∧ wr = w0) (fun i _ => 3 - (intOf i).toNat)
        case atStart => exact ⟨0, Nat.zero_le _, rfl, fun j hj => by omega, rfl⟩
        case round =>
          obtain ⟨k, hk, rfl, hall, rfl⟩ := hrel
          have HA : Hid (∀ j, j < k → mB (byt q.mt j) = true ∧ bB (byt q.gb j) = true) := hall
          clear hall
          by_cases hlt : k < 3
          · have HB : Hid (((q.mt[k].toNat : Nat) : Int) = byt q.mt k) := byt_eq q.mt k (by omega)
            have HG : Hid (((q.gb[k].toNat : Nat) : Int) = byt q.gb k) := byt_eq q.gb k (by omega)
            have HMB : Hid (mB (byt q.mt k) = (letB ((q.mt[k].toNat : Nat) : Int) || ((q.mt[k].toNat : Nat) : Int) == 46 || ((q.mt[k].toNat : Nat) : Int) == 45)) := by show _ = _; rw [HB.out]; rfl
            have HGB : Hid (bB (byt q.gb k) = (((q.gb[k].toNat : Nat) : Int) == 48 || ((q.gb[k].toNat : Nat) : Int) == 49)) := by show _ = _; rw [HG.out]; rfl
            have HNEX : Hid (mB (byt q.mt k) = true → bB (byt q.gb k) = true → ∀ j, j < k + 1 → mB (byt q.mt j) = true ∧ bB (byt q.gb j) = true) := fun u1 u2 j hj => by
              by_cases e : j = k
              · subst e; exact ⟨u1, u2⟩
              · exact HA.out j (by omega)
            have HFAL : Hid (mB (byt q.mt k) = false ∨ bB (byt q.gb k) = false → rightQ q = false) := fun hor => by
              rw [HR.out, HM.out, HN.out]
              have : k = 0 ∨ k = 1 ∨ k = 2 := by omega
              rcases hor with u | u <;> rcases this with rfl | rfl | rfl <;> simp [u]
            generalize mB (byt q.mt k) = MB at *
            generalize bB (byt q.gb k) = GB at *
            have hM : (MB = true ∧ ((letB ((q.mt[k].toNat : Nat) : Int) = true) ∨ (letB ((q.mt[k].toNat : Nat) : Int) = false ∧ (((q.mt[k].toNat : Nat) : Int) != 46) = false) ∨ (letB ((q.mt[k].toNat : Nat) : Int) = false ∧ (((q.mt[k].toNat : Nat) : Int) != 46) = true ∧ (((q.mt[k].toNat : Nat) : Int) != 45) = false))) ∨ (MB = false ∧ letB ((q.mt[k].toNat : Nat) : Int) = false ∧ (((q.mt[k].toNat : Nat) : Int) != 46) = true ∧ (((q.mt[k].toNat : Nat) : Int) != 45) = true) := by
              rw [HMB.out]
              unfold bne
              cases letB ((q.mt[k].toNat : Nat) : Int) <;> cases (((q.mt[k].toNat : Nat) : Int) == 46) <;> cases (((q.mt[k].toNat : Nat) : Int) == 45) <;> simp
            have hG : (GB = true ∧ ((((q.gb[k].toNat : Nat) : Int) != 48) = false ∨ ((((q.gb[k].toNat : Nat) : Int) != 48) = true ∧ (((q.gb[k].toNat : Nat) : Int) != 49) = false))) ∨ (GB = false ∧ (((q.gb[k].toNat : Nat) : Int) != 48) = true ∧ (((q.gb[k].toNat : Nat) : Int) != 49) = true) := by
              rw [HGB.out]
              unfold bne
              cases (((q.gb[k].toNat : Nat) : Int) == 48) <;> cases (((q.gb[k].toNat : Nat) : Int) == 49) <;> simp
            have HL := letter_any ((q.mt[k].toNat : Nat) : Int)
            clear HMB HGB
            rcases hM with ⟨hMB, h | ⟨h, h'⟩ | ⟨h, h', h''⟩⟩ | ⟨hMB, h, h', h''⟩
            rotate_left 3
            · rw [h] at HL
              have HF : Hid (rightQ q = false) := HFAL.out (.inl hMB)
              clear hG hMB h
              go_wp2_with (go_at_call 89; refine (HL _).mono ?_; rintro e w' ⟨rfl, rfl⟩)
              go_ret
              exact ⟨by rw [HF.out]; rfl, HBL.out⟩
            all_goals
              rw [h] at HL
              clear h
              rcases hG with ⟨hGB, g | ⟨g, g'⟩⟩ | ⟨hGB, g, g'⟩
              rotate_left 2
              · have HF : Hid (rightQ q = false) := HFAL.out (.inr hGB)
                clear hGB hMB
                go_wp2_with (go_at_call 89; refine (HL _).mono ?_; rintro e w' ⟨rfl, rfl⟩)
                go_ret
                exact ⟨by rw [HF.out]; rfl, HBL.out⟩
              all_goals
                have HNN : Hid (∀ j, j < k + 1 → mB (byt q.mt j) = true ∧ bB (byt q.gb j) = true) := HNEX.out hMB hGB
                clear hGB hMB
                go_wp2_with (go_at_call 89; refine (HL _).mono ?_; rintro e w' ⟨rfl, rfl⟩)
                exact ⟨⟨k + 1, by omega, by go_num, HNN.out, trivial⟩, by simp [intOf]; omega⟩
          · have HT : Hid (rightQ q = true) := by
              show _ = _
              rw [HR.out, HM.out, HN.out]
              obtain ⟨u0, v0⟩ := HA.out 0 (by omega)
              obtain ⟨u1, v1⟩ := HA.out 1 (by omega)
              obtain ⟨u2, v2⟩ := HA.out 2 (by omega)
              simp [u0, u1, u2, v0, v1, v2]
            go_wp2_with fail
            go_ret
            exact ⟨by rw [HT.out]; rfl, HBL.out⟩
      · have HF : Hid (rightQ q = false) := by
          show _ = _
          rw [HR.out, HM.out]
          simp [hn]
        have hn2 : 20 < (q.to - q.fr) / q.step := by omega
        go_enter Tryz.func103, Tryz.ntmps103
        go_upto_region 1 with fail
        generalize w.alloc (.cells (qyC q) 45) = w0 at *
        have x0 : w0.cell? ⟨w.heap.size, 0, none⟩ = some (.int .i64 q.fr) := cell_blk HBK.out rfl
        have x1 : w0.cell? ⟨w.heap.size, 1, none⟩ = some (.int .i64 q.to) := cell_blk HBK.out rfl
        have x2 : w0.cell? ⟨w.heap.size, 2, none⟩ = some (.int .i64 q.step) := cell_blk HBK.out rfl
        have x3 : w0.cell? ⟨w.heap.size, 3, none⟩ = some (.string q.mt) := cell_blk HBK.out rfl
        have x4 : w0.cell? ⟨w.heap.size, 4, none⟩ = some (.string q.gb) := cell_blk HBK.out rfl
        go_wp2_with fail
        go_ret
        exact ⟨by rw [HF.out]; rfl, HBL.out⟩
    · have hmb : (((q.to - q.fr) % q.step) != 0) = true := by simp [hm]
      have HF : Hid (rightQ q = false) := by
        show _ = _
        rw [HR.out]
        simp [hm]
      clear hm
      go_enter Tryz.func103, Tryz.ntmps103
      go_upto_region 1 with fail
      generalize w.alloc (.cells (qyC q) 45) = w0 at *
      have x0 : w0.cell? ⟨w.heap.size, 0, none⟩ = some (.int .i64 q.fr) := cell_blk HBK.out rfl
      have x1 : w0.cell? ⟨w.heap.size, 1, none⟩ = some (.int .i64 q.to) := cell_blk HBK.out rfl
      have x2 : w0.cell? ⟨w.heap.size, 2, none⟩ = some (.int .i64 q.step) := cell_blk HBK.out rfl
      have x3 : w0.cell? ⟨w.heap.size, 3, none⟩ = some (.string q.mt) := cell_blk HBK.out rfl
      have x4 : w0.cell? ⟨w.heap.size, 4, none⟩ = some (.string q.gb) := cell_blk HBK.out rfl
      go_wp2_with fail
      go_ret
      exact ⟨by rw [HF.out]; rfl, HBL.out⟩
  · have HF : Hid (rightQ q = false) := rightQ_head hh
    have hp := head_parts hh
    clear hh
    have hsz : ∀ s : ByteArray, ¬ s.size = 3 → ((s.size : Int) != 3) = true := fun s h => by simp; omega
    have hsy : ∀ s : ByteArray, s.size = 3 → ((s.size : Int) != 3) = false := fun s h => by simp; omega
    rcases hp with h | ⟨h1, h2⟩ | ⟨h1, h2, h3⟩ | ⟨h1, h2, h3, h4⟩ | ⟨h1, h2, h3, h4, h5⟩ | ⟨h1, h2, h3, h4, h5, h6⟩
    case' inr.inr.inr.inr.inl => have s5 := hsz _ h5
    case' inr.inr.inr.inr.inr => (have s5 := hsy _ h5; have s6 := hsz _ h6)
    all_goals
      clear hsz hsy
      go_enter Tryz.func103, Tryz.ntmps103
      go_upto_region 1 with fail
      generalize w.alloc (.cells (qyC q) 45) = w0 at *
      have x0 : w0.cell? ⟨w.heap.size, 0, none⟩ = some (.int .i64 q.fr) := cell_blk HBK.out rfl
      have x1 : w0.cell? ⟨w.heap.size, 1, none⟩ = some (.int .i64 q.to) := cell_blk HBK.out rfl
      have x2 : w0.cell? ⟨w.heap.size, 2, none⟩ = some (.int .i64 q.step) := cell_blk HBK.out rfl
      have x3 : w0.cell? ⟨w.heap.size, 3, none⟩ = some (.string q.mt) := cell_blk HBK.out rfl
      have x4 : w0.cell? ⟨w.heap.size, 4, none⟩ = some (.string q.gb) := cell_blk HBK.out rfl
      go_wp2_with fail
      go_ret
      exact ⟨by rw [HF.out]; rfl, HBL.out⟩

end Go.Proofs.YthciddpljcbhiabGreatDoor

/- Walks: does a level, or one ahead of it, not keep a key that the query names? (garnerref) -/
namespace Go.Proofs.YthciddpljcbhiabGreatDoor
open Go Go.RowKit Go.Lib

theorem lostB_iff (q : Qy) (lv : Lv) : lostB q lv = true ↔ ∃ i, i < 3 ∧ lostK q lv i = true := by
  unfold lostB
  simp only [Bool.or_eq_true]
  constructor
  · rintro ((h | h) | h)
    · exact ⟨0, by omega, h⟩
    · exact ⟨1, by omega, h⟩
    · exact ⟨2, by omega, h⟩
  · rintro ⟨i, hi, h⟩
    have : i = 0 ∨ i = 1 ∨ i = 2 := by omega
    rcases this with rfl | rfl | rfl
    · exact .inl (.inl h)
    · exact .inl (.inr h)
    · exact .inr h
theorem lostL_true {lvs : List Lv} {q : Qy} {n j i : Nat} (hj : j < n) (hi : i < 3) (h : lostK q (lvG lvs j) i = true) : lostL lvs q n = true :=
  List.any_eq_true.2 ⟨j, List.mem_range.2 hj, (lostB_iff _ _).2 ⟨i, hi, h⟩⟩
theorem lostL_false {lvs : List Lv} {q : Qy} {n : Nat} (h : ∀ j, j < n → ∀ i, i < 3 → lostK q (lvG lvs j) i = false) : lostL lvs q n = false := by
  cases hl : lostL lvs q n with
  | false => rfl
  | true =>
    obtain ⟨j, hj, h1⟩ := List.any_eq_true.1 hl
    obtain ⟨i, hi, h2⟩ := (lostB_iff _ _).1 h1
    rw [h j (List.mem_range.1 hj) i hi] at h2
    cases h2

set_option maxHeartbeats 1000000 in
set_option maxRecDepth 100000 in
theorem lost_ref (R : Nat) (F : Nat → Prop) (c : Cf) (ps : List Cp) (L lcap : Nat) (cv : Value) (q : Qy) (lv : Nat) (w : World) (h : RfS w R F c ps L lcap cv) (hm : q.mt.size = 3) (hg : q.gb.size = 3) (hl : lv < c.lvs.length) :
    Calls Tryz.prog 104 #[.pointer (some ⟨R, 0, none⟩), .agg (qyC q), .int .i64 (lv : Nat)] w fun e w' => e = .returned (.bool (lostL c.lvs q (lv + 1))) ∧ Below w.heap.size w w' := by
  obtain ⟨hbk, hbl⟩ := box5q w q
  have HBL : Hid (Below w.heap.size w (w.alloc (.cells (qyC q) 45))) := hbl
  have HBK : Hid ((w.alloc (.cells (qyC q) 45)).heap[w.heap.size]? = some (.cells (qyC q) 45 (0, 0))) := hbk
  have H0 : Hid (RfS (w.alloc (.cells (qyC q) 45)) R F c ps L lcap cv) := h.below hbl
  have HRUL : Hid (∀ j, j < c.lvs.length → (lvG c.lvs j).rule.size = 3 ∧ 1 ≤ (lvG c.lvs j).limit ∧ (lvG c.lvs j).limit ≤ 20) := right_more (rf_right h)
  have hln := (Cf.right_parts (rf_right h)).2.2.2.2.2.1
  clear h hbk hbl
  go_enter Tryz.func104, Tryz.ntmps104
  go_upto_region 1 with fail
  generalize w.alloc (.cells (qyC q) 45) = w0 at *
  have x3 : w0.cell? ⟨w.heap.size, 3, none⟩ = some (.string q.mt) := cell_blk HBK.out rfl
  have x4 : w0.cell? ⟨w.heap.size, 4, none⟩ = some (.string q.gb) := cell_blk HBK.out rfl
  have c2 := H0.out.cell 2 _ rfl
  go_wp2_with fail
  go_loopw [7] (fun j wr => ∃ jj : Nat, j = .int .i64 jj ∧ jj ≤ lv + 1 ∧ (∀ a, a < jj → ∀ i, i < 3 → lostK q (lvG c.lvs a) i = false) ∧ w0 = wr) (fun j _ => lv + 1 - (intOf j).toNat)
  case atStart => exact ⟨0, rfl, Nat.zero_le _, fun a ha => by omega, rfl⟩
  case round =>
    obtain ⟨jj, rfl, hj, hall, rfl⟩ := hrel
    have HA : Hid (∀ a, a < jj → ∀ i, i < 3 → lostK q (lvG c.lvs a) i = false) := hall
    clear hall
    by_cases hlt : jj ≤ lv
    · obtain ⟨_, _, a2, _⟩ := H0.out.lv jj (by omega)
      simp only [Nat.zero_add] at a2
      obtain ⟨hr3, _, _⟩ := HRUL.out jj (by omega)
      have hjI : (jj : Int) < (c.lvs.length : Int) := by omega
      have hjL : (jj : Int) ≤ (lv : Int) := by omega
      go_wp2_with fail
      go_loopw [8] (fun i wr => ∃ k : Nat, i = .int .i64 k ∧ k ≤ 3 ∧ (∀ a, a < k → lostK q (lvG c.lvs jj) a = false) ∧ w0 = wr) (fun i _ => 3 - (intOf i).toNat)
      case atStart => exact ⟨0, rfl, Nat.zero_le _, fun a ha => by omega, rfl⟩
      case round =>
        obtain ⟨k, rfl, hk, hno, rfl⟩ := hrel
        have HNO : Hid (∀ a, a < k → lostK q (lvG c.lvs jj) a = false) := hno
        clear hno
        by_cases hlk : k < 3
        · have HB : Hid (((q.mt[k].toNat : Nat) : Int) = byt q.mt k) := byt_eq q.mt k (by omega)
          have HG : Hid (((q.gb[k].toNat : Nat) : Int) = byt q.gb k) := byt_eq q.gb k (by omega)
          have HRR : Hid ((((lvG c.lvs jj).rule[k].toNat : Nat) : Int) = byt (lvG c.lvs jj).rule k) := byt_eq _ k (by omega)
          have HLK : Hid (lostK q (lvG c.lvs jj) k = (((((q.mt[k].toNat : Nat) : Int) != 46) || (((q.gb[k].toNat : Nat) : Int) == 49)) && ((((lvG c.lvs jj).rule[k].toNat : Nat) : Int) != 107))) := by
            show _ = _
            rw [HB.out, HG.out, HRR.out]
            rfl
          have HNX : Hid (lostK q (lvG c.lvs jj) k = false → ∀ a, a < k + 1 → lostK q (lvG c.lvs jj) a = false) := fun u a ha => by
            by_cases e : a = k
            · subst e; exact u
            · exact HNO.out a (by omega)
          have HTR : Hid (lostK q (lvG c.lvs jj) k = true → lostL c.lvs q (lv + 1) = true) := fun u => lostL_true (by omega) hlk u
          have hk1 : k < q.mt.size := by omega
          have hk2 : k < q.gb.size := by omega
          have hk3 : k < (lvG c.lvs jj).rule.size := by omega
          generalize lostK q (lvG c.lvs jj) k = LK at *
          cases b1 : (((q.mt[k].toNat : Nat) : Int) != 46) <;> cases b2 : (((q.gb[k].toNat : Nat) : Int) == 49) <;> cases b3 : ((((lvG c.lvs jj).rule[k].toNat : Nat) : Int) != 107)
          all_goals
            rw [b1, b2, b3] at HLK
            go_wp2_with fail
            first
              | exact ⟨⟨k + 1, by go_num, by omega, HNX.out HLK.out, trivial⟩, by simp [intOf]; omega⟩
              | (go_ret; exact ⟨by rw [HTR.out HLK.out]; rfl, HBL.out⟩)
        · have HA2 : Hid (∀ a, a < jj + 1 → ∀ i, i < 3 → lostK q (lvG c.lvs a) i = false) := fun a ha i hi => by
            by_cases e : a = jj
            · subst e; exact HNO.out i (by omega)
            · exact HA.out a (by omega) i hi
          go_wp2_with fail
          exact ⟨⟨jj + 1, by go_num, by omega, HA2.out, trivial⟩, by simp [intOf]; omega⟩
    · have HF : Hid (lostL c.lvs q (lv + 1) = false) := lostL_false (fun a ha i hi => HA.out a (by omega) i hi)
      have hjL : ¬ (jj : Int) ≤ (lv : Int) := by omega
      go_wp2_with fail
      go_ret
      exact ⟨by rw [HF.out]; rfl, HBL.out⟩

end Go.Proofs.YthciddpljcbhiabGreatDoor

/- Walks: the error of a query (garnerref). -/
namespace Go.Proofs.YthciddpljcbhiabGreatDoor
open Go Go.RowKit Go.Lib

theorem mem_blocks (c : Cf) (q : Qy) (b : Int) : b ∈ blocks c q ↔ q.fr / c.span ≤ b ∧ b ≤ (q.to - 1) / c.span := by
  unfold blocks
  simp only [List.mem_map, List.mem_range]
  constructor
  · rintro ⟨i, hi, rfl⟩
    omega
  · intro h
    exact ⟨(b - q.fr / c.span).toNat, by omega, by omega⟩
theorem any_blocks_t {c : Cf} {q : Qy} {p : Int → Bool} {b : Int} (h0 : q.fr / c.span ≤ b) (h1 : b ≤ (q.to - 1) / c.span) (h : p b = true) : (blocks c q).any p = true := List.any_eq_true.2 ⟨b, (mem_blocks c q b).2 ⟨h0, h1⟩, h⟩
theorem any_blocks_f {c : Cf} {q : Qy} {p : Int → Bool} (h : ∀ b, q.fr / c.span ≤ b → b ≤ (q.to - 1) / c.span → p b = false) : (blocks c q).any p = false := by
  cases hl : (blocks c q).any p with
  | false => rfl
  | true =>
    obtain ⟨b, hb, h1⟩ := List.any_eq_true.1 hl
    obtain ⟨h2, h3⟩ := (mem_blocks c q b).1 hb
    rw [h b h2 h3] at h1
    cases h1
theorem lostAt_eq (c : Cf) (now : Int) (q : Qy) (b : Int) : lostAt c now q b = lostL c.lvs q (c.lvl now (b * c.span) + 1) := rfl
theorem block_mul {c : Cf} (hc : 1 ≤ c.span) {q : Qy} {b : Int} (h0 : 0 ≤ q.fr) (h1 : q.fr / c.span ≤ b) (h2 : b ≤ (q.to - 1) / c.span) (h3 : q.to ≤ 100100) : 0 ≤ b ∧ b ≤ 100100 ∧ 0 ≤ b * c.span ∧ b * c.span ≤ 100099 := by
  have e0 : 0 ≤ q.fr / c.span := Int.ediv_nonneg h0 (by omega)
  have e1 : b * c.span ≤ (q.to - 1) / c.span * c.span := Int.mul_le_mul_of_nonneg_right h2 (by omega)
  have e2 : (q.to - 1) / c.span * c.span ≤ q.to - 1 := Int.ediv_mul_le _ (by omega)
  have e3 : 0 ≤ b * c.span := Int.mul_nonneg (by omega) (by omega)
  have e4 : b * 1 ≤ b * c.span := Int.mul_le_mul_of_nonneg_left (by omega) (by omega)
  omega

set_option maxHeartbeats 2000000 in
set_option maxRecDepth 100000 in
theorem refused_ref (R : Nat) (F : Nat → Prop) (c : Cf) (ps : List Cp) (L lcap : Nat) (cv : Value) (q : Qy) (w : World) (h : RfS w R F c ps L lcap cv) (hq : q.wf) :
    Calls Tryz.prog 78 #[.pointer (some ⟨R, 0, none⟩), .agg (qyC q)] w fun e w' => e = .returned (.int .i64 (qE c (sumT (ps.map (·.1))) q)) ∧ Below w.heap.size w w' := by
  obtain ⟨sp1, sp2, k0, k1, l1, l4, hlv⟩ := Cf.right_parts (rf_right h)
  obtain ⟨n0, n1⟩ := rf_nowr h
  obtain ⟨hbk, hbl⟩ := box5q w q
  have HBL : Hid (Below w.heap.size w (w.alloc (.cells (qyC q) 45))) := hbl
  have HBK : Hid ((w.alloc (.cells (qyC q) 45)).heap[w.heap.size]? = some (.cells (qyC q) 45 (0, 0))) := hbk
  have H0 : Hid (RfS (w.alloc (.cells (qyC q) 45)) R F c ps L lcap cv) := h.below hbl
  have HQ : Hid (q.wf) := hq
  have HLL : Hid (∀ t, c.lvl (sumT (ps.map (·.1))) t < c.lvs.length) := fun t => Cf.lvl_lt (rf_right h) _ t
  have HWIN : Hid (∀ j, j < c.lvs.length → 1 ≤ (lvG c.lvs j).window) := fun j hj => (hlv j hj).1
  have HQE : Hid (qE c (sumT (ps.map (·.1))) q = if rightQ q = false then 9 else if c.keep < c.age (sumT (ps.map (·.1))) q.fr then 10 else if (blocks c q).any (lostAt c (sumT (ps.map (·.1))) q) then 11 else if (blocks c q).any (winAt c (sumT (ps.map (·.1))) q) then 12 else 0) := rfl
  have HAGE : Hid (∀ W t, Below w.heap.size w W → 0 ≤ t → t ≤ 100100 → Calls Tryz.prog 72 #[.pointer (some ⟨R, 0, none⟩), .int .i64 t] W fun e w' => e = .returned (.int .i64 (c.age (sumT (ps.map (·.1))) t)) ∧ ∃ d, w' = W.drewN d) := fun W t hW t0 t1 => age_ref R F c ps L lcap cv t W (h.below hW) sp1 sp2 t0 (by omega)
  have HLVW : Hid (∀ W t, Below w.heap.size w W → 0 ≤ t → t ≤ 100100 → Calls Tryz.prog 80 #[.pointer (some ⟨R, 0, none⟩), .int .i64 t] W fun e w' => e = .returned (.int .i64 (c.lvl (sumT (ps.map (·.1))) t : Nat)) ∧ ∃ d, w' = W.drewN d) := fun W t hW t0 t1 => level_ref R F c ps L lcap cv t W (h.below hW) t0 t1
  clear h hq hlv hbk hbl
  generalize sumT (ps.map (·.1)) = now at *
  go_enter Tryz.func78, Tryz.ntmps78
  go_upto_region 1 with fail
  generalize w.alloc (.cells (qyC q) 45) = w0 at *
  have hlt0 : w.heap.size < w0.heap.size := (Array.getElem?_eq_some_iff.1 HBK.out).1
  have x0 : w0.cell? ⟨w.heap.size, 0, none⟩ = some (.int .i64 q.fr) := cell_blk HBK.out rfl
  have x1 : w0.cell? ⟨w.heap.size, 1, none⟩ = some (.int .i64 q.to) := cell_blk HBK.out rfl
  have x2 : w0.cell? ⟨w.heap.size, 2, none⟩ = some (.int .i64 q.step) := cell_blk HBK.out rfl
  have x3 : w0.cell? ⟨w.heap.size, 3, none⟩ = some (.string q.mt) := cell_blk HBK.out rfl
  have x4 : w0.cell? ⟨w.heap.size, 4, none⟩ = some (.string q.gb) := cell_blk HBK.out rfl
  have HFX : Hid (∀ W, Below w0.heap.size w0 W → W.cell? ⟨w.heap.size, 0, none⟩ = some (.int .i64 q.fr) ∧ W.cell? ⟨w.heap.size, 1, none⟩ = some (.int .i64 q.to) ∧ W.cell? ⟨w.heap.size, 2, none⟩ = some (.int .i64 q.step) ∧ W.cell? ⟨w.heap.size, 3, none⟩ = some (.string q.mt) ∧ W.cell? ⟨w.heap.size, 4, none⟩ = some (.string q.gb) ∧ W.cell? ⟨R, 0, none⟩ = some (.int .i64 c.span) ∧ W.cell? ⟨R, 1, none⟩ = some (.int .i64 c.keep) ∧ W.cell? ⟨R, 2, none⟩ = some (.slice (some ⟨L, 0, none⟩) c.lvs.length lcap)) := fun W hW =>
    ⟨(hW.cell (p := ⟨w.heap.size, 0, none⟩) hlt0).trans x0, (hW.cell (p := ⟨w.heap.size, 1, none⟩) hlt0).trans x1, (hW.cell (p := ⟨w.heap.size, 2, none⟩) hlt0).trans x2, (hW.cell (p := ⟨w.heap.size, 3, none⟩) hlt0).trans x3, (hW.cell (p := ⟨w.heap.size, 4, none⟩) hlt0).trans x4, (H0.out.below hW).cell 0 _ rfl, (H0.out.below hW).cell 1 _ rfl, (H0.out.below hW).cell 2 _ rfl⟩
  go_wp2_with fail
  refine (rightq_ref q w0 HQ.out).mono ?_
  rintro e w1 ⟨rfl, hb1⟩
  have HB1 : Hid (Below w0.heap.size w0 w1) := hb1
  have HBW : Hid (∀ W, Below w0.heap.size w0 W → Below w.heap.size w W) := fun W hW => HBL.out.trans (hW.mono HBL.out.size)
  clear hb1 x0 x1 x2 x3 x4
  cases hr : rightQ q
  · have HE : Hid (qE c now q = 9) := by show _ = _; rw [HQE.out, if_pos hr]
    go_wp2_with fail
    go_ret
    exact ⟨by rw [HE.out]; rfl, HBW.out _ HB1.out⟩
  · have hq2 : 0 ≤ q.fr ∧ q.fr < q.to ∧ q.to ≤ 100100 ∧ 1 ≤ q.step ∧ q.mt.size = 3 ∧ q.gb.size = 3 := by
      by_cases hh : headQ q
      · exact hh
      · rw [rightQ_head hh] at hr; cases hr
    obtain ⟨q1, q2, q3, q4, q5, q6⟩ := hq2
    obtain ⟨x0, x1, x2, x3, x4, y0, y1, y2⟩ := HFX.out w1 HB1.out
    have HA := HAGE.out w1 q.fr (HBW.out w1 HB1.out) q1 (by omega)
    have HLO : Hid (∀ W lv, Below w0.heap.size w0 W → lv < c.lvs.length → Calls Tryz.prog 104 #[.pointer (some ⟨R, 0, none⟩), .agg (qyC q), .int .i64 (lv : Nat)] W fun e w' => e = .returned (.bool (lostL c.lvs q (lv + 1))) ∧ Below W.heap.size W w') := fun W lv hW hl => lost_ref R F c ps L lcap cv q lv W (H0.out.below hW) q5 q6 hl
    have HLVS : Hid (∀ W, Below w0.heap.size w0 W → LvAt W L 0 c.lvs) := fun W hW => (H0.out.below hW).lv
    by_cases hag : c.keep < c.age now q.fr
    · have HE : Hid (qE c now q = 10) := by show _ = _; rw [HQE.out, if_neg (by simp [hr]), if_pos hag]
      generalize c.age now q.fr = ag at *
      go_wp2_with fail
      refine HA.mono ?_
      rintro e w2 ⟨rfl, d, rfl⟩
      have z1 : (w1.drewN d).cell? ⟨R, 1, none⟩ = some (.int .i64 c.keep) := y1
      have HB2 : Hid (Below w0.heap.size w0 (w1.drewN d)) := below_drewN HB1.out d
      clear HA x0 x1 x2 x3 x4 y0 y1 y2
      generalize w1.drewN d = w2 at *
      go_wp2_with fail
      go_ret
      exact ⟨by rw [HE.out]; rfl, HBW.out _ HB2.out⟩
    · have HQ2 : Hid (qE c now q = if (blocks c q).any (lostAt c now q) then 11 else if (blocks c q).any (winAt c now q) then 12 else 0) := by show _ = _; rw [HQE.out, if_neg (by simp [hr]), if_neg hag]
      generalize c.age now q.fr = ag at *
      go_wp2_with fail
      refine HA.mono ?_
      rintro e w2 ⟨rfl, d, rfl⟩
      have HB2 : Hid (Below w0.heap.size w0 (w1.drewN d)) := below_drewN HB1.out d
      clear HA x0 x1 x2 x3 x4 y0 y1 y2
      generalize w1.drewN d = w2 at *
      obtain ⟨x0, x1, x2, x3, x4, y0, y1, y2⟩ := HFX.out w2 HB2.out
      have v1 : ¬ c.span = 0 := by omega
      have v3 : 0 ≤ q.fr / c.span := Int.ediv_nonneg q1 (by omega)
      have v4 : q.fr / c.span ≤ q.fr := Int.ediv_le_self _ q1
      have v5 : 0 ≤ (q.to - 1) / c.span := Int.ediv_nonneg (by omega) (by omega)
      have v6 : (q.to - 1) / c.span ≤ q.to - 1 := Int.ediv_le_self _ (by omega)
      have v7 : q.fr.tdiv c.span = q.fr / c.span := Int.tdiv_eq_ediv_of_nonneg q1
      have v8 : (q.to - 1).tdiv c.span = (q.to - 1) / c.span := Int.tdiv_eq_ediv_of_nonneg (by omega)
      have HMUL : Hid (∀ b, q.fr / c.span ≤ b → b ≤ (q.to - 1) / c.span → 0 ≤ b ∧ b ≤ 100100 ∧ 0 ≤ b * c.span ∧ b * c.span ≤ 100099) := fun b h1 h2 => block_mul sp1 q1 h1 h2 q3
      go_wp2_with fail
      go_quiet (fail)
      have HB3 : Hid (Below w0.heap.size w0 (w2.drewN nq)) := below_drewN HB2.out nq
      clear x0 x1 x2 x3 x4 y0 y1 y2
      generalize w2.drewN nq = w3 at *
      go_wp2_with fail
      go_loopw [7] (fun bv wr => ∃ b : Int, bv = .int .i64 b ∧ q.fr / c.span ≤ b ∧ b ≤ (q.to - 1) / c.span + 1 ∧ (∀ a, q.fr / c.span ≤ a → a < b → lostAt c now q a = false) ∧ Below w0.heap.size w0 wr) (fun bv _ => ((q.to - 1) / c.span + 1 - intOf bv).toNat)
      case atStart =>
        refine ⟨_, rfl, Int.le_refl _, ?_, fun a h1 h2 => by omega, HB3.out⟩
        have h9 : q.fr / c.span ≤ (q.to - 1) / c.span := Int.ediv_le_ediv (by omega) (by omega)
        omega
      case round =>
        obtain ⟨b, rfl, hb1, hb2, hall, hbe⟩ := hrel
        rename World => V
        have HAL : Hid (∀ a, q.fr / c.span ≤ a → a < b → lostAt c now q a = false) := hall
        have HBV : Hid (Below w0.heap.size w0 V) := hbe
        obtain ⟨x0, x1, x2, x3, x4, y0, y1, y2⟩ := HFX.out V hbe
        clear hall hbe HB3
        by_cases hle : b ≤ (q.to - 1) / c.span
        · obtain ⟨m0, m1, m2, m3⟩ := HMUL.out b hb1 hle
          have hlvl := HLL.out (b * c.span)
          have HLA : Hid (lostAt c now q b = lostL c.lvs q (c.lvl now (b * c.span) + 1)) := rfl
          go_wp2_with fail
          go_quiet (fail)
          have HB4 : Hid (Below w0.heap.size w0 (V.drewN nq)) := below_drewN HBV.out nq
          clear x0 x1 x2 x3 x4 y0 y1 y2
          generalize V.drewN nq = w4 at *
          obtain ⟨x0, x1, x2, x3, x4, y0, y1, y2⟩ := HFX.out w4 HB4.out
          have HL1 := HLVW.out w4 (b * c.span) (HBW.out w4 HB4.out) m2 (by omega)
          generalize c.lvl now (b * c.span) = lv at *
          generalize hbc : b * c.span = bc at *
          go_wp2_with fail
          refine HL1.mono ?_
          rintro e w5 ⟨rfl, d5, rfl⟩
          have HB5 : Hid (Below w0.heap.size w0 (w4.drewN d5)) := below_drewN HB4.out d5
          clear HL1 x0 x1 x2 x3 x4 y0 y1 y2
          generalize w4.drewN d5 = w5 at *
          obtain ⟨x0, x1, x2, x3, x4, y0, y1, y2⟩ := HFX.out w5 HB5.out
          go_wp2_with fail
          refine (HLO.out w5 lv HB5.out hlvl).mono ?_
          rintro e w6 ⟨rfl, hb6⟩
          have HB6 : Hid (Below w0.heap.size w0 w6) := HB5.out.trans (hb6.mono HB5.out.size)
          clear hb6 x0 x1 x2 x3 x4 y0 y1 y2
          generalize hlo : lostL c.lvs q (lv + 1) = lo at *
          cases lo
          · have HN : Hid (∀ a, q.fr / c.span ≤ a → a < b + 1 → lostAt c now q a = false) := fun a h1 h2 => by
              by_cases e : a = b
              · rw [e, HLA.out]
              · exact HAL.out a h1 (by omega)
            go_wp2_with fail
            exact ⟨⟨b + 1, rfl, by omega, by omega, HN.out, HB6.out⟩, by simp [intOf]; omega⟩
          · have HE : Hid (qE c now q = 11) := by
              show _ = _
              rw [HQ2.out, if_pos (any_blocks_t hb1 hle (by rw [HLA.out]))]
            go_wp2_with fail
            go_ret
            exact ⟨by rw [HE.out]; rfl, HBW.out _ HB6.out⟩
        · have HQ3 : Hid (qE c now q = if (blocks c q).any (winAt c now q) then 12 else 0) := by
            show _ = _
            rw [HQ2.out, if_neg]
            rw [any_blocks_f (fun a h1 h2 => HAL.out a h1 (by omega))]
            simp
          go_wp2_with fail
          go_quiet (fail)
          have HB4 : Hid (Below w0.heap.size w0 (V.drewN nq)) := below_drewN HBV.out nq
          clear x0 x1 x2 x3 x4 y0 y1 y2
          generalize V.drewN nq = w4 at *
          obtain ⟨x0, x1, x2, x3, x4, y0, y1, y2⟩ := HFX.out w4 HB4.out
          go_wp2_with fail
          go_quiet (fail)
          have HB5 : Hid (Below w0.heap.size w0 (w4.drewN nq)) := below_drewN HB4.out nq
          clear x0 x1 x2 x3 x4 y0 y1 y2
          generalize w4.drewN nq = w5 at *
          go_wp2_with fail
          go_loopw [10] (fun bv wr => ∃ b : Int, bv = .int .i64 b ∧ q.fr / c.span ≤ b ∧ b ≤ (q.to - 1) / c.span + 1 ∧ (∀ a, q.fr / c.span ≤ a → a < b → winAt c now q a = false) ∧ Below w0.heap.size w0 wr) (fun bv _ => ((q.to - 1) / c.span + 1 - intOf bv).toNat)
          case atStart =>
            refine ⟨_, rfl, Int.le_refl _, ?_, fun a h1 h2 => by omega, HB5.out⟩
            have h9 : q.fr / c.span ≤ (q.to - 1) / c.span := Int.ediv_le_ediv (by omega) (by omega)
            omega
          case round =>
            clear hb1 hb2 hle HAL HBV HB4 HB5
            obtain ⟨b, rfl, hb1, hb2, hall, hbe⟩ := hrel
            rename World => V2
            have HAL : Hid (∀ a, q.fr / c.span ≤ a → a < b → winAt c now q a = false) := hall
            have HBV : Hid (Below w0.heap.size w0 V2) := hbe
            obtain ⟨x0, x1, x2, x3, x4, y0, y1, y2⟩ := HFX.out V2 hbe
            clear hall hbe
            by_cases hle : b ≤ (q.to - 1) / c.span
            · obtain ⟨m0, m1, m2, m3⟩ := HMUL.out b hb1 hle
              have hlvl := HLL.out (b * c.span)
              have hwn := HWIN.out _ hlvl
              have HWA : Hid (winAt c now q b = ((q.fr % (lvG c.lvs (c.lvl now (b * c.span))).window != 0) || (q.step % (lvG c.lvs (c.lvl now (b * c.span))).window != 0))) := rfl
              go_wp2_with fail
              go_quiet (fail)
              have HB6 : Hid (Below w0.heap.size w0 (V2.drewN nq)) := below_drewN HBV.out nq
              clear x0 x1 x2 x3 x4 y0 y1 y2
              generalize V2.drewN nq = w6 at *
              obtain ⟨x0, x1, x2, x3, x4, y0, y1, y2⟩ := HFX.out w6 HB6.out
              have HL1 := HLVW.out w6 (b * c.span) (HBW.out w6 HB6.out) m2 (by omega)
              generalize c.lvl now (b * c.span) = lv at *
              generalize hbc : b * c.span = bc at *
              go_wp2_with fail
              refine HL1.mono ?_
              rintro e w7 ⟨rfl, d7, rfl⟩
              have HB7 : Hid (Below w0.heap.size w0 (w6.drewN d7)) := below_drewN HB6.out d7
              clear HL1 x0 x1 x2 x3 x4 y0 y1 y2
              generalize w6.drewN d7 = w7 at *
              obtain ⟨x0, x1, x2, x3, x4, y0, y1, y2⟩ := HFX.out w7 HB7.out
              obtain ⟨_, a1, _, _⟩ := HLVS.out w7 HB7.out lv hlvl
              simp only [Nat.zero_add] at a1
              have hlI : (lv : Int) < (c.lvs.length : Int) := by omega
              generalize (lvG c.lvs lv).window = wn at *
              have hw0 : ¬ wn = 0 := by omega
              have t1 : q.fr.tmod wn = q.fr % wn := Int.tmod_eq_emod_of_nonneg q1
              have t2 : q.step.tmod wn = q.step % wn := Int.tmod_eq_emod_of_nonneg (by omega)
              have e1 := Int.emod_nonneg q.fr hw0
              have e2 := Int.emod_lt_of_pos q.fr (show 0 < wn by omega)
              have e3 := Int.emod_nonneg q.step hw0
              have e4 := Int.emod_lt_of_pos q.step (show 0 < wn by omega)
              cases z1 : (q.fr % wn != 0) <;> cases z2 : (q.step % wn != 0)
              · have HN : Hid (∀ a, q.fr / c.span ≤ a → a < b + 1 → winAt c now q a = false) := fun a h1 h2 => by
                  by_cases e : a = b
                  · rw [e, HWA.out, z1, z2]; rfl
                  · exact HAL.out a h1 (by omega)
                go_wp2_with fail
                exact ⟨⟨b + 1, rfl, by omega, by omega, HN.out, HB7.out⟩, by simp [intOf]; omega⟩
              all_goals
                have HE : Hid (qE c now q = 12) := by
                  show _ = _
                  rw [HQ3.out, if_pos (any_blocks_t hb1 hle (by rw [HWA.out, z1, z2]; rfl))]
                go_wp2_with fail
                go_ret
                exact ⟨by rw [HE.out]; rfl, HBW.out _ HB7.out⟩
            · have HE : Hid (qE c now q = 0) := by
                show _ = _
                rw [HQ3.out, if_neg]
                rw [any_blocks_f (fun a h1 h2 => HAL.out a h1 (by omega))]
                simp
              go_wp2_with fail
              go_quiet (fail)
              have HB6 : Hid (Below w0.heap.size w0 (V2.drewN nq)) := below_drewN HBV.out nq
              go_wp2_with fail
              go_ret
              exact ⟨by rw [HE.out]; rfl, HBW.out _ HB6.out⟩

end Go.Proofs.YthciddpljcbhiabGreatDoor

/- Walks: the document's Query (garnerref). -/
namespace Go.Proofs.YthciddpljcbhiabGreatDoor
open Go Go.RowKit Go.Lib

/-- The rows of the first k samples. -/
def rowK (s : St) (q : Qy) (k : Nat) : List Rw := rowsOf (kvOf q s.at (s.l.take k))
theorem rowK_succ (s : St) (q : Qy) (k : Nat) (h : k < s.l.length) : rowK s q (k + 1) = match kv1 q s.at (smG s.l k) with | some p => addR (rowK s q k) p.1 p.2 | none => rowK s q k := by
  unfold rowK
  rw [List.take_succ_eq_append_getElem h, kvOf_append, smG_get s.l k h]
  have e : kvOf q s.at [s.l[k]] = (match kv1 q s.at s.l[k] with | some p => [p] | none => []) := by
    unfold kvOf
    cases hk : kv1 q s.at s.l[k] <;> simp [hk]
  rw [e]
  cases kv1 q s.at s.l[k] with
  | none => simp
  | some p => simp [rowsOf_snoc]
theorem rowK_up (s : St) (q : Qy) (k : Nat) : (rowK s q k).Pairwise fun a b => a.key.lt b.key := (rowsOf_is _).up
theorem kvOf_len (q : Qy) (ser : Sm → Lb) (l : List Sm) : (kvOf q ser l).length ≤ l.length := List.length_filterMap_le _ _
theorem rowK_len (s : St) (q : Qy) (k : Nat) : (rowK s q k).length ≤ k := by
  have h1 := rowsOf_len (kvOf q s.at (s.l.take k))
  have h2 := kvOf_len q s.at (s.l.take k)
  have h3 : (s.l.take k).length ≤ k := by simp; omega
  unfold rowK
  omega
theorem rowK_bd {s : St} (hi : Inv s) (q : Qy) (k : Nat) : ∀ i, i < (rowK s q k).length → Bd 500 (rwG (rowK s q k) i).ag := by
  intro i h
  have hm : rwG (rowK s q k) i ∈ rowK s q k := by rw [rwG_get _ _ h]; exact List.getElem_mem _
  have h1 := (rowsOf_is (kvOf q s.at (s.l.take k))).bd (fun p hp => by
    obtain ⟨x, hx, _, g, _, rfl⟩ := kv_mem hp
    have hw := (hi.ok x (List.mem_of_mem_take hx)).2
    exact hw.2.2.2.2) hm
  refine h1.mono ?_
  have h2 := kvOf_len q s.at (s.l.take k)
  have h3 : (s.l.take k).length ≤ s.l.length := by simp; omega
  have := hi.len
  omega
theorem at_ser (s : St) (k : Nat) (hk : k < s.l.length) (hc : s.c.right = true) : lbsG (aG (serAll s.c.lvs [] s.l) k) (s.c.lvl s.now (smG s.l k).time) = s.at (smG s.l k) := by
  have e1 : aG (serAll s.c.lvs [] s.l) k = serOf s.c.lvs s.adm (smG s.l k).lb := by
    unfold aG
    rw [serAll_eq, smG_get s.l k hk]
    simp [List.getD, hk]
    rfl
  rw [e1]
  have hl : s.c.lvl s.now (smG s.l k).time < (serOf s.c.lvs s.adm (smG s.l k).lb).length := by rw [serOf_len]; exact Cf.lvl_lt hc _ _
  unfold lbsG St.at St.ser
  simp [List.getD, hl]

abbrev set3 (w : World) (X : Nat) (m : Lb) : World := ((w.setCell ⟨X, 0, none⟩ (.int .u8 m.a)).setCell ⟨X, 1, none⟩ (.int .u8 m.b)).setCell ⟨X, 2, none⟩ (.int .u8 m.c)
theorem set3_blk {w : World} {X : Nat} {m : Lb} (h : w.heap[X]? = some (.cells (lbA3 Lb.zero) 42 (0, 0))) : (set3 w X m).heap[X]? = some (.cells (lbA3 m) 42 (0, 0)) := by
  have e0 := heap_setCell (o := 0) (v := .int .u8 m.a) h
  have e1 := heap_setCell (o := 1) (v := .int .u8 m.b) e0
  have e2 := heap_setCell (o := 2) (v := .int .u8 m.c) e1
  rw [show (set3 w X m).heap[X]? = _ from e2]
  rfl
theorem cell_set3 {w : World} {X b o : Nat} {m : Lb} {v : Value} (h : w.cell? ⟨b, o, none⟩ = some v) (hne : b ≠ X) : (set3 w X m).cell? ⟨b, o, none⟩ = some v := by
  have hf : Fr (fun k => k = X) w (set3 w X m) := fr_set1 (fr_set1 (fr_set1 (Fr.refl _ _)))
  rw [hf.cell (p := ⟨b, o, none⟩) (World.block_lt_of_cell? w _ h) hne]
  exact h

set_option maxHeartbeats 4000000 in
set_option maxRecDepth 100000 in
theorem query_ref (R : Nat) (F : Nat → Prop) (c : Cf) (ps : List Cp) (L lcap : Nat) (cv : Value) (q : Qy) (s : St) (w : World) (h : RfS w R F c ps L lcap cv) (hs : s = (St.new c).doAll (ps.map (·.1))) (hq : q.wf) (hov : OvAt w) :
    Calls Tryz.prog 47 #[.pointer (some ⟨R, 0, none⟩), .agg (qyC q)] w fun e w' => (∃ ov, e = .returned (.tuple #[ov, .int .i64 (qE s.c s.now q)]) ∧ w'.ownsRow 0 78 8 ov (rowsA s q).length (flatR (rowsA s q))) ∧ Below w.heap.size w w' := by
  have hsc : s.c = c := by rw [hs, doAll_cf]; rfl
  have hsn : s.now = sumT (ps.map (·.1)) := by rw [hs, rf_now]
  have hsl : s.l = allS (ps.map (·.1)) := by rw [hs, doAll_l]; rfl
  have hsi : Inv s := by rw [hs]; exact h.inv
  obtain ⟨sp1, sp2, k0, k1, l1, l4, hlv⟩ := Cf.right_parts (rf_right h)
  have HRF : Hid (RfS w R F c ps L lcap cv) := h
  have HOV : Hid (OvAt w) := hov
  have HQ : Hid (q.wf) := hq
  have hpos := hov.pos
  have HSI : Hid (Inv s) := hsi
  have hm : s.l.length ≤ 500 := hsi.len
  have HRJ := fun W (hW : Below w.heap.size w W) => refused_ref R F c ps L lcap cv q W (h.below hW) hq
  rw [← hsn] at HRJ
  have HREJ : Hid (∀ W (hW : Below w.heap.size w W), Calls Tryz.prog 78 #[.pointer (some ⟨R, 0, none⟩), .agg (qyC q)] W fun e w' => e = .returned (.int .i64 (qE c s.now q)) ∧ Below W.heap.size W w') := HRJ
  have HS1 := fun W (hW : Below w.heap.size w W) => samples_ref R F c ps L lcap cv W (h.below hW)
  rw [← hsl] at HS1
  have HSMP : Hid (∀ W (hW : Below w.heap.size w W), Calls Tryz.prog 73 #[.pointer (some ⟨R, 0, none⟩)] W fun e w' => ∃ va vc, e = .returned (.slice va s.l.length vc) ∧ w'.ownsRow W.heap.size 76 5 (.slice va s.l.length vc) s.l.length (flatS s.l) ∧ Below W.heap.size W w') := HS1
  have HL1 := fun W t (hW : Below w.heap.size w W) (t0 : 0 ≤ t) (t1 : t ≤ 100000) => level_ref R F c ps L lcap cv t W (h.below hW) t0 (by omega)
  rw [← hsn] at HL1
  have HLVL : Hid (∀ W t, Below w.heap.size w W → 0 ≤ t → t ≤ 100000 → Calls Tryz.prog 80 #[.pointer (some ⟨R, 0, none⟩), .int .i64 t] W fun e w' => e = .returned (.int .i64 (c.lvl s.now t : Nat)) ∧ ∃ d, w' = W.drewN d) := HL1
  have HLL : Hid (∀ t, c.lvl s.now t < c.lvs.length) := fun t => Cf.lvl_lt (rf_right h) _ t
  have HATS : Hid (∀ k, k < s.l.length → lbsG (aG (serAll c.lvs [] s.l) k) (c.lvl s.now (smG s.l k).time) = s.at (smG s.l k)) := fun k hk => by
    have h9 := at_ser s k hk hsi.right
    rw [hsc] at h9
    exact h9
  have HQE : Hid (qE s.c s.now q = qE c s.now q) := by show _ = _; rw [hsc]
  obtain ⟨hbk, hbl⟩ := box5q w q
  have HBL : Hid (Below w.heap.size w (w.alloc (.cells (qyC q) 45))) := hbl
  have HBK : Hid ((w.alloc (.cells (qyC q) 45)).heap[w.heap.size]? = some (.cells (qyC q) 45 (0, 0))) := hbk
  clear h hq hov hs HRJ HS1 HL1 hlv hsi hbk hbl hsc hsn hsl
  go_enter Tryz.func47, Tryz.ntmps47
  go_upto_region 1 with fail
  generalize w.alloc (.cells (qyC q) 45) = w0 at *
  have hl0 : w.heap.size < w0.heap.size := (Array.getElem?_eq_some_iff.1 HBK.out).1
  have HQX : Hid (∀ W, Below w0.heap.size w0 W → W.cell? ⟨w.heap.size, 0, none⟩ = some (.int .i64 q.fr) ∧ W.cell? ⟨w.heap.size, 1, none⟩ = some (.int .i64 q.to) ∧ W.cell? ⟨w.heap.size, 2, none⟩ = some (.int .i64 q.step) ∧ W.cell? ⟨w.heap.size, 3, none⟩ = some (.string q.mt) ∧ W.cell? ⟨w.heap.size, 4, none⟩ = some (.string q.gb)) := fun W hW => by
    have e1 : W.heap[w.heap.size]? = some (.cells (qyC q) 45 (0, 0)) := by rw [hW.block _ hl0]; exact HBK.out
    exact ⟨cell_blk e1 rfl, cell_blk e1 rfl, cell_blk e1 rfl, cell_blk e1 rfl, cell_blk e1 rfl⟩
  have HBW : Hid (∀ W, Below w0.heap.size w0 W → Below w.heap.size w W) := fun W hW => HBL.out.trans (hW.mono HBL.out.size)
  obtain ⟨x0, x1, x2, x3, x4⟩ := HQX.out w0 (Below.refl _ _)
  go_wp2_with fail
  refine (HREJ.out w0 HBL.out).mono ?_
  rintro e w1 ⟨rfl, hb1⟩
  have HB1 : Hid (Below w0.heap.size w0 w1) := hb1
  clear hb1 x0 x1 x2 x3 x4 HREJ
  by_cases he : qE c s.now q = 0
  · have HRA : Hid (rowsA s q = rowK s q s.l.length) := by
      show _ = _
      unfold rowsA
      rw [if_pos (by rw [HQE.out]; exact he)]
      unfold rowK
      rw [List.take_length]
      rfl
    have HE0 : Hid (qE s.c s.now q = 0) := by show _ = _; rw [HQE.out, he]
    have hrq : rightQ q = true := (qE_zero he).1
    have hh : headQ q := by
      by_cases hh : headQ q
      · exact hh
      · rw [rightQ_head hh] at hrq; cases hrq
    obtain ⟨q1, q2, q3, q4, q5, q6⟩ := hh
    rw [he]
    clear he hrq
    go_wp2_with fail
    refine (HSMP.out w1 (HBW.out w1 HB1.out)).mono ?_
    rintro e w2 ⟨va, vc, rfl, hown2, hb2⟩
    have HB2 : Hid (Below w0.heap.size w0 w2) := HB1.out.trans (hb2.mono HB1.out.size)
    have HSMS : Hid (IsSms w2 va s.l.length s.l) := owns_sm hown2 rfl
    have HSER := series_ref R F c ps L lcap cv va s.l.length vc s.l w2 (HRF.out.below (HBW.out w2 HB2.out)) HSMS.out hm (fun x hx => ((smOk_iff x).1 (HSI.out.ok x hx).1).2.2) (HOV.out.below (HBW.out w2 HB2.out) hpos)
    clear hown2 hb2 HSMP
    go_wp2_with fail
    refine HSER.mono ?_
    clear HSER
    rintro e w3 ⟨ov, rs, rfl, hser, hb3⟩
    obtain ⟨hor, hrl, _, hrow⟩ := hser
    obtain ⟨oa, ocap, eo⟩ := ownForm hor
    subst eo
    have hrm : rs.length = s.l.length := by rw [hrl, serAll_len]
    have HB3 : Hid (Below w0.heap.size w0 w3) := HB2.out.trans (hb3.mono HB2.out.size)
    have HSM3 : Hid (IsSms w3 va s.l.length s.l) := HSMS.out.below hb3
    have HOR : Hid (w3.ownsRow 0 144 1 (.slice oa rs.length ocap) rs.length rs) := hor
    have HROW : Hid (∀ i, i < rs.length → ∃ b cap, vG rs i = .slice (some ⟨b, 0, none⟩) c.lvs.length cap ∧ w2.heap.size ≤ b ∧ At w3 b 0 (flatL (aG (serAll c.lvs [] s.l) i)) ∧ (aG (serAll c.lvs [] s.l) i).length = c.lvs.length) := hrow
    clear hb3 hor hrl hrow HSMS
    generalize serAll c.lvs [] s.l = S at *
    have HBX : Hid (∀ W, Below w3.heap.size w3 W → Below w0.heap.size w0 W) := fun W hW => HB3.out.trans (hW.mono HB3.out.size)
    go_wp2_with fail
    go_loopw [9, 10] (fun v i wr => ∃ k : Nat, i = .int .i64 k ∧ k ≤ s.l.length ∧ wr.ownsRow 0 78 8 v (rowK s q k).length (flatR (rowK s q k)) ∧ Below w3.heap.size w3 wr) (fun _ i _ => s.l.length - (intOf i).toNat)
    case atStart => exact ⟨0, rfl, Nat.zero_le _, World.ownsRow_nil _ _ _ _, Below.refl _ _⟩
    case round =>
      obtain ⟨k, rfl, hk, hown, hbe⟩ := hrel
      rename World => V
      have HOW : Hid (V.ownsRow 0 78 8 u9 (rowK s q k).length (flatR (rowK s q k))) := hown
      have HBE : Hid (Below w3.heap.size w3 V) := hbe
      obtain ⟨ua, ucap, eu⟩ := ownForm hown
      subst eu
      clear hown hbe
      by_cases hlt : k < s.l.length
      · have hmem : smG s.l k ∈ s.l := by rw [smG_get s.l k hlt]; exact List.getElem_mem _
        obtain ⟨hok, hwf⟩ := HSI.out.ok _ hmem
        obtain ⟨t0, t1, _⟩ := (smOk_iff _).1 hok
        obtain ⟨b, off, rfl, hat⟩ := HSM3.out.2 (by omega)
        obtain ⟨s0, _, _, _, s4⟩ := hat k hlt
        have hbw : b < w3.heap.size := hat.block (by omega)
        have HSX : Hid (∀ W, Below w3.heap.size w3 W → W.cell? ⟨b, off + k * 5, none⟩ = some (.int .i64 (smG s.l k).time) ∧ W.cell? ⟨b, off + k * 5 + 4, none⟩ = some (.int .i32 (smG s.l k).value)) := fun W hW => ⟨(hW.cell (p := ⟨b, off + k * 5, none⟩) hbw).trans s0, (hW.cell (p := ⟨b, off + k * 5 + 4, none⟩) hbw).trans s4⟩
        have HRS : Hid (rowK s q (k + 1) = match kv1 q s.at (smG s.l k) with | some p => addR (rowK s q k) p.1 p.2 | none => rowK s q k) := rowK_succ s q k hlt
        have HV32 : Hid (v32 (smG s.l k).value) := hwf.2.2.2.2
        have HAT2 := HATS.out k hlt
        have HLJ := HLL.out (smG s.l k).time
        have HKV : Hid (kv1 q s.at (smG s.l k) = if inQ q (smG s.l k).time then (grpOf q (s.at (smG s.l k))).map fun g => (⟨stepOf q (smG s.l k).time, g.a, g.b, g.c⟩, (smG s.l k).value) else none) := rfl
        obtain ⟨x0, x1, x2, x3, x4⟩ := HQX.out V (HBX.out V HBE.out)
        obtain ⟨y0, y4⟩ := HSX.out V HBE.out
        clear hat s0 s4 hmem hok hwf
        generalize kv1 q s.at (smG s.l k) = kvv at *
        by_cases hiq : q.fr ≤ (smG s.l k).time ∧ (smG s.l k).time < q.to
        · obtain ⟨i1, i2⟩ := hiq
          have HKV2 : Hid (kvv = (grpOf q (s.at (smG s.l k))).map fun g => (⟨stepOf q (smG s.l k).time, g.a, g.b, g.c⟩, (smG s.l k).value)) := by
            show _ = _
            rw [HKV.out, if_pos]
            unfold inQ
            simp only [Bool.and_eq_true, decide_eq_true_eq]
            exact ⟨i1, i2⟩
          obtain ⟨sb, scap, esb, hsb1, hsat, hsl⟩ := HROW.out k (by omega)
          have hsbl : sb < w3.heap.size := World.block_lt_of_cell? w3 _ (at_lbs hsat 0 (by omega)).1
          obtain ⟨p0, p1, p2⟩ := at_lbs hsat _ (by rw [hsl]; exact HLJ)
          simp only [Nat.zero_add] at p0 p1 p2
          rw [HAT2] at p0 p1 p2
          obtain ⟨og, ocp, eog, crow⟩ := owns_one HOR.out k (vG rs k) (vG_get rs k (by omega))
          injection eog with eo1 _ eo2
          subst eo1 eo2
          rw [esb] at crow
          have hogl : og < w3.heap.size := World.block_lt_of_cell? w3 _ crow
          have HLV2 : Hid (∀ W, Below w3.heap.size w3 W → Calls Tryz.prog 80 #[.pointer (some ⟨R, 0, none⟩), .int .i64 (smG s.l k).time] W fun e w' => e = .returned (.int .i64 (c.lvl s.now (smG s.l k).time : Nat)) ∧ ∃ d, w' = W.drewN d) := fun W hW => HLVL.out W _ (HBW.out W (HBX.out W hW)) t0 t1
          have hlen5 := rowK_len s q k
          have HUPK := rowK_up s q k
          have HBDK := rowK_bd HSI.out q k
          have HUP2 : Hid ((rowK s q k).Pairwise fun a b => a.key.lt b.key) := HUPK
          have HBD2 : Hid (∀ i, i < (rowK s q k).length → Bd 500 (rwG (rowK s q k) i).ag) := HBDK
          have HSTP : Hid (stepOf q (smG s.l k).time = ((smG s.l k).time - q.fr) / q.step) := rfl
          clear hsat esb hsl HAT2 HKV HUPK HBDK
          generalize s.at (smG s.l k) = sx at *
          generalize c.lvl s.now (smG s.l k).time = j at *
          generalize (smG s.l k).time = tt at *
          generalize (smG s.l k).value = vv at *
          have HGRP : Hid (∀ W, Below w3.heap.size w3 W → Calls Tryz.prog 81 #[.agg (qyC q), .agg (lbA3 sx)] W (GrPost q sx W)) := fun W hW => group_ref q sx W q5 q6 (HOV.out.below (HBW.out W (HBX.out W hW)) hpos)
          have i3 : ¬ q.to ≤ tt := by omega
          have i4 : ¬ tt < q.fr := by omega
          go_wp2_with fail
          go_quiet (fail)
          have HB4 : Hid (Below w3.heap.size w3 (V.drewN nq)) := below_drewN HBE.out nq
          have HO4 : Hid ((V.drewN nq).ownsRow 0 78 8 (.slice ua (rowK s q k).length ucap) (rowK s q k).length (flatR (rowK s q k))) := owns_drewN HOW.out nq
          clear x0 x1 x2 x3 x4 y0 y4
          generalize V.drewN nq = w4 at *
          obtain ⟨y0, y4⟩ := HSX.out w4 HB4.out
          go_wp2_with fail
          refine (HLV2.out w4 HB4.out).mono ?_
          rintro e w5 ⟨rfl, d5, rfl⟩
          have HB5 : Hid (Below w3.heap.size w3 (w4.drewN d5)) := below_drewN HB4.out d5
          have HO5 : Hid ((w4.drewN d5).ownsRow 0 78 8 (.slice ua (rowK s q k).length ucap) (rowK s q k).length (flatR (rowK s q k))) := owns_drewN HO4.out d5
          clear y0 y4 HB4 HO4 HLV2
          generalize w4.drewN d5 = w5 at *
          obtain ⟨x0, x1, x2, x3, x4⟩ := HQX.out w5.drew (HBX.out _ HB5.out.drew)
          have r0 : w5.drew.cell? ⟨og, k, none⟩ = some (.slice (some ⟨sb, 0, none⟩) c.lvs.length scap) := (HB5.out.cell (p := ⟨og, k, none⟩) hogl).trans crow
          have r1 : w5.drew.cell? ⟨sb, j * 3, none⟩ = some (.int .u8 sx.a) := (HB5.out.cell (p := ⟨sb, j * 3, none⟩) hsbl).trans p0
          have r2 : w5.drew.cell? ⟨sb, j * 3 + 1, none⟩ = some (.int .u8 sx.b) := (HB5.out.cell (p := ⟨sb, j * 3 + 1, none⟩) hsbl).trans p1
          have r3 : w5.drew.cell? ⟨sb, j * 3 + 2, none⟩ = some (.int .u8 sx.c) := (HB5.out.cell (p := ⟨sb, j * 3 + 2, none⟩) hsbl).trans p2
          have hjI : (j : Int) < (c.lvs.length : Int) := by omega
          have hkR : (k : Int) < (rs.length : Int) := by omega
          have hz5 : w3.heap.size ≤ w5.heap.size := HB5.out.size
          have hws : w.heap.size < w5.heap.size := by have := HB3.out.size; omega
          have hogl5 : og < w5.heap.size := by omega
          have hsbl5 : sb < w5.heap.size := by omega
          have HBZ : Hid (Below w3.heap.size w3 (w5.alloc (.cells #[.int .u8 0, .int .u8 0, .int .u8 0] 42)).drew) := (HB5.out.alloc hz5 _).drew
          have hzz : w5.heap.size < (w5.alloc (.cells #[.int .u8 0, .int .u8 0, .int .u8 0] 42)).drew.heap.size := by show _ < (w5.alloc _).heap.size; rw [World.size_alloc]; omega
          have b0 : (w5.alloc (.cells #[.int .u8 0, .int .u8 0, .int .u8 0] 42)).drew.cell? ⟨w.heap.size, 0, none⟩ = some (.int .i64 q.fr) := cell_alloc1 x0
          have b1 : (w5.alloc (.cells #[.int .u8 0, .int .u8 0, .int .u8 0] 42)).drew.cell? ⟨w.heap.size, 1, none⟩ = some (.int .i64 q.to) := cell_alloc1 x1
          have b2 : (w5.alloc (.cells #[.int .u8 0, .int .u8 0, .int .u8 0] 42)).drew.cell? ⟨w.heap.size, 2, none⟩ = some (.int .i64 q.step) := cell_alloc1 x2
          have b3 : (w5.alloc (.cells #[.int .u8 0, .int .u8 0, .int .u8 0] 42)).drew.cell? ⟨w.heap.size, 3, none⟩ = some (.string q.mt) := cell_alloc1 x3
          have b4 : (w5.alloc (.cells #[.int .u8 0, .int .u8 0, .int .u8 0] 42)).drew.cell? ⟨w.heap.size, 4, none⟩ = some (.string q.gb) := cell_alloc1 x4
          have b5 : (w5.alloc (.cells #[.int .u8 0, .int .u8 0, .int .u8 0] 42)).drew.cell? ⟨og, k, none⟩ = some (.slice (some ⟨sb, 0, none⟩) c.lvs.length scap) := cell_alloc1 r0
          have b6 : (w5.alloc (.cells #[.int .u8 0, .int .u8 0, .int .u8 0] 42)).drew.cell? ⟨sb, j * 3, none⟩ = some (.int .u8 sx.a) := cell_alloc1 r1
          have b7 : (w5.alloc (.cells #[.int .u8 0, .int .u8 0, .int .u8 0] 42)).drew.cell? ⟨sb, j * 3 + 1, none⟩ = some (.int .u8 sx.b) := cell_alloc1 r2
          have b8 : (w5.alloc (.cells #[.int .u8 0, .int .u8 0, .int .u8 0] 42)).drew.cell? ⟨sb, j * 3 + 2, none⟩ = some (.int .u8 sx.c) := cell_alloc1 r3
          have BZ : Hid ((w5.alloc (.cells #[.int .u8 0, .int .u8 0, .int .u8 0] 42)).drew.heap[w5.heap.size]? = some (.cells (lbA3 Lb.zero) 42 (0, 0))) := heap_alloc_new w5 _
          have hnw : w.heap.size ≠ w5.heap.size := by omega
          have hno : og ≠ w5.heap.size := by omega
          have hns : sb ≠ w5.heap.size := by omega
          have hwsz : w.heap.size < (w5.alloc (.cells #[.int .u8 0, .int .u8 0, .int .u8 0] 42)).drew.heap.size := by omega
          have hoglz : og < (w5.alloc (.cells #[.int .u8 0, .int .u8 0, .int .u8 0] 42)).drew.heap.size := by omega
          have hsblz : sb < (w5.alloc (.cells #[.int .u8 0, .int .u8 0, .int .u8 0] 42)).drew.heap.size := by omega
          go_upto_region 12 with fail
          go_cut [12, 13] from 25 to 87 (fun bx iv wz => ∃ gb gg, bx = .pointer (some ⟨gb, 0, none⟩) ∧ iv = .bool (grpOf q sx).isSome ∧ wz.heap[gb]? = some (.cells (lbA3 gg) 42 (0, 0)) ∧ (∀ x, grpOf q sx = some x → gg = x) ∧ Below w5.heap.size w5 wz)
          case first =>
            go_region_held3 (fun w' => w'.cell? ⟨w.heap.size, 0, none⟩ = some (.int .i64 q.fr) ∧ w'.cell? ⟨w.heap.size, 1, none⟩ = some (.int .i64 q.to) ∧ w'.cell? ⟨w.heap.size, 2, none⟩ = some (.int .i64 q.step) ∧ w'.cell? ⟨w.heap.size, 3, none⟩ = some (.string q.mt) ∧ w'.cell? ⟨w.heap.size, 4, none⟩ = some (.string q.gb) ∧ w'.cell? ⟨og, k, none⟩ = some (.slice (some ⟨sb, 0, none⟩) c.lvs.length scap) ∧ w'.cell? ⟨sb, j * 3, none⟩ = some (.int .u8 sx.a) ∧ w'.cell? ⟨sb, j * 3 + 1, none⟩ = some (.int .u8 sx.b) ∧ w'.cell? ⟨sb, j * 3 + 2, none⟩ = some (.int .u8 sx.c))
              (first | exact ⟨d0, d1, d2, d3, d4, d5, d6, d7, d8⟩ | exact ⟨t0', t1', t2', t3', t4', t5', t6', t7', t8'⟩ | exact ⟨a0, a1, a2, a3, a4, a5, a6, a7, a8⟩ | exact ⟨z0', z1', z2', z3', z4', z5', z6', z7', z8'⟩ | exact ⟨c0, c1, c2, c3, c4, c5, c6, c7, c8⟩ | exact ⟨x0, x1, x2, x3, x4, r0, r1, r2, r3⟩ | exact ⟨b0, b1, b2, b3, b4, b5, b6, b7, b8⟩)
              (first
                | (go_at_call 81; refine (HGRP.out _ HB5.out.drew).mono ?_; rintro e w' ⟨gg, rfl, hgg, hb'⟩; have a0 := (hb'.cell (p := ⟨w.heap.size, 0, none⟩) hws).trans x0; have a1 := (hb'.cell (p := ⟨w.heap.size, 1, none⟩) hws).trans x1; have a2 := (hb'.cell (p := ⟨w.heap.size, 2, none⟩) hws).trans x2; have a3 := (hb'.cell (p := ⟨w.heap.size, 3, none⟩) hws).trans x3; have a4 := (hb'.cell (p := ⟨w.heap.size, 4, none⟩) hws).trans x4; have a5 := (hb'.cell (p := ⟨og, k, none⟩) hogl5).trans r0; have a6 := (hb'.cell (p := ⟨sb, j * 3, none⟩) hsbl5).trans r1; have a7 := (hb'.cell (p := ⟨sb, j * 3 + 1, none⟩) hsbl5).trans r2; have a8 := (hb'.cell (p := ⟨sb, j * 3 + 2, none⟩) hsbl5).trans r3; have c0 := cell_alloc1 (o1 := .cells (lbA3 gg) 42) a0; have c1 := cell_alloc1 (o1 := .cells (lbA3 gg) 42) a1; have c2 := cell_alloc1 (o1 := .cells (lbA3 gg) 42) a2; have c3 := cell_alloc1 (o1 := .cells (lbA3 gg) 42) a3; have c4 := cell_alloc1 (o1 := .cells (lbA3 gg) 42) a4; have c5 := cell_alloc1 (o1 := .cells (lbA3 gg) 42) a5; have c6 := cell_alloc1 (o1 := .cells (lbA3 gg) 42) a6; have c7 := cell_alloc1 (o1 := .cells (lbA3 gg) 42) a7; have c8 := cell_alloc1 (o1 := .cells (lbA3 gg) 42) a8; have z0' := cell_alloc1 (o1 := .cells #[.int .u8 0, .int .u8 0, .int .u8 0] 42) a0; have z1' := cell_alloc1 (o1 := .cells #[.int .u8 0, .int .u8 0, .int .u8 0] 42) a1; have z2' := cell_alloc1 (o1 := .cells #[.int .u8 0, .int .u8 0, .int .u8 0] 42) a2; have z3' := cell_alloc1 (o1 := .cells #[.int .u8 0, .int .u8 0, .int .u8 0] 42) a3; have z4' := cell_alloc1 (o1 := .cells #[.int .u8 0, .int .u8 0, .int .u8 0] 42) a4; have z5' := cell_alloc1 (o1 := .cells #[.int .u8 0, .int .u8 0, .int .u8 0] 42) a5; have z6' := cell_alloc1 (o1 := .cells #[.int .u8 0, .int .u8 0, .int .u8 0] 42) a6; have z7' := cell_alloc1 (o1 := .cells #[.int .u8 0, .int .u8 0, .int .u8 0] 42) a7; have z8' := cell_alloc1 (o1 := .cells #[.int .u8 0, .int .u8 0, .int .u8 0] 42) a8)
                | (go_at_call 81; refine (HGRP.out _ HBZ.out).mono ?_; rintro e w' ⟨gg, rfl, hgg, hbz'⟩; have BZ' : Hid (w'.heap[w5.heap.size]? = some (.cells (lbA3 Lb.zero) 42 (0, 0))) := (hbz'.block _ hzz).trans BZ.out; have e0 : w'.cell? ⟨w5.heap.size, 0, none⟩ = some (.int .u8 0) := cell_blk BZ'.out rfl; have e1 : w'.cell? ⟨w5.heap.size, 1, none⟩ = some (.int .u8 0) := cell_blk BZ'.out rfl; have e2 : w'.cell? ⟨w5.heap.size, 2, none⟩ = some (.int .u8 0) := cell_blk BZ'.out rfl; have n0 : w'.frozen? ⟨w5.heap.size, 0, none⟩ = false := froz_blk BZ'.out; have n1 : w'.frozen? ⟨w5.heap.size, 1, none⟩ = false := froz_blk BZ'.out; have n2 : w'.frozen? ⟨w5.heap.size, 2, none⟩ = false := froz_blk BZ'.out; have d0 := (hbz'.cell (p := ⟨w.heap.size, 0, none⟩) hwsz).trans b0; have d1 := (hbz'.cell (p := ⟨w.heap.size, 1, none⟩) hwsz).trans b1; have d2 := (hbz'.cell (p := ⟨w.heap.size, 2, none⟩) hwsz).trans b2; have d3 := (hbz'.cell (p := ⟨w.heap.size, 3, none⟩) hwsz).trans b3; have d4 := (hbz'.cell (p := ⟨w.heap.size, 4, none⟩) hwsz).trans b4; have d5 := (hbz'.cell (p := ⟨og, k, none⟩) hoglz).trans b5; have d6 := (hbz'.cell (p := ⟨sb, j * 3, none⟩) hsblz).trans b6; have d7 := (hbz'.cell (p := ⟨sb, j * 3 + 1, none⟩) hsblz).trans b7; have d8 := (hbz'.cell (p := ⟨sb, j * 3 + 2, none⟩) hsblz).trans b8; have t0' := cell_set3 (m := gg) d0 hnw; have t1' := cell_set3 (m := gg) d1 hnw; have t2' := cell_set3 (m := gg) d2 hnw; have t3' := cell_set3 (m := gg) d3 hnw; have t4' := cell_set3 (m := gg) d4 hnw; have t5' := cell_set3 (m := gg) d5 hno; have t6' := cell_set3 (m := gg) d6 hns; have t7' := cell_set3 (m := gg) d7 hns; have t8' := cell_set3 (m := gg) d8 hns))
            all_goals go_wp2_with fail
            all_goals go_meet
            all_goals (case rel => first
              | exact ⟨w5.heap.size, gg, rfl, rfl, set3_blk BZ'.out, hgg, (((((Below.refl w5.heap.size w5).alloc (Nat.le_refl _) _).drew.trans (hbz'.mono (Nat.le_of_lt hzz))).setCell (Nat.le_refl _) _).setCell (Nat.le_refl _) _).setCell (Nat.le_refl _) _⟩
              | exact ⟨w'.heap.size, gg, rfl, rfl, heap_alloc_new _ _, hgg, Below.alloc (show Below w5.heap.size w5 w' from ⟨hb'.os, hb'.tape, hb'.output, hb'.size, hb'.block⟩) hb'.size _⟩)
          case rest =>
            obtain ⟨gb, gg, rfl, rfl, hgb, hgg, hbc⟩ := hcut
            have HBC : Hid (Below w3.heap.size w3 wc) := HB5.out.trans (hbc.mono hz5)
            have HOC : Hid (wc.ownsRow 0 78 8 (.slice ua (rowK s q k).length ucap) (rowK s q k).length (flatR (rowK s q k))) := owns_fr HO5.out (Fr.of_below (S := fun _ => False) hbc) (fun _ _ e => e)
            have HGB : Hid (wc.heap[gb]? = some (.cells (lbA3 gg) 42 (0, 0))) := hgb
            clear hgb hbc b0 b1 b2 b3 b4 b5 b6 b7 b8 x0 x1 x2 x3 x4 r0 r1 r2 r3 BZ HBZ hzz hwsz hoglz hsblz HGRP
            cases hgr : grpOf q sx with
            | none =>
              have HNX : Hid (rowK s q (k + 1) = rowK s q k) := by
                show _ = _
                rw [HRS.out, HKV2.out, hgr]
                rfl
              rw [show (none : Option Lb).isSome = false from rfl]
              clear hgr
              go_wp2_with fail
              exact ⟨⟨k + 1, by go_num, by omega, by rw [HNX.out]; exact HOC.out, HBC.out⟩, by simp [intOf]; omega⟩
            | some gx =>
              have hgx : gg = gx := hgg gx hgr
              have HNX : Hid (rowK s q (k + 1) = addR (rowK s q k) ⟨(tt - q.fr) / q.step, gg.a, gg.b, gg.c⟩ vv) := by
                show _ = _
                rw [HRS.out, HKV2.out, hgr, HSTP.out, hgx]
                rfl
              rw [show (some gx : Option Lb).isSome = true from rfl]
              clear hgr hgx hgg
              have HADD : Hid (∀ W, Below wc.heap.size wc W → Calls Tryz.prog 82 #[.slice ua (rowK s q k).length ucap, .int .i64 ((tt - q.fr) / q.step), .agg (lbA3 gg), .int .i32 vv] W fun e w' => ∃ ov, e = .returned ov ∧ w'.ownsRow W.heap.size 78 8 ov (rowK s q (k + 1)).length (flatR (rowK s q (k + 1))) ∧ Below W.heap.size W w') := fun W hW => by
                rw [HNX.out]
                refine added_ref ua (rowK s q k).length ucap (rowK s q k) ((tt - q.fr) / q.step) vv gg W rfl (by omega) (fun h0 => ?_) HUP2.out HBD2.out HV32.out
                have ho := owns_fr HOC.out (Fr.of_below (S := fun _ => False) hW) (fun _ _ e => e)
                obtain ⟨g, cap', e', _, _, _⟩ := ownBlockForm ho h0
                injection e' with e1 _ e2
                subst e1 e2
                exact ⟨g, rfl, owns_at ho⟩
              have hd0 : 0 ≤ tt - q.fr := by omega
              have v1 : ¬ q.step = 0 := by omega
              have v3 : 0 ≤ (tt - q.fr) / q.step := Int.ediv_nonneg hd0 (by omega)
              have v4 : (tt - q.fr) / q.step ≤ tt - q.fr := Int.ediv_le_self _ hd0
              have v7 : (tt - q.fr).tdiv q.step = (tt - q.fr) / q.step := Int.tdiv_eq_ediv_of_nonneg hd0
              have v9 : (q.step == 0) = false := by simpa using v1
              have v11 : IntKind.i64.wrap ((tt - q.fr) / q.step) = (tt - q.fr) / q.step := wrapS _ v3 (by omega)
              have v12 : IntKind.i64.wrap (tt - q.fr) = tt - q.fr := wrapS _ hd0 (by omega)
              obtain ⟨x0, x1, x2, x3, x4⟩ := HQX.out wc.drew (HBX.out _ HBC.out.drew)
              obtain ⟨y0, y4⟩ := HSX.out wc.drew HBC.out.drew
              have gz := HGB.out
              have g0 : wc.drew.cell? ⟨gb, 0, none⟩ = some (.int .u8 gg.a) := cell_blk (w := wc) gz rfl
              have g1 : wc.drew.cell? ⟨gb, 1, none⟩ = some (.int .u8 gg.b) := cell_blk (w := wc) gz rfl
              have g2 : wc.drew.cell? ⟨gb, 2, none⟩ = some (.int .u8 gg.c) := cell_blk (w := wc) gz rfl
              have hgl : gb < wc.drew.heap.size := (Array.getElem?_eq_some_iff.1 gz).1
              have hwl : w.heap.size < wc.drew.heap.size := by have h8 := HB3.out.size; have h9 := HBC.out.size; show _ < wc.heap.size; omega
              have hbl2 : b < wc.drew.heap.size := by have h9 := HBC.out.size; show _ < wc.heap.size; omega
              clear gz
              go_upto_region 14 with fail
              go_region_held3 (fun w' => w'.cell? ⟨b, off + k * 5, none⟩ = some (.int .i64 tt) ∧ w'.cell? ⟨b, off + k * 5 + 4, none⟩ = some (.int .i32 vv) ∧ w'.cell? ⟨w.heap.size, 0, none⟩ = some (.int .i64 q.fr) ∧ w'.cell? ⟨w.heap.size, 2, none⟩ = some (.int .i64 q.step) ∧ w'.cell? ⟨gb, 0, none⟩ = some (.int .u8 gg.a) ∧ w'.cell? ⟨gb, 1, none⟩ = some (.int .u8 gg.b) ∧ w'.cell? ⟨gb, 2, none⟩ = some (.int .u8 gg.c))
                (first | exact ⟨a0, a1, a2, a3, a4, a5, a6⟩ | exact ⟨y0, y4, x0, x2, g0, g1, g2⟩)
                (first
                  | (go_at_call 82; refine (HADD.out _ (Below.refl _ _).drew).mono ?_; rintro e w' ⟨ov, rfl, hown', hb'⟩; have a0 := (hb'.cell (p := ⟨b, off + k * 5, none⟩) hbl2).trans y0; have a1 := (hb'.cell (p := ⟨b, off + k * 5 + 4, none⟩) hbl2).trans y4; have a2 := (hb'.cell (p := ⟨w.heap.size, 0, none⟩) hwl).trans x0; have a3 := (hb'.cell (p := ⟨w.heap.size, 2, none⟩) hwl).trans x2; have a4 := (hb'.cell (p := ⟨gb, 0, none⟩) hgl).trans g0; have a5 := (hb'.cell (p := ⟨gb, 1, none⟩) hgl).trans g1; have a6 := (hb'.cell (p := ⟨gb, 2, none⟩) hgl).trans g2))
              all_goals (have HFO : Hid (w'.ownsRow 0 78 8 ov (rowK s q (k + 1)).length (flatR (rowK s q (k + 1))) ∧ Below w3.heap.size w3 w') := ⟨owns_base hown' (fun _ _ => Nat.zero_le _), HBC.out.trans (Below.mono (show Below wc.heap.size wc w' from ⟨hb'.os, hb'.tape, hb'.output, hb'.size, hb'.block⟩) HBC.out.size)⟩)
              all_goals clear hown' hb' a0 a1 a2 a3 a4 a5 a6
              all_goals go_wp2_with fail
              all_goals exact ⟨⟨k + 1, by go_num, by omega, HFO.out.1, HFO.out.2⟩, by simp [intOf]; omega⟩
        · have HNX : Hid (rowK s q (k + 1) = rowK s q k) := by
            show _ = _
            rw [HRS.out, HKV.out, if_neg]
            unfold inQ
            simp only [Bool.and_eq_true, decide_eq_true_eq]
            exact hiq
          have hio : (smG s.l k).time < q.fr ∨ q.fr ≤ (smG s.l k).time ∧ q.to ≤ (smG s.l k).time := by omega
          generalize (smG s.l k).time = t at *
          rcases hio with hio | ⟨hio, hio2⟩
          all_goals
            go_wp2_with fail
            go_quiet (fail)
            go_wp2_with fail
            exact ⟨⟨k + 1, by go_num, by omega, by rw [HNX.out]; exact owns_drewN HOW.out _, below_drewN HBE.out _⟩, by simp [intOf]; omega⟩
      · have hkE : k = s.l.length := by omega
        have HFR : Hid (V.ownsRow 0 78 8 (.slice ua (rowK s q k).length ucap) (rowsA s q).length (flatR (rowsA s q))) := by rw [HRA.out, ← hkE]; exact HOW.out
        go_wp2_with fail
        go_ret2
        exact ⟨⟨_, by rw [HE0.out]; rfl, HFR.out⟩, HBW.out _ (HBX.out _ HBE.out)⟩
  · have HRA : Hid (rowsA s q = []) := by
      show _ = _
      unfold rowsA
      rw [if_neg (by rw [HQE.out]; exact he)]
    have heb : (qE c s.now q != 0) = true := by simpa using he
    generalize qE c s.now q = er at *
    go_wp2_with fail
    go_ret2
    exact ⟨⟨_, by rw [HQE.out]; rfl, by rw [HRA.out]; exact World.ownsRow_nil _ _ _ _⟩, HBW.out _ HB1.out⟩

end Go.Proofs.YthciddpljcbhiabGreatDoor

/- Walks: two lists of rows that read alike (sameRows). -/
namespace Go.Proofs.YthciddpljcbhiabGreatDoor
open Go Go.RowKit Go.Lib

/-- A list of rows that reads so. -/
def IsRws (w : World) (a : Option Addr) (n : Nat) (l : List Rw) : Prop := l.length = n ∧ (0 < n → ∃ b off, a = some ⟨b, off, none⟩ ∧ At w b off (flatR l))
theorem owns_rws {w : World} {base : Nat} {a : Option Addr} {n cap : Nat} {l : List Rw} (h : w.ownsRow base 78 8 (.slice a n cap) n (flatR l)) (hl : l.length = n) : IsRws w a n l := by
  refine ⟨hl, fun h0 => ?_⟩
  obtain ⟨g, cap', e, _, _, _⟩ := ownBlockForm h h0
  injection e with e1 _ e2
  subst e1 e2
  exact ⟨g, 0, rfl, owns_at h⟩
theorem at_rw {w : World} {b off : Nat} {l : List Rw} (h : At w b off (flatR l)) (i : Nat) (hi : i < l.length) (j : Nat) (v : Value) (hv : (Rw.cells (rwG l i))[j]? = some v) : w.cell? ⟨b, off + i * 8 + j, none⟩ = some v := by
  rw [rwG_get l i hi] at hv
  have := at_elem Rw.cells 8 len8 h i hi j v hv
  rw [← Nat.add_assoc] at this
  exact this

set_option maxHeartbeats 1000000 in
theorem sameRows_yes (a a' : Option Addr) (n cap cap' : Nat) (l : List Rw) (w : World) (hn : n ≤ 1000000) (h : IsRws w a n l) (h' : IsRws w a' n l) :
    Calls Tryz.prog 48 #[.slice a n cap, .slice a' n cap'] w fun e w' => e = .returned (.bool true) ∧ ∃ d, w' = w.drewN d := by
  have H : Hid (IsRws w a n l) := h
  have H' : Hid (IsRws w a' n l) := h'
  have HN : Hid (l.length = n) := h.1
  clear h h'
  go_enter Tryz.func48, Tryz.ntmps48
  go_wp2_with fail
  go_loopw [5] (fun i wr => ∃ k : Nat, k ≤ n ∧ i = .int .i64 k ∧ ∃ d, wr = w.drewN d) (fun i _ => n - (intOf i).toNat)
  case atStart => exact ⟨0, Nat.zero_le _, rfl, 0, rfl⟩
  case round =>
    obtain ⟨k, hk, rfl, d, rfl⟩ := hrel
    by_cases hlt : k < n
    · obtain ⟨b, off, rfl, hat⟩ := H.out.2 (by omega)
      obtain ⟨b', off', rfl, hat'⟩ := H'.out.2 (by omega)
      have hkl : k < l.length := by rw [HN.out]; exact hlt
      have c0 : w.cell? ⟨b, off + k * 8, none⟩ = some (.int .i64 (rwG l k).key.st) := at_rw hat k hkl 0 _ rfl
      have c1 := at_rw hat k hkl 1 _ rfl
      have c2 := at_rw hat k hkl 2 _ rfl
      have c3 := at_rw hat k hkl 3 _ rfl
      have c4 := at_rw hat k hkl 4 _ rfl
      have c5 := at_rw hat k hkl 5 _ rfl
      have c6 := at_rw hat k hkl 6 _ rfl
      have c7 := at_rw hat k hkl 7 _ rfl
      have d0 : w.cell? ⟨b', off' + k * 8, none⟩ = some (.int .i64 (rwG l k).key.st) := at_rw hat' k hkl 0 _ rfl
      have d1 := at_rw hat' k hkl 1 _ rfl
      have d2 := at_rw hat' k hkl 2 _ rfl
      have d3 := at_rw hat' k hkl 3 _ rfl
      have d4 := at_rw hat' k hkl 4 _ rfl
      have d5 := at_rw hat' k hkl 5 _ rfl
      have d6 := at_rw hat' k hkl 6 _ rfl
      have d7 := at_rw hat' k hkl 7 _ rfl
      clear hat hat'
      generalize rwG l k = X at *
      have heq := fun w => eq26 9997 X.key.g0 X.key.g1 X.key.g2 X.key.g0 X.key.g1 X.key.g2 w
      simp only [beq_self_eq_true, Bool.and_self] at heq
      go_wp2_with fail
      go_quiet (fail)
      go_wp2_with fail
      exact ⟨⟨k + 1, by omega, by go_num, _, rfl⟩, by simp [intOf]; omega⟩
    · go_wp2_with fail
      go_ret
      exact ⟨rfl, _, rfl⟩

end Go.Proofs.YthciddpljcbhiabGreatDoor

/- Walks: Queries: every script is as the document says. -/
namespace Go.Proofs.YthciddpljcbhiabGreatDoor
open Go Go.RowKit Go.Lib

theorem rowsA_len {s : St} (hi : Inv s) (q : Qy) : (rowsA s q).length ≤ 500 := by
  unfold rowsA
  split
  · have h1 : (s.rows q).length ≤ s.l.length := Nat.le_trans (rowsOf_len _) (kvOf_len _ _ _)
    have h2 := hi.len
    omega
  · simp
theorem qr_ref {R : Nat} {F : Nat → Prop} {c : Cf} {cs : List Chg} (q : Qy) (s : St) (w : World) (h : RfAt w R F c cs) (hs : s = (St.new c).doAll cs) (hq : q.wf) (hov : OvAt w) :
    Calls Tryz.prog 47 #[.pointer (some ⟨R, 0, none⟩), .agg (qyC q)] w fun e w' => (∃ ov, e = .returned (.tuple #[ov, .int .i64 (qE s.c s.now q)]) ∧ w'.ownsRow 0 78 8 ov (rowsA s q).length (flatR (rowsA s q))) ∧ Below w.heap.size w w' := by
  obtain ⟨ps, L, lcap, cv, rfl, h⟩ := h
  exact query_ref R F c ps L lcap cv q s w h hs hq hov
theorem rf_inv {w : World} {R : Nat} {F : Nat → Prop} {c : Cf} {cs : List Chg} (h : RfAt w R F c cs) : Inv ((St.new c).doAll cs) := by
  obtain ⟨ps, L, lcap, cv, rfl, h⟩ := h
  exact h.inv

set_option maxHeartbeats 2000000 in
set_option maxRecDepth 100000 in
theorem asked_query (own : Nat → Nat) (base W D : Nat) (bv : Value) (bs : List Bk) (N : Nat) (i : Nat) (o : Opr) (la : Option Addr) (ln lc : Nat) (ba : Option Addr) (bn bc : Nat) (w : World) (h : WdAt w own base W D bv bs N) (hok : AllOk bs) (hi : i < bs.length) (hN : N ≤ 900000000000) (hwf : OpWf o) (hov : OvAt w) (hk : o.kind = 5) :
    Calls Tryz.prog 22 #[.pointer (some ⟨W, 0, none⟩), bkV (bkG bs i), opV o la ln lc ba bn bc] w fun e w' => e = .returned (.bool true) ∧ Went w w' base W D (N + 1) bs.length := by
  obtain ⟨hb0, hb1, hb2⟩ := box2q w (bkG bs i) o la ln lc ba bn bc
  have HOK : Hid (AllOk bs) := hok
  have hbas := h.bas
  have HQW : Hid (o.q.wf) := ⟨hwf.fr.1, hwf.fr.2, hwf.tt.1, hwf.tt.2, hwf.step.1, hwf.step.2, hwf.mt, hwf.gb⟩
  have H0 : Hid (WdAt ((w.alloc (.cells #[.pointer (some ⟨(bkG bs i).X, 0, none⟩), .pointer (some ⟨(bkG bs i).R, 0, none⟩)] 62)).alloc (.cells (opC o la ln lc ba bn bc).toArray 47)) own base W D bv bs N) := h.below hb2
  have HOV : Hid (OvAt ((w.alloc (.cells #[.pointer (some ⟨(bkG bs i).X, 0, none⟩), .pointer (some ⟨(bkG bs i).R, 0, none⟩)] 62)).alloc (.cells (opC o la ln lc ba bn bc).toArray 47))) := hov.below hb2 hov.pos
  obtain ⟨e1, e2⟩ := hok i hi
  have HE1 : Hid ((bkG bs i).s = (St.new (bkG bs i).c).doAll (bkG bs i).cs) := e1
  have HLN : Hid ((rowsA (bkG bs i).s o.q).length ≤ 500) := rowsA_len (by rw [e1]; exact rf_inv (h.rf i hi)) _
  have HB : Hid (Below w.heap.size w ((w.alloc (.cells #[.pointer (some ⟨(bkG bs i).X, 0, none⟩), .pointer (some ⟨(bkG bs i).R, 0, none⟩)] 62)).alloc (.cells (opC o la ln lc ba bn bc).toArray 47))) := hb2
  have HB0 : Hid (((w.alloc (.cells #[.pointer (some ⟨(bkG bs i).X, 0, none⟩), .pointer (some ⟨(bkG bs i).R, 0, none⟩)] 62)).alloc (.cells (opC o la ln lc ba bn bc).toArray 47)).heap[w.heap.size]? = some (.cells #[.pointer (some ⟨(bkG bs i).X, 0, none⟩), .pointer (some ⟨(bkG bs i).R, 0, none⟩)] 62 (0, 0))) := hb0
  have HB1 : Hid (((w.alloc (.cells #[.pointer (some ⟨(bkG bs i).X, 0, none⟩), .pointer (some ⟨(bkG bs i).R, 0, none⟩)] 62)).alloc (.cells (opC o la ln lc ba bn bc).toArray 47)).heap[w.heap.size + 1]? = some (.cells (opC o la ln lc ba bn bc).toArray 47 (0, 0))) := hb1
  have hpos := hov.pos
  clear h hok hb0 hb1 hb2 e1 e2 hov hwf
  go_enter Tryz.func22, Tryz.ntmps22
  go_upto_region 1 with fail
  generalize (w.alloc (.cells #[.pointer (some ⟨(bkG bs i).X, 0, none⟩), .pointer (some ⟨(bkG bs i).R, 0, none⟩)] 62)).alloc (.cells (opC o la ln lc ba bn bc).toArray 47) = w0 at *
  have hlt1 : w.heap.size + 1 < w0.heap.size := (Array.getElem?_eq_some_iff.1 HB1.out).1
  have hlt0 : w.heap.size < w0.heap.size := by omega
  have c0 : w0.cell? ⟨w.heap.size, 0, none⟩ = some (.pointer (some ⟨(bkG bs i).X, 0, none⟩)) := cell_blk HB0.out rfl
  have c1 : w0.cell? ⟨w.heap.size, 1, none⟩ = some (.pointer (some ⟨(bkG bs i).R, 0, none⟩)) := cell_blk HB0.out rfl
  have p0 : w0.cell? ⟨w.heap.size + 1, 0, none⟩ = some (.int .i64 o.kind) := cell_blk HB1.out rfl
  have p11 : w0.cell? ⟨w.heap.size + 1, 11, none⟩ = some (.int .i64 o.q.fr) := cell_blk HB1.out rfl
  have p12 : w0.cell? ⟨w.heap.size + 1, 12, none⟩ = some (.int .i64 o.q.to) := cell_blk HB1.out rfl
  have p13 : w0.cell? ⟨w.heap.size + 1, 13, none⟩ = some (.int .i64 o.q.step) := cell_blk HB1.out rfl
  have p14 : w0.cell? ⟨w.heap.size + 1, 14, none⟩ = some (.string o.q.mt) := cell_blk HB1.out rfl
  have p15 : w0.cell? ⟨w.heap.size + 1, 15, none⟩ = some (.string o.q.gb) := cell_blk HB1.out rfl
  rw [hk] at p0
  go_wp2_with fail
  refine (query_any (bkG bs i).X _ (bkG bs i).s o.q w0 (H0.out.st i hi) HQW.out).mono ?_
  rintro e w1 ⟨v, rfl, hown1, hb1⟩
  obtain ⟨va, vcap, rfl⟩ := ownForm hown1
  have HO1 : Hid (w1.ownsRow w0.heap.size 78 8 (.slice va (rowsA (bkG bs i).s o.q).length vcap) (rowsA (bkG bs i).s o.q).length (flatR (rowsA (bkG bs i).s o.q))) := hown1
  have HX1 : Hid (Below w0.heap.size w0 w1) := hb1
  have d1 : w1.cell? ⟨w.heap.size, 1, none⟩ = some (.pointer (some ⟨(bkG bs i).R, 0, none⟩)) := (hb1.cell (p := ⟨w.heap.size, 1, none⟩) hlt0).trans c1
  have p11' := (hb1.cell (p := ⟨w.heap.size + 1, 11, none⟩) hlt1).trans p11
  have p12' := (hb1.cell (p := ⟨w.heap.size + 1, 12, none⟩) hlt1).trans p12
  have p13' := (hb1.cell (p := ⟨w.heap.size + 1, 13, none⟩) hlt1).trans p13
  have p14' := (hb1.cell (p := ⟨w.heap.size + 1, 14, none⟩) hlt1).trans p14
  have p15' := (hb1.cell (p := ⟨w.heap.size + 1, 15, none⟩) hlt1).trans p15
  have H1 : Hid (WdAt w1 own base W D bv bs N) := H0.out.below hb1
  have HC2 := qr_ref o.q (bkG bs i).s w1 (H1.out.rf i hi) HE1.out HQW.out (HOV.out.below hb1 (by omega))
  clear hown1 hb1 c0 c1 p0 p11 p12 p13 p14 p15
  generalize qE (bkG bs i).s.c (bkG bs i).s.now o.q = qe at *
  generalize rowsA (bkG bs i).s o.q = RS at *
  go_wp2_with fail
  refine HC2.mono ?_
  clear HC2
  rintro e w2 ⟨⟨ov, rfl, hown2⟩, hb2⟩
  obtain ⟨oa, ocap, rfl⟩ := ownForm hown2
  have HX2 : Hid (Below w0.heap.size w0 w2) := HX1.out.trans (hb2.mono HX1.out.size)
  have HO2 : Hid (w2.ownsRow w0.heap.size 78 8 (.slice va RS.length vcap) RS.length (flatR RS)) := owns_fr HO1.out (Fr.of_below (S := fun _ => False) hb2) (fun _ _ e => e)
  have HSR := sameRows_yes va oa RS.length vcap ocap RS w2 (by have := HLN.out; omega) (owns_rws HO2.out rfl) (owns_rws hown2 rfl)
  clear hown2 hb2 d1 p11' p12' p13' p14' p15' HO1 HX1 H1
  go_wp2_with fail
  refine HSR.mono ?_
  clear HSR
  rintro e w3 ⟨rfl, d, hd3⟩
  have HX3 : Hid (Below w0.heap.size w0 w3) := by rw [hd3]; exact below_drewN HX2.out d
  have HO3 : Hid (w3.ownsRow w0.heap.size 78 8 (.slice va RS.length vcap) RS.length (flatR RS)) := by rw [hd3]; exact owns_drewN HO2.out d
  have H3 : Hid (WdAt w3 own base W D bv bs N) := H0.out.below HX3.out
  have cD : w3.cell? ⟨W, 1, none⟩ = some (.pointer (some ⟨D, 0, none⟩)) := cell_blk H3.out.wb rfl
  have HKR := keepRows_any D w0.heap.size RS.length N (fun k => own k = 3) _ _ w3 H3.out.dr (fun k e => by
    by_cases hk : k < w0.heap.size
    · exact hk
    · have e' : own k = 3 := e
      have h9 := H0.out.out k (by omega)
      omega) HX3.out.size (by have := HLN.out; omega) hN HO3.out
  clear hd3 HX2 HO2
  go_wp2_with fail
  refine HKR.mono ?_
  clear HKR
  rintro e w4 ⟨rfl, hdr, hf⟩
  have hf0 : Fr (fun k => own k = 3) w0 w4 := (Fr.of_below HX3.out).trans hf (fun k e => e)
  have H4 : Hid (WdAt w4 (upd own w0 w4 3) base W D bv bs (N + 1)) := H0.out.stepD hf0 hdr
  have HB4 : Hid (Below base w w4) := (HB.out.mono hbas).trans (H0.out.bel hf0 (fun k e => .inl (by omega)))
  clear hdr hf hf0 cD
  go_wp2_with (go_at_call 13; refine (num_law2 _ _).mono ?_; rintro e w' ⟨rfl, rfl⟩)
  go_ret
  exact ⟨rfl, ⟨_, _, _, H4.out, HOK.out, Nat.le_refl _⟩, HB4.out⟩

theorem stepOk_queries {base W D : Nat} {o : Opr} (hwf : OpWf o) (hk : skipB 5 5 o.kind = false) : StepOkO base W D o := by
  have h := skip_no hk
  refine stepOkO_of hwf (by omega) (by omega) (by omega) (by omega) (fun k1 k2 k3 own bv bs N i la ln lc ba bn bc w hw hok hi hN hov => ?_)
  by_cases k5 : o.kind = 5
  · exact asked_query own base W D bv bs N i o la ln lc ba bn bc w hw hok hi hN hwf hov k5
  · exact asked_none own base W D bv bs N i o la ln lc ba bn bc w hw hok (by omega) k5 (by omega) (by omega)

end Go.Proofs.YthciddpljcbhiabGreatDoor

/- Walks: All: every script is as the document says. -/
namespace Go.Proofs.YthciddpljcbhiabGreatDoor
open Go Go.RowKit Go.Lib

theorem stepOk_all {base W D : Nat} {o : Opr} (hwf : OpWf o) (_hk : skipB 4 11 o.kind = false) : StepOkO base W D o := by
  by_cases k8 : o.kind = 8
  · intro own bv bs N la ln lc ba bn bc w hw hok hbs hN hin hlow _ hov
    exact step_open own base W D bv bs N o la ln lc ba bn bc w hw hok (by omega) hin hwf k8
  by_cases k9 : o.kind = 9
  · intro own bv bs N la ln lc ba bn bc w hw hok hbs hN hin hlow _ hov
    exact step_reopen own base W D bv bs N o la ln lc ba bn bc w hw hok (by omega) hwf k9
  by_cases k10 : o.kind = 10
  · intro own bv bs N la ln lc ba bn bc w hw hok hbs hN hin hlow _ hov
    refine (step_rules own base W D bv bs N o la ln lc ba bn bc w hw hok hin hwf k10).mono ?_
    rintro e w' ⟨rfl, h9⟩
    exact ⟨rfl, h9.le (by omega)⟩
  by_cases k11 : o.kind = 11
  · intro own bv bs N la ln lc ba bn bc w hw hok hbs hN hin hlow _ hov
    refine (step_records own base W D bv bs N o la ln lc ba bn bc w hw hok hN hin hwf k11).mono ?_
    rintro e w' ⟨rfl, h9⟩
    exact ⟨rfl, h9.le (by omega)⟩
  refine stepOkO_of hwf k8 k10 k11 k9 (fun k1 k2 k3 own bv bs N i la ln lc ba bn bc w hw hok hi hN hov => ?_)
  by_cases k4 : o.kind = 4
  · exact asked_now own base W D bv bs N i o la ln lc ba bn bc w hw hok hi k4
  by_cases k5 : o.kind = 5
  · exact asked_query own base W D bv bs N i o la ln lc ba bn bc w hw hok hi hN hwf hov k5
  by_cases k6 : o.kind = 6
  · exact asked_cells own base W D bv bs N i o la ln lc ba bn bc w hw hok hi hov k6
  by_cases k7 : o.kind = 7
  · exact asked_log own base W D bv bs N i o la ln lc ba bn bc w hw hok hi k7
  · exact asked_none own base W D bv bs N i o la ln lc ba bn bc w hw hok k4 k5 k6 k7

theorem all_any (a : Option Addr) (n cap : Nat) (l : List Opr) (w : World) (h : IsOps w a n l) (hn : n ≤ 837723145000) (hov : OvAt w) :
    Calls Tryz.prog 4 #[.slice a n cap] w fun e w' => e = .returned (.bool true) ∧ Below w.heap.size w w' := by
  have HP := plays_ov a n cap l 4 11 w h hn hov (fun o ho hk => stepOk_all (h.2.1 o ho) hk)
  clear h hov
  go_enter Tryz.func4, Tryz.ntmps4
  go_wp2_with fail
  refine HP.mono ?_
  rintro e w1 ⟨rfl, hb⟩
  have HB : Hid (Below w.heap.size w w1) := hb
  clear hb HP
  go_wp2_with fail
  go_ret
  exact ⟨rfl, HB.out⟩

end Go.Proofs.YthciddpljcbhiabGreatDoor
