/- Texts of one claim put together: Plz, Wrs, Srm, Lvr, Srw, Plo, Rlg, Red, Rdo, Rdn, Opa, Lgs, Lgr, Lgo, Lad. -/
import Derived.Test.YthciddpljcbhiabGreatDoorB4
import Derived.Test.YthciddpljcbhiabGreatDoorA
import Derived.Test.YthciddpljcbhiabGreatDoorB3
import Derived.Test.YthciddpljcbhiabGreatDoorB1
import Derived.BigQuiet
import Derived.Deep.DrawnRows
import Derived.Deep.OwnRows
import Derived.Deep.RegionHeld3
import Derived.Test.YthciddpljcbhiabGreatDoorB2
import Derived.Laws.BitsLemmas
import Derived.Test.YthciddpljcbhiabGreatDoorRows
import Derived.ProofKit
import Derived.SizedLaws
import Derived.OpenShut
import Derived.SevenTiedAt

/- Walks: a script played (plays), whatever kinds are played, by what each step does. -/
namespace Go.Proofs.YthciddpljcbhiabGreatDoor
open Go Go.RowKit Go.Lib

/-- A new world. -/
theorem WdAt.new (w : World) : WdAt ((w.alloc (.cells #[.int .i64 0, .slice none 0 0, .slice none 0 0, .slice none 0 0, .slice none 0 0] 31)).alloc (.cells #[.slice none 0 0, .pointer (some ⟨w.heap.size, 0, none⟩)] 34)) (fun k => if k = w.heap.size then 3 else if k = w.heap.size + 1 then 1 else 0) w.heap.size (w.heap.size + 1) w.heap.size (.slice none 0 0) [] 0 := by
  have hn : ∀ (k : Nat), (Value.slice none 0 0).ownBlock ≠ some k := fun k => by simp [Value.ownBlock]
  have hz : ((w.alloc (.cells #[.int .i64 0, .slice none 0 0, .slice none 0 0, .slice none 0 0, .slice none 0 0] 31)).alloc (.cells #[.slice none 0 0, .pointer (some ⟨w.heap.size, 0, none⟩)] 34)).heap.size = w.heap.size + 1 + 1 := by simp
  exact {
    out := fun k hk => by
      rw [hz] at hk
      show (if k = w.heap.size then 3 else if k = w.heap.size + 1 then 1 else 0) = 0
      rw [if_neg (by omega), if_neg (by omega)]
    low := fun k hk => by
      show (if k = w.heap.size then 3 else if k = w.heap.size + 1 then 1 else 0) = 0
      rw [if_neg (by omega), if_neg (by omega)]
    bas := by omega
    wb := by
      have := heap_alloc_new (w.alloc (.cells #[.int .i64 0, .slice none 0 0, .slice none 0 0, .slice none 0 0, .slice none 0 0] 31)) (.cells #[.slice none 0 0, .pointer (some ⟨w.heap.size, 0, none⟩)] 34)
      simpa only [World.size_alloc] using this
    oW := by
      show (if w.heap.size + 1 = w.heap.size then 3 else if w.heap.size + 1 = w.heap.size + 1 then 1 else 0) = 1
      rw [if_neg (by omega), if_pos rfl]
    row := World.ownsRow_nil _ _ _ _
    orow := fun k e => absurd e (hn k)
    dr := by
      refine (DrAt.new (w := (w.alloc (.cells #[.int .i64 0, .slice none 0 0, .slice none 0 0, .slice none 0 0, .slice none 0 0] 31)).alloc (.cells #[.slice none 0 0, .pointer (some ⟨w.heap.size, 0, none⟩)] 34)) (D := w.heap.size) ?_).keep (S := fun _ => False) (Fr.refl _ _) (fun _ _ e => e) (fun k e => if_pos e)
      rw [Below.heap_alloc _ _ _ (by simp)]
      exact heap_alloc_new _ _
    st := fun i hi => by simp at hi
    rf := fun i hi => by simp at hi }
/-- The books let go. -/
theorem WdAt.drop {w : World} {own : Nat → Nat} {base W D : Nat} {bv : Value} {bs : List Bk} {N : Nat} (h : WdAt w own base W D bv bs N) :
    WdAt (w.setCell ⟨W, 0, none⟩ (.slice none 0 0)) (fun k => if own k = 3 then 3 else if own k = 1 then 1 else 0) base W D (.slice none 0 0) [] N ∧ Below base w (w.setCell ⟨W, 0, none⟩ (.slice none 0 0)) := by
  have hn : ∀ (k : Nat), (Value.slice none 0 0).ownBlock ≠ some k := fun k => by simp [Value.ownBlock]
  have hz : (w.setCell ⟨W, 0, none⟩ (.slice none 0 0)).heap.size = w.heap.size := by simp [World.setCell]
  have hf : Fr (fun k => own k = 1) w (w.setCell ⟨W, 0, none⟩ (.slice none 0 0)) := (Fr.refl _ _).setCell (.inl h.oW) _
  refine ⟨?_, h.bel hf (fun k e => .inl (by have e' : own k = 1 := e; omega))⟩
  exact {
    out := fun k hk => by
      show (if own k = 3 then 3 else if own k = 1 then 1 else 0) = 0
      have := h.out k (by omega)
      rw [if_neg (by omega), if_neg (by omega)]
    low := fun k hk => by
      show (if own k = 3 then 3 else if own k = 1 then 1 else 0) = 0
      have := h.low k hk
      rw [if_neg (by omega), if_neg (by omega)]
    bas := by have := h.bas; omega
    wb := heap_setCell h.wb
    oW := by
      show (if own W = 3 then 3 else if own W = 1 then 1 else 0) = 1
      have := h.oW
      rw [if_neg (by omega), if_pos this]
    row := World.ownsRow_nil _ _ _ _
    orow := fun k e => absurd e (hn k)
    dr := h.dr.keep hf (fun k e => by have e' : own k = 3 := e; omega) (fun k e => if_pos e)
    st := fun i hi => by simp at hi
    rf := fun i hi => by simp at hi }

def kkkL : Lv := ⟨0, 1, ⟨#[107, 107, 107]⟩, 1⟩
theorem kkk_right : rightB 1 0 [kkkL] = true := by decide
theorem kkk_wf : LvWf [kkkL] := by
  intro i
  cases i with
  | zero => simp [lvG, kkkL, maxLen, ByteArray.size]
  | succ i => simp [lvG, Lv.zero, maxLen]

/-- What a step does to all there is. -/
def StepOk (base W D : Nat) (o : Opr) : Prop :=
  ∀ (own : Nat → Nat) (bv : Value) (bs : List Bk) (N : Nat) (la : Option Addr) (ln lc : Nat) (ba : Option Addr) (bn bc : Nat) (w : World), WdAt w own base W D bv bs N → AllOk bs → bs.length ≤ 900000000000 → N ≤ 900000000000 → OpIn w o la ln ba bn →
    (∀ b off, 0 < bn → ba = some ⟨b, off, none⟩ → b < base) → (∀ b off, 0 < ln → la = some ⟨b, off, none⟩ → b < base) →
    Calls Tryz.prog 7 #[.pointer (some ⟨W, 0, none⟩), opV o la ln lc ba bn bc] w fun e w' => e = .returned (.bool true) ∧ Went w w' base W D (N + 1) (bs.length + 1)
def skipB (lo hi k : Int) : Bool := decide (3 < k) && (decide (k < lo) || decide (hi < k))

def playOk (w wr : World) (k : Nat) : Prop := (∃ own bv bs, WdAt wr own w.heap.size (w.heap.size + 1) w.heap.size bv bs k ∧ AllOk bs ∧ bs.length ≤ k) ∧ Below w.heap.size w wr

set_option maxHeartbeats 2000000 in
set_option maxRecDepth 100000 in
theorem plays_any (a : Option Addr) (n cap : Nat) (l : List Opr) (lo hi : Int) (w : World) (h : IsOps w a n l) (hn : n ≤ 837723145000) (hstep : ∀ o ∈ l, skipB lo hi o.kind = false → StepOk w.heap.size (w.heap.size + 1) w.heap.size o) :
    Calls Tryz.prog 5 #[.slice a n cap, .int .i64 lo, .int .i64 hi] w fun e w' => e = .returned (.bool true) ∧ Below w.heap.size w w' := by
  have H : Hid (IsOps w a n l) := h
  have HST : Hid (∀ o ∈ l, skipB lo hi o.kind = false → StepOk w.heap.size (w.heap.size + 1) w.heap.size o) := hstep
  have HNL : Hid (l.length = n) := h.1
  have HW0 : Hid (WdAt ((w.alloc (.cells #[.int .i64 0, .slice none 0 0, .slice none 0 0, .slice none 0 0, .slice none 0 0] 31)).alloc (.cells #[.slice none 0 0, .pointer (some ⟨w.heap.size, 0, none⟩)] 34)) (fun k => if k = w.heap.size then 3 else if k = w.heap.size + 1 then 1 else 0) w.heap.size (w.heap.size + 1) w.heap.size (.slice none 0 0) [] 0) := WdAt.new w
  clear h hstep
  go_enter Tryz.func5, Tryz.ntmps5
  go_upto_region 2 with fail
  have hb0 : Below w.heap.size w ((w.alloc (.cells #[.int .i64 0, .slice none 0 0, .slice none 0 0, .slice none 0 0, .slice none 0 0] 31)).alloc (.cells #[.slice none 0 0, .pointer (some ⟨w.heap.size, 0, none⟩)] 34)) := ((Below.refl _ _).alloc (Nat.le_refl _) _).alloc (by simp) _
  have HB0 : Hid (Below w.heap.size w ((w.alloc (.cells #[.int .i64 0, .slice none 0 0, .slice none 0 0, .slice none 0 0, .slice none 0 0] 31)).alloc (.cells #[.slice none 0 0, .pointer (some ⟨w.heap.size, 0, none⟩)] 34))) := hb0
  clear hb0
  generalize (w.alloc (.cells #[.int .i64 0, .slice none 0 0, .slice none 0 0, .slice none 0 0, .slice none 0 0] 31)).alloc (.cells #[.slice none 0 0, .pointer (some ⟨w.heap.size, 0, none⟩)] 34) = w0 at *
  have hbl : Below w0.heap.size w0 (w0.alloc (.cells (flat [kkkL]).toArray 37)) := (Below.refl _ _).alloc (Nat.le_refl _) _
  have HOP := opened_yes _ w.heap.size (w.heap.size + 1) w.heap.size (.slice none 0 0) [] 0 (some ⟨w0.heap.size, 0, none⟩) 1 1 [kkkL] 1 0 ⟨#[]⟩ 0 (St.new ⟨1, 0, [kkkL]⟩) ⟨#[]⟩ [] (w0.alloc (.cells (flat [kkkL]).toArray 37)) (HW0.out.below hbl) ⟨rfl, fun _ => ⟨w0.heap.size, 0, rfl, lvAt_of (at_alloc_new _ _ _)⟩⟩ kkk_right (by simp)
    (fun V b hat => open_empty ⟨1, 0, [kkkL]⟩ b 0 1 (1 + 1) V kkk_right rfl hat kkk_wf) (fun V hV => open_ref_new _ 1 1 [kkkL] 1 0 V hV kkk_wf kkk_right)
  have HBL : Hid (Below w.heap.size w (w0.alloc (.cells (flat [kkkL]).toArray 37))) := HB0.out.trans (hbl.mono HB0.out.size)
  clear hbl
  go_wp2_with fail
  refine HOP.mono ?_
  clear HOP
  rintro e w2 ⟨rfl, ⟨own2, bv2, X, R, h2⟩, hb2⟩
  obtain ⟨g, bcap, rfl, _, _, _⟩ := ownBlockForm h2.row (by simp)
  have HW2 : Hid (WdAt w2 own2 w.heap.size (w.heap.size + 1) w.heap.size (.slice (some ⟨g, 0, none⟩) 1 bcap) ([] ++ [⟨X, R, ⟨1, 0, [kkkL]⟩, [], St.new ⟨1, 0, [kkkL]⟩, ⟨#[]⟩⟩]) 0) := h2
  have HB2 : Hid (Below w.heap.size w w2) := HBL.out.trans hb2
  have c0 : w2.cell? ⟨w.heap.size + 1, 0, none⟩ = some (.slice (some ⟨g, 0, none⟩) 1 bcap) := cell_blk HW2.out.wb rfl
  have z0 : w2.frozen? ⟨w.heap.size + 1, 0, none⟩ = false := froz_blk HW2.out.wb
  clear h2 hb2 HBL HB0 HW0
  go_wp2_with fail
  have HP3 : Hid (playOk w (w2.setCell ⟨w.heap.size + 1, 0, none⟩ (.slice none 0 0)) 0) := by
    obtain ⟨h3, h4⟩ := HW2.out.drop
    exact ⟨⟨_, _, _, h3, fun i hi => by simp at hi, Nat.le_refl _⟩, HB2.out.trans h4⟩
  generalize w2.setCell ⟨w.heap.size + 1, 0, none⟩ (.slice none 0 0) = w3 at *
  clear c0 z0 HW2 HB2
  go_loopw [8, 9] (fun ok i wr => ok = .bool true ∧ ∃ k : Nat, i = .int .i64 k ∧ k ≤ n ∧ playOk w wr k) (fun _ i _ => n - (intOf i).toNat)
  case atStart => exact ⟨rfl, 0, rfl, Nat.zero_le _, HP3.out⟩
  case round =>
    obtain ⟨rfl, k, rfl, hk, ⟨own, bv, bs, hwd, hok, hle⟩, hbel⟩ := hrel
    have HWD : Hid (WdAt wr own w.heap.size (w.heap.size + 1) w.heap.size bv bs k) := hwd
    have HOK : Hid (AllOk bs) := hok
    have HLE : Hid (bs.length ≤ k) := hle
    have HBE : Hid (Below w.heap.size w wr) := hbel
    clear hwd hok hle hbel
    by_cases hlt : k < n
    · obtain ⟨b, off, rfl, hbw, hall⟩ := H.out.2.2 (by omega)
      obtain ⟨la, ln, lc, ba, bn, bc, hat0, hin0⟩ := hall k hlt
      have hmem : opG l k ∈ l := by rw [opG_get l k (by rw [HNL.out]; exact hlt)]; exact List.getElem_mem _
      have HAT : Hid (At wr b (off + k * 16) (opC (opG l k) la ln lc ba bn bc)) := hat0.below HBE.out hbw
      have HIN : Hid (OpIn wr (opG l k) la ln ba bn) := ⟨hin0.lv.from HBE.out, hin0.ln, hin0.sm.below HBE.out, hin0.bn⟩
      have HLO : Hid ((∀ b off, 0 < bn → ba = some ⟨b, off, none⟩ → b < w.heap.size) ∧ (∀ b off, 0 < ln → la = some ⟨b, off, none⟩ → b < w.heap.size)) := by
        refine ⟨fun b off h0 e => ?_, fun b off h0 e => ?_⟩
        · obtain ⟨b', off', e', hat⟩ := hin0.sm.2 h0
          rw [e] at e'
          injection e' with e'
          injection e' with e' _
          rw [e']
          exact hat.block (by rw [hin0.sm.1]; exact h0)
        · obtain ⟨b', off', e', hat⟩ := hin0.lv.2 h0
          rw [e] at e'
          injection e' with e'
          injection e' with e' _
          rw [e']
          exact hat.block (by rw [hin0.lv.1]; exact h0)
      have HS : Hid (skipB lo hi (opG l k).kind = false → StepOk w.heap.size (w.heap.size + 1) w.heap.size (opG l k)) := HST.out _ hmem
      clear hat0 hin0 hall hmem
      generalize opG l k = o at *
      have p0 : wr.cell? ⟨b, off + k * 16, none⟩ = some (.int .i64 o.kind) := HAT.out 0 _ rfl
      cases hsk : skipB lo hi o.kind with
      | true =>
        have hsk' : 3 < o.kind ∧ (o.kind < lo ∨ lo ≤ o.kind ∧ hi < o.kind) := by
          simp only [skipB, Bool.and_eq_true, Bool.or_eq_true, decide_eq_true_eq] at hsk
          omega
        obtain ⟨s1, s2⟩ := hsk'
        have HP : Hid (playOk w wr (k + 1)) := ⟨⟨own, bv, bs, HWD.out.more (Nat.le_succ _), HOK.out, Nat.le_succ_of_le HLE.out⟩, HBE.out⟩
        clear hsk
        rcases s2 with s2 | ⟨s2, s3⟩
        · go_wp2_with fail
          exact ⟨⟨rfl, k + 1, by go_num, by omega, HP.out⟩, by simp [intOf]; omega⟩
        · go_wp2_with fail
          exact ⟨⟨rfl, k + 1, by go_num, by omega, HP.out⟩, by simp [intOf]; omega⟩
      | false =>
        have HCALL := HS.out hsk own bv bs k la ln lc ba bn bc wr HWD.out HOK.out (by have := HLE.out; omega) (by omega) HIN.out HLO.out.1 HLO.out.2
        have hsk' : o.kind ≤ 3 ∨ (3 < o.kind ∧ lo ≤ o.kind ∧ o.kind ≤ hi) := by
          simp only [skipB, Bool.and_eq_false_iff, Bool.or_eq_false_iff, decide_eq_false_iff_not] at hsk
          omega
        have HC : Hid (Calls Tryz.prog 7 #[.pointer (some ⟨w.heap.size + 1, 0, none⟩), opV o la ln lc ba bn bc] wr fun e w' => e = .returned (.bool true) ∧ Went wr w' w.heap.size (w.heap.size + 1) w.heap.size (k + 1) (bs.length + 1)) := HCALL
        have p1 : wr.cell? ⟨b, off + k * 16 + 1, none⟩ = some (.int .i64 o.on) := HAT.out 1 _ rfl
        have p2 : wr.cell? ⟨b, off + k * 16 + 2, none⟩ = some (.int .i64 o.a) := HAT.out 2 _ rfl
        have p3 : wr.cell? ⟨b, off + k * 16 + 3, none⟩ = some (.string o.s) := HAT.out 3 _ rfl
        have p4 : wr.cell? ⟨b, off + k * 16 + 4, none⟩ = some (.int .u8 o.l0) := HAT.out 4 _ rfl
        have p5 : wr.cell? ⟨b, off + k * 16 + 5, none⟩ = some (.int .u8 o.l1) := HAT.out 5 _ rfl
        have p6 : wr.cell? ⟨b, off + k * 16 + 6, none⟩ = some (.int .u8 o.l2) := HAT.out 6 _ rfl
        have p7 : wr.cell? ⟨b, off + k * 16 + 7, none⟩ = some (.int .i64 o.span) := HAT.out 7 _ rfl
        have p8 : wr.cell? ⟨b, off + k * 16 + 8, none⟩ = some (.int .i64 o.keep) := HAT.out 8 _ rfl
        have p9 : wr.cell? ⟨b, off + k * 16 + 9, none⟩ = some (.slice la ln lc) := HAT.out 9 _ rfl
        have p10 : wr.cell? ⟨b, off + k * 16 + 10, none⟩ = some (.slice ba bn bc) := HAT.out 10 _ rfl
        have p11 : wr.cell? ⟨b, off + k * 16 + 11, none⟩ = some (.int .i64 o.q.fr) := HAT.out 11 _ rfl
        have p12 : wr.cell? ⟨b, off + k * 16 + 12, none⟩ = some (.int .i64 o.q.to) := HAT.out 12 _ rfl
        have p13 : wr.cell? ⟨b, off + k * 16 + 13, none⟩ = some (.int .i64 o.q.step) := HAT.out 13 _ rfl
        have p14 : wr.cell? ⟨b, off + k * 16 + 14, none⟩ = some (.string o.q.mt) := HAT.out 14 _ rfl
        have p15 : wr.cell? ⟨b, off + k * 16 + 15, none⟩ = some (.string o.q.gb) := HAT.out 15 _ rfl
        clear HCALL hsk HS HIN HLO HAT
        rcases hsk' with s1 | ⟨s1, s2, s3⟩
        all_goals
          go_wp2_with fail
          refine HC.out.mono ?_
          rintro e w4 ⟨rfl, ⟨own4, bv4, bs4, h4, h5, h6⟩, h7⟩
          have HW4 : Hid (WdAt w4 own4 w.heap.size (w.heap.size + 1) w.heap.size bv4 bs4 (k + 1)) := h4
          have HO4 : Hid (AllOk bs4) := h5
          have HL4 : Hid (bs4.length ≤ bs.length + 1) := h6
          have HB4 : Hid (Below w.heap.size w w4) := HBE.out.trans h7
          have d1 : w4.cell? ⟨w.heap.size + 1, 1, none⟩ = some (.pointer (some ⟨w.heap.size, 0, none⟩)) := cell_blk HW4.out.wb rfl
          obtain ⟨ow, dn, ss, rs, sv, rv, nv, mv, t1, t2, t3, t4, t5, t6⟩ := h4.dr
          have HLK := looks_any w.heap.size ow dn ss rs sv rv nv mv w4 t6 (by omega) (by omega)
          clear h4 h5 h6 h7 t1 t2 t3 t4 t5 t6 p0 p1 p2 p3 p4 p5 p6 p7 p8 p9 p10 p11 p12 p13 p14 p15
          go_wp2_with fail
          refine HLK.mono ?_
          clear HLK
          rintro e w5 ⟨rfl, hb5⟩
          have HP : Hid (playOk w w5 (k + 1)) := ⟨⟨own4, bv4, bs4, HW4.out.below hb5, HO4.out, by have h8 := HL4.out; have h9 := HLE.out; omega⟩, HB4.out.trans (hb5.mono HB4.out.size)⟩
          clear hb5 d1
          go_wp2_with fail
          exact ⟨⟨rfl, k + 1, by go_num, by omega, HP.out⟩, by simp [intOf]; omega⟩
    · go_wp2_with fail
      go_ret
      exact ⟨rfl, HBE.out⟩

end Go.Proofs.YthciddpljcbhiabGreatDoor

/- Walks: Writes: every script is as the document says. -/
namespace Go.Proofs.YthciddpljcbhiabGreatDoor
open Go Go.RowKit Go.Lib

/-- New, Tick, Write, and any question whose answer is known. -/
theorem stepOk_of {base W D : Nat} {o : Opr} (hwf : OpWf o) (k8 : o.kind ≠ 8) (k10 : o.kind ≠ 10) (k11 : o.kind ≠ 11) (k9 : o.kind ≠ 9)
    (hask : o.kind ≠ 1 → o.kind ≠ 2 → o.kind ≠ 3 → ∀ (own : Nat → Nat) (bv : Value) (bs : List Bk) (N : Nat) (i : Nat) (la : Option Addr) (ln lc : Nat) (ba : Option Addr) (bn bc : Nat) (w : World), WdAt w own base W D bv bs N → AllOk bs → i < bs.length → N ≤ 900000000000 →
      Calls Tryz.prog 22 #[.pointer (some ⟨W, 0, none⟩), bkV (bkG bs i), opV o la ln lc ba bn bc] w fun e w' => e = .returned (.bool true) ∧ Went w w' base W D (N + 1) bs.length) : StepOk base W D o := by
  intro own bv bs N la ln lc ba bn bc w h hok hbs hN hin hlow _
  by_cases k1 : o.kind = 1
  · exact step_new own base W D bv bs N o la ln lc ba bn bc w h hok (by omega) hin hwf k1
  · refine (step_on own base W D bv bs N o la ln lc ba bn bc w h hok (by omega) hin hwf hlow k1 k8 k10 k11 k9 (fun k2 k3 V hV _ hi => hask k1 k2 k3 own bv bs N _ la ln lc ba bn bc V hV hok hi hN)).mono ?_
    rintro e w' ⟨rfl, ⟨own', bv', bs', h1, h2, h3⟩, h4⟩
    exact ⟨rfl, ⟨own', bv', bs', h1, h2, by omega⟩, h4⟩
theorem skip_no {lo hi k : Int} (h : skipB lo hi k = false) : k ≤ 3 ∨ (lo ≤ k ∧ k ≤ hi) := by
  simp only [skipB, Bool.and_eq_false_iff, Bool.or_eq_false_iff, decide_eq_false_iff_not] at h
  omega
theorem stepOk_writes {base W D : Nat} {o : Opr} (hwf : OpWf o) (hk : skipB 4 4 o.kind = false) : StepOk base W D o := by
  have h := skip_no hk
  refine stepOk_of hwf (by omega) (by omega) (by omega) (by omega) (fun k1 k2 k3 own bv bs N i la ln lc ba bn bc w hw hok hi _ => ?_)
  by_cases k4 : o.kind = 4
  · exact asked_now own base W D bv bs N i o la ln lc ba bn bc w hw hok hi k4
  · exact asked_none own base W D bv bs N i o la ln lc ba bn bc w hw hok k4 (by omega) (by omega) (by omega)

end Go.Proofs.YthciddpljcbhiabGreatDoor

/- The document's series in memory: what is admitted, the rows so far; and a sample's way through the levels (no program). -/
namespace Go.Proofs.YthciddpljcbhiabGreatDoor
open Go Go.RowKit Go.Lib

/-! A sample's way through the levels. -/
def aG (L : List (List Lb)) (j : Nat) : List Lb := L.getD j []
theorem aG_set (L : List (List Lb)) (i : Nat) (a : List Lb) (j : Nat) (hi : i < L.length) : aG (L.set i a) j = if i = j then a else aG L j := by
  unfold aG
  simp only [List.getD, List.getElem?_set]
  by_cases h : i = j
  · subst h; simp [hi]
  · simp [h]
/-- One level: what is admitted behind it, and what comes of the labels. -/
def stpA (lv : Lv) (adm : List Lb) (now : Lb) : List Lb := if now = over then adm else if madeL lv.rule now ∈ adm then adm else if ((adm.length : Nat) : Int) < lv.limit then adm ++ [madeL lv.rule now] else adm
def stpN (lv : Lv) (adm : List Lb) (now : Lb) : Lb := if now = over then over else if madeL lv.rule now ∈ adm then madeL lv.rule now else if ((adm.length : Nat) : Int) < lv.limit then madeL lv.rule now else over
def runA (lvs : List Lv) (A : List (List Lb)) (now : Lb) : Nat → List (List Lb) × Lb × List Lb
  | 0 => (A, now, [])
  | j + 1 => ((runA lvs A now j).1.set j (stpA (lvG lvs j) (aG (runA lvs A now j).1 j) (runA lvs A now j).2.1), stpN (lvG lvs j) (aG (runA lvs A now j).1 j) (runA lvs A now j).2.1, (runA lvs A now j).2.2 ++ [stpN (lvG lvs j) (aG (runA lvs A now j).1 j) (runA lvs A now j).2.1])
theorem runA_len (lvs : List Lv) (A : List (List Lb)) (now : Lb) : ∀ j, (runA lvs A now j).1.length = A.length ∧ (runA lvs A now j).2.2.length = j
  | 0 => ⟨rfl, rfl⟩
  | j + 1 => by
    obtain ⟨h1, h2⟩ := runA_len lvs A now j
    refine ⟨?_, ?_⟩
    · simp only [runA, List.length_set]; exact h1
    · simp only [runA, List.length_append, h2]; rfl
theorem runA_drop (lvs : List Lv) (A : List (List Lb)) (now : Lb) : ∀ j, (runA lvs A now j).1.drop j = A.drop j
  | 0 => rfl
  | j + 1 => by
    have h := runA_drop lvs A now j
    simp only [runA]
    rw [List.drop_set_of_lt (by omega)]
    have e : ∀ X : List (List Lb), X.drop (j + 1) = (X.drop j).drop 1 := fun X => by rw [List.drop_drop]
    rw [e, h, ← e]
theorem aG_drop (A : List (List Lb)) (j : Nat) : (A.drop j).headD [] = aG A j := by
  unfold aG
  rw [List.headD_eq_head?_getD, List.head?_drop]
  rfl
theorem runA_at (lvs : List Lv) (A : List (List Lb)) (now : Lb) (j : Nat) : aG (runA lvs A now j).1 j = aG A j := by
  rw [← aG_drop, runA_drop, aG_drop]
theorem drop_lv2 (lvs : List Lv) (j : Nat) (h : j < lvs.length) : lvs.drop j = lvG lvs j :: lvs.drop (j + 1) := by
  rw [lvG_get lvs j h]
  exact List.drop_eq_getElem_cons h
theorem admRow_cons (lv : Lv) (lvs : List Lv) (A : List (List Lb)) (now : Lb) : admRow (lv :: lvs) A now = if now = over then A.headD [] :: admRow lvs A.tail over else if madeL lv.rule now ∈ A.headD [] then A.headD [] :: admRow lvs A.tail (madeL lv.rule now)
    else if ((A.headD []).length : Int) < lv.limit then (A.headD [] ++ [madeL lv.rule now]) :: admRow lvs A.tail (madeL lv.rule now) else A.headD [] :: admRow lvs A.tail over := rfl
theorem serNow_cons (lv : Lv) (lvs : List Lv) (A : List (List Lb)) (now : Lb) : serNow (lv :: lvs) A now = if now = over then over :: serNow lvs A.tail over else if madeL lv.rule now ∈ A.headD [] then madeL lv.rule now :: serNow lvs A.tail (madeL lv.rule now)
    else if ((A.headD []).length : Int) < lv.limit then madeL lv.rule now :: serNow lvs A.tail (madeL lv.rule now) else over :: serNow lvs A.tail over := rfl
/-- The way is the document's. -/
theorem runA_row (lvs : List Lv) (A : List (List Lb)) (now : Lb) (hA : A.length = lvs.length) : ∀ j, j ≤ lvs.length →
    admRow lvs A now = (runA lvs A now j).1.take j ++ admRow (lvs.drop j) (A.drop j) (runA lvs A now j).2.1 ∧ serNow lvs A now = (runA lvs A now j).2.2 ++ serNow (lvs.drop j) (A.drop j) (runA lvs A now j).2.1
  | 0, _ => by simp [runA]
  | j + 1, h => by
    obtain ⟨h1, h2⟩ := runA_row lvs A now hA j (by omega)
    have hl := (runA_len lvs A now j).1
    have hat := runA_at lvs A now j
    have ht : ∀ a, ((runA lvs A now j).1.set j a).take (j + 1) = (runA lvs A now j).1.take j ++ [a] := fun a => by
      rw [List.take_succ_eq_append_getElem (by rw [List.length_set]; omega), List.take_set_of_le (Nat.le_refl _)]
      simp
    rw [drop_lv2 lvs j (by omega)] at h1 h2
    have htl : (A.drop j).tail = A.drop (j + 1) := by rw [List.tail_drop]
    rw [admRow_cons] at h1
    rw [serNow_cons] at h2
    rw [aG_drop, htl] at h1 h2
    rw [h1, h2]
    show _ = ((runA lvs A now j).1.set j (stpA (lvG lvs j) (aG (runA lvs A now j).1 j) (runA lvs A now j).2.1)).take (j + 1) ++ admRow (lvs.drop (j + 1)) (A.drop (j + 1)) (stpN (lvG lvs j) (aG (runA lvs A now j).1 j) (runA lvs A now j).2.1) ∧ _ = ((runA lvs A now j).2.2 ++ [stpN (lvG lvs j) (aG (runA lvs A now j).1 j) (runA lvs A now j).2.1]) ++ serNow (lvs.drop (j + 1)) (A.drop (j + 1)) (stpN (lvG lvs j) (aG (runA lvs A now j).1 j) (runA lvs A now j).2.1)
    rw [ht, hat]
    unfold stpA stpN
    by_cases c1 : (runA lvs A now j).2.1 = over
    · simp only [if_pos c1]
      simp
    · simp only [if_neg c1]
      by_cases c2 : madeL (lvG lvs j).rule (runA lvs A now j).2.1 ∈ aG A j
      · simp only [if_pos c2]
        simp
      · simp only [if_neg c2]
        by_cases c3 : (((aG A j).length : Nat) : Int) < (lvG lvs j).limit
        · simp only [if_pos c3]
          simp
        · simp only [if_neg c3]
          simp
theorem runA_all (lvs : List Lv) (A : List (List Lb)) (now : Lb) (hA : A.length = lvs.length) : (runA lvs A now lvs.length).1 = admRow lvs A now ∧ (runA lvs A now lvs.length).2.2 = serNow lvs A now := by
  obtain ⟨h1, h2⟩ := runA_row lvs A now hA lvs.length (Nat.le_refl _)
  have hl := (runA_len lvs A now lvs.length).1
  rw [List.drop_length] at h1 h2
  refine ⟨?_, ?_⟩
  · rw [h1]
    simp only [admRow, List.append_nil]
    rw [List.take_of_length_le (by omega)]
  · rw [h2]
    simp only [serNow, List.append_nil]
/-- Labels on their way are labels, or what was not admitted. -/
theorem runA_ok (lvs : List Lv) (A : List (List Lb)) (now : Lb) (hn : okS now) : ∀ j, okS (runA lvs A now j).2.1
  | 0 => hn
  | j + 1 => by
    have h := runA_ok lvs A now hn j
    show okS (stpN _ _ _)
    unfold stpN
    by_cases c1 : (runA lvs A now j).2.1 = over
    · rw [if_pos c1]; exact .inl rfl
    · rw [if_neg c1]
      have hm := madeL_lab (r := (lvG lvs j).rule) (h.resolve_left c1)
      split
      · exact .inr hm
      · split
        · exact .inr hm
        · exact .inl rfl
/-- All bounds hold on the way: no level has more than its limit. -/
def Fits (lvs : List Lv) (A : List (List Lb)) : Prop := ∀ j, j < lvs.length → (((aG A j).length : Nat) : Int) ≤ (lvG lvs j).limit
theorem stpA_len (lv : Lv) (adm : List Lb) (now : Lb) (h : (adm.length : Int) ≤ lv.limit) : ((stpA lv adm now).length : Int) ≤ lv.limit := by
  unfold stpA
  split
  · exact h
  · split
    · exact h
    · split
      · simp; omega
      · exact h
theorem runA_fits (lvs : List Lv) (A : List (List Lb)) (now : Lb) (hA : A.length = lvs.length) (h : Fits lvs A) : ∀ j, j ≤ lvs.length → Fits lvs (runA lvs A now j).1
  | 0, _ => h
  | j + 1, hj => by
    have h1 := runA_fits lvs A now hA h j (by omega)
    have hl := (runA_len lvs A now j).1
    intro i hi
    show (((aG ((runA lvs A now j).1.set j _) i).length : Nat) : Int) ≤ _
    rw [aG_set _ _ _ _ (by omega)]
    split
    · next e => subst e; exact stpA_len _ _ _ (h1 j hi)
    · exact h1 i hi

/-! In memory. -/
def flatL (l : List Lb) : List Value := l.flatMap lbC
theorem lbC_len (l : Lb) : (lbC l).length = 3 := rfl
theorem flatL_len (l : List Lb) : (flatL l).length = l.length * 3 := flat_length lbC 3 lbC_len l
theorem flatL_snoc (l : List Lb) (x : Lb) : flatL (l ++ [x]) = flatL l ++ lbC x := by simp [flatL]
def vG (vs : List Value) (j : Nat) : Value := vs.getD j (.slice none 0 0)
theorem vG_get (vs : List Value) (j : Nat) (h : j < vs.length) : vs[j]? = some (vG vs j) := by simp [vG, List.getD, h]
theorem vG_set (vs : List Value) (i : Nat) (v : Value) (j : Nat) (hi : i < vs.length) : vG (vs.set i v) j = if i = j then v else vG vs j := by
  unfold vG
  simp only [List.getD, List.getElem?_set]
  by_cases h : i = j
  · subst h; simp [hi]
  · simp [h]
/-- Whose a block is: 1 the row of what is admitted, 10 + j its lists; 2 the row of rows, 3 the rows in it; 4 the row that is being made, 5 the labels' box. -/
structure SrS (w : World) (base : Nat) (ow : Nat → Nat) (G : Nat) (vs : List Value) (L : List (List Lb)) (ov : Value) (rs : List Value) (S : List (List Lb)) (n : Nat) : Prop where
  out : ∀ k, w.heap.size ≤ k → ow k = 0
  low : ∀ k, k < base → ow k = 0
  bas : base ≤ w.heap.size
  blk : w.heap[G]? = some (.cells vs.toArray 144 (0, 0))
  lv : vs.length = n
  lL : L.length = n
  oG : ow G = 1
  adm : ∀ j, j < n → w.ownsRow 0 42 3 (vG vs j) (aG L j).length (flatL (aG L j))
  oA : ∀ j, j < n → ∀ k, (vG vs j).ownBlock = some k → ow k = 10 + j
  orow : w.ownsRow 0 144 1 ov rs.length rs
  oO : ∀ k, ov.ownBlock = some k → ow k = 2
  lS : rs.length = S.length
  row : ∀ i, i < rs.length → ∃ b cap, vG rs i = .slice (some ⟨b, 0, none⟩) n cap ∧ ow b = 3 ∧ At w b 0 (flatL (aG S i)) ∧ (aG S i).length = n

section
variable {w w' : World} {base : Nat} {ow : Nat → Nat} {G : Nat} {vs : List Value} {L : List (List Lb)} {ov : Value} {rs : List Value} {S : List (List Lb)} {n : Nat}
theorem SrS.Glt (h : SrS w base ow G vs L ov rs S n) : G < w.heap.size := (Array.getElem?_eq_some_iff.1 h.blk).1
theorem SrS.keepTo (h : SrS w base ow G vs L ov rs S n) {T : Nat → Prop} (hf : Fr T w w') {ow' : Nat → Nat} (hT : ∀ k, T k → ow k = 0 ∨ ow k = 4 ∨ ow k = 5) (hout : ∀ k, w'.heap.size ≤ k → ow' k = 0) (hlow : ∀ k, k < base → ow' k = 0) (hsame : ∀ k, ow k ≠ 0 → ow k ≠ 4 → ow k ≠ 5 → ow' k = ow k) : SrS w' base ow' G vs L ov rs S n where
  out := hout
  low := hlow
  bas := Nat.le_trans h.bas hf.size
  blk := by rw [hf.block G h.Glt (fun e => by have := hT G e; have := h.oG; omega)]; exact h.blk
  lv := h.lv
  lL := h.lL
  oG := by rw [hsame G (by rw [h.oG]; omega) (by rw [h.oG]; omega) (by rw [h.oG]; omega)]; exact h.oG
  adm := fun j hj => owns_fr (h.adm j hj) hf (fun k e e' => by have := h.oA j hj k e; have := hT k e'; omega)
  oA := fun j hj k e => by have h1 := h.oA j hj k e; rw [hsame k (by omega) (by omega) (by omega)]; exact h1
  orow := owns_fr h.orow hf (fun k e e' => by have := h.oO k e; have := hT k e'; omega)
  oO := fun k e => by have h1 := h.oO k e; rw [hsame k (by omega) (by omega) (by omega)]; exact h1
  lS := h.lS
  row := fun i hi => by
    obtain ⟨b, cap, e1, e2, e3, e4⟩ := h.row i hi
    exact ⟨b, cap, e1, by rw [hsame b (by omega) (by omega) (by omega)]; exact e2, e3.fr hf (fun e => by have := hT b e; omega), e4⟩
theorem SrS.below (h : SrS w base ow G vs L ov rs S n) (hb : Below w.heap.size w w') : SrS w' base ow G vs L ov rs S n :=
  h.keepTo (T := fun _ => False) (Fr.of_below hb) (fun _ e => e.elim) (fun k hk => h.out k (Nat.le_trans hb.size hk)) h.low (fun _ _ _ _ => rfl)
/-- The row that is being made, or the box, grows or is written. -/
theorem SrS.other (h : SrS w base ow G vs L ov rs S n) {t : Nat} (ht : t = 4 ∨ t = 5) (hf : Fr (fun k => ow k = t) w w') : SrS w' base (upd ow w w' t) G vs L ov rs S n :=
  h.keepTo hf (fun k e => by have e' : ow k = t := e; omega) (upd_out h.out hf.size) (upd_low h.bas h.low) (fun k h0 _ _ => upd_old _ _ h.out h0 rfl)
/-- One more is admitted at a level. -/
theorem SrS.more (h : SrS w base ow G vs L ov rs S n) {W w3 : World} {j : Nat} (hj : j < n) {v' : Value} {m : Lb} (hb : Below w.heap.size w W) (hg : W.grownBy w3 (vG vs j).ownBlock) (ho : w3.ownsRow 0 42 3 v' ((aG L j).length + 1) (flatL (aG L j) ++ lbC m))
    (hk : v'.ownBlock = (vG vs j).ownBlock ∨ ∀ k, v'.ownBlock = some k → W.heap.size ≤ k) :
    SrS (w3.setCell ⟨G, j, none⟩ v') base (upd ow W w3 (10 + j)) G (vs.set j v') (L.set j (aG L j ++ [m])) ov rs S n ∧ Fr (fun k => ow k = 1 ∨ ow k = 10 + j) w (w3.setCell ⟨G, j, none⟩ v') := by
  have hs3 : (w3.setCell ⟨G, j, none⟩ v').heap.size = w3.heap.size := by simp [World.setCell]
  have hWs := hb.size
  have h3s := hg.size
  have hout : ∀ k, W.heap.size ≤ k → ow k = 0 := fun k hk => h.out k (by omega)
  have hf : Fr (fun k => ow k = 1 ∨ ow k = 10 + j) w (w3.setCell ⟨G, j, none⟩ v') := ((Fr.of_below hb).grown hg (fun k e => .inl (.inr (h.oA j hj k e)))).setCell (.inl (.inl h.oG)) _
  have hGv : (vG vs j).ownBlock ≠ some G := fun e => by have h1 := h.oA j hj G e; have h2 := h.oG; omega
  have hGv' : v'.ownBlock ≠ some G := fun e => by
    rcases hk with hk | hk
    · rw [hk] at e; exact hGv e
    · have h1 := hk G e; have h2 := h.Glt; omega
  have hold : ∀ k i, i ≠ 0 → ow k = i → upd ow W w3 (10 + j) k = i := fun k i hi e => upd_old w3 (10 + j) hout hi e
  refine ⟨?_, hf⟩
  exact {
    out := fun k hk' => by rw [hs3] at hk'; exact upd_out hout h3s k hk'
    low := upd_low (by have := h.bas; omega) h.low
    bas := by have := h.bas; omega
    blk := by
      have e1 : w3.heap[G]? = some (.cells vs.toArray 144 (0, 0)) := by
        rw [hg.block G (by have := h.Glt; omega) (fun e => hGv e.symm), hb.block G h.Glt]
        exact h.blk
      have e2 := heap_setCell (o := j) (v := v') e1
      rw [e2]
      simp
    lv := by rw [List.length_set]; exact h.lv
    lL := by rw [List.length_set]; exact h.lL
    oG := hold G 1 (by omega) h.oG
    adm := fun i hi => by
      rw [vG_set _ _ _ _ (by rw [h.lv]; exact hj), aG_set _ _ _ _ (by rw [h.lL]; exact hj)]
      by_cases e : j = i
      · rw [if_pos e, if_pos e, List.length_append, flatL_snoc]
        exact owns_other ho hGv'
      · rw [if_neg e, if_neg e]
        exact owns_fr (h.adm i hi) hf (fun k e1 e2 => by have := h.oA i hi k e1; omega)
    oA := fun i hi k e1 => by
      rw [vG_set _ _ _ _ (by rw [h.lv]; exact hj)] at e1
      by_cases e : j = i
      · rw [if_pos e] at e1
        subst e
        rcases hk with hk | hk
        · rw [hk] at e1; exact hold k _ (by omega) (h.oA j hj k e1)
        · have h1 := hk k e1
          have h2 := (ho.lt k e1).2
          unfold upd
          rw [if_pos ⟨h1, h2⟩]
      · rw [if_neg e] at e1
        exact hold k _ (by omega) (h.oA i hi k e1)
    orow := owns_fr h.orow hf (fun k e1 e2 => by have := h.oO k e1; omega)
    oO := fun k e => hold k 2 (by omega) (h.oO k e)
    lS := h.lS
    row := fun i hi => by
      obtain ⟨b, cap, e1, e2, e3, e4⟩ := h.row i hi
      exact ⟨b, cap, e1, hold b 3 (by omega) e2, e3.fr hf (fun e => by omega), e4⟩ }
/-- A row more. -/
theorem SrS.push (h : SrS w base ow G vs L ov rs S n) {W w3 : World} {ov' : Value} {b cap : Nat} {s : List Lb} (hb : Below w.heap.size w W) (hg : W.grownBy w3 ov.ownBlock) (ho : w3.ownsRow 0 144 1 ov' (rs.length + 1) (rs ++ [.slice (some ⟨b, 0, none⟩) n cap]))
    (hk : ov'.ownBlock = ov.ownBlock ∨ ∀ k, ov'.ownBlock = some k → W.heap.size ≤ k) (hbo : ow b = 4) (hat : At w b 0 (flatL s)) (hs : s.length = n) :
    SrS w3 base (fun k => if ow k = 4 then 3 else if ow k = 5 then 0 else upd ow W w3 2 k) G vs L ov' (rs ++ [.slice (some ⟨b, 0, none⟩) n cap]) (S ++ [s]) n ∧ Fr (fun k => ow k = 2) w w3 := by
  have hWs := hb.size
  have h3s := hg.size
  have hout : ∀ k, W.heap.size ≤ k → ow k = 0 := fun k hk => h.out k (by omega)
  have hf : Fr (fun k => ow k = 2) w w3 := (Fr.of_below hb).grown hg (fun k e => .inl (h.oO k e))
  have hold : ∀ k i, i ≠ 0 → i ≠ 4 → i ≠ 5 → ow k = i → (if ow k = 4 then 3 else if ow k = 5 then 0 else upd ow W w3 2 k) = i := fun k i hi h4 h5 e => by
    rw [if_neg (by omega), if_neg (by omega)]
    exact upd_old w3 2 hout hi e
  refine ⟨?_, hf⟩
  have hvg : ∀ i, i < rs.length → vG (rs ++ [.slice (some ⟨b, 0, none⟩) n cap]) i = vG rs i := fun i hi => by simp [vG, List.getD, List.getElem?_append_left hi]
  have hag : ∀ i, i < S.length → aG (S ++ [s]) i = aG S i := fun i hi => by simp [aG, List.getD, List.getElem?_append_left hi]
  exact {
    out := fun k hk' => by
      have h0 := h.out k (by omega)
      show (if ow k = 4 then 3 else if ow k = 5 then 0 else upd ow W w3 2 k) = 0
      rw [if_neg (by omega), if_neg (by omega)]
      exact upd_out hout h3s k hk'
    low := fun k hk' => by
      have h0 := h.low k hk'
      show (if ow k = 4 then 3 else if ow k = 5 then 0 else upd ow W w3 2 k) = 0
      rw [if_neg (by omega), if_neg (by omega)]
      exact upd_low (by have := h.bas; omega) h.low k hk'
    bas := by have := h.bas; omega
    blk := by rw [hf.block G h.Glt (by rw [h.oG]; omega)]; exact h.blk
    lv := h.lv
    lL := h.lL
    oG := hold G 1 (by omega) (by omega) (by omega) h.oG
    adm := fun j hj => owns_fr (h.adm j hj) hf (fun k e e' => by have := h.oA j hj k e; omega)
    oA := fun j hj k e => hold k _ (by omega) (by omega) (by omega) (h.oA j hj k e)
    orow := by rw [List.length_append]; exact ho
    oO := fun k e => by
      rcases hk with hk | hk
      · rw [hk] at e; exact hold k 2 (by omega) (by omega) (by omega) (h.oO k e)
      · have h1 := hk k e
        have h2 := (ho.lt k e).2
        have h0 := h.out k (by omega)
        rw [if_neg (by omega), if_neg (by omega)]
        unfold upd
        rw [if_pos ⟨h1, h2⟩]
    lS := by rw [List.length_append, List.length_append, h.lS]; rfl
    row := fun i hi => by
      rw [List.length_append] at hi
      by_cases hlt : i < rs.length
      · obtain ⟨b', cap', e1, e2, e3, e4⟩ := h.row i hlt
        rw [hvg i hlt, hag i (by rw [← h.lS]; exact hlt)]
        exact ⟨b', cap', e1, hold b' 3 (by omega) (by omega) (by omega) e2, e3.fr hf (fun e => by omega), e4⟩
      · have hi' : i = rs.length := by simp at hi; omega
        subst hi'
        have e1 : vG (rs ++ [.slice (some ⟨b, 0, none⟩) n cap]) rs.length = .slice (some ⟨b, 0, none⟩) n cap := by simp [vG, List.getD]
        have e2 : aG (S ++ [s]) rs.length = s := by rw [h.lS]; simp [aG, List.getD]
        rw [e1, e2]
        exact ⟨b, cap, rfl, if_pos hbo, hat.fr hf (fun e => by omega), hs⟩ }
end

end Go.Proofs.YthciddpljcbhiabGreatDoor

/- Walks: the document's level of a time; are these labels among the others? (garnerref) -/
namespace Go.Proofs.YthciddpljcbhiabGreatDoor
open Go Go.RowKit Go.Lib

theorem rf_right {w : World} {R : Nat} {F : Nat → Prop} {c : Cf} {ps : List Cp} {L lcap : Nat} {cv : Value} (h : RfS w R F c ps L lcap cv) : c.right = true := by
  have hr := h.inv.right
  rw [doAll_cf] at hr
  exact hr
theorem rf_nowr {w : World} {R : Nat} {F : Nat → Prop} {c : Cf} {ps : List Cp} {L lcap : Nat} {cv : Value} (h : RfS w R F c ps L lcap cv) : 0 ≤ sumT (ps.map (·.1)) ∧ sumT (ps.map (·.1)) ≤ 100000 := by
  have h1 := h.inv.n1
  rw [rf_now] at h1
  exact ⟨sumT_nn h.tks, h1⟩

set_option maxHeartbeats 1000000 in
theorem level_ref (R : Nat) (F : Nat → Prop) (c : Cf) (ps : List Cp) (L lcap : Nat) (cv : Value) (t : Int) (w : World) (h : RfS w R F c ps L lcap cv) (t0 : 0 ≤ t) (t1 : t ≤ 100100) :
    Calls Tryz.prog 80 #[.pointer (some ⟨R, 0, none⟩), .int .i64 t] w fun e w' => e = .returned (.int .i64 (c.lvl (sumT (ps.map (·.1))) t : Nat)) ∧ ∃ d, w' = w.drewN d := by
  obtain ⟨sp1, sp2, _, _, l1, l4, _⟩ := Cf.right_parts (rf_right h)
  have HA := age_ref R F c ps L lcap cv t w h sp1 sp2 t0 (by omega)
  have c2 := h.cell 2 _ rfl
  have HLV : Hid (LvAt w L 0 c.lvs) := h.lv
  have HE : Hid (c.lvl (sumT (ps.map (·.1))) t = lvlTo c.lvs (c.age (sumT (ps.map (·.1))) t) c.lvs.length) := rfl
  clear h
  generalize c.age (sumT (ps.map (·.1))) t = ag at *
  generalize c.lvl (sumT (ps.map (·.1))) t = res at *
  go_enter Tryz.func80, Tryz.ntmps80
  go_wp2_with fail
  refine HA.mono ?_
  rintro e w1 ⟨rfl, d, rfl⟩
  clear HA
  have d2 : (w.drewN d).cell? ⟨R, 2, none⟩ = some (.slice (some ⟨L, 0, none⟩) c.lvs.length lcap) := c2
  have HLV1 : Hid (LvAt (w.drewN d) L 0 c.lvs) := HLV.out
  clear c2 HLV
  generalize hw1 : w.drewN d = w1 at *
  go_wp2_with fail
  go_loopw [6, 7] (fun l i wr => ∃ k : Nat, i = .int .i64 k ∧ 1 ≤ k ∧ k ≤ c.lvs.length ∧ l = .int .i64 (lvlTo c.lvs ag k : Nat) ∧ wr = w1) (fun _ i _ => c.lvs.length - (intOf i).toNat)
  case atStart => exact ⟨1, rfl, Nat.le_refl _, l1, rfl, rfl⟩
  case round =>
    obtain ⟨k, rfl, hk1, hk, rfl, rfl⟩ := hrel
    by_cases hlt : k < c.lvs.length
    · obtain ⟨a0, _, _, _⟩ := HLV1.out k hlt
      simp only [Nat.zero_add] at a0
      have HS : Hid (lvlTo c.lvs ag (k + 1) = if 1 ≤ k ∧ (lvG c.lvs k).age ≤ ag then k else lvlTo c.lvs ag k) := rfl
      by_cases hag : (lvG c.lvs k).age ≤ ag
      · have HS2 : Hid (lvlTo c.lvs ag (k + 1) = k) := by show _ = _; rw [HS.out, if_pos ⟨hk1, hag⟩]
        generalize (lvG c.lvs k).age = ak at *
        go_wp2_with fail
        exact ⟨⟨k + 1, by go_num, by omega, by omega, by rw [HS2.out], trivial⟩, by simp [intOf]; omega⟩
      · have HS2 : Hid (lvlTo c.lvs ag (k + 1) = lvlTo c.lvs ag k) := by show _ = _; rw [HS.out, if_neg (fun e => hag e.2)]
        generalize (lvG c.lvs k).age = ak at *
        generalize lvlTo c.lvs ag k = cur at *
        go_wp2_with fail
        exact ⟨⟨k + 1, by go_num, by omega, by omega, by rw [HS2.out], trivial⟩, by simp [intOf]; omega⟩
    · have hkE : k = c.lvs.length := by omega
      have HF : Hid (lvlTo c.lvs ag k = res) := by show _ = _; rw [hkE, HE.out]
      rw [HF.out]
      go_wp2_with fail
      go_ret
      exact ⟨rfl, d, hw1.symm⟩

theorem lb_beq (x y : Lb) : (y.a == x.a && y.b == x.b && y.c == x.c) = decide (y = x) := by
  cases x; cases y
  simp
  rw [Bool.eq_iff_iff]
  simp [and_assoc]
theorem lb_ne {x y : Lb} (h : ¬ y = x) : (y.a == x.a && y.b == x.b && y.c == x.c) = false := by rw [lb_beq]; simp [h]

def lbsG (A : List Lb) (i : Nat) : Lb := A.getD i Lb.zero
theorem lbsG_get (A : List Lb) (i : Nat) (h : i < A.length) : lbsG A i = A[i] := by simp [lbsG, List.getD, h]
theorem at_lbs {w : World} {b off : Nat} {A : List Lb} (h : At w b off (flatL A)) (i : Nat) (hi : i < A.length) : w.cell? ⟨b, off + i * 3, none⟩ = some (.int .u8 (lbsG A i).a) ∧ w.cell? ⟨b, off + i * 3 + 1, none⟩ = some (.int .u8 (lbsG A i).b) ∧ w.cell? ⟨b, off + i * 3 + 2, none⟩ = some (.int .u8 (lbsG A i).c) := by
  rw [lbsG_get A i hi]
  exact ⟨at_elem lbC 3 lbC_len h i hi 0 _ rfl, at_elem lbC 3 lbC_len h i hi 1 _ rfl, at_elem lbC 3 lbC_len h i hi 2 _ rfl⟩

set_option maxHeartbeats 1000000 in
theorem among_ref (a : Option Addr) (n cap : Nat) (A : List Lb) (x : Lb) (w : World) (hn : A.length = n) (hA : 0 < n → ∃ b off, a = some ⟨b, off, none⟩ ∧ At w b off (flatL A)) (hm : n ≤ 1000000) :
    Calls Tryz.prog 105 #[.slice a n cap, .agg #[.int .u8 x.a, .int .u8 x.b, .int .u8 x.c]] w fun e w' => e = .returned (.bool (decide (x ∈ A))) ∧ Below w.heap.size w w' := by
  have HA : Hid (0 < n → ∃ b off, a = some ⟨b, off, none⟩ ∧ At w b off (flatL A)) := hA
  have HN : Hid (A.length = n) := hn
  have hbx : Below w.heap.size w (w.alloc (.cells #[.int .u8 x.a, .int .u8 x.b, .int .u8 x.c] 42)) := (Below.refl _ _).alloc (Nat.le_refl _) _
  have hbk : (w.alloc (.cells #[.int .u8 x.a, .int .u8 x.b, .int .u8 x.c] 42)).heap[w.heap.size]? = some (.cells #[.int .u8 x.a, .int .u8 x.b, .int .u8 x.c] 42 (0, 0)) := heap_alloc_new _ _
  have HBX : Hid (Below w.heap.size w (w.alloc (.cells #[.int .u8 x.a, .int .u8 x.b, .int .u8 x.c] 42))) := hbx
  have HBK : Hid ((w.alloc (.cells #[.int .u8 x.a, .int .u8 x.b, .int .u8 x.c] 42)).heap[w.heap.size]? = some (.cells #[.int .u8 x.a, .int .u8 x.b, .int .u8 x.c] 42 (0, 0))) := hbk
  clear hA hn hbx hbk
  go_enter Tryz.func105, Tryz.ntmps105
  go_upto_region 1 with fail
  generalize w.alloc (.cells #[.int .u8 x.a, .int .u8 x.b, .int .u8 x.c] 42) = w0 at *
  have x0 : w0.cell? ⟨w.heap.size, 0, none⟩ = some (.int .u8 x.a) := cell_blk HBK.out rfl
  have x1 : w0.cell? ⟨w.heap.size, 1, none⟩ = some (.int .u8 x.b) := cell_blk HBK.out rfl
  have x2 : w0.cell? ⟨w.heap.size, 2, none⟩ = some (.int .u8 x.c) := cell_blk HBK.out rfl
  go_wp2_with fail
  go_loopw [5] (fun i wr => ∃ k : Nat, i = .int .i64 k ∧ k ≤ n ∧ (∀ j, j < k → ¬ lbsG A j = x) ∧ ∃ d, wr = w0.drewN d) (fun i _ => n - (intOf i).toNat)
  case atStart => exact ⟨0, rfl, Nat.zero_le _, fun j hj => absurd hj (by omega), 0, rfl⟩
  case round =>
    obtain ⟨k, rfl, hk, hno, d, rfl⟩ := hrel
    have HNO : Hid (∀ j, j < k → ¬ lbsG A j = x) := hno
    clear hno
    by_cases hlt : k < n
    · obtain ⟨b, off, rfl, hat⟩ := HA.out (by omega)
      obtain ⟨y0, y1, y2⟩ := at_lbs (fun j v hj => by
        have h9 := hat j v hj
        have hbl : b < w.heap.size := World.block_lt_of_cell? w _ h9
        exact (HBX.out.cell (p := ⟨b, off + j, none⟩) hbl).trans h9 : At w0 b off (flatL A)) k (by rw [HN.out]; exact hlt)
      clear hat
      by_cases hy : lbsG A k = x
      · have HIN : Hid (decide (x ∈ A) = true) := by
          show _ = _
          rw [decide_eq_true_eq, ← hy, lbsG_get A k (by rw [HN.out]; exact hlt)]
          exact List.getElem_mem _
        rw [hy] at y0 y1 y2
        have heq := fun w => eq26 9998 x.a x.b x.c x.a x.b x.c w
        simp only [beq_self_eq_true, Bool.and_self] at heq
        clear hy
        go_wp2_with fail
        go_quiet (fail)
        go_wp2_with fail
        go_ret
        exact ⟨by rw [HIN.out]; rfl, below_drewN (below_drewN HBX.out _) _⟩
      · have heq := fun w => eq26 9998 (lbsG A k).a (lbsG A k).b (lbsG A k).c x.a x.b x.c w
        rw [lb_ne hy] at heq
        have HNO2 : Hid (∀ j, j < k + 1 → ¬ lbsG A j = x) := fun j hj => by
          by_cases e : j = k
          · subst e; exact hy
          · exact HNO.out j (by omega)
        clear hy
        generalize lbsG A k = y at *
        go_wp2_with fail
        go_quiet (fail)
        go_wp2_with fail
        exact ⟨⟨k + 1, by go_num, by omega, HNO2.out, _, rfl⟩, by simp [intOf]; omega⟩
    · have HOUT : Hid (decide (x ∈ A) = false) := by
        show _ = _
        rw [decide_eq_false_iff_not]
        intro hx
        obtain ⟨i, hi, e⟩ := List.getElem_of_mem hx
        have hn' := HN.out
        exact HNO.out i (by omega) (by rw [lbsG_get A i hi]; exact e)
      go_wp2_with fail
      go_ret
      exact ⟨by rw [HOUT.out]; rfl, below_drewN HBX.out _⟩

end Go.Proofs.YthciddpljcbhiabGreatDoor

/- Walks: the document's series of all samples (garnerref). -/
namespace Go.Proofs.YthciddpljcbhiabGreatDoor
open Go Go.RowKit Go.Lib Go.Deep

theorem Tryz.info42' : (Tryz.prog.info? 42).map (fun i => (i.zero, i.size, i.bytes)) = some (some (.agg #[.int .u8 0, .int .u8 0, .int .u8 0]), 3, 3) := by kernel_rfl
theorem Tryz.info144' : (Tryz.prog.info? 144).map (fun i => (i.zero, i.size, i.bytes)) = some (some (.slice none 0 0), 1, 24) := by kernel_rfl
theorem made_reps (z : Value) (n : Nat) : madeCells #[z] n = (List.replicate n z).toArray := by
  apply Array.ext
  · simp [size_madeCells]
  · intro i h1 h2
    simp [madeCells, Nat.mod_one]
theorem make140 (n : Nat) (h : n ≤ 1000) (w : World) : (Instr.makeSlice 140 (.int .i64 (n : Int)) (.int .i64 (n : Int))).run Tryz.prog w =
    .ok (.slice (some ⟨w.heap.size, 0, none⟩) n n) (w.alloc (.cells (List.replicate n (.slice none 0 0)).toArray 144)) := by
  rw [run_make_row' (P := Tryz.prog) 140 144 (.slice none 0 0) 24 Tryz.underlying140 Tryz.info144' rfl .i64 .i64 n (by omega) (by omega) w, made_reps]

/-- The listed variable reads as listed. -/
def OvAt (w : World) : Prop := w.cell? ⟨0, 0, none⟩ = some (.int .u8 42) ∧ w.cell? ⟨0, 1, none⟩ = some (.int .u8 42) ∧ w.cell? ⟨0, 2, none⟩ = some (.int .u8 42)
theorem OvAt.pos {w : World} (h : OvAt w) : 0 < w.heap.size := World.block_lt_of_cell? w _ h.1
theorem OvAt.below {w w' : World} {B : Nat} (h : OvAt w) (hb : Below B w w') (hB : 0 < B) : OvAt w' := ⟨(hb.cell (p := ⟨0, 0, none⟩) hB).trans h.1, (hb.cell (p := ⟨0, 1, none⟩) hB).trans h.2.1, (hb.cell (p := ⟨0, 2, none⟩) hB).trans h.2.2⟩

/-- A sample on its way: what is admitted, the labels' box, the row so far. -/
structure LvIn (w : World) (base : Nat) (ow : Nat → Nat) (G : Nat) (vs : List Value) (A : List (List Lb)) (ov : Value) (rs : List Value) (S : List (List Lb)) (n NB : Nat) (nw : Lb) (rv : Value) (pre : List Lb) : Prop where
  sr : SrS w base ow G vs A ov rs S n
  nb : w.heap[NB]? = some (.cells #[.int .u8 nw.a, .int .u8 nw.b, .int .u8 nw.c] 42 (0, 0))
  oN : ow NB = 5
  rw' : w.ownsRow 0 42 3 rv pre.length (flatL pre)
  oR : ∀ k, rv.ownBlock = some k → ow k = 4
section
variable {w w' : World} {base : Nat} {ow : Nat → Nat} {G : Nat} {vs : List Value} {A : List (List Lb)} {ov : Value} {rs : List Value} {S : List (List Lb)} {n NB : Nat} {nw : Lb} {rv : Value} {pre : List Lb}
theorem LvIn.Nlt (h : LvIn w base ow G vs A ov rs S n NB nw rv pre) : NB < w.heap.size := (Array.getElem?_eq_some_iff.1 h.nb).1
theorem LvIn.below (h : LvIn w base ow G vs A ov rs S n NB nw rv pre) (hb : Below w.heap.size w w') : LvIn w' base ow G vs A ov rs S n NB nw rv pre where
  sr := h.sr.below hb
  nb := by rw [hb.block NB h.Nlt]; exact h.nb
  oN := h.oN
  rw' := owns_fr h.rw' (Fr.of_below (S := fun _ => False) hb) (fun _ _ e => e)
  oR := h.oR
/-- The labels' box is written. -/
theorem LvIn.set (h : LvIn w base ow G vs A ov rs S n NB nw rv pre) (m : Lb) : LvIn (((w.setCell ⟨NB, 0, none⟩ (.int .u8 m.a)).setCell ⟨NB, 1, none⟩ (.int .u8 m.b)).setCell ⟨NB, 2, none⟩ (.int .u8 m.c)) base ow G vs A ov rs S n NB m rv pre ∧
    Fr (fun k => ow k = 5) w (((w.setCell ⟨NB, 0, none⟩ (.int .u8 m.a)).setCell ⟨NB, 1, none⟩ (.int .u8 m.b)).setCell ⟨NB, 2, none⟩ (.int .u8 m.c)) := by
  have hf : Fr (fun k => ow k = 5) w (((w.setCell ⟨NB, 0, none⟩ (.int .u8 m.a)).setCell ⟨NB, 1, none⟩ (.int .u8 m.b)).setCell ⟨NB, 2, none⟩ (.int .u8 m.c)) := (((Fr.refl _ _).setCell (.inl h.oN) _).setCell (.inl h.oN) _).setCell (.inl h.oN) _
  have hz : (((w.setCell ⟨NB, 0, none⟩ (.int .u8 m.a)).setCell ⟨NB, 1, none⟩ (.int .u8 m.b)).setCell ⟨NB, 2, none⟩ (.int .u8 m.c)).heap.size = w.heap.size := by simp [World.setCell]
  refine ⟨?_, hf⟩
  exact {
    sr := h.sr.keepTo hf (fun k e => .inr (.inr e)) (fun k hk => h.sr.out k (by omega)) h.sr.low (fun _ _ _ _ => rfl)
    nb := by
      have e0 := heap_setCell (o := 0) (v := .int .u8 m.a) h.nb
      have e1 := heap_setCell (o := 1) (v := .int .u8 m.b) e0
      have e2 := heap_setCell (o := 2) (v := .int .u8 m.c) e1
      rw [e2]
      rfl
    oN := h.oN
    rw' := owns_fr h.rw' hf (fun k e e' => by have := h.oR k e; omega)
    oR := h.oR }
/-- One more is admitted. -/
theorem LvIn.more (h : LvIn w base ow G vs A ov rs S n NB nw rv pre) {W w3 : World} {j : Nat} (hj : j < n) {v' : Value} {m : Lb} (hb : Below w.heap.size w W) (hg : W.grownBy w3 (vG vs j).ownBlock) (ho : w3.ownsRow 0 42 3 v' ((aG A j).length + 1) (flatL (aG A j) ++ lbC m))
    (hk : v'.ownBlock = (vG vs j).ownBlock ∨ ∀ k, v'.ownBlock = some k → W.heap.size ≤ k) :
    LvIn (w3.setCell ⟨G, j, none⟩ v') base (upd ow W w3 (10 + j)) G (vs.set j v') (A.set j (aG A j ++ [m])) ov rs S n NB nw rv pre ∧ Fr (fun k => ow k = 1 ∨ ow k = 10 + j) w (w3.setCell ⟨G, j, none⟩ v') := by
  obtain ⟨h1, hf⟩ := h.sr.more hj hb hg ho hk
  have hWs := hb.size
  have hout : ∀ k, W.heap.size ≤ k → ow k = 0 := fun k hk => h.sr.out k (by omega)
  refine ⟨?_, hf⟩
  exact {
    sr := h1
    nb := by rw [hf.block NB h.Nlt (by rw [h.oN]; omega)]; exact h.nb
    oN := upd_old _ _ hout (by omega) h.oN
    rw' := owns_fr h.rw' hf (fun k e e' => by have := h.oR k e; omega)
    oR := fun k e => upd_old _ _ hout (by omega) (h.oR k e) }
/-- The row grows by what came of the labels. -/
theorem LvIn.app (h : LvIn w base ow G vs A ov rs S n NB nw rv pre) {W w3 : World} {rv' : Value} (hb : Below w.heap.size w W) (hg : W.grownBy w3 rv.ownBlock) (ho : w3.ownsRow 0 42 3 rv' (pre.length + 1) (flatL pre ++ lbC nw))
    (hk : rv'.ownBlock = rv.ownBlock ∨ ∀ k, rv'.ownBlock = some k → W.heap.size ≤ k) :
    LvIn w3 base (upd ow W w3 4) G vs A ov rs S n NB nw rv' (pre ++ [nw]) ∧ Fr (fun k => ow k = 4) w w3 := by
  have hWs := hb.size
  have h3s := hg.size
  have hout : ∀ k, W.heap.size ≤ k → ow k = 0 := fun k hk => h.sr.out k (by omega)
  have hf : Fr (fun k => ow k = 4) w w3 := (Fr.of_below hb).grown hg (fun k e => .inl (h.oR k e))
  refine ⟨?_, hf⟩
  exact {
    sr := h.sr.keepTo hf (fun k e => .inr (.inl e)) (fun k hk => upd_out hout h3s k hk) (upd_low (by have := h.sr.bas; omega) h.sr.low) (fun k h0 _ _ => upd_old _ _ hout h0 rfl)
    nb := by rw [hf.block NB h.Nlt (by rw [h.oN]; omega)]; exact h.nb
    oN := upd_old _ _ hout (by omega) h.oN
    rw' := by rw [List.length_append, flatL_snoc]; exact ho
    oR := fun k e => by
      rcases hk with hk | hk
      · rw [hk] at e; exact upd_old _ _ hout (by omega) (h.oR k e)
      · have h1 := hk k e
        have h2 := (ho.lt k e).2
        unfold upd
        rw [if_pos ⟨h1, h2⟩] }
theorem LvIn.bel (h : LvIn w base ow G vs A ov rs S n NB nw rv pre) {T : Nat → Prop} (hf : Fr T w w') (hT : ∀ k, T k → ow k ≠ 0) : Below base w w' :=
  hf.below h.sr.bas (fun k e => by
    by_cases hk : k < base
    · exact absurd (h.sr.low k hk) (hT k e)
    · omega)
theorem LvIn.setB (h : LvIn w base ow G vs A ov rs S n NB nw rv pre) (m : Lb) (o1 o2 : Obj) : LvIn (((((w.setCell ⟨NB, 0, none⟩ (.int .u8 m.a)).setCell ⟨NB, 1, none⟩ (.int .u8 m.b)).setCell ⟨NB, 2, none⟩ (.int .u8 m.c)).alloc o1).alloc o2).drew base ow G vs A ov rs S n NB m rv pre ∧
    Below base w (((((w.setCell ⟨NB, 0, none⟩ (.int .u8 m.a)).setCell ⟨NB, 1, none⟩ (.int .u8 m.b)).setCell ⟨NB, 2, none⟩ (.int .u8 m.c)).alloc o1).alloc o2).drew := by
  obtain ⟨h1, h2⟩ := h.set m
  have hb := h.bel h2 (fun k e => by have e' : ow k = 5 := e; omega)
  have h3 : Below (((w.setCell ⟨NB, 0, none⟩ (.int .u8 m.a)).setCell ⟨NB, 1, none⟩ (.int .u8 m.b)).setCell ⟨NB, 2, none⟩ (.int .u8 m.c)).heap.size (((w.setCell ⟨NB, 0, none⟩ (.int .u8 m.a)).setCell ⟨NB, 1, none⟩ (.int .u8 m.b)).setCell ⟨NB, 2, none⟩ (.int .u8 m.c)) (((((w.setCell ⟨NB, 0, none⟩ (.int .u8 m.a)).setCell ⟨NB, 1, none⟩ (.int .u8 m.b)).setCell ⟨NB, 2, none⟩ (.int .u8 m.c)).alloc o1).alloc o2).drew := (((Below.refl _ _).alloc (Nat.le_refl _) _).alloc (by simp) _).drew
  exact ⟨h1.below h3, hb.trans (h3.mono h1.sr.bas)⟩
end

end Go.Proofs.YthciddpljcbhiabGreatDoor

/- Walks: a script played, where the listed variable is read (plays). -/
namespace Go.Proofs.YthciddpljcbhiabGreatDoor
open Go Go.RowKit Go.Lib

/-- What a step does to all there is, where the listed variable reads as listed. -/
def StepOkO (base W D : Nat) (o : Opr) : Prop :=
  ∀ (own : Nat → Nat) (bv : Value) (bs : List Bk) (N : Nat) (la : Option Addr) (ln lc : Nat) (ba : Option Addr) (bn bc : Nat) (w : World), WdAt w own base W D bv bs N → AllOk bs → bs.length ≤ 900000000000 → N ≤ 900000000000 → OpIn w o la ln ba bn →
    (∀ b off, 0 < bn → ba = some ⟨b, off, none⟩ → b < base) → (∀ b off, 0 < ln → la = some ⟨b, off, none⟩ → b < base) → OvAt w →
    Calls Tryz.prog 7 #[.pointer (some ⟨W, 0, none⟩), opV o la ln lc ba bn bc] w fun e w' => e = .returned (.bool true) ∧ Went w w' base W D (N + 1) (bs.length + 1)
theorem stepOkO_of {base W D : Nat} {o : Opr} (hwf : OpWf o) (k8 : o.kind ≠ 8) (k10 : o.kind ≠ 10) (k11 : o.kind ≠ 11) (k9 : o.kind ≠ 9)
    (hask : o.kind ≠ 1 → o.kind ≠ 2 → o.kind ≠ 3 → ∀ (own : Nat → Nat) (bv : Value) (bs : List Bk) (N : Nat) (i : Nat) (la : Option Addr) (ln lc : Nat) (ba : Option Addr) (bn bc : Nat) (w : World), WdAt w own base W D bv bs N → AllOk bs → i < bs.length → N ≤ 900000000000 → OvAt w →
      Calls Tryz.prog 22 #[.pointer (some ⟨W, 0, none⟩), bkV (bkG bs i), opV o la ln lc ba bn bc] w fun e w' => e = .returned (.bool true) ∧ Went w w' base W D (N + 1) bs.length) : StepOkO base W D o := by
  intro own bv bs N la ln lc ba bn bc w h hok hbs hN hin hlow _ hov
  by_cases k1 : o.kind = 1
  · exact step_new own base W D bv bs N o la ln lc ba bn bc w h hok (by omega) hin hwf k1
  · refine (step_on own base W D bv bs N o la ln lc ba bn bc w h hok (by omega) hin hwf hlow k1 k8 k10 k11 k9 (fun k2 k3 V hV hb hi => hask k1 k2 k3 own bv bs N _ la ln lc ba bn bc V hV hok hi hN (hov.below hb hov.pos))).mono ?_
    rintro e w' ⟨rfl, ⟨own', bv', bs', h1, h2, h3⟩, h4⟩
    exact ⟨rfl, ⟨own', bv', bs', h1, h2, by omega⟩, h4⟩

set_option maxHeartbeats 2000000 in
set_option maxRecDepth 100000 in
theorem plays_ov (a : Option Addr) (n cap : Nat) (l : List Opr) (lo hi : Int) (w : World) (h : IsOps w a n l) (hn : n ≤ 837723145000) (hov : OvAt w) (hstep : ∀ o ∈ l, skipB lo hi o.kind = false → StepOkO w.heap.size (w.heap.size + 1) w.heap.size o) :
    Calls Tryz.prog 5 #[.slice a n cap, .int .i64 lo, .int .i64 hi] w fun e w' => e = .returned (.bool true) ∧ Below w.heap.size w w' := by
  have H : Hid (IsOps w a n l) := h
  have HOV : Hid (OvAt w) := hov
  have hpos := hov.pos
  have HST : Hid (∀ o ∈ l, skipB lo hi o.kind = false → StepOkO w.heap.size (w.heap.size + 1) w.heap.size o) := hstep
  have HNL : Hid (l.length = n) := h.1
  have HW0 : Hid (WdAt ((w.alloc (.cells #[.int .i64 0, .slice none 0 0, .slice none 0 0, .slice none 0 0, .slice none 0 0] 31)).alloc (.cells #[.slice none 0 0, .pointer (some ⟨w.heap.size, 0, none⟩)] 34)) (fun k => if k = w.heap.size then 3 else if k = w.heap.size + 1 then 1 else 0) w.heap.size (w.heap.size + 1) w.heap.size (.slice none 0 0) [] 0) := WdAt.new w
  clear h hstep hov
  go_enter Tryz.func5, Tryz.ntmps5
  go_upto_region 2 with fail
  have hb0 : Below w.heap.size w ((w.alloc (.cells #[.int .i64 0, .slice none 0 0, .slice none 0 0, .slice none 0 0, .slice none 0 0] 31)).alloc (.cells #[.slice none 0 0, .pointer (some ⟨w.heap.size, 0, none⟩)] 34)) := ((Below.refl _ _).alloc (Nat.le_refl _) _).alloc (by simp) _
  have HB0 : Hid (Below w.heap.size w ((w.alloc (.cells #[.int .i64 0, .slice none 0 0, .slice none 0 0, .slice none 0 0, .slice none 0 0] 31)).alloc (.cells #[.slice none 0 0, .pointer (some ⟨w.heap.size, 0, none⟩)] 34))) := hb0
  clear hb0
  generalize (w.alloc (.cells #[.int .i64 0, .slice none 0 0, .slice none 0 0, .slice none 0 0, .slice none 0 0] 31)).alloc (.cells #[.slice none 0 0, .pointer (some ⟨w.heap.size, 0, none⟩)] 34) = w0 at *
  have hbl : Below w0.heap.size w0 (w0.alloc (.cells (flat [kkkL]).toArray 37)) := (Below.refl _ _).alloc (Nat.le_refl _) _
  have HOP := opened_yes _ w.heap.size (w.heap.size + 1) w.heap.size (.slice none 0 0) [] 0 (some ⟨w0.heap.size, 0, none⟩) 1 1 [kkkL] 1 0 ⟨#[]⟩ 0 (St.new ⟨1, 0, [kkkL]⟩) ⟨#[]⟩ [] (w0.alloc (.cells (flat [kkkL]).toArray 37)) (HW0.out.below hbl) ⟨rfl, fun _ => ⟨w0.heap.size, 0, rfl, lvAt_of (at_alloc_new _ _ _)⟩⟩ kkk_right (by simp)
    (fun V b hat => open_empty ⟨1, 0, [kkkL]⟩ b 0 1 (1 + 1) V kkk_right rfl hat kkk_wf) (fun V hV => open_ref_new _ 1 1 [kkkL] 1 0 V hV kkk_wf kkk_right)
  have HBL : Hid (Below w.heap.size w (w0.alloc (.cells (flat [kkkL]).toArray 37))) := HB0.out.trans (hbl.mono HB0.out.size)
  clear hbl
  go_wp2_with fail
  refine HOP.mono ?_
  clear HOP
  rintro e w2 ⟨rfl, ⟨own2, bv2, X, R, h2⟩, hb2⟩
  obtain ⟨g, bcap, rfl, _, _, _⟩ := ownBlockForm h2.row (by simp)
  have HW2 : Hid (WdAt w2 own2 w.heap.size (w.heap.size + 1) w.heap.size (.slice (some ⟨g, 0, none⟩) 1 bcap) ([] ++ [⟨X, R, ⟨1, 0, [kkkL]⟩, [], St.new ⟨1, 0, [kkkL]⟩, ⟨#[]⟩⟩]) 0) := h2
  have HB2 : Hid (Below w.heap.size w w2) := HBL.out.trans hb2
  have c0 : w2.cell? ⟨w.heap.size + 1, 0, none⟩ = some (.slice (some ⟨g, 0, none⟩) 1 bcap) := cell_blk HW2.out.wb rfl
  have z0 : w2.frozen? ⟨w.heap.size + 1, 0, none⟩ = false := froz_blk HW2.out.wb
  clear h2 hb2 HBL HB0 HW0
  go_wp2_with fail
  have HP3 : Hid (playOk w (w2.setCell ⟨w.heap.size + 1, 0, none⟩ (.slice none 0 0)) 0) := by
    obtain ⟨h3, h4⟩ := HW2.out.drop
    exact ⟨⟨_, _, _, h3, fun i hi => by simp at hi, Nat.le_refl _⟩, HB2.out.trans h4⟩
  generalize w2.setCell ⟨w.heap.size + 1, 0, none⟩ (.slice none 0 0) = w3 at *
  clear c0 z0 HW2 HB2
  go_loopw [8, 9] (fun ok i wr => ok = .bool true ∧ ∃ k : Nat, i = .int .i64 k ∧ k ≤ n ∧ playOk w wr k) (fun _ i _ => n - (intOf i).toNat)
  case atStart => exact ⟨rfl, 0, rfl, Nat.zero_le _, HP3.out⟩
  case round =>
    obtain ⟨rfl, k, rfl, hk, ⟨own, bv, bs, hwd, hok, hle⟩, hbel⟩ := hrel
    have HWD : Hid (WdAt wr own w.heap.size (w.heap.size + 1) w.heap.size bv bs k) := hwd
    have HOK : Hid (AllOk bs) := hok
    have HLE : Hid (bs.length ≤ k) := hle
    have HBE : Hid (Below w.heap.size w wr) := hbel
    clear hwd hok hle hbel
    by_cases hlt : k < n
    · obtain ⟨b, off, rfl, hbw, hall⟩ := H.out.2.2 (by omega)
      obtain ⟨la, ln, lc, ba, bn, bc, hat0, hin0⟩ := hall k hlt
      have hmem : opG l k ∈ l := by rw [opG_get l k (by rw [HNL.out]; exact hlt)]; exact List.getElem_mem _
      have HAT : Hid (At wr b (off + k * 16) (opC (opG l k) la ln lc ba bn bc)) := hat0.below HBE.out hbw
      have HIN : Hid (OpIn wr (opG l k) la ln ba bn) := ⟨hin0.lv.from HBE.out, hin0.ln, hin0.sm.below HBE.out, hin0.bn⟩
      have HLO : Hid ((∀ b off, 0 < bn → ba = some ⟨b, off, none⟩ → b < w.heap.size) ∧ (∀ b off, 0 < ln → la = some ⟨b, off, none⟩ → b < w.heap.size)) := by
        refine ⟨fun b off h0 e => ?_, fun b off h0 e => ?_⟩
        · obtain ⟨b', off', e', hat⟩ := hin0.sm.2 h0
          rw [e] at e'
          injection e' with e'
          injection e' with e' _
          rw [e']
          exact hat.block (by rw [hin0.sm.1]; exact h0)
        · obtain ⟨b', off', e', hat⟩ := hin0.lv.2 h0
          rw [e] at e'
          injection e' with e'
          injection e' with e' _
          rw [e']
          exact hat.block (by rw [hin0.lv.1]; exact h0)
      have HS : Hid (skipB lo hi (opG l k).kind = false → StepOkO w.heap.size (w.heap.size + 1) w.heap.size (opG l k)) := HST.out _ hmem
      clear hat0 hin0 hall hmem
      generalize opG l k = o at *
      have p0 : wr.cell? ⟨b, off + k * 16, none⟩ = some (.int .i64 o.kind) := HAT.out 0 _ rfl
      cases hsk : skipB lo hi o.kind with
      | true =>
        have hsk' : 3 < o.kind ∧ (o.kind < lo ∨ lo ≤ o.kind ∧ hi < o.kind) := by
          simp only [skipB, Bool.and_eq_true, Bool.or_eq_true, decide_eq_true_eq] at hsk
          omega
        obtain ⟨s1, s2⟩ := hsk'
        have HP : Hid (playOk w wr (k + 1)) := ⟨⟨own, bv, bs, HWD.out.more (Nat.le_succ _), HOK.out, Nat.le_succ_of_le HLE.out⟩, HBE.out⟩
        clear hsk
        rcases s2 with s2 | ⟨s2, s3⟩
        · go_wp2_with fail
          exact ⟨⟨rfl, k + 1, by go_num, by omega, HP.out⟩, by simp [intOf]; omega⟩
        · go_wp2_with fail
          exact ⟨⟨rfl, k + 1, by go_num, by omega, HP.out⟩, by simp [intOf]; omega⟩
      | false =>
        have HCALL := HS.out hsk own bv bs k la ln lc ba bn bc wr HWD.out HOK.out (by have := HLE.out; omega) (by omega) HIN.out HLO.out.1 HLO.out.2 (HOV.out.below HBE.out hpos)
        have hsk' : o.kind ≤ 3 ∨ (3 < o.kind ∧ lo ≤ o.kind ∧ o.kind ≤ hi) := by
          simp only [skipB, Bool.and_eq_false_iff, Bool.or_eq_false_iff, decide_eq_false_iff_not] at hsk
          omega
        have HC : Hid (Calls Tryz.prog 7 #[.pointer (some ⟨w.heap.size + 1, 0, none⟩), opV o la ln lc ba bn bc] wr fun e w' => e = .returned (.bool true) ∧ Went wr w' w.heap.size (w.heap.size + 1) w.heap.size (k + 1) (bs.length + 1)) := HCALL
        have p1 : wr.cell? ⟨b, off + k * 16 + 1, none⟩ = some (.int .i64 o.on) := HAT.out 1 _ rfl
        have p2 : wr.cell? ⟨b, off + k * 16 + 2, none⟩ = some (.int .i64 o.a) := HAT.out 2 _ rfl
        have p3 : wr.cell? ⟨b, off + k * 16 + 3, none⟩ = some (.string o.s) := HAT.out 3 _ rfl
        have p4 : wr.cell? ⟨b, off + k * 16 + 4, none⟩ = some (.int .u8 o.l0) := HAT.out 4 _ rfl
        have p5 : wr.cell? ⟨b, off + k * 16 + 5, none⟩ = some (.int .u8 o.l1) := HAT.out 5 _ rfl
        have p6 : wr.cell? ⟨b, off + k * 16 + 6, none⟩ = some (.int .u8 o.l2) := HAT.out 6 _ rfl
        have p7 : wr.cell? ⟨b, off + k * 16 + 7, none⟩ = some (.int .i64 o.span) := HAT.out 7 _ rfl
        have p8 : wr.cell? ⟨b, off + k * 16 + 8, none⟩ = some (.int .i64 o.keep) := HAT.out 8 _ rfl
        have p9 : wr.cell? ⟨b, off + k * 16 + 9, none⟩ = some (.slice la ln lc) := HAT.out 9 _ rfl
        have p10 : wr.cell? ⟨b, off + k * 16 + 10, none⟩ = some (.slice ba bn bc) := HAT.out 10 _ rfl
        have p11 : wr.cell? ⟨b, off + k * 16 + 11, none⟩ = some (.int .i64 o.q.fr) := HAT.out 11 _ rfl
        have p12 : wr.cell? ⟨b, off + k * 16 + 12, none⟩ = some (.int .i64 o.q.to) := HAT.out 12 _ rfl
        have p13 : wr.cell? ⟨b, off + k * 16 + 13, none⟩ = some (.int .i64 o.q.step) := HAT.out 13 _ rfl
        have p14 : wr.cell? ⟨b, off + k * 16 + 14, none⟩ = some (.string o.q.mt) := HAT.out 14 _ rfl
        have p15 : wr.cell? ⟨b, off + k * 16 + 15, none⟩ = some (.string o.q.gb) := HAT.out 15 _ rfl
        clear HCALL hsk HS HIN HLO HAT
        rcases hsk' with s1 | ⟨s1, s2, s3⟩
        all_goals
          go_wp2_with fail
          refine HC.out.mono ?_
          rintro e w4 ⟨rfl, ⟨own4, bv4, bs4, h4, h5, h6⟩, h7⟩
          have HW4 : Hid (WdAt w4 own4 w.heap.size (w.heap.size + 1) w.heap.size bv4 bs4 (k + 1)) := h4
          have HO4 : Hid (AllOk bs4) := h5
          have HL4 : Hid (bs4.length ≤ bs.length + 1) := h6
          have HB4 : Hid (Below w.heap.size w w4) := HBE.out.trans h7
          have d1 : w4.cell? ⟨w.heap.size + 1, 1, none⟩ = some (.pointer (some ⟨w.heap.size, 0, none⟩)) := cell_blk HW4.out.wb rfl
          obtain ⟨ow, dn, ss, rs, sv, rv, nv, mv, t1, t2, t3, t4, t5, t6⟩ := h4.dr
          have HLK := looks_any w.heap.size ow dn ss rs sv rv nv mv w4 t6 (by omega) (by omega)
          clear h4 h5 h6 h7 t1 t2 t3 t4 t5 t6 p0 p1 p2 p3 p4 p5 p6 p7 p8 p9 p10 p11 p12 p13 p14 p15
          go_wp2_with fail
          refine HLK.mono ?_
          clear HLK
          rintro e w5 ⟨rfl, hb5⟩
          have HP : Hid (playOk w w5 (k + 1)) := ⟨⟨own4, bv4, bs4, HW4.out.below hb5, HO4.out, by have h8 := HL4.out; have h9 := HLE.out; omega⟩, HB4.out.trans (hb5.mono HB4.out.size)⟩
          clear hb5 d1
          go_wp2_with fail
          exact ⟨⟨rfl, k + 1, by go_num, by omega, HP.out⟩, by simp [intOf]; omega⟩
    · go_wp2_with fail
      go_ret
      exact ⟨rfl, HBE.out⟩

end Go.Proofs.YthciddpljcbhiabGreatDoor

/- Walks: the document's log (garnerref.Log), and the record of a Tick. -/
namespace Go.Proofs.YthciddpljcbhiabGreatDoor
open Go Go.RowKit Go.Lib

theorem low2_eq (n : Int) (h0 : 0 ≤ n) (h1 : n ≤ 65535) : lowN n 2 = [n % 256, n / 256] := by
  show [n % 256, n / 256 % 256] = _
  have : n / 256 % 256 = n / 256 := Int.emod_eq_of_lt (by omega) (by omega)
  rw [this]
theorem tickH_byte' {n : Int} (h0 : 0 ≤ n) (h1 : n ≤ 65535) : ∀ x ∈ tickH n, isByte x := by
  intro x hx
  unfold tickH at hx
  simp only [List.mem_cons, List.not_mem_nil, or_false] at hx
  unfold isByte
  rcases hx with rfl | rfl | rfl <;> omega
theorem ticked_str (n : Int) (h0 : 0 ≤ n) (h1 : n ≤ 65535) : (⟨#[84]⟩ : ByteArray) ++ strOfNums (lowN n 2) = strOfNums (tickH n) := by
  rw [show (⟨#[84]⟩ : ByteArray) = strOfNums [84] from rfl, str_add, low2_eq n h0 h1]
  rfl
theorem ticked_fin (n : Int) (h0 : 0 ≤ n) (h1 : n ≤ 65535) : strOfNums (tickH n) ++ strOfNums (lowN (chk (nums (strOfNums (tickH n)))) 4) = strOfNums (tickB n) := by
  rw [nums_str _ (tickH_byte' h0 h1), str_add]
  rfl

set_option maxHeartbeats 400000 in
theorem ticked_any (n : Int) (w : World) (h0 : 0 ≤ n) (h1 : n ≤ 65535) : Calls Tryz.prog 43 #[.int .i64 n] w fun e w' => e = .returned (.string (strOfNums (tickB n))) ∧ Below w.heap.size w w' := by
  have hs0 : (⟨#[84]⟩ : ByteArray).size + (strOfNums (lowN n 2)).size ≤ 9223372036854775807 := by rw [strOfNums_size, lowN_len]; decide
  have HH : Hid ((⟨#[84]⟩ : ByteArray) ++ strOfNums (lowN n 2) = strOfNums (tickH n)) := ticked_str n h0 h1
  have HF : Hid (strOfNums (tickH n) ++ strOfNums (lowN (chk (nums (strOfNums (tickH n)))) 4) = strOfNums (tickB n)) := ticked_fin n h0 h1
  have HZ : Hid ((strOfNums (tickH n)).size ≤ 1000000) := by
    show _ ≤ _
    rw [strOfNums_size]
    show 3 ≤ 1000000
    decide
  go_enter Tryz.func43, Tryz.ntmps43
  go_wp2_with fail
  refine (low_any n 2 _ h0 (by omega) (by omega) (by omega)).mono ?_
  rintro e w1 ⟨rfl, hb1⟩
  have HB1 : Hid (Below w.heap.size w w1) := hb1
  clear hb1
  go_wp2_with fail
  rw [HH.out]
  refine (checked_any _ w1 HZ.out).mono ?_
  rintro e w2 ⟨rfl, hb2⟩
  have HB2 : Hid (Below w.heap.size w w2) := HB1.out.trans (hb2.mono HB1.out.size)
  clear hb2
  rw [HF.out]
  go_wp2_with fail
  go_ret
  exact ⟨rfl, HB2.out⟩

/-! The log. -/
theorem acc_mem : ∀ {cs : List Chg} {s : St}, Acc s cs → ∀ c ∈ cs, ∃ s', c.ok s'
  | [], _, _, c, hc => by simp at hc
  | d :: cs, s, h, c, hc => by
    rcases List.mem_cons.1 hc with rfl | hc
    · exact ⟨s, h.1⟩
    · exact acc_mem h.2 c hc
theorem chg_small {s : St} {c : Chg} (h : c.ok s) : c.nums.length ≤ 100 := by
  cases c with
  | w b =>
    have hb := (batE_zero b).1 (batE_of h.1)
    show (recB b).length ≤ 100
    rw [recB_len]
    omega
  | t n => show (tickB n).length ≤ 100; rw [tickB_len]; omega
theorem logN_small : ∀ {cs : List Chg} {s : St}, Acc s cs → (logN cs).length ≤ 100 * cs.length
  | [], _, _ => by simp [logN]
  | c :: cs, s, h => by
    have h1 := chg_small h.1
    have h2 := logN_small h.2
    rw [logN_cons, List.length_append, List.length_cons]
    omega
theorem logC_eq (cs : List Chg) : logC cs = strOfNums (logN cs) := by
  have : ∀ (cs : List Chg) (a : List Int), cs.foldl (fun x c => x ++ Chg.bytes c) (strOfNums a) = strOfNums (a ++ logN cs) := by
    intro cs
    induction cs with
    | nil => intro a; simp [logN]
    | cons c cs ih =>
      intro a
      rw [List.foldl_cons, logN_cons, ← List.append_assoc, ← ih]
      congr 1
      cases c with
      | w b => exact str_add a (recB b)
      | t n => exact str_add a (tickB n)
  exact this cs []
theorem logN_take (ps : List Cp) (k : Nat) (h : k < ps.length) : logN ((ps.map (·.1)).take (k + 1)) = logN ((ps.map (·.1)).take k) ++ (cpG ps k).1.nums := by
  rw [List.take_succ_eq_append_getElem (by simpa using h), logN_append, cpG_get ps k h]
  simp [logN]

set_option maxHeartbeats 1000000 in
set_option maxRecDepth 100000 in
theorem log_ref (R : Nat) (F : Nat → Prop) (c : Cf) (ps : List Cp) (L lcap : Nat) (cv : Value) (w : World) (h : RfS w R F c ps L lcap cv) (hacc : Acc (St.new c) (ps.map (·.1))) :
    Calls Tryz.prog 21 #[.pointer (some ⟨R, 0, none⟩)] w fun e w' => e = .returned (.string (strOfNums (logN (ps.map (·.1))))) ∧ Below w.heap.size w w' := by
  obtain ⟨a, cap, rfl⟩ := ownForm h.chg
  have HRF : Hid (RfS w R F c ps L lcap (.slice a ps.length cap)) := h
  have hfew : ps.length ≤ 100500 := chg_few h
  have HOKS : Hid (∀ k, k < ps.length → ∃ s', (cpG ps k).1.ok s') := fun k hk => acc_mem hacc _ (by rw [cpG_get ps k hk]; exact List.mem_map.2 ⟨_, List.getElem_mem _, rfl⟩)
  have HTS : Hid (∀ k, k < ps.length → 0 ≤ (cpG ps k).1.tick ∧ 1 ≤ (cpG ps k).1.tick + (cpG ps k).1.smp.length) := fun k hk => h.tks _ (by rw [cpG_get ps k hk]; exact List.mem_map.2 ⟨_, List.getElem_mem _, rfl⟩)
  have HSZ : Hid (∀ k, (logN ((ps.map (·.1)).take k)).length ≤ 20000000) := fun k => by
    have h1 : Acc (St.new c) ((ps.map (·.1)).take k ++ (ps.map (·.1)).drop k) := by rw [List.take_append_drop]; exact hacc
    have h2 := logN_small ((acc_append _ _ _).1 h1).1
    have h3 : ((ps.map (·.1)).take k).length ≤ ps.length := by rw [List.length_take, List.length_map]; omega
    omega
  have HAL : Hid ((ps.map (·.1)).take ps.length = ps.map (·.1)) := List.take_of_length_le (by simp)
  have HNX : Hid (∀ k, k < ps.length → logN ((ps.map (·.1)).take (k + 1)) = logN ((ps.map (·.1)).take k) ++ (cpG ps k).1.nums) := logN_take ps
  clear h hacc
  generalize hcs : ps.map (·.1) = cs at *
  have HCS : Hid (ps.map (·.1) = cs) := hcs
  clear hcs
  go_enter Tryz.func21, Tryz.ntmps21
  go_wp2_with fail
  go_loopw [3, 4] (fun s i wr => ∃ k : Nat, i = .int .i64 k ∧ k ≤ ps.length ∧ s = .string (strOfNums (logN (cs.take k))) ∧ Below w.heap.size w wr) (fun _ i _ => ps.length - (intOf i).toNat)
  case atStart => exact ⟨0, rfl, Nat.zero_le _, rfl, Below.refl _ _⟩
  case round =>
    obtain ⟨k, rfl, hk, rfl, hbel⟩ := hrel
    have HBE : Hid (Below w.heap.size w wr) := hbel
    have HR2 : Hid (RfS wr R F c ps L lcap (.slice a ps.length cap)) := HRF.out.below hbel
    have c3 := HR2.out.cell 3 _ rfl
    clear hbel
    by_cases hlt : k < ps.length
    · obtain ⟨g, rfl, e0, e1⟩ := owns_cp HR2.out.chg k hlt
      obtain ⟨s', hcok⟩ := HOKS.out k hlt
      obtain ⟨t0, t1⟩ := HTS.out k hlt
      have hN1 := HNX.out k hlt
      obtain ⟨ba, bn, bc, hbv, hbn, hb0, hbat⟩ := HR2.out.bat k hlt
      have hz1 := HSZ.out k
      generalize hA : logN (cs.take k) = A at *
      generalize hB : logN (cs.take (k + 1)) = B at *
      rw [hbv] at e1
      cases hch : (cpG ps k).1 with
      | t n =>
        rw [hch] at e0 t0 t1 hN1 hcok
        obtain ⟨n1, n2, _⟩ := tkE_zero (show tkE s' n = 0 from hcok)
        have e0' : wr.cell? ⟨g, k * 2, none⟩ = some (.int .i64 n) := e0
        have HN1 : Hid (strOfNums A ++ strOfNums (tickB n) = strOfNums B) := by show _ = _; rw [str_add, hN1]; rfl
        have HHB : Hid (logN (cs.take (k + 1)) = B) := hB
        have hs0 : (strOfNums A).size + (strOfNums (tickB n)).size ≤ 9223372036854775807 := by rw [strOfNums_size, strOfNums_size, tickB_len]; omega
        have npos : 0 < n := by omega
        clear hA hB hN1 hch hcok t0 t1 e0 e1 hbv hbn hb0 hbat hz1
        go_wp2_with fail
        refine (ticked_any n wr (by omega) (by omega)).mono ?_
        rintro e w2 ⟨rfl, hb2⟩
        have HB2 : Hid (Below w.heap.size w w2) := HBE.out.trans (hb2.mono HBE.out.size)
        clear hb2 e0' c3
        go_wp2_with fail
        rw [HN1.out]
        exact ⟨⟨k + 1, by go_num, by omega, by rw [HHB.out], HB2.out⟩, by simp [intOf]; omega⟩
      | w b =>
        rw [hch] at e0 hN1 hcok hbn hbat
        obtain ⟨b1, b2, b3⟩ := (batE_zero b).1 (batE_of hcok.1)
        have hwf := all_wf hcok.2
        have e0' : wr.cell? ⟨g, k * 2, none⟩ = some (.int .i64 0) := e0
        have hbn' : b.length = bn := hbn
        obtain ⟨bb, rfl, _, _, _, _, hat⟩ := hbat (by omega)
        have HAT : Hid (SmAt wr bb 0 b) := hat
        have HN1 : Hid (strOfNums A ++ strOfNums (recB b) = strOfNums B) := by show _ = _; rw [str_add, hN1]; rfl
        have HHB : Hid (logN (cs.take (k + 1)) = B) := hB
        have hs0 : (strOfNums A).size + (strOfNums (recB b)).size ≤ 9223372036854775807 := by rw [strOfNums_size, strOfNums_size, recB_len]; omega
        have HWR := written_any bb 0 bn bc b wr hbn' (by omega) HAT.out hwf b3
        clear hA hB hN1 hch hcok t0 t1 e0 hbv hbn hb0 hbat hz1 hat hwf
        go_wp2_with fail
        refine HWR.mono ?_
        clear HWR
        rintro e w2 ⟨rfl, hb2⟩
        have HB2 : Hid (Below w.heap.size w w2) := HBE.out.trans (hb2.mono HBE.out.size)
        clear hb2 e0' e1 c3
        go_wp2_with fail
        rw [HN1.out]
        exact ⟨⟨k + 1, by go_num, by omega, by rw [HHB.out], HB2.out⟩, by simp [intOf]; omega⟩
    · have hkE : ps.length = k := by omega
      have HA2 : Hid (cs.take k = cs) := by show _ = _; rw [← hkE]; exact HAL.out
      rw [HA2.out]
      go_wp2_with fail
      go_ret
      exact ⟨rfl, HBE.out⟩
theorem lg_ref {R : Nat} {F : Nat → Prop} {c : Cf} {cs : List Chg} (w : World) (h : RfAt w R F c cs) (hacc : Acc (St.new c) cs) :
    Calls Tryz.prog 21 #[.pointer (some ⟨R, 0, none⟩)] w fun e w' => e = .returned (.string (logC cs)) ∧ Below w.heap.size w w' := by
  obtain ⟨ps, L, lcap, cv, rfl, h⟩ := h
  rw [logC_eq]
  exact log_ref R F c ps L lcap cv w h hacc

end Go.Proofs.YthciddpljcbhiabGreatDoor

/- Walks: the log; a log's records done again. -/
namespace Go.Proofs.YthciddpljcbhiabGreatDoor
open Go Go.RowKit Go.Lib

/-! Bytes as a string. -/
theorem strCells_nums (s : ByteArray) : strCells s = (nums s).map (Value.int .u8) := by unfold strCells nums; rw [List.map_map]; rfl
theorem nums_ba_inj {a b : ByteArray} (h : nums a = nums b) : a = b := by rw [← str_nums a, h, str_nums]
theorem conv_log {w : World} {B : Nat} {v : Value} {lg : ByteArray} (h : w.ownsRow B 5 1 v lg.size (strCells lg)) : (convert 85 9 v).run Tryz.prog w = .ok (.string lg) w := by
  by_cases h0 : 0 < lg.size
  · rw [strCells_nums] at h
    have := convOwn h h0
    rw [str_nums] at this
    exact this
  · have he : lg = ByteArray.empty := by
      apply nums_ba_inj
      have := nums_len lg
      have h1 : nums lg = [] := List.eq_nil_of_length_eq_zero (by omega)
      rw [h1]; rfl
    rcases h.2 with ⟨rfl, _⟩ | ⟨g, cap, cur, rfl, _⟩
    · rw [run_convert_bytes_nil (P := Tryz.prog) w 85 5 Tryz.underlying85 Tryz.underlying5 _ _ 9 Tryz.underlying9, he]
    · have := run_convert_bytes_arg (P := Tryz.prog) w 85 5 Tryz.underlying85 Tryz.underlying5 g 0 lg.size cap [] (by simp; omega) (fun i hi => by omega) 9 Tryz.underlying9
      rw [this, he]; rfl

set_option maxHeartbeats 400000 in
theorem log_any (X : Nat) (F : Nat → Prop) (s : St) (lg : ByteArray) (w : World) (h : StoreAt w X F s lg) : Calls Tryz.prog 52 #[.pointer (some ⟨X, 0, none⟩)] w fun e w' => e = .returned (.string lg) ∧ w' = w := by
  obtain ⟨L, lcap, pv, bv, bk, gv, h⟩ := h
  have c7 := h.cell 7 _ rfl
  have hcv := conv_log h.log
  clear h
  go_enter Tryz.func52, Tryz.ntmps52
  go_wp2_with fail
  go_ret
  exact ⟨rfl, rfl⟩

/-! The record of a Tick, read. -/
theorem wIn (n : Int) (h : -9223372036854775808 ≤ n ∧ n ≤ 9223372036854775807) : wrap64 n = n := by unfold wrap64; omega
theorem or8i {x y : Nat} (hx : x < 256) (hy : y < 256) : bits .or .i64 (wrap64 (x : Int)) (wrap64 (wrap64 (y : Int) * 256)) = (x : Int) + 256 * (y : Int) := by
  rw [wIn (x : Int) (by omega), wIn (y : Int) (by omega), wIn ((y : Int) * 256) (by omega)]
  have e : (y : Int) * 256 = ((2 ^ 8 * y : Nat) : Int) := by omega
  rw [e, (bits_nat .i64 16 (by decide) (fun n h0 h1 => by rw [IntKind.wrap_i64]; omega) x (2 ^ 8 * y) (by omega) (by omega)).2, Nat.or_comm, ← Nat.two_pow_add_eq_or_of_lt (show x < 2 ^ 8 by omega) y]
  omega
theorem tickR_eq {s : ByteArray} (h1 : 1 < s.size) (h2 : 2 < s.size) : bits .or .i64 (wrap64 ((s[1].toNat : Nat) : Int)) (wrap64 (wrap64 ((s[2].toNat : Nat) : Int) * 256)) = tickR s := by
  rw [or8i s[1].toNat_lt s[2].toNat_lt, byt_eq s 1 h1, byt_eq s 2 h2]
  rfl
theorem ret3_i {a b : Int} {v1 v2 : Value} (h : a = b) : Ending.returned (.tuple #[.int .i64 a, v1, v2]) = .returned (.tuple #[.int .i64 b, v1, v2]) := by rw [h]
/-- What ReadTick answers. -/
def TkPost (s : ByteArray) (w : World) (e : Ending) (w' : World) : Prop :=
  Below w.heap.size w w' ∧ ((tkOk s = true ∧ e = .returned (.tuple #[.int .i64 (tickR s), .int .i64 7, .int .i64 0])) ∨ (tkOk s = false ∧ e = .returned (.tuple #[.int .i64 0, .int .i64 0, .int .i64 13])))
theorem tkOk_no {s : ByteArray} (h : ¬ (7 ≤ s.size ∧ byt s 0 = 84 ∧ num4 s 3 = chk ((nums s).take 3))) : tkOk s = false := by
  cases hh : tkOk s
  · rfl
  · exact absurd ((tkOk_iff s).1 hh) h

set_option maxHeartbeats 1000000 in
set_option maxRecDepth 100000 in
theorem readTick_any (s : ByteArray) (w : World) (hs : s.size ≤ maxLen) : Calls Tryz.prog 109 #[.string s] w (TkPost s w) := by
  have HS : Hid (s.size ≤ maxLen) := hs
  unfold maxLen at hs
  by_cases h7 : 7 ≤ s.size
  · have B0 : ((s[0].toNat : Nat) : Int) = byt s 0 := byt_eq s 0 (by omega)
    have i1 : 1 < s.size := by omega
    have i2 : 2 < s.size := by omega
    by_cases hT : byt s 0 = 84
    · have hTb : (((s[0].toNat : Nat) : Int) != 84) = false := by rw [B0, hT]; rfl
      have HCK := fun w => check_any (s.extract 0 3) w (by simp [ByteArray.size_extract]; unfold maxLen; omega)
      rw [nums_extract] at HCK
      have HRN := fun w => readNumber_any s 3 w HS.out (by omega)
      by_cases hc : num4 s 3 = chk ((nums s).take 3)
      · have HOK : Hid (tkOk s = true) := (tkOk_iff s).2 ⟨h7, hT, hc⟩
        have hcb : (num4 s 3 != chk ((nums s).take 3)) = false := by rw [hc]; simp
        have HTR := tickR_eq i1 i2
        have HTRH : Hid (bits .or .i64 (wrap64 ((s[1].toNat : Nat) : Int)) (wrap64 (wrap64 ((s[2].toNat : Nat) : Int) * 256)) = tickR s) := HTR
        clear hc hT B0 HTR
        generalize num4 s 3 = N4 at *
        generalize chk ((nums s).take 3) = CK at *
        go_enter Tryz.func109, Tryz.ntmps109
        go_wp2_with fail
        refine (HCK _).mono ?_
        rintro e w1 ⟨rfl, rfl⟩
        go_wp2_with fail
        refine (HRN _).mono ?_
        rintro e w1 ⟨rfl, rfl⟩
        go_wp2_with fail
        go_region_with fail
        all_goals go_wp2_with fail
        all_goals go_ret3
        all_goals exact ⟨by first | exact (Below.refl _ _).drew | exact below_drewN (Below.refl _ _) _ | exact Below.refl _ _, .inl ⟨HOK.out, ret3_i HTRH.out⟩⟩
      · have HNO : Hid (tkOk s = false) := tkOk_no (fun h => hc h.2.2)
        have hcb : (num4 s 3 != chk ((nums s).take 3)) = true := by simpa using hc
        clear hc hT B0
        generalize num4 s 3 = N4 at *
        generalize chk ((nums s).take 3) = CK at *
        go_enter Tryz.func109, Tryz.ntmps109
        go_wp2_with fail
        refine (HCK _).mono ?_
        rintro e w1 ⟨rfl, rfl⟩
        go_wp2_with fail
        refine (HRN _).mono ?_
        rintro e w1 ⟨rfl, rfl⟩
        go_wp2_with fail
        go_ret3
        exact ⟨Below.refl _ _, .inr ⟨HNO.out, rfl⟩⟩
    · have HNO : Hid (tkOk s = false) := tkOk_no (fun h => hT h.2.1)
      have hTb : (((s[0].toNat : Nat) : Int) != 84) = true := by rw [B0]; simpa using hT
      clear hT B0
      go_enter Tryz.func109, Tryz.ntmps109
      go_wp2_with fail
      go_ret3
      exact ⟨Below.refl _ _, .inr ⟨HNO.out, rfl⟩⟩
  · have HNO : Hid (tkOk s = false) := tkOk_no (fun h => h7 h.1)
    have h7' : (s.size : Int) < 7 := by omega
    go_enter Tryz.func109, Tryz.ntmps109
    go_wp2_with fail
    go_ret3
    exact ⟨Below.refl _ _, .inr ⟨HNO.out, rfl⟩⟩

/-! Records done. -/
/-- What became of a store by a change, or none: a number of bytes is told. -/
def DoPost (X : Nat) (F : Nat → Prop) (s : St) (lg : ByteArray) (w : World) (c : Option Chg) (e : Ending) (w' : World) : Prop :=
  match c with
  | some c => e = .returned (.int .i64 (c.nums.length : Int)) ∧ StoreAt w' X (gF F w w') (s.do c) (lg ++ strOfNums c.nums) ∧ Fr F w w'
  | none => e = .returned (.int .i64 0) ∧ Below w.heap.size w w'
def nextT (s : St) (x : ByteArray) : Option Chg := if tkOk x = true ∧ tkE s (tickR x) = 0 then some (.t (tickR x)) else none
def nextW (s : St) (x : ByteArray) : Option Chg := if unOk x = true ∧ wrE s (smsR x (cN x)) = 0 then some (.w (smsR x (cN x))) else none
theorem tickR_range (s : ByteArray) : 0 ≤ tickR s ∧ tickR s ≤ 65535 := by
  have := byt_range s 1
  have := byt_range s 2
  unfold tickR; omega
theorem gF_below {F : Nat → Prop} {w w1 w2 : World} (hb : Below w.heap.size w w1) : ∀ k, gF F w1 w2 k → gF F w w2 k := fun k e => by
  rcases e with e | e
  · exact .inl e
  · exact .inr ⟨by have := hb.size; omega, e.2⟩

set_option maxHeartbeats 1000000 in
theorem redoTick_any (X : Nat) (F : Nat → Prop) (s : St) (lg x : ByteArray) (w : World) (h : StoreAt w X F s lg) (hs : x.size ≤ maxLen) :
    Calls Tryz.prog 86 #[.pointer (some ⟨X, 0, none⟩), .string x] w (DoPost X F s lg w (nextT s x)) := by
  have HS : Hid (StoreAt w X F s lg) := h
  have HM : Hid (x.size ≤ maxLen) := hs
  obtain ⟨r0, r1⟩ := tickR_range x
  clear h hs
  go_enter Tryz.func86, Tryz.ntmps86
  go_wp2_with fail
  refine (readTick_any x w HM.out).mono ?_
  rintro e w1 ⟨hb, ⟨hok, rfl⟩ | ⟨hok, rfl⟩⟩
  · have HS1 : Hid (StoreAt w1 X F s lg) := HS.out.below hb
    have HB : Hid (Below w.heap.size w w1) := hb
    have HOK : Hid (tkOk x = true) := hok
    clear hb hok
    go_wp2_with fail
    by_cases he : tkE s (tickR x) = 0
    · have HN : Hid (nextT s x = some (.t (tickR x))) := if_pos ⟨HOK.out, he⟩
      have HE : Hid (tkE s (tickR x) = 0) := he
      clear he
      refine (tick_yes X F s (tickR x) lg w1 HS1.out HE.out).mono ?_
      rintro e w2 ⟨rfl, hst, hfr⟩
      go_wp2_with fail
      go_ret
      rw [HN.out]
      exact ⟨by show _ = Ending.returned (.int .i64 ((tickB (tickR x)).length : Int)); rw [tickB_len]; rfl, hst.mono (gF_below HB.out), (Fr.of_below (S := F) HB.out).trans hfr (fun k e => .inl e)⟩
    · have HN : Hid (nextT s x = none) := if_neg (fun h => he h.2)
      refine (tick_no X F s (tickR x) w1 HS1.out (by omega) (by omega) he).mono ?_
      rintro e w2 ⟨rfl, rfl⟩
      go_wp2_with fail
      go_ret
      rw [HN.out]
      exact ⟨rfl, HB.out⟩
  · have HN : Hid (nextT s x = none) := if_neg (fun h => by rw [hok] at h; exact absurd h.1 (by simp))
    have HB : Hid (Below w.heap.size w w1) := hb
    clear hb hok
    go_wp2_with fail
    go_ret
    rw [HN.out]
    exact ⟨rfl, HB.out⟩

theorem wf_mem {ls : List Sm} (h : SmWf ls) : ∀ x ∈ ls, x.wf := fun _ hx => mem_wf h hx

set_option maxHeartbeats 1000000 in
theorem redoWrite_any (X : Nat) (F : Nat → Prop) (s : St) (lg x : ByteArray) (w : World) (h : StoreAt w X F s lg) (hF : ∀ k, F k → k < w.heap.size) (hs : x.size ≤ maxLen) :
    Calls Tryz.prog 85 #[.pointer (some ⟨X, 0, none⟩), .string x] w (DoPost X F s lg w (nextW s x)) := by
  have HS : Hid (StoreAt w X F s lg) := h
  have HM : Hid (x.size ≤ maxLen) := hs
  have HFF : Hid (∀ k, F k → k < w.heap.size) := hF
  clear h hs hF
  go_enter Tryz.func85, Tryz.ntmps85
  go_wp2_with fail
  refine (readBatch_any x w HM.out).mono ?_
  rintro e w1 ⟨hb, ⟨hok, v, rfl, hown⟩ | ⟨hok, rfl⟩⟩
  · have HS1 : Hid (StoreAt w1 X F s lg) := HS.out.below hb
    have HB : Hid (Below w.heap.size w w1) := hb
    have HOK : Hid (unOk x = true) := hok
    have hcn : 1 ≤ cN x ∧ cN x ≤ 8 := by
      have h1 : headOk x = true := by
        have h2 := hok
        unfold unOk at h2
        rw [Bool.and_eq_true] at h2
        exact h2.1
      have := (headOk_iff x).1 h1
      omega
    obtain ⟨hc1, hc8⟩ := hcn
    obtain ⟨g, cap, rfl, hg1, hg2, _⟩ := ownBlockForm hown (by omega)
    have HAT : Hid (SmAt w1 g 0 (smsR x (cN x))) := smAt_of (owns_at hown)
    have HLN : Hid ((smsR x (cN x)).length = cN x) := smsR_len x (cN x)
    have HGF : Hid (¬ F g) := fun e => by have := HFF.out g e; omega
    clear hb hok hown
    go_wp2_with fail
    by_cases he : wrE s (smsR x (cN x)) = 0
    · have HN : Hid (nextW s x = some (.w (smsR x (cN x)))) := if_pos ⟨HOK.out, he⟩
      have HE : Hid (wrE s (smsR x (cN x)) = 0) := he
      clear he
      refine (write_yes X F s g 0 (cN x) cap (smsR x (cN x)) lg w1 HS1.out HLN.out HAT.out HGF.out (wf_mem (smsR_wf x (cN x))) (smsR_wf x (cN x)) HE.out).mono ?_
      rintro e w2 ⟨rfl, hst, hfr⟩
      go_wp2_with fail
      go_ret
      rw [HN.out]
      exact ⟨by show _ = Ending.returned (.int .i64 ((recB (smsR x (cN x))).length : Int)); rw [recB_len, HLN.out]; show Ending.returned (.int .i64 _) = _; congr 2; omega, hst.mono (gF_below HB.out), (Fr.of_below (S := F) HB.out).trans hfr (fun k e => .inl e)⟩
    · have HN : Hid (nextW s x = none) := if_neg (fun h => he h.2)
      have hbq : (wrE s (smsR x (cN x)) != 0) = true := by simpa using he
      have HE : Hid (wrE s (smsR x (cN x)) ≠ 0) := he
      clear he
      refine (write_no X F s (some ⟨g, 0, none⟩) (cN x) cap (smsR x (cN x)) w1 HS1.out ⟨HLN.out, fun _ => ⟨g, 0, rfl, HAT.out⟩⟩ (by unfold maxLen; omega) HE.out).mono ?_
      rintro e w2 ⟨rfl, hb2⟩
      have HB2 : Hid (Below w.heap.size w w2) := HB.out.trans (hb2.mono HB.out.size)
      clear hb2
      generalize wrE s (smsR x (cN x)) = E at *
      go_wp2_with fail
      go_ret
      rw [HN.out]
      exact ⟨rfl, HB2.out⟩
  · have HN : Hid (nextW s x = none) := if_neg (fun h => by rw [hok] at h; exact absurd h.1 (by simp))
    have HB : Hid (Below w.heap.size w w1) := hb
    clear hb hok
    go_wp2_with fail
    go_ret
    rw [HN.out]
    exact ⟨rfl, HB.out⟩

end Go.Proofs.YthciddpljcbhiabGreatDoor

/- Walks: a log's records done again, one behind the other. -/
namespace Go.Proofs.YthciddpljcbhiabGreatDoor
open Go Go.RowKit Go.Lib

theorem nextC_eq (s : St) (x : ByteArray) : nextC s x = match nextW s x with | some c => some c | none => nextT s x := by
  unfold nextC nextW nextT
  split <;> rfl
theorem nextC_le {s : St} {x : ByteArray} {c : Chg} (h : nextC s x = some c) : c.nums.length ≤ x.size ∧ c.nums.length ≤ 100 := by
  unfold nextC at h
  split at h
  · next hc =>
    have := Option.some.inj h
    subst this
    have h1 : headOk x = true := by
      have h2 := hc.1
      unfold unOk at h2
      rw [Bool.and_eq_true] at h2
      exact h2.1
    have h3 := (headOk_iff x).1 h1
    show (recB (smsR x (cN x))).length ≤ x.size ∧ (recB (smsR x (cN x))).length ≤ 100
    rw [recB_len, smsR_len]
    omega
  · split at h
    · next hc =>
      have := Option.some.inj h
      subst this
      have h3 := (tkOk_iff x).1 hc.1
      show (tickB (tickR x)).length ≤ x.size ∧ (tickB (tickR x)).length ≤ 100
      rw [tickB_len]
      omega
    · cases h

set_option maxHeartbeats 1000000 in
theorem redoFirst_any (X : Nat) (F : Nat → Prop) (s : St) (lg x : ByteArray) (w : World) (h : StoreAt w X F s lg) (hF : ∀ k, F k → k < w.heap.size) (hs : x.size ≤ maxLen) :
    Calls Tryz.prog 56 #[.pointer (some ⟨X, 0, none⟩), .string x] w (DoPost X F s lg w (nextC s x)) := by
  have HS : Hid (StoreAt w X F s lg) := h
  have HM : Hid (x.size ≤ maxLen) := hs
  have HW := redoWrite_any X F s lg x w h hF hs
  have HNC : Hid (nextC s x = match nextW s x with | some c => some c | none => nextT s x) := nextC_eq s x
  clear h hs
  cases hw : nextW s x with
  | some c =>
    rw [hw] at HW HNC
    have hp := c.pos
    have hpi : ¬ (c.nums.length : Int) ≤ 0 := by omega
    have HC : Hid (nextC s x = some c) := HNC.out
    clear hw HNC
    go_enter Tryz.func56, Tryz.ntmps56
    go_wp2_with fail
    refine HW.mono ?_
    rintro e w1 ⟨rfl, hst, hfr⟩
    go_wp2_with fail
    go_ret
    rw [HC.out]
    exact ⟨rfl, hst, hfr⟩
  | none =>
    rw [hw] at HW HNC
    have HC : Hid (nextC s x = nextT s x) := HNC.out
    clear hw HNC
    go_enter Tryz.func56, Tryz.ntmps56
    go_wp2_with fail
    refine HW.mono ?_
    rintro e w1 ⟨rfl, hb⟩
    have HS1 : Hid (StoreAt w1 X F s lg) := HS.out.below hb
    have HB : Hid (Below w.heap.size w w1) := hb
    clear hb
    go_wp2_with fail
    refine (redoTick_any X F s lg x w1 HS1.out HM.out).mono ?_
    intro e w2 hp
    rw [← HC.out] at hp
    cases hn : nextC s x with
    | some c =>
      rw [hn] at hp
      obtain ⟨rfl, hst, hfr⟩ := hp
      go_wp2_with fail
      go_ret
      rw [hn]
      exact ⟨rfl, hst.mono (gF_below HB.out), (Fr.of_below (S := F) HB.out).trans hfr (fun k e => .inl e)⟩
    | none =>
      rw [hn] at hp
      obtain ⟨rfl, hb⟩ := hp
      go_wp2_with fail
      go_ret
      rw [hn]
      exact ⟨rfl, HB.out.trans (hb.mono HB.out.size)⟩

theorem ret_i64r {a b : Int} (h : a = b) : Ending.returned (.int .i64 a) = .returned (.int .i64 b) := by rw [h]
theorem redoN_some {f : Nat} {s : St} {x : ByteArray} {c : Chg} (h0 : x.size ≠ 0) (h : nextC s x = some c) : redoN (f + 1) s x = c :: redoN f (s.do c) (x.extract c.nums.length x.size) := by
  rw [redoN, if_neg h0, h]
theorem redoN_none {f : Nat} {s : St} {x : ByteArray} (h : nextC s x = none) : redoN (f + 1) s x = [] := by
  rw [redoN, h]; split <;> rfl
theorem redoN_zero {f : Nat} {s : St} {x : ByteArray} (h : x.size = 0) : redoN f s x = [] := by
  cases f with
  | zero => rfl
  | succ f => rw [redoN, if_pos h]
theorem extract_extract (x : ByteArray) (p k : Nat) : (x.extract p x.size).extract k (x.extract p x.size).size = x.extract (p + k) x.size := by
  apply nums_ba_inj
  rw [nums_drop, nums_drop, nums_drop, List.drop_drop]
theorem size_suffix (x : ByteArray) (p : Nat) : (x.extract p x.size).size = x.size - p := by
  rw [← nums_len, nums_drop, List.length_drop, nums_len]

set_option maxHeartbeats 1000000 in
set_option maxRecDepth 100000 in
theorem redo_any (X : Nat) (F : Nat → Prop) (s : St) (lg log : ByteArray) (w : World) (h : StoreAt w X F s lg) (hF : ∀ k, F k → k < w.heap.size) (hs : log.size ≤ maxLen) :
    Calls Tryz.prog 24 #[.pointer (some ⟨X, 0, none⟩), .string log] w fun e w' => e = .returned (.int .i64 ((logN (redoN log.size s log)).length : Int)) ∧ StoreAt w' X (gF F w w') (s.doAll (redoN log.size s log)) (lg ++ strOfNums (logN (redoN log.size s log))) ∧ Fr F w w' := by
  have HS : Hid (StoreAt w X F s lg) := h
  have HM : Hid (log.size ≤ maxLen) := hs
  have HFF : Hid (∀ k, F k → k < w.heap.size) := hF
  unfold maxLen at hs
  generalize hR : redoN log.size s log = R at *
  have HR : Hid (redoN log.size s log = R) := hR
  clear h hF hR
  go_enter Tryz.func24, Tryz.ntmps24
  go_wp2_with fail
  go_loopw [5] (fun p wr => ∃ (cs : List Chg) (q f : Nat), p = .int .i64 q ∧ q ≤ log.size ∧ q = (logN cs).length ∧ R = cs ++ redoN f (s.doAll cs) (log.extract q log.size) ∧ log.size - q ≤ f ∧ StoreAt wr X (gF F w wr) (s.doAll cs) (lg ++ strOfNums (logN cs)) ∧ Fr F w wr) (fun p _ => log.size - (intOf p).toNat)
  case atStart =>
    refine ⟨[], 0, log.size, rfl, Nat.zero_le _, rfl, ?_, by omega, ?_, Fr.refl _ _⟩
    · have e : log.extract 0 log.size = log := by apply nums_ba_inj; rw [nums_drop, List.drop_zero]
      rw [e, ← HR.out]; rfl
    · show StoreAt w X (gF F w w) s (lg ++ strOfNums [])
      rw [ba_append_nil]
      exact HS.out.mono (fun k e => .inl e)
  case round =>
    obtain ⟨cs, q, f, rfl, hq, hqe, hRc, hf, hst, hfr⟩ := hrel
    have HST : Hid (StoreAt wr X (gF F w wr) (s.doAll cs) (lg ++ strOfNums (logN cs))) := hst
    have HFR : Hid (Fr F w wr) := hfr
    have HQE : Hid (q = (logN cs).length) := hqe
    have HRC : Hid (R = cs ++ redoN f (s.doAll cs) (log.extract q log.size)) := hRc
    clear hst hfr hqe hRc
    by_cases hlt : q < log.size
    · obtain ⟨f', rfl⟩ : ∃ f', f = f' + 1 := ⟨f - 1, by omega⟩
      have HSZ : Hid ((log.extract q log.size).size = log.size - q) := size_suffix log q
      have HXX := extract_extract log q
      generalize hx : log.extract q log.size = x at *
      have HRF := redoFirst_any X (gF F w wr) (s.doAll cs) (lg ++ strOfNums (logN cs)) x wr HST.out (fun k e => by
        rcases e with e | e
        · exact Nat.lt_of_lt_of_le (HFF.out k e) HFR.out.size
        · exact e.2) (by rw [HSZ.out]; unfold maxLen; omega)
      have HXH : Hid (log.extract q log.size = x) := hx
      go_wp2_with fail
      refine HRF.mono ?_
      intro e w2 hp
      cases hn : nextC (s.doAll cs) x with
      | none =>
        rw [hn] at hp
        obtain ⟨rfl, hb⟩ := hp
        have HE : Hid (R = cs) := by show _ = _; rw [HRC.out, redoN_none hn, List.append_nil]
        have HB : Hid (Below wr.heap.size wr w2) := hb
        clear hb hn HRF
        go_wp2_with fail
        go_ret
        rw [HE.out]
        refine ⟨ret_i64r (by rw [HQE.out]), (HST.out.below HB.out).mono (fun k e => ?_), HFR.out.trans (Fr.of_below (S := fun _ => False) HB.out) (fun _ e => e.elim)⟩
        rcases e with e | e
        · exact .inl e
        · exact .inr ⟨e.1, by have := HB.out.size; omega⟩
      | some c =>
        rw [hn] at hp
        obtain ⟨rfl, hst, hfr⟩ := hp
        obtain ⟨l1, l2⟩ := nextC_le hn
        have hpos := c.pos
        have HRN : Hid (R = (cs ++ [c]) ++ redoN f' (s.doAll (cs ++ [c])) (log.extract (q + c.nums.length) log.size)) := by
          show _ = _
          rw [HRC.out, redoN_some (by rw [HSZ.out]; omega) hn, HXX c.nums.length, doAll_append, List.append_assoc]
          rfl
        have HST2 : Hid (StoreAt w2 X (gF F w w2) (s.doAll (cs ++ [c])) (lg ++ strOfNums (logN (cs ++ [c])))) := by
          show StoreAt _ _ _ _ _
          have e1 : s.doAll (cs ++ [c]) = (s.doAll cs).do c := by rw [doAll_append]; rfl
          have e2 : lg ++ strOfNums (logN (cs ++ [c])) = lg ++ strOfNums (logN cs) ++ strOfNums c.nums := by
            rw [logN_append, ← str_add, ByteArray.append_assoc]
            simp [logN]
          rw [e1, e2]
          exact hst.mono (gF_trans HFR.out.size hfr.size)
        have HFR2 : Hid (Fr F w w2) := Fr.gF HFR.out hfr
        have HLQ : Hid (q + c.nums.length = (logN (cs ++ [c])).length) := by show _ = _; rw [logN_append, List.length_append, ← HQE.out]; simp [logN]
        have hqx : x.size = log.size - q := HSZ.out
        have hpi : ¬ (c.nums.length : Int) < 1 := by omega
        clear hst hfr hn HRF
        generalize hcl : c.nums.length = CL at *
        go_wp2_with fail
        exact ⟨⟨cs ++ [c], q + CL, f', by go_num, by omega, HLQ.out, HRN.out, by omega, HST2.out, HFR2.out⟩, by simp [intOf]; omega⟩
    · have hlt2 : ¬ (q : Int) < log.size := by omega
      have HE : Hid (R = cs) := by
        show _ = _
        rw [HRC.out, redoN_zero (by rw [size_suffix]; omega), List.append_nil]
      go_wp2_with fail
      go_ret
      rw [HE.out]
      exact ⟨ret_i64r (by rw [HQE.out]), HST.out, HFR.out⟩

end Go.Proofs.YthciddpljcbhiabGreatDoor

/- Walks: the document's done: the record at the front of any bytes (garnerref.done). -/
namespace Go.Proofs.YthciddpljcbhiabGreatDoor
open Go Go.RowKit Go.Lib

set_option maxHeartbeats 400000 in
set_option maxRecDepth 100000 in
theorem refNumber2_any (s : ByteArray) (w : World) (hp : s.size = 2) :
    Calls Tryz.prog 58 #[.string s] w fun e w' => e = .returned (.int .i64 (byt s 0 + 256 * byt s 1)) ∧ w' = w := by
  obtain ⟨c0, c1⟩ := byt_range s 1
  obtain ⟨d0, d1⟩ := byt_range s 0
  have B1 : Hid (((s[1].toNat : Nat) : Int) = byt s 1) := byt_eq s 1 (by omega)
  have B0 : Hid (((s[0].toNat : Nat) : Int) = byt s 0) := byt_eq s 0 (by omega)
  have E1 : ((s[1].toNat : Nat) : Int) ≤ 255 := by rw [B1.out]; exact c1
  have E0 : ((s[0].toNat : Nat) : Int) ≤ 255 := by rw [B0.out]; exact d1
  have HE' : Hid (∀ x y : Int, x = y → Value.int IntKind.i64 x = .int .i64 y) := fun x y h => by rw [h]
  go_enter Tryz.func58, Tryz.ntmps58
  go_wp2
  go_loop [3, 4] (fun n i => (i = .int .i64 1 ∧ n = .int .i64 0) ∨ (i = .int .i64 0 ∧ n = .int .i64 (byt s 1)) ∨ (i = .int .i64 (-1) ∧ n = .int .i64 (byt s 0 + 256 * byt s 1))) (fun _ i => (intOf i + 1).toNat)
  case atStart => exact Or.inl ⟨rfl, rfl⟩
  case round =>
    rcases hrel with ⟨rfl, rfl⟩ | ⟨rfl, rfl⟩ | ⟨rfl, rfl⟩
    · go_wp2
      refine ⟨Or.inr (Or.inl ⟨rfl, HE'.out _ _ ?_⟩), by simp [intOf]⟩
      rw [B1.out]
    · go_wp2
      refine ⟨Or.inr (Or.inr ⟨rfl, HE'.out _ _ ?_⟩), by simp [intOf]⟩
      rw [B0.out]; omega
    · go_wp2
      go_ret
      exact ⟨rfl, rfl⟩

theorem tickB_byte' {n : Int} (h0 : 0 ≤ n) (h1 : n ≤ 65535) : ∀ x ∈ tickB n, isByte x := by
  intro x hx
  unfold tickB at hx
  rw [List.mem_append] at hx
  rcases hx with hx | hx
  · exact tickH_byte' h0 h1 x hx
  · exact lowN_byte 4 _ x hx
/-- The record of the Tick that was read is what stands there, just where the letter and the check are right. -/
theorem tick_str (x : ByteArray) (h7 : 7 ≤ x.size) : ((strOfNums (tickB (tickR x))).toList == (x.extract 0 7).toList) = tkOk x := by
  have e : nums (x.extract 0 7) = (nums x).take 7 := nums_extract x 7
  obtain ⟨r0, r1⟩ := tickR_range x
  rw [Bool.eq_iff_iff, beq_iff_eq, ByteArray.toList_eq, ByteArray.toList_eq, tkOk_iff]
  constructor
  · intro h
    have h' : nums (strOfNums (tickB (tickR x))) = nums (x.extract 0 7) := by unfold nums; rw [h]
    rw [nums_str _ (tickB_byte' r0 r1), e] at h'
    have h2 : nums x = tickB (tickR x) ++ (nums x).drop 7 := by rw [h', List.take_append_drop]
    exact (tkOk_iff x).1 (tick_back h2).1
  · rintro ⟨_, h0, hc⟩
    have b1 := byt_range x 1
    have b2 := byt_range x 2
    have t3 : (nums x).take 3 = tickH (tickR x) := by
      rw [take_seg, seg_succ x 0 2 (by omega), seg_succ x (0 + 1) 1 (by omega), seg_succ x (0 + 1 + 1) 0 (by omega), seg_zero, h0]
      have e1 : tickR x % 256 = byt x 1 := by unfold tickR; omega
      have e2 : tickR x / 256 = byt x 2 := by unfold tickR; omega
      unfold tickH
      rw [e1, e2]
    have h7' : tickB (tickR x) = (nums x).take 7 := by
      unfold tickB
      rw [← t3, ← hc, low_num4 x 3 (by omega), take_seg, take_seg, show (7 : Nat) = 3 + 4 from rfl, seg_add, Nat.zero_add]
    rw [h7', ← e, str_nums]

theorem unOk_no_tick {x : ByteArray} (h : unOk x = true) : tkOk x = false ∧ cN x ≤ 8 := by
  have h1 : headOk x = true := by
    unfold unOk at h
    rw [Bool.and_eq_true] at h
    exact h.1
  have h2 := (headOk_iff x).1 h1
  exact ⟨tkOk_no (fun h3 => by omega), h2.2.2.2.1⟩
theorem nextC_pos {s : St} {x : ByteArray} (h : x.size = 0) : nextC s x = none := by
  cases hn : nextC s x with
  | none => rfl
  | some c =>
    have h1 := nextC_le hn
    have h2 := c.pos
    omega

/-- What became of the document's store by a change, or none: a number of bytes is told. -/
def DnPost (R : Nat) (F : Nat → Prop) (c : Cf) (cs : List Chg) (w : World) (ch : Option Chg) (e : Ending) (w' : World) : Prop :=
  match ch with
  | some ch => e = .returned (.int .i64 (ch.nums.length : Int)) ∧ RfAt w' R (gF F w w') c (cs ++ [ch]) ∧ Fr F w w'
  | none => e = .returned (.int .i64 0) ∧ Below w.heap.size w w'

set_option maxHeartbeats 1000000 in
set_option maxRecDepth 100000 in
theorem done_any (R : Nat) (F : Nat → Prop) (c : Cf) (cs : List Chg) (x : ByteArray) (w : World) (h : RfAt w R F c cs) (hs : x.size ≤ maxLen) :
    Calls Tryz.prog 26 #[.pointer (some ⟨R, 0, none⟩), .string x] w (DnPost R F c cs w (nextC ((St.new c).doAll cs) x)) := by
  have HRF : Hid (RfAt w R F c cs) := h
  have HM : Hid (x.size ≤ maxLen) := hs
  obtain ⟨r0, r1⟩ := tickR_range x
  unfold maxLen at hs
  clear h
  go_enter Tryz.func26, Tryz.ntmps26
  go_wp2_with fail
  refine (refUnrecord_any x w HM.out).mono ?_
  rintro e w1 ⟨hb, ⟨hok, v, rfl, hown⟩ | ⟨hok, rfl⟩⟩
  · obtain ⟨a, cap, rfl, hsm⟩ := owns_sms hown (smsR_len x (cN x))
    have HB : Hid (Below w.heap.size w w1) := hb
    have HSM : Hid (IsSms w1 a (cN x) (smsR x (cN x))) := hsm
    have HOK : Hid (unOk x = true) := hok
    obtain ⟨hnt, hc8⟩ := unOk_no_tick hok
    have HTN : Hid (tkOk x = false) := hnt
    have HRF1 : Hid (RfAt w1 R F c cs) := HRF.out.keep (S := fun _ => False) (Fr.of_below hb) (fun _ _ e => e) (fun _ e => e)
    clear hb hok hown hsm hnt
    by_cases he : wrE ((St.new c).doAll cs) (smsR x (cN x)) = 0
    · have HN : Hid (nextC ((St.new c).doAll cs) x = some (.w (smsR x (cN x)))) := by show _ = _; unfold nextC; rw [if_pos ⟨HOK.out, he⟩]
      have HW := wr_ref_yes a (cN x) cap (smsR x (cN x)) w1 HRF1.out HSM.out (fun y hy => mem_wf (smsR_wf x (cN x)) hy) he
      have HLN : Hid (((recB (smsR x (cN x))).length : Int) = 6 + 11 * (cN x : Int)) := by show _ = _; rw [recB_len, smsR_len]; omega
      clear he
      go_wp2_with fail
      refine HW.mono ?_
      clear HW
      rintro e w2 ⟨rfl, hst, hfr⟩
      have HST : Hid (RfAt w2 R (gF F w w2) c (cs ++ [.w (smsR x (cN x))])) := hst.keep (S := fun _ => False) (Fr.refl _ _) (fun _ _ e => e) (gF_below HB.out)
      have HFR : Hid (Fr F w w2) := (Fr.of_below (S := F) HB.out).trans hfr (fun k e => .inl e)
      clear hst hfr
      go_wp2_with fail
      go_ret
      rw [HN.out]
      exact ⟨by show _ = Ending.returned (.int .i64 ((recB (smsR x (cN x))).length : Int)); rw [HLN.out]; rfl, HST.out, HFR.out⟩
    · have HN : Hid (nextC ((St.new c).doAll cs) x = none) := by show _ = _; unfold nextC; rw [if_neg (fun h => he h.2), if_neg (fun h => by rw [HTN.out] at h; exact absurd h.1 (by simp))]
      have HW := wr_ref_no a (cN x) cap (smsR x (cN x)) w1 HRF1.out HSM.out he
      have hbq : (wrE ((St.new c).doAll cs) (smsR x (cN x)) == 0) = false := by simpa using he
      clear he
      generalize wrE ((St.new c).doAll cs) (smsR x (cN x)) = E at *
      go_wp2_with fail
      refine HW.mono ?_
      clear HW
      rintro e w2 ⟨rfl, hb2⟩
      have HB2 : Hid (Below w.heap.size w w2) := HB.out.trans (hb2.mono HB.out.size)
      clear hb2
      go_wp2_with fail
      go_ret
      rw [HN.out]
      exact ⟨rfl, HB2.out⟩
  · have HB : Hid (Below w.heap.size w w1) := hb
    have HOK : Hid (unOk x = false) := hok
    have HRF1 : Hid (RfAt w1 R F c cs) := HRF.out.keep (S := fun _ => False) (Fr.of_below hb) (fun _ _ e => e) (fun _ e => e)
    clear hb hok
    by_cases h7 : 7 ≤ x.size
    · have hx13 : (x.extract 1 3).size = 2 := by rw [ByteArray.size_extract]; omega
      have HNB : Hid (byt (x.extract 1 3) 0 + 256 * byt (x.extract 1 3) 1 = tickR x) := by
        show _ = _
        rw [byt_extract x 1 3 0 (by omega) (by omega), byt_extract x 1 3 1 (by omega) (by omega)]
        rfl
      have HTS : Hid (((strOfNums (tickB (tickR x))).toList == (x.extract 0 7).toList) = tkOk x) := tick_str x h7
      go_wp2_with fail
      refine (refNumber2_any (x.extract 1 3) _ hx13).mono ?_
      rintro e w2 ⟨rfl, h2⟩
      obtain rfl := h2.symm
      rw [HNB.out]
      clear hx13
      go_wp2_with fail
      refine (ticked_any (tickR x) _ r0 r1).mono ?_
      rintro e w2 ⟨rfl, hb2⟩
      have HB2 : Hid (Below w.heap.size w w2) := HB.out.trans (hb2.mono HB.out.size)
      have HRF2 : Hid (RfAt w2 R F c cs) := HRF1.out.keep (S := fun _ => False) (Fr.of_below hb2) (fun _ _ e => e) (fun _ e => e)
      clear hb2
      cases hk : tkOk x with
      | false =>
        have HN : Hid (nextC ((St.new c).doAll cs) x = none) := by show _ = _; unfold nextC; rw [if_neg (fun h => by rw [HOK.out] at h; exact absurd h.1 (by simp)), if_neg (fun h => by rw [hk] at h; exact absurd h.1 (by simp))]
        have hts := HTS.out
        rw [hk] at hts
        clear hk
        go_wp2_with fail
        go_ret
        rw [HN.out]
        exact ⟨rfl, HB2.out⟩
      | true =>
        have hts := HTS.out
        rw [hk] at hts
        have HK : Hid (tkOk x = true) := hk
        clear hk
        by_cases he : tkE ((St.new c).doAll cs) (tickR x) = 0
        · have HN : Hid (nextC ((St.new c).doAll cs) x = some (.t (tickR x))) := by show _ = _; unfold nextC; rw [if_neg (fun h => by rw [HOK.out] at h; exact absurd h.1 (by simp)), if_pos ⟨HK.out, he⟩]
          have HT := tk_ref_yes (tickR x) w2 HRF2.out he
          clear he
          go_wp2_with fail
          refine HT.mono ?_
          clear HT
          rintro e w3 ⟨rfl, hst, hfr⟩
          have HST : Hid (RfAt w3 R (gF F w w3) c (cs ++ [.t (tickR x)])) := hst.keep (S := fun _ => False) (Fr.refl _ _) (fun _ _ e => e) (gF_below HB2.out)
          have HFR : Hid (Fr F w w3) := (Fr.of_below (S := F) HB2.out).trans hfr (fun k e => .inl e)
          clear hst hfr
          go_wp2_with fail
          go_ret
          rw [HN.out]
          exact ⟨by show _ = Ending.returned (.int .i64 ((tickB (tickR x)).length : Int)); rw [tickB_len]; rfl, HST.out, HFR.out⟩
        · have HN : Hid (nextC ((St.new c).doAll cs) x = none) := by show _ = _; unfold nextC; rw [if_neg (fun h => by rw [HOK.out] at h; exact absurd h.1 (by simp)), if_neg (fun h => he h.2)]
          have HT := tk_ref_no (tickR x) w2 HRF2.out (by omega) (by omega) he
          clear he
          go_wp2_with fail
          refine HT.mono ?_
          clear HT
          rintro e w3 ⟨rfl, h3⟩
          obtain rfl := h3.symm
          go_wp2_with fail
          go_ret
          rw [HN.out]
          exact ⟨rfl, HB2.out⟩
    · have HN : Hid (nextC ((St.new c).doAll cs) x = none) := by show _ = _; unfold nextC; rw [if_neg (fun h => by rw [HOK.out] at h; exact absurd h.1 (by simp)), if_neg (fun h => h7 ((tkOk_iff x).1 h.1).1)]
      go_wp2_with fail
      go_ret
      rw [HN.out]
      exact ⟨rfl, HB.out⟩

end Go.Proofs.YthciddpljcbhiabGreatDoor

/- Walks: Open of any log, the document's and the program's. -/
namespace Go.Proofs.YthciddpljcbhiabGreatDoor
open Go Go.RowKit Go.Lib

theorem nextC_ok {s : St} {x : ByteArray} {c : Chg} (h : nextC s x = some c) : c.ok s := by
  unfold nextC at h
  split at h
  · next hc =>
    have := Option.some.inj h
    subst this
    exact ⟨hc.2, fun y hy => mem_wf (smsR_wf x (cN x)) hy⟩
  · split at h
    · next hc =>
      have := Option.some.inj h
      subst this
      exact hc.2
    · cases h
theorem redoN_Acc : ∀ (f : Nat) (s : St) (x : ByteArray), Acc s (redoN f s x)
  | 0, _, _ => trivial
  | f + 1, s, x => by
    unfold redoN
    split
    · trivial
    · cases hn : nextC s x with
      | none => trivial
      | some c => exact ⟨nextC_ok hn, redoN_Acc f (s.do c) _⟩

set_option maxHeartbeats 1000000 in
set_option maxRecDepth 100000 in
theorem open_ref_any (a : Option Addr) (n cap : Nat) (ls : List Lv) (span keep : Int) (log : ByteArray) (w : World) (h : IsLvs w a n ls) (hwf : LvWf ls) (hr : rightB span keep ls = true) (hlog : log.size ≤ maxLen) :
    Calls Tryz.prog 12 #[.agg #[.int .i64 span, .int .i64 keep, .slice a n cap], .string log] w fun e w' => ∃ R, e = .returned (.tuple #[.pointer (some ⟨R, 0, none⟩), .int .i64 ((logN (redoN log.size (St.new ⟨span, keep, ls⟩) log)).length : Int), .int .i64 0]) ∧ RfAt w' R (fun k => w.heap.size ≤ k ∧ k < w'.heap.size) ⟨span, keep, ls⟩ (redoN log.size (St.new ⟨span, keep, ls⟩) log) ∧ Below w.heap.size w w' := by
  have HLG : Hid (log.size ≤ maxLen) := hlog
  unfold maxLen at hlog
  generalize hRR : redoN log.size (St.new ⟨span, keep, ls⟩) log = RR at *
  have HRR : Hid (redoN log.size (St.new ⟨span, keep, ls⟩) log = RR) := hRR
  clear hRR
  obtain ⟨h1, h2, h3, h4, q1, q4, _⟩ := Cf.right_parts (c := ⟨span, keep, ls⟩) hr
  have q1' : 1 ≤ ls.length := q1
  have q4' : ls.length ≤ 4 := q4
  have hnl := h.1
  obtain ⟨b, off, rfl, hat⟩ := h.2 (by omega)
  have hbs : b < w.heap.size := hat.block (by omega)
  have HL : Hid (IsLvs (w.alloc (cfgO span keep (some ⟨b, off, none⟩) n cap)) (some ⟨b, off, none⟩) n ls) := lvs_alloc h _
  have HAT : Hid (LvAt w b off ls) := hat
  have HW : Hid (LvWf ls) := hwf
  have HR : Hid (rightB span keep ls = true) := hr
  have HN : Hid (ls.length = n) := hnl
  have hn4 : n ≤ 4 := by omega
  have hn1 : 1 ≤ n := by omega
  have HBX : Hid (Below w.heap.size w (w.alloc (cfgO span keep (some ⟨b, off, none⟩) n cap))) := (Below.refl _ _).alloc (Nat.le_refl _) _
  obtain ⟨Z, hZ, hmk⟩ := make37m n (by omega)
  have HZ : Hid (Z.length = n * 4) := hZ
  clear h hwf hr hat hZ q1 q4 q1' q4' hnl
  go_enter Tryz.func12, Tryz.ntmps12
  go_wp2_with fail
  refine (refRight_any (some ⟨b, off, none⟩) n cap ls span keep _ HL.out HW.out).mono ?_
  rintro e w1 ⟨rfl, hb1⟩
  rw [HR.out]
  have hee : errR true = 0 := rfl
  rw [hee]
  clear hee
  have hz1 : w.heap.size + 1 ≤ w1.heap.size := by have := hb1.size; simpa using this
  have hbk : w1.heap[w.heap.size]? = some (.cells #[.int .i64 span, .int .i64 keep, .slice (some ⟨b, off, none⟩) n cap] 40 (0, 0)) := by rw [hb1.block _ (by simp)]; exact heap_alloc_new w _
  have HW1 : Hid (Below w.heap.size w w1) := HBX.out.trans (hb1.mono (by simp))
  have p0 : w1.cell? ⟨w.heap.size, 0, none⟩ = some (.int .i64 span) := cell_blk hbk rfl
  have p1 : w1.cell? ⟨w.heap.size, 1, none⟩ = some (.int .i64 keep) := cell_blk hbk rfl
  have p2 : w1.cell? ⟨w.heap.size, 2, none⟩ = some (.slice (some ⟨b, off, none⟩) n cap) := cell_blk hbk rfl
  have hne : w.heap.size ≠ w1.heap.size := by omega
  have hlt1 : w.heap.size < w1.heap.size := by omega
  clear hb1 hbk
  go_wp2_with fail
  have hzR : (w1.alloc (.cells #[.int .i64 span, .int .i64 keep, .slice (some ⟨w1.heap.size + 1, 0, none⟩) n n, .slice none 0 0] 73)).heap.size = w1.heap.size + 1 := World.size_alloc _ _
  have hbR : Below w1.heap.size w1 (w1.alloc (.cells #[.int .i64 span, .int .i64 keep, .slice (some ⟨w1.heap.size + 1, 0, none⟩) n n, .slice none 0 0] 73)) := (Below.refl _ _).alloc (Nat.le_refl _) _
  have hblkR : (w1.alloc (.cells #[.int .i64 span, .int .i64 keep, .slice (some ⟨w1.heap.size + 1, 0, none⟩) n n, .slice none 0 0] 73)).heap[w1.heap.size]? = some (.cells #[.int .i64 span, .int .i64 keep, .slice (some ⟨w1.heap.size + 1, 0, none⟩) n n, .slice none 0 0] 73 (0, 0)) := heap_alloc_new _ _
  have r2 : (w1.alloc (.cells #[.int .i64 span, .int .i64 keep, .slice (some ⟨w1.heap.size + 1, 0, none⟩) n n, .slice none 0 0] 73)).cell? ⟨w1.heap.size, 2, none⟩ = some (.slice (some ⟨w1.heap.size + 1, 0, none⟩) n n) := cell_blk hblkR rfl
  have s2 : (w1.alloc (.cells #[.int .i64 span, .int .i64 keep, .slice (some ⟨w1.heap.size + 1, 0, none⟩) n n, .slice none 0 0] 73)).cell? ⟨w.heap.size, 2, none⟩ = some (.slice (some ⟨b, off, none⟩) n cap) := (hbR.cell (p := ⟨w.heap.size, 2, none⟩) hlt1).trans p2
  have HBR : Hid (Below w.heap.size w (w1.alloc (.cells #[.int .i64 span, .int .i64 keep, .slice (some ⟨w1.heap.size + 1, 0, none⟩) n n, .slice none 0 0] 73))) := HW1.out.trans (hbR.mono (by omega))
  generalize hX : w1.alloc (.cells #[.int .i64 span, .int .i64 keep, .slice (some ⟨w1.heap.size + 1, 0, none⟩) n n, .slice none 0 0] 73) = X at *
  clear hX hbR p0 p1 p2
  have hcp := fun ty => copy37a X Z (w1.heap.size + 1) b off n cap ls HZ.out HN.out hzR.symm (HAT.out.below HBR.out hbs) (by omega) ty
  have u2 : (X.alloc (.cells Z.toArray 37)).cell? ⟨w1.heap.size, 2, none⟩ = some (.slice (some ⟨w1.heap.size + 1, 0, none⟩) n n) := cell_alloc1 r2
  have v2 : (X.alloc (.cells Z.toArray 37)).cell? ⟨w.heap.size, 2, none⟩ = some (.slice (some ⟨b, off, none⟩) n cap) := cell_alloc1 s2
  have HBL : Hid (X.heap[w1.heap.size]? = some (.cells #[.int .i64 span, .int .i64 keep, .slice (some ⟨w1.heap.size + 1, 0, none⟩) n n, .slice none 0 0] 73 (0, 0))) := hblkR
  clear hblkR r2 s2
  have hX1 : w1.heap.size < X.heap.size := by omega
  go_region
  have hYs : (X.alloc (.cells (flat ls).toArray 37)).drew.heap.size = w1.heap.size + 1 + 1 := by show (X.alloc (.cells (flat ls).toArray 37)).heap.size = _; rw [World.size_alloc]; omega
  have HRF : Hid (RfS (X.alloc (.cells (flat ls).toArray 37)).drew w1.heap.size (fun k => w.heap.size ≤ k ∧ k < w1.heap.size + 1 + 1) ⟨span, keep, ls⟩ [] (w1.heap.size + 1) n (.slice none 0 0)) := by
    refine rf_new HR.out ?_ (lvAt_of (at_block (t := 37) (fr := (0, 0)) ?_)) (by omega) ⟨by omega, by omega⟩ ⟨by omega, by omega⟩
    · show (X.alloc (.cells (flat ls).toArray 37)).heap[w1.heap.size]? = _
      rw [Below.heap_alloc _ _ _ hX1, HBL.out]
      show some (Obj.cells #[.int .i64 span, .int .i64 keep, .slice (some ⟨w1.heap.size + 1, 0, none⟩) n n, .slice none 0 0] 73 (0, 0)) = some (Obj.cells #[.int .i64 span, .int .i64 keep, .slice (some ⟨w1.heap.size + 1, 0, none⟩) ls.length n, .slice none 0 0] 73 (0, 0))
      rw [HN.out]
    · show (X.alloc (.cells (flat ls).toArray 37)).heap[w1.heap.size + 1]? = _
      rw [← hzR]
      exact heap_alloc_new _ _
  have HBY : Hid (Below w.heap.size w (X.alloc (.cells (flat ls).toArray 37)).drew) := (HBR.out.alloc (by omega) _).drew
  generalize hY : (X.alloc (.cells (flat ls).toArray 37)).drew = Y at *
  clear hY hcp u2 v2 HBL hmk
  have HF0 : Hid (∀ k, (fun k => w.heap.size ≤ k ∧ k < w1.heap.size + 1 + 1) k → w.heap.size ≤ k ∧ k < Y.heap.size) := fun k e => ⟨e.1, by omega⟩
  generalize hF : (fun k => w.heap.size ≤ k ∧ k < w1.heap.size + 1 + 1) = F at *
  have HYZ : Hid (w.heap.size ≤ Y.heap.size) := HBY.out.size
  generalize hcc : (⟨span, keep, ls⟩ : Cf) = cc at *
  have HCC : Hid ((⟨span, keep, ls⟩ : Cf) = cc) := hcc
  clear hF hcc
  generalize hRb : w1.heap.size = Rb at *
  clear hRb
  go_wp2_with fail
  go_loopw [9] (fun p wr => ∃ (cs : List Chg) (q f : Nat), p = .int .i64 q ∧ q ≤ log.size ∧ q = (logN cs).length ∧ RR = cs ++ redoN f ((St.new cc).doAll cs) (log.extract q log.size) ∧ log.size - q ≤ f ∧ RfAt wr Rb (gF F Y wr) cc cs ∧ Fr F Y wr) (fun p _ => log.size - (intOf p).toNat)
  case atStart =>
    refine ⟨[], 0, log.size, rfl, Nat.zero_le _, rfl, ?_, by omega, ?_, Fr.refl _ _⟩
    · have e : log.extract 0 log.size = log := by apply nums_ba_inj; rw [nums_drop, List.drop_zero]
      rw [e, ← HRR.out]; rfl
    · exact RfAt.mk HRF.out (fun k e => .inl e)
  case round =>
    obtain ⟨cs, q, f, rfl, hq, hqe, hRc, hf, hst, hfr⟩ := hrel
    have HST : Hid (RfAt wr Rb (gF F Y wr) cc cs) := hst
    have HFR : Hid (Fr F Y wr) := hfr
    have HQE : Hid (q = (logN cs).length) := hqe
    have HRC : Hid (RR = cs ++ redoN f ((St.new cc).doAll cs) (log.extract q log.size)) := hRc
    clear hst hfr hqe hRc
    have HSZ : Hid ((log.extract q log.size).size = log.size - q) := size_suffix log q
    have HXX := extract_extract log q
    generalize hx : log.extract q log.size = x at *
    have HDN := done_any Rb (gF F Y wr) cc cs x wr HST.out (by rw [HSZ.out]; unfold maxLen; omega)
    have HXH : Hid (log.extract q log.size = x) := hx
    go_wp2_with fail
    refine HDN.mono ?_
    clear HDN
    intro e w2 hp
    cases hn : nextC ((St.new cc).doAll cs) x with
    | none =>
      rw [hn] at hp
      obtain ⟨rfl, hb⟩ := hp
      have HE : Hid (RR = cs) := by
        show _ = _
        rw [HRC.out]
        cases f with
        | zero => exact List.append_nil _
        | succ f => rw [redoN_none hn, List.append_nil]
      have HB : Hid (Below wr.heap.size wr w2) := hb
      clear hb hn
      go_wp2_with fail
      go_ret3
      rw [HE.out]
      have hz := HFR.out.size
      have hz2 := HB.out.size
      have hcc := HCC.out
      subst hcc
      refine ⟨Rb, by rw [HQE.out]; rfl, HST.out.keep (S := fun _ => False) (Fr.of_below HB.out) (fun _ _ e => e) (fun k e => ?_), HBY.out.trans ((HFR.out.below HYZ.out (fun k e => (HF0.out k e).1)).trans (HB.out.mono (by have := HYZ.out; omega)))⟩
      rcases e with e | e
      · have h9 := HF0.out k e
        exact ⟨h9.1, by omega⟩
      · exact ⟨by have := HYZ.out; omega, by omega⟩
    | some c =>
      rw [hn] at hp
      obtain ⟨rfl, hst, hfr⟩ := hp
      obtain ⟨l1, l2⟩ := nextC_le hn
      have hpos := c.pos
      obtain ⟨f', rfl⟩ : ∃ f', f = f' + 1 := ⟨f - 1, by have := HSZ.out; omega⟩
      have HRN : Hid (RR = (cs ++ [c]) ++ redoN f' ((St.new cc).doAll (cs ++ [c])) (log.extract (q + c.nums.length) log.size)) := by
        show _ = _
        rw [HRC.out, redoN_some (by omega) hn, HXX c.nums.length, doAll_append, List.append_assoc]
        rfl
      have HST2 : Hid (RfAt w2 Rb (gF F Y w2) cc (cs ++ [c])) := hst.keep (S := fun _ => False) (Fr.refl _ _) (fun _ _ e => e) (gF_trans HFR.out.size hfr.size)
      have HFR2 : Hid (Fr F Y w2) := Fr.gF HFR.out hfr
      have HLQ : Hid (q + c.nums.length = (logN (cs ++ [c])).length) := by show _ = _; rw [logN_append, List.length_append, ← HQE.out]; simp [logN]
      have hqx : x.size = log.size - q := HSZ.out
      have hpi : ¬ (c.nums.length : Int) = 0 := by omega
      clear hst hfr hn
      generalize hcl : c.nums.length = CL at *
      go_wp2_with fail
      exact ⟨⟨cs ++ [c], q + CL, f', by go_num, by omega, HLQ.out, HRN.out, by omega, HST2.out, HFR2.out⟩, by simp [intOf]; omega⟩

theorem open_any (c : Cf) (b off n cap : Nat) (log : ByteArray) (w : World) (hr : c.right = true) (hn : c.lvs.length = n) (hat : LvAt w b off c.lvs) (hwf : LvWf c.lvs) (hlog : log.size ≤ maxLen) :
    Calls Tryz.prog 10 #[.agg (cfC c b off n cap), .string log] w fun e w' => ∃ X, e = .returned (.tuple #[.pointer (some ⟨X, 0, none⟩), .int .i64 ((logN (redoN log.size (St.new c) log)).length : Int), .int .i64 0]) ∧ StoreAt w' X (fun k => w.heap.size ≤ k ∧ k < w'.heap.size) ((St.new c).doAll (redoN log.size (St.new c) log)) (logC (redoN log.size (St.new c) log)) ∧ Below w.heap.size w w' := by
  refine open_of c b off n cap log _ _ _ w hr hn hat hwf (fun W X F hst hF => ?_)
  refine (redo_any X F (St.new c) ⟨#[]⟩ log W hst hF hlog).mono ?_
  rintro e w' ⟨rfl, h1, h2⟩
  refine ⟨rfl, ?_, h2⟩
  have e : (⟨#[]⟩ : ByteArray) ++ strOfNums (logN (redoN log.size (St.new c) log)) = logC (redoN log.size (St.new c) log) := by
    rw [logC_eq]
    exact str_add [] _
  rw [e] at h1
  exact h1

end Go.Proofs.YthciddpljcbhiabGreatDoor

/- Walks: a question that is Log; a store opened of any log (opened, step). -/
namespace Go.Proofs.YthciddpljcbhiabGreatDoor
open Go Go.RowKit Go.Lib

set_option maxHeartbeats 1000000 in
set_option maxRecDepth 100000 in
theorem asked_log (own : Nat → Nat) (base W D : Nat) (bv : Value) (bs : List Bk) (N : Nat) (i : Nat) (o : Opr) (la : Option Addr) (ln lc : Nat) (ba : Option Addr) (bn bc : Nat) (w : World) (h : WdAt w own base W D bv bs N) (hok : AllOk bs) (hi : i < bs.length) (hk : o.kind = 7) :
    Calls Tryz.prog 22 #[.pointer (some ⟨W, 0, none⟩), bkV (bkG bs i), opV o la ln lc ba bn bc] w fun e w' => e = .returned (.bool true) ∧ Went w w' base W D (N + 1) bs.length := by
  obtain ⟨hb0, hb1, hb2⟩ := box2q w (bkG bs i) o la ln lc ba bn bc
  have HOK : Hid (AllOk bs) := hok
  have hbas := h.bas
  have H0 : Hid (WdAt ((w.alloc (.cells #[.pointer (some ⟨(bkG bs i).X, 0, none⟩), .pointer (some ⟨(bkG bs i).R, 0, none⟩)] 62)).alloc (.cells (opC o la ln lc ba bn bc).toArray 47)) own base W D bv bs N) := h.below hb2
  obtain ⟨e1, e2, e3⟩ := hok i hi
  have HNX := log_any (bkG bs i).X _ (bkG bs i).s _ _ (H0.out.st i hi)
  have HNR := lg_ref _ (H0.out.rf i hi) e3
  rw [← e2] at HNR
  have HB : Hid (Below w.heap.size w ((w.alloc (.cells #[.pointer (some ⟨(bkG bs i).X, 0, none⟩), .pointer (some ⟨(bkG bs i).R, 0, none⟩)] 62)).alloc (.cells (opC o la ln lc ba bn bc).toArray 47))) := hb2
  have HB0 : Hid (((w.alloc (.cells #[.pointer (some ⟨(bkG bs i).X, 0, none⟩), .pointer (some ⟨(bkG bs i).R, 0, none⟩)] 62)).alloc (.cells (opC o la ln lc ba bn bc).toArray 47)).heap[w.heap.size]? = some (.cells #[.pointer (some ⟨(bkG bs i).X, 0, none⟩), .pointer (some ⟨(bkG bs i).R, 0, none⟩)] 62 (0, 0))) := hb0
  have HB1 : Hid (((w.alloc (.cells #[.pointer (some ⟨(bkG bs i).X, 0, none⟩), .pointer (some ⟨(bkG bs i).R, 0, none⟩)] 62)).alloc (.cells (opC o la ln lc ba bn bc).toArray 47)).heap[w.heap.size + 1]? = some (.cells (opC o la ln lc ba bn bc).toArray 47 (0, 0))) := hb1
  clear h hok hb0 hb1 hb2 e1 e2 e3
  generalize (bkG bs i).lg = nw at *
  go_enter Tryz.func22, Tryz.ntmps22
  go_upto_region 1 with fail
  generalize (w.alloc (.cells #[.pointer (some ⟨(bkG bs i).X, 0, none⟩), .pointer (some ⟨(bkG bs i).R, 0, none⟩)] 62)).alloc (.cells (opC o la ln lc ba bn bc).toArray 47) = w0 at *
  have c0 : w0.cell? ⟨w.heap.size, 0, none⟩ = some (.pointer (some ⟨(bkG bs i).X, 0, none⟩)) := cell_blk HB0.out rfl
  have c1 : w0.cell? ⟨w.heap.size, 1, none⟩ = some (.pointer (some ⟨(bkG bs i).R, 0, none⟩)) := cell_blk HB0.out rfl
  have p0 : w0.cell? ⟨w.heap.size + 1, 0, none⟩ = some (.int .i64 o.kind) := cell_blk HB1.out rfl
  rw [hk] at p0
  go_wp2_with fail
  refine HNX.mono ?_
  rintro e w1 ⟨rfl, h1⟩
  obtain rfl := h1.symm
  clear HNX
  go_wp2_with fail
  refine HNR.mono ?_
  rintro e w2 ⟨rfl, h2⟩
  have H2 : Hid (WdAt w2 own base W D bv bs N) := H0.out.below h2
  have HB2 : Hid (Below w.heap.size w w2) := HB.out.trans (h2.mono HB.out.size)
  clear HNR h2 c0 c1 p0
  go_wp2_with fail
  go_ret
  exact ⟨rfl, ⟨_, _, _, H2.out.more (Nat.le_succ _), HOK.out, Nat.le_refl _⟩, HB2.out.mono hbas⟩

/-- Open of any log, whatever the configuration. -/
theorem opened_any (own : Nat → Nat) (base W D : Nat) (bv : Value) (bs : List Bk) (N : Nat) (a : Option Addr) (n cap : Nat) (ls : List Lv) (span keep : Int) (log : ByteArray) (w : World) (h : WdAt w own base W D bv bs N) (hok : AllOk bs) (hl : IsLvs w a n ls) (hwf : LvWf ls) (hn : n ≤ 7000000000000) (hbs : bs.length ≤ 2000000000000) (hlog : log.size ≤ maxLen) :
    Calls Tryz.prog 6 #[.pointer (some ⟨W, 0, none⟩), .agg #[.int .i64 span, .int .i64 keep, .slice a n cap], .string log] w fun e w' => e = .returned (.bool true) ∧ Went w w' base W D N (bs.length + 1) ∧ Fr (fun k => own k = 1 ∨ own k = 2) w w' := by
  cases hr : rightB span keep ls with
  | false =>
    refine (opened_no W a n cap ls span keep _ w hl hwf hn hr).mono ?_
    rintro e w' ⟨rfl, hb⟩
    exact ⟨rfl, ⟨⟨own, bv, bs, h.below hb, hok, Nat.le_succ _⟩, hb.mono h.bas⟩, Fr.of_below hb⟩
  | true =>
    have hnl := hl.1
    refine (opened_fr own base W D bv bs N a n cap ls span keep log _ ((St.new ⟨span, keep, ls⟩).doAll (redoN log.size (St.new ⟨span, keep, ls⟩) log)) (logC (redoN log.size (St.new ⟨span, keep, ls⟩) log)) (redoN log.size (St.new ⟨span, keep, ls⟩) log) w h hl hr hbs (fun V b hat => open_any ⟨span, keep, ls⟩ b 0 n (n + 1) log V hr hnl hat hwf hlog) (fun V hV => open_ref_any a n cap ls span keep log V hV hwf hr hlog)).mono ?_
    rintro e w' ⟨rfl, ⟨own', bv', X, R, h1⟩, h2, h3⟩
    exact ⟨rfl, ⟨⟨own', bv', _, h1, ok_new hok ⟨rfl, rfl, redoN_Acc _ _ _⟩, by simp⟩, h2⟩, h3⟩

set_option maxHeartbeats 1000000 in
set_option maxRecDepth 100000 in
theorem step_open (own : Nat → Nat) (base W D : Nat) (bv : Value) (bs : List Bk) (N : Nat) (o : Opr) (la : Option Addr) (ln lc : Nat) (ba : Option Addr) (bn bc : Nat) (w : World) (h : WdAt w own base W D bv bs N) (hok : AllOk bs) (hbs : bs.length ≤ 2000000000000) (hin : OpIn w o la ln ba bn) (hwf : OpWf o) (k1 : o.kind = 8) :
    Calls Tryz.prog 7 #[.pointer (some ⟨W, 0, none⟩), opV o la ln lc ba bn bc] w fun e w' => e = .returned (.bool true) ∧ Went w w' base W D (N + 1) (bs.length + 1) := by
  have hbx : Below w.heap.size w (w.alloc (.cells (opC o la ln lc ba bn bc).toArray 47)) := (Below.refl _ _).alloc (Nat.le_refl _) _
  have HBK0 : Hid ((w.alloc (.cells (opC o la ln lc ba bn bc).toArray 47)).heap[w.heap.size]? = some (.cells (opC o la ln lc ba bn bc).toArray 47 (0, 0))) := heap_alloc_new _ _
  have HBX : Hid (Below base w (w.alloc (.cells (opC o la ln lc ba bn bc).toArray 47))) := hbx.mono h.bas
  have HOP := opened_any own base W D bv bs N la ln lc o.lvs o.span o.keep o.s _ (h.below hbx) hok (hin.lv.from hbx) hwf.lvs hin.ln hbs hwf.s
  clear h hok hin hwf hbx
  go_enter Tryz.func7, Tryz.ntmps7
  go_upto_region 1 with fail
  generalize w.alloc (.cells (opC o la ln lc ba bn bc).toArray 47) = w0 at *
  have p0 : w0.cell? ⟨w.heap.size, 0, none⟩ = some (.int .i64 o.kind) := cell_blk HBK0.out rfl
  have p3 : w0.cell? ⟨w.heap.size, 3, none⟩ = some (.string o.s) := cell_blk HBK0.out rfl
  have p7 : w0.cell? ⟨w.heap.size, 7, none⟩ = some (.int .i64 o.span) := cell_blk HBK0.out rfl
  have p8 : w0.cell? ⟨w.heap.size, 8, none⟩ = some (.int .i64 o.keep) := cell_blk HBK0.out rfl
  have p9 : w0.cell? ⟨w.heap.size, 9, none⟩ = some (.slice la ln lc) := cell_blk HBK0.out rfl
  rw [k1] at p0
  go_wp2_with fail
  refine HOP.mono ?_
  clear HOP
  rintro e w1 ⟨rfl, ⟨⟨own', bv', bs', h1, h2, h3⟩, h4⟩, _⟩
  have HF : Hid (Went w w1 base W D (N + 1) (bs.length + 1)) := ⟨⟨own', bv', bs', h1.more (Nat.le_succ _), h2, h3⟩, HBX.out.trans h4⟩
  clear h1 h2 h3 h4
  go_wp2_with fail
  go_ret
  exact ⟨rfl, HF.out⟩

end Go.Proofs.YthciddpljcbhiabGreatDoor

/- Walks: a step that opens a store again out of a log that was cut (step). -/
namespace Go.Proofs.YthciddpljcbhiabGreatDoor
open Go Go.RowKit Go.Lib

theorem right_wf {c : Cf} (h : c.right = true) : LvWf c.lvs := by
  obtain ⟨h1, h2, _, _, _, _, h7⟩ := Cf.right_parts h
  intro i
  by_cases hi : i < c.lvs.length
  · obtain ⟨a, b, r, _⟩ := h7 i hi
    have hd : (lvG c.lvs i).window ≤ c.span := Int.le_of_dvd (by omega) (Int.dvd_of_emod_eq_zero b)
    have hs : (lvG c.lvs i).rule.size = 3 := by
      simp only [ruleB, Bool.and_eq_true, decide_eq_true_eq] at r
      exact r.1.1.1
    exact ⟨by omega, by omega, by rw [hs]; unfold maxLen; omega⟩
  · have e : lvG c.lvs i = Lv.zero := by simp [lvG, List.getD, List.getElem?_eq_none (by omega : c.lvs.length ≤ i)]
    rw [e]
    simp [Lv.zero, maxLen]
theorem lg_small {w : World} {R : Nat} {F : Nat → Prop} {c : Cf} {cs : List Chg} (h : RfAt w R F c cs) (hacc : Acc (St.new c) cs) : (logC cs).size ≤ 20000000 := by
  obtain ⟨ps, L, lcap, cv, rfl, h⟩ := h
  have h1 := chg_few h
  have h2 := logN_small hacc
  rw [List.length_map] at h2
  rw [logC_eq, strOfNums_size]
  omega

set_option maxHeartbeats 2000000 in
set_option maxRecDepth 100000 in
theorem step_reopen (own : Nat → Nat) (base W D : Nat) (bv : Value) (bs : List Bk) (N : Nat) (o : Opr) (la : Option Addr) (ln lc : Nat) (ba : Option Addr) (bn bc : Nat) (w : World) (h : WdAt w own base W D bv bs N) (hok : AllOk bs) (hbs : bs.length ≤ 2000000000000) (hwf : OpWf o) (k9 : o.kind = 9) :
    Calls Tryz.prog 7 #[.pointer (some ⟨W, 0, none⟩), opV o la ln lc ba bn bc] w fun e w' => e = .returned (.bool true) ∧ Went w w' base W D (N + 1) (bs.length + 1) := by
  have hbx : Below w.heap.size w (w.alloc (.cells (opC o la ln lc ba bn bc).toArray 47)) := (Below.refl _ _).alloc (Nat.le_refl _) _
  have hbk0 : (w.alloc (.cells (opC o la ln lc ba bn bc).toArray 47)).heap[w.heap.size]? = some (.cells (opC o la ln lc ba bn bc).toArray 47 (0, 0)) := heap_alloc_new _ _
  have HH : Hid (WdAt w own base W D bv bs N) := h
  have H0 : Hid (WdAt (w.alloc (.cells (opC o la ln lc ba bn bc).toArray 47)) own base W D bv bs N) := h.below hbx
  have HBK0 : Hid ((w.alloc (.cells (opC o la ln lc ba bn bc).toArray 47)).heap[w.heap.size]? = some (.cells (opC o la ln lc ba bn bc).toArray 47 (0, 0))) := hbk0
  have hz0 : (w.alloc (.cells (opC o la ln lc ba bn bc).toArray 47)).heap.size = w.heap.size + 1 := World.size_alloc _ _
  have HBX : Hid (Below w.heap.size w (w.alloc (.cells (opC o la ln lc ba bn bc).toArray 47))) := hbx
  have HOK : Hid (AllOk bs) := hok
  have HWF : Hid (OpWf o) := hwf
  obtain ⟨o0, o1⟩ := hwf.on
  obtain ⟨va, vc, rfl⟩ := ownForm h.row
  have hbas := h.bas
  clear h hok hwf hbx hbk0
  go_enter Tryz.func7, Tryz.ntmps7
  go_upto_region 1 with fail
  generalize hV : w.alloc (.cells (opC o la ln lc ba bn bc).toArray 47) = w0 at *
  have hb0 : w0.cell? ⟨w.heap.size, 0, none⟩ = some (.int .i64 o.kind) := cell_blk HBK0.out rfl
  rw [k9] at hb0
  have hb1 : w0.cell? ⟨w.heap.size, 1, none⟩ = some (.int .i64 o.on) := cell_blk HBK0.out rfl
  have cw : w0.cell? ⟨W, 0, none⟩ = some (.slice va bs.length vc) := cell_blk H0.out.wb rfl
  have hz0a : w.heap.size + 1 ≤ w0.heap.size := by omega
  have HWL : Hid (w0.heap.size = w.heap.size + 1) := hz0
  clear hV hz0
  by_cases hlen : bs.length = 0
  · rw [hlen] at cw
    go_wp2_with fail
    go_ret
    exact ⟨rfl, ⟨_, _, _, H0.out.more (Nat.le_succ _), HOK.out, Nat.le_succ _⟩, HBX.out.mono hbas⟩
  · have hpos : 0 < bs.length := by omega
    have hi : bki o bs < bs.length := bki_lt hpos
    have HPK : Hid (∀ V : World, Calls Tryz.prog 17 #[.int .i64 o.on, .int .i64 bs.length] V fun e w' => e = .returned (.int .i64 (bki o bs : Nat)) ∧ V = w') := fun V => by
      have h9 := pick_law2 o.on bs.length V o0 o1 (by omega) (by omega)
      rw [bki_eq hpos] at h9
      exact h9
    obtain ⟨g, cap, eg, r0, r1⟩ := H0.out.book (bki o bs) hi
    injection eg with eg1 _ eg2
    subst eg1 eg2
    generalize hII : bki o bs = i at *
    generalize hX : (bkG bs i).X = X at *
    generalize hR : (bkG bs i).R = R at *
    have hne0 : ¬ (bs.length : Int) = 0 := by omega
    have fl : ((bs.length : Int) == 0) = false := by simpa using hne0
    go_upto_region 14 with fail
    clear fl
    have hiI : (i : Int) < (bs.length : Int) := by omega
    have q0 : w0.drew.cell? ⟨W, 0, none⟩ = some (.slice (some ⟨g, 0, none⟩) bs.length vc) := cw
    have q1 : w0.drew.cell? ⟨w.heap.size, 1, none⟩ = some (.int .i64 o.on) := hb1
    have q2 : w0.drew.cell? ⟨g, i * 2, none⟩ = some (.pointer (some ⟨X, 0, none⟩)) := r0
    have q3 : w0.drew.cell? ⟨g, i * 2 + 1, none⟩ = some (.pointer (some ⟨R, 0, none⟩)) := r1
    go_cut [7] from 55 to 68 (fun v wx => v = .pointer (some ⟨w0.heap.size, 0, none⟩) ∧ wx = (w0.alloc (.cells #[.pointer (some ⟨X, 0, none⟩), .pointer (some ⟨R, 0, none⟩)] 62)).drew)
    case first =>
      go_region_held3 (fun w' => w'.cell? ⟨W, 0, none⟩ = some (.slice (some ⟨g, 0, none⟩) bs.length vc) ∧ w'.cell? ⟨w.heap.size, 1, none⟩ = some (.int .i64 o.on) ∧ w'.cell? ⟨g, i * 2, none⟩ = some (.pointer (some ⟨X, 0, none⟩)) ∧ w'.cell? ⟨g, i * 2 + 1, none⟩ = some (.pointer (some ⟨R, 0, none⟩))) (first | exact ⟨q0, q1, q2, q3⟩ | exact ⟨cell_alloc1 q0, cell_alloc1 q1, cell_alloc1 q2, cell_alloc1 q3⟩)
        (first | (go_at_call 17; refine (HPK.out _).mono ?_; rintro e w' ⟨rfl, rfl⟩))
      all_goals go_wp2_with fail
      all_goals go_meet
      all_goals (case rel => exact ⟨rfl, rfl⟩)
    case rest =>
      obtain ⟨rfl, hwc⟩ := hcut
      have hb2 : Below w0.heap.size w0 wc := by rw [hwc]; exact ((Below.refl _ _).alloc (Nat.le_refl _) _).drew
      have hbk : wc.heap[w0.heap.size]? = some (.cells #[.pointer (some ⟨X, 0, none⟩), .pointer (some ⟨R, 0, none⟩)] 62 (0, 0)) := by rw [hwc]; exact heap_alloc_new w0 _
      have hobk : wc.heap[w.heap.size]? = some (.cells (opC o la ln lc ba bn bc).toArray 47 (0, 0)) := by rw [hb2.block _ (by omega)]; exact HBK0.out
      have HBW : Hid (Below w.heap.size w wc) := HBX.out.trans (hb2.mono (by omega))
      have HW2 : Hid (WdAt wc own base W D (.slice (some ⟨g, 0, none⟩) bs.length vc) bs N) := H0.out.below hb2
      have HBK : Hid (wc.heap[w0.heap.size]? = some (.cells #[.pointer (some ⟨X, 0, none⟩), .pointer (some ⟨R, 0, none⟩)] 62 (0, 0))) := hbk
      have HOB : Hid (wc.heap[w.heap.size]? = some (.cells (opC o la ln lc ba bn bc).toArray 47 (0, 0))) := hobk
      have hz2 : w0.heap.size < wc.heap.size := (Array.getElem?_eq_some_iff.1 hbk).1
      generalize hbb : w0.heap.size = bb at *
      have hbw : w.heap.size + 1 ≤ bb := hz0a
      have b0 : wc.cell? ⟨bb, 0, none⟩ = some (.pointer (some ⟨X, 0, none⟩)) := cell_blk hbk rfl
      have b1 : wc.cell? ⟨bb, 1, none⟩ = some (.pointer (some ⟨R, 0, none⟩)) := cell_blk hbk rfl
      have p0 : wc.cell? ⟨w.heap.size, 0, none⟩ = some (.int .i64 o.kind) := cell_blk hobk rfl
      have p2 : wc.cell? ⟨w.heap.size, 2, none⟩ = some (.int .i64 o.a) := cell_blk hobk rfl
      have HOUT : Hid (∀ k, w.heap.size ≤ k → own k = 0) := HH.out.out
      have HWW : Hid (w.heap.size + 1 ≤ bb) := hbw
      clear hwc hb2 hbk hobk hbb HWL hz0a q0 q1 q2 q3 cw hb0 hb1 r0 r1 HBK0 H0 HBX HPK
      obtain ⟨e1, e2, e3⟩ := HOK.out i hi
      obtain ⟨a0, a1⟩ := HWF.out.a
      rw [k9] at p0
      have hrf1 : RfAt wc R (fun k => own k = 5 + 2 * i) (bkG bs i).c (bkG bs i).cs := by have h9 := HW2.out.rf i hi; rw [hR] at h9; exact h9
      have HRF1 : Hid (RfAt wc R (fun k => own k = 5 + 2 * i) (bkG bs i).c (bkG bs i).cs) := hrf1
      have hsmall := lg_small hrf1 e3
      have HLR := lg_ref wc hrf1 e3
      clear hrf1 e1 e2 e3
      generalize logC (bkG bs i).cs = LG at *
      go_wp2_with fail
      refine HLR.mono ?_
      clear HLR
      rintro e w3 ⟨rfl, hb3⟩
      have hz3 := hb3.size
      have HB3 : Hid (Below w.heap.size w w3) := HBW.out.trans (hb3.mono HBW.out.size)
      have H3 : Hid (WdAt w3.drew own base W D (.slice (some ⟨g, 0, none⟩) bs.length vc) bs N) := HW2.out.below hb3.drew
      obtain ⟨ps, L, lcap, cv, hcs, hrs0⟩ := HRF1.out
      have hrs := hrs0.below hb3.drew
      have c0 : w3.drew.cell? ⟨R, 0, none⟩ = some (.int .i64 (bkG bs i).c.span) := hrs.cell 0 _ rfl
      have c1 : w3.drew.cell? ⟨R, 1, none⟩ = some (.int .i64 (bkG bs i).c.keep) := hrs.cell 1 _ rfl
      have c2 : w3.drew.cell? ⟨R, 2, none⟩ = some (.slice (some ⟨L, 0, none⟩) (bkG bs i).c.lvs.length lcap) := hrs.cell 2 _ rfl
      have d1 : w3.drew.cell? ⟨bb, 1, none⟩ = some (.pointer (some ⟨R, 0, none⟩)) := (hb3.drew.cell (p := ⟨bb, 1, none⟩) hz2).trans b1
      have d2 : w3.drew.cell? ⟨w.heap.size, 2, none⟩ = some (.int .i64 o.a) := (hb3.drew.cell (p := ⟨w.heap.size, 2, none⟩) (by show w.heap.size < wc.heap.size; omega)).trans p2
      have oR : own R = 5 + 2 * i := hrs.fR
      have hRl := hrs.lt
      have hln := hrs.len
      have hrw : LvWf (bkG bs i).c.lvs := right_wf (by have h9 := hrs.inv.right; rw [doAll_c] at h9; exact h9)
      have hlt : (pk o.a (LG.size + 1)).toNat ≤ LG.size := by have := pk_range o.a (LG.size + 1) (by omega); omega
      have HPK2 : Hid (∀ V : World, Calls Tryz.prog 17 #[.int .i64 o.a, .int .i64 ((LG.size : Int) + 1)] V fun e w' => e = .returned (.int .i64 ((pk o.a (LG.size + 1)).toNat : Nat)) ∧ V = w') := fun V => by
        have h9 := pick_law2 o.a ((LG.size : Int) + 1) V a0 a1 (by omega) (by omega)
        have h8 := pk_range o.a ((LG.size : Int) + 1) (by omega)
        have h7 : pk o.a ((LG.size : Int) + 1) = ((pk o.a ((LG.size : Int) + 1)).toNat : Nat) := by omega
        rw [h7] at h9
        exact h9
      generalize (pk o.a (LG.size + 1)).toNat = kk at *
      have HOP0 := opened_any own base W D _ bs N (some ⟨L, 0, none⟩) (bkG bs i).c.lvs.length lcap (bkG bs i).c.lvs (bkG bs i).c.span (bkG bs i).c.keep (LG.extract 0 kk) w3.drew H3.out HOK.out ⟨rfl, fun _ => ⟨L, 0, rfl, hrs.lv⟩⟩ hrw (by omega) hbs (by rw [ByteArray.size_extract]; unfold maxLen; omega)
      have HOP : Hid (Calls Tryz.prog 6 #[.pointer (some ⟨W, 0, none⟩), .agg #[.int .i64 (bkG bs i).c.span, .int .i64 (bkG bs i).c.keep, .slice (some ⟨L, 0, none⟩) (bkG bs i).c.lvs.length lcap], .string (LG.extract 0 kk)] w3.drew fun e w' => e = .returned (.bool true) ∧ Went w w' base W D (N + 1) (bs.length + 1) ∧
          (w'.cell? ⟨bb, 1, none⟩ = some (.pointer (some ⟨R, 0, none⟩)) ∧ w'.cell? ⟨R, 0, none⟩ = some (.int .i64 (bkG bs i).c.span) ∧ w'.cell? ⟨R, 1, none⟩ = some (.int .i64 (bkG bs i).c.keep) ∧ w'.cell? ⟨R, 2, none⟩ = some (.slice (some ⟨L, 0, none⟩) (bkG bs i).c.lvs.length lcap) ∧ w'.cell? ⟨w.heap.size, 2, none⟩ = some (.int .i64 o.a))) := by
        refine HOP0.mono ?_
        rintro e w4 ⟨rfl, ⟨⟨own', bv', bs', h1, h2, h3⟩, h4⟩, hf⟩
        have f1 : ¬ (own bb = 1 ∨ own bb = 2) := by have h9 := HOUT.out bb (by omega); omega
        have f2 : ¬ (own w.heap.size = 1 ∨ own w.heap.size = 2) := by have h9 := HOUT.out w.heap.size (Nat.le_refl _); omega
        have f3 : ¬ (own R = 1 ∨ own R = 2) := by omega
        have z1 : bb < w3.drew.heap.size := by show bb < w3.heap.size; omega
        have z2 : w.heap.size < w3.drew.heap.size := by show w.heap.size < w3.heap.size; omega
        exact ⟨rfl, ⟨⟨own', bv', bs', h1.more (Nat.le_succ _), h2, h3⟩, (HB3.out.drew.mono hbas).trans h4⟩,
          (hf.cell (p := ⟨bb, 1, none⟩) z1 f1).trans d1, (hf.cell (p := ⟨R, 0, none⟩) hRl f3).trans c0, (hf.cell (p := ⟨R, 1, none⟩) hRl f3).trans c1, (hf.cell (p := ⟨R, 2, none⟩) hRl f3).trans c2, (hf.cell (p := ⟨w.heap.size, 2, none⟩) z2 f2).trans d2⟩
      clear HOP0 hrs hrs0 hcs hb3 b0 b1 p0 p2 hrw hln oR hRl a0 a1 o0 o1 hX hR
      generalize (bkG bs i).c.span = cspan at *
      generalize (bkG bs i).c.keep = ckeep at *
      generalize (bkG bs i).c.lvs.length = clen at *
      have v1 : IntKind.i64.wrap ((LG.size : Int) + 1) = (LG.size : Int) + 1 := by simp [IntKind.wrap, IntKind.bits, IntKind.signed]; omega
      have hltI : (kk : Int) ≤ (LG.size : Int) := by omega
      go_upto_region 24 with fail
      go_region_held3 (fun w' => w'.cell? ⟨bb, 1, none⟩ = some (.pointer (some ⟨R, 0, none⟩)) ∧ w'.cell? ⟨R, 0, none⟩ = some (.int .i64 cspan) ∧ w'.cell? ⟨R, 1, none⟩ = some (.int .i64 ckeep) ∧ w'.cell? ⟨R, 2, none⟩ = some (.slice (some ⟨L, 0, none⟩) clen lcap) ∧ w'.cell? ⟨w.heap.size, 2, none⟩ = some (.int .i64 o.a)) (first | exact HS4 | exact ⟨d1, c0, c1, c2, d2⟩)
        (first | (go_at_call 17; refine (HPK2.out _).mono ?_; rintro e w' ⟨rfl, rfl⟩) | (go_at_call 6; refine HOP.out.mono ?_; rintro e w4 ⟨rfl, hwent, HS4⟩))
      all_goals go_wp2_with fail
      all_goals go_ret
      all_goals exact ⟨rfl, hwent⟩

end Go.Proofs.YthciddpljcbhiabGreatDoor

/- Walks: Logs: every script is as the document says. -/
namespace Go.Proofs.YthciddpljcbhiabGreatDoor
open Go Go.RowKit Go.Lib

theorem Went.le {w w' : World} {base W D N a b : Nat} (h : Went w w' base W D N a) (hl : a ≤ b) : Went w w' base W D N b := by
  obtain ⟨⟨own', bv', bs', h1, h2, h3⟩, h4⟩ := h
  exact ⟨⟨own', bv', bs', h1, h2, Nat.le_trans h3 hl⟩, h4⟩
theorem stepOk_logs {base W D : Nat} {o : Opr} (hwf : OpWf o) (hk : skipB 7 9 o.kind = false) : StepOkO base W D o := by
  have h := skip_no hk
  by_cases k8 : o.kind = 8
  · intro own bv bs N la ln lc ba bn bc w hw hok hbs hN hin hlow _ hov
    exact step_open own base W D bv bs N o la ln lc ba bn bc w hw hok (by omega) hin hwf k8
  by_cases k9 : o.kind = 9
  · intro own bv bs N la ln lc ba bn bc w hw hok hbs hN hin hlow _ hov
    exact step_reopen own base W D bv bs N o la ln lc ba bn bc w hw hok (by omega) hwf k9
  refine stepOkO_of hwf k8 (by omega) (by omega) k9 (fun k1 k2 k3 own bv bs N i la ln lc ba bn bc w hw hok hi _ hov => ?_)
  by_cases k7 : o.kind = 7
  · exact asked_log own base W D bv bs N i o la ln lc ba bn bc w hw hok hi k7
  · exact asked_none own base W D bv bs N i o la ln lc ba bn bc w hw hok (by omega) (by omega) (by omega) k7

theorem logs_any (a : Option Addr) (n cap : Nat) (l : List Opr) (w : World) (h : IsOps w a n l) (hn : n ≤ 837723145000) (hov : OvAt w) :
    Calls Tryz.prog 3 #[.slice a n cap] w fun e w' => e = .returned (.bool true) ∧ Below w.heap.size w w' := by
  have HP := plays_ov a n cap l 7 9 w h hn hov (fun o ho hk => stepOk_logs (h.2.1 o ho) hk)
  clear h hov
  go_enter Tryz.func3, Tryz.ntmps3
  go_wp2_with fail
  refine HP.mono ?_
  rintro e w1 ⟨rfl, hb⟩
  have HB : Hid (Below w.heap.size w w1) := hb
  clear hb HP
  go_wp2_with fail
  go_ret
  exact ⟨rfl, HB.out⟩

end Go.Proofs.YthciddpljcbhiabGreatDoor

/- A world in which the listed variable reads as listed (the rows' witness). -/
namespace Go.Proofs.YthciddpljcbhiabGreatDoor
open Go Go.ChangeShapes Go.WideShapes Go.ChangeAt Go.RowKit

theorem ladOwn : ownKnob Tryz.prog.godebug = none := by kernel_rfl
theorem ladLaidOut : laidOutB Tryz.prog = true := by kernel_rfl
theorem ladGlobal : Tryz.prog.globalNamed "garner/garnerref.over" = some 0 := by kernel_rfl
theorem ladType : (Tryz.prog.globals[0]?).map (·.type) = some 42 := by kernel_rfl
noncomputable def laidWorld (os : Os) : World :=
  { World.holding Tryz.prog os ⟨#[], #[], []⟩ with heap := (World.holding Tryz.prog os ⟨#[], #[], []⟩).heap.modify 0 fun
      | .cells _ t frozen => .cells #[.int .u8 42, .int .u8 42, .int .u8 42] t frozen
      | o => o }
theorem laidWorld_met (os : Os) (args : Array Value) : laidMetH Tryz.prog Rows.logsRow.laid ((laidWorld os).forCall (fun _ _ => 0) ⟨#[], args, []⟩).memory :=
  laidMet_of_run' 8 (by kernel_rfl) (by kernel_rfl)

end Go.Proofs.YthciddpljcbhiabGreatDoor
