/- Texts of one claim put together: Dkg, Seg, Ctm, Aga, Cut, Cuw. -/
import Derived.Test.YthciddpljcbhiabB5
import Derived.Test.YthciddpljcbhiabB4
import Derived.Deep.DrawnRows

/- Desks beside each other: a desk's blocks as a set (garnerkeep). -/
namespace Go.Proofs.Ythciddpljcbhiab
open Go Go.RowKit Go.Lib

/-- A desk all of whose blocks lie in G. -/
structure DkH (w : World) (G : Nat → Prop) (D X : Nat) (F : Nat → Prop) (s : St) (L lc : Nat) (sv : Value) (lg : ByteArray) : Prop where
  d : DkS w 0 D X F s L lc sv lg
  fG : ∀ k, F k → G k
  dG : G D
  lG : G L
  sG : ∀ k, sv.ownBlock = some k → G k
def DkG (w : World) (G : Nat → Prop) (D : Nat) (s : St) (lg : ByteArray) : Prop := ∃ X F L lc sv, DkH w G D X F s L lc sv lg
section
variable {w w' : World} {G : Nat → Prop} {D X : Nat} {F : Nat → Prop} {s : St} {L lc : Nat} {sv : Value} {lg : ByteArray}
theorem DkH.below (h : DkH w G D X F s L lc sv lg) (hb : Below w.heap.size w w') : DkH w' G D X F s L lc sv lg := ⟨h.d.below hb, h.fG, h.dG, h.lG, h.sG⟩
theorem DkH.mono (h : DkH w G D X F s L lc sv lg) {G' : Nat → Prop} (hG : ∀ k, G k → G' k) : DkH w G' D X F s L lc sv lg := ⟨h.d, fun k e => hG k (h.fG k e), hG _ h.dG, hG _ h.lG, fun k e => hG k (h.sG k e)⟩
theorem DkH.at (h : DkH w G D X F s L lc sv lg) : DkG w G D s lg := ⟨X, F, L, lc, sv, h⟩
theorem DkG.below (h : DkG w G D s lg) (hb : Below w.heap.size w w') : DkG w' G D s lg := let ⟨_, _, _, _, _, h⟩ := h; (h.below hb).at
theorem DkG.mono (h : DkG w G D s lg) {G' : Nat → Prop} (hG : ∀ k, G k → G' k) : DkG w G' D s lg := let ⟨_, _, _, _, _, h⟩ := h; (h.mono hG).at
theorem DkG.inv (h : DkG w G D s lg) : Inv s := let ⟨_, _, _, _, _, h⟩ := h; h.d.inv
theorem DkG.lt (h : DkG w G D s lg) : D < w.heap.size := let ⟨_, _, _, _, _, h⟩ := h; h.d.lt
/-- What leaves the desk's blocks leaves the desk. -/
theorem DkH.keep (h : DkH w G D X F s L lc sv lg) {S : Nat → Prop} (hf : Fr S w w') (hn : ∀ k, G k → ¬ S k) : DkH w' G D X F s L lc sv lg :=
  ⟨⟨by rw [hf.block D h.d.lt (hn D h.dG)]; exact h.d.blk, h.d.st.keep (fun k e hk => hf.block k hk (hn k (h.fG k e))), lvAt_of (At.fr (at_of_lv h.d.lv) hf (hn L h.lG)), owns_fr h.d.sms hf (fun k e => hn k (h.sG k e)), fun k e => ⟨Nat.zero_le _, Nat.lt_of_lt_of_le (h.d.fb k e).2 hf.size⟩, h.d.bD, h.d.nD, h.d.nL, h.d.DL, h.d.bS⟩, h.fG, h.dG, h.lG, h.sG⟩
theorem DkG.keep (h : DkG w G D s lg) {S : Nat → Prop} (hf : Fr S w w') (hn : ∀ k, G k → ¬ S k) : DkG w' G D s lg := let ⟨_, _, _, _, _, h⟩ := h; (h.keep hf hn).at
theorem gF_le {w0 w w1 w3 : World} (h1 : w0.heap.size ≤ w.heap.size) (h2 : w1.heap.size ≤ w3.heap.size) (hFG : ∀ k, F k → G k) : ∀ k, gF F w w1 k → gF G w0 w3 k := by
  intro k e
  rcases e with e | e
  · exact .inl (hFG k e)
  · exact .inr ⟨by omega, by omega⟩
theorem DkH.wrote {w0 : World} (h0 : w0.heap.size ≤ w.heap.size) (hfr : Fr G w0 w) (h : DkH w G D X F s L lc sv lg) {w1 w3 : World} {ls : List Sm} {sv' : Value} {lg' : ByteArray} (hst : StoreAt w1 X (gF F w w1) (s.wr ls) lg') (hf : Fr F w w1) (hg : w1.grownBy w3 sv.ownBlock)
    (ho : w3.ownsRow 0 75 5 sv' (s.l.length + ls.length) (flatS s.l ++ flatS ls)) (hk : sv'.ownBlock = sv.ownBlock ∨ ∀ k, sv'.ownBlock = some k → w1.heap.size ≤ k) :
    DkH (w3.setCell ⟨D, 5, none⟩ sv') (gF G w0 (w3.setCell ⟨D, 5, none⟩ sv')) D X (gF F w w1) (s.wr ls) L lc sv' lg' ∧ Fr G w0 (w3.setCell ⟨D, 5, none⟩ sv') := by
  have hs3 : (w3.setCell ⟨D, 5, none⟩ sv').heap.size = w3.heap.size := by simp [World.setCell]
  have hz1 := hf.size
  have hz3 := hg.size
  refine ⟨⟨(h.d.wrote hst hf hg ho hk).1, gF_le h0 (by omega) h.fG, .inl h.dG, .inl h.lG, fun k e => ?_⟩, hfr.trans (S' := G) (((hf.mono h.fG).grown hg (fun k e => .inl (h.sG k e))).setCell (.inl h.dG) _) (fun k e => .inl e)⟩
  rcases hk with hk | hk
  · rw [hk] at e; exact .inl (h.sG k e)
  · have h1 := hk k e
    have h2 := (ho.lt k e).2
    exact .inr ⟨by omega, by omega⟩
theorem DkH.ticked (h : DkH w G D X F s L lc sv lg) {w1 : World} {n m : Int} {lg' : ByteArray} (hst : StoreAt w1 X (gF F w w1) (s.tk n) lg') (hf : Fr F w w1) (hm : m = s.now + n) :
    DkH (w1.setCell ⟨D, 4, none⟩ (.int .i64 m)) (gF G w (w1.setCell ⟨D, 4, none⟩ (.int .i64 m))) D X (gF F w w1) (s.tk n) L lc sv lg' ∧ Fr G w (w1.setCell ⟨D, 4, none⟩ (.int .i64 m)) := by
  have hs3 : (w1.setCell ⟨D, 4, none⟩ (.int .i64 m)).heap.size = w1.heap.size := by simp [World.setCell]
  exact ⟨⟨(h.d.ticked hst hf hm).1, gF_le (Nat.le_refl _) (by omega) h.fG, .inl h.dG, .inl h.lG, fun k e => .inl (h.sG k e)⟩, (hf.mono h.fG).setCell (.inl h.dG) _⟩
end

set_option maxHeartbeats 2000000 in
set_option maxRecDepth 100000 in
theorem writes_g (G : Nat → Prop) (D X : Nat) (F : Nat → Prop) (s : St) (L lc : Nat) (sv : Value) (lg : ByteArray) (a : Option Addr) (n cap : Nat) (ls : List Sm) (w : World) (h : DkH w G D X F s L lc sv lg) (hs : IsSms w a n ls) (hn : n ≤ 9000000000000) (hwf : ∀ x ∈ ls, x.wf) (hwf' : SmWf ls) (hout : 0 < n → ∀ b off, a = some ⟨b, off, none⟩ → ¬ F b) :
    Calls Try.prog 22 #[.pointer (some ⟨D, 0, none⟩), .slice a n cap] w fun e w' => e = .returned (.bool true) ∧ DkG w' (gF G w w') D (s.try' ls) (tryL s ls lg) ∧ Fr G w w' := by
  obtain ⟨Z, hZ, hmk⟩ := make42m n (by omega)
  have hcp := fun ty => copy42n w Z a n cap ls hZ hs ty
  have HI := h.d.inv
  have HFN := fine_iff HI ls
  obtain ⟨sa, sc, rfl⟩ := ownForm h.d.sms
  have hb1 : Below w.heap.size w (w.alloc (.cells (flatS ls).toArray 75)) := (Below.refl _ _).alloc (Nat.le_refl _) _
  have HH1 : Hid (DkH (w.alloc (.cells (flatS ls).toArray 75)) G D X F s L lc (.slice sa s.l.length sc) lg) := h.below hb1
  have HD1 : Hid (DkS (w.alloc (.cells (flatS ls).toArray 75)) 0 D X F s L lc (.slice sa s.l.length sc) lg) := HH1.out.d
  have HS1 : Hid (IsSms (w.alloc (.cells (flatS ls).toArray 75)) a n ls) := hs.below hb1
  have HM1 : Hid (SmAt (w.alloc (.cells (flatS ls).toArray 75)) w.heap.size 0 ls) := smAt_of (at_alloc_new w (flatS ls) 75)
  have HG : Hid (¬ F w.heap.size) := fun e => by have := (h.d.fb _ e).2; omega
  have HN : Hid (ls.length = n) := hs.1
  have HB1 : Hid (Fr G w (w.alloc (.cells (flatS ls).toArray 75))) := Fr.of_below hb1
  have c0 := HD1.out.cell 0 _ rfl
  have c5 := HD1.out.cell 5 _ rfl
  have HI' : Hid (Inv s) := HI
  have HWF : Hid (∀ x ∈ ls, x.wf) := hwf
  have HWF' : Hid (SmWf ls) := hwf'
  have HO : Hid (0 < n → ∀ b off, a = some ⟨b, off, none⟩ → ¬ F b) := hout
  have HL5 := HI.len
  obtain ⟨li0, hli, lz0, lz1, lz2⟩ := infP Try.info75'
  have HWS : w.heap.size < (w.alloc (.cells (flatS ls).toArray 75)).heap.size := by simp
  have HDl := HD1.out.lt
  clear h hs hZ HI hb1 hwf hwf' hout
  generalize hW1 : w.alloc (.cells (flatS ls).toArray 75) = w1 at *
  by_cases hf : fineB s ls = true
  · have he : wrE s ls = 0 := HFN.1 hf
    obtain ⟨b1, b2, b3⟩ := (batE_zero ls).1 (wrE_ok he).1
    have hn1 : 1 ≤ n := by rw [← HN.out]; exact b1
    have hn8 : n ≤ 8 := by rw [← HN.out]; exact b2
    obtain ⟨b, off, rfl, hat⟩ := HS1.out.2 (by omega)
    have hbF := HO.out (by omega) b off rfl
    have HE : Hid (wrE s ls = 0) := he
    have HFB : Hid (fineB s ls = true) := hf
    clear b1 b2 b3 he hf HFN
    go_enter Try.func22, Try.ntmps22
    go_wp2_with fail
    refine (fine_any D X s L s.c.lvs.length lc sa sc (some ⟨b, off, none⟩) n cap ls _ HI'.out HD1.out.blk HS1.out (by unfold maxLen; omega)).mono ?_
    rintro e w2 ⟨rfl, d, rfl⟩
    rw [HFB.out]
    go_wp2_with fail
    refine (write_yes X F s w.heap.size 0 n n ls lg (w1.drewN d) (HD1.out.below (below_drewN (Below.refl _ _) d)).st HN.out HM1.out HG.out HWF.out HWF'.out HE.out).mono ?_
    rintro e w3 ⟨rfl, hst, hfr⟩
    have HHd : Hid (DkH (w1.drewN d) G D X F s L lc (.slice sa s.l.length sc) lg) := HH1.out.below (below_drewN (Below.refl _ _) d)
    have HDd : Hid (DkS (w1.drewN d) 0 D X F s L lc (.slice sa s.l.length sc) lg) := HHd.out.d
    obtain ⟨hblk, hlv, hsm, hbl, hDl⟩ := HDd.out.fr hfr
    have d5 := cell_blk (o := 5) hblk rfl
    have z5 := froz_blk (o := 5) hblk
    have hat3 : SmAt w3 b off ls := smAt_of (At.fr (at_of_sm hat) (show Fr F w1 w3 from ⟨hfr.os, hfr.tape, hfr.output, hfr.size, hfr.block⟩) hbF)
    have HST : Hid (StoreAt w3 X (gF F (w1.drewN d) w3) (s.wr ls) (lg ++ strOfNums (recB ls))) := hst
    have HFR : Hid (Fr F (w1.drewN d) w3) := hfr
    have HSM : Hid (w3.ownsRow 0 75 5 (.slice sa s.l.length sc) s.l.length (flatS s.l)) := hsm
    have HAT : Hid (∀ j u, (flatS ls)[j]? = some u → w3.cell? ((⟨b, off, none⟩ : Addr).add j) = some u) := fun j u hj => by rw [Addr.add_lit]; exact at_of_sm hat3 j u hj
    have HSD : Hid ((Value.slice sa s.l.length sc).ownBlock ≠ some D) := fun e => (HDd.out.bS D e).2.2.1 rfl
    clear hst hfr hblk hlv hsm hbl hat3 hat c0 c5
    go_wp2_with (refine listAppend rfl (.tmp 31) (.tmp 32) 29 rfl 0 75 li0 (.agg #[.int .i64 0, .int .u8 0, .int .u8 0, .int .u8 0, .int .i32 0]) 5 16 Try.underlying29 hli lz0 lz1 lz2 rfl (by decide) (.slice sa s.l.length sc) s.l.length (flatS s.l) (by simp [Act.eval]) HSM.out ⟨b, off, none⟩ n cap (flatS ls) (by simp [Act.eval]) (by rw [flatS_len, HN.out]) HAT.out (flatS_one ls) (by unfold maxLen; omega) (by omega) (Nat.zero_le _) ?_; intro sv' w4 hown hgrow hblk; have d4 : w4.cell? ⟨D, 5, none⟩ = some (.slice sa s.l.length sc) := hgrow.cell d5 (fun e => HSD.out e.symm); have z4 : w4.frozen? ⟨D, 5, none⟩ = false := (World.frozen?_of_block (hgrow.block D hDl (fun e => HSD.out e.symm))).trans z5; obtain ⟨a', p', rfl⟩ := ownForm hown)
    go_ret
    have HFd : Fr G w (w1.drewN d) := HB1.out.trans (S' := G) (Fr.of_below (below_drewN (Below.refl _ _) d)) (fun k e => .inl e)
    obtain ⟨g1, g2⟩ := DkH.wrote HFd.size HFd HHd.out HST.out HFR.out hgrow (by rw [HN.out]; exact hown) hblk
    refine ⟨rfl, ?_, ?_⟩
    · unfold St.try' tryL
      rw [HFB.out]
      exact g1.at
    · exact g2
  · have he : wrE s ls ≠ 0 := fun e => hf (HFN.2 e)
    obtain ⟨e0, e1⟩ := wrE_le s ls
    have HE : Hid (wrE s ls ≠ 0) := he
    have HFB : Hid (fineB s ls = false) := by show fineB s ls = false; simpa using hf
    have hbq : (wrE s ls != 0) = true := by simpa using he
    clear he hf HFN
    go_enter Try.func22, Try.ntmps22
    go_wp2_with fail
    refine (fine_any D X s L s.c.lvs.length lc sa sc a n cap ls _ HI'.out HD1.out.blk HS1.out (by unfold maxLen; omega)).mono ?_
    rintro e w2 ⟨rfl, d, rfl⟩
    rw [HFB.out]
    go_wp2_with fail
    refine (write_no X F s (some ⟨w.heap.size, 0, none⟩) n n ls (w1.drewN d) (HD1.out.below (below_drewN (Below.refl _ _) d)).st ⟨HN.out, fun _ => ⟨_, _, rfl, HM1.out⟩⟩ (by unfold maxLen; omega) HE.out).mono ?_
    rintro e w3 ⟨rfl, hb3⟩
    generalize hq : wrE s ls = E at *
    go_wp2_with fail
    go_ret
    refine ⟨rfl, ?_, ?_⟩
    · unfold St.try' tryL
      rw [HFB.out]
      exact (((HH1.out.below (below_drewN (Below.refl _ _) d)).below hb3).mono (fun k e => .inl e)).at
    · exact HB1.out.trans (S' := G) (Fr.of_below (show Below w1.heap.size w1 w3 from ⟨hb3.os, hb3.tape, hb3.output, hb3.size, hb3.block⟩)) (fun k e => .inl e)

set_option maxHeartbeats 2000000 in
set_option maxRecDepth 100000 in
theorem ticks_g (G : Nat → Prop) (D : Nat) (s : St) (lg : ByteArray) (n : Int) (w : World) (h : DkG w G D s lg) (h0 : -9223372036854775808 ≤ n) (h1 : n ≤ 9223372036854775807) :
    Calls Try.prog 20 #[.pointer (some ⟨D, 0, none⟩), .int .i64 n] w fun e w' => e = .returned (.bool true) ∧ DkG w' (gF G w w') D (s.tick' n) (tickL s n lg) ∧ Fr G w w' := by
  obtain ⟨X, F, L, lc, sv, h⟩ := h
  have HH : Hid (DkH w G D X F s L lc sv lg) := h
  have HD : Hid (DkS w 0 D X F s L lc sv lg) := h.d
  have c0 := h.d.cell 0 _ rfl
  have c4 := h.d.cell 4 _ rfl
  have HI := h.d.inv
  have n0 := HI.n0
  have n1 := HI.n1
  clear h
  by_cases he : tkE s n = 0
  · obtain ⟨e1, e2, e3⟩ := tkE_zero he
    have HE : Hid (tkE s n = 0) := he
    clear he HI
    go_enter Try.func20, Try.ntmps20
    go_wp2_with fail
    refine (tick_yes X F s n lg w HD.out.st HE.out).mono ?_
    rintro e w1 ⟨rfl, hst, hfr⟩
    obtain ⟨hblk, hlv, hsm, hbl, hDl⟩ := HD.out.fr hfr
    have d4 := cell_blk (o := 4) hblk rfl
    have z4 := froz_blk (o := 4) hblk
    clear hblk hlv hsm hbl
    have HST : Hid (StoreAt w1 X (gF F w w1) (s.tk n) (lg ++ strOfNums (tickB n))) := hst
    have HFR : Hid (Fr F w w1) := hfr
    clear hst hfr
    go_wp2_with fail
    go_ret
    obtain ⟨g1, g2⟩ := HH.out.ticked HST.out HFR.out rfl
    refine ⟨rfl, ?_, g2⟩
    unfold St.tick' tickL
    rw [if_pos HE.out, if_pos HE.out]
    exact g1.at
  · obtain ⟨e8, hr⟩ := tkE_no he
    have HE : Hid (tkE s n ≠ 0) := he
    have HR : Hid (DkG w (gF G w w) D (s.tick' n) (tickL s n lg)) := by
      unfold St.tick' tickL
      show DkG _ _ _ _ _
      rw [if_neg he, if_neg he]
      exact (HH.out.mono (fun k e => .inl e)).at
    clear he HI
    have hd : 100000 < s.now + n → decide (s.now + n ≤ 100000) = false := fun h => by simp; omega
    rcases hr with hr | ⟨hr, hr2⟩ | ⟨hr, hr2, hr3⟩
    case' inr.inr => have hd' := hd hr3
    all_goals
      clear hd
      go_enter Try.func20, Try.ntmps20
      go_wp2_with fail
      refine (tick_no X F s n w HD.out.st h0 h1 HE.out).mono ?_
      rintro e w1 ⟨rfl, rfl⟩
      go_wp2_with fail
      go_ret
      exact ⟨rfl, HR.out, Fr.refl _ _⟩

end Go.Proofs.Ythciddpljcbhiab

/- Desks beside each other: a desk made, a step (garnerkeep). -/
namespace Go.Proofs.Ythciddpljcbhiab
open Go Go.RowKit Go.Lib

set_option maxHeartbeats 2000000 in
set_option maxRecDepth 100000 in
theorem seated_g (a : Option Addr) (n cap : Nat) (ls : List Lv) (span keep : Int) (w : World) (hls : IsLvs w a n ls) (hwf : LvWf2 ls) (s0 : -9223372036854775808 ≤ span) (s1 : span ≤ 9223372036854775807) (k0 : -9223372036854775808 ≤ keep) (k1 : keep ≤ 9223372036854775807) :
    Calls Try.prog 10 #[.agg #[.int .i64 span, .int .i64 keep, .slice a n cap]] w fun e w' => ∃ D, e = .returned (.pointer (some ⟨D, 0, none⟩)) ∧ DkG w' (fun k => w.heap.size ≤ k ∧ k < w'.heap.size) D (St.new (conf span keep ls)) ⟨#[]⟩ ∧ Below w.heap.size w w' := by
  have HR : Hid ((conf span keep ls).right = true) := conf_right span keep ls
  have HLS : Hid (IsLvs w a n ls) := hls
  have HWF : Hid (LvWf2 ls) := hwf
  have HB0 : Hid (Below w.heap.size w (w.alloc (.cells #[.int .i64 span, .int .i64 keep, .slice a n cap] 24))) := (Below.refl _ _).alloc (Nat.le_refl _) _
  have HL0 : Hid (IsLvs (w.alloc (.cells #[.int .i64 span, .int .i64 keep, .slice a n cap] 24)) a n ls) := IsLvs.below hls HB0.out
  have HCF := config_any a n cap ls span keep _ HL0.out HWF.out s0 s1 k0 k1
  clear hls hwf
  generalize hC : conf span keep ls = C at *
  go_enter Try.func10, Try.ntmps10
  go_wp2_with fail
  refine HCF.mono ?_
  rintro e w1 ⟨b, m, c, rfl, hm, hown, hb1⟩
  subst hm
  have HOW : Hid (w1.ownsRow (w.heap.size + 1) 85 4 (.slice (some ⟨b, 0, none⟩) C.lvs.length c) C.lvs.length (flat C.lvs)) := by show World.ownsRow _ _ _ _ _ _ _; simpa using hown
  have HB1 : Hid (Below w.heap.size w w1) := HB0.out.trans (hb1.mono (by simp))
  have hz1 : w.heap.size < w1.heap.size := by have := hb1.size; simp at this; omega
  clear hown hb1 HCF
  have HB2 : Hid (Below w1.heap.size w1 (w1.alloc (.cells (cfC C b 0 C.lvs.length c) 24))) := (Below.refl _ _).alloc (Nat.le_refl _) _
  have hbl := (HOW.out.lt b rfl)
  have HLV : Hid (LvAt (w1.alloc (.cells (cfC C b 0 C.lvs.length c) 24)) b 0 C.lvs) := lvAt_of ((owns_at HOW.out).below HB2.out hbl.2)
  go_wp2_with fail
  refine (open_empty C b 0 C.lvs.length c _ HR.out rfl HLV.out (right_wf HR.out)).mono ?_
  rintro e w2 ⟨X, rfl, hst, hb2⟩
  obtain ⟨z2, hP⟩ := box3 hb2
  have q0 := cell_blk (o := 0) hP rfl
  have q1 := cell_blk (o := 1) hP rfl
  have q2 := cell_blk (o := 2) hP rfl
  have HST : Hid (StoreAt w2 X (fun k => w1.heap.size + 1 ≤ k ∧ k < w2.heap.size) (St.new C) ⟨#[]⟩) := by show StoreAt _ _ _ _ _; simpa using hst
  have HBB : Hid (Below w.heap.size w w2) := (HB1.out.alloc (by omega) _).trans (hb2.mono (by simp; omega))
  have HL2 : Hid (LvAt w2 b 0 C.lvs) := HLV.out.below hb2 (by simp; omega)
  clear hst hb2 hP
  go_wp2_with fail
  go_ret
  have hd := DkS.new (w := w) (w2 := w2) (L := b) (lc := c) HR.out HST.out (fun k e => ⟨by have := e.1; omega, e.2⟩) HL2.out (fun e => by have := e.1; omega) HBB.out.size
  have hz2 := HBB.out.size
  have hz3 : (w2.alloc (.cells (dkC X (St.new C) b C.lvs.length c (.slice none 0 0)) 31)).heap.size = w2.heap.size + 1 := World.size_alloc _ _
  have hd0 : DkS (w2.alloc (.cells (dkC X (St.new C) b C.lvs.length c (.slice none 0 0)) 31)) 0 w2.heap.size X (fun k => w1.heap.size + 1 ≤ k ∧ k < w2.heap.size) (St.new C) b c (.slice none 0 0) ⟨#[]⟩ :=
    ⟨hd.blk, hd.st, hd.lv, hd.sms, fun k e => ⟨Nat.zero_le _, (hd.fb k e).2⟩, Nat.zero_le _, hd.nD, hd.nL, hd.DL, fun k e => ⟨Nat.zero_le _, (hd.bS k e).2⟩⟩
  exact ⟨w2.heap.size, rfl, ⟨_, _, _, _, _, ⟨hd0, fun k e => ⟨(hd.fb k e).1, (hd.fb k e).2⟩, ⟨by omega, by rw [World.size_alloc]; omega⟩, ⟨by omega, hd.Llt⟩, fun k e => by simp [Value.ownBlock] at e⟩⟩, HBB.out.alloc (by omega) _⟩

set_option maxHeartbeats 2000000 in
set_option maxRecDepth 100000 in
theorem step_g (G : Nat → Prop) (D : Nat) (s : St) (lg : ByteArray) (o : Stp) (ba : Option Addr) (bn bc : Nat) (w : World) (h : DkG w G D s lg) (hGl : ∀ k, G k → k < w.heap.size) (hwf : StpWf o) (hs : IsSms w ba bn o.batch) (hn : bn ≤ 9000000000000) (hb : 0 < bn → ∀ b off, ba = some ⟨b, off, none⟩ → ¬ G b) :
    Calls Try.prog 11 #[.pointer (some ⟨D, 0, none⟩), .agg #[.int .i64 o.kind, .int .i64 o.a, .slice ba bn bc]] w fun e w' => e = .returned (.bool true) ∧ DkG w' (gF G w w') D (s.step o) (stepL s o lg) ∧ Fr G w w' := by
  obtain ⟨⟨w0, w1⟩, ⟨w2, w3⟩, w4⟩ := hwf
  have hbx : Below w.heap.size w (w.alloc (.cells #[.int .i64 o.kind, .int .i64 o.a, .slice ba bn bc] 42)) := (Below.refl _ _).alloc (Nat.le_refl _) _
  have HD : Hid (DkG (w.alloc (.cells #[.int .i64 o.kind, .int .i64 o.a, .slice ba bn bc] 42)) G D s lg) := h.below hbx
  have HS : Hid (IsSms (w.alloc (.cells #[.int .i64 o.kind, .int .i64 o.a, .slice ba bn bc] 42)) ba bn o.batch) := hs.below hbx
  have HBX : Hid (Fr G w (w.alloc (.cells #[.int .i64 o.kind, .int .i64 o.a, .slice ba bn bc] 42))) := Fr.of_below hbx
  have HB : Hid (0 < bn → ∀ b off, ba = some ⟨b, off, none⟩ → ¬ G b) := hb
  have HGL : Hid (∀ k, G k → k < w.heap.size) := hGl
  have HGF : Hid (∀ (w1 w' : World), Fr G w w1 → DkG w' (gF G w1 w') D (s.step' o) (stepL s o lg) → Fr G w1 w' → DkG w' (gF G w w') D (s.step' o) (stepL s o lg) ∧ Fr G w w') := fun w1 w' f1 hd f2 => ⟨hd.mono (gF_le f1.size (Nat.le_refl _) (fun k e => e)), f1.trans (S' := G) f2 (fun k e => .inl e)⟩
  have HW : Hid (SmWf o.batch) := w4
  have HI : Hid (Inv s) := h.inv
  clear h hs hb hbx w4 hGl
  rw [← step_eq]
  by_cases k1 : o.kind = 1
  · have HE : Hid (s.step' o = s.tick' o.a ∧ stepL s o lg = tickL s o.a lg) := ⟨if_pos k1, if_pos k1⟩
    rw [HE.out.1, HE.out.2]
    have hq1 : (o.kind == 1) = true := by simpa using k1
    clear k1
    go_enter Try.func11, Try.ntmps11
    go_wp2_with fail
    refine (ticks_g G D s lg o.a _ HD.out w2 w3).mono ?_
    rintro e w' ⟨rfl, hd, hb⟩
    have HX : Hid (DkG w' (gF G w w') D (s.tick' o.a) (tickL s o.a lg) ∧ Fr G w w') := by
      show _ ∧ _
      have hz := HGF.out _ w' HBX.out (by rw [HE.out.1, HE.out.2]; exact hd) hb
      rw [HE.out.1, HE.out.2] at hz
      exact hz
    clear hd hb
    go_wp2_with fail
    go_ret
    exact ⟨rfl, HX.out.1, HX.out.2⟩
  · by_cases k2 : o.kind = 2
    · have HE : Hid (s.step' o = s.try' (shp s o.batch) ∧ stepL s o lg = tryL s (shp s o.batch) lg) := ⟨by unfold St.step'; rw [if_neg k1, if_pos k2], by unfold stepL; rw [if_neg k1, if_pos k2]⟩
      rw [HE.out.1, HE.out.2]
      obtain ⟨X, F, L, lc, sv, hd⟩ := HD.out
      have HDS : Hid (DkS (w.alloc (.cells #[.int .i64 o.kind, .int .i64 o.a, .slice ba bn bc] 42)) 0 D X F s L lc sv lg) := hd.d
      have HHS : Hid (DkH (w.alloc (.cells #[.int .i64 o.kind, .int .i64 o.a, .slice ba bn bc] 42)) G D X F s L lc sv lg) := hd
      have hq1 : (o.kind == 1) = false := by simpa using k1
      have hq2 : (o.kind == 2) = true := by simpa using k2
      clear hd k2
      go_enter Try.func11, Try.ntmps11
      go_wp2_with fail
      refine (shaped_any 0 D X F s L lc sv lg ba bn bc o.batch _ HDS.out HS.out hn HW.out).mono ?_
      rintro e w' ⟨v, rfl, hown, hb'⟩
      have HD2 : Hid (DkH w' G D X F s L lc sv lg) := HHS.out.below hb'
      have HBW : Hid (Fr G w w') := HBX.out.trans (S' := G) (Fr.of_below hb') (fun k e => .inl e)
      obtain ⟨va, vc, rfl⟩ := ownForm hown
      have HSS : Hid (IsSms w' va (shp s o.batch).length (shp s o.batch)) := ⟨rfl, fun hp => by
        obtain ⟨g, c', he, _⟩ := ownBlockForm hown hp
        injection he with h1 h2 h3
        subst h1
        exact ⟨g, 0, rfl, smAt_of (owns_at hown)⟩⟩
      have HOU : Hid (0 < (shp s o.batch).length → ∀ b off, va = some ⟨b, off, none⟩ → ¬ F b) := fun _ b off e hF => by
        subst e
        have h1 := (hown.lt b rfl).1
        have h2 := (HDS.out.fb b hF).2
        omega
      have hl8 : (shp s o.batch).length ≤ 8 := by simp [shp]; omega
      have HSW := shp_wf HI.out (wf_mem HW.out)
      clear hown hb'
      generalize hsh : shp s o.batch = S at *
      go_wp2_with fail
      refine (writes_g G D X F s L lc sv lg va S.length vc S _ HD2.out HSS.out (by omega) HSW (wf_of HSW) HOU.out).mono ?_
      rintro e w'' ⟨rfl, hd, hb⟩
      have HX : Hid (DkG w'' (gF G w w'') D (s.try' S) (tryL s S lg) ∧ Fr G w w'') := by
        show _ ∧ _
        have hz := HGF.out w' w'' HBW.out (by rw [HE.out.1, HE.out.2]; exact hd) hb
        rw [HE.out.1, HE.out.2] at hz
        exact hz
      clear hd hb
      go_wp2_with fail
      go_ret
      exact ⟨rfl, by rw [hsh]; exact HX.out.1, HX.out.2⟩
    · have hq1 : (o.kind == 1) = false := by simpa using k1
      have hq2 : (o.kind == 2) = false := by simpa using k2
      by_cases k3 : o.kind = 3
      · have HE : Hid (s.step' o = s.try' o.batch ∧ stepL s o lg = tryL s o.batch lg) := ⟨by unfold St.step'; rw [if_neg k1, if_neg k2, if_pos k3], by unfold stepL; rw [if_neg k1, if_neg k2, if_pos k3]⟩
        rw [HE.out.1, HE.out.2]
        obtain ⟨X, F, L, lc, sv, hd⟩ := HD.out
        have HDS : Hid (DkS (w.alloc (.cells #[.int .i64 o.kind, .int .i64 o.a, .slice ba bn bc] 42)) 0 D X F s L lc sv lg) := hd.d
        have HHS : Hid (DkH (w.alloc (.cells #[.int .i64 o.kind, .int .i64 o.a, .slice ba bn bc] 42)) G D X F s L lc sv lg) := hd
        have HOU : Hid (0 < bn → ∀ b off, ba = some ⟨b, off, none⟩ → ¬ F b) := fun hp b off e hF => by
          have h1 := HB.out hp b off e
          exact h1 (HHS.out.fG b hF)
        have hq3 : (o.kind == 3) = true := by simpa using k3
        clear hd k3
        go_enter Try.func11, Try.ntmps11
        go_wp2_with fail
        refine (writes_g G D X F s L lc sv lg ba bn bc o.batch _ HHS.out HS.out hn (wf_mem HW.out) HW.out HOU.out).mono ?_
        rintro e w'' ⟨rfl, hd, hb⟩
        have HX : Hid (DkG w'' (gF G w w'') D (s.try' o.batch) (tryL s o.batch lg) ∧ Fr G w w'') := by
          show _ ∧ _
          have hz := HGF.out _ w'' HBX.out (by rw [HE.out.1, HE.out.2]; exact hd) hb
          rw [HE.out.1, HE.out.2] at hz
          exact hz
        clear hd hb
        go_wp2_with fail
        go_ret
        exact ⟨rfl, HX.out.1, HX.out.2⟩
      · have hq3 : (o.kind == 3) = false := by simpa using k3
        have HE : Hid (s.step' o = s ∧ stepL s o lg = lg) := ⟨by unfold St.step'; rw [if_neg k1, if_neg k2, if_neg k3], by unfold stepL; rw [if_neg k1, if_neg k2, if_neg k3]⟩
        rw [HE.out.1, HE.out.2]
        go_enter Try.func11, Try.ntmps11
        go_wp2_with fail
        go_ret
        exact ⟨rfl, HD.out.mono (fun k e => .inl e), HBX.out⟩

end Go.Proofs.Ythciddpljcbhiab

/- A log that is cut: what is done again (no program). -/
namespace Go.Proofs.Ythciddpljcbhiab
open Go Go.RowKit Go.Lib

theorem nums_head (x : ByteArray) (k : Nat) : nums (x.extract 0 k) = (nums x).take k := by
  unfold nums
  rw [← List.map_take]
  congr 1
  rw [ByteArray.data_extract, Array.toList_extract, List.extract_eq_take_drop]
  simp
theorem get_short {l : List Int} {j i : Nat} {v : Int} {y : ByteArray} (h : nums y = l.take j) (hi : i < j) (hv : l[i]? = some v) : byt y i = v :=
  byt_get h (by rw [List.getElem?_take_of_lt hi]; exact hv)
/-- A record that lacks its end is none. -/
theorem next_short (s : St) (c : Chg) (y : ByteArray) (j : Nat) (hj : j < c.nums.length) (h : nums y = c.nums.take j) : nextC s y = none := by
  have hsz : y.size = j := by
    have := nums_len y
    rw [h, List.length_take] at this
    omega
  have hu : unOk y = false := by
    cases hh : headOk y
    · unfold unOk; rw [hh]; rfl
    · obtain ⟨h2, h87, _, _, h6, _⟩ := (headOk_iff y).1 hh
      cases c with
      | w b =>
        have hb1 : byt y 1 = (b.length : Int) := get_short h (by omega) rfl
        have hl : (Chg.w b).nums.length = 6 + b.length * 11 := recB_len b
        have hc := cN_eq y
        omega
      | t n =>
        have hb0 : byt y 0 = 84 := get_short h (by omega) rfl
        omega
  have ht : tkOk y = false := by
    cases hh : tkOk y
    · rfl
    · obtain ⟨h7, h84, _⟩ := (tkOk_iff y).1 hh
      cases c with
      | w b =>
        have hb0 : byt y 0 = 87 := get_short h (by omega) rfl
        omega
      | t n =>
        have hl : (Chg.t n).nums.length = 7 := tickB_len n
        omega
  unfold nextC
  rw [hu, ht]
  simp
theorem playC_append : ∀ (a : List Stp) (s : St) (b : List Stp), playC s (a ++ b) = playC s a ++ playC (s.doAll (playC s a)) b
  | [], s, b => rfl
  | o :: a, s, b => by
    rw [List.cons_append, playC_cons, playC_append a, playC_cons, List.append_assoc, doAll_append, stepC_do]
theorem stepC_one (s : St) (o : Stp) : stepC s o = [] ∨ ∃ c, stepC s o = [c] := by
  have ht : ∀ b, tryC s b = [] ∨ ∃ c, tryC s b = [c] := fun b => by unfold tryC; split <;> simp
  unfold stepC
  split
  · split <;> simp
  · split
    · exact ht _
    · split
      · exact ht _
      · exact .inl rfl
/-- How long the log is behind the first m steps. -/
def cE (s : St) (l : List Stp) (m : Nat) : Nat := (logN (playC s (l.take m))).length
theorem take_play (s : St) (l : List Stp) (m : Nat) : playC s l = playC s (l.take m) ++ playC (s.doAll (playC s (l.take m))) (l.drop m) := by
  rw [← playC_append, List.take_append_drop]
theorem take_succ_play (s : St) (l : List Stp) (m : Nat) (h : m < l.length) : playC s (l.take (m + 1)) = playC s (l.take m) ++ stepC (s.doAll (playC s (l.take m))) (stpG l m) := by
  rw [List.take_succ_eq_append_getElem h, playC_append, stpG_get l m h]
  show _ ++ (stepC _ _ ++ []) = _
  rw [List.append_nil]
theorem cE_zero (s : St) (l : List Stp) : cE s l 0 = 0 := by simp [cE, playC, logN]
theorem cE_succ (s : St) (l : List Stp) (m : Nat) : cE s l m ≤ cE s l (m + 1) := by
  by_cases h : m < l.length
  · unfold cE
    rw [take_succ_play s l m h, logN_append, List.length_append]
    omega
  · unfold cE
    rw [List.take_of_length_le (by omega), List.take_of_length_le (by omega)]
    exact Nat.le_refl _
theorem cE_mono (s : St) (l : List Stp) (a : Nat) : ∀ d, cE s l a ≤ cE s l (a + d)
  | 0 => Nat.le_refl _
  | d + 1 => Nat.le_trans (cE_mono s l a d) (cE_succ s l (a + d))
theorem cE_all (s : St) (l : List Stp) : cE s l l.length = (logN (playC s l)).length := by unfold cE; rw [List.take_of_length_le (Nat.le_refl _)]
/-- The log's head is the log of the first steps. -/
theorem log_head (s : St) (l : List Stp) (m : Nat) : (logN (playC s l)).take (cE s l m) = logN (playC s (l.take m)) := by
  rw [take_play s l m, logN_append]
  unfold cE
  rw [List.take_left']
  rfl
/-- What is done again out of a log that was cut. -/
theorem cut_redo (s : St) (l : List Stp) (m k : Nat) (x : ByteArray) (hacc : Acc s (playC s l)) (hm : m ≤ l.length) (h1 : cE s l m ≤ k) (h2 : m < l.length → k < cE s l (m + 1)) (hk : k ≤ (logN (playC s l)).length) (hx : nums x = (logN (playC s l)).take k) : redoN x.size s x = playC s (l.take m) := by
  have hac : Acc s (playC s (l.take m)) := by
    rw [take_play s l m, acc_append] at hacc
    exact hacc.1
  by_cases hlt : m < l.length
  · have h2 := h2 hlt
    have hsp : playC s l = playC s (l.take m) ++ (stepC (s.doAll (playC s (l.take m))) (stpG l m) ++ playC (s.doAll (playC s (l.take (m + 1)))) (l.drop (m + 1))) := by
      rw [← List.append_assoc, ← take_succ_play s l m hlt]
      exact take_play s l (m + 1)
    rcases stepC_one (s.doAll (playC s (l.take m))) (stpG l m) with h0 | ⟨c, hc⟩
    · have : cE s l (m + 1) = cE s l m := by unfold cE; rw [take_succ_play s l m hlt, h0, List.append_nil]
      omega
    · have hlen : cE s l (m + 1) = cE s l m + c.nums.length := by
        unfold cE
        rw [take_succ_play s l m hlt, hc, logN_append, List.length_append]
        simp [logN]
      have hx' : nums x = logN (playC s (l.take m)) ++ c.nums.take (k - cE s l m) := by
        rw [hx, hsp, hc, logN_append, List.take_append, logN_append]
        have e1 : logN [c] = c.nums := by simp [logN]
        rw [List.take_of_length_le (show (logN (playC s (l.take m))).length ≤ k from h1), e1, List.take_append_of_le_length (show k - (logN (playC s (l.take m))).length ≤ c.nums.length by unfold cE at *; omega)]
        rfl
      refine redo_acc _ _ _ _ _ (Nat.le_refl _) hac hx' (.inr fun y hy => next_short _ c y _ (by omega) hy)
  · have hml : m = l.length := by omega
    subst hml
    have he := cE_all s l
    have hx' : nums x = logN (playC s (l.take l.length)) ++ [] := by
      rw [hx, List.append_nil, List.take_of_length_le (by omega), List.take_of_length_le (Nat.le_refl _)]
    exact redo_acc _ _ _ _ _ (Nat.le_refl _) hac hx' (.inl rfl)

end Go.Proofs.Ythciddpljcbhiab

/- Walks: Open of a log; Again. -/
namespace Go.Proofs.Ythciddpljcbhiab
open Go Go.RowKit Go.Lib

theorem ba_nil_append (a : ByteArray) : (⟨#[]⟩ : ByteArray) ++ a = a := by apply nums_ba_inj; rw [nums_append]; rfl
theorem open_log (c : Cf) (b off n cap : Nat) (log : ByteArray) (w : World) (hr : c.right = true) (hn : c.lvs.length = n) (hat : LvAt w b off c.lvs) (hs : log.size ≤ maxLen) :
    Calls Try.prog 8 #[.agg (cfC c b off n cap), .string log] w fun e w' => ∃ X, e = .returned (.tuple #[.pointer (some ⟨X, 0, none⟩), .int .i64 ((logN (redoN log.size (St.new c) log)).length : Int), .int .i64 0]) ∧ StoreAt w' X (fun k => w.heap.size ≤ k ∧ k < w'.heap.size) ((St.new c).doAll (redoN log.size (St.new c) log)) (strOfNums (logN (redoN log.size (St.new c) log))) ∧ Below w.heap.size w w' :=
  open_of c b off n cap log _ _ _ w hr hn hat (right_wf hr) fun W X F h hF => (redo_any X F (St.new c) ⟨#[]⟩ log W h hF hs).mono fun e W' ⟨he, h1, h2⟩ => ⟨he, by rw [ba_nil_append] at h1; exact h1, h2⟩
theorem next_first {s : St} {y : ByteArray} (h1 : byt y 0 ≠ 87) (h2 : byt y 0 ≠ 84) : nextC s y = none := by
  unfold nextC
  rw [unOk_first h1, tkOk_no (fun h => h2 h.2.1)]
  simp

set_option maxHeartbeats 2000000 in
set_option maxRecDepth 100000 in
theorem again_any (a : Option Addr) (n cap : Nat) (ls : List Lv) (span keep : Int) (sa : Option Addr) (sn sc : Nat) (l : List Stp) (w : World) (hls : IsLvs w a n ls) (hwf : LvWf2 ls) (s0 : -9223372036854775808 ≤ span) (s1 : span ≤ 9223372036854775807) (k0 : -9223372036854775808 ≤ keep) (k1 : keep ≤ 9223372036854775807)
    (hsc : IsScr w sa sn l) (hsn : sn ≤ 9000000000000) :
    Calls Try.prog 3 #[.agg #[.int .i64 span, .int .i64 keep, .slice a n cap], .slice sa sn sc] w fun e w' => e = .returned (.bool true) ∧ Below w.heap.size w w' := by
  have HB0 : Hid (Below w.heap.size w (w.alloc (.cells #[.int .i64 span, .int .i64 keep, .slice a n cap] 24))) := (Below.refl _ _).alloc (Nat.le_refl _) _
  have HPL := played_any a n cap ls span keep sa sn sc l _ (IsLvs.below hls HB0.out) hwf s0 s1 k0 k1 (IsScr.below hsc HB0.out) hsn
  have hacc : Acc (St.new (conf span keep ls)) (playC (St.new (conf span keep ls)) l) := playC_acc l _ (inv_new (conf_right span keep ls)) (fun o ho x hx => mem_wf (hsc.2.1 o ho).2.2 hx)
  rw [playC_eq] at HPL
  have hc0 : (St.new (conf span keep ls)).c = conf span keep ls := rfl
  clear hls hwf hsc
  generalize playC (St.new (conf span keep ls)) l = cs at *
  generalize hC : conf span keep ls = C at *
  have HAC : Hid (Acc (St.new C) cs) := hacc
  have HSC : Hid (((St.new C).doAll cs).c = C) := doAll_c cs (St.new C)
  have HLGE : Hid ((⟨#[]⟩ : ByteArray) ++ strOfNums (logN cs) = strOfNums (logN cs)) := ba_nil_append _
  have HNU : Hid (nums (strOfNums (logN cs)) = logN cs) := nums_str _ (acc_byte cs _ hacc)
  have HSZ : Hid ((strOfNums (logN cs)).size = (logN cs).length) := strOfNums_size _
  have HR1 : Hid (redoN (strOfNums (logN cs)).size (St.new C) (strOfNums (logN cs)) = cs) := redo_acc cs _ _ _ [] (Nat.le_refl _) hacc (by rw [HNU.out, List.append_nil]) (.inl rfl)
  have HR2 : Hid (redoN (strOfNums (logN cs) ++ ⟨#[88]⟩ ++ strOfNums (logN cs)).size (St.new C) (strOfNums (logN cs) ++ ⟨#[88]⟩ ++ strOfNums (logN cs)) = cs) := redo_acc cs _ _ _ (88 :: logN cs) (Nat.le_refl _) hacc (by rw [nums_append, nums_append, HNU.out, List.append_assoc]; rfl) (.inr fun y hy => by
    have : byt y 0 = 88 := byt_get hy rfl
    exact next_first (by rw [this]; omega) (by rw [this]; omega))
  rw [HLGE.out] at HPL
  generalize hS : (St.new C).doAll cs = S at *
  generalize hLG : strOfNums (logN cs) = LG at *
  have HSZ' : ((logN cs).length : Int) = LG.size := by rw [← HSZ.out]
  have HLN : Hid (((logN cs).length : Int) = LG.size) := HSZ'
  have HS : Hid ((St.new C).doAll cs = S) := hS
  have HLG : Hid (strOfNums (logN cs) = LG) := hLG
  clear hacc hc0 hS hLG HSZ'
  go_enter Try.func3, Try.ntmps3
  go_wp2_with fail
  refine HPL.mono ?_
  rintro e w1 ⟨D, rfl, ⟨X, F, L, lc, sv, hd⟩, hb1⟩
  have HB1 : Hid (Below w.heap.size w w1) := HB0.out.trans (hb1.mono (by simp))
  have HD1 : Hid (DkS w1 (w.heap.size + 1) D X F S L lc sv LG) := by show DkS _ _ _ _ _ _ _ _ _ _; simpa using hd
  have HI : Hid (Inv S) := hd.inv
  have hlgs : LG.size ≤ 800000 := by
    obtain ⟨_, _, _, _, _, _, hst⟩ := hd.st
    exact hst.bytes (by have := hd.inv.len; omega)
  have d0 := HD1.out.cell 0 _ rfl
  clear hb1 HPL hd
  go_wp2_with fail
  refine (log_any X F S LG w1 HD1.out.st).mono ?_
  rintro e w1' ⟨rfl, rfl⟩
  have d1 := HD1.out.cell 1 _ rfl
  have d2 := HD1.out.cell 2 _ rfl
  have d3 := HD1.out.cell 3 _ rfl
  go_wp2_with fail
  refine (open_log S.c L 0 S.c.lvs.length lc LG w1' HI.out.right rfl HD1.out.lv (by unfold maxLen; omega)).mono ?_
  rintro e w2 ⟨Y, rfl, hY, hb2⟩
  rw [HSC.out, HR1.out, HS.out, HLG.out] at hY
  rw [HSC.out, HR1.out, HLN.out]
  have HY2 : Hid (StoreAt w2 Y (fun k => w1'.heap.size ≤ k ∧ k < w2.heap.size) S LG) := hY
  have HD2 : Hid (DkS w2 (w.heap.size + 1) D X F S L lc sv LG) := HD1.out.below hb2
  have HB2 : Hid (Below w.heap.size w w2) := HB1.out.trans (hb2.mono HB1.out.size)
  have d0 := HD2.out.cell 0 _ rfl
  have d1 := HD2.out.cell 1 _ rfl
  have d2 := HD2.out.cell 2 _ rfl
  have d3 := HD2.out.cell 3 _ rfl
  clear hY hb2
  have hsum1 : LG.size + (⟨#[88]⟩ : ByteArray).size ≤ 9223372036854775807 := by show LG.size + 1 ≤ _; omega
  have hsum2 : (LG ++ ⟨#[88]⟩).size + LG.size ≤ 9223372036854775807 := by rw [ByteArray.size_append]; show LG.size + 1 + LG.size ≤ _; omega
  have HS2 : Hid ((LG ++ (⟨#[88]⟩ : ByteArray) ++ LG).size ≤ maxLen) := by
    show _ ≤ _
    rw [ByteArray.size_append, ByteArray.size_append]
    show LG.size + 1 + LG.size ≤ _
    unfold maxLen; omega
  go_wp2_with fail
  clear hsum1 hsum2
  generalize LG ++ (⟨#[88]⟩ : ByteArray) ++ LG = L2 at *
  refine (open_log S.c L 0 S.c.lvs.length lc L2 w2 HI.out.right rfl HD2.out.lv HS2.out).mono ?_
  rintro e w3 ⟨Z, rfl, hZ, hb3⟩
  rw [HSC.out, HR2.out, HS.out, HLG.out] at hZ
  rw [HSC.out, HR2.out, HLN.out]
  have HZ3 : Hid (StoreAt w3 Z (fun k => w2.heap.size ≤ k ∧ k < w3.heap.size) S LG) := hZ
  have HY3 : Hid (StoreAt w3 Y (fun k => w1'.heap.size ≤ k ∧ k < w2.heap.size) S LG) := HY2.out.below hb3
  have HD3 : Hid (DkS w3 (w.heap.size + 1) D X F S L lc sv LG) := HD2.out.below hb3
  have HB3 : Hid (Below w.heap.size w w3) := HB2.out.trans (hb3.mono HB2.out.size)
  have d0 := HD3.out.cell 0 _ rfl
  clear hZ hb3
  go_wp2_with fail
  refine (same_any _ D X F S L lc sv LG X Y F _ LG LG w3 HD3.out HD3.out.st HY3.out).mono ?_
  rintro e w4 ⟨rfl, hb4⟩
  have HZ4 : Hid (StoreAt w4 Z (fun k => w2.heap.size ≤ k ∧ k < w3.heap.size) S LG) := HZ3.out.below hb4
  have HY4 : Hid (StoreAt w4 Y (fun k => w1'.heap.size ≤ k ∧ k < w2.heap.size) S LG) := HY3.out.below hb4
  have HD4 : Hid (DkS w4 (w.heap.size + 1) D X F S L lc sv LG) := HD3.out.below hb4
  have HB4 : Hid (Below w.heap.size w w4) := HB3.out.trans (hb4.mono HB3.out.size)
  have d0 := HD4.out.cell 0 _ rfl
  clear hb4
  go_wp2_with fail
  refine (same_any _ D X F S L lc sv LG X Z F _ LG LG w4 HD4.out HD4.out.st HZ4.out).mono ?_
  rintro e w5 ⟨rfl, hb5⟩
  have HZ5 : Hid (StoreAt w5 Z (fun k => w2.heap.size ≤ k ∧ k < w3.heap.size) S LG) := HZ4.out.below hb5
  have HY5 : Hid (StoreAt w5 Y (fun k => w1'.heap.size ≤ k ∧ k < w2.heap.size) S LG) := HY4.out.below hb5
  have HB5 : Hid (Below w.heap.size w w5) := HB4.out.trans (hb5.mono HB4.out.size)
  clear hb5
  go_wp2_with fail
  refine (log_any Y _ S LG w5 HY5.out).mono ?_
  rintro e w6 ⟨rfl, rfl⟩
  go_wp2_with fail
  refine (log_any Z _ S LG w6 HZ5.out).mono ?_
  rintro e w7 ⟨rfl, rfl⟩
  go_wp2_with fail
  go_ret
  exact ⟨rfl, HB5.out⟩

end Go.Proofs.Ythciddpljcbhiab

/- Two desks and a row of ends beside each other (garnerkeep). -/
namespace Go.Proofs.Ythciddpljcbhiab
open Go Go.RowKit Go.Lib

theorem Try.info3' : (Try.prog.info? 3).map (fun i => (i.zero, i.size, i.bytes)) = some (some (.int .i64 0), 1, 8) := by kernel_rfl
/-- Two desks and an owned row of ints, each in blocks of its own from B on. -/
def Cu (B : Nat) (w : World) (D E : Nat) (s : St) (lg : ByteArray) (s2 : St) (lg2 : ByteArray) (v : Value) (m : Nat) (xs : List Value) : Prop :=
  ∃ G H : Nat → Prop, DkG w G D s lg ∧ DkG w H E s2 lg2 ∧ (∀ k, G k → B ≤ k ∧ k < w.heap.size) ∧ (∀ k, H k → B ≤ k ∧ k < w.heap.size) ∧ (∀ k, G k → ¬ H k) ∧ w.ownsRow B 3 1 v m xs ∧ (∀ k, v.ownBlock = some k → ¬ G k ∧ ¬ H k)
section
variable {B : Nat} {w w' : World} {D E : Nat} {s : St} {lg : ByteArray} {s2 : St} {lg2 : ByteArray} {v : Value} {m : Nat} {xs : List Value}
theorem Cu.swap (h : Cu B w D E s lg s2 lg2 v m xs) : Cu B w E D s2 lg2 s lg v m xs :=
  let ⟨G, H, h1, h2, h3, h4, h5, h6, h7⟩ := h
  ⟨H, G, h2, h1, h4, h3, fun k a b => h5 k b a, h6, fun k e => ⟨(h7 k e).2, (h7 k e).1⟩⟩
theorem Cu.below (h : Cu B w D E s lg s2 lg2 v m xs) (hb : Below w.heap.size w w') : Cu B w' D E s lg s2 lg2 v m xs := by
  obtain ⟨G, H, h1, h2, h3, h4, h5, h6, h7⟩ := h
  have hz := hb.size
  exact ⟨G, H, h1.below hb, h2.below hb, fun k e => ⟨(h3 k e).1, by have := (h3 k e).2; omega⟩, fun k e => ⟨(h4 k e).1, by have := (h4 k e).2; omega⟩, h5, owns_below h6 hb (fun k e => (h6.lt k e).2), h7⟩
theorem Cu.d (h : Cu B w D E s lg s2 lg2 v m xs) : ∃ X F L lc sv, DkS w 0 D X F s L lc sv lg :=
  let ⟨_, _, ⟨X, F, L, lc, sv, h1⟩, _⟩ := h
  ⟨X, F, L, lc, sv, h1.d⟩
theorem Cu.own (h : Cu B w D E s lg s2 lg2 v m xs) : w.ownsRow B 3 1 v m xs := let ⟨_, _, _, _, _, _, _, h6, _⟩ := h; h6
theorem Cu.le (h : Cu B w D E s lg s2 lg2 v m xs) : B ≤ w.heap.size := by
  obtain ⟨G, H, ⟨X, F, L, lc, sv, h1⟩, _, h3, _⟩ := h
  have := h3 D h1.dG
  omega
/-- One desk goes on. -/
theorem Cu.went (G H : Nat → Prop) (h2 : DkG w H E s2 lg2) (h3 : ∀ k, G k → B ≤ k ∧ k < w.heap.size) (h4 : ∀ k, H k → B ≤ k ∧ k < w.heap.size) (h5 : ∀ k, G k → ¬ H k) (h6 : w.ownsRow B 3 1 v m xs) (h7 : ∀ k, v.ownBlock = some k → ¬ G k ∧ ¬ H k) (hB : B ≤ w.heap.size)
    {s' : St} {lg' : ByteArray} (hd : DkG w' (gF G w w') D s' lg') (hf : Fr G w w') : Cu B w' D E s' lg' s2 lg2 v m xs ∧ Below B w w' := by
  have hz := hf.size
  refine ⟨⟨gF G w w', H, hd, h2.keep hf (fun k a b => h5 k b a), fun k e => ?_, fun k e => ⟨(h4 k e).1, by have := (h4 k e).2; omega⟩, fun k e a => ?_, owns_fr h6 hf (fun k e => (h7 k e).1), fun k e => ⟨fun a => ?_, (h7 k e).2⟩⟩, hf.below hB (fun k e => (h3 k e).1)⟩
  · rcases e with e | e
    · have := h3 k e; omega
    · omega
  · rcases e with e | e
    · exact h5 k e a
    · have := h4 k a; omega
  · have h8 := (h6.lt k e).2
    rcases a with a | a
    · exact (h7 k e).1 a
    · omega
/-- The row grows. -/
theorem Cu.grew (h : Cu B w D E s lg s2 lg2 v m xs) {v' : Value} {m' : Nat} {xs' : List Value} (hg : w.grownBy w' v.ownBlock) (ho : w'.ownsRow B 3 1 v' m' xs') (hk : v'.ownBlock = v.ownBlock ∨ ∀ k, v'.ownBlock = some k → w.heap.size ≤ k) : Cu B w' D E s lg s2 lg2 v' m' xs' ∧ Below B w w' := by
  have hB := h.le
  obtain ⟨G, H, h1, h2, h3, h4, h5, h6, h7⟩ := h
  have hz := hg.size
  have hf : Fr (fun k => v.ownBlock = some k) w w' := Fr.grown (Fr.refl _ _) hg (fun k e => .inl e)
  refine ⟨⟨G, H, h1.keep hf (fun k a b => (h7 k b).1 a), h2.keep hf (fun k a b => (h7 k b).2 a), fun k e => ⟨(h3 k e).1, by have := (h3 k e).2; omega⟩, fun k e => ⟨(h4 k e).1, by have := (h4 k e).2; omega⟩, h5, ho, fun k e => ?_⟩, hf.below hB (fun k e => (h6.lt k e).1)⟩
  rcases hk with hk | hk
  · rw [hk] at e; exact h7 k e
  · have := hk k e
    exact ⟨fun a => by have := (h3 k a).2; omega, fun a => by have := (h4 k a).2; omega⟩
end
theorem step_cu (B D E : Nat) (s : St) (lg : ByteArray) (s2 : St) (lg2 : ByteArray) (v : Value) (m : Nat) (xs : List Value) (o : Stp) (ba : Option Addr) (bn bc : Nat) (w : World) (h : Cu B w D E s lg s2 lg2 v m xs) (hwf : StpWf o) (hs : IsSms w ba bn o.batch) (hn : bn ≤ 9000000000000) (hb : 0 < bn → ∀ b off, ba = some ⟨b, off, none⟩ → b < B) :
    Calls Try.prog 11 #[.pointer (some ⟨D, 0, none⟩), .agg #[.int .i64 o.kind, .int .i64 o.a, .slice ba bn bc]] w fun e w' => e = .returned (.bool true) ∧ Cu B w' D E (s.step o) (stepL s o lg) s2 lg2 v m xs ∧ Below B w w' := by
  have hB := h.le
  obtain ⟨G, H, h1, h2, h3, h4, h5, h6, h7⟩ := h
  refine (step_g G D s lg o ba bn bc w h1 (fun k e => (h3 k e).2) hwf hs hn (fun hp b off e a => by have := hb hp b off e; have := (h3 b a).1; omega)).mono ?_
  rintro e w' ⟨rfl, hd, hf⟩
  exact ⟨rfl, Cu.went G H h2 h3 h4 h5 h6 h7 hB hd hf⟩
theorem step_cu2 (B D E : Nat) (s : St) (lg : ByteArray) (s2 : St) (lg2 : ByteArray) (v : Value) (m : Nat) (xs : List Value) (o : Stp) (ba : Option Addr) (bn bc : Nat) (w : World) (h : Cu B w D E s lg s2 lg2 v m xs) (hwf : StpWf o) (hs : IsSms w ba bn o.batch) (hn : bn ≤ 9000000000000) (hb : 0 < bn → ∀ b off, ba = some ⟨b, off, none⟩ → b < B) :
    Calls Try.prog 11 #[.pointer (some ⟨E, 0, none⟩), .agg #[.int .i64 o.kind, .int .i64 o.a, .slice ba bn bc]] w fun e w' => e = .returned (.bool true) ∧ Cu B w' D E s lg (s2.step o) (stepL s2 o lg2) v m xs ∧ Below B w w' :=
  (step_cu B E D s2 lg2 s lg v m xs o ba bn bc w h.swap hwf hs hn hb).mono fun _ _ ⟨h1, h2, h3⟩ => ⟨h1, h2.swap, h3⟩
/-- Two new desks. -/
theorem Cu.new {B D E : Nat} {w1 w2 : World} {s s2 : St} {lg lg2 : ByteArray} {b0 : Nat} (hB : B ≤ b0) (hz : b0 ≤ w1.heap.size) (hd : DkG w1 (fun k => b0 ≤ k ∧ k < w1.heap.size) D s lg) (he : DkG w2 (fun k => w1.heap.size ≤ k ∧ k < w2.heap.size) E s2 lg2) (hb : Below w1.heap.size w1 w2) : Cu B w2 D E s lg s2 lg2 (.slice none 0 0) 0 [] := by
  have := hb.size
  exact ⟨_, _, hd.below hb, he, fun k e => ⟨by have := e.1; omega, by have := e.2; omega⟩, fun k e => ⟨by have := e.1; omega, e.2⟩, fun k a b => by have := a.2; have := b.1; omega, World.ownsRow_nil _ _ _ _, fun k e => by simp [Value.ownBlock] at e⟩
/-- The ends of the first k steps. -/
def endsL (s : St) (l : List Stp) (k : Nat) : List Value := (List.range k).map fun i => Value.int .i64 (cE s l (i + 1))
theorem endsL_succ (s : St) (l : List Stp) (k : Nat) : endsL s l (k + 1) = endsL s l k ++ [Value.int .i64 (cE s l (k + 1))] := by simp [endsL, List.range_succ]
theorem endsL_get (s : St) (l : List Stp) (k i : Nat) (h : i < k) : (endsL s l k)[i]? = some (Value.int .i64 (cE s l (i + 1))) := by simp [endsL, h]
theorem play_size (s : St) (l : List Stp) (k : Nat) : (playP s ⟨#[]⟩ (l.take k)).2.size = cE s l k := by
  rw [playC_eq]
  show ((⟨#[]⟩ : ByteArray) ++ strOfNums _).size = _
  rw [ba_nil_append, strOfNums_size]
  rfl

end Go.Proofs.Ythciddpljcbhiab

/- Walks: Cut (garnerkeep). -/
namespace Go.Proofs.Ythciddpljcbhiab
open Go Go.RowKit Go.Lib

attribute [local go_sem ↓] Go.wp_at_zero Go.wp_at_succ
set_option maxHeartbeats 2000000 in
set_option maxRecDepth 100000 in
theorem cut_any (a : Option Addr) (n cap : Nat) (ls : List Lv) (span keep : Int) (sa : Option Addr) (sn sc : Nat) (l : List Stp) (p : Int) (w : World) (hls : IsLvs w a n ls) (hwf : LvWf2 ls) (s0 : -9223372036854775808 ≤ span) (s1 : span ≤ 9223372036854775807) (k0 : -9223372036854775808 ≤ keep) (k1 : keep ≤ 9223372036854775807)
    (hsc : IsScr w sa sn l) (hsn : sn ≤ 9000000000000) (p0 : -9223372036854775808 ≤ p) (p1 : p ≤ 9223372036854775807) :
    Calls Try.prog 4 #[.agg #[.int .i64 span, .int .i64 keep, .slice a n cap], .slice sa sn sc, .int .i64 p] w fun e w' => e = .returned (.bool true) ∧ Below w.heap.size w w' := by
  have HB0 : Hid (Below w.heap.size w (w.alloc (.cells #[.int .i64 span, .int .i64 keep, .slice a n cap] 24))) := (Below.refl _ _).alloc (Nat.le_refl _) _
  have HSC : Hid (IsScr w sa sn l) := hsc
  have HN : Hid (l.length = sn) := hsc.1
  have HWF : Hid (LvWf2 ls) := hwf
  have HLS : Hid (IsLvs w a n ls) := hls
  have HACC : Hid (Acc (St.new (conf span keep ls)) (playC (St.new (conf span keep ls)) l)) := playC_acc l _ (inv_new (conf_right span keep ls)) (fun o ho x hx => mem_wf (hsc.2.1 o ho).2.2 hx)
  have HCC : Hid (∀ cs, ((St.new (conf span keep ls)).doAll cs).c = conf span keep ls) := fun cs => doAll_c cs _
  have HSE1 := seated_g a n cap ls span keep _ (IsLvs.below hls HB0.out) hwf s0 s1 k0 k1
  have HSE2 : Hid (∀ W, Below w.heap.size w W → Calls Try.prog 10 #[.agg #[.int .i64 span, .int .i64 keep, .slice a n cap]] W fun e w' => ∃ D, e = .returned (.pointer (some ⟨D, 0, none⟩)) ∧ DkG w' (fun k => W.heap.size ≤ k ∧ k < w'.heap.size) D (St.new (conf span keep ls)) ⟨#[]⟩ ∧ Below W.heap.size W w') := fun W hW =>
    seated_g a n cap ls span keep W (IsLvs.below hls hW) hwf s0 s1 k0 k1
  clear hls hwf hsc
  generalize hC : conf span keep ls = C at *
  generalize hS0 : St.new C = S0 at *
  have HS0 : Hid (St.new C = S0) := hS0
  clear hC hS0
  obtain ⟨ii, hii, iz0, iz1, iz2⟩ := infP Try.info3'
  go_enter Try.func4, Try.ntmps4
  go_wp2_with fail
  refine HSE1.mono ?_
  rintro e w1 ⟨D, rfl, hd, hb1⟩
  obtain ⟨z1, hP⟩ := box3 hb1
  have q0 := cell_blk (o := 0) hP rfl
  have q1 := cell_blk (o := 1) hP rfl
  have q2 := cell_blk (o := 2) hP rfl
  have HD1 : Hid (DkG w1 (fun k => w.heap.size + 1 ≤ k ∧ k < w1.heap.size) D S0 ⟨#[]⟩) := by show DkG _ _ _ _ _; simpa using hd
  have HB1 : Hid (Below w.heap.size w w1) := HB0.out.trans (hb1.mono (by simp))
  clear hd hb1 HSE1 hP
  go_wp2_with fail
  refine (HSE2.out w1 HB1.out).mono ?_
  rintro e w2 ⟨E, rfl, he, hb2⟩
  have HCU : Hid (Cu w.heap.size w2 D E S0 ⟨#[]⟩ S0 ⟨#[]⟩ (.slice none 0 0) 0 []) := Cu.new (Nat.le_succ _) (by omega) HD1.out he hb2
  have HB2 : Hid (Below w.heap.size w w2) := HB1.out.trans (hb2.mono (by omega))
  clear he hb2 HSE2 HD1 q0 q1 q2
  have HSTP : Hid (∀ k wr, k < sn → Below w.heap.size w wr → ∃ b off ba bn bc, sa = some ⟨b, off, none⟩ ∧ wr.cell? ⟨b, off + k * 3, none⟩ = some (.int .i64 (stpG l k).kind) ∧ wr.cell? ⟨b, off + k * 3 + 1, none⟩ = some (.int .i64 (stpG l k).a) ∧ wr.cell? ⟨b, off + k * 3 + 2, none⟩ = some (.slice ba bn bc) ∧ StpWf (stpG l k) ∧ IsSms wr ba bn (stpG l k).batch ∧ bn ≤ 9000000000000 ∧ (0 < bn → ∀ b' off', ba = some ⟨b', off', none⟩ → b' < w.heap.size)) := by
    intro k wr hlt hB
    obtain ⟨b, off, e, hbl, hall⟩ := HSC.out.2.2 (by omega)
    obtain ⟨ba, bn, bc, c0, c1, c2, hsm, hbn⟩ := hall k hlt
    refine ⟨b, off, ba, bn, bc, e, (hB.cell (p := ⟨b, off + k * 3, none⟩) hbl).trans c0, (hB.cell (p := ⟨b, off + k * 3 + 1, none⟩) hbl).trans c1, (hB.cell (p := ⟨b, off + k * 3 + 2, none⟩) hbl).trans c2, HSC.out.2.1 _ (by rw [stpG_get l k (by rw [HN.out]; exact hlt)]; exact List.getElem_mem _), hsm.below hB, hbn, fun hp b' off' e => ?_⟩
    obtain ⟨b2, off2, e2, hat⟩ := hsm.2 hp
    rw [e] at e2
    injection e2 with e2
    injection e2 with e2
    rw [e2]
    exact hat.block (by rw [hsm.1]; exact hp)
  have HPS : Hid (∀ k, k < sn → playP S0 ⟨#[]⟩ (l.take (k + 1)) = ((playP S0 ⟨#[]⟩ (l.take k)).1.step (stpG l k), stepL (playP S0 ⟨#[]⟩ (l.take k)).1 (stpG l k) (playP S0 ⟨#[]⟩ (l.take k)).2)) := fun k hk => playP_snoc S0 _ l k (by rw [HN.out]; exact hk)
  clear HSC
  go_wp2_with fail
  go_loopw [9, 10] (fun v i wr => ∃ k : Nat, i = .int .i64 k ∧ k ≤ sn ∧ ∃ va vc, v = .slice va k vc ∧ Cu w.heap.size wr D E (playP S0 ⟨#[]⟩ (l.take k)).1 (playP S0 ⟨#[]⟩ (l.take k)).2 S0 ⟨#[]⟩ (.slice va k vc) k (endsL S0 l k) ∧ Below w.heap.size w wr) (fun _ i _ => sn - (intOf i).toNat)
  case atStart => exact ⟨0, rfl, Nat.zero_le _, none, 0, rfl, HCU.out, HB2.out⟩
  case round =>
    obtain ⟨k, rfl, hk, va, vc, rfl, hcu, hb⟩ := hrel
    have HC : Hid (Cu w.heap.size wr D E (playP S0 ⟨#[]⟩ (l.take k)).1 (playP S0 ⟨#[]⟩ (l.take k)).2 S0 ⟨#[]⟩ (.slice va k vc) k (endsL S0 l k)) := hcu
    have HB : Hid (Below w.heap.size w wr) := hb
    clear hcu hb
    by_cases hlt : k < sn
    · obtain ⟨b, off, ba, bn, bc, rfl, c0, c1, c2, hwx, hsm, hbn, hbl⟩ := HSTP.out k wr hlt HB.out
      have HPK := HPS.out k hlt
      have HSZ := play_size S0 l (k + 1)
      have HES := endsL_succ S0 l k
      have HSM : Hid (IsSms wr ba bn (stpG l k).batch) := hsm
      have HWX : Hid (StpWf (stpG l k)) := hwx
      have HBL : Hid (0 < bn → ∀ b' off', ba = some ⟨b', off', none⟩ → b' < w.heap.size) := hbl
      clear hsm hwx hbl
      generalize stpG l k = Z at *
      generalize hP : playP S0 ⟨#[]⟩ (l.take k) = P at *
      generalize hQ : playP S0 ⟨#[]⟩ (l.take (k + 1)) = Q at *
      generalize hes : endsL S0 l k = ES at *
      have HQ : Hid (playP S0 ⟨#[]⟩ (l.take (k + 1)) = Q) := hQ
      have HPQ : Hid (Q = (P.1.step Z, stepL P.1 Z P.2)) := HPK
      have HE1 : Hid (endsL S0 l (k + 1) = ES ++ [Value.int .i64 (cE S0 l (k + 1))]) := HES
      have HQS : Hid (Q.2.size = cE S0 l (k + 1)) := HSZ
      clear hP hQ hes HPK HES HSZ
      go_wp2_with fail
      refine (step_cu w.heap.size D E P.1 P.2 S0 ⟨#[]⟩ (.slice va k vc) k ES Z ba bn bc wr HC.out HWX.out HSM.out hbn HBL.out).mono ?_
      rintro e w3 ⟨rfl, hcu, hb3⟩
      have HC3 : Hid (Cu w.heap.size w3 D E Q.1 Q.2 S0 ⟨#[]⟩ (.slice va k vc) k ES) := by
        show Cu _ _ _ _ _ _ _ _ _ _ _
        rw [HPQ.out]
        exact hcu
      have HB3 : Hid (Below w.heap.size w w3) := HB.out.trans hb3
      clear hcu hb3 c0 c1 c2
      obtain ⟨X, F, L, lc, sv, hds⟩ := HC3.out.d
      have d0 := hds.cell 0 _ rfl
      have HST : Hid (StoreAt w3 X F Q.1 Q.2) := hds.st
      clear hds
      go_wp2_with fail
      refine (log_any X F Q.1 Q.2 w3 HST.out).mono ?_
      rintro e w4 ⟨rfl, rfl⟩
      have hb5 : Below w4.heap.size w4 (w4.alloc (.cells [Value.int .i64 Q.2.size].toArray 3)) := (Below.refl _ _).alloc (Nat.le_refl _) _
      have HC5 : Hid (Cu w.heap.size (w4.alloc (.cells [Value.int .i64 Q.2.size].toArray 3)) D E Q.1 Q.2 S0 ⟨#[]⟩ (.slice va k vc) k ES) := HC3.out.below hb5
      have HB5 : Hid (Below w.heap.size w (w4.alloc (.cells [Value.int .i64 Q.2.size].toArray 3))) := HB3.out.trans (hb5.mono HC3.out.le)
      have HNW : Hid (∀ j u, [Value.int .i64 Q.2.size][j]? = some u → (w4.alloc (.cells [Value.int .i64 Q.2.size].toArray 3)).cell? ((⟨w4.heap.size, 0, none⟩ : Addr).add j) = some u) := newAt _ _ _ _ rfl
      clear hb5
      go_wp2_with (refine listAppend rfl (.tmp 53) (.tmp 56) 39 rfl w.heap.size 3 ii (.int .i64 0) 1 8 Try.underlying39 hii iz0 iz1 iz2 rfl (by decide) (.slice va k vc) k ES (by simp [Act.eval]) HC5.out.own ⟨w4.heap.size, 0, none⟩ 1 1 [Value.int .i64 Q.2.size] (by simp [Act.eval]) rfl HNW.out (by simp [Value.oneCell']) (by unfold maxLen; omega) (by omega) HC5.out.le ?_; intro sv' w6 hown hgrow hblk; obtain ⟨a', p', rfl⟩ := ownForm hown)
      obtain ⟨hcu, hbw⟩ := HC5.out.grew hgrow hown hblk
      have HX : Hid (Cu w.heap.size w6 D E (playP S0 ⟨#[]⟩ (l.take (k + 1))).1 (playP S0 ⟨#[]⟩ (l.take (k + 1))).2 S0 ⟨#[]⟩ (.slice a' (k + 1) p') (k + 1) (endsL S0 l (k + 1)) ∧ Below w.heap.size w w6) := by
        show _ ∧ _
        rw [HQ.out, HE1.out, ← HQS.out]
        exact ⟨hcu, HB5.out.trans hbw⟩
      clear hcu hbw hown hgrow hblk
      go_wp2_with fail
      exact ⟨⟨k + 1, by go_num, by omega, a', p', rfl, HX.out.1, HX.out.2⟩, by simp [intOf]; omega⟩
    · have hkE : sn = k := by omega
      subst hkE
      have HTA : Hid (playP S0 ⟨#[]⟩ (l.take sn) = playP S0 ⟨#[]⟩ l) := by
        show _ = _
        rw [List.take_of_length_le (by rw [HN.out]; exact Nat.le_refl _)]
      rw [HTA.out] at HC
      generalize wr = w3 at *
      have HLN : Hid (nums (playP S0 ⟨#[]⟩ l).2 = logN (playC S0 l)) := by
        show _ = _
        rw [playC_eq, ba_nil_append]
        exact nums_str _ (acc_byte _ _ HACC.out)
      have HTC : Hid ((playP S0 ⟨#[]⟩ l).1.c = C) := by
        show _ = _
        rw [playC_eq]
        exact HCC.out _
      obtain ⟨X, F, L, lc, sv, hds⟩ := HC.out.d
      have hlgs : (playP S0 ⟨#[]⟩ l).2.size ≤ 800000 := by
        obtain ⟨_, _, _, _, _, _, hst⟩ := hds.st
        exact hst.bytes (by have := hds.inv.len; omega)
      have d0 := hds.cell 0 _ rfl
      have HST : Hid (StoreAt w3 X F (playP S0 ⟨#[]⟩ l).1 (playP S0 ⟨#[]⟩ l).2) := hds.st
      clear hds hlt hk
      generalize hT : playP S0 ⟨#[]⟩ l = T at *
      clear hT HTA
      go_wp2_with fail
      refine (log_any X F T.1 T.2 w3 HST.out).mono ?_
      rintro e w4 ⟨rfl, rfl⟩
      clear d0
      go_wp2_with fail
      refine (pick_any p ((T.2.size : Int) + 1) w4 p0 p1 (by omega) (by omega)).mono ?_
      rintro e w5 ⟨rfl, rfl⟩
      obtain ⟨q0, q1⟩ := pk_range p ((T.2.size : Int) + 1) (by omega)
      generalize pk p ((T.2.size : Int) + 1) = K0 at *
      obtain ⟨K, rfl⟩ := Int.eq_ofNat_of_zero_le q0
      have hK : K ≤ T.2.size := by omega
      clear q0 q1
      have HX2 : Hid (∀ j, playP S0 ⟨#[]⟩ (l.take j) = (S0.doAll (playC S0 (l.take j)), strOfNums (logN (playC S0 (l.take j))))) := fun j => by rw [playC_eq, ba_nil_append]
      go_wp2_with fail
      go_loopw [15, 16] (fun z i wr => ∃ j : Nat, i = .int .i64 j ∧ j ≤ sn ∧ z = .int .i64 (cE S0 l j) ∧ cE S0 l j ≤ K ∧ Cu w.heap.size wr D E T.1 T.2 (playP S0 ⟨#[]⟩ (l.take j)).1 (playP S0 ⟨#[]⟩ (l.take j)).2 (.slice va sn vc) sn (endsL S0 l sn) ∧ Below w.heap.size w wr) (fun _ i _ => sn - (intOf i).toNat)
      case atStart => exact ⟨0, rfl, Nat.zero_le _, by rw [cE_zero]; rfl, by rw [cE_zero]; exact Nat.zero_le _, HC.out, HB.out⟩
      case round =>
        obtain ⟨j, rfl, hj, rfl, hjK, hcu, hb⟩ := hrel
        have HC6 : Hid (Cu w.heap.size wr D E T.1 T.2 (playP S0 ⟨#[]⟩ (l.take j)).1 (playP S0 ⟨#[]⟩ (l.take j)).2 (.slice va sn vc) sn (endsL S0 l sn)) := hcu
        have HB6 : Hid (Below w.heap.size w wr) := hb
        clear hcu hb
        have HEG : Hid (j < sn → ∃ g, va = some ⟨g, 0, none⟩ ∧ ∀ W, Below wr.heap.size wr W → W.cell? ⟨g, j, none⟩ = some (.int .i64 (cE S0 l (j + 1)))) := fun hlt => by
          obtain ⟨g, c', he, _, hgl, _⟩ := ownBlockForm HC6.out.own (by omega)
          injection he with h1 h2 h3
          subst h1
          refine ⟨g, rfl, fun W hW => ?_⟩
          have := owns_at HC6.out.own j _ (endsL_get S0 l sn j hlt)
          rw [Nat.zero_add] at this
          exact (hW.cell (p := ⟨g, j, none⟩) hgl).trans this
        go_upto_region 18 with fail
        go_cut [79] from 68 to 101 (fun v wx => v = .bool (decide (j < sn ∧ cE S0 l (j + 1) ≤ K)) ∧ wx = wr)
        case first =>
          by_cases hlt : j < sn
          · obtain ⟨g, rfl, hg⟩ := HEG.out hlt
            have c0 := hg wr (Below.refl _ _)
            clear hg
            go_wp2_with fail
            go_meet
            case rel => exact ⟨by simp [hlt], rfl⟩
          · have hlt2 : ¬ (j : Int) < sn := by omega
            go_wp2_with fail
            go_meet
            case rel => exact ⟨by simp [hlt], rfl⟩
        case rest =>
          obtain ⟨rfl, hw⟩ := hcut
          have hw := hw.symm
          subst hw
          by_cases hc : j < sn ∧ cE S0 l (j + 1) ≤ K
          · rw [decide_eq_true hc]
            obtain ⟨hlt, hle⟩ := hc
            obtain ⟨b, off, ba, bn, bc, rfl, c0, c1, c2, hwx, hsm, hbn, hbl⟩ := HSTP.out j wr hlt HB6.out
            obtain ⟨g, rfl, _⟩ := HEG.out hlt
            have HPK := HPS.out j hlt
            have HSM : Hid (IsSms wr ba bn (stpG l j).batch) := hsm
            have HWX : Hid (StpWf (stpG l j)) := hwx
            have HBL : Hid (0 < bn → ∀ b' off', ba = some ⟨b', off', none⟩ → b' < w.heap.size) := hbl
            have hmon := cE_succ S0 l j
            have HEE := endsL_get S0 l sn j hlt
            clear hsm hwx hbl
            generalize stpG l j = Z at *
            generalize hP : playP S0 ⟨#[]⟩ (l.take j) = P at *
            have HPQ : Hid (playP S0 ⟨#[]⟩ (l.take (j + 1)) = (P.1.step Z, stepL P.1 Z P.2)) := HPK
            have HEG2 : Hid ((endsL S0 l sn)[j]? = some (.int .i64 (cE S0 l (j + 1)))) := HEE
            clear hP HPK HEE
            generalize hES : endsL S0 l sn = ES at *
            have HES : Hid (endsL S0 l sn = ES) := hES
            clear hES
            generalize cE S0 l j = Ej at *
            go_wp2_with fail
            refine (step_cu2 w.heap.size D E T.1 T.2 P.1 P.2 (.slice (some ⟨g, 0, none⟩) sn vc) sn ES Z ba bn bc wr HC6.out HWX.out HSM.out hbn HBL.out).mono ?_
            rintro e w7 ⟨rfl, hcu, hb7⟩
            have HC7 : Hid (Cu w.heap.size w7 D E T.1 T.2 (P.1.step Z) (stepL P.1 Z P.2) (.slice (some ⟨g, 0, none⟩) sn vc) sn ES) := hcu
            have HB7 : Hid (Below w.heap.size w w7) := HB6.out.trans hb7
            have c9 := owns_at HC7.out.own j _ HEG2.out
            rw [Nat.zero_add] at c9
            clear hcu hb7 c0 c1 c2
            have HX : Hid (Cu w.heap.size w7 D E T.1 T.2 (playP S0 ⟨#[]⟩ (l.take (j + 1))).1 (playP S0 ⟨#[]⟩ (l.take (j + 1))).2 (.slice (some ⟨g, 0, none⟩) sn vc) sn ES) := by
              show Cu _ _ _ _ _ _ _ _ _ _ _
              rw [HPQ.out]
              exact HC7.out
            go_wp2_with fail
            exact ⟨⟨j + 1, by go_num, by omega, rfl, hle, by rw [HES.out]; exact HX.out, HB7.out⟩, by simp [intOf]; omega⟩
          · rw [decide_eq_false hc]
            have hex : j < sn → K < cE S0 l (j + 1) := fun h => by
              rcases Nat.lt_or_ge K (cE S0 l (j + 1)) with h1 | h1
              · exact h1
              · exact absurd ⟨h, h1⟩ hc
            have HRE : Hid (redoN (T.2.extract 0 K).size S0 (T.2.extract 0 K) = playC S0 (l.take j)) :=
              cut_redo S0 l j K _ HACC.out (by rw [HN.out]; exact hj) hjK (by rw [HN.out]; exact hex) (by rw [← HLN.out, nums_len]; exact hK) (by rw [nums_head, HLN.out])
            have HLL : Hid ((logN (playC S0 (l.take j))).length = cE S0 l j) := rfl
            have HPJ := HX2.out j
            have HHD : Hid (T.2.extract 0 (cE S0 l j) = strOfNums (logN (playC S0 (l.take j)))) := by
              apply nums_ba_inj
              have hb : ∀ x ∈ logN (playC S0 (l.take j)), isByte x := by
                have h1 := HACC.out
                rw [take_play S0 l j, acc_append] at h1
                exact acc_byte _ _ h1.1
              rw [nums_head, HLN.out, log_head, nums_str _ hb]
            rw [HPJ] at HC6
            have HCD : Hid (Cu w.heap.size wr D E T.1 T.2 (S0.doAll (playC S0 (l.take j))) (strOfNums (logN (playC S0 (l.take j)))) (.slice va sn vc) sn (endsL S0 l sn)) := HC6.out
            obtain ⟨X2, F2, L2, lc2, sv2, hd2⟩ := HCD.out.d
            obtain ⟨X3, F3, L3, lc3, sv3, hd3⟩ := HCD.out.swap.d
            have HD2 : Hid (DkS wr 0 D X2 F2 T.1 L2 lc2 sv2 T.2) := hd2
            have HD3 : Hid (DkS wr 0 E X3 F3 (S0.doAll (playC S0 (l.take j))) L3 lc3 sv3 (strOfNums (logN (playC S0 (l.take j))))) := hd3
            have d1 := hd2.cell 1 _ rfl
            have d2 := hd2.cell 2 _ rfl
            have d3 := hd2.cell 3 _ rfl
            have HOP : Hid (Calls Try.prog 8 #[.agg (cfC T.1.c L2 0 T.1.c.lvs.length lc2), .string (T.2.extract 0 K)] wr.drew fun e w' => ∃ Y, e = .returned (.tuple #[.pointer (some ⟨Y, 0, none⟩), .int .i64 (cE S0 l j : Int), .int .i64 0]) ∧ StoreAt w' Y (fun k => wr.heap.size ≤ k ∧ k < w'.heap.size) (S0.doAll (playC S0 (l.take j))) (strOfNums (logN (playC S0 (l.take j)))) ∧ Below wr.heap.size wr w') := by
              have hdr : Below wr.heap.size wr wr.drew := (Below.refl _ _).drew
              have hdd := hd2.below hdr
              have ho := open_log T.1.c L2 0 T.1.c.lvs.length lc2 (T.2.extract 0 K) wr.drew hdd.inv.right rfl hdd.lv (by rw [ByteArray.size_extract]; unfold maxLen; omega)
              rw [HTC.out, HS0.out, HRE.out, HLL.out] at ho
              show Calls _ _ _ _ _
              rw [HTC.out]
              refine ho.mono ?_
              rintro e w' ⟨Y, rfl, h1, h2⟩
              exact ⟨Y, rfl, h1, hdr.trans h2⟩
            clear hd2 hd3 HPJ hc hex
            have hjT : cE S0 l j ≤ T.2.size := by omega
            generalize S0.doAll (playC S0 (l.take j)) = PS at *
            generalize strOfNums (logN (playC S0 (l.take j))) = PL at *
            generalize cE S0 l j = Ej at *
            go_upto_region 24 with fail
            go_cut [18, 19, 20] from 24 to 151 (fun y z e wx => ∃ Y, y = .pointer (some ⟨Y, 0, none⟩) ∧ z = .int .i64 (Ej : Int) ∧ e = .int .i64 0 ∧ StoreAt wx Y (fun k => wr.heap.size ≤ k ∧ k < wx.heap.size) PS PL ∧ Below wr.heap.size wr wx)
            case first =>
              go_region_with (go_at_call 8; refine HOP.out.mono ?_; rintro e w' ⟨Y, rfl, hY, hbY⟩)
              all_goals go_wp2_with fail
              all_goals go_meet
              all_goals (case rel => exact ⟨Y, rfl, rfl, rfl, hY, hbY⟩)
            case rest =>
              obtain ⟨Y, rfl, rfl, rfl, hY, hbY⟩ := hcut
              have HY : Hid (StoreAt wc Y (fun k => wr.heap.size ≤ k ∧ k < wc.heap.size) PS PL) := hY
              have HE3 : Hid (DkS wc 0 E X3 F3 PS L3 lc3 sv3 PL) := HD3.out.below hbY
              have HBc : Hid (Below w.heap.size w wc) := HB6.out.trans (hbY.mono HCD.out.le)
              have e0 := HE3.out.cell 0 _ rfl
              clear hY hbY d1 d2 d3
              generalize wc = w8 at *
              go_wp2_with fail
              refine (log_any Y _ PS PL w8 HY.out).mono ?_
              rintro e w9 ⟨rfl, rfl⟩
              go_wp2_with fail
              refine (log_any X3 F3 PS PL w9 HE3.out.st).mono ?_
              rintro e w10 ⟨rfl, rfl⟩
              go_wp2_with fail
              refine (same_any 0 E X3 F3 PS L3 lc3 sv3 PL X3 Y F3 _ PL PL w10 HE3.out HE3.out.st HY.out).mono ?_
              rintro e w11 ⟨rfl, hb11⟩
              have HB11 : Hid (Below w.heap.size w w11) := HBc.out.trans (hb11.mono HBc.out.size)
              clear hb11 e0
              have hEq : PL.toList = (T.2.extract 0 Ej).toList := by rw [HHD.out]
              go_wp2_with fail
              go_ret
              first
                | exact ⟨rfl, HB11.out⟩
                | (rw [HHD.out]; exact ⟨by simp, HB11.out⟩)

end Go.Proofs.Ythciddpljcbhiab
