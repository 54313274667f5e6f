/- Texts of one claim put together: Aga. -/
import Derived.Test.YthciddpljcbhiabB5

/- Walks: Open of a log; Again. -/
namespace Go.Proofs.Ythciddpljcbhiab
open Go Go.RowKit Go.Lib

theorem ba_nil_append (a : ByteArray) : (⟨#[]⟩ : ByteArray) ++ a = a := by apply nums_ba_inj; rw [nums_append]; rfl
theorem open_log (c : Cf) (b off n cap : Nat) (log : ByteArray) (w : World) (hr : c.right = true) (hn : c.lvs.length = n) (hat : LvAt w b off c.lvs) (hs : log.size ≤ maxLen) :
    Calls Try.prog 8 #[.agg (cfC c b off n cap), .string log] w fun e w' => ∃ X, e = .returned (.tuple #[.pointer (some ⟨X, 0, none⟩), .int .i64 ((logN (redoN log.size (St.new c) log)).length : Int), .int .i64 0]) ∧ StoreAt w' X (fun k => w.heap.size ≤ k ∧ k < w'.heap.size) ((St.new c).doAll (redoN log.size (St.new c) log)) (strOfNums (logN (redoN log.size (St.new c) log))) ∧ Below w.heap.size w w' :=
  open_of c b off n cap log _ _ _ w hr hn hat (right_wf hr) fun W X F h hF => (redo_any X F (St.new c) ⟨#[]⟩ log W h hF hs).mono fun e W' ⟨he, h1, h2⟩ => ⟨he, by rw [ba_nil_append] at h1; exact h1, h2⟩
theorem next_first {s : St} {y : ByteArray} (h1 : byt y 0 ≠ 87) (h2 : byt y 0 ≠ 84) : nextC s y = none := by
  unfold nextC
  rw [unOk_first h1, tkOk_no (fun h => h2 h.2.1)]
  simp

set_option maxHeartbeats 2000000 in
set_option maxRecDepth 100000 in
theorem again_any (a : Option Addr) (n cap : Nat) (ls : List Lv) (span keep : Int) (sa : Option Addr) (sn sc : Nat) (l : List Stp) (w : World) (hls : IsLvs w a n ls) (hwf : LvWf2 ls) (s0 : -9223372036854775808 ≤ span) (s1 : span ≤ 9223372036854775807) (k0 : -9223372036854775808 ≤ keep) (k1 : keep ≤ 9223372036854775807)
    (hsc : IsScr w sa sn l) (hsn : sn ≤ 9000000000000) :
    Calls Try.prog 3 #[.agg #[.int .i64 span, .int .i64 keep, .slice a n cap], .slice sa sn sc] w fun e w' => e = .returned (.bool true) ∧ Below w.heap.size w w' := by
  have HB0 : Hid (Below w.heap.size w (w.alloc (.cells #[.int .i64 span, .int .i64 keep, .slice a n cap] 24))) := (Below.refl _ _).alloc (Nat.le_refl _) _
  have HPL := played_any a n cap ls span keep sa sn sc l _ (IsLvs.below hls HB0.out) hwf s0 s1 k0 k1 (IsScr.below hsc HB0.out) hsn
  have hacc : Acc (St.new (conf span keep ls)) (playC (St.new (conf span keep ls)) l) := playC_acc l _ (inv_new (conf_right span keep ls)) (fun o ho x hx => mem_wf (hsc.2.1 o ho).2.2 hx)
  rw [playC_eq] at HPL
  have hc0 : (St.new (conf span keep ls)).c = conf span keep ls := rfl
  clear hls hwf hsc
  generalize playC (St.new (conf span keep ls)) l = cs at *
  generalize hC : conf span keep ls = C at *
  have HAC : Hid (Acc (St.new C) cs) := hacc
  have HSC : Hid (((St.new C).doAll cs).c = C) := doAll_c cs (St.new C)
  have HLGE : Hid ((⟨#[]⟩ : ByteArray) ++ strOfNums (logN cs) = strOfNums (logN cs)) := ba_nil_append _
  have HNU : Hid (nums (strOfNums (logN cs)) = logN cs) := nums_str _ (acc_byte cs _ hacc)
  have HSZ : Hid ((strOfNums (logN cs)).size = (logN cs).length) := strOfNums_size _
  have HR1 : Hid (redoN (strOfNums (logN cs)).size (St.new C) (strOfNums (logN cs)) = cs) := redo_acc cs _ _ _ [] (Nat.le_refl _) hacc (by rw [HNU.out, List.append_nil]) (.inl rfl)
  have HR2 : Hid (redoN (strOfNums (logN cs) ++ ⟨#[88]⟩ ++ strOfNums (logN cs)).size (St.new C) (strOfNums (logN cs) ++ ⟨#[88]⟩ ++ strOfNums (logN cs)) = cs) := redo_acc cs _ _ _ (88 :: logN cs) (Nat.le_refl _) hacc (by rw [nums_append, nums_append, HNU.out, List.append_assoc]; rfl) (.inr fun y hy => by
    have : byt y 0 = 88 := byt_get hy rfl
    exact next_first (by rw [this]; omega) (by rw [this]; omega))
  rw [HLGE.out] at HPL
  generalize hS : (St.new C).doAll cs = S at *
  generalize hLG : strOfNums (logN cs) = LG at *
  have HSZ' : ((logN cs).length : Int) = LG.size := by rw [← HSZ.out]
  have HLN : Hid (((logN cs).length : Int) = LG.size) := HSZ'
  have HS : Hid ((St.new C).doAll cs = S) := hS
  have HLG : Hid (strOfNums (logN cs) = LG) := hLG
  clear hacc hc0 hS hLG HSZ'
  go_enter Try.func3, Try.ntmps3
  go_wp2_with fail
  refine HPL.mono ?_
  rintro e w1 ⟨D, rfl, ⟨X, F, L, lc, sv, hd⟩, hb1⟩
  have HB1 : Hid (Below w.heap.size w w1) := HB0.out.trans (hb1.mono (by simp))
  have HD1 : Hid (DkS w1 (w.heap.size + 1) D X F S L lc sv LG) := by show DkS _ _ _ _ _ _ _ _ _ _; simpa using hd
  have HI : Hid (Inv S) := hd.inv
  have hlgs : LG.size ≤ 800000 := by
    obtain ⟨_, _, _, _, _, _, hst⟩ := hd.st
    exact hst.bytes (by have := hd.inv.len; omega)
  have d0 := HD1.out.cell 0 _ rfl
  clear hb1 HPL hd
  go_wp2_with fail
  refine (log_any X F S LG w1 HD1.out.st).mono ?_
  rintro e w1' ⟨rfl, rfl⟩
  have d1 := HD1.out.cell 1 _ rfl
  have d2 := HD1.out.cell 2 _ rfl
  have d3 := HD1.out.cell 3 _ rfl
  go_wp2_with fail
  refine (open_log S.c L 0 S.c.lvs.length lc LG w1' HI.out.right rfl HD1.out.lv (by unfold maxLen; omega)).mono ?_
  rintro e w2 ⟨Y, rfl, hY, hb2⟩
  rw [HSC.out, HR1.out, HS.out, HLG.out] at hY
  rw [HSC.out, HR1.out, HLN.out]
  have HY2 : Hid (StoreAt w2 Y (fun k => w1'.heap.size ≤ k ∧ k < w2.heap.size) S LG) := hY
  have HD2 : Hid (DkS w2 (w.heap.size + 1) D X F S L lc sv LG) := HD1.out.below hb2
  have HB2 : Hid (Below w.heap.size w w2) := HB1.out.trans (hb2.mono HB1.out.size)
  have d0 := HD2.out.cell 0 _ rfl
  have d1 := HD2.out.cell 1 _ rfl
  have d2 := HD2.out.cell 2 _ rfl
  have d3 := HD2.out.cell 3 _ rfl
  clear hY hb2
  have hsum1 : LG.size + (⟨#[88]⟩ : ByteArray).size ≤ 9223372036854775807 := by show LG.size + 1 ≤ _; omega
  have hsum2 : (LG ++ ⟨#[88]⟩).size + LG.size ≤ 9223372036854775807 := by rw [ByteArray.size_append]; show LG.size + 1 + LG.size ≤ _; omega
  have HS2 : Hid ((LG ++ (⟨#[88]⟩ : ByteArray) ++ LG).size ≤ maxLen) := by
    show _ ≤ _
    rw [ByteArray.size_append, ByteArray.size_append]
    show LG.size + 1 + LG.size ≤ _
    unfold maxLen; omega
  go_wp2_with fail
  clear hsum1 hsum2
  generalize LG ++ (⟨#[88]⟩ : ByteArray) ++ LG = L2 at *
  refine (open_log S.c L 0 S.c.lvs.length lc L2 w2 HI.out.right rfl HD2.out.lv HS2.out).mono ?_
  rintro e w3 ⟨Z, rfl, hZ, hb3⟩
  rw [HSC.out, HR2.out, HS.out, HLG.out] at hZ
  rw [HSC.out, HR2.out, HLN.out]
  have HZ3 : Hid (StoreAt w3 Z (fun k => w2.heap.size ≤ k ∧ k < w3.heap.size) S LG) := hZ
  have HY3 : Hid (StoreAt w3 Y (fun k => w1'.heap.size ≤ k ∧ k < w2.heap.size) S LG) := HY2.out.below hb3
  have HD3 : Hid (DkS w3 (w.heap.size + 1) D X F S L lc sv LG) := HD2.out.below hb3
  have HB3 : Hid (Below w.heap.size w w3) := HB2.out.trans (hb3.mono HB2.out.size)
  have d0 := HD3.out.cell 0 _ rfl
  clear hZ hb3
  go_wp2_with fail
  refine (same_any _ D X F S L lc sv LG X Y F _ LG LG w3 HD3.out HD3.out.st HY3.out).mono ?_
  rintro e w4 ⟨rfl, hb4⟩
  have HZ4 : Hid (StoreAt w4 Z (fun k => w2.heap.size ≤ k ∧ k < w3.heap.size) S LG) := HZ3.out.below hb4
  have HY4 : Hid (StoreAt w4 Y (fun k => w1'.heap.size ≤ k ∧ k < w2.heap.size) S LG) := HY3.out.below hb4
  have HD4 : Hid (DkS w4 (w.heap.size + 1) D X F S L lc sv LG) := HD3.out.below hb4
  have HB4 : Hid (Below w.heap.size w w4) := HB3.out.trans (hb4.mono HB3.out.size)
  have d0 := HD4.out.cell 0 _ rfl
  clear hb4
  go_wp2_with fail
  refine (same_any _ D X F S L lc sv LG X Z F _ LG LG w4 HD4.out HD4.out.st HZ4.out).mono ?_
  rintro e w5 ⟨rfl, hb5⟩
  have HZ5 : Hid (StoreAt w5 Z (fun k => w2.heap.size ≤ k ∧ k < w3.heap.size) S LG) := HZ4.out.below hb5
  have HY5 : Hid (StoreAt w5 Y (fun k => w1'.heap.size ≤ k ∧ k < w2.heap.size) S LG) := HY4.out.below hb5
  have HB5 : Hid (Below w.heap.size w w5) := HB4.out.trans (hb5.mono HB4.out.size)
  clear hb5
  go_wp2_with fail
  refine (log_any Y _ S LG w5 HY5.out).mono ?_
  rintro e w6 ⟨rfl, rfl⟩
  go_wp2_with fail
  refine (log_any Z _ S LG w6 HZ5.out).mono ?_
  rintro e w7 ⟨rfl, rfl⟩
  go_wp2_with fail
  go_ret
  exact ⟨rfl, HB5.out⟩

end Go.Proofs.Ythciddpljcbhiab
