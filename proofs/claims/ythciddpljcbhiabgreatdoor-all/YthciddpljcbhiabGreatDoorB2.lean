/- Texts of one claim put together: UnA, UnSpec, WhSpec, Low, SmB, SmC, UnB, UnC, SmH, UnD, WhB, Ref, Grp, LvA, LvB. -/
import Derived.Test.YthciddpljcbhiabGreatDoorB1
import Derived.Laws.BitsAllLaws
import Derived.Test.YthciddpljcbhiabGreatDoorA
import Derived.Deep.DeepCutAuto

/- Walks: numbers read from bytes, by the program and by the document's answer. -/
namespace Go.Proofs.YthciddpljcbhiabGreatDoor
open Go.RowKit

/-- Four bytes as a number, the low one first. -/
def num4 (s : ByteArray) (p : Nat) : Int := byt s p + 256 * (byt s (p + 1) + 256 * (byt s (p + 2) + 256 * byt s (p + 3)))
theorem num4_range (s : ByteArray) (p : Nat) : 0 ≤ num4 s p ∧ num4 s p < 4294967296 := by
  have h0 := byt_range s p
  have h1 := byt_range s (p + 1)
  have h2 := byt_range s (p + 2)
  have h3 := byt_range s (p + 3)
  unfold num4; omega
theorem or8 (q b : Int) (h0 : 0 ≤ q) (h1 : q < 16777216) (hb0 : 0 ≤ b) (hb1 : b ≤ 255) : bits .or .u32 (q * 256) (b % 4294967296) = b + 256 * q := by
  rw [show b % 4294967296 = b by omega, u32_or _ _ (by omega) (by omega) hb0 (by omega)]
  have e : (q * 256).toNat = 2 ^ 8 * q.toNat := by omega
  rw [e, ← Nat.two_pow_add_eq_or_of_lt (show b.toNat < 2 ^ 8 by omega)]
  omega

set_option maxHeartbeats 400000 in
set_option maxRecDepth 100000 in
theorem readNumber_any (s : ByteArray) (p : Nat) (w : World) (hs : s.size ≤ maxLen) (hp : p + 4 ≤ s.size) :
    Calls Tryz.prog 112 #[.string s, .int .i64 p] w fun e w' => e = .returned (.int .u32 (num4 s p)) ∧ w' = w := by
  unfold maxLen at hs
  obtain ⟨a0, a1⟩ := byt_range s (p + 3)
  obtain ⟨b0, b1⟩ := byt_range s (p + 2)
  obtain ⟨c0, c1⟩ := byt_range s (p + 1)
  obtain ⟨d0, d1⟩ := byt_range s p
  have B3 : Hid (((s[p + 3].toNat : Nat) : Int) = byt s (p + 3)) := byt_eq s (p + 3) (by omega)
  have B2 : Hid (((s[p + 2].toNat : Nat) : Int) = byt s (p + 2)) := byt_eq s (p + 2) (by omega)
  have B1 : Hid (((s[p + 1].toNat : Nat) : Int) = byt s (p + 1)) := byt_eq s (p + 1) (by omega)
  have B0 : Hid (((s[p].toNat : Nat) : Int) = byt s p) := byt_eq s p (by omega)
  have e : ∀ x y : Int, x = y → Value.int IntKind.u32 x = .int .u32 y := fun x y h => by rw [h]
  have HE := e
  clear e
  have HE' : Hid (∀ x y : Int, x = y → Value.int IntKind.u32 x = .int .u32 y) := HE
  clear HE
  have hn0 : (0 : Int) ≤ p := by omega
  have hn1 : (p : Int) ≤ (s.size : Int) - 4 := by omega
  go_enter Tryz.func112, Tryz.ntmps112
  go_wp2
  go_loop [5, 6] (fun n i => (i = .int .i64 3 ∧ n = .int .u32 0) ∨ (i = .int .i64 2 ∧ n = .int .u32 (byt s (p + 3))) ∨ (i = .int .i64 1 ∧ n = .int .u32 (byt s (p + 2) + 256 * byt s (p + 3)))
    ∨ (i = .int .i64 0 ∧ n = .int .u32 (byt s (p + 1) + 256 * (byt s (p + 2) + 256 * byt s (p + 3)))) ∨ (i = .int .i64 (-1) ∧ n = .int .u32 (num4 s p))) (fun _ i => (intOf i + 1).toNat)
  case atStart => exact Or.inl ⟨rfl, rfl⟩
  case round =>
    rcases hrel with ⟨rfl, rfl⟩ | ⟨rfl, rfl⟩ | ⟨rfl, rfl⟩ | ⟨rfl, rfl⟩ | ⟨rfl, rfl⟩
    · go_wp2
      refine ⟨Or.inr (Or.inl ⟨rfl, HE'.out _ _ ?_⟩), by simp [intOf]⟩
      rw [B3.out]
      have := or8 0 (byt s (p + 3)) (by omega) (by omega) a0 a1
      simpa using this
    · go_wp2
      refine ⟨Or.inr (Or.inr (Or.inl ⟨rfl, HE'.out _ _ ?_⟩)), by simp [intOf]⟩
      rw [B2.out]
      exact or8 _ _ (by omega) (by omega) b0 b1
    · generalize hq : byt s (p + 2) + 256 * byt s (p + 3) = q at *
      have hq0 : 0 ≤ q := by omega
      have hq1 : q ≤ 65535 := by omega
      clear hq
      go_wp2
      refine ⟨Or.inr (Or.inr (Or.inr (Or.inl ⟨rfl, HE'.out _ _ ?_⟩))), by simp [intOf]⟩
      rw [B1.out]
      exact or8 _ _ (by omega) (by omega) c0 c1
    · generalize hq : byt s (p + 1) + 256 * (byt s (p + 2) + 256 * byt s (p + 3)) = q at *
      have hq0 : 0 ≤ q := by omega
      have hq1 : q ≤ 16777215 := by omega
      have HQ : Hid (num4 s p = byt s p + 256 * q) := by show _ = _; unfold num4; rw [hq]
      clear hq
      go_wp2
      refine ⟨Or.inr (Or.inr (Or.inr (Or.inr ⟨rfl, HE'.out _ _ ?_⟩))), by simp [intOf]⟩
      rw [HQ.out, B0.out]
      exact or8 _ _ (by omega) (by omega) d0 d1
    · go_wp2
      go_ret
      exact ⟨rfl, rfl⟩
end Go.Proofs.YthciddpljcbhiabGreatDoor

/- Reading a record, plainly (no program). -/
namespace Go.Proofs.YthciddpljcbhiabGreatDoor
open Go Go.RowKit

def cN (s : ByteArray) : Nat := (byt s 1).toNat
theorem cN_eq (s : ByteArray) : ((cN s : Nat) : Int) = byt s 1 := by unfold cN; have := byt_range s 1; omega
/-- s begins with a whole record of a Write but for its samples. -/
def headOk (s : ByteArray) : Bool :=
  decide (2 ≤ s.size) && decide (byt s 0 = 87) && decide (1 ≤ cN s) && decide (cN s ≤ 8) && decide (6 + 11 * cN s ≤ s.size) && decide (num4 s (2 + 11 * cN s) = chk ((nums s).take (2 + 11 * cN s)))
theorem headOk_iff (s : ByteArray) : headOk s = true ↔ 2 ≤ s.size ∧ byt s 0 = 87 ∧ 1 ≤ cN s ∧ cN s ≤ 8 ∧ 6 + 11 * cN s ≤ s.size ∧ num4 s (2 + 11 * cN s) = chk ((nums s).take (2 + 11 * cN s)) := by
  simp [headOk, and_assoc]

def sval (v : Int) : Int := if 2147483648 ≤ v then v - 4294967296 else v
/-- The sample whose bytes begin at a place. -/
def smR (s : ByteArray) (p : Nat) : Sm := ⟨num4 s p, byt s (p + 4), byt s (p + 5), byt s (p + 6), sval (num4 s (p + 7))⟩
def smsR (s : ByteArray) (c : Nat) : List Sm := (List.range c).map fun i => smR s (2 + 11 * i)
theorem smsR_len (s : ByteArray) (c : Nat) : (smsR s c).length = c := by simp [smsR]
theorem smsR_get (s : ByteArray) (c i : Nat) (h : i < c) : smG (smsR s c) i = smR s (2 + 11 * i) := by simp [smG, smsR, List.getD, h]
theorem smsR_succ (s : ByteArray) (c : Nat) : smsR s (c + 1) = smsR s c ++ [smR s (2 + 11 * c)] := by simp [smsR, List.range_succ]
theorem sval_range {v : Int} (h : 0 ≤ v ∧ v < 4294967296) : -2147483648 ≤ sval v ∧ sval v ≤ 2147483647 := by unfold sval; split <;> omega
theorem uval_sval {v : Int} (h : 0 ≤ v ∧ v < 4294967296) : uval (sval v) = v := by unfold uval sval; split <;> omega
theorem smR_wf (s : ByteArray) (p : Nat) : (smR s p).wf := by
  have h := num4_range s p
  exact ⟨⟨by simp only [smR]; omega, by simp only [smR]; omega⟩, byt_range s _, byt_range s _, byt_range s _, sval_range (num4_range s _)⟩
theorem smsR_wf (s : ByteArray) (c : Nat) : SmWf (smsR s c) := by
  intro i
  by_cases h : i < c
  · rw [smsR_get s c i h]; exact smR_wf s _
  · have : smG (smsR s c) i = Sm.zero := by simp [smG, smsR, List.getD, h]
    rw [this]; simp [Sm.wf, Sm.zero]

/-- Does s begin with the record of a Write of right samples? -/
def unOk (s : ByteArray) : Bool := headOk s && smsOk (smsR s (cN s))

/-! A record's bytes and what is read from them. -/
def seg (s : ByteArray) (p n : Nat) : List Int := ((nums s).drop p).take n
theorem nums_getD (s : ByteArray) (k : Nat) (h : k < s.size) : (nums s)[k]'(by rw [nums_len]; exact h) = byt s k := by
  have := nums_get s k h
  rw [List.getElem?_eq_getElem (by rw [nums_len]; exact h)] at this
  exact Option.some.inj this
theorem seg_succ (s : ByteArray) (p n : Nat) (h : p < s.size) : seg s p (n + 1) = byt s p :: seg s (p + 1) n := by
  unfold seg
  rw [List.drop_eq_getElem_cons (by rw [nums_len]; exact h), List.take_succ_cons, nums_getD s p h]
theorem seg_zero (s : ByteArray) (p : Nat) : seg s p 0 = [] := by simp [seg]
theorem seg_add (s : ByteArray) (p a b : Nat) : seg s p (a + b) = seg s p a ++ seg s (p + a) b := by
  unfold seg
  rw [List.take_add, List.drop_drop]
theorem low_num4 (s : ByteArray) (p : Nat) (h : p + 4 ≤ s.size) : lowN (num4 s p) 4 = seg s p 4 := by
  have h0 := byt_range s p
  have h1 := byt_range s (p + 1)
  have h2 := byt_range s (p + 2)
  have h3 := byt_range s (p + 3)
  rw [seg_succ s p 3 (by omega), seg_succ s (p + 1) 2 (by omega), seg_succ s (p + 1 + 1) 1 (by omega), seg_succ s (p + 1 + 1 + 1) 0 (by omega), seg_zero]
  rw [low4_eq _ (num4_range s p).1 (num4_range s p).2]
  have e0 : num4 s p % 256 = byt s p := by unfold num4; omega
  have e1 : num4 s p / 256 % 256 = byt s (p + 1) := by unfold num4; omega
  have e2 : num4 s p / 65536 % 256 = byt s (p + 2) := by unfold num4; omega
  have e3 : num4 s p / 16777216 = byt s (p + 3) := by unfold num4; omega
  rw [e0, e1, e2, e3]
theorem smB_smR (s : ByteArray) (p : Nat) (h : p + 11 ≤ s.size) : smB (smR s p) = seg s p 11 := by
  have e1 : seg s p 11 = seg s p 4 ++ (seg s (p + 4) 3 ++ seg s (p + 4 + 3) 4) := by rw [← seg_add, ← seg_add]
  rw [e1]
  have e2 : seg s (p + 4) 3 = [byt s (p + 4), byt s (p + 5), byt s (p + 6)] := by
    rw [seg_succ s (p + 4) 2 (by omega), seg_succ s (p + 4 + 1) 1 (by omega), seg_succ s (p + 4 + 1 + 1) 0 (by omega), seg_zero]
  rw [e2]
  unfold smB smR
  simp only
  rw [uval_sval (num4_range s (p + 7)), low_num4 s p (by omega), low_num4 s (p + 7) (by omega)]
  simp
theorem flat_smsR (s : ByteArray) (c : Nat) (h : 2 + 11 * c ≤ s.size) : (smsR s c).flatMap smB = seg s 2 (11 * c) := by
  induction c with
  | zero => simp [smsR, seg_zero]
  | succ c ih =>
    rw [smsR_succ, List.flatMap_append, ih (by omega), show 11 * (c + 1) = 11 * c + 11 by omega, seg_add]
    simp [smB_smR s (2 + 11 * c) (by omega)]
theorem take_seg (s : ByteArray) (n : Nat) : (nums s).take n = seg s 0 n := by simp [seg]
theorem low4_inj {a b : Int} (ha : 0 ≤ a ∧ a < 4294967296) (hb : 0 ≤ b ∧ b < 4294967296) (h : lowN a 4 = lowN b 4) : a = b := by
  rw [low4_eq a ha.1 ha.2, low4_eq b hb.1 hb.2] at h
  simp only [List.cons.injEq, and_true] at h
  omega

/-- The record of what was read is what stands there, just where the letter and the check are right. -/
theorem rec_eq (s : ByteArray) (h2 : 2 ≤ s.size) (hc : 6 + 11 * cN s ≤ s.size) :
    recB (smsR s (cN s)) = (nums s).take (6 + 11 * cN s) ↔ byt s 0 = 87 ∧ num4 s (2 + 11 * cN s) = chk ((nums s).take (2 + 11 * cN s)) := by
  have hb : bodyB (smsR s (cN s)) = 87 :: byt s 1 :: seg s 2 (11 * cN s) := by
    unfold bodyB
    rw [flat_smsR s _ (by omega), smsR_len, cN_eq]
    rfl
  have ht : (nums s).take (2 + 11 * cN s) = byt s 0 :: byt s 1 :: seg s 2 (11 * cN s) := by
    rw [take_seg, show 2 + 11 * cN s = (11 * cN s + 1) + 1 by omega, seg_succ s 0 _ (by omega), seg_succ s (0 + 1) _ (by omega)]
  have hall : (nums s).take (6 + 11 * cN s) = (nums s).take (2 + 11 * cN s) ++ seg s (2 + 11 * cN s) 4 := by
    rw [take_seg, take_seg, show 6 + 11 * cN s = (2 + 11 * cN s) + 4 by omega, seg_add]
    simp
  have hl : (bodyB (smsR s (cN s))).length = ((nums s).take (2 + 11 * cN s)).length := by
    rw [hb, ht]; simp
  unfold recB
  rw [hall]
  constructor
  · intro h
    obtain ⟨e1, e2⟩ := List.append_inj h hl
    rw [hb, ht] at e1
    simp only [List.cons.injEq, and_true] at e1
    refine ⟨e1.symm, ?_⟩
    rw [← low_num4 s _ (by omega)] at e2
    have := low4_inj (chk_range _) (num4_range s _) e2
    rw [← this, hb, ht, e1]
  · rintro ⟨e0, e1⟩
    have eb : bodyB (smsR s (cN s)) = (nums s).take (2 + 11 * cN s) := by rw [hb, ht, e0]
    rw [eb, ← e1, low_num4 s _ (by omega)]

theorem nums_extract (s : ByteArray) (k : Nat) : nums (s.extract 0 k) = (nums s).take k := by
  unfold nums
  rw [List.map_take.symm]
  congr 1
  simp [ByteArray.data_extract]

end Go.Proofs.YthciddpljcbhiabGreatDoor

/- A batch comes back out of its record; a byte less, or one turned, is found out (no program). -/
namespace Go.Proofs.YthciddpljcbhiabGreatDoor
open Go Go.RowKit

theorem chkS_inj {h h' b b' : Int} (hh : 0 ≤ h ∧ h < 4294967296) (hh' : 0 ≤ h' ∧ h' < 4294967296) (hb : b = b') (hne : h ≠ h') : chkS h b ≠ chkS h' b' := by
  subst hb
  unfold chkS
  intro e
  omega
theorem chkS_byte {h b b' : Int} (hb : isByte b) (hb' : isByte b') (hne : b ≠ b') : chkS h b ≠ chkS h b' := by
  unfold chkS isByte at *
  intro e
  omega
theorem fold_range (l : List Int) : ∀ h, 0 ≤ h ∧ h < 4294967296 → 0 ≤ l.foldl chkS h ∧ l.foldl chkS h < 4294967296 := by
  induction l with
  | nil => intro h hh; exact hh
  | cons b l ih => intro h _; exact ih _ (chkS_range h b)
theorem fold_inj (l : List Int) : ∀ {h h' : Int}, 0 ≤ h ∧ h < 4294967296 → 0 ≤ h' ∧ h' < 4294967296 → h ≠ h' → l.foldl chkS h ≠ l.foldl chkS h' := by
  induction l with
  | nil => intro h h' _ _ hne; exact hne
  | cons b l ih => intro h h' hh hh' hne; exact ih (chkS_range h b) (chkS_range h' b) (chkS_inj hh hh' rfl hne)
/-- One byte turned: another check. -/
theorem chk_turned (l1 l2 : List Int) {b b' : Int} (hb : isByte b) (hb' : isByte b') (hne : b ≠ b') : chk (l1 ++ b :: l2) ≠ chk (l1 ++ b' :: l2) := by
  unfold chk
  rw [List.foldl_append, List.foldl_append, List.foldl_cons, List.foldl_cons]
  exact fold_inj l2 (chkS_range _ _) (chkS_range _ _) (chkS_byte hb hb' hne)

/-! Strings by their numbers. -/
theorem byt_nums {s : ByteArray} {k : Nat} {x : Int} (h : (nums s)[k]? = some x) : byt s k = x := by
  have hk : k < s.size := by rw [← nums_len]; exact (List.getElem?_eq_some_iff.1 h).1
  rw [nums_get s k hk] at h
  exact Option.some.inj h
theorem num4_of {s : ByteArray} {p : Nat} {a b c d : Int} {l1 l2 : List Int} (h : nums s = l1 ++ a :: b :: c :: d :: l2) (hp : l1.length = p) : num4 s p = a + 256 * (b + 256 * (c + 256 * d)) := by
  subst hp
  unfold num4
  rw [byt_nums (s := s) (k := l1.length) (x := a) (by rw [h]; simp), byt_nums (s := s) (k := l1.length + 1) (x := b) (by rw [h]; simp),
    byt_nums (s := s) (k := l1.length + 2) (x := c) (by rw [h]; simp), byt_nums (s := s) (k := l1.length + 3) (x := d) (by rw [h]; simp)]
theorem num4_low {s : ByteArray} {p : Nat} {n : Int} {l1 l2 : List Int} (hn : 0 ≤ n ∧ n < 4294967296) (h : nums s = l1 ++ lowN n 4 ++ l2) (hp : l1.length = p) : num4 s p = n := by
  rw [low4_eq n hn.1 hn.2] at h
  rw [num4_of (s := s) (l1 := l1) (l2 := l2) (a := n % 256) (b := n / 256 % 256) (c := n / 65536 % 256) (d := n / 16777216) (by rw [h]; simp) hp]
  omega

/-- What is read of a sample's bytes is the sample. -/
theorem smR_smB {s : ByteArray} {p : Nat} {x : Sm} {l1 l2 : List Int} (hx : x.wf) (hok : smOk x = true) (h : nums s = l1 ++ smB x ++ l2) (hp : l1.length = p) : smR s p = x := by
  obtain ⟨t0, t1, _⟩ := (smOk_iff x).1 hok
  obtain ⟨_, _, _, _, v0, v1⟩ := hx
  have hs : nums s = l1 ++ lowN x.time 4 ++ (x.l0 :: x.l1 :: x.l2 :: (lowN (uval x.value) 4 ++ l2)) := by rw [h]; simp [smB]
  have e0 : num4 s p = x.time := num4_low (by omega) hs hp
  have hl : (l1 ++ lowN x.time 4).length = p + 4 := by rw [List.length_append, lowN_len, hp]
  obtain ⟨m, hm⟩ : ∃ m, m = l1 ++ lowN x.time 4 := ⟨_, rfl⟩
  rw [← hm] at hs hl
  have e1 : byt s (p + 4) = x.l0 := byt_nums (by rw [hs, ← hl]; simp)
  have e2 : byt s (p + 5) = x.l1 := byt_nums (by rw [hs, show p + 5 = m.length + 1 by omega]; simp)
  have e3 : byt s (p + 6) = x.l2 := byt_nums (by rw [hs, show p + 6 = m.length + 2 by omega]; simp)
  have hs2 : nums s = (m ++ [x.l0, x.l1, x.l2]) ++ lowN (uval x.value) 4 ++ l2 := by rw [hs]; simp
  have e4 : num4 s (p + 7) = uval x.value := num4_low (uval_range _) hs2 (by simp [hl])
  unfold smR
  rw [e0, e1, e2, e3, e4]
  have e5 : sval (uval x.value) = x.value := by unfold sval uval; split <;> omega
  rw [e5]

theorem flatB_len (ls : List Sm) : (ls.flatMap smB).length = 11 * ls.length := by rw [flat_length smB 11 smB_len]; omega
/-- The samples of a record that stands at the head of s. -/
theorem smsR_of {s : ByteArray} {ls : List Sm} {rest : List Int} (hwf : SmWf ls) (hok : smsOk ls = true) (h : nums s = bodyB ls ++ rest) : smsR s ls.length = ls := by
  have key : ∀ k, k ≤ ls.length → smsR s k = ls.take k := by
    intro k
    induction k with
    | zero => intro _; simp [smsR]
    | succ k ih =>
      intro hk
      have hlt : k < ls.length := by omega
      rw [smsR_succ, ih (by omega), take_snoc ls k hlt]
      congr 2
      have hx : smOk ls[k] = true := by
        have := List.all_eq_true.1 hok k (List.mem_range.2 hlt)
        simpa [smG_get ls k hlt] using this
      have hspl : ls.flatMap smB = (ls.take k).flatMap smB ++ smB ls[k] ++ (ls.drop (k + 1)).flatMap smB := by
        conv => lhs; rw [← List.take_append_drop k ls, List.drop_eq_getElem_cons hlt]
        rw [List.flatMap_append, List.flatMap_cons, List.append_assoc]
      refine smR_smB (l1 := [87, (ls.length : Int)] ++ (ls.take k).flatMap smB) (l2 := (ls.drop (k + 1)).flatMap smB ++ rest) (mem_wf hwf (List.getElem_mem _)) hx ?_ ?_
      · rw [h]; unfold bodyB; rw [hspl]; simp
      · rw [List.length_append, flatB_len]; simp; omega
  have := key ls.length (Nat.le_refl _)
  rwa [List.take_length] at this

section
variable {s : ByteArray} {ls : List Sm} {rest : List Int}

theorem cN_of (h : nums s = bodyB ls ++ rest) : cN s = ls.length := by
  have : byt s 1 = (ls.length : Int) := byt_nums (by rw [h]; simp [bodyB])
  unfold cN; rw [this]; simp
theorem size_of (h : nums s = bodyB ls ++ rest) : s.size = 2 + 11 * ls.length + rest.length := by
  rw [← nums_len, h, List.length_append, bodyB_len]; omega

/-- A right batch comes back out of its record, whatever stands behind it. -/
theorem whole_yes {tail : List Int} (h1 : 1 ≤ ls.length) (h8 : ls.length ≤ 8) (hwf : SmWf ls) (hok : smsOk ls = true) (h : nums s = recB ls ++ tail) : unOk s = true ∧ cN s = ls.length ∧ smsR s (cN s) = ls := by
  have hb : nums s = bodyB ls ++ (lowN (chk (bodyB ls)) 4 ++ tail) := by rw [h]; simp [recB]
  have hc := cN_of hb
  have hsz := size_of hb
  have hsm : smsR s (cN s) = ls := by rw [hc]; exact smsR_of hwf hok hb
  refine ⟨?_, hc, hsm⟩
  unfold unOk
  rw [hsm, hok, Bool.and_true, headOk_iff, hc]
  simp only [List.length_append, lowN_len] at hsz
  refine ⟨by omega, byt_nums (by rw [hb]; simp [bodyB]), h1, h8, by omega, ?_⟩
  have e1 : num4 s (2 + 11 * ls.length) = chk (bodyB ls) := num4_low (chk_range _) (by rw [h]; rfl) (by rw [bodyB_len]; omega)
  have e2 : (nums s).take (2 + 11 * ls.length) = bodyB ls := by
    rw [hb, show 2 + 11 * ls.length = (bodyB ls).length by rw [bodyB_len]; omega]; exact List.take_left
  rw [e1, e2]

/-- With a byte less there is none. -/
theorem whole_less (h : nums s = (recB ls).take ((recB ls).length - 1)) : unOk s = false := by
  have hb : nums s = bodyB ls ++ (lowN (chk (bodyB ls)) 4).take 3 := by
    rw [h, recB_len]; unfold recB
    rw [List.take_append, List.take_of_length_le (by rw [bodyB_len]; omega), bodyB_len]
    congr 2; omega
  have hc := cN_of hb
  have hsz := size_of hb
  have hl : ((lowN (chk (bodyB ls)) 4).take 3).length = 3 := by simp [lowN_len]
  unfold unOk
  rw [no_of (a := headOk s) (by rw [headOk_iff, hc]; omega)]
  rfl

/-- With a byte turned there is none (but for the second one). -/
theorem whole_turned {k : Nat} {d : Int} (hwf : SmWf ls) (hn : ls.length ≤ 8) (hk : k < (recB ls).length) (hk1 : k ≠ 1) (hd0 : isByte d) (hd : (recB ls)[k]? ≠ some d) (h : nums s = (recB ls).set k d) : unOk s = false := by
  have hbytes : ∀ y ∈ bodyB ls, isByte y := bodyB_byte hwf (by omega)
  have hbl := bodyB_len ls
  have hll : (lowN (chk (bodyB ls)) 4).length = 4 := lowN_len _ _
  unfold unOk
  rw [no_of (a := headOk s) ?_]
  · rfl
  rw [headOk_iff]
  rintro ⟨h2, h0, hc1, hc8, hlen, hnum⟩
  by_cases hkb : k < (bodyB ls).length
  · have hset : (recB ls).set k d = (bodyB ls).set k d ++ lowN (chk (bodyB ls)) 4 := by unfold recB; rw [List.set_append_left _ _ hkb]
    rw [hset] at h
    by_cases hk0 : k = 0
    · subst hk0
      have : byt s 0 = d := byt_nums (by rw [h]; simp [bodyB])
      rw [this] at h0
      apply hd
      simp [recB, bodyB, h0]
    · have hc : cN s = ls.length := by
        have : byt s 1 = (ls.length : Int) := byt_nums (by
          rw [h, List.getElem?_append_left (by simp; omega), List.getElem?_set_ne (by omega)]
          simp [bodyB])
        unfold cN; rw [this]; simp
      rw [hc] at hnum
      have e1 : num4 s (2 + 11 * ls.length) = chk (bodyB ls) := num4_low (l1 := (bodyB ls).set k d) (l2 := []) (chk_range _) (by rw [h]; simp) (by rw [List.length_set]; omega)
      have e2 : (nums s).take (2 + 11 * ls.length) = (bodyB ls).set k d := by
        rw [h, show 2 + 11 * ls.length = ((bodyB ls).set k d).length by simp; omega]; exact List.take_left
      rw [e1, e2] at hnum
      have hb1 : bodyB ls = (bodyB ls).take k ++ (bodyB ls)[k] :: (bodyB ls).drop (k + 1) := by
        rw [← List.drop_eq_getElem_cons hkb, List.take_append_drop]
      have hb2 : (bodyB ls).set k d = (bodyB ls).take k ++ d :: (bodyB ls).drop (k + 1) := by rw [List.set_eq_take_append_cons_drop, if_pos hkb]
      rw [hb2] at hnum
      conv at hnum => lhs; rw [hb1]
      refine chk_turned _ _ (hbytes _ (List.getElem_mem _)) hd0 ?_ hnum
      intro he
      apply hd
      unfold recB
      rw [List.getElem?_append_left hkb, List.getElem?_eq_getElem hkb, he]
  · have hkr : k - (bodyB ls).length < 4 := by
      have := recB_len ls; omega
    have hset : (recB ls).set k d = bodyB ls ++ (lowN (chk (bodyB ls)) 4).set (k - (bodyB ls).length) d := by unfold recB; rw [List.set_append_right _ _ (by omega)]
    rw [hset] at h
    have hc := cN_of h
    rw [hc] at hnum
    have e2 : (nums s).take (2 + 11 * ls.length) = bodyB ls := by
      rw [h, show 2 + 11 * ls.length = (bodyB ls).length by omega]; exact List.take_left
    rw [e2] at hnum
    have hlow : lowN (num4 s (2 + 11 * ls.length)) 4 = (lowN (chk (bodyB ls)) 4).set (k - (bodyB ls).length) d := by
      have hsz : s.size = (bodyB ls).length + 4 := by rw [← nums_len, h]; simp [hll]
      rw [low_num4 s _ (by omega)]
      unfold seg
      rw [h, show 2 + 11 * ls.length = (bodyB ls).length by omega, List.drop_left]
      exact List.take_of_length_le (by simp [hll])
    rw [hnum] at hlow
    apply hd
    unfold recB
    rw [List.getElem?_append_right (by omega), hlow, List.getElem?_set_self (by omega)]
end

end Go.Proofs.YthciddpljcbhiabGreatDoor

/- Walks: numbers as bytes by the document's answer (low, checked). -/
namespace Go.Proofs.YthciddpljcbhiabGreatDoor
open Go.RowKit

theorem Tryz.info5' : (Tryz.prog.info? 5).map (fun i => (i.zero, i.size, i.bytes)) = some (some (.int .u8 0), 1, 1) := by kernel_rfl

theorem shrN_succ (n : Int) (k : Nat) : shrN n (k + 1) = shrN n k / 256 := rfl

/-- An owned row of bytes, as a string. -/
theorem convOwn {w : World} {B : Nat} {v : Value} {n : Nat} {xs : List Int} (h : w.ownsRow B 5 1 v n (xs.map (Value.int .u8))) (hn : 0 < n) : (convert 85 9 v).run Tryz.prog w = .ok (.string (strOfNums xs)) w := by
  have hlen : xs.length = n := by have := h.1; simpa using this
  obtain ⟨_, h2⟩ := h
  rcases h2 with ⟨_, h0⟩ | ⟨g, cap, cur, rfl, _, hg, hnc, _, hcs, ht⟩
  · omega
  · refine run_convert_bytes_arg (P := Tryz.prog) _ 85 5 Tryz.underlying85 Tryz.underlying5 g 0 n cap xs hlen (fun i hi => ?_) 9 Tryz.underlying9
    have e : (cur.toList.take (n * 1))[i]? = some (.int .u8 (xs.getD i 0)) := by rw [ht]; simp [List.getD, show i < xs.length by omega]
    rw [List.getElem?_take_of_lt (by omega), Array.getElem?_toList] at e
    simp [World.cell?, hg, e]

set_option maxHeartbeats 400000 in
theorem low_any (n : Int) (m : Nat) (w : World) (h0 : 0 ≤ n) (h1 : n ≤ 9223372036854775807) (hm0 : 0 < m) (hm : m ≤ 8) :
    Calls Tryz.prog 74 #[.int .i64 n, .int .i64 m] w fun e w' => e = .returned (.string (strOfNums (lowN n m))) ∧ Below w.heap.size w w' := by
  obtain ⟨i0, hi, hz0, hz1, hz2⟩ := info_parts Tryz.info5'
  go_enter Tryz.func74, Tryz.ntmps74
  go_wp2
  go_loopw [0, 5, 6] (fun q v i wr => ∃ k : Nat, k ≤ m ∧ i = .int .i64 k ∧ q = .int .i64 (shrN n k) ∧ wr.ownsRow w.heap.size 5 1 v k ((lowN n k).map (Value.int .u8)) ∧ Below w.heap.size w wr) (fun _ _ i _ => m - (intOf i).toNat)
  case atStart => exact ⟨0, Nat.zero_le _, rfl, rfl, World.ownsRow_nil _ _ _ _, Below.refl _ _⟩
  case round =>
    obtain ⟨k, hk, rfl, rfl, hown, hbel⟩ := hrel
    have HO : Hid (wr.ownsRow w.heap.size 5 1 u5 k ((lowN n k).map (Value.int .u8))) := hown
    have HB : Hid (Below w.heap.size w wr) := hbel
    have hsz := hbel.size
    clear hown hbel
    obtain ⟨hq0, hq1⟩ := shrN_range n h0 k
    have HS : Hid (shrN n (k + 1) = shrN n k / 256) := shrN_succ n k
    have HL : Hid (lowN n (k + 1) = lowN n k ++ [shrN n k % 256]) := lowN_snoc k n
    generalize hq : shrN n k = q at *
    clear hq
    by_cases hlt : k < m
    · go_wp2_with (first | (at_builtin; refine wpList_append_own _ rfl _ _ 85 rfl w.heap.size 5 i0 (.int .u8 0) 1 1 Tryz.underlying85 hi hz0 hz1 hz2 rfl (by decide) _ _ _ rfl (HO.out.alloc _) ⟨wr.heap.size, 0, none⟩ 1 1 [.int .u8 (q % 256)] rfl rfl ?c1 ?c2 ?c3 ?c4 ?c5 ?_) | go_in)
      case c1 =>
        intro j u hj
        match j, hj with
        | 0, hj => simp at hj; subst hj; simp [Addr.add]
      case c2 => intro u hu; simp at hu; subst hu; rfl
      case c3 => unfold maxLen; omega
      case c4 => omega
      case c5 => simp; omega
      intro v' w1 hown' hgrow _
      have hb1 : Below w.heap.size w w1 := (HB.out.alloc hsz _).grown hgrow (by simp; omega) (fun b hb => (HO.out.lt b hb).1)
      have HO' : Hid (w1.ownsRow w.heap.size 5 1 v' (k + 1) ((lowN n (k + 1)).map (Value.int .u8))) := by
        rw [HL.out, List.map_append]; exact hown'
      have HB' : Hid (Below w.heap.size w w1) := hb1
      clear hown' hgrow hb1
      go_wp2
      go_roundw
      case rel => exact ⟨k + 1, by omega, by go_num, by rw [HS.out], HO'.out, HB'.out⟩
      case measure => simp [intOf]; omega
    · have hkm : k = m := by omega
      have hcv := convOwn HO.out (by omega)
      go_wp2
      go_ret
      exact ⟨rfl, HB.out⟩

set_option maxHeartbeats 400000 in
theorem checked_any (s : ByteArray) (w : World) (hs : s.size ≤ 1000000) :
    Calls Tryz.prog 75 #[.string s] w fun e w' => e = .returned (.string (s ++ strOfNums (lowN (chk (nums s)) 4))) ∧ Below w.heap.size w w' := by
  go_enter Tryz.func75, Tryz.ntmps75
  go_wp2
  go_loop [3, 4] (fun h i => ∃ k : Nat, k ≤ s.size ∧ i = .int .i64 k ∧ h = .int .i64 (chk ((nums s).take k))) (fun _ i => s.size - (intOf i).toNat)
  case atStart => exact ⟨0, Nat.zero_le _, rfl, rfl⟩
  case round =>
    obtain ⟨k, hk, rfl, rfl⟩ := hrel
    obtain ⟨hq0, hq1⟩ := chk_range ((nums s).take k)
    by_cases hlt : k < s.size
    · have HB : Hid (((s[k].toNat : Nat) : Int) = byt s k) := byt_eq s k hlt
      have hbr := byt_range s k
      have hb1 : ((s[k].toNat : Nat) : Int) ≤ 255 := by rw [HB.out]; exact hbr.2
      have hb0 : 0 ≤ ((s[k].toNat : Nat) : Int) := by omega
      clear hbr
      have HT : Hid (chk ((nums s).take (k + 1)) = chkS (chk ((nums s).take k)) (byt s k)) := by rw [nums_take s k hlt]; exact chk_snoc _ _
      go_wp2
      refine ⟨⟨k + 1, by omega, by go_num, ?_⟩, by simp [intOf]; omega⟩
      rw [HT.out, ← HB.out]
      unfold chkS
      rfl
    · have HE : Hid ((nums s).take k = nums s) := List.take_of_length_le (by rw [nums_len]; omega)
      rw [HE.out] at hq0 hq1
      go_wp2_with fail
      rw [HE.out]
      have hsum : s.size + (strOfNums (lowN (chk (nums s)) 4)).size ≤ 9223372036854775807 := by rw [strOfNums_size, lowN_len]; omega
      refine (low_any _ 4 _ (by omega) (by omega) (by omega) (by omega)).mono ?_
      rintro e w1 ⟨rfl, hb⟩
      go_wp2_with fail
      go_ret
      exact ⟨rfl, hb⟩

end Go.Proofs.YthciddpljcbhiabGreatDoor

/- Walks: the record of a batch, by the program and by the document's answer. -/
namespace Go.Proofs.YthciddpljcbhiabGreatDoor
open Go.RowKit

theorem conv3' (w : World) (g : Nat) (hg : g = w.heap.size) (a b c : Int) : (convert 85 9 (.slice (some ⟨g, 0, none⟩) 3 3)).run Tryz.prog (w.alloc (.cells #[.int .u8 a, .int .u8 b, .int .u8 c] 5)) =
    .ok (.string (strOfNums [a, b, c])) (w.alloc (.cells #[.int .u8 a, .int .u8 b, .int .u8 c] 5)) := convNew w [a, b, c] 3 rfl 3 _ rfl _ hg

set_option maxHeartbeats 400000 in
set_option maxRecDepth 100000 in
theorem ofSample_any (x : Sm) (w : World) (ht0 : 0 ≤ x.time) (ht1 : x.time ≤ 100000) (_hv0 : -2147483648 ≤ x.value) (_hv1 : x.value ≤ 2147483647) :
    Calls Tryz.prog 91 #[smV x] w fun e w' => e = .returned (.string (strOfNums (smB x))) ∧ Below w.heap.size w w' := by
  obtain ⟨hu0, hu1⟩ := uval_range x.value
  have HU : Hid (uval x.value = x.value % 4294967296) := rfl
  have HS : Hid (strOfNums (lowN x.time 4) ++ strOfNums [x.l0, x.l1, x.l2] ++ strOfNums (lowN (uval x.value) 4) = strOfNums (smB x)) := by
    rw [str_add, str_add]; rfl
  have hs1 : (strOfNums (lowN x.time 4)).size + (strOfNums [x.l0, x.l1, x.l2]).size ≤ 9223372036854775807 := by rw [strOfNums_size, strOfNums_size, lowN_len]; simp
  have hs2 : (strOfNums (lowN x.time 4) ++ strOfNums [x.l0, x.l1, x.l2]).size + (strOfNums (lowN (uval x.value) 4)).size ≤ 9223372036854775807 := by rw [str_add, strOfNums_size, strOfNums_size, lowN_len]; simp [lowN_len]
  go_enter Tryz.func91, Tryz.ntmps91
  go_wp2_with fail
  refine (number_any _ _ (by omega) (by omega)).mono ?_
  rintro e w1 ⟨rfl, o1, rfl⟩
  have hcv := fun w g hg => conv3' w g hg x.l0 x.l1 x.l2
  go_wp2_with fail
  refine (number_any _ _ (by omega) (by omega)).mono ?_
  rintro e w1 ⟨rfl, o2, rfl⟩
  rw [← HU.out]
  go_wp2_with fail
  go_ret
  refine ⟨ret_str HS.out, ?_⟩
  exact ((((Below.refl _ _).alloc (Nat.le_refl _) _).alloc (by simp) _).alloc (by simp; omega) _).alloc (by simp; omega) _

theorem conv2' (w : World) (g : Nat) (hg : g = w.heap.size) (a b : Int) : (convert 85 9 (.slice (some ⟨g, 0, none⟩) 2 2)).run Tryz.prog (w.alloc (.cells #[.int .u8 a, .int .u8 b] 5)) =
    .ok (.string (strOfNums [a, b])) (w.alloc (.cells #[.int .u8 a, .int .u8 b] 5)) := convNew w [a, b] 2 rfl 2 _ rfl _ hg

/-- The bytes of a record's beginning: its head and k samples. -/
def begB (ls : List Sm) (k : Nat) : List Int := [87, (ls.length : Int)] ++ (ls.take k).flatMap smB
theorem begB_succ (ls : List Sm) (k : Nat) (h : k < ls.length) : begB ls (k + 1) = begB ls k ++ smB (smG ls k) := by
  unfold begB; rw [flat_take ls k h, List.append_assoc]
theorem begB_len (ls : List Sm) (k : Nat) : (begB ls k).length ≤ 2 + ls.length * 11 := by
  unfold begB
  simp [flat_length smB 11 smB_len]
  have : min k ls.length ≤ ls.length := Nat.min_le_right _ _
  omega
theorem begB_all (ls : List Sm) (k : Nat) (h : ls.length ≤ k) : begB ls k = bodyB ls := by unfold begB bodyB; rw [List.take_of_length_le h]

set_option maxHeartbeats 400000 in
set_option maxRecDepth 100000 in
theorem ofBatch_any (b off n cap : Nat) (ls : List Sm) (w : World) (hn : ls.length = n) (h8 : n ≤ 8) (hat : SmAt w b off ls) (hwf : SmWf ls) (hok : smsOk ls = true) :
    Calls Tryz.prog 64 #[.slice (some ⟨b, off, none⟩) n cap] w fun e w' => e = .returned (.string (strOfNums (recB ls))) ∧ Below w.heap.size w w' := by
  have HAT : Hid (SmAt w b off ls) := hat
  have HN : Hid (ls.length = n) := hn
  have HW : Hid (SmWf ls) := hwf
  have HOK : Hid (∀ j, j < n → smOk (smG ls j) = true) := fun j hj => by
    have := List.all_eq_true.1 hok j (List.mem_range.2 (by omega)); exact this
  clear hat hn hwf hok
  have hcv := fun w g hg => conv2' w g hg 87 (n : Int)
  go_enter Tryz.func64, Tryz.ntmps64
  go_wp2_with fail
  go_loopw [3, 4] (fun s i wr => ∃ k : Nat, k ≤ n ∧ i = .int .i64 k ∧ s = .string (strOfNums (begB ls k)) ∧ Below w.heap.size w wr) (fun _ i _ => n - (intOf i).toNat)
  case atStart => exact ⟨0, Nat.zero_le _, rfl, by rw [show begB ls 0 = [87, (n : Int)] from by simp [begB, HN.out]], (Below.refl _ _).alloc (Nat.le_refl _) _⟩
  case round =>
    obtain ⟨k, hk, rfl, rfl, hbel⟩ := hrel
    have hsz := hbel.size
    by_cases hlt : k < n
    · have hb0 : b < w.heap.size := HAT.out.block (by rw [HN.out]; omega)
      obtain ⟨c0, c1, c2, c3, c4⟩ := (HAT.out.below hbel hb0) k (by rw [HN.out]; exact hlt)
      have HX := (smOk_iff _).1 (HOK.out k hlt)
      obtain ⟨ht0, ht1, _⟩ := HX
      obtain ⟨_, _, _, _, hv0, hv1⟩ := HW.out k
      have HE : Hid (strOfNums (begB ls k) ++ strOfNums (smB (smG ls k)) = strOfNums (begB ls (k + 1))) := by show _ = _; rw [str_add, begB_succ ls k (by rw [HN.out]; exact hlt)]
      have hsum : (strOfNums (begB ls k)).size + (strOfNums (smB (smG ls k))).size ≤ 9223372036854775807 := by
        rw [strOfNums_size, strOfNums_size, smB_len]; have := begB_len ls k; have := HN.out; omega
      go_wp2_with fail
      refine (ofSample_any (smG ls k) _ ht0 ht1 hv0 hv1).mono ?_
      rintro e w1 ⟨rfl, hb1⟩
      go_wp2_with fail
      rw [HE.out]
      exact ⟨⟨k + 1, by omega, by go_num, rfl, hbel.trans (hb1.mono hsz)⟩, by simp [intOf]; omega⟩
    · have HB : Hid (begB ls k = bodyB ls) := begB_all ls k (by rw [HN.out]; omega)
      have HNU : Hid (nums (strOfNums (bodyB ls)) = bodyB ls) := nums_str _ (bodyB_byte HW.out (by rw [HN.out]; omega))
      have hlen : (bodyB ls).length ≤ 100 := by rw [bodyB_len, HN.out]; omega
      obtain ⟨q0, q1⟩ := chk_range (bodyB ls)
      rw [HB.out]
      have hsum : (strOfNums (bodyB ls)).size + (strOfNums (lowN (chk (bodyB ls)) 4)).size ≤ 9223372036854775807 := by rw [strOfNums_size, strOfNums_size, lowN_len]; omega
      have HE : Hid (strOfNums (bodyB ls) ++ strOfNums (lowN (chk (bodyB ls)) 4) = strOfNums (recB ls)) := by rw [str_add]; rfl
      go_wp2_with fail
      refine (check_any (strOfNums (bodyB ls)) _ (by rw [strOfNums_size]; unfold maxLen; omega)).mono ?_
      rintro e w1 ⟨rfl, rfl⟩
      rw [HNU.out]
      go_wp2_with fail
      refine (number_any _ _ q0 q1).mono ?_
      rintro e w1 ⟨rfl, o1, rfl⟩
      go_wp2_with fail
      go_ret
      exact ⟨ret_str HE.out, hbel.alloc hsz _⟩

set_option maxHeartbeats 1000000 in
set_option maxRecDepth 100000 in
theorem written_any (b off n cap : Nat) (ls : List Sm) (w : World) (hn : ls.length = n) (h8 : n ≤ 8) (hat : SmAt w b off ls) (hwf : SmWf ls) (hok : smsOk ls = true) :
    Calls Tryz.prog 44 #[.slice (some ⟨b, off, none⟩) n cap] w fun e w' => e = .returned (.string (strOfNums (recB ls))) ∧ Below w.heap.size w w' := by
  have HAT : Hid (SmAt w b off ls) := hat
  have HN : Hid (ls.length = n) := hn
  have HW : Hid (SmWf ls) := hwf
  have HOK : Hid (∀ j, j < n → smOk (smG ls j) = true) := fun j hj => by
    have := List.all_eq_true.1 hok j (List.mem_range.2 (by omega)); exact this
  clear hat hn hwf hok
  have hs0 : (⟨#[87]⟩ : ByteArray).size + (strOfNums (lowN (n : Int) 1)).size ≤ 9223372036854775807 := by rw [strOfNums_size, lowN_len]; decide
  have HH : Hid ((⟨#[87]⟩ : ByteArray) ++ strOfNums (lowN (n : Int) 1) = strOfNums (begB ls 0)) := by
    show _ = _
    rw [show (⟨#[87]⟩ : ByteArray) = strOfNums [87] from rfl, str_add, low1_eq _ (by omega) (by omega)]
    simp [begB, HN.out]
  go_enter Tryz.func44, Tryz.ntmps44
  go_wp2_with fail
  refine (low_any _ 1 _ (by omega) (by omega) (by omega) (by omega)).mono ?_
  rintro e w1 ⟨rfl, hb1⟩
  go_wp2_with fail
  rw [HH.out]
  go_loopw [4, 5] (fun s i wr => ∃ k : Nat, k ≤ n ∧ i = .int .i64 k ∧ s = .string (strOfNums (begB ls k)) ∧ Below w.heap.size w wr) (fun _ i _ => n - (intOf i).toNat)
  case atStart => exact ⟨0, Nat.zero_le _, rfl, rfl, hb1⟩
  case round =>
    obtain ⟨k, hk, rfl, rfl, hbel⟩ := hrel
    have hsz := hbel.size
    by_cases hlt : k < n
    · have hb0 : b < w.heap.size := HAT.out.block (by rw [HN.out]; omega)
      have HAR : Hid (SmAt wr b off ls) := HAT.out.below hbel hb0
      obtain ⟨c0, c1, c2, c3, c4⟩ := HAR.out k (by rw [HN.out]; exact hlt)
      obtain ⟨ht0, ht1, _⟩ := (smOk_iff _).1 (HOK.out k hlt)
      obtain ⟨_, _, _, _, hv0, hv1⟩ := HW.out k
      have hbr : b < wr.heap.size := by omega
      have HE : Hid (strOfNums (begB ls k) ++ strOfNums (lowN (smG ls k).time 4) ++ strOfNums [(smG ls k).l0, (smG ls k).l1, (smG ls k).l2] ++ strOfNums (lowN (uval (smG ls k).value) 4) = strOfNums (begB ls (k + 1))) := by
        show _ = _
        rw [str_add, str_add, str_add, begB_succ ls k (by rw [HN.out]; exact hlt)]; simp [smB]
      have hlen : (strOfNums (begB ls k)).size ≤ 100 := by rw [strOfNums_size]; have := begB_len ls k; have := HN.out; omega
      have hz1 : (strOfNums (begB ls k)).size + (strOfNums (lowN (smG ls k).time 4)).size ≤ 9223372036854775807 := by rw [strOfNums_size (lowN _ _), lowN_len]; omega
      have hz2 : (strOfNums (begB ls k) ++ strOfNums (lowN (smG ls k).time 4)).size + (strOfNums [(smG ls k).l0, (smG ls k).l1, (smG ls k).l2]).size ≤ 9223372036854775807 := by
        rw [ByteArray.size_append, strOfNums_size (lowN _ _), strOfNums_size [_, _, _], lowN_len]; simp; omega
      have hz3 : (strOfNums (begB ls k) ++ strOfNums (lowN (smG ls k).time 4) ++ strOfNums [(smG ls k).l0, (smG ls k).l1, (smG ls k).l2]).size + (strOfNums (lowN (uval (smG ls k).value) 4)).size ≤ 9223372036854775807 := by
        rw [ByteArray.size_append, ByteArray.size_append, strOfNums_size (lowN _ _), strOfNums_size (lowN _ _), strOfNums_size [_, _, _], lowN_len, lowN_len]; simp; omega
      have hcv := fun w g hg => conv3' w g hg (smG ls k).l0 (smG ls k).l1 (smG ls k).l2
      have hu0 : 0 ≤ uval (smG ls k).value := (uval_range _).1
      have hu1 : uval (smG ls k).value < 4294967296 := (uval_range _).2
      generalize hX : smG ls k = X at *
      clear hX
      by_cases hneg : X.value < 0
      · have HU : Hid (X.value + 4294967296 = uval X.value) := by show _ = _; unfold uval; omega
        go_wp2_with fail
        refine (low_any _ 4 _ ht0 (by omega) (by omega) (by omega)).mono ?_
        rintro e w2 ⟨rfl, hb2⟩
        have hsz2 : wr.heap.size < w2.heap.size := by have := hb2.size; simp at this; omega
        have j0 : w2.cell? ⟨wr.heap.size, 0, none⟩ = some (.int .u8 X.l0) := by rw [hb2.cell (p := ⟨wr.heap.size, 0, none⟩) (by simp)]; simp [go_sem]
        have j1 : w2.cell? ⟨wr.heap.size, 1, none⟩ = some (.int .u8 X.l1) := by rw [hb2.cell (p := ⟨wr.heap.size, 1, none⟩) (by simp)]; simp [go_sem]
        have j2 : w2.cell? ⟨wr.heap.size, 2, none⟩ = some (.int .u8 X.l2) := by rw [hb2.cell (p := ⟨wr.heap.size, 2, none⟩) (by simp)]; simp [go_sem]
        have hbw2 : Below w.heap.size w w2 := (hbel.alloc hsz _).trans (hb2.mono (by simp; omega))
        clear hb2 c0 c1 c2 c3 c4
        go_wp2_with fail
        refine (low_any _ 4 _ (by omega) (by omega) (by omega) (by omega)).mono ?_
        rintro e w3 ⟨rfl, hb3⟩
        rw [HU.out]
        have hbw3 : Below w.heap.size w w3 := hbw2.trans (hb3.mono hbw2.size)
        have i0 : w3.cell? ⟨wr.heap.size, 0, none⟩ = some (.int .u8 X.l0) := (hb3.cell (p := ⟨wr.heap.size, 0, none⟩) hsz2).trans j0
        have i1 : w3.cell? ⟨wr.heap.size, 1, none⟩ = some (.int .u8 X.l1) := (hb3.cell (p := ⟨wr.heap.size, 1, none⟩) hsz2).trans j1
        have i2 : w3.cell? ⟨wr.heap.size, 2, none⟩ = some (.int .u8 X.l2) := (hb3.cell (p := ⟨wr.heap.size, 2, none⟩) hsz2).trans j2
        have hsz3 := hbw3.size
        clear hb3 j0 j1 j2 hbw2
        go_wp2_with fail
        rw [HE.out]
        exact ⟨⟨k + 1, by omega, by go_num, rfl, hbw3.alloc hsz3 _⟩, by simp [intOf]; omega⟩
      · have HU : Hid (lowN X.value 4 = lowN (uval X.value) 4) := by show _ = _; congr 1; unfold uval; omega
        go_wp2_with fail
        refine (low_any _ 4 _ ht0 (by omega) (by omega) (by omega)).mono ?_
        rintro e w2 ⟨rfl, hb2⟩
        have hsz2 : wr.heap.size < w2.heap.size := by have := hb2.size; simp at this; omega
        have j0 : w2.cell? ⟨wr.heap.size, 0, none⟩ = some (.int .u8 X.l0) := by rw [hb2.cell (p := ⟨wr.heap.size, 0, none⟩) (by simp)]; simp [go_sem]
        have j1 : w2.cell? ⟨wr.heap.size, 1, none⟩ = some (.int .u8 X.l1) := by rw [hb2.cell (p := ⟨wr.heap.size, 1, none⟩) (by simp)]; simp [go_sem]
        have j2 : w2.cell? ⟨wr.heap.size, 2, none⟩ = some (.int .u8 X.l2) := by rw [hb2.cell (p := ⟨wr.heap.size, 2, none⟩) (by simp)]; simp [go_sem]
        have hbw2 : Below w.heap.size w w2 := (hbel.alloc hsz _).trans (hb2.mono (by simp; omega))
        clear hb2 c0 c1 c2 c3 c4
        go_wp2_with fail
        refine (low_any _ 4 _ (by omega) (by omega) (by omega) (by omega)).mono ?_
        rintro e w3 ⟨rfl, hb3⟩
        rw [HU.out]
        have hbw3 : Below w.heap.size w w3 := hbw2.trans (hb3.mono hbw2.size)
        have i0 : w3.cell? ⟨wr.heap.size, 0, none⟩ = some (.int .u8 X.l0) := (hb3.cell (p := ⟨wr.heap.size, 0, none⟩) hsz2).trans j0
        have i1 : w3.cell? ⟨wr.heap.size, 1, none⟩ = some (.int .u8 X.l1) := (hb3.cell (p := ⟨wr.heap.size, 1, none⟩) hsz2).trans j1
        have i2 : w3.cell? ⟨wr.heap.size, 2, none⟩ = some (.int .u8 X.l2) := (hb3.cell (p := ⟨wr.heap.size, 2, none⟩) hsz2).trans j2
        have hsz3 := hbw3.size
        clear hb3 j0 j1 j2 hbw2
        go_wp2_with fail
        rw [HE.out]
        exact ⟨⟨k + 1, by omega, by go_num, rfl, hbw3.alloc hsz3 _⟩, by simp [intOf]; omega⟩
    · have HB : Hid (begB ls k = bodyB ls) := begB_all ls k (by rw [HN.out]; omega)
      have HNU : Hid (nums (strOfNums (bodyB ls)) = bodyB ls) := nums_str _ (bodyB_byte HW.out (by rw [HN.out]; omega))
      have hlen : (bodyB ls).length ≤ 100 := by rw [bodyB_len, HN.out]; omega
      rw [HB.out]
      have HE : Hid (strOfNums (bodyB ls) ++ strOfNums (lowN (chk (bodyB ls)) 4) = strOfNums (recB ls)) := by show _ = _; rw [str_add]; rfl
      go_wp2_with fail
      refine (checked_any (strOfNums (bodyB ls)) _ (by rw [strOfNums_size]; omega)).mono ?_
      rintro e w2 ⟨rfl, hb2⟩
      rw [HNU.out, HE.out]
      go_wp2_with fail
      go_ret
      exact ⟨rfl, hbel.trans (hb2.mono hsz)⟩

end Go.Proofs.YthciddpljcbhiabGreatDoor

/- Walks: Record, of the program and of the document's answer. -/
namespace Go.Proofs.YthciddpljcbhiabGreatDoor
open Go.RowKit

/-- The string that Record answers. -/
def recS (ls : List Sm) : ByteArray := if batE ls = 0 then strOfNums (recB ls) else ⟨#[]⟩
theorem recS_yes {ls : List Sm} (h : batE ls = 0) : recS ls = strOfNums (recB ls) := by simp [recS, h]
theorem recS_no {ls : List Sm} (h : ¬ batE ls = 0) : recS ls = ⟨#[]⟩ := by simp [recS, h]

theorem garRecord_any (a : Option Addr) (n cap : Nat) (ls : List Sm) (w : World) (h : IsSms w a n ls) (hwf : SmWf ls) :
    Calls Tryz.prog 31 #[.slice a n cap] w fun e w' => e = .returned (.tuple #[.string (recS ls), .int .i64 (batE ls)]) ∧ Below w.heap.size w w' := by
  have H0 : Hid (IsSms w a n ls) := h
  have HW : Hid (SmWf ls) := hwf
  clear h hwf
  by_cases hz : batE ls = 0
  · obtain ⟨h1, h8, hok⟩ := (batE_zero ls).1 hz
    obtain ⟨b, off, rfl, hat⟩ := H0.out.2 (by rw [← H0.out.1]; omega)
    have hb0 : b < w.heap.size := hat.block h1
    rw [recS_yes hz, hz]
    have HZ : Hid (batE ls = 0) := hz
    have HAT : Hid (SmAt w b off ls) := hat
    have HOK : Hid (smsOk ls = true) := hok
    have H8 : Hid (ls.length ≤ 8) := h8
    clear hz hat hok h8 h1
    go_enter Tryz.func31, Tryz.ntmps31
    go_wp2_with fail
    refine (checkBatch_any _ n cap ls _ H0.out).mono ?_
    rintro e w1 ⟨rfl, hb1⟩
    rw [HZ.out]
    go_wp2_with fail
    refine (ofBatch_any b off n cap ls _ H0.out.1 (by rw [← H0.out.1]; exact H8.out) (HAT.out.below hb1 hb0) HW.out HOK.out).mono ?_
    rintro e w2 ⟨rfl, hb2⟩
    go_wp2_with fail
    go_ret2
    exact ⟨rfl, hb1.trans (hb2.mono hb1.size)⟩
  · rw [recS_no hz]
    have hzz : (batE ls == 0) = false := by simpa using hz
    clear hz
    go_enter Tryz.func31, Tryz.ntmps31
    go_wp2_with fail
    refine (checkBatch_any a n cap ls _ H0.out).mono ?_
    rintro e w1 ⟨rfl, hb1⟩
    go_wp2_with fail
    go_ret2
    exact ⟨rfl, hb1⟩

theorem refRecord_any (a : Option Addr) (n cap : Nat) (ls : List Sm) (w : World) (h : IsSms w a n ls) (hwf : SmWf ls) :
    Calls Tryz.prog 33 #[.slice a n cap] w fun e w' => e = .returned (.tuple #[.string (recS ls), .int .i64 (batE ls)]) ∧ Below w.heap.size w w' := by
  have H0 : Hid (IsSms w a n ls) := h
  have HW : Hid (SmWf ls) := hwf
  clear h hwf
  by_cases hz : batE ls = 0
  · obtain ⟨h1, h8, hok⟩ := (batE_zero ls).1 hz
    obtain ⟨b, off, rfl, hat⟩ := H0.out.2 (by rw [← H0.out.1]; omega)
    have hb0 : b < w.heap.size := hat.block h1
    rw [recS_yes hz, hz]
    have HZ : Hid (batE ls = 0) := hz
    have HAT : Hid (SmAt w b off ls) := hat
    have HOK : Hid (smsOk ls = true) := hok
    have H8 : Hid (ls.length ≤ 8) := h8
    clear hz hat hok h8 h1
    go_enter Tryz.func33, Tryz.ntmps33
    go_wp2_with fail
    refine (rightBatch_any _ n cap ls _ H0.out).mono ?_
    rintro e w1 ⟨rfl, hb1⟩
    rw [HZ.out]
    go_wp2_with fail
    refine (written_any b off n cap ls _ H0.out.1 (by rw [← H0.out.1]; exact H8.out) (HAT.out.below hb1 hb0) HW.out HOK.out).mono ?_
    rintro e w2 ⟨rfl, hb2⟩
    go_wp2_with fail
    go_ret2
    exact ⟨rfl, hb1.trans (hb2.mono hb1.size)⟩
  · rw [recS_no hz]
    have hzz : (batE ls == 0) = false := by simpa using hz
    clear hz
    go_enter Tryz.func33, Tryz.ntmps33
    go_wp2_with fail
    refine (rightBatch_any a n cap ls _ H0.out).mono ?_
    rintro e w1 ⟨rfl, hb1⟩
    go_wp2_with fail
    go_ret2
    exact ⟨rfl, hb1⟩

end Go.Proofs.YthciddpljcbhiabGreatDoor

/- Walks: how long a record is, and its samples read (the program). -/
namespace Go.Proofs.YthciddpljcbhiabGreatDoor
open Go.RowKit

def headN (s : ByteArray) : Int := if headOk s then 6 + 11 * (cN s : Int) else 0
theorem headN_yes {s : ByteArray} (h : headOk s = true) : headN s = 6 + 11 * (cN s : Int) := by simp [headN, h]
theorem headN_no {s : ByteArray} (h : ¬ headOk s = true) : headN s = 0 := by simp [headN, h]

set_option maxHeartbeats 400000 in
set_option maxRecDepth 100000 in
theorem batchSize_any (s : ByteArray) (w : World) (hs : s.size ≤ maxLen) :
    Calls Tryz.prog 92 #[.string s] w fun e w' => e = .returned (.int .i64 (headN s)) ∧ w' = w := by
  have HM : Hid (s.size ≤ maxLen) := hs
  unfold maxLen at hs
  have HI : Hid (headOk s = true ↔ 2 ≤ s.size ∧ byt s 0 = 87 ∧ 1 ≤ cN s ∧ cN s ≤ 8 ∧ 6 + 11 * cN s ≤ s.size ∧ num4 s (2 + 11 * cN s) = chk ((nums s).take (2 + 11 * cN s))) := headOk_iff s
  by_cases h2 : 2 ≤ s.size
  · have hd2 : 2 ≤ (s.size : Int) := by omega
    have B0 : Hid (((s[0].toNat : Nat) : Int) = byt s 0) := byt_eq s 0 (by omega)
    have hb1 : ((s[1].toNat : Nat) : Int) = ((cN s : Nat) : Int) := by rw [cN_eq]; exact byt_eq s 1 (by omega)
    have hY := @headN_yes s
    generalize cN s = c at *
    have HY : Hid (headOk s = true → headN s = 6 + 11 * (c : Int)) := hY
    clear hY
    by_cases h0 : byt s 0 = 87
    · have hx0 : ((s[0].toNat : Int) != 87) = false := by rw [B0.out, h0]; rfl
      have hxd : decide ((s.size : Int) < 2) = false := by simp; omega
      have H0 : Hid (byt s 0 = 87) := h0
      clear h0
      by_cases hc : 1 ≤ c ∧ c ≤ 8
      · obtain ⟨hc1, hc2⟩ := hc
        by_cases hlen : 6 + 11 * c ≤ s.size
        · have hsl : 2 + c * 11 ≤ s.size := by omega
          have hsl' : (2 : Int) + (c : Int) * 11 + 4 ≤ (s.size : Int) := by omega
          go_enter Tryz.func92, Tryz.ntmps92
          have hxe : decide ((c : Int) < 1) = false := by simp; omega
          have hxf : decide (8 < (c : Int)) = false := by simp; omega
          go_wp2_with fail
          have hmx : (s.extract 0 (2 + c * 11)).size ≤ maxLen := by rw [ByteArray.size_extract]; unfold maxLen; omega
          refine (check_any _ _ hmx).mono ?_
          rintro e w1 ⟨rfl, rfl⟩
          rw [nums_extract]
          go_wp2_with fail
          rw [show (2 : Int) + (c : Int) * 11 = ((2 + c * 11 : Nat) : Int) from by omega]
          refine (readNumber_any s (2 + c * 11) _ HM.out (by omega)).mono ?_
          rintro e w2 ⟨rfl, rfl⟩
          rw [show 2 + 11 * c = 2 + c * 11 from by omega] at HI
          by_cases hck : num4 s (2 + c * 11) = chk ((nums s).take (2 + c * 11))
          · have hh : headOk s = true := by rw [HI.out]; exact ⟨h2, H0.out, hc1, hc2, hlen, hck⟩
            have HV : Hid (headN s = 6 + 11 * (c : Int)) := HY.out hh
            have hbn : (num4 s (2 + c * 11) != chk ((nums s).take (2 + c * 11))) = false := by simp [hck]
            clear hh hck
            generalize num4 s (2 + c * 11) = q1 at *
            generalize chk ((nums s).take (2 + c * 11)) = q2 at *
            go_wp2
            go_ret
            exact ⟨ret_i64' (by rw [HV.out]; omega), rfl⟩
          · have HV : Hid (headN s = 0) := headN_no (by rw [HI.out]; intro hh; exact hck hh.2.2.2.2.2)
            have hbn : (num4 s (2 + c * 11) != chk ((nums s).take (2 + c * 11))) = true := by simpa using hck
            clear hck
            generalize num4 s (2 + c * 11) = q1 at *
            generalize chk ((nums s).take (2 + c * 11)) = q2 at *
            go_wp2
            go_ret
            exact ⟨ret_i64' HV.out.symm, rfl⟩
        · have hsl' : (s.size : Int) < (2 : Int) + (c : Int) * 11 + 4 := by omega
          rw [headN_no (by rw [HI.out]; omega)]
          go_enter Tryz.func92, Tryz.ntmps92
          go_wp2
          go_ret
          exact ⟨rfl, rfl⟩
      · rw [headN_no (by rw [HI.out]; omega)]
        by_cases hc0 : c = 0
        · subst hc0
          go_enter Tryz.func92, Tryz.ntmps92
          go_wp2
          go_ret
          exact ⟨rfl, rfl⟩
        · have hc1 : 1 ≤ (c : Int) := by omega
          have hc8 : 8 < (c : Int) := by omega
          have hc9 : (c : Int) ≤ 255 := by rw [← hb1]; have := s[1].toNat_lt; omega
          go_enter Tryz.func92, Tryz.ntmps92
          go_wp2
          go_ret
          exact ⟨rfl, rfl⟩
    · have hx0 : ((s[0].toNat : Int) != 87) = true := by rw [B0.out]; simpa using h0
      have hxd : decide ((s.size : Int) < 2) = false := by simp; omega
      rw [headN_no (by rw [HI.out]; intro hh; exact h0 hh.2.1)]
      go_enter Tryz.func92, Tryz.ntmps92
      go_wp2
      go_ret
      exact ⟨rfl, rfl⟩
  · have hd2 : (s.size : Int) < 2 := by omega
    rw [headN_no (by rw [HI.out]; omega)]
    go_enter Tryz.func92, Tryz.ntmps92
    go_wp2
    go_ret
    exact ⟨rfl, rfl⟩
end Go.Proofs.YthciddpljcbhiabGreatDoor

/- Walks: one sample read (the program). -/
namespace Go.Proofs.YthciddpljcbhiabGreatDoor
open Go.RowKit

def rdV (s : ByteArray) (p : Nat) : Value := .tuple #[(if smOk (smR s p) then smV (smR s p) else smV Sm.zero), .bool (smOk (smR s p))]
theorem rdV_no {s : ByteArray} {p : Nat} (h : smOk (smR s p) = false) : rdV s p = .tuple #[.agg #[.int .i64 0, .int .u8 0, .int .u8 0, .int .u8 0, .int .i32 0], .bool false] := by simp [rdV, h, Sm.zero]
theorem rdV_yes {s : ByteArray} {p : Nat} (h : smOk (smR s p) = true) : rdV s p = .tuple #[smV (smR s p), .bool true] := by simp [rdV, h]

theorem wrap32_sval {V : Int} (h0 : 0 ≤ V) (h1 : V < 4294967296) : wrap32 V = sval V := by
  unfold sval; unfold wrap32; split <;> omega

/-- What a call leaves of the first and the third of three boxes of its caller's. -/
theorem three5 {w w1 : World} {o2 : Obj} {x0 x1 x2 x3 x4 y0 y1 y2 y3 y4 : Value}
    (hb : Below (((w.alloc (.cells #[x0, x1, x2, x3, x4] 76)).alloc o2).alloc (.cells #[y0, y1, y2, y3, y4] 76)).drew.heap.size (((w.alloc (.cells #[x0, x1, x2, x3, x4] 76)).alloc o2).alloc (.cells #[y0, y1, y2, y3, y4] 76)).drew w1) :
    w.heap.size + 1 + 1 < w1.heap.size ∧ w1.cell? ⟨w.heap.size, 0, none⟩ = some x0 ∧ w1.cell? ⟨w.heap.size, 1, none⟩ = some x1 ∧ w1.cell? ⟨w.heap.size, 2, none⟩ = some x2 ∧ w1.cell? ⟨w.heap.size, 3, none⟩ = some x3 ∧ w1.cell? ⟨w.heap.size, 4, none⟩ = some x4 ∧
    w1.frozen? ⟨w.heap.size, 0, none⟩ = false ∧ w1.frozen? ⟨w.heap.size, 1, none⟩ = false ∧ w1.frozen? ⟨w.heap.size, 2, none⟩ = false ∧ w1.frozen? ⟨w.heap.size, 3, none⟩ = false ∧ w1.frozen? ⟨w.heap.size, 4, none⟩ = false ∧
    w1.cell? ⟨w.heap.size + 1 + 1, 0, none⟩ = some y0 ∧ w1.cell? ⟨w.heap.size + 1 + 1, 1, none⟩ = some y1 ∧ w1.cell? ⟨w.heap.size + 1 + 1, 2, none⟩ = some y2 ∧ w1.cell? ⟨w.heap.size + 1 + 1, 3, none⟩ = some y3 ∧ w1.cell? ⟨w.heap.size + 1 + 1, 4, none⟩ = some y4 := by
  have hz := hb.size
  have hs : (((w.alloc (.cells #[x0, x1, x2, x3, x4] 76)).alloc o2).alloc (.cells #[y0, y1, y2, y3, y4] 76)).drew.heap.size = w.heap.size + 1 + 1 + 1 := by simp
  rw [hs] at hb hz
  have b0 : w1.heap[w.heap.size]? = some (.cells #[x0, x1, x2, x3, x4] 76) := by
    rw [hb.block _ (by omega)]
    show (((w.alloc (.cells #[x0, x1, x2, x3, x4] 76)).alloc o2).alloc (.cells #[y0, y1, y2, y3, y4] 76)).heap[w.heap.size]? = _
    rw [Below.heap_alloc _ _ _ (by simp; omega), Below.heap_alloc _ _ _ (by simp), heap_alloc_new]
  have b2 : w1.heap[w.heap.size + 1 + 1]? = some (.cells #[y0, y1, y2, y3, y4] 76) := by
    rw [hb.block _ (by omega)]
    have := heap_alloc_new ((w.alloc (.cells #[x0, x1, x2, x3, x4] 76)).alloc o2) (.cells #[y0, y1, y2, y3, y4] 76)
    simp only [World.size_alloc] at this
    exact this
  refine ⟨by omega, ?_, ?_, ?_, ?_, ?_, ?_, ?_, ?_, ?_, ?_, ?_, ?_, ?_, ?_, ?_⟩
  all_goals simp [World.cell?, World.frozen?, b0, b2]

set_option maxHeartbeats 1000000 in
set_option maxRecDepth 100000 in
theorem readSample_any (s : ByteArray) (p : Nat) (w : World) (hs : s.size ≤ maxLen) (hp : p + 11 ≤ s.size) :
    Calls Tryz.prog 93 #[.string s, .int .i64 p] w fun e w' => e = .returned (rdV s p) ∧ Below w.heap.size w w' := by
  have HM : Hid (s.size ≤ maxLen) := hs
  unfold maxLen at hs
  have hx1 : decide ((p : Int) < 0) = false := by simp
  have hx2 : decide ((s.size : Int) - 11 < (p : Int)) = false := by simp; omega
  have B4 : Hid (((s[p + 4].toNat : Nat) : Int) = byt s (p + 4)) := byt_eq s (p + 4) (by omega)
  have B5 : Hid (((s[p + 4 + 1].toNat : Nat) : Int) = byt s (p + 5)) := byt_eq s (p + 5) (by omega)
  have B6 : Hid (((s[p + 4 + 2].toNat : Nat) : Int) = byt s (p + 6)) := byt_eq s (p + 6) (by omega)
  obtain ⟨n0, n1⟩ := num4_range s p
  obtain ⟨m0, m1⟩ := num4_range s (p + 7)
  have HI : Hid (smOk (smR s p) = true ↔ 0 ≤ num4 s p ∧ num4 s p ≤ 100000 ∧ lab3 (byt s (p + 4)) (byt s (p + 5)) (byt s (p + 6)) = true) := smOk_iff _
  have HR : Hid (smR s p = ⟨num4 s p, byt s (p + 4), byt s (p + 5), byt s (p + 6), sval (num4 s (p + 7))⟩) := rfl
  by_cases hat : num4 s p ≤ 100000
  · go_enter Tryz.func93, Tryz.ntmps93
    go_wp2_with fail
    refine (readNumber_any s p _ HM.out (by omega)).mono ?_
    rintro e w1 ⟨rfl, rfl⟩
    generalize hA : num4 s p = A at *
    have HA : Hid (num4 s p = A) := hA
    clear hA
    have hx3 : decide (100000 < A) = false := by simp; omega
    go_wp2_with fail
    rw [show (p : Int) + 7 = ((p + 7 : Nat) : Int) from by omega]
    refine (readNumber_any s (p + 7) _ HM.out (by omega)).mono ?_
    rintro e w1 ⟨rfl, rfl⟩
    generalize num4 s (p + 7) = V at *
    have n0' := m0
    go_wp2_with fail
    have i4 : (p : Int) + 4 < (s.size : Int) := by omega
    have i5 : (p : Int) + 4 + 1 < (s.size : Int) := by omega
    have i6 : (p : Int) + 4 + 2 < (s.size : Int) := by omega
    have j4 : 0 ≤ (p : Int) + 4 := by omega
    have j5 : 0 ≤ (p : Int) + 4 + 1 := by omega
    have j6 : 0 ≤ (p : Int) + 4 + 2 := by omega
    go_region
    go_wp2_with fail
    rw [B4.out, B5.out, B6.out, wrap32_sval n0' m1]
    clear i4 i5 i6 j4 j5 j6 B4 B5 B6 HM
    have HV : Hid (rdV s p = .tuple #[(if smOk ⟨A, byt s (p + 4), byt s (p + 5), byt s (p + 6), sval V⟩ then smV ⟨A, byt s (p + 4), byt s (p + 5), byt s (p + 6), sval V⟩ else smV Sm.zero), .bool (smOk ⟨A, byt s (p + 4), byt s (p + 5), byt s (p + 6), sval V⟩)]) := by
      show _ = _
      rw [rdV, HR.out]
    clear HR HI
    generalize byt s (p + 4) = L0 at *
    generalize byt s (p + 5) = L1 at *
    generalize byt s (p + 6) = L2 at *
    generalize sval V = SV at *
    refine (smRight_any ⟨A, L0, L1, L2, SV⟩ _).mono ?_
    rintro e w1 ⟨rfl, hb⟩
    obtain ⟨hz, q0, q1, q2, q3, q4, f0, f1, f2, f3, f4, r0, r1, r2, r3, r4⟩ := three5 hb
    have hbw : Below w.heap.size w w1 := ((((Below.refl _ _).alloc (Nat.le_refl _) _).alloc (by simp) _).alloc (by simp; omega) _).drew.trans (hb.mono (by simp; omega))
    clear hb
    cases hok : smOk ⟨A, L0, L1, L2, SV⟩
    · rw [hok] at HV
      go_wp2_with fail
      refine bodyPost_ret (v := .tuple #[.agg #[.int .i64 0, .int .u8 0, .int .u8 0, .int .u8 0, .int .i32 0], .bool false]) (by simp [results, Tryz.results93, go_sem, q0, q1, q2, q3, q4]) rfl ⟨by rw [HV.out]; rfl, ?_⟩
      exact ((((hbw.setCell (Nat.le_refl _) _).setCell (Nat.le_refl _) _).setCell (Nat.le_refl _) _).setCell (Nat.le_refl _) _).setCell (Nat.le_refl _) _
    · rw [hok] at HV
      go_wp2_with fail
      refine bodyPost_ret (v := .tuple #[smV ⟨A, L0, L1, L2, SV⟩, .bool true]) (by simp [results, Tryz.results93, go_sem, q0, q1, q2, q3, q4]) rfl ⟨by rw [HV.out]; rfl, ?_⟩
      exact ((((hbw.setCell (Nat.le_refl _) _).setCell (Nat.le_refl _) _).setCell (Nat.le_refl _) _).setCell (Nat.le_refl _) _).setCell (Nat.le_refl _) _
  · rw [rdV_no (no_of (by rw [HI.out]; omega))]
    have hx3 : decide (100000 < num4 s p) = true := by simp; omega
    go_enter Tryz.func93, Tryz.ntmps93
    go_wp2_with fail
    refine (readNumber_any s p _ HM.out (by omega)).mono ?_
    rintro e w1 ⟨rfl, rfl⟩
    generalize num4 s p = A at *
    go_wp2_with fail
    go_returns
    exact ⟨rfl, by go_grown⟩
end Go.Proofs.YthciddpljcbhiabGreatDoor

/- Walks: samples in a list of the caller's own, and whether they read as they did (handed, sameSamples, still). -/
namespace Go.Proofs.YthciddpljcbhiabGreatDoor
open Go.RowKit

theorem Tryz.info76' : (Tryz.prog.info? 76).map (fun i => (i.zero, i.size, i.bytes)) = some (some (.agg #[.int .i64 0, .int .u8 0, .int .u8 0, .int .u8 0, .int .i32 0]), 5, 16) := by kernel_rfl
theorem Tryz.size76 : (Tryz.prog.info? 76).map (·.size) = some 5 := by kernel_rfl

theorem make42 (n : Nat) (h : n ≤ 10000000000000) : ∃ Z : List Value, Z.length = (n + 1) * 5 ∧ ∀ w, (Instr.makeSlice 43 (.int .i64 ((n : Int) + 1)) (.int .i64 ((n : Int) + 1))).run Tryz.prog w =
    .ok (.slice (some ⟨w.heap.size, 0, none⟩) (n + 1) (n + 1)) (w.alloc (.cells Z.toArray 76)) := by
  have hinfo := Tryz.info76'
  cases hq : Tryz.prog.info? 76 with
  | none => simp [hq] at hinfo
  | some i =>
    simp only [hq, Option.map_some, Option.some.injEq, Prod.mk.injEq] at hinfo
    obtain ⟨hz, hs, hb⟩ := hinfo
    refine ⟨(madeCells (Value.cells (.agg #[.int .i64 0, .int .u8 0, .int .u8 0, .int .u8 0, .int .i32 0])) ((n + 1) * 5)).toList, by simp [size_madeCells], fun w => ?_⟩
    have hr := run_make (P := Tryz.prog) w 43 76 i _ Tryz.underlying43 hq hz .i64 .i64 ((n : Int) + 1) ((n : Int) + 1) (by omega) (by omega) (by rw [hb]; omega) (by omega)
    rw [hr, hs, show ((n : Int) + 1).toNat = n + 1 from by omega]

theorem copy42 (X : World) (Z : List Value) (a : Option Addr) (n cap : Nat) (ls : List Sm) (hZ : Z.length = (n + 1) * 5) (h : IsSms X a n ls) (g : Nat) (hg : g = X.heap.size) (ty : TypeId) :
    (Builtin.copy_ #[43, 43] ty #[.slice (some ⟨g, 0, none⟩) (n + 1) (n + 1), .slice a n cap]).run Tryz.prog (X.alloc (.cells Z.toArray 76)) =
      .ok (goInt n) (X.alloc (.cells (flatS ls ++ Z.drop (n * 5)).toArray 76)) := by
  subst hg
  obtain ⟨hn, hx⟩ := h
  by_cases h0 : n = 0
  · subst h0
    have : ls = [] := List.eq_nil_of_length_eq_zero hn
    subst this
    rw [run_copyN_none _ 43 43 ty 76 5 _ _ _ _ _ _ Tryz.underlying43 Tryz.size76 (by simp)]
    simp [flatS]
  · obtain ⟨b, off, rfl, hat⟩ := hx (by omega)
    have hb := hat.block (by omega)
    have hat' := at_of_sm (hat.below ((Below.refl X.heap.size X).alloc (Nat.le_refl _) (.cells Z.toArray 76)) hb)
    rw [run_copyN (P := Tryz.prog) _ 43 43 ty 76 5 X.heap.size 0 (n + 1) (n + 1) ⟨b, off, none⟩ n cap Z.toArray 76 (flatS ls) Tryz.underlying43 Tryz.size76 (heap_alloc_new X _)
      (by rw [flatS_len, hn]; congr 1; simp) (fun j v hj => by
        have := hat' j v hj
        rw [show (⟨b, off, none⟩ : Addr).add j = ⟨b, off + j, none⟩ from by unfold Addr.add; split <;> simp_all]
        exact this) (by simp [flatS_len, hZ]; omega) (flatS_one ls)]
    rw [setRow_alloc]
    have : Nat.min n (n + 1) = n := by simp
    rw [this]
    simp [flatS_len, hn]

def blotSm : Sm := ⟨-77, 0, 0, 0, 0⟩
theorem blotS_set (ls : List Sm) (n : Nat) (R : List Value) (z0 z1 z2 z3 z4 : Value) (hl : (flatS ls).length = n * 5) (hR : R = flatS ls ++ [z0, z1, z2, z3, z4]) :
    (((((R.set (n * 5) (.int .i64 (-77))).set (n * 5 + 1) (.int .u8 0)).set (n * 5 + 2) (.int .u8 0)).set (n * 5 + 3) (.int .u8 0)).set (n * 5 + 4) (.int .i32 0)).toArray = (flatS (ls ++ [blotSm])).toArray := by
  subst hR
  have : flatS (ls ++ [blotSm]) = flatS ls ++ [.int .i64 (-77), .int .u8 0, .int .u8 0, .int .u8 0, .int .i32 0] := flat_snoc _ _ _
  rw [this]
  rw [List.set_append_right _ _ (by omega), hl, List.set_append_right _ _ (by omega), hl, List.set_append_right _ _ (by omega), hl, List.set_append_right _ _ (by omega), hl, List.set_append_right _ _ (by omega), hl]
  simp
theorem world1 {w : World} {A B : Array Value} {t : TypeId} (h : A = B) : w.alloc (.cells A t) = w.alloc (.cells B t) := by rw [h]

set_option maxHeartbeats 1000000 in
theorem handed_any (a : Option Addr) (n cap : Nat) (ls : List Sm) (w : World) (h : IsSms w a n ls) (hr : n ≤ 10000000000000) :
    Calls Tryz.prog 30 #[.slice a n cap] w fun e w' =>
      e = .returned (.tuple #[.slice (some ⟨w.heap.size, 0, none⟩) n (n + 1), .slice (some ⟨w.heap.size, 0, none⟩) (n + 1) (n + 1)]) ∧ w' = w.alloc (.cells (flatS (ls ++ [blotSm])).toArray 76) := by
  obtain ⟨Z, hZ, hmk⟩ := make42 n hr
  have HZ : Hid (Z.length = (n + 1) * 5) := hZ
  clear hZ
  have hcp := fun ty => copy42 w Z a n cap ls HZ.out h w.heap.size rfl ty
  have hfl : (flatS ls).length = n * 5 := by rw [flatS_len, h.1]
  obtain ⟨z0, z1, z2, z3, z4, hz⟩ : ∃ z0 z1 z2 z3 z4, Z.drop (n * 5) = [z0, z1, z2, z3, z4] := by
    have : (Z.drop (n * 5)).length = 5 := by simp [HZ.out]; omega
    match hd : Z.drop (n * 5), this with
    | [z0, z1, z2, z3, z4], _ => exact ⟨z0, z1, z2, z3, z4, rfl⟩
  clear h
  have HLen : Hid ((flatS ls).length = n * 5) := hfl
  clear hfl
  generalize hR : flatS ls ++ Z.drop (n * 5) = R at hcp
  have e0 : R[n * 5]? = some z0 := by rw [← hR, hz, List.getElem?_append_right (by rw [HLen.out]; omega), HLen.out]; simp
  have e1 : R[n * 5 + 1]? = some z1 := by rw [← hR, hz, List.getElem?_append_right (by rw [HLen.out]; omega), HLen.out]; simp
  have e2 : R[n * 5 + 2]? = some z2 := by rw [← hR, hz, List.getElem?_append_right (by rw [HLen.out]; omega), HLen.out]; simp
  have e3 : R[n * 5 + 3]? = some z3 := by rw [← hR, hz, List.getElem?_append_right (by rw [HLen.out]; omega), HLen.out]; simp
  have e4 : R[n * 5 + 4]? = some z4 := by rw [← hR, hz, List.getElem?_append_right (by rw [HLen.out]; omega), HLen.out]; simp
  have HR : Hid (R = flatS ls ++ [z0, z1, z2, z3, z4]) := by rw [← hR, hz]; rfl
  clear hR hz HZ
  go_enter Tryz.func30, Tryz.ntmps30
  go_wp2_with fail
  go_ret2
  exact ⟨rfl, world1 (blotS_set ls n R z0 z1 z2 z3 z4 HLen.out HR.out)⟩

set_option maxHeartbeats 1000000 in
theorem sameSamples_yes (a a' : Option Addr) (n cap cap' : Nat) (ls : List Sm) (w : World) (hr : n ≤ 10000000000000) (h : IsSms w a n ls) (h' : IsSms w a' n ls) :
    Calls Tryz.prog 36 #[.slice a n cap, .slice a' n cap'] w fun e w' => e = .returned (.bool true) ∧ ∃ d, w' = w.drewN d := by
  have H : Hid (IsSms w a n ls) := h
  have H' : Hid (IsSms w a' n ls) := h'
  have HN : Hid (ls.length = n) := h.1
  clear h h'
  go_enter Tryz.func36, Tryz.ntmps36
  go_wp2_with fail
  go_loopw [5] (fun i wr => ∃ k : Nat, k ≤ n ∧ i = .int .i64 k ∧ ∃ d, wr = w.drewN d) (fun i _ => n - (intOf i).toNat)
  case atStart => exact ⟨0, Nat.zero_le _, rfl, 0, rfl⟩
  case round =>
    obtain ⟨k, hk, rfl, d, rfl⟩ := hrel
    by_cases hlt : k < n
    · obtain ⟨b, off, rfl, hat⟩ := H.out.2 (by omega)
      obtain ⟨b', off', rfl, hat'⟩ := H'.out.2 (by omega)
      obtain ⟨c0, c1, c2, c3, c4⟩ := hat k (by rw [HN.out]; exact hlt)
      obtain ⟨d0, d1, d2, d3, d4⟩ := hat' k (by rw [HN.out]; exact hlt)
      clear hat hat'
      generalize smG ls k = X at *
      have heq := fun w => eq26 9997 X.l0 X.l1 X.l2 X.l0 X.l1 X.l2 w
      simp only [beq_self_eq_true, Bool.and_self] at heq
      go_wp2_with fail
      go_quiet (fail)
      go_wp2_with fail
      exact ⟨⟨k + 1, by omega, by go_num, _, rfl⟩, by simp [intOf]; omega⟩
    · go_wp2_with fail
      go_ret
      exact ⟨rfl, _, rfl⟩

set_option maxHeartbeats 1000000 in
theorem still_any (a : Option Addr) (g n cap : Nat) (ls : List Sm) (w : World) (hr : n ≤ 10000000000000)
    (hall : SmAt w g 0 (ls ++ [blotSm])) (hrow : Row w g ((n + 1) * 5)) (hl : IsSms w a n ls) :
    Calls Tryz.prog 32 #[.slice (some ⟨g, 0, none⟩) (n + 1) (n + 1), .slice a n cap] w fun e w' => e = .returned (.bool true) ∧ Below g w w' := by
  have HA : Hid (SmAt w g 0 (ls ++ [blotSm])) := hall
  have HL : Hid (IsSms w a n ls) := hl
  have HRow : Hid (Row w g ((n + 1) * 5)) := hrow
  have HN : Hid (ls.length = n) := hl.1
  clear hall hl hrow
  obtain ⟨c0, _, _, _, _⟩ := HA.out n (by simp [HN.out])
  rw [show smG (ls ++ [blotSm]) n = blotSm from by rw [← HN.out]; exact smG_last ls _] at c0
  simp only [Nat.zero_add] at c0
  have hage : blotSm.time = -77 := rfl
  rw [hage] at c0
  clear hage
  go_enter Tryz.func32, Tryz.ntmps32
  go_wp2_with fail
  refine (sameSamples_yes (some ⟨g, 0, none⟩) a n (n + 1) cap ls _ hr ⟨HN.out, fun _ => ⟨g, 0, rfl, smAt_left HA.out⟩⟩ HL.out).mono ?_
  rintro e w1 ⟨rfl, d, rfl⟩
  go_wp2_with fail
  go_loopw [8] (fun i wr => ∃ k : Nat, k ≤ n + 1 ∧ i = .int .i64 k ∧ Below g w wr ∧ Row wr g ((n + 1) * 5)) (fun i _ => n + 1 - (intOf i).toNat)
  case atStart => exact ⟨0, Nat.zero_le _, rfl, below_drewN (Below.refl _ _) _, HRow.out.drew d⟩
  case round =>
    obtain ⟨k2, hk2, rfl, hbel, hrow⟩ := hrel
    have HR2 : Hid (Row wr g ((n + 1) * 5)) := hrow
    clear hrow
    by_cases hlt2 : k2 < n + 1
    · obtain ⟨⟨v0, q0⟩, f0⟩ := HR2.out.cell (o := k2 * 5) (by omega)
      obtain ⟨⟨v1, q1⟩, f1⟩ := HR2.out.cell (o := k2 * 5 + 1) (by omega)
      obtain ⟨⟨v2, q2⟩, f2⟩ := HR2.out.cell (o := k2 * 5 + 2) (by omega)
      obtain ⟨⟨v3, q3⟩, f3⟩ := HR2.out.cell (o := k2 * 5 + 3) (by omega)
      obtain ⟨⟨v4, q4⟩, f4⟩ := HR2.out.cell (o := k2 * 5 + 4) (by omega)
      go_wp2_with fail
      refine ⟨⟨k2 + 1, by omega, by go_num, ?_, ?_⟩, by simp [intOf]; omega⟩
      · exact ((((hbel.setCell (Nat.le_refl _) _).setCell (Nat.le_refl _) _).setCell (Nat.le_refl _) _).setCell (Nat.le_refl _) _).setCell (Nat.le_refl _) _
      · exact (((((HR2.out.set _).set _).set _).set _).set _)
    · go_wp2_with fail
      go_ret
      exact ⟨rfl, hbel⟩

end Go.Proofs.YthciddpljcbhiabGreatDoor

/- Walks: a batch read (ReadBatch, Unrecord of the program). -/
namespace Go.Proofs.YthciddpljcbhiabGreatDoor
open Go.RowKit

theorem owns_belowU {w w' : World} {base : Nat} {e : TypeId} {sz : Nat} {v : Value} {n : Nat} {xs : List Value} (h : w.ownsRow base e sz v n xs) (hb : Below w.heap.size w w') : w'.ownsRow base e sz v n xs := by
  have hlt := h.lt
  obtain ⟨h1, h2⟩ := h
  refine ⟨h1, ?_⟩
  rcases h2 with h2 | ⟨g, cap, cur, rfl, hbg, hg, hr⟩
  · exact Or.inl h2
  · refine Or.inr ⟨g, cap, cur, rfl, hbg, ?_, hr⟩
    rw [hb.block g (hlt g rfl).2]; exact hg

/-- An owned row of samples is a list of samples. -/
theorem owns_sms {w : World} {base : Nat} {v : Value} {n : Nat} {ls : List Sm} (h : w.ownsRow base 76 5 v n (flatS ls)) (hn : ls.length = n) : ∃ a cap, v = .slice a n cap ∧ IsSms w a n ls := by
  rcases h.2 with ⟨rfl, rfl⟩ | ⟨g, cap, cur, rfl, hbg, hg, hnc, hcm, hcs, htake⟩
  · exact ⟨none, 0, rfl, hn, fun h => absurd h (by omega)⟩
  · refine ⟨_, cap, rfl, hn, fun _ => ⟨g, 0, rfl, smAt_of fun j u hj => ?_⟩⟩
    rw [← htake] at hj
    have hj' : cur[j]? = some u := by
      rw [List.getElem?_take] at hj
      split at hj
      · simpa using hj
      · cases hj
    simp [World.cell?, hg, hj']

theorem flatS_succ (s : ByteArray) (k : Nat) : flatS (smsR s (k + 1)) = flatS (smsR s k) ++ (smR s (2 + 11 * k)).cells := by rw [smsR_succ]; exact flat_snoc _ _ _

/-- What Unrecord answers. -/
def UnPost (s : ByteArray) (w : World) (e : Ending) (w' : World) : Prop :=
  Below w.heap.size w w' ∧ ((unOk s = true ∧ ∃ v, e = .returned (.tuple #[v, .int .i64 (6 + 11 * (cN s : Int)), .int .i64 0]) ∧ w'.ownsRow w.heap.size 76 5 v (cN s) (flatS (smsR s (cN s)))) ∨
    (unOk s = false ∧ e = .returned (.tuple #[.slice none 0 0, .int .i64 0, .int .i64 13])))

set_option maxHeartbeats 1000000 in
set_option maxRecDepth 100000 in
theorem readBatch_any (s : ByteArray) (w : World) (hs : s.size ≤ maxLen) : Calls Tryz.prog 66 #[.string s] w (UnPost s w) := by
  have HM : Hid (s.size ≤ maxLen) := hs
  unfold maxLen at hs
  cases hh : headOk s
  · have HN : Hid (headN s = 0) := headN_no (by simp [hh])
    go_enter Tryz.func66, Tryz.ntmps66
    go_wp2_with fail
    refine (batchSize_any s _ HM.out).mono ?_
    rintro e w1 ⟨rfl, rfl⟩
    rw [HN.out]
    go_wp2_with fail
    go_ret3
    exact ⟨Below.refl _ _, Or.inr ⟨by simp [unOk, hh], rfl⟩⟩
  · obtain ⟨h2, _, hc1, hc2, hlen, _⟩ := (headOk_iff s).1 hh
    have HN : Hid (headN s = 6 + 11 * (cN s : Int)) := headN_yes hh
    have HU : Hid (unOk s = smsOk (smsR s (cN s))) := by show _ = _; simp [unOk, hh]
    obtain ⟨i0, hi, hz0, hz1, hz2⟩ := info_parts Tryz.info76'
    have HP : Hid (∀ e w', UnPost s w e w' = (Below w.heap.size w w' ∧ ((unOk s = true ∧ ∃ v, e = .returned (.tuple #[v, .int .i64 (6 + 11 * (cN s : Int)), .int .i64 0]) ∧ w'.ownsRow w.heap.size 76 5 v (cN s) (flatS (smsR s (cN s)))) ∨
      (unOk s = false ∧ e = .returned (.tuple #[.slice none 0 0, .int .i64 0, .int .i64 13]))))) := fun _ _ => rfl
    generalize hcc : cN s = c at *
    clear hh hcc
    have hzb : ((6 : Int) + 11 * (c : Int) == 0) = false := by simp; omega
    go_enter Tryz.func66, Tryz.ntmps66
    go_wp2_with fail
    refine (batchSize_any s _ HM.out).mono ?_
    rintro e w1 ⟨rfl, rfl⟩
    rw [HN.out]
    go_wp2_with fail
    go_loopw [6, 7] (fun v f wr => ∃ k : Nat, k ≤ c ∧ f = .int .i64 (2 + 11 * (k : Int)) ∧ wr.ownsRow w1.heap.size 76 5 v k (flatS (smsR s k)) ∧ Below w1.heap.size w1 wr ∧ ∀ j, j < k → smOk (smR s (2 + 11 * j)) = true) (fun _ f _ => (2 + 11 * c) - (intOf f).toNat)
    case atStart => exact ⟨0, Nat.zero_le _, rfl, World.ownsRow_nil _ _ _ _, Below.refl _ _, fun j hj => by omega⟩
    case round =>
      obtain ⟨k, hk, rfl, hown, hbel, hall⟩ := hrel
      have HO : Hid (wr.ownsRow w1.heap.size 76 5 u6 k (flatS (smsR s k))) := hown
      have HB : Hid (Below w1.heap.size w1 wr) := hbel
      have HA : Hid (∀ j, j < k → smOk (smR s (2 + 11 * j)) = true) := hall
      have hsz := hbel.size
      clear hown hbel hall
      by_cases hlt : k < c
      · have hle : (2 : Int) + 11 * (k : Int) + 11 ≤ 6 + 11 * (c : Int) - 4 := by omega
        go_wp2_with fail
        rw [show (2 : Int) + 11 * (k : Int) = ((2 + 11 * k : Nat) : Int) from by omega]
        refine (readSample_any s (2 + 11 * k) _ HM.out (by omega)).mono ?_
        rintro e w2 ⟨rfl, hb2⟩
        have hbw2 : Below w1.heap.size w1 w2 := HB.out.trans (hb2.mono hsz)
        cases hok : smOk (smR s (2 + 11 * k))
        · rw [rdV_no hok]
          have HX : Hid (unOk s = false) := by
            show _ = _
            rw [HU.out]
            exact all_false k (by rw [smsR_len]; exact hlt) (by rw [smsR_get s c k hlt]; exact hok)
          clear hok hb2
          go_wp2_with fail
          go_ret3
          rw [HP.out]
          exact ⟨hbw2.alloc hbw2.size _, Or.inr ⟨HX.out, rfl⟩⟩
        · rw [rdV_yes hok]
          have HA' : Hid (∀ j, j < k + 1 → smOk (smR s (2 + 11 * j)) = true) := upto_succ HA.out hok
          have HF : Hid (flatS (smsR s (k + 1)) = flatS (smsR s k) ++ (smR s (2 + 11 * k)).cells) := flatS_succ s k
          have HO2 : Hid (w2.ownsRow w1.heap.size 76 5 u6 k (flatS (smsR s k))) := owns_belowU HO.out hb2
          have HB2 : Hid (Below w1.heap.size w1 w2) := hbw2
          have hsz2 := hbw2.size
          generalize smR s (2 + 11 * k) = X at *
          clear hok hb2 HO HB HA hbw2
          go_wp2_with (first | (at_builtin; refine wpList_append_own _ rfl _ _ 43 rfl w1.heap.size 76 i0 (.agg #[.int .i64 0, .int .u8 0, .int .u8 0, .int .u8 0, .int .i32 0]) 5 16 Tryz.underlying43 hi hz0 hz1 hz2 rfl (by decide) _ _ _ rfl ((HO2.out.alloc _).alloc _) ⟨w2.heap.size + 1, 0, none⟩ 1 1 X.cells rfl rfl ?c1 ?c2 ?c3 ?c4 ?c5 ?_) | go_in)
          case c1 =>
            have := at_alloc_new (w2.alloc (smO X)) X.cells 76
            intro j u hj
            have h := this j u hj
            rw [World.size_alloc, Nat.zero_add] at h
            rw [show (⟨w2.heap.size + 1, 0, none⟩ : Addr).add j = ⟨w2.heap.size + 1, j, none⟩ from by unfold Addr.add; split <;> simp_all]
            exact h
          case c2 => intro u hu; simp [Sm.cells] at hu; rcases hu with rfl | rfl | rfl | rfl | rfl <;> rfl
          case c3 => unfold maxLen; omega
          case c4 => omega
          case c5 => simp; omega
          intro v' w3 hown' hgrow _
          have HB3 : Hid (Below w1.heap.size w1 w3) := ((HB2.out.alloc hsz2 _).alloc (by simp; omega) _).grown hgrow (by simp; omega) (fun b hb => (HO2.out.lt b hb).1)
          have HO3 : Hid (w3.ownsRow w1.heap.size 76 5 v' (k + 1) (flatS (smsR s (k + 1)))) := by
            show World.ownsRow _ _ _ _ _ _ _
            rw [HF.out]; exact hown'
          clear hown' hgrow
          go_wp2_with fail
          refine ⟨⟨k + 1, by omega, ?_, HO3.out, HB3.out, HA'.out⟩, ?_⟩
          · have e : ∀ x y : Int, x = y → Value.int IntKind.i64 x = .int .i64 y := fun x y h => by rw [h]
            exact e _ _ (by omega)
          · simp [intOf]; omega
      · have hkc : k = c := by omega
        have hge : ¬ (2 : Int) + 11 * (k : Int) + 11 ≤ 6 + 11 * (c : Int) - 4 := by omega
        have HX : Hid (unOk s = true) := by
          show _ = _
          rw [HU.out]
          refine all_true (fun j hj => ?_)
          rw [smsR_len] at hj
          rw [smsR_get s c j hj]
          exact HA.out j (by omega)
        go_wp2_with fail
        go_ret3
        rw [HP.out]
        exact ⟨HB.out, Or.inl ⟨HX.out, _, rfl, hkc ▸ HO.out⟩⟩

theorem garUnrecord_any (s : ByteArray) (w : World) (hs : s.size ≤ maxLen) : Calls Tryz.prog 34 #[.string s] w (UnPost s w) := by
  have HM : Hid (s.size ≤ maxLen) := hs
  clear hs
  go_enter Tryz.func34, Tryz.ntmps34
  go_wp2_with fail
  refine (readBatch_any s _ HM.out).mono ?_
  rintro e w1 ⟨hb, ⟨hu, v, rfl, hown⟩ | ⟨hu, rfl⟩⟩
  · have HO : Hid (w1.ownsRow w.heap.size 76 5 v (cN s) (flatS (smsR s (cN s)))) := hown
    have HU : Hid (unOk s = true) := hu
    clear hown hu
    generalize hq : (6 : Int) + 11 * (cN s : Int) = q
    have HQ : Hid ((6 : Int) + 11 * (cN s : Int) = q) := hq
    clear hq
    go_wp2_with fail
    go_ret3
    exact ⟨hb, Or.inl ⟨HU.out, v, by rw [HQ.out]; rfl, HO.out⟩⟩
  · have HU : Hid (unOk s = false) := hu
    clear hu
    go_wp2_with fail
    go_ret3
    exact ⟨hb, Or.inr ⟨HU.out, rfl⟩⟩
end Go.Proofs.YthciddpljcbhiabGreatDoor

/- Samples made right, and what a call leaves of a box of its caller's. -/
namespace Go.Proofs.YthciddpljcbhiabGreatDoor
open Go.RowKit

def fixSm (x : Sm) : Sm := ⟨pk x.time 100001, lbB x.l0, lbB x.l1, lbB x.l2, x.value⟩
def fixL (ls : List Sm) (k : Nat) : List Sm := (ls.take k).map fixSm
theorem fixL_len (ls : List Sm) (k : Nat) (h : k ≤ ls.length) : (fixL ls k).length = k := by simp [fixL]; omega
theorem fixL_succ (ls : List Sm) (k : Nat) (h : k < ls.length) : flatS (fixL ls (k + 1)) = flatS (fixL ls k) ++ (fixSm (smG ls k)).cells := by
  unfold fixL
  rw [take_snoc ls k h, List.map_append, smG_get ls k h]
  exact flat_snoc _ _ _
theorem fixSm_ok (x : Sm) : smOk (fixSm x) = true := by
  rw [smOk_iff]
  have h := pk_range x.time 100001 (by omega)
  refine ⟨h.1, by simp only [fixSm]; omega, ?_⟩
  simp [fixSm, lab3, lbB_lab]
theorem lab_byte {a : Int} (h : labB a = true) : 0 ≤ a ∧ a ≤ 255 := by
  simp [labB, letB] at h; omega
theorem fixSm_wf {x : Sm} (h : x.wf) : (fixSm x).wf := by
  have hp := pk_range x.time 100001 (by omega)
  exact ⟨⟨by simp only [fixSm]; omega, by simp only [fixSm]; omega⟩, lab_byte (lbB_lab _), lab_byte (lbB_lab _), lab_byte (lbB_lab _), h.2.2.2.2⟩
theorem all_ok {L : List Sm} (h : ∀ x ∈ L, smOk x = true) : smsOk L = true := all_true fun j hj => by rw [smG_get L j hj]; exact h _ (List.getElem_mem _)
theorem all_wf {L : List Sm} (h : ∀ x ∈ L, x.wf) : SmWf L := by
  intro i
  by_cases hi : i < L.length
  · rw [smG_get L i hi]; exact h _ (List.getElem_mem _)
  · have : smG L i = Sm.zero := by simp only [smG, List.getD]; rw [List.getElem?_eq_none (by omega)]; rfl
    rw [this]; simp [Sm.wf, Sm.zero]
theorem fixL_ok (ls : List Sm) (k : Nat) : ∀ x ∈ fixL ls k, smOk x = true := by
  intro x hx; simp only [fixL, List.mem_map] at hx; obtain ⟨y, _, rfl⟩ := hx; exact fixSm_ok y
theorem fixL_wf {ls : List Sm} (h : SmWf ls) (k : Nat) : ∀ x ∈ fixL ls k, x.wf := by
  intro x hx; simp only [fixL, List.mem_map] at hx; obtain ⟨y, hy, rfl⟩ := hx; exact fixSm_wf (mem_wf h (List.mem_of_mem_take hy))
def dfltSm : Sm := ⟨0, 97, 45, 122, 0⟩

/-- What a call leaves of a box of its caller's. -/
theorem box5 {w w1 : World} {x0 x1 x2 x3 x4 : Value} (hb : Below (w.alloc (.cells #[x0, x1, x2, x3, x4] 76)).heap.size (w.alloc (.cells #[x0, x1, x2, x3, x4] 76)) w1) :
    w.heap.size < w1.heap.size ∧ w1.cell? ⟨w.heap.size, 0, none⟩ = some x0 ∧ w1.cell? ⟨w.heap.size, 1, none⟩ = some x1 ∧ w1.cell? ⟨w.heap.size, 2, none⟩ = some x2 ∧ w1.cell? ⟨w.heap.size, 3, none⟩ = some x3 ∧ w1.cell? ⟨w.heap.size, 4, none⟩ = some x4 ∧
    w1.frozen? ⟨w.heap.size, 0, none⟩ = false ∧ w1.frozen? ⟨w.heap.size, 1, none⟩ = false ∧ w1.frozen? ⟨w.heap.size, 2, none⟩ = false ∧ w1.frozen? ⟨w.heap.size, 3, none⟩ = false ∧ w1.frozen? ⟨w.heap.size, 4, none⟩ = false := by
  have hz := hb.size
  rw [World.size_alloc] at hb hz
  have b0 : w1.heap[w.heap.size]? = some (.cells #[x0, x1, x2, x3, x4] 76) := by rw [hb.block _ (by omega), heap_alloc_new]
  refine ⟨by omega, ?_, ?_, ?_, ?_, ?_, ?_, ?_, ?_, ?_, ?_⟩
  all_goals simp [World.cell?, World.frozen?, b0]
theorem owns_set_ne {w : World} {B : Nat} {e : TypeId} {sz : Nat} {v : Value} {n : Nat} {xs : List Value} (h : w.ownsRow B e sz v n xs) {X : Nat} (hX : ∀ g, v.ownBlock = some g → g ≠ X) (o : Nat) (u : Value) : (w.setCell ⟨X, o, none⟩ u).ownsRow B e sz v n xs := by
  obtain ⟨h1, h2⟩ := h
  refine ⟨h1, ?_⟩
  rcases h2 with h2 | ⟨g, cap, cur, rfl, hbg, hg, hr⟩
  · exact Or.inl h2
  · refine Or.inr ⟨g, cap, cur, rfl, hbg, ?_, hr⟩
    rw [Below.heap_setCell _ _ _ _ (show g ≠ X from hX g rfl)]; exact hg

theorem new_cells (w : World) (l : List Value) (t : TypeId) (g : Nat) (hg : g = w.heap.size) : ∀ j u, l[j]? = some u → (w.alloc (.cells l.toArray t)).cell? ((⟨g, 0, none⟩ : Addr).add j) = some u := by
  subst hg
  intro j u hj
  have h := at_alloc_new w l t j u hj
  rw [Nat.zero_add] at h
  rw [show (⟨w.heap.size, 0, none⟩ : Addr).add j = ⟨w.heap.size, j, none⟩ from by unfold Addr.add; split <;> simp_all]
  exact h
theorem cells_one (x : Sm) : ∀ u ∈ x.cells, u.oneCell' = true := by
  intro u hu; simp [Sm.cells] at hu; rcases hu with rfl | rfl | rfl | rfl | rfl <;> rfl
theorem size_set (w : World) (a : Addr) (u : Value) : (w.setCell a u).heap.size = w.heap.size := by simp [World.setCell]

theorem make42m (n : Nat) (h : n ≤ 10000000000000) : ∃ Z : List Value, Z.length = n * 5 ∧ ∀ w, (Instr.makeSlice 43 (.int .i64 (n : Int)) (.int .i64 (n : Int))).run Tryz.prog w =
    .ok (.slice (some ⟨w.heap.size, 0, none⟩) n n) (w.alloc (.cells Z.toArray 76)) := by
  have hinfo := Tryz.info76'
  cases hq : Tryz.prog.info? 76 with
  | none => simp [hq] at hinfo
  | some i =>
    simp only [hq, Option.map_some, Option.some.injEq, Prod.mk.injEq] at hinfo
    obtain ⟨hz, hs, hb⟩ := hinfo
    refine ⟨(madeCells (Value.cells (.agg #[.int .i64 0, .int .u8 0, .int .u8 0, .int .u8 0, .int .i32 0])) (n * 5)).toList, by simp [size_madeCells], fun w => ?_⟩
    have hr := run_make (P := Tryz.prog) w 43 76 i _ Tryz.underlying43 hq hz .i64 .i64 (n : Int) (n : Int) (by omega) (by omega) (by rw [hb]; omega) (by omega)
    rw [hr, hs, Int.toNat_natCast]
theorem copy42m (X : World) (Z : List Value) (a : Option Addr) (n cap : Nat) (ls : List Sm) (hZ : Z.length = n * 5) (h : IsSms X a n ls) (hn0 : 0 < n) (ty : TypeId) :
    (Builtin.copy_ #[43, 43] ty #[.slice (some ⟨X.heap.size, 0, none⟩) n n, .slice a n cap]).run Tryz.prog (X.alloc (.cells Z.toArray 76)) =
      .ok (goInt n) (X.alloc (.cells (flatS ls).toArray 76)) := by
  obtain ⟨hn, hx⟩ := h
  obtain ⟨b, off, rfl, hat⟩ := hx hn0
  have hb := hat.block (by omega)
  have hat' := at_of_sm (hat.below ((Below.refl X.heap.size X).alloc (Nat.le_refl _) (.cells Z.toArray 76)) hb)
  rw [run_copyN (P := Tryz.prog) _ 43 43 ty 76 5 X.heap.size 0 n n ⟨b, off, none⟩ n cap Z.toArray 76 (flatS ls) Tryz.underlying43 Tryz.size76 (heap_alloc_new X _)
    (by rw [flatS_len, hn]; congr 1; simp) (fun j v hj => by
      have := hat' j v hj
      rw [show (⟨b, off, none⟩ : Addr).add j = ⟨b, off + j, none⟩ from by unfold Addr.add; split <;> simp_all]
      exact this) (by simp [flatS_len, hZ]; omega) (flatS_one ls)]
  rw [setRow_alloc]
  have : Nat.min n n = n := by simp
  rw [this]
  have hd : Z.drop (flatS ls).length = [] := by rw [List.drop_eq_nil_iff, flatS_len]; omega
  simp [hd]
theorem recB_byte2 {ls : List Sm} (h : SmWf ls) (hn : ls.length ≤ 255) : ∀ y ∈ recB ls, isByte y := by
  intro y hy
  rcases List.mem_append.1 hy with hy | hy
  · exact bodyB_byte h hn y hy
  · exact lowN_byte _ _ y hy
theorem nums_append (a b : ByteArray) : nums (a ++ b) = nums a ++ nums b := by
  unfold nums; simp [ByteArray.data_append]

end Go.Proofs.YthciddpljcbhiabGreatDoor

/- The document's store (garnerref) in memory: its configuration and all that was accepted; its time. -/
namespace Go.Proofs.YthciddpljcbhiabGreatDoor
open Go Go.RowKit Go.Lib

/-- A change: an accepted Write, or an accepted Tick. -/
inductive Chg where
  | w (b : List Sm)
  | t (n : Int)
def Chg.tick : Chg → Int
  | .w _ => 0
  | .t n => n
def Chg.smp : Chg → List Sm
  | .w b => b
  | .t _ => []
def St.do (s : St) : Chg → St
  | .w b => s.wr b
  | .t n => s.tk n
def St.doAll (s : St) (cs : List Chg) : St := cs.foldl St.do s
theorem doAll_append (s : St) (a b : List Chg) : s.doAll (a ++ b) = (s.doAll a).doAll b := by simp [St.doAll]
theorem do_now (s : St) (c : Chg) : (s.do c).now = s.now + c.tick := by
  cases c with
  | w b => show s.now = s.now + 0; omega
  | t n => rfl
theorem do_l (s : St) (c : Chg) : (s.do c).l = s.l ++ c.smp := by
  cases c with
  | w b => rfl
  | t n => show s.l = s.l ++ []; rw [List.append_nil]
def sumT (cs : List Chg) : Int := (cs.map Chg.tick).sum
def allS (cs : List Chg) : List Sm := cs.flatMap Chg.smp
theorem sumT_append (a b : List Chg) : sumT (a ++ b) = sumT a + sumT b := by simp [sumT]
theorem allS_append (a b : List Chg) : allS (a ++ b) = allS a ++ allS b := by simp [allS]
theorem doAll_now : ∀ (cs : List Chg) (s : St), (s.doAll cs).now = s.now + sumT cs
  | [], s => by show s.now = s.now + 0; omega
  | c :: cs, s => by
    have h := doAll_now cs (s.do c)
    show ((s.do c).doAll cs).now = _
    rw [h, do_now]
    simp [sumT]
    omega
theorem doAll_l : ∀ (cs : List Chg) (s : St), (s.doAll cs).l = s.l ++ allS cs
  | [], s => by show s.l = s.l ++ []; rw [List.append_nil]
  | c :: cs, s => by
    have h := doAll_l cs (s.do c)
    show ((s.do c).doAll cs).l = _
    rw [h, do_l]
    simp [allS]
/-- No tick goes back, and every change changes something. -/
def TkOk (cs : List Chg) : Prop := ∀ c ∈ cs, 0 ≤ c.tick ∧ 1 ≤ c.tick + c.smp.length
theorem few_chg {cs : List Chg} (h : TkOk cs) : (cs.length : Int) ≤ sumT cs + (allS cs).length := by
  induction cs with
  | nil => simp [sumT, allS]
  | cons c cs ih =>
    have h1 := (h c (by simp)).2
    have h2 := ih (fun x hx => h x (by simp [hx]))
    have e1 : sumT (c :: cs) = c.tick + sumT cs := by simp [sumT]
    have e2 : (allS (c :: cs)).length = c.smp.length + (allS cs).length := by simp [allS]
    rw [e1, e2, List.length_cons]
    omega
theorem sumT_nn {cs : List Chg} (h : TkOk cs) : 0 ≤ sumT cs := by
  induction cs with
  | nil => simp [sumT]
  | cons c cs ih =>
    have h1 := (h c (by simp)).1
    have h2 := ih (fun x hx => h x (by simp [hx]))
    simp only [sumT, List.map_cons, List.sum_cons] at *
    omega
theorem sumT_take {cs : List Chg} (h : TkOk cs) (k : Nat) : 0 ≤ sumT (cs.take k) ∧ sumT (cs.take k) ≤ sumT cs := by
  have h1 := sumT_nn (cs := cs.take k) (fun c hc => h c (List.mem_of_mem_take hc))
  have h2 := sumT_nn (cs := cs.drop k) (fun c hc => h c (List.mem_of_mem_drop hc))
  have h3 := sumT_append (cs.take k) (cs.drop k)
  rw [List.take_append_drop] at h3
  omega

/-! In memory. -/
abbrev Cp := Chg × Value
def cpC (p : Cp) : List Value := [.int .i64 p.1.tick, p.2]
def flatH (ps : List Cp) : List Value := ps.flatMap cpC
theorem cpC_len (p : Cp) : (cpC p).length = 2 := rfl
theorem flatH_len (ps : List Cp) : (flatH ps).length = ps.length * 2 := by unfold flatH; rw [flat_length cpC 2 cpC_len]
def cpG (ps : List Cp) (i : Nat) : Cp := ps.getD i (.t 0, .slice none 0 0)
theorem cpG_get (ps : List Cp) (i : Nat) (h : i < ps.length) : cpG ps i = ps[i] := by simp [cpG, List.getD, h]
/-- An accepted batch in a block of its own. -/
def BatAt (w : World) (F : Nat → Prop) (R L : Nat) (cv : Value) (v : Value) (ls : List Sm) : Prop :=
  ∃ a n cap, v = .slice a n cap ∧ ls.length = n ∧ (n = 0 → a = none ∧ cap = 0) ∧ (0 < n → ∃ b, a = some ⟨b, 0, none⟩ ∧ F b ∧ b ≠ R ∧ b ≠ L ∧ cv.ownBlock ≠ some b ∧ SmAt w b 0 ls)
abbrev rfC (c : Cf) (L lcap : Nat) (cv : Value) : Array Value := #[.int .i64 c.span, .int .i64 c.keep, .slice (some ⟨L, 0, none⟩) c.lvs.length lcap, cv]
/-- The document's store at a block; all of it lies in blocks of F. -/
structure RfS (w : World) (R : Nat) (F : Nat → Prop) (c : Cf) (ps : List Cp) (L lcap : Nat) (cv : Value) : Prop where
  blk : w.heap[R]? = some (.cells (rfC c L lcap cv) 73 (0, 0))
  lv : LvAt w L 0 c.lvs
  chg : w.ownsRow 0 110 2 cv ps.length (flatH ps)
  bat : ∀ i, i < ps.length → BatAt w F R L cv (cpG ps i).2 (cpG ps i).1.smp
  inv : Inv ((St.new c).doAll (ps.map (·.1)))
  tks : TkOk (ps.map (·.1))
  RL : R ≠ L
  cR : cv.ownBlock ≠ some R
  cL : cv.ownBlock ≠ some L
  fR : F R
  fL : F L
  fc : ∀ k, cv.ownBlock = some k → F k
def RfAt (w : World) (R : Nat) (F : Nat → Prop) (c : Cf) (cs : List Chg) : Prop := ∃ ps L lcap cv, ps.map (·.1) = cs ∧ RfS w R F c ps L lcap cv

section
variable {w w' : World} {R : Nat} {F : Nat → Prop} {c : Cf} {ps : List Cp} {L lcap : Nat} {cv : Value}
theorem RfS.lt (h : RfS w R F c ps L lcap cv) : R < w.heap.size := (Array.getElem?_eq_some_iff.1 h.blk).1
theorem rf_now (c : Cf) (ps : List Cp) : ((St.new c).doAll (ps.map (·.1))).now = sumT (ps.map (·.1)) := by
  rw [doAll_now]
  show 0 + _ = _
  omega
theorem RfS.len (h : RfS w R F c ps L lcap cv) : 1 ≤ c.lvs.length ∧ c.lvs.length ≤ 4 := by
  have hr := h.inv.right
  have e : ∀ (cs : List Chg) (s : St), (s.doAll cs).c = s.c := by
    intro cs
    induction cs with
    | nil => intro s; rfl
    | cons c cs ih =>
      intro s
      show ((s.do c).doAll cs).c = s.c
      rw [ih]
      cases c <;> rfl
  rw [e] at hr
  exact ⟨(Cf.right_parts hr).2.2.2.2.1, (Cf.right_parts hr).2.2.2.2.2.1⟩
theorem RfS.Llt (h : RfS w R F c ps L lcap cv) : L < w.heap.size := h.lv.block (by have := h.len; omega)
theorem RfS.cell (h : RfS w R F c ps L lcap cv) (j : Nat) (v : Value) (hv : (rfC c L lcap cv)[j]? = some v) : w.cell? ⟨R, j, none⟩ = some v := cell_blk h.blk hv
/-- What leaves the store's blocks leaves the store. -/
theorem RfS.keep (h : RfS w R F c ps L lcap cv) {S : Nat → Prop} (hf : Fr S w w') (hn : ∀ k, F k → ¬ S k) : RfS w' R F c ps L lcap cv :=
  { h with
    blk := by rw [hf.block R h.lt (hn R h.fR)]; exact h.blk
    lv := lvAt_of (At.fr (at_of_lv h.lv) hf (hn L h.fL))
    chg := owns_fr h.chg hf (fun k e => hn k (h.fc k e))
    bat := fun i hi => by
      obtain ⟨a, n, cap, h1, h2, h4, h3⟩ := h.bat i hi
      refine ⟨a, n, cap, h1, h2, h4, fun hp => ?_⟩
      obtain ⟨b, e, hb, r1, r2, r3, hat⟩ := h3 hp
      exact ⟨b, e, hb, r1, r2, r3, smAt_of (At.fr (at_of_sm hat) hf (hn b hb))⟩ }
theorem RfS.below (h : RfS w R F c ps L lcap cv) (hb : Below w.heap.size w w') : RfS w' R F c ps L lcap cv := h.keep (S := fun _ => False) (Fr.of_below hb) (fun _ _ e => e)
end
/-- A change's cells. -/
theorem owns_cp {w : World} {B : Nat} {a : Option Addr} {n cap : Nat} {ps : List Cp} (h : w.ownsRow B 110 2 (.slice a n cap) n (flatH ps)) (i : Nat) (hi : i < ps.length) :
    ∃ g, a = some ⟨g, 0, none⟩ ∧ w.cell? ⟨g, i * 2, none⟩ = some (.int .i64 (cpG ps i).1.tick) ∧ w.cell? ⟨g, i * 2 + 1, none⟩ = some (cpG ps i).2 := by
  have hn : 0 < n := by
    have h1 := h.1
    rw [flatH_len] at h1
    omega
  obtain ⟨g, c', he, _, _, _⟩ := ownBlockForm h hn
  injection he with h1 h2 h3
  subst h1
  have hat := owns_at h
  have hg : ∀ j, j < 2 → (flatH ps)[i * 2 + j]? = (cpC (cpG ps i))[j]? := fun j hj => by
    unfold flatH
    rw [cpG_get ps i hi]
    exact flat_get cpC 2 cpC_len ps i j hj hi
  refine ⟨g, rfl, ?_, ?_⟩
  · have := hat (i * 2) _ (by have := hg 0 (by omega); simpa [cpC] using this)
    simpa using this
  · have := hat (i * 2 + 1) _ (by have := hg 1 (by omega); simpa [cpC] using this)
    simpa using this

theorem sumT_succ (ps : List Cp) (k : Nat) (h : k < ps.length) : sumT ((ps.map (·.1)).take (k + 1)) = sumT ((ps.map (·.1)).take k) + (cpG ps k).1.tick := by
  rw [List.take_succ_eq_append_getElem (by simpa using h), sumT_append, cpG_get ps k h]
  simp [sumT]

set_option maxHeartbeats 1000000 in
theorem now_ref (R : Nat) (F : Nat → Prop) (c : Cf) (ps : List Cp) (L lcap : Nat) (cv : Value) (w : World) (h : RfS w R F c ps L lcap cv) :
    Calls Tryz.prog 40 #[.pointer (some ⟨R, 0, none⟩)] w fun e w' => e = .returned (.int .i64 (sumT (ps.map (·.1)))) ∧ w' = w := by
  obtain ⟨a, cap, rfl⟩ := ownForm h.chg
  have c3 := h.cell 3 _ rfl
  have HO : Hid (w.ownsRow 0 110 2 (.slice a ps.length cap) ps.length (flatH ps)) := h.chg
  have HT : Hid (TkOk (ps.map (·.1))) := h.tks
  have hmax : sumT (ps.map (·.1)) ≤ 100000 := by
    have h1 := h.inv.n1
    rw [rf_now] at h1
    exact h1
  have hfew : ps.length ≤ 100500 := by
    have h1 := few_chg h.tks
    have h2 := h.inv.len
    rw [doAll_l] at h2
    have h3 : ((St.new c).l ++ allS (ps.map (·.1))).length = (allS (ps.map (·.1))).length := rfl
    rw [h3] at h2
    rw [List.length_map] at h1
    omega
  have HSU : Hid (∀ k, k < ps.length → sumT ((ps.map (·.1)).take (k + 1)) = sumT ((ps.map (·.1)).take k) + (cpG ps k).1.tick) := sumT_succ ps
  have HTK : Hid (∀ k, 0 ≤ sumT ((ps.map (·.1)).take k) ∧ sumT ((ps.map (·.1)).take k) ≤ sumT (ps.map (·.1))) := fun k => sumT_take h.tks k
  have HAL : Hid ((ps.map (·.1)).take ps.length = ps.map (·.1)) := List.take_of_length_le (by simp)
  clear h
  generalize hcs : ps.map (·.1) = cs at *
  clear hcs
  go_enter Tryz.func40, Tryz.ntmps40
  go_wp2_with fail
  go_loopw [3, 4] (fun n i wr => ∃ k : Nat, i = .int .i64 k ∧ k ≤ ps.length ∧ n = .int .i64 (sumT (cs.take k)) ∧ wr = w) (fun _ i _ => ps.length - (intOf i).toNat)
  case atStart => exact ⟨0, rfl, Nat.zero_le _, rfl, rfl⟩
  case round =>
    obtain ⟨k, rfl, hk, rfl, rfl⟩ := hrel
    by_cases hlt : k < ps.length
    · obtain ⟨g, rfl, e0, e1⟩ := owns_cp HO.out k hlt
      have hs := HSU.out k hlt
      obtain ⟨t0, t1⟩ := HTK.out k
      obtain ⟨t2, t3⟩ := HTK.out (k + 1)
      generalize hA : sumT (cs.take k) = A at *
      generalize hB : sumT (cs.take (k + 1)) = B at *
      generalize (cpG ps k).1.tick = tk at *
      have HB : Hid (sumT (cs.take (k + 1)) = A + tk) := by rw [hB]; exact hs
      have u0 : 0 ≤ A + tk := by omega
      have u1 : A + tk ≤ 100000 := by omega
      clear hA hB hs t0 t1 t2 t3
      go_wp2_with fail
      exact ⟨⟨k + 1, by go_num, by omega, by rw [HB.out], trivial⟩, by simp [intOf]; omega⟩
    · have hkE : ps.length = k := by omega
      have HA2 : Hid (cs.take k = cs) := by rw [← hkE]; exact HAL.out
      rw [HA2.out]
      go_wp2_with fail
      go_ret
      exact ⟨rfl, rfl⟩

end Go.Proofs.YthciddpljcbhiabGreatDoor

/- Walks: the group of a series. -/
namespace Go.Proofs.YthciddpljcbhiabGreatDoor
open Go.RowKit

set_option maxHeartbeats 4000000 in
set_option maxRecDepth 100000 in
theorem groupOf_any (q : Qy) (s : Lb) (w : World) (hm : q.mt.size = 3) (hg : q.gb.size = 3) :
    Calls Tryz.prog 101 #[.agg (qyC q), .agg (lbA s)] w fun e w' => e = .returned (gpV q s) ∧ Below w.heap.size w w' := by
  have hm' : ((q.mt.size : Int) != 3) = false := by simp [hm]
  have hg' : ((q.gb.size : Int) != 3) = false := by simp [hg]
  have heq := fun w => eq26 9998 s.a s.b s.c 42 42 42 w
  by_cases ho : s = over
  · have hb : (s.a == 42 && s.b == 42 && s.c == 42) = true := by rw [ho]; rfl
    have HO : Hid (gpV q s = _) := gpV_over ho
    clear ho
    rw [hb] at heq
    clear hb
    go_enter Tryz.func101, Tryz.ntmps101
    go_wp2_with fail
    go_region_with (go_at_call 113; refine (rest_any _).mono ?_; rintro e w' ⟨rfl, rfl⟩)
    all_goals go_wp2_with fail
    all_goals go_returns
    all_goals refine ⟨ret_of HO.out.symm, ?_⟩
    all_goals go_grown
  · have hb : (s.a == 42 && s.b == 42 && s.c == 42) = false := by
      apply no_of
      intro h
      simp only [Bool.and_eq_true, beq_iff_eq] at h
      exact ho (lb_ext h.1.1 h.1.2 h.2)
    rw [hb] at heq
    clear hb
    have HOV : Hid (¬ s = over) := ho
    clear ho
    have A0 : Hid (((q.mt[0].toNat : Nat) : Int) = byt q.mt 0) := byt_eq q.mt 0 (by omega)
    have A1 : Hid (((q.mt[1].toNat : Nat) : Int) = byt q.mt 1) := byt_eq q.mt 1 (by omega)
    have A2 : Hid (((q.mt[2].toNat : Nat) : Int) = byt q.mt 2) := byt_eq q.mt 2 (by omega)
    have B0 : Hid (((q.gb[0].toNat : Nat) : Int) = byt q.gb 0) := byt_eq q.gb 0 (by omega)
    have B1 : Hid (((q.gb[1].toNat : Nat) : Int) = byt q.gb 1) := byt_eq q.gb 1 (by omega)
    have B2 : Hid (((q.gb[2].toNat : Nat) : Int) = byt q.gb 2) := byt_eq q.gb 2 (by omega)
    go_enter Tryz.func101, Tryz.ntmps101
    go_wp2_with fail
    go_region_with (go_at_call 113; refine (rest_any _).mono ?_; rintro e w' ⟨rfl, rfl⟩)
    all_goals clear heq
    all_goals go_wp2_with fail
    all_goals go_loopw [7] (fun i wr => (i = .int .i64 0 ∧ ∃ d, wr = (((((w.alloc (.cells (qyC q) 45)).alloc (c3 s.a s.b s.c)).alloc (c3 0 0 0)).alloc (c3 42 42 42)).alloc (c3 46 46 46)).drewN d)
      ∨ (i = .int .i64 1 ∧ mOk (byt q.mt 0) s.a = true ∧ ∃ d, wr = (((((w.alloc (.cells (qyC q) 45)).alloc (c3 s.a s.b s.c)).alloc (c3 0 0 0)).alloc (c3 42 42 42)).alloc (c3 (gB (byt q.gb 0) s.a) 46 46)).drewN d)
      ∨ (i = .int .i64 2 ∧ mOk (byt q.mt 0) s.a = true ∧ mOk (byt q.mt 1) s.b = true ∧ ∃ d, wr = (((((w.alloc (.cells (qyC q) 45)).alloc (c3 s.a s.b s.c)).alloc (c3 0 0 0)).alloc (c3 42 42 42)).alloc (c3 (gB (byt q.gb 0) s.a) (gB (byt q.gb 1) s.b) 46)).drewN d)
      ∨ (i = .int .i64 3 ∧ mOk (byt q.mt 0) s.a = true ∧ mOk (byt q.mt 1) s.b = true ∧ mOk (byt q.mt 2) s.c = true ∧ ∃ d, wr = (((((w.alloc (.cells (qyC q) 45)).alloc (c3 s.a s.b s.c)).alloc (c3 0 0 0)).alloc (c3 42 42 42)).alloc (c3 (gB (byt q.gb 0) s.a) (gB (byt q.gb 1) s.b) (gB (byt q.gb 2) s.c))).drewN d)) (fun i _ => 3 - (intOf i).toNat)
    all_goals first | (case atStart => exact Or.inl ⟨rfl, _, rfl⟩) | skip
    all_goals
      rcases hrel with ⟨rfl, d, rfl⟩ | ⟨rfl, M0, d, rfl⟩ | ⟨rfl, M0, M1, d, rfl⟩ | ⟨rfl, M0, M1, M2, d, rfl⟩
      · cases e1 : (((q.mt[0].toNat : Nat) : Int) != 46)
        · have HM : mOk (byt q.mt 0) s.a = true := by rw [mOk_iff, ← A0.out, e1]; rfl
          go_wp2_with fail
          go_quiet (fail)
          cases e3 : (((q.gb[0].toNat : Nat) : Int) == 49)
          · go_wp2_with fail
            exact ⟨Or.inr (Or.inl ⟨rfl, HM, _, by rw [gB_neg (b := byt q.gb 0) (by rw [← B0.out]; exact e3)]⟩), by simp [intOf]⟩
          · go_wp2_with fail
            exact ⟨Or.inr (Or.inl ⟨rfl, HM, _, (setc3_0 (((w.alloc (.cells (qyC q) 45)).alloc (c3 s.a s.b s.c)).alloc (c3 0 0 0) |>.alloc (c3 42 42 42)) _ _ _ _ _ (by simp)).trans (by rw [gB_pos (b := byt q.gb 0) (by rw [← B0.out]; exact e3)])⟩), by simp [intOf]⟩
        · cases e2 : (((q.mt[0].toNat : Nat) : Int) != s.a)
          · have HM : mOk (byt q.mt 0) s.a = true := by rw [mOk_iff, ← A0.out, e2]; simp
            go_wp2_with fail
            go_quiet (fail)
            cases e3 : (((q.gb[0].toNat : Nat) : Int) == 49)
            · go_wp2_with fail
              exact ⟨Or.inr (Or.inl ⟨rfl, HM, _, by rw [gB_neg (b := byt q.gb 0) (by rw [← B0.out]; exact e3)]⟩), by simp [intOf]⟩
            · go_wp2_with fail
              exact ⟨Or.inr (Or.inl ⟨rfl, HM, _, (setc3_0 (((w.alloc (.cells (qyC q) 45)).alloc (c3 s.a s.b s.c)).alloc (c3 0 0 0) |>.alloc (c3 42 42 42)) _ _ _ _ _ (by simp)).trans (by rw [gB_pos (b := byt q.gb 0) (by rw [← B0.out]; exact e3)])⟩), by simp [intOf]⟩
          · have HM : mOk (byt q.mt 0) s.a = false := by rw [mOk_iff, ← A0.out, e1, e2]; rfl
            go_wp2_with fail
            go_quiet (fail)
            go_wp2_with fail
            go_returns
            refine ⟨ret_of (gpV_none HOV.out (by rw [HM]; simp)).symm, ?_⟩
            repeat (first | exact Below.refl _ _ | refine below_drewN ?_ _ | refine Below.drew ?_ | refine bel_set ?_ (by omega) | refine Below.alloc ?_ (by simp; try omega) _)
      · cases e1 : (((q.mt[1].toNat : Nat) : Int) != 46)
        · have HM : mOk (byt q.mt 1) s.b = true := by rw [mOk_iff, ← A1.out, e1]; rfl
          go_wp2_with fail
          go_quiet (fail)
          cases e3 : (((q.gb[1].toNat : Nat) : Int) == 49)
          · go_wp2_with fail
            exact ⟨Or.inr (Or.inr (Or.inl ⟨rfl, M0, HM, _, by rw [gB_neg (b := byt q.gb 1) (by rw [← B1.out]; exact e3)]⟩)), by simp [intOf]⟩
          · go_wp2_with fail
            exact ⟨Or.inr (Or.inr (Or.inl ⟨rfl, M0, HM, _, (setc3_1 (((w.alloc (.cells (qyC q) 45)).alloc (c3 s.a s.b s.c)).alloc (c3 0 0 0) |>.alloc (c3 42 42 42)) _ _ _ _ _ (by simp)).trans (by rw [gB_pos (b := byt q.gb 1) (by rw [← B1.out]; exact e3)])⟩)), by simp [intOf]⟩
        · cases e2 : (((q.mt[1].toNat : Nat) : Int) != s.b)
          · have HM : mOk (byt q.mt 1) s.b = true := by rw [mOk_iff, ← A1.out, e2]; simp
            go_wp2_with fail
            go_quiet (fail)
            cases e3 : (((q.gb[1].toNat : Nat) : Int) == 49)
            · go_wp2_with fail
              exact ⟨Or.inr (Or.inr (Or.inl ⟨rfl, M0, HM, _, by rw [gB_neg (b := byt q.gb 1) (by rw [← B1.out]; exact e3)]⟩)), by simp [intOf]⟩
            · go_wp2_with fail
              exact ⟨Or.inr (Or.inr (Or.inl ⟨rfl, M0, HM, _, (setc3_1 (((w.alloc (.cells (qyC q) 45)).alloc (c3 s.a s.b s.c)).alloc (c3 0 0 0) |>.alloc (c3 42 42 42)) _ _ _ _ _ (by simp)).trans (by rw [gB_pos (b := byt q.gb 1) (by rw [← B1.out]; exact e3)])⟩)), by simp [intOf]⟩
          · have HM : mOk (byt q.mt 1) s.b = false := by rw [mOk_iff, ← A1.out, e1, e2]; rfl
            go_wp2_with fail
            go_quiet (fail)
            go_wp2_with fail
            go_returns
            refine ⟨ret_of (gpV_none HOV.out (by rw [HM]; simp)).symm, ?_⟩
            repeat (first | exact Below.refl _ _ | refine below_drewN ?_ _ | refine Below.drew ?_ | refine bel_set ?_ (by omega) | refine Below.alloc ?_ (by simp; try omega) _)
      · cases e1 : (((q.mt[2].toNat : Nat) : Int) != 46)
        · have HM : mOk (byt q.mt 2) s.c = true := by rw [mOk_iff, ← A2.out, e1]; rfl
          go_wp2_with fail
          go_quiet (fail)
          cases e3 : (((q.gb[2].toNat : Nat) : Int) == 49)
          · go_wp2_with fail
            exact ⟨Or.inr (Or.inr (Or.inr ⟨rfl, M0, M1, HM, _, by rw [gB_neg (b := byt q.gb 2) (by rw [← B2.out]; exact e3)]⟩)), by simp [intOf]⟩
          · go_wp2_with fail
            exact ⟨Or.inr (Or.inr (Or.inr ⟨rfl, M0, M1, HM, _, (setc3_2 (((w.alloc (.cells (qyC q) 45)).alloc (c3 s.a s.b s.c)).alloc (c3 0 0 0) |>.alloc (c3 42 42 42)) _ _ _ _ _ (by simp)).trans (by rw [gB_pos (b := byt q.gb 2) (by rw [← B2.out]; exact e3)])⟩)), by simp [intOf]⟩
        · cases e2 : (((q.mt[2].toNat : Nat) : Int) != s.c)
          · have HM : mOk (byt q.mt 2) s.c = true := by rw [mOk_iff, ← A2.out, e2]; simp
            go_wp2_with fail
            go_quiet (fail)
            cases e3 : (((q.gb[2].toNat : Nat) : Int) == 49)
            · go_wp2_with fail
              exact ⟨Or.inr (Or.inr (Or.inr ⟨rfl, M0, M1, HM, _, by rw [gB_neg (b := byt q.gb 2) (by rw [← B2.out]; exact e3)]⟩)), by simp [intOf]⟩
            · go_wp2_with fail
              exact ⟨Or.inr (Or.inr (Or.inr ⟨rfl, M0, M1, HM, _, (setc3_2 (((w.alloc (.cells (qyC q) 45)).alloc (c3 s.a s.b s.c)).alloc (c3 0 0 0) |>.alloc (c3 42 42 42)) _ _ _ _ _ (by simp)).trans (by rw [gB_pos (b := byt q.gb 2) (by rw [← B2.out]; exact e3)])⟩)), by simp [intOf]⟩
          · have HM : mOk (byt q.mt 2) s.c = false := by rw [mOk_iff, ← A2.out, e1, e2]; rfl
            go_wp2_with fail
            go_quiet (fail)
            go_wp2_with fail
            go_returns
            refine ⟨ret_of (gpV_none HOV.out (by rw [HM]; simp)).symm, ?_⟩
            repeat (first | exact Below.refl _ _ | refine below_drewN ?_ _ | refine Below.drew ?_ | refine bel_set ?_ (by omega) | refine Below.alloc ?_ (by simp; try omega) _)
      · go_wp2_with fail
        go_returns
        refine ⟨ret_of (gpV_some HOV.out (by rw [M0, M1, M2]; rfl)).symm, ?_⟩
        repeat (first | exact Below.refl _ _ | refine below_drewN ?_ _ | refine Below.drew ?_ | refine bel_set ?_ (by omega) | refine Below.alloc ?_ (by simp; try omega) _)

end Go.Proofs.YthciddpljcbhiabGreatDoor

/- Walks: the ages of levels. -/
namespace Go.Proofs.YthciddpljcbhiabGreatDoor
open Go.RowKit

set_option maxHeartbeats 400000 in
theorem rightAges_some (b off n cap : Nat) (ls : List Lv) (keep : Int) (w : World) (hn : ls.length = n) (hm : n ≤ maxLen) (hat : LvAt w b off ls) :
    Calls Tryz.prog 53 #[.slice (some ⟨b, off, none⟩) n cap, .int .i64 keep] w fun e w' => e = .returned (.bool (agesB ls keep)) ∧ w' = w := by
  unfold maxLen at hm
  have HAT : Hid (LvAt w b off ls) := hat
  have HN : Hid (ls.length = n) := hn
  clear hat hn
  go_enter Tryz.func53, Tryz.ntmps53
  go_wp2
  go_loop [5] (fun i => ∃ k : Nat, k ≤ n ∧ i = .int .i64 k ∧ ∀ j, j < k → okAge ls keep j = true) (fun i => n - (intOf i).toNat)
  case atStart => exact ⟨0, Nat.zero_le _, rfl, fun j hj => by omega⟩
  case round =>
    obtain ⟨k, hk, rfl, hall⟩ := hrel
    have HA : Hid (∀ j, j < k → okAge ls keep j = true) := hall
    clear hall
    by_cases hlt : k < n
    · obtain ⟨c0, _, _, _⟩ := HAT.out k (by rw [HN.out]; exact hlt)
      by_cases h0 : k = 0
      · subst h0
        simp only [Nat.zero_mul, Nat.add_zero] at c0
        go_wp2
        all_goals first
          | (have HR : okAge ls keep 0 = true := by (rw [okAge_zero]; first | omega | (simp at *; omega))
             exact ⟨⟨1, by omega, rfl, upto_succ HA.out HR⟩, by simp [intOf]; omega⟩)
          | (have HR : okAge ls keep 0 = false := by (apply no_of; rw [okAge_zero]; first | omega | (simp at *; omega))
             go_ret
             exact ⟨ret_bool (all_false 0 (by rw [HN.out]; exact hlt) HR).symm, rfl⟩)
      · obtain ⟨m, rfl⟩ : ∃ m, k = m + 1 := ⟨k - 1, by omega⟩
        obtain ⟨p0, _, _, _⟩ := HAT.out m (by rw [HN.out]; omega)
        go_wp2
        all_goals first
          | (have HR : okAge ls keep (m + 1) = true := by (rw [okAge_succ]; first | omega | (simp at *; omega))
             exact ⟨⟨m + 1 + 1, by omega, by go_num, upto_succ HA.out HR⟩, by simp [intOf]; omega⟩)
          | (have HR : okAge ls keep (m + 1) = false := by (apply no_of; rw [okAge_succ]; first | omega | (simp at *; omega))
             go_ret
             exact ⟨ret_bool (all_false (m + 1) (by rw [HN.out]; exact hlt) HR).symm, rfl⟩)
    · go_wp2
      go_ret
      exact ⟨ret_bool (all_true (fun j hj => HA.out j (by have := HN.out; omega))).symm, rfl⟩

set_option maxHeartbeats 400000 in
theorem rightWindows_some (b off n cap : Nat) (ls : List Lv) (span : Int) (w : World) (hn : ls.length = n) (hm : n ≤ maxLen) (hat : LvAt w b off ls) (hwf : LvWf ls) (hs1 : 1 ≤ span) (hs2 : span ≤ 100) :
    Calls Tryz.prog 54 #[.slice (some ⟨b, off, none⟩) n cap, .int .i64 span] w fun e w' => e = .returned (.bool (winsB ls span)) ∧ w' = w := by
  unfold maxLen at hm
  have HAT : Hid (LvAt w b off ls) := hat
  have HN : Hid (ls.length = n) := hn
  have HW : Hid (LvWf ls) := hwf
  clear hat hn hwf
  go_enter Tryz.func54, Tryz.ntmps54
  go_wp2
  go_loop [5, 6] (fun ah i => ∃ k : Nat, k ≤ n ∧ i = .int .i64 k ∧ ah = .int .i64 (ahd ls k) ∧ 1 ≤ ahd ls k ∧ ∀ j, j < k → okWin ls span j = true) (fun _ i => n - (intOf i).toNat)
  case atStart => exact ⟨0, Nat.zero_le _, rfl, rfl, by simp [ahd], fun j hj => by omega⟩
  case round =>
    obtain ⟨k, hk, rfl, rfl, hah, hall⟩ := hrel
    have HA : Hid (∀ j, j < k → okWin ls span j = true) := hall
    clear hall
    by_cases hlt : k < n
    · obtain ⟨_, c1, _, _⟩ := HAT.out k (by rw [HN.out]; exact hlt)
      obtain ⟨hw1, hw2, _⟩ := HW.out k
      have HS := ahd_succ ls k
      have HS' : Hid (ahd ls (k + 1) = (lvG ls k).window) := HS
      clear HS
      by_cases hwin : 1 ≤ (lvG ls k).window
      · go_wp2
        all_goals first
          | (have HR : okWin ls span k = true := by (rw [okWin_iff]; first | omega | (simp at *; omega))
             exact ⟨⟨k + 1, by omega, by go_num, by rw [HS'.out], by rw [HS'.out]; exact hwin, upto_succ HA.out HR⟩, by simp [intOf]; omega⟩)
          | (have HR : okWin ls span k = false := by (apply no_of; rw [okWin_iff]; first | omega | (simp at *; omega))
             go_ret
             exact ⟨ret_bool (all_false k (by rw [HN.out]; exact hlt) HR).symm, rfl⟩)
      · have HR : okWin ls span k = false := by (apply no_of; rw [okWin_iff]; omega)
        have HR' : Hid (okWin ls span k = false) := HR
        clear HR
        go_wp2
        go_ret
        exact ⟨ret_bool (all_false k (by rw [HN.out]; exact hlt) HR'.out).symm, rfl⟩
    · go_wp2
      go_ret
      exact ⟨ret_bool (all_true (fun j hj => HA.out j (by have := HN.out; omega))).symm, rfl⟩

set_option maxHeartbeats 400000 in
theorem rightSeries_some (b off n cap : Nat) (ls : List Lv) (w : World) (hn : ls.length = n) (hm : n ≤ maxLen) (hat : LvAt w b off ls) (hwf : LvWf ls) :
    Calls Tryz.prog 55 #[.slice (some ⟨b, off, none⟩) n cap] w fun e w' => e = .returned (.bool (sersB ls)) ∧ Below w.heap.size w w' := by
  unfold maxLen at hm
  have HAT : Hid (LvAt w b off ls) := hat
  have HN : Hid (ls.length = n) := hn
  have HW : Hid (LvWf ls) := hwf
  clear hat hn hwf
  go_enter Tryz.func55, Tryz.ntmps55
  go_wp2
  go_loopw [3] (fun i wr => ∃ k : Nat, k ≤ n ∧ i = .int .i64 k ∧ Below w.heap.size w wr ∧ ∀ j, j < k → okSer ls j = true) (fun i _ => n - (intOf i).toNat)
  case atStart => exact ⟨0, Nat.zero_le _, rfl, Below.refl _ _, fun j hj => by omega⟩
  case round =>
    obtain ⟨k, hk, rfl, hbel, hall⟩ := hrel
    have HA : Hid (∀ j, j < k → okSer ls j = true) := hall
    clear hall
    by_cases hlt : k < n
    · have hb0 : b < w.heap.size := HAT.out.block (by rw [HN.out]; omega)
      obtain ⟨c0, c1, c2, c3⟩ := (HAT.out.below hbel hb0) k (by rw [HN.out]; exact hlt)
      obtain ⟨_, _, hrs⟩ := HW.out k
      have hsz := hbel.size
      cases hru : ruleB (lvG ls k).rule
      · have HR : okSer ls k = false := by (apply no_of; rw [okSer_iff]; simp [hru])
        have HR' : Hid (okSer ls k = false) := HR
        clear HR
        go_wp2_with (go_at_call 84; refine (rightRule_any _ hrs _).mono ?_; rintro e w' ⟨rfl, rfl⟩)
        go_ret
        exact ⟨ret_bool (all_false k (by rw [HN.out]; exact hlt) HR'.out).symm, hbel.alloc hsz _⟩
      · go_wp2_with (go_at_call 84; refine (rightRule_any _ hrs _).mono ?_; rintro e w' ⟨rfl, rfl⟩)
        all_goals first
          | (have HR : okSer ls k = true := by (rw [okSer_iff]; refine ⟨hru, ?_⟩; first | omega | (simp at *; omega))
             exact ⟨⟨k + 1, by omega, by go_num, hbel.alloc hsz _, upto_succ HA.out HR⟩, by simp [intOf]; omega⟩)
          | (have HR : okSer ls k = false := by (apply no_of; rw [okSer_iff]; rintro ⟨-, h1, h2⟩; first | omega | (simp at *; omega))
             go_ret
             exact ⟨ret_bool (all_false k (by rw [HN.out]; exact hlt) HR).symm, hbel.alloc hsz _⟩)
    · go_wp2
      go_ret
      exact ⟨ret_bool (all_true (fun j hj => HA.out j (by have := HN.out; omega))).symm, hbel⟩

end Go.Proofs.YthciddpljcbhiabGreatDoor

/- Walks: one level by the document's answer; a configuration by both. -/
namespace Go.Proofs.YthciddpljcbhiabGreatDoor
open Go.RowKit

set_option maxHeartbeats 1000000 in
theorem rightLevel_zero (b off n cap : Nat) (ls : List Lv) (span keep : Int) (w : World) (hn : ls.length = n) (hm : n ≤ maxLen) (hat : LvAt w b off ls) (hwf : LvWf ls)
    (hs1 : 1 ≤ span) (hs2 : span ≤ 100) (hlt : 0 < n) :
    Calls Tryz.prog 57 #[.agg #[.int .i64 span, .int .i64 keep, .slice (some ⟨b, off, none⟩) n cap], .int .i64 0] w fun e w' => e = .returned (.bool (refOk ls span keep 0)) ∧ Below w.heap.size w w' := by
  unfold maxLen at hm
  have hb0 : b < w.heap.size := hat.block (by omega)
  obtain ⟨c0, c1, c2, c3⟩ := hat 0 (by omega)
  simp only [Nat.zero_mul, Nat.add_zero] at c0 c1 c2 c3
  obtain ⟨hw1, hw2, hrs⟩ := hwf 0
  clear hat hwf hn
  have HI := refOk_zero ls span keep
  have HI' : Hid (refOk ls span keep 0 = true ↔ ruleB (lvG ls 0).rule = true ∧ 1 ≤ (lvG ls 0).limit ∧ (lvG ls 0).limit ≤ 20 ∧ (lvG ls 0).age ≤ keep ∧ 1 ≤ (lvG ls 0).window ∧ span % (lvG ls 0).window = 0 ∧ (lvG ls 0).age = 0) := HI
  clear HI
  generalize hL : lvG ls 0 = L at *
  clear hL
  cases hru : ruleB L.rule
  · go_enter Tryz.func57, Tryz.ntmps57
    go_wp2_with (go_at_call 60; refine (isRule_any _ hrs _).mono ?_; rintro e w' ⟨rfl, rfl⟩)
    go_ret
    refine ⟨ret_bool (no_of ?_).symm, by go_grown⟩
    rw [HI'.out]; simp [hru]
  · go_enter Tryz.func57, Tryz.ntmps57
    go_wp2_with (go_at_call 60; refine (isRule_any _ hrs _).mono ?_; rintro e w' ⟨rfl, rfl⟩)
    all_goals go_ret
    all_goals refine ⟨ret_bool ?_, by go_grown⟩
    all_goals (rw [Bool.eq_iff_iff, HI'.out]; clear HI'; simp only [hru, true_and, beq_iff_eq, reduceCtorEq, false_iff]; first | omega | (simp at *; omega))

set_option maxHeartbeats 1000000 in
theorem rightLevel_succ (b off n cap m : Nat) (ls : List Lv) (span keep : Int) (w : World) (hn : ls.length = n) (hm : n ≤ maxLen) (hat : LvAt w b off ls) (hwf : LvWf ls)
    (hs1 : 1 ≤ span) (hs2 : span ≤ 100) (hlt : m + 1 < n) (hp : 1 ≤ (lvG ls m).window) :
    Calls Tryz.prog 57 #[.agg #[.int .i64 span, .int .i64 keep, .slice (some ⟨b, off, none⟩) n cap], .int .i64 ((m + 1 : Nat) : Int)] w fun e w' => e = .returned (.bool (refOk ls span keep (m + 1))) ∧ Below w.heap.size w w' := by
  unfold maxLen at hm
  have hb0 : b < w.heap.size := hat.block (by omega)
  obtain ⟨c0, c1, c2, c3⟩ := hat (m + 1) (by omega)
  obtain ⟨p0, p1, p2, p3⟩ := hat m (by omega)
  obtain ⟨hw1, hw2, hrs⟩ := hwf (m + 1)
  obtain ⟨hv1, hv2, _⟩ := hwf m
  clear hat hwf hn
  have HI := refOk_succ ls span keep m
  generalize hL : lvG ls (m + 1) = L at *
  generalize hL' : lvG ls m = L' at *
  clear hL hL'
  have HI' : Hid (refOk ls span keep (m + 1) = true ↔ ruleB L.rule = true ∧ 1 ≤ L.limit ∧ L.limit ≤ 20 ∧ L.age ≤ keep ∧ 1 ≤ L.window ∧ span % L.window = 0 ∧ L'.age < L.age ∧ L.window % L'.window = 0) := HI
  clear HI
  cases hru : ruleB L.rule
  · go_enter Tryz.func57, Tryz.ntmps57
    go_wp2_with (go_at_call 60; refine (isRule_any _ hrs _).mono ?_; rintro e w' ⟨rfl, rfl⟩)
    go_ret
    refine ⟨ret_bool (no_of ?_).symm, by go_grown⟩
    rw [HI'.out]; simp [hru]
  · have hz : (((m + 1 : Nat) : Int) == 0) = false := by simp; omega
    go_enter Tryz.func57, Tryz.ntmps57
    go_wp2_with (go_at_call 60; refine (isRule_any _ hrs _).mono ?_; rintro e w' ⟨rfl, rfl⟩)
    all_goals go_ret
    all_goals refine ⟨ret_bool ?_, by go_grown⟩
    all_goals (rw [Bool.eq_iff_iff, HI'.out]; clear HI'; simp only [hru, true_and, beq_iff_eq, reduceCtorEq, false_iff]; first | omega | (simp at *; omega))

theorem ret_i64 {a b : Int} (h : a = b) : Ending.returned (.int .i64 a) = .returned (.int .i64 b) := by rw [h]

set_option maxHeartbeats 1000000 in
theorem refRight_no (a : Option Addr) (n cap : Nat) (span keep : Int) (w : World) (h : ¬ (1 ≤ span ∧ span ≤ 100 ∧ 0 ≤ keep ∧ keep ≤ 19 ∧ 1 ≤ n ∧ n ≤ 4)) :
    Calls Tryz.prog 25 #[.agg #[.int .i64 span, .int .i64 keep, .slice a n cap]] w fun e w' => e = .returned (.int .i64 1) ∧ Below w.heap.size w w' := by
  rcases first_of h with h1 | ⟨h1, h2⟩ | ⟨h1, h2, h3⟩ | ⟨h1, h2, h3, h4⟩ | ⟨h1, h2, h3, h4, h5⟩ | ⟨h1, h2, h3, h4, h5, h6⟩
  all_goals clear h
  all_goals go_enter Tryz.func25, Tryz.ntmps25
  all_goals go_wp2
  all_goals go_ret
  all_goals exact ⟨rfl, by go_grown⟩

set_option maxHeartbeats 1000000 in
theorem cfgRight_no (a : Option Addr) (n cap : Nat) (span keep : Int) (w : World) (h : ¬ (1 ≤ span ∧ span ≤ 100 ∧ 0 ≤ keep ∧ keep ≤ 19 ∧ 1 ≤ n ∧ n ≤ 4)) :
    Calls Tryz.prog 23 #[.agg #[.int .i64 span, .int .i64 keep, .slice a n cap]] w fun e w' => e = .returned (.bool false) ∧ Below w.heap.size w w' := by
  rcases first_of h with h1 | ⟨h1, h2⟩ | ⟨h1, h2, h3⟩ | ⟨h1, h2, h3, h4⟩ | ⟨h1, h2, h3, h4, h5⟩ | ⟨h1, h2, h3, h4, h5, h6⟩
  all_goals clear h
  all_goals go_enter Tryz.func23, Tryz.ntmps23
  all_goals go_wp2
  all_goals go_ret
  all_goals exact ⟨rfl, by go_grown⟩

set_option maxHeartbeats 1000000 in
theorem refRight_yes (b off n cap : Nat) (ls : List Lv) (span keep : Int) (w : World) (hn : ls.length = n) (hat : LvAt w b off ls) (hwf : LvWf ls)
    (h1 : 1 ≤ span) (h2 : span ≤ 100) (h3 : 0 ≤ keep) (h4 : keep ≤ 19) (h5 : 1 ≤ n) (h6 : n ≤ 4) :
    Calls Tryz.prog 25 #[.agg #[.int .i64 span, .int .i64 keep, .slice (some ⟨b, off, none⟩) n cap]] w fun e w' => e = .returned (.int .i64 (errR (refsB ls span keep))) ∧ Below w.heap.size w w' := by
  have HAT : Hid (LvAt w b off ls) := hat
  have HN : Hid (ls.length = n) := hn
  have HW : Hid (LvWf ls) := hwf
  have hb0 : b < w.heap.size := hat.block (by omega)
  clear hat hn hwf
  have hd1 : 1 ≤ (n : Int) := by omega
  have hd2 : (n : Int) ≤ 4 := by omega
  go_enter Tryz.func25, Tryz.ntmps25
  go_wp2
  go_loopw [3] (fun i wr => ∃ k : Nat, k ≤ n ∧ i = .int .i64 k ∧ Below (w.heap.size + 1) (w.alloc (.cells #[.int .i64 span, .int .i64 keep, .slice (some ⟨b, off, none⟩) n cap] 40)) wr ∧ ∀ j, j < k → refOk ls span keep j = true) (fun i _ => n - (intOf i).toNat)
  case atStart => exact ⟨0, Nat.zero_le _, rfl, Below.refl _ _, fun j hj => by omega⟩
  case round =>
    obtain ⟨k, hk, rfl, hbel, hall⟩ := hrel
    have HA : Hid (∀ j, j < k → refOk ls span keep j = true) := hall
    clear hall
    have q0 : wr.cell? ⟨w.heap.size, 0, none⟩ = some (.int .i64 span) := by rw [hbel.cell (p := ⟨w.heap.size, 0, none⟩) (by simp)]; simp [go_sem]
    have q1 : wr.cell? ⟨w.heap.size, 1, none⟩ = some (.int .i64 keep) := by rw [hbel.cell (p := ⟨w.heap.size, 1, none⟩) (by simp)]; simp [go_sem]
    have q2 : wr.cell? ⟨w.heap.size, 2, none⟩ = some (.slice (some ⟨b, off, none⟩) n cap) := by rw [hbel.cell (p := ⟨w.heap.size, 2, none⟩) (by simp)]; simp [go_sem]
    have hsz : w.heap.size + 1 ≤ wr.heap.size := by have := hbel.size; simpa using this
    have hw0 : Below w.heap.size w wr := (((Below.refl _ _).alloc (Nat.le_refl _) _).trans (hbel.mono (by omega)))
    by_cases hlt : k < n
    · have HL : Hid (LvAt wr b off ls) := HAT.out.below hw0 hb0
      have HC : Hid (Calls Tryz.prog 57 #[.agg #[.int .i64 span, .int .i64 keep, .slice (some ⟨b, off, none⟩) n cap], .int .i64 (k : Int)] wr fun e w' => e = .returned (.bool (refOk ls span keep k)) ∧ Below wr.heap.size wr w') := by
        by_cases h0 : k = 0
        · subst h0
          exact rightLevel_zero b off n cap ls span keep wr HN.out (by unfold maxLen; omega) HL.out HW.out h1 h2 hlt
        · obtain ⟨m, rfl⟩ : ∃ m, k = m + 1 := ⟨k - 1, by omega⟩
          have hp : 1 ≤ (lvG ls m).window := by
            have := HA.out m (by omega)
            simp only [refOk, Bool.and_eq_true, okWin_iff] at this
            exact this.1.2.1
          exact rightLevel_succ b off n cap m ls span keep wr HN.out (by unfold maxLen; omega) HL.out HW.out h1 h2 hlt hp
      go_wp2_with fail
      refine HC.out.mono ?_
      rintro e w1 ⟨rfl, hb1⟩
      have hb2 : Below (w.heap.size + 1) (w.alloc (.cells #[.int .i64 span, .int .i64 keep, .slice (some ⟨b, off, none⟩) n cap] 40)) w1 := hbel.trans (hb1.mono hsz)
      have hw2 : Below w.heap.size w w1 := hw0.trans (hb1.mono (by omega))
      cases hR : refOk ls span keep k
      · have HR : Hid (refOk ls span keep k = false) := hR
        go_wp2
        go_ret
        exact ⟨ret_i64 (by rw [show refsB ls span keep = false from all_false k (by rw [HN.out]; exact hlt) HR.out]; rfl), hw2⟩
      · have HR : Hid (refOk ls span keep k = true) := hR
        go_wp2
        exact ⟨⟨k + 1, by omega, by go_num, hb2, upto_succ HA.out HR.out⟩, by simp [intOf]; omega⟩
    · go_wp2
      go_ret
      exact ⟨ret_i64 (by rw [show refsB ls span keep = true from all_true (fun j hj => HA.out j (by have := HN.out; omega))]; rfl), hw0⟩

end Go.Proofs.YthciddpljcbhiabGreatDoor
