/- A batch comes back out of its record; a byte less, or one turned, is found out (no program). -/
import Derived.Test.YthciddpljcbhiaaUnSpec
namespace Go.Proofs.Ythciddpljcbhiaa
open Go Go.RowKit

theorem chkS_inj {h h' b b' : Int} (hh : 0 ≤ h ∧ h < 4294967296) (hh' : 0 ≤ h' ∧ h' < 4294967296) (hb : b = b') (hne : h ≠ h') : chkS h b ≠ chkS h' b' := by
  subst hb
  unfold chkS
  intro e
  omega
theorem chkS_byte {h b b' : Int} (hb : isByte b) (hb' : isByte b') (hne : b ≠ b') : chkS h b ≠ chkS h b' := by
  unfold chkS isByte at *
  intro e
  omega
theorem fold_range (l : List Int) : ∀ h, 0 ≤ h ∧ h < 4294967296 → 0 ≤ l.foldl chkS h ∧ l.foldl chkS h < 4294967296 := by
  induction l with
  | nil => intro h hh; exact hh
  | cons b l ih => intro h _; exact ih _ (chkS_range h b)
theorem fold_inj (l : List Int) : ∀ {h h' : Int}, 0 ≤ h ∧ h < 4294967296 → 0 ≤ h' ∧ h' < 4294967296 → h ≠ h' → l.foldl chkS h ≠ l.foldl chkS h' := by
  induction l with
  | nil => intro h h' _ _ hne; exact hne
  | cons b l ih => intro h h' hh hh' hne; exact ih (chkS_range h b) (chkS_range h' b) (chkS_inj hh hh' rfl hne)
/-- One byte turned: another check. -/
theorem chk_turned (l1 l2 : List Int) {b b' : Int} (hb : isByte b) (hb' : isByte b') (hne : b ≠ b') : chk (l1 ++ b :: l2) ≠ chk (l1 ++ b' :: l2) := by
  unfold chk
  rw [List.foldl_append, List.foldl_append, List.foldl_cons, List.foldl_cons]
  exact fold_inj l2 (chkS_range _ _) (chkS_range _ _) (chkS_byte hb hb' hne)

/-! Strings by their numbers. -/
theorem byt_nums {s : ByteArray} {k : Nat} {x : Int} (h : (nums s)[k]? = some x) : byt s k = x := by
  have hk : k < s.size := by rw [← nums_len]; exact (List.getElem?_eq_some_iff.1 h).1
  rw [nums_get s k hk] at h
  exact Option.some.inj h
theorem num4_of {s : ByteArray} {p : Nat} {a b c d : Int} {l1 l2 : List Int} (h : nums s = l1 ++ a :: b :: c :: d :: l2) (hp : l1.length = p) : num4 s p = a + 256 * (b + 256 * (c + 256 * d)) := by
  subst hp
  unfold num4
  rw [byt_nums (s := s) (k := l1.length) (x := a) (by rw [h]; simp), byt_nums (s := s) (k := l1.length + 1) (x := b) (by rw [h]; simp),
    byt_nums (s := s) (k := l1.length + 2) (x := c) (by rw [h]; simp), byt_nums (s := s) (k := l1.length + 3) (x := d) (by rw [h]; simp)]
theorem num4_low {s : ByteArray} {p : Nat} {n : Int} {l1 l2 : List Int} (hn : 0 ≤ n ∧ n < 4294967296) (h : nums s = l1 ++ lowN n 4 ++ l2) (hp : l1.length = p) : num4 s p = n := by
  rw [low4_eq n hn.1 hn.2] at h
  rw [num4_of (s := s) (l1 := l1) (l2 := l2) (a := n % 256) (b := n / 256 % 256) (c := n / 65536 % 256) (d := n / 16777216) (by rw [h]; simp) hp]
  omega

/-- What is read of a sample's bytes is the sample. -/
theorem smR_smB {s : ByteArray} {p : Nat} {x : Sm} {l1 l2 : List Int} (hx : x.wf) (hok : smOk x = true) (h : nums s = l1 ++ smB x ++ l2) (hp : l1.length = p) : smR s p = x := by
  obtain ⟨t0, t1, _⟩ := (smOk_iff x).1 hok
  obtain ⟨_, _, _, _, v0, v1⟩ := hx
  have hs : nums s = l1 ++ lowN x.time 4 ++ (x.l0 :: x.l1 :: x.l2 :: (lowN (uval x.value) 4 ++ l2)) := by rw [h]; simp [smB]
  have e0 : num4 s p = x.time := num4_low (by omega) hs hp
  have hl : (l1 ++ lowN x.time 4).length = p + 4 := by rw [List.length_append, lowN_len, hp]
  obtain ⟨m, hm⟩ : ∃ m, m = l1 ++ lowN x.time 4 := ⟨_, rfl⟩
  rw [← hm] at hs hl
  have e1 : byt s (p + 4) = x.l0 := byt_nums (by rw [hs, ← hl]; simp)
  have e2 : byt s (p + 5) = x.l1 := byt_nums (by rw [hs, show p + 5 = m.length + 1 by omega]; simp)
  have e3 : byt s (p + 6) = x.l2 := byt_nums (by rw [hs, show p + 6 = m.length + 2 by omega]; simp)
  have hs2 : nums s = (m ++ [x.l0, x.l1, x.l2]) ++ lowN (uval x.value) 4 ++ l2 := by rw [hs]; simp
  have e4 : num4 s (p + 7) = uval x.value := num4_low (uval_range _) hs2 (by simp [hl])
  unfold smR
  rw [e0, e1, e2, e3, e4]
  have e5 : sval (uval x.value) = x.value := by unfold sval uval; split <;> omega
  rw [e5]

theorem flatB_len (ls : List Sm) : (ls.flatMap smB).length = 11 * ls.length := by rw [flat_length smB 11 smB_len]; omega
/-- The samples of a record that stands at the head of s. -/
theorem smsR_of {s : ByteArray} {ls : List Sm} {rest : List Int} (hwf : SmWf ls) (hok : smsOk ls = true) (h : nums s = bodyB ls ++ rest) : smsR s ls.length = ls := by
  have key : ∀ k, k ≤ ls.length → smsR s k = ls.take k := by
    intro k
    induction k with
    | zero => intro _; simp [smsR]
    | succ k ih =>
      intro hk
      have hlt : k < ls.length := by omega
      rw [smsR_succ, ih (by omega), take_snoc ls k hlt]
      congr 2
      have hx : smOk ls[k] = true := by
        have := List.all_eq_true.1 hok k (List.mem_range.2 hlt)
        simpa [smG_get ls k hlt] using this
      have hspl : ls.flatMap smB = (ls.take k).flatMap smB ++ smB ls[k] ++ (ls.drop (k + 1)).flatMap smB := by
        conv => lhs; rw [← List.take_append_drop k ls, List.drop_eq_getElem_cons hlt]
        rw [List.flatMap_append, List.flatMap_cons, List.append_assoc]
      refine smR_smB (l1 := [87, (ls.length : Int)] ++ (ls.take k).flatMap smB) (l2 := (ls.drop (k + 1)).flatMap smB ++ rest) (mem_wf hwf (List.getElem_mem _)) hx ?_ ?_
      · rw [h]; unfold bodyB; rw [hspl]; simp
      · rw [List.length_append, flatB_len]; simp; omega
  have := key ls.length (Nat.le_refl _)
  rwa [List.take_length] at this

section
variable {s : ByteArray} {ls : List Sm} {rest : List Int}

theorem cN_of (h : nums s = bodyB ls ++ rest) : cN s = ls.length := by
  have : byt s 1 = (ls.length : Int) := byt_nums (by rw [h]; simp [bodyB])
  unfold cN; rw [this]; simp
theorem size_of (h : nums s = bodyB ls ++ rest) : s.size = 2 + 11 * ls.length + rest.length := by
  rw [← nums_len, h, List.length_append, bodyB_len]; omega

/-- A right batch comes back out of its record, whatever stands behind it. -/
theorem whole_yes {tail : List Int} (h1 : 1 ≤ ls.length) (h8 : ls.length ≤ 8) (hwf : SmWf ls) (hok : smsOk ls = true) (h : nums s = recB ls ++ tail) : unOk s = true ∧ cN s = ls.length ∧ smsR s (cN s) = ls := by
  have hb : nums s = bodyB ls ++ (lowN (chk (bodyB ls)) 4 ++ tail) := by rw [h]; simp [recB]
  have hc := cN_of hb
  have hsz := size_of hb
  have hsm : smsR s (cN s) = ls := by rw [hc]; exact smsR_of hwf hok hb
  refine ⟨?_, hc, hsm⟩
  unfold unOk
  rw [hsm, hok, Bool.and_true, headOk_iff, hc]
  simp only [List.length_append, lowN_len] at hsz
  refine ⟨by omega, byt_nums (by rw [hb]; simp [bodyB]), h1, h8, by omega, ?_⟩
  have e1 : num4 s (2 + 11 * ls.length) = chk (bodyB ls) := num4_low (chk_range _) (by rw [h]; rfl) (by rw [bodyB_len]; omega)
  have e2 : (nums s).take (2 + 11 * ls.length) = bodyB ls := by
    rw [hb, show 2 + 11 * ls.length = (bodyB ls).length by rw [bodyB_len]; omega]; exact List.take_left
  rw [e1, e2]

/-- With a byte less there is none. -/
theorem whole_less (h : nums s = (recB ls).take ((recB ls).length - 1)) : unOk s = false := by
  have hb : nums s = bodyB ls ++ (lowN (chk (bodyB ls)) 4).take 3 := by
    rw [h, recB_len]; unfold recB
    rw [List.take_append, List.take_of_length_le (by rw [bodyB_len]; omega), bodyB_len]
    congr 2; omega
  have hc := cN_of hb
  have hsz := size_of hb
  have hl : ((lowN (chk (bodyB ls)) 4).take 3).length = 3 := by simp [lowN_len]
  unfold unOk
  rw [no_of (a := headOk s) (by rw [headOk_iff, hc]; omega)]
  rfl

/-- With a byte turned there is none (but for the second one). -/
theorem whole_turned {k : Nat} {d : Int} (hwf : SmWf ls) (hn : ls.length ≤ 8) (hk : k < (recB ls).length) (hk1 : k ≠ 1) (hd0 : isByte d) (hd : (recB ls)[k]? ≠ some d) (h : nums s = (recB ls).set k d) : unOk s = false := by
  have hbytes : ∀ y ∈ bodyB ls, isByte y := bodyB_byte hwf (by omega)
  have hbl := bodyB_len ls
  have hll : (lowN (chk (bodyB ls)) 4).length = 4 := lowN_len _ _
  unfold unOk
  rw [no_of (a := headOk s) ?_]
  · rfl
  rw [headOk_iff]
  rintro ⟨h2, h0, hc1, hc8, hlen, hnum⟩
  by_cases hkb : k < (bodyB ls).length
  · have hset : (recB ls).set k d = (bodyB ls).set k d ++ lowN (chk (bodyB ls)) 4 := by unfold recB; rw [List.set_append_left _ _ hkb]
    rw [hset] at h
    by_cases hk0 : k = 0
    · subst hk0
      have : byt s 0 = d := byt_nums (by rw [h]; simp [bodyB])
      rw [this] at h0
      apply hd
      simp [recB, bodyB, h0]
    · have hc : cN s = ls.length := by
        have : byt s 1 = (ls.length : Int) := byt_nums (by
          rw [h, List.getElem?_append_left (by simp; omega), List.getElem?_set_ne (by omega)]
          simp [bodyB])
        unfold cN; rw [this]; simp
      rw [hc] at hnum
      have e1 : num4 s (2 + 11 * ls.length) = chk (bodyB ls) := num4_low (l1 := (bodyB ls).set k d) (l2 := []) (chk_range _) (by rw [h]; simp) (by rw [List.length_set]; omega)
      have e2 : (nums s).take (2 + 11 * ls.length) = (bodyB ls).set k d := by
        rw [h, show 2 + 11 * ls.length = ((bodyB ls).set k d).length by simp; omega]; exact List.take_left
      rw [e1, e2] at hnum
      have hb1 : bodyB ls = (bodyB ls).take k ++ (bodyB ls)[k] :: (bodyB ls).drop (k + 1) := by
        rw [← List.drop_eq_getElem_cons hkb, List.take_append_drop]
      have hb2 : (bodyB ls).set k d = (bodyB ls).take k ++ d :: (bodyB ls).drop (k + 1) := by rw [List.set_eq_take_append_cons_drop, if_pos hkb]
      rw [hb2] at hnum
      conv at hnum => lhs; rw [hb1]
      refine chk_turned _ _ (hbytes _ (List.getElem_mem _)) hd0 ?_ hnum
      intro he
      apply hd
      unfold recB
      rw [List.getElem?_append_left hkb, List.getElem?_eq_getElem hkb, he]
  · have hkr : k - (bodyB ls).length < 4 := by
      have := recB_len ls; omega
    have hset : (recB ls).set k d = bodyB ls ++ (lowN (chk (bodyB ls)) 4).set (k - (bodyB ls).length) d := by unfold recB; rw [List.set_append_right _ _ (by omega)]
    rw [hset] at h
    have hc := cN_of h
    rw [hc] at hnum
    have e2 : (nums s).take (2 + 11 * ls.length) = bodyB ls := by
      rw [h, show 2 + 11 * ls.length = (bodyB ls).length by omega]; exact List.take_left
    rw [e2] at hnum
    have hlow : lowN (num4 s (2 + 11 * ls.length)) 4 = (lowN (chk (bodyB ls)) 4).set (k - (bodyB ls).length) d := by
      have hsz : s.size = (bodyB ls).length + 4 := by rw [← nums_len, h]; simp [hll]
      rw [low_num4 s _ (by omega)]
      unfold seg
      rw [h, show 2 + 11 * ls.length = (bodyB ls).length by omega, List.drop_left]
      exact List.take_of_length_le (by simp [hll])
    rw [hnum] at hlow
    apply hd
    unfold recB
    rw [List.getElem?_append_right (by omega), hlow, List.getElem?_set_self (by omega)]
end

end Go.Proofs.Ythciddpljcbhiaa
