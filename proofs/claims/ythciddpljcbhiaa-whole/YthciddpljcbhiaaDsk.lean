/- The desk of the statements without the document's answer, plainly: a configuration made right, what may be accepted, rows put together step by step (no program). -/
import Derived.Test.YthciddpljcbhiaaTab
import Derived.Test.YthciddpljcbhiaaRecSpec
namespace Go.Proofs.Ythciddpljcbhiaa
open Go Go.RowKit

def pk (c n : Int) : Int := (if c < 0 then -(c + 1) else c) % n
theorem pk_range (c n : Int) (hn : 0 < n) : 0 ≤ pk c n ∧ pk c n < n := by
  unfold pk; exact ⟨Int.emod_nonneg _ (by omega), Int.emod_lt_of_pos _ hn⟩

/-! A configuration made right. -/
def rlB (r : Int) : Int := if r % 3 = 0 then 107 else if r % 3 = 1 then 103 else 100
def rl (raw : ByteArray) (i : Nat) : Int := if i < raw.size then rlB (byt raw i) else 107
def ruleOf (raw : ByteArray) : ByteArray := strOfNums [rl raw 0, rl raw 1, rl raw 2]
theorem rl_ok (raw : ByteArray) (i : Nat) : rl raw i = 107 ∨ rl raw i = 103 ∨ rl raw i = 100 := by
  unfold rl rlB
  repeat (first | split | simp)
theorem byt_str (l : List Int) (hb : ∀ x ∈ l, isByte x) (k : Nat) (h : k < l.length) : byt (strOfNums l) k = l[k] := by
  have h1 : (nums (strOfNums l)) = l := nums_str l hb
  have h2 := nums_get (strOfNums l) k (by rw [strOfNums_size]; exact h)
  rw [h1, List.getElem?_eq_getElem h] at h2
  exact (Option.some.inj h2).symm
theorem ruleOf_bytes (raw : ByteArray) : byt (ruleOf raw) 0 = rl raw 0 ∧ byt (ruleOf raw) 1 = rl raw 1 ∧ byt (ruleOf raw) 2 = rl raw 2 := by
  have hb : ∀ x ∈ [rl raw 0, rl raw 1, rl raw 2], isByte x := by
    intro x hx
    have h0 := rl_ok raw 0
    have h1 := rl_ok raw 1
    have h2 := rl_ok raw 2
    simp at hx
    unfold isByte
    rcases hx with rfl | rfl | rfl <;> omega
  exact ⟨byt_str _ hb 0 (by simp), byt_str _ hb 1 (by simp), byt_str _ hb 2 (by simp)⟩
theorem ruleOf_size (raw : ByteArray) : (ruleOf raw).size = 3 := by unfold ruleOf; rw [strOfNums_size]; rfl
theorem ruleOf_ok (raw : ByteArray) : ruleB (ruleOf raw) = true := by
  obtain ⟨h0, h1, h2⟩ := ruleOf_bytes raw
  unfold ruleB
  rw [ruleOf_size, h0, h1, h2]
  have r0 := rl_ok raw 0
  have r1 := rl_ok raw 1
  have r2 := rl_ok raw 2
  unfold rulB
  rcases r0 with r0 | r0 | r0 <;> rcases r1 with r1 | r1 | r1 <;> rcases r2 with r2 | r2 | r2 <;> rw [r0, r1, r2] <;> decide

/-- The levels made out of raw ones, and the last window. -/
def nxA (first : Bool) (l : Lv) (age : Int) : Int := if first then age else age + 1 + pk l.age 19
def nxW (l : Lv) (w : Int) : Int := w * (1 + pk l.window (100 / w))
def nxL (first : Bool) (l : Lv) (w age : Int) : Lv := ⟨nxA first l age, nxW l w, ruleOf l.rule, 1 + pk l.limit 20⟩
def cfL (keep : Int) : List Lv → Bool → Int → Int → List Lv
  | [], _, _, _ => []
  | l :: ls, first, w, age => if keep < nxA first l age then [] else nxL first l w age :: cfL keep ls false (nxW l w) (nxA first l age)
def cfW (keep : Int) : List Lv → Bool → Int → Int → Int
  | [], _, w, _ => w
  | l :: ls, first, w, age => if keep < nxA first l age then w else cfW keep ls false (nxW l w) (nxA first l age)
theorem nxW_range {l : Lv} {w : Int} (h0 : 1 ≤ w) (h1 : w ≤ 100) : 1 ≤ nxW l w ∧ nxW l w ≤ 100 ∧ w ∣ nxW l w := by
  have hd : 1 ≤ 100 / w := by
    have := Int.ediv_le_ediv (a := w) (b := 100) (c := w) (by omega) h1
    rwa [Int.ediv_self (by omega)] at this
  obtain ⟨p0, p1⟩ := pk_range l.window (100 / w) (by omega)
  have hm : w * (100 / w) ≤ 100 := Int.mul_ediv_self_le (by omega)
  have hle : w * (1 + pk l.window (100 / w)) ≤ w * (100 / w) := Int.mul_le_mul_of_nonneg_left (by omega) (by omega)
  have hge : w * 1 ≤ w * (1 + pk l.window (100 / w)) := Int.mul_le_mul_of_nonneg_left (by omega) (by omega)
  unfold nxW
  exact ⟨by omega, by omega, Int.dvd_mul_right _ _⟩
theorem cfW_range (keep : Int) : ∀ (ls : List Lv) (first : Bool) (w age : Int), 1 ≤ w → w ≤ 100 → 1 ≤ cfW keep ls first w age ∧ cfW keep ls first w age ≤ 100 ∧ w ∣ cfW keep ls first w age := by
  intro ls
  induction ls with
  | nil => intro first w age h0 h1; exact ⟨h0, h1, Int.dvd_refl _⟩
  | cons l ls ih =>
    intro first w age h0 h1
    unfold cfW
    split
    · exact ⟨h0, h1, Int.dvd_refl _⟩
    · obtain ⟨a0, a1, a2⟩ := nxW_range (l := l) h0 h1
      obtain ⟨b0, b1, b2⟩ := ih false (nxW l w) (nxA first l age) a0 a1
      exact ⟨b0, b1, Int.dvd_trans a2 b2⟩
theorem cfL_len (keep : Int) : ∀ (ls : List Lv) (first : Bool) (w age : Int), (cfL keep ls first w age).length ≤ ls.length := by
  intro ls
  induction ls with
  | nil => intro first w age; simp [cfL]
  | cons l ls ih =>
    intro first w age
    have := ih false (nxW l w) (nxA first l age)
    unfold cfL
    split <;> simp <;> omega
/-- What is true of a level that was made. -/
def LvOk (keep : Int) (l : Lv) : Prop := l.age ≤ keep ∧ 1 ≤ l.window ∧ l.window ≤ 100 ∧ ruleB l.rule = true ∧ 1 ≤ l.limit ∧ l.limit ≤ 20
theorem cfL_ok (keep : Int) : ∀ (ls : List Lv) (first : Bool) (w age : Int), 1 ≤ w → w ≤ 100 → ∀ i, i < (cfL keep ls first w age).length →
    LvOk keep (lvG (cfL keep ls first w age) i) ∧ (lvG (cfL keep ls first w age) i).window ∣ cfW keep ls first w age ∧
    (i = 0 → (if first then (lvG (cfL keep ls first w age) 0).age = age else age < (lvG (cfL keep ls first w age) 0).age) ∧ w ∣ (lvG (cfL keep ls first w age) 0).window) ∧
    (∀ m, i = m + 1 → (lvG (cfL keep ls first w age) m).age < (lvG (cfL keep ls first w age) (m + 1)).age ∧ (lvG (cfL keep ls first w age) m).window ∣ (lvG (cfL keep ls first w age) (m + 1)).window) := by
  intro ls
  induction ls with
  | nil => intro first w age _ _ i hi; simp [cfL] at hi
  | cons l ls ih =>
    intro first w age h0 h1 i hi
    by_cases hk : keep < nxA first l age
    · simp [cfL, hk] at hi
    · obtain ⟨a0, a1, a2⟩ := nxW_range (l := l) h0 h1
      have e : cfL keep (l :: ls) first w age = nxL first l w age :: cfL keep ls false (nxW l w) (nxA first l age) := by rw [cfL, if_neg hk]
      have ew : cfW keep (l :: ls) first w age = cfW keep ls false (nxW l w) (nxA first l age) := by rw [cfW, if_neg hk]
      obtain ⟨_, _, c2⟩ := cfW_range keep ls false (nxW l w) (nxA first l age) a0 a1
      rw [e, ew]
      rw [e] at hi
      have IH := ih false (nxW l w) (nxA first l age) a0 a1
      cases i with
      | zero =>
        refine ⟨?_, ?_, fun _ => ?_, fun m hm => by omega⟩
        · have hp := pk_range l.limit 20 (by omega)
          exact ⟨by show nxA first l age ≤ keep; omega, a0, a1, ruleOf_ok _, by show 1 ≤ 1 + pk l.limit 20; omega, by show 1 + pk l.limit 20 ≤ 20; omega⟩
        · exact c2
        · refine ⟨?_, a2⟩
          show if first then nxA first l age = age else age < nxA first l age
          have hp := pk_range l.age 19 (by omega)
          cases first
          · simp [nxA]; omega
          · simp [nxA]
      | succ i =>
        have hi' : i < (cfL keep ls false (nxW l w) (nxA first l age)).length := by simpa using hi
        obtain ⟨k1, k2, k3, k4⟩ := IH i hi'
        refine ⟨k1, k2, fun h => by omega, fun m hm => ?_⟩
        have hm' : i = m := by omega
        subst hm'
        cases i with
        | zero =>
          obtain ⟨q1, q2⟩ := k3 rfl
          have q1' : nxA first l age < (lvG (cfL keep ls false (nxW l w) (nxA first l age)) 0).age := by simpa using q1
          exact ⟨q1', q2⟩
        | succ i => exact k4 i rfl

/-- A configuration made right. -/
def confL (keep : Int) (ls : List Lv) : List Lv := if cfL keep (ls.take 4) true 1 0 = [] then [⟨0, 1, strOfNums [107, 107, 107], 20⟩] else cfL keep (ls.take 4) true 1 0
def confW (keep : Int) (ls : List Lv) : Int := cfW keep (ls.take 4) true 1 0
def conf (span keep : Int) (ls : List Lv) : Cf := ⟨confW (pk keep 20) ls * (1 + pk span (100 / confW (pk keep 20) ls)), pk keep 20, confL (pk keep 20) ls⟩
theorem right_of {c : Cf} (h1 : 1 ≤ c.span) (h2 : c.span ≤ 100) (h3 : 0 ≤ c.keep) (h4 : c.keep ≤ 19) (h5 : 1 ≤ c.lvs.length) (h6 : c.lvs.length ≤ 4) (h : ∀ i, i < c.lvs.length → refOk c.lvs c.span c.keep i = true) : c.right = true := by
  have hr : refsB c.lvs c.span c.keep = true := all_true h
  rw [refsB_eq] at hr
  unfold Cf.right
  rw [rightB_rest h1 h2 h3 h4 h5 h6]
  exact hr
theorem conf_right (span keep : Int) (ls : List Lv) : (conf span keep ls).right = true := by
  obtain ⟨k0, k1⟩ := pk_range keep 20 (by omega)
  obtain ⟨w0, w1, _⟩ := cfW_range (pk keep 20) (ls.take 4) true 1 0 (by omega) (by omega)
  have hd : 1 ≤ 100 / confW (pk keep 20) ls := by
    have := Int.ediv_le_ediv (a := confW (pk keep 20) ls) (b := 100) (c := confW (pk keep 20) ls) (by unfold confW; omega) w1
    rwa [Int.ediv_self (by unfold confW; omega)] at this
  obtain ⟨p0, p1⟩ := pk_range span (100 / confW (pk keep 20) ls) (by omega)
  have hm : confW (pk keep 20) ls * (100 / confW (pk keep 20) ls) ≤ 100 := Int.mul_ediv_self_le (by unfold confW; omega)
  have w0' : 1 ≤ confW (pk keep 20) ls := w0
  have hle : confW (pk keep 20) ls * (1 + pk span (100 / confW (pk keep 20) ls)) ≤ confW (pk keep 20) ls * (100 / confW (pk keep 20) ls) := Int.mul_le_mul_of_nonneg_left (by omega) (by omega)
  have hge : confW (pk keep 20) ls * 1 ≤ confW (pk keep 20) ls * (1 + pk span (100 / confW (pk keep 20) ls)) := Int.mul_le_mul_of_nonneg_left (by omega) (by omega)
  have hs : confW (pk keep 20) ls ∣ (conf span keep ls).span := Int.dvd_mul_right _ _
  have hlen := cfL_len (pk keep 20) (ls.take 4) true 1 0
  have hlen4 : (ls.take 4).length ≤ 4 := List.length_take_le _ _
  by_cases hn : cfL (pk keep 20) (ls.take 4) true 1 0 = []
  · have el : (conf span keep ls).lvs = [⟨0, 1, strOfNums [107, 107, 107], 20⟩] := by simp [conf, confL, hn]
    refine right_of (by show 1 ≤ _ * _; omega) (by show _ * _ ≤ 100; omega) k0 (by show pk keep 20 ≤ 19; omega) (by rw [el]; simp) (by rw [el]; simp) (fun i hi => ?_)
    rw [el] at hi ⊢
    have : i = 0 := by simp at hi; omega
    subst this
    rw [refOk_zero]
    refine ⟨by show ruleB (strOfNums [107, 107, 107]) = true; decide, by show (1 : Int) ≤ 20; omega, by show (20 : Int) ≤ 20; omega, k0, by show (1 : Int) ≤ 1; omega, by show _ % (1 : Int) = 0; omega, rfl⟩
  · have el : (conf span keep ls).lvs = cfL (pk keep 20) (ls.take 4) true 1 0 := by simp [conf, confL, hn]
    have hpos : 1 ≤ (cfL (pk keep 20) (ls.take 4) true 1 0).length := by
      cases hh : cfL (pk keep 20) (ls.take 4) true 1 0 with
      | nil => exact absurd hh hn
      | cons a b => simp
    refine right_of (by show 1 ≤ _ * _; omega) (by show _ * _ ≤ 100; omega) k0 (by show pk keep 20 ≤ 19; omega) (by rw [el]; exact hpos) (by rw [el]; omega) (fun i hi => ?_)
    rw [el] at hi ⊢
    obtain ⟨⟨g1, g2, g3, g4, g5, g6⟩, f2, f3, f4⟩ := cfL_ok (pk keep 20) (ls.take 4) true 1 0 (by omega) (by omega) i hi
    have hsd := Int.emod_eq_zero_of_dvd (Int.dvd_trans f2 hs)
    cases i with
    | zero =>
      rw [refOk_zero]
      exact ⟨g4, g5, g6, g1, g2, hsd, by simpa using (f3 rfl).1⟩
    | succ m =>
      rw [refOk_succ]
      obtain ⟨q1, q2⟩ := f4 m rfl
      exact ⟨g4, g5, g6, g1, g2, hsd, q1, Int.emod_eq_zero_of_dvd q2⟩

/-! What may be accepted. -/
theorem batE_ok {b : List Sm} (h : batE b = 0) : ∀ x ∈ b, smOk x = true := by
  obtain ⟨_, _, h3⟩ := (batE_zero b).1 h
  intro x hx
  obtain ⟨i, hi, rfl⟩ := List.getElem_of_mem hx
  have := List.all_eq_true.1 h3 i (List.mem_range.2 hi)
  rwa [smG_get b i hi] at this
structure Inv (s : St) : Prop where
  right : s.c.right = true
  n0 : 0 ≤ s.now
  n1 : s.now ≤ 100000
  len : s.l.length ≤ 500
  ok : ∀ x ∈ s.l, smOk x = true ∧ x.wf
  past : ∀ x ∈ s.l, x.time ≤ s.now

theorem inv_new {c : Cf} (h : c.right = true) : Inv (St.new c) := ⟨h, by simp [St.new], by simp [St.new], by simp [St.new], by simp [St.new], by simp [St.new]⟩
theorem Inv.tk {s : St} (h : Inv s) {n : Int} (he : tkE s n = 0) : Inv (s.tk n) := by
  have : ¬ (n < 1 ∨ 1000 < n ∨ 100000 < s.now + n) := by
    intro hn; rw [tkE, if_pos hn] at he; omega
  have h0 := h.n0
  exact ⟨h.right, by show 0 ≤ s.now + n; omega, by show s.now + n ≤ 100000; omega, h.len, h.ok, fun x hx => by have := h.past x hx; show x.time ≤ s.now + n; omega⟩
theorem Inv.wr {s : St} (h : Inv s) {b : List Sm} (he : wrE s b = 0) (hw : ∀ x ∈ b, x.wf) : Inv (s.wr b) := by
  have hb : batE b = 0 := by
    by_cases e : batE b = 0
    · exact e
    · rw [wrE, if_pos e] at he; exact absurd he e
  have h7 : ¬ 500 < s.l.length + b.length := by
    intro h7
    rw [wrE, if_neg (by simp [hb])] at he
    split at he
    · omega
    · first | omega | (rw [if_pos h7] at he; omega)
  have h6 : b.any (lateB s) = false := by
    cases hl : b.any (lateB s)
    · rfl
    · rw [wrE, if_neg (by simp [hb]), if_pos hl] at he; omega
  refine ⟨h.right, h.n0, h.n1, by show (s.l ++ b).length ≤ 500; rw [List.length_append]; omega, fun x hx => ?_, fun x hx => ?_⟩
  · rcases List.mem_append.1 hx with hx | hx
    · exact h.ok x hx
    · refine ⟨?_, hw x hx⟩
      exact batE_ok hb x hx
  · rcases List.mem_append.1 hx with hx | hx
    · exact h.past x hx
    · have := List.any_eq_false.1 h6 x hx
      simp [lateB] at this
      show x.time ≤ s.now
      omega

end Go.Proofs.Ythciddpljcbhiaa
