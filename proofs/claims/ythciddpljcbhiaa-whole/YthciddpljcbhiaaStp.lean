/- What may be accepted, as the caller tells it; rows put together step by step; what the statements without the document's answer come to (no program). -/
import Derived.Test.YthciddpljcbhiaaDsk
namespace Go.Proofs.Ythciddpljcbhiaa
open Go Go.RowKit

/-! Accepted just if it may be. -/
def oldT (s : St) : Int := s.c.old s.now * s.c.span
def fine1 (s : St) (x : Sm) : Bool := decide (x.time ≤ s.now) && decide (oldT s ≤ x.time) && lab3 x.l0 x.l1 x.l2
def fineB (s : St) (l : List Sm) : Bool := decide (1 ≤ l.length) && decide (l.length ≤ 8) && decide (s.l.length + l.length ≤ 500) && (List.range l.length).all fun i => fine1 s (smG l i)
theorem oldT_range {s : St} (h : Inv s) : 0 ≤ oldT s ∧ oldT s ≤ s.now := by
  obtain ⟨h1, _⟩ := Cf.right_parts h.right
  obtain ⟨a, b, _⟩ := Cf.old_range h.right h.n0
  refine ⟨Int.mul_nonneg a (by omega), ?_⟩
  have h2 : s.c.old s.now * s.c.span ≤ s.now / s.c.span * s.c.span := Int.mul_le_mul_of_nonneg_right b (by omega)
  have h3 : s.now / s.c.span * s.c.span ≤ s.now := Int.ediv_mul_le _ (by omega)
  unfold oldT
  omega
theorem old_iff {s : St} (h : Inv s) {t : Int} (ht : 0 ≤ t) : oldT s ≤ t ↔ s.c.age s.now t ≤ s.c.keep := by
  obtain ⟨h1, h2, h3, h4, _⟩ := Cf.right_parts h.right
  have hd : 0 ≤ t / s.c.span := Int.ediv_nonneg ht (by omega)
  have hn : 0 ≤ s.now / s.c.span := Int.ediv_nonneg h.n0 (by omega)
  unfold oldT
  rw [← Int.le_ediv_iff_mul_le (by omega)]
  unfold Cf.old Cf.age
  split <;> omega
theorem fine1_iff {s : St} (h : Inv s) (x : Sm) : fine1 s x = true ↔ smOk x = true ∧ lateB s x = false := by
  have hr := oldT_range h
  have h1 := h.n1
  rw [smOk_iff]
  simp only [fine1, lateB, Bool.and_eq_true, decide_eq_true_eq, Bool.or_eq_false_iff, decide_eq_false_iff_not]
  constructor
  · rintro ⟨⟨a, b⟩, c⟩
    have := (old_iff h (show 0 ≤ x.time by omega)).1 b
    exact ⟨⟨by omega, by omega, c⟩, by omega, by omega⟩
  · rintro ⟨⟨a, b, c⟩, d, e⟩
    have := (old_iff h a).2 (by omega)
    exact ⟨⟨by omega, this⟩, c⟩
theorem fine_iff {s : St} (h : Inv s) (l : List Sm) : fineB s l = true ↔ wrE s l = 0 := by
  have e1 : (∀ i, i < l.length → fine1 s (smG l i) = true) ↔ (smsOk l = true ∧ l.any (lateB s) = false) := by
    constructor
    · intro hh
      constructor
      · exact all_true fun i hi => ((fine1_iff h _).1 (hh i hi)).1
      · rw [List.any_eq_false]
        intro x hx
        obtain ⟨i, hi, rfl⟩ := List.getElem_of_mem hx
        have := ((fine1_iff h _).1 (hh i hi)).2
        rw [smG_get l i hi] at this
        simp [this]
    · rintro ⟨a, b⟩ i hi
      refine (fine1_iff h _).2 ⟨List.all_eq_true.1 a i (List.mem_range.2 hi), ?_⟩
      rw [List.any_eq_false] at b
      rw [smG_get l i hi]
      simpa using b l[i] (List.getElem_mem _)
  have e2 : fineB s l = true ↔ (1 ≤ l.length ∧ l.length ≤ 8 ∧ s.l.length + l.length ≤ 500 ∧ ∀ i, i < l.length → fine1 s (smG l i) = true) := by
    simp only [fineB, Bool.and_eq_true, decide_eq_true_eq, List.all_eq_true, List.mem_range]
    constructor
    · rintro ⟨⟨⟨a, b⟩, c⟩, d⟩; exact ⟨a, b, c, d⟩
    · rintro ⟨a, b, c, d⟩; exact ⟨⟨⟨a, b⟩, c⟩, d⟩
  rw [e2, e1]
  unfold wrE
  by_cases hb : batE l = 0
  · obtain ⟨b1, b2, b3⟩ := (batE_zero l).1 hb
    rw [if_neg (by simp [hb])]
    cases hl : l.any (lateB s)
    · simp only [b1, b2, b3, true_and]
      by_cases h7 : 500 < s.l.length + l.length
      · simp [h7]
      · simp [h7]; omega
    · simp
  · rw [if_pos hb]
    refine ⟨fun hh => absurd ((batE_zero l).2 ⟨hh.1, hh.2.1, hh.2.2.2.1⟩) hb, fun hh => absurd hh hb⟩

/-- A raw sample made right. -/
def lbB (b : Int) : Int := if b % 27 = 26 then 45 else 97 + b % 27
def shp1 (s : St) (x : Sm) : Sm := ⟨s.now - pk x.time (s.now - oldT s + 1), lbB x.l0, lbB x.l1, lbB x.l2, x.value⟩
def shp (s : St) (l : List Sm) : List Sm := (l.take 8).map (shp1 s)

/-! A step of a script. -/
structure Stp where
  kind : Int
  a : Int
  batch : List Sm
def St.try' (s : St) (b : List Sm) : St := if fineB s b then s.wr b else s
def St.step (s : St) (o : Stp) : St :=
  if o.kind = 1 then (if tkE s o.a = 0 then s.tk o.a else s) else if o.kind = 2 then s.try' (shp s o.batch) else if o.kind = 3 then s.try' o.batch else s
theorem lbB_byte (b : Int) : 0 ≤ lbB b ∧ lbB b ≤ 255 := by unfold lbB; split <;> omega
theorem Inv.try' {s : St} (h : Inv s) {b : List Sm} (hw : ∀ x ∈ b, x.wf) : Inv (s.try' b) := by
  unfold St.try'
  split
  · next hf => exact h.wr ((fine_iff h b).1 hf) hw
  · exact h
theorem shp_wf {s : St} (h : Inv s) {b : List Sm} (hw : ∀ x ∈ b, x.wf) : ∀ x ∈ shp s b, x.wf := by
  intro x hx
  unfold shp at hx
  obtain ⟨y, hy, rfl⟩ := List.mem_map.1 hx
  have hw' := hw y (List.mem_of_mem_take hy)
  have hr := oldT_range h
  have h0 := h.n0
  have h1 := h.n1
  obtain ⟨p0, p1⟩ := pk_range y.time (s.now - oldT s + 1) (by omega)
  refine ⟨?_, lbB_byte _, lbB_byte _, lbB_byte _, hw'.2.2.2.2⟩
  show _ ≤ s.now - pk y.time (s.now - oldT s + 1) ∧ s.now - pk y.time (s.now - oldT s + 1) ≤ _
  omega
theorem Inv.step {s : St} (h : Inv s) {o : Stp} (hw : ∀ x ∈ o.batch, x.wf) : Inv (s.step o) := by
  unfold St.step
  split
  · split
    · next he => exact h.tk he
    · exact h
  · split
    · exact h.try' (shp_wf h hw)
    · split
      · exact h.try' hw
      · exact h
def St.play (s : St) (l : List Stp) : St := l.foldl St.step s

/-! Rows put together step by step. -/
def joinR (a b : Rw) : Rw := if a.ag.cnt = 0 then b else ⟨a.key, a.ag.join b.ag⟩
def putR (out : List Rw) (i : Nat) (r : Rw) : List Rw := out.set i (joinR (rwG out i) r)
def agz (r : Rw) : Option Ag := if r.ag.cnt = 0 then none else some r.ag
/-- A row that counts nothing is all 0. -/
def Zr (r : Rw) : Prop := 0 ≤ r.ag.cnt ∧ (r.ag.cnt = 0 → r.ag = ⟨0, 0, 0, 0⟩)
theorem zr_zero : Zr Rw.zero := ⟨by simp [Rw.zero], fun _ => rfl⟩
theorem agz_join {a b : Rw} (ha : Zr a) (hb : 1 ≤ b.ag.cnt) : agz (joinR a b) = oj (agz a) (some b.ag) ∧ Zr (joinR a b) := by
  unfold joinR agz
  by_cases h : a.ag.cnt = 0
  · simp only [if_pos h]
    rw [if_neg (by omega)]
    exact ⟨by simp, by omega, fun e => by omega⟩
  · simp only [if_neg h]
    have : 0 ≤ a.ag.cnt := ha.1
    have e : (a.ag.join b.ag).cnt = a.ag.cnt + b.ag.cnt := rfl
    rw [if_neg (by rw [e]; omega)]
    exact ⟨rfl, by show 0 ≤ (a.ag.join b.ag).cnt; omega, fun h' => by have : (a.ag.join b.ag).cnt = 0 := h'; omega⟩
theorem zr_eq {a b : Rw} (ha : Zr a) (hb : Zr b) (h : agz a = agz b) : a.ag = b.ag := by
  unfold agz at h
  by_cases ea : a.ag.cnt = 0 <;> by_cases eb : b.ag.cnt = 0
  · rw [ha.2 ea, hb.2 eb]
  · rw [if_pos ea, if_neg eb] at h; cases h
  · rw [if_neg ea, if_pos eb] at h; cases h
  · rw [if_neg ea, if_neg eb] at h; exact Option.some.inj h
theorem rwG_put (out : List Rw) (i : Nat) (r : Rw) (j : Nat) (hi : i < out.length) : rwG (putR out i r) j = if i = j then joinR (rwG out i) r else rwG out j := by
  unfold putR
  by_cases h : i = j
  · subst h; simp [rwG, List.getD, hi]
  · simp [rwG, List.getD, h]
/-- Any list of rows, each put to a place. -/
def putAll (out : List Rw) (l : List (Nat × Rw)) : List Rw := l.foldl (fun o p => putR o p.1 p.2) out
theorem putAll_len (l : List (Nat × Rw)) : ∀ out, (putAll out l).length = out.length := by
  induction l with
  | nil => intro out; rfl
  | cons p l ih => intro out; show (putAll (putR out p.1 p.2) l).length = _; rw [ih]; simp [putR]
theorem putAll_eq (l : List (Nat × Rw)) : ∀ out, (∀ j, Zr (rwG out j)) → (∀ p ∈ l, p.1 < out.length ∧ 1 ≤ p.2.ag.cnt) → ∀ i,
    agz (rwG (putAll out l) i) = oj (agz (rwG out i)) (agRows ((l.filter fun p => decide (p.1 = i)).map (·.2))) ∧ Zr (rwG (putAll out l) i) := by
  induction l with
  | nil => intro out hz _ i; exact ⟨by simp [putAll], hz i⟩
  | cons p l ih =>
    intro out hz hl i
    obtain ⟨h1, h2⟩ := hl p (by simp)
    have hz' : ∀ j, Zr (rwG (putR out p.1 p.2) j) := by
      intro j
      rw [rwG_put _ _ _ _ h1]
      split
      · exact (agz_join (hz _) h2).2
      · exact hz j
    have hl' : ∀ x ∈ l, x.1 < (putR out p.1 p.2).length ∧ 1 ≤ x.2.ag.cnt := fun x hx => by
      have := hl x (by simp [hx])
      simpa [putR] using this
    obtain ⟨e1, e2⟩ := ih (putR out p.1 p.2) hz' hl' i
    refine ⟨?_, e2⟩
    show agz (rwG (putAll (putR out p.1 p.2) l) i) = _
    rw [e1, rwG_put _ _ _ _ h1]
    by_cases h : p.1 = i
    · rw [if_pos h, (agz_join (hz _) h2).1, List.filter_cons, if_pos (by simpa using h), List.map_cons, agRows_cons, oj_assoc, h]
    · rw [if_neg h, List.filter_cons, if_neg (by simpa using h)]
theorem rwG_rep (n j : Nat) : rwG (List.replicate n Rw.zero) j = Rw.zero := by
  unfold rwG
  by_cases h : j < n <;> simp [List.getD, h]

def stepsR (n : Nat) (l : List Rw) : List Rw := putAll (List.replicate n Rw.zero) (l.map fun r => (r.key.st.toNat, r))
theorem stepsR_len (n : Nat) (l : List Rw) : (stepsR n l).length = n := by unfold stepsR; rw [putAll_len]; simp
/-- Rows that the caller takes for rows. -/
structure Goods (n : Nat) (l : List Rw) : Prop where
  up : l.Pairwise fun a b => a.key.lt b.key
  s0 : ∀ r ∈ l, 0 ≤ r.key.st ∧ r.key.st < n
  ok : ∀ r ∈ l, 1 ≤ r.ag.cnt ∧ r.ag.mn ≤ r.ag.mx
theorem stepsR_eq {n : Nat} {l : List Rw} (h : Goods n l) (i : Nat) : agz (rwG (stepsR n l) i) = agRows (l.filter fun r => decide (r.key.st = i)) ∧ Zr (rwG (stepsR n l) i) := by
  have h1 : ∀ p ∈ l.map (fun r : Rw => (r.key.st.toNat, r)), p.1 < (List.replicate n Rw.zero).length ∧ 1 ≤ p.2.ag.cnt := by
    intro p hp
    obtain ⟨r, hr, rfl⟩ := List.mem_map.1 hp
    have := h.s0 r hr
    exact ⟨by simp; omega, (h.ok r hr).1⟩
  obtain ⟨e1, e2⟩ := putAll_eq (l.map fun r => (r.key.st.toNat, r)) (List.replicate n Rw.zero) (fun j => by rw [rwG_rep]; exact zr_zero) h1 i
  refine ⟨?_, e2⟩
  unfold stepsR
  rw [e1, rwG_rep]
  have hz : agz Rw.zero = none := by simp [agz, Rw.zero]
  rw [hz, oj_none_left]
  congr 1
  rw [List.filter_map, List.map_map]
  have : (fun p : Nat × Rw => p.2) ∘ (fun r : Rw => (r.key.st.toNat, r)) = id := rfl
  show List.map ((fun p : Nat × Rw => p.2) ∘ (fun r : Rw => (r.key.st.toNat, r))) _ = _
  rw [this, List.map_id]
  apply List.filter_congr
  intro r hr
  have := h.s0 r hr
  show decide (r.key.st.toNat = i) = decide (r.key.st = i)
  rw [decide_eq_decide]
  omega

def rawRow (x : Sm) : Rw := ⟨⟨0, 0, 0, 0⟩, .one x.value⟩
def rawR (n : Nat) (q : Qy) (l : List Sm) : List Rw := putAll (List.replicate n Rw.zero) ((l.filter fun x => inQ q x.time).map fun x => ((stepOf q x.time).toNat, rawRow x))
theorem rawR_len (n : Nat) (q : Qy) (l : List Sm) : (rawR n q l).length = n := by unfold rawR; rw [putAll_len]; simp
theorem agRows_raw (l : List Sm) : agRows (l.map rawRow) = agOf (l.map (·.value)) := by
  induction l with
  | nil => rfl
  | cons x l ih => simp [ih, rawRow]
theorem rawR_eq {n : Nat} {q : Qy} (hs : 1 ≤ q.step) (hn : q.to - q.fr = n * q.step) (l : List Sm) (i : Nat) : agz (rwG (rawR n q l) i) = agOf (stepVals q l fun j => decide (j = i)) ∧ Zr (rwG (rawR n q l) i) := by
  have h1 : ∀ p ∈ (l.filter fun x => inQ q x.time).map (fun x => ((stepOf q x.time).toNat, rawRow x)), p.1 < (List.replicate n Rw.zero).length ∧ 1 ≤ p.2.ag.cnt := by
    intro p hp
    obtain ⟨x, hx, rfl⟩ := List.mem_map.1 hp
    have := step_range hs hn (List.mem_filter.1 hx).2
    exact ⟨by simp; omega, by simp [rawRow, Ag.one]⟩
  obtain ⟨e1, e2⟩ := putAll_eq _ (List.replicate n Rw.zero) (fun j => by rw [rwG_rep]; exact zr_zero) h1 i
  refine ⟨?_, e2⟩
  unfold rawR
  rw [e1, rwG_rep]
  have hz : agz Rw.zero = none := by simp [agz, Rw.zero]
  rw [hz, oj_none_left, List.filter_map, List.map_map]
  show agRows (List.map rawRow _) = _
  rw [agRows_raw]
  unfold stepVals
  congr 2
  rw [List.filter_filter]
  apply List.filter_congr
  intro x _
  cases hq : inQ q x.time
  · simp
  · have := step_range hs hn hq
    show (decide ((stepOf q x.time).toNat = i) && true) = (true && decide (stepOf q x.time = i))
    rw [Bool.and_true, Bool.true_and, decide_eq_decide]
    omega

def sameR (a b : Rw) : Bool := a.ag.cnt == b.ag.cnt && a.ag.sum == b.ag.sum && a.ag.mn == b.ag.mn && a.ag.mx == b.ag.mx
theorem sameR_ag {a b : Rw} (h : a.ag = b.ag) : sameR a b = true := by simp [sameR, h]
def alikeB (a b : List Rw) : Bool := decide (a.length = b.length) && (List.range a.length).all fun i => sameR (rwG a i) (rwG b i)
theorem alike_of {a b : List Rw} (hl : a.length = b.length) (h : ∀ i, i < a.length → (rwG a i).ag = (rwG b i).ag) : alikeB a b = true := by
  simp only [alikeB, hl, decide_true, Bool.true_and]
  rw [← hl]
  exact all_true fun i hi => sameR_ag (h i hi)

/-! The statements. -/
theorem rows_goods {s : St} {q : Qy} {n : Nat} (hs : 1 ≤ q.step) (hn : q.to - q.fr = n * q.step) : Goods n (s.rows q) := by
  refine ⟨(rowsOf_is (kvOf q s.at s.l)).up, fun r hr => ?_, fun r hr => rows_cnt s hr⟩
  obtain ⟨x, _, hq, e, _⟩ := rows_mem s hr
  rw [e]
  exact step_range hs hn hq
/-- Told. -/
theorem told {s : St} {q : Qy} {n : Nat} (hs : 1 ≤ q.step) (hn : q.to - q.fr = n * q.step) (ha : anyM q) : alikeB (stepsR n (s.rows q)) (rawR n q s.l) = true := by
  refine alike_of (by rw [stepsR_len, rawR_len]) fun i _ => ?_
  obtain ⟨a1, a2⟩ := stepsR_eq (rows_goods (s := s) hs hn) i
  obtain ⟨b1, b2⟩ := rawR_eq hs hn s.l i
  exact zr_eq a2 b2 (by rw [a1, b1]; exact rows_step s ha i)
/-- Grouped. -/
theorem grouped {s : St} {q q' : Qy} {n : Nat} (hs : 1 ≤ q.step) (hn : q.to - q.fr = n * q.step) (ha : anyM q) (ha' : anyM q') (e1 : q'.fr = q.fr) (e2 : q'.to = q.to) (e3 : q'.step = q.step) :
    alikeB (stepsR n (s.rows q)) (stepsR n (s.rows q')) = true := by
  refine alike_of (by rw [stepsR_len, stepsR_len]) fun i _ => ?_
  obtain ⟨a1, a2⟩ := stepsR_eq (rows_goods (s := s) hs hn) i
  obtain ⟨b1, b2⟩ := stepsR_eq (rows_goods (s := s) (q := q') (n := n) (by rw [e3]; exact hs) (by rw [e1, e2, e3]; exact hn)) i
  refine zr_eq a2 b2 ?_
  rw [a1, b1, rows_step s ha i, rows_step s ha' i]
  unfold stepVals inQ stepOf
  rw [e1, e2, e3]

end Go.Proofs.Ythciddpljcbhiaa
