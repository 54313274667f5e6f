/- The store as the program keeps it: points with their series, a book of what is admitted; that it tells what the document's tells (no program). -/
import Derived.Test.YthciddpljcbhiaaTell2
namespace Go.Proofs.Ythciddpljcbhiaa

/-- What is admitted, in one list: a level's number and a series. -/
structure Ad where
  lv : Nat
  nm : Lb
deriving DecidableEq

def admL (bk : List Ad) (j : Nat) : List Lb := (bk.filter fun a => decide (a.lv = j)).map (·.nm)
theorem admL_snoc (bk : List Ad) (i j : Nat) (m : Lb) : admL (bk ++ [⟨i, m⟩]) j = if i = j then admL bk j ++ [m] else admL bk j := by
  unfold admL
  by_cases h : i = j <;> simp [List.filter_append, h]
def giveN (bk : List Ad) (i : Nat) (lv : Lv) (now : Lb) : Lb :=
  if now = over then over else if madeL lv.rule now ∈ admL bk i then madeL lv.rule now else if lv.limit ≤ ((admL bk i).length : Int) then over else madeL lv.rule now
def giveB (bk : List Ad) (i : Nat) (lv : Lv) (now : Lb) : List Ad :=
  if now = over then bk else if madeL lv.rule now ∈ admL bk i then bk else if lv.limit ≤ ((admL bk i).length : Int) then bk else bk ++ [⟨i, madeL lv.rule now⟩]
/-- A sample comes to the levels, from level i on. -/
def entB : List Lv → Nat → List Ad → Lb → List Ad
  | [], _, bk, _ => bk
  | lv :: lvs, i, bk, now => entB lvs (i + 1) (giveB bk i lv now) (giveN bk i lv now)
def entS : List Lv → Nat → List Ad → Lb → List Lb
  | [], _, _, _ => []
  | lv :: lvs, i, bk, now => giveN bk i lv now :: entS lvs (i + 1) (giveB bk i lv now) (giveN bk i lv now)

theorem giveB_other (bk : List Ad) (i : Nat) (lv : Lv) (now : Lb) {j : Nat} (h : i ≠ j) : admL (giveB bk i lv now) j = admL bk j := by
  unfold giveB
  repeat (first | split | rfl)
  rw [admL_snoc, if_neg h]
theorem giveB_len (bk : List Ad) (i : Nat) (lv : Lv) (now : Lb) : (giveB bk i lv now).length ≤ bk.length + 1 := by
  unfold giveB
  repeat (first | split | simp)
theorem entB_len (lvs : List Lv) : ∀ i bk now, (entB lvs i bk now).length ≤ bk.length + lvs.length := by
  induction lvs with
  | nil => intro i bk now; simp [entB]
  | cons lv lvs ih =>
    intro i bk now
    have h1 := ih (i + 1) (giveB bk i lv now) (giveN bk i lv now)
    have h2 := giveB_len bk i lv now
    simp only [entB, List.length_cons]
    omega
theorem entS_len (lvs : List Lv) : ∀ i bk now, (entS lvs i bk now).length = lvs.length := by
  induction lvs with
  | nil => intro i bk now; rfl
  | cons lv lvs ih => intro i bk now; simp [entS, ih]
theorem entB_before (lvs : List Lv) : ∀ i bk now j, j < i → admL (entB lvs i bk now) j = admL bk j := by
  induction lvs with
  | nil => intro i bk now j _; rfl
  | cons lv lvs ih =>
    intro i bk now j hj
    simp only [entB]
    rw [ih (i + 1) _ _ j (by omega), giveB_other _ _ _ _ (by omega)]

theorem getD_tail {α : Type} (A : List α) (j : Nat) (d : α) : A.tail.getD j d = A.getD (j + 1) d := by cases A <;> simp
theorem headD_getD {α : Type} (A : List α) (d : α) : A.headD d = A.getD 0 d := by cases A <;> simp

/-- What the book holds is what is admitted, and the series are those of the document. -/
theorem ent_eq (lvs : List Lv) : ∀ (i : Nat) (bk : List Ad) (A : List (List Lb)) (now : Lb), (∀ j, j < lvs.length → A.getD j [] = admL bk (i + j)) →
    entS lvs i bk now = serNow lvs A now ∧ ∀ j, j < lvs.length → (admRow lvs A now).getD j [] = admL (entB lvs i bk now) (i + j) := by
  induction lvs with
  | nil => intro i bk A now _; exact ⟨rfl, fun j hj => by simp at hj⟩
  | cons lv lvs ih =>
    intro i bk A now h
    have h0 : A.headD [] = admL bk i := by rw [headD_getD]; exact h 0 (by simp)
    have ht : ∀ j, j < lvs.length → A.tail.getD j [] = admL (giveB bk i lv now) (i + 1 + j) := fun j hj => by
      rw [getD_tail, giveB_other _ _ _ _ (by omega), h (j + 1) (by simp; omega)]
      congr 1; omega
    obtain ⟨e1, e2⟩ := ih (i + 1) (giveB bk i lv now) A.tail (giveN bk i lv now) ht
    have hb := entB_before lvs (i + 1) (giveB bk i lv now) (giveN bk i lv now) i (by omega)
    have key : ∀ (nm : Lb) (a0 : List Lb), giveN bk i lv now = nm → admL (giveB bk i lv now) i = a0 →
        serNow (lv :: lvs) A now = nm :: serNow lvs A.tail nm → admRow (lv :: lvs) A now = a0 :: admRow lvs A.tail nm →
        entS (lv :: lvs) i bk now = serNow (lv :: lvs) A now ∧ ∀ j, j < (lv :: lvs).length → (admRow (lv :: lvs) A now).getD j [] = admL (entB (lv :: lvs) i bk now) (i + j) := by
      intro nm a0 hn ha hs hr
      rw [hs, hr]
      simp only [entS, entB]
      rw [hn] at e1 e2 hb ⊢
      refine ⟨by rw [e1], fun j hj => ?_⟩
      cases j with
      | zero => simp only [List.getD_cons_zero, Nat.add_zero]; rw [hb, ha]
      | succ j =>
        simp only [List.getD_cons_succ]
        rw [e2 j (by simpa using hj)]
        congr 1; omega
    by_cases c1 : now = over
    · refine key over (admL bk i) ?_ ?_ ?_ ?_ <;> simp [giveN, giveB, serNow, admRow, c1]
      cases A <;> simp_all
    · by_cases c2 : madeL lv.rule now ∈ admL bk i
      · refine key (madeL lv.rule now) (admL bk i) ?_ ?_ ?_ ?_
        · simp only [giveN, if_neg c1, if_pos c2]
        · simp only [giveB, if_neg c1, if_pos c2]
        · simp only [serNow, if_neg c1, h0, if_pos c2]
        · simp only [admRow, if_neg c1, h0, if_pos c2]
      · by_cases c3 : lv.limit ≤ ((admL bk i).length : Int)
        · have c3' : ¬ ((admL bk i).length : Int) < lv.limit := by omega
          refine key over (admL bk i) ?_ ?_ ?_ ?_
          · simp only [giveN, if_neg c1, if_neg c2, if_pos c3]
          · simp only [giveB, if_neg c1, if_neg c2, if_pos c3]
          · simp only [serNow, if_neg c1, h0, if_neg c2, if_neg c3']
          · simp only [admRow, if_neg c1, h0, if_neg c2, if_neg c3']
        · have c3' : ((admL bk i).length : Int) < lv.limit := by omega
          refine key (madeL lv.rule now) (admL bk i ++ [madeL lv.rule now]) ?_ ?_ ?_ ?_
          · simp only [giveN, if_neg c1, if_neg c2, if_neg c3]
          · simp only [giveB, if_neg c1, if_neg c2, if_neg c3]; rw [admL_snoc, if_pos rfl]
          · simp only [serNow, if_neg c1, h0, if_neg c2, if_pos c3']
          · simp only [admRow, if_neg c1, h0, if_neg c2, if_pos c3']

/-- What the book of a store holds. -/
def BookOk (s : St) (bk : List Ad) : Prop := (∀ j, j < s.c.lvs.length → s.adm.getD j [] = admL bk j) ∧ bk.length ≤ s.l.length * s.c.lvs.length
theorem bookOk_new (c : Cf) : BookOk (St.new c) [] := ⟨fun j _ => by simp [St.adm, St.new, admAll, admL], by simp⟩
theorem adm_wr1 (s : St) (x : Sm) : (s.wr [x]).adm = admRow s.c.lvs s.adm x.lb := by
  show admAll s.c.lvs [] (s.l ++ [x]) = _
  rw [admAll_append]
  rfl
theorem bookOk_wr1 {s : St} {bk : List Ad} (h : BookOk s bk) (x : Sm) : BookOk (s.wr [x]) (entB s.c.lvs 0 bk x.lb) ∧ entS s.c.lvs 0 bk x.lb = serNow s.c.lvs s.adm x.lb := by
  obtain ⟨e1, e2⟩ := ent_eq s.c.lvs 0 bk s.adm x.lb (fun j hj => by rw [h.1 j hj, Nat.zero_add])
  refine ⟨⟨fun j hj => ?_, ?_⟩, e1⟩
  · rw [adm_wr1, e2 j hj, Nat.zero_add]
  · have h1 := entB_len s.c.lvs 0 bk x.lb
    have h2 := h.2
    show (entB s.c.lvs 0 bk x.lb).length ≤ (s.l ++ [x]).length * s.c.lvs.length
    rw [List.length_append, Nat.add_mul]
    simp
    omega

/-! Points. -/
structure Pt where
  time : Int
  value : Int
  ser : List Lb

def ptOf (lvs : List Lv) (A : List (List Lb)) (x : Sm) : Pt := ⟨x.time, x.value, serOf lvs A x.lb⟩
def liveB (c : Cf) (now t : Int) : Bool := !decide (c.keep < c.age now t)
/-- The points of all samples whose blocks are not expired. -/
def St.pts (s : St) : List Pt := (s.l.map (ptOf s.c.lvs s.adm)).filter fun p => liveB s.c s.now p.time

theorem pts_all (s : St) : s.l.map (ptOf s.c.lvs s.adm) = (List.zip s.l (serAll s.c.lvs [] s.l)).map fun p => ⟨p.1.time, p.1.value, p.2⟩ := by
  rw [serAll_eq]
  unfold St.adm
  generalize admAll s.c.lvs [] s.l = A
  induction s.l with
  | nil => rfl
  | cons x l ih => simp [ih, ptOf]
theorem pts_wr1 (s : St) (x : Sm) (hx : liveB s.c s.now x.time = true) : (s.wr [x]).pts = s.pts ++ [⟨x.time, x.value, serNow s.c.lvs s.adm x.lb⟩] := by
  unfold St.pts
  rw [pts_all, pts_all]
  show (((List.zip (s.l ++ [x]) (serAll s.c.lvs [] (s.l ++ [x]))).map _).filter _) = _
  rw [serAll_append, List.zip_append (serAll_len _ _ _).symm]
  show List.filter (fun p : Pt => liveB s.c s.now p.time) _ = _
  rw [List.map_append, List.filter_append]
  congr 1
  simp [serAll, hx, St.adm]
theorem live_iff (c : Cf) (now t : Int) : liveB c now t = true ↔ c.age now t ≤ c.keep := by
  unfold liveB
  by_cases h : c.keep < c.age now t
  · simp [h]
  · simp [h]; omega
theorem live_mono {c : Cf} (hc : 1 ≤ c.span) {now n t : Int} (hn : 0 ≤ n) (h : liveB c (now + n) t = true) : liveB c now t = true := by
  have : now / c.span ≤ (now + n) / c.span := Int.ediv_le_ediv (by omega) (by omega)
  rw [live_iff] at h ⊢
  unfold Cf.age at h ⊢
  omega
theorem pts_tk (s : St) (hc : 1 ≤ s.c.span) {n : Int} (hn : 0 ≤ n) : (s.tk n).pts = s.pts.filter fun p => liveB s.c (s.now + n) p.time := by
  show List.filter _ (List.map (ptOf s.c.lvs s.adm) s.l) = _
  unfold St.pts
  rw [List.filter_filter]
  apply List.filter_congr
  intro p _
  show liveB s.c (s.now + n) p.time = _
  cases h : liveB s.c (s.now + n) p.time
  · simp
  · simp [live_mono hc hn h]

/-! Queries. -/
/-- A point's key in a query, and its value. -/
def kvP (c : Cf) (now : Int) (q : Qy) (p : Pt) : Option (Key × Int) := if inQ q p.time then (grpOf q (p.ser.getD (c.lvl now p.time) over)).map fun g => (⟨stepOf q p.time, g.a, g.b, g.c⟩, p.value) else none
theorem inQ_live {c : Cf} (hc : 1 ≤ c.span) {now : Int} {q : Qy} (h : ¬ c.keep < c.age now q.fr) {t : Int} (ht : inQ q t = true) : liveB c now t = true := by
  simp [inQ] at ht
  have : q.fr / c.span ≤ t / c.span := Int.ediv_le_ediv (by omega) (by omega)
  rw [live_iff]
  unfold Cf.age at h ⊢
  omega
theorem kv_pts (s : St) (hc : 1 ≤ s.c.span) (q : Qy) (h : ¬ s.c.keep < s.c.age s.now q.fr) : kvOf q s.at s.l = s.pts.filterMap (kvP s.c s.now q) := by
  unfold kvOf St.pts
  have e : ∀ l : List Sm, l.filterMap (kv1 q s.at) = ((l.map (ptOf s.c.lvs s.adm)).filter fun p => liveB s.c s.now p.time).filterMap (kvP s.c s.now q) := by
    intro l
    induction l with
    | nil => rfl
    | cons x l ih =>
      have e1 : kv1 q s.at x = kvP s.c s.now q (ptOf s.c.lvs s.adm x) := rfl
      rw [List.filterMap_cons, List.map_cons, List.filter_cons, ih, e1]
      by_cases hl : liveB s.c s.now (ptOf s.c.lvs s.adm x).time = true
      · rw [if_pos hl, List.filterMap_cons]
      · rw [if_neg hl]
        have hi : inQ q x.time = false := by
          cases hq : inQ q x.time
          · rfl
          · exact absurd (inQ_live hc h hq) hl
        have : kvP s.c s.now q (ptOf s.c.lvs s.adm x) = none := by simp [kvP, ptOf, hi]
        rw [this]
  exact e s.l

/-! The error of a query by the level of its first block alone. -/
theorem lvlTo_mono (lvs : List Lv) {a a' : Int} (h : a ≤ a') : ∀ k, lvlTo lvs a k ≤ lvlTo lvs a' k := by
  intro k
  induction k with
  | zero => simp [lvlTo]
  | succ k ih =>
    unfold lvlTo
    by_cases h1 : 1 ≤ k ∧ (lvG lvs k).age ≤ a
    · rw [if_pos h1, if_pos ⟨h1.1, by omega⟩]; exact Nat.le_refl _
    · rw [if_neg h1]
      by_cases h2 : 1 ≤ k ∧ (lvG lvs k).age ≤ a'
      · rw [if_pos h2]
        by_cases hk : 1 ≤ k
        · have := lvlTo_lt lvs a k hk; omega
        · omega
      · rw [if_neg h2]; exact ih
theorem age_block {c : Cf} (hc : 1 ≤ c.span) (now b : Int) : c.age now (b * c.span) = now / c.span - b := by
  unfold Cf.age
  rw [Int.mul_ediv_cancel _ (by omega)]
theorem lvl_block {c : Cf} (hc : 1 ≤ c.span) (now t : Int) : c.lvl now (t / c.span * c.span) = c.lvl now t := by
  unfold Cf.lvl
  rw [age_block hc]
  rfl
theorem lvl_later {c : Cf} (hc : 1 ≤ c.span) (now b b' : Int) (h : b ≤ b') : c.lvl now (b' * c.span) ≤ c.lvl now (b * c.span) := by
  unfold Cf.lvl
  rw [age_block hc, age_block hc]
  exact lvlTo_mono _ (by omega) _
theorem win_dvd {c : Cf} (hc : c.right = true) : ∀ j i, i ≤ j → j < c.lvs.length → (lvG c.lvs i).window ∣ (lvG c.lvs j).window := by
  have hw : winsB c.lvs c.span = true := by
    simp only [Cf.right, rightB, Bool.and_eq_true] at hc
    exact hc.1.2
  intro j
  induction j with
  | zero => intro i hi _; have : i = 0 := by omega
            subst this; exact Int.dvd_refl _
  | succ j ih =>
    intro i hi hj
    by_cases h : i = j + 1
    · subst h; exact Int.dvd_refl _
    · have h1 := ih i (by omega) (by omega)
      have h2 := ((okWin_iff _ _ _).1 (List.all_eq_true.1 hw (j + 1) (List.mem_range.2 hj))).2.1
      rw [ahd_succ] at h2
      exact Int.dvd_trans h1 (Int.dvd_of_emod_eq_zero h2)
theorem blocks_any {c : Cf} {q : Qy} (hc : 1 ≤ c.span) (hq : q.fr < q.to) (p : Int → Bool) (hp : ∀ b, q.fr / c.span ≤ b → p b = true → p (q.fr / c.span) = true) : (blocks c q).any p = p (q.fr / c.span) := by
  have hd : q.fr / c.span ≤ (q.to - 1) / c.span := Int.ediv_le_ediv (by omega) (by omega)
  rw [Bool.eq_iff_iff, List.any_eq_true]
  constructor
  · rintro ⟨b, hb, h⟩
    unfold blocks at hb
    obtain ⟨i, _, rfl⟩ := List.mem_map.1 hb
    exact hp _ (by omega) h
  · intro h
    refine ⟨q.fr / c.span, ?_, h⟩
    unfold blocks
    exact List.mem_map.2 ⟨0, List.mem_range.2 (by omega), by simp⟩
def lostL (lvs : List Lv) (q : Qy) (n : Nat) : Bool := (List.range n).any fun j => lostB q (lvG lvs j)
theorem lost_first {c : Cf} {q : Qy} {now : Int} (hc : 1 ≤ c.span) (hq : q.fr < q.to) : (blocks c q).any (lostAt c now q) = lostL c.lvs q (c.lvl now q.fr + 1) := by
  rw [blocks_any hc hq]
  · unfold lostAt lostL; rw [lvl_block hc]
  · intro b hb h
    have hl := lvl_later hc now _ _ hb
    unfold lostAt at h ⊢
    rw [List.any_eq_true] at h ⊢
    obtain ⟨j, hj, h⟩ := h
    exact ⟨j, List.mem_range.2 (by have := List.mem_range.1 hj; omega), h⟩
def fitB (lv : Lv) (q : Qy) : Bool := decide (q.fr % lv.window = 0) && decide (q.step % lv.window = 0)
theorem win_first {c : Cf} {q : Qy} {now : Int} (hc : c.right = true) (hq : q.fr < q.to) : (blocks c q).any (winAt c now q) = !fitB (lvG c.lvs (c.lvl now q.fr)) q := by
  obtain ⟨h1, _⟩ := Cf.right_parts hc
  rw [blocks_any h1 hq]
  · unfold winAt fitB
    rw [lvl_block h1, Bool.eq_iff_iff]
    simp
  · intro b hb h
    have hl := lvl_later h1 now _ _ hb
    have hd := win_dvd hc _ _ hl (Cf.lvl_lt hc now _)
    unfold winAt at h ⊢
    simp at h ⊢
    have e : ∀ x : Int, x % (lvG c.lvs (c.lvl now (q.fr / c.span * c.span))).window = 0 → x % (lvG c.lvs (c.lvl now (b * c.span))).window = 0 := fun x hx =>
      Int.emod_eq_zero_of_dvd (Int.dvd_trans hd (Int.dvd_of_emod_eq_zero hx))
    rcases h with h | h
    · exact .inl fun x => h (e _ x)
    · exact .inr fun x => h (e _ x)
/-- The error of a query, as the program tells it. -/
theorem qE_eq {c : Cf} {q : Qy} {now : Int} (hc : c.right = true) : qE c now q = if rightQ q = false then 9 else if c.keep < c.age now q.fr then 10 else if lostL c.lvs q (c.lvl now q.fr + 1) then 11 else if fitB (lvG c.lvs (c.lvl now q.fr)) q = false then 12 else 0 := by
  obtain ⟨h1, _⟩ := Cf.right_parts hc
  unfold qE
  by_cases hr : rightQ q = false
  · rw [if_pos hr, if_pos hr]
  · rw [if_neg hr, if_neg hr]
    have hq : q.fr < q.to := by
      have : rightQ q = true := by simpa using hr
      simp only [rightQ, Bool.and_eq_true, decide_eq_true_eq] at this
      exact this.1.1.1.1.1.1.1.1.2
    rw [lost_first h1 hq, win_first hc hq]
    cases fitB (lvG c.lvs (c.lvl now q.fr)) q <;> simp

end Go.Proofs.Ythciddpljcbhiaa
