/- The document's store, plainly: a configuration, the time, all samples that were accepted; what a query tells (no program). -/
import Derived.Test.YthciddpljcbhiaaJoin
import Derived.Test.YthciddpljcbhiaaSer
namespace Go.Proofs.Ythciddpljcbhiaa

structure Cf where
  span : Int
  keep : Int
  lvs : List Lv

/-- A store: its configuration, the time, all samples that were accepted, in their order. -/
structure St where
  c : Cf
  now : Int
  l : List Sm

def Cf.right (c : Cf) : Bool := rightB c.span c.keep c.lvs
/-- The age of the block of a time. -/
def Cf.age (c : Cf) (now t : Int) : Int := now / c.span - t / c.span
/-- The last level whose age is at most this one. -/
def lvlTo (lvs : List Lv) (a : Int) : Nat → Nat
  | 0 => 0
  | k + 1 => if 1 ≤ k ∧ (lvG lvs k).age ≤ a then k else lvlTo lvs a k
def Cf.lvl (c : Cf) (now t : Int) : Nat := lvlTo c.lvs (c.age now t) c.lvs.length
theorem lvlTo_lt (lvs : List Lv) (a : Int) : ∀ k, 1 ≤ k → lvlTo lvs a k < k := by
  intro k
  induction k with
  | zero => intro h; omega
  | succ k ih =>
    intro _
    unfold lvlTo
    split
    · omega
    · by_cases hk : 1 ≤ k
      · have := ih hk; omega
      · have : k = 0 := by omega
        subst this
        simp [lvlTo]

def St.adm (s : St) : List (List Lb) := admAll s.c.lvs [] s.l
/-- The series of a sample at a level. -/
def St.ser (s : St) (x : Sm) (j : Nat) : Lb := (serOf s.c.lvs s.adm x.lb).getD j over

def tkE (s : St) (n : Int) : Int := if n < 1 ∨ 1000 < n ∨ 100000 < s.now + n then 8 else 0
def St.tk (s : St) (n : Int) : St := { s with now := s.now + n }
def lateB (s : St) (x : Sm) : Bool := decide (s.now < x.time) || decide (s.c.keep < s.c.age s.now x.time)
def wrE (s : St) (b : List Sm) : Int := if batE b ≠ 0 then batE b else if b.any (lateB s) then 6 else if 500 < s.l.length + b.length then 7 else 0
def St.wr (s : St) (b : List Sm) : St := { s with l := s.l ++ b }
def St.new (c : Cf) : St := ⟨c, 0, []⟩

/-- A query. -/
structure Qy where
  fr : Int
  to : Int
  step : Int
  mt : ByteArray
  gb : ByteArray

def mB (m : Int) : Bool := letB m || m == 46 || m == 45
def bB (b : Int) : Bool := b == 48 || b == 49
def rightQ (q : Qy) : Bool :=
  decide (0 ≤ q.fr) && decide (q.fr < q.to) && decide (q.to ≤ 100100) && decide (1 ≤ q.step) && decide (q.mt.size = 3) && decide (q.gb.size = 3) && decide ((q.to - q.fr) % q.step = 0) && decide ((q.to - q.fr) / q.step ≤ 20) &&
  (mB (byt q.mt 0) && mB (byt q.mt 1) && mB (byt q.mt 2)) && (bB (byt q.gb 0) && bB (byt q.gb 1) && bB (byt q.gb 2))
/-- Does the query name the key? -/
def namedB (q : Qy) (i : Nat) : Bool := (byt q.mt i != 46) || (byt q.gb i == 49)
def lostK (q : Qy) (lv : Lv) (i : Nat) : Bool := namedB q i && (byt lv.rule i != 107)
def lostB (q : Qy) (lv : Lv) : Bool := lostK q lv 0 || lostK q lv 1 || lostK q lv 2
/-- The blocks that are asked for. -/
def blocks (c : Cf) (q : Qy) : List Int := (List.range ((q.to - 1) / c.span - q.fr / c.span + 1).toNat).map fun i => q.fr / c.span + (i : Nat)
def lostAt (c : Cf) (now : Int) (q : Qy) (b : Int) : Bool := (List.range (c.lvl now (b * c.span) + 1)).any fun j => lostB q (lvG c.lvs j)
def winAt (c : Cf) (now : Int) (q : Qy) (b : Int) : Bool := (q.fr % (lvG c.lvs (c.lvl now (b * c.span))).window != 0) || (q.step % (lvG c.lvs (c.lvl now (b * c.span))).window != 0)
/-- The error of a query. -/
def qE (c : Cf) (now : Int) (q : Qy) : Int :=
  if rightQ q = false then 9 else if c.keep < c.age now q.fr then 10 else if (blocks c q).any (lostAt c now q) then 11 else if (blocks c q).any (winAt c now q) then 12 else 0

def mOk (m x : Int) : Bool := m == 46 || m == x
def gB (b x : Int) : Int := if b = 49 then x else 46
/-- The group of a series, if it is of one. -/
def grpOf (q : Qy) (s : Lb) : Option Lb :=
  if s = over then some over
  else if mOk (byt q.mt 0) s.a && mOk (byt q.mt 1) s.b && mOk (byt q.mt 2) s.c then some ⟨gB (byt q.gb 0) s.a, gB (byt q.gb 1) s.b, gB (byt q.gb 2) s.c⟩ else none
def inQ (q : Qy) (t : Int) : Bool := decide (q.fr ≤ t) && decide (t < q.to)
def stepOf (q : Qy) (t : Int) : Int := (t - q.fr) / q.step
/-- A sample's key in a query, and its value. -/
def kv1 (q : Qy) (ser : Sm → Lb) (x : Sm) : Option (Key × Int) := if inQ q x.time then (grpOf q (ser x)).map fun g => (⟨stepOf q x.time, g.a, g.b, g.c⟩, x.value) else none
def kvOf (q : Qy) (ser : Sm → Lb) (l : List Sm) : List (Key × Int) := l.filterMap (kv1 q ser)
/-- A sample's series at the level of its block. -/
def St.at (s : St) (x : Sm) : Lb := s.ser x (s.c.lvl s.now x.time)
def rowsOf (kv : List (Key × Int)) : List Rw := kv.foldl (fun l p => addR l p.1 p.2) []
/-- The rows of a query. -/
def St.rows (s : St) (q : Qy) : List Rw := rowsOf (kvOf q s.at s.l)

theorem isRows_fold (kv : List (Key × Int)) : ∀ l kv0, IsRows l kv0 → IsRows (kv.foldl (fun l p => addR l p.1 p.2) l) (kv0 ++ kv) := by
  induction kv with
  | nil => intro l kv0 h; simpa using h
  | cons p kv ih =>
    intro l kv0 h
    have := ih _ _ (h.add p.1 p.2)
    simpa using this
theorem rowsOf_is (kv : List (Key × Int)) : IsRows (rowsOf kv) kv := by
  have := isRows_fold kv [] [] isRows_nil
  rw [List.nil_append] at this
  exact this
theorem rowsOf_snoc (kv : List (Key × Int)) (p : Key × Int) : rowsOf (kv ++ [p]) = addR (rowsOf kv) p.1 p.2 := by simp [rowsOf]
theorem kvOf_append (q : Qy) (ser : Sm → Lb) (a b : List Sm) : kvOf q ser (a ++ b) = kvOf q ser a ++ kvOf q ser b := by simp [kvOf]

/-- Where the query names no key by Match, every sample of its time has a group. -/
def anyM (q : Qy) : Prop := byt q.mt 0 = 46 ∧ byt q.mt 1 = 46 ∧ byt q.mt 2 = 46
theorem grpOf_any {q : Qy} (h : anyM q) (s : Lb) : ∃ g, grpOf q s = some g := by
  obtain ⟨h0, h1, h2⟩ := h
  unfold grpOf
  split
  · exact ⟨_, rfl⟩
  · exact ⟨_, by simp [mOk, h0, h1, h2]; rfl⟩
/-- The values of a step: those of all samples of that time. -/
def stepVals (q : Qy) (l : List Sm) (p : Int → Bool) : List Int := (l.filter fun x => inQ q x.time && p (stepOf q x.time)).map (·.value)
theorem kv_step {q : Qy} (h : anyM q) (ser : Sm → Lb) (p : Int → Bool) (l : List Sm) : valsIf (fun k => p k.st) (kvOf q ser l) = stepVals q l p := by
  induction l with
  | nil => rfl
  | cons x l ih =>
    unfold kvOf stepVals at *
    rw [List.filterMap_cons, List.filter_cons]
    by_cases hx : inQ q x.time = true
    · obtain ⟨g, hg⟩ := grpOf_any h (ser x)
      have e : kv1 q ser x = some (⟨stepOf q x.time, g.a, g.b, g.c⟩, x.value) := by unfold kv1; rw [if_pos hx, hg]; rfl
      rw [e]
      simp only [valsIf_cons, hx, Bool.true_and]
      cases hp : p (stepOf q x.time) <;> simp [ih]
    · have e : kv1 q ser x = none := by unfold kv1; rw [if_neg hx]
      have hx' : inQ q x.time = false := by simpa using hx
      rw [e]
      simp only [hx', Bool.false_and]
      simpa using ih
/-- TOLD: the rows of a step, put together, are all samples of that time, whatever the series are. -/
theorem rows_step (s : St) {q : Qy} (h : anyM q) (i : Int) : agRows ((s.rows q).filter fun r => decide (r.key.st = i)) = agOf (stepVals q s.l fun j => decide (j = i)) := by
  have := (rowsOf_is (kvOf q s.at s.l)).joined (fun k => decide (k.st = i))
  rw [kv_step h s.at (fun j => decide (j = i)) s.l] at this
  exact this
/-- The steps of the rows. -/
theorem kv_mem {q : Qy} {ser : Sm → Lb} {l : List Sm} {p : Key × Int} (h : p ∈ kvOf q ser l) : ∃ x ∈ l, inQ q x.time = true ∧ ∃ g, grpOf q (ser x) = some g ∧ p = (⟨stepOf q x.time, g.a, g.b, g.c⟩, x.value) := by
  obtain ⟨x, hx, e⟩ := List.mem_filterMap.1 h
  unfold kv1 at e
  by_cases hi : inQ q x.time = true
  · rw [if_pos hi] at e
    cases hg : grpOf q (ser x) with
    | none => rw [hg] at e; cases e
    | some g => rw [hg] at e; exact ⟨x, hx, hi, g, hg, (Option.some.inj e).symm⟩
  · rw [if_neg hi] at e; cases e
theorem IsRows.mem {l : List Rw} {kv : List (Key × Int)} (h : IsRows l kv) {r : Rw} (hr : r ∈ l) : ∃ p ∈ kv, p.1 = r.key := by
  have := h.ag r hr
  cases hv : valsOf kv r.key with
  | nil => rw [hv] at this; cases this
  | cons v vs =>
    have hm : v ∈ valsOf kv r.key := by rw [hv]; simp
    unfold valsOf at hm
    obtain ⟨p, hp, _⟩ := List.mem_map.1 hm
    obtain ⟨h1, h2⟩ := List.mem_filter.1 hp
    exact ⟨p, h1, of_decide_eq_true h2⟩
theorem rows_mem (s : St) {q : Qy} {r : Rw} (hr : r ∈ s.rows q) : ∃ x ∈ s.l, inQ q x.time = true ∧ r.key.st = stepOf q x.time ∧ ∃ g, grpOf q (s.at x) = some g ∧ r.key.g0 = g.a ∧ r.key.g1 = g.b ∧ r.key.g2 = g.c := by
  obtain ⟨p, hp, e⟩ := (rowsOf_is (kvOf q s.at s.l)).mem hr
  obtain ⟨x, hx, hi, g, hg, rfl⟩ := kv_mem hp
  exact ⟨x, hx, hi, by rw [← e], g, hg, by rw [← e], by rw [← e], by rw [← e]⟩
theorem rows_cnt (s : St) {q : Qy} {r : Rw} (hr : r ∈ s.rows q) : 1 ≤ r.ag.cnt ∧ r.ag.mn ≤ r.ag.mx := agOf_cnt _ _ ((rowsOf_is (kvOf q s.at s.l)).ag r hr)
theorem step_range {q : Qy} {t n : Int} (hs : 1 ≤ q.step) (hn : q.to - q.fr = n * q.step) (h : inQ q t = true) : 0 ≤ stepOf q t ∧ stepOf q t < n := by
  simp only [inQ, Bool.and_eq_true, decide_eq_true_eq] at h
  unfold stepOf
  refine ⟨Int.ediv_nonneg (by omega) (by omega), ?_⟩
  rw [Int.ediv_lt_iff_lt_mul (by omega)]
  omega

end Go.Proofs.Ythciddpljcbhiaa
