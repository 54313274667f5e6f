/- Texts of one claim put together: Srm, Lvr, Srw, Plo, Kpb, Stq, Cnt, Cts, Clp, Srx, Crm, Crw, Szs. -/
import Derived.Test.YthciddpljcbhiaaGreatDoorB3
import Derived.Test.YthciddpljcbhiaaGreatDoorA
import Derived.Test.YthciddpljcbhiaaGreatDoorB1
import Derived.BigQuiet
import Derived.Deep.DrawnRows
import Derived.Deep.OwnRows
import Derived.Deep.RegionHeld3
import Derived.Test.YthciddpljcbhiaaGreatDoorB4

/- The document's series in memory: what is admitted, the rows so far; and a sample's way through the levels (no program). -/
namespace Go.Proofs.YthciddpljcbhiaaGreatDoor
open Go Go.RowKit Go.Lib

/-! A sample's way through the levels. -/
def aG (L : List (List Lb)) (j : Nat) : List Lb := L.getD j []
theorem aG_set (L : List (List Lb)) (i : Nat) (a : List Lb) (j : Nat) (hi : i < L.length) : aG (L.set i a) j = if i = j then a else aG L j := by
  unfold aG
  simp only [List.getD, List.getElem?_set]
  by_cases h : i = j
  · subst h; simp [hi]
  · simp [h]
/-- One level: what is admitted behind it, and what comes of the labels. -/
def stpA (lv : Lv) (adm : List Lb) (now : Lb) : List Lb := if now = over then adm else if madeL lv.rule now ∈ adm then adm else if ((adm.length : Nat) : Int) < lv.limit then adm ++ [madeL lv.rule now] else adm
def stpN (lv : Lv) (adm : List Lb) (now : Lb) : Lb := if now = over then over else if madeL lv.rule now ∈ adm then madeL lv.rule now else if ((adm.length : Nat) : Int) < lv.limit then madeL lv.rule now else over
def runA (lvs : List Lv) (A : List (List Lb)) (now : Lb) : Nat → List (List Lb) × Lb × List Lb
  | 0 => (A, now, [])
  | j + 1 => ((runA lvs A now j).1.set j (stpA (lvG lvs j) (aG (runA lvs A now j).1 j) (runA lvs A now j).2.1), stpN (lvG lvs j) (aG (runA lvs A now j).1 j) (runA lvs A now j).2.1, (runA lvs A now j).2.2 ++ [stpN (lvG lvs j) (aG (runA lvs A now j).1 j) (runA lvs A now j).2.1])
theorem runA_len (lvs : List Lv) (A : List (List Lb)) (now : Lb) : ∀ j, (runA lvs A now j).1.length = A.length ∧ (runA lvs A now j).2.2.length = j
  | 0 => ⟨rfl, rfl⟩
  | j + 1 => by
    obtain ⟨h1, h2⟩ := runA_len lvs A now j
    refine ⟨?_, ?_⟩
    · simp only [runA, List.length_set]; exact h1
    · simp only [runA, List.length_append, h2]; rfl
theorem runA_drop (lvs : List Lv) (A : List (List Lb)) (now : Lb) : ∀ j, (runA lvs A now j).1.drop j = A.drop j
  | 0 => rfl
  | j + 1 => by
    have h := runA_drop lvs A now j
    simp only [runA]
    rw [List.drop_set_of_lt (by omega)]
    have e : ∀ X : List (List Lb), X.drop (j + 1) = (X.drop j).drop 1 := fun X => by rw [List.drop_drop]
    rw [e, h, ← e]
theorem aG_drop (A : List (List Lb)) (j : Nat) : (A.drop j).headD [] = aG A j := by
  unfold aG
  rw [List.headD_eq_head?_getD, List.head?_drop]
  rfl
theorem runA_at (lvs : List Lv) (A : List (List Lb)) (now : Lb) (j : Nat) : aG (runA lvs A now j).1 j = aG A j := by
  rw [← aG_drop, runA_drop, aG_drop]
theorem drop_lv2 (lvs : List Lv) (j : Nat) (h : j < lvs.length) : lvs.drop j = lvG lvs j :: lvs.drop (j + 1) := by
  rw [lvG_get lvs j h]
  exact List.drop_eq_getElem_cons h
theorem admRow_cons (lv : Lv) (lvs : List Lv) (A : List (List Lb)) (now : Lb) : admRow (lv :: lvs) A now = if now = over then A.headD [] :: admRow lvs A.tail over else if madeL lv.rule now ∈ A.headD [] then A.headD [] :: admRow lvs A.tail (madeL lv.rule now)
    else if ((A.headD []).length : Int) < lv.limit then (A.headD [] ++ [madeL lv.rule now]) :: admRow lvs A.tail (madeL lv.rule now) else A.headD [] :: admRow lvs A.tail over := rfl
theorem serNow_cons (lv : Lv) (lvs : List Lv) (A : List (List Lb)) (now : Lb) : serNow (lv :: lvs) A now = if now = over then over :: serNow lvs A.tail over else if madeL lv.rule now ∈ A.headD [] then madeL lv.rule now :: serNow lvs A.tail (madeL lv.rule now)
    else if ((A.headD []).length : Int) < lv.limit then madeL lv.rule now :: serNow lvs A.tail (madeL lv.rule now) else over :: serNow lvs A.tail over := rfl
/-- The way is the document's. -/
theorem runA_row (lvs : List Lv) (A : List (List Lb)) (now : Lb) (hA : A.length = lvs.length) : ∀ j, j ≤ lvs.length →
    admRow lvs A now = (runA lvs A now j).1.take j ++ admRow (lvs.drop j) (A.drop j) (runA lvs A now j).2.1 ∧ serNow lvs A now = (runA lvs A now j).2.2 ++ serNow (lvs.drop j) (A.drop j) (runA lvs A now j).2.1
  | 0, _ => by simp [runA]
  | j + 1, h => by
    obtain ⟨h1, h2⟩ := runA_row lvs A now hA j (by omega)
    have hl := (runA_len lvs A now j).1
    have hat := runA_at lvs A now j
    have ht : ∀ a, ((runA lvs A now j).1.set j a).take (j + 1) = (runA lvs A now j).1.take j ++ [a] := fun a => by
      rw [List.take_succ_eq_append_getElem (by rw [List.length_set]; omega), List.take_set_of_le (Nat.le_refl _)]
      simp
    rw [drop_lv2 lvs j (by omega)] at h1 h2
    have htl : (A.drop j).tail = A.drop (j + 1) := by rw [List.tail_drop]
    rw [admRow_cons] at h1
    rw [serNow_cons] at h2
    rw [aG_drop, htl] at h1 h2
    rw [h1, h2]
    show _ = ((runA lvs A now j).1.set j (stpA (lvG lvs j) (aG (runA lvs A now j).1 j) (runA lvs A now j).2.1)).take (j + 1) ++ admRow (lvs.drop (j + 1)) (A.drop (j + 1)) (stpN (lvG lvs j) (aG (runA lvs A now j).1 j) (runA lvs A now j).2.1) ∧ _ = ((runA lvs A now j).2.2 ++ [stpN (lvG lvs j) (aG (runA lvs A now j).1 j) (runA lvs A now j).2.1]) ++ serNow (lvs.drop (j + 1)) (A.drop (j + 1)) (stpN (lvG lvs j) (aG (runA lvs A now j).1 j) (runA lvs A now j).2.1)
    rw [ht, hat]
    unfold stpA stpN
    by_cases c1 : (runA lvs A now j).2.1 = over
    · simp only [if_pos c1]
      simp
    · simp only [if_neg c1]
      by_cases c2 : madeL (lvG lvs j).rule (runA lvs A now j).2.1 ∈ aG A j
      · simp only [if_pos c2]
        simp
      · simp only [if_neg c2]
        by_cases c3 : (((aG A j).length : Nat) : Int) < (lvG lvs j).limit
        · simp only [if_pos c3]
          simp
        · simp only [if_neg c3]
          simp
theorem runA_all (lvs : List Lv) (A : List (List Lb)) (now : Lb) (hA : A.length = lvs.length) : (runA lvs A now lvs.length).1 = admRow lvs A now ∧ (runA lvs A now lvs.length).2.2 = serNow lvs A now := by
  obtain ⟨h1, h2⟩ := runA_row lvs A now hA lvs.length (Nat.le_refl _)
  have hl := (runA_len lvs A now lvs.length).1
  rw [List.drop_length] at h1 h2
  refine ⟨?_, ?_⟩
  · rw [h1]
    simp only [admRow, List.append_nil]
    rw [List.take_of_length_le (by omega)]
  · rw [h2]
    simp only [serNow, List.append_nil]
/-- Labels on their way are labels, or what was not admitted. -/
theorem runA_ok (lvs : List Lv) (A : List (List Lb)) (now : Lb) (hn : okS now) : ∀ j, okS (runA lvs A now j).2.1
  | 0 => hn
  | j + 1 => by
    have h := runA_ok lvs A now hn j
    show okS (stpN _ _ _)
    unfold stpN
    by_cases c1 : (runA lvs A now j).2.1 = over
    · rw [if_pos c1]; exact .inl rfl
    · rw [if_neg c1]
      have hm := madeL_lab (r := (lvG lvs j).rule) (h.resolve_left c1)
      split
      · exact .inr hm
      · split
        · exact .inr hm
        · exact .inl rfl
/-- All bounds hold on the way: no level has more than its limit. -/
def Fits (lvs : List Lv) (A : List (List Lb)) : Prop := ∀ j, j < lvs.length → (((aG A j).length : Nat) : Int) ≤ (lvG lvs j).limit
theorem stpA_len (lv : Lv) (adm : List Lb) (now : Lb) (h : (adm.length : Int) ≤ lv.limit) : ((stpA lv adm now).length : Int) ≤ lv.limit := by
  unfold stpA
  split
  · exact h
  · split
    · exact h
    · split
      · simp; omega
      · exact h
theorem runA_fits (lvs : List Lv) (A : List (List Lb)) (now : Lb) (hA : A.length = lvs.length) (h : Fits lvs A) : ∀ j, j ≤ lvs.length → Fits lvs (runA lvs A now j).1
  | 0, _ => h
  | j + 1, hj => by
    have h1 := runA_fits lvs A now hA h j (by omega)
    have hl := (runA_len lvs A now j).1
    intro i hi
    show (((aG ((runA lvs A now j).1.set j _) i).length : Nat) : Int) ≤ _
    rw [aG_set _ _ _ _ (by omega)]
    split
    · next e => subst e; exact stpA_len _ _ _ (h1 j hi)
    · exact h1 i hi

/-! In memory. -/
def flatL (l : List Lb) : List Value := l.flatMap lbC
theorem lbC_len (l : Lb) : (lbC l).length = 3 := rfl
theorem flatL_len (l : List Lb) : (flatL l).length = l.length * 3 := flat_length lbC 3 lbC_len l
theorem flatL_snoc (l : List Lb) (x : Lb) : flatL (l ++ [x]) = flatL l ++ lbC x := by simp [flatL]
def vG (vs : List Value) (j : Nat) : Value := vs.getD j (.slice none 0 0)
theorem vG_get (vs : List Value) (j : Nat) (h : j < vs.length) : vs[j]? = some (vG vs j) := by simp [vG, List.getD, h]
theorem vG_set (vs : List Value) (i : Nat) (v : Value) (j : Nat) (hi : i < vs.length) : vG (vs.set i v) j = if i = j then v else vG vs j := by
  unfold vG
  simp only [List.getD, List.getElem?_set]
  by_cases h : i = j
  · subst h; simp [hi]
  · simp [h]
/-- Whose a block is: 1 the row of what is admitted, 10 + j its lists; 2 the row of rows, 3 the rows in it; 4 the row that is being made, 5 the labels' box. -/
structure SrS (w : World) (base : Nat) (ow : Nat → Nat) (G : Nat) (vs : List Value) (L : List (List Lb)) (ov : Value) (rs : List Value) (S : List (List Lb)) (n : Nat) : Prop where
  out : ∀ k, w.heap.size ≤ k → ow k = 0
  low : ∀ k, k < base → ow k = 0
  bas : base ≤ w.heap.size
  blk : w.heap[G]? = some (.cells vs.toArray 144 (0, 0))
  lv : vs.length = n
  lL : L.length = n
  oG : ow G = 1
  adm : ∀ j, j < n → w.ownsRow 0 42 3 (vG vs j) (aG L j).length (flatL (aG L j))
  oA : ∀ j, j < n → ∀ k, (vG vs j).ownBlock = some k → ow k = 10 + j
  orow : w.ownsRow 0 144 1 ov rs.length rs
  oO : ∀ k, ov.ownBlock = some k → ow k = 2
  lS : rs.length = S.length
  row : ∀ i, i < rs.length → ∃ b cap, vG rs i = .slice (some ⟨b, 0, none⟩) n cap ∧ ow b = 3 ∧ At w b 0 (flatL (aG S i)) ∧ (aG S i).length = n

section
variable {w w' : World} {base : Nat} {ow : Nat → Nat} {G : Nat} {vs : List Value} {L : List (List Lb)} {ov : Value} {rs : List Value} {S : List (List Lb)} {n : Nat}
theorem SrS.Glt (h : SrS w base ow G vs L ov rs S n) : G < w.heap.size := (Array.getElem?_eq_some_iff.1 h.blk).1
theorem SrS.keepTo (h : SrS w base ow G vs L ov rs S n) {T : Nat → Prop} (hf : Fr T w w') {ow' : Nat → Nat} (hT : ∀ k, T k → ow k = 0 ∨ ow k = 4 ∨ ow k = 5) (hout : ∀ k, w'.heap.size ≤ k → ow' k = 0) (hlow : ∀ k, k < base → ow' k = 0) (hsame : ∀ k, ow k ≠ 0 → ow k ≠ 4 → ow k ≠ 5 → ow' k = ow k) : SrS w' base ow' G vs L ov rs S n where
  out := hout
  low := hlow
  bas := Nat.le_trans h.bas hf.size
  blk := by rw [hf.block G h.Glt (fun e => by have := hT G e; have := h.oG; omega)]; exact h.blk
  lv := h.lv
  lL := h.lL
  oG := by rw [hsame G (by rw [h.oG]; omega) (by rw [h.oG]; omega) (by rw [h.oG]; omega)]; exact h.oG
  adm := fun j hj => owns_fr (h.adm j hj) hf (fun k e e' => by have := h.oA j hj k e; have := hT k e'; omega)
  oA := fun j hj k e => by have h1 := h.oA j hj k e; rw [hsame k (by omega) (by omega) (by omega)]; exact h1
  orow := owns_fr h.orow hf (fun k e e' => by have := h.oO k e; have := hT k e'; omega)
  oO := fun k e => by have h1 := h.oO k e; rw [hsame k (by omega) (by omega) (by omega)]; exact h1
  lS := h.lS
  row := fun i hi => by
    obtain ⟨b, cap, e1, e2, e3, e4⟩ := h.row i hi
    exact ⟨b, cap, e1, by rw [hsame b (by omega) (by omega) (by omega)]; exact e2, e3.fr hf (fun e => by have := hT b e; omega), e4⟩
theorem SrS.below (h : SrS w base ow G vs L ov rs S n) (hb : Below w.heap.size w w') : SrS w' base ow G vs L ov rs S n :=
  h.keepTo (T := fun _ => False) (Fr.of_below hb) (fun _ e => e.elim) (fun k hk => h.out k (Nat.le_trans hb.size hk)) h.low (fun _ _ _ _ => rfl)
/-- The row that is being made, or the box, grows or is written. -/
theorem SrS.other (h : SrS w base ow G vs L ov rs S n) {t : Nat} (ht : t = 4 ∨ t = 5) (hf : Fr (fun k => ow k = t) w w') : SrS w' base (upd ow w w' t) G vs L ov rs S n :=
  h.keepTo hf (fun k e => by have e' : ow k = t := e; omega) (upd_out h.out hf.size) (upd_low h.bas h.low) (fun k h0 _ _ => upd_old _ _ h.out h0 rfl)
/-- One more is admitted at a level. -/
theorem SrS.more (h : SrS w base ow G vs L ov rs S n) {W w3 : World} {j : Nat} (hj : j < n) {v' : Value} {m : Lb} (hb : Below w.heap.size w W) (hg : W.grownBy w3 (vG vs j).ownBlock) (ho : w3.ownsRow 0 42 3 v' ((aG L j).length + 1) (flatL (aG L j) ++ lbC m))
    (hk : v'.ownBlock = (vG vs j).ownBlock ∨ ∀ k, v'.ownBlock = some k → W.heap.size ≤ k) :
    SrS (w3.setCell ⟨G, j, none⟩ v') base (upd ow W w3 (10 + j)) G (vs.set j v') (L.set j (aG L j ++ [m])) ov rs S n ∧ Fr (fun k => ow k = 1 ∨ ow k = 10 + j) w (w3.setCell ⟨G, j, none⟩ v') := by
  have hs3 : (w3.setCell ⟨G, j, none⟩ v').heap.size = w3.heap.size := by simp [World.setCell]
  have hWs := hb.size
  have h3s := hg.size
  have hout : ∀ k, W.heap.size ≤ k → ow k = 0 := fun k hk => h.out k (by omega)
  have hf : Fr (fun k => ow k = 1 ∨ ow k = 10 + j) w (w3.setCell ⟨G, j, none⟩ v') := ((Fr.of_below hb).grown hg (fun k e => .inl (.inr (h.oA j hj k e)))).setCell (.inl (.inl h.oG)) _
  have hGv : (vG vs j).ownBlock ≠ some G := fun e => by have h1 := h.oA j hj G e; have h2 := h.oG; omega
  have hGv' : v'.ownBlock ≠ some G := fun e => by
    rcases hk with hk | hk
    · rw [hk] at e; exact hGv e
    · have h1 := hk G e; have h2 := h.Glt; omega
  have hold : ∀ k i, i ≠ 0 → ow k = i → upd ow W w3 (10 + j) k = i := fun k i hi e => upd_old w3 (10 + j) hout hi e
  refine ⟨?_, hf⟩
  exact {
    out := fun k hk' => by rw [hs3] at hk'; exact upd_out hout h3s k hk'
    low := upd_low (by have := h.bas; omega) h.low
    bas := by have := h.bas; omega
    blk := by
      have e1 : w3.heap[G]? = some (.cells vs.toArray 144 (0, 0)) := by
        rw [hg.block G (by have := h.Glt; omega) (fun e => hGv e.symm), hb.block G h.Glt]
        exact h.blk
      have e2 := heap_setCell (o := j) (v := v') e1
      rw [e2]
      simp
    lv := by rw [List.length_set]; exact h.lv
    lL := by rw [List.length_set]; exact h.lL
    oG := hold G 1 (by omega) h.oG
    adm := fun i hi => by
      rw [vG_set _ _ _ _ (by rw [h.lv]; exact hj), aG_set _ _ _ _ (by rw [h.lL]; exact hj)]
      by_cases e : j = i
      · rw [if_pos e, if_pos e, List.length_append, flatL_snoc]
        exact owns_other ho hGv'
      · rw [if_neg e, if_neg e]
        exact owns_fr (h.adm i hi) hf (fun k e1 e2 => by have := h.oA i hi k e1; omega)
    oA := fun i hi k e1 => by
      rw [vG_set _ _ _ _ (by rw [h.lv]; exact hj)] at e1
      by_cases e : j = i
      · rw [if_pos e] at e1
        subst e
        rcases hk with hk | hk
        · rw [hk] at e1; exact hold k _ (by omega) (h.oA j hj k e1)
        · have h1 := hk k e1
          have h2 := (ho.lt k e1).2
          unfold upd
          rw [if_pos ⟨h1, h2⟩]
      · rw [if_neg e] at e1
        exact hold k _ (by omega) (h.oA i hi k e1)
    orow := owns_fr h.orow hf (fun k e1 e2 => by have := h.oO k e1; omega)
    oO := fun k e => hold k 2 (by omega) (h.oO k e)
    lS := h.lS
    row := fun i hi => by
      obtain ⟨b, cap, e1, e2, e3, e4⟩ := h.row i hi
      exact ⟨b, cap, e1, hold b 3 (by omega) e2, e3.fr hf (fun e => by omega), e4⟩ }
/-- A row more. -/
theorem SrS.push (h : SrS w base ow G vs L ov rs S n) {W w3 : World} {ov' : Value} {b cap : Nat} {s : List Lb} (hb : Below w.heap.size w W) (hg : W.grownBy w3 ov.ownBlock) (ho : w3.ownsRow 0 144 1 ov' (rs.length + 1) (rs ++ [.slice (some ⟨b, 0, none⟩) n cap]))
    (hk : ov'.ownBlock = ov.ownBlock ∨ ∀ k, ov'.ownBlock = some k → W.heap.size ≤ k) (hbo : ow b = 4) (hat : At w b 0 (flatL s)) (hs : s.length = n) :
    SrS w3 base (fun k => if ow k = 4 then 3 else if ow k = 5 then 0 else upd ow W w3 2 k) G vs L ov' (rs ++ [.slice (some ⟨b, 0, none⟩) n cap]) (S ++ [s]) n ∧ Fr (fun k => ow k = 2) w w3 := by
  have hWs := hb.size
  have h3s := hg.size
  have hout : ∀ k, W.heap.size ≤ k → ow k = 0 := fun k hk => h.out k (by omega)
  have hf : Fr (fun k => ow k = 2) w w3 := (Fr.of_below hb).grown hg (fun k e => .inl (h.oO k e))
  have hold : ∀ k i, i ≠ 0 → i ≠ 4 → i ≠ 5 → ow k = i → (if ow k = 4 then 3 else if ow k = 5 then 0 else upd ow W w3 2 k) = i := fun k i hi h4 h5 e => by
    rw [if_neg (by omega), if_neg (by omega)]
    exact upd_old w3 2 hout hi e
  refine ⟨?_, hf⟩
  have hvg : ∀ i, i < rs.length → vG (rs ++ [.slice (some ⟨b, 0, none⟩) n cap]) i = vG rs i := fun i hi => by simp [vG, List.getD, List.getElem?_append_left hi]
  have hag : ∀ i, i < S.length → aG (S ++ [s]) i = aG S i := fun i hi => by simp [aG, List.getD, List.getElem?_append_left hi]
  exact {
    out := fun k hk' => by
      have h0 := h.out k (by omega)
      show (if ow k = 4 then 3 else if ow k = 5 then 0 else upd ow W w3 2 k) = 0
      rw [if_neg (by omega), if_neg (by omega)]
      exact upd_out hout h3s k hk'
    low := fun k hk' => by
      have h0 := h.low k hk'
      show (if ow k = 4 then 3 else if ow k = 5 then 0 else upd ow W w3 2 k) = 0
      rw [if_neg (by omega), if_neg (by omega)]
      exact upd_low (by have := h.bas; omega) h.low k hk'
    bas := by have := h.bas; omega
    blk := by rw [hf.block G h.Glt (by rw [h.oG]; omega)]; exact h.blk
    lv := h.lv
    lL := h.lL
    oG := hold G 1 (by omega) (by omega) (by omega) h.oG
    adm := fun j hj => owns_fr (h.adm j hj) hf (fun k e e' => by have := h.oA j hj k e; omega)
    oA := fun j hj k e => hold k _ (by omega) (by omega) (by omega) (h.oA j hj k e)
    orow := by rw [List.length_append]; exact ho
    oO := fun k e => by
      rcases hk with hk | hk
      · rw [hk] at e; exact hold k 2 (by omega) (by omega) (by omega) (h.oO k e)
      · have h1 := hk k e
        have h2 := (ho.lt k e).2
        have h0 := h.out k (by omega)
        rw [if_neg (by omega), if_neg (by omega)]
        unfold upd
        rw [if_pos ⟨h1, h2⟩]
    lS := by rw [List.length_append, List.length_append, h.lS]; rfl
    row := fun i hi => by
      rw [List.length_append] at hi
      by_cases hlt : i < rs.length
      · obtain ⟨b', cap', e1, e2, e3, e4⟩ := h.row i hlt
        rw [hvg i hlt, hag i (by rw [← h.lS]; exact hlt)]
        exact ⟨b', cap', e1, hold b' 3 (by omega) (by omega) (by omega) e2, e3.fr hf (fun e => by omega), e4⟩
      · have hi' : i = rs.length := by simp at hi; omega
        subst hi'
        have e1 : vG (rs ++ [.slice (some ⟨b, 0, none⟩) n cap]) rs.length = .slice (some ⟨b, 0, none⟩) n cap := by simp [vG, List.getD]
        have e2 : aG (S ++ [s]) rs.length = s := by rw [h.lS]; simp [aG, List.getD]
        rw [e1, e2]
        exact ⟨b, cap, rfl, if_pos hbo, hat.fr hf (fun e => by omega), hs⟩ }
end

end Go.Proofs.YthciddpljcbhiaaGreatDoor

/- Walks: the document's level of a time; are these labels among the others? (garnerref) -/
namespace Go.Proofs.YthciddpljcbhiaaGreatDoor
open Go Go.RowKit Go.Lib

theorem rf_right {w : World} {R : Nat} {F : Nat → Prop} {c : Cf} {ps : List Cp} {L lcap : Nat} {cv : Value} (h : RfS w R F c ps L lcap cv) : c.right = true := by
  have hr := h.inv.right
  rw [doAll_cf] at hr
  exact hr
theorem rf_nowr {w : World} {R : Nat} {F : Nat → Prop} {c : Cf} {ps : List Cp} {L lcap : Nat} {cv : Value} (h : RfS w R F c ps L lcap cv) : 0 ≤ sumT (ps.map (·.1)) ∧ sumT (ps.map (·.1)) ≤ 100000 := by
  have h1 := h.inv.n1
  rw [rf_now] at h1
  exact ⟨sumT_nn h.tks, h1⟩

set_option maxHeartbeats 1000000 in
theorem level_ref (R : Nat) (F : Nat → Prop) (c : Cf) (ps : List Cp) (L lcap : Nat) (cv : Value) (t : Int) (w : World) (h : RfS w R F c ps L lcap cv) (t0 : 0 ≤ t) (t1 : t ≤ 100100) :
    Calls Tryz.prog 81 #[.pointer (some ⟨R, 0, none⟩), .int .i64 t] w fun e w' => e = .returned (.int .i64 (c.lvl (sumT (ps.map (·.1))) t : Nat)) ∧ ∃ d, w' = w.drewN d := by
  obtain ⟨sp1, sp2, _, _, l1, l4, _⟩ := Cf.right_parts (rf_right h)
  have HA := age_ref R F c ps L lcap cv t w h sp1 sp2 t0 (by omega)
  have c2 := h.cell 2 _ rfl
  have HLV : Hid (LvAt w L 0 c.lvs) := h.lv
  have HE : Hid (c.lvl (sumT (ps.map (·.1))) t = lvlTo c.lvs (c.age (sumT (ps.map (·.1))) t) c.lvs.length) := rfl
  clear h
  generalize c.age (sumT (ps.map (·.1))) t = ag at *
  generalize c.lvl (sumT (ps.map (·.1))) t = res at *
  go_enter Tryz.func81, Tryz.ntmps81
  go_wp2_with fail
  refine HA.mono ?_
  rintro e w1 ⟨rfl, d, rfl⟩
  clear HA
  have d2 : (w.drewN d).cell? ⟨R, 2, none⟩ = some (.slice (some ⟨L, 0, none⟩) c.lvs.length lcap) := c2
  have HLV1 : Hid (LvAt (w.drewN d) L 0 c.lvs) := HLV.out
  clear c2 HLV
  generalize hw1 : w.drewN d = w1 at *
  go_wp2_with fail
  go_loopw [6, 7] (fun l i wr => ∃ k : Nat, i = .int .i64 k ∧ 1 ≤ k ∧ k ≤ c.lvs.length ∧ l = .int .i64 (lvlTo c.lvs ag k : Nat) ∧ wr = w1) (fun _ i _ => c.lvs.length - (intOf i).toNat)
  case atStart => exact ⟨1, rfl, Nat.le_refl _, l1, rfl, rfl⟩
  case round =>
    obtain ⟨k, rfl, hk1, hk, rfl, rfl⟩ := hrel
    by_cases hlt : k < c.lvs.length
    · obtain ⟨a0, _, _, _⟩ := HLV1.out k hlt
      simp only [Nat.zero_add] at a0
      have HS : Hid (lvlTo c.lvs ag (k + 1) = if 1 ≤ k ∧ (lvG c.lvs k).age ≤ ag then k else lvlTo c.lvs ag k) := rfl
      by_cases hag : (lvG c.lvs k).age ≤ ag
      · have HS2 : Hid (lvlTo c.lvs ag (k + 1) = k) := by show _ = _; rw [HS.out, if_pos ⟨hk1, hag⟩]
        generalize (lvG c.lvs k).age = ak at *
        go_wp2_with fail
        exact ⟨⟨k + 1, by go_num, by omega, by omega, by rw [HS2.out], trivial⟩, by simp [intOf]; omega⟩
      · have HS2 : Hid (lvlTo c.lvs ag (k + 1) = lvlTo c.lvs ag k) := by show _ = _; rw [HS.out, if_neg (fun e => hag e.2)]
        generalize (lvG c.lvs k).age = ak at *
        generalize lvlTo c.lvs ag k = cur at *
        go_wp2_with fail
        exact ⟨⟨k + 1, by go_num, by omega, by omega, by rw [HS2.out], trivial⟩, by simp [intOf]; omega⟩
    · have hkE : k = c.lvs.length := by omega
      have HF : Hid (lvlTo c.lvs ag k = res) := by show _ = _; rw [hkE, HE.out]
      rw [HF.out]
      go_wp2_with fail
      go_ret
      exact ⟨rfl, d, hw1.symm⟩

theorem lb_beq (x y : Lb) : (y.a == x.a && y.b == x.b && y.c == x.c) = decide (y = x) := by
  cases x; cases y
  simp
  rw [Bool.eq_iff_iff]
  simp [and_assoc]
theorem lb_ne {x y : Lb} (h : ¬ y = x) : (y.a == x.a && y.b == x.b && y.c == x.c) = false := by rw [lb_beq]; simp [h]

def lbsG (A : List Lb) (i : Nat) : Lb := A.getD i Lb.zero
theorem lbsG_get (A : List Lb) (i : Nat) (h : i < A.length) : lbsG A i = A[i] := by simp [lbsG, List.getD, h]
theorem at_lbs {w : World} {b off : Nat} {A : List Lb} (h : At w b off (flatL A)) (i : Nat) (hi : i < A.length) : w.cell? ⟨b, off + i * 3, none⟩ = some (.int .u8 (lbsG A i).a) ∧ w.cell? ⟨b, off + i * 3 + 1, none⟩ = some (.int .u8 (lbsG A i).b) ∧ w.cell? ⟨b, off + i * 3 + 2, none⟩ = some (.int .u8 (lbsG A i).c) := by
  rw [lbsG_get A i hi]
  exact ⟨at_elem lbC 3 lbC_len h i hi 0 _ rfl, at_elem lbC 3 lbC_len h i hi 1 _ rfl, at_elem lbC 3 lbC_len h i hi 2 _ rfl⟩

set_option maxHeartbeats 1000000 in
theorem among_ref (a : Option Addr) (n cap : Nat) (A : List Lb) (x : Lb) (w : World) (hn : A.length = n) (hA : 0 < n → ∃ b off, a = some ⟨b, off, none⟩ ∧ At w b off (flatL A)) (hm : n ≤ 1000000) :
    Calls Tryz.prog 106 #[.slice a n cap, .agg #[.int .u8 x.a, .int .u8 x.b, .int .u8 x.c]] w fun e w' => e = .returned (.bool (decide (x ∈ A))) ∧ Below w.heap.size w w' := by
  have HA : Hid (0 < n → ∃ b off, a = some ⟨b, off, none⟩ ∧ At w b off (flatL A)) := hA
  have HN : Hid (A.length = n) := hn
  have hbx : Below w.heap.size w (w.alloc (.cells #[.int .u8 x.a, .int .u8 x.b, .int .u8 x.c] 42)) := (Below.refl _ _).alloc (Nat.le_refl _) _
  have hbk : (w.alloc (.cells #[.int .u8 x.a, .int .u8 x.b, .int .u8 x.c] 42)).heap[w.heap.size]? = some (.cells #[.int .u8 x.a, .int .u8 x.b, .int .u8 x.c] 42 (0, 0)) := heap_alloc_new _ _
  have HBX : Hid (Below w.heap.size w (w.alloc (.cells #[.int .u8 x.a, .int .u8 x.b, .int .u8 x.c] 42))) := hbx
  have HBK : Hid ((w.alloc (.cells #[.int .u8 x.a, .int .u8 x.b, .int .u8 x.c] 42)).heap[w.heap.size]? = some (.cells #[.int .u8 x.a, .int .u8 x.b, .int .u8 x.c] 42 (0, 0))) := hbk
  clear hA hn hbx hbk
  go_enter Tryz.func106, Tryz.ntmps106
  go_upto_region 1 with fail
  generalize w.alloc (.cells #[.int .u8 x.a, .int .u8 x.b, .int .u8 x.c] 42) = w0 at *
  have x0 : w0.cell? ⟨w.heap.size, 0, none⟩ = some (.int .u8 x.a) := cell_blk HBK.out rfl
  have x1 : w0.cell? ⟨w.heap.size, 1, none⟩ = some (.int .u8 x.b) := cell_blk HBK.out rfl
  have x2 : w0.cell? ⟨w.heap.size, 2, none⟩ = some (.int .u8 x.c) := cell_blk HBK.out rfl
  go_wp2_with fail
  go_loopw [5] (fun i wr => ∃ k : Nat, i = .int .i64 k ∧ k ≤ n ∧ (∀ j, j < k → ¬ lbsG A j = x) ∧ ∃ d, wr = w0.drewN d) (fun i _ => n - (intOf i).toNat)
  case atStart => exact ⟨0, rfl, Nat.zero_le _, fun j hj => absurd hj (by omega), 0, rfl⟩
  case round =>
    obtain ⟨k, rfl, hk, hno, d, rfl⟩ := hrel
    have HNO : Hid (∀ j, j < k → ¬ lbsG A j = x) := hno
    clear hno
    by_cases hlt : k < n
    · obtain ⟨b, off, rfl, hat⟩ := HA.out (by omega)
      obtain ⟨y0, y1, y2⟩ := at_lbs (fun j v hj => by
        have h9 := hat j v hj
        have hbl : b < w.heap.size := World.block_lt_of_cell? w _ h9
        exact (HBX.out.cell (p := ⟨b, off + j, none⟩) hbl).trans h9 : At w0 b off (flatL A)) k (by rw [HN.out]; exact hlt)
      clear hat
      by_cases hy : lbsG A k = x
      · have HIN : Hid (decide (x ∈ A) = true) := by
          show _ = _
          rw [decide_eq_true_eq, ← hy, lbsG_get A k (by rw [HN.out]; exact hlt)]
          exact List.getElem_mem _
        rw [hy] at y0 y1 y2
        have heq := fun w => eq26 9998 x.a x.b x.c x.a x.b x.c w
        simp only [beq_self_eq_true, Bool.and_self] at heq
        clear hy
        go_wp2_with fail
        go_quiet (fail)
        go_wp2_with fail
        go_ret
        exact ⟨by rw [HIN.out]; rfl, below_drewN (below_drewN HBX.out _) _⟩
      · have heq := fun w => eq26 9998 (lbsG A k).a (lbsG A k).b (lbsG A k).c x.a x.b x.c w
        rw [lb_ne hy] at heq
        have HNO2 : Hid (∀ j, j < k + 1 → ¬ lbsG A j = x) := fun j hj => by
          by_cases e : j = k
          · subst e; exact hy
          · exact HNO.out j (by omega)
        clear hy
        generalize lbsG A k = y at *
        go_wp2_with fail
        go_quiet (fail)
        go_wp2_with fail
        exact ⟨⟨k + 1, by go_num, by omega, HNO2.out, _, rfl⟩, by simp [intOf]; omega⟩
    · have HOUT : Hid (decide (x ∈ A) = false) := by
        show _ = _
        rw [decide_eq_false_iff_not]
        intro hx
        obtain ⟨i, hi, e⟩ := List.getElem_of_mem hx
        have hn' := HN.out
        exact HNO.out i (by omega) (by rw [lbsG_get A i hi]; exact e)
      go_wp2_with fail
      go_ret
      exact ⟨by rw [HOUT.out]; rfl, below_drewN HBX.out _⟩

end Go.Proofs.YthciddpljcbhiaaGreatDoor

/- Walks: the document's series of all samples (garnerref). -/
namespace Go.Proofs.YthciddpljcbhiaaGreatDoor
open Go Go.RowKit Go.Lib Go.Deep

theorem Tryz.info42' : (Tryz.prog.info? 42).map (fun i => (i.zero, i.size, i.bytes)) = some (some (.agg #[.int .u8 0, .int .u8 0, .int .u8 0]), 3, 3) := by kernel_rfl
theorem Tryz.info144' : (Tryz.prog.info? 144).map (fun i => (i.zero, i.size, i.bytes)) = some (some (.slice none 0 0), 1, 24) := by kernel_rfl
theorem made_reps (z : Value) (n : Nat) : madeCells #[z] n = (List.replicate n z).toArray := by
  apply Array.ext
  · simp [size_madeCells]
  · intro i h1 h2
    simp [madeCells, Nat.mod_one]
theorem make140 (n : Nat) (h : n ≤ 1000) (w : World) : (Instr.makeSlice 140 (.int .i64 (n : Int)) (.int .i64 (n : Int))).run Tryz.prog w =
    .ok (.slice (some ⟨w.heap.size, 0, none⟩) n n) (w.alloc (.cells (List.replicate n (.slice none 0 0)).toArray 144)) := by
  rw [run_make_row' (P := Tryz.prog) 140 144 (.slice none 0 0) 24 Tryz.underlying140 Tryz.info144' rfl .i64 .i64 n (by omega) (by omega) w, made_reps]

/-- The listed variable reads as listed. -/
def OvAt (w : World) : Prop := w.cell? ⟨0, 0, none⟩ = some (.int .u8 42) ∧ w.cell? ⟨0, 1, none⟩ = some (.int .u8 42) ∧ w.cell? ⟨0, 2, none⟩ = some (.int .u8 42)
theorem OvAt.pos {w : World} (h : OvAt w) : 0 < w.heap.size := World.block_lt_of_cell? w _ h.1
theorem OvAt.below {w w' : World} {B : Nat} (h : OvAt w) (hb : Below B w w') (hB : 0 < B) : OvAt w' := ⟨(hb.cell (p := ⟨0, 0, none⟩) hB).trans h.1, (hb.cell (p := ⟨0, 1, none⟩) hB).trans h.2.1, (hb.cell (p := ⟨0, 2, none⟩) hB).trans h.2.2⟩

/-- A sample on its way: what is admitted, the labels' box, the row so far. -/
structure LvIn (w : World) (base : Nat) (ow : Nat → Nat) (G : Nat) (vs : List Value) (A : List (List Lb)) (ov : Value) (rs : List Value) (S : List (List Lb)) (n NB : Nat) (nw : Lb) (rv : Value) (pre : List Lb) : Prop where
  sr : SrS w base ow G vs A ov rs S n
  nb : w.heap[NB]? = some (.cells #[.int .u8 nw.a, .int .u8 nw.b, .int .u8 nw.c] 42 (0, 0))
  oN : ow NB = 5
  rw' : w.ownsRow 0 42 3 rv pre.length (flatL pre)
  oR : ∀ k, rv.ownBlock = some k → ow k = 4
section
variable {w w' : World} {base : Nat} {ow : Nat → Nat} {G : Nat} {vs : List Value} {A : List (List Lb)} {ov : Value} {rs : List Value} {S : List (List Lb)} {n NB : Nat} {nw : Lb} {rv : Value} {pre : List Lb}
theorem LvIn.Nlt (h : LvIn w base ow G vs A ov rs S n NB nw rv pre) : NB < w.heap.size := (Array.getElem?_eq_some_iff.1 h.nb).1
theorem LvIn.below (h : LvIn w base ow G vs A ov rs S n NB nw rv pre) (hb : Below w.heap.size w w') : LvIn w' base ow G vs A ov rs S n NB nw rv pre where
  sr := h.sr.below hb
  nb := by rw [hb.block NB h.Nlt]; exact h.nb
  oN := h.oN
  rw' := owns_fr h.rw' (Fr.of_below (S := fun _ => False) hb) (fun _ _ e => e)
  oR := h.oR
/-- The labels' box is written. -/
theorem LvIn.set (h : LvIn w base ow G vs A ov rs S n NB nw rv pre) (m : Lb) : LvIn (((w.setCell ⟨NB, 0, none⟩ (.int .u8 m.a)).setCell ⟨NB, 1, none⟩ (.int .u8 m.b)).setCell ⟨NB, 2, none⟩ (.int .u8 m.c)) base ow G vs A ov rs S n NB m rv pre ∧
    Fr (fun k => ow k = 5) w (((w.setCell ⟨NB, 0, none⟩ (.int .u8 m.a)).setCell ⟨NB, 1, none⟩ (.int .u8 m.b)).setCell ⟨NB, 2, none⟩ (.int .u8 m.c)) := by
  have hf : Fr (fun k => ow k = 5) w (((w.setCell ⟨NB, 0, none⟩ (.int .u8 m.a)).setCell ⟨NB, 1, none⟩ (.int .u8 m.b)).setCell ⟨NB, 2, none⟩ (.int .u8 m.c)) := (((Fr.refl _ _).setCell (.inl h.oN) _).setCell (.inl h.oN) _).setCell (.inl h.oN) _
  have hz : (((w.setCell ⟨NB, 0, none⟩ (.int .u8 m.a)).setCell ⟨NB, 1, none⟩ (.int .u8 m.b)).setCell ⟨NB, 2, none⟩ (.int .u8 m.c)).heap.size = w.heap.size := by simp [World.setCell]
  refine ⟨?_, hf⟩
  exact {
    sr := h.sr.keepTo hf (fun k e => .inr (.inr e)) (fun k hk => h.sr.out k (by omega)) h.sr.low (fun _ _ _ _ => rfl)
    nb := by
      have e0 := heap_setCell (o := 0) (v := .int .u8 m.a) h.nb
      have e1 := heap_setCell (o := 1) (v := .int .u8 m.b) e0
      have e2 := heap_setCell (o := 2) (v := .int .u8 m.c) e1
      rw [e2]
      rfl
    oN := h.oN
    rw' := owns_fr h.rw' hf (fun k e e' => by have := h.oR k e; omega)
    oR := h.oR }
/-- One more is admitted. -/
theorem LvIn.more (h : LvIn w base ow G vs A ov rs S n NB nw rv pre) {W w3 : World} {j : Nat} (hj : j < n) {v' : Value} {m : Lb} (hb : Below w.heap.size w W) (hg : W.grownBy w3 (vG vs j).ownBlock) (ho : w3.ownsRow 0 42 3 v' ((aG A j).length + 1) (flatL (aG A j) ++ lbC m))
    (hk : v'.ownBlock = (vG vs j).ownBlock ∨ ∀ k, v'.ownBlock = some k → W.heap.size ≤ k) :
    LvIn (w3.setCell ⟨G, j, none⟩ v') base (upd ow W w3 (10 + j)) G (vs.set j v') (A.set j (aG A j ++ [m])) ov rs S n NB nw rv pre ∧ Fr (fun k => ow k = 1 ∨ ow k = 10 + j) w (w3.setCell ⟨G, j, none⟩ v') := by
  obtain ⟨h1, hf⟩ := h.sr.more hj hb hg ho hk
  have hWs := hb.size
  have hout : ∀ k, W.heap.size ≤ k → ow k = 0 := fun k hk => h.sr.out k (by omega)
  refine ⟨?_, hf⟩
  exact {
    sr := h1
    nb := by rw [hf.block NB h.Nlt (by rw [h.oN]; omega)]; exact h.nb
    oN := upd_old _ _ hout (by omega) h.oN
    rw' := owns_fr h.rw' hf (fun k e e' => by have := h.oR k e; omega)
    oR := fun k e => upd_old _ _ hout (by omega) (h.oR k e) }
/-- The row grows by what came of the labels. -/
theorem LvIn.app (h : LvIn w base ow G vs A ov rs S n NB nw rv pre) {W w3 : World} {rv' : Value} (hb : Below w.heap.size w W) (hg : W.grownBy w3 rv.ownBlock) (ho : w3.ownsRow 0 42 3 rv' (pre.length + 1) (flatL pre ++ lbC nw))
    (hk : rv'.ownBlock = rv.ownBlock ∨ ∀ k, rv'.ownBlock = some k → W.heap.size ≤ k) :
    LvIn w3 base (upd ow W w3 4) G vs A ov rs S n NB nw rv' (pre ++ [nw]) ∧ Fr (fun k => ow k = 4) w w3 := by
  have hWs := hb.size
  have h3s := hg.size
  have hout : ∀ k, W.heap.size ≤ k → ow k = 0 := fun k hk => h.sr.out k (by omega)
  have hf : Fr (fun k => ow k = 4) w w3 := (Fr.of_below hb).grown hg (fun k e => .inl (h.oR k e))
  refine ⟨?_, hf⟩
  exact {
    sr := h.sr.keepTo hf (fun k e => .inr (.inl e)) (fun k hk => upd_out hout h3s k hk) (upd_low (by have := h.sr.bas; omega) h.sr.low) (fun k h0 _ _ => upd_old _ _ hout h0 rfl)
    nb := by rw [hf.block NB h.Nlt (by rw [h.oN]; omega)]; exact h.nb
    oN := upd_old _ _ hout (by omega) h.oN
    rw' := by rw [List.length_append, flatL_snoc]; exact ho
    oR := fun k e => by
      rcases hk with hk | hk
      · rw [hk] at e; exact upd_old _ _ hout (by omega) (h.oR k e)
      · have h1 := hk k e
        have h2 := (ho.lt k e).2
        unfold upd
        rw [if_pos ⟨h1, h2⟩] }
theorem LvIn.bel (h : LvIn w base ow G vs A ov rs S n NB nw rv pre) {T : Nat → Prop} (hf : Fr T w w') (hT : ∀ k, T k → ow k ≠ 0) : Below base w w' :=
  hf.below h.sr.bas (fun k e => by
    by_cases hk : k < base
    · exact absurd (h.sr.low k hk) (hT k e)
    · omega)
theorem LvIn.setB (h : LvIn w base ow G vs A ov rs S n NB nw rv pre) (m : Lb) (o1 o2 : Obj) : LvIn (((((w.setCell ⟨NB, 0, none⟩ (.int .u8 m.a)).setCell ⟨NB, 1, none⟩ (.int .u8 m.b)).setCell ⟨NB, 2, none⟩ (.int .u8 m.c)).alloc o1).alloc o2).drew base ow G vs A ov rs S n NB m rv pre ∧
    Below base w (((((w.setCell ⟨NB, 0, none⟩ (.int .u8 m.a)).setCell ⟨NB, 1, none⟩ (.int .u8 m.b)).setCell ⟨NB, 2, none⟩ (.int .u8 m.c)).alloc o1).alloc o2).drew := by
  obtain ⟨h1, h2⟩ := h.set m
  have hb := h.bel h2 (fun k e => by have e' : ow k = 5 := e; omega)
  have h3 : Below (((w.setCell ⟨NB, 0, none⟩ (.int .u8 m.a)).setCell ⟨NB, 1, none⟩ (.int .u8 m.b)).setCell ⟨NB, 2, none⟩ (.int .u8 m.c)).heap.size (((w.setCell ⟨NB, 0, none⟩ (.int .u8 m.a)).setCell ⟨NB, 1, none⟩ (.int .u8 m.b)).setCell ⟨NB, 2, none⟩ (.int .u8 m.c)) (((((w.setCell ⟨NB, 0, none⟩ (.int .u8 m.a)).setCell ⟨NB, 1, none⟩ (.int .u8 m.b)).setCell ⟨NB, 2, none⟩ (.int .u8 m.c)).alloc o1).alloc o2).drew := (((Below.refl _ _).alloc (Nat.le_refl _) _).alloc (by simp) _).drew
  exact ⟨h1.below h3, hb.trans (h3.mono h1.sr.bas)⟩
end

end Go.Proofs.YthciddpljcbhiaaGreatDoor

/- Walks: a script played, where the listed variable is read (plays). -/
namespace Go.Proofs.YthciddpljcbhiaaGreatDoor
open Go Go.RowKit Go.Lib

/-- What a step does to all there is, where the listed variable reads as listed. -/
def StepOkO (base W D : Nat) (o : Opr) : Prop :=
  ∀ (own : Nat → Nat) (bv : Value) (bs : List Bk) (N : Nat) (la : Option Addr) (ln lc : Nat) (ba : Option Addr) (bn bc : Nat) (w : World), WdAt w own base W D bv bs N → AllOk bs → bs.length ≤ 900000000000 → N ≤ 900000000000 → OpIn w o la ln ba bn →
    (∀ b off, 0 < bn → ba = some ⟨b, off, none⟩ → b < base) → (∀ b off, 0 < ln → la = some ⟨b, off, none⟩ → b < base) → OvAt w →
    Calls Tryz.prog 8 #[.pointer (some ⟨W, 0, none⟩), opV o la ln lc ba bn bc] w fun e w' => e = .returned (.bool true) ∧ Went w w' base W D (N + 1) (bs.length + 1)
theorem stepOkO_of {base W D : Nat} {o : Opr} (hwf : OpWf o) (k8 : o.kind ≠ 8) (k10 : o.kind ≠ 10) (k11 : o.kind ≠ 11) (k9 : o.kind ≠ 9)
    (hask : o.kind ≠ 1 → o.kind ≠ 2 → o.kind ≠ 3 → ∀ (own : Nat → Nat) (bv : Value) (bs : List Bk) (N : Nat) (i : Nat) (la : Option Addr) (ln lc : Nat) (ba : Option Addr) (bn bc : Nat) (w : World), WdAt w own base W D bv bs N → AllOk bs → i < bs.length → N ≤ 900000000000 → OvAt w →
      Calls Tryz.prog 23 #[.pointer (some ⟨W, 0, none⟩), bkV (bkG bs i), opV o la ln lc ba bn bc] w fun e w' => e = .returned (.bool true) ∧ Went w w' base W D (N + 1) bs.length) : StepOkO base W D o := by
  intro own bv bs N la ln lc ba bn bc w h hok hbs hN hin hlow _ hov
  by_cases k1 : o.kind = 1
  · exact step_new own base W D bv bs N o la ln lc ba bn bc w h hok (by omega) hin hwf k1
  · refine (step_on own base W D bv bs N o la ln lc ba bn bc w h hok (by omega) hin hwf hlow k1 k8 k10 k11 k9 (fun k2 k3 V hV hb hi => hask k1 k2 k3 own bv bs N _ la ln lc ba bn bc V hV hok hi hN (hov.below hb hov.pos))).mono ?_
    rintro e w' ⟨rfl, ⟨own', bv', bs', h1, h2, h3⟩, h4⟩
    exact ⟨rfl, ⟨own', bv', bs', h1, h2, by omega⟩, h4⟩

set_option maxHeartbeats 2000000 in
set_option maxRecDepth 100000 in
theorem plays_ov (a : Option Addr) (n cap : Nat) (l : List Opr) (lo hi : Int) (w : World) (h : IsOps w a n l) (hn : n ≤ 837723145000) (hov : OvAt w) (hstep : ∀ o ∈ l, skipB lo hi o.kind = false → StepOkO w.heap.size (w.heap.size + 1) w.heap.size o) :
    Calls Tryz.prog 6 #[.slice a n cap, .int .i64 lo, .int .i64 hi] w fun e w' => e = .returned (.bool true) ∧ Below w.heap.size w w' := by
  have H : Hid (IsOps w a n l) := h
  have HOV : Hid (OvAt w) := hov
  have hpos := hov.pos
  have HST : Hid (∀ o ∈ l, skipB lo hi o.kind = false → StepOkO w.heap.size (w.heap.size + 1) w.heap.size o) := hstep
  have HNL : Hid (l.length = n) := h.1
  have HW0 : Hid (WdAt ((w.alloc (.cells #[.int .i64 0, .slice none 0 0, .slice none 0 0, .slice none 0 0, .slice none 0 0] 31)).alloc (.cells #[.slice none 0 0, .pointer (some ⟨w.heap.size, 0, none⟩)] 34)) (fun k => if k = w.heap.size then 3 else if k = w.heap.size + 1 then 1 else 0) w.heap.size (w.heap.size + 1) w.heap.size (.slice none 0 0) [] 0) := WdAt.new w
  clear h hstep hov
  go_enter Tryz.func6, Tryz.ntmps6
  go_upto_region 2 with fail
  have hb0 : Below w.heap.size w ((w.alloc (.cells #[.int .i64 0, .slice none 0 0, .slice none 0 0, .slice none 0 0, .slice none 0 0] 31)).alloc (.cells #[.slice none 0 0, .pointer (some ⟨w.heap.size, 0, none⟩)] 34)) := ((Below.refl _ _).alloc (Nat.le_refl _) _).alloc (by simp) _
  have HB0 : Hid (Below w.heap.size w ((w.alloc (.cells #[.int .i64 0, .slice none 0 0, .slice none 0 0, .slice none 0 0, .slice none 0 0] 31)).alloc (.cells #[.slice none 0 0, .pointer (some ⟨w.heap.size, 0, none⟩)] 34))) := hb0
  clear hb0
  generalize (w.alloc (.cells #[.int .i64 0, .slice none 0 0, .slice none 0 0, .slice none 0 0, .slice none 0 0] 31)).alloc (.cells #[.slice none 0 0, .pointer (some ⟨w.heap.size, 0, none⟩)] 34) = w0 at *
  have hbl : Below w0.heap.size w0 (w0.alloc (.cells (flat [kkkL]).toArray 37)) := (Below.refl _ _).alloc (Nat.le_refl _) _
  have HOP := opened_yes _ w.heap.size (w.heap.size + 1) w.heap.size (.slice none 0 0) [] 0 (some ⟨w0.heap.size, 0, none⟩) 1 1 [kkkL] 1 0 ⟨#[]⟩ 0 (St.new ⟨1, 0, [kkkL]⟩) ⟨#[]⟩ [] (w0.alloc (.cells (flat [kkkL]).toArray 37)) (HW0.out.below hbl) ⟨rfl, fun _ => ⟨w0.heap.size, 0, rfl, lvAt_of (at_alloc_new _ _ _)⟩⟩ kkk_right (by simp)
    (fun V b hat => open_empty ⟨1, 0, [kkkL]⟩ b 0 1 (1 + 1) V kkk_right rfl hat kkk_wf) (fun V hV => open_ref_new _ 1 1 [kkkL] 1 0 V hV kkk_wf kkk_right)
  have HBL : Hid (Below w.heap.size w (w0.alloc (.cells (flat [kkkL]).toArray 37))) := HB0.out.trans (hbl.mono HB0.out.size)
  clear hbl
  go_wp2_with fail
  refine HOP.mono ?_
  clear HOP
  rintro e w2 ⟨rfl, ⟨own2, bv2, X, R, h2⟩, hb2⟩
  obtain ⟨g, bcap, rfl, _, _, _⟩ := ownBlockForm h2.row (by simp)
  have HW2 : Hid (WdAt w2 own2 w.heap.size (w.heap.size + 1) w.heap.size (.slice (some ⟨g, 0, none⟩) 1 bcap) ([] ++ [⟨X, R, ⟨1, 0, [kkkL]⟩, [], St.new ⟨1, 0, [kkkL]⟩, ⟨#[]⟩⟩]) 0) := h2
  have HB2 : Hid (Below w.heap.size w w2) := HBL.out.trans hb2
  have c0 : w2.cell? ⟨w.heap.size + 1, 0, none⟩ = some (.slice (some ⟨g, 0, none⟩) 1 bcap) := cell_blk HW2.out.wb rfl
  have z0 : w2.frozen? ⟨w.heap.size + 1, 0, none⟩ = false := froz_blk HW2.out.wb
  clear h2 hb2 HBL HB0 HW0
  go_wp2_with fail
  have HP3 : Hid (playOk w (w2.setCell ⟨w.heap.size + 1, 0, none⟩ (.slice none 0 0)) 0) := by
    obtain ⟨h3, h4⟩ := HW2.out.drop
    exact ⟨⟨_, _, _, h3, fun i hi => by simp at hi, Nat.le_refl _⟩, HB2.out.trans h4⟩
  generalize w2.setCell ⟨w.heap.size + 1, 0, none⟩ (.slice none 0 0) = w3 at *
  clear c0 z0 HW2 HB2
  go_loopw [8, 9] (fun ok i wr => ok = .bool true ∧ ∃ k : Nat, i = .int .i64 k ∧ k ≤ n ∧ playOk w wr k) (fun _ i _ => n - (intOf i).toNat)
  case atStart => exact ⟨rfl, 0, rfl, Nat.zero_le _, HP3.out⟩
  case round =>
    obtain ⟨rfl, k, rfl, hk, ⟨own, bv, bs, hwd, hok, hle⟩, hbel⟩ := hrel
    have HWD : Hid (WdAt wr own w.heap.size (w.heap.size + 1) w.heap.size bv bs k) := hwd
    have HOK : Hid (AllOk bs) := hok
    have HLE : Hid (bs.length ≤ k) := hle
    have HBE : Hid (Below w.heap.size w wr) := hbel
    clear hwd hok hle hbel
    by_cases hlt : k < n
    · obtain ⟨b, off, rfl, hbw, hall⟩ := H.out.2.2 (by omega)
      obtain ⟨la, ln, lc, ba, bn, bc, hat0, hin0⟩ := hall k hlt
      have hmem : opG l k ∈ l := by rw [opG_get l k (by rw [HNL.out]; exact hlt)]; exact List.getElem_mem _
      have HAT : Hid (At wr b (off + k * 16) (opC (opG l k) la ln lc ba bn bc)) := hat0.below HBE.out hbw
      have HIN : Hid (OpIn wr (opG l k) la ln ba bn) := ⟨hin0.lv.from HBE.out, hin0.ln, hin0.sm.below HBE.out, hin0.bn⟩
      have HLO : Hid ((∀ b off, 0 < bn → ba = some ⟨b, off, none⟩ → b < w.heap.size) ∧ (∀ b off, 0 < ln → la = some ⟨b, off, none⟩ → b < w.heap.size)) := by
        refine ⟨fun b off h0 e => ?_, fun b off h0 e => ?_⟩
        · obtain ⟨b', off', e', hat⟩ := hin0.sm.2 h0
          rw [e] at e'
          injection e' with e'
          injection e' with e' _
          rw [e']
          exact hat.block (by rw [hin0.sm.1]; exact h0)
        · obtain ⟨b', off', e', hat⟩ := hin0.lv.2 h0
          rw [e] at e'
          injection e' with e'
          injection e' with e' _
          rw [e']
          exact hat.block (by rw [hin0.lv.1]; exact h0)
      have HS : Hid (skipB lo hi (opG l k).kind = false → StepOkO w.heap.size (w.heap.size + 1) w.heap.size (opG l k)) := HST.out _ hmem
      clear hat0 hin0 hall hmem
      generalize opG l k = o at *
      have p0 : wr.cell? ⟨b, off + k * 16, none⟩ = some (.int .i64 o.kind) := HAT.out 0 _ rfl
      cases hsk : skipB lo hi o.kind with
      | true =>
        have hsk' : 3 < o.kind ∧ (o.kind < lo ∨ lo ≤ o.kind ∧ hi < o.kind) := by
          simp only [skipB, Bool.and_eq_true, Bool.or_eq_true, decide_eq_true_eq] at hsk
          omega
        obtain ⟨s1, s2⟩ := hsk'
        have HP : Hid (playOk w wr (k + 1)) := ⟨⟨own, bv, bs, HWD.out.more (Nat.le_succ _), HOK.out, Nat.le_succ_of_le HLE.out⟩, HBE.out⟩
        clear hsk
        rcases s2 with s2 | ⟨s2, s3⟩
        · go_wp2_with fail
          exact ⟨⟨rfl, k + 1, by go_num, by omega, HP.out⟩, by simp [intOf]; omega⟩
        · go_wp2_with fail
          exact ⟨⟨rfl, k + 1, by go_num, by omega, HP.out⟩, by simp [intOf]; omega⟩
      | false =>
        have HCALL := HS.out hsk own bv bs k la ln lc ba bn bc wr HWD.out HOK.out (by have := HLE.out; omega) (by omega) HIN.out HLO.out.1 HLO.out.2 (HOV.out.below HBE.out hpos)
        have hsk' : o.kind ≤ 3 ∨ (3 < o.kind ∧ lo ≤ o.kind ∧ o.kind ≤ hi) := by
          simp only [skipB, Bool.and_eq_false_iff, Bool.or_eq_false_iff, decide_eq_false_iff_not] at hsk
          omega
        have HC : Hid (Calls Tryz.prog 8 #[.pointer (some ⟨w.heap.size + 1, 0, none⟩), opV o la ln lc ba bn bc] wr fun e w' => e = .returned (.bool true) ∧ Went wr w' w.heap.size (w.heap.size + 1) w.heap.size (k + 1) (bs.length + 1)) := HCALL
        have p1 : wr.cell? ⟨b, off + k * 16 + 1, none⟩ = some (.int .i64 o.on) := HAT.out 1 _ rfl
        have p2 : wr.cell? ⟨b, off + k * 16 + 2, none⟩ = some (.int .i64 o.a) := HAT.out 2 _ rfl
        have p3 : wr.cell? ⟨b, off + k * 16 + 3, none⟩ = some (.string o.s) := HAT.out 3 _ rfl
        have p4 : wr.cell? ⟨b, off + k * 16 + 4, none⟩ = some (.int .u8 o.l0) := HAT.out 4 _ rfl
        have p5 : wr.cell? ⟨b, off + k * 16 + 5, none⟩ = some (.int .u8 o.l1) := HAT.out 5 _ rfl
        have p6 : wr.cell? ⟨b, off + k * 16 + 6, none⟩ = some (.int .u8 o.l2) := HAT.out 6 _ rfl
        have p7 : wr.cell? ⟨b, off + k * 16 + 7, none⟩ = some (.int .i64 o.span) := HAT.out 7 _ rfl
        have p8 : wr.cell? ⟨b, off + k * 16 + 8, none⟩ = some (.int .i64 o.keep) := HAT.out 8 _ rfl
        have p9 : wr.cell? ⟨b, off + k * 16 + 9, none⟩ = some (.slice la ln lc) := HAT.out 9 _ rfl
        have p10 : wr.cell? ⟨b, off + k * 16 + 10, none⟩ = some (.slice ba bn bc) := HAT.out 10 _ rfl
        have p11 : wr.cell? ⟨b, off + k * 16 + 11, none⟩ = some (.int .i64 o.q.fr) := HAT.out 11 _ rfl
        have p12 : wr.cell? ⟨b, off + k * 16 + 12, none⟩ = some (.int .i64 o.q.to) := HAT.out 12 _ rfl
        have p13 : wr.cell? ⟨b, off + k * 16 + 13, none⟩ = some (.int .i64 o.q.step) := HAT.out 13 _ rfl
        have p14 : wr.cell? ⟨b, off + k * 16 + 14, none⟩ = some (.string o.q.mt) := HAT.out 14 _ rfl
        have p15 : wr.cell? ⟨b, off + k * 16 + 15, none⟩ = some (.string o.q.gb) := HAT.out 15 _ rfl
        clear HCALL hsk HS HIN HLO HAT
        rcases hsk' with s1 | ⟨s1, s2, s3⟩
        all_goals
          go_wp2_with fail
          refine HC.out.mono ?_
          rintro e w4 ⟨rfl, ⟨own4, bv4, bs4, h4, h5, h6⟩, h7⟩
          have HW4 : Hid (WdAt w4 own4 w.heap.size (w.heap.size + 1) w.heap.size bv4 bs4 (k + 1)) := h4
          have HO4 : Hid (AllOk bs4) := h5
          have HL4 : Hid (bs4.length ≤ bs.length + 1) := h6
          have HB4 : Hid (Below w.heap.size w w4) := HBE.out.trans h7
          have d1 : w4.cell? ⟨w.heap.size + 1, 1, none⟩ = some (.pointer (some ⟨w.heap.size, 0, none⟩)) := cell_blk HW4.out.wb rfl
          obtain ⟨ow, dn, ss, rs, sv, rv, nv, mv, t1, t2, t3, t4, t5, t6⟩ := h4.dr
          have HLK := looks_any w.heap.size ow dn ss rs sv rv nv mv w4 t6 (by omega) (by omega)
          clear h4 h5 h6 h7 t1 t2 t3 t4 t5 t6 p0 p1 p2 p3 p4 p5 p6 p7 p8 p9 p10 p11 p12 p13 p14 p15
          go_wp2_with fail
          refine HLK.mono ?_
          clear HLK
          rintro e w5 ⟨rfl, hb5⟩
          have HP : Hid (playOk w w5 (k + 1)) := ⟨⟨own4, bv4, bs4, HW4.out.below hb5, HO4.out, by have h8 := HL4.out; have h9 := HLE.out; omega⟩, HB4.out.trans (hb5.mono HB4.out.size)⟩
          clear hb5 d1
          go_wp2_with fail
          exact ⟨⟨rfl, k + 1, by go_num, by omega, HP.out⟩, by simp [intOf]; omega⟩
    · go_wp2_with fail
      go_ret
      exact ⟨rfl, HBE.out⟩

end Go.Proofs.YthciddpljcbhiaaGreatDoor

/- Walks: rows alike; the oldest time; the query of all that is kept (garnerkeep). -/
namespace Go.Proofs.YthciddpljcbhiaaGreatDoor
open Go Go.RowKit

theorem ret_i64'' {a b : Int} (h : a = b) : Ending.returned (.int .i64 a) = .returned (.int .i64 b) := by rw [h]
theorem cell_blk' {w : World} {g o : Nat} {C : Array Value} {t : TypeId} {fr : Nat × Nat} {v : Value} (h : w.heap[g]? = some (.cells C t fr)) (hv : C[o]? = some v) : w.cell? ⟨g, o, none⟩ = some v := by simp [World.cell?, h, hv]
/-- Where the rows of a slice lie. -/
def RwsAt (w : World) (a : Option Addr) (l : List Rw) : Prop := 0 < l.length → ∃ g, a = some ⟨g, 0, none⟩ ∧ g < w.heap.size ∧ ∀ i, i < l.length → RwAt w g (i * 8) (rwG l i)
theorem RwsAt.of_owns {w : World} {base : Nat} {a : Option Addr} {n cap : Nat} {l : List Rw} (h : w.ownsRow base 78 8 (.slice a n cap) n (flatR l)) (hn : l.length = n) : RwsAt w a l := by
  intro hp
  obtain ⟨g, cap', he, _, hg, _⟩ := ownBlockForm h (by omega)
  injection he with h1 h2 h3
  subst h1
  exact ⟨g, rfl, hg, fun i hi => owns_rw h i hi⟩
theorem RwsAt.below {w w' : World} {a : Option Addr} {l : List Rw} (h : RwsAt w a l) (hb : Below w.heap.size w w') : RwsAt w' a l := by
  intro hp
  obtain ⟨g, rfl, hg, hr⟩ := h hp
  exact ⟨g, rfl, by have := hb.size; omega, fun i hi => (hr i hi).below hb⟩
theorem sameR_iff {a b : Rw} (h : sameR a b = true) : (a.ag.cnt != b.ag.cnt) = false ∧ (a.ag.sum != b.ag.sum) = false ∧ (a.ag.mn != b.ag.mn) = false ∧ (a.ag.mx != b.ag.mx) = false := by
  simp only [sameR, Bool.and_eq_true, beq_iff_eq] at h
  obtain ⟨⟨⟨h1, h2⟩, h3⟩, h4⟩ := h
  simp [h1, h2, h3, h4]

/-- The desk's block. -/
abbrev dkC (X : Nat) (s : St) (L n cap : Nat) (sv : Value) : Array Value := #[.pointer (some ⟨X, 0, none⟩), .int .i64 s.c.span, .int .i64 s.c.keep, .slice (some ⟨L, 0, none⟩) n cap, .int .i64 s.now, sv]

theorem oldT_eq (s : St) : oldT s = if s.now / s.c.span - s.c.keep < 0 then 0 else (s.now / s.c.span - s.c.keep) * s.c.span := by
  unfold oldT Cf.old; split <;> simp

end Go.Proofs.YthciddpljcbhiaaGreatDoor

/- Walks: a query of a store. -/
namespace Go.Proofs.YthciddpljcbhiaaGreatDoor
open Go Go.RowKit

set_option maxHeartbeats 4000000 in
set_option maxRecDepth 100000 in
theorem query_any (X : Nat) (F : Nat → Prop) (s : St) (q : Qy) {lg : ByteArray} (w : World) (h : StoreAt w X F s lg) (hq : q.wf) :
    Calls Tryz.prog 47 #[.pointer (some ⟨X, 0, none⟩), .agg (qyC q)] w fun e w' => ∃ v, e = .returned (.tuple #[v, .int .i64 (qE s.c s.now q)]) ∧ w'.ownsRow w.heap.size 78 8 v (rowsA s q).length (flatR (rowsA s q)) ∧ Below w.heap.size w w' := by
  obtain ⟨L, lcap, pv, bv, bk, gv, h⟩ := h
  have HS : Hid (StAt w X F s s s.l.length L lcap pv bv bk gv lg) := h
  have c0 := h.cell 0 _ rfl
  have c1 := h.cell 1 _ rfl
  have c2 := h.cell 2 _ rfl
  have c3 := h.cell 3 _ rfl
  have c5 := h.cell 5 _ rfl
  have hX := h.lt
  obtain ⟨pa, pcap, rfl⟩ := ownForm h.pts
  have HQ : Hid q.wf := hq
  have hXw : X ≠ w.heap.size := by omega
  clear h hq
  have hbox : Below w.heap.size w (w.alloc (.cells (qyC q) 45)) := (Below.refl _ _).alloc (Nat.le_refl _) _
  have HBX : Hid (Below w.heap.size w (w.alloc (.cells (qyC q) 45))) := hbox
  clear hbox
  go_enter Tryz.func47, Tryz.ntmps47
  go_upto_region 1 with fail
  go_cut [6] from 6 to 16 (fun v wx => v = .int .i64 (qE s.c s.now q) ∧ Below (w.heap.size + 1) (w.alloc (.cells (qyC q) 45)) wx)
  case first =>
    have k0 : (w.alloc (.cells (qyC q) 45)).drew.cell? ⟨X, 0, none⟩ = some (.int .i64 s.c.span) := cell_alloc1 c0
    have k1 : (w.alloc (.cells (qyC q) 45)).drew.cell? ⟨X, 1, none⟩ = some (.int .i64 s.c.keep) := cell_alloc1 c1
    have k2 : (w.alloc (.cells (qyC q) 45)).drew.cell? ⟨X, 2, none⟩ = some (.slice (some ⟨L, 0, none⟩) s.c.lvs.length lcap) := cell_alloc1 c2
    have k3 : (w.alloc (.cells (qyC q) 45)).drew.cell? ⟨X, 3, none⟩ = some (.int .i64 s.now) := cell_alloc1 c3
    have j0 : (w.alloc (.cells (qyC q) 45)).drew.cell? ⟨w.heap.size, 0, none⟩ = some (.int .i64 q.fr) := by simp [go_sem]
    have j1 : (w.alloc (.cells (qyC q) 45)).drew.cell? ⟨w.heap.size, 1, none⟩ = some (.int .i64 q.to) := by simp [go_sem]
    have j2 : (w.alloc (.cells (qyC q) 45)).drew.cell? ⟨w.heap.size, 2, none⟩ = some (.int .i64 q.step) := by simp [go_sem]
    have j3 : (w.alloc (.cells (qyC q) 45)).drew.cell? ⟨w.heap.size, 3, none⟩ = some (.string q.mt) := by simp [go_sem]
    have j4 : (w.alloc (.cells (qyC q) 45)).drew.cell? ⟨w.heap.size, 4, none⟩ = some (.string q.gb) := by simp [go_sem]
    have hXa : X < (w.alloc (.cells (qyC q) 45)).drew.heap.size := by show X < (w.alloc (.cells (qyC q) 45)).heap.size; simp; omega
    have hwa : w.heap.size < (w.alloc (.cells (qyC q) 45)).drew.heap.size := by show w.heap.size < (w.alloc (.cells (qyC q) 45)).heap.size; simp
    go_region_held3 (fun w' => w'.cell? ⟨X, 0, none⟩ = some (.int .i64 s.c.span) ∧ w'.cell? ⟨X, 1, none⟩ = some (.int .i64 s.c.keep) ∧ w'.cell? ⟨X, 2, none⟩ = some (.slice (some ⟨L, 0, none⟩) s.c.lvs.length lcap) ∧ w'.cell? ⟨X, 3, none⟩ = some (.int .i64 s.now) ∧ w'.cell? ⟨w.heap.size, 0, none⟩ = some (.int .i64 q.fr) ∧ w'.cell? ⟨w.heap.size, 1, none⟩ = some (.int .i64 q.to) ∧ w'.cell? ⟨w.heap.size, 2, none⟩ = some (.int .i64 q.step) ∧ w'.cell? ⟨w.heap.size, 3, none⟩ = some (.string q.mt) ∧ w'.cell? ⟨w.heap.size, 4, none⟩ = some (.string q.gb)) (first | exact ⟨k0, k1, k2, k3, j0, j1, j2, j3, j4⟩ | exact ⟨y0, y1, y2, y3, z0, z1, z2, z3, z4⟩)
      (first | (go_at_call 77; refine (check_q s.c q L 0 s.c.lvs.length lcap s.now _ HS.out.inv.right rfl ((HS.out.below HBX.out.drew).lv) HS.out.inv.n0 HS.out.inv.n1 HQ.out).mono ?_; rintro e w' ⟨rfl, hb'⟩; have y0 := (hb'.cell (p := ⟨X, 0, none⟩) hXa).trans k0; have y1 := (hb'.cell (p := ⟨X, 1, none⟩) hXa).trans k1; have y2 := (hb'.cell (p := ⟨X, 2, none⟩) hXa).trans k2; have y3 := (hb'.cell (p := ⟨X, 3, none⟩) hXa).trans k3; have z0 := (hb'.cell (p := ⟨w.heap.size, 0, none⟩) hwa).trans j0; have z1 := (hb'.cell (p := ⟨w.heap.size, 1, none⟩) hwa).trans j1; have z2 := (hb'.cell (p := ⟨w.heap.size, 2, none⟩) hwa).trans j2; have z3 := (hb'.cell (p := ⟨w.heap.size, 3, none⟩) hwa).trans j3; have z4 := (hb'.cell (p := ⟨w.heap.size, 4, none⟩) hwa).trans j4))
    all_goals go_wp2_with fail
    all_goals go_meet
    all_goals (case rel => exact ⟨rfl, ⟨hb'.os, hb'.tape, hb'.output, hb'.size, fun k hk => hb'.block k (by simpa using hk)⟩⟩)
  case rest =>
    obtain ⟨rfl, hb1⟩ := hcut
    have hz1 : w.heap.size + 1 ≤ wc.heap.size := by have := hb1.size; simpa using this
    have HW1 : Hid (Below w.heap.size w wc) := HBX.out.trans (hb1.mono (by omega))
    have HB1 : Hid (Below (w.heap.size + 1) (w.alloc (.cells (qyC q) 45)) wc) := hb1
    have HS1 : Hid (StAt wc X F s s s.l.length L lcap (.slice pa s.pts.length pcap) bv bk gv lg) := HS.out.below HW1.out
    clear c0 c1 c2 c3 c5 hb1
    by_cases he : qE s.c s.now q = 0
    · have HRA : Hid (rowsA s q = s.rows q) := if_pos he
      have HZ := qE_zero he
      have HRR : Hid (s.rows q = rowsOf (s.pts.filterMap (kvP s.c s.now q))) := by
        show rowsOf _ = _
        rw [kv_pts s (Cf.right_parts HS.out.inv.right).1 q HZ.2]
      have HE : Hid (qE s.c s.now q = 0) := he
      rw [he]
      have c0 := HS1.out.cell 0 _ rfl
      have c1 := HS1.out.cell 1 _ rfl
      have c2 := HS1.out.cell 2 _ rfl
      have c3 := HS1.out.cell 3 _ rfl
      have c5 := HS1.out.cell 5 _ rfl
      have hX1 := HS1.out.lt
      have p0 : wc.cell? ⟨w.heap.size, 0, none⟩ = some (.int .i64 q.fr) := by rw [HB1.out.cell (p := ⟨w.heap.size, 0, none⟩) (by simp)]; simp [go_sem]
      have p1 : wc.cell? ⟨w.heap.size, 1, none⟩ = some (.int .i64 q.to) := by rw [HB1.out.cell (p := ⟨w.heap.size, 1, none⟩) (by simp)]; simp [go_sem]
      have p2 : wc.cell? ⟨w.heap.size, 2, none⟩ = some (.int .i64 q.step) := by rw [HB1.out.cell (p := ⟨w.heap.size, 2, none⟩) (by simp)]; simp [go_sem]
      have p3 : wc.cell? ⟨w.heap.size, 3, none⟩ = some (.string q.mt) := by rw [HB1.out.cell (p := ⟨w.heap.size, 3, none⟩) (by simp)]; simp [go_sem]
      have p4 : wc.cell? ⟨w.heap.size, 4, none⟩ = some (.string q.gb) := by rw [HB1.out.cell (p := ⟨w.heap.size, 4, none⟩) (by simp)]; simp [go_sem]
      clear he
      go_wp2_with fail
      have hwa : w.heap.size < wc.heap.size := by omega
      go_region_held3 (fun w' => w'.cell? ⟨X, 0, none⟩ = some (.int .i64 s.c.span) ∧ w'.cell? ⟨X, 1, none⟩ = some (.int .i64 s.c.keep) ∧ w'.cell? ⟨X, 2, none⟩ = some (.slice (some ⟨L, 0, none⟩) s.c.lvs.length lcap) ∧ w'.cell? ⟨X, 3, none⟩ = some (.int .i64 s.now) ∧ w'.cell? ⟨w.heap.size, 0, none⟩ = some (.int .i64 q.fr) ∧ w'.cell? ⟨w.heap.size, 1, none⟩ = some (.int .i64 q.to) ∧ w'.cell? ⟨w.heap.size, 2, none⟩ = some (.int .i64 q.step) ∧ w'.cell? ⟨w.heap.size, 3, none⟩ = some (.string q.mt) ∧ w'.cell? ⟨w.heap.size, 4, none⟩ = some (.string q.gb) ∧ w'.cell? ⟨X, 5, none⟩ = some (.slice pa s.pts.length pcap)) (first | exact ⟨c0, c1, c2, c3, p0, p1, p2, p3, p4, c5⟩ | exact ⟨y0, y1, y2, y3, z0, z1, z2, z3, z4, y5⟩)
        (first | (go_at_call 78; refine (rows_any s.c q L 0 s.c.lvs.length lcap s.now pa s.pts.length pcap s.pts _ HS.out.inv.right rfl (HS1.out.below (Below.refl _ _).drew).lv HS.out.inv.n0 HS.out.inv.n1 HZ.1 (PtsAt.of_owns (owns_drew HS1.out.pts) rfl) rfl (pts_ok HS.out.inv) (pts_len HS.out.inv)).mono ?_; rintro e w' ⟨v, rfl, hv, hb'⟩; have y0 := (hb'.cell (p := ⟨X, 0, none⟩) hX1).trans c0; have y1 := (hb'.cell (p := ⟨X, 1, none⟩) hX1).trans c1; have y2 := (hb'.cell (p := ⟨X, 2, none⟩) hX1).trans c2; have y3 := (hb'.cell (p := ⟨X, 3, none⟩) hX1).trans c3; have y5 := (hb'.cell (p := ⟨X, 5, none⟩) hX1).trans c5; have z0 := (hb'.cell (p := ⟨w.heap.size, 0, none⟩) hwa).trans p0; have z1 := (hb'.cell (p := ⟨w.heap.size, 1, none⟩) hwa).trans p1; have z2 := (hb'.cell (p := ⟨w.heap.size, 2, none⟩) hwa).trans p2; have z3 := (hb'.cell (p := ⟨w.heap.size, 3, none⟩) hwa).trans p3; have z4 := (hb'.cell (p := ⟨w.heap.size, 4, none⟩) hwa).trans p4))
      all_goals go_wp2_with fail
      all_goals go_ret2
      all_goals exact ⟨v, by rw [HE.out]; rfl, by rw [HRA.out, HRR.out]; exact owns_base hv (fun k hk => by have h9 : wc.heap.size ≤ k := (hv.lt k hk).1; omega), HW1.out.trans ((show Below wc.heap.size wc w' from ⟨hb'.os, hb'.tape, hb'.output, hb'.size, hb'.block⟩).mono (by omega))⟩
    · have HRA : Hid (rowsA s q = []) := if_neg he
      have hneb : (qE s.c s.now q != 0) = true := by simpa using he
      go_wp2_with fail
      go_ret2
      refine ⟨_, rfl, ?_, HW1.out⟩
      rw [HRA.out]
      exact World.ownsRow_nil _ _ _ _

end Go.Proofs.YthciddpljcbhiaaGreatDoor

/- Walks: how many cells there are. -/
namespace Go.Proofs.YthciddpljcbhiaaGreatDoor
open Go Go.RowKit Go.Lib
attribute [local go_sem ↓] Go.wp_at_zero Go.wp_at_succ

/-! The keys of cells. -/
structure Ky where
  st : Int
  nm : Lb
deriving DecidableEq
def Ky.zero : Ky := ⟨0, Lb.zero⟩
abbrev kyC (k : Ky) : Array Value := #[.int .i64 k.st, .int .u8 k.nm.a, .int .u8 k.nm.b, .int .u8 k.nm.c]
def Ky.cells (k : Ky) : List Value := [.int .i64 k.st, .int .u8 k.nm.a, .int .u8 k.nm.b, .int .u8 k.nm.c]
def flatKy (l : List Ky) : List Value := l.flatMap Ky.cells
theorem len4K (k : Ky) : k.cells.length = 4 := rfl
def kyG (l : List Ky) (i : Nat) : Ky := l.getD i Ky.zero
theorem kyG_get (l : List Ky) (i : Nat) (h : i < l.length) : kyG l i = l[i] := by simp [kyG, List.getD, h]
theorem Ky.one (k : Ky) : ∀ v ∈ k.cells, v.oneCell' = true := by intro v hv; simp [Ky.cells] at hv; rcases hv with h | h | h | h <;> subst h <;> rfl
theorem Tryz.info170' : (Tryz.prog.info? 170).map (fun i => (i.zero, i.size, i.bytes)) = some (some (.agg #[.int .i64 0, .int .u8 0, .int .u8 0, .int .u8 0]), 4, 16) := by kernel_rfl
theorem owns_ky {w : World} {base g n cap : Nat} {l : List Ky} (h : w.ownsRow base 170 4 (.slice (some ⟨g, 0, none⟩) n cap) n (flatKy l)) (i : Nat) (hi : i < l.length) :
    w.cell? ⟨g, i * 4, none⟩ = some (.int .i64 (kyG l i).st) ∧ w.cell? ⟨g, i * 4 + 1, none⟩ = some (.int .u8 (kyG l i).nm.a) ∧ w.cell? ⟨g, i * 4 + 2, none⟩ = some (.int .u8 (kyG l i).nm.b) ∧ w.cell? ⟨g, i * 4 + 3, none⟩ = some (.int .u8 (kyG l i).nm.c) := by
  have k := fun j (hj : j < 4) => flat_get Ky.cells 4 len4K l i j hj hi
  rw [kyG_get l i hi]
  exact ⟨owns_cell h (k 0 (by omega)), owns_cell h (k 1 (by omega)), owns_cell h (k 2 (by omega)), owns_cell h (k 3 (by omega))⟩
def kyP (c : Cf) (now : Int) (p : Pt) : Ky := ⟨p.time - p.time % (lvG c.lvs (c.lvl now p.time)).window, sG p (c.lvl now p.time)⟩
def keyA (l : List Ky) (k : Ky) : List Ky := if k ∈ l then l else l ++ [k]
def keysK (c : Cf) (now : Int) (ps : List Pt) (k : Nat) : List Ky := ((ps.take k).map (kyP c now)).foldl keyA []
theorem keysK_succ (c : Cf) (now : Int) (ps : List Pt) (k : Nat) (h : k < ps.length) : keysK c now ps (k + 1) = keyA (keysK c now ps k) (kyP c now (ptG ps k)) := by
  unfold keysK
  rw [List.take_succ_eq_append_getElem h, List.map_append, List.foldl_append, ptG_get ps k h]
  rfl
theorem keyA_len (l : List Ky) (k : Ky) : (keyA l k).length ≤ l.length + 1 := by unfold keyA; split <;> simp
theorem keysK_len (c : Cf) (now : Int) (ps : List Pt) (k : Nat) : (keysK c now ps k).length ≤ k := by
  induction k with
  | zero => simp [keysK]
  | succ k ih =>
    by_cases h : k < ps.length
    · rw [keysK_succ c now ps k h]; have := keyA_len (keysK c now ps k) (kyP c now (ptG ps k)); omega
    · have e : keysK c now ps (k + 1) = keysK c now ps k := by unfold keysK; rw [List.take_of_length_le (by omega), List.take_of_length_le (by omega)]
      rw [e]; omega
def cellsN (s : St) : Nat := (keysK s.c s.now s.pts s.pts.length).length
theorem wIn (n : Int) (h : -9223372036854775808 ≤ n ∧ n ≤ 9223372036854775807) : wrap64 n = n := by unfold wrap64; omega

set_option maxHeartbeats 400000 in
theorem winStart_any (lvs : List Lv) (b off n cap k : Nat) (t : Int) (w : World) (hn : lvs.length = n) (hk : k < n) (hat : LvAt w b off lvs) (w1 : 1 ≤ (lvG lvs k).window) (w2 : (lvG lvs k).window ≤ 100) (t0 : 0 ≤ t) (t1 : t ≤ 100000) :
    Calls Tryz.prog 123 #[.slice (some ⟨b, off, none⟩) n cap, .int .i64 k, .int .i64 t] w fun e w' => e = .returned (.int .i64 (t - t % (lvG lvs k).window)) ∧ w' = w := by
  obtain ⟨_, c1, _, _⟩ := hat k (by rw [hn]; exact hk)
  generalize lvG lvs k = V at *
  have hk0 : ¬ (k : Int) < 0 := by omega
  have hk1 : ¬ (n : Int) ≤ k := by omega
  have hv : ¬ V.window < 1 := by omega
  clear hat hn
  go_enter Tryz.func123, Tryz.ntmps123
  go_wp2_with fail
  go_ret
  have e1 := Int.emod_nonneg t (show V.window ≠ 0 by omega)
  have e2 := Int.emod_lt_of_pos t (show 0 < V.window by omega)
  exact ⟨ret_i64'' (wIn _ (by omega)), rfl⟩

set_option maxHeartbeats 1000000 in
theorem hasK_any (a : Option Addr) (n cap base : Nat) (l : List Ky) (K : Ky) (w : World) (hown : w.ownsRow base 170 4 (.slice a n cap) n (flatKy l)) (hn : l.length = n) (hn2 : n ≤ 100000) :
    Calls Tryz.prog 109 #[.slice a n cap, .agg (kyC K)] w fun e w' => e = .returned (.bool (decide (K ∈ l))) ∧ Below w.heap.size w w' := by
  have HO : Hid (w.ownsRow base 170 4 (.slice a n cap) n (flatKy l)) := hown
  have HN : Hid (l.length = n) := hn
  clear hown hn
  go_enter Tryz.func109, Tryz.ntmps109
  go_wp2_with fail
  go_loopw [5] (fun i wr => ∃ k : Nat, i = .int .i64 k ∧ k ≤ n ∧ (∀ j, j < k → kyG l j ≠ K) ∧ ∃ d, wr = (w.alloc (.cells (kyC K) 170)).drewN d) (fun i _ => n - (intOf i).toNat)
  case atStart => exact ⟨0, rfl, Nat.zero_le _, fun j hj => by omega, 0, rfl⟩
  case round =>
    obtain ⟨k, rfl, hk, hno, d, rfl⟩ := hrel
    have HA : Hid (∀ j, j < k → kyG l j ≠ K) := hno
    clear hno
    by_cases hlt : k < n
    · obtain ⟨g, cap', he, _, hgs, hcap⟩ := ownBlockForm HO.out (by omega)
      obtain ⟨rfl, rfl⟩ : a = some ⟨g, 0, none⟩ ∧ cap = cap' := by injection he with h1 h2 h3; exact ⟨h1, h3⟩
      obtain ⟨x0, x1, x2, x3⟩ := owns_ky HO.out k (by rw [HN.out]; exact hlt)
      have hgne : g ≠ w.heap.size := by omega
      have HMEM : Hid (kyG l k = K → K ∈ l) := fun e => by rw [← e, kyG_get l k (by rw [HN.out]; exact hlt)]; exact List.getElem_mem _
      have HEQ : Hid (kyG l k = K ↔ ((kyG l k).st == K.st && ((kyG l k).nm.a == K.nm.a && (kyG l k).nm.b == K.nm.b && (kyG l k).nm.c == K.nm.c)) = true) := by
        show _ ↔ _
        constructor
        · intro e; rw [e]; simp
        · intro e
          simp only [Bool.and_eq_true, beq_iff_eq] at e
          cases hh : kyG l k with
          | mk st nm =>
            rw [hh] at e
            cases K with
            | mk st' nm' =>
              obtain ⟨e1, ⟨e2, e3⟩, e4⟩ := e
              have := lb_ext e2 e3 e4
              simp only at e1 this
              rw [e1, this]
      generalize hY : kyG l k = Y at *
      have HYY : Hid (kyG l k = Y) := hY
      clear hY
      have heq := fun w => eq26 9997 Y.nm.a Y.nm.b Y.nm.c K.nm.a K.nm.b K.nm.c w
      cases e1 : (Y.st == K.st)
      · have hne : Y ≠ K := fun e => by rw [e] at e1; simp at e1
        cases e2 : (Y.nm.a == K.nm.a && Y.nm.b == K.nm.b && Y.nm.c == K.nm.c)
        all_goals
          rw [e2] at heq
          go_wp2_with fail
          go_quiet (fail)
          go_wp2_with fail
          exact ⟨⟨k + 1, by go_num, by omega, fun j hj => by (by_cases hjk : j = k; rw [hjk, HYY.out]; exact hne; exact HA.out j (by omega)), _, rfl⟩, by simp [intOf]; omega⟩
      · cases e2 : (Y.nm.a == K.nm.a && Y.nm.b == K.nm.b && Y.nm.c == K.nm.c)
        · have hne : Y ≠ K := fun e => by rw [e] at e2; simp at e2
          rw [e2] at heq
          go_wp2_with fail
          go_quiet (fail)
          go_wp2_with fail
          exact ⟨⟨k + 1, by go_num, by omega, fun j hj => by (by_cases hjk : j = k; rw [hjk, HYY.out]; exact hne; exact HA.out j (by omega)), _, rfl⟩, by simp [intOf]; omega⟩
        · have hm : K ∈ l := HMEM.out (HEQ.out.2 (by rw [e1, e2]; rfl))
          have HM : Hid (decide (K ∈ l) = true) := by show _ = _; simpa using hm
          clear hm
          rw [e2] at heq
          go_wp2_with fail
          go_quiet (fail)
          go_wp2_with fail
          go_ret
          exact ⟨ret_bool HM.out.symm, below_drewN (below_drewN ((Below.refl _ _).alloc (Nat.le_refl _) _) _) _⟩
    · have hlt2 : ¬ (k : Int) < n := by omega
      have HM : Hid (decide (K ∈ l) = false) := by
        show _ = _
        refine decide_eq_false fun hm => ?_
        obtain ⟨i, hi, e⟩ := List.getElem_of_mem hm
        exact HA.out i (by rw [HN.out] at hi; omega) (by rw [kyG_get l i hi]; exact e)
      go_wp2_with fail
      go_ret
      exact ⟨ret_bool HM.out.symm, below_drewN ((Below.refl _ _).alloc (Nat.le_refl _) _) _⟩

theorem pt_blk {w : World} {P : Nat} {p : Pt} (h : w.heap[P]? = some (.cells (ptC p) 127 (0, 0))) (o : Nat) (v : Value) (hv : (ptC p)[o]? = some v) : w.cell? ⟨P, o, none⟩ = some v := cell_blk h hv

set_option maxHeartbeats 2000000 in
set_option maxRecDepth 100000 in
theorem keyOf_any (c : Cf) (b off n cap : Nat) (now : Int) (p : Pt) (w : World) (hr : c.right = true) (n0 : 0 ≤ now) (n1 : now ≤ 100000) (hn : c.lvs.length = n) (hat : LvAt w b off c.lvs) (hp : PtOk c p) :
    Calls Tryz.prog 108 #[.agg (cfC c b off n cap), .int .i64 now, .agg (ptC p)] w fun e w' => e = .returned (.agg (kyC (kyP c now p))) ∧ Below w.heap.size w w' := by
  obtain ⟨h1, h2, _, _, q1, q4, h7⟩ := Cf.right_parts hr
  have hlv := Cf.lvl_lt hr now p.time
  have HWI := h7 _ hlv
  have HW2 : (lvG c.lvs (c.lvl now p.time)).window ≤ 100 := by
    have := Int.le_of_dvd (by omega) (Int.dvd_of_emod_eq_zero HWI.2.1)
    omega
  have HW1 := HWI.1
  have HAT : Hid (LvAt w b off c.lvs) := hat
  have HN : Hid (c.lvs.length = n) := hn
  have hbs : b < w.heap.size := hat.block (by omega)
  have t0 := hp.t0
  have t1 := hp.t1
  have HKY : Hid (kyP c now p = ⟨p.time - p.time % (lvG c.lvs (c.lvl now p.time)).window, sG p (c.lvl now p.time)⟩) := rfl
  have HLV : Hid (c.lvl now p.time < n) := by show _ < _; omega
  have HLE := fun w hat => level_any c b off n cap now p.time w h1 h2 n0 n1 t0 (by omega) hn (by omega) (by omega) hat
  have HWS := fun w hat => winStart_any c.lvs b off n cap (c.lvl now p.time) p.time w hn (by omega) hat HW1 HW2 t0 t1
  have HOF := fun w => of_any p (c.lvl now p.time) (by omega) w
  have HLEH : Hid (∀ w, LvAt w b off c.lvs → Calls Tryz.prog 98 #[.agg (cfC c b off n cap), .int .i64 now, .int .i64 p.time] w fun e w' => e = .returned (.int .i64 (c.lvl now p.time)) ∧ Below w.heap.size w w') := HLE
  have HWSH : Hid (∀ w, LvAt w b off c.lvs → Calls Tryz.prog 123 #[.slice (some ⟨b, off, none⟩) n cap, .int .i64 ((c.lvl now p.time : Nat) : Int), .int .i64 p.time] w fun e w' => e = .returned (.int .i64 (p.time - p.time % (lvG c.lvs (c.lvl now p.time)).window)) ∧ w' = w) := HWS
  have HOFH : Hid (∀ w, Calls Tryz.prog 101 #[.agg (ptC p), .int .i64 ((c.lvl now p.time : Nat) : Int)] w fun e w' => e = .returned (.agg (lbA (sG p (c.lvl now p.time)))) ∧ Below w.heap.size w w') := HOF
  clear hr hn hat hp HLE HWS HOF h7 HWI hlv HW1 HW2 h1 h2 q1 q4
  generalize c.lvl now p.time = K at *
  generalize hST : p.time - p.time % (lvG c.lvs K).window = ST at *
  have HB0 : Hid (Below w.heap.size w (((w.alloc (.cells (cfC c b off n cap) 40)).alloc (.cells (ptC p) 127)).alloc (.cells #[.int .i64 0, .int .u8 0, .int .u8 0, .int .u8 0] 170))) := (((Below.refl _ _).alloc (Nat.le_refl _) _).alloc (by simp) _).alloc (by simp; omega) _
  go_enter Tryz.func108, Tryz.ntmps108
  go_wp2_with fail
  refine (HLEH.out _ (HAT.out.below HB0.out hbs)).mono ?_
  rintro e w1 ⟨rfl, hb1⟩
  have hz1 : w.heap.size + 2 < w1.heap.size := by have := hb1.size; simp at this; omega
  have HC1 : Hid (w1.heap[w.heap.size]? = some (.cells (cfC c b off n cap) 40 (0, 0))) := by
    show _ = _
    rw [hb1.block _ (by simp; omega), Below.heap_alloc _ _ _ (by simp; omega), Below.heap_alloc _ _ _ (by simp)]
    exact heap_alloc_new w _
  have HP1 : Hid (w1.heap[w.heap.size + 1]? = some (.cells (ptC p) 127 (0, 0))) := by
    show _ = _
    rw [hb1.block _ (by simp), Below.heap_alloc _ _ _ (by simp)]
    have e := heap_alloc_new (w.alloc (.cells (cfC c b off n cap) 40)) (.cells (ptC p) 127)
    rw [World.size_alloc] at e
    exact e
  have HR1 : Hid (w1.heap[w.heap.size + 1 + 1]? = some (.cells #[.int .i64 0, .int .u8 0, .int .u8 0, .int .u8 0] 170 (0, 0))) := by
    show _ = _
    rw [hb1.block _ (by simp)]
    have e := heap_alloc_new ((w.alloc (.cells (cfC c b off n cap) 40)).alloc (.cells (ptC p) 127)) (.cells #[.int .i64 0, .int .u8 0, .int .u8 0, .int .u8 0] 170)
    rw [World.size_alloc, World.size_alloc] at e
    exact e
  have HB1 : Hid (Below w.heap.size w w1) := HB0.out.trans (hb1.mono (by simp; omega))
  have x2 := cell_blk (o := 2) HC1.out rfl
  have y0 := pt_blk HP1.out 0 _ rfl
  have y1 := pt_blk HP1.out 1 _ rfl
  have y2 := pt_blk HP1.out 2 _ rfl
  have y3 := pt_blk HP1.out 3 _ rfl
  have y4 := pt_blk HP1.out 4 _ rfl
  have y5 := pt_blk HP1.out 5 _ rfl
  have y6 := pt_blk HP1.out 6 _ rfl
  have y7 := pt_blk HP1.out 7 _ rfl
  have y8 := pt_blk HP1.out 8 _ rfl
  have y9 := pt_blk HP1.out 9 _ rfl
  have y10 := pt_blk HP1.out 10 _ rfl
  have y11 := pt_blk HP1.out 11 _ rfl
  have y12 := pt_blk HP1.out 12 _ rfl
  have y13 := pt_blk HP1.out 13 _ rfl
  clear hb1
  go_wp2_with fail
  refine (HWSH.out _ (HAT.out.below HB1.out hbs)).mono ?_
  rintro e w2 ⟨rfl, rfl⟩
  go_wp2_with fail
  refine (HOFH.out _).mono ?_
  rintro e w3 ⟨rfl, hb3⟩
  have HR3 : Hid (w3.heap[w.heap.size + 1 + 1]? = some (.cells #[.int .i64 0, .int .u8 0, .int .u8 0, .int .u8 0] 170 (0, 0))) := (hb3.block _ (by omega)).trans HR1.out
  have HB3 : Hid (Below w.heap.size w w3) := HB1.out.trans (hb3.mono HB1.out.size)
  have r0 : w3.cell? ⟨w.heap.size + 1 + 1, 0, none⟩ = some (.int .i64 0) := cell_blk (o := 0) HR3.out rfl
  have r1 : w3.cell? ⟨w.heap.size + 1 + 1, 1, none⟩ = some (.int .u8 0) := cell_blk (o := 1) HR3.out rfl
  have r2 : w3.cell? ⟨w.heap.size + 1 + 1, 2, none⟩ = some (.int .u8 0) := cell_blk (o := 2) HR3.out rfl
  have r3 : w3.cell? ⟨w.heap.size + 1 + 1, 3, none⟩ = some (.int .u8 0) := cell_blk (o := 3) HR3.out rfl
  have rz := fun o => froz_blk (o := o) HR3.out
  have hz3 : w.heap.size + 1 + 1 < w3.heap.size := by have := hb3.size; omega
  have hzn : w.heap.size + 1 + 1 ≠ w3.heap.size := by omega
  clear hb3 x2 y0 y1 y2 y3 y4 y5 y6 y7 y8 y9 y10 y11 y12 y13
  generalize sG p K = NM at *
  have hF : (((((w3.setCell ⟨w.heap.size + 1 + 1, 0, none⟩ (.int .i64 ST)).setCell ⟨w.heap.size + 1 + 1, 1, none⟩ (.int .u8 NM.a)).setCell ⟨w.heap.size + 1 + 1, 2, none⟩ (.int .u8 NM.b)).setCell ⟨w.heap.size + 1 + 1, 3, none⟩ (.int .u8 NM.c)).alloc (.cells #[.int .u8 NM.a, .int .u8 NM.b, .int .u8 NM.c] 42)).heap[w.heap.size + 1 + 1]? = some (.cells #[.int .i64 ST, .int .u8 NM.a, .int .u8 NM.b, .int .u8 NM.c] 170 (0, 0)) := by
    rw [Below.heap_alloc _ _ _ (by simpa [World.setCell] using hz3)]
    have h0 := heap_setCell (o := 0) (v := (.int .i64 ST)) HR3.out
    have h1 := heap_setCell (o := 1) (v := (.int .u8 NM.a)) h0
    have h2 := heap_setCell (o := 2) (v := (.int .u8 NM.b)) h1
    have h3 := heap_setCell (o := 3) (v := (.int .u8 NM.c)) h2
    simp only [List.setIfInBounds_toArray, List.set_cons_succ, List.set_cons_zero] at h3
    exact h3
  have HF : Hid (_ = _) := hF
  clear hF
  go_wp2_with fail
  have f0 := cell_blk (v := .int .i64 ST) (o := 0) HF.out rfl
  have f1 := cell_blk (v := .int .u8 NM.a) (o := 1) HF.out rfl
  have f2 := cell_blk (v := .int .u8 NM.b) (o := 2) HF.out rfl
  have f3 := cell_blk (v := .int .u8 NM.c) (o := 3) HF.out rfl
  refine bodyPost_ret (v := .agg #[.int .i64 ST, .int .u8 NM.a, .int .u8 NM.b, .int .u8 NM.c]) (by simp [results, Tryz.results108, go_sem, f0, f1, f2, f3]) rfl ⟨by rw [HKY.out], ?_⟩
  exact (bel_set (bel_set (bel_set (bel_set HB3.out (by omega)) (by omega)) (by omega)) (by omega)).alloc (by have := HB3.out.size; simpa [World.setCell] using this) _

end Go.Proofs.YthciddpljcbhiaaGreatDoor

/- Walks: cell.Count, Cells. -/
namespace Go.Proofs.YthciddpljcbhiaaGreatDoor
open Go Go.RowKit Go.Lib
attribute [local go_sem ↓] Go.wp_at_zero Go.wp_at_succ

theorem set4_box {w : World} {P : Nat} {k : Ky} (h : w.heap[P]? = some (.cells #[.int .i64 0, .int .u8 0, .int .u8 0, .int .u8 0] 170 (0, 0))) :
    ((((w.setCell ⟨P, 0, none⟩ (.int .i64 k.st)).setCell ⟨P, 1, none⟩ (.int .u8 k.nm.a)).setCell ⟨P, 2, none⟩ (.int .u8 k.nm.b)).setCell ⟨P, 3, none⟩ (.int .u8 k.nm.c)).heap[P]? = some (.cells (kyC k) 170 (0, 0)) := by
  have h0 := heap_setCell (o := 0) (v := (.int .i64 k.st)) h
  have h1 := heap_setCell (o := 1) (v := (.int .u8 k.nm.a)) h0
  have h2 := heap_setCell (o := 2) (v := (.int .u8 k.nm.b)) h1
  have h3 := heap_setCell (o := 3) (v := (.int .u8 k.nm.c)) h2
  simp only [List.setIfInBounds_toArray, List.set_cons_succ, List.set_cons_zero] at h3
  exact h3

set_option maxHeartbeats 2000000 in
set_option maxRecDepth 100000 in
theorem count_any' (c : Cf) (b off n cap : Nat) (now : Int) (pa : Option Addr) (pn pcap base : Nat) (ps : List Pt) (w : World) (hr : c.right = true) (n0 : 0 ≤ now) (n1 : now ≤ 100000) (hn : c.lvs.length = n) (hat : LvAt w b off c.lvs)
    (hown : w.ownsRow base 127 14 (.slice pa pn pcap) pn (flatP ps)) (hpn : ps.length = pn) (hp5 : pn ≤ 500) (hp : ∀ p ∈ ps, PtOk c p) :
    Calls Tryz.prog 84 #[.agg (cfC c b off n cap), .int .i64 now, .slice pa pn pcap] w fun e w' => e = .returned (.int .i64 ((keysK c now ps pn).length : Int)) ∧ Below w.heap.size w w' := by
  have HR : Hid (c.right = true) := hr
  have HN : Hid (c.lvs.length = n) := hn
  have HAT : Hid (LvAt w b off c.lvs) := hat
  have HOW : Hid (w.ownsRow base 127 14 (.slice pa pn pcap) pn (flatP ps)) := hown
  have HPN : Hid (ps.length = pn) := hpn
  have HPO : Hid (∀ p ∈ ps, PtOk c p) := hp
  have hbs : b < w.heap.size := hat.block (by have := (Cf.right_parts hr).2.2.2.2.1; omega)
  obtain ⟨li0, hli, lz0, lz1, lz2⟩ := infP Tryz.info170'
  have HB0 : Hid (Below w.heap.size w (w.alloc (.cells (cfC c b off n cap) 40))) := (Below.refl _ _).alloc (Nat.le_refl _) _
  clear hr hn hat hown hpn hp
  go_enter Tryz.func84, Tryz.ntmps84
  go_wp2_with fail
  go_loopw [7, 8] (fun v i wr => ∃ k : Nat, i = .int .i64 k ∧ k ≤ pn ∧ wr.ownsRow (w.heap.size + 1) 170 4 v (keysK c now ps k).length (flatKy (keysK c now ps k)) ∧ wr.heap[w.heap.size]? = some (.cells (cfC c b off n cap) 40 (0, 0)) ∧ Below w.heap.size w wr) (fun _ i _ => pn - (intOf i).toNat)
  case atStart => exact ⟨0, rfl, Nat.zero_le _, World.ownsRow_nil _ _ _ _, heap_alloc_new w _, HB0.out⟩
  case round =>
    obtain ⟨k, rfl, hk, ho, hC, hB⟩ := hrel
    have HO : Hid (wr.ownsRow (w.heap.size + 1) 170 4 u7 (keysK c now ps k).length (flatKy (keysK c now ps k))) := ho
    have HC : Hid (wr.heap[w.heap.size]? = some (.cells (cfC c b off n cap) 40 (0, 0))) := hC
    have HB : Hid (Below w.heap.size w wr) := hB
    have hkl := keysK_len c now ps k
    obtain ⟨ea, ec, rfl⟩ := ownForm ho
    have x0 : wr.cell? ⟨w.heap.size, 0, none⟩ = some (.int .i64 c.span) := cell_blk (o := 0) hC rfl
    have x1 : wr.cell? ⟨w.heap.size, 1, none⟩ = some (.int .i64 c.keep) := cell_blk (o := 1) hC rfl
    have x2 : wr.cell? ⟨w.heap.size, 2, none⟩ = some (.slice (some ⟨b, off, none⟩) n cap) := cell_blk (o := 2) hC rfl
    have hWr : w.heap.size < wr.heap.size := (Array.getElem?_eq_some_iff.1 hC).1
    clear ho hC hB
    by_cases hlt : k < pn
    · obtain ⟨g, cap', he, _, hgs, hcap⟩ := ownBlockForm HOW.out (by omega)
      obtain ⟨rfl, rfl⟩ : pa = some ⟨g, 0, none⟩ ∧ pcap = cap' := by injection he with h1 h2 h3; exact ⟨h1, h3⟩
      have hpt : PtAt wr g (k * 14) (ptG ps k) := At.below (owns_pt HOW.out k (by rw [HPN.out]; exact hlt)) HB.out hgs
      have HOK := HPO.out (ptG ps k) (by rw [ptG_get ps k (by rw [HPN.out]; exact hlt)]; exact List.getElem_mem _)
      have HSU : Hid (keysK c now ps (k + 1) = keyA (keysK c now ps k) (kyP c now (ptG ps k))) := keysK_succ c now ps k (by rw [HPN.out]; exact hlt)
      generalize ptG ps k = Z at *
      obtain ⟨y0, y1, y2, y3, y4, y5, y6, y7, y8, y9, y10, y11, y12, y13⟩ := PtAt.all hpt
      have HK : Hid (∀ W, Below wr.heap.size wr W → Calls Tryz.prog 108 #[.agg (cfC c b off n cap), .int .i64 now, .agg (ptC Z)] W fun e w' => e = .returned (.agg (kyC (kyP c now Z))) ∧ Below W.heap.size W w') := fun W hW =>
        keyOf_any c b off n cap now Z W HR.out n0 n1 HN.out (HAT.out.below (HB.out.trans (hW.mono (by omega))) hbs) HOK
      have hgr : g < wr.heap.size := by omega
      clear hpt HOK
      generalize kyP c now Z = Y at *
      generalize hE : keysK c now ps k = E at *
      go_upto_region 5 with fail
      go_cut [9] from 10 to 30 (fun v wx => ∃ P, v = .pointer (some ⟨P, 0, none⟩) ∧ wx.heap[P]? = some (.cells (kyC Y) 170 (0, 0)) ∧ wr.heap.size ≤ P ∧ Below wr.heap.size wr wx)
      case first =>
        go_region_with (first
          | (go_at_call 108; refine (HK.out wr.drew (Below.refl _ _).drew).mono ?_; rintro e w' ⟨rfl, hb'⟩; have HB' : Hid (Below wr.heap.size wr w') := ⟨hb'.os, hb'.tape, hb'.output, hb'.size, hb'.block⟩; clear hb')
          | (go_at_call 108; refine (HK.out (wr.alloc (.cells #[.int .i64 0, .int .u8 0, .int .u8 0, .int .u8 0] 170)).drew (((Below.refl _ _).alloc (Nat.le_refl _) _).drew)).mono ?_; rintro e w' ⟨rfl, hb'⟩; have hPw : w'.heap[wr.heap.size]? = some (.cells #[.int .i64 0, .int .u8 0, .int .u8 0, .int .u8 0] 170 (0, 0)) := (hb'.block wr.heap.size (by show wr.heap.size < (wr.alloc _).heap.size; simp)).trans (heap_alloc_new wr _); have HPw : Hid (w'.heap[wr.heap.size]? = some (.cells #[.int .i64 0, .int .u8 0, .int .u8 0, .int .u8 0] 170 (0, 0))) := hPw; have HB2 : Hid (Below wr.heap.size wr w') := ((Below.refl _ _).alloc (Nat.le_refl _) _).trans (Below.mono ⟨hb'.os, hb'.tape, hb'.output, hb'.size, hb'.block⟩ (by show wr.heap.size ≤ (wr.alloc _).heap.size; simp)); have q0 := cell_blk (o := 0) hPw rfl; have q1 := cell_blk (o := 1) hPw rfl; have q2 := cell_blk (o := 2) hPw rfl; have q3 := cell_blk (o := 3) hPw rfl; have qz := fun o => froz_blk (o := o) hPw; clear hb' hPw))
        all_goals go_wp2_with fail
        all_goals go_meet
        all_goals (case rel => first
          | (have h9 := set4_box (k := Y) HPw.out; exact ⟨wr.heap.size, rfl, h9, Nat.le_refl _, bel_set (bel_set (bel_set (bel_set HB2.out (Nat.le_refl _)) (Nat.le_refl _)) (Nat.le_refl _)) (Nat.le_refl _)⟩)
          | (have h9 := HB'.out.size; exact ⟨w'.heap.size, rfl, heap_alloc_new w' _, h9, HB'.out.alloc h9 _⟩))
      case rest =>
        obtain ⟨P, rfl, hP, hPl, hbc⟩ := hcut
        have hPc : P < wc.heap.size := (Array.getElem?_eq_some_iff.1 hP).1
        have HP : Hid (wc.heap[P]? = some (.cells (kyC Y) 170 (0, 0))) := hP
        have HOc : Hid (wc.ownsRow (w.heap.size + 1) 170 4 (.slice ea E.length ec) E.length (flatKy E)) := owns_below HO.out hbc (fun j e => (HO.out.lt j e).2)
        have HCc : Hid (wc.heap[w.heap.size]? = some (.cells (cfC c b off n cap) 40 (0, 0))) := (hbc.block _ hWr).trans HC.out
        have HBc : Hid (Below w.heap.size w wc) := HB.out.trans (hbc.mono (by omega))
        have z0 := cell_blk (o := 0) hP rfl
        have z1 := cell_blk (o := 1) hP rfl
        have z2 := cell_blk (o := 2) hP rfl
        have z3 := cell_blk (o := 3) hP rfl
        have hWc : w.heap.size < wc.heap.size := Nat.lt_of_lt_of_le hWr hbc.size
        clear hP hbc y0 y1 y2 y3 y4 y5 y6 y7 y8 y9 y10 y11 y12 y13 x0 x1 x2
        go_wp2_with fail
        refine (hasK_any ea E.length ec (w.heap.size + 1) E Y wc HOc.out rfl (by omega)).mono ?_
        rintro e w4 ⟨rfl, hb4⟩
        have HO4 : Hid (w4.ownsRow (w.heap.size + 1) 170 4 (.slice ea E.length ec) E.length (flatKy E)) := owns_below HOc.out hb4 (fun j e => (HOc.out.lt j e).2)
        have HC4 : Hid (w4.heap[w.heap.size]? = some (.cells (cfC c b off n cap) 40 (0, 0))) := (hb4.block _ hWc).trans HCc.out
        have HB4 : Hid (Below w.heap.size w w4) := HBc.out.trans (hb4.mono (by omega))
        have HP4 := (hb4.block _ hPc).trans HP.out
        have z0 := cell_blk (o := 0) HP4 rfl
        have z1 := cell_blk (o := 1) HP4 rfl
        have z2 := cell_blk (o := 2) HP4 rfl
        have z3 := cell_blk (o := 3) HP4 rfl
        have hP4 : P < w4.heap.size := Nat.lt_of_lt_of_le hPc hb4.size
        have hW4 : w.heap.size < w4.heap.size := Nat.lt_of_lt_of_le hWc hb4.size
        clear hb4 HP4
        cases hm : decide (Y ∈ E)
        · have HSN : Hid (keyA E Y = E ++ [Y]) := if_neg (of_decide_eq_false hm)
          clear hm
          go_wp2_with (refine listAppend rfl (.tmp 27) (.tmp 29) 168 rfl (w.heap.size + 1) 170 li0 (.agg #[.int .i64 0, .int .u8 0, .int .u8 0, .int .u8 0]) 4 16 Tryz.underlying168 hli lz0 lz1 lz2 rfl (by decide) (.slice ea E.length ec) E.length (flatKy E) (by simp [Act.eval]) (HO4.out.alloc _) ⟨w4.heap.size, 0, none⟩ 1 1 (Ky.cells Y) (by simp [Act.eval]) rfl (newAt _ (Ky.cells Y) 170 _ rfl) (Ky.one _) (by unfold maxLen; omega) (by omega) (by simp; omega) ?_; intro v' w5 hown hgrow hblk)
          have HOW5 : Hid (w5.ownsRow (w.heap.size + 1) 170 4 v' (keysK c now ps (k + 1)).length (flatKy (keysK c now ps (k + 1)))) := by
            show World.ownsRow _ _ _ _ _ _ _
            rw [HSU.out, HSN.out, List.length_append, show flatKy (E ++ [Y]) = flatKy E ++ Y.cells from flat_snoc _ _ _]
            exact hown
          have HB5 : Hid (Below w.heap.size w w5) := gr_below (HB4.out.alloc (by omega) _) hgrow (by simp; omega) (fun j e => by have := (HO4.out.lt j e).1; omega)
          have HC5 : Hid (w5.heap[w.heap.size]? = some (.cells (cfC c b off n cap) 40 (0, 0))) := by
            show _ = _
            rw [hgrow.block w.heap.size (by simp; omega) (fun e => by have := (HO4.out.lt _ e.symm).1; omega), Below.heap_alloc _ _ _ hW4]
            exact HC4.out
          clear hown hgrow hblk
          go_wp2_with fail
          exact ⟨⟨k + 1, by go_num, by omega, HOW5.out, HC5.out, HB5.out⟩, by simp [intOf]; omega⟩
        · have HSN : Hid (keyA E Y = E) := if_pos (of_decide_eq_true hm)
          clear hm
          go_wp2_with fail
          exact ⟨⟨k + 1, by go_num, by omega, by rw [HSU.out, HSN.out]; exact HO4.out, HC4.out, HB4.out⟩, by simp [intOf]; omega⟩
    · have hlt2 : ¬ (k : Int) < pn := by omega
      have hke : k = pn := by omega
      subst hke
      go_wp2_with fail
      go_ret
      exact ⟨rfl, HB.out⟩

end Go.Proofs.YthciddpljcbhiaaGreatDoor

/- Walks: Cells; what a store tells; do two stores tell the same (garnerkeep). -/
namespace Go.Proofs.YthciddpljcbhiaaGreatDoor
open Go Go.RowKit Go.Lib
attribute [local go_sem ↓] Go.wp_at_zero Go.wp_at_succ

set_option maxHeartbeats 1000000 in
theorem cells_any (X : Nat) (F : Nat → Prop) (s : St) (lg : ByteArray) (w : World) (h : StoreAt w X F s lg) : Calls Tryz.prog 51 #[.pointer (some ⟨X, 0, none⟩)] w fun e w' => e = .returned (.int .i64 (cellsN s : Int)) ∧ Below w.heap.size w w' := by
  obtain ⟨L, lcap, pv, bv, bk, gv, h⟩ := h
  obtain ⟨pa, pcap, rfl⟩ := ownForm h.pts
  have c0 := h.cell 0 _ rfl
  have c1 := h.cell 1 _ rfl
  have c2 := h.cell 2 _ rfl
  have c3 := h.cell 3 _ rfl
  have c5 := h.cell 5 _ rfl
  have HK : Hid (∀ d, Calls Tryz.prog 84 #[.agg (cfC s.c L 0 s.c.lvs.length lcap), .int .i64 s.now, .slice pa s.pts.length pcap] (w.drewN d) fun e w' => e = .returned (.int .i64 (cellsN s : Int)) ∧ Below w.heap.size w w') := fun d => by
    have hd : Below w.heap.size w (w.drewN d) := below_drewN (Below.refl _ _) d
    refine (count_any' s.c L 0 s.c.lvs.length lcap s.now pa s.pts.length pcap 0 s.pts (w.drewN d) h.inv.right h.inv.n0 h.inv.n1 rfl (h.lv.below hd h.Llt) (owns_drewN h.pts d) rfl (pts_len h.inv) (pts_ok h.inv)).mono ?_
    rintro e w' ⟨rfl, hb⟩
    exact ⟨rfl, hd.trans hb⟩
  have HK0 : Hid (Calls Tryz.prog 84 #[.agg (cfC s.c L 0 s.c.lvs.length lcap), .int .i64 s.now, .slice pa s.pts.length pcap] w.drew fun e w' => e = .returned (.int .i64 (cellsN s : Int)) ∧ Below w.heap.size w w') := by
    have hd : Below w.heap.size w w.drew := (Below.refl _ _).drew
    refine (count_any' s.c L 0 s.c.lvs.length lcap s.now pa s.pts.length pcap 0 s.pts w.drew h.inv.right h.inv.n0 h.inv.n1 rfl (h.lv.below hd h.Llt) (owns_drew h.pts) rfl (pts_len h.inv) (pts_ok h.inv)).mono ?_
    rintro e w' ⟨rfl, hb⟩
    exact ⟨rfl, hd.trans hb⟩
  clear h
  go_enter Tryz.func51, Tryz.ntmps51
  go_wp2_with fail
  go_region_with (go_at_call 84; refine HK0.out.mono ?_; rintro e w' ⟨rfl, hb⟩)
  all_goals go_wp2_with fail
  all_goals go_ret
  all_goals exact ⟨rfl, hb⟩

end Go.Proofs.YthciddpljcbhiaaGreatDoor

/- Walks: the document's series of all samples (garnerref): the walk. -/
namespace Go.Proofs.YthciddpljcbhiaaGreatDoor
open Go Go.RowKit Go.Lib

theorem admRow_nil (lvs : List Lv) : ∀ now, admRow lvs [] now = admRow lvs (List.replicate lvs.length []) now := by
  induction lvs with
  | nil => intro now; rfl
  | cons lv lvs ih =>
    intro now
    show (if now = over then [] :: admRow lvs [] over else if madeL lv.rule now ∈ ([] : List Lb) then [] :: admRow lvs [] (madeL lv.rule now) else if (([] : List Lb).length : Int) < lv.limit then ([] ++ [madeL lv.rule now]) :: admRow lvs [] (madeL lv.rule now) else [] :: admRow lvs [] over) = _
    rw [ih, ih]
    rfl
theorem serNow_nil (lvs : List Lv) : ∀ now, serNow lvs [] now = serNow lvs (List.replicate lvs.length []) now := by
  induction lvs with
  | nil => intro now; rfl
  | cons lv lvs ih =>
    intro now
    show (if now = over then over :: serNow lvs [] over else if madeL lv.rule now ∈ ([] : List Lb) then madeL lv.rule now :: serNow lvs [] (madeL lv.rule now) else if (([] : List Lb).length : Int) < lv.limit then madeL lv.rule now :: serNow lvs [] (madeL lv.rule now) else over :: serNow lvs [] over) = _
    rw [ih, ih]
    rfl
/-- What is admitted behind the first k samples, and their series. -/
def admK (lvs : List Lv) (l : List Sm) (k : Nat) : List (List Lb) := admAll lvs (List.replicate lvs.length []) (l.take k)
def serK (lvs : List Lv) (l : List Sm) (k : Nat) : List (List Lb) := serAll lvs (List.replicate lvs.length []) (l.take k)
theorem serK_all (lvs : List Lv) (l : List Sm) : serK lvs l l.length = serAll lvs [] l := by
  unfold serK
  rw [List.take_length]
  cases l with
  | nil => rfl
  | cons x l =>
    show serNow lvs (List.replicate lvs.length []) x.lb :: serAll lvs (admRow lvs (List.replicate lvs.length []) x.lb) l = serNow lvs [] x.lb :: serAll lvs (admRow lvs [] x.lb) l
    rw [← serNow_nil, ← admRow_nil]
theorem admK_len (lvs : List Lv) (l : List Sm) (k : Nat) : (admK lvs l k).length = lvs.length := by
  unfold admK
  have : ∀ (l : List Sm) (A : List (List Lb)), A.length = lvs.length → (admAll lvs A l).length = lvs.length := by
    intro l
    induction l with
    | nil => intro A h; exact h
    | cons x l ih => intro A h; exact ih _ (admRow_len _ _ _)
  exact this _ _ (by simp)
theorem admK_succ (lvs : List Lv) (l : List Sm) (k : Nat) (h : k < l.length) : admK lvs l (k + 1) = admRow lvs (admK lvs l k) (smG l k).lb := by
  unfold admK
  rw [List.take_succ_eq_append_getElem h, admAll_append, smG_get l k h]
  rfl
theorem serK_succ (lvs : List Lv) (l : List Sm) (k : Nat) (h : k < l.length) : serK lvs l (k + 1) = serK lvs l k ++ [serNow lvs (admK lvs l k) (smG l k).lb] := by
  unfold serK admK
  rw [List.take_succ_eq_append_getElem h, serAll_append, smG_get l k h]
  rfl
theorem admK_fits (lvs : List Lv) (l : List Sm) (hl : ∀ j, j < lvs.length → 1 ≤ (lvG lvs j).limit) : ∀ k, k ≤ l.length → Fits lvs (admK lvs l k)
  | 0, _ => by
    intro j hj
    have : aG (admK lvs l 0) j = [] := by
      show aG (List.replicate lvs.length []) j = []
      simp [aG, List.getD, hj]
    rw [this]
    have := hl j hj
    simp; omega
  | k + 1, h => by
    have h1 := admK_fits lvs l hl k (by omega)
    rw [admK_succ lvs l k (by omega)]
    have h2 := runA_fits lvs (admK lvs l k) (smG l k).lb (admK_len _ _ _) h1 lvs.length (Nat.le_refl _)
    rw [(runA_all lvs (admK lvs l k) (smG l k).lb (admK_len _ _ _)).1] at h2
    exact h2
theorem right_more {c : Cf} (h : c.right = true) : ∀ j, j < c.lvs.length → (lvG c.lvs j).rule.size = 3 ∧ 1 ≤ (lvG c.lvs j).limit ∧ (lvG c.lvs j).limit ≤ 20 := by
  simp only [Cf.right, rightB, Bool.and_eq_true, decide_eq_true_eq] at h
  obtain ⟨_, h9⟩ := h
  intro j hj
  have s := (okSer_iff _ _).1 (List.all_eq_true.1 h9 j (List.mem_range.2 hj))
  refine ⟨?_, s.2.1, s.2.2⟩
  by_cases h3 : (lvG c.lvs j).rule.size = 3
  · exact h3
  · have := ruleB_size h3
    rw [this] at s
    exact absurd s.1 (by simp)
theorem set_aG (A : List (List Lb)) (j : Nat) (h : j < A.length) : A.set j (aG A j) = A := by
  apply List.ext_getElem?
  intro i
  rw [List.getElem?_set]
  by_cases e : j = i
  · subst e; simp [h, aG, List.getD]
  · simp [e]
theorem lbC_one (m : Lb) : ∀ u ∈ lbC m, u.oneCell' = true := by
  intro u hu
  simp [lbC] at hu
  rcases hu with rfl | rfl | rfl <;> rfl
/-- The rows of series as they came out. -/
def SerAt (w : World) (base : Nat) (ov : Value) (rs : List Value) (S : List (List Lb)) (n : Nat) : Prop :=
  w.ownsRow 0 144 1 ov rs.length rs ∧ rs.length = S.length ∧ (∀ k, ov.ownBlock = some k → base ≤ k) ∧ ∀ i, i < rs.length → ∃ b cap, vG rs i = .slice (some ⟨b, 0, none⟩) n cap ∧ base ≤ b ∧ At w b 0 (flatL (aG S i)) ∧ (aG S i).length = n
theorem SrS.ser {w : World} {base : Nat} {ow : Nat → Nat} {G : Nat} {vs : List Value} {L : List (List Lb)} {ov : Value} {rs : List Value} {S : List (List Lb)} {n : Nat} (h : SrS w base ow G vs L ov rs S n) : SerAt w base ov rs S n := by
  have hb : ∀ k, ow k ≠ 0 → base ≤ k := fun k hk => by
    by_cases hlt : k < base
    · exact absurd (h.low k hlt) hk
    · omega
  refine ⟨h.orow, h.lS, fun k e => hb k (by rw [h.oO k e]; omega), fun i hi => ?_⟩
  obtain ⟨b, cap, e1, e2, e3, e4⟩ := h.row i hi
  exact ⟨b, cap, e1, hb b (by omega), e3, e4⟩
theorem SrS.new (w : World) (n : Nat) : SrS (w.alloc (.cells (List.replicate n (.slice none 0 0)).toArray 144)) w.heap.size (fun k => if k = w.heap.size then 1 else 0) w.heap.size (List.replicate n (.slice none 0 0)) (List.replicate n []) (.slice none 0 0) [] [] n := by
  have hn : ∀ (k : Nat), (Value.slice none 0 0).ownBlock ≠ some k := fun k => by simp [Value.ownBlock]
  have hv : ∀ j, vG (List.replicate n (.slice none 0 0)) j = .slice none 0 0 := fun j => by
    unfold vG
    simp only [List.getD, List.getElem?_replicate]
    split <;> rfl
  have ha : ∀ j, aG (List.replicate n []) j = [] := fun j => by
    unfold aG
    simp only [List.getD, List.getElem?_replicate]
    split <;> rfl
  exact {
    out := fun k hk => by
      rw [World.size_alloc] at hk
      exact if_neg (by omega)
    low := fun k hk => if_neg (by omega)
    bas := by rw [World.size_alloc]; omega
    blk := heap_alloc_new _ _
    lv := by simp
    lL := by simp
    oG := if_pos rfl
    adm := fun j _ => by rw [hv, ha]; exact World.ownsRow_nil _ _ _ _
    oA := fun j _ k e => by rw [hv] at e; exact absurd e (hn k)
    orow := World.ownsRow_nil _ _ _ _
    oO := fun k e => absurd e (hn k)
    lS := rfl
    row := fun i hi => by simp at hi }

set_option maxHeartbeats 4000000 in
set_option maxRecDepth 100000 in
theorem series_ref (R : Nat) (F : Nat → Prop) (c : Cf) (ps : List Cp) (L lcap : Nat) (cv : Value) (a : Option Addr) (m cap : Nat) (l : List Sm) (w : World) (h : RfS w R F c ps L lcap cv) (hs : IsSms w a m l) (hm : m ≤ 500) (hlab : ∀ x ∈ l, lab3 x.l0 x.l1 x.l2 = true) (hov : OvAt w) :
    Calls Tryz.prog 80 #[.pointer (some ⟨R, 0, none⟩), .slice a m cap] w fun e w' => ∃ ov rs, e = .returned ov ∧ SerAt w' w.heap.size ov rs (serAll c.lvs [] l) c.lvs.length ∧ Below w.heap.size w w' := by
  obtain ⟨_, _, _, _, l1, l4, hlv⟩ := Cf.right_parts (rf_right h)
  have HRUL : Hid (∀ j, j < c.lvs.length → (lvG c.lvs j).rule.size = 3 ∧ 1 ≤ (lvG c.lvs j).limit ∧ (lvG c.lvs j).limit ≤ 20) := right_more (rf_right h)
  have HRF : Hid (RfS w R F c ps L lcap cv) := h
  have HS : Hid (IsSms w a m l) := hs
  have HML : Hid (l.length = m) := hs.1
  have HLAB : Hid (∀ x ∈ l, lab3 x.l0 x.l1 x.l2 = true) := hlab
  have HOV : Hid (OvAt w) := hov
  have hpos := hov.pos
  have c2 := h.cell 2 _ rfl
  have HFIT : Hid (∀ k, k ≤ l.length → Fits c.lvs (admK c.lvs l k)) := admK_fits c.lvs l (fun j hj => (hlv j hj).2.2.2)
  obtain ⟨Z, hZ⟩ : ∃ Z, Z = (List.replicate c.lvs.length (Value.slice none 0 0)).toArray := ⟨_, rfl⟩
  have hmk := make140 c.lvs.length (by omega)
  have HNEW : Hid (SrS (w.alloc (.cells Z 144)) w.heap.size (fun k => if k = w.heap.size then 1 else 0) w.heap.size (List.replicate c.lvs.length (.slice none 0 0)) (admK c.lvs l 0) (.slice none 0 0) [] (serK c.lvs l 0) c.lvs.length) := by rw [hZ]; exact SrS.new w c.lvs.length
  rw [← hZ] at hmk
  have HBN : Hid (Below w.heap.size w (w.alloc (.cells Z 144))) := (Below.refl _ _).alloc (Nat.le_refl _) _
  obtain ⟨li0, hli, lz0, lz1, lz2⟩ := infP Tryz.info42'
  obtain ⟨ri0, hri, rz0, rz1, rz2⟩ := infP Tryz.info144'
  clear h hs hlab hov hlv hZ
  go_enter Tryz.func80, Tryz.ntmps80
  go_wp2_with fail
  generalize hN : c.lvs.length = n at *
  go_loopw [6, 7] (fun ov i wr => ∃ (k : Nat) (ow : Nat → Nat) (vs rs : List Value), i = .int .i64 k ∧ k ≤ m ∧ SrS wr w.heap.size ow w.heap.size vs (admK c.lvs l k) ov rs (serK c.lvs l k) n ∧ Below w.heap.size w wr) (fun _ i _ => m - (intOf i).toNat)
  case atStart => exact ⟨0, _, _, _, rfl, Nat.zero_le _, HNEW.out, HBN.out⟩
  case round =>
    obtain ⟨k, ow, vs, rs, rfl, hk, hsr, hbe⟩ := hrel
    rename World => V
    have HSR : Hid (SrS V w.heap.size ow w.heap.size vs (admK c.lvs l k) u6 rs (serK c.lvs l k) n) := hsr
    have HBE : Hid (Below w.heap.size w V) := hbe
    clear hsr hbe HNEW HBN
    by_cases hlt : k < m
    · obtain ⟨b, off, rfl, hat⟩ := HS.out.2 (by omega)
      obtain ⟨_, s1, s2, s3, _⟩ := hat k (by rw [HML.out]; exact hlt)
      have hbw : b < w.heap.size := hat.block (by rw [HML.out]; omega)
      have hlb : lab3 (smG l k).l0 (smG l k).l1 (smG l k).l2 = true := HLAB.out _ (by rw [smG_get l k (by rw [HML.out]; exact hlt)]; exact List.getElem_mem _)
      have y1 : V.cell? ⟨b, off + k * 5 + 1, none⟩ = some (.int .u8 (smG l k).l0) := (HBE.out.cell (p := ⟨b, off + k * 5 + 1, none⟩) hbw).trans s1
      have y2 : V.cell? ⟨b, off + k * 5 + 2, none⟩ = some (.int .u8 (smG l k).l1) := (HBE.out.cell (p := ⟨b, off + k * 5 + 2, none⟩) hbw).trans s2
      have y3 : V.cell? ⟨b, off + k * 5 + 3, none⟩ = some (.int .u8 (smG l k).l2) := (HBE.out.cell (p := ⟨b, off + k * 5 + 3, none⟩) hbw).trans s3
      have hzV := HBE.out.size
      have hbV : Below V.heap.size V (V.alloc (.cells #[.int .u8 (smG l k).l0, .int .u8 (smG l k).l1, .int .u8 (smG l k).l2] 42)) := (Below.refl _ _).alloc (Nat.le_refl _) _
      have HIN : Hid (LvIn (V.alloc (.cells #[.int .u8 (smG l k).l0, .int .u8 (smG l k).l1, .int .u8 (smG l k).l2] 42)) w.heap.size (upd ow V (V.alloc (.cells #[.int .u8 (smG l k).l0, .int .u8 (smG l k).l1, .int .u8 (smG l k).l2] 42)) 5) w.heap.size vs (runA c.lvs (admK c.lvs l k) (smG l k).lb 0).1 u6 rs (serK c.lvs l k) n V.heap.size (runA c.lvs (admK c.lvs l k) (smG l k).lb 0).2.1 (.slice none 0 0) (runA c.lvs (admK c.lvs l k) (smG l k).lb 0).2.2) :=
        { sr := HSR.out.other (.inr rfl) (Fr.of_below hbV), nb := heap_alloc_new _ _, oN := by unfold upd; rw [if_pos ⟨Nat.le_refl _, by rw [World.size_alloc]; omega⟩], rw' := World.ownsRow_nil _ _ _ _, oR := fun k e => by simp [Value.ownBlock] at e }
      have HBV : Hid (Below w.heap.size w (V.alloc (.cells #[.int .u8 (smG l k).l0, .int .u8 (smG l k).l1, .int .u8 (smG l k).l2] 42))) := HBE.out.trans (hbV.mono hzV)
      clear hat s1 s2 s3 hbV
      go_wp2_with fail
      go_loopw [8, 10] (fun rv j wx => ∃ (jj : Nat) (ow' : Nat → Nat) (vs' : List Value), j = .int .i64 jj ∧ jj ≤ n ∧ LvIn wx w.heap.size ow' w.heap.size vs' (runA c.lvs (admK c.lvs l k) (smG l k).lb jj).1 u6 rs (serK c.lvs l k) n V.heap.size (runA c.lvs (admK c.lvs l k) (smG l k).lb jj).2.1 rv (runA c.lvs (admK c.lvs l k) (smG l k).lb jj).2.2 ∧ Below w.heap.size w wx) (fun _ j _ => n - (intOf j).toNat)
      case atStart => exact ⟨0, _, _, rfl, Nat.zero_le _, HIN.out, HBV.out⟩
      case round =>
        obtain ⟨jj, ow', vs', rfl, hj, hin, hbx⟩ := hrel
        rename World => wx
        have HI : Hid (LvIn wx w.heap.size ow' w.heap.size vs' (runA c.lvs (admK c.lvs l k) (smG l k).lb jj).1 u6 rs (serK c.lvs l k) n V.heap.size (runA c.lvs (admK c.lvs l k) (smG l k).lb jj).2.1 u8 (runA c.lvs (admK c.lvs l k) (smG l k).lb jj).2.2) := hin
        have HBX : Hid (Below w.heap.size w wx) := hbx
        clear hin hbx HIN HBV
        have d2 : wx.cell? ⟨R, 2, none⟩ = some (.slice (some ⟨L, 0, none⟩) n lcap) := by have h9 : wx.cell? ⟨R, 2, none⟩ = some (.slice (some ⟨L, 0, none⟩) c.lvs.length lcap) := (HRF.out.below HBX.out).cell 2 _ rfl; rw [hN] at h9; exact h9
        by_cases hlj : jj < n
        · have HSUC : Hid (runA c.lvs (admK c.lvs l k) (smG l k).lb (jj + 1) = ((runA c.lvs (admK c.lvs l k) (smG l k).lb jj).1.set jj (stpA (lvG c.lvs jj) (aG (runA c.lvs (admK c.lvs l k) (smG l k).lb jj).1 jj) (runA c.lvs (admK c.lvs l k) (smG l k).lb jj).2.1), stpN (lvG c.lvs jj) (aG (runA c.lvs (admK c.lvs l k) (smG l k).lb jj).1 jj) (runA c.lvs (admK c.lvs l k) (smG l k).lb jj).2.1, (runA c.lvs (admK c.lvs l k) (smG l k).lb jj).2.2 ++ [stpN (lvG c.lvs jj) (aG (runA c.lvs (admK c.lvs l k) (smG l k).lb jj).1 jj) (runA c.lvs (admK c.lvs l k) (smG l k).lb jj).2.1])) := rfl
          have hfit : (((aG (runA c.lvs (admK c.lvs l k) (smG l k).lb jj).1 jj).length : Nat) : Int) ≤ (lvG c.lvs jj).limit := runA_fits c.lvs _ _ (by rw [admK_len]) (HFIT.out k (by rw [HML.out]; omega)) jj (by omega) jj (by omega)
          have hpl : (runA c.lvs (admK c.lvs l k) (smG l k).lb jj).2.2.length = jj := (runA_len _ _ _ jj).2
          have hokN : okS (runA c.lvs (admK c.lvs l k) (smG l k).lb jj).2.1 := runA_ok _ _ _ (.inr hlb) jj
          obtain ⟨hr3, hl1, hl20⟩ := HRUL.out jj (by omega)
          obtain ⟨_, _, a2, a3⟩ := (HRF.out.below HBX.out).lv jj (by omega)
          simp only [Nat.zero_add] at a2 a3
          obtain ⟨g0, g1, g2⟩ := HOV.out.below HBX.out hpos
          generalize runA c.lvs (admK c.lvs l k) (smG l k).lb jj = ra at *
          obtain ⟨A', nw, pre⟩ := ra
          simp only at HI HSUC hfit hpl hokN
          have n0 : wx.cell? ⟨V.heap.size, 0, none⟩ = some (.int .u8 nw.a) := cell_blk HI.out.nb rfl
          have n1 : wx.cell? ⟨V.heap.size, 1, none⟩ = some (.int .u8 nw.b) := cell_blk HI.out.nb rfl
          have n2 : wx.cell? ⟨V.heap.size, 2, none⟩ = some (.int .u8 nw.c) := cell_blk HI.out.nb rfl
          have hjI : (jj : Int) < (n : Int) := by omega
          have heq := fun w => eq26 9998 nw.a nw.b nw.c 42 42 42 w
          rw [show (nw.a == 42 && nw.b == 42 && nw.c == 42) = decide (nw = over) from lb_beq over nw] at heq
          obtain ⟨bd, hbd⟩ : ∃ bd, bd = decide (nw = over) := ⟨_, rfl⟩
          rw [← hbd] at heq
          have HBD : Hid (bd = decide (nw = over)) := hbd
          clear hbd
          go_upto_if 42 with fail
          go_cut [] from 30 to 92 (fun wz => ∃ (ow2 : Nat → Nat) (vs2 : List Value), LvIn wz w.heap.size ow2 w.heap.size vs2 (A'.set jj (stpA (lvG c.lvs jj) (aG A' jj) nw)) u6 rs (serK c.lvs l k) n V.heap.size (stpN (lvG c.lvs jj) (aG A' jj) nw) u8 pre ∧ Below w.heap.size w wz)
          case first =>
            have HJA : Hid (jj < A'.length) := by show _ < _; rw [HI.out.sr.lL]; exact hlj
            cases bd
            case true =>
              have HR : Hid (stpA (lvG c.lvs jj) (aG A' jj) nw = aG A' jj ∧ stpN (lvG c.lvs jj) (aG A' jj) nw = nw) := by
                have hov : nw = over := by simpa using HBD.out.symm
                exact ⟨if_pos hov, by unfold stpN; rw [if_pos hov]; exact hov.symm⟩
              go_wp2_with fail
              go_meet
              case rel => exact ⟨ow', vs', by rw [HR.out.1, HR.out.2, set_aG _ _ HJA.out]; exact HI.out, HBX.out⟩
            case false =>
              have HNO : Hid (¬ nw = over) := by show ¬ _; simpa using HBD.out.symm
              have hlab : lab3 nw.a nw.b nw.c = true := hokN.resolve_left HNO.out
              have z0 : wx.frozen? ⟨V.heap.size, 0, none⟩ = false := froz_blk HI.out.nb
              have z1 : wx.frozen? ⟨V.heap.size, 1, none⟩ = false := froz_blk HI.out.nb
              have z2 : wx.frozen? ⟨V.heap.size, 2, none⟩ = false := froz_blk HI.out.nb
              have hNl := HI.out.Nlt
              have HMD := fun W => made_any (lvG c.lvs jj).rule nw.a nw.b nw.c W hr3 hlab
              have HMM : Hid (∀ W, Calls Tryz.prog 63 #[.string (lvG c.lvs jj).rule, .agg #[.int .u8 nw.a, .int .u8 nw.b, .int .u8 nw.c]] W fun e w' => e = .returned (.agg #[.int .u8 (madeL (lvG c.lvs jj).rule nw).a, .int .u8 (madeL (lvG c.lvs jj).rule nw).b, .int .u8 (madeL (lvG c.lvs jj).rule nw).c]) ∧ w' = (W.alloc (c3 (madeL (lvG c.lvs jj).rule nw).a (madeL (lvG c.lvs jj).rule nw).b (madeL (lvG c.lvs jj).rule nw).c)).alloc (c3 (madeL (lvG c.lvs jj).rule nw).a (madeL (lvG c.lvs jj).rule nw).b (madeL (lvG c.lvs jj).rule nw).c)) := HMD
              clear HMD
              generalize hMM : madeL (lvG c.lvs jj).rule nw = mm at *
              go_upto_region 12 with fail
              go_cut [] from 30 to 92 (fun wz => LvIn wz w.heap.size ow' w.heap.size vs' A' u6 rs (serK c.lvs l k) n V.heap.size mm u8 pre ∧ Below w.heap.size w wz)
              case first =>
                go_region_with (go_at_call 63; refine (HMM.out _).mono ?_; rintro e w' ⟨rfl, rfl⟩)
                all_goals go_wp2_with fail
                all_goals go_meet
                all_goals (case rel => exact ⟨(HI.out.setB mm _ _).1, HBX.out.trans (HI.out.setB mm _ _).2⟩)
              case rest =>
                obtain ⟨hin2, hb2⟩ := hcut
                have HI2 : Hid (LvIn wc w.heap.size ow' w.heap.size vs' A' u6 rs (serK c.lvs l k) n V.heap.size mm u8 pre) := hin2
                have HB2 : Hid (Below w.heap.size w wc) := hb2
                have hadm := hin2.sr.adm jj hlj
                obtain ⟨va, vcap, ev⟩ := ownForm hadm
                have cj : wc.cell? ⟨w.heap.size, jj, none⟩ = some (.slice va (aG A' jj).length vcap) := by
                  rw [← ev]
                  exact cell_blk hin2.sr.blk (by rw [List.getElem?_toArray]; exact vG_get _ _ (by rw [hin2.sr.lv]; exact hlj))
                have m0 : wc.cell? ⟨V.heap.size, 0, none⟩ = some (.int .u8 mm.a) := cell_blk hin2.nb rfl
                have m1 : wc.cell? ⟨V.heap.size, 1, none⟩ = some (.int .u8 mm.b) := cell_blk hin2.nb rfl
                have m2 : wc.cell? ⟨V.heap.size, 2, none⟩ = some (.int .u8 mm.c) := cell_blk hin2.nb rfl
                have HEV : Hid (vG vs' jj = .slice va (aG A' jj).length vcap) := ev
                have hlenA : (aG A' jj).length ≤ 20 := by omega
                have HATA : Hid (∀ W, Below wc.heap.size wc W → 0 < (aG A' jj).length → ∃ b off, va = some ⟨b, off, none⟩ ∧ At W b off (flatL (aG A' jj))) := fun W hW h0 => by
                  rw [ev] at hadm
                  obtain ⟨g, cap', e', _, _, _⟩ := ownBlockForm hadm h0
                  injection e' with e1 _ _
                  subst e1
                  exact ⟨g, 0, rfl, fun i v hi => (hW.cell (p := ⟨g, 0 + i, none⟩) (World.block_lt_of_cell? wc _ (owns_at hadm i v hi))).trans (owns_at hadm i v hi)⟩
                clear hin2 hb2 hadm ev n0 n1 n2 z0 z1 z2 g0 g1 g2 d2 a2 a3 hNl HMM HI HBX
                have q0 : wc.drew.cell? ⟨w.heap.size, jj, none⟩ = some (.slice va (aG A' jj).length vcap) := cj
                have q1 : wc.drew.cell? ⟨V.heap.size, 0, none⟩ = some (.int .u8 mm.a) := m0
                have q2 : wc.drew.cell? ⟨V.heap.size, 1, none⟩ = some (.int .u8 mm.b) := m1
                have q3 : wc.drew.cell? ⟨V.heap.size, 2, none⟩ = some (.int .u8 mm.c) := m2
                have hGl : w.heap.size < wc.drew.heap.size := HI2.out.sr.Glt
                have hNl2 : V.heap.size < wc.drew.heap.size := HI2.out.Nlt
                have hJI : (jj : Int) < (n : Int) := by omega
                go_upto_region 13 with fail
                go_cut [11] from 30 to 92 (fun v wz => v = .bool (decide (mm ∈ aG A' jj)) ∧ LvIn wz w.heap.size ow' w.heap.size vs' A' u6 rs (serK c.lvs l k) n V.heap.size mm u8 pre ∧ Below w.heap.size w wz)
                case first =>
                  go_region_held3 (fun w' => w'.cell? ⟨w.heap.size, jj, none⟩ = some (.slice va (aG A' jj).length vcap) ∧ w'.cell? ⟨V.heap.size, 0, none⟩ = some (.int .u8 mm.a) ∧ w'.cell? ⟨V.heap.size, 1, none⟩ = some (.int .u8 mm.b) ∧ w'.cell? ⟨V.heap.size, 2, none⟩ = some (.int .u8 mm.c)) (first | exact ⟨q0, q1, q2, q3⟩ | exact ⟨y0, y1', y2', y3'⟩)
                    (first | (go_at_call 106; refine (among_ref va (aG A' jj).length vcap (aG A' jj) mm _ rfl (HATA.out _ (Below.refl _ _).drew) (by omega)).mono ?_; rintro e w' ⟨rfl, hb'⟩; have y0 := (hb'.cell (p := ⟨w.heap.size, jj, none⟩) hGl).trans q0; have y1' := (hb'.cell (p := ⟨V.heap.size, 0, none⟩) hNl2).trans q1; have y2' := (hb'.cell (p := ⟨V.heap.size, 1, none⟩) hNl2).trans q2; have y3' := (hb'.cell (p := ⟨V.heap.size, 2, none⟩) hNl2).trans q3))
                  all_goals go_wp2_with fail
                  all_goals go_meet
                  all_goals (case rel => exact ⟨rfl, HI2.out.below ⟨hb'.os, hb'.tape, hb'.output, hb'.size, hb'.block⟩, HB2.out.trans (Below.mono ⟨hb'.os, hb'.tape, hb'.output, hb'.size, hb'.block⟩ HI2.out.sr.bas)⟩)
                case rest =>
                  obtain ⟨rfl, hin3, hb3⟩ := hcut
                  clear q0 q1 q2 q3 cj m0 m1 m2 hGl hNl2 HATA HI2 HB2
                  rename World => we
                  have HI3 : Hid (LvIn we w.heap.size ow' w.heap.size vs' A' u6 rs (serK c.lvs l k) n V.heap.size mm u8 pre) := hin3
                  have HB3 : Hid (Below w.heap.size w we) := hb3
                  clear hin3 hb3
                  generalize hbm : decide (mm ∈ aG A' jj) = bm at *
                  have HBM : Hid (decide (mm ∈ aG A' jj) = bm) := hbm
                  clear hbm
                  cases bm
                  case true =>
                    have HR : Hid (stpA (lvG c.lvs jj) (aG A' jj) nw = aG A' jj ∧ stpN (lvG c.lvs jj) (aG A' jj) nw = mm) := by
                      have hmem : madeL (lvG c.lvs jj).rule nw ∈ aG A' jj := by rw [hMM]; simpa using HBM.out
                      exact ⟨by unfold stpA; rw [if_neg HNO.out, if_pos hmem], by unfold stpN; rw [if_neg HNO.out, if_pos hmem, hMM]⟩
                    go_wp2_with fail
                    go_meet
                    case rel => exact ⟨ow', vs', by rw [HR.out.1, HR.out.2, set_aG _ _ HJA.out]; exact HI3.out, HB3.out⟩
                  case false =>
                    have hadm := HI3.out.sr.adm jj hlj
                    rw [HEV.out] at hadm
                    have cj : we.cell? ⟨w.heap.size, jj, none⟩ = some (.slice va (aG A' jj).length vcap) := by
                      rw [← HEV.out]
                      exact cell_blk HI3.out.sr.blk (by rw [List.getElem?_toArray]; exact vG_get _ _ (by rw [HI3.out.sr.lv]; exact hlj))
                    have e2 : we.cell? ⟨R, 2, none⟩ = some (.slice (some ⟨L, 0, none⟩) n lcap) := by have h9 : we.cell? ⟨R, 2, none⟩ = some (.slice (some ⟨L, 0, none⟩) c.lvs.length lcap) := (HRF.out.below HB3.out).cell 2 _ rfl; rw [hN] at h9; exact h9
                    obtain ⟨_, _, _, a3⟩ := (HRF.out.below HB3.out).lv jj (by omega)
                    simp only [Nat.zero_add] at a3
                    have HADM : Hid (we.ownsRow 0 42 3 (.slice va (aG A' jj).length vcap) (aG A' jj).length (flatL (aG A' jj))) := hadm
                    clear hadm
                    go_upto_region 16 with fail
                    go_cut [63] from 30 to 92 (fun v wz => v = .bool (decide (((aG A' jj).length : Int) < (lvG c.lvs jj).limit)) ∧ ∃ d, wz = we.drewN d)
                    case first =>
                      go_quiet (fail)
                      go_wp2_with fail
                      go_meet
                      case rel => exact ⟨rfl, _, rfl⟩
                    case rest =>
                      obtain ⟨rfl, dd, hwc⟩ := hcut
                      have HI4 : Hid (LvIn wc w.heap.size ow' w.heap.size vs' A' u6 rs (serK c.lvs l k) n V.heap.size mm u8 pre) := by rw [hwc]; exact HI3.out.below (below_drewN (Below.refl _ _) _)
                      have HB4 : Hid (Below w.heap.size w wc) := by rw [hwc]; exact below_drewN HB3.out _
                      have cj4 : wc.cell? ⟨w.heap.size, jj, none⟩ = some (.slice va (aG A' jj).length vcap) := by rw [hwc]; exact cj
                      have HADM4 : Hid (wc.ownsRow 0 42 3 (.slice va (aG A' jj).length vcap) (aG A' jj).length (flatL (aG A' jj))) := by rw [hwc]; exact HADM.out
                      clear hwc HI3 HB3 cj e2 a3 HADM
                      generalize hbl : decide (((aG A' jj).length : Int) < (lvG c.lvs jj).limit) = bl at *
                      have HBL : Hid (decide (((aG A' jj).length : Int) < (lvG c.lvs jj).limit) = bl) := hbl
                      clear hbl
                      cases bl
                      case true =>
                        have HR : Hid (stpA (lvG c.lvs jj) (aG A' jj) nw = aG A' jj ++ [mm] ∧ stpN (lvG c.lvs jj) (aG A' jj) nw = mm) := by
                          have hmem : ¬ madeL (lvG c.lvs jj).rule nw ∈ aG A' jj := by rw [hMM]; simpa using HBM.out
                          have hlim : ((aG A' jj).length : Int) < (lvG c.lvs jj).limit := by simpa using HBL.out
                          exact ⟨by unfold stpA; rw [if_neg HNO.out, if_neg hmem, if_pos hlim, hMM], by unfold stpN; rw [if_neg HNO.out, if_neg hmem, if_pos hlim, hMM]⟩
                        have m0 : wc.cell? ⟨V.heap.size, 0, none⟩ = some (.int .u8 mm.a) := cell_blk HI4.out.nb rfl
                        have m1 : wc.cell? ⟨V.heap.size, 1, none⟩ = some (.int .u8 mm.b) := cell_blk HI4.out.nb rfl
                        have m2 : wc.cell? ⟨V.heap.size, 2, none⟩ = some (.int .u8 mm.c) := cell_blk HI4.out.nb rfl
                        have fz : wc.frozen? ⟨w.heap.size, jj, none⟩ = false := froz_blk HI4.out.sr.blk
                        have hGl := HI4.out.sr.Glt
                        have HGV : Hid ((Value.slice va (aG A' jj).length vcap).ownBlock ≠ some w.heap.size) := fun e => by
                          rw [← HEV.out] at e
                          have h1 := HI4.out.sr.oA jj hlj _ e
                          have h2 := HI4.out.sr.oG
                          omega
                        have hMl : (aG A' jj).length ≤ 20 := hlenA
                        go_upto_region 17 with fail
                        go_region_law (refine stepAppend rfl (.tmp 84) (.tmp 86) 144 rfl 0 42 li0 (.agg #[.int .u8 0, .int .u8 0, .int .u8 0]) 3 3 Tryz.underlying144 hli lz0 lz1 lz2 rfl (by decide) (.slice va (aG A' jj).length vcap) (aG A' jj).length (flatL (aG A' jj)) (by simp [Act.eval]) (HADM4.out.alloc _) ⟨wc.heap.size, 0, none⟩ 1 1 (lbC mm) (by simp [Act.eval]) rfl (newAt _ (lbC mm) 42 _ rfl) (lbC_one mm) (by unfold maxLen; omega) (by omega) (Nat.zero_le _) ?_; intro v' w3 hown' hgrow hblk; have qX3 : w3.cell? ⟨w.heap.size, jj, none⟩ = some (.slice va (aG A' jj).length vcap) := hgrow.cell (cell_alloc1 cj4) (fun e => HGV.out e.symm); have fX3 : w3.frozen? ⟨w.heap.size, jj, none⟩ = false := (World.frozen?_of_block (hgrow.block w.heap.size (by simp; omega) (fun e => HGV.out e.symm))).trans (frozen_alloc1 hGl fz); obtain ⟨a', p', rfl⟩ := ownForm hown')
                        all_goals (have hg' := gr_undrew hgrow)
                        all_goals (have HL5 : Hid (LvIn (w3.setCell ⟨w.heap.size, jj, none⟩ (.slice a' ((aG A' jj).length + 1) p')) w.heap.size (upd ow' (wc.alloc (.cells (lbC mm).toArray 42)) w3 (10 + jj)) w.heap.size (vs'.set jj (.slice a' ((aG A' jj).length + 1) p')) (A'.set jj (aG A' jj ++ [mm])) u6 rs (serK c.lvs l k) n V.heap.size mm u8 pre ∧ Below w.heap.size wc (w3.setCell ⟨w.heap.size, jj, none⟩ (.slice a' ((aG A' jj).length + 1) p'))) := by obtain ⟨h1, h2⟩ := HI4.out.more hlj (m := mm) ((Below.refl _ _).alloc (Nat.le_refl _) (.cells (lbC mm).toArray 42)) (by rw [HEV.out]; exact hg') hown' (by rw [HEV.out]; exact hblk); exact ⟨h1, HI4.out.bel h2 (fun k e => by rcases e with e | e <;> omega)⟩)
                        all_goals clear hgrow hg' hblk hown'
                        all_goals go_wp2_with fail
                        all_goals go_meet
                        all_goals (case rel => exact ⟨_, _, by rw [HR.out.1, HR.out.2]; exact HL5.out.1, HB4.out.trans HL5.out.2⟩)
                      case false =>
                        have HR : Hid (stpA (lvG c.lvs jj) (aG A' jj) nw = aG A' jj ∧ stpN (lvG c.lvs jj) (aG A' jj) nw = over) := by
                          have hmem : ¬ madeL (lvG c.lvs jj).rule nw ∈ aG A' jj := by rw [hMM]; simpa using HBM.out
                          have hlim : ¬ ((aG A' jj).length : Int) < (lvG c.lvs jj).limit := by simpa using HBL.out
                          exact ⟨by unfold stpA; rw [if_neg HNO.out, if_neg hmem, if_neg hlim], by unfold stpN; rw [if_neg HNO.out, if_neg hmem, if_neg hlim]⟩
                        obtain ⟨g0, g1, g2⟩ := HOV.out.below HB4.out hpos
                        have z0 : wc.frozen? ⟨V.heap.size, 0, none⟩ = false := froz_blk HI4.out.nb
                        have z1 : wc.frozen? ⟨V.heap.size, 1, none⟩ = false := froz_blk HI4.out.nb
                        have z2 : wc.frozen? ⟨V.heap.size, 2, none⟩ = false := froz_blk HI4.out.nb
                        have m0 : wc.cell? ⟨V.heap.size, 0, none⟩ = some (.int .u8 mm.a) := cell_blk HI4.out.nb rfl
                        have m1 : wc.cell? ⟨V.heap.size, 1, none⟩ = some (.int .u8 mm.b) := cell_blk HI4.out.nb rfl
                        have m2 : wc.cell? ⟨V.heap.size, 2, none⟩ = some (.int .u8 mm.c) := cell_blk HI4.out.nb rfl
                        go_wp2_with fail
                        go_meet
                        case rel =>
                          obtain ⟨h1, h2⟩ := HI4.out.set over
                          exact ⟨ow', vs', by rw [HR.out.1, HR.out.2, set_aG _ _ HJA.out]; exact h1, HB4.out.trans (HI4.out.bel h2 (fun k e => by have e' : ow' k = 5 := e; omega))⟩
          case rest =>
            obtain ⟨ow2, vs2, hin2, hb2⟩ := hcut
            have hrw := hin2.rw'
            obtain ⟨ra, rcap, er⟩ := ownForm hrw
            subst er
            have HI2 : Hid (LvIn wc w.heap.size ow2 w.heap.size vs2 (A'.set jj (stpA (lvG c.lvs jj) (aG A' jj) nw)) u6 rs (serK c.lvs l k) n V.heap.size (stpN (lvG c.lvs jj) (aG A' jj) nw) (.slice ra pre.length rcap) pre) := hin2
            have HB2 : Hid (Below w.heap.size w wc) := hb2
            clear hin2 hb2 hrw n0 n1 n2 g0 g1 g2 a2 a3 d2 HI HBX heq
            generalize stpA (lvG c.lvs jj) (aG A' jj) nw = adm2 at *
            generalize stpN (lvG c.lvs jj) (aG A' jj) nw = nw2 at *
            have m0 : wc.cell? ⟨V.heap.size, 0, none⟩ = some (.int .u8 nw2.a) := cell_blk HI2.out.nb rfl
            have m1 : wc.cell? ⟨V.heap.size, 1, none⟩ = some (.int .u8 nw2.b) := cell_blk HI2.out.nb rfl
            have m2 : wc.cell? ⟨V.heap.size, 2, none⟩ = some (.int .u8 nw2.c) := cell_blk HI2.out.nb rfl
            have HOW : Hid ((wc.alloc (.cells (lbC nw2).toArray 42)).ownsRow 0 42 3 (.slice ra pre.length rcap) pre.length (flatL pre)) := HI2.out.rw'.alloc _
            have HNW : Hid (∀ j u, (lbC nw2)[j]? = some u → (wc.alloc (.cells (lbC nw2).toArray 42)).cell? ((⟨wc.heap.size, 0, none⟩ : Addr).add j) = some u) := newAt _ _ _ _ rfl
            go_wp2_with (refine listAppend rfl (.tmp 89) (.tmp 91) 144 rfl 0 42 li0 (.agg #[.int .u8 0, .int .u8 0, .int .u8 0]) 3 3 Tryz.underlying144 hli lz0 lz1 lz2 rfl (by decide) (.slice ra pre.length rcap) pre.length (flatL pre) (by simp [Act.eval]) HOW.out ⟨wc.heap.size, 0, none⟩ 1 1 (lbC nw2) (by simp [Act.eval]) rfl HNW.out (lbC_one nw2) (by unfold maxLen; omega) (by omega) (Nat.zero_le _) ?_; intro v' w6 hown hgrow hblk; obtain ⟨h5, h6⟩ := HI2.out.app ((Below.refl _ _).alloc (Nat.le_refl _) _) hgrow hown hblk; have HF : Hid (LvIn w6 w.heap.size (upd ow2 (wc.alloc (.cells (lbC nw2).toArray 42)) w6 4) w.heap.size vs2 (A'.set jj adm2) u6 rs (serK c.lvs l k) n V.heap.size nw2 v' (pre ++ [nw2]) ∧ Below w.heap.size w w6) := ⟨h5, HB2.out.trans (HI2.out.bel h6 (fun k e => by have e' : ow2 k = 4 := e; omega))⟩; clear hown hgrow hblk h5 h6)
            exact ⟨⟨jj + 1, _, _, by go_num, by omega, by rw [HSUC.out]; exact HF.out.1, HF.out.2⟩, by simp [intOf]; omega⟩
        · obtain rfl : jj = n := by omega
          have hall := runA_all c.lvs (admK c.lvs l k) (smG l k).lb (admK_len _ _ _)
          rw [hN] at hall
          have hpl : (runA c.lvs (admK c.lvs l k) (smG l k).lb jj).2.2.length = jj := (runA_len _ _ _ jj).2
          have hkl : k < l.length := by rw [HML.out]; exact hlt
          have HADK : Hid (admK c.lvs l (k + 1) = (runA c.lvs (admK c.lvs l k) (smG l k).lb jj).1) := by show _ = _; rw [admK_succ c.lvs l k hkl, hall.1]
          have HSEK : Hid (serK c.lvs l (k + 1) = serK c.lvs l k ++ [(runA c.lvs (admK c.lvs l k) (smG l k).lb jj).2.2]) := by show _ = _; rw [serK_succ c.lvs l k hkl, hall.2]
          clear hall hkl
          generalize runA c.lvs (admK c.lvs l k) (smG l k).lb jj = ra at *
          obtain ⟨A', nw, pre⟩ := ra
          simp only at HI HADK HSEK hpl
          have hrw := HI.out.rw'
          obtain ⟨b', rcap, er, _, _, _⟩ := ownBlockForm hrw (by omega)
          have hatr : At wx b' 0 (flatL pre) := by rw [er] at hrw; exact owns_at hrw
          have hbo : ow' b' = 4 := HI.out.oR b' (by rw [er]; rfl)
          rw [hpl] at er
          subst er
          obtain ⟨oa, ocap, eo⟩ := ownForm HI.out.sr.orow
          subst eo
          have HOR : Hid ((wx.alloc (.cells #[.slice (some ⟨b', 0, none⟩) jj rcap] 144)).ownsRow 0 144 1 (.slice oa rs.length ocap) rs.length rs) := HI.out.sr.orow.alloc _
          have HNW : Hid (∀ j u, ([.slice (some ⟨b', 0, none⟩) jj rcap] : List Value)[j]? = some u → (wx.alloc (.cells #[.slice (some ⟨b', 0, none⟩) jj rcap] 144)).cell? ((⟨wx.heap.size, 0, none⟩ : Addr).add j) = some u) := newAt wx [.slice (some ⟨b', 0, none⟩) jj rcap] 144 _ rfl
          have hrs : rs.length ≤ 500 := by
            have h1 := HI.out.sr.lS
            have h2 : (serK c.lvs l k).length ≤ k := by unfold serK; rw [serAll_len]; simp; omega
            omega
          have HAT : Hid (At wx b' 0 (flatL pre)) := hatr
          have HBO : Hid (ow' b' = 4) := hbo
          have HPL : Hid (pre.length = jj) := hpl
          clear hrw hatr hbo hpl
          go_wp2_with (refine listAppend rfl (.tmp 93) (.tmp 95) 140 rfl 0 144 ri0 (.slice none 0 0) 1 24 Tryz.underlying140 hri rz0 rz1 rz2 rfl (by decide) (.slice oa rs.length ocap) rs.length rs (by simp [Act.eval]) HOR.out ⟨wx.heap.size, 0, none⟩ 1 1 [.slice (some ⟨b', 0, none⟩) jj rcap] (by simp [Act.eval]) rfl HNW.out (by simp [Value.oneCell']) (by unfold maxLen; omega) (by omega) (Nat.zero_le _) ?_; intro v' w6 hown hgrow hblk; obtain ⟨h5, h6⟩ := HI.out.sr.push (s := pre) (b := b') (cap := rcap) ((Below.refl _ _).alloc (Nat.le_refl _) (.cells #[.slice (some ⟨b', 0, none⟩) jj rcap] 144)) hgrow hown hblk HBO.out HAT.out HPL.out; have HF : Hid (SrS w6 w.heap.size _ w.heap.size vs' A' v' (rs ++ [.slice (some ⟨b', 0, none⟩) jj rcap]) (serK c.lvs l k ++ [pre]) jj ∧ Below w.heap.size w w6) := ⟨h5, HBX.out.trans (HI.out.bel h6 (fun k e => by have e' : ow' k = 2 := e; omega))⟩; clear hown hgrow hblk h5 h6)
          exact ⟨⟨k + 1, _, _, _, by go_num, by omega, by rw [HADK.out, HSEK.out]; exact HF.out.1, HF.out.2⟩, by simp [intOf]; omega⟩
    · have hkm : k = m := by omega
      have HFIN : Hid (SerAt V w.heap.size u6 rs (serAll c.lvs [] l) n) := by
        have h9 := HSR.out.ser
        rw [hkm, ← HML.out, serK_all] at h9
        exact h9
      go_wp2_with fail
      go_ret
      exact ⟨u6, rs, rfl, by rw [hN]; exact HFIN.out, HBE.out⟩

end Go.Proofs.YthciddpljcbhiaaGreatDoor

/- How many cells: the document's count and the program's are one (no program). -/
namespace Go.Proofs.YthciddpljcbhiaaGreatDoor
open Go Go.RowKit Go.Lib

/-- A cell of the document's. -/
structure Ce where
  blk : Int
  win : Int
  nm : Lb
deriving DecidableEq
def Ce.zero : Ce := ⟨0, 0, Lb.zero⟩
def Ce.cells (k : Ce) : List Value := [.int .i64 k.blk, .int .i64 k.win, .int .u8 k.nm.a, .int .u8 k.nm.b, .int .u8 k.nm.c]
def flatCe (l : List Ce) : List Value := l.flatMap Ce.cells
theorem len5C (k : Ce) : k.cells.length = 5 := rfl
theorem flatCe_len (l : List Ce) : (flatCe l).length = l.length * 5 := flat_length _ 5 len5C l
def ceG (l : List Ce) (i : Nat) : Ce := l.getD i Ce.zero
theorem ceG_get (l : List Ce) (i : Nat) (h : i < l.length) : ceG l i = l[i] := by simp [ceG, List.getD, h]
theorem Ce.one (k : Ce) : ∀ v ∈ k.cells, v.oneCell' = true := by intro v hv; simp [Ce.cells] at hv; rcases hv with h | h | h | h | h <;> subst h <;> rfl
def ceA (l : List Ce) (k : Ce) : List Ce := if k ∈ l then l else l ++ [k]
/-- The cell of a point. -/
def ceP (c : Cf) (now : Int) (p : Pt) : Ce := ⟨p.time / c.span, p.time / (lvG c.lvs (c.lvl now p.time)).window, sG p (c.lvl now p.time)⟩

/-- Keys that part the points alike give as many. -/
theorem fold_same {α K K' : Type} [DecidableEq K] [DecidableEq K'] (f : α → K) (g : α → K') (l : List α) (h : ∀ x ∈ l, ∀ y ∈ l, f x = f y ↔ g x = g y) : ∀ (m r : List α), (∀ x ∈ m, x ∈ l) → (∀ x ∈ r, x ∈ l) →
    ((m.map f).foldl (fun a k => if k ∈ a then a else a ++ [k]) (r.map f)).length = ((m.map g).foldl (fun a k => if k ∈ a then a else a ++ [k]) (r.map g)).length := by
  intro m
  induction m with
  | nil => intro r _ _; simp
  | cons x m ih =>
    intro r hm hr
    have hx : x ∈ l := hm x (by simp)
    have hiff : f x ∈ r.map f ↔ g x ∈ r.map g := by
      constructor
      · intro e
        obtain ⟨y, hy, e'⟩ := List.mem_map.1 e
        exact List.mem_map.2 ⟨y, hy, (h y (hr y hy) x hx).1 e'⟩
      · intro e
        obtain ⟨y, hy, e'⟩ := List.mem_map.1 e
        exact List.mem_map.2 ⟨y, hy, (h y (hr y hy) x hx).2 e'⟩
    simp only [List.map_cons, List.foldl_cons]
    by_cases hin : f x ∈ r.map f
    · rw [if_pos hin, if_pos (hiff.1 hin)]
      exact ih r (fun y hy => hm y (by simp [hy])) hr
    · rw [if_neg hin, if_neg (fun e => hin (hiff.2 e))]
      have e1 : r.map f ++ [f x] = (r ++ [x]).map f := by simp
      have e2 : r.map g ++ [g x] = (r ++ [x]).map g := by simp
      rw [e1, e2]
      exact ih (r ++ [x]) (fun y hy => hm y (by simp [hy])) (fun y hy => by
        rcases List.mem_append.1 hy with hy | hy
        · exact hr y hy
        · simp at hy; subst hy; exact hx)

/-- A window's start lies in its block, and tells it. -/
theorem start_block {t s w : Int} (hs : 1 ≤ s) (hw : 1 ≤ w) (hd : s % w = 0) : (t - t % w) / s = t / s := by
  obtain ⟨k, rfl⟩ : w ∣ s := Int.dvd_of_emod_eq_zero hd
  have hk : 0 < k := by
    rcases Int.lt_trichotomy k 0 with h | h | h
    · have := Int.mul_neg_of_pos_of_neg (show 0 < w by omega) h; omega
    · subst h; simp at hs
    · exact h
  have e1 : t - t % w = w * (t / w) := by have := Int.emod_add_mul_ediv t w; omega
  rw [e1, Int.mul_ediv_mul_of_pos _ _ (by omega)]
  exact Int.ediv_ediv_of_nonneg (by omega)
theorem key_iff {c : Cf} (hc : c.right = true) (now : Int) {p q : Pt} : kyP c now p = kyP c now q ↔ ceP c now p = ceP c now q := by
  obtain ⟨s1, _, _, _, _, _, hl⟩ := Cf.right_parts hc
  have hw : ∀ t, 1 ≤ (lvG c.lvs (c.lvl now t)).window ∧ c.span % (lvG c.lvs (c.lvl now t)).window = 0 := fun t => by
    have := hl (c.lvl now t) (Cf.lvl_lt hc now t)
    exact ⟨this.1, this.2.1⟩
  have hlv : ∀ t u, t / c.span = u / c.span → c.lvl now t = c.lvl now u := fun t u e => by rw [← lvl_block s1 now t, ← lvl_block s1 now u, e]
  obtain ⟨p1, p2⟩ := hw p.time
  obtain ⟨q1, q2⟩ := hw q.time
  unfold kyP ceP
  constructor
  · intro e
    simp only [Ky.mk.injEq] at e
    have hb : p.time / c.span = q.time / c.span := by
      have a1 := start_block (t := p.time) s1 p1 p2
      have a2 := start_block (t := q.time) s1 q1 q2
      rw [← a1, ← a2, e.1]
    have hl' := hlv _ _ hb
    rw [hl'] at e p1 ⊢
    have hst : p.time / (lvG c.lvs (c.lvl now q.time)).window = q.time / (lvG c.lvs (c.lvl now q.time)).window := by
      have e1 := Int.emod_add_mul_ediv p.time (lvG c.lvs (c.lvl now q.time)).window
      have e2 := Int.emod_add_mul_ediv q.time (lvG c.lvs (c.lvl now q.time)).window
      have e3 : (lvG c.lvs (c.lvl now q.time)).window * (p.time / (lvG c.lvs (c.lvl now q.time)).window) = (lvG c.lvs (c.lvl now q.time)).window * (q.time / (lvG c.lvs (c.lvl now q.time)).window) := by omega
      exact Int.eq_of_mul_eq_mul_left (by omega) e3
    rw [hb, hst, e.2]
  · intro e
    simp only [Ce.mk.injEq] at e
    have hl' := hlv _ _ e.1
    rw [hl'] at e ⊢
    have e1 := Int.emod_add_mul_ediv p.time (lvG c.lvs (c.lvl now q.time)).window
    have e2 := Int.emod_add_mul_ediv q.time (lvG c.lvs (c.lvl now q.time)).window
    rw [e.2.1] at e1
    have e3 : p.time - p.time % (lvG c.lvs (c.lvl now q.time)).window = q.time - q.time % (lvG c.lvs (c.lvl now q.time)).window := by omega
    rw [e3, e.2.2]

/-- The document's cells behind the first k samples, by the series of each. -/
def ceX (c : Cf) (now : Int) (S : List (List Lb)) (l : List Sm) (k : Nat) : Ce := ⟨(smG l k).time / c.span, (smG l k).time / (lvG c.lvs (c.lvl now (smG l k).time)).window, lbsG (aG S k) (c.lvl now (smG l k).time)⟩
def ceK (c : Cf) (now : Int) (S : List (List Lb)) (l : List Sm) : Nat → List Ce
  | 0 => []
  | k + 1 => if liveB c now (smG l k).time then ceA (ceK c now S l k) (ceX c now S l k) else ceK c now S l k
theorem ceK_len (c : Cf) (now : Int) (S : List (List Lb)) (l : List Sm) : ∀ k, (ceK c now S l k).length ≤ k
  | 0 => Nat.le_refl _
  | k + 1 => by
    have h := ceK_len c now S l k
    unfold ceK
    split
    · unfold ceA
      split
      · omega
      · simp; omega
    · omega
theorem ceK_pts (c : Cf) (now : Int) (A : List (List Lb)) (S : List (List Lb)) (l : List Sm) (hS : S = l.map fun x => serOf c.lvs A x.lb) : ∀ k, k ≤ l.length → ceK c now S l k = ((((l.take k).map (ptOf c.lvs A)).filter fun p => liveB c now p.time).map (ceP c now)).foldl ceA []
  | 0, _ => by simp [ceK]
  | k + 1, h => by
    have ih := ceK_pts c now A S l hS k (by omega)
    have hlt : k < l.length := by omega
    have e1 : l.take (k + 1) = l.take k ++ [smG l k] := by rw [smG_get l k hlt]; exact List.take_succ_eq_append_getElem hlt
    have e2 : aG S k = serOf c.lvs A (smG l k).lb := by
      unfold aG
      rw [hS, smG_get l k hlt]
      simp [List.getD, hlt]
    have e3 : ceX c now S l k = ceP c now (ptOf c.lvs A (smG l k)) := by
      unfold ceX ceP ptOf sG lbsG
      rw [e2]
    rw [e1, List.map_append, List.filter_append, List.map_append, List.foldl_append, ← ih]
    show (if liveB c now (smG l k).time then ceA (ceK c now S l k) (ceX c now S l k) else ceK c now S l k) = _
    have hl : liveB c now (ptOf c.lvs A (smG l k)).time = liveB c now (smG l k).time := rfl
    by_cases hv : liveB c now (smG l k).time = true
    · rw [if_pos hv]
      simp only [List.map_cons, List.map_nil, List.filter_cons, List.filter_nil, hl, hv, if_true, List.foldl_cons, List.foldl_nil, e3]
    · rw [if_neg hv]
      simp only [List.map_cons, List.map_nil, List.filter_cons, List.filter_nil, hl, if_neg hv, List.foldl_nil]
/-- The two counts are one. -/
theorem cells_same (s : St) (hc : s.c.right = true) : (ceK s.c s.now (serAll s.c.lvs [] s.l) s.l s.l.length).length = cellsN s := by
  rw [ceK_pts s.c s.now s.adm _ s.l (serAll_eq s.c.lvs s.l []) s.l.length (Nat.le_refl _), List.take_length]
  show ((s.pts.map (ceP s.c s.now)).foldl ceA []).length = _
  unfold cellsN keysK
  rw [List.take_length]
  have h := fold_same (kyP s.c s.now) (ceP s.c s.now) s.pts (fun x _ y _ => key_iff hc s.now) s.pts [] (fun _ hx => hx) (fun _ hx => absurd hx (by simp))
  exact h.symm

end Go.Proofs.YthciddpljcbhiaaGreatDoor

/- Walks: the document's Cells (garnerref). -/
namespace Go.Proofs.YthciddpljcbhiaaGreatDoor
open Go Go.RowKit Go.Lib

theorem Tryz.info149' : (Tryz.prog.info? 149).map (fun i => (i.zero, i.size, i.bytes)) = some (some (.agg #[.int .i64 0, .int .i64 0, .int .u8 0, .int .u8 0, .int .u8 0]), 5, 24) := by kernel_rfl
theorem wrapS (x : Int) (h0 : 0 ≤ x) (h1 : x ≤ 1000000) : IntKind.i64.wrap x = x := by simp [IntKind.wrap, IntKind.bits, IntKind.signed]; omega
theorem ce_iff (Y X : Ce) : Y = X ↔ (Y.blk == X.blk && (Y.win == X.win && (Y.nm.a == X.nm.a && Y.nm.b == X.nm.b && Y.nm.c == X.nm.c))) = true := by
  rw [lb_beq]
  cases Y; cases X
  simp
theorem take_mem (Q : List Ce) (x : Ce) (q : Nat) (h : q < Q.length) : decide (x ∈ Q.take (q + 1)) = (decide (x ∈ Q.take q) || decide (ceG Q q = x)) := by
  rw [List.take_succ_eq_append_getElem h, ceG_get Q q h]
  rw [Bool.eq_iff_iff]
  simp only [decide_eq_true_eq, Bool.or_eq_true, List.mem_append, List.mem_singleton]
  constructor
  · rintro (h1 | h1)
    · exact .inl h1
    · exact .inr h1.symm
  · rintro (h1 | h1)
    · exact .inl h1
    · exact .inr h1.symm
theorem owns_ce {w : World} {base g n cap : Nat} {l : List Ce} (h : w.ownsRow base 149 5 (.slice (some ⟨g, 0, none⟩) n cap) n (flatCe l)) (i : Nat) (hi : i < l.length) :
    w.cell? ⟨g, i * 5, none⟩ = some (.int .i64 (ceG l i).blk) ∧ w.cell? ⟨g, i * 5 + 1, none⟩ = some (.int .i64 (ceG l i).win) ∧ w.cell? ⟨g, i * 5 + 2, none⟩ = some (.int .u8 (ceG l i).nm.a) ∧ w.cell? ⟨g, i * 5 + 3, none⟩ = some (.int .u8 (ceG l i).nm.b) ∧ w.cell? ⟨g, i * 5 + 4, none⟩ = some (.int .u8 (ceG l i).nm.c) := by
  have hat := owns_at h
  rw [ceG_get l i hi]
  have hg : ∀ j v, (Ce.cells l[i])[j]? = some v → w.cell? ⟨g, i * 5 + j, none⟩ = some v := fun j v hv => by
    have := at_elem Ce.cells 5 len5C hat i hi j v hv
    simpa using this
  exact ⟨by simpa using hg 0 _ rfl, hg 1 _ rfl, hg 2 _ rfl, hg 3 _ rfl, hg 4 _ rfl⟩
theorem owns_sm {w : World} {base : Nat} {va : Option Addr} {m vc : Nat} {l : List Sm} (h : w.ownsRow base 76 5 (.slice va m vc) m (flatS l)) (hl : l.length = m) : IsSms w va m l := by
  refine ⟨hl, fun h0 => ?_⟩
  obtain ⟨g, cap, e, _, _, _⟩ := ownBlockForm h h0
  injection e with e1 _ e2
  subst e1 e2
  exact ⟨g, 0, rfl, smAt_of (owns_at h)⟩

set_option maxHeartbeats 4000000 in
set_option maxRecDepth 100000 in
theorem cells_ref (R : Nat) (F : Nat → Prop) (c : Cf) (ps : List Cp) (L lcap : Nat) (cv : Value) (w : World) (h : RfS w R F c ps L lcap cv) (hov : OvAt w) :
    Calls Tryz.prog 52 #[.pointer (some ⟨R, 0, none⟩)] w fun e w' => e = .returned (.int .i64 (cellsN ((St.new c).doAll (ps.map (·.1))) : Nat)) ∧ Below w.heap.size w w' := by
  obtain ⟨sp1, sp2, k0, k1, l1, l4, hlv⟩ := Cf.right_parts (rf_right h)
  obtain ⟨n0, n1⟩ := rf_nowr h
  have HRF : Hid (RfS w R F c ps L lcap cv) := h
  have HOV : Hid (OvAt w) := hov
  have hpos := hov.pos
  have hl : ((St.new c).doAll (ps.map (·.1))).l = allS (ps.map (·.1)) := by rw [doAll_l]; rfl
  have HOKL : Hid (∀ x ∈ allS (ps.map (·.1)), smOk x = true ∧ x.wf) := fun x hx => h.inv.ok x (by rw [hl]; exact hx)
  have hm : (allS (ps.map (·.1))).length ≤ 500 := by have := h.inv.len; rw [hl] at this; exact this
  have HRES : Hid (cellsN ((St.new c).doAll (ps.map (·.1))) = (ceK c (sumT (ps.map (·.1))) (serAll c.lvs [] (allS (ps.map (·.1)))) (allS (ps.map (·.1))) (allS (ps.map (·.1))).length).length) := by
    have h9 := cells_same _ h.inv.right
    rw [doAll_cf, rf_now, hl] at h9
    exact h9.symm
  have HSM := samples_ref R F c ps L lcap cv w h
  have HAGE : Hid (∀ W t, Below w.heap.size w W → 0 ≤ t → t ≤ 100000 → Calls Tryz.prog 73 #[.pointer (some ⟨R, 0, none⟩), .int .i64 t] W fun e w' => e = .returned (.int .i64 (c.age (sumT (ps.map (·.1))) t)) ∧ ∃ d, w' = W.drewN d) := fun W t hW t0 t1 => age_ref R F c ps L lcap cv t W (h.below hW) sp1 sp2 t0 (by omega)
  have HLVL : Hid (∀ W t, Below w.heap.size w W → 0 ≤ t → t ≤ 100000 → Calls Tryz.prog 81 #[.pointer (some ⟨R, 0, none⟩), .int .i64 t] W fun e w' => e = .returned (.int .i64 (c.lvl (sumT (ps.map (·.1))) t : Nat)) ∧ ∃ d, w' = W.drewN d) := fun W t hW t0 t1 => level_ref R F c ps L lcap cv t W (h.below hW) t0 (by omega)
  have HLL : Hid (∀ t, c.lvl (sumT (ps.map (·.1))) t < c.lvs.length) := fun t => Cf.lvl_lt (rf_right h) _ t
  have HWIN : Hid (∀ j, j < c.lvs.length → 1 ≤ (lvG c.lvs j).window) := fun j hj => (hlv j hj).1
  obtain ⟨li0, hli, lz0, lz1, lz2⟩ := infP Tryz.info149'
  clear h hov hl hlv
  generalize sumT (ps.map (·.1)) = now at *
  generalize allS (ps.map (·.1)) = l at *
  generalize cellsN ((St.new c).doAll (ps.map (·.1))) = res at *
  go_enter Tryz.func52, Tryz.ntmps52
  go_wp2_with fail
  refine HSM.mono ?_
  rintro e w1 ⟨va, vc, rfl, hown1, hb1⟩
  clear HSM
  have HB1 : Hid (Below w.heap.size w w1) := hb1
  have HSMS : Hid (IsSms w1 va l.length l) := owns_sm hown1 rfl
  have HSER := series_ref R F c ps L lcap cv va l.length vc l w1 (HRF.out.below hb1) HSMS.out hm (fun x hx => ((smOk_iff x).1 (HOKL.out x hx).1).2.2) (HOV.out.below hb1 hpos)
  clear hown1 hb1
  go_wp2_with fail
  refine HSER.mono ?_
  clear HSER
  rintro e w2 ⟨ov, rs, rfl, hser, hb2⟩
  obtain ⟨hor, hrl, _, hrow⟩ := hser
  obtain ⟨oa, ocap, eo⟩ := ownForm hor
  subst eo
  have hrm : rs.length = l.length := by rw [hrl, serAll_len]
  have HB2 : Hid (Below w.heap.size w w2) := HB1.out.trans (hb2.mono HB1.out.size)
  have HSM2 : Hid (IsSms w2 va l.length l) := HSMS.out.below hb2
  have HOR : Hid (w2.ownsRow 0 144 1 (.slice oa rs.length ocap) rs.length rs) := hor
  have HROW : Hid (∀ i, i < rs.length → ∃ b cap, vG rs i = .slice (some ⟨b, 0, none⟩) c.lvs.length cap ∧ w1.heap.size ≤ b ∧ At w2 b 0 (flatL (aG (serAll c.lvs [] l) i)) ∧ (aG (serAll c.lvs [] l) i).length = c.lvs.length) := hrow
  clear hb2 hor hrl hrow HSMS
  generalize serAll c.lvs [] l = S at *
  go_wp2_with fail
  go_loopw [5, 6] (fun v i wr => ∃ k : Nat, i = .int .i64 k ∧ k ≤ l.length ∧ wr.ownsRow w2.heap.size 149 5 v (ceK c now S l k).length (flatCe (ceK c now S l k)) ∧ Below w2.heap.size w2 wr) (fun _ i _ => l.length - (intOf i).toNat)
  case atStart => exact ⟨0, rfl, Nat.zero_le _, World.ownsRow_nil _ _ _ _, Below.refl _ _⟩
  case round =>
    obtain ⟨k, rfl, hk, hown, hbe⟩ := hrel
    rename World => V
    have HOW : Hid (V.ownsRow w2.heap.size 149 5 u5 (ceK c now S l k).length (flatCe (ceK c now S l k))) := hown
    have HBE : Hid (Below w2.heap.size w2 V) := hbe
    have HBW : Hid (Below w.heap.size w V) := HB2.out.trans (hbe.mono HB2.out.size)
    obtain ⟨ua, ucap, eu⟩ := ownForm hown
    subst eu
    have hckl := ceK_len c now S l k
    clear hown hbe
    by_cases hlt : k < l.length
    · obtain ⟨b, off, rfl, hat⟩ := HSM2.out.2 (by omega)
      obtain ⟨s0, _⟩ := hat k hlt
      have hbw : b < w2.heap.size := hat.block (by omega)
      have x0 : V.cell? ⟨b, off + k * 5, none⟩ = some (.int .i64 (smG l k).time) := (HBE.out.cell (p := ⟨b, off + k * 5, none⟩) hbw).trans s0
      have hok := (HOKL.out (smG l k) (by rw [smG_get l k hlt]; exact List.getElem_mem _)).1
      obtain ⟨t0, t1, _⟩ := (smOk_iff _).1 hok
      have x1 := (HRF.out.below HBW.out).cell 1 _ rfl
      have HA := HAGE.out V (smG l k).time HBW.out t0 t1
      have HCE : Hid (ceK c now S l (k + 1) = if liveB c now (smG l k).time then ceA (ceK c now S l k) (ceX c now S l k) else ceK c now S l k) := rfl
      clear hat hok
      by_cases hlive : c.age now (smG l k).time ≤ c.keep
      · have HC2 : Hid (ceK c now S l (k + 1) = ceA (ceK c now S l k) (ceX c now S l k)) := by
          show _ = _
          rw [HCE.out, if_pos (by rw [live_iff]; exact hlive)]
        have hjn := HLL.out (smG l k).time
        obtain ⟨sb, scap, esb, hsb1, hsat, hsl⟩ := HROW.out k (by omega)
        have HX : Hid (ceX c now S l k = ⟨(smG l k).time / c.span, (smG l k).time / (lvG c.lvs (c.lvl now (smG l k).time)).window, lbsG (aG S k) (c.lvl now (smG l k).time)⟩) := rfl
        have hsbl : sb < w2.heap.size := World.block_lt_of_cell? w2 _ (at_lbs hsat 0 (by omega)).1
        obtain ⟨q0, q1, q2⟩ := at_lbs hsat _ (by rw [hsl]; exact hjn)
        simp only [Nat.zero_add] at q0 q1 q2
        obtain ⟨og, ocp, eog, crow⟩ := owns_one HOR.out k (vG rs k) (vG_get rs k (by omega))
        injection eog with eo1 _ eo2
        subst eo1 eo2
        rw [esb] at crow
        have hogl : og < w2.heap.size := World.block_lt_of_cell? w2 _ crow
        have hwin := HWIN.out _ hjn
        have HLC := HLVL.out
        clear hsat esb hsl HCE
        generalize hj : c.lvl now (smG l k).time = j at *
        generalize c.age now (smG l k).time = ag at *
        have HFACT : Hid (∀ W, Below w2.heap.size w2 W → W.cell? ⟨b, off + k * 5, none⟩ = some (.int .i64 (smG l k).time) ∧ W.cell? ⟨R, 0, none⟩ = some (.int .i64 c.span) ∧ W.cell? ⟨R, 1, none⟩ = some (.int .i64 c.keep) ∧ W.cell? ⟨R, 2, none⟩ = some (.slice (some ⟨L, 0, none⟩) c.lvs.length lcap) ∧ W.cell? ⟨L, j * 4 + 1, none⟩ = some (.int .i64 (lvG c.lvs j).window) ∧ W.cell? ⟨og, k, none⟩ = some (.slice (some ⟨sb, 0, none⟩) c.lvs.length scap) ∧ W.cell? ⟨sb, j * 3, none⟩ = some (.int .u8 (lbsG (aG S k) j).a) ∧ W.cell? ⟨sb, j * 3 + 1, none⟩ = some (.int .u8 (lbsG (aG S k) j).b) ∧ W.cell? ⟨sb, j * 3 + 2, none⟩ = some (.int .u8 (lbsG (aG S k) j).c)) := fun W hW => by
          have hWw : Below w.heap.size w W := HB2.out.trans (hW.mono HB2.out.size)
          have hrf := HRF.out.below hWw
          obtain ⟨_, a1, _, _⟩ := hrf.lv j hjn
          simp only [Nat.zero_add] at a1
          exact ⟨(hW.cell (p := ⟨b, off + k * 5, none⟩) hbw).trans s0, hrf.cell 0 _ rfl, hrf.cell 1 _ rfl, hrf.cell 2 _ rfl, a1, (hW.cell (p := ⟨og, k, none⟩) hogl).trans crow, (hW.cell (p := ⟨sb, j * 3, none⟩) hsbl).trans q0, (hW.cell (p := ⟨sb, j * 3 + 1, none⟩) hsbl).trans q1, (hW.cell (p := ⟨sb, j * 3 + 2, none⟩) hsbl).trans q2⟩
        have HLV2 := fun W (hW : Below w2.heap.size w2 W) => HLC W (smG l k).time (HB2.out.trans (hW.mono HB2.out.size)) t0 t1
        rw [hj] at HLV2
        have HLV3 : Hid (∀ W (hW : Below w2.heap.size w2 W), Calls Tryz.prog 81 #[.pointer (some ⟨R, 0, none⟩), .int .i64 (smG l k).time] W fun e w' => e = .returned (.int .i64 (j : Nat)) ∧ ∃ d, w' = W.drewN d) := HLV2
        have HXX : Hid (ceX c now S l k = ⟨(smG l k).time / c.span, (smG l k).time / (lvG c.lvs j).window, lbsG (aG S k) j⟩) := HX.out
        clear HLC HLV2 HX q0 q1 q2 crow hj
        generalize (smG l k).time = t at *
        generalize lbsG (aG S k) j = sl at *
        generalize (lvG c.lvs j).window = wn at *
        go_wp2_with fail
        refine HA.mono ?_
        rintro e w3 ⟨rfl, d, rfl⟩
        clear HA x0 x1
        have HB3 : Hid (Below w2.heap.size w2 (V.drewN d)) := below_drewN HBE.out d
        have HO3 : Hid ((V.drewN d).ownsRow w2.heap.size 149 5 (.slice ua (ceK c now S l k).length ucap) (ceK c now S l k).length (flatCe (ceK c now S l k))) := owns_drewN HOW.out d
        generalize V.drewN d = w3 at *
        obtain ⟨f0, _, f2, _⟩ := HFACT.out w3 HB3.out
        have hag : ¬ c.keep < ag := by omega
        go_wp2_with fail
        refine (HLV3.out w3 HB3.out).mono ?_
        rintro e w4 ⟨rfl, d2, rfl⟩
        have HB4 : Hid (Below w2.heap.size w2 (w3.drewN d2)) := below_drewN HB3.out d2
        have HO4 : Hid ((w3.drewN d2).ownsRow w2.heap.size 149 5 (.slice ua (ceK c now S l k).length ucap) (ceK c now S l k).length (flatCe (ceK c now S l k))) := owns_drewN HO3.out d2
        clear f0 f2 HB3 HO3 HLV3
        generalize w3.drewN d2 = w4 at *
        obtain ⟨g0, g1, _, g2, g3, g4, g5, g6, g7⟩ := HFACT.out w4.drew (HB4.out.drew)
        have hjI : (j : Int) < (c.lvs.length : Int) := by omega
        have hkI : (k : Int) < (l.length : Int) := by omega
        have hkR : (k : Int) < (rs.length : Int) := by omega
        have v1 : ¬ c.span = 0 := by omega
        have v2 : ¬ wn = 0 := by omega
        have v3 : 0 ≤ t / c.span := Int.ediv_nonneg t0 (by omega)
        have v4 : t / c.span ≤ t := Int.ediv_le_self _ t0
        have v5 : 0 ≤ t / wn := Int.ediv_nonneg t0 (by omega)
        have v6 : t / wn ≤ t := Int.ediv_le_self _ t0
        have v7 : t.tdiv c.span = t / c.span := Int.tdiv_eq_ediv_of_nonneg t0
        have v8 : t.tdiv wn = t / wn := Int.tdiv_eq_ediv_of_nonneg t0
        have v9 : (c.span == 0) = false := by simpa using v1
        have v10 : (wn == 0) = false := by simpa using v2
        have v11 : IntKind.i64.wrap (t / c.span) = t / c.span := wrapS _ v3 (by omega)
        have v12 : IntKind.i64.wrap (t / wn) = t / wn := wrapS _ v5 (by omega)
        go_upto_region 10 with fail
        go_cut [9] from 17 to 98 (fun v wz => v = .pointer (some ⟨w4.heap.size, 0, none⟩) ∧ wz = (w4.alloc (.cells #[.int .i64 (t / c.span), .int .i64 (t / wn), .int .u8 sl.a, .int .u8 sl.b, .int .u8 sl.c] 149)).drew)
        case first =>
          go_region_held3 (fun w' => w'.cell? ⟨b, off + k * 5, none⟩ = some (.int .i64 t) ∧ w'.cell? ⟨R, 0, none⟩ = some (.int .i64 c.span) ∧ w'.cell? ⟨R, 2, none⟩ = some (.slice (some ⟨L, 0, none⟩) c.lvs.length lcap) ∧ w'.cell? ⟨L, j * 4 + 1, none⟩ = some (.int .i64 wn) ∧ w'.cell? ⟨og, k, none⟩ = some (.slice (some ⟨sb, 0, none⟩) c.lvs.length scap) ∧ w'.cell? ⟨sb, j * 3, none⟩ = some (.int .u8 sl.a) ∧ w'.cell? ⟨sb, j * 3 + 1, none⟩ = some (.int .u8 sl.b) ∧ w'.cell? ⟨sb, j * 3 + 2, none⟩ = some (.int .u8 sl.c)) (first | exact ⟨g0, g1, g2, g3, g4, g5, g6, g7⟩ | exact ⟨cell_alloc1 g0, cell_alloc1 g1, cell_alloc1 g2, cell_alloc1 g3, cell_alloc1 g4, cell_alloc1 g5, cell_alloc1 g6, cell_alloc1 g7⟩) (fail)
          all_goals go_wp2_with fail
          all_goals go_meet
          all_goals (case rel => exact ⟨rfl, rfl⟩)
        case rest =>
          obtain ⟨rfl, hwc⟩ := hcut
          have hbc : Below w4.heap.size w4 wc := by rw [hwc]; exact ((Below.refl _ _).alloc (Nat.le_refl _) _).drew
          have hbk : wc.heap[w4.heap.size]? = some (.cells #[.int .i64 (t / c.span), .int .i64 (t / wn), .int .u8 sl.a, .int .u8 sl.b, .int .u8 sl.c] 149 (0, 0)) := by rw [hwc]; exact heap_alloc_new w4 _
          have HBC : Hid (Below w2.heap.size w2 wc) := HB4.out.trans (hbc.mono HB4.out.size)
          have HOC : Hid (wc.ownsRow w2.heap.size 149 5 (.slice ua (ceK c now S l k).length ucap) (ceK c now S l k).length (flatCe (ceK c now S l k))) := owns_fr HO4.out (Fr.of_below (S := fun _ => False) hbc) (fun _ _ e => e)
          have HCK : Hid (ceK c now S l (k + 1) = ceA (ceK c now S l k) ⟨t / c.span, t / wn, sl⟩) := by show _ = _; rw [HC2.out, HXX.out]
          have z0 : wc.cell? ⟨w4.heap.size, 0, none⟩ = some (.int .i64 (t / c.span)) := cell_blk hbk rfl
          have z1 : wc.cell? ⟨w4.heap.size, 1, none⟩ = some (.int .i64 (t / wn)) := cell_blk hbk rfl
          have z2 : wc.cell? ⟨w4.heap.size, 2, none⟩ = some (.int .u8 sl.a) := cell_blk hbk rfl
          have z3 : wc.cell? ⟨w4.heap.size, 3, none⟩ = some (.int .u8 sl.b) := cell_blk hbk rfl
          have z4 : wc.cell? ⟨w4.heap.size, 4, none⟩ = some (.int .u8 sl.c) := cell_blk hbk rfl
          clear hwc hbc hbk g0 g1 g2 g3 g4 g5 g6 g7 v1 v2 v3 v4 v5 v6 v7 v8 v9 v10 v11 v12 HB4 HO4 HFACT HXX HC2
          generalize ceK c now S l k = Q at *
          generalize t / c.span = xb at *
          generalize t / wn = xw at *
          go_wp2_with fail
          go_loopw [10, 11] (fun old i wr => ∃ q : Nat, i = .int .i64 q ∧ q ≤ Q.length ∧ old = .bool (decide ((⟨xb, xw, sl⟩ : Ce) ∈ Q.take q)) ∧ ∃ d, wr = wc.drewN d) (fun _ i _ => Q.length - (intOf i).toNat)
          case atStart => exact ⟨0, rfl, Nat.zero_le _, by simp, 0, rfl⟩
          case round =>
            obtain ⟨q, rfl, hq, rfl, d5, rfl⟩ := hrel
            by_cases hlq : q < Q.length
            · obtain ⟨ug, ucp, eug, _, _, _⟩ := ownBlockForm HOC.out (by omega)
              injection eug with eu1 _ eu2
              subst eu1 eu2
              obtain ⟨y0, y1, y2, y3, y4⟩ := owns_ce HOC.out q hlq
              have HTK : Hid (decide ((⟨xb, xw, sl⟩ : Ce) ∈ Q.take (q + 1)) = (decide ((⟨xb, xw, sl⟩ : Ce) ∈ Q.take q) || decide (ceG Q q = ⟨xb, xw, sl⟩))) := take_mem Q _ q hlq
              have HYE : Hid (decide (ceG Q q = ⟨xb, xw, sl⟩) = ((ceG Q q).blk == xb && ((ceG Q q).win == xw && ((ceG Q q).nm.a == sl.a && (ceG Q q).nm.b == sl.b && (ceG Q q).nm.c == sl.c)))) := by
                show _ = _
                rw [Bool.eq_iff_iff, decide_eq_true_eq]
                exact ce_iff _ _
              generalize decide ((⟨xb, xw, sl⟩ : Ce) ∈ Q.take q) = od at *
              generalize decide (ceG Q q = ⟨xb, xw, sl⟩) = oe at *
              generalize ceG Q q = Y at *
              have hqI : (q : Int) < (Q.length : Int) := by omega
              cases od
              · have heq := fun w => eq26 9997 Y.nm.a Y.nm.b Y.nm.c sl.a sl.b sl.c w
                cases e1 : (Y.blk == xb) <;> cases e2 : (Y.win == xw) <;> cases e3 : (Y.nm.a == sl.a && Y.nm.b == sl.b && Y.nm.c == sl.c)
                all_goals
                  rw [e3] at heq
                  rw [e1, e2, e3] at HYE
                  have HFF : Hid (decide ((⟨xb, xw, sl⟩ : Ce) ∈ Q.take (q + 1)) = oe) := by show _ = _; rw [HTK.out]; exact Bool.false_or _
                  go_wp2_with fail
                  go_quiet (fail)
                  go_wp2_with fail
                  exact ⟨⟨q + 1, by go_num, by omega, by rw [HFF.out, HYE.out]; rfl, _, rfl⟩, by simp [intOf]; omega⟩
              · have HFF : Hid (decide ((⟨xb, xw, sl⟩ : Ce) ∈ Q.take (q + 1)) = true) := by show _ = _; rw [HTK.out]; rfl
                go_wp2_with fail
                go_quiet (fail)
                go_wp2_with fail
                exact ⟨⟨q + 1, by go_num, by omega, by rw [HFF.out], _, rfl⟩, by simp [intOf]; omega⟩
            · have hqE : q = Q.length := by omega
              have hall : Q.take q = Q := by rw [hqE]; exact List.take_length
              rw [hall]
              have HB6 : Hid (Below w2.heap.size w2 (wc.drewN d5)) := below_drewN HBC.out d5
              have HO6 : Hid ((wc.drewN d5).ownsRow w2.heap.size 149 5 (.slice ua Q.length ucap) Q.length (flatCe Q)) := owns_drewN HOC.out d5
              have y0 : (wc.drewN d5).cell? ⟨w4.heap.size, 0, none⟩ = some (.int .i64 xb) := z0
              have y1 : (wc.drewN d5).cell? ⟨w4.heap.size, 1, none⟩ = some (.int .i64 xw) := z1
              have y2 : (wc.drewN d5).cell? ⟨w4.heap.size, 2, none⟩ = some (.int .u8 sl.a) := z2
              have y3 : (wc.drewN d5).cell? ⟨w4.heap.size, 3, none⟩ = some (.int .u8 sl.b) := z3
              have y4 : (wc.drewN d5).cell? ⟨w4.heap.size, 4, none⟩ = some (.int .u8 sl.c) := z4
              clear z0 z1 z2 z3 z4 hall
              generalize wc.drewN d5 = w6 at *
              obtain ⟨od, hod⟩ : ∃ od, od = decide ((⟨xb, xw, sl⟩ : Ce) ∈ Q) := ⟨_, rfl⟩
              rw [← hod]
              have HOD : Hid (od = decide ((⟨xb, xw, sl⟩ : Ce) ∈ Q)) := hod
              clear hod
              cases od
              · have HCA : Hid (ceA Q ⟨xb, xw, sl⟩ = Q ++ [⟨xb, xw, sl⟩]) := by
                  have hno : ¬ (⟨xb, xw, sl⟩ : Ce) ∈ Q := by simpa using HOD.out.symm
                  exact if_neg hno
                have HO7 : Hid ((w6.alloc (.cells (Ce.cells ⟨xb, xw, sl⟩).toArray 149)).ownsRow w2.heap.size 149 5 (.slice ua Q.length ucap) Q.length (flatCe Q)) := HO6.out.alloc _
                have HNW : Hid (∀ j u, (Ce.cells ⟨xb, xw, sl⟩)[j]? = some u → (w6.alloc (.cells (Ce.cells ⟨xb, xw, sl⟩).toArray 149)).cell? ((⟨w6.heap.size, 0, none⟩ : Addr).add j) = some u) := newAt _ _ _ _ rfl
                have HB7 : Hid (Below w2.heap.size w2 (w6.alloc (.cells (Ce.cells ⟨xb, xw, sl⟩).toArray 149))) := HB6.out.alloc HB6.out.size _
                have hz6 := HB6.out.size
                have HUB : Hid (∀ kk, (Value.slice ua Q.length ucap).ownBlock = some kk → w2.heap.size ≤ kk) := fun kk e => (HO6.out.lt kk e).1
                go_wp2_with (refine listAppend rfl (.tmp 95) (.tmp 97) 147 rfl w2.heap.size 149 li0 (.agg #[.int .i64 0, .int .i64 0, .int .u8 0, .int .u8 0, .int .u8 0]) 5 24 Tryz.underlying147 hli lz0 lz1 lz2 rfl (by decide) (.slice ua Q.length ucap) Q.length (flatCe Q) (by simp [Act.eval]) HO7.out ⟨w6.heap.size, 0, none⟩ 1 1 (Ce.cells ⟨xb, xw, sl⟩) (by simp [Act.eval]) rfl HNW.out (Ce.one _) (by unfold maxLen; omega) (by omega) (by rw [World.size_alloc]; omega) ?_; intro v' w8 hown hgrow hblk; have HF8 : Hid (w8.ownsRow w2.heap.size 149 5 v' (Q.length + 1) (flatCe Q ++ Ce.cells ⟨xb, xw, sl⟩) ∧ Below w2.heap.size w2 w8) := ⟨hown, HB7.out.grown hgrow (by rw [World.size_alloc]; omega) HUB.out⟩; clear hown hgrow hblk)
                exact ⟨⟨k + 1, by go_num, by omega, by rw [HCK.out, HCA.out, List.length_append, show flatCe (Q ++ [⟨xb, xw, sl⟩]) = flatCe Q ++ Ce.cells ⟨xb, xw, sl⟩ from flat_snoc _ _ _]; exact HF8.out.1, HF8.out.2⟩, by simp [intOf]; omega⟩
              · have HCA : Hid (ceA Q ⟨xb, xw, sl⟩ = Q) := by
                  have hyes : (⟨xb, xw, sl⟩ : Ce) ∈ Q := by simpa using HOD.out.symm
                  exact if_pos hyes
                go_wp2_with fail
                exact ⟨⟨k + 1, by go_num, by omega, by rw [HCK.out, HCA.out]; exact HO6.out, HB6.out⟩, by simp [intOf]; omega⟩
      · have HC2 : Hid (ceK c now S l (k + 1) = ceK c now S l k) := by
          show _ = _
          rw [HCE.out, if_neg (by rw [live_iff]; exact hlive)]
        generalize c.age now (smG l k).time = ag at *
        go_wp2_with fail
        refine HA.mono ?_
        rintro e w3 ⟨rfl, d, rfl⟩
        clear HA
        have y1 : (V.drewN d).cell? ⟨R, 1, none⟩ = some (.int .i64 c.keep) := x1
        have HB3 : Hid (Below w2.heap.size w2 (V.drewN d)) := below_drewN HBE.out d
        have HO3 : Hid ((V.drewN d).ownsRow w2.heap.size 149 5 (.slice ua (ceK c now S l k).length ucap) (ceK c now S l k).length (flatCe (ceK c now S l k))) := owns_drewN HOW.out d
        clear x0 x1
        generalize V.drewN d = w3 at *
        go_wp2_with fail
        exact ⟨⟨k + 1, by go_num, by omega, by rw [HC2.out]; exact HO3.out, HB3.out⟩, by simp [intOf]; omega⟩
    · have hkE : k = l.length := by omega
      have HF : Hid ((ceK c now S l l.length).length = res) := HRES.out.symm
      go_wp2_with fail
      go_ret
      exact ⟨by rw [← HF.out]; rfl, HBW.out⟩

end Go.Proofs.YthciddpljcbhiaaGreatDoor

/- Walks: Sizes: every script is as the document says. -/
namespace Go.Proofs.YthciddpljcbhiaaGreatDoor
open Go Go.RowKit Go.Lib

theorem cl_ref {R : Nat} {F : Nat → Prop} {c : Cf} {cs : List Chg} (w : World) (h : RfAt w R F c cs) (hov : OvAt w) : Calls Tryz.prog 52 #[.pointer (some ⟨R, 0, none⟩)] w fun e w' => e = .returned (.int .i64 (cellsN ((St.new c).doAll cs) : Nat)) ∧ Below w.heap.size w w' := by
  obtain ⟨ps, L, lcap, cv, rfl, h⟩ := h
  exact cells_ref R F c ps L lcap cv w h hov

set_option maxHeartbeats 1000000 in
set_option maxRecDepth 100000 in
theorem asked_cells (own : Nat → Nat) (base W D : Nat) (bv : Value) (bs : List Bk) (N : Nat) (i : Nat) (o : Opr) (la : Option Addr) (ln lc : Nat) (ba : Option Addr) (bn bc : Nat) (w : World) (h : WdAt w own base W D bv bs N) (hok : AllOk bs) (hi : i < bs.length) (hov : OvAt w) (hk : o.kind = 6) :
    Calls Tryz.prog 23 #[.pointer (some ⟨W, 0, none⟩), bkV (bkG bs i), opV o la ln lc ba bn bc] w fun e w' => e = .returned (.bool true) ∧ Went w w' base W D (N + 1) bs.length := by
  obtain ⟨hb0, hb1, hb2⟩ := box2q w (bkG bs i) o la ln lc ba bn bc
  have HOK : Hid (AllOk bs) := hok
  have hbas := h.bas
  have H0 : Hid (WdAt ((w.alloc (.cells #[.pointer (some ⟨(bkG bs i).X, 0, none⟩), .pointer (some ⟨(bkG bs i).R, 0, none⟩)] 62)).alloc (.cells (opC o la ln lc ba bn bc).toArray 47)) own base W D bv bs N) := h.below hb2
  have HOV : Hid (OvAt ((w.alloc (.cells #[.pointer (some ⟨(bkG bs i).X, 0, none⟩), .pointer (some ⟨(bkG bs i).R, 0, none⟩)] 62)).alloc (.cells (opC o la ln lc ba bn bc).toArray 47))) := hov.below hb2 hov.pos
  obtain ⟨e1, e2⟩ := hok i hi
  have HE1 : Hid ((bkG bs i).s = (St.new (bkG bs i).c).doAll (bkG bs i).cs) := e1
  have HB : Hid (Below w.heap.size w ((w.alloc (.cells #[.pointer (some ⟨(bkG bs i).X, 0, none⟩), .pointer (some ⟨(bkG bs i).R, 0, none⟩)] 62)).alloc (.cells (opC o la ln lc ba bn bc).toArray 47))) := hb2
  have HB0 : Hid (((w.alloc (.cells #[.pointer (some ⟨(bkG bs i).X, 0, none⟩), .pointer (some ⟨(bkG bs i).R, 0, none⟩)] 62)).alloc (.cells (opC o la ln lc ba bn bc).toArray 47)).heap[w.heap.size]? = some (.cells #[.pointer (some ⟨(bkG bs i).X, 0, none⟩), .pointer (some ⟨(bkG bs i).R, 0, none⟩)] 62 (0, 0))) := hb0
  have HB1 : Hid (((w.alloc (.cells #[.pointer (some ⟨(bkG bs i).X, 0, none⟩), .pointer (some ⟨(bkG bs i).R, 0, none⟩)] 62)).alloc (.cells (opC o la ln lc ba bn bc).toArray 47)).heap[w.heap.size + 1]? = some (.cells (opC o la ln lc ba bn bc).toArray 47 (0, 0))) := hb1
  have hpos := hov.pos
  clear h hok hb0 hb1 hb2 e1 e2 hov
  go_enter Tryz.func23, Tryz.ntmps23
  go_upto_region 1 with fail
  generalize (w.alloc (.cells #[.pointer (some ⟨(bkG bs i).X, 0, none⟩), .pointer (some ⟨(bkG bs i).R, 0, none⟩)] 62)).alloc (.cells (opC o la ln lc ba bn bc).toArray 47) = w0 at *
  have hlt0 : w.heap.size < w0.heap.size := (Array.getElem?_eq_some_iff.1 HB0.out).1
  have c0 : w0.cell? ⟨w.heap.size, 0, none⟩ = some (.pointer (some ⟨(bkG bs i).X, 0, none⟩)) := cell_blk HB0.out rfl
  have c1 : w0.cell? ⟨w.heap.size, 1, none⟩ = some (.pointer (some ⟨(bkG bs i).R, 0, none⟩)) := cell_blk HB0.out rfl
  have p0 : w0.cell? ⟨w.heap.size + 1, 0, none⟩ = some (.int .i64 o.kind) := cell_blk HB1.out rfl
  rw [hk] at p0
  go_wp2_with fail
  refine (cells_any (bkG bs i).X _ (bkG bs i).s (bkG bs i).lg w0 (H0.out.st i hi)).mono ?_
  rintro e w1 ⟨rfl, hb1⟩
  have d1 : w1.cell? ⟨w.heap.size, 1, none⟩ = some (.pointer (some ⟨(bkG bs i).R, 0, none⟩)) := (hb1.cell (p := ⟨w.heap.size, 1, none⟩) hlt0).trans c1
  have H1 : Hid (WdAt w1 own base W D bv bs N) := H0.out.below hb1
  have HBB1 : Hid (Below w.heap.size w w1) := HB.out.trans (hb1.mono HB.out.size)
  have HO1 : Hid (OvAt w1) := HOV.out.below hb1 (by omega)
  clear hb1 c0 c1 p0
  have HC2 := cl_ref w1 (H1.out.rf i hi) HO1.out
  rw [← HE1.out] at HC2
  generalize cellsN (bkG bs i).s = cn at *
  go_wp2_with fail
  refine HC2.mono ?_
  clear HC2
  rintro e w2 ⟨rfl, hb2⟩
  have H2 : Hid (WdAt w2 own base W D bv bs N) := H1.out.below hb2
  have HBB2 : Hid (Below w.heap.size w w2) := HBB1.out.trans (hb2.mono HBB1.out.size)
  clear hb2 d1
  go_wp2_with fail
  go_ret
  exact ⟨rfl, ⟨_, _, _, H2.out.more (Nat.le_succ _), HOK.out, Nat.le_refl _⟩, HBB2.out.mono hbas⟩

theorem stepOk_sizes {base W D : Nat} {o : Opr} (hwf : OpWf o) (hk : skipB 6 6 o.kind = false) : StepOkO base W D o := by
  have h := skip_no hk
  refine stepOkO_of hwf (by omega) (by omega) (by omega) (by omega) (fun k1 k2 k3 own bv bs N i la ln lc ba bn bc w hw hok hi _ hov => ?_)
  by_cases k6 : o.kind = 6
  · exact asked_cells own base W D bv bs N i o la ln lc ba bn bc w hw hok hi hov k6
  · exact asked_none own base W D bv bs N i o la ln lc ba bn bc w hw hok (by omega) (by omega) k6 (by omega)

theorem sizes_any (a : Option Addr) (n cap : Nat) (l : List Opr) (w : World) (h : IsOps w a n l) (hn : n ≤ 837723145000) (hov : OvAt w) :
    Calls Tryz.prog 5 #[.slice a n cap] w fun e w' => e = .returned (.bool true) ∧ Below w.heap.size w w' := by
  have HP := plays_ov a n cap l 6 6 w h hn hov (fun o ho hk => stepOk_sizes (h.2.1 o ho) hk)
  clear h hov
  go_enter Tryz.func5, Tryz.ntmps5
  go_wp2_with fail
  refine HP.mono ?_
  rintro e w1 ⟨rfl, hb⟩
  have HB : Hid (Below w.heap.size w w1) := hb
  clear hb HP
  go_wp2_with fail
  go_ret
  exact ⟨rfl, HB.out⟩

end Go.Proofs.YthciddpljcbhiaaGreatDoor
