/- Texts of one claim put together: Srm, Lvr, Srw, Plo, Les, Adm, Srx, Gpl, Adr, Rqr, Lst. -/
import Derived.Test.YthciddpljcbhiaaGreatDoorB3
import Derived.Test.YthciddpljcbhiaaGreatDoorA
import Derived.Test.YthciddpljcbhiaaGreatDoorB1
import Derived.BigQuiet
import Derived.Deep.DrawnRows
import Derived.Deep.OwnRows
import Derived.Deep.RegionHeld3
import Derived.Test.YthciddpljcbhiaaGreatDoorB4
import Derived.Test.YthciddpljcbhiaaGreatDoorProg

/- The document's series in memory: what is admitted, the rows so far; and a sample's way through the levels (no program). -/
namespace Go.Proofs.YthciddpljcbhiaaGreatDoor
open Go Go.RowKit Go.Lib

/-! A sample's way through the levels. -/
def aG (L : List (List Lb)) (j : Nat) : List Lb := L.getD j []
theorem aG_set (L : List (List Lb)) (i : Nat) (a : List Lb) (j : Nat) (hi : i < L.length) : aG (L.set i a) j = if i = j then a else aG L j := by
  unfold aG
  simp only [List.getD, List.getElem?_set]
  by_cases h : i = j
  · subst h; simp [hi]
  · simp [h]
/-- One level: what is admitted behind it, and what comes of the labels. -/
def stpA (lv : Lv) (adm : List Lb) (now : Lb) : List Lb := if now = over then adm else if madeL lv.rule now ∈ adm then adm else if ((adm.length : Nat) : Int) < lv.limit then adm ++ [madeL lv.rule now] else adm
def stpN (lv : Lv) (adm : List Lb) (now : Lb) : Lb := if now = over then over else if madeL lv.rule now ∈ adm then madeL lv.rule now else if ((adm.length : Nat) : Int) < lv.limit then madeL lv.rule now else over
def runA (lvs : List Lv) (A : List (List Lb)) (now : Lb) : Nat → List (List Lb) × Lb × List Lb
  | 0 => (A, now, [])
  | j + 1 => ((runA lvs A now j).1.set j (stpA (lvG lvs j) (aG (runA lvs A now j).1 j) (runA lvs A now j).2.1), stpN (lvG lvs j) (aG (runA lvs A now j).1 j) (runA lvs A now j).2.1, (runA lvs A now j).2.2 ++ [stpN (lvG lvs j) (aG (runA lvs A now j).1 j) (runA lvs A now j).2.1])
theorem runA_len (lvs : List Lv) (A : List (List Lb)) (now : Lb) : ∀ j, (runA lvs A now j).1.length = A.length ∧ (runA lvs A now j).2.2.length = j
  | 0 => ⟨rfl, rfl⟩
  | j + 1 => by
    obtain ⟨h1, h2⟩ := runA_len lvs A now j
    refine ⟨?_, ?_⟩
    · simp only [runA, List.length_set]; exact h1
    · simp only [runA, List.length_append, h2]; rfl
theorem runA_drop (lvs : List Lv) (A : List (List Lb)) (now : Lb) : ∀ j, (runA lvs A now j).1.drop j = A.drop j
  | 0 => rfl
  | j + 1 => by
    have h := runA_drop lvs A now j
    simp only [runA]
    rw [List.drop_set_of_lt (by omega)]
    have e : ∀ X : List (List Lb), X.drop (j + 1) = (X.drop j).drop 1 := fun X => by rw [List.drop_drop]
    rw [e, h, ← e]
theorem aG_drop (A : List (List Lb)) (j : Nat) : (A.drop j).headD [] = aG A j := by
  unfold aG
  rw [List.headD_eq_head?_getD, List.head?_drop]
  rfl
theorem runA_at (lvs : List Lv) (A : List (List Lb)) (now : Lb) (j : Nat) : aG (runA lvs A now j).1 j = aG A j := by
  rw [← aG_drop, runA_drop, aG_drop]
theorem drop_lv2 (lvs : List Lv) (j : Nat) (h : j < lvs.length) : lvs.drop j = lvG lvs j :: lvs.drop (j + 1) := by
  rw [lvG_get lvs j h]
  exact List.drop_eq_getElem_cons h
theorem admRow_cons (lv : Lv) (lvs : List Lv) (A : List (List Lb)) (now : Lb) : admRow (lv :: lvs) A now = if now = over then A.headD [] :: admRow lvs A.tail over else if madeL lv.rule now ∈ A.headD [] then A.headD [] :: admRow lvs A.tail (madeL lv.rule now)
    else if ((A.headD []).length : Int) < lv.limit then (A.headD [] ++ [madeL lv.rule now]) :: admRow lvs A.tail (madeL lv.rule now) else A.headD [] :: admRow lvs A.tail over := rfl
theorem serNow_cons (lv : Lv) (lvs : List Lv) (A : List (List Lb)) (now : Lb) : serNow (lv :: lvs) A now = if now = over then over :: serNow lvs A.tail over else if madeL lv.rule now ∈ A.headD [] then madeL lv.rule now :: serNow lvs A.tail (madeL lv.rule now)
    else if ((A.headD []).length : Int) < lv.limit then madeL lv.rule now :: serNow lvs A.tail (madeL lv.rule now) else over :: serNow lvs A.tail over := rfl
/-- The way is the document's. -/
theorem runA_row (lvs : List Lv) (A : List (List Lb)) (now : Lb) (hA : A.length = lvs.length) : ∀ j, j ≤ lvs.length →
    admRow lvs A now = (runA lvs A now j).1.take j ++ admRow (lvs.drop j) (A.drop j) (runA lvs A now j).2.1 ∧ serNow lvs A now = (runA lvs A now j).2.2 ++ serNow (lvs.drop j) (A.drop j) (runA lvs A now j).2.1
  | 0, _ => by simp [runA]
  | j + 1, h => by
    obtain ⟨h1, h2⟩ := runA_row lvs A now hA j (by omega)
    have hl := (runA_len lvs A now j).1
    have hat := runA_at lvs A now j
    have ht : ∀ a, ((runA lvs A now j).1.set j a).take (j + 1) = (runA lvs A now j).1.take j ++ [a] := fun a => by
      rw [List.take_succ_eq_append_getElem (by rw [List.length_set]; omega), List.take_set_of_le (Nat.le_refl _)]
      simp
    rw [drop_lv2 lvs j (by omega)] at h1 h2
    have htl : (A.drop j).tail = A.drop (j + 1) := by rw [List.tail_drop]
    rw [admRow_cons] at h1
    rw [serNow_cons] at h2
    rw [aG_drop, htl] at h1 h2
    rw [h1, h2]
    show _ = ((runA lvs A now j).1.set j (stpA (lvG lvs j) (aG (runA lvs A now j).1 j) (runA lvs A now j).2.1)).take (j + 1) ++ admRow (lvs.drop (j + 1)) (A.drop (j + 1)) (stpN (lvG lvs j) (aG (runA lvs A now j).1 j) (runA lvs A now j).2.1) ∧ _ = ((runA lvs A now j).2.2 ++ [stpN (lvG lvs j) (aG (runA lvs A now j).1 j) (runA lvs A now j).2.1]) ++ serNow (lvs.drop (j + 1)) (A.drop (j + 1)) (stpN (lvG lvs j) (aG (runA lvs A now j).1 j) (runA lvs A now j).2.1)
    rw [ht, hat]
    unfold stpA stpN
    by_cases c1 : (runA lvs A now j).2.1 = over
    · simp only [if_pos c1]
      simp
    · simp only [if_neg c1]
      by_cases c2 : madeL (lvG lvs j).rule (runA lvs A now j).2.1 ∈ aG A j
      · simp only [if_pos c2]
        simp
      · simp only [if_neg c2]
        by_cases c3 : (((aG A j).length : Nat) : Int) < (lvG lvs j).limit
        · simp only [if_pos c3]
          simp
        · simp only [if_neg c3]
          simp
theorem runA_all (lvs : List Lv) (A : List (List Lb)) (now : Lb) (hA : A.length = lvs.length) : (runA lvs A now lvs.length).1 = admRow lvs A now ∧ (runA lvs A now lvs.length).2.2 = serNow lvs A now := by
  obtain ⟨h1, h2⟩ := runA_row lvs A now hA lvs.length (Nat.le_refl _)
  have hl := (runA_len lvs A now lvs.length).1
  rw [List.drop_length] at h1 h2
  refine ⟨?_, ?_⟩
  · rw [h1]
    simp only [admRow, List.append_nil]
    rw [List.take_of_length_le (by omega)]
  · rw [h2]
    simp only [serNow, List.append_nil]
/-- Labels on their way are labels, or what was not admitted. -/
theorem runA_ok (lvs : List Lv) (A : List (List Lb)) (now : Lb) (hn : okS now) : ∀ j, okS (runA lvs A now j).2.1
  | 0 => hn
  | j + 1 => by
    have h := runA_ok lvs A now hn j
    show okS (stpN _ _ _)
    unfold stpN
    by_cases c1 : (runA lvs A now j).2.1 = over
    · rw [if_pos c1]; exact .inl rfl
    · rw [if_neg c1]
      have hm := madeL_lab (r := (lvG lvs j).rule) (h.resolve_left c1)
      split
      · exact .inr hm
      · split
        · exact .inr hm
        · exact .inl rfl
/-- All bounds hold on the way: no level has more than its limit. -/
def Fits (lvs : List Lv) (A : List (List Lb)) : Prop := ∀ j, j < lvs.length → (((aG A j).length : Nat) : Int) ≤ (lvG lvs j).limit
theorem stpA_len (lv : Lv) (adm : List Lb) (now : Lb) (h : (adm.length : Int) ≤ lv.limit) : ((stpA lv adm now).length : Int) ≤ lv.limit := by
  unfold stpA
  split
  · exact h
  · split
    · exact h
    · split
      · simp; omega
      · exact h
theorem runA_fits (lvs : List Lv) (A : List (List Lb)) (now : Lb) (hA : A.length = lvs.length) (h : Fits lvs A) : ∀ j, j ≤ lvs.length → Fits lvs (runA lvs A now j).1
  | 0, _ => h
  | j + 1, hj => by
    have h1 := runA_fits lvs A now hA h j (by omega)
    have hl := (runA_len lvs A now j).1
    intro i hi
    show (((aG ((runA lvs A now j).1.set j _) i).length : Nat) : Int) ≤ _
    rw [aG_set _ _ _ _ (by omega)]
    split
    · next e => subst e; exact stpA_len _ _ _ (h1 j hi)
    · exact h1 i hi

/-! In memory. -/
def flatL (l : List Lb) : List Value := l.flatMap lbC
theorem lbC_len (l : Lb) : (lbC l).length = 3 := rfl
theorem flatL_len (l : List Lb) : (flatL l).length = l.length * 3 := flat_length lbC 3 lbC_len l
theorem flatL_snoc (l : List Lb) (x : Lb) : flatL (l ++ [x]) = flatL l ++ lbC x := by simp [flatL]
def vG (vs : List Value) (j : Nat) : Value := vs.getD j (.slice none 0 0)
theorem vG_get (vs : List Value) (j : Nat) (h : j < vs.length) : vs[j]? = some (vG vs j) := by simp [vG, List.getD, h]
theorem vG_set (vs : List Value) (i : Nat) (v : Value) (j : Nat) (hi : i < vs.length) : vG (vs.set i v) j = if i = j then v else vG vs j := by
  unfold vG
  simp only [List.getD, List.getElem?_set]
  by_cases h : i = j
  · subst h; simp [hi]
  · simp [h]
/-- Whose a block is: 1 the row of what is admitted, 10 + j its lists; 2 the row of rows, 3 the rows in it; 4 the row that is being made, 5 the labels' box. -/
structure SrS (w : World) (base : Nat) (ow : Nat → Nat) (G : Nat) (vs : List Value) (L : List (List Lb)) (ov : Value) (rs : List Value) (S : List (List Lb)) (n : Nat) : Prop where
  out : ∀ k, w.heap.size ≤ k → ow k = 0
  low : ∀ k, k < base → ow k = 0
  bas : base ≤ w.heap.size
  blk : w.heap[G]? = some (.cells vs.toArray 144 (0, 0))
  lv : vs.length = n
  lL : L.length = n
  oG : ow G = 1
  adm : ∀ j, j < n → w.ownsRow 0 42 3 (vG vs j) (aG L j).length (flatL (aG L j))
  oA : ∀ j, j < n → ∀ k, (vG vs j).ownBlock = some k → ow k = 10 + j
  orow : w.ownsRow 0 144 1 ov rs.length rs
  oO : ∀ k, ov.ownBlock = some k → ow k = 2
  lS : rs.length = S.length
  row : ∀ i, i < rs.length → ∃ b cap, vG rs i = .slice (some ⟨b, 0, none⟩) n cap ∧ ow b = 3 ∧ At w b 0 (flatL (aG S i)) ∧ (aG S i).length = n

section
variable {w w' : World} {base : Nat} {ow : Nat → Nat} {G : Nat} {vs : List Value} {L : List (List Lb)} {ov : Value} {rs : List Value} {S : List (List Lb)} {n : Nat}
theorem SrS.Glt (h : SrS w base ow G vs L ov rs S n) : G < w.heap.size := (Array.getElem?_eq_some_iff.1 h.blk).1
theorem SrS.keepTo (h : SrS w base ow G vs L ov rs S n) {T : Nat → Prop} (hf : Fr T w w') {ow' : Nat → Nat} (hT : ∀ k, T k → ow k = 0 ∨ ow k = 4 ∨ ow k = 5) (hout : ∀ k, w'.heap.size ≤ k → ow' k = 0) (hlow : ∀ k, k < base → ow' k = 0) (hsame : ∀ k, ow k ≠ 0 → ow k ≠ 4 → ow k ≠ 5 → ow' k = ow k) : SrS w' base ow' G vs L ov rs S n where
  out := hout
  low := hlow
  bas := Nat.le_trans h.bas hf.size
  blk := by rw [hf.block G h.Glt (fun e => by have := hT G e; have := h.oG; omega)]; exact h.blk
  lv := h.lv
  lL := h.lL
  oG := by rw [hsame G (by rw [h.oG]; omega) (by rw [h.oG]; omega) (by rw [h.oG]; omega)]; exact h.oG
  adm := fun j hj => owns_fr (h.adm j hj) hf (fun k e e' => by have := h.oA j hj k e; have := hT k e'; omega)
  oA := fun j hj k e => by have h1 := h.oA j hj k e; rw [hsame k (by omega) (by omega) (by omega)]; exact h1
  orow := owns_fr h.orow hf (fun k e e' => by have := h.oO k e; have := hT k e'; omega)
  oO := fun k e => by have h1 := h.oO k e; rw [hsame k (by omega) (by omega) (by omega)]; exact h1
  lS := h.lS
  row := fun i hi => by
    obtain ⟨b, cap, e1, e2, e3, e4⟩ := h.row i hi
    exact ⟨b, cap, e1, by rw [hsame b (by omega) (by omega) (by omega)]; exact e2, e3.fr hf (fun e => by have := hT b e; omega), e4⟩
theorem SrS.below (h : SrS w base ow G vs L ov rs S n) (hb : Below w.heap.size w w') : SrS w' base ow G vs L ov rs S n :=
  h.keepTo (T := fun _ => False) (Fr.of_below hb) (fun _ e => e.elim) (fun k hk => h.out k (Nat.le_trans hb.size hk)) h.low (fun _ _ _ _ => rfl)
/-- The row that is being made, or the box, grows or is written. -/
theorem SrS.other (h : SrS w base ow G vs L ov rs S n) {t : Nat} (ht : t = 4 ∨ t = 5) (hf : Fr (fun k => ow k = t) w w') : SrS w' base (upd ow w w' t) G vs L ov rs S n :=
  h.keepTo hf (fun k e => by have e' : ow k = t := e; omega) (upd_out h.out hf.size) (upd_low h.bas h.low) (fun k h0 _ _ => upd_old _ _ h.out h0 rfl)
/-- One more is admitted at a level. -/
theorem SrS.more (h : SrS w base ow G vs L ov rs S n) {W w3 : World} {j : Nat} (hj : j < n) {v' : Value} {m : Lb} (hb : Below w.heap.size w W) (hg : W.grownBy w3 (vG vs j).ownBlock) (ho : w3.ownsRow 0 42 3 v' ((aG L j).length + 1) (flatL (aG L j) ++ lbC m))
    (hk : v'.ownBlock = (vG vs j).ownBlock ∨ ∀ k, v'.ownBlock = some k → W.heap.size ≤ k) :
    SrS (w3.setCell ⟨G, j, none⟩ v') base (upd ow W w3 (10 + j)) G (vs.set j v') (L.set j (aG L j ++ [m])) ov rs S n ∧ Fr (fun k => ow k = 1 ∨ ow k = 10 + j) w (w3.setCell ⟨G, j, none⟩ v') := by
  have hs3 : (w3.setCell ⟨G, j, none⟩ v').heap.size = w3.heap.size := by simp [World.setCell]
  have hWs := hb.size
  have h3s := hg.size
  have hout : ∀ k, W.heap.size ≤ k → ow k = 0 := fun k hk => h.out k (by omega)
  have hf : Fr (fun k => ow k = 1 ∨ ow k = 10 + j) w (w3.setCell ⟨G, j, none⟩ v') := ((Fr.of_below hb).grown hg (fun k e => .inl (.inr (h.oA j hj k e)))).setCell (.inl (.inl h.oG)) _
  have hGv : (vG vs j).ownBlock ≠ some G := fun e => by have h1 := h.oA j hj G e; have h2 := h.oG; omega
  have hGv' : v'.ownBlock ≠ some G := fun e => by
    rcases hk with hk | hk
    · rw [hk] at e; exact hGv e
    · have h1 := hk G e; have h2 := h.Glt; omega
  have hold : ∀ k i, i ≠ 0 → ow k = i → upd ow W w3 (10 + j) k = i := fun k i hi e => upd_old w3 (10 + j) hout hi e
  refine ⟨?_, hf⟩
  exact {
    out := fun k hk' => by rw [hs3] at hk'; exact upd_out hout h3s k hk'
    low := upd_low (by have := h.bas; omega) h.low
    bas := by have := h.bas; omega
    blk := by
      have e1 : w3.heap[G]? = some (.cells vs.toArray 144 (0, 0)) := by
        rw [hg.block G (by have := h.Glt; omega) (fun e => hGv e.symm), hb.block G h.Glt]
        exact h.blk
      have e2 := heap_setCell (o := j) (v := v') e1
      rw [e2]
      simp
    lv := by rw [List.length_set]; exact h.lv
    lL := by rw [List.length_set]; exact h.lL
    oG := hold G 1 (by omega) h.oG
    adm := fun i hi => by
      rw [vG_set _ _ _ _ (by rw [h.lv]; exact hj), aG_set _ _ _ _ (by rw [h.lL]; exact hj)]
      by_cases e : j = i
      · rw [if_pos e, if_pos e, List.length_append, flatL_snoc]
        exact owns_other ho hGv'
      · rw [if_neg e, if_neg e]
        exact owns_fr (h.adm i hi) hf (fun k e1 e2 => by have := h.oA i hi k e1; omega)
    oA := fun i hi k e1 => by
      rw [vG_set _ _ _ _ (by rw [h.lv]; exact hj)] at e1
      by_cases e : j = i
      · rw [if_pos e] at e1
        subst e
        rcases hk with hk | hk
        · rw [hk] at e1; exact hold k _ (by omega) (h.oA j hj k e1)
        · have h1 := hk k e1
          have h2 := (ho.lt k e1).2
          unfold upd
          rw [if_pos ⟨h1, h2⟩]
      · rw [if_neg e] at e1
        exact hold k _ (by omega) (h.oA i hi k e1)
    orow := owns_fr h.orow hf (fun k e1 e2 => by have := h.oO k e1; omega)
    oO := fun k e => hold k 2 (by omega) (h.oO k e)
    lS := h.lS
    row := fun i hi => by
      obtain ⟨b, cap, e1, e2, e3, e4⟩ := h.row i hi
      exact ⟨b, cap, e1, hold b 3 (by omega) e2, e3.fr hf (fun e => by omega), e4⟩ }
/-- A row more. -/
theorem SrS.push (h : SrS w base ow G vs L ov rs S n) {W w3 : World} {ov' : Value} {b cap : Nat} {s : List Lb} (hb : Below w.heap.size w W) (hg : W.grownBy w3 ov.ownBlock) (ho : w3.ownsRow 0 144 1 ov' (rs.length + 1) (rs ++ [.slice (some ⟨b, 0, none⟩) n cap]))
    (hk : ov'.ownBlock = ov.ownBlock ∨ ∀ k, ov'.ownBlock = some k → W.heap.size ≤ k) (hbo : ow b = 4) (hat : At w b 0 (flatL s)) (hs : s.length = n) :
    SrS w3 base (fun k => if ow k = 4 then 3 else if ow k = 5 then 0 else upd ow W w3 2 k) G vs L ov' (rs ++ [.slice (some ⟨b, 0, none⟩) n cap]) (S ++ [s]) n ∧ Fr (fun k => ow k = 2) w w3 := by
  have hWs := hb.size
  have h3s := hg.size
  have hout : ∀ k, W.heap.size ≤ k → ow k = 0 := fun k hk => h.out k (by omega)
  have hf : Fr (fun k => ow k = 2) w w3 := (Fr.of_below hb).grown hg (fun k e => .inl (h.oO k e))
  have hold : ∀ k i, i ≠ 0 → i ≠ 4 → i ≠ 5 → ow k = i → (if ow k = 4 then 3 else if ow k = 5 then 0 else upd ow W w3 2 k) = i := fun k i hi h4 h5 e => by
    rw [if_neg (by omega), if_neg (by omega)]
    exact upd_old w3 2 hout hi e
  refine ⟨?_, hf⟩
  have hvg : ∀ i, i < rs.length → vG (rs ++ [.slice (some ⟨b, 0, none⟩) n cap]) i = vG rs i := fun i hi => by simp [vG, List.getD, List.getElem?_append_left hi]
  have hag : ∀ i, i < S.length → aG (S ++ [s]) i = aG S i := fun i hi => by simp [aG, List.getD, List.getElem?_append_left hi]
  exact {
    out := fun k hk' => by
      have h0 := h.out k (by omega)
      show (if ow k = 4 then 3 else if ow k = 5 then 0 else upd ow W w3 2 k) = 0
      rw [if_neg (by omega), if_neg (by omega)]
      exact upd_out hout h3s k hk'
    low := fun k hk' => by
      have h0 := h.low k hk'
      show (if ow k = 4 then 3 else if ow k = 5 then 0 else upd ow W w3 2 k) = 0
      rw [if_neg (by omega), if_neg (by omega)]
      exact upd_low (by have := h.bas; omega) h.low k hk'
    bas := by have := h.bas; omega
    blk := by rw [hf.block G h.Glt (by rw [h.oG]; omega)]; exact h.blk
    lv := h.lv
    lL := h.lL
    oG := hold G 1 (by omega) (by omega) (by omega) h.oG
    adm := fun j hj => owns_fr (h.adm j hj) hf (fun k e e' => by have := h.oA j hj k e; omega)
    oA := fun j hj k e => hold k _ (by omega) (by omega) (by omega) (h.oA j hj k e)
    orow := by rw [List.length_append]; exact ho
    oO := fun k e => by
      rcases hk with hk | hk
      · rw [hk] at e; exact hold k 2 (by omega) (by omega) (by omega) (h.oO k e)
      · have h1 := hk k e
        have h2 := (ho.lt k e).2
        have h0 := h.out k (by omega)
        rw [if_neg (by omega), if_neg (by omega)]
        unfold upd
        rw [if_pos ⟨h1, h2⟩]
    lS := by rw [List.length_append, List.length_append, h.lS]; rfl
    row := fun i hi => by
      rw [List.length_append] at hi
      by_cases hlt : i < rs.length
      · obtain ⟨b', cap', e1, e2, e3, e4⟩ := h.row i hlt
        rw [hvg i hlt, hag i (by rw [← h.lS]; exact hlt)]
        exact ⟨b', cap', e1, hold b' 3 (by omega) (by omega) (by omega) e2, e3.fr hf (fun e => by omega), e4⟩
      · have hi' : i = rs.length := by simp at hi; omega
        subst hi'
        have e1 : vG (rs ++ [.slice (some ⟨b, 0, none⟩) n cap]) rs.length = .slice (some ⟨b, 0, none⟩) n cap := by simp [vG, List.getD]
        have e2 : aG (S ++ [s]) rs.length = s := by rw [h.lS]; simp [aG, List.getD]
        rw [e1, e2]
        exact ⟨b, cap, rfl, if_pos hbo, hat.fr hf (fun e => by omega), hs⟩ }
end

end Go.Proofs.YthciddpljcbhiaaGreatDoor

/- Walks: the document's level of a time; are these labels among the others? (garnerref) -/
namespace Go.Proofs.YthciddpljcbhiaaGreatDoor
open Go Go.RowKit Go.Lib

theorem rf_right {w : World} {R : Nat} {F : Nat → Prop} {c : Cf} {ps : List Cp} {L lcap : Nat} {cv : Value} (h : RfS w R F c ps L lcap cv) : c.right = true := by
  have hr := h.inv.right
  rw [doAll_cf] at hr
  exact hr
theorem rf_nowr {w : World} {R : Nat} {F : Nat → Prop} {c : Cf} {ps : List Cp} {L lcap : Nat} {cv : Value} (h : RfS w R F c ps L lcap cv) : 0 ≤ sumT (ps.map (·.1)) ∧ sumT (ps.map (·.1)) ≤ 100000 := by
  have h1 := h.inv.n1
  rw [rf_now] at h1
  exact ⟨sumT_nn h.tks, h1⟩

set_option maxHeartbeats 1000000 in
theorem level_ref (R : Nat) (F : Nat → Prop) (c : Cf) (ps : List Cp) (L lcap : Nat) (cv : Value) (t : Int) (w : World) (h : RfS w R F c ps L lcap cv) (t0 : 0 ≤ t) (t1 : t ≤ 100100) :
    Calls Tryz.prog 81 #[.pointer (some ⟨R, 0, none⟩), .int .i64 t] w fun e w' => e = .returned (.int .i64 (c.lvl (sumT (ps.map (·.1))) t : Nat)) ∧ ∃ d, w' = w.drewN d := by
  obtain ⟨sp1, sp2, _, _, l1, l4, _⟩ := Cf.right_parts (rf_right h)
  have HA := age_ref R F c ps L lcap cv t w h sp1 sp2 t0 (by omega)
  have c2 := h.cell 2 _ rfl
  have HLV : Hid (LvAt w L 0 c.lvs) := h.lv
  have HE : Hid (c.lvl (sumT (ps.map (·.1))) t = lvlTo c.lvs (c.age (sumT (ps.map (·.1))) t) c.lvs.length) := rfl
  clear h
  generalize c.age (sumT (ps.map (·.1))) t = ag at *
  generalize c.lvl (sumT (ps.map (·.1))) t = res at *
  go_enter Tryz.func81, Tryz.ntmps81
  go_wp2_with fail
  refine HA.mono ?_
  rintro e w1 ⟨rfl, d, rfl⟩
  clear HA
  have d2 : (w.drewN d).cell? ⟨R, 2, none⟩ = some (.slice (some ⟨L, 0, none⟩) c.lvs.length lcap) := c2
  have HLV1 : Hid (LvAt (w.drewN d) L 0 c.lvs) := HLV.out
  clear c2 HLV
  generalize hw1 : w.drewN d = w1 at *
  go_wp2_with fail
  go_loopw [6, 7] (fun l i wr => ∃ k : Nat, i = .int .i64 k ∧ 1 ≤ k ∧ k ≤ c.lvs.length ∧ l = .int .i64 (lvlTo c.lvs ag k : Nat) ∧ wr = w1) (fun _ i _ => c.lvs.length - (intOf i).toNat)
  case atStart => exact ⟨1, rfl, Nat.le_refl _, l1, rfl, rfl⟩
  case round =>
    obtain ⟨k, rfl, hk1, hk, rfl, rfl⟩ := hrel
    by_cases hlt : k < c.lvs.length
    · obtain ⟨a0, _, _, _⟩ := HLV1.out k hlt
      simp only [Nat.zero_add] at a0
      have HS : Hid (lvlTo c.lvs ag (k + 1) = if 1 ≤ k ∧ (lvG c.lvs k).age ≤ ag then k else lvlTo c.lvs ag k) := rfl
      by_cases hag : (lvG c.lvs k).age ≤ ag
      · have HS2 : Hid (lvlTo c.lvs ag (k + 1) = k) := by show _ = _; rw [HS.out, if_pos ⟨hk1, hag⟩]
        generalize (lvG c.lvs k).age = ak at *
        go_wp2_with fail
        exact ⟨⟨k + 1, by go_num, by omega, by omega, by rw [HS2.out], trivial⟩, by simp [intOf]; omega⟩
      · have HS2 : Hid (lvlTo c.lvs ag (k + 1) = lvlTo c.lvs ag k) := by show _ = _; rw [HS.out, if_neg (fun e => hag e.2)]
        generalize (lvG c.lvs k).age = ak at *
        generalize lvlTo c.lvs ag k = cur at *
        go_wp2_with fail
        exact ⟨⟨k + 1, by go_num, by omega, by omega, by rw [HS2.out], trivial⟩, by simp [intOf]; omega⟩
    · have hkE : k = c.lvs.length := by omega
      have HF : Hid (lvlTo c.lvs ag k = res) := by show _ = _; rw [hkE, HE.out]
      rw [HF.out]
      go_wp2_with fail
      go_ret
      exact ⟨rfl, d, hw1.symm⟩

theorem lb_beq (x y : Lb) : (y.a == x.a && y.b == x.b && y.c == x.c) = decide (y = x) := by
  cases x; cases y
  simp
  rw [Bool.eq_iff_iff]
  simp [and_assoc]
theorem lb_ne {x y : Lb} (h : ¬ y = x) : (y.a == x.a && y.b == x.b && y.c == x.c) = false := by rw [lb_beq]; simp [h]

def lbsG (A : List Lb) (i : Nat) : Lb := A.getD i Lb.zero
theorem lbsG_get (A : List Lb) (i : Nat) (h : i < A.length) : lbsG A i = A[i] := by simp [lbsG, List.getD, h]
theorem at_lbs {w : World} {b off : Nat} {A : List Lb} (h : At w b off (flatL A)) (i : Nat) (hi : i < A.length) : w.cell? ⟨b, off + i * 3, none⟩ = some (.int .u8 (lbsG A i).a) ∧ w.cell? ⟨b, off + i * 3 + 1, none⟩ = some (.int .u8 (lbsG A i).b) ∧ w.cell? ⟨b, off + i * 3 + 2, none⟩ = some (.int .u8 (lbsG A i).c) := by
  rw [lbsG_get A i hi]
  exact ⟨at_elem lbC 3 lbC_len h i hi 0 _ rfl, at_elem lbC 3 lbC_len h i hi 1 _ rfl, at_elem lbC 3 lbC_len h i hi 2 _ rfl⟩

set_option maxHeartbeats 1000000 in
theorem among_ref (a : Option Addr) (n cap : Nat) (A : List Lb) (x : Lb) (w : World) (hn : A.length = n) (hA : 0 < n → ∃ b off, a = some ⟨b, off, none⟩ ∧ At w b off (flatL A)) (hm : n ≤ 1000000) :
    Calls Tryz.prog 106 #[.slice a n cap, .agg #[.int .u8 x.a, .int .u8 x.b, .int .u8 x.c]] w fun e w' => e = .returned (.bool (decide (x ∈ A))) ∧ Below w.heap.size w w' := by
  have HA : Hid (0 < n → ∃ b off, a = some ⟨b, off, none⟩ ∧ At w b off (flatL A)) := hA
  have HN : Hid (A.length = n) := hn
  have hbx : Below w.heap.size w (w.alloc (.cells #[.int .u8 x.a, .int .u8 x.b, .int .u8 x.c] 42)) := (Below.refl _ _).alloc (Nat.le_refl _) _
  have hbk : (w.alloc (.cells #[.int .u8 x.a, .int .u8 x.b, .int .u8 x.c] 42)).heap[w.heap.size]? = some (.cells #[.int .u8 x.a, .int .u8 x.b, .int .u8 x.c] 42 (0, 0)) := heap_alloc_new _ _
  have HBX : Hid (Below w.heap.size w (w.alloc (.cells #[.int .u8 x.a, .int .u8 x.b, .int .u8 x.c] 42))) := hbx
  have HBK : Hid ((w.alloc (.cells #[.int .u8 x.a, .int .u8 x.b, .int .u8 x.c] 42)).heap[w.heap.size]? = some (.cells #[.int .u8 x.a, .int .u8 x.b, .int .u8 x.c] 42 (0, 0))) := hbk
  clear hA hn hbx hbk
  go_enter Tryz.func106, Tryz.ntmps106
  go_upto_region 1 with fail
  generalize w.alloc (.cells #[.int .u8 x.a, .int .u8 x.b, .int .u8 x.c] 42) = w0 at *
  have x0 : w0.cell? ⟨w.heap.size, 0, none⟩ = some (.int .u8 x.a) := cell_blk HBK.out rfl
  have x1 : w0.cell? ⟨w.heap.size, 1, none⟩ = some (.int .u8 x.b) := cell_blk HBK.out rfl
  have x2 : w0.cell? ⟨w.heap.size, 2, none⟩ = some (.int .u8 x.c) := cell_blk HBK.out rfl
  go_wp2_with fail
  go_loopw [5] (fun i wr => ∃ k : Nat, i = .int .i64 k ∧ k ≤ n ∧ (∀ j, j < k → ¬ lbsG A j = x) ∧ ∃ d, wr = w0.drewN d) (fun i _ => n - (intOf i).toNat)
  case atStart => exact ⟨0, rfl, Nat.zero_le _, fun j hj => absurd hj (by omega), 0, rfl⟩
  case round =>
    obtain ⟨k, rfl, hk, hno, d, rfl⟩ := hrel
    have HNO : Hid (∀ j, j < k → ¬ lbsG A j = x) := hno
    clear hno
    by_cases hlt : k < n
    · obtain ⟨b, off, rfl, hat⟩ := HA.out (by omega)
      obtain ⟨y0, y1, y2⟩ := at_lbs (fun j v hj => by
        have h9 := hat j v hj
        have hbl : b < w.heap.size := World.block_lt_of_cell? w _ h9
        exact (HBX.out.cell (p := ⟨b, off + j, none⟩) hbl).trans h9 : At w0 b off (flatL A)) k (by rw [HN.out]; exact hlt)
      clear hat
      by_cases hy : lbsG A k = x
      · have HIN : Hid (decide (x ∈ A) = true) := by
          show _ = _
          rw [decide_eq_true_eq, ← hy, lbsG_get A k (by rw [HN.out]; exact hlt)]
          exact List.getElem_mem _
        rw [hy] at y0 y1 y2
        have heq := fun w => eq26 9998 x.a x.b x.c x.a x.b x.c w
        simp only [beq_self_eq_true, Bool.and_self] at heq
        clear hy
        go_wp2_with fail
        go_quiet (fail)
        go_wp2_with fail
        go_ret
        exact ⟨by rw [HIN.out]; rfl, below_drewN (below_drewN HBX.out _) _⟩
      · have heq := fun w => eq26 9998 (lbsG A k).a (lbsG A k).b (lbsG A k).c x.a x.b x.c w
        rw [lb_ne hy] at heq
        have HNO2 : Hid (∀ j, j < k + 1 → ¬ lbsG A j = x) := fun j hj => by
          by_cases e : j = k
          · subst e; exact hy
          · exact HNO.out j (by omega)
        clear hy
        generalize lbsG A k = y at *
        go_wp2_with fail
        go_quiet (fail)
        go_wp2_with fail
        exact ⟨⟨k + 1, by go_num, by omega, HNO2.out, _, rfl⟩, by simp [intOf]; omega⟩
    · have HOUT : Hid (decide (x ∈ A) = false) := by
        show _ = _
        rw [decide_eq_false_iff_not]
        intro hx
        obtain ⟨i, hi, e⟩ := List.getElem_of_mem hx
        have hn' := HN.out
        exact HNO.out i (by omega) (by rw [lbsG_get A i hi]; exact e)
      go_wp2_with fail
      go_ret
      exact ⟨by rw [HOUT.out]; rfl, below_drewN HBX.out _⟩

end Go.Proofs.YthciddpljcbhiaaGreatDoor

/- Walks: the document's series of all samples (garnerref). -/
namespace Go.Proofs.YthciddpljcbhiaaGreatDoor
open Go Go.RowKit Go.Lib Go.Deep

theorem Tryz.info42' : (Tryz.prog.info? 42).map (fun i => (i.zero, i.size, i.bytes)) = some (some (.agg #[.int .u8 0, .int .u8 0, .int .u8 0]), 3, 3) := by kernel_rfl
theorem Tryz.info144' : (Tryz.prog.info? 144).map (fun i => (i.zero, i.size, i.bytes)) = some (some (.slice none 0 0), 1, 24) := by kernel_rfl
theorem made_reps (z : Value) (n : Nat) : madeCells #[z] n = (List.replicate n z).toArray := by
  apply Array.ext
  · simp [size_madeCells]
  · intro i h1 h2
    simp [madeCells, Nat.mod_one]
theorem make140 (n : Nat) (h : n ≤ 1000) (w : World) : (Instr.makeSlice 140 (.int .i64 (n : Int)) (.int .i64 (n : Int))).run Tryz.prog w =
    .ok (.slice (some ⟨w.heap.size, 0, none⟩) n n) (w.alloc (.cells (List.replicate n (.slice none 0 0)).toArray 144)) := by
  rw [run_make_row' (P := Tryz.prog) 140 144 (.slice none 0 0) 24 Tryz.underlying140 Tryz.info144' rfl .i64 .i64 n (by omega) (by omega) w, made_reps]

/-- The listed variable reads as listed. -/
def OvAt (w : World) : Prop := w.cell? ⟨0, 0, none⟩ = some (.int .u8 42) ∧ w.cell? ⟨0, 1, none⟩ = some (.int .u8 42) ∧ w.cell? ⟨0, 2, none⟩ = some (.int .u8 42)
theorem OvAt.pos {w : World} (h : OvAt w) : 0 < w.heap.size := World.block_lt_of_cell? w _ h.1
theorem OvAt.below {w w' : World} {B : Nat} (h : OvAt w) (hb : Below B w w') (hB : 0 < B) : OvAt w' := ⟨(hb.cell (p := ⟨0, 0, none⟩) hB).trans h.1, (hb.cell (p := ⟨0, 1, none⟩) hB).trans h.2.1, (hb.cell (p := ⟨0, 2, none⟩) hB).trans h.2.2⟩

/-- A sample on its way: what is admitted, the labels' box, the row so far. -/
structure LvIn (w : World) (base : Nat) (ow : Nat → Nat) (G : Nat) (vs : List Value) (A : List (List Lb)) (ov : Value) (rs : List Value) (S : List (List Lb)) (n NB : Nat) (nw : Lb) (rv : Value) (pre : List Lb) : Prop where
  sr : SrS w base ow G vs A ov rs S n
  nb : w.heap[NB]? = some (.cells #[.int .u8 nw.a, .int .u8 nw.b, .int .u8 nw.c] 42 (0, 0))
  oN : ow NB = 5
  rw' : w.ownsRow 0 42 3 rv pre.length (flatL pre)
  oR : ∀ k, rv.ownBlock = some k → ow k = 4
section
variable {w w' : World} {base : Nat} {ow : Nat → Nat} {G : Nat} {vs : List Value} {A : List (List Lb)} {ov : Value} {rs : List Value} {S : List (List Lb)} {n NB : Nat} {nw : Lb} {rv : Value} {pre : List Lb}
theorem LvIn.Nlt (h : LvIn w base ow G vs A ov rs S n NB nw rv pre) : NB < w.heap.size := (Array.getElem?_eq_some_iff.1 h.nb).1
theorem LvIn.below (h : LvIn w base ow G vs A ov rs S n NB nw rv pre) (hb : Below w.heap.size w w') : LvIn w' base ow G vs A ov rs S n NB nw rv pre where
  sr := h.sr.below hb
  nb := by rw [hb.block NB h.Nlt]; exact h.nb
  oN := h.oN
  rw' := owns_fr h.rw' (Fr.of_below (S := fun _ => False) hb) (fun _ _ e => e)
  oR := h.oR
/-- The labels' box is written. -/
theorem LvIn.set (h : LvIn w base ow G vs A ov rs S n NB nw rv pre) (m : Lb) : LvIn (((w.setCell ⟨NB, 0, none⟩ (.int .u8 m.a)).setCell ⟨NB, 1, none⟩ (.int .u8 m.b)).setCell ⟨NB, 2, none⟩ (.int .u8 m.c)) base ow G vs A ov rs S n NB m rv pre ∧
    Fr (fun k => ow k = 5) w (((w.setCell ⟨NB, 0, none⟩ (.int .u8 m.a)).setCell ⟨NB, 1, none⟩ (.int .u8 m.b)).setCell ⟨NB, 2, none⟩ (.int .u8 m.c)) := by
  have hf : Fr (fun k => ow k = 5) w (((w.setCell ⟨NB, 0, none⟩ (.int .u8 m.a)).setCell ⟨NB, 1, none⟩ (.int .u8 m.b)).setCell ⟨NB, 2, none⟩ (.int .u8 m.c)) := (((Fr.refl _ _).setCell (.inl h.oN) _).setCell (.inl h.oN) _).setCell (.inl h.oN) _
  have hz : (((w.setCell ⟨NB, 0, none⟩ (.int .u8 m.a)).setCell ⟨NB, 1, none⟩ (.int .u8 m.b)).setCell ⟨NB, 2, none⟩ (.int .u8 m.c)).heap.size = w.heap.size := by simp [World.setCell]
  refine ⟨?_, hf⟩
  exact {
    sr := h.sr.keepTo hf (fun k e => .inr (.inr e)) (fun k hk => h.sr.out k (by omega)) h.sr.low (fun _ _ _ _ => rfl)
    nb := by
      have e0 := heap_setCell (o := 0) (v := .int .u8 m.a) h.nb
      have e1 := heap_setCell (o := 1) (v := .int .u8 m.b) e0
      have e2 := heap_setCell (o := 2) (v := .int .u8 m.c) e1
      rw [e2]
      rfl
    oN := h.oN
    rw' := owns_fr h.rw' hf (fun k e e' => by have := h.oR k e; omega)
    oR := h.oR }
/-- One more is admitted. -/
theorem LvIn.more (h : LvIn w base ow G vs A ov rs S n NB nw rv pre) {W w3 : World} {j : Nat} (hj : j < n) {v' : Value} {m : Lb} (hb : Below w.heap.size w W) (hg : W.grownBy w3 (vG vs j).ownBlock) (ho : w3.ownsRow 0 42 3 v' ((aG A j).length + 1) (flatL (aG A j) ++ lbC m))
    (hk : v'.ownBlock = (vG vs j).ownBlock ∨ ∀ k, v'.ownBlock = some k → W.heap.size ≤ k) :
    LvIn (w3.setCell ⟨G, j, none⟩ v') base (upd ow W w3 (10 + j)) G (vs.set j v') (A.set j (aG A j ++ [m])) ov rs S n NB nw rv pre ∧ Fr (fun k => ow k = 1 ∨ ow k = 10 + j) w (w3.setCell ⟨G, j, none⟩ v') := by
  obtain ⟨h1, hf⟩ := h.sr.more hj hb hg ho hk
  have hWs := hb.size
  have hout : ∀ k, W.heap.size ≤ k → ow k = 0 := fun k hk => h.sr.out k (by omega)
  refine ⟨?_, hf⟩
  exact {
    sr := h1
    nb := by rw [hf.block NB h.Nlt (by rw [h.oN]; omega)]; exact h.nb
    oN := upd_old _ _ hout (by omega) h.oN
    rw' := owns_fr h.rw' hf (fun k e e' => by have := h.oR k e; omega)
    oR := fun k e => upd_old _ _ hout (by omega) (h.oR k e) }
/-- The row grows by what came of the labels. -/
theorem LvIn.app (h : LvIn w base ow G vs A ov rs S n NB nw rv pre) {W w3 : World} {rv' : Value} (hb : Below w.heap.size w W) (hg : W.grownBy w3 rv.ownBlock) (ho : w3.ownsRow 0 42 3 rv' (pre.length + 1) (flatL pre ++ lbC nw))
    (hk : rv'.ownBlock = rv.ownBlock ∨ ∀ k, rv'.ownBlock = some k → W.heap.size ≤ k) :
    LvIn w3 base (upd ow W w3 4) G vs A ov rs S n NB nw rv' (pre ++ [nw]) ∧ Fr (fun k => ow k = 4) w w3 := by
  have hWs := hb.size
  have h3s := hg.size
  have hout : ∀ k, W.heap.size ≤ k → ow k = 0 := fun k hk => h.sr.out k (by omega)
  have hf : Fr (fun k => ow k = 4) w w3 := (Fr.of_below hb).grown hg (fun k e => .inl (h.oR k e))
  refine ⟨?_, hf⟩
  exact {
    sr := h.sr.keepTo hf (fun k e => .inr (.inl e)) (fun k hk => upd_out hout h3s k hk) (upd_low (by have := h.sr.bas; omega) h.sr.low) (fun k h0 _ _ => upd_old _ _ hout h0 rfl)
    nb := by rw [hf.block NB h.Nlt (by rw [h.oN]; omega)]; exact h.nb
    oN := upd_old _ _ hout (by omega) h.oN
    rw' := by rw [List.length_append, flatL_snoc]; exact ho
    oR := fun k e => by
      rcases hk with hk | hk
      · rw [hk] at e; exact upd_old _ _ hout (by omega) (h.oR k e)
      · have h1 := hk k e
        have h2 := (ho.lt k e).2
        unfold upd
        rw [if_pos ⟨h1, h2⟩] }
theorem LvIn.bel (h : LvIn w base ow G vs A ov rs S n NB nw rv pre) {T : Nat → Prop} (hf : Fr T w w') (hT : ∀ k, T k → ow k ≠ 0) : Below base w w' :=
  hf.below h.sr.bas (fun k e => by
    by_cases hk : k < base
    · exact absurd (h.sr.low k hk) (hT k e)
    · omega)
theorem LvIn.setB (h : LvIn w base ow G vs A ov rs S n NB nw rv pre) (m : Lb) (o1 o2 : Obj) : LvIn (((((w.setCell ⟨NB, 0, none⟩ (.int .u8 m.a)).setCell ⟨NB, 1, none⟩ (.int .u8 m.b)).setCell ⟨NB, 2, none⟩ (.int .u8 m.c)).alloc o1).alloc o2).drew base ow G vs A ov rs S n NB m rv pre ∧
    Below base w (((((w.setCell ⟨NB, 0, none⟩ (.int .u8 m.a)).setCell ⟨NB, 1, none⟩ (.int .u8 m.b)).setCell ⟨NB, 2, none⟩ (.int .u8 m.c)).alloc o1).alloc o2).drew := by
  obtain ⟨h1, h2⟩ := h.set m
  have hb := h.bel h2 (fun k e => by have e' : ow k = 5 := e; omega)
  have h3 : Below (((w.setCell ⟨NB, 0, none⟩ (.int .u8 m.a)).setCell ⟨NB, 1, none⟩ (.int .u8 m.b)).setCell ⟨NB, 2, none⟩ (.int .u8 m.c)).heap.size (((w.setCell ⟨NB, 0, none⟩ (.int .u8 m.a)).setCell ⟨NB, 1, none⟩ (.int .u8 m.b)).setCell ⟨NB, 2, none⟩ (.int .u8 m.c)) (((((w.setCell ⟨NB, 0, none⟩ (.int .u8 m.a)).setCell ⟨NB, 1, none⟩ (.int .u8 m.b)).setCell ⟨NB, 2, none⟩ (.int .u8 m.c)).alloc o1).alloc o2).drew := (((Below.refl _ _).alloc (Nat.le_refl _) _).alloc (by simp) _).drew
  exact ⟨h1.below h3, hb.trans (h3.mono h1.sr.bas)⟩
end

end Go.Proofs.YthciddpljcbhiaaGreatDoor

/- Walks: a script played, where the listed variable is read (plays). -/
namespace Go.Proofs.YthciddpljcbhiaaGreatDoor
open Go Go.RowKit Go.Lib

/-- What a step does to all there is, where the listed variable reads as listed. -/
def StepOkO (base W D : Nat) (o : Opr) : Prop :=
  ∀ (own : Nat → Nat) (bv : Value) (bs : List Bk) (N : Nat) (la : Option Addr) (ln lc : Nat) (ba : Option Addr) (bn bc : Nat) (w : World), WdAt w own base W D bv bs N → AllOk bs → bs.length ≤ 900000000000 → N ≤ 900000000000 → OpIn w o la ln ba bn →
    (∀ b off, 0 < bn → ba = some ⟨b, off, none⟩ → b < base) → (∀ b off, 0 < ln → la = some ⟨b, off, none⟩ → b < base) → OvAt w →
    Calls Tryz.prog 8 #[.pointer (some ⟨W, 0, none⟩), opV o la ln lc ba bn bc] w fun e w' => e = .returned (.bool true) ∧ Went w w' base W D (N + 1) (bs.length + 1)
theorem stepOkO_of {base W D : Nat} {o : Opr} (hwf : OpWf o) (k8 : o.kind ≠ 8) (k10 : o.kind ≠ 10) (k11 : o.kind ≠ 11) (k9 : o.kind ≠ 9)
    (hask : o.kind ≠ 1 → o.kind ≠ 2 → o.kind ≠ 3 → ∀ (own : Nat → Nat) (bv : Value) (bs : List Bk) (N : Nat) (i : Nat) (la : Option Addr) (ln lc : Nat) (ba : Option Addr) (bn bc : Nat) (w : World), WdAt w own base W D bv bs N → AllOk bs → i < bs.length → N ≤ 900000000000 → OvAt w →
      Calls Tryz.prog 23 #[.pointer (some ⟨W, 0, none⟩), bkV (bkG bs i), opV o la ln lc ba bn bc] w fun e w' => e = .returned (.bool true) ∧ Went w w' base W D (N + 1) bs.length) : StepOkO base W D o := by
  intro own bv bs N la ln lc ba bn bc w h hok hbs hN hin hlow _ hov
  by_cases k1 : o.kind = 1
  · exact step_new own base W D bv bs N o la ln lc ba bn bc w h hok (by omega) hin hwf k1
  · refine (step_on own base W D bv bs N o la ln lc ba bn bc w h hok (by omega) hin hwf hlow k1 k8 k10 k11 k9 (fun k2 k3 V hV hb hi => hask k1 k2 k3 own bv bs N _ la ln lc ba bn bc V hV hok hi hN (hov.below hb hov.pos))).mono ?_
    rintro e w' ⟨rfl, ⟨own', bv', bs', h1, h2, h3⟩, h4⟩
    exact ⟨rfl, ⟨own', bv', bs', h1, h2, by omega⟩, h4⟩

set_option maxHeartbeats 2000000 in
set_option maxRecDepth 100000 in
theorem plays_ov (a : Option Addr) (n cap : Nat) (l : List Opr) (lo hi : Int) (w : World) (h : IsOps w a n l) (hn : n ≤ 837723145000) (hov : OvAt w) (hstep : ∀ o ∈ l, skipB lo hi o.kind = false → StepOkO w.heap.size (w.heap.size + 1) w.heap.size o) :
    Calls Tryz.prog 6 #[.slice a n cap, .int .i64 lo, .int .i64 hi] w fun e w' => e = .returned (.bool true) ∧ Below w.heap.size w w' := by
  have H : Hid (IsOps w a n l) := h
  have HOV : Hid (OvAt w) := hov
  have hpos := hov.pos
  have HST : Hid (∀ o ∈ l, skipB lo hi o.kind = false → StepOkO w.heap.size (w.heap.size + 1) w.heap.size o) := hstep
  have HNL : Hid (l.length = n) := h.1
  have HW0 : Hid (WdAt ((w.alloc (.cells #[.int .i64 0, .slice none 0 0, .slice none 0 0, .slice none 0 0, .slice none 0 0] 31)).alloc (.cells #[.slice none 0 0, .pointer (some ⟨w.heap.size, 0, none⟩)] 34)) (fun k => if k = w.heap.size then 3 else if k = w.heap.size + 1 then 1 else 0) w.heap.size (w.heap.size + 1) w.heap.size (.slice none 0 0) [] 0) := WdAt.new w
  clear h hstep hov
  go_enter Tryz.func6, Tryz.ntmps6
  go_upto_region 2 with fail
  have hb0 : Below w.heap.size w ((w.alloc (.cells #[.int .i64 0, .slice none 0 0, .slice none 0 0, .slice none 0 0, .slice none 0 0] 31)).alloc (.cells #[.slice none 0 0, .pointer (some ⟨w.heap.size, 0, none⟩)] 34)) := ((Below.refl _ _).alloc (Nat.le_refl _) _).alloc (by simp) _
  have HB0 : Hid (Below w.heap.size w ((w.alloc (.cells #[.int .i64 0, .slice none 0 0, .slice none 0 0, .slice none 0 0, .slice none 0 0] 31)).alloc (.cells #[.slice none 0 0, .pointer (some ⟨w.heap.size, 0, none⟩)] 34))) := hb0
  clear hb0
  generalize (w.alloc (.cells #[.int .i64 0, .slice none 0 0, .slice none 0 0, .slice none 0 0, .slice none 0 0] 31)).alloc (.cells #[.slice none 0 0, .pointer (some ⟨w.heap.size, 0, none⟩)] 34) = w0 at *
  have hbl : Below w0.heap.size w0 (w0.alloc (.cells (flat [kkkL]).toArray 37)) := (Below.refl _ _).alloc (Nat.le_refl _) _
  have HOP := opened_yes _ w.heap.size (w.heap.size + 1) w.heap.size (.slice none 0 0) [] 0 (some ⟨w0.heap.size, 0, none⟩) 1 1 [kkkL] 1 0 ⟨#[]⟩ 0 (St.new ⟨1, 0, [kkkL]⟩) ⟨#[]⟩ [] (w0.alloc (.cells (flat [kkkL]).toArray 37)) (HW0.out.below hbl) ⟨rfl, fun _ => ⟨w0.heap.size, 0, rfl, lvAt_of (at_alloc_new _ _ _)⟩⟩ kkk_right (by simp)
    (fun V b hat => open_empty ⟨1, 0, [kkkL]⟩ b 0 1 (1 + 1) V kkk_right rfl hat kkk_wf) (fun V hV => open_ref_new _ 1 1 [kkkL] 1 0 V hV kkk_wf kkk_right)
  have HBL : Hid (Below w.heap.size w (w0.alloc (.cells (flat [kkkL]).toArray 37))) := HB0.out.trans (hbl.mono HB0.out.size)
  clear hbl
  go_wp2_with fail
  refine HOP.mono ?_
  clear HOP
  rintro e w2 ⟨rfl, ⟨own2, bv2, X, R, h2⟩, hb2⟩
  obtain ⟨g, bcap, rfl, _, _, _⟩ := ownBlockForm h2.row (by simp)
  have HW2 : Hid (WdAt w2 own2 w.heap.size (w.heap.size + 1) w.heap.size (.slice (some ⟨g, 0, none⟩) 1 bcap) ([] ++ [⟨X, R, ⟨1, 0, [kkkL]⟩, [], St.new ⟨1, 0, [kkkL]⟩, ⟨#[]⟩⟩]) 0) := h2
  have HB2 : Hid (Below w.heap.size w w2) := HBL.out.trans hb2
  have c0 : w2.cell? ⟨w.heap.size + 1, 0, none⟩ = some (.slice (some ⟨g, 0, none⟩) 1 bcap) := cell_blk HW2.out.wb rfl
  have z0 : w2.frozen? ⟨w.heap.size + 1, 0, none⟩ = false := froz_blk HW2.out.wb
  clear h2 hb2 HBL HB0 HW0
  go_wp2_with fail
  have HP3 : Hid (playOk w (w2.setCell ⟨w.heap.size + 1, 0, none⟩ (.slice none 0 0)) 0) := by
    obtain ⟨h3, h4⟩ := HW2.out.drop
    exact ⟨⟨_, _, _, h3, fun i hi => by simp at hi, Nat.le_refl _⟩, HB2.out.trans h4⟩
  generalize w2.setCell ⟨w.heap.size + 1, 0, none⟩ (.slice none 0 0) = w3 at *
  clear c0 z0 HW2 HB2
  go_loopw [8, 9] (fun ok i wr => ok = .bool true ∧ ∃ k : Nat, i = .int .i64 k ∧ k ≤ n ∧ playOk w wr k) (fun _ i _ => n - (intOf i).toNat)
  case atStart => exact ⟨rfl, 0, rfl, Nat.zero_le _, HP3.out⟩
  case round =>
    obtain ⟨rfl, k, rfl, hk, ⟨own, bv, bs, hwd, hok, hle⟩, hbel⟩ := hrel
    have HWD : Hid (WdAt wr own w.heap.size (w.heap.size + 1) w.heap.size bv bs k) := hwd
    have HOK : Hid (AllOk bs) := hok
    have HLE : Hid (bs.length ≤ k) := hle
    have HBE : Hid (Below w.heap.size w wr) := hbel
    clear hwd hok hle hbel
    by_cases hlt : k < n
    · obtain ⟨b, off, rfl, hbw, hall⟩ := H.out.2.2 (by omega)
      obtain ⟨la, ln, lc, ba, bn, bc, hat0, hin0⟩ := hall k hlt
      have hmem : opG l k ∈ l := by rw [opG_get l k (by rw [HNL.out]; exact hlt)]; exact List.getElem_mem _
      have HAT : Hid (At wr b (off + k * 16) (opC (opG l k) la ln lc ba bn bc)) := hat0.below HBE.out hbw
      have HIN : Hid (OpIn wr (opG l k) la ln ba bn) := ⟨hin0.lv.from HBE.out, hin0.ln, hin0.sm.below HBE.out, hin0.bn⟩
      have HLO : Hid ((∀ b off, 0 < bn → ba = some ⟨b, off, none⟩ → b < w.heap.size) ∧ (∀ b off, 0 < ln → la = some ⟨b, off, none⟩ → b < w.heap.size)) := by
        refine ⟨fun b off h0 e => ?_, fun b off h0 e => ?_⟩
        · obtain ⟨b', off', e', hat⟩ := hin0.sm.2 h0
          rw [e] at e'
          injection e' with e'
          injection e' with e' _
          rw [e']
          exact hat.block (by rw [hin0.sm.1]; exact h0)
        · obtain ⟨b', off', e', hat⟩ := hin0.lv.2 h0
          rw [e] at e'
          injection e' with e'
          injection e' with e' _
          rw [e']
          exact hat.block (by rw [hin0.lv.1]; exact h0)
      have HS : Hid (skipB lo hi (opG l k).kind = false → StepOkO w.heap.size (w.heap.size + 1) w.heap.size (opG l k)) := HST.out _ hmem
      clear hat0 hin0 hall hmem
      generalize opG l k = o at *
      have p0 : wr.cell? ⟨b, off + k * 16, none⟩ = some (.int .i64 o.kind) := HAT.out 0 _ rfl
      cases hsk : skipB lo hi o.kind with
      | true =>
        have hsk' : 3 < o.kind ∧ (o.kind < lo ∨ lo ≤ o.kind ∧ hi < o.kind) := by
          simp only [skipB, Bool.and_eq_true, Bool.or_eq_true, decide_eq_true_eq] at hsk
          omega
        obtain ⟨s1, s2⟩ := hsk'
        have HP : Hid (playOk w wr (k + 1)) := ⟨⟨own, bv, bs, HWD.out.more (Nat.le_succ _), HOK.out, Nat.le_succ_of_le HLE.out⟩, HBE.out⟩
        clear hsk
        rcases s2 with s2 | ⟨s2, s3⟩
        · go_wp2_with fail
          exact ⟨⟨rfl, k + 1, by go_num, by omega, HP.out⟩, by simp [intOf]; omega⟩
        · go_wp2_with fail
          exact ⟨⟨rfl, k + 1, by go_num, by omega, HP.out⟩, by simp [intOf]; omega⟩
      | false =>
        have HCALL := HS.out hsk own bv bs k la ln lc ba bn bc wr HWD.out HOK.out (by have := HLE.out; omega) (by omega) HIN.out HLO.out.1 HLO.out.2 (HOV.out.below HBE.out hpos)
        have hsk' : o.kind ≤ 3 ∨ (3 < o.kind ∧ lo ≤ o.kind ∧ o.kind ≤ hi) := by
          simp only [skipB, Bool.and_eq_false_iff, Bool.or_eq_false_iff, decide_eq_false_iff_not] at hsk
          omega
        have HC : Hid (Calls Tryz.prog 8 #[.pointer (some ⟨w.heap.size + 1, 0, none⟩), opV o la ln lc ba bn bc] wr fun e w' => e = .returned (.bool true) ∧ Went wr w' w.heap.size (w.heap.size + 1) w.heap.size (k + 1) (bs.length + 1)) := HCALL
        have p1 : wr.cell? ⟨b, off + k * 16 + 1, none⟩ = some (.int .i64 o.on) := HAT.out 1 _ rfl
        have p2 : wr.cell? ⟨b, off + k * 16 + 2, none⟩ = some (.int .i64 o.a) := HAT.out 2 _ rfl
        have p3 : wr.cell? ⟨b, off + k * 16 + 3, none⟩ = some (.string o.s) := HAT.out 3 _ rfl
        have p4 : wr.cell? ⟨b, off + k * 16 + 4, none⟩ = some (.int .u8 o.l0) := HAT.out 4 _ rfl
        have p5 : wr.cell? ⟨b, off + k * 16 + 5, none⟩ = some (.int .u8 o.l1) := HAT.out 5 _ rfl
        have p6 : wr.cell? ⟨b, off + k * 16 + 6, none⟩ = some (.int .u8 o.l2) := HAT.out 6 _ rfl
        have p7 : wr.cell? ⟨b, off + k * 16 + 7, none⟩ = some (.int .i64 o.span) := HAT.out 7 _ rfl
        have p8 : wr.cell? ⟨b, off + k * 16 + 8, none⟩ = some (.int .i64 o.keep) := HAT.out 8 _ rfl
        have p9 : wr.cell? ⟨b, off + k * 16 + 9, none⟩ = some (.slice la ln lc) := HAT.out 9 _ rfl
        have p10 : wr.cell? ⟨b, off + k * 16 + 10, none⟩ = some (.slice ba bn bc) := HAT.out 10 _ rfl
        have p11 : wr.cell? ⟨b, off + k * 16 + 11, none⟩ = some (.int .i64 o.q.fr) := HAT.out 11 _ rfl
        have p12 : wr.cell? ⟨b, off + k * 16 + 12, none⟩ = some (.int .i64 o.q.to) := HAT.out 12 _ rfl
        have p13 : wr.cell? ⟨b, off + k * 16 + 13, none⟩ = some (.int .i64 o.q.step) := HAT.out 13 _ rfl
        have p14 : wr.cell? ⟨b, off + k * 16 + 14, none⟩ = some (.string o.q.mt) := HAT.out 14 _ rfl
        have p15 : wr.cell? ⟨b, off + k * 16 + 15, none⟩ = some (.string o.q.gb) := HAT.out 15 _ rfl
        clear HCALL hsk HS HIN HLO HAT
        rcases hsk' with s1 | ⟨s1, s2, s3⟩
        all_goals
          go_wp2_with fail
          refine HC.out.mono ?_
          rintro e w4 ⟨rfl, ⟨own4, bv4, bs4, h4, h5, h6⟩, h7⟩
          have HW4 : Hid (WdAt w4 own4 w.heap.size (w.heap.size + 1) w.heap.size bv4 bs4 (k + 1)) := h4
          have HO4 : Hid (AllOk bs4) := h5
          have HL4 : Hid (bs4.length ≤ bs.length + 1) := h6
          have HB4 : Hid (Below w.heap.size w w4) := HBE.out.trans h7
          have d1 : w4.cell? ⟨w.heap.size + 1, 1, none⟩ = some (.pointer (some ⟨w.heap.size, 0, none⟩)) := cell_blk HW4.out.wb rfl
          obtain ⟨ow, dn, ss, rs, sv, rv, nv, mv, t1, t2, t3, t4, t5, t6⟩ := h4.dr
          have HLK := looks_any w.heap.size ow dn ss rs sv rv nv mv w4 t6 (by omega) (by omega)
          clear h4 h5 h6 h7 t1 t2 t3 t4 t5 t6 p0 p1 p2 p3 p4 p5 p6 p7 p8 p9 p10 p11 p12 p13 p14 p15
          go_wp2_with fail
          refine HLK.mono ?_
          clear HLK
          rintro e w5 ⟨rfl, hb5⟩
          have HP : Hid (playOk w w5 (k + 1)) := ⟨⟨own4, bv4, bs4, HW4.out.below hb5, HO4.out, by have h8 := HL4.out; have h9 := HLE.out; omega⟩, HB4.out.trans (hb5.mono HB4.out.size)⟩
          clear hb5 d1
          go_wp2_with fail
          exact ⟨⟨rfl, k + 1, by go_num, by omega, HP.out⟩, by simp [intOf]; omega⟩
    · go_wp2_with fail
      go_ret
      exact ⟨rfl, HBE.out⟩

end Go.Proofs.YthciddpljcbhiaaGreatDoor

/- Walks: does a row stand ahead of another? (garnerref) -/
namespace Go.Proofs.YthciddpljcbhiaaGreatDoor
open Go Go.RowKit Go.Lib

def gKey (k : Key) (i : Nat) : Int := match i with | 0 => k.g0 | 1 => k.g1 | _ => k.g2
theorem lt_first {a b : Key} (hs : a.st = b.st) {j : Nat} (hj : j < 3) (he : ∀ i, i < j → gKey a i = gKey b i) (h : gKey a j < gKey b j) : a.lt b := by
  have : j = 0 ∨ j = 1 ∨ j = 2 := by omega
  unfold Key.lt
  rcases this with rfl | rfl | rfl
  · have h' : a.g0 < b.g0 := h
    omega
  · have e0 : a.g0 = b.g0 := he 0 (by omega)
    have h' : a.g1 < b.g1 := h
    omega
  · have e0 : a.g0 = b.g0 := he 0 (by omega)
    have e1 : a.g1 = b.g1 := he 1 (by omega)
    have h' : a.g2 < b.g2 := h
    omega
theorem nlt_first {a b : Key} (hs : a.st = b.st) {j : Nat} (hj : j < 3) (he : ∀ i, i < j → gKey a i = gKey b i) (h : gKey b j < gKey a j) : ¬ a.lt b := Key.lt_asymm (lt_first hs.symm hj (fun i hi => (he i hi).symm) h)
theorem nlt_eq {a b : Key} (hs : a.st = b.st) (he : ∀ i, i < 3 → gKey a i = gKey b i) : ¬ a.lt b := by
  have e0 : a.g0 = b.g0 := he 0 (by omega)
  have e1 : a.g1 = b.g1 := he 1 (by omega)
  have e2 : a.g2 = b.g2 := he 2 (by omega)
  unfold Key.lt
  omega
abbrev rwA (r : Rw) : Array Value := #[.int .i64 r.key.st, .int .u8 r.key.g0, .int .u8 r.key.g1, .int .u8 r.key.g2, .int .i64 r.ag.cnt, .int .i64 r.ag.sum, .int .i32 r.ag.mn, .int .i32 r.ag.mx]
theorem rwA_get (r : Rw) (k : Nat) (h : k < 3) : (rwA r)[1 + k]? = some (.int .u8 (gKey r.key k)) := by
  have : k = 0 ∨ k = 1 ∨ k = 2 := by omega
  rcases this with rfl | rfl | rfl <;> rfl

set_option maxHeartbeats 1000000 in
set_option maxRecDepth 100000 in
theorem less_ref (a b : Rw) (w : World) : Calls Tryz.prog 107 #[.agg (rwA a), .agg (rwA b)] w fun e w' => (∃ r : Bool, e = .returned (.bool r) ∧ (r = true ↔ a.key.lt b.key)) ∧ Below w.heap.size w w' := by
  have hB : Below w.heap.size w ((w.alloc (.cells (rwA a) 78)).alloc (.cells (rwA b) 78)) := ((Below.refl _ _).alloc (Nat.le_refl _) _).alloc (by simp) _
  have ha : ((w.alloc (.cells (rwA a) 78)).alloc (.cells (rwA b) 78)).heap[w.heap.size]? = some (.cells (rwA a) 78 (0, 0)) := by
    rw [Below.heap_alloc _ _ _ (by simp)]
    exact heap_alloc_new _ _
  have hb : ((w.alloc (.cells (rwA a) 78)).alloc (.cells (rwA b) 78)).heap[w.heap.size + 1]? = some (.cells (rwA b) 78 (0, 0)) := by
    have h9 := heap_alloc_new (w.alloc (.cells (rwA a) 78)) (.cells (rwA b) 78)
    simpa only [World.size_alloc] using h9
  have HB : Hid (Below w.heap.size w ((w.alloc (.cells (rwA a) 78)).alloc (.cells (rwA b) 78))) := hB
  have HA1 : Hid (((w.alloc (.cells (rwA a) 78)).alloc (.cells (rwA b) 78)).heap[w.heap.size]? = some (.cells (rwA a) 78 (0, 0))) := ha
  have HB1 : Hid (((w.alloc (.cells (rwA a) 78)).alloc (.cells (rwA b) 78)).heap[w.heap.size + 1]? = some (.cells (rwA b) 78 (0, 0))) := hb
  clear hB ha hb
  go_enter Tryz.func107, Tryz.ntmps107
  go_upto_region 1 with fail
  generalize (w.alloc (.cells (rwA a) 78)).alloc (.cells (rwA b) 78) = w0 at *
  have x0 : w0.cell? ⟨w.heap.size, 0, none⟩ = some (.int .i64 a.key.st) := cell_blk HA1.out rfl
  have y0 : w0.cell? ⟨w.heap.size + 1, 0, none⟩ = some (.int .i64 b.key.st) := cell_blk HB1.out rfl
  by_cases hs : a.key.st = b.key.st
  · have hsb : (a.key.st != b.key.st) = false := by simp [hs]
    have HS : Hid (a.key.st = b.key.st) := hs
    clear hs
    go_wp2_with fail
    go_loopw [5] (fun i wr => ∃ k : Nat, i = .int .i64 k ∧ k ≤ 3 ∧ (∀ j, j < k → gKey a.key j = gKey b.key j) ∧ ∃ d, wr = w0.drewN d) (fun i _ => 3 - (intOf i).toNat)
    case atStart => exact ⟨0, rfl, Nat.zero_le _, fun j hj => by omega, 0, rfl⟩
    case round =>
      obtain ⟨k, rfl, hk, hall, d, rfl⟩ := hrel
      have HAL : Hid (∀ j, j < k → gKey a.key j = gKey b.key j) := hall
      clear hall
      by_cases hlt : k < 3
      · have u : w0.cell? ⟨w.heap.size, 1 + k, none⟩ = some (.int .u8 (gKey a.key k)) := cell_blk HA1.out (rwA_get a k hlt)
        have v : w0.cell? ⟨w.heap.size + 1, 1 + k, none⟩ = some (.int .u8 (gKey b.key k)) := cell_blk HB1.out (rwA_get b k hlt)
        have HLT : Hid (gKey a.key k < gKey b.key k → a.key.lt b.key) := fun h => lt_first HS.out hlt HAL.out h
        have HNL : Hid (gKey b.key k < gKey a.key k → ¬ a.key.lt b.key) := fun h => nlt_first HS.out hlt HAL.out h
        have HNX : Hid (gKey a.key k = gKey b.key k → ∀ j, j < k + 1 → gKey a.key j = gKey b.key j) := fun h j hj => by
          by_cases e : j = k
          · subst e; exact h
          · exact HAL.out j (by omega)
        generalize gKey a.key k = ga at *
        generalize gKey b.key k = gb at *
        by_cases he : ga = gb
        · have hne : (ga != gb) = false := by simp [he]
          have HN2 : Hid (∀ j, j < k + 1 → gKey a.key j = gKey b.key j) := HNX.out he
          clear he
          go_wp2_with fail
          go_quiet (fail)
          go_wp2_with fail
          exact ⟨⟨k + 1, by go_num, by omega, HN2.out, _, rfl⟩, by simp [intOf]; omega⟩
        · have hne : (ga != gb) = true := by simp [he]
          by_cases hl : ga < gb
          · have HT : Hid (a.key.lt b.key) := HLT.out hl
            clear he
            go_wp2_with fail
            go_quiet (fail)
            go_wp2_with fail
            go_quiet (fail)
            go_wp2_with fail
            go_ret
            exact ⟨⟨_, rfl, fun _ => HT.out, fun _ => rfl⟩, below_drewN (below_drewN (below_drewN HB.out _) _) _⟩
          · have HF : Hid (¬ a.key.lt b.key) := HNL.out (by omega)
            clear he
            go_wp2_with fail
            go_quiet (fail)
            go_wp2_with fail
            go_quiet (fail)
            go_wp2_with fail
            go_ret
            exact ⟨⟨_, rfl, (fun e => absurd (of_decide_eq_true e) (by omega)), fun e => absurd e HF.out⟩, below_drewN (below_drewN (below_drewN HB.out _) _) _⟩
      · have HF : Hid (¬ a.key.lt b.key) := nlt_eq HS.out (fun j hj => HAL.out j (by omega))
        go_wp2_with fail
        go_ret
        exact ⟨⟨false, rfl, (fun e => by cases e), fun e => absurd e HF.out⟩, below_drewN HB.out _⟩
  · have hsb : (a.key.st != b.key.st) = true := by simp [hs]
    by_cases hl : a.key.st < b.key.st
    · have HT : Hid (a.key.lt b.key) := .inl hl
      go_wp2_with fail
      go_ret
      exact ⟨⟨_, rfl, fun _ => HT.out, fun _ => rfl⟩, HB.out⟩
    · have HF : Hid (¬ a.key.lt b.key) := by show ¬ _; unfold Key.lt; omega
      go_wp2_with fail
      go_ret
      exact ⟨.inl ⟨rfl, HF.out⟩, HB.out⟩

end Go.Proofs.YthciddpljcbhiaaGreatDoor

/- One value more among the rows, row by row (no program). -/
namespace Go.Proofs.YthciddpljcbhiaaGreatDoor

def joY (dk : Bool) (y : Rw) (v : Int) : Rw := if dk then ⟨y.key, y.ag.join (.one v)⟩ else y
theorem joY_key (dk : Bool) (y : Rw) (v : Int) : (joY dk y v).key = y.key := by cases dk <;> rfl
def apX (ap : Bool) (k : Key) (v : Int) : List Rw := if ap then [⟨k, .one v⟩] else []
def rest (b : Bool) (l : List Rw) (k : Key) (v : Int) : List Rw := if b then l else addR l k v
theorem ad_step {l : List Rw} (hup : l.Pairwise fun a b => a.key.lt b.key) {k : Key} {v : Int} {i : Nat} (hi : i < l.length) {inb : Bool} {out : List Rw} (hinv : addR l k v = out ++ rest inb (l.drop i) k v) (hin : inb = true → ∀ r ∈ l.drop i, k.lt r.key)
    {dk r : Bool} (hdk : dk = true ↔ (rwG l i).key = k) (hr : r = true ↔ k.lt (rwG l i).key) :
    addR l k v = (out ++ apX (!(inb || dk) && r) k v ++ [joY dk (rwG l i) v]) ++ rest ((inb || dk) || (!(inb || dk) && r)) (l.drop (i + 1)) k v ∧ (((inb || dk) || (!(inb || dk) && r)) = true → ∀ x ∈ l.drop (i + 1), k.lt x.key) := by
  have hd : l.drop i = rwG l i :: l.drop (i + 1) := by rw [rwG_get l i hi]; exact List.drop_eq_getElem_cons hi
  have hlt : ∀ x ∈ l.drop (i + 1), (rwG l i).key.lt x.key := by
    have h1 : (l.drop i).Pairwise fun a b => a.key.lt b.key := hup.sublist (List.drop_sublist _ _)
    rw [hd, List.pairwise_cons] at h1
    exact h1.1
  rw [hd] at hinv hin
  generalize rwG l i = y at *
  generalize l.drop (i + 1) = t at *
  cases inb with
  | true =>
    have hky : k.lt y.key := hin rfl y (by simp)
    have hdf : dk = false := by
      cases dk with
      | false => rfl
      | true => exact absurd (hdk.1 rfl ▸ hky) (Key.lt_irrefl _)
    subst hdf
    refine ⟨?_, fun _ x hx => hin rfl x (by simp [hx])⟩
    rw [hinv]
    simp [rest, apX, joY]
  | false =>
    cases dk with
    | true =>
      have hk : y.key = k := hdk.1 rfl
      refine ⟨?_, fun _ x hx => by rw [← hk]; exact hlt x hx⟩
      rw [hinv]
      simp [rest, apX, joY, addR, hk]
    | false =>
      have hk : ¬ y.key = k := fun e => by have := hdk.2 e; cases this
      cases r with
      | true =>
        have hky : k.lt y.key := hr.1 rfl
        refine ⟨?_, fun _ x hx => Key.lt_trans hky (hlt x hx)⟩
        rw [hinv]
        simp [rest, apX, joY, addR, hk, hky]
      | false =>
        have hky : ¬ k.lt y.key := fun e => by have := hr.2 e; cases this
        refine ⟨?_, fun e => by simp at e⟩
        rw [hinv]
        simp [rest, apX, joY, addR, hk, hky]
theorem ad_end {l : List Rw} {k : Key} {v : Int} {inb : Bool} {out : List Rw} (hinv : addR l k v = out ++ rest inb (l.drop l.length) k v) : addR l k v = out ++ apX (!inb) k v := by
  rw [hinv, List.drop_length]
  cases inb <;> simp [rest, apX, addR]

end Go.Proofs.YthciddpljcbhiaaGreatDoor

/- Walks: the document's series of all samples (garnerref): the walk. -/
namespace Go.Proofs.YthciddpljcbhiaaGreatDoor
open Go Go.RowKit Go.Lib

theorem admRow_nil (lvs : List Lv) : ∀ now, admRow lvs [] now = admRow lvs (List.replicate lvs.length []) now := by
  induction lvs with
  | nil => intro now; rfl
  | cons lv lvs ih =>
    intro now
    show (if now = over then [] :: admRow lvs [] over else if madeL lv.rule now ∈ ([] : List Lb) then [] :: admRow lvs [] (madeL lv.rule now) else if (([] : List Lb).length : Int) < lv.limit then ([] ++ [madeL lv.rule now]) :: admRow lvs [] (madeL lv.rule now) else [] :: admRow lvs [] over) = _
    rw [ih, ih]
    rfl
theorem serNow_nil (lvs : List Lv) : ∀ now, serNow lvs [] now = serNow lvs (List.replicate lvs.length []) now := by
  induction lvs with
  | nil => intro now; rfl
  | cons lv lvs ih =>
    intro now
    show (if now = over then over :: serNow lvs [] over else if madeL lv.rule now ∈ ([] : List Lb) then madeL lv.rule now :: serNow lvs [] (madeL lv.rule now) else if (([] : List Lb).length : Int) < lv.limit then madeL lv.rule now :: serNow lvs [] (madeL lv.rule now) else over :: serNow lvs [] over) = _
    rw [ih, ih]
    rfl
/-- What is admitted behind the first k samples, and their series. -/
def admK (lvs : List Lv) (l : List Sm) (k : Nat) : List (List Lb) := admAll lvs (List.replicate lvs.length []) (l.take k)
def serK (lvs : List Lv) (l : List Sm) (k : Nat) : List (List Lb) := serAll lvs (List.replicate lvs.length []) (l.take k)
theorem serK_all (lvs : List Lv) (l : List Sm) : serK lvs l l.length = serAll lvs [] l := by
  unfold serK
  rw [List.take_length]
  cases l with
  | nil => rfl
  | cons x l =>
    show serNow lvs (List.replicate lvs.length []) x.lb :: serAll lvs (admRow lvs (List.replicate lvs.length []) x.lb) l = serNow lvs [] x.lb :: serAll lvs (admRow lvs [] x.lb) l
    rw [← serNow_nil, ← admRow_nil]
theorem admK_len (lvs : List Lv) (l : List Sm) (k : Nat) : (admK lvs l k).length = lvs.length := by
  unfold admK
  have : ∀ (l : List Sm) (A : List (List Lb)), A.length = lvs.length → (admAll lvs A l).length = lvs.length := by
    intro l
    induction l with
    | nil => intro A h; exact h
    | cons x l ih => intro A h; exact ih _ (admRow_len _ _ _)
  exact this _ _ (by simp)
theorem admK_succ (lvs : List Lv) (l : List Sm) (k : Nat) (h : k < l.length) : admK lvs l (k + 1) = admRow lvs (admK lvs l k) (smG l k).lb := by
  unfold admK
  rw [List.take_succ_eq_append_getElem h, admAll_append, smG_get l k h]
  rfl
theorem serK_succ (lvs : List Lv) (l : List Sm) (k : Nat) (h : k < l.length) : serK lvs l (k + 1) = serK lvs l k ++ [serNow lvs (admK lvs l k) (smG l k).lb] := by
  unfold serK admK
  rw [List.take_succ_eq_append_getElem h, serAll_append, smG_get l k h]
  rfl
theorem admK_fits (lvs : List Lv) (l : List Sm) (hl : ∀ j, j < lvs.length → 1 ≤ (lvG lvs j).limit) : ∀ k, k ≤ l.length → Fits lvs (admK lvs l k)
  | 0, _ => by
    intro j hj
    have : aG (admK lvs l 0) j = [] := by
      show aG (List.replicate lvs.length []) j = []
      simp [aG, List.getD, hj]
    rw [this]
    have := hl j hj
    simp; omega
  | k + 1, h => by
    have h1 := admK_fits lvs l hl k (by omega)
    rw [admK_succ lvs l k (by omega)]
    have h2 := runA_fits lvs (admK lvs l k) (smG l k).lb (admK_len _ _ _) h1 lvs.length (Nat.le_refl _)
    rw [(runA_all lvs (admK lvs l k) (smG l k).lb (admK_len _ _ _)).1] at h2
    exact h2
theorem right_more {c : Cf} (h : c.right = true) : ∀ j, j < c.lvs.length → (lvG c.lvs j).rule.size = 3 ∧ 1 ≤ (lvG c.lvs j).limit ∧ (lvG c.lvs j).limit ≤ 20 := by
  simp only [Cf.right, rightB, Bool.and_eq_true, decide_eq_true_eq] at h
  obtain ⟨_, h9⟩ := h
  intro j hj
  have s := (okSer_iff _ _).1 (List.all_eq_true.1 h9 j (List.mem_range.2 hj))
  refine ⟨?_, s.2.1, s.2.2⟩
  by_cases h3 : (lvG c.lvs j).rule.size = 3
  · exact h3
  · have := ruleB_size h3
    rw [this] at s
    exact absurd s.1 (by simp)
theorem set_aG (A : List (List Lb)) (j : Nat) (h : j < A.length) : A.set j (aG A j) = A := by
  apply List.ext_getElem?
  intro i
  rw [List.getElem?_set]
  by_cases e : j = i
  · subst e; simp [h, aG, List.getD]
  · simp [e]
theorem lbC_one (m : Lb) : ∀ u ∈ lbC m, u.oneCell' = true := by
  intro u hu
  simp [lbC] at hu
  rcases hu with rfl | rfl | rfl <;> rfl
/-- The rows of series as they came out. -/
def SerAt (w : World) (base : Nat) (ov : Value) (rs : List Value) (S : List (List Lb)) (n : Nat) : Prop :=
  w.ownsRow 0 144 1 ov rs.length rs ∧ rs.length = S.length ∧ (∀ k, ov.ownBlock = some k → base ≤ k) ∧ ∀ i, i < rs.length → ∃ b cap, vG rs i = .slice (some ⟨b, 0, none⟩) n cap ∧ base ≤ b ∧ At w b 0 (flatL (aG S i)) ∧ (aG S i).length = n
theorem SrS.ser {w : World} {base : Nat} {ow : Nat → Nat} {G : Nat} {vs : List Value} {L : List (List Lb)} {ov : Value} {rs : List Value} {S : List (List Lb)} {n : Nat} (h : SrS w base ow G vs L ov rs S n) : SerAt w base ov rs S n := by
  have hb : ∀ k, ow k ≠ 0 → base ≤ k := fun k hk => by
    by_cases hlt : k < base
    · exact absurd (h.low k hlt) hk
    · omega
  refine ⟨h.orow, h.lS, fun k e => hb k (by rw [h.oO k e]; omega), fun i hi => ?_⟩
  obtain ⟨b, cap, e1, e2, e3, e4⟩ := h.row i hi
  exact ⟨b, cap, e1, hb b (by omega), e3, e4⟩
theorem SrS.new (w : World) (n : Nat) : SrS (w.alloc (.cells (List.replicate n (.slice none 0 0)).toArray 144)) w.heap.size (fun k => if k = w.heap.size then 1 else 0) w.heap.size (List.replicate n (.slice none 0 0)) (List.replicate n []) (.slice none 0 0) [] [] n := by
  have hn : ∀ (k : Nat), (Value.slice none 0 0).ownBlock ≠ some k := fun k => by simp [Value.ownBlock]
  have hv : ∀ j, vG (List.replicate n (.slice none 0 0)) j = .slice none 0 0 := fun j => by
    unfold vG
    simp only [List.getD, List.getElem?_replicate]
    split <;> rfl
  have ha : ∀ j, aG (List.replicate n []) j = [] := fun j => by
    unfold aG
    simp only [List.getD, List.getElem?_replicate]
    split <;> rfl
  exact {
    out := fun k hk => by
      rw [World.size_alloc] at hk
      exact if_neg (by omega)
    low := fun k hk => if_neg (by omega)
    bas := by rw [World.size_alloc]; omega
    blk := heap_alloc_new _ _
    lv := by simp
    lL := by simp
    oG := if_pos rfl
    adm := fun j _ => by rw [hv, ha]; exact World.ownsRow_nil _ _ _ _
    oA := fun j _ k e => by rw [hv] at e; exact absurd e (hn k)
    orow := World.ownsRow_nil _ _ _ _
    oO := fun k e => absurd e (hn k)
    lS := rfl
    row := fun i hi => by simp at hi }

set_option maxHeartbeats 4000000 in
set_option maxRecDepth 100000 in
theorem series_ref (R : Nat) (F : Nat → Prop) (c : Cf) (ps : List Cp) (L lcap : Nat) (cv : Value) (a : Option Addr) (m cap : Nat) (l : List Sm) (w : World) (h : RfS w R F c ps L lcap cv) (hs : IsSms w a m l) (hm : m ≤ 500) (hlab : ∀ x ∈ l, lab3 x.l0 x.l1 x.l2 = true) (hov : OvAt w) :
    Calls Tryz.prog 80 #[.pointer (some ⟨R, 0, none⟩), .slice a m cap] w fun e w' => ∃ ov rs, e = .returned ov ∧ SerAt w' w.heap.size ov rs (serAll c.lvs [] l) c.lvs.length ∧ Below w.heap.size w w' := by
  obtain ⟨_, _, _, _, l1, l4, hlv⟩ := Cf.right_parts (rf_right h)
  have HRUL : Hid (∀ j, j < c.lvs.length → (lvG c.lvs j).rule.size = 3 ∧ 1 ≤ (lvG c.lvs j).limit ∧ (lvG c.lvs j).limit ≤ 20) := right_more (rf_right h)
  have HRF : Hid (RfS w R F c ps L lcap cv) := h
  have HS : Hid (IsSms w a m l) := hs
  have HML : Hid (l.length = m) := hs.1
  have HLAB : Hid (∀ x ∈ l, lab3 x.l0 x.l1 x.l2 = true) := hlab
  have HOV : Hid (OvAt w) := hov
  have hpos := hov.pos
  have c2 := h.cell 2 _ rfl
  have HFIT : Hid (∀ k, k ≤ l.length → Fits c.lvs (admK c.lvs l k)) := admK_fits c.lvs l (fun j hj => (hlv j hj).2.2.2)
  obtain ⟨Z, hZ⟩ : ∃ Z, Z = (List.replicate c.lvs.length (Value.slice none 0 0)).toArray := ⟨_, rfl⟩
  have hmk := make140 c.lvs.length (by omega)
  have HNEW : Hid (SrS (w.alloc (.cells Z 144)) w.heap.size (fun k => if k = w.heap.size then 1 else 0) w.heap.size (List.replicate c.lvs.length (.slice none 0 0)) (admK c.lvs l 0) (.slice none 0 0) [] (serK c.lvs l 0) c.lvs.length) := by rw [hZ]; exact SrS.new w c.lvs.length
  rw [← hZ] at hmk
  have HBN : Hid (Below w.heap.size w (w.alloc (.cells Z 144))) := (Below.refl _ _).alloc (Nat.le_refl _) _
  obtain ⟨li0, hli, lz0, lz1, lz2⟩ := infP Tryz.info42'
  obtain ⟨ri0, hri, rz0, rz1, rz2⟩ := infP Tryz.info144'
  clear h hs hlab hov hlv hZ
  go_enter Tryz.func80, Tryz.ntmps80
  go_wp2_with fail
  generalize hN : c.lvs.length = n at *
  go_loopw [6, 7] (fun ov i wr => ∃ (k : Nat) (ow : Nat → Nat) (vs rs : List Value), i = .int .i64 k ∧ k ≤ m ∧ SrS wr w.heap.size ow w.heap.size vs (admK c.lvs l k) ov rs (serK c.lvs l k) n ∧ Below w.heap.size w wr) (fun _ i _ => m - (intOf i).toNat)
  case atStart => exact ⟨0, _, _, _, rfl, Nat.zero_le _, HNEW.out, HBN.out⟩
  case round =>
    obtain ⟨k, ow, vs, rs, rfl, hk, hsr, hbe⟩ := hrel
    rename World => V
    have HSR : Hid (SrS V w.heap.size ow w.heap.size vs (admK c.lvs l k) u6 rs (serK c.lvs l k) n) := hsr
    have HBE : Hid (Below w.heap.size w V) := hbe
    clear hsr hbe HNEW HBN
    by_cases hlt : k < m
    · obtain ⟨b, off, rfl, hat⟩ := HS.out.2 (by omega)
      obtain ⟨_, s1, s2, s3, _⟩ := hat k (by rw [HML.out]; exact hlt)
      have hbw : b < w.heap.size := hat.block (by rw [HML.out]; omega)
      have hlb : lab3 (smG l k).l0 (smG l k).l1 (smG l k).l2 = true := HLAB.out _ (by rw [smG_get l k (by rw [HML.out]; exact hlt)]; exact List.getElem_mem _)
      have y1 : V.cell? ⟨b, off + k * 5 + 1, none⟩ = some (.int .u8 (smG l k).l0) := (HBE.out.cell (p := ⟨b, off + k * 5 + 1, none⟩) hbw).trans s1
      have y2 : V.cell? ⟨b, off + k * 5 + 2, none⟩ = some (.int .u8 (smG l k).l1) := (HBE.out.cell (p := ⟨b, off + k * 5 + 2, none⟩) hbw).trans s2
      have y3 : V.cell? ⟨b, off + k * 5 + 3, none⟩ = some (.int .u8 (smG l k).l2) := (HBE.out.cell (p := ⟨b, off + k * 5 + 3, none⟩) hbw).trans s3
      have hzV := HBE.out.size
      have hbV : Below V.heap.size V (V.alloc (.cells #[.int .u8 (smG l k).l0, .int .u8 (smG l k).l1, .int .u8 (smG l k).l2] 42)) := (Below.refl _ _).alloc (Nat.le_refl _) _
      have HIN : Hid (LvIn (V.alloc (.cells #[.int .u8 (smG l k).l0, .int .u8 (smG l k).l1, .int .u8 (smG l k).l2] 42)) w.heap.size (upd ow V (V.alloc (.cells #[.int .u8 (smG l k).l0, .int .u8 (smG l k).l1, .int .u8 (smG l k).l2] 42)) 5) w.heap.size vs (runA c.lvs (admK c.lvs l k) (smG l k).lb 0).1 u6 rs (serK c.lvs l k) n V.heap.size (runA c.lvs (admK c.lvs l k) (smG l k).lb 0).2.1 (.slice none 0 0) (runA c.lvs (admK c.lvs l k) (smG l k).lb 0).2.2) :=
        { sr := HSR.out.other (.inr rfl) (Fr.of_below hbV), nb := heap_alloc_new _ _, oN := by unfold upd; rw [if_pos ⟨Nat.le_refl _, by rw [World.size_alloc]; omega⟩], rw' := World.ownsRow_nil _ _ _ _, oR := fun k e => by simp [Value.ownBlock] at e }
      have HBV : Hid (Below w.heap.size w (V.alloc (.cells #[.int .u8 (smG l k).l0, .int .u8 (smG l k).l1, .int .u8 (smG l k).l2] 42))) := HBE.out.trans (hbV.mono hzV)
      clear hat s1 s2 s3 hbV
      go_wp2_with fail
      go_loopw [8, 10] (fun rv j wx => ∃ (jj : Nat) (ow' : Nat → Nat) (vs' : List Value), j = .int .i64 jj ∧ jj ≤ n ∧ LvIn wx w.heap.size ow' w.heap.size vs' (runA c.lvs (admK c.lvs l k) (smG l k).lb jj).1 u6 rs (serK c.lvs l k) n V.heap.size (runA c.lvs (admK c.lvs l k) (smG l k).lb jj).2.1 rv (runA c.lvs (admK c.lvs l k) (smG l k).lb jj).2.2 ∧ Below w.heap.size w wx) (fun _ j _ => n - (intOf j).toNat)
      case atStart => exact ⟨0, _, _, rfl, Nat.zero_le _, HIN.out, HBV.out⟩
      case round =>
        obtain ⟨jj, ow', vs', rfl, hj, hin, hbx⟩ := hrel
        rename World => wx
        have HI : Hid (LvIn wx w.heap.size ow' w.heap.size vs' (runA c.lvs (admK c.lvs l k) (smG l k).lb jj).1 u6 rs (serK c.lvs l k) n V.heap.size (runA c.lvs (admK c.lvs l k) (smG l k).lb jj).2.1 u8 (runA c.lvs (admK c.lvs l k) (smG l k).lb jj).2.2) := hin
        have HBX : Hid (Below w.heap.size w wx) := hbx
        clear hin hbx HIN HBV
        have d2 : wx.cell? ⟨R, 2, none⟩ = some (.slice (some ⟨L, 0, none⟩) n lcap) := by have h9 : wx.cell? ⟨R, 2, none⟩ = some (.slice (some ⟨L, 0, none⟩) c.lvs.length lcap) := (HRF.out.below HBX.out).cell 2 _ rfl; rw [hN] at h9; exact h9
        by_cases hlj : jj < n
        · have HSUC : Hid (runA c.lvs (admK c.lvs l k) (smG l k).lb (jj + 1) = ((runA c.lvs (admK c.lvs l k) (smG l k).lb jj).1.set jj (stpA (lvG c.lvs jj) (aG (runA c.lvs (admK c.lvs l k) (smG l k).lb jj).1 jj) (runA c.lvs (admK c.lvs l k) (smG l k).lb jj).2.1), stpN (lvG c.lvs jj) (aG (runA c.lvs (admK c.lvs l k) (smG l k).lb jj).1 jj) (runA c.lvs (admK c.lvs l k) (smG l k).lb jj).2.1, (runA c.lvs (admK c.lvs l k) (smG l k).lb jj).2.2 ++ [stpN (lvG c.lvs jj) (aG (runA c.lvs (admK c.lvs l k) (smG l k).lb jj).1 jj) (runA c.lvs (admK c.lvs l k) (smG l k).lb jj).2.1])) := rfl
          have hfit : (((aG (runA c.lvs (admK c.lvs l k) (smG l k).lb jj).1 jj).length : Nat) : Int) ≤ (lvG c.lvs jj).limit := runA_fits c.lvs _ _ (by rw [admK_len]) (HFIT.out k (by rw [HML.out]; omega)) jj (by omega) jj (by omega)
          have hpl : (runA c.lvs (admK c.lvs l k) (smG l k).lb jj).2.2.length = jj := (runA_len _ _ _ jj).2
          have hokN : okS (runA c.lvs (admK c.lvs l k) (smG l k).lb jj).2.1 := runA_ok _ _ _ (.inr hlb) jj
          obtain ⟨hr3, hl1, hl20⟩ := HRUL.out jj (by omega)
          obtain ⟨_, _, a2, a3⟩ := (HRF.out.below HBX.out).lv jj (by omega)
          simp only [Nat.zero_add] at a2 a3
          obtain ⟨g0, g1, g2⟩ := HOV.out.below HBX.out hpos
          generalize runA c.lvs (admK c.lvs l k) (smG l k).lb jj = ra at *
          obtain ⟨A', nw, pre⟩ := ra
          simp only at HI HSUC hfit hpl hokN
          have n0 : wx.cell? ⟨V.heap.size, 0, none⟩ = some (.int .u8 nw.a) := cell_blk HI.out.nb rfl
          have n1 : wx.cell? ⟨V.heap.size, 1, none⟩ = some (.int .u8 nw.b) := cell_blk HI.out.nb rfl
          have n2 : wx.cell? ⟨V.heap.size, 2, none⟩ = some (.int .u8 nw.c) := cell_blk HI.out.nb rfl
          have hjI : (jj : Int) < (n : Int) := by omega
          have heq := fun w => eq26 9998 nw.a nw.b nw.c 42 42 42 w
          rw [show (nw.a == 42 && nw.b == 42 && nw.c == 42) = decide (nw = over) from lb_beq over nw] at heq
          obtain ⟨bd, hbd⟩ : ∃ bd, bd = decide (nw = over) := ⟨_, rfl⟩
          rw [← hbd] at heq
          have HBD : Hid (bd = decide (nw = over)) := hbd
          clear hbd
          go_upto_if 42 with fail
          go_cut [] from 30 to 92 (fun wz => ∃ (ow2 : Nat → Nat) (vs2 : List Value), LvIn wz w.heap.size ow2 w.heap.size vs2 (A'.set jj (stpA (lvG c.lvs jj) (aG A' jj) nw)) u6 rs (serK c.lvs l k) n V.heap.size (stpN (lvG c.lvs jj) (aG A' jj) nw) u8 pre ∧ Below w.heap.size w wz)
          case first =>
            have HJA : Hid (jj < A'.length) := by show _ < _; rw [HI.out.sr.lL]; exact hlj
            cases bd
            case true =>
              have HR : Hid (stpA (lvG c.lvs jj) (aG A' jj) nw = aG A' jj ∧ stpN (lvG c.lvs jj) (aG A' jj) nw = nw) := by
                have hov : nw = over := by simpa using HBD.out.symm
                exact ⟨if_pos hov, by unfold stpN; rw [if_pos hov]; exact hov.symm⟩
              go_wp2_with fail
              go_meet
              case rel => exact ⟨ow', vs', by rw [HR.out.1, HR.out.2, set_aG _ _ HJA.out]; exact HI.out, HBX.out⟩
            case false =>
              have HNO : Hid (¬ nw = over) := by show ¬ _; simpa using HBD.out.symm
              have hlab : lab3 nw.a nw.b nw.c = true := hokN.resolve_left HNO.out
              have z0 : wx.frozen? ⟨V.heap.size, 0, none⟩ = false := froz_blk HI.out.nb
              have z1 : wx.frozen? ⟨V.heap.size, 1, none⟩ = false := froz_blk HI.out.nb
              have z2 : wx.frozen? ⟨V.heap.size, 2, none⟩ = false := froz_blk HI.out.nb
              have hNl := HI.out.Nlt
              have HMD := fun W => made_any (lvG c.lvs jj).rule nw.a nw.b nw.c W hr3 hlab
              have HMM : Hid (∀ W, Calls Tryz.prog 63 #[.string (lvG c.lvs jj).rule, .agg #[.int .u8 nw.a, .int .u8 nw.b, .int .u8 nw.c]] W fun e w' => e = .returned (.agg #[.int .u8 (madeL (lvG c.lvs jj).rule nw).a, .int .u8 (madeL (lvG c.lvs jj).rule nw).b, .int .u8 (madeL (lvG c.lvs jj).rule nw).c]) ∧ w' = (W.alloc (c3 (madeL (lvG c.lvs jj).rule nw).a (madeL (lvG c.lvs jj).rule nw).b (madeL (lvG c.lvs jj).rule nw).c)).alloc (c3 (madeL (lvG c.lvs jj).rule nw).a (madeL (lvG c.lvs jj).rule nw).b (madeL (lvG c.lvs jj).rule nw).c)) := HMD
              clear HMD
              generalize hMM : madeL (lvG c.lvs jj).rule nw = mm at *
              go_upto_region 12 with fail
              go_cut [] from 30 to 92 (fun wz => LvIn wz w.heap.size ow' w.heap.size vs' A' u6 rs (serK c.lvs l k) n V.heap.size mm u8 pre ∧ Below w.heap.size w wz)
              case first =>
                go_region_with (go_at_call 63; refine (HMM.out _).mono ?_; rintro e w' ⟨rfl, rfl⟩)
                all_goals go_wp2_with fail
                all_goals go_meet
                all_goals (case rel => exact ⟨(HI.out.setB mm _ _).1, HBX.out.trans (HI.out.setB mm _ _).2⟩)
              case rest =>
                obtain ⟨hin2, hb2⟩ := hcut
                have HI2 : Hid (LvIn wc w.heap.size ow' w.heap.size vs' A' u6 rs (serK c.lvs l k) n V.heap.size mm u8 pre) := hin2
                have HB2 : Hid (Below w.heap.size w wc) := hb2
                have hadm := hin2.sr.adm jj hlj
                obtain ⟨va, vcap, ev⟩ := ownForm hadm
                have cj : wc.cell? ⟨w.heap.size, jj, none⟩ = some (.slice va (aG A' jj).length vcap) := by
                  rw [← ev]
                  exact cell_blk hin2.sr.blk (by rw [List.getElem?_toArray]; exact vG_get _ _ (by rw [hin2.sr.lv]; exact hlj))
                have m0 : wc.cell? ⟨V.heap.size, 0, none⟩ = some (.int .u8 mm.a) := cell_blk hin2.nb rfl
                have m1 : wc.cell? ⟨V.heap.size, 1, none⟩ = some (.int .u8 mm.b) := cell_blk hin2.nb rfl
                have m2 : wc.cell? ⟨V.heap.size, 2, none⟩ = some (.int .u8 mm.c) := cell_blk hin2.nb rfl
                have HEV : Hid (vG vs' jj = .slice va (aG A' jj).length vcap) := ev
                have hlenA : (aG A' jj).length ≤ 20 := by omega
                have HATA : Hid (∀ W, Below wc.heap.size wc W → 0 < (aG A' jj).length → ∃ b off, va = some ⟨b, off, none⟩ ∧ At W b off (flatL (aG A' jj))) := fun W hW h0 => by
                  rw [ev] at hadm
                  obtain ⟨g, cap', e', _, _, _⟩ := ownBlockForm hadm h0
                  injection e' with e1 _ _
                  subst e1
                  exact ⟨g, 0, rfl, fun i v hi => (hW.cell (p := ⟨g, 0 + i, none⟩) (World.block_lt_of_cell? wc _ (owns_at hadm i v hi))).trans (owns_at hadm i v hi)⟩
                clear hin2 hb2 hadm ev n0 n1 n2 z0 z1 z2 g0 g1 g2 d2 a2 a3 hNl HMM HI HBX
                have q0 : wc.drew.cell? ⟨w.heap.size, jj, none⟩ = some (.slice va (aG A' jj).length vcap) := cj
                have q1 : wc.drew.cell? ⟨V.heap.size, 0, none⟩ = some (.int .u8 mm.a) := m0
                have q2 : wc.drew.cell? ⟨V.heap.size, 1, none⟩ = some (.int .u8 mm.b) := m1
                have q3 : wc.drew.cell? ⟨V.heap.size, 2, none⟩ = some (.int .u8 mm.c) := m2
                have hGl : w.heap.size < wc.drew.heap.size := HI2.out.sr.Glt
                have hNl2 : V.heap.size < wc.drew.heap.size := HI2.out.Nlt
                have hJI : (jj : Int) < (n : Int) := by omega
                go_upto_region 13 with fail
                go_cut [11] from 30 to 92 (fun v wz => v = .bool (decide (mm ∈ aG A' jj)) ∧ LvIn wz w.heap.size ow' w.heap.size vs' A' u6 rs (serK c.lvs l k) n V.heap.size mm u8 pre ∧ Below w.heap.size w wz)
                case first =>
                  go_region_held3 (fun w' => w'.cell? ⟨w.heap.size, jj, none⟩ = some (.slice va (aG A' jj).length vcap) ∧ w'.cell? ⟨V.heap.size, 0, none⟩ = some (.int .u8 mm.a) ∧ w'.cell? ⟨V.heap.size, 1, none⟩ = some (.int .u8 mm.b) ∧ w'.cell? ⟨V.heap.size, 2, none⟩ = some (.int .u8 mm.c)) (first | exact ⟨q0, q1, q2, q3⟩ | exact ⟨y0, y1', y2', y3'⟩)
                    (first | (go_at_call 106; refine (among_ref va (aG A' jj).length vcap (aG A' jj) mm _ rfl (HATA.out _ (Below.refl _ _).drew) (by omega)).mono ?_; rintro e w' ⟨rfl, hb'⟩; have y0 := (hb'.cell (p := ⟨w.heap.size, jj, none⟩) hGl).trans q0; have y1' := (hb'.cell (p := ⟨V.heap.size, 0, none⟩) hNl2).trans q1; have y2' := (hb'.cell (p := ⟨V.heap.size, 1, none⟩) hNl2).trans q2; have y3' := (hb'.cell (p := ⟨V.heap.size, 2, none⟩) hNl2).trans q3))
                  all_goals go_wp2_with fail
                  all_goals go_meet
                  all_goals (case rel => exact ⟨rfl, HI2.out.below ⟨hb'.os, hb'.tape, hb'.output, hb'.size, hb'.block⟩, HB2.out.trans (Below.mono ⟨hb'.os, hb'.tape, hb'.output, hb'.size, hb'.block⟩ HI2.out.sr.bas)⟩)
                case rest =>
                  obtain ⟨rfl, hin3, hb3⟩ := hcut
                  clear q0 q1 q2 q3 cj m0 m1 m2 hGl hNl2 HATA HI2 HB2
                  rename World => we
                  have HI3 : Hid (LvIn we w.heap.size ow' w.heap.size vs' A' u6 rs (serK c.lvs l k) n V.heap.size mm u8 pre) := hin3
                  have HB3 : Hid (Below w.heap.size w we) := hb3
                  clear hin3 hb3
                  generalize hbm : decide (mm ∈ aG A' jj) = bm at *
                  have HBM : Hid (decide (mm ∈ aG A' jj) = bm) := hbm
                  clear hbm
                  cases bm
                  case true =>
                    have HR : Hid (stpA (lvG c.lvs jj) (aG A' jj) nw = aG A' jj ∧ stpN (lvG c.lvs jj) (aG A' jj) nw = mm) := by
                      have hmem : madeL (lvG c.lvs jj).rule nw ∈ aG A' jj := by rw [hMM]; simpa using HBM.out
                      exact ⟨by unfold stpA; rw [if_neg HNO.out, if_pos hmem], by unfold stpN; rw [if_neg HNO.out, if_pos hmem, hMM]⟩
                    go_wp2_with fail
                    go_meet
                    case rel => exact ⟨ow', vs', by rw [HR.out.1, HR.out.2, set_aG _ _ HJA.out]; exact HI3.out, HB3.out⟩
                  case false =>
                    have hadm := HI3.out.sr.adm jj hlj
                    rw [HEV.out] at hadm
                    have cj : we.cell? ⟨w.heap.size, jj, none⟩ = some (.slice va (aG A' jj).length vcap) := by
                      rw [← HEV.out]
                      exact cell_blk HI3.out.sr.blk (by rw [List.getElem?_toArray]; exact vG_get _ _ (by rw [HI3.out.sr.lv]; exact hlj))
                    have e2 : we.cell? ⟨R, 2, none⟩ = some (.slice (some ⟨L, 0, none⟩) n lcap) := by have h9 : we.cell? ⟨R, 2, none⟩ = some (.slice (some ⟨L, 0, none⟩) c.lvs.length lcap) := (HRF.out.below HB3.out).cell 2 _ rfl; rw [hN] at h9; exact h9
                    obtain ⟨_, _, _, a3⟩ := (HRF.out.below HB3.out).lv jj (by omega)
                    simp only [Nat.zero_add] at a3
                    have HADM : Hid (we.ownsRow 0 42 3 (.slice va (aG A' jj).length vcap) (aG A' jj).length (flatL (aG A' jj))) := hadm
                    clear hadm
                    go_upto_region 16 with fail
                    go_cut [63] from 30 to 92 (fun v wz => v = .bool (decide (((aG A' jj).length : Int) < (lvG c.lvs jj).limit)) ∧ ∃ d, wz = we.drewN d)
                    case first =>
                      go_quiet (fail)
                      go_wp2_with fail
                      go_meet
                      case rel => exact ⟨rfl, _, rfl⟩
                    case rest =>
                      obtain ⟨rfl, dd, hwc⟩ := hcut
                      have HI4 : Hid (LvIn wc w.heap.size ow' w.heap.size vs' A' u6 rs (serK c.lvs l k) n V.heap.size mm u8 pre) := by rw [hwc]; exact HI3.out.below (below_drewN (Below.refl _ _) _)
                      have HB4 : Hid (Below w.heap.size w wc) := by rw [hwc]; exact below_drewN HB3.out _
                      have cj4 : wc.cell? ⟨w.heap.size, jj, none⟩ = some (.slice va (aG A' jj).length vcap) := by rw [hwc]; exact cj
                      have HADM4 : Hid (wc.ownsRow 0 42 3 (.slice va (aG A' jj).length vcap) (aG A' jj).length (flatL (aG A' jj))) := by rw [hwc]; exact HADM.out
                      clear hwc HI3 HB3 cj e2 a3 HADM
                      generalize hbl : decide (((aG A' jj).length : Int) < (lvG c.lvs jj).limit) = bl at *
                      have HBL : Hid (decide (((aG A' jj).length : Int) < (lvG c.lvs jj).limit) = bl) := hbl
                      clear hbl
                      cases bl
                      case true =>
                        have HR : Hid (stpA (lvG c.lvs jj) (aG A' jj) nw = aG A' jj ++ [mm] ∧ stpN (lvG c.lvs jj) (aG A' jj) nw = mm) := by
                          have hmem : ¬ madeL (lvG c.lvs jj).rule nw ∈ aG A' jj := by rw [hMM]; simpa using HBM.out
                          have hlim : ((aG A' jj).length : Int) < (lvG c.lvs jj).limit := by simpa using HBL.out
                          exact ⟨by unfold stpA; rw [if_neg HNO.out, if_neg hmem, if_pos hlim, hMM], by unfold stpN; rw [if_neg HNO.out, if_neg hmem, if_pos hlim, hMM]⟩
                        have m0 : wc.cell? ⟨V.heap.size, 0, none⟩ = some (.int .u8 mm.a) := cell_blk HI4.out.nb rfl
                        have m1 : wc.cell? ⟨V.heap.size, 1, none⟩ = some (.int .u8 mm.b) := cell_blk HI4.out.nb rfl
                        have m2 : wc.cell? ⟨V.heap.size, 2, none⟩ = some (.int .u8 mm.c) := cell_blk HI4.out.nb rfl
                        have fz : wc.frozen? ⟨w.heap.size, jj, none⟩ = false := froz_blk HI4.out.sr.blk
                        have hGl := HI4.out.sr.Glt
                        have HGV : Hid ((Value.slice va (aG A' jj).length vcap).ownBlock ≠ some w.heap.size) := fun e => by
                          rw [← HEV.out] at e
                          have h1 := HI4.out.sr.oA jj hlj _ e
                          have h2 := HI4.out.sr.oG
                          omega
                        have hMl : (aG A' jj).length ≤ 20 := hlenA
                        go_upto_region 17 with fail
                        go_region_law (refine stepAppend rfl (.tmp 84) (.tmp 86) 144 rfl 0 42 li0 (.agg #[.int .u8 0, .int .u8 0, .int .u8 0]) 3 3 Tryz.underlying144 hli lz0 lz1 lz2 rfl (by decide) (.slice va (aG A' jj).length vcap) (aG A' jj).length (flatL (aG A' jj)) (by simp [Act.eval]) (HADM4.out.alloc _) ⟨wc.heap.size, 0, none⟩ 1 1 (lbC mm) (by simp [Act.eval]) rfl (newAt _ (lbC mm) 42 _ rfl) (lbC_one mm) (by unfold maxLen; omega) (by omega) (Nat.zero_le _) ?_; intro v' w3 hown' hgrow hblk; have qX3 : w3.cell? ⟨w.heap.size, jj, none⟩ = some (.slice va (aG A' jj).length vcap) := hgrow.cell (cell_alloc1 cj4) (fun e => HGV.out e.symm); have fX3 : w3.frozen? ⟨w.heap.size, jj, none⟩ = false := (World.frozen?_of_block (hgrow.block w.heap.size (by simp; omega) (fun e => HGV.out e.symm))).trans (frozen_alloc1 hGl fz); obtain ⟨a', p', rfl⟩ := ownForm hown')
                        all_goals (have hg' := gr_undrew hgrow)
                        all_goals (have HL5 : Hid (LvIn (w3.setCell ⟨w.heap.size, jj, none⟩ (.slice a' ((aG A' jj).length + 1) p')) w.heap.size (upd ow' (wc.alloc (.cells (lbC mm).toArray 42)) w3 (10 + jj)) w.heap.size (vs'.set jj (.slice a' ((aG A' jj).length + 1) p')) (A'.set jj (aG A' jj ++ [mm])) u6 rs (serK c.lvs l k) n V.heap.size mm u8 pre ∧ Below w.heap.size wc (w3.setCell ⟨w.heap.size, jj, none⟩ (.slice a' ((aG A' jj).length + 1) p'))) := by obtain ⟨h1, h2⟩ := HI4.out.more hlj (m := mm) ((Below.refl _ _).alloc (Nat.le_refl _) (.cells (lbC mm).toArray 42)) (by rw [HEV.out]; exact hg') hown' (by rw [HEV.out]; exact hblk); exact ⟨h1, HI4.out.bel h2 (fun k e => by rcases e with e | e <;> omega)⟩)
                        all_goals clear hgrow hg' hblk hown'
                        all_goals go_wp2_with fail
                        all_goals go_meet
                        all_goals (case rel => exact ⟨_, _, by rw [HR.out.1, HR.out.2]; exact HL5.out.1, HB4.out.trans HL5.out.2⟩)
                      case false =>
                        have HR : Hid (stpA (lvG c.lvs jj) (aG A' jj) nw = aG A' jj ∧ stpN (lvG c.lvs jj) (aG A' jj) nw = over) := by
                          have hmem : ¬ madeL (lvG c.lvs jj).rule nw ∈ aG A' jj := by rw [hMM]; simpa using HBM.out
                          have hlim : ¬ ((aG A' jj).length : Int) < (lvG c.lvs jj).limit := by simpa using HBL.out
                          exact ⟨by unfold stpA; rw [if_neg HNO.out, if_neg hmem, if_neg hlim], by unfold stpN; rw [if_neg HNO.out, if_neg hmem, if_neg hlim]⟩
                        obtain ⟨g0, g1, g2⟩ := HOV.out.below HB4.out hpos
                        have z0 : wc.frozen? ⟨V.heap.size, 0, none⟩ = false := froz_blk HI4.out.nb
                        have z1 : wc.frozen? ⟨V.heap.size, 1, none⟩ = false := froz_blk HI4.out.nb
                        have z2 : wc.frozen? ⟨V.heap.size, 2, none⟩ = false := froz_blk HI4.out.nb
                        have m0 : wc.cell? ⟨V.heap.size, 0, none⟩ = some (.int .u8 mm.a) := cell_blk HI4.out.nb rfl
                        have m1 : wc.cell? ⟨V.heap.size, 1, none⟩ = some (.int .u8 mm.b) := cell_blk HI4.out.nb rfl
                        have m2 : wc.cell? ⟨V.heap.size, 2, none⟩ = some (.int .u8 mm.c) := cell_blk HI4.out.nb rfl
                        go_wp2_with fail
                        go_meet
                        case rel =>
                          obtain ⟨h1, h2⟩ := HI4.out.set over
                          exact ⟨ow', vs', by rw [HR.out.1, HR.out.2, set_aG _ _ HJA.out]; exact h1, HB4.out.trans (HI4.out.bel h2 (fun k e => by have e' : ow' k = 5 := e; omega))⟩
          case rest =>
            obtain ⟨ow2, vs2, hin2, hb2⟩ := hcut
            have hrw := hin2.rw'
            obtain ⟨ra, rcap, er⟩ := ownForm hrw
            subst er
            have HI2 : Hid (LvIn wc w.heap.size ow2 w.heap.size vs2 (A'.set jj (stpA (lvG c.lvs jj) (aG A' jj) nw)) u6 rs (serK c.lvs l k) n V.heap.size (stpN (lvG c.lvs jj) (aG A' jj) nw) (.slice ra pre.length rcap) pre) := hin2
            have HB2 : Hid (Below w.heap.size w wc) := hb2
            clear hin2 hb2 hrw n0 n1 n2 g0 g1 g2 a2 a3 d2 HI HBX heq
            generalize stpA (lvG c.lvs jj) (aG A' jj) nw = adm2 at *
            generalize stpN (lvG c.lvs jj) (aG A' jj) nw = nw2 at *
            have m0 : wc.cell? ⟨V.heap.size, 0, none⟩ = some (.int .u8 nw2.a) := cell_blk HI2.out.nb rfl
            have m1 : wc.cell? ⟨V.heap.size, 1, none⟩ = some (.int .u8 nw2.b) := cell_blk HI2.out.nb rfl
            have m2 : wc.cell? ⟨V.heap.size, 2, none⟩ = some (.int .u8 nw2.c) := cell_blk HI2.out.nb rfl
            have HOW : Hid ((wc.alloc (.cells (lbC nw2).toArray 42)).ownsRow 0 42 3 (.slice ra pre.length rcap) pre.length (flatL pre)) := HI2.out.rw'.alloc _
            have HNW : Hid (∀ j u, (lbC nw2)[j]? = some u → (wc.alloc (.cells (lbC nw2).toArray 42)).cell? ((⟨wc.heap.size, 0, none⟩ : Addr).add j) = some u) := newAt _ _ _ _ rfl
            go_wp2_with (refine listAppend rfl (.tmp 89) (.tmp 91) 144 rfl 0 42 li0 (.agg #[.int .u8 0, .int .u8 0, .int .u8 0]) 3 3 Tryz.underlying144 hli lz0 lz1 lz2 rfl (by decide) (.slice ra pre.length rcap) pre.length (flatL pre) (by simp [Act.eval]) HOW.out ⟨wc.heap.size, 0, none⟩ 1 1 (lbC nw2) (by simp [Act.eval]) rfl HNW.out (lbC_one nw2) (by unfold maxLen; omega) (by omega) (Nat.zero_le _) ?_; intro v' w6 hown hgrow hblk; obtain ⟨h5, h6⟩ := HI2.out.app ((Below.refl _ _).alloc (Nat.le_refl _) _) hgrow hown hblk; have HF : Hid (LvIn w6 w.heap.size (upd ow2 (wc.alloc (.cells (lbC nw2).toArray 42)) w6 4) w.heap.size vs2 (A'.set jj adm2) u6 rs (serK c.lvs l k) n V.heap.size nw2 v' (pre ++ [nw2]) ∧ Below w.heap.size w w6) := ⟨h5, HB2.out.trans (HI2.out.bel h6 (fun k e => by have e' : ow2 k = 4 := e; omega))⟩; clear hown hgrow hblk h5 h6)
            exact ⟨⟨jj + 1, _, _, by go_num, by omega, by rw [HSUC.out]; exact HF.out.1, HF.out.2⟩, by simp [intOf]; omega⟩
        · obtain rfl : jj = n := by omega
          have hall := runA_all c.lvs (admK c.lvs l k) (smG l k).lb (admK_len _ _ _)
          rw [hN] at hall
          have hpl : (runA c.lvs (admK c.lvs l k) (smG l k).lb jj).2.2.length = jj := (runA_len _ _ _ jj).2
          have hkl : k < l.length := by rw [HML.out]; exact hlt
          have HADK : Hid (admK c.lvs l (k + 1) = (runA c.lvs (admK c.lvs l k) (smG l k).lb jj).1) := by show _ = _; rw [admK_succ c.lvs l k hkl, hall.1]
          have HSEK : Hid (serK c.lvs l (k + 1) = serK c.lvs l k ++ [(runA c.lvs (admK c.lvs l k) (smG l k).lb jj).2.2]) := by show _ = _; rw [serK_succ c.lvs l k hkl, hall.2]
          clear hall hkl
          generalize runA c.lvs (admK c.lvs l k) (smG l k).lb jj = ra at *
          obtain ⟨A', nw, pre⟩ := ra
          simp only at HI HADK HSEK hpl
          have hrw := HI.out.rw'
          obtain ⟨b', rcap, er, _, _, _⟩ := ownBlockForm hrw (by omega)
          have hatr : At wx b' 0 (flatL pre) := by rw [er] at hrw; exact owns_at hrw
          have hbo : ow' b' = 4 := HI.out.oR b' (by rw [er]; rfl)
          rw [hpl] at er
          subst er
          obtain ⟨oa, ocap, eo⟩ := ownForm HI.out.sr.orow
          subst eo
          have HOR : Hid ((wx.alloc (.cells #[.slice (some ⟨b', 0, none⟩) jj rcap] 144)).ownsRow 0 144 1 (.slice oa rs.length ocap) rs.length rs) := HI.out.sr.orow.alloc _
          have HNW : Hid (∀ j u, ([.slice (some ⟨b', 0, none⟩) jj rcap] : List Value)[j]? = some u → (wx.alloc (.cells #[.slice (some ⟨b', 0, none⟩) jj rcap] 144)).cell? ((⟨wx.heap.size, 0, none⟩ : Addr).add j) = some u) := newAt wx [.slice (some ⟨b', 0, none⟩) jj rcap] 144 _ rfl
          have hrs : rs.length ≤ 500 := by
            have h1 := HI.out.sr.lS
            have h2 : (serK c.lvs l k).length ≤ k := by unfold serK; rw [serAll_len]; simp; omega
            omega
          have HAT : Hid (At wx b' 0 (flatL pre)) := hatr
          have HBO : Hid (ow' b' = 4) := hbo
          have HPL : Hid (pre.length = jj) := hpl
          clear hrw hatr hbo hpl
          go_wp2_with (refine listAppend rfl (.tmp 93) (.tmp 95) 140 rfl 0 144 ri0 (.slice none 0 0) 1 24 Tryz.underlying140 hri rz0 rz1 rz2 rfl (by decide) (.slice oa rs.length ocap) rs.length rs (by simp [Act.eval]) HOR.out ⟨wx.heap.size, 0, none⟩ 1 1 [.slice (some ⟨b', 0, none⟩) jj rcap] (by simp [Act.eval]) rfl HNW.out (by simp [Value.oneCell']) (by unfold maxLen; omega) (by omega) (Nat.zero_le _) ?_; intro v' w6 hown hgrow hblk; obtain ⟨h5, h6⟩ := HI.out.sr.push (s := pre) (b := b') (cap := rcap) ((Below.refl _ _).alloc (Nat.le_refl _) (.cells #[.slice (some ⟨b', 0, none⟩) jj rcap] 144)) hgrow hown hblk HBO.out HAT.out HPL.out; have HF : Hid (SrS w6 w.heap.size _ w.heap.size vs' A' v' (rs ++ [.slice (some ⟨b', 0, none⟩) jj rcap]) (serK c.lvs l k ++ [pre]) jj ∧ Below w.heap.size w w6) := ⟨h5, HBX.out.trans (HI.out.bel h6 (fun k e => by have e' : ow' k = 2 := e; omega))⟩; clear hown hgrow hblk h5 h6)
          exact ⟨⟨k + 1, _, _, _, by go_num, by omega, by rw [HADK.out, HSEK.out]; exact HF.out.1, HF.out.2⟩, by simp [intOf]; omega⟩
    · have hkm : k = m := by omega
      have HFIN : Hid (SerAt V w.heap.size u6 rs (serAll c.lvs [] l) n) := by
        have h9 := HSR.out.ser
        rw [hkm, ← HML.out, serK_all] at h9
        exact h9
      go_wp2_with fail
      go_ret
      exact ⟨u6, rs, rfl, by rw [hN]; exact HFIN.out, HBE.out⟩

end Go.Proofs.YthciddpljcbhiaaGreatDoor

/- Walks: the group of a series (garnerref). -/
namespace Go.Proofs.YthciddpljcbhiaaGreatDoor
open Go Go.RowKit Go.Lib

def triL (s : Lb) (i : Nat) : Int := match i with | 0 => s.a | 1 => s.b | _ => s.c
abbrev lbA3 (s : Lb) : Array Value := #[.int .u8 s.a, .int .u8 s.b, .int .u8 s.c]
theorem lbA3_get (s : Lb) (k : Nat) (h : k < 3) : (lbA3 s)[k]? = some (.int .u8 (triL s k)) := by
  have : k = 0 ∨ k = 1 ∨ k = 2 := by omega
  rcases this with rfl | rfl | rfl <;> rfl
/-- The group so far. -/
def grK (q : Qy) (s : Lb) (k : Nat) : Lb := ⟨if 0 < k then gB (byt q.gb 0) s.a else 46, if 1 < k then gB (byt q.gb 1) s.b else 46, if 2 < k then gB (byt q.gb 2) s.c else 46⟩
theorem grK_set (q : Qy) (s : Lb) (k : Nat) (h : k < 3) (hb : byt q.gb k = 49) : (lbA3 (grK q s k)).setIfInBounds k (.int .u8 (triL s k)) = lbA3 (grK q s (k + 1)) := by
  have : k = 0 ∨ k = 1 ∨ k = 2 := by omega
  rcases this with rfl | rfl | rfl <;> simp [lbA3, grK, triL, gB, hb]
theorem grK_same (q : Qy) (s : Lb) (k : Nat) (h : k < 3) (hb : ¬ byt q.gb k = 49) : grK q s k = grK q s (k + 1) := by
  have : k = 0 ∨ k = 1 ∨ k = 2 := by omega
  rcases this with rfl | rfl | rfl <;> simp [grK, gB, hb]
theorem grp_all {q : Qy} {s : Lb} (ho : ¬ s = over) (h : ∀ j, j < 3 → mOk (byt q.mt j) (triL s j) = true) : grpOf q s = some (grK q s 3) := by
  have h0 : mOk (byt q.mt 0) s.a = true := h 0 (by omega)
  have h1 : mOk (byt q.mt 1) s.b = true := h 1 (by omega)
  have h2 : mOk (byt q.mt 2) s.c = true := h 2 (by omega)
  unfold grpOf
  rw [if_neg ho, if_pos (by simp [h0, h1, h2])]
  simp [grK]
theorem grp_no {q : Qy} {s : Lb} (ho : ¬ s = over) {j : Nat} (hj : j < 3) (h : mOk (byt q.mt j) (triL s j) = false) : grpOf q s = none := by
  unfold grpOf
  rw [if_neg ho, if_neg]
  have : j = 0 ∨ j = 1 ∨ j = 2 := by omega
  rcases this with rfl | rfl | rfl
  · have h' : mOk (byt q.mt 0) s.a = false := h
    simp [h']
  · have h' : mOk (byt q.mt 1) s.b = false := h
    simp [h']
  · have h' : mOk (byt q.mt 2) s.c = false := h
    simp [h']
def GrPost (q : Qy) (s : Lb) (w : World) (e : Ending) (w' : World) : Prop := ∃ g, e = .returned (.tuple #[.agg (lbA3 g), .bool (grpOf q s).isSome]) ∧ (∀ x, grpOf q s = some x → g = x) ∧ Below w.heap.size w w'
/-- The boxes of a call. -/
structure GrS (w w' : World) (q : Qy) (s g : Lb) : Prop where
  bq : w'.heap[w.heap.size]? = some (.cells (qyC q) 45 (0, 0))
  bs : w'.heap[w.heap.size + 1]? = some (.cells (lbA3 s) 42 (0, 0))
  br : w'.heap[w.heap.size + 1 + 1]? = some (.cells (lbA3 Lb.zero) 42 (0, 0))
  bg : w'.heap[w.heap.size + 3]? = some (.cells (lbA3 g) 42 (0, 0))
  bel : Below w.heap.size w w'

set_option maxHeartbeats 2000000 in
set_option maxRecDepth 100000 in
theorem group_ref (q : Qy) (s : Lb) (w : World) (hm : q.mt.size = 3) (hg : q.gb.size = 3) (hov : OvAt w) :
    Calls Tryz.prog 82 #[.agg (qyC q), .agg (lbA3 s)] w (GrPost q s w) := by
  have hpos := hov.pos
  obtain ⟨o0, o1, o2⟩ := hov
  have heq := fun w => eq26 9998 s.a s.b s.c 42 42 42 w
  rw [show (s.a == 42 && s.b == 42 && s.c == 42) = decide (s = over) from lb_beq over s] at heq
  have h0a : (0 : Nat) ≠ w.heap.size := by omega
  have h0b : (0 : Nat) ≠ w.heap.size + 1 := by omega
  have h0c : (0 : Nat) ≠ w.heap.size + 1 + 1 := by omega
  go_enter Tryz.func82, Tryz.ntmps82
  go_upto_region 1 with fail
  have hz0 : (((w.alloc (Obj.cells (qyC q) 45)).alloc (Obj.cells (lbA3 s) 42)).alloc (Obj.cells (lbA3 Lb.zero) 42)).heap.size = w.heap.size + 1 + 1 + 1 := by simp
  have hB0 : Below w.heap.size w (((w.alloc (Obj.cells (qyC q) 45)).alloc (Obj.cells (lbA3 s) 42)).alloc (Obj.cells (lbA3 Lb.zero) 42)) := (((Below.refl _ _).alloc (Nat.le_refl _) _).alloc (by simp) _).alloc (by simp; omega) _
  have hq0 : (((w.alloc (Obj.cells (qyC q) 45)).alloc (Obj.cells (lbA3 s) 42)).alloc (Obj.cells (lbA3 Lb.zero) 42)).heap[w.heap.size]? = some (.cells (qyC q) 45 (0, 0)) := by
    rw [Below.heap_alloc _ _ _ (by simp; omega), Below.heap_alloc _ _ _ (by simp)]
    exact heap_alloc_new _ _
  have hs0 : (((w.alloc (Obj.cells (qyC q) 45)).alloc (Obj.cells (lbA3 s) 42)).alloc (Obj.cells (lbA3 Lb.zero) 42)).heap[w.heap.size + 1]? = some (.cells (lbA3 s) 42 (0, 0)) := by
    rw [Below.heap_alloc _ _ _ (by simp)]
    have h9 := heap_alloc_new (w.alloc (Obj.cells (qyC q) 45)) (Obj.cells (lbA3 s) 42)
    simpa only [World.size_alloc] using h9
  have hr0 : (((w.alloc (Obj.cells (qyC q) 45)).alloc (Obj.cells (lbA3 s) 42)).alloc (Obj.cells (lbA3 Lb.zero) 42)).heap[w.heap.size + 1 + 1]? = some (.cells (lbA3 Lb.zero) 42 (0, 0)) := by
    have h9 := heap_alloc_new ((w.alloc (Obj.cells (qyC q) 45)).alloc (Obj.cells (lbA3 s) 42)) (Obj.cells (lbA3 Lb.zero) 42)
    simpa only [World.size_alloc] using h9
  rw [show (Obj.cells #[Value.int IntKind.u8 0, Value.int IntKind.u8 0, Value.int IntKind.u8 0] 42) = Obj.cells (lbA3 Lb.zero) 42 from rfl]
  generalize ((w.alloc (Obj.cells (qyC q) 45)).alloc (Obj.cells (lbA3 s) 42)).alloc (Obj.cells (lbA3 Lb.zero) 42) = w0 at *
  have HB0 : Hid (Below w.heap.size w w0) := hB0
  have HQ0 : Hid (w0.heap[w.heap.size]? = some (.cells (qyC q) 45 (0, 0))) := hq0
  have HS0 : Hid (w0.heap[w.heap.size + 1]? = some (.cells (lbA3 s) 42 (0, 0))) := hs0
  have HR0 : Hid (w0.heap[w.heap.size + 1 + 1]? = some (.cells (lbA3 Lb.zero) 42 (0, 0))) := hr0
  have g0 : w0.cell? ⟨0, 0, none⟩ = some (.int .u8 42) := (hB0.cell (p := ⟨0, 0, none⟩) hpos).trans o0
  have g1 : w0.cell? ⟨0, 1, none⟩ = some (.int .u8 42) := (hB0.cell (p := ⟨0, 1, none⟩) hpos).trans o1
  have g2 : w0.cell? ⟨0, 2, none⟩ = some (.int .u8 42) := (hB0.cell (p := ⟨0, 2, none⟩) hpos).trans o2
  have s0 : w0.cell? ⟨w.heap.size + 1, 0, none⟩ = some (.int .u8 s.a) := cell_blk hs0 rfl
  have s1 : w0.cell? ⟨w.heap.size + 1, 1, none⟩ = some (.int .u8 s.b) := cell_blk hs0 rfl
  have s2 : w0.cell? ⟨w.heap.size + 1, 2, none⟩ = some (.int .u8 s.c) := cell_blk hs0 rfl
  have r0 : w0.cell? ⟨w.heap.size + 1 + 1, 0, none⟩ = some (.int .u8 0) := cell_blk hr0 rfl
  have r1 : w0.cell? ⟨w.heap.size + 1 + 1, 1, none⟩ = some (.int .u8 0) := cell_blk hr0 rfl
  have r2 : w0.cell? ⟨w.heap.size + 1 + 1, 2, none⟩ = some (.int .u8 0) := cell_blk hr0 rfl
  have f0 : w0.frozen? ⟨w.heap.size + 1 + 1, 0, none⟩ = false := froz_blk hr0
  have f1 : w0.frozen? ⟨w.heap.size + 1 + 1, 1, none⟩ = false := froz_blk hr0
  have f2 : w0.frozen? ⟨w.heap.size + 1 + 1, 2, none⟩ = false := froz_blk hr0
  have HZ0 : Hid (w0.heap.size = w.heap.size + 1 + 1 + 1) := hz0
  clear hB0 hq0 hs0 hr0 o0 o1 o2 hz0
  obtain ⟨bd, hbd⟩ : ∃ bd, bd = decide (s = over) := ⟨_, rfl⟩
  rw [← hbd] at heq
  have HBD : Hid (bd = decide (s = over)) := hbd
  clear hbd
  cases bd
  case true =>
    have HG : Hid (grpOf q s = some over) := by
      have hov : s = over := by simpa using HBD.out.symm
      exact if_pos hov
    go_wp2_with fail
    refine bodyPost_ret (v := .tuple #[.agg (lbA3 over), .bool true]) (by simp [results, Tryz.results82, go_sem, r0, r1, r2, over]) rfl ?_
    refine ⟨over, by rw [HG.out]; rfl, fun x hx => ?_, ?_⟩
    · rw [HG.out] at hx; exact Option.some.inj hx
    · exact ((HB0.out.setCell (show w.heap.size ≤ w.heap.size + 1 + 1 by omega) _).setCell (show w.heap.size ≤ w.heap.size + 1 + 1 by omega) _).setCell (show w.heap.size ≤ w.heap.size + 1 + 1 by omega) _
  case false =>
    have HNO : Hid (¬ s = over) := by show ¬ _; simpa using HBD.out.symm
    have hz1 : w0.heap.size = w.heap.size + 3 := HZ0.out
    go_upto_region 4 with fail
    have HG0 : Hid (GrS w (w0.alloc (.cells #[.int .u8 46, .int .u8 46, .int .u8 46] 42)) q s (grK q s 0)) :=
      { bq := by rw [Below.heap_alloc _ _ _ (by omega)]; exact HQ0.out, bs := by rw [Below.heap_alloc _ _ _ (by omega)]; exact HS0.out, br := by rw [Below.heap_alloc _ _ _ (by omega)]; exact HR0.out,
        bg := by rw [← hz1]; exact heap_alloc_new _ _, bel := HB0.out.alloc (by omega) _ }
    generalize w0.alloc (.cells #[.int .u8 46, .int .u8 46, .int .u8 46] 42) = w1 at *
    clear g0 g1 g2 s0 s1 s2 r0 r1 r2 f0 f1 f2 heq h0a h0b h0c
    clear hz1
    go_wp2_with fail
    go_loopw [7] (fun i wr => ∃ k : Nat, i = .int .i64 k ∧ k ≤ 3 ∧ (∀ j, j < k → mOk (byt q.mt j) (triL s j) = true) ∧ GrS w wr q s (grK q s k)) (fun i _ => 3 - (intOf i).toNat)
    case atStart => exact ⟨0, rfl, Nat.zero_le _, fun j hj => by omega, HG0.out⟩
    case round =>
      obtain ⟨k, rfl, hk, hall, hgs⟩ := hrel
      have HA : Hid (∀ j, j < k → mOk (byt q.mt j) (triL s j) = true) := hall
      have HS : Hid (GrS w wr q s (grK q s k)) := hgs
      have x3 : wr.cell? ⟨w.heap.size, 3, none⟩ = some (.string q.mt) := cell_blk hgs.bq rfl
      have x4 : wr.cell? ⟨w.heap.size, 4, none⟩ = some (.string q.gb) := cell_blk hgs.bq rfl
      have r0 : wr.cell? ⟨w.heap.size + 1 + 1, 0, none⟩ = some (.int .u8 0) := cell_blk hgs.br rfl
      have r1 : wr.cell? ⟨w.heap.size + 1 + 1, 1, none⟩ = some (.int .u8 0) := cell_blk hgs.br rfl
      have r2 : wr.cell? ⟨w.heap.size + 1 + 1, 2, none⟩ = some (.int .u8 0) := cell_blk hgs.br rfl
      have f0 : wr.frozen? ⟨w.heap.size + 1 + 1, 0, none⟩ = false := froz_blk hgs.br
      have f1 : wr.frozen? ⟨w.heap.size + 1 + 1, 1, none⟩ = false := froz_blk hgs.br
      have f2 : wr.frozen? ⟨w.heap.size + 1 + 1, 2, none⟩ = false := froz_blk hgs.br
      have g0 : wr.cell? ⟨w.heap.size + 3, 0, none⟩ = some (.int .u8 (grK q s k).a) := cell_blk hgs.bg rfl
      have g1 : wr.cell? ⟨w.heap.size + 3, 1, none⟩ = some (.int .u8 (grK q s k).b) := cell_blk hgs.bg rfl
      have g2 : wr.cell? ⟨w.heap.size + 3, 2, none⟩ = some (.int .u8 (grK q s k).c) := cell_blk hgs.bg rfl
      have HBS : Hid (∀ d, Below w.heap.size w (((wr.drewN d).setCell ⟨w.heap.size + 1 + 1, 0, none⟩ (.int .u8 (grK q s k).a)).setCell ⟨w.heap.size + 1 + 1, 1, none⟩ (.int .u8 (grK q s k).b) |>.setCell ⟨w.heap.size + 1 + 1, 2, none⟩ (.int .u8 (grK q s k).c))) := fun d =>
        (((below_drewN hgs.bel d).setCell (show w.heap.size ≤ w.heap.size + 1 + 1 by omega) _).setCell (show w.heap.size ≤ w.heap.size + 1 + 1 by omega) _).setCell (show w.heap.size ≤ w.heap.size + 1 + 1 by omega) _
      clear hall
      by_cases hlt : k < 3
      · have y0 : wr.cell? ⟨w.heap.size + 1, k, none⟩ = some (.int .u8 (triL s k)) := cell_blk hgs.bs (lbA3_get s k hlt)
        have gk : ∃ v, wr.cell? ⟨w.heap.size + 3, k, none⟩ = some v := ⟨_, cell_blk hgs.bg (lbA3_get _ k hlt)⟩
        obtain ⟨gv, gk⟩ := gk
        have fk : wr.frozen? ⟨w.heap.size + 3, k, none⟩ = false := froz_blk hgs.bg
        have HBm : Hid (((q.mt[k].toNat : Nat) : Int) = byt q.mt k) := byt_eq q.mt k (by omega)
        have HBg : Hid (((q.gb[k].toNat : Nat) : Int) = byt q.gb k) := byt_eq q.gb k (by omega)
        have hk1 : k < q.mt.size := by omega
        have hk2 : k < q.gb.size := by omega
        have HMO : Hid (mOk (byt q.mt k) (triL s k) = (((q.mt[k].toNat : Nat) : Int) == 46 || ((q.mt[k].toNat : Nat) : Int) == triL s k)) := by show _ = _; rw [HBm.out]; rfl
        have HBY : Hid (byt q.gb k = ((q.gb[k].toNat : Nat) : Int)) := HBg.out.symm
        have HNX : Hid (mOk (byt q.mt k) (triL s k) = true → ∀ j, j < k + 1 → mOk (byt q.mt j) (triL s j) = true) := fun u j hj => by
          by_cases e : j = k
          · subst e; exact u
          · exact HA.out j (by omega)
        have HNG : Hid (mOk (byt q.mt k) (triL s k) = false → grpOf q s = none) := fun u => grp_no HNO.out hlt u
        clear hgs
        generalize mOk (byt q.mt k) (triL s k) = MO at *
        have hM : (MO = true ∧ ((((q.mt[k].toNat : Nat) : Int) != 46) = false ∨ ((((q.mt[k].toNat : Nat) : Int) != 46) = true ∧ (((q.mt[k].toNat : Nat) : Int) != triL s k) = false))) ∨ (MO = false ∧ (((q.mt[k].toNat : Nat) : Int) != 46) = true ∧ (((q.mt[k].toNat : Nat) : Int) != triL s k) = true) := by
          rw [HMO.out]
          unfold bne
          cases (((q.mt[k].toNat : Nat) : Int) == 46) <;> cases (((q.mt[k].toNat : Nat) : Int) == triL s k) <;> simp
        clear HMO
        rcases hM with ⟨hMO, h | ⟨h, h'⟩⟩ | ⟨hMO, h, h'⟩
        rotate_left 2
        · have HN := HNG.out hMO
          have HG : Hid (grpOf q s = none) := HN
          clear HN hMO
          go_wp2_with fail
          go_quiet (fail)
          go_wp2_with fail
          refine bodyPost_ret (v := .tuple #[.agg (lbA3 (grK q s k)), .bool false]) (by simp [results, Tryz.results82, go_sem, r0, r1, r2]) rfl ?_
          exact ⟨grK q s k, by rw [HG.out]; rfl, (fun x hx => by rw [HG.out] at hx; cases hx), HBS.out _⟩
        all_goals
          have HNN : Hid (∀ j, j < k + 1 → mOk (byt q.mt j) (triL s j) = true) := HNX.out hMO
          clear hMO
          by_cases hby : byt q.gb k = 49
          · have hbb : (((q.gb[k].toNat : Nat) : Int) == 49) = true := by rw [← HBY.out, hby]; rfl
            have HST : Hid (∀ d, GrS w ((wr.drewN d).setCell ⟨w.heap.size + 3, k, none⟩ (.int .u8 (triL s k))) q s (grK q s (k + 1))) := fun d =>
              { bq := by rw [Below.heap_setCell _ _ _ _ (show w.heap.size ≠ w.heap.size + 3 by omega)]; exact HS.out.bq, bs := by rw [Below.heap_setCell _ _ _ _ (show w.heap.size + 1 ≠ w.heap.size + 3 by omega)]; exact HS.out.bs, br := by rw [Below.heap_setCell _ _ _ _ (show w.heap.size + 1 + 1 ≠ w.heap.size + 3 by omega)]; exact HS.out.br,
                bg := by rw [← grK_set q s k hlt hby]; exact heap_setCell HS.out.bg, bel := (below_drewN HS.out.bel d).setCell (show w.heap.size ≤ w.heap.size + 3 by omega) _ }
            clear hby
            go_wp2_with fail
            go_quiet (fail)
            go_wp2_with fail
            exact ⟨⟨k + 1, by go_num, by omega, HNN.out, HST.out _⟩, by simp [intOf]; omega⟩
          · have hbb : (((q.gb[k].toNat : Nat) : Int) == 49) = false := by rw [← HBY.out]; simpa using hby
            have HST : Hid (∀ d, GrS w (wr.drewN d) q s (grK q s (k + 1))) := fun d => by
              rw [← grK_same q s k hlt hby]
              exact { bq := HS.out.bq, bs := HS.out.bs, br := HS.out.br, bg := HS.out.bg, bel := below_drewN HS.out.bel d }
            clear hby
            go_wp2_with fail
            go_quiet (fail)
            go_wp2_with fail
            exact ⟨⟨k + 1, by go_num, by omega, HNN.out, HST.out _⟩, by simp [intOf]; omega⟩
      · have hkE : k = 3 := by omega
        have HG : Hid (grpOf q s = some (grK q s k)) := by rw [hkE]; exact grp_all HNO.out (fun j hj => HA.out j (by omega))
        clear hgs
        generalize grK q s k = gg at *
        go_wp2_with fail
        refine bodyPost_ret (v := .tuple #[.agg (lbA3 gg), .bool true]) (by simp [results, Tryz.results82, go_sem, r0, r1, r2]) rfl ?_
        exact ⟨gg, by rw [HG.out]; rfl, (fun x hx => by rw [HG.out] at hx; exact Option.some.inj hx), HBS.out 0⟩

end Go.Proofs.YthciddpljcbhiaaGreatDoor

/- Walks: one value more among the rows (garnerref: added). -/
namespace Go.Proofs.YthciddpljcbhiaaGreatDoor
open Go Go.RowKit Go.Lib

theorem key_beq (y : Rw) (k : Key) : (decide (y.key = k)) = ((y.key.st == k.st) && (y.key.g0 == k.g0 && y.key.g1 == k.g1 && y.key.g2 == k.g2)) := by
  rw [Bool.eq_iff_iff, decide_eq_true_eq]
  simp only [Bool.and_eq_true, beq_iff_eq]
  constructor
  · intro e; rw [e]; exact ⟨rfl, ⟨rfl, rfl⟩, rfl⟩
  · rintro ⟨h0, ⟨h1, h2⟩, h3⟩; exact Key.ext' h0 h1 h2 h3
theorem fr_set1 {w w' : World} {yb o : Nat} {u : Value} (h : Fr (fun k => k = yb) w w') : Fr (fun k => k = yb) w (w'.setCell ⟨yb, o, none⟩ u) := h.setCell (.inl rfl) u
/-- The rows so far, the row at hand in its box. -/
structure AdS (w1 w' : World) (yb : Nat) (y : Rw) (ov : Value) (out : List Rw) : Prop where
  bel : Below w1.heap.size w1 w'
  own : w'.ownsRow w1.heap.size 78 8 ov out.length (flatR out)
  by' : w'.heap[yb]? = some (.cells (rwA y) 78 (0, 0))
  yl : w1.heap.size ≤ yb
  ne : ov.ownBlock ≠ some yb
theorem AdS.lt {w1 w' : World} {yb : Nat} {y : Rw} {ov : Value} {out : List Rw} (h : AdS w1 w' yb y ov out) : yb < w'.heap.size := (Array.getElem?_eq_some_iff.1 h.by').1
theorem AdS.below {w1 w' w2 : World} {yb : Nat} {y : Rw} {ov : Value} {out : List Rw} (h : AdS w1 w' yb y ov out) (hb : Below w'.heap.size w' w2) : AdS w1 w2 yb y ov out where
  bel := h.bel.trans (hb.mono h.bel.size)
  own := owns_fr h.own (Fr.of_below (S := fun _ => False) hb) (fun _ _ e => e)
  by' := by rw [hb.block yb h.lt]; exact h.by'
  yl := h.yl
  ne := h.ne
theorem AdS.app {w1 w' W w3 : World} {yb : Nat} {y x : Rw} {ov ov' : Value} {out : List Rw} (h : AdS w1 w' yb y ov out) (hb : Below w'.heap.size w' W) (hg : W.grownBy w3 ov.ownBlock) (ho : w3.ownsRow w1.heap.size 78 8 ov' (out.length + 1) (flatR out ++ x.cells))
    (hk : ov'.ownBlock = ov.ownBlock ∨ ∀ k, ov'.ownBlock = some k → W.heap.size ≤ k) : AdS w1 w3 yb y ov' (out ++ [x]) where
  bel := (h.bel.trans (hb.mono h.bel.size)).grown hg (by have := h.bel.size; have := hb.size; omega) (fun k e => (h.own.lt k e).1)
  own := by
    rw [List.length_append, show flatR (out ++ [x]) = flatR out ++ x.cells from flat_snoc _ _ _]
    exact ho
  by' := by rw [hg.block yb (by have := h.lt; have := hb.size; omega) (fun e => h.ne e.symm), hb.block yb h.lt]; exact h.by'
  yl := h.yl
  ne := fun e => by
    rcases hk with hk | hk
    · rw [hk] at e; exact h.ne e
    · have h1 := hk yb e; have h2 := h.lt; have h3 := hb.size; omega
theorem AdS.set {w1 w' : World} {yb : Nat} {y y' : Rw} {ov : Value} {out : List Rw} (h : AdS w1 w' yb y ov out) {w2 : World} (hf : Fr (fun k => k = yb) w' w2) (hy : w2.heap[yb]? = some (.cells (rwA y') 78 (0, 0))) : AdS w1 w2 yb y' ov out where
  bel := h.bel.trans (hf.below h.bel.size (fun k e => by have e' : k = yb := e; have := h.yl; omega))
  own := owns_fr h.own hf (fun k e e' => by have e2 : k = yb := e'; rw [e2] at e; exact h.ne e)
  by' := hy
  yl := h.yl
  ne := h.ne

set_option maxHeartbeats 4000000 in
set_option maxRecDepth 100000 in
theorem added_ref (a : Option Addr) (n cap : Nat) (l : List Rw) (st v : Int) (g : Lb) (w : World) (hn : l.length = n) (hn5 : n ≤ 500) (hat : 0 < n → ∃ b, a = some ⟨b, 0, none⟩ ∧ At w b 0 (flatR l)) (hup : l.Pairwise fun a b => a.key.lt b.key) (hbd : ∀ i, i < n → Bd 500 (rwG l i).ag) (hv : v32 v) :
    Calls Tryz.prog 83 #[.slice a n cap, .int .i64 st, .agg (lbA3 g), .int .i32 v] w fun e w' => ∃ ov, e = .returned ov ∧ w'.ownsRow w.heap.size 78 8 ov (addR l ⟨st, g.a, g.b, g.c⟩ v).length (flatR (addR l ⟨st, g.a, g.b, g.c⟩ v)) ∧ Below w.heap.size w w' := by
  obtain ⟨v0, v1⟩ := hv
  have HAT : Hid (0 < n → ∃ b, a = some ⟨b, 0, none⟩ ∧ At w b 0 (flatR l)) := hat
  have HN : Hid (l.length = n) := hn
  have HUP : Hid (l.Pairwise fun a b => a.key.lt b.key) := hup
  have HBD : Hid (∀ i, i < n → Bd 500 (rwG l i).ag) := hbd
  obtain ⟨i0, hi, hz0, hz1, hz2⟩ := infP Tryz.info78'
  clear hat hup hbd hn
  go_enter Tryz.func83, Tryz.ntmps83
  go_upto_region 2 with fail
  have hB0 : Below w.heap.size w ((w.alloc (.cells (lbA3 g) 42)).alloc (.cells (rwA ⟨⟨st, g.a, g.b, g.c⟩, .one v⟩) 78)) := ((Below.refl _ _).alloc (Nat.le_refl _) _).alloc (by simp) _
  have hg0 : ((w.alloc (.cells (lbA3 g) 42)).alloc (.cells (rwA ⟨⟨st, g.a, g.b, g.c⟩, .one v⟩) 78)).heap[w.heap.size]? = some (.cells (lbA3 g) 42 (0, 0)) := by
    rw [Below.heap_alloc _ _ _ (by simp)]
    exact heap_alloc_new _ _
  have hx0 : ((w.alloc (.cells (lbA3 g) 42)).alloc (.cells (rwA ⟨⟨st, g.a, g.b, g.c⟩, .one v⟩) 78)).heap[w.heap.size + 1]? = some (.cells (rwA ⟨⟨st, g.a, g.b, g.c⟩, .one v⟩) 78 (0, 0)) := by
    have h9 := heap_alloc_new (w.alloc (.cells (lbA3 g) 42)) (.cells (rwA ⟨⟨st, g.a, g.b, g.c⟩, .one v⟩) 78)
    simpa only [World.size_alloc] using h9
  rw [show (Obj.cells #[Value.int IntKind.i64 st, Value.int IntKind.u8 g.a, Value.int IntKind.u8 g.b, Value.int IntKind.u8 g.c, Value.int IntKind.i64 1, Value.int IntKind.i64 v, Value.int IntKind.i32 v, Value.int IntKind.i32 v] 78) = Obj.cells (rwA ⟨⟨st, g.a, g.b, g.c⟩, .one v⟩) 78 from rfl]
  generalize (w.alloc (.cells (lbA3 g) 42)).alloc (.cells (rwA ⟨⟨st, g.a, g.b, g.c⟩, .one v⟩) 78) = w1 at *
  have HB0 : Hid (Below w.heap.size w w1) := hB0
  have hl0 : w.heap.size + 1 < w1.heap.size := (Array.getElem?_eq_some_iff.1 hx0).1
  have HFX : Hid (∀ W, Below w1.heap.size w1 W → (W.cell? ⟨w.heap.size, 0, none⟩ = some (.int .u8 g.a) ∧ W.cell? ⟨w.heap.size, 1, none⟩ = some (.int .u8 g.b) ∧ W.cell? ⟨w.heap.size, 2, none⟩ = some (.int .u8 g.c)) ∧ W.cell? ⟨w.heap.size + 1, 0, none⟩ = some (.int .i64 st) ∧ W.cell? ⟨w.heap.size + 1, 1, none⟩ = some (.int .u8 g.a) ∧ W.cell? ⟨w.heap.size + 1, 2, none⟩ = some (.int .u8 g.b) ∧ W.cell? ⟨w.heap.size + 1, 3, none⟩ = some (.int .u8 g.c) ∧ W.cell? ⟨w.heap.size + 1, 4, none⟩ = some (.int .i64 1) ∧ W.cell? ⟨w.heap.size + 1, 5, none⟩ = some (.int .i64 v) ∧ W.cell? ⟨w.heap.size + 1, 6, none⟩ = some (.int .i32 v) ∧ W.cell? ⟨w.heap.size + 1, 7, none⟩ = some (.int .i32 v)) := fun W hW => by
    have e1 : W.heap[w.heap.size]? = some (.cells (lbA3 g) 42 (0, 0)) := by rw [hW.block _ (by omega)]; exact hg0
    have e2 : W.heap[w.heap.size + 1]? = some (.cells (rwA ⟨⟨st, g.a, g.b, g.c⟩, .one v⟩) 78 (0, 0)) := by rw [hW.block _ hl0]; exact hx0
    exact ⟨⟨cell_blk e1 rfl, cell_blk e1 rfl, cell_blk e1 rfl⟩, cell_blk e2 rfl, cell_blk e2 rfl, cell_blk e2 rfl, cell_blk e2 rfl, cell_blk e2 rfl, cell_blk e2 rfl, cell_blk e2 rfl, cell_blk e2 rfl⟩
  have HAT1 : Hid (∀ W, Below w1.heap.size w1 W → 0 < n → ∃ b, a = some ⟨b, 0, none⟩ ∧ At W b 0 (flatR l)) := fun W hW h0 => by
    obtain ⟨b, e, hat⟩ := HAT.out h0
    refine ⟨b, e, fun j u hj => ?_⟩
    have h9 := hat j u hj
    have hbl : b < w.heap.size := World.block_lt_of_cell? w _ h9
    exact ((hB0.trans (hW.mono hB0.size)).cell (p := ⟨b, 0 + j, none⟩) hbl).trans h9
  clear hB0 hg0 hx0 HAT
  go_wp2_with fail
  go_loopw [10, 11, 12] (fun ov inv i wr => ∃ (k : Nat) (inb : Bool) (out : List Rw), i = .int .i64 k ∧ k ≤ n ∧ inv = .bool inb ∧ wr.ownsRow w1.heap.size 78 8 ov out.length (flatR out) ∧ addR l ⟨st, g.a, g.b, g.c⟩ v = out ++ rest inb (l.drop k) ⟨st, g.a, g.b, g.c⟩ v ∧ (inb = true → ∀ r ∈ l.drop k, Key.lt ⟨st, g.a, g.b, g.c⟩ r.key) ∧ out.length ≤ k + 1 ∧ (inb = false → out.length ≤ k) ∧ Below w1.heap.size w1 wr) (fun _ _ i _ => n - (intOf i).toNat)
  case atStart => exact ⟨0, false, [], rfl, Nat.zero_le _, rfl, World.ownsRow_nil _ _ _ _, by simp [rest], (fun e => by cases e), by simp, by simp, Below.refl _ _⟩
  case round =>
    obtain ⟨k, inb, out, rfl, hk, rfl, hown, hinv, hin, hol, hol2, hbe⟩ := hrel
    rename World => V
    have HOW : Hid (V.ownsRow w1.heap.size 78 8 u10 out.length (flatR out)) := hown
    have HINV : Hid (addR l ⟨st, g.a, g.b, g.c⟩ v = out ++ rest inb (l.drop k) ⟨st, g.a, g.b, g.c⟩ v) := hinv
    have HIN : Hid (inb = true → ∀ r ∈ l.drop k, Key.lt ⟨st, g.a, g.b, g.c⟩ r.key) := hin
    have HBE : Hid (Below w1.heap.size w1 V) := hbe
    obtain ⟨ua, ucap, eu⟩ := ownForm hown
    subst eu
    have HOL2 : Hid (inb = false → out.length ≤ k) := hol2
    clear hown hinv hin hbe hol2
    by_cases hlt : k < n
    · obtain ⟨b, rfl, hat⟩ := HAT1.out V HBE.out (by omega)
      have hgt : ∀ j u, (Rw.cells (rwG l k))[j]? = some u → V.cell? ⟨b, k * 8 + j, none⟩ = some u := fun j u hu => by
        have hkl : k < l.length := by rw [HN.out]; exact hlt
        rw [rwG_get l k hkl] at hu
        have h9 := at_elem Rw.cells 8 len8 hat k hkl j u hu
        simpa using h9
      have c0 : V.cell? ⟨b, k * 8, none⟩ = some (.int .i64 (rwG l k).key.st) := hgt 0 _ rfl
      have c1 := hgt 1 _ rfl
      have c2 := hgt 2 _ rfl
      have c3 := hgt 3 _ rfl
      have c4 := hgt 4 _ rfl
      have c5 := hgt 5 _ rfl
      have c6 := hgt 6 _ rfl
      have c7 := hgt 7 _ rfl
      have hbd := HBD.out k hlt
      have hzV := HBE.out.size
      have HAD0 : Hid (AdS w1 (V.alloc (.cells (rwA (rwG l k)) 78)) V.heap.size (rwG l k) (.slice ua out.length ucap) out) :=
        { bel := HBE.out.alloc hzV _, own := HOW.out.alloc _, by' := heap_alloc_new _ _, yl := hzV, ne := fun e => by have := (HOW.out.lt _ e).2; omega }
      have HSTEP : Hid (∀ dk r : Bool, (dk = true ↔ (rwG l k).key = ⟨st, g.a, g.b, g.c⟩) → (r = true ↔ Key.lt ⟨st, g.a, g.b, g.c⟩ (rwG l k).key) → addR l ⟨st, g.a, g.b, g.c⟩ v = (out ++ apX (!(inb || dk) && r) ⟨st, g.a, g.b, g.c⟩ v ++ [joY dk (rwG l k) v]) ++ rest ((inb || dk) || (!(inb || dk) && r)) (l.drop (k + 1)) ⟨st, g.a, g.b, g.c⟩ v ∧ (((inb || dk) || (!(inb || dk) && r)) = true → ∀ x ∈ l.drop (k + 1), Key.lt ⟨st, g.a, g.b, g.c⟩ x.key)) := fun dk r h1 h2 => ad_step HUP.out (by rw [HN.out]; exact hlt) HINV.out HIN.out h1 h2
      clear hat hgt
      generalize rwG l k = y at *
      go_upto_region 8 with fail
      rw [show (Obj.cells #[Value.int IntKind.i64 y.key.st, Value.int IntKind.u8 y.key.g0, Value.int IntKind.u8 y.key.g1, Value.int IntKind.u8 y.key.g2, Value.int IntKind.i64 y.ag.cnt, Value.int IntKind.i64 y.ag.sum, Value.int IntKind.i32 y.ag.mn, Value.int IntKind.i32 y.ag.mx] 78) = Obj.cells (rwA y) 78 from rfl]
      generalize V.alloc (.cells (rwA y) 78) = w2 at *
      generalize V.heap.size = yb at *
      clear c0 c1 c2 c3 c4 c5 c6 c7
      have z0 : w2.cell? ⟨yb, 0, none⟩ = some (.int .i64 y.key.st) := cell_blk HAD0.out.by' rfl
      have z1 : w2.cell? ⟨yb, 1, none⟩ = some (.int .u8 y.key.g0) := cell_blk HAD0.out.by' rfl
      have z2 : w2.cell? ⟨yb, 2, none⟩ = some (.int .u8 y.key.g1) := cell_blk HAD0.out.by' rfl
      have z3 : w2.cell? ⟨yb, 3, none⟩ = some (.int .u8 y.key.g2) := cell_blk HAD0.out.by' rfl
      obtain ⟨⟨g0, g1, g2⟩, x0, x1, x2, x3, x4, x5, x6, x7⟩ := HFX.out w2 HAD0.out.bel
      have HKB : Hid (decide (y.key = ⟨st, g.a, g.b, g.c⟩) = ((y.key.st == st) && (y.key.g0 == g.a && y.key.g1 == g.b && y.key.g2 == g.c))) := key_beq y _
      go_cut [41] from 22 to 79 (fun vv wz => vv = .bool (decide (y.key = ⟨st, g.a, g.b, g.c⟩)) ∧ wz = w2)
      case first =>
        have heq := fun w => eq26 9998 y.key.g0 y.key.g1 y.key.g2 g.a g.b g.c w
        cases e1 : (y.key.st == st) <;> cases e2 : (y.key.g0 == g.a && y.key.g1 == g.b && y.key.g2 == g.c)
        all_goals
          rw [e2] at heq
          rw [e1, e2] at HKB
          go_wp2_with fail
          go_meet
          case rel => exact ⟨by rw [HKB.out]; rfl, rfl⟩
      case rest =>
        obtain ⟨rfl, hwc⟩ := hcut
        obtain rfl := hwc.symm
        obtain ⟨dk, hdk⟩ : ∃ dk, dk = decide (y.key = ⟨st, g.a, g.b, g.c⟩) := ⟨_, rfl⟩
        rw [← hdk]
        have HDK : Hid (dk = true ↔ y.key = ⟨st, g.a, g.b, g.c⟩) := by rw [hdk, decide_eq_true_eq]; exact Iff.rfl
        clear hdk HKB
        have z4 : w2.cell? ⟨yb, 4, none⟩ = some (.int .i64 y.ag.cnt) := cell_blk HAD0.out.by' rfl
        have z5 : w2.cell? ⟨yb, 5, none⟩ = some (.int .i64 y.ag.sum) := cell_blk HAD0.out.by' rfl
        have z6 : w2.cell? ⟨yb, 6, none⟩ = some (.int .i32 y.ag.mn) := cell_blk HAD0.out.by' rfl
        have z7 : w2.cell? ⟨yb, 7, none⟩ = some (.int .i32 y.ag.mx) := cell_blk HAD0.out.by' rfl
        have f4 : w2.frozen? ⟨yb, 4, none⟩ = false := froz_blk HAD0.out.by'
        have f5 : w2.frozen? ⟨yb, 5, none⟩ = false := froz_blk HAD0.out.by'
        have f6 : w2.frozen? ⟨yb, 6, none⟩ = false := froz_blk HAD0.out.by'
        have f7 : w2.frozen? ⟨yb, 7, none⟩ = false := froz_blk HAD0.out.by'
        go_upto_if 41 with fail
        go_cut [11] from 22 to 79 (fun vv wz => vv = .bool (inb || dk) ∧ AdS w1 wz yb (joY dk y v) (.slice ua out.length ucap) out)
        case first =>
          cases dk
          · go_wp2_with fail
            go_meet
            case rel => exact ⟨by rw [Bool.or_false], HAD0.out⟩
          · obtain ⟨b1, b2, b3, b4, b5, b6, b7, b8⟩ := hbd
            have HIO : Hid ((inb || true) = true) := Bool.or_true _
            have HJY : Hid (rwA (joY true y v) = #[.int .i64 y.key.st, .int .u8 y.key.g0, .int .u8 y.key.g1, .int .u8 y.key.g2, .int .i64 (y.ag.cnt + 1), .int .i64 (y.ag.sum + v), .int .i32 (min y.ag.mn v), .int .i32 (max y.ag.mx v)]) := rfl
            have s0 : -9223372036854775808 ≤ y.ag.sum + v := by omega
            have s1 : y.ag.sum + v ≤ 9223372036854775807 := by omega
            have HYB : Hid (w2.heap[yb]? = some (.cells (rwA y) 78 (0, 0))) := HAD0.out.by'
            by_cases hmn : v < y.ag.mn <;> by_cases hmx : y.ag.mx < v
            all_goals
              have HMN : Hid (min y.ag.mn v = if v < y.ag.mn then v else y.ag.mn) := by show _ = _; split <;> omega
              have HMX : Hid (max y.ag.mx v = if y.ag.mx < v then v else y.ag.mx) := by show _ = _; split <;> omega
              go_wp2_with fail
              go_meet
              case rel =>
                refine ⟨by rw [HIO.out], HAD0.out.set ?_ ?_⟩
                · repeat (first | exact Fr.refl _ _ | refine fr_set1 ?_)
                · rw [HJY.out, HMN.out, HMX.out]
                  first
                    | (rw [if_pos (by omega), if_pos (by omega)]; exact heap_setCell (heap_setCell (heap_setCell (heap_setCell HYB.out))))
                    | (rw [if_pos (by omega), if_neg (by omega)]; exact heap_setCell (heap_setCell (heap_setCell HYB.out)))
                    | (rw [if_neg (by omega), if_pos (by omega)]; exact heap_setCell (heap_setCell (heap_setCell HYB.out)))
                    | (rw [if_neg (by omega), if_neg (by omega)]; exact heap_setCell (heap_setCell HYB.out))
        case rest =>
          obtain ⟨rfl, had⟩ := hcut
          have HAD : Hid (AdS w1 wc yb (joY dk y v) (.slice ua out.length ucap) out) := had
          clear had z0 z1 z2 z3 z4 z5 z6 z7 f4 f5 f6 f7 g0 g1 g2 x0 x1 x2 x3 x4 x5 x6 x7 HAD0
          have HKY : Hid ((joY dk y v).key = y.key) := joY_key dk y v
          have HFY : Hid (∀ W, AdS w1 W yb (joY dk y v) (.slice ua out.length ucap) out → W.cell? ⟨yb, 0, none⟩ = some (.int .i64 (joY dk y v).key.st) ∧ W.cell? ⟨yb, 1, none⟩ = some (.int .u8 (joY dk y v).key.g0) ∧ W.cell? ⟨yb, 2, none⟩ = some (.int .u8 (joY dk y v).key.g1) ∧ W.cell? ⟨yb, 3, none⟩ = some (.int .u8 (joY dk y v).key.g2) ∧ W.cell? ⟨yb, 4, none⟩ = some (.int .i64 (joY dk y v).ag.cnt) ∧ W.cell? ⟨yb, 5, none⟩ = some (.int .i64 (joY dk y v).ag.sum) ∧ W.cell? ⟨yb, 6, none⟩ = some (.int .i32 (joY dk y v).ag.mn) ∧ W.cell? ⟨yb, 7, none⟩ = some (.int .i32 (joY dk y v).ag.mx)) := fun W hW => ⟨cell_blk hW.by' rfl, cell_blk hW.by' rfl, cell_blk hW.by' rfl, cell_blk hW.by' rfl, cell_blk hW.by' rfl, cell_blk hW.by' rfl, cell_blk hW.by' rfl, cell_blk hW.by' rfl⟩
          obtain ⟨z0, z1, z2, z3, z4, z5, z6, z7⟩ := HFY.out wc HAD.out
          obtain ⟨⟨g0, g1, g2⟩, x0, x1, x2, x3, x4, x5, x6, x7⟩ := HFX.out wc HAD.out.bel
          have HLS := less_ref ⟨⟨st, g.a, g.b, g.c⟩, .one v⟩ (joY dk y v) wc
          have HST2 := fun r => HSTEP.out dk r HDK.out
          have HST3 : Hid (∀ r : Bool, (r = true ↔ Key.lt ⟨st, g.a, g.b, g.c⟩ (joY dk y v).key) → addR l ⟨st, g.a, g.b, g.c⟩ v = (out ++ apX (!(inb || dk) && r) ⟨st, g.a, g.b, g.c⟩ v ++ [joY dk y v]) ++ rest ((inb || dk) || (!(inb || dk) && r)) (l.drop (k + 1)) ⟨st, g.a, g.b, g.c⟩ v ∧ (((inb || dk) || (!(inb || dk) && r)) = true → ∀ x ∈ l.drop (k + 1), Key.lt ⟨st, g.a, g.b, g.c⟩ x.key)) := by
            rw [HKY.out]
            exact HST2
          have hol3 : (inb || dk) = false → out.length ≤ k := fun e => HOL2.out (by cases inb; rfl; simp at e)
          have HOL3 : Hid ((inb || dk) = false → out.length ≤ k) := hol3
          clear HST2 hol3 HKY HSTEP HDK HINV HIN
          generalize (inb || dk) = ii at *
          generalize joY dk y v = yy at *
          go_wp2_with fail
          refine HLS.mono ?_
          clear HLS
          rintro e w3 ⟨⟨r, rfl, hr⟩, hb3⟩
          obtain ⟨he1, he2⟩ := HST3.out r hr
          have HE1 : Hid (addR l ⟨st, g.a, g.b, g.c⟩ v = (out ++ apX (!ii && r) ⟨st, g.a, g.b, g.c⟩ v ++ [yy]) ++ rest (ii || (!ii && r)) (l.drop (k + 1)) ⟨st, g.a, g.b, g.c⟩ v) := he1
          have HE2 : Hid ((ii || (!ii && r)) = true → ∀ x ∈ l.drop (k + 1), Key.lt ⟨st, g.a, g.b, g.c⟩ x.key) := he2
          have HAD3 : Hid (AdS w1 w3 yb yy (.slice ua out.length ucap) out) := HAD.out.below hb3
          clear he1 he2 hr hb3 z0 z1 z2 z3 z4 z5 z6 z7 g0 g1 g2 x0 x1 x2 x3 x4 x5 x6 x7 HST3 HAD
          go_upto_region 17 with fail
          go_cut [71] from 22 to 79 (fun vv wz => vv = .bool (!ii && r) ∧ wz = w3)
          case first =>
            cases ii <;> cases r
            all_goals
              go_wp2_with fail
              go_meet
              case rel => exact ⟨rfl, rfl⟩
          case rest =>
          obtain ⟨rfl, hwc⟩ := hcut
          obtain rfl := hwc.symm
          go_upto_if 71 with fail
          go_cut [10, 11] from 22 to 79 (fun ov iv wz => iv = .bool (ii || (!ii && r)) ∧ AdS w1 wz yb yy ov (out ++ apX (!ii && r) ⟨st, g.a, g.b, g.c⟩ v))
          case first =>
            have HB4 : Hid (Below w1.heap.size w1 w3) := HAD3.out.bel
            obtain ⟨⟨g0, g1, g2⟩, x0, x1, x2, x3, x4, x5, x6, x7⟩ := HFX.out w3 HB4.out
            cases ii
            · cases r
              · go_wp2_with fail
                go_meet
                case rel => exact ⟨rfl, by simp only [apX]; simpa using HAD3.out⟩
              · have HOW4 : Hid ((w3.alloc (.cells (Rw.cells ⟨⟨st, g.a, g.b, g.c⟩, .one v⟩).toArray 78)).ownsRow w1.heap.size 78 8 (.slice ua out.length ucap) out.length (flatR out)) := HAD3.out.own.alloc _
                have HNW : Hid (∀ j u, (Rw.cells ⟨⟨st, g.a, g.b, g.c⟩, .one v⟩)[j]? = some u → (w3.alloc (.cells (Rw.cells ⟨⟨st, g.a, g.b, g.c⟩, .one v⟩).toArray 78)).cell? ((⟨w3.heap.size, 0, none⟩ : Addr).add j) = some u) := newAt _ _ _ _ rfl
                have hz3 := HB4.out.size
                go_wp2_with (refine listAppend rfl (.tmp 72) (.tmp 74) 79 rfl w1.heap.size 78 i0 (.agg #[.int .i64 0, .int .u8 0, .int .u8 0, .int .u8 0, .int .i64 0, .int .i64 0, .int .i32 0, .int .i32 0]) 8 40 Tryz.underlying79 hi hz0 hz1 hz2 rfl (by decide) (.slice ua out.length ucap) out.length (flatR out) (by simp [Act.eval]) HOW4.out ⟨w3.heap.size, 0, none⟩ 1 1 (Rw.cells ⟨⟨st, g.a, g.b, g.c⟩, .one v⟩) (by simp [Act.eval]) rfl HNW.out (Rw.one _) (by unfold maxLen; omega) (by omega) (by rw [World.size_alloc]; omega) ?_; intro ov' w5 hown' hgrow hblk; have HA5 : Hid (AdS w1 w5 yb yy ov' (out ++ [⟨⟨st, g.a, g.b, g.c⟩, .one v⟩])) := HAD3.out.app ((Below.refl _ _).alloc (Nat.le_refl _) _) hgrow hown' hblk; clear hown' hgrow hblk)
                go_meet
                case rel => exact ⟨rfl, HA5.out⟩
            · rw [show (!true && r) = false from rfl]
              go_wp2_with fail
              go_meet
              case rel => exact ⟨rfl, by simp only [apX]; simpa using HAD3.out⟩
          case rest =>
            obtain ⟨rfl, had⟩ := hcut
            have HAD5 : Hid (AdS w1 wc yb yy u10 (out ++ apX (!ii && r) ⟨st, g.a, g.b, g.c⟩ v)) := had
            have hol5 : (out ++ apX (!ii && r) ⟨st, g.a, g.b, g.c⟩ v).length ≤ k + 1 := by
              rw [List.length_append]
              cases ii
              · have h9 := HOL3.out rfl
                cases r <;> simp [apX] <;> omega
              · simp [apX]; omega
            have HOL6 : Hid ((ii || (!ii && r)) = false → (out ++ apX (!ii && r) ⟨st, g.a, g.b, g.c⟩ v).length ≤ k) := fun e => by
              cases ii
              · cases r
                · have h9 := HOL3.out rfl
                  simp [apX]; omega
                · simp at e
              · simp at e
            clear had HAD3 HFX
            generalize out ++ apX (!ii && r) ⟨st, g.a, g.b, g.c⟩ v = out2 at *
            generalize hjj : (ii || (!ii && r)) = jj at *
            obtain ⟨ra, rcap, er⟩ := ownForm HAD5.out.own
            subst er
            have z0 : wc.cell? ⟨yb, 0, none⟩ = some (.int .i64 yy.key.st) := cell_blk HAD5.out.by' rfl
            have z1 : wc.cell? ⟨yb, 1, none⟩ = some (.int .u8 yy.key.g0) := cell_blk HAD5.out.by' rfl
            have z2 : wc.cell? ⟨yb, 2, none⟩ = some (.int .u8 yy.key.g1) := cell_blk HAD5.out.by' rfl
            have z3 : wc.cell? ⟨yb, 3, none⟩ = some (.int .u8 yy.key.g2) := cell_blk HAD5.out.by' rfl
            have z4 : wc.cell? ⟨yb, 4, none⟩ = some (.int .i64 yy.ag.cnt) := cell_blk HAD5.out.by' rfl
            have z5 : wc.cell? ⟨yb, 5, none⟩ = some (.int .i64 yy.ag.sum) := cell_blk HAD5.out.by' rfl
            have z6 : wc.cell? ⟨yb, 6, none⟩ = some (.int .i32 yy.ag.mn) := cell_blk HAD5.out.by' rfl
            have z7 : wc.cell? ⟨yb, 7, none⟩ = some (.int .i32 yy.ag.mx) := cell_blk HAD5.out.by' rfl
            have HOW6 : Hid ((wc.alloc (.cells (Rw.cells yy).toArray 78)).ownsRow w1.heap.size 78 8 (.slice ra out2.length rcap) out2.length (flatR out2)) := HAD5.out.own.alloc _
            have HNW : Hid (∀ j u, (Rw.cells yy)[j]? = some u → (wc.alloc (.cells (Rw.cells yy).toArray 78)).cell? ((⟨wc.heap.size, 0, none⟩ : Addr).add j) = some u) := newAt _ _ _ _ rfl
            have hz5 := HAD5.out.bel.size
            go_wp2_with (refine listAppend rfl (.tmp 76) (.tmp 78) 79 rfl w1.heap.size 78 i0 (.agg #[.int .i64 0, .int .u8 0, .int .u8 0, .int .u8 0, .int .i64 0, .int .i64 0, .int .i32 0, .int .i32 0]) 8 40 Tryz.underlying79 hi hz0 hz1 hz2 rfl (by decide) (.slice ra out2.length rcap) out2.length (flatR out2) (by simp [Act.eval]) HOW6.out ⟨wc.heap.size, 0, none⟩ 1 1 (Rw.cells yy) (by simp [Act.eval]) rfl HNW.out (Rw.one _) (by unfold maxLen; omega) (by omega) (by rw [World.size_alloc]; omega) ?_; intro ov' w7 hown' hgrow hblk; have HA7 : Hid (AdS w1 w7 yb yy ov' (out2 ++ [yy])) := HAD5.out.app ((Below.refl _ _).alloc (Nat.le_refl _) _) hgrow hown' hblk; clear hown' hgrow hblk)
            exact ⟨⟨k + 1, jj, out2 ++ [yy], by go_num, by omega, rfl, HA7.out.own, HE1.out, HE2.out, by simp; omega, (fun e => by have h9 := HOL6.out e; simp; omega), HA7.out.bel⟩, by simp [intOf]; omega⟩
    · have hkE : k = l.length := by rw [HN.out]; omega
      have HEND : Hid (addR l ⟨st, g.a, g.b, g.c⟩ v = out ++ apX (!inb) ⟨st, g.a, g.b, g.c⟩ v) := ad_end (by rw [← hkE]; exact HINV.out)
      have HBF : Hid (∀ W, Below w1.heap.size w1 W → Below w.heap.size w W) := fun W hW => HB0.out.trans (hW.mono HB0.out.size)
      have hz1' := HB0.out.size
      obtain ⟨⟨g0, g1, g2⟩, x0, x1, x2, x3, x4, x5, x6, x7⟩ := HFX.out V HBE.out
      cases inb
      · have HOW4 : Hid ((V.alloc (.cells (Rw.cells ⟨⟨st, g.a, g.b, g.c⟩, .one v⟩).toArray 78)).ownsRow w1.heap.size 78 8 (.slice ua out.length ucap) out.length (flatR out)) := HOW.out.alloc _
        have HNW : Hid (∀ j u, (Rw.cells ⟨⟨st, g.a, g.b, g.c⟩, .one v⟩)[j]? = some u → (V.alloc (.cells (Rw.cells ⟨⟨st, g.a, g.b, g.c⟩, .one v⟩).toArray 78)).cell? ((⟨V.heap.size, 0, none⟩ : Addr).add j) = some u) := newAt _ _ _ _ rfl
        have hz3 := HBE.out.size
        have HBA : Hid (Below w1.heap.size w1 (V.alloc (.cells (Rw.cells ⟨⟨st, g.a, g.b, g.c⟩, .one v⟩).toArray 78))) := HBE.out.alloc hz3 _
        have HUB : Hid (∀ kk, (Value.slice ua out.length ucap).ownBlock = some kk → w1.heap.size ≤ kk) := fun kk e => (HOW.out.lt kk e).1
        go_wp2_with (refine listAppend rfl (.tmp 82) (.tmp 84) 79 rfl w1.heap.size 78 i0 (.agg #[.int .i64 0, .int .u8 0, .int .u8 0, .int .u8 0, .int .i64 0, .int .i64 0, .int .i32 0, .int .i32 0]) 8 40 Tryz.underlying79 hi hz0 hz1 hz2 rfl (by decide) (.slice ua out.length ucap) out.length (flatR out) (by simp [Act.eval]) HOW4.out ⟨V.heap.size, 0, none⟩ 1 1 (Rw.cells ⟨⟨st, g.a, g.b, g.c⟩, .one v⟩) (by simp [Act.eval]) rfl HNW.out (Rw.one _) (by unfold maxLen; omega) (by omega) (by rw [World.size_alloc]; omega) ?_; intro ov' w5 hown' hgrow hblk; have HA5 : Hid (w5.ownsRow w1.heap.size 78 8 ov' (out.length + 1) (flatR out ++ Rw.cells ⟨⟨st, g.a, g.b, g.c⟩, .one v⟩) ∧ Below w1.heap.size w1 w5) := ⟨hown', HBA.out.grown hgrow (by rw [World.size_alloc]; omega) HUB.out⟩; clear hown' hgrow hblk)
        go_ret
        refine ⟨_, rfl, ?_, HBF.out _ HA5.out.2⟩
        rw [HEND.out, show out ++ apX (!false) ⟨st, g.a, g.b, g.c⟩ v = out ++ [⟨⟨st, g.a, g.b, g.c⟩, .one v⟩] from rfl, List.length_append, show flatR (out ++ [⟨⟨st, g.a, g.b, g.c⟩, .one v⟩]) = flatR out ++ Rw.cells ⟨⟨st, g.a, g.b, g.c⟩, .one v⟩ from flat_snoc _ _ _]
        exact owns_base HA5.out.1 (fun kk e => by have := (HA5.out.1.lt kk e).1; omega)
      · go_wp2_with fail
        go_ret
        refine ⟨_, rfl, ?_, HBF.out _ HBE.out⟩
        rw [HEND.out, show out ++ apX (!true) ⟨st, g.a, g.b, g.c⟩ v = out from List.append_nil _]
        exact owns_base HOW.out (fun kk e => by have := (HOW.out.lt kk e).1; omega)

end Go.Proofs.YthciddpljcbhiaaGreatDoor

/- Walks: is it a query? does a level not keep a key that it names? (garnerref) -/
namespace Go.Proofs.YthciddpljcbhiaaGreatDoor
open Go Go.RowKit Go.Lib

def headQ (q : Qy) : Prop := 0 ≤ q.fr ∧ q.fr < q.to ∧ q.to ≤ 100100 ∧ 1 ≤ q.step ∧ q.mt.size = 3 ∧ q.gb.size = 3
theorem head_parts {q : Qy} (h : ¬ headQ q) : q.fr < 0 ∨ (0 ≤ q.fr ∧ q.to ≤ q.fr) ∨ (0 ≤ q.fr ∧ q.fr < q.to ∧ 100100 < q.to) ∨ (0 ≤ q.fr ∧ q.fr < q.to ∧ q.to ≤ 100100 ∧ q.step < 1) ∨
    (0 ≤ q.fr ∧ q.fr < q.to ∧ q.to ≤ 100100 ∧ 1 ≤ q.step ∧ ¬ q.mt.size = 3) ∨ (0 ≤ q.fr ∧ q.fr < q.to ∧ q.to ≤ 100100 ∧ 1 ≤ q.step ∧ q.mt.size = 3 ∧ ¬ q.gb.size = 3) := by
  unfold headQ at h
  omega
theorem rightQ_head {q : Qy} (h : ¬ headQ q) : rightQ q = false := by
  cases hr : rightQ q with
  | false => rfl
  | true =>
    exfalso
    apply h
    simp only [rightQ, Bool.and_eq_true, decide_eq_true_eq] at hr
    exact ⟨by omega, by omega, by omega, by omega, by omega, by omega⟩
theorem rightQ_rest {q : Qy} (h : headQ q) : rightQ q = (decide ((q.to - q.fr) % q.step = 0) && decide ((q.to - q.fr) / q.step ≤ 20) && (mB (byt q.mt 0) && mB (byt q.mt 1) && mB (byt q.mt 2)) && (bB (byt q.gb 0) && bB (byt q.gb 1) && bB (byt q.gb 2))) := by
  obtain ⟨h1, h2, h3, h4, h5, h6⟩ := h
  simp [rightQ, h1, h2, h3, h4, h5, h6]
theorem box5q (w : World) (q : Qy) : (w.alloc (.cells (qyC q) 45)).heap[w.heap.size]? = some (.cells (qyC q) 45 (0, 0)) ∧ Below w.heap.size w (w.alloc (.cells (qyC q) 45)) := ⟨heap_alloc_new _ _, (Below.refl _ _).alloc (Nat.le_refl _) _⟩

set_option maxHeartbeats 4000000 in
set_option maxRecDepth 100000 in
theorem rightq_ref (q : Qy) (w : World) (hq : q.wf) : Calls Tryz.prog 104 #[.agg (qyC q)] w fun e w' => e = .returned (.bool (rightQ q)) ∧ Below w.heap.size w w' := by
  obtain ⟨a0, a1, b0, b1, c0, c1, m1, g1⟩ := hq
  unfold maxLen at m1 g1
  obtain ⟨hbk, hbl⟩ := box5q w q
  have HBL : Hid (Below w.heap.size w (w.alloc (.cells (qyC q) 45))) := hbl
  have HBK : Hid ((w.alloc (.cells (qyC q) 45)).heap[w.heap.size]? = some (.cells (qyC q) 45 (0, 0))) := hbk
  clear hbk hbl
  by_cases hh : headQ q
  · have HR : Hid (rightQ q = _) := rightQ_rest hh
    obtain ⟨h1, h2, h3, h4, h5, h6⟩ := hh
    have hd0 : 0 ≤ q.to - q.fr := by omega
    have e1 : (q.to - q.fr).tdiv q.step = (q.to - q.fr) / q.step := Int.tdiv_eq_ediv_of_nonneg hd0
    have e2 : (q.to - q.fr).tmod q.step = (q.to - q.fr) % q.step := Int.tmod_eq_emod_of_nonneg hd0
    have f0 : 0 ≤ (q.to - q.fr) / q.step := Int.ediv_nonneg hd0 (by omega)
    have f1 : (q.to - q.fr) / q.step ≤ q.to - q.fr := Int.ediv_le_self _ hd0
    have hs0 : ¬ q.step = 0 := by omega
    have s5 : ((q.mt.size : Int) != 3) = false := by simp; omega
    have s6 : ((q.gb.size : Int) != 3) = false := by simp; omega
    by_cases hm : (q.to - q.fr) % q.step = 0
    · have hmb : (((q.to - q.fr) % q.step) != 0) = false := by simp [hm]
      have HM : Hid (decide ((q.to - q.fr) % q.step = 0) = true) := by show _ = _; simp [hm]
      clear hm
      by_cases hn : (q.to - q.fr) / q.step ≤ 20
      · have HN : Hid (decide ((q.to - q.fr) / q.step ≤ 20) = true) := by show _ = _; simp [hn]
        go_enter Tryz.func104, Tryz.ntmps104
        go_upto_region 1 with fail
        generalize w.alloc (.cells (qyC q) 45) = w0 at *
        have x0 : w0.cell? ⟨w.heap.size, 0, none⟩ = some (.int .i64 q.fr) := cell_blk HBK.out rfl
        have x1 : w0.cell? ⟨w.heap.size, 1, none⟩ = some (.int .i64 q.to) := cell_blk HBK.out rfl
        have x2 : w0.cell? ⟨w.heap.size, 2, none⟩ = some (.int .i64 q.step) := cell_blk HBK.out rfl
        have x3 : w0.cell? ⟨w.heap.size, 3, none⟩ = some (.string q.mt) := cell_blk HBK.out rfl
        have x4 : w0.cell? ⟨w.heap.size, 4, none⟩ = some (.string q.gb) := cell_blk HBK.out rfl
        go_wp2_with fail
        go_loopw [4] (fun i wr => ∃ k : Nat, k ≤ 3 ∧ i = .int .i64 k ∧ (∀ j, j < k → mB (byt q.mt j) = true ∧ bB (byt q.gb j) = true) ∧ wr = w0) (fun i _ => 3 - (intOf i).toNat)
        case atStart => exact ⟨0, Nat.zero_le _, rfl, fun j hj => by omega, rfl⟩
        case round =>
          obtain ⟨k, hk, rfl, hall, rfl⟩ := hrel
          have HA : Hid (∀ j, j < k → mB (byt q.mt j) = true ∧ bB (byt q.gb j) = true) := hall
          clear hall
          by_cases hlt : k < 3
          · have HB : Hid (((q.mt[k].toNat : Nat) : Int) = byt q.mt k) := byt_eq q.mt k (by omega)
            have HG : Hid (((q.gb[k].toNat : Nat) : Int) = byt q.gb k) := byt_eq q.gb k (by omega)
            have HMB : Hid (mB (byt q.mt k) = (letB ((q.mt[k].toNat : Nat) : Int) || ((q.mt[k].toNat : Nat) : Int) == 46 || ((q.mt[k].toNat : Nat) : Int) == 45)) := by show _ = _; rw [HB.out]; rfl
            have HGB : Hid (bB (byt q.gb k) = (((q.gb[k].toNat : Nat) : Int) == 48 || ((q.gb[k].toNat : Nat) : Int) == 49)) := by show _ = _; rw [HG.out]; rfl
            have HNEX : Hid (mB (byt q.mt k) = true → bB (byt q.gb k) = true → ∀ j, j < k + 1 → mB (byt q.mt j) = true ∧ bB (byt q.gb j) = true) := fun u1 u2 j hj => by
              by_cases e : j = k
              · subst e; exact ⟨u1, u2⟩
              · exact HA.out j (by omega)
            have HFAL : Hid (mB (byt q.mt k) = false ∨ bB (byt q.gb k) = false → rightQ q = false) := fun hor => by
              rw [HR.out, HM.out, HN.out]
              have : k = 0 ∨ k = 1 ∨ k = 2 := by omega
              rcases hor with u | u <;> rcases this with rfl | rfl | rfl <;> simp [u]
            generalize mB (byt q.mt k) = MB at *
            generalize bB (byt q.gb k) = GB at *
            have hM : (MB = true ∧ ((letB ((q.mt[k].toNat : Nat) : Int) = true) ∨ (letB ((q.mt[k].toNat : Nat) : Int) = false ∧ (((q.mt[k].toNat : Nat) : Int) != 46) = false) ∨ (letB ((q.mt[k].toNat : Nat) : Int) = false ∧ (((q.mt[k].toNat : Nat) : Int) != 46) = true ∧ (((q.mt[k].toNat : Nat) : Int) != 45) = false))) ∨ (MB = false ∧ letB ((q.mt[k].toNat : Nat) : Int) = false ∧ (((q.mt[k].toNat : Nat) : Int) != 46) = true ∧ (((q.mt[k].toNat : Nat) : Int) != 45) = true) := by
              rw [HMB.out]
              unfold bne
              cases letB ((q.mt[k].toNat : Nat) : Int) <;> cases (((q.mt[k].toNat : Nat) : Int) == 46) <;> cases (((q.mt[k].toNat : Nat) : Int) == 45) <;> simp
            have hG : (GB = true ∧ ((((q.gb[k].toNat : Nat) : Int) != 48) = false ∨ ((((q.gb[k].toNat : Nat) : Int) != 48) = true ∧ (((q.gb[k].toNat : Nat) : Int) != 49) = false))) ∨ (GB = false ∧ (((q.gb[k].toNat : Nat) : Int) != 48) = true ∧ (((q.gb[k].toNat : Nat) : Int) != 49) = true) := by
              rw [HGB.out]
              unfold bne
              cases (((q.gb[k].toNat : Nat) : Int) == 48) <;> cases (((q.gb[k].toNat : Nat) : Int) == 49) <;> simp
            have HL := letter_any ((q.mt[k].toNat : Nat) : Int)
            clear HMB HGB
            rcases hM with ⟨hMB, h | ⟨h, h'⟩ | ⟨h, h', h''⟩⟩ | ⟨hMB, h, h', h''⟩
            rotate_left 3
            · rw [h] at HL
              have HF : Hid (rightQ q = false) := HFAL.out (.inl hMB)
              clear hG hMB h
              go_wp2_with (go_at_call 90; refine (HL _).mono ?_; rintro e w' ⟨rfl, rfl⟩)
              go_ret
              exact ⟨by rw [HF.out]; rfl, HBL.out⟩
            all_goals
              rw [h] at HL
              clear h
              rcases hG with ⟨hGB, g | ⟨g, g'⟩⟩ | ⟨hGB, g, g'⟩
              rotate_left 2
              · have HF : Hid (rightQ q = false) := HFAL.out (.inr hGB)
                clear hGB hMB
                go_wp2_with (go_at_call 90; refine (HL _).mono ?_; rintro e w' ⟨rfl, rfl⟩)
                go_ret
                exact ⟨by rw [HF.out]; rfl, HBL.out⟩
              all_goals
                have HNN : Hid (∀ j, j < k + 1 → mB (byt q.mt j) = true ∧ bB (byt q.gb j) = true) := HNEX.out hMB hGB
                clear hGB hMB
                go_wp2_with (go_at_call 90; refine (HL _).mono ?_; rintro e w' ⟨rfl, rfl⟩)
                exact ⟨⟨k + 1, by omega, by go_num, HNN.out, trivial⟩, by simp [intOf]; omega⟩
          · have HT : Hid (rightQ q = true) := by
              show _ = _
              rw [HR.out, HM.out, HN.out]
              obtain ⟨u0, v0⟩ := HA.out 0 (by omega)
              obtain ⟨u1, v1⟩ := HA.out 1 (by omega)
              obtain ⟨u2, v2⟩ := HA.out 2 (by omega)
              simp [u0, u1, u2, v0, v1, v2]
            go_wp2_with fail
            go_ret
            exact ⟨by rw [HT.out]; rfl, HBL.out⟩
      · have HF : Hid (rightQ q = false) := by
          show _ = _
          rw [HR.out, HM.out]
          simp [hn]
        have hn2 : 20 < (q.to - q.fr) / q.step := by omega
        go_enter Tryz.func104, Tryz.ntmps104
        go_upto_region 1 with fail
        generalize w.alloc (.cells (qyC q) 45) = w0 at *
        have x0 : w0.cell? ⟨w.heap.size, 0, none⟩ = some (.int .i64 q.fr) := cell_blk HBK.out rfl
        have x1 : w0.cell? ⟨w.heap.size, 1, none⟩ = some (.int .i64 q.to) := cell_blk HBK.out rfl
        have x2 : w0.cell? ⟨w.heap.size, 2, none⟩ = some (.int .i64 q.step) := cell_blk HBK.out rfl
        have x3 : w0.cell? ⟨w.heap.size, 3, none⟩ = some (.string q.mt) := cell_blk HBK.out rfl
        have x4 : w0.cell? ⟨w.heap.size, 4, none⟩ = some (.string q.gb) := cell_blk HBK.out rfl
        go_wp2_with fail
        go_ret
        exact ⟨by rw [HF.out]; rfl, HBL.out⟩
    · have hmb : (((q.to - q.fr) % q.step) != 0) = true := by simp [hm]
      have HF : Hid (rightQ q = false) := by
        show _ = _
        rw [HR.out]
        simp [hm]
      clear hm
      go_enter Tryz.func104, Tryz.ntmps104
      go_upto_region 1 with fail
      generalize w.alloc (.cells (qyC q) 45) = w0 at *
      have x0 : w0.cell? ⟨w.heap.size, 0, none⟩ = some (.int .i64 q.fr) := cell_blk HBK.out rfl
      have x1 : w0.cell? ⟨w.heap.size, 1, none⟩ = some (.int .i64 q.to) := cell_blk HBK.out rfl
      have x2 : w0.cell? ⟨w.heap.size, 2, none⟩ = some (.int .i64 q.step) := cell_blk HBK.out rfl
      have x3 : w0.cell? ⟨w.heap.size, 3, none⟩ = some (.string q.mt) := cell_blk HBK.out rfl
      have x4 : w0.cell? ⟨w.heap.size, 4, none⟩ = some (.string q.gb) := cell_blk HBK.out rfl
      go_wp2_with fail
      go_ret
      exact ⟨by rw [HF.out]; rfl, HBL.out⟩
  · have HF : Hid (rightQ q = false) := rightQ_head hh
    have hp := head_parts hh
    clear hh
    have hsz : ∀ s : ByteArray, ¬ s.size = 3 → ((s.size : Int) != 3) = true := fun s h => by simp; omega
    have hsy : ∀ s : ByteArray, s.size = 3 → ((s.size : Int) != 3) = false := fun s h => by simp; omega
    rcases hp with h | ⟨h1, h2⟩ | ⟨h1, h2, h3⟩ | ⟨h1, h2, h3, h4⟩ | ⟨h1, h2, h3, h4, h5⟩ | ⟨h1, h2, h3, h4, h5, h6⟩
    case' inr.inr.inr.inr.inl => have s5 := hsz _ h5
    case' inr.inr.inr.inr.inr => (have s5 := hsy _ h5; have s6 := hsz _ h6)
    all_goals
      clear hsz hsy
      go_enter Tryz.func104, Tryz.ntmps104
      go_upto_region 1 with fail
      generalize w.alloc (.cells (qyC q) 45) = w0 at *
      have x0 : w0.cell? ⟨w.heap.size, 0, none⟩ = some (.int .i64 q.fr) := cell_blk HBK.out rfl
      have x1 : w0.cell? ⟨w.heap.size, 1, none⟩ = some (.int .i64 q.to) := cell_blk HBK.out rfl
      have x2 : w0.cell? ⟨w.heap.size, 2, none⟩ = some (.int .i64 q.step) := cell_blk HBK.out rfl
      have x3 : w0.cell? ⟨w.heap.size, 3, none⟩ = some (.string q.mt) := cell_blk HBK.out rfl
      have x4 : w0.cell? ⟨w.heap.size, 4, none⟩ = some (.string q.gb) := cell_blk HBK.out rfl
      go_wp2_with fail
      go_ret
      exact ⟨by rw [HF.out]; rfl, HBL.out⟩

end Go.Proofs.YthciddpljcbhiaaGreatDoor

/- Walks: does a level, or one ahead of it, not keep a key that the query names? (garnerref) -/
namespace Go.Proofs.YthciddpljcbhiaaGreatDoor
open Go Go.RowKit Go.Lib

theorem lostB_iff (q : Qy) (lv : Lv) : lostB q lv = true ↔ ∃ i, i < 3 ∧ lostK q lv i = true := by
  unfold lostB
  simp only [Bool.or_eq_true]
  constructor
  · rintro ((h | h) | h)
    · exact ⟨0, by omega, h⟩
    · exact ⟨1, by omega, h⟩
    · exact ⟨2, by omega, h⟩
  · rintro ⟨i, hi, h⟩
    have : i = 0 ∨ i = 1 ∨ i = 2 := by omega
    rcases this with rfl | rfl | rfl
    · exact .inl (.inl h)
    · exact .inl (.inr h)
    · exact .inr h
theorem lostL_true {lvs : List Lv} {q : Qy} {n j i : Nat} (hj : j < n) (hi : i < 3) (h : lostK q (lvG lvs j) i = true) : lostL lvs q n = true :=
  List.any_eq_true.2 ⟨j, List.mem_range.2 hj, (lostB_iff _ _).2 ⟨i, hi, h⟩⟩
theorem lostL_false {lvs : List Lv} {q : Qy} {n : Nat} (h : ∀ j, j < n → ∀ i, i < 3 → lostK q (lvG lvs j) i = false) : lostL lvs q n = false := by
  cases hl : lostL lvs q n with
  | false => rfl
  | true =>
    obtain ⟨j, hj, h1⟩ := List.any_eq_true.1 hl
    obtain ⟨i, hi, h2⟩ := (lostB_iff _ _).1 h1
    rw [h j (List.mem_range.1 hj) i hi] at h2
    cases h2

set_option maxHeartbeats 1000000 in
set_option maxRecDepth 100000 in
theorem lost_ref (R : Nat) (F : Nat → Prop) (c : Cf) (ps : List Cp) (L lcap : Nat) (cv : Value) (q : Qy) (lv : Nat) (w : World) (h : RfS w R F c ps L lcap cv) (hm : q.mt.size = 3) (hg : q.gb.size = 3) (hl : lv < c.lvs.length) :
    Calls Tryz.prog 105 #[.pointer (some ⟨R, 0, none⟩), .agg (qyC q), .int .i64 (lv : Nat)] w fun e w' => e = .returned (.bool (lostL c.lvs q (lv + 1))) ∧ Below w.heap.size w w' := by
  obtain ⟨hbk, hbl⟩ := box5q w q
  have HBL : Hid (Below w.heap.size w (w.alloc (.cells (qyC q) 45))) := hbl
  have HBK : Hid ((w.alloc (.cells (qyC q) 45)).heap[w.heap.size]? = some (.cells (qyC q) 45 (0, 0))) := hbk
  have H0 : Hid (RfS (w.alloc (.cells (qyC q) 45)) R F c ps L lcap cv) := h.below hbl
  have HRUL : Hid (∀ j, j < c.lvs.length → (lvG c.lvs j).rule.size = 3 ∧ 1 ≤ (lvG c.lvs j).limit ∧ (lvG c.lvs j).limit ≤ 20) := right_more (rf_right h)
  have hln := (Cf.right_parts (rf_right h)).2.2.2.2.2.1
  clear h hbk hbl
  go_enter Tryz.func105, Tryz.ntmps105
  go_upto_region 1 with fail
  generalize w.alloc (.cells (qyC q) 45) = w0 at *
  have x3 : w0.cell? ⟨w.heap.size, 3, none⟩ = some (.string q.mt) := cell_blk HBK.out rfl
  have x4 : w0.cell? ⟨w.heap.size, 4, none⟩ = some (.string q.gb) := cell_blk HBK.out rfl
  have c2 := H0.out.cell 2 _ rfl
  go_wp2_with fail
  go_loopw [7] (fun j wr => ∃ jj : Nat, j = .int .i64 jj ∧ jj ≤ lv + 1 ∧ (∀ a, a < jj → ∀ i, i < 3 → lostK q (lvG c.lvs a) i = false) ∧ w0 = wr) (fun j _ => lv + 1 - (intOf j).toNat)
  case atStart => exact ⟨0, rfl, Nat.zero_le _, fun a ha => by omega, rfl⟩
  case round =>
    obtain ⟨jj, rfl, hj, hall, rfl⟩ := hrel
    have HA : Hid (∀ a, a < jj → ∀ i, i < 3 → lostK q (lvG c.lvs a) i = false) := hall
    clear hall
    by_cases hlt : jj ≤ lv
    · obtain ⟨_, _, a2, _⟩ := H0.out.lv jj (by omega)
      simp only [Nat.zero_add] at a2
      obtain ⟨hr3, _, _⟩ := HRUL.out jj (by omega)
      have hjI : (jj : Int) < (c.lvs.length : Int) := by omega
      have hjL : (jj : Int) ≤ (lv : Int) := by omega
      go_wp2_with fail
      go_loopw [8] (fun i wr => ∃ k : Nat, i = .int .i64 k ∧ k ≤ 3 ∧ (∀ a, a < k → lostK q (lvG c.lvs jj) a = false) ∧ w0 = wr) (fun i _ => 3 - (intOf i).toNat)
      case atStart => exact ⟨0, rfl, Nat.zero_le _, fun a ha => by omega, rfl⟩
      case round =>
        obtain ⟨k, rfl, hk, hno, rfl⟩ := hrel
        have HNO : Hid (∀ a, a < k → lostK q (lvG c.lvs jj) a = false) := hno
        clear hno
        by_cases hlk : k < 3
        · have HB : Hid (((q.mt[k].toNat : Nat) : Int) = byt q.mt k) := byt_eq q.mt k (by omega)
          have HG : Hid (((q.gb[k].toNat : Nat) : Int) = byt q.gb k) := byt_eq q.gb k (by omega)
          have HRR : Hid ((((lvG c.lvs jj).rule[k].toNat : Nat) : Int) = byt (lvG c.lvs jj).rule k) := byt_eq _ k (by omega)
          have HLK : Hid (lostK q (lvG c.lvs jj) k = (((((q.mt[k].toNat : Nat) : Int) != 46) || (((q.gb[k].toNat : Nat) : Int) == 49)) && ((((lvG c.lvs jj).rule[k].toNat : Nat) : Int) != 107))) := by
            show _ = _
            rw [HB.out, HG.out, HRR.out]
            rfl
          have HNX : Hid (lostK q (lvG c.lvs jj) k = false → ∀ a, a < k + 1 → lostK q (lvG c.lvs jj) a = false) := fun u a ha => by
            by_cases e : a = k
            · subst e; exact u
            · exact HNO.out a (by omega)
          have HTR : Hid (lostK q (lvG c.lvs jj) k = true → lostL c.lvs q (lv + 1) = true) := fun u => lostL_true (by omega) hlk u
          have hk1 : k < q.mt.size := by omega
          have hk2 : k < q.gb.size := by omega
          have hk3 : k < (lvG c.lvs jj).rule.size := by omega
          generalize lostK q (lvG c.lvs jj) k = LK at *
          cases b1 : (((q.mt[k].toNat : Nat) : Int) != 46) <;> cases b2 : (((q.gb[k].toNat : Nat) : Int) == 49) <;> cases b3 : ((((lvG c.lvs jj).rule[k].toNat : Nat) : Int) != 107)
          all_goals
            rw [b1, b2, b3] at HLK
            go_wp2_with fail
            first
              | exact ⟨⟨k + 1, by go_num, by omega, HNX.out HLK.out, trivial⟩, by simp [intOf]; omega⟩
              | (go_ret; exact ⟨by rw [HTR.out HLK.out]; rfl, HBL.out⟩)
        · have HA2 : Hid (∀ a, a < jj + 1 → ∀ i, i < 3 → lostK q (lvG c.lvs a) i = false) := fun a ha i hi => by
            by_cases e : a = jj
            · subst e; exact HNO.out i (by omega)
            · exact HA.out a (by omega) i hi
          go_wp2_with fail
          exact ⟨⟨jj + 1, by go_num, by omega, HA2.out, trivial⟩, by simp [intOf]; omega⟩
    · have HF : Hid (lostL c.lvs q (lv + 1) = false) := lostL_false (fun a ha i hi => HA.out a (by omega) i hi)
      have hjL : ¬ (jj : Int) ≤ (lv : Int) := by omega
      go_wp2_with fail
      go_ret
      exact ⟨by rw [HF.out]; rfl, HBL.out⟩

end Go.Proofs.YthciddpljcbhiaaGreatDoor
