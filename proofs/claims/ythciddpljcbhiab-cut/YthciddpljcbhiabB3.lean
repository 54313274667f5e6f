/- Texts of one claim put together: Ent, Sto, Stl, Num, Low, SmA, SmB, Tcr, Tck, Cwr, Wra, Wri, Tik, Kpa, Kpb, Dkt. -/
import Derived.Test.YthciddpljcbhiabB2
import Derived.Test.YthciddpljcbhiabA
import Derived.Lib.AppendStr
import Derived.Test.YthciddpljcbhiabB1
import Derived.Deep.RegionHeld3
import Derived.Deep.RegionLaw

/- Walks: a sample entered: its series at each level. -/
namespace Go.Proofs.Ythciddpljcbhiab
open Go Go.RowKit

abbrev smC (x : Sm) : Array Value := #[.int .i64 x.time, .int .u8 x.l0, .int .u8 x.l1, .int .u8 x.l2, .int .i32 x.value]
abbrev zPt : Array Value := #[.int .i64 0, .int .i32 0, .int .u8 0, .int .u8 0, .int .u8 0, .int .u8 0, .int .u8 0, .int .u8 0, .int .u8 0, .int .u8 0, .int .u8 0, .int .u8 0, .int .u8 0, .int .u8 0]
/-- The state of entering: the book, and the three boxes. -/
structure ES (w wr : World) (X o : Nat) (C : Array Value) (t : TypeId) (bv bv' : Value) (bk : List Ad) (x : Sm) (sk : List Lb) (nk : Lb) : Prop where
  bok : BookSt wr X o (C.setIfInBounds o bv') t bv' bk
  fr : Fr (fun k => k = X ∨ bv.ownBlock = some k) w wr
  own : bv'.ownBlock = bv.ownBlock ∨ ∀ k, bv'.ownBlock = some k → w.heap.size + 4 ≤ k
  b1 : wr.heap[w.heap.size + 1]? = some (.cells zPt 78 (0, 0))
  b2 : wr.heap[w.heap.size + 2]? = some (.cells (ptC ⟨x.time, x.value, sk⟩) 78 (0, 0))
  b3 : wr.heap[w.heap.size + 3]? = some (.cells (lbA nk) 52 (0, 0))

theorem pt_set (x : Sm) (sk : List Lb) (l : Lb) (h : sk.length < 4) : (((ptC ⟨x.time, x.value, sk⟩).setIfInBounds (2 + sk.length * 3) (.int .u8 l.a)).setIfInBounds (2 + sk.length * 3 + 1) (.int .u8 l.b)).setIfInBounds (2 + sk.length * 3 + 2) (.int .u8 l.c) = ptC ⟨x.time, x.value, sk ++ [l]⟩ := by
  match sk, h with
  | [], _ => rfl
  | [a], _ => rfl
  | [a, b], _ => rfl
  | [a, b, c], _ => rfl
theorem pt_cell (x : Sm) (sk : List Lb) (k : Nat) (hk : k < 4) : ∃ a b c, (ptC ⟨x.time, x.value, sk⟩)[2 + k * 3]? = some (.int .u8 a) ∧ (ptC ⟨x.time, x.value, sk⟩)[2 + k * 3 + 1]? = some (.int .u8 b) ∧ (ptC ⟨x.time, x.value, sk⟩)[2 + k * 3 + 2]? = some (.int .u8 c) := by
  have : k = 0 ∨ k = 1 ∨ k = 2 ∨ k = 3 := by omega
  rcases this with rfl | rfl | rfl | rfl
  · exact ⟨_, _, _, rfl, rfl, rfl⟩
  · exact ⟨_, _, _, rfl, rfl, rfl⟩
  · exact ⟨_, _, _, rfl, rfl, rfl⟩
  · exact ⟨_, _, _, rfl, rfl, rfl⟩
theorem cell_blk {w : World} {g o : Nat} {C : Array Value} {t : TypeId} {fr : Nat × Nat} {v : Value} (h : w.heap[g]? = some (.cells C t fr)) (hv : C[o]? = some v) : w.cell? ⟨g, o, none⟩ = some v := by simp [World.cell?, h, hv]
theorem froz_blk {w : World} {g o : Nat} {C : Array Value} {t : TypeId} (h : w.heap[g]? = some (.cells C t (0, 0))) : w.frozen? ⟨g, o, none⟩ = false := by simp [World.frozen?, h]

theorem giveN_ok {bk : List Ad} {i : Nat} {lv : Lv} {s : Lb} (h : okS s) : okS (giveN bk i lv s) := by
  unfold giveN
  split
  · exact .inl rfl
  · next ho =>
    have hl := h.resolve_left ho
    split
    · exact .inr (madeL_lab hl)
    · split
      · exact .inl rfl
      · exact .inr (madeL_lab hl)

/-- Behind a level: the book given on, the name box written, the point's series longer by one. -/
theorem ES.give {w wr w' : World} {X o : Nat} {C : Array Value} {t : TypeId} {bv bv' : Value} {bk bk' : List Ad} {x : Sm} {sk : List Lb} {nk : Lb} (h : ES w wr X o C t bv bv' bk x sk nk) (hX : X < w.heap.size) (hbo : ∀ k, bv.ownBlock = some k → k < w.heap.size)
    (hp : BookPost wr X o (C.setIfInBounds o bv') t bv' bk' w') : ∃ bv2, ES w w' X o C t bv bv2 bk' x sk nk := by
  obtain ⟨bv2, h1, h2, h3⟩ := hp
  have hsz : w.heap.size + 3 < wr.heap.size := (Array.getElem?_eq_some_iff.1 h.b3).1
  have hno : ∀ b, w.heap.size ≤ b → b < w.heap.size + 4 → ¬ (b = X ∨ bv'.ownBlock = some b) := by
    intro b hb1 hb2 e
    rcases e with e | e
    · omega
    · rcases h.own with ho | ho
      · rw [ho] at e; have := hbo b e; omega
      · have := ho b e; omega
  refine ⟨bv2, ⟨by have := h1.blk; rwa [Array.setIfInBounds_setIfInBounds] at this, by have := h1.get; rwa [Array.setIfInBounds_setIfInBounds] at this, h1.own, h1.ne⟩, ?_, ?_, ?_, ?_, ?_⟩
  · refine h.fr.trans h2 (fun k e => ?_)
    rcases e with e | e
    · exact .inl (.inl e)
    · rcases h.own with ho | ho
      · rw [ho] at e; exact .inl (.inr e)
      · exact .inr (by have := ho k e; omega)
  · rcases h3 with h3 | h3
    · rcases h.own with ho | ho
      · exact .inl (h3.trans ho)
      · exact .inr fun k e => ho k (by rw [← h3]; exact e)
    · exact .inr fun k e => by have := h3 k e; omega
  · rw [h2.block _ (by omega) (hno _ (by omega) (by omega))]; exact h.b1
  · rw [h2.block _ (by omega) (hno _ (by omega) (by omega))]; exact h.b2
  · rw [h2.block _ (by omega) (hno _ (by omega) (by omega))]; exact h.b3
/-- A store into a box. -/
theorem ES.ownNe {w wr : World} {X o : Nat} {C : Array Value} {t : TypeId} {bv bv' : Value} {bk : List Ad} {x : Sm} {sk : List Lb} {nk : Lb} (h : ES w wr X o C t bv bv' bk x sk nk) (hbo : ∀ k, bv.ownBlock = some k → k < w.heap.size) {b : Nat} (hb1 : w.heap.size ≤ b) (hb2 : b < w.heap.size + 4) : bv'.ownBlock ≠ some b := by
  intro e
  rcases h.own with ho | ho
  · rw [ho] at e; have := hbo b e; omega
  · have := ho b e; omega
theorem ES.name {w wr : World} {X o : Nat} {C : Array Value} {t : TypeId} {bv bv' : Value} {bk : List Ad} {x : Sm} {sk : List Lb} {nk : Lb} (h : ES w wr X o C t bv bv' bk x sk nk) (hX : X < w.heap.size) (hbo : ∀ k, bv.ownBlock = some k → k < w.heap.size) (l : Lb) :
    ES w (((wr.setCell ⟨w.heap.size + 3, 0, none⟩ (.int .u8 l.a)).setCell ⟨w.heap.size + 3, 1, none⟩ (.int .u8 l.b)).setCell ⟨w.heap.size + 3, 2, none⟩ (.int .u8 l.c)) X o C t bv bv' bk x sk l := by
  have hne := h.ownNe hbo (b := w.heap.size + 3) (by omega) (by omega)
  have hh : ∀ k, k ≠ w.heap.size + 3 → (((wr.setCell ⟨w.heap.size + 3, 0, none⟩ (.int .u8 l.a)).setCell ⟨w.heap.size + 3, 1, none⟩ (.int .u8 l.b)).setCell ⟨w.heap.size + 3, 2, none⟩ (.int .u8 l.c)).heap[k]? = wr.heap[k]? := by
    intro k hk
    rw [Below.heap_setCell _ _ _ _ hk, Below.heap_setCell _ _ _ _ hk, Below.heap_setCell _ _ _ _ hk]
  refine ⟨⟨by rw [hh X (by omega)]; exact h.bok.blk, h.bok.get, owns_other (owns_other (owns_other h.bok.own hne) hne) hne, h.bok.ne⟩, ?_, h.own, by rw [hh _ (by omega)]; exact h.b1, by rw [hh _ (by omega)]; exact h.b2, ?_⟩
  · exact ((h.fr.setCell (.inr (by show w.heap.size ≤ w.heap.size + 3; omega)) _).setCell (.inr (by show w.heap.size ≤ w.heap.size + 3; omega)) _).setCell (.inr (by show w.heap.size ≤ w.heap.size + 3; omega)) _
  · exact heap_setCell (heap_setCell (heap_setCell h.b3))
theorem ES.ser {w wr : World} {X o : Nat} {C : Array Value} {t : TypeId} {bv bv' : Value} {bk : List Ad} {x : Sm} {sk : List Lb} {nk : Lb} (h : ES w wr X o C t bv bv' bk x sk nk) (hX : X < w.heap.size) (hbo : ∀ k, bv.ownBlock = some k → k < w.heap.size) (l : Lb) (hl : sk.length < 4) :
    ES w (((wr.setCell ⟨w.heap.size + 2, 2 + sk.length * 3, none⟩ (.int .u8 l.a)).setCell ⟨w.heap.size + 2, 2 + sk.length * 3 + 1, none⟩ (.int .u8 l.b)).setCell ⟨w.heap.size + 2, 2 + sk.length * 3 + 2, none⟩ (.int .u8 l.c)) X o C t bv bv' bk x (sk ++ [l]) nk := by
  have hne := h.ownNe hbo (b := w.heap.size + 2) (by omega) (by omega)
  have hh : ∀ k, k ≠ w.heap.size + 2 → (((wr.setCell ⟨w.heap.size + 2, 2 + sk.length * 3, none⟩ (.int .u8 l.a)).setCell ⟨w.heap.size + 2, 2 + sk.length * 3 + 1, none⟩ (.int .u8 l.b)).setCell ⟨w.heap.size + 2, 2 + sk.length * 3 + 2, none⟩ (.int .u8 l.c)).heap[k]? = wr.heap[k]? := by
    intro k hk
    rw [Below.heap_setCell _ _ _ _ hk, Below.heap_setCell _ _ _ _ hk, Below.heap_setCell _ _ _ _ hk]
  refine ⟨⟨by rw [hh X (by omega)]; exact h.bok.blk, h.bok.get, owns_other (owns_other (owns_other h.bok.own hne) hne) hne, h.bok.ne⟩, ?_, h.own, by rw [hh _ (by omega)]; exact h.b1, ?_, by rw [hh _ (by omega)]; exact h.b3⟩
  · exact ((h.fr.setCell (.inr (by show w.heap.size ≤ w.heap.size + 2; omega)) _).setCell (.inr (by show w.heap.size ≤ w.heap.size + 2; omega)) _).setCell (.inr (by show w.heap.size ≤ w.heap.size + 2; omega)) _
  · rw [← pt_set x sk l hl]
    exact heap_setCell (heap_setCell (heap_setCell h.b2))
theorem ES.drew {w wr : World} {X o : Nat} {C : Array Value} {t : TypeId} {bv bv' : Value} {bk : List Ad} {x : Sm} {sk : List Lb} {nk : Lb} (h : ES w wr X o C t bv bv' bk x sk nk) : ES w wr.drew X o C t bv bv' bk x sk nk :=
  ⟨⟨h.bok.blk, h.bok.get, h.bok.own, h.bok.ne⟩, h.fr.drew, h.own, h.b1, h.b2, h.b3⟩

/-- The book alone. -/
structure BP (w wr : World) (X o : Nat) (C : Array Value) (t : TypeId) (bv bv' : Value) (bk : List Ad) : Prop where
  bok : BookSt wr X o (C.setIfInBounds o bv') t bv' bk
  fr : Fr (fun k => k = X ∨ bv.ownBlock = some k) w wr
  own : bv'.ownBlock = bv.ownBlock ∨ ∀ k, bv'.ownBlock = some k → w.heap.size + 4 ≤ k
theorem BP.set {w wr : World} {X o : Nat} {C : Array Value} {t : TypeId} {bv bv' : Value} {bk : List Ad} (h : BP w wr X o C t bv bv' bk) (hX : X < w.heap.size) (hbo : ∀ k, bv.ownBlock = some k → k < w.heap.size) {j : Nat} {u : Value} : BP w (wr.setCell ⟨w.heap.size + 1, j, none⟩ u) X o C t bv bv' bk := by
  have hne : bv'.ownBlock ≠ some (w.heap.size + 1) := by
    intro e
    rcases h.own with ho | ho
    · rw [ho] at e; have := hbo _ e; omega
    · have := ho _ e; omega
  exact ⟨⟨by rw [Below.heap_setCell _ _ _ _ (by show X ≠ w.heap.size + 1; omega)]; exact h.bok.blk, h.bok.get, owns_other h.bok.own hne, h.bok.ne⟩, h.fr.setCell (.inr (by show w.heap.size ≤ w.heap.size + 1; omega)) _, h.own⟩
theorem BP.post {w wr : World} {X o : Nat} {C : Array Value} {t : TypeId} {bv bv' : Value} {bk : List Ad} (h : BP w wr X o C t bv bv' bk) : BookPost w X o C t bv bk wr :=
  ⟨bv', h.bok, h.fr, h.own.imp id fun h k e => by have := h k e; omega⟩

theorem drop_lv (lvs : List Lv) (k : Nat) (h : k < lvs.length) : lvs.drop k = lvG lvs k :: lvs.drop (k + 1) := by rw [lvG_get lvs k h]; exact List.drop_eq_getElem_cons h
abbrev eW (w : World) (x : Sm) : World := (((w.alloc (.cells (smC x) 75)).alloc (.cells zPt 78)).alloc (.cells (ptC ⟨x.time, x.value, []⟩) 78)).alloc (.cells (lbA x.lb) 52)
theorem eW_below (w : World) (x : Sm) : Below w.heap.size w (eW w x) := ((((Below.refl _ _).alloc (Nat.le_refl _) _).alloc (by simp) _).alloc (by simp; omega) _).alloc (by simp; omega) _
theorem eW_blocks (w : World) (x : Sm) : (eW w x).heap[w.heap.size + 1]? = some (.cells zPt 78 (0, 0)) ∧ (eW w x).heap[w.heap.size + 2]? = some (.cells (ptC ⟨x.time, x.value, []⟩) 78 (0, 0)) ∧ (eW w x).heap[w.heap.size + 3]? = some (.cells (lbA x.lb) 52 (0, 0)) := by
  refine ⟨?_, ?_, ?_⟩
  · have h := heap_alloc_new (w.alloc (.cells (smC x) 75)) (.cells zPt 78)
    rw [show (w.alloc (.cells (smC x) 75)).heap.size = w.heap.size + 1 by simp] at h
    rw [Below.heap_alloc _ _ _ (by simp), Below.heap_alloc _ _ _ (by simp)]; exact h
  · have h := heap_alloc_new ((w.alloc (.cells (smC x) 75)).alloc (.cells zPt 78)) (.cells (ptC ⟨x.time, x.value, []⟩) 78)
    rw [show ((w.alloc (.cells (smC x) 75)).alloc (.cells zPt 78)).heap.size = w.heap.size + 2 by simp] at h
    rw [Below.heap_alloc _ _ _ (by simp)]; exact h
  · have h := heap_alloc_new (((w.alloc (.cells (smC x) 75)).alloc (.cells zPt 78)).alloc (.cells (ptC ⟨x.time, x.value, []⟩) 78)) (.cells (lbA x.lb) 52)
    rw [show (((w.alloc (.cells (smC x) 75)).alloc (.cells zPt 78)).alloc (.cells (ptC ⟨x.time, x.value, []⟩) 78)).heap.size = w.heap.size + 3 by simp] at h
    exact h

set_option maxHeartbeats 4000000 in
set_option maxRecDepth 100000 in
theorem enter_any (X o : Nat) (C : Array Value) (t : TypeId) (bv : Value) (bk : List Ad) (b n cap : Nat) (lvs : List Lv) (x : Sm) (w : World) (H : BookSt w X o C t bv bk) (hn : bk.length ≤ 4000) (hlab : lab3 x.l0 x.l1 x.l2 = true)
    (hln : lvs.length = n) (hn4 : n ≤ 4) (hat : LvAt w b 0 lvs) (_hbs : b < w.heap.size) (hbX : b ≠ X) (hbv : bv.ownBlock ≠ some b) (hok : ∀ j, j < n → ruleB (lvG lvs j).rule = true ∧ (lvG lvs j).rule.size ≤ maxLen ∧ 1 ≤ (lvG lvs j).limit ∧ (lvG lvs j).limit ≤ 20) :
    Calls Try.prog 29 #[.pointer (some ⟨X, o, none⟩), .slice (some ⟨b, 0, none⟩) n cap, .agg (smC x)] w fun e w' => e = .returned (.agg (ptC ⟨x.time, x.value, entS lvs 0 bk x.lb⟩)) ∧ BookPost w X o C t bv (entB lvs 0 bk x.lb) w' := by
  have HB : Hid (BookSt w X o C t bv bk) := H
  have hX := H.lt
  have HBO : Hid (∀ k, bv.ownBlock = some k → k < w.heap.size) := fun k e => (HB.out.own.lt k e).2
  have HAT : Hid (LvAt w b 0 lvs) := hat
  have HOK : Hid (∀ j, j < n → ruleB (lvG lvs j).rule = true ∧ (lvG lvs j).rule.size ≤ maxLen ∧ 1 ≤ (lvG lvs j).limit ∧ (lvG lvs j).limit ≤ 20) := hok
  have HLN : Hid (lvs.length = n) := hln
  have HBV : Hid (bv.ownBlock ≠ some b) := hbv
  have HLAB : Hid (lab3 x.l0 x.l1 x.l2 = true) := hlab
  clear H hat hok hln hbv hlab
  go_enter Try.func29, Try.ntmps29
  go_wp2_with fail
  go_loopw [9] (fun i wr => ∃ (k : Nat) (bv' : Value) (bkk : List Ad) (sk : List Lb) (nk : Lb), i = .int .i64 k ∧ k ≤ n ∧ sk.length = k ∧ okS nk ∧ bkk.length ≤ 4000 + k ∧ entB (lvs.drop k) k bkk nk = entB lvs 0 bk x.lb ∧ sk ++ entS (lvs.drop k) k bkk nk = entS lvs 0 bk x.lb ∧ ES w wr X o C t bv bv' bkk x sk nk) (fun i _ => n - (intOf i).toNat)
  case atStart =>
    refine ⟨0, bv, bk, [], x.lb, rfl, Nat.zero_le _, rfl, .inr HLAB.out, by omega, rfl, rfl, ?_, ?_, .inl rfl, (eW_blocks w x).1, (eW_blocks w x).2.1, (eW_blocks w x).2.2⟩
    · rw [set_same HB.out.get]; exact HB.out.kept (eW_below w x)
    · exact Fr.of_below (eW_below w x)
  case round =>
    obtain ⟨k, bv', bkk, sk, nk, rfl, hk, hsk, hok, hbl, he1, he2, hes⟩ := hrel
    have HES : Hid (ES w wr X o C t bv bv' bkk x sk nk) := hes
    have HE1 : Hid (entB (lvs.drop k) k bkk nk = entB lvs 0 bk x.lb) := he1
    have HE2 : Hid (sk ++ entS (lvs.drop k) k bkk nk = entS lvs 0 bk x.lb) := he2
    have hs3 : w.heap.size + 3 < wr.heap.size := (Array.getElem?_eq_some_iff.1 hes.b3).1
    clear hes he1 he2
    by_cases hlt : k < n
    · have HD := drop_lv lvs k (by rw [HLN.out]; exact hlt)
      have HE1' : Hid (entB (lvs.drop (k + 1)) (k + 1) (giveB bkk k (lvG lvs k) nk) (giveN bkk k (lvG lvs k) nk) = entB lvs 0 bk x.lb) := by
        show _ = _; rw [← HE1.out, HD]; rfl
      have HE2' : Hid ((sk ++ [giveN bkk k (lvG lvs k) nk]) ++ entS (lvs.drop (k + 1)) (k + 1) (giveB bkk k (lvG lvs k) nk) (giveN bkk k (lvG lvs k) nk) = entS lvs 0 bk x.lb) := by
        show _ = _; rw [← HE2.out, HD, List.append_assoc]; rfl
      have HATr : LvAt wr b 0 lvs := lvAt_of (At.fr (at_of_lv HAT.out) HES.out.fr (fun e => by rcases e with e | e; exact hbX e; exact HBV.out e))
      obtain ⟨c0, c1, c2, c3⟩ := HATr k (by rw [HLN.out]; exact hlt)
      simp only [Nat.zero_add] at c0 c1 c2 c3
      obtain ⟨k1, k2, k3, k4⟩ := HOK.out k hlt
      have hbl2 := giveB_len bkk k (lvG lvs k) nk
      have HOKN : Hid (okS (giveN bkk k (lvG lvs k) nk)) := giveN_ok hok
      have n0 : wr.cell? ⟨w.heap.size + 3, 0, none⟩ = some (.int .u8 nk.a) := cell_blk HES.out.b3 rfl
      have n1 : wr.cell? ⟨w.heap.size + 3, 1, none⟩ = some (.int .u8 nk.b) := cell_blk HES.out.b3 rfl
      have n2 : wr.cell? ⟨w.heap.size + 3, 2, none⟩ = some (.int .u8 nk.c) := cell_blk HES.out.b3 rfl
      clear HATr HD
      generalize hLL : lvG lvs k = L at *
      have HESd : Hid (ES w wr.drew X o C t bv bv' bkk x sk nk) := HES.out.drew
      go_upto_region 6 with fail
      go_cut [34] from 17 to 34 (fun v wx => ∃ bv2, ES w wx X o C t bv bv2 (giveB bkk k L nk) x sk (giveN bkk k L nk))
      case first =>
        go_region_with (go_at_call 44; refine (give_any X o (C.setIfInBounds o bv') t bv' bkk k L nk _ HESd.out.bok (by omega) k1 k2 hok k3 k4 (by omega)).mono ?_; rintro e w' ⟨rfl, hpost⟩; obtain ⟨bv2, hes2⟩ := HESd.out.give hX HBO.out hpost; have y0 := cell_blk (o := 0) hes2.b3 rfl; have y1 := cell_blk (o := 1) hes2.b3 rfl; have y2 := cell_blk (o := 2) hes2.b3 rfl; have z0 := fun o => froz_blk (o := o) hes2.b3)
        all_goals go_wp2_with fail
        all_goals go_meet
        all_goals (case rel => exact ⟨bv2, hes2.name hX HBO.out _⟩)
      case rest =>
        obtain ⟨bv2, hes2⟩ := hcut
        have HES2 : Hid (ES w wc X o C t bv bv2 (giveB bkk k L nk) x sk (giveN bkk k L nk)) := hes2
        clear hes2 n0 n1 n2 c0 c1 c2 c3 HES HESd hok
        generalize giveN bkk k L nk = NK at *
        generalize giveB bkk k L nk = BK at *
        have n0 : wc.cell? ⟨w.heap.size + 3, 0, none⟩ = some (.int .u8 NK.a) := cell_blk HES2.out.b3 rfl
        have n1 : wc.cell? ⟨w.heap.size + 3, 1, none⟩ = some (.int .u8 NK.b) := cell_blk HES2.out.b3 rfl
        have n2 : wc.cell? ⟨w.heap.size + 3, 2, none⟩ = some (.int .u8 NK.c) := cell_blk HES2.out.b3 rfl
        obtain ⟨pa, pb, pc, q0, q1, q2⟩ := pt_cell x sk k (by omega)
        have x0 := cell_blk HES2.out.b2 q0
        have x1 := cell_blk HES2.out.b2 q1
        have x2 := cell_blk HES2.out.b2 q2
        have z := fun o => froz_blk (o := o) HES2.out.b2
        clear q0 q1 q2
        go_wp2_with fail
        subst hsk
        exact ⟨⟨sk.length + 1, bv2, BK, sk ++ [NK], NK, by go_num, by omega, by simp, HOKN.out, by omega, HE1'.out, HE2'.out, HES2.out.ser hX HBO.out NK (by omega)⟩, by simp [intOf]; omega⟩
    · have hkn : k = n := by omega
      have hdr : lvs.drop k = [] := List.drop_of_length_le (by rw [HLN.out]; omega)
      have HR1 : Hid (entB lvs 0 bk x.lb = bkk) := by show _ = _; rw [← HE1.out, hdr]; rfl
      have HR2 : Hid (entS lvs 0 bk x.lb = sk) := by show _ = _; rw [← HE2.out, hdr]; simp [entS]
      clear hdr
      obtain ⟨bb1, bb2⟩ := And.intro HES.out.b1 HES.out.b2
      have P := fun j v (h : (ptC ⟨x.time, x.value, sk⟩)[j]? = some v) => cell_blk HES.out.b2 h
      have p0 := P 0 _ rfl
      have p1 := P 1 _ rfl
      have p2 := P 2 _ rfl
      have p3 := P 3 _ rfl
      have p4 := P 4 _ rfl
      have p5 := P 5 _ rfl
      have p6 := P 6 _ rfl
      have p7 := P 7 _ rfl
      have p8 := P 8 _ rfl
      have p9 := P 9 _ rfl
      have p10 := P 10 _ rfl
      have p11 := P 11 _ rfl
      have p12 := P 12 _ rfl
      have p13 := P 13 _ rfl
      have R := fun j v (h : zPt[j]? = some v) => cell_blk HES.out.b1 h
      have r0 := R 0 _ rfl
      have r1 := R 1 _ rfl
      have r2 := R 2 _ rfl
      have r3 := R 3 _ rfl
      have r4 := R 4 _ rfl
      have r5 := R 5 _ rfl
      have r6 := R 6 _ rfl
      have r7 := R 7 _ rfl
      have r8 := R 8 _ rfl
      have r9 := R 9 _ rfl
      have r10 := R 10 _ rfl
      have r11 := R 11 _ rfl
      have r12 := R 12 _ rfl
      have r13 := R 13 _ rfl
      have z := fun o => froz_blk (o := o) HES.out.b1
      clear P R bb1 bb2
      go_wp2_with fail
      refine bodyPost_ret (v := .agg (ptC ⟨x.time, x.value, sk⟩)) (by simp [results, Try.results29, go_sem, r0, r1, r2, r3, r4, r5, r6, r7, r8, r9, r10, r11, r12, r13]) rfl ?_
      rw [HR1.out, HR2.out]
      refine ⟨rfl, BP.post (bv' := bv') ?_⟩
      refine BP.set ?_ hX HBO.out
      refine BP.set ?_ hX HBO.out
      refine BP.set ?_ hX HBO.out
      refine BP.set ?_ hX HBO.out
      refine BP.set ?_ hX HBO.out
      refine BP.set ?_ hX HBO.out
      refine BP.set ?_ hX HBO.out
      refine BP.set ?_ hX HBO.out
      refine BP.set ?_ hX HBO.out
      refine BP.set ?_ hX HBO.out
      refine BP.set ?_ hX HBO.out
      refine BP.set ?_ hX HBO.out
      refine BP.set ?_ hX HBO.out
      refine BP.set ?_ hX HBO.out
      exact ⟨HES.out.bok, HES.out.fr, HES.out.own⟩

end Go.Proofs.Ythciddpljcbhiab

/- A store in memory; its time; a query of it. -/
namespace Go.Proofs.Ythciddpljcbhiab
open Go Go.RowKit Go.Lib

abbrev stC (s : St) (tk : Int) (L lcap : Nat) (pv bv gv : Value) : Array Value := #[.int .i64 s.c.span, .int .i64 s.c.keep, .slice (some ⟨L, 0, none⟩) s.c.lvs.length lcap, .int .i64 s.now, .int .i64 tk, pv, bv, gv]
/-- A store at a block, by what it is made of; all of it lies in blocks of F. -/
structure StAt (w : World) (X : Nat) (F : Nat → Prop) (s sb : St) (tk : Int) (L lcap : Nat) (pv bv : Value) (bk : List Ad) (gv : Value) (lg : ByteArray) : Prop where
  blk : w.heap[X]? = some (.cells (stC s tk L lcap pv bv gv) 62 (0, 0))
  lv : LvAt w L 0 s.c.lvs
  pts : w.ownsRow 0 78 14 pv s.pts.length (flatP s.pts)
  bok : w.ownsRow 0 121 4 bv bk.length (flatA bk)
  log : w.ownsRow 0 5 1 gv lg.size (strCells lg)
  lgl : (lg.size : Int) ≤ 7 * s.now + 17 * tk
  bOk : BookOk sb bk
  inv : Inv s
  wf : LvWf s.c.lvs
  XL : X ≠ L
  pX : pv.ownBlock ≠ some X
  pL : pv.ownBlock ≠ some L
  bX : bv.ownBlock ≠ some X
  bL : bv.ownBlock ≠ some L
  pb : ∀ k, pv.ownBlock = some k → bv.ownBlock ≠ some k
  gX : gv.ownBlock ≠ some X
  gL : gv.ownBlock ≠ some L
  gp : ∀ k, pv.ownBlock = some k → gv.ownBlock ≠ some k
  gb : ∀ k, bv.ownBlock = some k → gv.ownBlock ≠ some k
  fX : F X
  fL : F L
  fp : ∀ k, pv.ownBlock = some k → F k
  fb : ∀ k, bv.ownBlock = some k → F k
  fg : ∀ k, gv.ownBlock = some k → F k
def StoreAt (w : World) (X : Nat) (F : Nat → Prop) (s : St) (lg : ByteArray) : Prop := ∃ L lcap pv bv bk gv, StAt w X F s s s.l.length L lcap pv bv bk gv lg

section
variable {w : World} {X : Nat} {F : Nat → Prop} {s sb : St} {tk : Int} {L lcap : Nat} {pv bv : Value} {bk : List Ad} {gv : Value} {lg : ByteArray}
theorem StAt.lt (h : StAt w X F s sb tk L lcap pv bv bk gv lg) : X < w.heap.size := (Array.getElem?_eq_some_iff.1 h.blk).1
theorem StAt.len (h : StAt w X F s sb tk L lcap pv bv bk gv lg) : 1 ≤ s.c.lvs.length ∧ s.c.lvs.length ≤ 4 := ⟨(Cf.right_parts h.inv.right).2.2.2.2.1, (Cf.right_parts h.inv.right).2.2.2.2.2.1⟩
theorem StAt.Llt (h : StAt w X F s sb tk L lcap pv bv bk gv lg) : L < w.heap.size := h.lv.block (by have := h.len; omega)
theorem StAt.cell (h : StAt w X F s sb tk L lcap pv bv bk gv lg) (j : Nat) (v : Value) (hv : (stC s tk L lcap pv bv gv)[j]? = some v) : w.cell? ⟨X, j, none⟩ = some v := cell_blk h.blk hv
theorem StAt.frozen (h : StAt w X F s sb tk L lcap pv bv bk gv lg) (j : Nat) : w.frozen? ⟨X, j, none⟩ = false := froz_blk h.blk
/-- What leaves the store's blocks as they were leaves the store. -/
theorem StAt.keep (h : StAt w X F s sb tk L lcap pv bv bk gv lg) {w' : World} (hk : ∀ k, F k → k < w.heap.size → w'.heap[k]? = w.heap[k]?) : StAt w' X F s sb tk L lcap pv bv bk gv lg := by
  have ho : ∀ {e : TypeId} {size : Nat} {v : Value} {n : Nat} {xs : List Value}, w.ownsRow 0 e size v n xs → (∀ k, v.ownBlock = some k → F k) → w'.ownsRow 0 e size v n xs := by
    intro e size v n xs h1 h2
    refine ⟨h1.1, ?_⟩
    rcases h1.2 with hn | ⟨g, cap, cur, rfl, hb', hg, rest⟩
    · exact .inl hn
    · refine .inr ⟨g, cap, cur, rfl, hb', ?_, rest⟩
      rw [hk g (h2 g rfl) (Array.getElem?_eq_some_iff.1 hg).1]
      exact hg
  have hlv : LvAt w' L 0 s.c.lvs := by
    intro i hi
    have e := hk L h.fL h.Llt
    obtain ⟨c0, c1, c2, c3⟩ := h.lv i hi
    exact ⟨(World.cell?_of_block (a := ⟨L, _, none⟩) e).trans c0, (World.cell?_of_block (a := ⟨L, _, none⟩) e).trans c1, (World.cell?_of_block (a := ⟨L, _, none⟩) e).trans c2, (World.cell?_of_block (a := ⟨L, _, none⟩) e).trans c3⟩
  exact { h with blk := by rw [hk X h.fX h.lt]; exact h.blk, lv := hlv, pts := ho h.pts h.fp, bok := ho h.bok h.fb, log := ho h.log h.fg }
theorem StAt.below (h : StAt w X F s sb tk L lcap pv bv bk gv lg) {w' : World} (hb : Below w.heap.size w w') : StAt w' X F s sb tk L lcap pv bv bk gv lg := h.keep fun k _ hk => hb.block k hk
theorem StoreAt.keep (h : StoreAt w X F s lg) {w' : World} (hk : ∀ k, F k → k < w.heap.size → w'.heap[k]? = w.heap[k]?) : StoreAt w' X F s lg :=
  let ⟨L, lcap, pv, bv, bk, gv, h⟩ := h; ⟨L, lcap, pv, bv, bk, gv, h.keep hk⟩
theorem StoreAt.below (h : StoreAt w X F s lg) {w' : World} (hb : Below w.heap.size w w') : StoreAt w' X F s lg := h.keep fun k _ hk => hb.block k hk
theorem StoreAt.lt (h : StoreAt w X F s lg) : X < w.heap.size := let ⟨_, _, _, _, _, _, h⟩ := h; h.lt
theorem StoreAt.inv (h : StoreAt w X F s lg) : Inv s := let ⟨_, _, _, _, _, _, h⟩ := h; h.inv
theorem StoreAt.mono (h : StoreAt w X F s lg) {F' : Nat → Prop} (hF : ∀ k, F k → F' k) : StoreAt w X F' s lg :=
  let ⟨L, lcap, pv, bv, bk, gv, h⟩ := h; ⟨L, lcap, pv, bv, bk, gv, { h with fX := hF _ h.fX, fL := hF _ h.fL, fp := fun k e => hF k (h.fp k e), fb := fun k e => hF k (h.fb k e), fg := fun k e => hF k (h.fg k e) }⟩
end

/-- All points are points of the store. -/
theorem serOf_len' (s : St) (x : Sm) : (serOf s.c.lvs s.adm x.lb).length = s.c.lvs.length := serOf_len _ _ _
theorem pts_ok {s : St} (h : Inv s) : ∀ p ∈ s.pts, PtOk s.c p := by
  intro p hp
  unfold St.pts at hp
  obtain ⟨x, hx, rfl⟩ := List.mem_map.1 (List.mem_filter.1 hp).1
  obtain ⟨h1, h2⟩ := h.ok x hx
  obtain ⟨t0, t1, _⟩ := (smOk_iff x).1 h1
  exact ⟨t0, t1, h2.2.2.2.2.1, h2.2.2.2.2.2, serOf_len' s x⟩
theorem pts_len {s : St} (h : Inv s) : s.pts.length ≤ 500 := by
  unfold St.pts
  have h1 := List.length_filter_le (fun p : Pt => liveB s.c s.now p.time) (s.l.map (ptOf s.c.lvs s.adm))
  rw [List.length_map] at h1
  have := h.len
  omega

theorem now_any (X : Nat) (F : Nat → Prop) (s : St) {lg : ByteArray} (w : World) (h : StoreAt w X F s lg) : Calls Try.prog 25 #[.pointer (some ⟨X, 0, none⟩)] w fun e w' => e = .returned (.int .i64 s.now) ∧ w' = w := by
  obtain ⟨L, lcap, pv, bv, bk, gv, h⟩ := h
  have c3 := h.cell 3 _ rfl
  clear h
  go_enter Try.func25, Try.ntmps25
  go_wp2_with fail
  go_ret
  exact ⟨rfl, rfl⟩

/-- The rows of a query that is answered, none of one that is not. -/
def rowsA (s : St) (q : Qy) : List Rw := if qE s.c s.now q = 0 then s.rows q else []
theorem qE_zero {c : Cf} {now : Int} {q : Qy} (h : qE c now q = 0) : rightQ q = true ∧ ¬ c.keep < c.age now q.fr := by
  unfold qE at h
  split at h
  · omega
  · next h1 =>
    split at h
    · omega
    · next h2 => exact ⟨by simpa using h1, h2⟩
theorem qE_le (c : Cf) (now : Int) (q : Qy) : 0 ≤ qE c now q ∧ qE c now q ≤ 13 := by
  unfold qE
  repeat (first | split | omega)


/-- All that was in F, and what is new. -/
def gF (F : Nat → Prop) (w w' : World) (k : Nat) : Prop := F k ∨ (w.heap.size ≤ k ∧ k < w'.heap.size)
theorem StAt.mono {w : World} {X : Nat} {F F' : Nat → Prop} {s sb : St} {tk : Int} {L lcap : Nat} {pv bv : Value} {bk : List Ad} {gv : Value} {lg : ByteArray} (h : StAt w X F s sb tk L lcap pv bv bk gv lg) (hF : ∀ k, F k → F' k) : StAt w X F' s sb tk L lcap pv bv bk gv lg :=
  { h with fX := hF _ h.fX, fL := hF _ h.fL, fp := fun k e => hF k (h.fp k e), fb := fun k e => hF k (h.fb k e), fg := fun k e => hF k (h.fg k e) }
theorem gF_trans {F : Nat → Prop} {w w1 w2 : World} (h1 : w.heap.size ≤ w1.heap.size) (h2 : w1.heap.size ≤ w2.heap.size) : ∀ k, gF (gF F w w1) w1 w2 k → gF F w w2 k := by
  intro k h
  rcases h with (h | h) | h
  · exact .inl h
  · exact .inr ⟨h.1, by omega⟩
  · exact .inr ⟨by omega, h.2⟩
theorem Fr.gF {F : Nat → Prop} {w w1 w2 : World} (h1 : Fr F w w1) (h2 : Fr (gF F w w1) w1 w2) : Fr F w w2 := h1.trans h2 fun k e => by rcases e with e | e; exact .inl e; exact .inr e.1

/-- What leaves the store's own blocks as they were leaves the store. -/
theorem StAt.keepE {w w' : World} {X : Nat} {F : Nat → Prop} {s sb : St} {tk : Int} {L lcap : Nat} {pv bv : Value} {bk : List Ad} {gv : Value} {lg : ByteArray} (h : StAt w X F s sb tk L lcap pv bv bk gv lg) (hk : ∀ k, k = X ∨ k = L ∨ pv.ownBlock = some k ∨ bv.ownBlock = some k ∨ gv.ownBlock = some k → w'.heap[k]? = w.heap[k]?) : StAt w' X F s sb tk L lcap pv bv bk gv lg := by
  have h0 : StAt w X (fun k => k = X ∨ k = L ∨ pv.ownBlock = some k ∨ bv.ownBlock = some k ∨ gv.ownBlock = some k) s sb tk L lcap pv bv bk gv lg := { h with fX := .inl rfl, fL := .inr (.inl rfl), fp := fun k e => .inr (.inr (.inl e)), fb := fun k e => .inr (.inr (.inr (.inl e))), fg := fun k e => .inr (.inr (.inr (.inr e))) }
  refine (h0.keep (fun k e _ => hk k e)).mono (fun k e => ?_)
  rcases e with rfl | rfl | e | e | e
  · exact h.fX
  · exact h.fL
  · exact h.fp k e
  · exact h.fb k e
  · exact h.fg k e

/-- The book of a store behind an entering. -/
theorem st_book {w w' : World} {X : Nat} {F : Nat → Prop} {s sb sb' : St} {tk : Int} {L lcap : Nat} {pv bv : Value} {bk bk' : List Ad} {gv : Value} {lg : ByteArray} (h : StAt w X F s sb tk L lcap pv bv bk gv lg) (hp : BookPost w X 6 (stC s tk L lcap pv bv gv) 62 bv bk' w') (hb : BookOk sb' bk') :
    ∃ bv', StAt w' X (gF F w w') s sb' tk L lcap pv bv' bk' gv lg ∧ Fr F w w' ∧ (bv'.ownBlock = bv.ownBlock ∨ ∀ k, bv'.ownBlock = some k → w.heap.size ≤ k) := by
  obtain ⟨bv', h1, h2, h3⟩ := hp
  have hne : ∀ k, k < w.heap.size → bv.ownBlock ≠ some k → bv'.ownBlock ≠ some k := by
    intro k hk hn e
    rcases h3 with h3 | h3
    · rw [h3] at e; exact hn e
    · have := h3 k e; omega
  have hnot : ∀ k, k ≠ X → bv.ownBlock ≠ some k → ¬ (k = X ∨ bv.ownBlock = some k) := fun k a b e => e.elim a b
  refine ⟨bv', ?_, h2.mono fun k e => by (rcases e with e | e; (rw [e]; exact h.fX); exact h.fb k e), h3⟩
  exact { blk := h1.blk, lv := lvAt_of (At.fr (at_of_lv h.lv) h2 (hnot L (fun e => h.XL e.symm) h.bL)), pts := owns_fr h.pts h2 (fun k e => hnot k (fun e' => h.pX (by rw [← e']; exact e)) (h.pb k e)), bok := h1.own, log := owns_fr h.log h2 (fun k e => hnot k (fun e' => h.gX (by rw [← e']; exact e)) (fun e' => h.gb k e' e)), lgl := h.lgl, bOk := hb, inv := h.inv, wf := h.wf, XL := h.XL, pX := h.pX, pL := h.pL, bX := h1.ne,
          bL := hne L h.Llt h.bL, pb := fun k e => hne k (h.pts.lt k e).2 (h.pb k e), gX := h.gX, gL := h.gL, gp := h.gp, gb := fun k e e' => hne k (h.log.lt k e').2 (fun e2 => h.gb k e2 e') e, fg := fun k e => .inl (h.fg k e), fX := .inl h.fX, fL := .inl h.fL, fp := fun k e => .inl (h.fp k e),
          fb := fun k e => by
            rcases h3 with h3 | h3
            · rw [h3] at e; exact .inl (h.fb k e)
            · exact .inr ⟨h3 k e, (h1.own.lt k e).2⟩ }
/-- The points of a store behind an append. -/
theorem st_put {w W w3 : World} {X : Nat} {F : Nat → Prop} {s s' sb : St} {tk : Int} {L lcap : Nat} {pv pv' bv : Value} {bk : List Ad} {p : Pt} {gv : Value} {lg : ByteArray} (h : StAt w X F s sb tk L lcap pv bv bk gv lg) (hb : Below w.heap.size w W) (hg : W.grownBy w3 pv.ownBlock) (ho : w3.ownsRow 0 78 14 pv' (s.pts.length + 1) (flatP s.pts ++ p.cells))
    (hk : pv'.ownBlock = pv.ownBlock ∨ ∀ k, pv'.ownBlock = some k → W.heap.size ≤ k) (hc : s'.c = s.c) (hn : s'.now = s.now) (hp : s'.pts = s.pts ++ [p]) (hi : Inv s') :
    StAt (w3.setCell ⟨X, 5, none⟩ pv') X (gF F w (w3.setCell ⟨X, 5, none⟩ pv')) s' sb tk L lcap pv' bv bk gv lg ∧ Fr F w (w3.setCell ⟨X, 5, none⟩ pv') := by
  have hs3 : (w3.setCell ⟨X, 5, none⟩ pv').heap.size = w3.heap.size := by simp [World.setCell]
  have hX3 : w3.heap[X]? = w.heap[X]? := gr_heap hb hg h.lt h.pX
  have hpX := gr_ne hb hk h.lt h.pX
  have hpL := gr_ne hb hk h.Llt h.pL
  have hblk : ∀ k, k < w.heap.size → pv.ownBlock ≠ some k → k ≠ X → (w3.setCell ⟨X, 5, none⟩ pv').heap[k]? = w.heap[k]? := by
    intro k hk1 hk2 hk3
    rw [Below.heap_setCell _ _ _ _ hk3]
    exact gr_heap hb hg hk1 hk2
  have hfr : Fr F w (w3.setCell ⟨X, 5, none⟩ pv') := (Fr.grown (Fr.of_below hb) hg (fun k e => .inl (h.fp k e))).setCell (.inl h.fX) _
  have hfr' : Fr (fun k => k = X ∨ pv.ownBlock = some k) w (w3.setCell ⟨X, 5, none⟩ pv') := (Fr.grown (Fr.of_below hb) hg (fun k e => .inl (.inr e))).setCell (.inl (.inl rfl)) _
  refine ⟨?_, hfr⟩
  have hlv := lvAt_of (At.fr (at_of_lv h.lv) hfr' (fun e => by rcases e with e | e; exact h.XL e.symm; exact h.pL e))
  have hbo : ∀ k, bv.ownBlock = some k → ¬ (k = X ∨ pv.ownBlock = some k) := fun k e e' => by
    rcases e' with e' | e'
    · exact h.bX (by rw [← e']; exact e)
    · exact h.pb k e' e
  have hgo : ∀ k, gv.ownBlock = some k → ¬ (k = X ∨ pv.ownBlock = some k) := fun k e e' => by
    rcases e' with e' | e'
    · exact h.gX (by rw [← e']; exact e)
    · exact h.gp k e' e
  exact { blk := by
            have e : stC s' tk L lcap pv' bv gv = (stC s tk L lcap pv bv gv).setIfInBounds 5 pv' := by unfold stC; rw [hc, hn]; rfl
            rw [e]
            exact heap_setCell (hX3.trans h.blk),
          lv := by rw [hc]; exact hlv, pts := by
            rw [hp, show (s.pts ++ [p]).length = s.pts.length + 1 by simp, show flatP (s.pts ++ [p]) = flatP s.pts ++ p.cells from flat_snoc _ _ _]
            exact owns_other ho hpX,
          bok := owns_fr h.bok hfr' hbo, log := owns_fr h.log hfr' hgo, lgl := by rw [hn]; exact h.lgl, bOk := h.bOk, inv := hi, wf := by rw [hc]; exact h.wf, XL := h.XL, pX := hpX, pL := hpL, bX := h.bX, bL := h.bL,
          pb := fun k e e' => by
            rcases hk with hk | hk
            · rw [hk] at e; exact h.pb k e e'
            · have := hk k e; have := (h.bok.lt k e').2; have := hb.size; omega
          gX := h.gX, gL := h.gL, gb := h.gb, fg := fun k e => .inl (h.fg k e), gp := fun k e e' => by
            rcases hk with hk | hk
            · rw [hk] at e; exact h.gp k e e'
            · have := hk k e; have := (h.log.lt k e').2; have := hb.size; omega
          fX := .inl h.fX, fL := .inl h.fL, fp := fun k e => by
            rcases hk with hk | hk
            · rw [hk] at e; exact .inl (h.fp k e)
            · have h1 := hk k e; have h2 := (ho.lt k e).2; have h3 := hb.size; exact .inr ⟨by omega, by rw [hs3]; exact h2⟩
          fb := fun k e => .inl (h.fb k e) }

end Go.Proofs.Ythciddpljcbhiab

/- A store's log: bytes appended (any program); its cells set. -/
namespace Go.Proofs.Ythciddpljcbhiab
open Go Go.RowKit Go.Lib

/-- An append of a string's bytes leaves the row where it was, or makes a new block. -/
theorem append_block_str {P : Program} {w : World} (base : Nat) (t u ty e : TypeId) (i : TypeInfo) (ht : P.underlying t = some (.slice e)) (hu : P.underlying u = some .string) (hi : P.info? e = some i) (hz : i.zero = some (.int .u8 0))
    (hsize : i.size = 1) (hby : i.bytes = 1) (v : Value) (n : Nat) (xs : List Value) (hown : w.ownsRow base e 1 v n xs) (x : ByteArray)
    (h63 : n + x.size ≤ maxLen) (hbytes : n + x.size ≤ 140737488355328) {v' : Value} {w' : World} (hr : (Builtin.append_ #[t, u] ty #[v, .string x]).run P w = .ok v' w') :
    v'.ownBlock = v.ownBlock ∨ ∀ k, v'.ownBlock = some k → w.heap.size ≤ k := by
  have hxl : xs.length = n := by simpa using hown.1
  rcases hown.2 with ⟨rfl, rfl⟩ | ⟨g, cap, cur, rfl, hbg, hg, hnc, hcm, hcs, htake⟩
  · obtain rfl : xs = [] := List.eq_nil_of_length_eq_zero hxl
    obtain ⟨v2, w2, hr2, h2, _, _⟩ := run_append_own_string (P := P) w w.heap.size t u ty e i ht hu hi hz hsize hby (.slice none 0 0) 0 [] (World.ownsRow_nil _ _ _ _) x h63 hbytes (Nat.le_refl _)
    rw [hr2] at hr
    injection hr with h3 _
    subst h3
    exact .inr fun k hk => (h2.lt k hk).1
  · have hcs' : cur.size = cap := by simpa using hcs
    by_cases hroom : n + x.size ≤ cap
    · have hr2 := run_append_room_string (P := P) w t u ty e i ht hu hi hsize g n cap cur hg x hroom (by omega)
      rw [hr2] at hr
      injection hr with h3 _
      subst h3
      exact .inl rfl
    · have holds : ∀ j u, xs[j]? = some u → w.cell? ((⟨g, 0, none⟩ : Addr).add j) = some u := hown.cells (g := g) rfl
      have hr2 := run_append_grow_string (P := P) w t u ty e i (.int .u8 0) ht hu hi hz ⟨g, 0, none⟩ n cap xs (by rw [hsize]; simpa using hxl) holds x (by omega) (by omega) (by rw [hby]; exact growslice_fits (by omega) (by omega))
      rw [hr2] at hr
      injection hr with h3 _
      subst h3
      refine .inr fun k hk => ?_
      simp [Value.ownBlock] at hk
      omega

/-- An append of a string's bytes onto a row of the call's own, as a step of a list. -/
theorem listAppendStr {P : Program} {w : World} {ops : Array Oper} {rest : List Oper} {o : Oper} {a : Act} {Q : Exit → Act → World → Prop} (hgd : o.guard = none) (s x : Operand) (t u : TypeId)
    (ho : o.op = .call { callee := .builtin .append, args := #[s, x], argTypes := #[t, u] })
    (base : Nat) (e : TypeId) (i : TypeInfo) (ht : P.underlying t = some (.slice e)) (hu : P.underlying u = some .string) (hi : P.info? e = some i) (hz : i.zero = some (.int .u8 0)) (hsize : i.size = 1) (hby : i.bytes = 1)
    (v : Value) (n : Nat) (xs : List Value) (hs : a.eval s = v) (hown : w.ownsRow base e 1 v n xs) (y : ByteArray) (hx : a.eval x = .string y)
    (h63 : n + y.size ≤ maxLen) (hbytes : n + y.size ≤ 140737488355328) (hbase : base ≤ w.heap.size)
    (h : ∀ v' w', w'.ownsRow base e 1 v' (n + y.size) (xs ++ strCells y) → w.grownBy w' v.ownBlock → (v'.ownBlock = v.ownBlock ∨ ∀ k, v'.ownBlock = some k → w.heap.size ≤ k) → wpList P ops Q rest (a.put o.dst v') w') : wpList P ops Q (o :: rest) a w := by
  refine wpList_plain hgd fun K hK => ?_
  obtain ⟨v', w', hr, h2, h3, _⟩ := run_append_own_string (P := P) w base t u o.type e i ht hu hi hz hsize hby v n xs hown y h63 hbytes hbase
  have hk := append_block_str base t u o.type e i ht hu hi hz hsize hby v n xs hown y h63 hbytes hr
  unfold Oper.wp execOp
  simp only [ho, resolve, invoke, builtin, Sem.run_bind, Sem.run_pure, Result.andThen_ok, List.map_toArray, List.map_cons, List.map_nil, hs, hx, hr]
  exact hK _ _ (h v' w' h2 h3 hk)

theorem strCells_append (a b : ByteArray) : strCells (a ++ b) = strCells a ++ strCells b := by simp [strCells]

section
variable {w w3 : World} {X : Nat} {F : Nat → Prop} {s sb : St} {tk : Int} {L lcap : Nat} {pv bv : Value} {bk : List Ad} {gv gv' : Value} {lg : ByteArray}
/-- The log of a store behind an append. -/
theorem st_log {x : ByteArray} (h : StAt w X F s sb tk L lcap pv bv bk gv lg) (hg : w.grownBy w3 gv.ownBlock) (ho : w3.ownsRow 0 5 1 gv' (lg.size + x.size) (strCells lg ++ strCells x))
    (hk : gv'.ownBlock = gv.ownBlock ∨ ∀ k, gv'.ownBlock = some k → w.heap.size ≤ k) (hl : (((lg ++ x).size : Nat) : Int) ≤ 7 * s.now + 17 * tk) :
    StAt (w3.setCell ⟨X, 7, none⟩ gv') X (gF F w (w3.setCell ⟨X, 7, none⟩ gv')) s sb tk L lcap pv bv bk gv' (lg ++ x) ∧ Fr F w (w3.setCell ⟨X, 7, none⟩ gv') := by
  have hb : Below w.heap.size w w := Below.refl _ _
  have hs3 : (w3.setCell ⟨X, 7, none⟩ gv').heap.size = w3.heap.size := by simp [World.setCell]
  have hX3 : w3.heap[X]? = w.heap[X]? := gr_heap hb hg h.lt h.gX
  have hgX := gr_ne hb hk h.lt h.gX
  have hgL := gr_ne hb hk h.Llt h.gL
  have hfr : Fr F w (w3.setCell ⟨X, 7, none⟩ gv') := (Fr.grown (Fr.of_below hb) hg (fun k e => .inl (h.fg k e))).setCell (.inl h.fX) _
  have hfr' : Fr (fun k => k = X ∨ gv.ownBlock = some k) w (w3.setCell ⟨X, 7, none⟩ gv') := (Fr.grown (Fr.of_below hb) hg (fun k e => .inl (.inr e))).setCell (.inl (.inl rfl)) _
  refine ⟨?_, hfr⟩
  have hlv := lvAt_of (At.fr (at_of_lv h.lv) hfr' (fun e => by rcases e with e | e; exact h.XL e.symm; exact h.gL e))
  have hpo : ∀ k, pv.ownBlock = some k → ¬ (k = X ∨ gv.ownBlock = some k) := fun k e e' => by
    rcases e' with e' | e'
    · exact h.pX (by rw [← e']; exact e)
    · exact h.gp k e e'
  have hbo : ∀ k, bv.ownBlock = some k → ¬ (k = X ∨ gv.ownBlock = some k) := fun k e e' => by
    rcases e' with e' | e'
    · exact h.bX (by rw [← e']; exact e)
    · exact h.gb k e e'
  have hnew : ∀ k, k < w.heap.size → gv.ownBlock ≠ some k → gv'.ownBlock ≠ some k := fun k h1 h2 => gr_ne hb hk h1 h2
  exact { blk := by
            have e : stC s tk L lcap pv bv gv' = (stC s tk L lcap pv bv gv).setIfInBounds 7 gv' := rfl
            rw [e]
            exact heap_setCell (hX3.trans h.blk),
          lv := hlv, pts := owns_fr h.pts hfr' hpo, bok := owns_fr h.bok hfr' hbo,
          log := by
            rw [ByteArray.size_append, strCells_append]
            exact owns_other ho hgX,
          lgl := hl, bOk := h.bOk, inv := h.inv, wf := h.wf, XL := h.XL, pX := h.pX, pL := h.pL, bX := h.bX, bL := h.bL, pb := h.pb,
          gX := hgX, gL := hgL, gp := fun k e => hnew k (h.pts.lt k e).2 (h.gp k e), gb := fun k e => hnew k (h.bok.lt k e).2 (h.gb k e),
          fX := .inl h.fX, fL := .inl h.fL, fp := fun k e => .inl (h.fp k e), fb := fun k e => .inl (h.fb k e), fg := fun k e => by
            rcases hk with hk | hk
            · rw [hk] at e; exact .inl (h.fg k e)
            · have h1 := hk k e; have h2 := (ho.lt k e).2; exact .inr ⟨h1, by rw [hs3]; exact h2⟩ }

/-- A cell of the store itself set. -/
theorem st_set {s' : St} {tk' : Int} {o : Nat} {v : Value} (h : StAt w X F s sb tk L lcap pv bv bk gv lg) (he : stC s' tk' L lcap pv bv gv = (stC s tk L lcap pv bv gv).setIfInBounds o v) (hc : s'.c = s.c) (hp : s'.pts = s.pts) (hi : Inv s') (hl : (lg.size : Int) ≤ 7 * s'.now + 17 * tk') :
    StAt (w.setCell ⟨X, o, none⟩ v) X F s' sb tk' L lcap pv bv bk gv lg ∧ Fr F w (w.setCell ⟨X, o, none⟩ v) := by
  have hfr' : Fr (fun k => k = X) w (w.setCell ⟨X, o, none⟩ v) := Fr.setCell (S := fun k => k = X) (Fr.refl _ _) (.inl rfl) _
  refine ⟨?_, hfr'.mono fun k e => by rw [e]; exact h.fX⟩
  exact { blk := by rw [he]; exact heap_setCell h.blk,
          lv := by rw [hc]; exact lvAt_of (At.fr (at_of_lv h.lv) hfr' (fun e => h.XL e.symm)),
          pts := by rw [hp]; exact owns_fr h.pts hfr' (fun k e e' => h.pX (by rw [← e']; exact e)), bok := owns_fr h.bok hfr' (fun k e e' => h.bX (by rw [← e']; exact e)), log := owns_fr h.log hfr' (fun k e e' => h.gX (by rw [← e']; exact e)),
          lgl := hl, bOk := h.bOk, inv := hi, wf := by rw [hc]; exact h.wf, XL := h.XL, pX := h.pX, pL := h.pL, bX := h.bX, bL := h.bL, pb := h.pb, gX := h.gX, gL := h.gL, gp := h.gp, gb := h.gb, fX := h.fX, fL := h.fL, fp := h.fp, fb := h.fb, fg := h.fg }
theorem StAt.bytes (h : StAt w X F s sb tk L lcap pv bv bk gv lg) (ht : tk ≤ 500) : lg.size ≤ 800000 := by
  have h1 := h.lgl
  have h2 := h.inv.n1
  omega
end

end Go.Proofs.Ythciddpljcbhiab

/- Walks: numbers as bytes, and the check. -/
namespace Go.Proofs.Ythciddpljcbhiab
open Go.RowKit

theorem ret_str {a b : ByteArray} (h : a = b) : Ending.returned (.string a) = .returned (.string b) := by rw [h]
theorem ret_u32 {a b : Int} (h : a = b) : Ending.returned (.int .u32 a) = .returned (.int .u32 b) := by rw [h]

/-- A slice of bytes that lies in a new block, as a string. -/
theorem convNew (w : World) (xs : List Int) (n : Nat) (hn : n = xs.length) (cap : Nat) (C : Array Value) (hC : C = (xs.map (Value.int .u8)).toArray) (g : Nat) (hg : g = w.heap.size) :
    (convert 60 9 (.slice (some ⟨g, 0, none⟩) n cap)).run Try.prog (w.alloc (.cells C 5)) = .ok (.string (strOfNums xs)) (w.alloc (.cells C 5)) := by
  subst hC hg hn
  refine run_convert_bytes_arg (P := Try.prog) _ 60 5 Try.underlying60 Try.underlying5 _ 0 _ cap xs rfl (fun i hi => ?_) 9 Try.underlying9
  have := at_alloc_new w (xs.map (Value.int .u8)) 5 i (.int .u8 (xs.getD i 0)) (by simp [List.getD, hi])
  simpa using this

theorem conv4 (w : World) (a b c d : Int) : (convert 60 9 (.slice (some ⟨w.heap.size, 0, none⟩) 4 4)).run Try.prog (w.alloc (.cells #[.int .u8 a, .int .u8 b, .int .u8 c, .int .u8 d] 5)) =
    .ok (.string (strOfNums [a, b, c, d])) (w.alloc (.cells #[.int .u8 a, .int .u8 b, .int .u8 c, .int .u8 d] 5)) := convNew w [a, b, c, d] 4 rfl 4 _ rfl _ rfl
theorem conv3 (w : World) (a b c : Int) : (convert 60 9 (.slice (some ⟨w.heap.size, 0, none⟩) 3 3)).run Try.prog (w.alloc (.cells #[.int .u8 a, .int .u8 b, .int .u8 c] 5)) =
    .ok (.string (strOfNums [a, b, c])) (w.alloc (.cells #[.int .u8 a, .int .u8 b, .int .u8 c] 5)) := convNew w [a, b, c] 3 rfl 3 _ rfl _ rfl
theorem conv2 (w : World) (a b : Int) : (convert 60 9 (.slice (some ⟨w.heap.size, 0, none⟩) 2 2)).run Try.prog (w.alloc (.cells #[.int .u8 a, .int .u8 b] 5)) =
    .ok (.string (strOfNums [a, b])) (w.alloc (.cells #[.int .u8 a, .int .u8 b] 5)) := convNew w [a, b] 2 rfl 2 _ rfl _ rfl

set_option maxRecDepth 100000 in
theorem number_any (n : Int) (w : World) (h0 : 0 ≤ n) (h1 : n < 4294967296) :
    Calls Try.prog 47 #[.int .u32 n] w fun e w' => e = .returned (.string (strOfNums (lowN n 4))) ∧ ∃ o, w' = w.alloc o := by
  have hcv := conv4
  rw [low4_eq n h0 h1]
  go_enter Try.func47, Try.ntmps47
  go_wp2
  go_ret
  exact ⟨rfl, _, rfl⟩

theorem check_any (s : ByteArray) (w : World) (hs : s.size ≤ maxLen) :
    Calls Try.prog 46 #[.string s] w fun e w' => e = .returned (.int .u32 (chk (nums s))) ∧ w' = w := by
  unfold maxLen at hs
  go_enter Try.func46, Try.ntmps46
  go_wp2
  go_loop [3, 4] (fun h i => ∃ k : Nat, k ≤ s.size ∧ i = .int .i64 k ∧ h = .int .u32 (chk ((nums s).take k))) (fun _ i => s.size - (intOf i).toNat)
  case atStart => exact ⟨0, Nat.zero_le _, rfl, rfl⟩
  case round =>
    obtain ⟨k, hk, rfl, rfl⟩ := hrel
    obtain ⟨hq0, hq1⟩ := chk_range ((nums s).take k)
    by_cases hlt : k < s.size
    · have HB : Hid (((s[k].toNat : Nat) : Int) = byt s k) := byt_eq s k hlt
      have HT : Hid (chk ((nums s).take (k + 1)) = chkS (chk ((nums s).take k)) (byt s k)) := by rw [nums_take s k hlt]; exact chk_snoc _ _
      go_wp2
      refine ⟨⟨k + 1, by omega, by go_num, ?_⟩, by simp [intOf]; omega⟩
      rw [HT.out, ← HB.out]
      unfold chkS
      have e : ∀ x y : Int, x = y → Value.int IntKind.u32 x = .int .u32 y := fun x y h => by rw [h]
      apply e
      omega
    · go_wp2
      go_ret
      exact ⟨ret_u32 (by rw [List.take_of_length_le (by rw [nums_len]; omega)]), rfl⟩

end Go.Proofs.Ythciddpljcbhiab

/- Walks: numbers as bytes by the document's answer (low, checked). -/
namespace Go.Proofs.Ythciddpljcbhiab
open Go.RowKit

theorem Try.info5' : (Try.prog.info? 5).map (fun i => (i.zero, i.size, i.bytes)) = some (some (.int .u8 0), 1, 1) := by kernel_rfl

theorem shrN_succ (n : Int) (k : Nat) : shrN n (k + 1) = shrN n k / 256 := rfl

/-- An owned row of bytes, as a string. -/
theorem convOwn {w : World} {B : Nat} {v : Value} {n : Nat} {xs : List Int} (h : w.ownsRow B 5 1 v n (xs.map (Value.int .u8))) (hn : 0 < n) : (convert 60 9 v).run Try.prog w = .ok (.string (strOfNums xs)) w := by
  have hlen : xs.length = n := by have := h.1; simpa using this
  obtain ⟨_, h2⟩ := h
  rcases h2 with ⟨_, h0⟩ | ⟨g, cap, cur, rfl, _, hg, hnc, _, hcs, ht⟩
  · omega
  · refine run_convert_bytes_arg (P := Try.prog) _ 60 5 Try.underlying60 Try.underlying5 g 0 n cap xs hlen (fun i hi => ?_) 9 Try.underlying9
    have e : (cur.toList.take (n * 1))[i]? = some (.int .u8 (xs.getD i 0)) := by rw [ht]; simp [List.getD, show i < xs.length by omega]
    rw [List.getElem?_take_of_lt (by omega), Array.getElem?_toList] at e
    simp [World.cell?, hg, e]

end Go.Proofs.Ythciddpljcbhiab

/- Walks: when a batch is right, by the program and by the document's answer. -/
namespace Go.Proofs.Ythciddpljcbhiab
open Go.RowKit

abbrev smO (x : Sm) : Obj := .cells #[.int .i64 x.time, .int .u8 x.l0, .int .u8 x.l1, .int .u8 x.l2, .int .i32 x.value] 75
abbrev smV (x : Sm) : Value := .agg #[.int .i64 x.time, .int .u8 x.l0, .int .u8 x.l1, .int .u8 x.l2, .int .i32 x.value]

theorem smRight_any (x : Sm) (w : World) :
    Calls Try.prog 60 #[smV x] w fun e w' => e = .returned (.bool (smOk x)) ∧ Below w.heap.size w w' := by
  have HI : Hid (smOk x = true ↔ 0 ≤ x.time ∧ x.time ≤ 100000 ∧ lab3 x.l0 x.l1 x.l2 = true) := smOk_iff x
  by_cases h : 0 ≤ x.time ∧ x.time ≤ 100000
  · obtain ⟨h0, h1⟩ := h
    go_enter Try.func60, Try.ntmps60
    go_wp2_with (go_at_call 75; refine (labRight_any _ _ _ _).mono ?_; rintro e w' ⟨rfl, rfl⟩)
    go_ret
    refine ⟨ret_bool ?_, by go_grown⟩
    rw [Bool.eq_iff_iff, HI.out]; simp [h0, h1]
  · have hf : smOk x = false := no_of (by rw [HI.out]; omega)
    rw [hf]
    clear hf
    go_enter Try.func60, Try.ntmps60
    by_cases h0 : 0 ≤ x.time
    · have h1 : 100000 < x.time := by omega
      go_wp2
      go_ret
      exact ⟨rfl, by go_grown⟩
    · go_wp2
      go_ret
      exact ⟨rfl, by go_grown⟩

theorem ret_i64' {a b : Int} (h : a = b) : Ending.returned (.int .i64 a) = .returned (.int .i64 b) := by rw [h]

def errS (b : Bool) : Int := if b then 0 else 5
theorem batE_no {ls : List Sm} (h : ¬ (1 ≤ ls.length ∧ ls.length ≤ 8)) : batE ls = 4 := by simp [batE, h]
theorem batE_yes {ls : List Sm} (h : 1 ≤ ls.length ∧ ls.length ≤ 8) : batE ls = errS (smsOk ls) := by simp [batE, h, errS]

set_option maxHeartbeats 400000 in
theorem checkBatch_any (a : Option Addr) (n cap : Nat) (ls : List Sm) (w : World) (h : IsSms w a n ls) :
    Calls Try.prog 42 #[.slice a n cap] w fun e w' => e = .returned (.int .i64 (batE ls)) ∧ Below w.heap.size w w' := by
  obtain ⟨hn, hx⟩ := h
  by_cases hb : 1 ≤ n ∧ n ≤ 8
  · obtain ⟨b, off, rfl, hat⟩ := hx (by omega)
    rw [batE_yes (by rw [hn]; exact hb)]
    obtain ⟨hb1, hb2⟩ := hb
    have hb0 : b < w.heap.size := hat.block (by omega)
    have HAT : Hid (SmAt w b off ls) := hat
    have HN : Hid (ls.length = n) := hn
    clear hat hn hx
    go_enter Try.func42, Try.ntmps42
    go_wp2
    go_loopw [3] (fun i wr => ∃ k : Nat, k ≤ n ∧ i = .int .i64 k ∧ Below w.heap.size w wr ∧ ∀ j, j < k → smOk (smG ls j) = true) (fun i _ => n - (intOf i).toNat)
    case atStart => exact ⟨0, Nat.zero_le _, rfl, Below.refl _ _, fun j hj => by omega⟩
    case round =>
      obtain ⟨k, hk, rfl, hbel, hall⟩ := hrel
      have HA : Hid (∀ j, j < k → smOk (smG ls j) = true) := hall
      clear hall
      by_cases hlt : k < n
      · obtain ⟨c0, c1, c2, c3, c4⟩ := (HAT.out.below hbel hb0) k (by rw [HN.out]; exact hlt)
        have hsz := hbel.size
        go_wp2_with fail
        refine (smRight_any (smG ls k) _).mono ?_
        rintro e w1 ⟨rfl, hb1⟩
        have hbw : Below w.heap.size w w1 := hbel.trans (hb1.mono hsz)
        cases hR : smOk (smG ls k)
        · have HR : Hid (smOk (smG ls k) = false) := hR
          go_wp2
          go_ret
          exact ⟨ret_i64' (by rw [show smsOk ls = false from all_false k (by rw [HN.out]; exact hlt) HR.out]; rfl), hbw⟩
        · have HR : Hid (smOk (smG ls k) = true) := hR
          go_wp2
          exact ⟨⟨k + 1, by omega, by go_num, hbw, upto_succ HA.out HR.out⟩, by simp [intOf]; omega⟩
      · go_wp2
        go_ret
        exact ⟨ret_i64' (by rw [show smsOk ls = true from all_true (fun j hj => HA.out j (by have := HN.out; omega))]; rfl), hbel⟩
  · rw [batE_no (by rw [hn]; exact hb)]
    clear hx
    by_cases h1 : (n : Int) < 1
    · go_enter Try.func42, Try.ntmps42
      go_wp2
      go_ret
      exact ⟨rfl, Below.refl _ _⟩
    · have h2 : 8 < (n : Int) := by omega
      go_enter Try.func42, Try.ntmps42
      go_wp2
      go_ret
      exact ⟨rfl, Below.refl _ _⟩

end Go.Proofs.Ythciddpljcbhiab

/- Walks: the record of a batch, by the program and by the document's answer. -/
namespace Go.Proofs.Ythciddpljcbhiab
open Go.RowKit

theorem conv3' (w : World) (g : Nat) (hg : g = w.heap.size) (a b c : Int) : (convert 60 9 (.slice (some ⟨g, 0, none⟩) 3 3)).run Try.prog (w.alloc (.cells #[.int .u8 a, .int .u8 b, .int .u8 c] 5)) =
    .ok (.string (strOfNums [a, b, c])) (w.alloc (.cells #[.int .u8 a, .int .u8 b, .int .u8 c] 5)) := convNew w [a, b, c] 3 rfl 3 _ rfl _ hg

set_option maxHeartbeats 400000 in
set_option maxRecDepth 100000 in
theorem ofSample_any (x : Sm) (w : World) (ht0 : 0 ≤ x.time) (ht1 : x.time ≤ 100000) (_hv0 : -2147483648 ≤ x.value) (_hv1 : x.value ≤ 2147483647) :
    Calls Try.prog 45 #[smV x] w fun e w' => e = .returned (.string (strOfNums (smB x))) ∧ Below w.heap.size w w' := by
  obtain ⟨hu0, hu1⟩ := uval_range x.value
  have HU : Hid (uval x.value = x.value % 4294967296) := rfl
  have HS : Hid (strOfNums (lowN x.time 4) ++ strOfNums [x.l0, x.l1, x.l2] ++ strOfNums (lowN (uval x.value) 4) = strOfNums (smB x)) := by
    rw [str_add, str_add]; rfl
  have hs1 : (strOfNums (lowN x.time 4)).size + (strOfNums [x.l0, x.l1, x.l2]).size ≤ 9223372036854775807 := by rw [strOfNums_size, strOfNums_size, lowN_len]; simp
  have hs2 : (strOfNums (lowN x.time 4) ++ strOfNums [x.l0, x.l1, x.l2]).size + (strOfNums (lowN (uval x.value) 4)).size ≤ 9223372036854775807 := by rw [str_add, strOfNums_size, strOfNums_size, lowN_len]; simp [lowN_len]
  go_enter Try.func45, Try.ntmps45
  go_wp2_with fail
  refine (number_any _ _ (by omega) (by omega)).mono ?_
  rintro e w1 ⟨rfl, o1, rfl⟩
  have hcv := fun w g hg => conv3' w g hg x.l0 x.l1 x.l2
  go_wp2_with fail
  refine (number_any _ _ (by omega) (by omega)).mono ?_
  rintro e w1 ⟨rfl, o2, rfl⟩
  rw [← HU.out]
  go_wp2_with fail
  go_ret
  refine ⟨ret_str HS.out, ?_⟩
  exact ((((Below.refl _ _).alloc (Nat.le_refl _) _).alloc (by simp) _).alloc (by simp; omega) _).alloc (by simp; omega) _

theorem conv2' (w : World) (g : Nat) (hg : g = w.heap.size) (a b : Int) : (convert 60 9 (.slice (some ⟨g, 0, none⟩) 2 2)).run Try.prog (w.alloc (.cells #[.int .u8 a, .int .u8 b] 5)) =
    .ok (.string (strOfNums [a, b])) (w.alloc (.cells #[.int .u8 a, .int .u8 b] 5)) := convNew w [a, b] 2 rfl 2 _ rfl _ hg

/-- The bytes of a record's beginning: its head and k samples. -/
def begB (ls : List Sm) (k : Nat) : List Int := [87, (ls.length : Int)] ++ (ls.take k).flatMap smB
theorem begB_succ (ls : List Sm) (k : Nat) (h : k < ls.length) : begB ls (k + 1) = begB ls k ++ smB (smG ls k) := by
  unfold begB; rw [flat_take ls k h, List.append_assoc]
theorem begB_len (ls : List Sm) (k : Nat) : (begB ls k).length ≤ 2 + ls.length * 11 := by
  unfold begB
  simp [flat_length smB 11 smB_len]
  have : min k ls.length ≤ ls.length := Nat.min_le_right _ _
  omega
theorem begB_all (ls : List Sm) (k : Nat) (h : ls.length ≤ k) : begB ls k = bodyB ls := by unfold begB bodyB; rw [List.take_of_length_le h]

set_option maxHeartbeats 400000 in
set_option maxRecDepth 100000 in
theorem ofBatch_any (b off n cap : Nat) (ls : List Sm) (w : World) (hn : ls.length = n) (h8 : n ≤ 8) (hat : SmAt w b off ls) (hwf : SmWf ls) (hok : smsOk ls = true) :
    Calls Try.prog 30 #[.slice (some ⟨b, off, none⟩) n cap] w fun e w' => e = .returned (.string (strOfNums (recB ls))) ∧ Below w.heap.size w w' := by
  have HAT : Hid (SmAt w b off ls) := hat
  have HN : Hid (ls.length = n) := hn
  have HW : Hid (SmWf ls) := hwf
  have HOK : Hid (∀ j, j < n → smOk (smG ls j) = true) := fun j hj => by
    have := List.all_eq_true.1 hok j (List.mem_range.2 (by omega)); exact this
  clear hat hn hwf hok
  have hcv := fun w g hg => conv2' w g hg 87 (n : Int)
  go_enter Try.func30, Try.ntmps30
  go_wp2_with fail
  go_loopw [3, 4] (fun s i wr => ∃ k : Nat, k ≤ n ∧ i = .int .i64 k ∧ s = .string (strOfNums (begB ls k)) ∧ Below w.heap.size w wr) (fun _ i _ => n - (intOf i).toNat)
  case atStart => exact ⟨0, Nat.zero_le _, rfl, by rw [show begB ls 0 = [87, (n : Int)] from by simp [begB, HN.out]], (Below.refl _ _).alloc (Nat.le_refl _) _⟩
  case round =>
    obtain ⟨k, hk, rfl, rfl, hbel⟩ := hrel
    have hsz := hbel.size
    by_cases hlt : k < n
    · have hb0 : b < w.heap.size := HAT.out.block (by rw [HN.out]; omega)
      obtain ⟨c0, c1, c2, c3, c4⟩ := (HAT.out.below hbel hb0) k (by rw [HN.out]; exact hlt)
      have HX := (smOk_iff _).1 (HOK.out k hlt)
      obtain ⟨ht0, ht1, _⟩ := HX
      obtain ⟨_, _, _, _, hv0, hv1⟩ := HW.out k
      have HE : Hid (strOfNums (begB ls k) ++ strOfNums (smB (smG ls k)) = strOfNums (begB ls (k + 1))) := by show _ = _; rw [str_add, begB_succ ls k (by rw [HN.out]; exact hlt)]
      have hsum : (strOfNums (begB ls k)).size + (strOfNums (smB (smG ls k))).size ≤ 9223372036854775807 := by
        rw [strOfNums_size, strOfNums_size, smB_len]; have := begB_len ls k; have := HN.out; omega
      go_wp2_with fail
      refine (ofSample_any (smG ls k) _ ht0 ht1 hv0 hv1).mono ?_
      rintro e w1 ⟨rfl, hb1⟩
      go_wp2_with fail
      rw [HE.out]
      exact ⟨⟨k + 1, by omega, by go_num, rfl, hbel.trans (hb1.mono hsz)⟩, by simp [intOf]; omega⟩
    · have HB : Hid (begB ls k = bodyB ls) := begB_all ls k (by rw [HN.out]; omega)
      have HNU : Hid (nums (strOfNums (bodyB ls)) = bodyB ls) := nums_str _ (bodyB_byte HW.out (by rw [HN.out]; omega))
      have hlen : (bodyB ls).length ≤ 100 := by rw [bodyB_len, HN.out]; omega
      obtain ⟨q0, q1⟩ := chk_range (bodyB ls)
      rw [HB.out]
      have hsum : (strOfNums (bodyB ls)).size + (strOfNums (lowN (chk (bodyB ls)) 4)).size ≤ 9223372036854775807 := by rw [strOfNums_size, strOfNums_size, lowN_len]; omega
      have HE : Hid (strOfNums (bodyB ls) ++ strOfNums (lowN (chk (bodyB ls)) 4) = strOfNums (recB ls)) := by rw [str_add]; rfl
      go_wp2_with fail
      refine (check_any (strOfNums (bodyB ls)) _ (by rw [strOfNums_size]; unfold maxLen; omega)).mono ?_
      rintro e w1 ⟨rfl, rfl⟩
      rw [HNU.out]
      go_wp2_with fail
      refine (number_any _ _ q0 q1).mono ?_
      rintro e w1 ⟨rfl, o1, rfl⟩
      go_wp2_with fail
      go_ret
      exact ⟨ret_str HE.out, hbel.alloc hsz _⟩

end Go.Proofs.Ythciddpljcbhiab

/- Walks: the record of a Tick; what is expired is forgotten. -/
namespace Go.Proofs.Ythciddpljcbhiab
open Go Go.RowKit Go.Lib

/-! The record of a Tick. -/
def tickH (n : Int) : List Int := [84, n % 256, n / 256]
def tickB (n : Int) : List Int := tickH n ++ lowN (chk (tickH n)) 4
theorem tickB_len (n : Int) : (tickB n).length = 7 := by unfold tickB; rw [List.length_append, lowN_len]; rfl
theorem tickH_byte {n : Int} (h0 : 0 ≤ n) (h1 : n ≤ 1000) : ∀ x ∈ tickH n, isByte x := by
  intro x hx
  simp [tickH] at hx
  unfold isByte
  rcases hx with rfl | rfl | rfl <;> omega

set_option maxHeartbeats 400000 in
set_option maxRecDepth 100000 in
theorem ofTick_any (n : Int) (w : World) (h0 : 1 ≤ n) (h1 : n ≤ 1000) : Calls Try.prog 32 #[.int .i64 n] w fun e w' => e = .returned (.string (strOfNums (tickB n))) ∧ Below w.heap.size w w' := by
  have hcv := fun w g hg => conv3' w g hg 84 (n % 256) (n / 256)
  have HNU : Hid (nums (strOfNums [84, n % 256, n / 256]) = [84, n % 256, n / 256]) := nums_str _ (tickH_byte (by omega) h1)
  obtain ⟨q0, q1⟩ := chk_range [84, n % 256, n / 256]
  have hsum : (strOfNums [84, n % 256, n / 256]).size + (strOfNums (lowN (chk [84, n % 256, n / 256]) 4)).size ≤ 9223372036854775807 := by rw [strOfNums_size, strOfNums_size, lowN_len]; simp
  have HE : Hid (strOfNums [84, n % 256, n / 256] ++ strOfNums (lowN (chk [84, n % 256, n / 256]) 4) = strOfNums (tickB n)) := by show _ = _; rw [str_add]; rfl
  go_enter Try.func32, Try.ntmps32
  go_wp2_with fail
  refine (check_any (strOfNums [84, n % 256, n / 256]) _ (by rw [strOfNums_size]; unfold maxLen; simp)).mono ?_
  rintro e w1 ⟨rfl, rfl⟩
  rw [HNU.out]
  go_wp2_with fail
  refine (number_any _ _ q0 q1).mono ?_
  rintro e w1 ⟨rfl, o1, rfl⟩
  go_wp2_with fail
  go_ret
  exact ⟨ret_str HE.out, ((Below.refl _ _).alloc (Nat.le_refl _) _).alloc (by simp) _⟩

/-! A point set in its row. -/
abbrev set14o (w : World) (g o : Nat) (p : Pt) : World := (((((((((((((w.setCell ⟨g, o, none⟩ (.int .i64 p.time)).setCell ⟨g, o + 1, none⟩ (.int .i32 p.value)).setCell ⟨g, o + 2, none⟩ (.int .u8 (sG p 0).a)).setCell ⟨g, o + 3, none⟩ (.int .u8 (sG p 0).b)).setCell ⟨g, o + 4, none⟩ (.int .u8 (sG p 0).c)).setCell ⟨g, o + 5, none⟩ (.int .u8 (sG p 1).a)).setCell ⟨g, o + 6, none⟩ (.int .u8 (sG p 1).b)).setCell ⟨g, o + 7, none⟩ (.int .u8 (sG p 1).c)).setCell ⟨g, o + 8, none⟩ (.int .u8 (sG p 2).a)).setCell ⟨g, o + 9, none⟩ (.int .u8 (sG p 2).b)).setCell ⟨g, o + 10, none⟩ (.int .u8 (sG p 2).c)).setCell ⟨g, o + 11, none⟩ (.int .u8 (sG p 3).a)).setCell ⟨g, o + 12, none⟩ (.int .u8 (sG p 3).b)).setCell ⟨g, o + 13, none⟩ (.int .u8 (sG p 3).c)
theorem set14o_other {w : World} {g o : Nat} {p : Pt} {k : Nat} (h : k ≠ g) : (set14o w g o p).heap[k]? = w.heap[k]? := by
  unfold set14o
  rw [Below.heap_setCell _ _ _ _ h, Below.heap_setCell _ _ _ _ h, Below.heap_setCell _ _ _ _ h, Below.heap_setCell _ _ _ _ h, Below.heap_setCell _ _ _ _ h, Below.heap_setCell _ _ _ _ h, Below.heap_setCell _ _ _ _ h, Below.heap_setCell _ _ _ _ h, Below.heap_setCell _ _ _ _ h, Below.heap_setCell _ _ _ _ h, Below.heap_setCell _ _ _ _ h, Below.heap_setCell _ _ _ _ h, Below.heap_setCell _ _ _ _ h, Below.heap_setCell _ _ _ _ h]
theorem set14o_fr {F : Nat → Prop} {a w : World} {g o : Nat} {p : Pt} (h : Fr F a w) (hP : F g ∨ a.heap.size ≤ g) : Fr F a (set14o w g o p) := by
  unfold set14o
  exact ((((((((((((((h.setCell hP _).setCell hP _).setCell hP _).setCell hP _).setCell hP _).setCell hP _).setCell hP _).setCell hP _).setCell hP _).setCell hP _).setCell hP _).setCell hP _).setCell hP _).setCell hP _)
set_option maxRecDepth 10000 in
theorem flatP_set (l : List Pt) (p : Pt) : ∀ i, i < l.length → ((((((((((((((flatP l).set (i * 14) (.int .i64 p.time)).set (i * 14 + 1) (.int .i32 p.value)).set (i * 14 + 2) (.int .u8 (sG p 0).a)).set (i * 14 + 3) (.int .u8 (sG p 0).b)).set (i * 14 + 4) (.int .u8 (sG p 0).c)).set (i * 14 + 5) (.int .u8 (sG p 1).a)).set (i * 14 + 6) (.int .u8 (sG p 1).b)).set (i * 14 + 7) (.int .u8 (sG p 1).c)).set (i * 14 + 8) (.int .u8 (sG p 2).a)).set (i * 14 + 9) (.int .u8 (sG p 2).b)).set (i * 14 + 10) (.int .u8 (sG p 2).c)).set (i * 14 + 11) (.int .u8 (sG p 3).a)).set (i * 14 + 12) (.int .u8 (sG p 3).b)).set (i * 14 + 13) (.int .u8 (sG p 3).c) = flatP (l.set i p) := by
  induction l with
  | nil => intro i hi; simp at hi
  | cons a l ih =>
    intro i hi
    cases i with
    | zero => rfl
    | succ i =>
      have h := ih i (by simpa using hi)
      have hs : ∀ (Y : List Value) (m : Nat) (v : Value), (a.cells ++ Y).set (m + 14) v = a.cells ++ Y.set m v := fun Y m v => by
        rw [List.set_append_right _ _ (by rw [len14]; omega), len14, Nat.add_sub_cancel]
      have e0 : (i + 1) * 14 = (i * 14) + 14 := by omega
      have e1 : (i + 1) * 14 + 1 = (i * 14 + 1) + 14 := by omega
      have e2 : (i + 1) * 14 + 2 = (i * 14 + 2) + 14 := by omega
      have e3 : (i + 1) * 14 + 3 = (i * 14 + 3) + 14 := by omega
      have e4 : (i + 1) * 14 + 4 = (i * 14 + 4) + 14 := by omega
      have e5 : (i + 1) * 14 + 5 = (i * 14 + 5) + 14 := by omega
      have e6 : (i + 1) * 14 + 6 = (i * 14 + 6) + 14 := by omega
      have e7 : (i + 1) * 14 + 7 = (i * 14 + 7) + 14 := by omega
      have e8 : (i + 1) * 14 + 8 = (i * 14 + 8) + 14 := by omega
      have e9 : (i + 1) * 14 + 9 = (i * 14 + 9) + 14 := by omega
      have e10 : (i + 1) * 14 + 10 = (i * 14 + 10) + 14 := by omega
      have e11 : (i + 1) * 14 + 11 = (i * 14 + 11) + 14 := by omega
      have e12 : (i + 1) * 14 + 12 = (i * 14 + 12) + 14 := by omega
      have e13 : (i + 1) * 14 + 13 = (i * 14 + 13) + 14 := by omega
      show _ = a.cells ++ flatP (l.set i p)
      rw [← h, show flatP (a :: l) = a.cells ++ flatP l from rfl]
      rw [e1, e2, e3, e4, e5, e6, e7, e8, e9, e10, e11, e12, e13, e0]
      rw [hs, hs, hs, hs, hs, hs, hs, hs, hs, hs, hs, hs, hs, hs]
theorem owns_ptset {w : World} {base g n cap : Nat} {l : List Pt} (h : w.ownsRow base 78 14 (.slice (some ⟨g, 0, none⟩) n cap) n (flatP l)) (i : Nat) (hi : i < l.length) (p : Pt) : (set14o w g (i * 14) p).ownsRow base 78 14 (.slice (some ⟨g, 0, none⟩) n cap) n (flatP (l.set i p)) := by
  rw [← flatP_set l p i hi]
  exact owns_set (owns_set (owns_set (owns_set (owns_set (owns_set (owns_set (owns_set (owns_set (owns_set (owns_set (owns_set (owns_set (owns_set h _) _) _) _) _) _) _) _) _) _) _) _) _) _
/-- A row's beginning. -/
theorem owns_take {w : World} {base g n cap : Nat} {l : List Pt} (h : w.ownsRow base 78 14 (.slice (some ⟨g, 0, none⟩) n cap) n (flatP l)) (hl : l.length = n) (k : Nat) (hk : k ≤ n) : w.ownsRow base 78 14 (.slice (some ⟨g, 0, none⟩) k cap) k (flatP (l.take k)) := by
  rcases h.2 with ⟨h', _⟩ | ⟨g', cap', cur, he, hb, hg, hnc, hcm, hcs, ht⟩
  · cases h'
  · obtain ⟨rfl, rfl⟩ : g = g' ∧ cap = cap' := by injection he with h1 h2 h3; injection h1 with h1; injection h1 with h1 h4; exact ⟨h1, h3⟩
    have hf : flatP (l.take k) = (flatP l).take (k * 14) := by
      have e : flatP l = flatP (l.take k) ++ flatP (l.drop k) := by unfold flatP; rw [← List.flatMap_append, List.take_append_drop]
      have hlen : (flatP (l.take k)).length = k * 14 := by rw [flatP_len, List.length_take]; omega
      rw [e, ← hlen, List.take_left]
    refine ⟨by rw [flatP_len, List.length_take]; omega, .inr ⟨g, cap, cur, rfl, hb, hg, by omega, hcm, hcs, ?_⟩⟩
    rw [hf, ← ht, List.take_take]
    congr 1
    omega

end Go.Proofs.Ythciddpljcbhiab

/- Walks: what is expired is forgotten; a Tick. -/
namespace Go.Proofs.Ythciddpljcbhiab
open Go Go.RowKit Go.Lib

/-- The points that live. -/
def liveP (s : St) (l : List Pt) : List Pt := l.filter fun p => liveB s.c s.now p.time
theorem liveP_succ (s : St) (l : List Pt) (k : Nat) (hk : k < l.length) : liveP s (l.take (k + 1)) = if liveB s.c s.now (ptG l k).time = true then liveP s (l.take k) ++ [ptG l k] else liveP s (l.take k) := by
  unfold liveP
  rw [List.take_succ_eq_append_getElem hk, List.filter_append, ptG_get l k hk]
  by_cases h : liveB s.c s.now l[k].time = true
  · simp [h]
  · simp [h]
theorem liveP_len (s : St) (l : List Pt) (k : Nat) : (liveP s (l.take k)).length ≤ k := by
  unfold liveP
  refine Nat.le_trans (List.length_filter_le _ _) ?_
  rw [List.length_take]; omega

/-- A store whose points run behind its time. -/
structure FgAt (w wr : World) (X : Nat) (s : St) (tk : Int) (L lcap : Nat) (pv bv gv : Value) (M : List Pt) (n : Nat) : Prop where
  blk : wr.heap[X]? = some (.cells (stC s tk L lcap pv bv gv) 62 (0, 0))
  own : wr.ownsRow 0 78 14 pv n (flatP M)
  len : M.length = n
  fr : Fr (fun k => k = X ∨ pv.ownBlock = some k) w wr
theorem FgAt.lt {w wr : World} {X : Nat} {s : St} {tk : Int} {L lcap : Nat} {pv bv gv : Value} {M : List Pt} {n : Nat} (h : FgAt w wr X s tk L lcap pv bv gv M n) : X < wr.heap.size := (Array.getElem?_eq_some_iff.1 h.blk).1
theorem FgAt.below {w wr w' : World} {X : Nat} {s : St} {tk : Int} {L lcap : Nat} {pv bv gv : Value} {M : List Pt} {n : Nat} (h : FgAt w wr X s tk L lcap pv bv gv M n) (hb : Below wr.heap.size wr w') : FgAt w w' X s tk L lcap pv bv gv M n :=
  ⟨by rw [hb.block X h.lt]; exact h.blk, owns_below h.own hb (fun k hk => (h.own.lt k hk).2), h.len, h.fr.trans (Fr.of_below (S := fun _ => False) hb) (fun _ e => e.elim)⟩
theorem FgAt.put {w wr : World} {X : Nat} {s : St} {tk : Int} {L lcap : Nat} {g cap : Nat} {bv gv : Value} {M : List Pt} {n : Nat} (h : FgAt w wr X s tk L lcap (.slice (some ⟨g, 0, none⟩) n cap) bv gv M n) (hX : X ≠ g) (i : Nat) (hi : i < n) (p : Pt) :
    FgAt w (set14o wr g (i * 14) p) X s tk L lcap (.slice (some ⟨g, 0, none⟩) n cap) bv gv (M.set i p) n :=
  ⟨by rw [set14o_other hX]; exact h.blk, owns_ptset h.own i (by rw [h.len]; exact hi) p, by rw [List.length_set]; exact h.len, set14o_fr h.fr (.inl (.inr rfl))⟩

set_option maxHeartbeats 4000000 in
set_option maxRecDepth 100000 in
theorem forget_any (X : Nat) (s : St) (tk : Int) (L lcap : Nat) (pv bv gv : Value) (l : List Pt) (n : Nat) (w : World) (hc : s.c.right = true) (n0 : 0 ≤ s.now) (n1 : s.now ≤ 100000)
    (hb : w.heap[X]? = some (.cells (stC s tk L lcap pv bv gv) 62 (0, 0))) (ho : w.ownsRow 0 78 14 pv n (flatP l)) (hl : l.length = n) (h5 : n ≤ 500) (hX : pv.ownBlock ≠ some X) (hok : ∀ p ∈ l, 0 ≤ p.time ∧ p.time ≤ 100000) :
    Calls Try.prog 31 #[.pointer (some ⟨X, 0, none⟩)] w fun e w' => e = .returned (.tuple #[]) ∧ ∃ pv', FgAt w w' X s tk L lcap pv' bv gv (liveP s l) (liveP s l).length ∧ pv'.ownBlock = pv.ownBlock := by
  obtain ⟨h1, h2, _, _, _⟩ := Cf.right_parts hc
  have HFG : Hid (FgAt w w X s tk L lcap pv bv gv l n) := ⟨hb, ho, hl, Fr.refl _ _⟩
  have HOK : Hid (∀ k, k < n → 0 ≤ (ptG l k).time ∧ (ptG l k).time ≤ 100000) := fun k hk => by rw [ptG_get l k (by omega)]; exact hok _ (List.getElem_mem _)
  have HL : Hid (l.length = n) := hl
  have HPX : Hid (pv.ownBlock ≠ some X) := hX
  obtain ⟨pa, pcap, rfl⟩ := ownForm ho
  clear hb ho hl hX hok
  go_enter Try.func31, Try.ntmps31
  go_wp2_with fail
  go_loopw [2, 3] (fun lf i wr => ∃ (j k : Nat) (M : List Pt), lf = .int .i64 j ∧ i = .int .i64 k ∧ k ≤ n ∧ j ≤ k ∧ FgAt w wr X s tk L lcap (.slice pa n pcap) bv gv M n ∧ M.take j = liveP s (l.take k) ∧ M.drop k = l.drop k) (fun _ i _ => n - (intOf i).toNat)
  case atStart => exact ⟨0, 0, l, rfl, rfl, Nat.zero_le _, Nat.le_refl _, HFG.out, by simp [liveP], rfl⟩
  case round =>
    obtain ⟨j, k, M, rfl, rfl, hk, hj, hfg, hM1, hM2⟩ := hrel
    have HG : Hid (FgAt w wr X s tk L lcap (.slice pa n pcap) bv gv M n) := hfg
    have H1 : Hid (M.take j = liveP s (l.take k)) := hM1
    have H2 : Hid (M.drop k = l.drop k) := hM2
    have c5 : wr.cell? ⟨X, 5, none⟩ = some (.slice pa n pcap) := cell_blk hfg.blk rfl
    have hXr := hfg.lt
    have fX : ∀ o, wr.frozen? ⟨X, o, none⟩ = false := fun o => froz_blk hfg.blk
    clear hfg hM1 hM2
    by_cases hlt : k < n
    · obtain ⟨g, cap', he, _, hg, _⟩ := ownBlockForm HG.out.own (by omega)
      injection he with he1 he2 he3
      subst he1 he3
      have hXg : X ≠ g := fun e => HPX.out (by rw [e]; rfl)
      have HP : Hid (PtAt wr g (k * 14) (ptG M k)) := by
        obtain ⟨g', he, _, hp⟩ := PtsAt.of_owns HG.out.own HG.out.len (by rw [HG.out.len]; omega)
        injection he with he; injection he with he
        subst he
        exact hp k (by rw [HG.out.len]; exact hlt)
      have HMk : Hid (ptG M k = ptG l k) := by
        show _ = _
        have e := congrArg (fun x => x[0]?) H2.out
        simp only [List.getElem?_drop, Nat.add_zero] at e
        simp [ptG, List.getD, e]
      obtain ⟨t0, t1⟩ := HOK.out k hlt
      have HSU := liveP_succ s l k (by rw [HL.out]; exact hlt)
      rw [HMk.out] at HP
      generalize hp : ptG l k = p at *
      obtain ⟨p0, p1, p2, p3, p4, p5, p6, p7, p8, p9, p10, p11, p12, p13⟩ := PtAt.all HP.out
      have HBX : Hid (Below wr.heap.size wr (wr.alloc (.cells (ptC p) 78))) := (Below.refl _ _).alloc (Nat.le_refl _) _
      have hXw : X ≠ wr.heap.size := by omega
      have hgw : g ≠ wr.heap.size := by omega
      go_upto_region 5 with fail
      go_cut [32] from 21 to 32 (fun v wx => v = .bool (liveB s.c s.now p.time) ∧ Below (wr.heap.size + 1) (wr.alloc (.cells (ptC p) 78)) wx)
      case first =>
        have k0 : (wr.alloc (.cells (ptC p) 78)).drew.cell? ⟨X, 0, none⟩ = some (.int .i64 s.c.span) := cell_alloc1 (cell_blk HG.out.blk rfl)
        have k1 : (wr.alloc (.cells (ptC p) 78)).drew.cell? ⟨X, 1, none⟩ = some (.int .i64 s.c.keep) := cell_alloc1 (cell_blk HG.out.blk rfl)
        have k2 : (wr.alloc (.cells (ptC p) 78)).drew.cell? ⟨X, 2, none⟩ = some (.slice (some ⟨L, 0, none⟩) s.c.lvs.length lcap) := cell_alloc1 (cell_blk HG.out.blk rfl)
        have k3 : (wr.alloc (.cells (ptC p) 78)).drew.cell? ⟨X, 3, none⟩ = some (.int .i64 s.now) := cell_alloc1 (cell_blk HG.out.blk rfl)
        have j0 : (wr.alloc (.cells (ptC p) 78)).drew.cell? ⟨wr.heap.size, 0, none⟩ = some (.int .i64 p.time) := by simp [go_sem]
        have hXa : X < (wr.alloc (.cells (ptC p) 78)).drew.heap.size := by show X < (wr.alloc (.cells (ptC p) 78)).heap.size; simp; omega
        have hwa : wr.heap.size < (wr.alloc (.cells (ptC p) 78)).drew.heap.size := by show wr.heap.size < (wr.alloc (.cells (ptC p) 78)).heap.size; simp
        go_region_held3 (fun w' => w'.cell? ⟨X, 0, none⟩ = some (.int .i64 s.c.span) ∧ w'.cell? ⟨X, 1, none⟩ = some (.int .i64 s.c.keep) ∧ w'.cell? ⟨X, 2, none⟩ = some (.slice (some ⟨L, 0, none⟩) s.c.lvs.length lcap) ∧ w'.cell? ⟨X, 3, none⟩ = some (.int .i64 s.now) ∧ w'.cell? ⟨wr.heap.size, 0, none⟩ = some (.int .i64 p.time)) (first | exact ⟨k0, k1, k2, k3, j0⟩ | exact ⟨y0, y1, y2, y3, z0⟩)
          (first | (go_at_call 43; refine (expired_any s.c L 0 s.c.lvs.length lcap s.now p.time _ h1 h2 n0 n1 t0 (by omega)).mono ?_; rintro e w' ⟨rfl, hb'⟩; have y0 := (hb'.cell (p := ⟨X, 0, none⟩) hXa).trans k0; have y1 := (hb'.cell (p := ⟨X, 1, none⟩) hXa).trans k1; have y2 := (hb'.cell (p := ⟨X, 2, none⟩) hXa).trans k2; have y3 := (hb'.cell (p := ⟨X, 3, none⟩) hXa).trans k3; have z0 := (hb'.cell (p := ⟨wr.heap.size, 0, none⟩) hwa).trans j0))
        all_goals go_wp2_with fail
        all_goals go_meet
        all_goals (case rel => exact ⟨rfl, ⟨hb'.os, hb'.tape, hb'.output, hb'.size, fun k hk => hb'.block k (by simpa using hk)⟩⟩)
      case rest =>
        obtain ⟨rfl, hb2⟩ := hcut
        have hz2 : wr.heap.size + 1 ≤ wc.heap.size := by have := hb2.size; simpa using this
        have HG2 : Hid (FgAt w wc X s tk L lcap (.slice (some ⟨g, 0, none⟩) n pcap) bv gv M n) := HG.out.below (HBX.out.trans (hb2.mono (by omega)))
        have hbk : wc.heap[wr.heap.size]? = some (.cells (ptC p) 78 (0, 0)) := by rw [hb2.block wr.heap.size (by omega)]; exact heap_alloc_new wr _
        have x0 := cell_blk (o := 0) hbk rfl
        have x1 := cell_blk (o := 1) hbk rfl
        have x2 := cell_blk (o := 2) hbk rfl
        have x3 := cell_blk (o := 3) hbk rfl
        have x4 := cell_blk (o := 4) hbk rfl
        have x5 := cell_blk (o := 5) hbk rfl
        have x6 := cell_blk (o := 6) hbk rfl
        have x7 := cell_blk (o := 7) hbk rfl
        have x8 := cell_blk (o := 8) hbk rfl
        have x9 := cell_blk (o := 9) hbk rfl
        have x10 := cell_blk (o := 10) hbk rfl
        have x11 := cell_blk (o := 11) hbk rfl
        have x12 := cell_blk (o := 12) hbk rfl
        have x13 := cell_blk (o := 13) hbk rfl
        have d5 : wc.cell? ⟨X, 5, none⟩ = some (.slice (some ⟨g, 0, none⟩) n pcap) := cell_blk HG2.out.blk rfl
        have hXc := HG2.out.lt
        clear c5 fX p0 p1 p2 p3 p4 p5 p6 p7 p8 p9 p10 p11 p12 p13 hbk hb2
        cases hlv : liveB s.c s.now p.time
        · have HS1 : Hid (liveP s (l.take (k + 1)) = liveP s (l.take k)) := by show _ = _; rw [HSU, if_neg (by rw [hlv]; simp)]
          go_wp2_with fail
          refine ⟨⟨j, k + 1, M, rfl, by go_num, by omega, by omega, HG2.out, by rw [HS1.out]; exact H1.out, ?_⟩, by simp [intOf]; omega⟩
          have e := congrArg (List.drop 1) H2.out
          simpa [List.drop_drop, Nat.add_comm] using e
        · have HS1 : Hid (liveP s (l.take (k + 1)) = liveP s (l.take k) ++ [p]) := by show _ = _; rw [HSU, if_pos hlv]
          have q0 : ∀ i : Nat, i < 14 → ∃ v, wc.cell? ⟨g, j * 14 + i, none⟩ = some v := fun i hi => by
            obtain ⟨g', he, _, hp⟩ := PtsAt.of_owns HG2.out.own HG2.out.len (by rw [HG2.out.len]; omega)
            injection he with he; injection he with he
            subst he
            have := hp j (by rw [HG2.out.len]; omega)
            exact ⟨_, this i _ (List.getElem?_eq_getElem (by rw [len14]; exact hi))⟩
          have fz : ∀ o, wc.frozen? ⟨g, o, none⟩ = false := fun o => owns_frozen HG2.out.own o
          obtain ⟨u0, r0⟩ := q0 0 (by omega)
          obtain ⟨u1, r1⟩ := q0 1 (by omega)
          obtain ⟨u2, r2⟩ := q0 2 (by omega)
          obtain ⟨u3, r3⟩ := q0 3 (by omega)
          obtain ⟨u4, r4⟩ := q0 4 (by omega)
          obtain ⟨u5, r5⟩ := q0 5 (by omega)
          obtain ⟨u6, r6⟩ := q0 6 (by omega)
          obtain ⟨u7, r7⟩ := q0 7 (by omega)
          obtain ⟨u8, r8⟩ := q0 8 (by omega)
          obtain ⟨u9, r9⟩ := q0 9 (by omega)
          obtain ⟨u10, r10⟩ := q0 10 (by omega)
          obtain ⟨u11, r11⟩ := q0 11 (by omega)
          obtain ⟨u12, r12⟩ := q0 12 (by omega)
          obtain ⟨u13, r13⟩ := q0 13 (by omega)
          rw [Nat.add_zero] at r0
          have hjn : j < n := by omega
          clear q0
          go_upto_region 6 with fail
          go_cut [39] from 33 to 39 (fun v wx => FgAt w wx X s tk L lcap (.slice (some ⟨g, 0, none⟩) n pcap) bv gv (M.set j p) n)
          case first =>
            have HPU : Hid (FgAt w (set14o wc g (j * 14) p) X s tk L lcap (.slice (some ⟨g, 0, none⟩) n pcap) bv gv (M.set j p) n) := HG2.out.put hXg j hjn p
            go_region_with fail
            all_goals go_wp2_with fail
            all_goals go_meet
            all_goals (case rel => exact HPU.out.below (Below.refl _ _).drew)
          case rest =>
            have HG3 : Hid (FgAt w wc X s tk L lcap (.slice (some ⟨g, 0, none⟩) n pcap) bv gv (M.set j p) n) := hcut
            clear hcut
            go_wp2_with fail
            refine ⟨⟨j + 1, k + 1, M.set j p, by go_num, by go_num, by omega, by omega, HG3.out, ?_, ?_⟩, by simp [intOf]; omega⟩
            · rw [HS1.out, ← H1.out, List.take_set, List.take_succ_eq_append_getElem (by rw [HG2.out.len]; exact hjn)]
              have hl' : (M.take j).length = j := by rw [List.length_take, HG2.out.len]; omega
              rw [List.set_append_right _ _ (by omega), hl']
              simp
            · rw [List.drop_set_of_lt (by omega)]
              have e := congrArg (List.drop 1) H2.out
              simpa [List.drop_drop, Nat.add_comm] using e
    · have hkn : k = n := by omega
      have HJ : Hid (M.take j = liveP s l) := by
        show _ = _
        rw [H1.out, hkn, List.take_of_length_le (by rw [HL.out]; exact Nat.le_refl _)]
      have HJL : Hid ((liveP s l).length = j) := by
        show _ = _
        rw [← HJ.out, List.length_take, HG.out.len]; omega
      rcases HG.out.own.2 with ⟨he, _⟩ | ⟨g, cap', cur, he, _, hg, hnc, _, hcs, _⟩
      · injection he with he1 he2 he3
        subst he1 he2 he3
        have hj0 : j = 0 := by omega
        subst hj0
        have HO : Hid ((wr.setCell ⟨X, 5, none⟩ (.slice none 0 0)).ownsRow 0 78 14 (.slice none 0 0) (liveP s l).length (flatP (liveP s l))) := by
          have e : liveP s l = [] := List.eq_nil_of_length_eq_zero HJL.out
          rw [e]; exact World.ownsRow_nil _ _ _ _
        go_wp2_with fail
        go_end0
        exact ⟨rfl, .slice none 0 0, ⟨heap_setCell HG.out.blk, HO.out, rfl, HG.out.fr.setCell (.inl (.inl rfl)) _⟩, rfl⟩
      · injection he with he1 he2 he3
        subst he1 he3
        have hjc : j ≤ pcap := by omega
        have HO : Hid ((wr.setCell ⟨X, 5, none⟩ (.slice (some ⟨g, 0, none⟩) j pcap)).ownsRow 0 78 14 (.slice (some ⟨g, 0, none⟩) j pcap) (liveP s l).length (flatP (liveP s l))) := by
          have e := owns_take HG.out.own HG.out.len j (by omega)
          rw [HJ.out] at e
          rw [HJL.out]
          exact owns_other e HPX.out
        go_wp2_with fail
        go_end0
        exact ⟨rfl, .slice (some ⟨g, 0, none⟩) j pcap, ⟨heap_setCell HG.out.blk, HO.out, rfl, HG.out.fr.setCell (.inl (.inl rfl)) _⟩, rfl⟩

end Go.Proofs.Ythciddpljcbhiab

/- Walks: why a batch cannot be accepted. -/
namespace Go.Proofs.Ythciddpljcbhiab
open Go Go.RowKit

theorem wrE_bat {s : St} {ls : List Sm} (h : batE ls ≠ 0) : wrE s ls = batE ls := if_pos h
theorem wrE_late {s : St} {ls : List Sm} (h : batE ls = 0) {k : Nat} (hk : k < ls.length) (hl : lateB s (smG ls k) = true) : wrE s ls = 6 := by
  unfold wrE
  rw [if_neg (by simp [h]), if_pos]
  rw [List.any_eq_true]
  exact ⟨ls[k], List.getElem_mem _, by rw [← smG_get ls k hk]; exact hl⟩
theorem wrE_rest {s : St} {ls : List Sm} (h : batE ls = 0) (hl : ∀ k, k < ls.length → lateB s (smG ls k) = false) : wrE s ls = if 500 < s.l.length + ls.length then 7 else 0 := by
  unfold wrE
  rw [if_neg (by simp [h]), if_neg]
  simp only [Bool.not_eq_true]
  rw [List.any_eq_false]
  intro x hx
  obtain ⟨i, hi, rfl⟩ := List.getElem_of_mem hx
  have := hl i hi
  rw [smG_get ls i hi] at this
  simp [this]

set_option maxHeartbeats 4000000 in
set_option maxRecDepth 100000 in
theorem checkWrite_any (X : Nat) (F : Nat → Prop) (s : St) (a : Option Addr) (n cap : Nat) (ls : List Sm) {lg : ByteArray} (w : World) (h : StoreAt w X F s lg) (hs : IsSms w a n ls) (hn : n ≤ maxLen) :
    Calls Try.prog 28 #[.pointer (some ⟨X, 0, none⟩), .slice a n cap] w fun e w' => e = .returned (.int .i64 (wrE s ls)) ∧ Below w.heap.size w w' := by
  obtain ⟨L, lcap, pv, bv, bk, gv, h⟩ := h
  have HS : Hid (StAt w X F s s s.l.length L lcap pv bv bk gv lg) := h
  have HI : Hid (IsSms w a n ls) := hs
  have hlen : ls.length = n := hs.1
  have HL : Hid (ls.length = n) := hlen
  obtain ⟨h1, h2, h3, h4, _⟩ := Cf.right_parts h.inv.right
  have n0 := h.inv.n0
  have n1 := h.inv.n1
  have l5 := h.inv.len
  unfold maxLen at hn
  clear h hs hlen
  by_cases hb : batE ls = 0
  · obtain ⟨b1, b2, b3⟩ := (batE_zero ls).1 hb
    have hn8 : n ≤ 8 := by have := HL.out; omega
    have hn1 : 1 ≤ n := by have := HL.out; omega
    have HB : Hid (batE ls = 0) := hb
    have HOK : Hid (∀ j, j < n → smOk (smG ls j) = true) := fun j hj => List.all_eq_true.1 b3 j (List.mem_range.2 (by rw [HL.out]; exact hj))
    obtain ⟨b, off, rfl, hat⟩ := HI.out.2 (by omega)
    have HAT : Hid (SmAt w b off ls) := hat
    have hbs : b < w.heap.size := hat.block (by rw [HL.out]; omega)
    clear hb b1 b2 b3 hat
    go_enter Try.func28, Try.ntmps28
    go_wp2_with fail
    refine (checkBatch_any _ n cap ls _ HI.out).mono ?_
    rintro e w1 ⟨rfl, hb1⟩
    rw [HB.out]
    have HB1 : Hid (Below w.heap.size w w1) := hb1
    clear hb1
    go_wp2_with fail
    go_loopw [6] (fun i wr => ∃ k : Nat, i = .int .i64 k ∧ k ≤ n ∧ (∀ j, j < k → lateB s (smG ls j) = false) ∧ Below w.heap.size w wr) (fun i _ => n - (intOf i).toNat)
    case atStart => exact ⟨0, rfl, Nat.zero_le _, fun j hj => by omega, HB1.out⟩
    case round =>
      obtain ⟨k, rfl, hk, hno, hbw⟩ := hrel
      have HA : Hid (∀ j, j < k → lateB s (smG ls j) = false) := hno
      have HW : Hid (Below w.heap.size w wr) := hbw
      have hsz := hbw.size
      have HS1 : Hid (StAt wr X F s s s.l.length L lcap pv bv bk gv lg) := HS.out.below hbw
      have c0 := HS1.out.cell 0 _ rfl
      have c1 := HS1.out.cell 1 _ rfl
      have c2 := HS1.out.cell 2 _ rfl
      have c3 := HS1.out.cell 3 _ rfl
      have c4 := HS1.out.cell 4 _ rfl
      clear hno hbw
      by_cases hlt : k < n
      · obtain ⟨m0, _⟩ := (HAT.out.below HW.out hbs) k (by rw [HL.out]; exact hlt)
        have HX := (smOk_iff _).1 (HOK.out k hlt)
        obtain ⟨t0, t1, _⟩ := HX
        have HLT : Hid (∀ b, lateB s (smG ls k) = b → b = true → wrE s ls = 6) := fun b e e' => wrE_late HB.out (by rw [HL.out]; exact hlt) (e.trans e')
        generalize hX' : smG ls k = Z at *
        go_upto_region 8 with fail
        go_cut [41] from 24 to 41 (fun v wx => v = .bool (lateB s Z) ∧ Below w.heap.size w wx)
        case first =>
          by_cases hgt : s.now < Z.time
          · have hl : Hid (lateB s Z = true) := by show _ = _; simp [lateB, hgt]
            have hgb : decide (s.now < Z.time) = true := by simpa using hgt
            go_quiet (fail)
            go_wp2_with fail
            go_meet
            case rel => exact ⟨by rw [hl.out], below_drewN HW.out _⟩
          · have hl : lateB s Z = decide (s.c.keep < s.c.age s.now Z.time) := by simp [lateB, hgt]
            have HLL : Hid (lateB s Z = decide (s.c.keep < s.c.age s.now Z.time)) := hl
            clear hl
            have hgb : decide (s.now < Z.time) = false := by simpa using hgt
            go_region_held3 (fun w' => w'.cell? ⟨X, 0, none⟩ = some (.int .i64 s.c.span) ∧ w'.cell? ⟨X, 1, none⟩ = some (.int .i64 s.c.keep) ∧ w'.cell? ⟨X, 2, none⟩ = some (.slice (some ⟨L, 0, none⟩) s.c.lvs.length lcap) ∧ w'.cell? ⟨X, 3, none⟩ = some (.int .i64 s.now)) (first | exact ⟨c0, c1, c2, c3⟩ | exact ⟨y0, y1, y2, y3⟩)
              (first | (go_at_call 43; refine (expired_any s.c L 0 s.c.lvs.length lcap s.now Z.time _ h1 h2 n0 n1 t0 (by omega)).mono ?_; rintro e w' ⟨rfl, hb'⟩; have y0 : w'.cell? ⟨X, 0, none⟩ = some (.int .i64 s.c.span) := (hb'.cell (p := ⟨X, 0, none⟩) HS1.out.lt).trans c0; have y1 : w'.cell? ⟨X, 1, none⟩ = some (.int .i64 s.c.keep) := (hb'.cell (p := ⟨X, 1, none⟩) HS1.out.lt).trans c1; have y2 : w'.cell? ⟨X, 2, none⟩ = some (.slice (some ⟨L, 0, none⟩) s.c.lvs.length lcap) := (hb'.cell (p := ⟨X, 2, none⟩) HS1.out.lt).trans c2; have y3 : w'.cell? ⟨X, 3, none⟩ = some (.int .i64 s.now) := (hb'.cell (p := ⟨X, 3, none⟩) HS1.out.lt).trans c3))
            all_goals go_wp2_with fail
            all_goals go_meet
            all_goals (case rel => exact ⟨by rw [HLL.out], HW.out.trans ((show Below wr.heap.size wr w' from ⟨hb'.os, hb'.tape, hb'.output, hb'.size, hb'.block⟩).mono hsz)⟩)
        case rest =>
          obtain ⟨rfl, hb2⟩ := hcut
          cases hl : lateB s Z
          · go_wp2_with fail
            exact ⟨⟨k + 1, by go_num, by omega, upto_succ HA.out (by rw [hX']; exact hl), hb2⟩, by simp [intOf]; omega⟩
          · have HE : Hid (wrE s ls = 6) := HLT.out true hl rfl
            go_wp2_with fail
            go_ret
            exact ⟨ret_i64' HE.out.symm, hb2⟩
      · have HE : Hid (wrE s ls = if 500 < s.l.length + ls.length then 7 else 0) := wrE_rest HB.out (fun j hj => HA.out j (by rw [HL.out] at hj; omega))
        by_cases hf : 500 < s.l.length + n
        · have hf' : (500 : Int) < (s.l.length : Int) + (n : Int) := by omega
          have HE' : Hid (wrE s ls = 7) := by show _ = _; rw [HE.out, HL.out, if_pos hf]
          go_wp2_with fail
          go_ret
          exact ⟨ret_i64' HE'.out.symm, HW.out⟩
        · have hf' : ¬ (500 : Int) < (s.l.length : Int) + (n : Int) := by omega
          have HE' : Hid (wrE s ls = 0) := by show _ = _; rw [HE.out, HL.out, if_neg hf]
          go_wp2_with fail
          go_ret
          exact ⟨ret_i64' HE'.out.symm, HW.out⟩
  · have HE : Hid (wrE s ls = batE ls) := wrE_bat hb
    have hbb : (batE ls != 0) = true := by simpa using hb
    go_enter Try.func28, Try.ntmps28
    go_wp2_with fail
    refine (checkBatch_any _ n cap ls _ HI.out).mono ?_
    rintro e w1 ⟨rfl, hb1⟩
    go_wp2_with fail
    go_ret
    exact ⟨ret_i64' HE.out.symm, hb1⟩

end Go.Proofs.Ythciddpljcbhiab

/- A point's box beside a store; a batch refused. -/
namespace Go.Proofs.Ythciddpljcbhiab
open Go Go.RowKit Go.Lib

theorem Try.info78' : (Try.prog.info? 78).map (fun i => (i.zero, i.size, i.bytes)) = some (some (.agg zPt), 14, 24) := by kernel_rfl

theorem wr_take {s : St} {ls : List Sm} {k : Nat} (hk : k < ls.length) : s.wr (ls.take (k + 1)) = (s.wr (ls.take k)).wr [smG ls k] := by
  unfold St.wr
  rw [List.take_succ_eq_append_getElem hk, smG_get ls k hk]
  simp
theorem Inv.take {s : St} {ls : List Sm} (h : Inv (s.wr ls)) (k : Nat) : Inv (s.wr (ls.take k)) := by
  have hsub : ∀ x ∈ s.l ++ ls.take k, x ∈ s.l ++ ls := by
    intro x hx
    rcases List.mem_append.1 hx with hx | hx
    · exact List.mem_append_left _ hx
    · exact List.mem_append_right _ (List.mem_of_mem_take hx)
  refine ⟨h.right, h.n0, h.n1, ?_, fun x hx => h.ok x (hsub x hx), fun x hx => h.past x (hsub x hx)⟩
  have h1 := h.len
  show (s.l ++ ls.take k).length ≤ 500
  have h2 : (s.l ++ ls).length ≤ 500 := h1
  rw [List.length_append] at h2 ⊢
  have := List.length_take_le' k ls
  omega
theorem wrE_ok {s : St} {ls : List Sm} (h : wrE s ls = 0) : batE ls = 0 ∧ (∀ x ∈ ls, lateB s x = false) ∧ s.l.length + ls.length ≤ 500 := by
  by_cases hb : batE ls = 0
  · unfold wrE at h
    rw [if_neg (by simp [hb])] at h
    cases hl : ls.any (lateB s)
    · rw [hl] at h
      refine ⟨hb, fun x hx => ?_, ?_⟩
      · have := List.any_eq_false.1 hl x hx; simpa using this
      · by_cases h7 : 500 < s.l.length + ls.length
        · rw [if_neg (by simp), if_pos h7] at h; omega
        · omega
    · rw [hl, if_pos rfl] at h; omega
  · rw [wrE_bat hb] at h; exact absurd h hb

theorem StAt.book {w : World} {X : Nat} {F : Nat → Prop} {s sb : St} {tk : Int} {L lcap : Nat} {pv bv : Value} {bk : List Ad} {gv : Value} {lg : ByteArray} (h : StAt w X F s sb tk L lcap pv bv bk gv lg) : BookSt w X 6 (stC s tk L lcap pv bv gv) 62 bv bk := ⟨h.blk, rfl, h.bok, h.bX⟩
theorem Cf.lims {c : Cf} (h : c.right = true) : ∀ j, j < c.lvs.length → 1 ≤ (lvG c.lvs j).limit ∧ (lvG c.lvs j).limit ≤ 20 := by
  intro j hj
  simp only [Cf.right, rightB, Bool.and_eq_true] at h
  exact ((okSer_iff _ _).1 (List.all_eq_true.1 h.2 j (List.mem_range.2 hj))).2

abbrev set14 (w : World) (P : Nat) (p : Pt) : World := (((((((((((((w.setCell ⟨P, 0, none⟩ (.int .i64 p.time)).setCell ⟨P, 1, none⟩ (.int .i32 p.value)).setCell ⟨P, 2, none⟩ (.int .u8 (sG p 0).a)).setCell ⟨P, 3, none⟩ (.int .u8 (sG p 0).b)).setCell ⟨P, 4, none⟩ (.int .u8 (sG p 0).c)).setCell ⟨P, 5, none⟩ (.int .u8 (sG p 1).a)).setCell ⟨P, 6, none⟩ (.int .u8 (sG p 1).b)).setCell ⟨P, 7, none⟩ (.int .u8 (sG p 1).c)).setCell ⟨P, 8, none⟩ (.int .u8 (sG p 2).a)).setCell ⟨P, 9, none⟩ (.int .u8 (sG p 2).b)).setCell ⟨P, 10, none⟩ (.int .u8 (sG p 2).c)).setCell ⟨P, 11, none⟩ (.int .u8 (sG p 3).a)).setCell ⟨P, 12, none⟩ (.int .u8 (sG p 3).b)).setCell ⟨P, 13, none⟩ (.int .u8 (sG p 3).c)
theorem set14_other {w : World} {P : Nat} {p : Pt} {k : Nat} (h : k ≠ P) : (set14 w P p).heap[k]? = w.heap[k]? := by
  unfold set14
  rw [Below.heap_setCell _ _ _ _ h, Below.heap_setCell _ _ _ _ h, Below.heap_setCell _ _ _ _ h, Below.heap_setCell _ _ _ _ h, Below.heap_setCell _ _ _ _ h, Below.heap_setCell _ _ _ _ h, Below.heap_setCell _ _ _ _ h, Below.heap_setCell _ _ _ _ h, Below.heap_setCell _ _ _ _ h, Below.heap_setCell _ _ _ _ h, Below.heap_setCell _ _ _ _ h, Below.heap_setCell _ _ _ _ h, Below.heap_setCell _ _ _ _ h, Below.heap_setCell _ _ _ _ h]
theorem set14_own {w : World} {P : Nat} {p : Pt} (h : w.heap[P]? = some (.cells zPt 78 (0, 0))) : (set14 w P p).heap[P]? = some (.cells (ptC p) 78 (0, 0)) := by
  have h0 := heap_setCell (o := 0) (v := (.int .i64 p.time)) h
  have h1 := heap_setCell (o := 1) (v := (.int .i32 p.value)) h0
  have h2 := heap_setCell (o := 2) (v := (.int .u8 (sG p 0).a)) h1
  have h3 := heap_setCell (o := 3) (v := (.int .u8 (sG p 0).b)) h2
  have h4 := heap_setCell (o := 4) (v := (.int .u8 (sG p 0).c)) h3
  have h5 := heap_setCell (o := 5) (v := (.int .u8 (sG p 1).a)) h4
  have h6 := heap_setCell (o := 6) (v := (.int .u8 (sG p 1).b)) h5
  have h7 := heap_setCell (o := 7) (v := (.int .u8 (sG p 1).c)) h6
  have h8 := heap_setCell (o := 8) (v := (.int .u8 (sG p 2).a)) h7
  have h9 := heap_setCell (o := 9) (v := (.int .u8 (sG p 2).b)) h8
  have h10 := heap_setCell (o := 10) (v := (.int .u8 (sG p 2).c)) h9
  have h11 := heap_setCell (o := 11) (v := (.int .u8 (sG p 3).a)) h10
  have h12 := heap_setCell (o := 12) (v := (.int .u8 (sG p 3).b)) h11
  have h13 := heap_setCell (o := 13) (v := (.int .u8 (sG p 3).c)) h12
  simp only [List.setIfInBounds_toArray, List.set_cons_succ, List.set_cons_zero] at h13
  exact h13
theorem set14_size {w : World} {P : Nat} {p : Pt} : (set14 w P p).heap.size = w.heap.size := by simp [set14, World.setCell]
theorem set14_fr {F : Nat → Prop} {a w : World} {P : Nat} {p : Pt} (h : Fr F a w) (hP : F P ∨ a.heap.size ≤ P) : Fr F a (set14 w P p) := by
  unfold set14
  exact ((((((((((((((h.setCell hP _).setCell hP _).setCell hP _).setCell hP _).setCell hP _).setCell hP _).setCell hP _).setCell hP _).setCell hP _).setCell hP _).setCell hP _).setCell hP _).setCell hP _).setCell hP _)
/-- A point's box beside a store. -/
structure PtBox (w wx : World) (X : Nat) (F : Nat → Prop) (s sb : St) (tk : Int) (L lcap : Nat) (pv bv : Value) (bk : List Ad) (gv : Value) (lg : ByteArray) (P : Nat) (p : Pt) : Prop where
  box : wx.heap[P]? = some (.cells (ptC p) 78 (0, 0))
  st : StAt wx X (gF F w wx) s sb tk L lcap pv bv bk gv lg
  fr : Fr F w wx
  ne : P ≠ X
section
variable {w w' : World} {X : Nat} {F : Nat → Prop} {s sb : St} {tk : Int} {L lcap : Nat} {pv bv : Value} {bk : List Ad} {gv : Value} {lg : ByteArray} {P : Nat} {p : Pt}
theorem st_box (h : StAt w' X (gF F w w') s sb tk L lcap pv bv bk gv lg) (hf : Fr F w w') (hP : w.heap.size ≤ P) (hb : w'.heap[P]? = some (.cells zPt 78 (0, 0))) (hX : P ≠ X) (hL : P ≠ L) (hp : pv.ownBlock ≠ some P) (hv : bv.ownBlock ≠ some P) (hg : gv.ownBlock ≠ some P) :
    PtBox w (set14 w' P p) X F s sb tk L lcap pv bv bk gv lg P p := by
  refine ⟨set14_own hb, ?_, set14_fr hf (.inr hP), hX⟩
  refine (h.keepE (fun k e => set14_other (fun e' => ?_))).mono (fun k e => by rcases e with e | e; exact .inl e; exact .inr ⟨e.1, by rw [set14_size]; exact e.2⟩)
  subst e'
  rcases e with e | e | e | e | e
  · exact hX e
  · exact hL e
  · exact hp e
  · exact hv e
  · exact hg e
theorem st_new (h : StAt w' X (gF F w w') s sb tk L lcap pv bv bk gv lg) (hf : Fr F w w') : PtBox w (w'.alloc (.cells (ptC p) 78)) X F s sb tk L lcap pv bv bk gv lg w'.heap.size p := by
  refine ⟨heap_alloc_new _ _, ?_, hf.alloc _, by have := h.lt; omega⟩
  exact (h.below ((Below.refl _ _).alloc (Nat.le_refl _) _)).mono (fun k e => by rcases e with e | e; exact .inl e; exact .inr ⟨e.1, by simp; omega⟩)
end

theorem write_no (X : Nat) (F : Nat → Prop) (s : St) (a : Option Addr) (n cap : Nat) (ls : List Sm) {lg : ByteArray} (w : World) (h : StoreAt w X F s lg) (hs : IsSms w a n ls) (hn : n ≤ maxLen) (he : wrE s ls ≠ 0) :
    Calls Try.prog 15 #[.pointer (some ⟨X, 0, none⟩), .slice a n cap] w fun e w' => e = .returned (.int .i64 (wrE s ls)) ∧ Below w.heap.size w w' := by
  have H : Hid (StoreAt w X F s lg) := h
  have HS : Hid (IsSms w a n ls) := hs
  have hbb : (wrE s ls != 0) = true := by simpa using he
  clear h hs he
  go_enter Try.func15, Try.ntmps15
  go_wp2_with fail
  refine (checkWrite_any X F s a n cap ls _ H.out HS.out hn).mono ?_
  rintro e w1 ⟨rfl, hb1⟩
  go_wp2_with fail
  go_ret
  exact ⟨rfl, hb1⟩

end Go.Proofs.Ythciddpljcbhiab

/- Walks: a batch written. -/
namespace Go.Proofs.Ythciddpljcbhiab
open Go Go.RowKit Go.Lib

theorem rec_size (ls : List Sm) : (strOfNums (recB ls)).size = 6 + 11 * ls.length := by
  rw [strOfNums_size]; unfold recB; rw [List.length_append, bodyB_len, lowN_len]; omega
theorem StAt.toStore {w : World} {X : Nat} {F : Nat → Prop} {s : St} {tk : Int} {L lcap : Nat} {pv bv : Value} {bk : List Ad} {gv : Value} {lg : ByteArray} (h : StAt w X F s s tk L lcap pv bv bk gv lg) (ht : tk = s.l.length) : StoreAt w X F s lg := by
  subst ht; exact ⟨L, lcap, pv, bv, bk, gv, h⟩
theorem StAt.toSb {w : World} {X : Nat} {F : Nat → Prop} {s sb sb' : St} {tk : Int} {L lcap : Nat} {pv bv : Value} {bk : List Ad} {gv : Value} {lg : ByteArray} (h : StAt w X F s sb tk L lcap pv bv bk gv lg) (he : sb' = sb) : StAt w X F s sb' tk L lcap pv bv bk gv lg := by
  rw [he]; exact h

set_option maxHeartbeats 4000000 in
set_option maxRecDepth 100000 in
theorem write_yes (X : Nat) (F : Nat → Prop) (s : St) (b off n cap : Nat) (ls : List Sm) (lg : ByteArray) (w : World) (h : StoreAt w X F s lg) (hn : ls.length = n) (hat : SmAt w b off ls) (hbF : ¬ F b) (hwf : ∀ x ∈ ls, x.wf) (hwf' : SmWf ls) (he : wrE s ls = 0) :
    Calls Try.prog 15 #[.pointer (some ⟨X, 0, none⟩), .slice (some ⟨b, off, none⟩) n cap] w fun e w' => e = .returned (.int .i64 0) ∧ StoreAt w' X (gF F w w') (s.wr ls) (lg ++ strOfNums (recB ls)) ∧ Fr F w w' := by
  have HSt : Hid (StoreAt w X F s lg) := h
  obtain ⟨hbat, hlate, hfull⟩ := wrE_ok he
  obtain ⟨b1, b2, b3⟩ := (batE_zero ls).1 hbat
  have HB3 : Hid (smsOk ls = true) := b3
  have HWF : Hid (SmWf ls) := hwf'
  have hI := h.inv
  have HINV : Hid (∀ k, Inv (s.wr (ls.take k))) := fun k => (hI.wr he hwf).take k
  have HLA : Hid (∀ k, k < n → liveB s.c s.now (smG ls k).time = true) := fun k hk => by
    have := hlate (smG ls k) (by rw [smG_get ls k (by omega)]; exact List.getElem_mem _)
    show liveB _ _ _ = true
    rw [live_iff]
    simp [lateB] at this
    omega
  have HOK : Hid (∀ k, k < n → lab3 (smG ls k).l0 (smG ls k).l1 (smG ls k).l2 = true) := fun k hk => by
    have := batE_ok hbat (smG ls k) (by rw [smG_get ls k (by omega)]; exact List.getElem_mem _)
    exact ((smOk_iff _).1 this).2.2
  have HE : Hid (wrE s ls = 0) := he
  have HN : Hid (ls.length = n) := hn
  have hn8 : n ≤ 8 := by omega
  have hn1 : 1 ≤ n := by omega
  have HAT : Hid (SmAt w b off ls) := hat
  have HBF : Hid (¬ F b) := hbF
  have HL5 : Hid (s.l.length + ls.length ≤ 500) := hfull
  have hsl : s.l.length ≤ 500 := by omega
  have hbs : b < w.heap.size := hat.block (by omega)
  have HSMS : Hid (IsSms w (some ⟨b, off, none⟩) n ls) := ⟨hn, fun _ => ⟨b, off, rfl, hat⟩⟩
  obtain ⟨pi0, hpi, pz0, pz1, pz2⟩ := infP Try.info78'
  obtain ⟨bi0, hbi, bz0, bz1, bz2⟩ := infP Try.info5'
  clear hbat hlate hfull b1 b2 b3 hI he hn hat hbF h hwf hwf'
  go_enter Try.func15, Try.ntmps15
  go_wp2_with fail
  refine (checkWrite_any X F s _ n cap ls _ HSt.out HSMS.out (by unfold maxLen; omega)).mono ?_
  rintro e w1 ⟨rfl, hb1⟩
  rw [HE.out]
  have HB1 : Hid (Below w.heap.size w w1) := hb1
  clear hb1
  go_wp2_with fail
  go_loopw [6] (fun i wr => ∃ (k : Nat) (L lcap : Nat) (pv bv : Value) (bk : List Ad) (gv : Value), i = .int .i64 k ∧ k ≤ n ∧ StAt wr X (gF F w wr) (s.wr (ls.take k)) (s.wr (ls.take k)) s.l.length L lcap pv bv bk gv lg ∧ Fr F w wr) (fun i _ => n - (intOf i).toNat)
  case atStart =>
    obtain ⟨L, lcap, pv, bv, bk, gv, hst⟩ := HSt.out
    refine ⟨0, L, lcap, pv, bv, bk, gv, rfl, Nat.zero_le _, ?_, Fr.of_below HB1.out⟩
    have e0 : s.wr (ls.take 0) = s := by unfold St.wr; simp
    rw [e0]
    exact (hst.below HB1.out).mono (fun k e => .inl e)
  case round =>
    obtain ⟨k, L, lcap, pv, bv, bk, gv, rfl, hk, hst, hfr⟩ := hrel
    have HS : Hid (StAt wr X (gF F w wr) (s.wr (ls.take k)) (s.wr (ls.take k)) s.l.length L lcap pv bv bk gv lg) := hst
    have HF : Hid (Fr F w wr) := hfr
    have hsz := hfr.size
    have hXr := hst.lt
    clear hst hfr
    by_cases hlt : k < n
    · have HAr : Hid (SmAt wr b off ls) := smAt_of (At.fr (at_of_sm HAT.out) HF.out HBF.out)
      obtain ⟨m0, m1, m2, m3, m4⟩ := HAr.out k (by rw [HN.out]; exact hlt)
      have HWT : Hid (s.wr (ls.take (k + 1)) = (s.wr (ls.take k)).wr [smG ls k]) := wr_take (by rw [HN.out]; exact hlt)
      have HLV := HLA.out k hlt
      have HLB := HOK.out k hlt
      have HIN := HINV.out (k + 1)
      generalize hsk : s.wr (ls.take k) = sk at *
      have hskc : sk.c = s.c := by rw [← hsk]; rfl
      have hskn : sk.now = s.now := by rw [← hsk]; rfl
      have hskl : sk.l.length ≤ 500 := HS.out.inv.len
      generalize hZ : smG ls k = Z at *
      have HBW := bookOk_wr1 HS.out.bOk Z
      have HPT := pts_wr1 sk Z (by rw [hskc, hskn]; exact HLV)
      have HBK := HS.out.bOk.2
      obtain ⟨q1, q4⟩ := HS.out.len
      have hbkl : bk.length ≤ 4000 := by
        have : sk.l.length * sk.c.lvs.length ≤ 500 * 4 := Nat.mul_le_mul hskl q4
        omega
      have c2 := HS.out.cell 2 _ rfl
      have hbX : b ≠ X := fun e => HBF.out (by
        rcases HS.out.fX with h | h
        · rw [e]; exact h
        · omega)
      have hLok : ∀ j, j < sk.c.lvs.length → ruleB (lvG sk.c.lvs j).rule = true ∧ (lvG sk.c.lvs j).rule.size ≤ maxLen ∧ 1 ≤ (lvG sk.c.lvs j).limit ∧ (lvG sk.c.lvs j).limit ≤ 20 := fun j hj =>
        ⟨((Cf.right_parts HS.out.inv.right).2.2.2.2.2.2 j hj).2.2.1, (HS.out.wf j).2.2, (Cf.lims HS.out.inv.right j hj).1, (Cf.lims HS.out.inv.right j hj).2⟩
      have HSd : Hid (StAt wr.drew X (gF F w wr) sk sk s.l.length L lcap pv bv bk gv lg) := HS.out.keep (fun _ _ _ => rfl)
      obtain ⟨pt, hpt⟩ : ∃ p : Pt, p = ⟨Z.time, Z.value, entS sk.c.lvs 0 bk Z.lb⟩ := ⟨_, rfl⟩
      have HGEN : Hid (∀ W, StAt W X (gF F w W) sk sk s.l.length L lcap pv bv bk gv lg → Fr F w W → Calls Try.prog 29 #[.pointer (some ⟨X, 6, none⟩), .slice (some ⟨L, 0, none⟩) sk.c.lvs.length lcap, .agg (smC Z)] W fun e w' => e = .returned (.agg (ptC pt)) ∧ (∃ bv2, StAt w' X (gF F w w') sk (sk.wr [Z]) s.l.length L lcap pv bv2 (entB sk.c.lvs 0 bk Z.lb) gv lg ∧ (bv2.ownBlock = bv.ownBlock ∨ ∀ k, bv2.ownBlock = some k → W.heap.size ≤ k)) ∧ Fr F w w' ∧ W.heap.size ≤ w'.heap.size ∧ ∀ k, k < W.heap.size → k ≠ X → bv.ownBlock ≠ some k → w'.heap[k]? = W.heap[k]?) := by
        intro W hst hfr
        refine (enter_any X 6 (stC sk s.l.length L lcap pv bv gv) 62 bv bk L sk.c.lvs.length lcap sk.c.lvs Z W hst.book hbkl HLB rfl q4 hst.lv hst.Llt (fun e => hst.XL e.symm) hst.bL hLok).mono ?_
        rintro e w' ⟨rfl, hp⟩
        obtain ⟨bv2, h1, h2, h3⟩ := st_book hst hp HBW.1
        obtain ⟨_, _, hp2, _⟩ := hp
        exact ⟨by rw [hpt], ⟨bv2, h1.mono (gF_trans hfr.size h2.size), h3⟩, Fr.gF hfr h2, h2.size, fun k a1 a2 a3 => hp2.block k a1 (fun e => e.elim a2 a3)⟩
      have HPT' : Hid ((sk.wr [Z]).pts = sk.pts ++ [pt]) := by show _ = _; rw [HPT, hpt, HBW.2]
      clear HPT
      have HSC : Hid (sk.c = s.c) := hskc
      have HSN : Hid (sk.now = s.now) := hskn
      have HSK : Hid (s.wr (ls.take k) = sk) := hsk
      have HZZ : Hid (smG ls k = Z) := hZ
      have HBWB := HBW.1
      generalize hbkn : entB sk.c.lvs 0 bk Z.lb = bkn at *
      clear hskc hskn hsk hZ HBW hpt hbkn
      have HFd : Hid (Fr F w wr.drew) := HF.out.drew
      have hbr : b < wr.heap.size := by omega
      have HSe : Hid (StAt (wr.alloc (.cells zPt 78)).drew X (gF F w (wr.alloc (.cells zPt 78)).drew) sk sk s.l.length L lcap pv bv bk gv lg) := by
        have e1 := HS.out.keep (w' := (wr.alloc (.cells zPt 78)).drew) (fun k _ hk => Below.heap_alloc wr (.cells zPt 78) k hk)
        refine StAt.mono e1 (fun k e => ?_)
        rcases e with e | e
        · exact Or.inl e
        · exact Or.inr ⟨e.1, by show k < (wr.alloc (.cells zPt 78)).heap.size; simp; omega⟩
      have HFe : Hid (Fr F w (wr.alloc (.cells zPt 78)).drew) := (HF.out.alloc _).drew
      have HPB : Hid (∀ w' : World, (∀ k, k < (wr.alloc (.cells zPt 78)).drew.heap.size → k ≠ X → bv.ownBlock ≠ some k → w'.heap[k]? = (wr.alloc (.cells zPt 78)).drew.heap[k]?) → w'.heap[wr.heap.size]? = some (.cells zPt 78 (0, 0))) := by
        intro w' hk
        rw [hk wr.heap.size (by show wr.heap.size < (wr.alloc (.cells zPt 78)).heap.size; simp) (by omega) (fun e => by have := (HS.out.bok.lt _ e).2; omega)]
        exact heap_alloc_new wr _
      have HBX : Hid (∀ w' bv2, StAt w' X (gF F w w') sk (sk.wr [Z]) s.l.length L lcap pv bv2 bkn gv lg → Fr F w w' → (bv2.ownBlock = bv.ownBlock ∨ ∀ k, bv2.ownBlock = some k → (wr.alloc (.cells zPt 78)).drew.heap.size ≤ k) → w'.heap[wr.heap.size]? = some (.cells zPt 78 (0, 0)) → PtBox w (set14 w' wr.heap.size pt) X F sk (sk.wr [Z]) s.l.length L lcap pv bv2 bkn gv lg wr.heap.size pt) := by
        intro w' bv2 h1 h2 h3 h4
        refine st_box h1 h2 hsz h4 (by omega) (by have := HS.out.Llt; omega) (fun e => by have := (HS.out.pts.lt _ e).2; omega) (fun e => ?_) (fun e => by have := (HS.out.log.lt _ e).2; omega)
        rcases h3 with ho | ho
        · rw [ho] at e; have := (HS.out.bok.lt _ e).2; omega
        · have h9 : (wr.alloc (.cells zPt 78)).heap.size ≤ wr.heap.size := ho _ e
          rw [World.size_alloc] at h9
          omega
      go_upto_region 7 with fail
      go_cut [7] from 15 to 43 (fun v wx => ∃ P bv2, v = .pointer (some ⟨P, 0, none⟩) ∧ PtBox w wx X F sk (sk.wr [Z]) s.l.length L lcap pv bv2 bkn gv lg P pt)
      case first =>
        go_region_with (first
          | (go_at_call 29; refine (HGEN.out wr.drew HSd.out HFd.out).mono ?_; rintro e w' ⟨rfl, ⟨bv2, hst2, hob⟩, hf2, hsz2, hkp⟩; have hXw := hst2.lt; have HN7 : Hid (PtBox w (w'.alloc (.cells (ptC pt) 78)) X F sk (sk.wr [Z]) s.l.length L lcap pv bv2 bkn gv lg w'.heap.size pt) := st_new hst2 hf2; clear hst2 hob hf2 hsz2 hkp)
          | (go_at_call 29; refine (HGEN.out (wr.alloc (.cells zPt 78)).drew HSe.out HFe.out).mono ?_; rintro e w' ⟨rfl, ⟨bv2, hst2, hob⟩, hf2, hsz2, hkp⟩; have hXw := hst2.lt; have hPb := HPB.out w' hkp; have HN8 : Hid (PtBox w (set14 w' wr.heap.size pt) X F sk (sk.wr [Z]) s.l.length L lcap pv bv2 bkn gv lg wr.heap.size pt) := HBX.out w' bv2 hst2 hf2 hob hPb; have x0 := cell_blk (o := 0) hPb rfl; have x1 := cell_blk (o := 1) hPb rfl; have x2 := cell_blk (o := 2) hPb rfl; have x3 := cell_blk (o := 3) hPb rfl; have x4 := cell_blk (o := 4) hPb rfl; have x5 := cell_blk (o := 5) hPb rfl; have x6 := cell_blk (o := 6) hPb rfl; have x7 := cell_blk (o := 7) hPb rfl; have x8 := cell_blk (o := 8) hPb rfl; have x9 := cell_blk (o := 9) hPb rfl; have x10 := cell_blk (o := 10) hPb rfl; have x11 := cell_blk (o := 11) hPb rfl; have x12 := cell_blk (o := 12) hPb rfl; have x13 := cell_blk (o := 13) hPb rfl; have xz := fun o => froz_blk (o := o) hPb; clear hst2 hob hf2 hsz2 hkp hPb))
        all_goals go_wp2_with fail
        all_goals go_meet
        all_goals (case rel => first
          | (have h9 := HN8.out; exact ⟨wr.heap.size, bv2, rfl, h9⟩)
          | (have h9 := HN7.out; exact ⟨w'.heap.size, bv2, rfl, h9⟩))
      case rest =>
        obtain ⟨P, bv2, rfl, hbx⟩ := hcut
        have HS3 : Hid (StAt wc X (gF F w wc) sk (sk.wr [Z]) s.l.length L lcap pv bv2 bkn gv lg) := hbx.st
        have HF3 : Hid (Fr F w wc) := hbx.fr
        have hPX := hbx.ne
        have hPlt : P < wc.heap.size := (Array.getElem?_eq_some_iff.1 hbx.box).1
        have x0 := cell_blk (o := 0) hbx.box rfl
        have x1 := cell_blk (o := 1) hbx.box rfl
        have x2 := cell_blk (o := 2) hbx.box rfl
        have x3 := cell_blk (o := 3) hbx.box rfl
        have x4 := cell_blk (o := 4) hbx.box rfl
        have x5 := cell_blk (o := 5) hbx.box rfl
        have x6 := cell_blk (o := 6) hbx.box rfl
        have x7 := cell_blk (o := 7) hbx.box rfl
        have x8 := cell_blk (o := 8) hbx.box rfl
        have x9 := cell_blk (o := 9) hbx.box rfl
        have x10 := cell_blk (o := 10) hbx.box rfl
        have x11 := cell_blk (o := 11) hbx.box rfl
        have x12 := cell_blk (o := 12) hbx.box rfl
        have x13 := cell_blk (o := 13) hbx.box rfl
        obtain ⟨pa, pcap, rfl⟩ := ownForm HS3.out.pts
        have c5 := HS3.out.cell 5 _ rfl
        have f5 := HS3.out.frozen 5
        have hX3 := HS3.out.lt
        have hXn : X ≠ wc.heap.size := by omega
        have hp5 := pts_len HS3.out.inv
        have HIN' : Hid (Inv (sk.wr [Z])) := by show Inv _; rw [← HWT.out]; exact HIN
        have HSC' : Hid ((sk.wr [Z]).c = sk.c) := rfl
        have HSN' : Hid ((sk.wr [Z]).now = sk.now) := rfl
        clear hbx HGEN HSd HFd HSe HFe HPB HBX m0 m1 m2 m3 m4 c2 HAr
        go_upto_region 8 with fail
        go_region_law (refine stepAppend rfl (.tmp 38) (.tmp 40) 56 rfl 0 78 pi0 (.agg zPt) 14 24 Try.underlying56 hpi pz0 pz1 pz2 rfl (by decide) (.slice pa sk.pts.length pcap) sk.pts.length (flatP sk.pts) (by simp [Act.eval]) (HS3.out.pts.alloc _) ⟨wc.heap.size, 0, none⟩ 1 1 (Pt.cells pt) (by simp [Act.eval]) rfl (newAt _ (Pt.cells pt) 78 _ rfl) (Pt.one _) (by unfold maxLen; omega) (by omega) (Nat.zero_le _) ?_; intro v' w3 hown' hgrow hblk; have qX3 : w3.cell? ⟨X, 5, none⟩ = some (.slice pa sk.pts.length pcap) := hgrow.cell (cell_alloc1 c5) (fun e => HS3.out.pX e.symm); have fX3 : w3.frozen? ⟨X, 5, none⟩ = false := (World.frozen?_of_block (hgrow.block X (by simp; omega) (fun e => HS3.out.pX e.symm))).trans (frozen_alloc1 hX3 f5); obtain ⟨a', p', rfl⟩ := ownForm hown')
        all_goals (have hg' := gr_undrew hgrow)
        all_goals (have H5 : Hid (∃ pv', StAt (w3.setCell ⟨X, 5, none⟩ (.slice a' (sk.pts.length + 1) p')) X (gF F w (w3.setCell ⟨X, 5, none⟩ (.slice a' (sk.pts.length + 1) p'))) (sk.wr [Z]) (sk.wr [Z]) s.l.length L lcap pv' bv2 bkn gv lg ∧ Fr F w (w3.setCell ⟨X, 5, none⟩ (.slice a' (sk.pts.length + 1) p'))) := let ⟨h1, h2⟩ := st_put (s' := sk.wr [Z]) (p := pt) HS3.out ((Below.refl _ _).alloc (Nat.le_refl _) _) hg' hown' hblk HSC'.out HSN'.out HPT'.out HIN'.out; ⟨_, h1.mono (gF_trans HF3.out.size h2.size), Fr.gF HF3.out h2⟩)
        all_goals clear hgrow hg' hblk hown'
        all_goals go_wp2_with fail
        all_goals (obtain ⟨pv', h1, h2⟩ := H5.out)
        all_goals exact ⟨⟨k + 1, L, lcap, pv', bv2, bkn, gv, by go_num, by omega, by rw [HWT.out]; exact h1, h2⟩, by simp [intOf]; omega⟩
    · have HAL : Hid (s.wr (ls.take k) = s.wr ls) := by show _ = _; rw [List.take_of_length_le (by rw [HN.out]; omega)]
      rw [HAL.out] at HS
      have c4 := HS.out.cell 4 _ rfl
      have f4 := HS.out.frozen 4
      have HSL : Hid (((s.wr ls).l.length : Int) = s.l.length + n) := by show ((s.l ++ ls).length : Int) = _; rw [List.length_append, HN.out]; omega
      have HS5 := st_set (o := 4) (v := .int .i64 ((s.l.length : Int) + n)) (s' := s.wr ls) (tk' := (s.l.length : Int) + n) HS.out rfl rfl rfl HS.out.inv (by have := HS.out.lgl; omega)
      have HS6 : Hid (StAt (wr.setCell ⟨X, 4, none⟩ (.int .i64 ((s.l.length : Int) + n))) X (gF F w wr) (s.wr ls) (s.wr ls) ((s.l.length : Int) + n) L lcap pv bv bk gv lg) := HS5.1
      have HF6 : Hid (Fr F w (wr.setCell ⟨X, 4, none⟩ (.int .i64 ((s.l.length : Int) + n)))) := Fr.gF HF.out HS5.2
      have HA6 : Hid (SmAt (wr.setCell ⟨X, 4, none⟩ (.int .i64 ((s.l.length : Int) + n))) b off ls) := smAt_of (At.fr (at_of_sm HAT.out) HF6.out HBF.out)
      have hl5 : s.l.length + n ≤ 500 := by have := HL5.out; have := HN.out; omega
      have HLG : Hid ((lg.size : Int) ≤ 7 * s.now + 17 * (s.l.length : Int)) := HS.out.lgl
      clear HS5
      go_wp2_with fail
      refine (ofBatch_any b off n cap ls _ HN.out hn8 HA6.out HWF.out HB3.out).mono ?_
      rintro e w3 ⟨rfl, hb3⟩
      have HS7 : Hid (StAt w3 X (gF F w w3) (s.wr ls) (s.wr ls) ((s.l.length : Int) + n) L lcap pv bv bk gv lg) := (HS6.out.below hb3).mono (fun k e => by
        rcases e with e | e
        · exact .inl e
        · exact .inr ⟨e.1, by have := hb3.size; simp [World.setCell] at this; omega⟩)
      have HF7 : Hid (Fr F w w3) := HF6.out.trans (Fr.of_below (S := fun _ => False) hb3) (fun _ e => e.elim)
      obtain ⟨ga, gc, rfl⟩ := ownForm HS7.out.log
      have d7 := HS7.out.cell 7 _ rfl
      have f7 := HS7.out.frozen 7
      have hX7 := HS7.out.lt
      have hlg : lg.size ≤ 800000 := HS7.out.bytes (by omega)
      have HRS : Hid ((strOfNums (recB ls)).size = 6 + 11 * n) := by show _ = _; rw [rec_size, HN.out]
      clear hb3 HS6 HF6 HA6 c4 f4
      go_wp2_with (refine listAppendStr rfl (.tmp 59) (.tmp 60) 60 9 rfl 0 5 bi0 Try.underlying60 Try.underlying9 hbi bz0 bz1 bz2 (.slice ga lg.size gc) lg.size (strCells lg) (by simp [Act.eval]) HS7.out.log (strOfNums (recB ls)) (by simp [Act.eval]) (by rw [HRS.out]; unfold maxLen; omega) (by rw [HRS.out]; omega) (Nat.zero_le _) ?_; intro gv' w4 hown hgrow hblk; have f4 : w4.frozen? ⟨X, 7, none⟩ = false := (World.frozen?_of_block (hgrow.block X hX7 (fun e => HS7.out.gX e.symm))).trans f7; have d4 : w4.cell? ⟨X, 7, none⟩ = some (.slice ga lg.size gc) := hgrow.cell d7 (fun e => HS7.out.gX e.symm); obtain ⟨a', p', rfl⟩ := ownForm hown)
      go_ret
      obtain ⟨h1, h2⟩ := st_log HS7.out hgrow hown hblk (by
        rw [ByteArray.size_append, HRS.out]
        have := HLG.out
        show ((lg.size + (6 + 11 * n) : Nat) : Int) ≤ 7 * s.now + 17 * ((s.l.length : Int) + n)
        omega)
      exact ⟨rfl, (h1.mono (gF_trans HF7.out.size h2.size)).toStore HSL.out.symm, Fr.gF HF7.out h2⟩

end Go.Proofs.Ythciddpljcbhiab

/- Walks: a Tick. -/
namespace Go.Proofs.Ythciddpljcbhiab
open Go Go.RowKit Go.Lib

theorem tkE_zero {s : St} {n : Int} (h : tkE s n = 0) : 1 ≤ n ∧ n ≤ 1000 ∧ s.now + n ≤ 100000 := by
  unfold tkE at h
  split at h
  · omega
  · omega
theorem tkE_no {s : St} {n : Int} (h : tkE s n ≠ 0) : tkE s n = 8 ∧ (n < 1 ∨ 1 ≤ n ∧ 1000 < n ∨ 1 ≤ n ∧ n ≤ 1000 ∧ 100000 < s.now + n) := by
  unfold tkE at h ⊢
  split
  · refine ⟨rfl, ?_⟩; omega
  · next h' => rw [if_neg h'] at h; omega
theorem tick_size (n : Int) : (strOfNums (tickB n)).size = 7 := by rw [strOfNums_size, tickB_len]

/-- A store whose time went on and whose expired points were let go. -/
theorem st_fg {w w2 : World} {X : Nat} {F : Nat → Prop} {s : St} {tk : Int} {L lcap : Nat} {pv pv' bv : Value} {bk : List Ad} {gv : Value} {lg : ByteArray} {n m : Int} {v : Value} (h : StAt w X F s s tk L lcap pv bv bk gv lg) (hn : 1 ≤ n) (hi : Inv (s.tk n))
    (fg : FgAt (w.setCell ⟨X, 3, none⟩ v) w2 X (s.tk n) tk L lcap pv' bv gv (liveP (s.tk n) s.pts) (liveP (s.tk n) s.pts).length) (hp : pv'.ownBlock = pv.ownBlock) (_ : m = n) :
    StAt w2 X F (s.tk n) (s.tk n) tk L lcap pv' bv bk gv lg ∧ Fr F w w2 := by
  have hfr : Fr (fun k => k = X ∨ pv.ownBlock = some k) w w2 := by
    have h1 : Fr (fun k => k = X ∨ pv.ownBlock = some k) w (w.setCell ⟨X, 3, none⟩ v) := Fr.setCell (S := fun k => k = X ∨ pv.ownBlock = some k) (Fr.refl _ _) (.inl (.inl rfl)) _
    exact h1.trans fg.fr (fun k e => .inl (by rw [← hp]; exact e))
  have hpe : (s.tk n).pts = liveP (s.tk n) s.pts := pts_tk s (Cf.right_parts h.inv.right).1 (by omega)
  refine ⟨?_, hfr.mono fun k e => by (rcases e with e | e; (rw [e]; exact h.fX); exact h.fp k e)⟩
  have hbk : BookOk (s.tk n) bk := h.bOk
  exact { blk := fg.blk,
          lv := lvAt_of (At.fr (at_of_lv h.lv) hfr (fun e => by rcases e with e | e; exact h.XL e.symm; exact h.pL e)),
          pts := by rw [hpe]; exact fg.own,
          bok := owns_fr h.bok hfr (fun k e e' => by rcases e' with e' | e'; exact h.bX (by rw [← e']; exact e); exact h.pb k e' e),
          log := owns_fr h.log hfr (fun k e e' => by rcases e' with e' | e'; exact h.gX (by rw [← e']; exact e); exact h.gp k e' e),
          lgl := by have := h.lgl; show (lg.size : Int) ≤ 7 * (s.now + n) + 17 * tk; omega
          bOk := hbk, inv := hi, wf := h.wf, XL := h.XL, pX := by rw [hp]; exact h.pX, pL := by rw [hp]; exact h.pL, bX := h.bX, bL := h.bL, pb := by rw [hp]; exact h.pb,
          gX := h.gX, gL := h.gL, gp := by rw [hp]; exact h.gp, gb := h.gb, fX := h.fX, fL := h.fL, fp := by rw [hp]; exact h.fp, fb := h.fb, fg := h.fg }

set_option maxHeartbeats 1000000 in
set_option maxRecDepth 100000 in
theorem tick_no (X : Nat) (F : Nat → Prop) (s : St) (n : Int) {lg : ByteArray} (w : World) (h : StoreAt w X F s lg) (h0 : -9223372036854775808 ≤ n) (h1 : n ≤ 9223372036854775807) (he : tkE s n ≠ 0) :
    Calls Try.prog 16 #[.pointer (some ⟨X, 0, none⟩), .int .i64 n] w fun e w' => e = .returned (.int .i64 8) ∧ w' = w := by
  obtain ⟨L, lcap, pv, bv, bk, gv, h⟩ := h
  have c3 := h.cell 3 _ rfl
  have i0 := h.inv.n0
  have i1 := h.inv.n1
  obtain ⟨_, hd⟩ := tkE_no he
  clear h he
  rcases hd with hd | ⟨hd1, hd2⟩ | ⟨hd1, hd2, hd3⟩
  · go_enter Try.func16, Try.ntmps16
    go_wp2_with fail
    go_ret
    exact ⟨rfl, rfl⟩
  · go_enter Try.func16, Try.ntmps16
    go_wp2_with fail
    go_ret
    exact ⟨rfl, rfl⟩
  · have hd4 : 100000 - n < s.now := by omega
    go_enter Try.func16, Try.ntmps16
    go_wp2_with fail
    go_ret
    exact ⟨rfl, rfl⟩

set_option maxHeartbeats 1000000 in
set_option maxRecDepth 100000 in
theorem tick_yes (X : Nat) (F : Nat → Prop) (s : St) (n : Int) (lg : ByteArray) (w : World) (h : StoreAt w X F s lg) (he : tkE s n = 0) :
    Calls Try.prog 16 #[.pointer (some ⟨X, 0, none⟩), .int .i64 n] w fun e w' => e = .returned (.int .i64 0) ∧ StoreAt w' X (gF F w w') (s.tk n) (lg ++ strOfNums (tickB n)) ∧ Fr F w w' := by
  obtain ⟨L, lcap, pv, bv, bk, gv, h⟩ := h
  have HS : Hid (StAt w X F s s s.l.length L lcap pv bv bk gv lg) := h
  have c3 := h.cell 3 _ rfl
  have i0 := h.inv.n0
  have i1 := h.inv.n1
  have HI : Hid (Inv (s.tk n)) := h.inv.tk he
  obtain ⟨e1, e2, e3⟩ := tkE_zero he
  have e4 : ¬ 100000 - n < s.now := by omega
  have hXw := h.lt
  have fX := h.frozen 3
  obtain ⟨bi0, hbi, bz0, bz1, bz2⟩ := infP Try.info5'
  clear h he
  go_enter Try.func16, Try.ntmps16
  go_wp2_with fail
  have HF0 : Hid (Calls Try.prog 31 #[.pointer (some ⟨X, 0, none⟩)] (w.setCell ⟨X, 3, none⟩ (.int .i64 (s.now + n))) fun e w' => e = .returned (.tuple #[]) ∧ ∃ pv', FgAt (w.setCell ⟨X, 3, none⟩ (.int .i64 (s.now + n))) w' X (s.tk n) s.l.length L lcap pv' bv gv (liveP (s.tk n) s.pts) (liveP (s.tk n) s.pts).length ∧ pv'.ownBlock = pv.ownBlock) := by
    refine forget_any X (s.tk n) s.l.length L lcap pv bv gv s.pts s.pts.length _ HI.out.right HI.out.n0 HI.out.n1 ?_ (owns_other HS.out.pts HS.out.pX) rfl (pts_len HS.out.inv) HS.out.pX (fun p hp => ?_)
    · exact heap_setCell HS.out.blk
    · have := pts_ok HS.out.inv p hp
      exact ⟨this.t0, this.t1⟩
  refine HF0.out.mono ?_
  rintro e w2 ⟨rfl, pv', hfg, hpb⟩
  obtain ⟨hst, hfr⟩ := st_fg (m := n) HS.out e1 HI.out hfg hpb rfl
  have HS2 : Hid (StAt w2 X F (s.tk n) (s.tk n) s.l.length L lcap pv' bv bk gv lg) := hst
  have HR2 : Hid (Fr F w w2) := hfr
  clear hfg hpb hst hfr HF0 c3 fX
  go_wp2_with fail
  refine (ofTick_any n _ e1 e2).mono ?_
  rintro e w3 ⟨rfl, hb3⟩
  have HS3 : Hid (StAt w3 X F (s.tk n) (s.tk n) s.l.length L lcap pv' bv bk gv lg) := HS2.out.below hb3
  have HR3 : Hid (Fr F w w3) := HR2.out.trans (Fr.of_below (S := fun _ => False) hb3) (fun _ e => e.elim)
  obtain ⟨ga, gc, rfl⟩ := ownForm HS3.out.log
  have d7 := HS3.out.cell 7 _ rfl
  have f7 := HS3.out.frozen 7
  have hX3 := HS3.out.lt
  have hsl := HS.out.inv.len
  have hlg : lg.size ≤ 800000 := HS3.out.bytes (by omega)
  clear hb3
  go_wp2_with (refine listAppendStr rfl (.tmp 37) (.tmp 38) 60 9 rfl 0 5 bi0 Try.underlying60 Try.underlying9 hbi bz0 bz1 bz2 (.slice ga lg.size gc) lg.size (strCells lg) (by simp [Act.eval]) HS3.out.log (strOfNums (tickB n)) (by simp [Act.eval]) (by rw [tick_size]; unfold maxLen; omega) (by rw [tick_size]; omega) (Nat.zero_le _) ?_; intro gv' w4 hown hgrow hblk; have f4 : w4.frozen? ⟨X, 7, none⟩ = false := (World.frozen?_of_block (hgrow.block X hX3 (fun e => HS3.out.gX e.symm))).trans f7; have d4 : w4.cell? ⟨X, 7, none⟩ = some (.slice ga lg.size gc) := hgrow.cell d7 (fun e => HS3.out.gX e.symm); obtain ⟨a', p', rfl⟩ := ownForm hown)
  go_ret
  obtain ⟨h1, h2⟩ := st_log HS3.out hgrow hown hblk (by
    rw [ByteArray.size_append, tick_size]
    have := HS.out.lgl
    show ((lg.size + 7 : Nat) : Int) ≤ 7 * (s.now + n) + 17 * (s.l.length : Int)
    omega)
  refine ⟨rfl, ?_, ?_⟩
  · exact (h1.mono (fun k e => by
      rcases e with e | e
      · exact .inl e
      · exact .inr ⟨by have := HR3.out.size; omega, e.2⟩)).toStore rfl
  · exact HR3.out.trans h2 (fun k e => .inl e)

end Go.Proofs.Ythciddpljcbhiab

/- Walks: rows joined, a rule made right (garnerkeep). -/
namespace Go.Proofs.Ythciddpljcbhiab
open Go Go.RowKit

/-- Numbers small enough to add. -/
def SmR (a : Ag) : Prop := 0 ≤ a.cnt ∧ a.cnt ≤ 1000000 ∧ -4000000000000000 ≤ a.sum ∧ a.sum ≤ 4000000000000000
theorem joinR_zero {a b : Rw} (h : a.ag.cnt = 0) : joinR a b = b := if_pos h
theorem joinR_more {a b : Rw} (h : ¬ a.ag.cnt = 0) : joinR a b = ⟨a.key, ⟨a.ag.cnt + b.ag.cnt, a.ag.sum + b.ag.sum, min a.ag.mn b.ag.mn, max a.ag.mx b.ag.mx⟩⟩ := if_neg h
theorem kgd_fin : ∀ r : Fin 3, ((((⟨#[107, 103, 100]⟩ : ByteArray)[r.val]'(show r.val < 3 from r.isLt)).toNat : Nat) : Int) = if r.val = 0 then 107 else if r.val = 1 then 103 else 100 := by decide
theorem kgd_get (m : Nat) (h : m % 3 < (⟨#[107, 103, 100]⟩ : ByteArray).size) : ((((⟨#[107, 103, 100]⟩ : ByteArray)[m % 3]'h).toNat : Nat) : Int) = rlB (m : Int) := by
  have h' : m % 3 < 3 := by omega
  have := kgd_fin ⟨m % 3, h'⟩
  simp only at this
  refine this.trans ?_
  unfold rlB
  by_cases e : (m : Int) % 3 = 0
  · rw [if_pos (by omega), if_pos e]
  · rw [if_neg (by omega), if_neg e]
    by_cases e1 : (m : Int) % 3 = 1
    · rw [if_pos (by omega), if_pos e1]
    · rw [if_neg (by omega), if_neg e1]
abbrev b3 (a b c : Int) : Obj := .cells #[.int .u8 a, .int .u8 b, .int .u8 c] 5
theorem wEqB {w : World} {a b c a' b' c' : Int} (h : a = a') (h1 : b = b') (h2 : c = c') : w.alloc (b3 a b c) = w.alloc (b3 a' b' c') := by rw [h, h1, h2]
theorem rl_in {raw : ByteArray} {i : Nat} (h : i < raw.size) : rl raw i = rlB (byt raw i) := if_pos h
theorem rl_out {raw : ByteArray} {i : Nat} (h : ¬ i < raw.size) : rl raw i = 107 := if_neg h

set_option maxHeartbeats 1000000 in
set_option maxRecDepth 100000 in
theorem rule_any (raw : ByteArray) (hr : raw.size ≤ maxLen) (w : World) : Calls Try.prog 37 #[.string raw] w fun e w' => e = .returned (.string (ruleOf raw)) ∧ Below w.heap.size w w' := by
  unfold maxLen at hr
  go_enter Try.func37, Try.ntmps37
  go_wp2_with fail
  go_loopw [4] (fun i wr => (i = .int .i64 0 ∧ wr = w.alloc (b3 107 107 107)) ∨ (i = .int .i64 1 ∧ 0 < raw.size ∧ wr = w.alloc (b3 (rl raw 0) 107 107)) ∨ (i = .int .i64 2 ∧ 1 < raw.size ∧ wr = w.alloc (b3 (rl raw 0) (rl raw 1) 107)) ∨ (i = .int .i64 3 ∧ 2 < raw.size ∧ wr = w.alloc (b3 (rl raw 0) (rl raw 1) (rl raw 2)))) (fun i _ => 3 - (intOf i).toNat)
  case atStart => exact Or.inl ⟨rfl, rfl⟩
  case round =>
    have hcv := fun w g hg a b c => convNew w [a, b, c] 3 rfl 3 _ rfl g hg
    have HCV : Hid (∀ (w : World) (g : Nat), g = w.heap.size → ∀ a b c : Int, (convert 60 9 (.slice (some ⟨g, 0, none⟩) 3 3)).run Try.prog (w.alloc (.cells #[.int .u8 a, .int .u8 b, .int .u8 c] 5)) = .ok (.string (strOfNums [a, b, c])) (w.alloc (.cells #[.int .u8 a, .int .u8 b, .int .u8 c] 5))) := hcv
    clear hcv
    rcases hrel with ⟨rfl, rfl⟩ | ⟨rfl, h0, rfl⟩ | ⟨rfl, h0, rfl⟩ | ⟨rfl, h0, rfl⟩
    · by_cases hs : 0 < raw.size
      · have HB : Hid (((raw[0].toNat : Nat) : Int) = byt raw 0) := byt_eq raw 0 hs
        have h255 : ((raw[0].toNat : Nat) : Int) ≤ 255 := by rw [HB.out]; exact (byt_range raw 0).2
        have hsi : (0 : Int) < (raw.size : Int) := by omega
        go_wp2_with fail
        exact ⟨Or.inr (Or.inl ⟨rfl, hs, wEqB (by rw [kgd_get, HB.out, rl_in hs]) rfl rfl⟩), by simp [intOf]⟩
      · have hsi : ¬ (0 : Int) < (raw.size : Int) := by omega
        have c := HCV.out w w.heap.size rfl 107 107 107
        go_wp2_with fail
        go_ret
        refine ⟨ret_of (congrArg Value.string ?_), by go_grown⟩
        unfold ruleOf; rw [rl_out hs, rl_out (by omega), rl_out (by omega)]
    · by_cases hs : 1 < raw.size
      · have HB : Hid (((raw[1].toNat : Nat) : Int) = byt raw 1) := byt_eq raw 1 hs
        have h255 : ((raw[1].toNat : Nat) : Int) ≤ 255 := by rw [HB.out]; exact (byt_range raw 1).2
        have hsi : (1 : Int) < (raw.size : Int) := by omega
        go_wp2_with fail
        exact ⟨Or.inr (Or.inr (Or.inl ⟨rfl, hs, wEqB rfl (by rw [kgd_get, HB.out, rl_in hs]) rfl⟩)), by simp [intOf]⟩
      · have hsi : ¬ (1 : Int) < (raw.size : Int) := by omega
        have c := HCV.out w w.heap.size rfl (rl raw 0) 107 107
        go_wp2_with fail
        go_ret
        refine ⟨ret_of (congrArg Value.string ?_), by go_grown⟩
        unfold ruleOf; rw [rl_out (i := 1) (by omega), rl_out (i := 2) (by omega)]
    · by_cases hs : 2 < raw.size
      · have HB : Hid (((raw[2].toNat : Nat) : Int) = byt raw 2) := byt_eq raw 2 hs
        have h255 : ((raw[2].toNat : Nat) : Int) ≤ 255 := by rw [HB.out]; exact (byt_range raw 2).2
        have hsi : (2 : Int) < (raw.size : Int) := by omega
        go_wp2_with fail
        exact ⟨Or.inr (Or.inr (Or.inr ⟨rfl, hs, wEqB rfl rfl (by rw [kgd_get, HB.out, rl_in hs])⟩)), by simp [intOf]⟩
      · have hsi : ¬ (2 : Int) < (raw.size : Int) := by omega
        have c := HCV.out w w.heap.size rfl (rl raw 0) (rl raw 1) 107
        go_wp2_with fail
        go_ret
        refine ⟨ret_of (congrArg Value.string ?_), by go_grown⟩
        unfold ruleOf; rw [rl_out (i := 2) (by omega)]
    · have c := HCV.out w w.heap.size rfl (rl raw 0) (rl raw 1) (rl raw 2)
      go_wp2_with fail
      go_ret
      exact ⟨rfl, by go_grown⟩

end Go.Proofs.Ythciddpljcbhiab

/- Walks: rows alike; the oldest time; the query of all that is kept (garnerkeep). -/
namespace Go.Proofs.Ythciddpljcbhiab
open Go Go.RowKit

theorem ret_i64'' {a b : Int} (h : a = b) : Ending.returned (.int .i64 a) = .returned (.int .i64 b) := by rw [h]
theorem cell_blk' {w : World} {g o : Nat} {C : Array Value} {t : TypeId} {fr : Nat × Nat} {v : Value} (h : w.heap[g]? = some (.cells C t fr)) (hv : C[o]? = some v) : w.cell? ⟨g, o, none⟩ = some v := by simp [World.cell?, h, hv]
/-- Where the rows of a slice lie. -/
def RwsAt (w : World) (a : Option Addr) (l : List Rw) : Prop := 0 < l.length → ∃ g, a = some ⟨g, 0, none⟩ ∧ g < w.heap.size ∧ ∀ i, i < l.length → RwAt w g (i * 8) (rwG l i)
theorem RwsAt.of_owns {w : World} {base : Nat} {a : Option Addr} {n cap : Nat} {l : List Rw} (h : w.ownsRow base 54 8 (.slice a n cap) n (flatR l)) (hn : l.length = n) : RwsAt w a l := by
  intro hp
  obtain ⟨g, cap', he, _, hg, _⟩ := ownBlockForm h (by omega)
  injection he with h1 h2 h3
  subst h1
  exact ⟨g, rfl, hg, fun i hi => owns_rw h i hi⟩
theorem RwsAt.below {w w' : World} {a : Option Addr} {l : List Rw} (h : RwsAt w a l) (hb : Below w.heap.size w w') : RwsAt w' a l := by
  intro hp
  obtain ⟨g, rfl, hg, hr⟩ := h hp
  exact ⟨g, rfl, by have := hb.size; omega, fun i hi => (hr i hi).below hb⟩
theorem sameR_iff {a b : Rw} (h : sameR a b = true) : (a.ag.cnt != b.ag.cnt) = false ∧ (a.ag.sum != b.ag.sum) = false ∧ (a.ag.mn != b.ag.mn) = false ∧ (a.ag.mx != b.ag.mx) = false := by
  simp only [sameR, Bool.and_eq_true, beq_iff_eq] at h
  obtain ⟨⟨⟨h1, h2⟩, h3⟩, h4⟩ := h
  simp [h1, h2, h3, h4]

/-- The desk's block. -/
abbrev dkC (X : Nat) (s : St) (L n cap : Nat) (sv : Value) : Array Value := #[.pointer (some ⟨X, 0, none⟩), .int .i64 s.c.span, .int .i64 s.c.keep, .slice (some ⟨L, 0, none⟩) n cap, .int .i64 s.now, sv]

theorem oldT_eq (s : St) : oldT s = if s.now / s.c.span - s.c.keep < 0 then 0 else (s.now / s.c.span - s.c.keep) * s.c.span := by
  unfold oldT Cf.old; split <;> simp

set_option maxHeartbeats 1000000 in
theorem oldest_any (D X : Nat) (s : St) (L n cap : Nat) (sv : Value) (w : World) (hI : Inv s) (hD : w.heap[D]? = some (.cells (dkC X s L n cap sv) 31 (0, 0))) :
    Calls Try.prog 27 #[.pointer (some ⟨D, 0, none⟩)] w fun e w' => e = .returned (.int .i64 (oldT s)) ∧ ∃ d, w' = w.drewN d := by
  obtain ⟨h1, h2, h3, h4, _⟩ := Cf.right_parts hI.right
  have n0 := hI.n0
  have n1 := hI.n1
  have d1 : w.cell? ⟨D, 1, none⟩ = some (.int .i64 s.c.span) := cell_blk' hD rfl
  have d2 : w.cell? ⟨D, 2, none⟩ = some (.int .i64 s.c.keep) := cell_blk' hD rfl
  have d4 : w.cell? ⟨D, 4, none⟩ = some (.int .i64 s.now) := cell_blk' hD rfl
  have hsp : ¬ s.c.span = 0 := by omega
  have q0 : 0 ≤ s.now / s.c.span := Int.ediv_nonneg n0 (by omega)
  have q1 : s.now / s.c.span ≤ 100000 := Int.le_trans (Int.ediv_le_self _ n0) n1
  have HE : Hid (oldT s = _) := oldT_eq s
  clear hD hI
  by_cases hc : s.now / s.c.span - s.c.keep < 0
  · have HE' : Hid (oldT s = 0) := HE.out.trans (if_pos hc)
    go_enter Try.func27, Try.ntmps27
    go_wp2_with fail
    go_quiet (fail)
    go_wp2_with fail
    go_ret
    exact ⟨ret_i64'' HE'.out.symm, _, rfl⟩
  · have HE' : Hid (oldT s = (s.now / s.c.span - s.c.keep) * s.c.span) := HE.out.trans (if_neg hc)
    have m0 : 0 ≤ (s.now / s.c.span - s.c.keep) * s.c.span := Int.mul_nonneg (by omega) (by omega)
    have m1 : (s.now / s.c.span - s.c.keep) * s.c.span ≤ 10000000 := by
      have := Int.mul_le_mul (show s.now / s.c.span - s.c.keep ≤ 100000 by omega) h2 (by omega) (by omega)
      omega
    go_enter Try.func27, Try.ntmps27
    go_wp2_with fail
    go_quiet (fail)
    go_wp2_with fail
    go_ret
    exact ⟨ret_i64'' HE'.out.symm, _, rfl⟩

end Go.Proofs.Ythciddpljcbhiab

/- A desk: a store, and what the caller knows of it (the time, the samples). -/
namespace Go.Proofs.Ythciddpljcbhiab
open Go Go.RowKit Go.Lib

/-- A desk at block D; all its blocks from B on; the store's in F. -/
structure DkS (w : World) (B D X : Nat) (F : Nat → Prop) (s : St) (L lc : Nat) (sv : Value) (lg : ByteArray) : Prop where
  blk : w.heap[D]? = some (.cells (dkC X s L s.c.lvs.length lc sv) 31 (0, 0))
  st : StoreAt w X F s lg
  lv : LvAt w L 0 s.c.lvs
  sms : w.ownsRow 0 75 5 sv s.l.length (flatS s.l)
  fb : ∀ k, F k → B ≤ k ∧ k < w.heap.size
  bD : B ≤ D
  nD : ¬ F D
  nL : ¬ F L
  DL : D ≠ L
  bS : ∀ k, sv.ownBlock = some k → B ≤ k ∧ ¬ F k ∧ k ≠ D ∧ k ≠ L
def DkAt (w : World) (B D : Nat) (s : St) (lg : ByteArray) : Prop := ∃ X F L lc sv, DkS w B D X F s L lc sv lg

section
variable {w : World} {B D X : Nat} {F : Nat → Prop} {s : St} {L lc : Nat} {sv : Value} {lg : ByteArray}
theorem DkS.lt (h : DkS w B D X F s L lc sv lg) : D < w.heap.size := (Array.getElem?_eq_some_iff.1 h.blk).1
theorem DkS.inv (h : DkS w B D X F s L lc sv lg) : Inv s := h.st.inv
theorem DkS.len (h : DkS w B D X F s L lc sv lg) : 1 ≤ s.c.lvs.length ∧ s.c.lvs.length ≤ 4 := ⟨(Cf.right_parts h.inv.right).2.2.2.2.1, (Cf.right_parts h.inv.right).2.2.2.2.2.1⟩
theorem DkS.Llt (h : DkS w B D X F s L lc sv lg) : L < w.heap.size := h.lv.block (by have := h.len; omega)
theorem DkS.cell (h : DkS w B D X F s L lc sv lg) (j : Nat) (v : Value) (hv : (dkC X s L s.c.lvs.length lc sv)[j]? = some v) : w.cell? ⟨D, j, none⟩ = some v := cell_blk h.blk hv
theorem DkS.frozen (h : DkS w B D X F s L lc sv lg) (j : Nat) : w.frozen? ⟨D, j, none⟩ = false := froz_blk h.blk
theorem DkS.below (h : DkS w B D X F s L lc sv lg) {w' : World} (hb : Below w.heap.size w w') : DkS w' B D X F s L lc sv lg :=
  ⟨by rw [hb.block _ h.lt]; exact h.blk, h.st.below hb, h.lv.below hb h.Llt, owns_below h.sms hb (fun k e => (h.sms.lt k e).2), fun k e => ⟨(h.fb k e).1, Nat.lt_of_lt_of_le (h.fb k e).2 hb.size⟩, h.bD, h.nD, h.nL, h.DL, h.bS⟩
theorem DkS.at (h : DkS w B D X F s L lc sv lg) : DkAt w B D s lg := ⟨X, F, L, lc, sv, h⟩
theorem DkAt.below (h : DkAt w B D s lg) {w' : World} (hb : Below w.heap.size w w') : DkAt w' B D s lg := let ⟨_, _, _, _, _, h⟩ := h; (h.below hb).at
theorem DkAt.inv (h : DkAt w B D s lg) : Inv s := let ⟨_, _, _, _, _, h⟩ := h; h.inv
theorem DkAt.lt (h : DkAt w B D s lg) : D < w.heap.size ∧ B ≤ D := let ⟨_, _, _, _, _, h⟩ := h; ⟨h.lt, h.bD⟩
/-- What the store did in its own blocks leaves the desk's. -/
theorem DkS.fr (h : DkS w B D X F s L lc sv lg) {w1 : World} (hf : Fr F w w1) : w1.heap[D]? = some (.cells (dkC X s L s.c.lvs.length lc sv) 31 (0, 0)) ∧ LvAt w1 L 0 s.c.lvs ∧ w1.ownsRow 0 75 5 sv s.l.length (flatS s.l) ∧ Below B w w1 ∧ D < w1.heap.size := by
  have hD : w1.heap[D]? = some (.cells (dkC X s L s.c.lvs.length lc sv) 31 (0, 0)) := by rw [hf.block D h.lt h.nD]; exact h.blk
  exact ⟨hD, lvAt_of (At.fr (at_of_lv h.lv) hf h.nL), owns_fr h.sms hf (fun k e => (h.bS k e).2.1), hf.below (by have := h.lt; have := h.bD; omega) (fun k e => (h.fb k e).1), (Array.getElem?_eq_some_iff.1 hD).1⟩
theorem DkS.gfb (h : DkS w B D X F s L lc sv lg) {w1 : World} (hs : w.heap.size ≤ w1.heap.size) : (∀ k, gF F w w1 k → B ≤ k ∧ k < w1.heap.size) ∧ (∀ k, k < w.heap.size → ¬ F k → ¬ gF F w w1 k) := by
  have h1 := h.lt
  have h2 := h.bD
  refine ⟨fun k e => ?_, fun k h3 h4 e => ?_⟩
  · rcases e with e | e
    · have := h.fb k e; omega
    · omega
  · rcases e with e | e
    · exact h4 e
    · omega

/-- A batch that was accepted. -/
theorem DkS.wrote (h : DkS w B D X F s L lc sv lg) {w1 w3 : World} {ls : List Sm} {sv' : Value} {lg' : ByteArray} (hst : StoreAt w1 X (gF F w w1) (s.wr ls) lg') (hf : Fr F w w1) (hg : w1.grownBy w3 sv.ownBlock)
    (ho : w3.ownsRow 0 75 5 sv' (s.l.length + ls.length) (flatS s.l ++ flatS ls)) (hk : sv'.ownBlock = sv.ownBlock ∨ ∀ k, sv'.ownBlock = some k → w1.heap.size ≤ k) :
    DkS (w3.setCell ⟨D, 5, none⟩ sv') B D X (gF F w w1) (s.wr ls) L lc sv' lg' ∧ Below B w (w3.setCell ⟨D, 5, none⟩ sv') := by
  obtain ⟨hD, hlv, hsm, hbl, hDl⟩ := h.fr hf
  obtain ⟨g1, g2⟩ := h.gfb hf.size
  have hs3 : (w3.setCell ⟨D, 5, none⟩ sv').heap.size = w3.heap.size := by simp [World.setCell]
  have hns : ∀ k, sv.ownBlock = some k → ¬ gF F w w1 k := fun k e => g2 k (h.sms.lt k e).2 (h.bS k e).2.1
  have hnD : ¬ gF F w w1 D := g2 D h.lt h.nD
  have hsD : sv.ownBlock ≠ some D := fun e => (h.bS D e).2.2.1 rfl
  have hD3 : w3.heap[D]? = w1.heap[D]? := hg.block D hDl (fun e => hsD e.symm)
  have hblk : ∀ k, k < w1.heap.size → sv.ownBlock ≠ some k → k ≠ D → (w3.setCell ⟨D, 5, none⟩ sv').heap[k]? = w1.heap[k]? := fun k a b c => by
    rw [Below.heap_setCell _ _ _ _ c]; exact hg.block k a (fun e => b e.symm)
  have hfr : Fr (fun k => k = D ∨ sv.ownBlock = some k) w1 (w3.setCell ⟨D, 5, none⟩ sv') := (Fr.grown (Fr.refl _ _) hg (fun k e => .inl (.inr e))).setCell (.inl (.inl rfl)) _
  have hsD' : sv'.ownBlock ≠ some D := by
    rcases hk with hk | hk
    · rw [hk]; exact hsD
    · intro e; have := hk D e; omega
  refine ⟨⟨?_, ?_, ?_, ?_, fun k e => ⟨(g1 k e).1, by rw [hs3]; exact Nat.lt_of_lt_of_le (g1 k e).2 hg.size⟩, h.bD, hnD, g2 L h.Llt h.nL, h.DL, fun k e => ?_⟩, ?_⟩
  · exact heap_setCell (hD3.trans hD)
  · exact hst.keep (fun k e1 e2 => hblk k e2 (fun e => hns k e e1) (fun e => hnD (by rw [← e]; exact e1)))
  · exact lvAt_of (At.fr (at_of_lv hlv) hfr (fun e => by rcases e with e | e; exact h.DL e.symm; exact (h.bS L e).2.2.2 rfl))
  · have e1 : (s.wr ls).l = s.l ++ ls := rfl
    rw [e1, List.length_append, show flatS (s.l ++ ls) = flatS s.l ++ flatS ls from by simp [flatS]]
    exact owns_other ho hsD'
  · rcases hk with hk | hk
    · rw [hk] at e
      obtain ⟨b1, b2, b3, b4⟩ := h.bS k e
      exact ⟨b1, hns k e, b3, b4⟩
    · have h1 := hk k e
      have h2 := h.Llt
      have h3 := hf.size
      have h4 := h.bD
      have h5 := h.lt
      exact ⟨by omega, fun e' => by have := (g1 k e').2; omega, by omega, by omega⟩
  · exact (hbl.grown hg (by have := h.bD; omega) (fun k e => (h.bS k e).1)).setCell h.bD _
/-- The time that went on. -/
theorem DkS.ticked (h : DkS w B D X F s L lc sv lg) {w1 : World} {n m : Int} {lg' : ByteArray} (hst : StoreAt w1 X (gF F w w1) (s.tk n) lg') (hf : Fr F w w1) (hm : m = s.now + n) :
    DkS (w1.setCell ⟨D, 4, none⟩ (.int .i64 m)) B D X (gF F w w1) (s.tk n) L lc sv lg' ∧ Below B w (w1.setCell ⟨D, 4, none⟩ (.int .i64 m)) := by
  subst hm
  obtain ⟨hD, hlv, hsm, hbl, hDl⟩ := h.fr hf
  obtain ⟨g1, g2⟩ := h.gfb hf.size
  have hs3 : (w1.setCell ⟨D, 4, none⟩ (.int .i64 (s.now + n))).heap.size = w1.heap.size := by simp [World.setCell]
  have hnD : ¬ gF F w w1 D := g2 D h.lt h.nD
  have hfr : Fr (fun k => k = D) w1 (w1.setCell ⟨D, 4, none⟩ (.int .i64 (s.now + n))) := Fr.setCell (S := fun k => k = D) (Fr.refl _ _) (.inl rfl) _
  refine ⟨⟨heap_setCell hD, ?_, ?_, ?_, fun k e => ⟨(g1 k e).1, by rw [hs3]; exact (g1 k e).2⟩, h.bD, hnD, g2 L h.Llt h.nL, h.DL, fun k e => ?_⟩, hbl.setCell h.bD _⟩
  · exact hst.keep (fun k e1 e2 => Below.heap_setCell _ _ _ _ (fun e => hnD ((show k = D from e) ▸ e1)))
  · exact lvAt_of (At.fr (at_of_lv hlv) hfr (fun e => h.DL e.symm))
  · exact owns_fr hsm hfr (fun k e e' => (h.bS k e).2.2.1 e')
  · obtain ⟨b1, b2, b3, b4⟩ := h.bS k e
    exact ⟨b1, g2 k (h.sms.lt k e).2 b2, b3, b4⟩
/-- A new desk. -/
theorem DkS.new {w w2 : World} {c : Cf} {X L lc : Nat} {F : Nat → Prop} (hr : c.right = true) (hst : StoreAt w2 X F (St.new c) ⟨#[]⟩) (hF : ∀ k, F k → w.heap.size ≤ k ∧ k < w2.heap.size) (hlv : LvAt w2 L 0 c.lvs) (hL : ¬ F L) (hs : w.heap.size ≤ w2.heap.size) :
    DkS (w2.alloc (.cells (dkC X (St.new c) L c.lvs.length lc (.slice none 0 0)) 31)) w.heap.size w2.heap.size X F (St.new c) L lc (.slice none 0 0) ⟨#[]⟩ := by
  have hb : Below w2.heap.size w2 (w2.alloc (.cells (dkC X (St.new c) L c.lvs.length lc (.slice none 0 0)) 31)) := (Below.refl _ _).alloc (Nat.le_refl _) _
  have hLl : L < w2.heap.size := hlv.block (by have := (Cf.right_parts hr).2.2.2.2.1; omega)
  refine ⟨heap_alloc_new w2 _, hst.below hb, hlv.below hb hLl, World.ownsRow_nil _ _ _ _, fun k e => ⟨(hF k e).1, by have := (hF k e).2; simp; omega⟩, hs, fun e => by have := (hF _ e).2; omega, hL, by omega, fun k e => by simp [Value.ownBlock] at e⟩
end

end Go.Proofs.Ythciddpljcbhiab
