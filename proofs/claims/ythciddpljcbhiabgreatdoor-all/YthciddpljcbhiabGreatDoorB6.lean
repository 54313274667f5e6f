/- Texts of one claim put together: Keep, Krp, Krm, Ksm, Krw, Ksw, Rec, Als, Kpb, Stq, Cnt, Cts, Clp, Srx, Crm, Crw, Szs, Les, Adm. -/
import Derived.Test.YthciddpljcbhiabGreatDoorA
import Derived.Deep.RegionLaw
import Derived.Test.YthciddpljcbhiabGreatDoorB4
import Derived.Test.YthciddpljcbhiabGreatDoorB1
import Derived.Deep.DrawnRows
import Derived.Deep.RegionHeld3
import Derived.Test.YthciddpljcbhiabGreatDoorB2
import Derived.Test.YthciddpljcbhiabGreatDoorB3
import Derived.Test.YthciddpljcbhiabGreatDoorB5
import Derived.Test.YthciddpljcbhiabGreatDoorProg
import Derived.BigQuiet

/- append onto a row of the call's own: what was appended to stays (any program). -/
namespace Go.Proofs.YthciddpljcbhiabGreatDoor
open Go Go.RowKit

section
variable {P : Program} {w : World}

theorem append_keeps (base : Nat) (t ty e : TypeId) (i : TypeInfo) (z : Value) (size bytes : Nat) (ht : P.underlying t = some (.slice e)) (hi : P.info? e = some i) (hz : i.zero = some z)
    (hsize : i.size = size) (hby : i.bytes = bytes) (v : Value) (n : Nat) (xs : List Value) (hown : w.ownsRow base e size v n xs)
    (a : Addr) (m c : Nat) (news : List Value) (hl : news.length = m * size) (hnews : ∀ j u, news[j]? = some u → w.cell? (a.add j) = some u) (h1 : ∀ u ∈ news, u.oneCell' = true)
    (h63 : n + m ≤ maxLen) (hbytes : (n + m) * bytes ≤ 140737488355328) {v' : Value} {w' : World} (hr : (Builtin.append_ #[t, t] ty #[v, .slice (some a) m c]).run P w = .ok v' w') : w'.ownsRow base e size v n xs := by
  subst hsize hby
  have hlen := hown.1
  rcases hown.2 with ⟨rfl, rfl⟩ | ⟨g, cap, cur, rfl, hbg, hg, hnc, hcm, hcs, htake⟩
  · obtain rfl : xs = [] := List.eq_nil_of_length_eq_zero (by simpa using hlen)
    exact World.ownsRow_nil _ _ _ _
  · have hlt : g < w.heap.size := (Array.getElem?_eq_some_iff.1 hg).1
    by_cases hroom : n + m ≤ cap
    · have hfit : n * i.size + news.length ≤ cur.size := by rw [hl, hcs, ← Nat.add_mul]; exact Nat.mul_le_mul_right _ hroom
      have hr2 := run_append_room (P := P) w t ty e i ht hi g n cap cur hg a m c news hl hnews h1 hroom hfit
      rw [hr2] at hr
      injection hr with _ hw
      subst hw
      refine ⟨hlen, .inr ⟨g, cap, _, rfl, hbg, setRow_heap w g cur _ e _ hg, hnc, hcm, ?_, ?_⟩⟩
      · simp only [List.size_toArray, List.length_append, List.length_take, List.length_drop, Array.length_toList]
        omega
      · have hxl : xs.length = n * i.size := hlen
        simp only [List.append_assoc]
        rw [htake, ← hxl]
        exact List.take_left
    · have holds : ∀ j u, xs[j]? = some u → w.cell? ((⟨g, 0, none⟩ : Addr).add j) = some u := hown.cells (g := g) rfl
      have hsm : n + m ≤ 9223372036854775807 := by simp only [maxLen] at h63; omega
      have hr2 := run_append_grow (P := P) w t ty e i z ht hi hz ⟨g, 0, none⟩ n cap xs hown.1 holds a m c news hl hnews (by omega) (by omega) (growslice_fits (by omega) hbytes)
      rw [hr2] at hr
      injection hr with _ hw
      subst hw
      refine ⟨hlen, .inr ⟨g, cap, cur, rfl, hbg, ?_, hnc, hcm, hcs, htake⟩⟩
      rw [show ∀ (W : World) (o : Obj), g < W.heap.size → (W.alloc o).heap[g]? = W.heap[g]? from fun W o h => Below.heap_alloc W o g h]
      · exact hg
      · exact hlt

theorem wpList_append_keep {ops : Array Oper} {rest : List Oper} {o : Oper} {a : Act} {Q : Exit → Act → World → Prop} (hgd : o.guard = none) (s x : Operand) (t : TypeId)
    (ho : o.op = .call { callee := .builtin .append, args := #[s, x], argTypes := #[t, t] })
    (base : Nat) (e : TypeId) (i : TypeInfo) (z : Value) (size bytes : Nat) (ht : P.underlying t = some (.slice e)) (hi : P.info? e = some i) (hz : i.zero = some z)
    (hsize : i.size = size) (hby : i.bytes = bytes) (hzs : z.cells.size = size) (hsz : 0 < size)
    (v : Value) (n : Nat) (xs : List Value) (hs : a.eval s = v) (hown : w.ownsRow base e size v n xs)
    (ad : Addr) (m c : Nat) (news : List Value) (hx : a.eval x = .slice (some ad) m c) (hl : news.length = m * size) (hnews : ∀ j u, news[j]? = some u → w.cell? (ad.add j) = some u) (h1 : ∀ u ∈ news, u.oneCell' = true)
    (h63 : n + m ≤ maxLen) (hbytes : (n + m) * bytes ≤ 140737488355328) (hbase : base ≤ w.heap.size)
    (h : ∀ v' w', w'.ownsRow base e size v' (n + m) (xs ++ news) → w'.ownsRow base e size v n xs → w.grownBy w' v.ownBlock → wpList P ops Q rest (a.put o.dst v') w') : wpList P ops Q (o :: rest) a w := by
  refine wpList_plain hgd fun K hK => ?_
  obtain ⟨v', w', hr, h2, h3, h4⟩ := run_append_own (P := P) w base t o.type e i z size bytes ht hi hz hsize hby hzs hsz v n xs hown ad m c news hl hnews h1 h63 hbytes hbase
  have hk := append_keeps base t o.type e i z size bytes ht hi hz hsize hby v n xs hown ad m c news hl hnews h1 h63 hbytes hr
  unfold Oper.wp execOp
  simp only [ho, resolve, invoke, builtin, Sem.run_bind, Sem.run_pure, Result.andThen_ok, List.map_toArray, List.map_cons, List.map_nil, hs, hx, hr]
  exact hK _ _ (h v' w' h2 hk h3)
end

end Go.Proofs.YthciddpljcbhiabGreatDoor

/- A list that came out is written over and appended to: all its readers see one element (no function of the program). -/
namespace Go.Proofs.YthciddpljcbhiabGreatDoor
open Go Go.RowKit Go.Lib

theorem ownsSet {w : World} {B : Nat} {e : TypeId} {sz : Nat} {v : Value} {n : Nat} {xs : List Value} (h : w.ownsRow B e sz v n xs) {g : Nat} (hg : v.ownBlock = some g) (o : Nat) (u : Value) :
    ∃ ys, (w.setCell ⟨g, o, none⟩ u).ownsRow B e sz v n ys := by
  rcases h.2 with ⟨rfl, _⟩ | ⟨g', cap, cur, rfl, hbg, hh, hnc, hcm, hcs, htake⟩
  · cases hg
  · simp only [Value.ownBlock, Option.some.injEq] at hg
    subst hg
    refine ⟨((cur.setIfInBounds o u).toList.take (n * sz)), ?_, .inr ⟨g', cap, cur.setIfInBounds o u, rfl, hbg, heap_setCell hh, hnc, hcm, by simp [hcs], rfl⟩⟩
    simp only [List.length_take, Array.length_toList, Array.size_setIfInBounds, hcs]
    exact Nat.min_eq_left (Nat.mul_le_mul_right _ hnc)
theorem ownsCells {w : World} {B : Nat} {e : TypeId} {sz : Nat} {v : Value} {n : Nat} {xs : List Value} (h : w.ownsRow B e sz v n xs) {g : Nat} (hg : v.ownBlock = some g) : ∃ m, n * sz ≤ m ∧ Row w g m := by
  rcases h.2 with ⟨rfl, _⟩ | ⟨g', cap, cur, rfl, hbg, hh, hnc, hcm, hcs, htake⟩
  · cases hg
  · simp only [Value.ownBlock, Option.some.injEq] at hg
    subst hg
    exact ⟨cap * sz, Nat.mul_le_mul_right _ hnc, cur, hcs, e, hh⟩

section
variable {P : Program} {w : World}
/-- An append of the same element: whoever reads only that element reads it still. -/
theorem append_reps (base : Nat) (t ty e : TypeId) (i : TypeInfo) (z : Value) (size bytes : Nat) (ht : P.underlying t = some (.slice e)) (hi : P.info? e = some i) (hz : i.zero = some z)
    (hsize : i.size = size) (hby : i.bytes = bytes) (v : Value) (n : Nat) (xs : List Value) (hown : w.ownsRow base e size v n xs)
    (a : Addr) (m c : Nat) (news : List Value) (hl : news.length = m * size) (hnews : ∀ j u, news[j]? = some u → w.cell? (a.add j) = some u) (h1 : ∀ u ∈ news, u.oneCell' = true)
    (hm : 0 < m) (h63 : n + m ≤ maxLen) (hbytes : (n + m) * bytes ≤ 140737488355328) (C : List Value) (hC : C.length = size) (hrep : ∀ j u, news[j]? = some u → C[j % size]? = some u) {v' : Value} {w' : World} (hr : (Builtin.append_ #[t, t] ty #[v, .slice (some a) m c]).run P w = .ok v' w') :
    ∀ b M, RepAt w b 0 M C → RepAt w' b 0 M C := by
  subst hsize hby
  have hlen := hown.1
  rcases hown.2 with ⟨rfl, rfl⟩ | ⟨g, cap, cur, rfl, hbg, hg, hnc, hcm, hcs, htake⟩
  · have hr2 := run_append_nil (P := P) w t ty e i z ht hi hz a m c news hl hnews (by omega) (by simp only [maxLen] at h63; omega) (by have hb := hbytes; simp only [Nat.zero_add] at hb; omega)
    rw [hr2] at hr
    injection hr with _ hw
    subst hw
    intro b M h i hi j u hj
    have h9 := h i hi j u hj
    exact (World.cell?_of_block (Below.heap_alloc w.drew _ b (World.block_lt_of_cell? w _ h9))).trans h9
  · by_cases hroom : n + m ≤ cap
    · have hfit : n * i.size + news.length ≤ cur.size := by rw [hl, hcs, ← Nat.add_mul]; exact Nat.mul_le_mul_right _ hroom
      have hr2 := run_append_room (P := P) w t ty e i ht hi g n cap cur hg a m c news hl hnews h1 hroom hfit
      rw [hr2] at hr
      injection hr with _ hw
      subst hw
      intro b M h k hk j u hj
      have h9 := h k hk j u hj
      by_cases hb : b = g
      · subst hb
        have hjl : j < C.length := (List.getElem?_eq_some_iff.1 hj).1
        rw [cell_of_row w b _ cur e _ hg] at h9
        rw [cell_of_row _ b _ _ e _ (setRow_heap w b cur _ e _ hg)]
        simp only [List.getElem?_toArray, Nat.zero_add] at h9 ⊢
        rw [hC] at h9 hjl ⊢
        have ho : k * i.size + j < cur.size := (Array.getElem?_eq_some_iff.1 h9).1
        have htl : (cur.toList.take (n * i.size)).length = n * i.size := by
          rw [List.length_take, Array.length_toList]; omega
        by_cases c1 : k * i.size + j < n * i.size
        · rw [List.append_assoc, List.getElem?_append_left (by omega), List.getElem?_take_of_lt c1]
          simpa using h9
        · by_cases c2 : k * i.size + j < n * i.size + news.length
          · have hkn : n ≤ k := by
              by_cases h : n ≤ k
              · exact h
              · have : (k + 1) * i.size ≤ n * i.size := Nat.mul_le_mul_right _ (by omega)
                rw [Nat.add_mul] at this
                omega
            rw [List.append_assoc, List.getElem?_append_right (by omega), htl, List.getElem?_append_left (by omega)]
            have hlt : k * i.size + j - n * i.size < news.length := by omega
            have h8 := hrep _ _ (List.getElem?_eq_getElem hlt)
            have hmod : (k * i.size + j - n * i.size) % i.size = j := by
              have : k * i.size + j - n * i.size = j + (k - n) * i.size := by
                rw [Nat.sub_mul]
                have : n * i.size ≤ k * i.size := Nat.mul_le_mul_right _ hkn
                omega
              rw [this, Nat.add_mul_mod_self_right, Nat.mod_eq_of_lt hjl]
            rw [hmod, hj] at h8
            rw [List.getElem?_eq_getElem hlt]
            exact h8.symm
          · rw [List.getElem?_append_right (by rw [List.length_append, htl]; omega), List.getElem?_drop, List.length_append, htl]
            rw [show n * i.size + news.length + (k * i.size + j - (n * i.size + news.length)) = k * i.size + j from by omega]
            simpa using h9
      · exact (World.cell?_of_block (setRow_other w g b _ hb)).trans h9
    · have holds : ∀ j u, xs[j]? = some u → w.cell? ((⟨g, 0, none⟩ : Addr).add j) = some u := hown.cells (g := g) rfl
      have hsm : n + m ≤ 9223372036854775807 := by simp only [maxLen] at h63; omega
      have hr2 := run_append_grow (P := P) w t ty e i z ht hi hz ⟨g, 0, none⟩ n cap xs hown.1 holds a m c news hl hnews (by omega) (by omega) (growslice_fits (by omega) hbytes)
      rw [hr2] at hr
      injection hr with _ hw
      subst hw
      intro b M h i hi j u hj
      have h9 := h i hi j u hj
      exact (World.cell?_of_block (Below.heap_alloc w.drew _ b (World.block_lt_of_cell? w _ h9))).trans h9

theorem wpList_append_rep {ops : Array Oper} {rest : List Oper} {o : Oper} {a : Act} {Q : Exit → Act → World → Prop} (hgd : o.guard = none) (s x : Operand) (t : TypeId)
    (ho : o.op = .call { callee := .builtin .append, args := #[s, x], argTypes := #[t, t] })
    (base : Nat) (e : TypeId) (i : TypeInfo) (z : Value) (size bytes : Nat) (ht : P.underlying t = some (.slice e)) (hi : P.info? e = some i) (hz : i.zero = some z)
    (hsize : i.size = size) (hby : i.bytes = bytes) (hzs : z.cells.size = size) (hsz : 0 < size)
    (v : Value) (n : Nat) (xs : List Value) (hs : a.eval s = v) (hown : w.ownsRow base e size v n xs)
    (ad : Addr) (m c : Nat) (news : List Value) (hx : a.eval x = .slice (some ad) m c) (hl : news.length = m * size) (hnews : ∀ j u, news[j]? = some u → w.cell? (ad.add j) = some u) (h1 : ∀ u ∈ news, u.oneCell' = true)
    (hm : 0 < m) (h63 : n + m ≤ maxLen) (hbytes : (n + m) * bytes ≤ 140737488355328) (hbase : base ≤ w.heap.size) (C : List Value) (hC : C.length = size) (hrep : ∀ j u, news[j]? = some u → C[j % size]? = some u)
    (h : ∀ v' w', w'.ownsRow base e size v' (n + m) (xs ++ news) → w'.ownsRow base e size v n xs → w.grownBy w' v.ownBlock → (∀ b M, RepAt w b 0 M C → RepAt w' b 0 M C) → wpList P ops Q rest (a.put o.dst v') w') : wpList P ops Q (o :: rest) a w := by
  refine wpList_plain hgd fun K hK => ?_
  obtain ⟨v', w', hr, h2, h3, h4⟩ := run_append_own (P := P) w base t o.type e i z size bytes ht hi hz hsize hby hzs hsz v n xs hown ad m c news hl hnews h1 h63 hbytes hbase
  have hk := append_keeps base t o.type e i z size bytes ht hi hz hsize hby v n xs hown ad m c news hl hnews h1 h63 hbytes hr
  have hp := append_reps base t o.type e i z size bytes ht hi hz hsize hby v n xs hown ad m c news hl hnews h1 hm h63 hbytes C hC hrep hr
  unfold Oper.wp execOp
  simp only [ho, resolve, invoke, builtin, Sem.run_bind, Sem.run_pure, Result.andThen_ok, List.map_toArray, List.map_cons, List.map_nil, hs, hx, hr]
  exact hK _ _ (h v' w' h2 hk h3 hp)
end

/-- A list of so many of that element, from the beginning of a block of the call's own. -/
def Ls0 (w : World) (B m : Nat) (C : List Value) (v : Value) : Prop := ∃ a cap, v = .slice a m cap ∧ (0 < m → ∃ b, a = some ⟨b, 0, none⟩ ∧ B ≤ b ∧ b < w.heap.size ∧ RepAt w b 0 m C)
theorem Ls0.rep {w w' : World} {B m : Nat} {C : List Value} {v : Value} (h : Ls0 w B m C v) (hs : w.heap.size ≤ w'.heap.size) (hr : ∀ b M, RepAt w b 0 M C → RepAt w' b 0 M C) : Ls0 w' B m C v := by
  obtain ⟨a, cap, e, h⟩ := h
  refine ⟨a, cap, e, fun h0 => ?_⟩
  obtain ⟨b, e', hb, hl, hat⟩ := h h0
  exact ⟨b, e', hb, by omega, hr _ _ hat⟩
theorem Ls0.fr {S : Nat → Prop} {w w' : World} {B m : Nat} {C : List Value} {v : Value} (h : Ls0 w B m C v) (hf : Fr S w w') (hn : ∀ k, B ≤ k → k < w.heap.size → ¬ S k) : Ls0 w' B m C v := by
  obtain ⟨a, cap, e, h⟩ := h
  refine ⟨a, cap, e, fun h0 => ?_⟩
  obtain ⟨b, e', hb, hl, hat⟩ := h h0
  exact ⟨b, e', hb, by have := hf.size; omega, hat.fr hf (hn b hb hl)⟩
theorem Ls0.alloc {w : World} {B m : Nat} {C : List Value} {v : Value} (h : Ls0 w B m C v) (o : Obj) : Ls0 (w.alloc o) B m C v := h.fr (S := fun _ => False) (Fr.of_below ((Below.refl _ _).alloc (Nat.le_refl _) _)) (fun _ _ _ e => e)
/-- Out of an owned list all whose elements are that one. -/
theorem ls0_of {w : World} {B m : Nat} {e : TypeId} {size : Nat} {C : List Value} {v : Value} {ys : List Value} (h : w.ownsRow B e size v m ys) (hC : C.length = size) (hy : ∀ i, i < m → ∀ j u, C[j]? = some u → ys[i * size + j]? = some u) : Ls0 w B m C v := by
  obtain ⟨a, cap, rfl⟩ := ownForm h
  refine ⟨a, cap, rfl, fun h0 => ?_⟩
  obtain ⟨g, cap', e', hg, hl, _⟩ := ownBlockForm h h0
  injection e' with e1 _ e2
  subst e1 e2
  refine ⟨g, rfl, hg, hl, fun i hi j u hj => ?_⟩
  have h9 := owns_at h (i * size + j) _ (hy i hi j u hj)
  rw [hC, Nat.add_assoc]
  exact h9

/-- How things stand while the list is written over and appended to: q cells are written. -/
structure KR (w wr : World) (D X B : Nat) (ow : Nat → Nat) (n : Int) (ss rs : List Ls) (sv rv nv mv : Value) (e : TypeId) (C : List Value) (l : Value) (m q : Nat) : Prop where
  fr : Fr (fun k => k = D ∨ B ≤ k) w wr
  lt : X < wr.heap.size
  xb : wr.heap[X]? = some (.cells C.toArray e (0, 0))
  dr : DrS wr D ow n ss rs sv rv nv mv
  own : ∃ ys, wr.ownsRow B e C.length l m ys
  rep : ∀ b, l.ownBlock = some b → ∀ i j v, C[j]? = some v → i * C.length + j < q → wr.cell? ⟨b, i * C.length + j, none⟩ = some v
section
variable {w wr : World} {D X B : Nat} {ow : Nat → Nat} {n : Int} {ss rs : List Ls} {sv rv nv mv : Value} {e : TypeId} {C : List Value} {l : Value} {m q : Nat}
theorem KR.alloc (h : KR w wr D X B ow n ss rs sv rv nv mv e C l m q) (o : Obj) : KR w (wr.alloc o) D X B ow n ss rs sv rv nv mv e C l m q := by
  have hf : Fr (fun _ => False) wr (wr.alloc o) := (Fr.refl _ _).alloc o
  obtain ⟨ys, ho⟩ := h.own
  exact { fr := h.fr.alloc o, lt := by rw [World.size_alloc]; exact Nat.lt_succ_of_lt h.lt, xb := by rw [Below.heap_alloc _ _ _ h.lt]; exact h.xb, dr := h.dr.keep hf (fun _ _ e => e), own := ⟨ys, ho.alloc o⟩
          rep := fun b hb i j v hj hq => cell_alloc1 (h.rep b hb i j v hj hq) }
theorem KR.set (h : KR w wr D X B ow n ss rs sv rv nv mv e C l m q) (hl : ∀ g, l.ownBlock = some g → B ≤ g ∧ g < X) (how : ∀ k, ow k ≠ 0 → k < B) {g : Nat} (hg : l.ownBlock = some g) (i j : Nat) (hq : q = i * C.length + j) (hqm : q < m * C.length) (v : Value) (hv : C[j]? = some v) :
    KR w (wr.setCell ⟨g, q, none⟩ v) D X B ow n ss rs sv rv nv mv e C l m (q + 1) := by
  have hf : Fr (fun k => k = g) wr (wr.setCell ⟨g, q, none⟩ v) := Fr.setCell (S := fun k => k = g) (Fr.refl _ _) (.inl rfl) v
  obtain ⟨ys, ho⟩ := h.own
  obtain ⟨hbg, hgx⟩ := hl g hg
  have hne : X ≠ g := by omega
  exact {
    fr := h.fr.setCell (.inl (.inr hbg)) v
    lt := by have := hf.size; have := h.lt; omega
    xb := by rw [hf.block X h.lt hne]; exact h.xb
    dr := h.dr.keep hf (fun k hk e => by have := how k hk; omega)
    own := ownsSet ho hg q v
    rep := fun b hb i' j' v' hj' hlt => by
      have hbe : b = g := by rw [hg] at hb; exact (Option.some.inj hb).symm
      subst hbe
      by_cases hqq : i' * C.length + j' = q
      · have hjl : j' < C.length := (List.getElem?_eq_some_iff.1 hj').1
        have hjl2 : j < C.length := (List.getElem?_eq_some_iff.1 hv).1
        have hjj : j' = j := by
          have h1 : (i' * C.length + j') % C.length = j' := by rw [Nat.add_comm, Nat.add_mul_mod_self_right, Nat.mod_eq_of_lt hjl]
          have h2 : (i * C.length + j) % C.length = j := by rw [Nat.add_comm, Nat.add_mul_mod_self_right, Nat.mod_eq_of_lt hjl2]
          rw [← h1, ← h2, hqq, hq]
        subst hjj
        rw [hv] at hj'
        obtain rfl := (Option.some.inj hj').symm
        rw [hqq]
        obtain ⟨mm, hmm, hrow⟩ := ownsCells ho hg
        obtain ⟨cur, hcs, t, hh⟩ := hrow
        exact cell_blk (heap_setCell hh) (by rw [Array.getElem?_setIfInBounds_self_of_lt (by omega)])
      · rw [World.cell?_setCell_other _ _ _ _ (by intro hh; injection hh with _ h2 _; omega)]
        exact h.rep b hb i' j' v' hj' (by omega) }
/-- All is written. -/
theorem KR.ls (h : KR w wr D X B ow n ss rs sv rv nv mv e C l m (m * C.length)) : Ls0 wr B m C l := by
  obtain ⟨ys, ho⟩ := h.own
  obtain ⟨a, cap, rfl⟩ := ownForm ho
  refine ⟨a, cap, rfl, fun h0 => ?_⟩
  obtain ⟨g, cap', e', hg, hl, _⟩ := ownBlockForm ho h0
  injection e' with e1 _ e2
  subst e1 e2
  refine ⟨g, rfl, hg, hl, fun i hi j u hj => ?_⟩
  have hjl : j < C.length := (List.getElem?_eq_some_iff.1 hj).1
  have h9 := h.rep g rfl i j u hj (by have : (i + 1) * C.length ≤ m * C.length := Nat.mul_le_mul_right _ (by omega); rw [Nat.add_mul] at this; omega)
  rw [Nat.zero_add]
  exact h9
/-- What the list then holds. -/
theorem KR.ys (h : KR w wr D X B ow n ss rs sv rv nv mv e C l m (m * C.length)) : ∃ ys, wr.ownsRow B e C.length l m ys ∧ ∀ i, i < m → ∀ j u, C[j]? = some u → ys[i * C.length + j]? = some u := by
  obtain ⟨ys, ho⟩ := h.own
  refine ⟨ys, ho, fun i hi j u hj => ?_⟩
  obtain ⟨g, cap', rfl, hg, hl, _⟩ := ownBlockForm ho (by omega)
  have hjl : j < C.length := (List.getElem?_eq_some_iff.1 hj).1
  have hb : (i + 1) * C.length ≤ m * C.length := Nat.mul_le_mul_right _ (by omega)
  rw [Nat.add_mul] at hb
  have h9 := h.rep g rfl i j u hj (by omega)
  have hyl := ho.1
  have hlt : i * C.length + j < ys.length := by omega
  have h8 := owns_at ho (i * C.length + j) _ (List.getElem?_eq_getElem hlt)
  rw [Nat.zero_add, h9] at h8
  rw [List.getElem?_eq_getElem hlt]
  exact h8.symm
theorem KR.grown {w' : World} (h : KR w wr D X B ow n ss rs sv rv nv mv e C l m q) (hl : ∀ g, l.ownBlock = some g → B ≤ g ∧ g < X) (how : ∀ k, ow k ≠ 0 → k < B) {ys : List Value} (hg : wr.grownBy w' l.ownBlock) (ho : w'.ownsRow B e C.length l m ys)
    (hq : q = m * C.length) (hr : ∀ b M, RepAt wr b 0 M C → RepAt w' b 0 M C) : KR w w' D X B ow n ss rs sv rv nv mv e C l m q := by
  subst hq
  have hf : Fr (fun k => l.ownBlock = some k) wr w' := (Fr.refl _ _).grown hg (fun k e => .inl e)
  exact {
    fr := h.fr.grown hg (fun k e => .inl (.inr (hl k e).1))
    lt := by have := hf.size; have := h.lt; omega
    xb := by rw [hf.block X h.lt (fun e => by have := hl X e; omega)]; exact h.xb
    dr := h.dr.keep hf (fun k hk e => by have := how k hk; have := hl k e; omega)
    own := ⟨ys, ho⟩
    rep := fun b hb i j v hj hlt => by
      have hjl : j < C.length := (List.getElem?_eq_some_iff.1 hj).1
      have h9 := hr b m (fun i hi j u hj => by
        have hjl : j < C.length := (List.getElem?_eq_some_iff.1 hj).1
        rw [Nat.zero_add]
        exact h.rep b hb i j u hj (by have : (i + 1) * C.length ≤ m * C.length := Nat.mul_le_mul_right _ (by omega); rw [Nat.add_mul] at this; omega)) i (by
          by_cases hi : i < m
          · exact hi
          · have : m * C.length ≤ i * C.length := Nat.mul_le_mul_right _ (by omega)
            omega) j v hj
      rw [Nat.zero_add] at h9
      exact h9 }
/-- The drawer's cells and x's. -/
theorem KR.cells (h : KR w wr D X B ow n ss rs sv rv nv mv e C l m q) :
    wr.cell? ⟨D, 0, none⟩ = some (.int .i64 n) ∧ wr.cell? ⟨D, 2, none⟩ = some rv ∧ wr.cell? ⟨D, 4, none⟩ = some mv ∧ wr.frozen? ⟨D, 2, none⟩ = false ∧ wr.frozen? ⟨D, 4, none⟩ = false ∧ (∀ o v, C[o]? = some v → wr.cell? ⟨X, o, none⟩ = some v) :=
  ⟨cell_blk h.dr.blk rfl, cell_blk h.dr.blk rfl, cell_blk h.dr.blk rfl, froz_blk h.dr.blk, froz_blk h.dr.blk, fun o v hv => cell_blk h.xb (by simpa using hv)⟩
end
/-- The first two steps: the number, and the element. -/
theorem KR.start {w : World} {D B : Nat} {ow : Nat → Nat} {n : Int} {ss rs : List Ls} {sv rv nv mv : Value} {e : TypeId} {C : List Value} {l : Value} {m : Nat} {xs : List Value} (h : DrS w D ow n ss rs sv rv nv mv) (how : ∀ k, ow k ≠ 0 → k < B) (ho : w.ownsRow B e C.length l m xs) :
    KR w ((w.setCell ⟨D, 0, none⟩ (.int .i64 (n + 1))).alloc (.cells C.toArray e)) D w.heap.size B ow (n + 1) ss rs sv rv nv mv e C l m 0 := by
  have hDB : D < B := how D (by rw [h.oD]; omega)
  have hf1 : Fr (fun k => k = D) w (w.setCell ⟨D, 0, none⟩ (.int .i64 (n + 1))) := Fr.setCell (S := fun k => k = D) (Fr.refl _ _) (.inl rfl) _
  have hs : (w.setCell ⟨D, 0, none⟩ (.int .i64 (n + 1))).heap.size = w.heap.size := by simp [World.setCell]
  have hd : DrS (w.setCell ⟨D, 0, none⟩ (.int .i64 (n + 1))) D ow (n + 1) ss rs sv rv nv mv :=
    { h with
      blk := heap_setCell h.blk
      so := owns_fr h.so hf1 (fun k e e' => by have h1 := h.os k e; have h2 := h.oD; subst e'; omega)
      ro := owns_fr h.ro hf1 (fun k e e' => by have h1 := h.or' k e; have h2 := h.oD; subst e'; omega)
      no := owns_fr h.no hf1 (fun k e e' => by have h1 := h.on k e; have h2 := h.oD; subst e'; omega)
      mo := owns_fr h.mo hf1 (fun k e e' => by have h1 := h.om k e; have h2 := h.oD; subst e'; omega)
      sat := fun p hp => (h.sat p hp).fr hf1 (fun k e e' => by have e2 : ow k = 6 := e; have h2 := h.oD; subst e'; omega) (fun _ e => e)
      rat := fun p hp => (h.rat p hp).fr hf1 (fun k e e' => by have e2 : ow k = 6 := e; have h2 := h.oD; subst e'; omega) (fun _ e => e) }
  have hf2 : Fr (fun _ => False) (w.setCell ⟨D, 0, none⟩ (.int .i64 (n + 1))) ((w.setCell ⟨D, 0, none⟩ (.int .i64 (n + 1))).alloc (.cells C.toArray e)) := (Fr.refl _ _).alloc _
  exact {
    fr := (hf1.mono (fun k e => .inl e)).alloc _
    lt := by rw [World.size_alloc, hs]; omega
    xb := by rw [← hs]; exact heap_alloc_new _ _
    dr := hd.keep hf2 (fun _ _ e => e)
    own := ⟨xs, (owns_fr ho hf1 (fun k e e' => by have := (ho.lt k e).1; omega)).alloc _⟩
    rep := fun _ _ _ _ _ _ h0 => absurd h0 (Nat.not_lt_zero _) }

end Go.Proofs.YthciddpljcbhiabGreatDoor

/- The drawer with four lists of rows more (no function of the program). -/
namespace Go.Proofs.YthciddpljcbhiabGreatDoor
open Go Go.RowKit Go.Lib

/-- The drawer, while the rows' numbers run behind. -/
structure DrM (w : World) (D : Nat) (ow : Nat → Nat) (n : Int) (ss rs : List Ls) (ms : List Int) (sv rv nv mv : Value) : Prop where
  blk : w.heap[D]? = some (.cells #[.int .i64 n, sv, rv, nv, mv] 31 (0, 0))
  so : w.ownsRow 0 43 1 sv ss.length (ss.map (·.1))
  ro : w.ownsRow 0 79 1 rv rs.length (rs.map (·.1))
  no : w.ownsRow 0 3 1 nv ss.length (ss.map fun p => .int .i64 p.2)
  mo : w.ownsRow 0 3 1 mv ms.length (ms.map fun x => .int .i64 x)
  sat : ∀ p ∈ ss, LstAt w (fun k => ow k = 6) (smD p.2) p.1
  rat : ∀ p ∈ rs, LstAt w (fun k => ow k = 6) (rwD p.2) p.1
  oD : ow D = 1
  os : ∀ k, sv.ownBlock = some k → ow k = 2
  or' : ∀ k, rv.ownBlock = some k → ow k = 3
  on : ∀ k, nv.ownBlock = some k → ow k = 4
  om : ∀ k, mv.ownBlock = some k → ow k = 5
theorem ls0_lst {w : World} {B m : Nat} {C : List Value} {v : Value} {O : Nat → Prop} (h : Ls0 w B m C v) (hm : m ≤ 1000000) (hO : ∀ k, B ≤ k → k < w.heap.size → O k) : LstAt w O C v := by
  obtain ⟨a, cap, e, h⟩ := h
  refine ⟨a, m, cap, e, hm, fun h0 => ?_⟩
  obtain ⟨b, e', hb, hl, hat⟩ := h h0
  exact ⟨b, 0, e', hO b hb hl, hat⟩

section
variable {w w3 w4 : World} {D X B : Nat} {ow : Nat → Nat} {n : Int} {ss rs : List Ls} {sv rv nv mv rv' : Value} {l v1 v2 v3 : Value} {m : Nat}
theorem putRows {O1 : Obj} (h : KR w w3 D X B ow n ss rs sv rv nv mv 78 (rwD n) l m (m * 8)) (how : ∀ k, ow k ≠ 0 → k < B) (hB : B ≤ X) (hm : m ≤ 999990) (h1 : Ls0 w3 B (m + 1) (rwD n) v1) (h2 : Ls0 w3 B (m + 2) (rwD n) v2) (h3 : Ls0 w3 B (m + 3) (rwD n) v3)
    (hg : (w3.alloc O1).grownBy w4 rv.ownBlock) (ho : w4.ownsRow 0 79 1 rv' (rs.length + 4) (rs.map (·.1) ++ [l, v1, v2, v3])) (hk : rv'.ownBlock = rv.ownBlock ∨ ∀ k, rv'.ownBlock = some k → (w3.alloc O1).heap.size ≤ k) :
    ∃ ow', DrM (w4.setCell ⟨D, 2, none⟩ rv') D ow' n ss (rs ++ [(l, n), (v1, n), (v2, n), (v3, n)]) (rs.map (·.2)) sv rv' nv mv ∧ (∀ k, ow' k ≠ 0 → ow k ≠ 0 ∨ B ≤ k ∧ k < (w4.setCell ⟨D, 2, none⟩ rv').heap.size) ∧ Fr (fun k => ow k ≠ 0 ∨ B ≤ k) w (w4.setCell ⟨D, 2, none⟩ rv') := by
  classical
  have hd := h.dr
  have hDB : D < B := how D (by rw [hd.oD]; omega)
  have hX := h.lt
  have hf : Fr (fun k => rv.ownBlock = some k ∨ k = D) w3 (w4.setCell ⟨D, 2, none⟩ rv') := (((Fr.refl _ _).alloc O1).grown hg (fun k e => .inl (.inl e))).setCell (.inl (.inr rfl)) _
  have hs5 : (w4.setCell ⟨D, 2, none⟩ rv').heap.size = w4.heap.size := by simp [World.setCell]
  have hs3 := hg.size
  rw [World.size_alloc] at hs3
  have hrl : ∀ k, rv'.ownBlock = some k → ow k = 3 ∨ w3.heap.size ≤ k := fun k e => by
    rcases hk with hk | hk
    · rw [hk] at e; exact .inl (hd.or' k e)
    · have := hk k e; rw [World.size_alloc] at this; exact .inr (by omega)
  have hold : ∀ k i, i ≠ 0 → i ≠ 3 → ow k = i → (if rv'.ownBlock = some k then 3 else if B ≤ k ∧ k < w4.heap.size then 6 else ow k) = i := fun k i h0 h3 e => by
    have hkB := how k (by omega)
    rw [if_neg (fun e' => by rcases hrl k e' with e2 | e2 <;> omega), if_neg (by omega)]
    exact e
  have hnew : ∀ k, B ≤ k → k < w3.heap.size → (if rv'.ownBlock = some k then 3 else if B ≤ k ∧ k < w4.heap.size then 6 else ow k) = 6 := fun k hb hl => by
    rw [if_neg (fun e' => by rcases hrl k e' with e2 | e2; (have := how k (by omega); omega); omega), if_pos ⟨hb, by omega⟩]
  have hne : ∀ (v : Value) j, j ≠ 0 → j ≠ 3 → j ≠ 1 → (∀ k, v.ownBlock = some k → ow k = j) → ∀ k, v.ownBlock = some k → ¬ (rv.ownBlock = some k ∨ k = D) := fun v j h0 h3 h1 hv k e e' => by
    have h9 := hv k e
    rcases e' with e' | e'
    · have := hd.or' k e'; omega
    · subst e'; have := hd.oD; omega
  have hn6 : ∀ k, ow k = 6 → ¬ (rv.ownBlock = some k ∨ k = D) := fun k e e' => by
    rcases e' with e' | e'
    · have := hd.or' k e'; omega
    · subst e'; have := hd.oD; omega
  have hnB : ∀ k, B ≤ k → k < w3.heap.size → ¬ (rv.ownBlock = some k ∨ k = D) := fun k hb hl e' => by
    rcases e' with e' | e'
    · have := how k (by rw [hd.or' k e']; omega); omega
    · omega
  have hDr : rv.ownBlock ≠ some D := fun e => by have h1 := hd.or' D e; have h2 := hd.oD; omega
  have hDr' : rv'.ownBlock ≠ some D := fun e => by
    rcases hrl D e with e2 | e2
    · have := hd.oD; omega
    · omega
  refine ⟨fun k => if rv'.ownBlock = some k then 3 else if B ≤ k ∧ k < w4.heap.size then 6 else ow k, ?_, ?_, ?_⟩
  · exact {
      blk := by
        have e1 : w4.heap[D]? = some (.cells #[.int .i64 n, sv, rv, nv, mv] 31 (0, 0)) := by
          rw [hg.block D (by rw [World.size_alloc]; omega) (fun e => hDr e.symm), Below.heap_alloc _ _ _ (by omega)]
          exact hd.blk
        exact heap_setCell e1
      so := owns_fr hd.so hf (hne sv 2 (by omega) (by omega) (by omega) hd.os)
      ro := by
        rw [List.length_append, List.map_append]
        exact owns_other ho hDr'
      no := owns_fr hd.no hf (hne nv 4 (by omega) (by omega) (by omega) hd.on)
      mo := by
        have h9 := owns_fr hd.mo hf (hne mv 5 (by omega) (by omega) (by omega) hd.om)
        rw [List.length_map, List.map_map]
        exact h9
      sat := fun p hp => (hd.sat p hp).fr hf (fun k e => hn6 k e) (fun k e => hold k 6 (by omega) (by omega) e)
      rat := fun p hp => by
        rcases List.mem_append.1 hp with hp | hp
        · exact (hd.rat p hp).fr hf (fun k e => hn6 k e) (fun k e => hold k 6 (by omega) (by omega) e)
        · have hx : ∀ M v, M ≤ 1000000 → Ls0 w3 B M (rwD n) v → LstAt (w4.setCell ⟨D, 2, none⟩ rv') (fun k => (if rv'.ownBlock = some k then 3 else if B ≤ k ∧ k < w4.heap.size then 6 else ow k) = 6) (rwD n) v := fun M v hM hv =>
            (ls0_lst (O := fun k => B ≤ k ∧ k < w3.heap.size) hv hM (fun k h1 h2 => ⟨h1, h2⟩)).fr hf (fun k e => hnB k e.1 e.2) (fun k e => hnew k e.1 e.2)
          simp only [List.mem_cons, List.not_mem_nil, or_false] at hp
          rcases hp with rfl | rfl | rfl | rfl
          · exact hx m _ (by omega) h.ls
          · exact hx (m + 1) _ (by omega) h1
          · exact hx (m + 2) _ (by omega) h2
          · exact hx (m + 3) _ (by omega) h3
      oD := hold D 1 (by omega) (by omega) hd.oD
      os := fun k e => hold k 2 (by omega) (by omega) (hd.os k e)
      or' := fun k e => if_pos e
      on := fun k e => hold k 4 (by omega) (by omega) (hd.on k e)
      om := fun k e => hold k 5 (by omega) (by omega) (hd.om k e) }
  · intro k hk'
    rw [hs5]
    by_cases e1 : rv'.ownBlock = some k
    · rcases hrl k e1 with e2 | e2
      · exact .inl (by omega)
      · exact .inr ⟨by omega, (ho.lt k e1).2⟩
    · by_cases e2 : B ≤ k ∧ k < w4.heap.size
      · exact .inr e2
      · dsimp only at hk'
        rw [if_neg e1, if_neg e2] at hk'
        exact .inl hk'
  · refine (h.fr.mono (S' := fun k => ow k ≠ 0 ∨ B ≤ k) (fun k e => ?_)).trans hf (fun k e => .inl ?_)
    · rcases e with e | e
      · subst e; exact .inl (by rw [hd.oD]; omega)
      · exact .inr e
    · rcases e with e | e
      · exact .inl (by rw [hd.or' k e]; omega)
      · subst e; exact .inl (by rw [hd.oD]; omega)

theorem putNums {w5 w6 : World} {O2 : Obj} {mv' : Value} {ms : List Int} (h : DrM w5 D ow n ss rs ms sv rv nv mv) (hms : ms ++ [n, n, n, n] = rs.map (·.2)) (how : ∀ k, ow k ≠ 0 → k < w5.heap.size)
    (hg : (w5.alloc O2).grownBy w6 mv.ownBlock) (ho : w6.ownsRow 0 3 1 mv' (ms.length + 4) (ms.map (fun x => .int .i64 x) ++ [.int .i64 n, .int .i64 n, .int .i64 n, .int .i64 n])) (hk : mv'.ownBlock = mv.ownBlock ∨ ∀ k, mv'.ownBlock = some k → (w5.alloc O2).heap.size ≤ k) :
    ∃ ow', DrS (w6.setCell ⟨D, 4, none⟩ mv') D ow' n ss rs sv rv nv mv' ∧ (∀ k, ow' k ≠ 0 → ow k ≠ 0 ∨ w5.heap.size ≤ k ∧ k < (w6.setCell ⟨D, 4, none⟩ mv').heap.size) ∧ Fr (fun k => ow k ≠ 0) w5 (w6.setCell ⟨D, 4, none⟩ mv') := by
  classical
  have hf : Fr (fun k => mv.ownBlock = some k ∨ k = D) w5 (w6.setCell ⟨D, 4, none⟩ mv') := (((Fr.refl _ _).alloc O2).grown hg (fun k e => .inl (.inl e))).setCell (.inl (.inr rfl)) _
  have hs7 : (w6.setCell ⟨D, 4, none⟩ mv').heap.size = w6.heap.size := by simp [World.setCell]
  have hD5 : D < w5.heap.size := how D (by rw [h.oD]; omega)
  have hrl : ∀ k, mv'.ownBlock = some k → ow k = 5 ∨ w5.heap.size ≤ k := fun k e => by
    rcases hk with hk | hk
    · rw [hk] at e; exact .inl (h.om k e)
    · have := hk k e; rw [World.size_alloc] at this; exact .inr (by omega)
  have hold : ∀ k i, i ≠ 0 → i ≠ 5 → ow k = i → (if mv'.ownBlock = some k then 5 else ow k) = i := fun k i h0 h3 e => by
    have hkB := how k (by omega)
    rw [if_neg (fun e' => by rcases hrl k e' with e2 | e2 <;> omega)]
    exact e
  have hne : ∀ k j, j ≠ 5 → j ≠ 1 → ow k = j → ¬ (mv.ownBlock = some k ∨ k = D) := fun k j h5 h1 e e' => by
    rcases e' with e' | e'
    · have := h.om k e'; omega
    · subst e'; have := h.oD; omega
  have hDr : mv.ownBlock ≠ some D := fun e => by have h1 := h.om D e; have h2 := h.oD; omega
  have hDr' : mv'.ownBlock ≠ some D := fun e => by
    rcases hrl D e with e2 | e2
    · have := h.oD; omega
    · omega
  have hlen : rs.length = ms.length + 4 := by
    have := congrArg List.length hms
    simpa using this.symm
  refine ⟨fun k => if mv'.ownBlock = some k then 5 else ow k, ?_, ?_, ?_⟩
  · exact {
      blk := by
        have e1 : w6.heap[D]? = some (.cells #[.int .i64 n, sv, rv, nv, mv] 31 (0, 0)) := by
          rw [hg.block D (by rw [World.size_alloc]; omega) (fun e => hDr e.symm), Below.heap_alloc _ _ _ hD5]
          exact h.blk
        exact heap_setCell e1
      so := owns_fr h.so hf (fun k e => hne k 2 (by omega) (by omega) (h.os k e))
      ro := owns_fr h.ro hf (fun k e => hne k 3 (by omega) (by omega) (h.or' k e))
      no := owns_fr h.no hf (fun k e => hne k 4 (by omega) (by omega) (h.on k e))
      mo := by
        have e9 : (rs.map fun p => Value.int .i64 p.2) = ms.map (fun x => .int .i64 x) ++ [.int .i64 n, .int .i64 n, .int .i64 n, .int .i64 n] := by
          rw [show (rs.map fun p => Value.int .i64 p.2) = (rs.map (·.2)).map (fun x => Value.int .i64 x) from by rw [List.map_map]; rfl, ← hms, List.map_append]
          rfl
        rw [e9, hlen]
        exact owns_other ho hDr'
      sat := fun p hp => (h.sat p hp).fr hf (fun k e => hne k 6 (by omega) (by omega) e) (fun k e => hold k 6 (by omega) (by omega) e)
      rat := fun p hp => (h.rat p hp).fr hf (fun k e => hne k 6 (by omega) (by omega) e) (fun k e => hold k 6 (by omega) (by omega) e)
      oD := hold D 1 (by omega) (by omega) h.oD
      os := fun k e => hold k 2 (by omega) (by omega) (h.os k e)
      or' := fun k e => hold k 3 (by omega) (by omega) (h.or' k e)
      on := fun k e => hold k 4 (by omega) (by omega) (h.on k e)
      om := fun k e => if_pos e }
  · intro k hk'
    rw [hs7]
    by_cases e1 : mv'.ownBlock = some k
    · rcases hrl k e1 with e2 | e2
      · exact .inl (by omega)
      · exact .inr ⟨e2, (ho.lt k e1).2⟩
    · dsimp only at hk'
      rw [if_neg e1] at hk'
      exact .inl hk'
  · refine hf.mono (fun k e => ?_)
    rcases e with e | e
    · rw [h.om k e]; omega
    · subst e; rw [h.oD]; omega
end

/-- A step of the drawer: what came out since w0 is its own. -/
theorem WdAt.stepD {w0 w' : World} {own : Nat → Nat} {base W D : Nat} {bv : Value} {bs : List Bk} {N M : Nat} (h : WdAt w0 own base W D bv bs N) (hf : Fr (fun k => own k = 3) w0 w') (hd : DrAt w' D (fun k => own k = 3 ∨ w0.heap.size ≤ k ∧ k < w'.heap.size) M) : WdAt w' (upd own w0 w' 3) base W D bv bs M where
  out := upd_out h.out hf.size
  low := upd_low h.bas h.low
  bas := Nat.le_trans h.bas hf.size
  wb := by rw [hf.block W h.Wlt (by rw [h.oW]; omega)]; exact h.wb
  oW := upd_old _ _ h.out (by omega) h.oW
  row := owns_fr h.row hf (fun k e => by rw [h.orow k e]; omega)
  orow := fun k e => upd_old _ _ h.out (by omega) (h.orow k e)
  dr := hd.keep (S := fun _ => False) (Fr.refl _ _) (fun _ _ e => e) (fun k e => upd_gF k e)
  st := fun j hj => (h.st j hj).went hf (fun k e' => by have e2 : own k = 4 + 2 * j := e'; omega) (fun k e' => upd_old _ _ h.out (by omega) e')
  rf := fun j hj => (h.rf j hj).keep hf (fun k e' => by have e2 : own k = 5 + 2 * j := e'; omega) (fun k e' => upd_old _ _ h.out (by omega) e')

end Go.Proofs.YthciddpljcbhiabGreatDoor

/- The drawer with four lists of samples more (no function of the program). -/
namespace Go.Proofs.YthciddpljcbhiabGreatDoor
open Go Go.RowKit Go.Lib

/-- The drawer's cells and x's. -/
theorem KR.cellsS {w wr : World} {D X B : Nat} {ow : Nat → Nat} {n : Int} {ss rs : List Ls} {sv rv nv mv : Value} {e : TypeId} {C : List Value} {l : Value} {m q : Nat} (h : KR w wr D X B ow n ss rs sv rv nv mv e C l m q) :
    wr.cell? ⟨D, 0, none⟩ = some (.int .i64 n) ∧ wr.cell? ⟨D, 1, none⟩ = some sv ∧ wr.cell? ⟨D, 3, none⟩ = some nv ∧ wr.frozen? ⟨D, 1, none⟩ = false ∧ wr.frozen? ⟨D, 3, none⟩ = false ∧ (∀ o v, C[o]? = some v → wr.cell? ⟨X, o, none⟩ = some v) :=
  ⟨cell_blk h.dr.blk rfl, cell_blk h.dr.blk rfl, cell_blk h.dr.blk rfl, froz_blk h.dr.blk, froz_blk h.dr.blk, fun o v hv => cell_blk h.xb (by simpa using hv)⟩

/-- The drawer, while the samples' numbers run behind. -/
structure DrN (w : World) (D : Nat) (ow : Nat → Nat) (n : Int) (ss rs : List Ls) (ms : List Int) (sv rv nv mv : Value) : Prop where
  blk : w.heap[D]? = some (.cells #[.int .i64 n, sv, rv, nv, mv] 31 (0, 0))
  ro : w.ownsRow 0 79 1 rv rs.length (rs.map (·.1))
  so : w.ownsRow 0 43 1 sv ss.length (ss.map (·.1))
  mo : w.ownsRow 0 3 1 mv rs.length (rs.map fun p => .int .i64 p.2)
  no : w.ownsRow 0 3 1 nv ms.length (ms.map fun x => .int .i64 x)
  rat : ∀ p ∈ rs, LstAt w (fun k => ow k = 6) (rwD p.2) p.1
  sat : ∀ p ∈ ss, LstAt w (fun k => ow k = 6) (smD p.2) p.1
  oD : ow D = 1
  or' : ∀ k, rv.ownBlock = some k → ow k = 3
  os : ∀ k, sv.ownBlock = some k → ow k = 2
  om : ∀ k, mv.ownBlock = some k → ow k = 5
  on : ∀ k, nv.ownBlock = some k → ow k = 4
section
variable {w w3 w4 : World} {D X B : Nat} {ow : Nat → Nat} {n : Int} {rs ss : List Ls} {rv sv mv nv sv' : Value} {l v1 v2 v3 : Value} {m : Nat}
theorem putSms {O1 : Obj} (h : KR w w3 D X B ow n ss rs sv rv nv mv 76 (smD n) l m (m * 5)) (how : ∀ k, ow k ≠ 0 → k < B) (hB : B ≤ X) (hm : m ≤ 999990) (h1 : Ls0 w3 B (m + 1) (smD n) v1) (h2 : Ls0 w3 B (m + 2) (smD n) v2) (h3 : Ls0 w3 B (m + 3) (smD n) v3)
    (hg : (w3.alloc O1).grownBy w4 sv.ownBlock) (ho : w4.ownsRow 0 43 1 sv' (ss.length + 4) (ss.map (·.1) ++ [l, v1, v2, v3])) (hk : sv'.ownBlock = sv.ownBlock ∨ ∀ k, sv'.ownBlock = some k → (w3.alloc O1).heap.size ≤ k) :
    ∃ ow', DrN (w4.setCell ⟨D, 1, none⟩ sv') D ow' n (ss ++ [(l, n), (v1, n), (v2, n), (v3, n)]) rs (ss.map (·.2)) sv' rv nv mv ∧ (∀ k, ow' k ≠ 0 → ow k ≠ 0 ∨ B ≤ k ∧ k < (w4.setCell ⟨D, 1, none⟩ sv').heap.size) ∧ Fr (fun k => ow k ≠ 0 ∨ B ≤ k) w (w4.setCell ⟨D, 1, none⟩ sv') := by
  classical
  have hd := h.dr
  have hDB : D < B := how D (by rw [hd.oD]; omega)
  have hX := h.lt
  have hf : Fr (fun k => sv.ownBlock = some k ∨ k = D) w3 (w4.setCell ⟨D, 1, none⟩ sv') := (((Fr.refl _ _).alloc O1).grown hg (fun k e => .inl (.inl e))).setCell (.inl (.inr rfl)) _
  have hs5 : (w4.setCell ⟨D, 1, none⟩ sv').heap.size = w4.heap.size := by simp [World.setCell]
  have hs3 := hg.size
  rw [World.size_alloc] at hs3
  have hrl : ∀ k, sv'.ownBlock = some k → ow k = 2 ∨ w3.heap.size ≤ k := fun k e => by
    rcases hk with hk | hk
    · rw [hk] at e; exact .inl (hd.os k e)
    · have := hk k e; rw [World.size_alloc] at this; exact .inr (by omega)
  have hold : ∀ k i, i ≠ 0 → i ≠ 2 → ow k = i → (if sv'.ownBlock = some k then 2 else if B ≤ k ∧ k < w4.heap.size then 6 else ow k) = i := fun k i h0 h3 e => by
    have hkB := how k (by omega)
    rw [if_neg (fun e' => by rcases hrl k e' with e2 | e2 <;> omega), if_neg (by omega)]
    exact e
  have hnew : ∀ k, B ≤ k → k < w3.heap.size → (if sv'.ownBlock = some k then 2 else if B ≤ k ∧ k < w4.heap.size then 6 else ow k) = 6 := fun k hb hl => by
    rw [if_neg (fun e' => by rcases hrl k e' with e2 | e2; (have := how k (by omega); omega); omega), if_pos ⟨hb, by omega⟩]
  have hne : ∀ (v : Value) j, j ≠ 0 → j ≠ 2 → j ≠ 1 → (∀ k, v.ownBlock = some k → ow k = j) → ∀ k, v.ownBlock = some k → ¬ (sv.ownBlock = some k ∨ k = D) := fun v j h0 h3 h1 hv k e e' => by
    have h9 := hv k e
    rcases e' with e' | e'
    · have := hd.os k e'; omega
    · subst e'; have := hd.oD; omega
  have hn6 : ∀ k, ow k = 6 → ¬ (sv.ownBlock = some k ∨ k = D) := fun k e e' => by
    rcases e' with e' | e'
    · have := hd.os k e'; omega
    · subst e'; have := hd.oD; omega
  have hnB : ∀ k, B ≤ k → k < w3.heap.size → ¬ (sv.ownBlock = some k ∨ k = D) := fun k hb hl e' => by
    rcases e' with e' | e'
    · have := how k (by rw [hd.os k e']; omega); omega
    · omega
  have hDr : sv.ownBlock ≠ some D := fun e => by have h1 := hd.os D e; have h2 := hd.oD; omega
  have hDr' : sv'.ownBlock ≠ some D := fun e => by
    rcases hrl D e with e2 | e2
    · have := hd.oD; omega
    · omega
  refine ⟨fun k => if sv'.ownBlock = some k then 2 else if B ≤ k ∧ k < w4.heap.size then 6 else ow k, ?_, ?_, ?_⟩
  · exact {
      blk := by
        have e1 : w4.heap[D]? = some (.cells #[.int .i64 n, sv, rv, nv, mv] 31 (0, 0)) := by
          rw [hg.block D (by rw [World.size_alloc]; omega) (fun e => hDr e.symm), Below.heap_alloc _ _ _ (by omega)]
          exact hd.blk
        exact heap_setCell e1
      ro := owns_fr hd.ro hf (hne rv 3 (by omega) (by omega) (by omega) hd.or')
      so := by
        rw [List.length_append, List.map_append]
        exact owns_other ho hDr'
      mo := owns_fr hd.mo hf (hne mv 5 (by omega) (by omega) (by omega) hd.om)
      no := by
        have h9 := owns_fr hd.no hf (hne nv 4 (by omega) (by omega) (by omega) hd.on)
        rw [List.length_map, List.map_map]
        exact h9
      rat := fun p hp => (hd.rat p hp).fr hf (fun k e => hn6 k e) (fun k e => hold k 6 (by omega) (by omega) e)
      sat := fun p hp => by
        rcases List.mem_append.1 hp with hp | hp
        · exact (hd.sat p hp).fr hf (fun k e => hn6 k e) (fun k e => hold k 6 (by omega) (by omega) e)
        · have hx : ∀ M v, M ≤ 1000000 → Ls0 w3 B M (smD n) v → LstAt (w4.setCell ⟨D, 1, none⟩ sv') (fun k => (if sv'.ownBlock = some k then 2 else if B ≤ k ∧ k < w4.heap.size then 6 else ow k) = 6) (smD n) v := fun M v hM hv =>
            (ls0_lst (O := fun k => B ≤ k ∧ k < w3.heap.size) hv hM (fun k h1 h2 => ⟨h1, h2⟩)).fr hf (fun k e => hnB k e.1 e.2) (fun k e => hnew k e.1 e.2)
          simp only [List.mem_cons, List.not_mem_nil, or_false] at hp
          rcases hp with rfl | rfl | rfl | rfl
          · exact hx m _ (by omega) h.ls
          · exact hx (m + 1) _ (by omega) h1
          · exact hx (m + 2) _ (by omega) h2
          · exact hx (m + 3) _ (by omega) h3
      oD := hold D 1 (by omega) (by omega) hd.oD
      or' := fun k e => hold k 3 (by omega) (by omega) (hd.or' k e)
      os := fun k e => if_pos e
      om := fun k e => hold k 5 (by omega) (by omega) (hd.om k e)
      on := fun k e => hold k 4 (by omega) (by omega) (hd.on k e) }
  · intro k hk'
    rw [hs5]
    by_cases e1 : sv'.ownBlock = some k
    · rcases hrl k e1 with e2 | e2
      · exact .inl (by omega)
      · exact .inr ⟨by omega, (ho.lt k e1).2⟩
    · by_cases e2 : B ≤ k ∧ k < w4.heap.size
      · exact .inr e2
      · dsimp only at hk'
        rw [if_neg e1, if_neg e2] at hk'
        exact .inl hk'
  · refine (h.fr.mono (S' := fun k => ow k ≠ 0 ∨ B ≤ k) (fun k e => ?_)).trans hf (fun k e => .inl ?_)
    · rcases e with e | e
      · subst e; exact .inl (by rw [hd.oD]; omega)
      · exact .inr e
    · rcases e with e | e
      · exact .inl (by rw [hd.os k e]; omega)
      · subst e; exact .inl (by rw [hd.oD]; omega)

theorem putNumsS {w5 w6 : World} {O2 : Obj} {nv' : Value} {ms : List Int} (h : DrN w5 D ow n ss rs ms sv rv nv mv) (hms : ms ++ [n, n, n, n] = ss.map (·.2)) (how : ∀ k, ow k ≠ 0 → k < w5.heap.size)
    (hg : (w5.alloc O2).grownBy w6 nv.ownBlock) (ho : w6.ownsRow 0 3 1 nv' (ms.length + 4) (ms.map (fun x => .int .i64 x) ++ [.int .i64 n, .int .i64 n, .int .i64 n, .int .i64 n])) (hk : nv'.ownBlock = nv.ownBlock ∨ ∀ k, nv'.ownBlock = some k → (w5.alloc O2).heap.size ≤ k) :
    ∃ ow', DrS (w6.setCell ⟨D, 3, none⟩ nv') D ow' n ss rs sv rv nv' mv ∧ (∀ k, ow' k ≠ 0 → ow k ≠ 0 ∨ w5.heap.size ≤ k ∧ k < (w6.setCell ⟨D, 3, none⟩ nv').heap.size) ∧ Fr (fun k => ow k ≠ 0) w5 (w6.setCell ⟨D, 3, none⟩ nv') := by
  classical
  have hf : Fr (fun k => nv.ownBlock = some k ∨ k = D) w5 (w6.setCell ⟨D, 3, none⟩ nv') := (((Fr.refl _ _).alloc O2).grown hg (fun k e => .inl (.inl e))).setCell (.inl (.inr rfl)) _
  have hs7 : (w6.setCell ⟨D, 3, none⟩ nv').heap.size = w6.heap.size := by simp [World.setCell]
  have hD5 : D < w5.heap.size := how D (by rw [h.oD]; omega)
  have hrl : ∀ k, nv'.ownBlock = some k → ow k = 4 ∨ w5.heap.size ≤ k := fun k e => by
    rcases hk with hk | hk
    · rw [hk] at e; exact .inl (h.on k e)
    · have := hk k e; rw [World.size_alloc] at this; exact .inr (by omega)
  have hold : ∀ k i, i ≠ 0 → i ≠ 4 → ow k = i → (if nv'.ownBlock = some k then 4 else ow k) = i := fun k i h0 h3 e => by
    have hkB := how k (by omega)
    rw [if_neg (fun e' => by rcases hrl k e' with e2 | e2 <;> omega)]
    exact e
  have hne : ∀ k j, j ≠ 4 → j ≠ 1 → ow k = j → ¬ (nv.ownBlock = some k ∨ k = D) := fun k j h5 h1 e e' => by
    rcases e' with e' | e'
    · have := h.on k e'; omega
    · subst e'; have := h.oD; omega
  have hDr : nv.ownBlock ≠ some D := fun e => by have h1 := h.on D e; have h2 := h.oD; omega
  have hDr' : nv'.ownBlock ≠ some D := fun e => by
    rcases hrl D e with e2 | e2
    · have := h.oD; omega
    · omega
  have hlen : ss.length = ms.length + 4 := by
    have := congrArg List.length hms
    simpa using this.symm
  refine ⟨fun k => if nv'.ownBlock = some k then 4 else ow k, ?_, ?_, ?_⟩
  · exact {
      blk := by
        have e1 : w6.heap[D]? = some (.cells #[.int .i64 n, sv, rv, nv, mv] 31 (0, 0)) := by
          rw [hg.block D (by rw [World.size_alloc]; omega) (fun e => hDr e.symm), Below.heap_alloc _ _ _ hD5]
          exact h.blk
        exact heap_setCell e1
      ro := owns_fr h.ro hf (fun k e => hne k 3 (by omega) (by omega) (h.or' k e))
      so := owns_fr h.so hf (fun k e => hne k 2 (by omega) (by omega) (h.os k e))
      mo := owns_fr h.mo hf (fun k e => hne k 5 (by omega) (by omega) (h.om k e))
      no := by
        have e9 : (ss.map fun p => Value.int .i64 p.2) = ms.map (fun x => .int .i64 x) ++ [.int .i64 n, .int .i64 n, .int .i64 n, .int .i64 n] := by
          rw [show (ss.map fun p => Value.int .i64 p.2) = (ss.map (·.2)).map (fun x => Value.int .i64 x) from by rw [List.map_map]; rfl, ← hms, List.map_append]
          rfl
        rw [e9, hlen]
        exact owns_other ho hDr'
      rat := fun p hp => (h.rat p hp).fr hf (fun k e => hne k 6 (by omega) (by omega) e) (fun k e => hold k 6 (by omega) (by omega) e)
      sat := fun p hp => (h.sat p hp).fr hf (fun k e => hne k 6 (by omega) (by omega) e) (fun k e => hold k 6 (by omega) (by omega) e)
      oD := hold D 1 (by omega) (by omega) h.oD
      or' := fun k e => hold k 3 (by omega) (by omega) (h.or' k e)
      os := fun k e => hold k 2 (by omega) (by omega) (h.os k e)
      om := fun k e => hold k 5 (by omega) (by omega) (h.om k e)
      on := fun k e => if_pos e }
  · intro k hk'
    rw [hs7]
    by_cases e1 : nv'.ownBlock = some k
    · rcases hrl k e1 with e2 | e2
      · exact .inl (by omega)
      · exact .inr ⟨e2, (ho.lt k e1).2⟩
    · dsimp only at hk'
      rw [if_neg e1] at hk'
      exact .inl hk'
  · refine hf.mono (fun k e => ?_)
    rcases e with e | e
    · rw [h.on k e]; omega
    · subst e; rw [h.oD]; omega
end

end Go.Proofs.YthciddpljcbhiabGreatDoor

/- Walks: a list of rows that came out is written over and kept (keepRows), for any drawer. -/
namespace Go.Proofs.YthciddpljcbhiabGreatDoor
open Go Go.RowKit Go.Lib

attribute [local go_sem ↓] Go.wp_at_zero Go.wp_at_succ
theorem Tryz.inf79 : (Tryz.prog.info? 79).map (fun i => (i.zero, i.size, i.bytes)) = some (some (.slice none 0 0), 1, 24) := by kernel_rfl
theorem Tryz.inf3 : (Tryz.prog.info? 3).map (fun i => (i.zero, i.size, i.bytes)) = some (some (.int .i64 0), 1, 8) := by kernel_rfl
theorem KR.cast {w wr : World} {D X B : Nat} {ow : Nat → Nat} {n : Int} {ss rs : List Ls} {sv rv nv mv : Value} {e : TypeId} {C : List Value} {l : Value} {m q q' : Nat} (h : KR w wr D X B ow n ss rs sv rv nv mv e C l m q) (hq : q = q') : KR w wr D X B ow n ss rs sv rv nv mv e C l m q' := hq ▸ h
def rw2 (n : Int) : List Value := rwD n ++ rwD n
def rw3 (n : Int) : List Value := rwD n ++ rwD n ++ rwD n
theorem rwD_one (n : Int) : ∀ u ∈ rwD n, u.oneCell' = true := by
  intro u hu
  simp only [rwD, List.mem_cons, List.not_mem_nil, or_false] at hu
  rcases hu with rfl | rfl | rfl | rfl | rfl | rfl | rfl | rfl <;> rfl
theorem rw2_one (n : Int) : ∀ u ∈ rw2 n, u.oneCell' = true := by
  intro u hu
  rcases List.mem_append.1 hu with h | h <;> exact rwD_one n u h
theorem rw3_one (n : Int) : ∀ u ∈ rw3 n, u.oneCell' = true := by
  intro u hu
  rcases List.mem_append.1 hu with h | h
  · exact rw2_one n u h
  · exact rwD_one n u h
theorem rep_app {C ys : List Value} {m : Nat} (hy : ∀ i, i < m → ∀ j u, C[j]? = some u → ys[i * C.length + j]? = some u) (hl : ys.length = m * C.length) : ∀ i, i < m + 1 → ∀ j u, C[j]? = some u → (ys ++ C)[i * C.length + j]? = some u := by
  intro i hi j u hj
  have hjl : j < C.length := (List.getElem?_eq_some_iff.1 hj).1
  by_cases h : i < m
  · have hb : (i + 1) * C.length ≤ m * C.length := Nat.mul_le_mul_right _ (by omega)
    rw [Nat.add_mul] at hb
    rw [List.getElem?_append_left (by omega)]
    exact hy i h j u hj
  · have : i = m := by omega
    subst this
    rw [List.getElem?_append_right (by omega), hl, Nat.add_sub_cancel_left]
    exact hj
theorem rwD_rep (n : Int) : ∀ j u, (rwD n)[j]? = some u → (rwD n)[j % 8]? = some u := by
  intro j u h
  have hj : j < 8 := (List.getElem?_eq_some_iff.1 h).1
  rw [Nat.mod_eq_of_lt hj]
  exact h
theorem rw2_rep (n : Int) : ∀ j u, (rw2 n)[j]? = some u → (rwD n)[j % 8]? = some u := by
  intro j u h
  by_cases hj : j < 8
  · unfold rw2 at h
    rw [List.getElem?_append_left hj] at h
    exact rwD_rep n j u h
  · unfold rw2 at h
    rw [List.getElem?_append_right (by show 8 ≤ j; omega)] at h
    have h2 := rwD_rep n _ u h
    rw [show (rwD n).length = 8 from rfl] at h2
    rw [show j % 8 = (j - 8) % 8 from by omega]
    exact h2
theorem rw3_rep (n : Int) : ∀ j u, (rw3 n)[j]? = some u → (rwD n)[j % 8]? = some u := by
  intro j u h
  by_cases hj : j < 16
  · unfold rw3 at h
    rw [List.getElem?_append_left (by show j < 16; exact hj)] at h
    exact rw2_rep n j u h
  · unfold rw3 at h
    rw [List.getElem?_append_right (by show 16 ≤ j; omega)] at h
    have h2 := rwD_rep n _ u h
    rw [show (rwD n ++ rwD n).length = 16 from rfl] at h2
    rw [show j % 8 = (j - 16) % 8 from by omega]
    exact h2
theorem one4 (a0 a1 a2 a3 : Option Addr) (n0 n1 n2 n3 c0 c1 c2 c3 : Nat) : ∀ u ∈ [Value.slice a0 n0 c0, .slice a1 n1 c1, .slice a2 n2 c2, .slice a3 n3 c3], u.oneCell' = true := by
  intro u hu; simp at hu; rcases hu with rfl | rfl | rfl | rfl <;> rfl
theorem ints4 (n : Int) : ∀ u ∈ [Value.int .i64 n, .int .i64 n, .int .i64 n, .int .i64 n], u.oneCell' = true := by
  intro u hu; simp at hu; subst hu; rfl

theorem keptEnd {w w5 w6 : World} {D B N : Nat} {H : Nat → Prop} {ow ow5 : Nat → Nat} {n : Nat} {ss rs : List Ls} {sv rv nv mv mv' : Value} {O2 : Obj} {l v1 v2 v3 : Value} (h : DrM w5 D ow5 ((n : Int) + 1) ss (rs ++ [(l, (n : Int) + 1), (v1, (n : Int) + 1), (v2, (n : Int) + 1), (v3, (n : Int) + 1)]) (rs.map (·.2)) sv rv nv mv) (ho5 : ∀ k, ow5 k ≠ 0 → ow k ≠ 0 ∨ B ≤ k ∧ k < w5.heap.size)
    (hf5 : Fr (fun k => ow k ≠ 0 ∨ B ≤ k) w w5) (how : ∀ k, ow k ≠ 0 → k < B) (hoH : ∀ k, ow k ≠ 0 → H k) (hB : B ≤ w.heap.size) (hnN : n ≤ N) (hsl : ss.length ≤ 4 * N) (hrl : rs.length ≤ 4 * N)
    (hg : (w5.alloc O2).grownBy w6 mv.ownBlock) (hown : w6.ownsRow 0 3 1 mv' (rs.length + 4) ((rs.map (·.2)).map (fun x => .int .i64 x) ++ [.int .i64 ((n : Int) + 1), .int .i64 ((n : Int) + 1), .int .i64 ((n : Int) + 1), .int .i64 ((n : Int) + 1)])) (hblk : mv'.ownBlock = mv.ownBlock ∨ ∀ k, mv'.ownBlock = some k → (w5.alloc O2).heap.size ≤ k) :
    DrAt (w6.setCell ⟨D, 4, none⟩ mv') D (fun k => H k ∨ B ≤ k ∧ k < (w6.setCell ⟨D, 4, none⟩ mv').heap.size) (N + 1) ∧ Fr (fun k => H k ∨ B ≤ k) w (w6.setCell ⟨D, 4, none⟩ mv') := by
  have hz5 := hf5.size
  obtain ⟨ow7, hd7, ho7, hf7⟩ := putNums h (by simp) (fun k e => by rcases ho5 k e with e | e; (have := how k e; omega); exact e.2) hg (by rw [List.length_map]; exact hown) hblk
  have hz7 := hf7.size
  refine ⟨⟨ow7, n + 1, ss, _, _, _, _, _, fun k e => ?_, by omega, by omega, by omega, by simp; omega, hd7⟩, (hf5.mono (fun k e => ?_)).trans hf7 (fun k e => ?_)⟩
  · rcases ho7 k e with e | e
    · rcases ho5 k e with e | e
      · exact .inl (hoH k e)
      · exact .inr ⟨e.1, by omega⟩
    · exact .inr ⟨by omega, e.2⟩
  · rcases e with e | e
    · exact .inl (hoH k e)
    · exact .inr e
  · rcases ho5 k e with e | e
    · exact .inl (.inl (hoH k e))
    · exact .inl (.inr e.1)

set_option maxHeartbeats 4000000 in
set_option maxRecDepth 100000 in
theorem keepRows_any (D B m N : Nat) (H : Nat → Prop) (l : Value) (xs : List Value) (w : World) (hd : DrAt w D H N) (hHB : ∀ k, H k → k < B) (hB : B ≤ w.heap.size) (hm : m ≤ 999990) (hN : N ≤ 900000000000) (hown : w.ownsRow B 78 8 l m xs) :
    Calls Tryz.prog 49 #[.pointer (some ⟨D, 0, none⟩), l] w fun e w' => e = .returned (.tuple #[]) ∧ DrAt w' D (fun k => H k ∨ B ≤ k ∧ k < w'.heap.size) (N + 1) ∧ Fr (fun k => H k ∨ B ≤ k) w w' := by
  obtain ⟨j0, hj, jz0, jz1, jz2⟩ := info_parts Tryz.info78'
  obtain ⟨k0, hk, kz0, kz1, kz2⟩ := info_parts Tryz.inf79
  obtain ⟨i0, hi, iz0, iz1, iz2⟩ := info_parts Tryz.inf3
  obtain ⟨ow, n, ss, rs, sv, rv, nv, mv, hoH, hn0, hnN, hsl, hrl, hds⟩ := hd
  have how : Hid (∀ k, ow k ≠ 0 → k < B) := fun k e => hHB k (hoH k e)
  have HOH : Hid (∀ k, ow k ≠ 0 → H k) := hoH
  have HL : Hid (∀ g, l.ownBlock = some g → B ≤ g ∧ g < w.heap.size) := hown.lt
  have hDB : D < B := how.out D (by rw [hds.oD]; omega)
  have c0 : w.cell? ⟨D, 0, none⟩ = some (.int .i64 n) := cell_blk hds.blk rfl
  have f0 : w.frozen? ⟨D, 0, none⟩ = false := froz_blk hds.blk
  have HK : Hid (KR w ((w.setCell ⟨D, 0, none⟩ (.int .i64 (n + 1))).alloc (.cells (rwD (n + 1)).toArray 78)) D w.heap.size B ow (n + 1) ss rs sv rv nv mv 78 (rwD (n + 1)) l m 0) := KR.start hds how.out hown
  have HSL : Hid (ss.length ≤ 4 * N) := hsl
  obtain ⟨a, cap, rfl⟩ := ownForm hown
  obtain ⟨ra, rcap, rfl⟩ := ownForm hds.ro
  obtain ⟨ma, mcap, rfl⟩ := ownForm hds.mo
  clear hown hds hoH hHB hsl
  go_enter Tryz.func49, Tryz.ntmps49
  go_wp2_with fail
  go_loopw [5] (fun i wr => ∃ k : Nat, k ≤ m ∧ i = .int .i64 k ∧ KR w wr D w.heap.size B ow (n + 1) ss rs sv (.slice ra rs.length rcap) nv (.slice ma rs.length mcap) 78 (rwD (n + 1)) (.slice a m cap) m (k * 8)) (fun i _ => m - (intOf i).toNat)
  case atStart => exact ⟨0, Nat.zero_le _, rfl, HK.out⟩
  case round =>
    obtain ⟨k, hk2, rfl, hks⟩ := hrel
    have HS : Hid (KR w wr D w.heap.size B ow (n + 1) ss rs sv (.slice ra rs.length rcap) nv (.slice ma rs.length mcap) 78 (rwD (n + 1)) (.slice a m cap) m (k * 8)) := hks
    clear hks HK c0 f0
    by_cases hlt : k < m
    · obtain ⟨ys, hown⟩ := HS.out.own
      obtain ⟨b, cap', e', hgb, hgl, _⟩ := ownBlockForm hown (by omega)
      injection e' with e1 _ e2
      subst e1 e2
      obtain ⟨mm, hmm, hrow⟩ := ownsCells hown (g := b) rfl
      have hmm8 : m * 8 ≤ mm := hmm
      have HR : Hid (Row wr b mm) := hrow
      obtain ⟨_, _, _, _, _, hx⟩ := HS.out.cells
      have x0 := hx 0 _ rfl
      have x1 := hx 1 _ rfl
      have x2 := hx 2 _ rfl
      have x3 := hx 3 _ rfl
      have x4 := hx 4 _ rfl
      have x5 := hx 5 _ rfl
      have x6 := hx 6 _ rfl
      have x7 := hx 7 _ rfl
      clear hrow hown hmm hx
      obtain ⟨⟨v0, q0⟩, g0⟩ := HR.out.cell (o := k * 8) (by omega)
      obtain ⟨⟨v1, q1⟩, g1⟩ := HR.out.cell (o := k * 8 + 1) (by omega)
      obtain ⟨⟨v2, q2⟩, g2⟩ := HR.out.cell (o := k * 8 + 2) (by omega)
      obtain ⟨⟨v3, q3⟩, g3⟩ := HR.out.cell (o := k * 8 + 3) (by omega)
      obtain ⟨⟨v4, q4⟩, g4⟩ := HR.out.cell (o := k * 8 + 4) (by omega)
      obtain ⟨⟨v5, q5⟩, g5⟩ := HR.out.cell (o := k * 8 + 5) (by omega)
      obtain ⟨⟨v6, q6⟩, g6⟩ := HR.out.cell (o := k * 8 + 6) (by omega)
      obtain ⟨⟨v7, q7⟩, g7⟩ := HR.out.cell (o := k * 8 + 7) (by omega)
      go_wp2_with fail
      refine ⟨⟨k + 1, by omega, by go_num, ?_⟩, by simp [intOf]; omega⟩
      have s1 := HS.out.set HL.out how.out rfl k 0 rfl (show _ < m * 8 by omega) _ rfl
      have s2 := s1.set HL.out how.out rfl k 1 rfl (show _ < m * 8 by omega) _ rfl
      have s3 := s2.set HL.out how.out rfl k 2 rfl (show _ < m * 8 by omega) _ rfl
      have s4 := s3.set HL.out how.out rfl k 3 rfl (show _ < m * 8 by omega) _ rfl
      have s5 := s4.set HL.out how.out rfl k 4 rfl (show _ < m * 8 by omega) _ rfl
      have s6 := s5.set HL.out how.out rfl k 5 rfl (show _ < m * 8 by omega) _ rfl
      have s7 := s6.set HL.out how.out rfl k 6 rfl (show _ < m * 8 by omega) _ rfl
      have s8 := s7.set HL.out how.out rfl k 7 rfl (show _ < m * 8 by omega) _ rfl
      exact s8.cast (by omega)
    · have hkm : k = m := by omega
      subst hkm
      have HLS : Hid (Ls0 wr B k (rwD (n + 1)) (.slice a k cap)) := HS.out.ls
      obtain ⟨ys, hown, hys⟩ := HS.out.ys
      have HYL : Hid (ys.length = k * 8) := hown.1
      have HYS : Hid (∀ i, i < k → ∀ j u, (rwD (n + 1))[j]? = some u → ys[i * 8 + j]? = some u) := hys
      have HO : Hid (wr.ownsRow B 78 8 (.slice a k cap) k ys) := hown
      clear hown hys
      have hz := HS.out.lt
      obtain ⟨d0, d2, d4, e2, e4, hx⟩ := HS.out.cells
      have x0 := hx 0 _ rfl
      have x1 := hx 1 _ rfl
      have x2 := hx 2 _ rfl
      have x3 := hx 3 _ rfl
      have x4 := hx 4 _ rfl
      have x5 := hx 5 _ rfl
      have x6 := hx 6 _ rfl
      have x7 := hx 7 _ rfl
      clear hx
      have HY1 : Hid (∀ i, i < k + 1 → ∀ j u, (rwD (n + 1))[j]? = some u → (ys ++ rwD (n + 1))[i * 8 + j]? = some u) := rep_app HYS.out HYL.out
      have HY2 : Hid (∀ i, i < k + 2 → ∀ j u, (rwD (n + 1))[j]? = some u → (ys ++ rw2 (n + 1))[i * 8 + j]? = some u) := by
        have h := rep_app (m := k + 1) HY1.out (by rw [List.length_append, HYL.out]; show k * 8 + 8 = (k + 1) * 8; omega)
        rw [List.append_assoc] at h
        exact h
      have HY3 : Hid (∀ i, i < k + 3 → ∀ j u, (rwD (n + 1))[j]? = some u → (ys ++ rw3 (n + 1))[i * 8 + j]? = some u) := by
        have h := rep_app (m := k + 2) HY2.out (by rw [List.length_append, HYL.out]; show k * 8 + 16 = (k + 2) * 8; omega)
        rw [List.append_assoc] at h
        exact h
      go_upto_region 9 with (first
        | (at_builtin; refine wpList_append_rep rfl (.tmp 31) (.tmp 33) 79 rfl B 78 j0 (.agg #[.int .i64 0, .int .u8 0, .int .u8 0, .int .u8 0, .int .i64 0, .int .i64 0, .int .i32 0, .int .i32 0]) 8 40 Tryz.underlying79 hj jz0 jz1 jz2 rfl (by decide) (.slice a k cap) k ys rfl (HO.out.alloc _) ⟨wr.heap.size, 0, none⟩ 1 1 (rwD (n + 1)) rfl rfl (by exact newAt _ (rwD (n + 1)) 78 _ rfl) (rwD_one _) (by omega) (by unfold maxLen; omega) (by omega) (by rw [World.size_alloc]; omega) (rwD (n + 1)) rfl (rwD_rep _) ?_; intro v1 w1 hv1 hl1 hgx1 hrp1; have HS1 : Hid (KR w w1 D w.heap.size B ow (n + 1) ss rs sv (.slice ra rs.length rcap) nv (.slice ma rs.length mcap) 78 (rwD (n + 1)) (.slice a k cap) k (k * 8)) := (HS.out.alloc _).grown HL.out how.out hgx1 hl1 rfl hrp1; have HO1 : Hid (w1.ownsRow B 78 8 (.slice a k cap) k ys) := hl1; have hz1 := HS1.out.lt; obtain ⟨a1, p1, rfl⟩ := ownForm hv1; have HL11 : Hid (Ls0 w1 B (k + 1) (rwD (n + 1)) (.slice a1 (k + 1) p1)) := ls0_of hv1 rfl (HY1.out); clear hv1 hl1 hgx1 hrp1 d0 d2 d4 e2 e4 x0 x1 x2 x3 x4 x5 x6 x7; obtain ⟨d0, d2, d4, e2, e4, hx⟩ := HS1.out.cells; have x0 := hx 0 _ rfl; have x1 := hx 1 _ rfl; have x2 := hx 2 _ rfl; have x3 := hx 3 _ rfl; have x4 := hx 4 _ rfl; have x5 := hx 5 _ rfl; have x6 := hx 6 _ rfl; have x7 := hx 7 _ rfl; clear hx)
        | (at_builtin; refine wpList_append_rep rfl (.tmp 35) (.tmp 38) 79 rfl B 78 j0 (.agg #[.int .i64 0, .int .u8 0, .int .u8 0, .int .u8 0, .int .i64 0, .int .i64 0, .int .i32 0, .int .i32 0]) 8 40 Tryz.underlying79 hj jz0 jz1 jz2 rfl (by decide) (.slice a k cap) k ys rfl (HO1.out.alloc _) ⟨w1.heap.size, 0, none⟩ 2 2 (rw2 (n + 1)) rfl rfl (by exact newAt _ (rw2 (n + 1)) 78 _ rfl) (rw2_one _) (by omega) (by unfold maxLen; omega) (by omega) (by rw [World.size_alloc]; omega) (rwD (n + 1)) rfl (rw2_rep _) ?_; intro v2 w2 hv2 hl2 hgx2 hrp2; have HS2 : Hid (KR w w2 D w.heap.size B ow (n + 1) ss rs sv (.slice ra rs.length rcap) nv (.slice ma rs.length mcap) 78 (rwD (n + 1)) (.slice a k cap) k (k * 8)) := (HS1.out.alloc _).grown HL.out how.out hgx2 hl2 rfl hrp2; have HO2 : Hid (w2.ownsRow B 78 8 (.slice a k cap) k ys) := hl2; have hz2 := HS2.out.lt; obtain ⟨a2, p2, rfl⟩ := ownForm hv2; have HL22 : Hid (Ls0 w2 B (k + 2) (rwD (n + 1)) (.slice a2 (k + 2) p2)) := ls0_of hv2 rfl (HY2.out); have HL21 : Hid (Ls0 w2 B (k + 1) (rwD (n + 1)) (.slice a1 (k + 1) p1)) := ((HL11.out.alloc _).rep hgx2.size hrp2); clear hv2 hl2 hgx2 hrp2 d0 d2 d4 e2 e4 x0 x1 x2 x3 x4 x5 x6 x7; obtain ⟨d0, d2, d4, e2, e4, hx⟩ := HS2.out.cells; have x0 := hx 0 _ rfl; have x1 := hx 1 _ rfl; have x2 := hx 2 _ rfl; have x3 := hx 3 _ rfl; have x4 := hx 4 _ rfl; have x5 := hx 5 _ rfl; have x6 := hx 6 _ rfl; have x7 := hx 7 _ rfl; clear hx)
        | (at_builtin; refine wpList_append_rep rfl (.tmp 40) (.tmp 44) 79 rfl B 78 j0 (.agg #[.int .i64 0, .int .u8 0, .int .u8 0, .int .u8 0, .int .i64 0, .int .i64 0, .int .i32 0, .int .i32 0]) 8 40 Tryz.underlying79 hj jz0 jz1 jz2 rfl (by decide) (.slice a k cap) k ys rfl (HO2.out.alloc _) ⟨w2.heap.size, 0, none⟩ 3 3 (rw3 (n + 1)) rfl rfl (by exact newAt _ (rw3 (n + 1)) 78 _ rfl) (rw3_one _) (by omega) (by unfold maxLen; omega) (by omega) (by rw [World.size_alloc]; omega) (rwD (n + 1)) rfl (rw3_rep _) ?_; intro v3 w3 hv3 hl3 hgx3 hrp3; have HS3 : Hid (KR w w3 D w.heap.size B ow (n + 1) ss rs sv (.slice ra rs.length rcap) nv (.slice ma rs.length mcap) 78 (rwD (n + 1)) (.slice a k cap) k (k * 8)) := (HS2.out.alloc _).grown HL.out how.out hgx3 hl3 rfl hrp3; have HO3 : Hid (w3.ownsRow B 78 8 (.slice a k cap) k ys) := hl3; have hz3 := HS3.out.lt; obtain ⟨a3, p3, rfl⟩ := ownForm hv3; have HL33 : Hid (Ls0 w3 B (k + 3) (rwD (n + 1)) (.slice a3 (k + 3) p3)) := ls0_of hv3 rfl (HY3.out); have HL31 : Hid (Ls0 w3 B (k + 1) (rwD (n + 1)) (.slice a1 (k + 1) p1)) := ((HL21.out.alloc _).rep hgx3.size hrp3); have HL32 : Hid (Ls0 w3 B (k + 2) (rwD (n + 1)) (.slice a2 (k + 2) p2)) := ((HL22.out.alloc _).rep hgx3.size hrp3); clear hv3 hl3 hgx3 hrp3 d0 d2 d4 e2 e4 x0 x1 x2 x3 x4 x5 x6 x7; obtain ⟨d0, d2, d4, e2, e4, hx⟩ := HS3.out.cells; have x0 := hx 0 _ rfl; have x1 := hx 1 _ rfl; have x2 := hx 2 _ rfl; have x3 := hx 3 _ rfl; have x4 := hx 4 _ rfl; have x5 := hx 5 _ rfl; have x6 := hx 6 _ rfl; have x7 := hx 7 _ rfl; clear hx)
        | fail)
      have HDR : Hid (DrS w3 D ow (n + 1) ss rs sv (.slice ra rs.length rcap) nv (.slice ma rs.length mcap)) := HS3.out.dr
      have hDr : Hid ((Value.slice ra rs.length rcap).ownBlock ≠ some D) := fun e => by have h1 := HDR.out.or' D e; have h2 := HDR.out.oD; omega
      have hD3 : D < w3.heap.size := by omega
      clear x0 x1 x2 x3 x4 x5 x6 x7 HS HS1 HS2 HO HO1 HO2 HO3 HY1 HY2 HY3 HYL HYS HLS HL11 HL21 HL22
      go_upto_region 10 with (first
        | (at_builtin; refine listAppend rfl (.tmp 50) (.tmp 55) 28 rfl 0 79 k0 (.slice none 0 0) 1 24 Tryz.underlying28 hk kz0 kz1 kz2 rfl (by decide) (.slice ra rs.length rcap) rs.length (rs.map (·.1)) rfl (HDR.out.ro.alloc _) ⟨w3.heap.size, 0, none⟩ 4 4 [.slice a k cap, .slice a1 (k + 1) p1, .slice a2 (k + 2) p2, .slice a3 (k + 3) p3] rfl rfl (by exact newAt _ [.slice a k cap, .slice a1 (k + 1) p1, .slice a2 (k + 2) p2, .slice a3 (k + 3) p3] 79 _ rfl) (one4 _ _ _ _ _ _ _ _ _ _ _ _) (by unfold maxLen; omega) (by omega) (Nat.zero_le _) ?_; intro rv' w4 hown4 hg4 hblk4; have d2' : w4.cell? ⟨D, 2, none⟩ = some (.slice ra rs.length rcap) := hg4.cell (cell_alloc1 d2) (fun e => hDr.out e.symm); have e2' : w4.frozen? ⟨D, 2, none⟩ = false := (World.frozen?_of_block (hg4.block D (by rw [World.size_alloc]; omega) (fun e => hDr.out e.symm))).trans (frozen_alloc1 hD3 e2); obtain ⟨ra', rcap', rfl⟩ := ownForm hown4; have HM := putRows HS3.out how.out hB hm HL31.out HL32.out HL33.out hg4 hown4 hblk4; clear hown4 hg4 hblk4 d0 d2 d4 e2 e4)
        | fail)
      generalize w4.setCell ⟨D, 2, none⟩ (.slice ra' (rs.length + 4) rcap') = w5 at *
      obtain ⟨ow5, hm5, ho5, hf5⟩ := HM
      have HO5 : Hid (∀ k, ow5 k ≠ 0 → ow k ≠ 0 ∨ B ≤ k ∧ k < w5.heap.size) := ho5
      have HF5 : Hid (Fr (fun k => ow k ≠ 0 ∨ B ≤ k) w w5) := hf5
      have hD5 : D < w5.heap.size := (Array.getElem?_eq_some_iff.1 hm5.blk).1
      have y0 : w5.drew.cell? ⟨D, 0, none⟩ = some (.int .i64 ((n : Int) + 1)) := cell_blk (w := w5) hm5.blk rfl
      have y4 : w5.drew.cell? ⟨D, 4, none⟩ = some (.slice ma rs.length mcap) := cell_blk (w := w5) hm5.blk rfl
      have y4' : (w5.alloc (.cells #[.int .i64 ((n : Int) + 1), .int .i64 ((n : Int) + 1), .int .i64 ((n : Int) + 1), .int .i64 ((n : Int) + 1)] 3)).drew.cell? ⟨D, 4, none⟩ = some (.slice ma rs.length mcap) := cell_alloc1 y4
      have z4 : w5.drew.frozen? ⟨D, 4, none⟩ = false := froz_blk (w := w5) hm5.blk
      have hDm : Hid ((Value.slice ma rs.length mcap).ownBlock ≠ some D) := fun e => by have h1 := hm5.om D e; have h2 := hm5.oD; omega
      have hmo := hm5.mo
      have HM5 : Hid (DrM w5 D ow5 ((n : Int) + 1) ss (rs ++ [(Value.slice a k cap, (n : Int) + 1), (Value.slice a1 (k + 1) p1, (n : Int) + 1), (Value.slice a2 (k + 2) p2, (n : Int) + 1), (Value.slice a3 (k + 3) p3, (n : Int) + 1)]) (rs.map (·.2)) sv (.slice ra' (rs.length + 4) rcap') nv (.slice ma rs.length mcap)) := hm5
      rw [List.length_map] at hmo
      obtain ⟨xm, hxm⟩ : ∃ xm, xm = List.map (fun x => Value.int .i64 x) (rs.map (·.2)) := ⟨_, rfl⟩
      rw [← hxm] at hmo
      have HXM : Hid (xm = List.map (fun x => Value.int .i64 x) (rs.map (·.2))) := hxm
      have HMO : Hid (w5.ownsRow 0 3 1 (.slice ma rs.length mcap) rs.length xm) := hmo
      clear hm5 ho5 hf5 hmo hxm HS3 HL31 HL32 HL33 HDR hDr d2' e2' hz hz1 hz2 hz3
      have hD8 : D ≠ w5.heap.size := by omega
      refine wp_region_noPanic ?_
      refine wp_region_held_drew (S := fun w' => w'.cell? ⟨D, 0, none⟩ = some (.int .i64 ((n : Int) + 1))) (by kernel_rfl) y0 (fun hHeld => ?_)
      refine wpAnyH_take (i := 0) (v := ?_) rfl (by kernel_rfl) (by kernel_rfl) (by kernel_rfl) (fun _ _ _ h => h) (Or.inl ⟨by rfl, ?_⟩) hHeld ?_
      rotate_left
      · (intro w hSw; (try dsimp only at hSw); go_simp; (try with_reducible rfl))
      simp only [Act.put]
      refine wpAnyH_take (i := 1) (v := ?_) rfl (by kernel_rfl) (by kernel_rfl) (by kernel_rfl) (fun _ _ _ h => h) (Or.inl ⟨by rfl, ?_⟩) hHeld ?_
      rotate_left
      · (intro w hSw; (try dsimp only at hSw); go_simp; (try with_reducible rfl))
      simp only [Act.put]
      refine wpAnyH_take (i := 2) (v := ?_) rfl (by kernel_rfl) (by kernel_rfl) (by kernel_rfl) (fun _ _ _ h => h) (Or.inl ⟨by rfl, ?_⟩) hHeld ?_
      rotate_left
      · (intro w hSw; (try dsimp only at hSw); go_simp; (try with_reducible rfl))
      simp only [Act.put]
      refine wpAnyH_take (i := 3) (v := ?_) rfl (by kernel_rfl) (by kernel_rfl) (by kernel_rfl) (fun _ _ _ h => h) (Or.inl ⟨by rfl, ?_⟩) hHeld ?_
      rotate_left
      · (intro w hSw; (try dsimp only at hSw); go_simp; (try with_reducible rfl))
      simp only [Act.put]
      refine wpAnyH_take (i := 5) (v := ?_) rfl (by kernel_rfl) (by kernel_rfl) (by kernel_rfl) (fun _ _ _ h => h) (Or.inl ⟨by rfl, ?_⟩) hHeld ?_
      rotate_left
      · (intro w hSw; (try dsimp only at hSw); go_simp; (try with_reducible rfl))
      simp only [Act.put]
      refine wpAnyH_take (i := 6) (v := ?_) rfl (by kernel_rfl) (by kernel_rfl) (by kernel_rfl) (fun _ _ _ h => h) (Or.inl ⟨by rfl, ?_⟩) hHeld ?_
      rotate_left
      · (intro w hSw; (try dsimp only at hSw); go_simp; (try with_reducible rfl))
      simp only [Act.put]
      refine wpAnyH_take (i := 7) (v := ?_) rfl (by kernel_rfl) (by kernel_rfl) (by kernel_rfl) (fun _ _ _ h => h) (Or.inl ⟨by rfl, ?_⟩) hHeld ?_
      rotate_left
      · (intro w hSw; (try dsimp only at hSw); go_simp; (try with_reducible rfl))
      simp only [Act.put]
      refine wpAnyH_take (i := 8) (v := ?_) rfl (by kernel_rfl) (by kernel_rfl) (by kernel_rfl) (fun _ _ _ h => h) (Or.inl ⟨by rfl, ?_⟩) hHeld ?_
      rotate_left
      · (intro w hSw; (try dsimp only at hSw); go_simp; (try with_reducible rfl))
      simp only [Act.put]
      refine wpAnyH_take (i := 9) (v := ?_) rfl (by kernel_rfl) (by kernel_rfl) (by kernel_rfl) (fun _ _ _ h => h) (Or.inl ⟨by rfl, ?_⟩) hHeld ?_
      rotate_left
      · (intro w hSw; (try dsimp only at hSw); go_simp; (try with_reducible rfl))
      simp only [Act.put]
      refine wpAnyH_take (i := 10) (v := ?_) rfl (by kernel_rfl) (by kernel_rfl) (by kernel_rfl) (fun _ _ _ h => h) (Or.inl ⟨by rfl, ?_⟩) hHeld ?_
      rotate_left
      · (intro w hSw; (try dsimp only at hSw); go_simp; (try with_reducible rfl))
      simp only [Act.put]
      refine wpAnyH_take (i := 11) (v := ?_) rfl (by kernel_rfl) (by kernel_rfl) (by kernel_rfl) (fun _ _ _ h => h) (Or.inl ⟨by rfl, ?_⟩) hHeld ?_
      rotate_left
      · (intro w hSw; (try dsimp only at hSw); go_simp; (try with_reducible rfl))
      simp only [Act.put]
      refine wpAnyH_take (i := 12) (v := ?_) rfl (by kernel_rfl) (by kernel_rfl) (by kernel_rfl) (fun _ _ _ h => h) (Or.inl ⟨by rfl, ?_⟩) hHeld ?_
      rotate_left
      · (intro w hSw; (try dsimp only at hSw); go_simp; (try with_reducible rfl))
      simp only [Act.put]
      refine wpAnyH_take (i := 13) (v := ?_) rfl (by kernel_rfl) (by kernel_rfl) (by kernel_rfl) (fun _ _ _ h => h) (Or.inl ⟨by rfl, ?_⟩) hHeld ?_
      rotate_left
      · (intro w hSw; (try dsimp only at hSw); go_simp; (try with_reducible rfl))
      simp only [Act.put]
      refine wpAnyH_take (i := 14) (v := ?_) rfl (by kernel_rfl) (by kernel_rfl) (by kernel_rfl) (fun _ _ _ h => h) (Or.inl ⟨by rfl, ?_⟩) hHeld ?_
      rotate_left
      · (intro w hSw; (try dsimp only at hSw); go_simp; (try with_reducible rfl))
      simp only [Act.put]
      refine wpAnyH_take (i := 15) (v := ?_) rfl (by kernel_rfl) (by kernel_rfl) (by kernel_rfl) (fun _ _ _ h => h) (Or.inl ⟨by rfl, ?_⟩) hHeld ?_
      rotate_left
      · (intro w hSw; (try dsimp only at hSw); go_simp; (try with_reducible rfl))
      simp only [Act.put]
      refine wpAnyH_take (i := 16) (v := ?_) rfl (by kernel_rfl) (by kernel_rfl) (by kernel_rfl) (fun _ _ _ h => h) (Or.inl ⟨by rfl, ?_⟩) hHeld ?_
      rotate_left
      · (intro w hSw; (try dsimp only at hSw); go_simp; (try with_reducible rfl))
      simp only [Act.put]
      refine wpAnyH_take (i := 17) (v := ?_) rfl (by kernel_rfl) (by kernel_rfl) (by kernel_rfl) (fun _ _ _ h => h) (Or.inl ⟨by rfl, ?_⟩) hHeld ?_
      rotate_left
      · (intro w hSw; (try dsimp only at hSw); go_simp; (try with_reducible rfl))
      simp only [Act.put]
      refine wpAnyH_take (i := 18) (v := ?_) rfl (by kernel_rfl) (by kernel_rfl) (by kernel_rfl) (fun _ _ _ h => h) (Or.inl ⟨by rfl, ?_⟩) hHeld ?_
      rotate_left
      · (intro w hSw; (try dsimp only at hSw); go_simp; (try with_reducible rfl))
      simp only [Act.put]
      refine wpAnyH_take (i := 19) (v := ?_) rfl (by kernel_rfl) (by kernel_rfl) (by kernel_rfl) (fun _ _ _ h => h) (Or.inl ⟨by rfl, ?_⟩) hHeld ?_
      rotate_left
      · (intro w hSw; (try dsimp only at hSw); go_simp; (try with_reducible rfl))
      simp only [Act.put]
      refine wpAnyH_take (i := 20) (v := ?_) rfl (by kernel_rfl) (by kernel_rfl) (by kernel_rfl) (fun _ _ _ h => h) (Or.inl ⟨by rfl, ?_⟩) hHeld ?_
      rotate_left
      · (intro w hSw; (try dsimp only at hSw); go_simp; (try with_reducible rfl))
      simp only [Act.put]
      refine wpAnyH_ready (rs := [4, 21]) (by kernel_rfl) (by simp) ?_
      refine AllReadyH.cons rfl (fun K hK => ?_) (AllReadyH.cons rfl (fun K hK => ?_) AllReadyH.nil)
      · go_simp
        refine hK.out _ _ y0 (fun hHeld => ?_)
        clear hK K
        refine wpAnyH_ready (rs := [21]) (by kernel_rfl) (by simp) ?_
        refine AllReadyH.cons rfl (fun K hK => ?_) AllReadyH.nil
        go_simp
        refine hK.out _ _ (cell_alloc1 y0) (fun hHeld => ?_)
        clear hK K
        refine wpAnyH_ready (rs := [22]) (by kernel_rfl) (by simp) ?_
        refine AllReadyH.cons rfl (fun K hK => ?_) AllReadyH.nil
        refine stepAppend rfl (.tmp 63) (.tmp 80) 29 rfl 0 3 i0 (.int .i64 0) 1 8 Tryz.underlying29 hi iz0 iz1 iz2 rfl (by decide) (.slice ma rs.length mcap) rs.length xm (by simp [Act.eval]) (HMO.out.alloc _) ⟨w5.heap.size, 0, none⟩ 4 4 [.int .i64 ((n : Int) + 1), .int .i64 ((n : Int) + 1), .int .i64 ((n : Int) + 1), .int .i64 ((n : Int) + 1)] (by simp [Act.eval]) rfl (newAt _ [.int .i64 ((n : Int) + 1), .int .i64 ((n : Int) + 1), .int .i64 ((n : Int) + 1), .int .i64 ((n : Int) + 1)] 3 _ rfl) (ints4 _) (by unfold maxLen; omega) (by omega) (Nat.zero_le _) ?_; intro v' w6 hown' hgrow hblk; have q4 : w6.cell? ⟨D, 4, none⟩ = some (.slice ma rs.length mcap) := hgrow.cell (cell_alloc1 y4) (fun e => hDm.out e.symm); have r4 : w6.frozen? ⟨D, 4, none⟩ = false := (World.frozen?_of_block (hgrow.block D (by simp; omega) (fun e => hDm.out e.symm))).trans (frozen_alloc1 hD5 z4); have y06 : w6.cell? ⟨D, 0, none⟩ = some (.int .i64 ((n : Int) + 1)) := hgrow.cell (cell_alloc1 y0) (fun e => hDm.out e.symm); obtain ⟨a', p', rfl⟩ := ownForm hown'; have y07 : (w6.setCell ⟨D, 4, none⟩ (.slice a' (rs.length + 4) p')).cell? ⟨D, 0, none⟩ = some (.int .i64 ((n : Int) + 1)) := (World.cell?_setCell_other _ _ _ _ (by simp)).trans y06
        refine hK.out _ _ y06 (fun hHeld => ?_)
        clear hK K
        simp only [Act.put]
        refine wpAnyH_take (i := 23) (v := ?_) rfl (by kernel_rfl) (by kernel_rfl) (by kernel_rfl) (fun _ _ _ h => h) (Or.inl ⟨by rfl, ?_⟩) hHeld ?_
        rotate_left
        · (intro w hSw; (try dsimp only at hSw); go_simp; (try with_reducible rfl))
        simp only [Act.put]
        refine wpAnyH_take (i := 24) (v := ?_) rfl (by kernel_rfl) (by kernel_rfl) (by kernel_rfl) (fun _ _ _ h => h) (Or.inl ⟨by rfl, ?_⟩) hHeld ?_
        rotate_left
        · (intro w hSw; (try dsimp only at hSw); go_simp; (try with_reducible rfl))
        simp only [Act.put]
        refine wpAnyH_ready (rs := [25]) (by kernel_rfl) (by simp) ?_
        refine AllReadyH.cons rfl (fun K hK => ?_) AllReadyH.nil
        go_simp
        refine hK.out _ _ y07 (fun _ => ?_)
        clear hK K
        refine wpAnyH_done (by kernel_rfl) ?_ _
        refine NoPanic.normal ?_
        have hg' := gr_undrew hgrow
        have H7 : Hid (DrAt (w6.setCell ⟨D, 4, none⟩ (.slice a' (rs.length + 4) p')) D (fun k => H k ∨ B ≤ k ∧ k < (w6.setCell ⟨D, 4, none⟩ (.slice a' (rs.length + 4) p')).heap.size) (N + 1) ∧ Fr (fun k => H k ∨ B ≤ k) w (w6.setCell ⟨D, 4, none⟩ (.slice a' (rs.length + 4) p'))) := keptEnd (n := n) (rs := rs) HM5.out HO5.out HF5.out how.out HOH.out hB hnN HSL.out hrl hg' (HXM.out ▸ hown') hblk
        clear hown' hgrow hg' hblk q4 r4
        go_wp2_with fail
        go_end0
        exact ⟨rfl, H7.out⟩
      · go_simp
        refine hK.out _ _ (cell_alloc1 y0) (fun hHeld => ?_)
        clear hK K
        refine wpAnyH_ready (rs := [4]) (by kernel_rfl) (by simp) ?_
        refine AllReadyH.cons rfl (fun K hK => ?_) AllReadyH.nil
        go_simp
        refine hK.out _ _ (cell_alloc1 y0) (fun hHeld => ?_)
        clear hK K
        refine wpAnyH_ready (rs := [22]) (by kernel_rfl) (by simp) ?_
        refine AllReadyH.cons rfl (fun K hK => ?_) AllReadyH.nil
        refine stepAppend rfl (.tmp 63) (.tmp 80) 29 rfl 0 3 i0 (.int .i64 0) 1 8 Tryz.underlying29 hi iz0 iz1 iz2 rfl (by decide) (.slice ma rs.length mcap) rs.length xm (by simp [Act.eval]) (HMO.out.alloc _) ⟨w5.heap.size, 0, none⟩ 4 4 [.int .i64 ((n : Int) + 1), .int .i64 ((n : Int) + 1), .int .i64 ((n : Int) + 1), .int .i64 ((n : Int) + 1)] (by simp [Act.eval]) rfl (newAt _ [.int .i64 ((n : Int) + 1), .int .i64 ((n : Int) + 1), .int .i64 ((n : Int) + 1), .int .i64 ((n : Int) + 1)] 3 _ rfl) (ints4 _) (by unfold maxLen; omega) (by omega) (Nat.zero_le _) ?_; intro v' w6 hown' hgrow hblk; have q4 : w6.cell? ⟨D, 4, none⟩ = some (.slice ma rs.length mcap) := hgrow.cell (cell_alloc1 y4) (fun e => hDm.out e.symm); have r4 : w6.frozen? ⟨D, 4, none⟩ = false := (World.frozen?_of_block (hgrow.block D (by simp; omega) (fun e => hDm.out e.symm))).trans (frozen_alloc1 hD5 z4); have y06 : w6.cell? ⟨D, 0, none⟩ = some (.int .i64 ((n : Int) + 1)) := hgrow.cell (cell_alloc1 y0) (fun e => hDm.out e.symm); obtain ⟨a', p', rfl⟩ := ownForm hown'; have y07 : (w6.setCell ⟨D, 4, none⟩ (.slice a' (rs.length + 4) p')).cell? ⟨D, 0, none⟩ = some (.int .i64 ((n : Int) + 1)) := (World.cell?_setCell_other _ _ _ _ (by simp)).trans y06
        refine hK.out _ _ y06 (fun hHeld => ?_)
        clear hK K
        simp only [Act.put]
        refine wpAnyH_take (i := 23) (v := ?_) rfl (by kernel_rfl) (by kernel_rfl) (by kernel_rfl) (fun _ _ _ h => h) (Or.inl ⟨by rfl, ?_⟩) hHeld ?_
        rotate_left
        · (intro w hSw; (try dsimp only at hSw); go_simp; (try with_reducible rfl))
        simp only [Act.put]
        refine wpAnyH_take (i := 24) (v := ?_) rfl (by kernel_rfl) (by kernel_rfl) (by kernel_rfl) (fun _ _ _ h => h) (Or.inl ⟨by rfl, ?_⟩) hHeld ?_
        rotate_left
        · (intro w hSw; (try dsimp only at hSw); go_simp; (try with_reducible rfl))
        simp only [Act.put]
        refine wpAnyH_ready (rs := [25]) (by kernel_rfl) (by simp) ?_
        refine AllReadyH.cons rfl (fun K hK => ?_) AllReadyH.nil
        go_simp
        refine hK.out _ _ y07 (fun _ => ?_)
        clear hK K
        refine wpAnyH_done (by kernel_rfl) ?_ _
        refine NoPanic.normal ?_
        have hg' := gr_undrew hgrow
        have H7 : Hid (DrAt (w6.setCell ⟨D, 4, none⟩ (.slice a' (rs.length + 4) p')) D (fun k => H k ∨ B ≤ k ∧ k < (w6.setCell ⟨D, 4, none⟩ (.slice a' (rs.length + 4) p')).heap.size) (N + 1) ∧ Fr (fun k => H k ∨ B ≤ k) w (w6.setCell ⟨D, 4, none⟩ (.slice a' (rs.length + 4) p'))) := keptEnd (n := n) (rs := rs) HM5.out HO5.out HF5.out how.out HOH.out hB hnN HSL.out hrl hg' (HXM.out ▸ hown') hblk
        clear hown' hgrow hg' hblk q4 r4
        go_wp2_with fail
        go_end0
        exact ⟨rfl, H7.out⟩

end Go.Proofs.YthciddpljcbhiabGreatDoor

/- Walks: a list of samples that came out is written over and kept (keepSamples), for any drawer. -/
namespace Go.Proofs.YthciddpljcbhiabGreatDoor
open Go Go.RowKit Go.Lib

attribute [local go_sem ↓] Go.wp_at_zero Go.wp_at_succ
theorem Tryz.inf43 : (Tryz.prog.info? 43).map (fun i => (i.zero, i.size, i.bytes)) = some (some (.slice none 0 0), 1, 24) := by kernel_rfl
def sm2 (n : Int) : List Value := smD n ++ smD n
def sm3 (n : Int) : List Value := smD n ++ smD n ++ smD n
theorem smD_one (n : Int) : ∀ u ∈ smD n, u.oneCell' = true := by
  intro u hu
  simp only [smD, List.mem_cons, List.not_mem_nil, or_false] at hu
  rcases hu with rfl | rfl | rfl | rfl | rfl <;> rfl
theorem sm2_one (n : Int) : ∀ u ∈ sm2 n, u.oneCell' = true := by
  intro u hu
  rcases List.mem_append.1 hu with h | h <;> exact smD_one n u h
theorem sm3_one (n : Int) : ∀ u ∈ sm3 n, u.oneCell' = true := by
  intro u hu
  rcases List.mem_append.1 hu with h | h
  · exact sm2_one n u h
  · exact smD_one n u h
theorem smD_rep (n : Int) : ∀ j u, (smD n)[j]? = some u → (smD n)[j % 5]? = some u := by
  intro j u h
  have hj : j < 5 := (List.getElem?_eq_some_iff.1 h).1
  rw [Nat.mod_eq_of_lt hj]
  exact h
theorem sm2_rep (n : Int) : ∀ j u, (sm2 n)[j]? = some u → (smD n)[j % 5]? = some u := by
  intro j u h
  by_cases hj : j < 5
  · unfold sm2 at h
    rw [List.getElem?_append_left hj] at h
    exact smD_rep n j u h
  · unfold sm2 at h
    rw [List.getElem?_append_right (by show 5 ≤ j; omega)] at h
    have h2 := smD_rep n _ u h
    rw [show (smD n).length = 5 from rfl] at h2
    rw [show j % 5 = (j - 5) % 5 from by omega]
    exact h2
theorem sm3_rep (n : Int) : ∀ j u, (sm3 n)[j]? = some u → (smD n)[j % 5]? = some u := by
  intro j u h
  by_cases hj : j < 10
  · unfold sm3 at h
    rw [List.getElem?_append_left (by show j < 10; exact hj)] at h
    exact sm2_rep n j u h
  · unfold sm3 at h
    rw [List.getElem?_append_right (by show 10 ≤ j; omega)] at h
    have h2 := smD_rep n _ u h
    rw [show (smD n ++ smD n).length = 10 from rfl] at h2
    rw [show j % 5 = (j - 10) % 5 from by omega]
    exact h2
theorem keptEndS {w w5 w6 : World} {D B N : Nat} {H : Nat → Prop} {ow ow5 : Nat → Nat} {n : Nat} {rs ss : List Ls} {rv sv mv nv nv' : Value} {O2 : Obj} {l v1 v2 v3 : Value} (h : DrN w5 D ow5 ((n : Int) + 1) (ss ++ [(l, (n : Int) + 1), (v1, (n : Int) + 1), (v2, (n : Int) + 1), (v3, (n : Int) + 1)]) rs (ss.map (·.2)) sv rv nv mv) (ho5 : ∀ k, ow5 k ≠ 0 → ow k ≠ 0 ∨ B ≤ k ∧ k < w5.heap.size)
    (hf5 : Fr (fun k => ow k ≠ 0 ∨ B ≤ k) w w5) (how : ∀ k, ow k ≠ 0 → k < B) (hoH : ∀ k, ow k ≠ 0 → H k) (hB : B ≤ w.heap.size) (hnN : n ≤ N) (hrl : rs.length ≤ 4 * N) (hsl : ss.length ≤ 4 * N)
    (hg : (w5.alloc O2).grownBy w6 nv.ownBlock) (hown : w6.ownsRow 0 3 1 nv' (ss.length + 4) ((ss.map (·.2)).map (fun x => .int .i64 x) ++ [.int .i64 ((n : Int) + 1), .int .i64 ((n : Int) + 1), .int .i64 ((n : Int) + 1), .int .i64 ((n : Int) + 1)])) (hblk : nv'.ownBlock = nv.ownBlock ∨ ∀ k, nv'.ownBlock = some k → (w5.alloc O2).heap.size ≤ k) :
    DrAt (w6.setCell ⟨D, 3, none⟩ nv') D (fun k => H k ∨ B ≤ k ∧ k < (w6.setCell ⟨D, 3, none⟩ nv').heap.size) (N + 1) ∧ Fr (fun k => H k ∨ B ≤ k) w (w6.setCell ⟨D, 3, none⟩ nv') := by
  have hz5 := hf5.size
  obtain ⟨ow7, hd7, ho7, hf7⟩ := putNumsS h (by simp) (fun k e => by rcases ho5 k e with e | e; (have := how k e; omega); exact e.2) hg (by rw [List.length_map]; exact hown) hblk
  have hz7 := hf7.size
  refine ⟨⟨ow7, n + 1, _, rs, _, _, _, _, fun k e => ?_, by omega, by omega, by simp; omega, by omega, hd7⟩, (hf5.mono (fun k e => ?_)).trans hf7 (fun k e => ?_)⟩
  · rcases ho7 k e with e | e
    · rcases ho5 k e with e | e
      · exact .inl (hoH k e)
      · exact .inr ⟨e.1, by omega⟩
    · exact .inr ⟨by omega, e.2⟩
  · rcases e with e | e
    · exact .inl (hoH k e)
    · exact .inr e
  · rcases ho5 k e with e | e
    · exact .inl (.inl (hoH k e))
    · exact .inl (.inr e.1)

set_option maxHeartbeats 4000000 in
set_option maxRecDepth 100000 in
theorem keepSamples_any (D B m N : Nat) (H : Nat → Prop) (l : Value) (xs : List Value) (w : World) (hd : DrAt w D H N) (hHB : ∀ k, H k → k < B) (hB : B ≤ w.heap.size) (hm : m ≤ 999990) (hN : N ≤ 900000000000) (hown : w.ownsRow B 76 5 l m xs) :
    Calls Tryz.prog 37 #[.pointer (some ⟨D, 0, none⟩), l] w fun e w' => e = .returned (.tuple #[]) ∧ DrAt w' D (fun k => H k ∨ B ≤ k ∧ k < w'.heap.size) (N + 1) ∧ Fr (fun k => H k ∨ B ≤ k) w w' := by
  obtain ⟨j0, hj, jz0, jz1, jz2⟩ := info_parts Tryz.info76'
  obtain ⟨k0, hk, kz0, kz1, kz2⟩ := info_parts Tryz.inf43
  obtain ⟨i0, hi, iz0, iz1, iz2⟩ := info_parts Tryz.inf3
  obtain ⟨ow, n, ss, rs, sv, rv, nv, mv, hoH, hn0, hnN, hrl, hsl, hds⟩ := hd
  have how : Hid (∀ k, ow k ≠ 0 → k < B) := fun k e => hHB k (hoH k e)
  have HOH : Hid (∀ k, ow k ≠ 0 → H k) := hoH
  have HL : Hid (∀ g, l.ownBlock = some g → B ≤ g ∧ g < w.heap.size) := hown.lt
  have hDB : D < B := how.out D (by rw [hds.oD]; omega)
  have c0 : w.cell? ⟨D, 0, none⟩ = some (.int .i64 n) := cell_blk hds.blk rfl
  have f0 : w.frozen? ⟨D, 0, none⟩ = false := froz_blk hds.blk
  have HK : Hid (KR w ((w.setCell ⟨D, 0, none⟩ (.int .i64 (n + 1))).alloc (.cells (smD (n + 1)).toArray 76)) D w.heap.size B ow (n + 1) ss rs sv rv nv mv 76 (smD (n + 1)) l m 0) := KR.start hds how.out hown
  have HSL : Hid (rs.length ≤ 4 * N) := hsl
  obtain ⟨a, cap, rfl⟩ := ownForm hown
  obtain ⟨sa, scap, rfl⟩ := ownForm hds.so
  obtain ⟨na, ncap, rfl⟩ := ownForm hds.no
  clear hown hds hoH hHB hsl
  go_enter Tryz.func37, Tryz.ntmps37
  go_wp2_with fail
  go_loopw [5] (fun i wr => ∃ k : Nat, k ≤ m ∧ i = .int .i64 k ∧ KR w wr D w.heap.size B ow (n + 1) ss rs (.slice sa ss.length scap) rv (.slice na ss.length ncap) mv 76 (smD (n + 1)) (.slice a m cap) m (k * 5)) (fun i _ => m - (intOf i).toNat)
  case atStart => exact ⟨0, Nat.zero_le _, rfl, HK.out⟩
  case round =>
    obtain ⟨k, hk2, rfl, hks⟩ := hrel
    have HS : Hid (KR w wr D w.heap.size B ow (n + 1) ss rs (.slice sa ss.length scap) rv (.slice na ss.length ncap) mv 76 (smD (n + 1)) (.slice a m cap) m (k * 5)) := hks
    clear hks HK c0 f0
    by_cases hlt : k < m
    · obtain ⟨ys, hown⟩ := HS.out.own
      obtain ⟨b, cap', e', hgb, hgl, _⟩ := ownBlockForm hown (by omega)
      injection e' with e1 _ e2
      subst e1 e2
      obtain ⟨mm, hmm, hrow⟩ := ownsCells hown (g := b) rfl
      have hmm5 : m * 5 ≤ mm := hmm
      have HR : Hid (Row wr b mm) := hrow
      obtain ⟨_, _, _, _, _, hx⟩ := HS.out.cellsS
      have x0 := hx 0 _ rfl
      have x1 := hx 1 _ rfl
      have x2 := hx 2 _ rfl
      have x3 := hx 3 _ rfl
      have x4 := hx 4 _ rfl
      clear hrow hown hmm hx
      obtain ⟨⟨v0, q0⟩, g0⟩ := HR.out.cell (o := k * 5) (by omega)
      obtain ⟨⟨v1, q1⟩, g1⟩ := HR.out.cell (o := k * 5 + 1) (by omega)
      obtain ⟨⟨v2, q2⟩, g2⟩ := HR.out.cell (o := k * 5 + 2) (by omega)
      obtain ⟨⟨v3, q3⟩, g3⟩ := HR.out.cell (o := k * 5 + 3) (by omega)
      obtain ⟨⟨v4, q4⟩, g4⟩ := HR.out.cell (o := k * 5 + 4) (by omega)
      go_wp2_with fail
      refine ⟨⟨k + 1, by omega, by go_num, ?_⟩, by simp [intOf]; omega⟩
      have s1 := HS.out.set HL.out how.out rfl k 0 rfl (show _ < m * 5 by omega) _ rfl
      have s2 := s1.set HL.out how.out rfl k 1 rfl (show _ < m * 5 by omega) _ rfl
      have s3 := s2.set HL.out how.out rfl k 2 rfl (show _ < m * 5 by omega) _ rfl
      have s4 := s3.set HL.out how.out rfl k 3 rfl (show _ < m * 5 by omega) _ rfl
      have s5 := s4.set HL.out how.out rfl k 4 rfl (show _ < m * 5 by omega) _ rfl
      exact s5.cast (by omega)
    · have hkm : k = m := by omega
      subst hkm
      have HLS : Hid (Ls0 wr B k (smD (n + 1)) (.slice a k cap)) := HS.out.ls
      obtain ⟨ys, hown, hys⟩ := HS.out.ys
      have HYL : Hid (ys.length = k * 5) := hown.1
      have HYS : Hid (∀ i, i < k → ∀ j u, (smD (n + 1))[j]? = some u → ys[i * 5 + j]? = some u) := hys
      have HO : Hid (wr.ownsRow B 76 5 (.slice a k cap) k ys) := hown
      clear hown hys
      have hz := HS.out.lt
      obtain ⟨d0, d2, d4, e2, e4, hx⟩ := HS.out.cellsS
      have x0 := hx 0 _ rfl
      have x1 := hx 1 _ rfl
      have x2 := hx 2 _ rfl
      have x3 := hx 3 _ rfl
      have x4 := hx 4 _ rfl
      clear hx
      have HY1 : Hid (∀ i, i < k + 1 → ∀ j u, (smD (n + 1))[j]? = some u → (ys ++ smD (n + 1))[i * 5 + j]? = some u) := rep_app HYS.out HYL.out
      have HY2 : Hid (∀ i, i < k + 2 → ∀ j u, (smD (n + 1))[j]? = some u → (ys ++ sm2 (n + 1))[i * 5 + j]? = some u) := by
        have h := rep_app (m := k + 1) HY1.out (by rw [List.length_append, HYL.out]; show k * 5 + 5 = (k + 1) * 5; omega)
        rw [List.append_assoc] at h
        exact h
      have HY3 : Hid (∀ i, i < k + 3 → ∀ j u, (smD (n + 1))[j]? = some u → (ys ++ sm3 (n + 1))[i * 5 + j]? = some u) := by
        have h := rep_app (m := k + 2) HY2.out (by rw [List.length_append, HYL.out]; show k * 5 + 10 = (k + 2) * 5; omega)
        rw [List.append_assoc] at h
        exact h
      go_upto_region 9 with (first
        | (at_builtin; refine wpList_append_rep rfl (.tmp 31) (.tmp 33) 43 rfl B 76 j0 (.agg #[.int .i64 0, .int .u8 0, .int .u8 0, .int .u8 0, .int .i32 0]) 5 16 Tryz.underlying43 hj jz0 jz1 jz2 rfl (by decide) (.slice a k cap) k ys rfl (HO.out.alloc _) ⟨wr.heap.size, 0, none⟩ 1 1 (smD (n + 1)) rfl rfl (by exact newAt _ (smD (n + 1)) 76 _ rfl) (smD_one _) (by omega) (by unfold maxLen; omega) (by omega) (by rw [World.size_alloc]; omega) (smD (n + 1)) rfl (smD_rep _) ?_; intro v1 w1 hv1 hl1 hgx1 hrp1; have HS1 : Hid (KR w w1 D w.heap.size B ow (n + 1) ss rs (.slice sa ss.length scap) rv (.slice na ss.length ncap) mv 76 (smD (n + 1)) (.slice a k cap) k (k * 5)) := (HS.out.alloc _).grown HL.out how.out hgx1 hl1 rfl hrp1; have HO1 : Hid (w1.ownsRow B 76 5 (.slice a k cap) k ys) := hl1; have hz1 := HS1.out.lt; obtain ⟨a1, p1, rfl⟩ := ownForm hv1; have HL11 : Hid (Ls0 w1 B (k + 1) (smD (n + 1)) (.slice a1 (k + 1) p1)) := ls0_of hv1 rfl (HY1.out); clear hv1 hl1 hgx1 hrp1 d0 d2 d4 e2 e4 x0 x1 x2 x3 x4; obtain ⟨d0, d2, d4, e2, e4, hx⟩ := HS1.out.cellsS; have x0 := hx 0 _ rfl; have x1 := hx 1 _ rfl; have x2 := hx 2 _ rfl; have x3 := hx 3 _ rfl; have x4 := hx 4 _ rfl; clear hx)
        | (at_builtin; refine wpList_append_rep rfl (.tmp 35) (.tmp 38) 43 rfl B 76 j0 (.agg #[.int .i64 0, .int .u8 0, .int .u8 0, .int .u8 0, .int .i32 0]) 5 16 Tryz.underlying43 hj jz0 jz1 jz2 rfl (by decide) (.slice a k cap) k ys rfl (HO1.out.alloc _) ⟨w1.heap.size, 0, none⟩ 2 2 (sm2 (n + 1)) rfl rfl (by exact newAt _ (sm2 (n + 1)) 76 _ rfl) (sm2_one _) (by omega) (by unfold maxLen; omega) (by omega) (by rw [World.size_alloc]; omega) (smD (n + 1)) rfl (sm2_rep _) ?_; intro v2 w2 hv2 hl2 hgx2 hrp2; have HS2 : Hid (KR w w2 D w.heap.size B ow (n + 1) ss rs (.slice sa ss.length scap) rv (.slice na ss.length ncap) mv 76 (smD (n + 1)) (.slice a k cap) k (k * 5)) := (HS1.out.alloc _).grown HL.out how.out hgx2 hl2 rfl hrp2; have HO2 : Hid (w2.ownsRow B 76 5 (.slice a k cap) k ys) := hl2; have hz2 := HS2.out.lt; obtain ⟨a2, p2, rfl⟩ := ownForm hv2; have HL22 : Hid (Ls0 w2 B (k + 2) (smD (n + 1)) (.slice a2 (k + 2) p2)) := ls0_of hv2 rfl (HY2.out); have HL21 : Hid (Ls0 w2 B (k + 1) (smD (n + 1)) (.slice a1 (k + 1) p1)) := ((HL11.out.alloc _).rep hgx2.size hrp2); clear hv2 hl2 hgx2 hrp2 d0 d2 d4 e2 e4 x0 x1 x2 x3 x4; obtain ⟨d0, d2, d4, e2, e4, hx⟩ := HS2.out.cellsS; have x0 := hx 0 _ rfl; have x1 := hx 1 _ rfl; have x2 := hx 2 _ rfl; have x3 := hx 3 _ rfl; have x4 := hx 4 _ rfl; clear hx)
        | (at_builtin; refine wpList_append_rep rfl (.tmp 40) (.tmp 44) 43 rfl B 76 j0 (.agg #[.int .i64 0, .int .u8 0, .int .u8 0, .int .u8 0, .int .i32 0]) 5 16 Tryz.underlying43 hj jz0 jz1 jz2 rfl (by decide) (.slice a k cap) k ys rfl (HO2.out.alloc _) ⟨w2.heap.size, 0, none⟩ 3 3 (sm3 (n + 1)) rfl rfl (by exact newAt _ (sm3 (n + 1)) 76 _ rfl) (sm3_one _) (by omega) (by unfold maxLen; omega) (by omega) (by rw [World.size_alloc]; omega) (smD (n + 1)) rfl (sm3_rep _) ?_; intro v3 w3 hv3 hl3 hgx3 hrp3; have HS3 : Hid (KR w w3 D w.heap.size B ow (n + 1) ss rs (.slice sa ss.length scap) rv (.slice na ss.length ncap) mv 76 (smD (n + 1)) (.slice a k cap) k (k * 5)) := (HS2.out.alloc _).grown HL.out how.out hgx3 hl3 rfl hrp3; have HO3 : Hid (w3.ownsRow B 76 5 (.slice a k cap) k ys) := hl3; have hz3 := HS3.out.lt; obtain ⟨a3, p3, rfl⟩ := ownForm hv3; have HL33 : Hid (Ls0 w3 B (k + 3) (smD (n + 1)) (.slice a3 (k + 3) p3)) := ls0_of hv3 rfl (HY3.out); have HL31 : Hid (Ls0 w3 B (k + 1) (smD (n + 1)) (.slice a1 (k + 1) p1)) := ((HL21.out.alloc _).rep hgx3.size hrp3); have HL32 : Hid (Ls0 w3 B (k + 2) (smD (n + 1)) (.slice a2 (k + 2) p2)) := ((HL22.out.alloc _).rep hgx3.size hrp3); clear hv3 hl3 hgx3 hrp3 d0 d2 d4 e2 e4 x0 x1 x2 x3 x4; obtain ⟨d0, d2, d4, e2, e4, hx⟩ := HS3.out.cellsS; have x0 := hx 0 _ rfl; have x1 := hx 1 _ rfl; have x2 := hx 2 _ rfl; have x3 := hx 3 _ rfl; have x4 := hx 4 _ rfl; clear hx)
        | fail)
      have HDR : Hid (DrS w3 D ow (n + 1) ss rs (.slice sa ss.length scap) rv (.slice na ss.length ncap) mv) := HS3.out.dr
      have hDr : Hid ((Value.slice sa ss.length scap).ownBlock ≠ some D) := fun e => by have h1 := HDR.out.os D e; have h2 := HDR.out.oD; omega
      have hD3 : D < w3.heap.size := by omega
      clear x0 x1 x2 x3 x4 HS HS1 HS2 HO HO1 HO2 HO3 HY1 HY2 HY3 HYL HYS HLS HL11 HL21 HL22
      go_upto_region 10 with (first
        | (at_builtin; refine listAppend rfl (.tmp 50) (.tmp 55) 27 rfl 0 43 k0 (.slice none 0 0) 1 24 Tryz.underlying27 hk kz0 kz1 kz2 rfl (by decide) (.slice sa ss.length scap) ss.length (ss.map (·.1)) rfl (HDR.out.so.alloc _) ⟨w3.heap.size, 0, none⟩ 4 4 [.slice a k cap, .slice a1 (k + 1) p1, .slice a2 (k + 2) p2, .slice a3 (k + 3) p3] rfl rfl (by exact newAt _ [.slice a k cap, .slice a1 (k + 1) p1, .slice a2 (k + 2) p2, .slice a3 (k + 3) p3] 43 _ rfl) (one4 _ _ _ _ _ _ _ _ _ _ _ _) (by unfold maxLen; omega) (by omega) (Nat.zero_le _) ?_; intro sv' w4 hown4 hg4 hblk4; have d2' : w4.cell? ⟨D, 1, none⟩ = some (.slice sa ss.length scap) := hg4.cell (cell_alloc1 d2) (fun e => hDr.out e.symm); have e2' : w4.frozen? ⟨D, 1, none⟩ = false := (World.frozen?_of_block (hg4.block D (by rw [World.size_alloc]; omega) (fun e => hDr.out e.symm))).trans (frozen_alloc1 hD3 e2); obtain ⟨sa', scap', rfl⟩ := ownForm hown4; have HM := putSms HS3.out how.out hB hm HL31.out HL32.out HL33.out hg4 hown4 hblk4; clear hown4 hg4 hblk4 d0 d2 d4 e2 e4)
        | fail)
      generalize w4.setCell ⟨D, 1, none⟩ (.slice sa' (ss.length + 4) scap') = w5 at *
      obtain ⟨ow5, hm5, ho5, hf5⟩ := HM
      have HO5 : Hid (∀ k, ow5 k ≠ 0 → ow k ≠ 0 ∨ B ≤ k ∧ k < w5.heap.size) := ho5
      have HF5 : Hid (Fr (fun k => ow k ≠ 0 ∨ B ≤ k) w w5) := hf5
      have hD5 : D < w5.heap.size := (Array.getElem?_eq_some_iff.1 hm5.blk).1
      have y0 : w5.drew.cell? ⟨D, 0, none⟩ = some (.int .i64 ((n : Int) + 1)) := cell_blk (w := w5) hm5.blk rfl
      have y4 : w5.drew.cell? ⟨D, 3, none⟩ = some (.slice na ss.length ncap) := cell_blk (w := w5) hm5.blk rfl
      have y4' : (w5.alloc (.cells #[.int .i64 ((n : Int) + 1), .int .i64 ((n : Int) + 1), .int .i64 ((n : Int) + 1), .int .i64 ((n : Int) + 1)] 3)).drew.cell? ⟨D, 3, none⟩ = some (.slice na ss.length ncap) := cell_alloc1 y4
      have z4 : w5.drew.frozen? ⟨D, 3, none⟩ = false := froz_blk (w := w5) hm5.blk
      have hDm : Hid ((Value.slice na ss.length ncap).ownBlock ≠ some D) := fun e => by have h1 := hm5.on D e; have h2 := hm5.oD; omega
      have hmo := hm5.no
      have HM5 : Hid (DrN w5 D ow5 ((n : Int) + 1) (ss ++ [(Value.slice a k cap, (n : Int) + 1), (Value.slice a1 (k + 1) p1, (n : Int) + 1), (Value.slice a2 (k + 2) p2, (n : Int) + 1), (Value.slice a3 (k + 3) p3, (n : Int) + 1)]) rs (ss.map (·.2)) (.slice sa' (ss.length + 4) scap') rv (.slice na ss.length ncap) mv) := hm5
      rw [List.length_map] at hmo
      obtain ⟨xm, hxm⟩ : ∃ xm, xm = List.map (fun x => Value.int .i64 x) (ss.map (·.2)) := ⟨_, rfl⟩
      rw [← hxm] at hmo
      have HXM : Hid (xm = List.map (fun x => Value.int .i64 x) (ss.map (·.2))) := hxm
      have HMO : Hid (w5.ownsRow 0 3 1 (.slice na ss.length ncap) ss.length xm) := hmo
      clear hm5 ho5 hf5 hmo hxm HS3 HL31 HL32 HL33 HDR hDr d2' e2' hz hz1 hz2 hz3
      have hD8 : D ≠ w5.heap.size := by omega
      refine wp_region_noPanic ?_
      refine wp_region_held_drew (S := fun w' => w'.cell? ⟨D, 0, none⟩ = some (.int .i64 ((n : Int) + 1))) (by kernel_rfl) y0 (fun hHeld => ?_)
      refine wpAnyH_take (i := 0) (v := ?_) rfl (by kernel_rfl) (by kernel_rfl) (by kernel_rfl) (fun _ _ _ h => h) (Or.inl ⟨by rfl, ?_⟩) hHeld ?_
      rotate_left
      · (intro w hSw; (try dsimp only at hSw); go_simp; (try with_reducible rfl))
      simp only [Act.put]
      refine wpAnyH_take (i := 1) (v := ?_) rfl (by kernel_rfl) (by kernel_rfl) (by kernel_rfl) (fun _ _ _ h => h) (Or.inl ⟨by rfl, ?_⟩) hHeld ?_
      rotate_left
      · (intro w hSw; (try dsimp only at hSw); go_simp; (try with_reducible rfl))
      simp only [Act.put]
      refine wpAnyH_take (i := 2) (v := ?_) rfl (by kernel_rfl) (by kernel_rfl) (by kernel_rfl) (fun _ _ _ h => h) (Or.inl ⟨by rfl, ?_⟩) hHeld ?_
      rotate_left
      · (intro w hSw; (try dsimp only at hSw); go_simp; (try with_reducible rfl))
      simp only [Act.put]
      refine wpAnyH_take (i := 3) (v := ?_) rfl (by kernel_rfl) (by kernel_rfl) (by kernel_rfl) (fun _ _ _ h => h) (Or.inl ⟨by rfl, ?_⟩) hHeld ?_
      rotate_left
      · (intro w hSw; (try dsimp only at hSw); go_simp; (try with_reducible rfl))
      simp only [Act.put]
      refine wpAnyH_take (i := 5) (v := ?_) rfl (by kernel_rfl) (by kernel_rfl) (by kernel_rfl) (fun _ _ _ h => h) (Or.inl ⟨by rfl, ?_⟩) hHeld ?_
      rotate_left
      · (intro w hSw; (try dsimp only at hSw); go_simp; (try with_reducible rfl))
      simp only [Act.put]
      refine wpAnyH_take (i := 6) (v := ?_) rfl (by kernel_rfl) (by kernel_rfl) (by kernel_rfl) (fun _ _ _ h => h) (Or.inl ⟨by rfl, ?_⟩) hHeld ?_
      rotate_left
      · (intro w hSw; (try dsimp only at hSw); go_simp; (try with_reducible rfl))
      simp only [Act.put]
      refine wpAnyH_take (i := 7) (v := ?_) rfl (by kernel_rfl) (by kernel_rfl) (by kernel_rfl) (fun _ _ _ h => h) (Or.inl ⟨by rfl, ?_⟩) hHeld ?_
      rotate_left
      · (intro w hSw; (try dsimp only at hSw); go_simp; (try with_reducible rfl))
      simp only [Act.put]
      refine wpAnyH_take (i := 8) (v := ?_) rfl (by kernel_rfl) (by kernel_rfl) (by kernel_rfl) (fun _ _ _ h => h) (Or.inl ⟨by rfl, ?_⟩) hHeld ?_
      rotate_left
      · (intro w hSw; (try dsimp only at hSw); go_simp; (try with_reducible rfl))
      simp only [Act.put]
      refine wpAnyH_take (i := 9) (v := ?_) rfl (by kernel_rfl) (by kernel_rfl) (by kernel_rfl) (fun _ _ _ h => h) (Or.inl ⟨by rfl, ?_⟩) hHeld ?_
      rotate_left
      · (intro w hSw; (try dsimp only at hSw); go_simp; (try with_reducible rfl))
      simp only [Act.put]
      refine wpAnyH_take (i := 10) (v := ?_) rfl (by kernel_rfl) (by kernel_rfl) (by kernel_rfl) (fun _ _ _ h => h) (Or.inl ⟨by rfl, ?_⟩) hHeld ?_
      rotate_left
      · (intro w hSw; (try dsimp only at hSw); go_simp; (try with_reducible rfl))
      simp only [Act.put]
      refine wpAnyH_take (i := 11) (v := ?_) rfl (by kernel_rfl) (by kernel_rfl) (by kernel_rfl) (fun _ _ _ h => h) (Or.inl ⟨by rfl, ?_⟩) hHeld ?_
      rotate_left
      · (intro w hSw; (try dsimp only at hSw); go_simp; (try with_reducible rfl))
      simp only [Act.put]
      refine wpAnyH_take (i := 12) (v := ?_) rfl (by kernel_rfl) (by kernel_rfl) (by kernel_rfl) (fun _ _ _ h => h) (Or.inl ⟨by rfl, ?_⟩) hHeld ?_
      rotate_left
      · (intro w hSw; (try dsimp only at hSw); go_simp; (try with_reducible rfl))
      simp only [Act.put]
      refine wpAnyH_take (i := 13) (v := ?_) rfl (by kernel_rfl) (by kernel_rfl) (by kernel_rfl) (fun _ _ _ h => h) (Or.inl ⟨by rfl, ?_⟩) hHeld ?_
      rotate_left
      · (intro w hSw; (try dsimp only at hSw); go_simp; (try with_reducible rfl))
      simp only [Act.put]
      refine wpAnyH_take (i := 14) (v := ?_) rfl (by kernel_rfl) (by kernel_rfl) (by kernel_rfl) (fun _ _ _ h => h) (Or.inl ⟨by rfl, ?_⟩) hHeld ?_
      rotate_left
      · (intro w hSw; (try dsimp only at hSw); go_simp; (try with_reducible rfl))
      simp only [Act.put]
      refine wpAnyH_take (i := 15) (v := ?_) rfl (by kernel_rfl) (by kernel_rfl) (by kernel_rfl) (fun _ _ _ h => h) (Or.inl ⟨by rfl, ?_⟩) hHeld ?_
      rotate_left
      · (intro w hSw; (try dsimp only at hSw); go_simp; (try with_reducible rfl))
      simp only [Act.put]
      refine wpAnyH_take (i := 16) (v := ?_) rfl (by kernel_rfl) (by kernel_rfl) (by kernel_rfl) (fun _ _ _ h => h) (Or.inl ⟨by rfl, ?_⟩) hHeld ?_
      rotate_left
      · (intro w hSw; (try dsimp only at hSw); go_simp; (try with_reducible rfl))
      simp only [Act.put]
      refine wpAnyH_take (i := 17) (v := ?_) rfl (by kernel_rfl) (by kernel_rfl) (by kernel_rfl) (fun _ _ _ h => h) (Or.inl ⟨by rfl, ?_⟩) hHeld ?_
      rotate_left
      · (intro w hSw; (try dsimp only at hSw); go_simp; (try with_reducible rfl))
      simp only [Act.put]
      refine wpAnyH_take (i := 18) (v := ?_) rfl (by kernel_rfl) (by kernel_rfl) (by kernel_rfl) (fun _ _ _ h => h) (Or.inl ⟨by rfl, ?_⟩) hHeld ?_
      rotate_left
      · (intro w hSw; (try dsimp only at hSw); go_simp; (try with_reducible rfl))
      simp only [Act.put]
      refine wpAnyH_take (i := 19) (v := ?_) rfl (by kernel_rfl) (by kernel_rfl) (by kernel_rfl) (fun _ _ _ h => h) (Or.inl ⟨by rfl, ?_⟩) hHeld ?_
      rotate_left
      · (intro w hSw; (try dsimp only at hSw); go_simp; (try with_reducible rfl))
      simp only [Act.put]
      refine wpAnyH_take (i := 20) (v := ?_) rfl (by kernel_rfl) (by kernel_rfl) (by kernel_rfl) (fun _ _ _ h => h) (Or.inl ⟨by rfl, ?_⟩) hHeld ?_
      rotate_left
      · (intro w hSw; (try dsimp only at hSw); go_simp; (try with_reducible rfl))
      simp only [Act.put]
      refine wpAnyH_ready (rs := [4, 21]) (by kernel_rfl) (by simp) ?_
      refine AllReadyH.cons rfl (fun K hK => ?_) (AllReadyH.cons rfl (fun K hK => ?_) AllReadyH.nil)
      · go_simp
        refine hK.out _ _ y0 (fun hHeld => ?_)
        clear hK K
        refine wpAnyH_ready (rs := [21]) (by kernel_rfl) (by simp) ?_
        refine AllReadyH.cons rfl (fun K hK => ?_) AllReadyH.nil
        go_simp
        refine hK.out _ _ (cell_alloc1 y0) (fun hHeld => ?_)
        clear hK K
        refine wpAnyH_ready (rs := [22]) (by kernel_rfl) (by simp) ?_
        refine AllReadyH.cons rfl (fun K hK => ?_) AllReadyH.nil
        refine stepAppend rfl (.tmp 63) (.tmp 80) 29 rfl 0 3 i0 (.int .i64 0) 1 8 Tryz.underlying29 hi iz0 iz1 iz2 rfl (by decide) (.slice na ss.length ncap) ss.length xm (by simp [Act.eval]) (HMO.out.alloc _) ⟨w5.heap.size, 0, none⟩ 4 4 [.int .i64 ((n : Int) + 1), .int .i64 ((n : Int) + 1), .int .i64 ((n : Int) + 1), .int .i64 ((n : Int) + 1)] (by simp [Act.eval]) rfl (newAt _ [.int .i64 ((n : Int) + 1), .int .i64 ((n : Int) + 1), .int .i64 ((n : Int) + 1), .int .i64 ((n : Int) + 1)] 3 _ rfl) (ints4 _) (by unfold maxLen; omega) (by omega) (Nat.zero_le _) ?_; intro v' w6 hown' hgrow hblk; have q4 : w6.cell? ⟨D, 3, none⟩ = some (.slice na ss.length ncap) := hgrow.cell (cell_alloc1 y4) (fun e => hDm.out e.symm); have r4 : w6.frozen? ⟨D, 3, none⟩ = false := (World.frozen?_of_block (hgrow.block D (by simp; omega) (fun e => hDm.out e.symm))).trans (frozen_alloc1 hD5 z4); have y06 : w6.cell? ⟨D, 0, none⟩ = some (.int .i64 ((n : Int) + 1)) := hgrow.cell (cell_alloc1 y0) (fun e => hDm.out e.symm); obtain ⟨a', p', rfl⟩ := ownForm hown'; have y07 : (w6.setCell ⟨D, 3, none⟩ (.slice a' (ss.length + 4) p')).cell? ⟨D, 0, none⟩ = some (.int .i64 ((n : Int) + 1)) := (World.cell?_setCell_other _ _ _ _ (by simp)).trans y06
        refine hK.out _ _ y06 (fun hHeld => ?_)
        clear hK K
        simp only [Act.put]
        refine wpAnyH_take (i := 23) (v := ?_) rfl (by kernel_rfl) (by kernel_rfl) (by kernel_rfl) (fun _ _ _ h => h) (Or.inl ⟨by rfl, ?_⟩) hHeld ?_
        rotate_left
        · (intro w hSw; (try dsimp only at hSw); go_simp; (try with_reducible rfl))
        simp only [Act.put]
        refine wpAnyH_take (i := 24) (v := ?_) rfl (by kernel_rfl) (by kernel_rfl) (by kernel_rfl) (fun _ _ _ h => h) (Or.inl ⟨by rfl, ?_⟩) hHeld ?_
        rotate_left
        · (intro w hSw; (try dsimp only at hSw); go_simp; (try with_reducible rfl))
        simp only [Act.put]
        refine wpAnyH_ready (rs := [25]) (by kernel_rfl) (by simp) ?_
        refine AllReadyH.cons rfl (fun K hK => ?_) AllReadyH.nil
        go_simp
        refine hK.out _ _ y07 (fun _ => ?_)
        clear hK K
        refine wpAnyH_done (by kernel_rfl) ?_ _
        refine NoPanic.normal ?_
        have hg' := gr_undrew hgrow
        have H7 : Hid (DrAt (w6.setCell ⟨D, 3, none⟩ (.slice a' (ss.length + 4) p')) D (fun k => H k ∨ B ≤ k ∧ k < (w6.setCell ⟨D, 3, none⟩ (.slice a' (ss.length + 4) p')).heap.size) (N + 1) ∧ Fr (fun k => H k ∨ B ≤ k) w (w6.setCell ⟨D, 3, none⟩ (.slice a' (ss.length + 4) p'))) := keptEndS (n := n) (ss := ss) HM5.out HO5.out HF5.out how.out HOH.out hB hnN HSL.out hrl hg' (HXM.out ▸ hown') hblk
        clear hown' hgrow hg' hblk q4 r4
        go_wp2_with fail
        go_end0
        exact ⟨rfl, H7.out⟩
      · go_simp
        refine hK.out _ _ (cell_alloc1 y0) (fun hHeld => ?_)
        clear hK K
        refine wpAnyH_ready (rs := [4]) (by kernel_rfl) (by simp) ?_
        refine AllReadyH.cons rfl (fun K hK => ?_) AllReadyH.nil
        go_simp
        refine hK.out _ _ (cell_alloc1 y0) (fun hHeld => ?_)
        clear hK K
        refine wpAnyH_ready (rs := [22]) (by kernel_rfl) (by simp) ?_
        refine AllReadyH.cons rfl (fun K hK => ?_) AllReadyH.nil
        refine stepAppend rfl (.tmp 63) (.tmp 80) 29 rfl 0 3 i0 (.int .i64 0) 1 8 Tryz.underlying29 hi iz0 iz1 iz2 rfl (by decide) (.slice na ss.length ncap) ss.length xm (by simp [Act.eval]) (HMO.out.alloc _) ⟨w5.heap.size, 0, none⟩ 4 4 [.int .i64 ((n : Int) + 1), .int .i64 ((n : Int) + 1), .int .i64 ((n : Int) + 1), .int .i64 ((n : Int) + 1)] (by simp [Act.eval]) rfl (newAt _ [.int .i64 ((n : Int) + 1), .int .i64 ((n : Int) + 1), .int .i64 ((n : Int) + 1), .int .i64 ((n : Int) + 1)] 3 _ rfl) (ints4 _) (by unfold maxLen; omega) (by omega) (Nat.zero_le _) ?_; intro v' w6 hown' hgrow hblk; have q4 : w6.cell? ⟨D, 3, none⟩ = some (.slice na ss.length ncap) := hgrow.cell (cell_alloc1 y4) (fun e => hDm.out e.symm); have r4 : w6.frozen? ⟨D, 3, none⟩ = false := (World.frozen?_of_block (hgrow.block D (by simp; omega) (fun e => hDm.out e.symm))).trans (frozen_alloc1 hD5 z4); have y06 : w6.cell? ⟨D, 0, none⟩ = some (.int .i64 ((n : Int) + 1)) := hgrow.cell (cell_alloc1 y0) (fun e => hDm.out e.symm); obtain ⟨a', p', rfl⟩ := ownForm hown'; have y07 : (w6.setCell ⟨D, 3, none⟩ (.slice a' (ss.length + 4) p')).cell? ⟨D, 0, none⟩ = some (.int .i64 ((n : Int) + 1)) := (World.cell?_setCell_other _ _ _ _ (by simp)).trans y06
        refine hK.out _ _ y06 (fun hHeld => ?_)
        clear hK K
        simp only [Act.put]
        refine wpAnyH_take (i := 23) (v := ?_) rfl (by kernel_rfl) (by kernel_rfl) (by kernel_rfl) (fun _ _ _ h => h) (Or.inl ⟨by rfl, ?_⟩) hHeld ?_
        rotate_left
        · (intro w hSw; (try dsimp only at hSw); go_simp; (try with_reducible rfl))
        simp only [Act.put]
        refine wpAnyH_take (i := 24) (v := ?_) rfl (by kernel_rfl) (by kernel_rfl) (by kernel_rfl) (fun _ _ _ h => h) (Or.inl ⟨by rfl, ?_⟩) hHeld ?_
        rotate_left
        · (intro w hSw; (try dsimp only at hSw); go_simp; (try with_reducible rfl))
        simp only [Act.put]
        refine wpAnyH_ready (rs := [25]) (by kernel_rfl) (by simp) ?_
        refine AllReadyH.cons rfl (fun K hK => ?_) AllReadyH.nil
        go_simp
        refine hK.out _ _ y07 (fun _ => ?_)
        clear hK K
        refine wpAnyH_done (by kernel_rfl) ?_ _
        refine NoPanic.normal ?_
        have hg' := gr_undrew hgrow
        have H7 : Hid (DrAt (w6.setCell ⟨D, 3, none⟩ (.slice a' (ss.length + 4) p')) D (fun k => H k ∨ B ≤ k ∧ k < (w6.setCell ⟨D, 3, none⟩ (.slice a' (ss.length + 4) p')).heap.size) (N + 1) ∧ Fr (fun k => H k ∨ B ≤ k) w (w6.setCell ⟨D, 3, none⟩ (.slice a' (ss.length + 4) p'))) := keptEndS (n := n) (ss := ss) HM5.out HO5.out HF5.out how.out HOH.out hB hnN HSL.out hrl hg' (HXM.out ▸ hown') hblk
        clear hown' hgrow hg' hblk q4 r4
        go_wp2_with fail
        go_end0
        exact ⟨rfl, H7.out⟩

end Go.Proofs.YthciddpljcbhiabGreatDoor

/- Walks: Record against the document's answer (recorded, Records). -/
namespace Go.Proofs.YthciddpljcbhiabGreatDoor
open Go.RowKit

set_option maxHeartbeats 1000000 in
set_option maxRecDepth 100000 in
theorem recorded_any (a : Option Addr) (n cap : Nat) (ls : List Sm) (w : World) (h : IsSms w a n ls) (hwf : SmWf ls) (hr : n ≤ 10000000000000) :
    Calls Tryz.prog 15 #[.slice a n cap] w fun e w' => e = .returned (.bool true) ∧ Below w.heap.size w w' := by
  have H0 : Hid (IsSms w a n ls) := h
  have HW : Hid (SmWf ls) := hwf
  clear h hwf
  obtain ⟨hE1, hE2⟩ := batE_le ls
  go_enter Tryz.func15, Tryz.ntmps15
  go_wp2_with fail
  refine (handed_any a n cap ls _ H0.out hr).mono ?_
  rintro e w1 ⟨rfl, hw1⟩
  have hh1 : w1.heap[w.heap.size]? = some (.cells (flatS (ls ++ [blotSm])).toArray 76 (0, 0)) := by rw [hw1]; exact heap_alloc_new w _
  have hsz1 : w1.heap.size = w.heap.size + 1 := by rw [hw1]; simp
  have hrow1 : Hid (Row w1 w.heap.size ((n + 1) * 5)) := ⟨_, by simp [flatS_len, H0.out.1], 76, hh1⟩
  have hat1 : Hid (SmAt w1 w.heap.size 0 (ls ++ [blotSm])) := smAt_of (at_block hh1)
  have hbw1 : Hid (Below w.heap.size w w1) := by show Below _ _ _; rw [hw1]; exact (Below.refl _ _).alloc (Nat.le_refl _) _
  clear hw1 hh1
  have HS1 : Hid (w1.heap.size = w.heap.size + 1) := hsz1
  clear hsz1
  go_wp2_with fail
  refine (garRecord_any (some ⟨w.heap.size, 0, none⟩) n (n + 1) ls _ ⟨H0.out.1, fun _ => ⟨_, 0, rfl, smAt_left hat1.out⟩⟩ HW.out).mono ?_
  rintro e w2 ⟨rfl, hb2⟩
  have hrow2 : Hid (Row w2 w.heap.size ((n + 1) * 5)) := hrow1.out.below hb2 (by rw [HS1.out]; omega)
  have hat2 : Hid (SmAt w2 w.heap.size 0 (ls ++ [blotSm])) := hat1.out.below hb2 (by rw [HS1.out]; omega)
  have hbw2 : Hid (Below w.heap.size w w2) := hbw1.out.trans (hb2.mono (by rw [HS1.out]; omega))
  clear hb2 hrow1 hat1 hbw1 HS1
  go_wp2_with fail
  refine (still_any a w.heap.size n cap ls _ hr hat2.out hrow2.out (H0.out.below hbw2.out)).mono ?_
  rintro e w3 ⟨rfl, hb3⟩
  have hbw3 : Hid (Below w.heap.size w w3) := hbw2.out.trans hb3
  clear hb3 hrow2 hat2 hbw2
  go_wp2_with fail
  refine (refRecord_any a n cap ls _ (H0.out.below hbw3.out) HW.out).mono ?_
  rintro e w4 ⟨rfl, hb4⟩
  have hbw4 : Hid (Below w.heap.size w w4) := hbw3.out.trans (hb4.mono hbw3.out.size)
  clear hb4 hbw3
  generalize batE ls = E at *
  generalize recS ls = S at *
  go_wp2_with (go_at_call 13; refine (num_any _ _ (by omega) (by omega)).mono ?_; rintro e w' ⟨rfl, rfl⟩)
  go_ret
  exact ⟨rfl, hbw4.out⟩

end Go.Proofs.YthciddpljcbhiabGreatDoor

/- Walks: Unrecord with any drawer; the steps that ask of rules and records (unrecorded, step). -/
namespace Go.Proofs.YthciddpljcbhiabGreatDoor
open Go Go.RowKit Go.Lib

set_option maxHeartbeats 2000000 in
set_option maxRecDepth 100000 in
theorem unrecorded_w (own : Nat → Nat) (base W D : Nat) (bv : Value) (bs : List Bk) (N : Nat) (s : ByteArray) (w : World) (h : WdAt w own base W D bv bs N) (hs : s.size ≤ maxLen) (hN : N ≤ 900000000000) :
    Calls Tryz.prog 16 #[.pointer (some ⟨W, 0, none⟩), .string s] w fun e w' => e = .returned (.bool true) ∧ (∃ own', WdAt w' own' base W D bv bs (N + 1)) ∧ Below base w w' := by
  have HM : Hid (s.size ≤ maxLen) := hs
  have H : Hid (WdAt w own base W D bv bs N) := h
  have hWlt := h.Wlt
  have HOW : Hid (∀ k, own k = 3 → k < w.heap.size) := fun k e => by
    by_cases hk : k < w.heap.size
    · exact hk
    · have h9 := h.out k (by omega)
      omega
  clear hs h
  go_enter Tryz.func16, Tryz.ntmps16
  go_wp2_with fail
  refine (garUnrecord_any s _ HM.out).mono ?_
  rintro e w1 ⟨hb1, ⟨hu, v, rfl, hown⟩ | ⟨hu, rfl⟩⟩
  · have HB1 : Hid (Below w.heap.size w w1) := hb1
    have hc8 : cN s ≤ 8 := by
      have := hu; simp only [unOk, Bool.and_eq_true, headOk_iff] at this; exact this.1.2.2.2.1
    have hsz1 := hb1.size
    have HU : Hid (unOk s = true) := hu
    obtain ⟨a, cap, rfl, hsm⟩ := owns_sms hown (smsR_len s _)
    have HO : Hid (w1.ownsRow w.heap.size 76 5 (.slice a (cN s) cap) (cN s) (flatS (smsR s (cN s)))) := hown
    have HSM : Hid (IsSms w1 a (cN s) (smsR s (cN s))) := hsm
    clear hb1 hu hown hsm
    go_wp2_with fail
    refine (refUnrecord_any s _ HM.out).mono ?_
    rintro e w2 ⟨hb2, ⟨hu, v2, rfl, hown2⟩ | ⟨hu, rfl⟩⟩
    · obtain ⟨a2, cap2, rfl, hsm2⟩ := owns_sms hown2 (smsR_len s _)
      have HB2 : Hid (Below w.heap.size w w2) := HB1.out.trans (hb2.mono hsz1)
      have HO2 : Hid (w2.ownsRow w.heap.size 76 5 (.slice a (cN s) cap) (cN s) (flatS (smsR s (cN s)))) := owns_belowU HO.out hb2
      have HSM1 : Hid (IsSms w2 a (cN s) (smsR s (cN s))) := HSM.out.below hb2
      have HSM2 : Hid (IsSms w2 a2 (cN s) (smsR s (cN s))) := hsm2
      clear hb2 hu hown2 hsm2 HB1 HO HSM
      have hq0 : (0 : Int) ≤ 6 + 11 * (cN s : Int) := by omega
      generalize hcc : cN s = c at *
      generalize smsR s c = L at *
      clear hcc
      have HSS := sameSamples_yes a a2 c cap cap2 L w2 (by omega) HSM1.out HSM2.out
      go_wp2_with fail
      refine HSS.mono ?_
      clear HSS
      rintro e w3 ⟨rfl, d, hd3⟩
      have HX3 : Hid (Below w.heap.size w w3) := by show Below _ _ _; rw [hd3]; exact below_drewN HB2.out d
      have HO3 : Hid (w3.ownsRow w.heap.size 76 5 (.slice a c cap) c (flatS L)) := by show World.ownsRow _ _ _ _ _ _ _; rw [hd3]; exact owns_drewN HO2.out d
      have H3 : Hid (WdAt w3 own base W D bv bs N) := H.out.below HX3.out
      have cD : w3.cell? ⟨W, 1, none⟩ = some (.pointer (some ⟨D, 0, none⟩)) := cell_blk H3.out.wb rfl
      have HKR := keepSamples_any D w.heap.size c N (fun k => own k = 3) _ _ w3 H3.out.dr HOW.out HX3.out.size (by omega) hN HO3.out
      clear hd3 HB2 HO2 HSM1 HSM2
      go_wp2_with fail
      refine HKR.mono ?_
      clear HKR
      rintro e w4 ⟨rfl, hdr, hf⟩
      have hf0 : Fr (fun k => own k = 3) w w4 := (Fr.of_below HX3.out).trans hf (fun k e => e)
      have H4 : Hid (WdAt w4 (upd own w w4 3) base W D bv bs (N + 1)) := H.out.stepD hf0 hdr
      have HB4 : Hid (Below base w w4) := H.out.bel hf0 (fun k e => .inl (by omega))
      clear hdr hf hf0 cD
      generalize (6 : Int) + 11 * (c : Int) = q at *
      go_wp2_with (go_at_call 13; refine (num_any _ _ (by omega) (by omega)).mono ?_; rintro e w' ⟨rfl, rfl⟩)
      go_ret
      exact ⟨rfl, ⟨_, H4.out⟩, HB4.out⟩
    · exfalso
      rw [HU.out] at hu
      cases hu
  · have HB1 : Hid (Below w.heap.size w w1) := hb1
    have hsz1 := hb1.size
    have HU : Hid (unOk s = false) := hu
    clear hb1 hu
    go_wp2_with fail
    refine (refUnrecord_any s _ HM.out).mono ?_
    rintro e w2 ⟨hb2, ⟨hu, v2, rfl, hown2⟩ | ⟨hu, rfl⟩⟩
    · exfalso
      rw [HU.out] at hu
      cases hu
    · have HB2 : Hid (Below w.heap.size w w2) := HB1.out.trans (hb2.mono hsz1)
      clear hb2 hu HB1
      have HSS := sameSamples_yes none none 0 0 0 [] w2 (by omega) ⟨rfl, fun h => absurd h (by omega)⟩ ⟨rfl, fun h => absurd h (by omega)⟩
      go_wp2_with fail
      refine HSS.mono ?_
      clear HSS
      rintro e w3 ⟨rfl, d, hd3⟩
      have HX3 : Hid (Below w.heap.size w w3) := by show Below _ _ _; rw [hd3]; exact below_drewN HB2.out d
      have H3 : Hid (WdAt w3 own base W D bv bs N) := H.out.below HX3.out
      have cD : w3.cell? ⟨W, 1, none⟩ = some (.pointer (some ⟨D, 0, none⟩)) := cell_blk H3.out.wb rfl
      have HKR := keepSamples_any D w.heap.size 0 N (fun k => own k = 3) (.slice none 0 0) [] w3 H3.out.dr HOW.out HX3.out.size (by omega) hN (World.ownsRow_nil _ _ _ _)
      clear hd3 HB2
      go_wp2_with fail
      refine HKR.mono ?_
      clear HKR
      rintro e w4 ⟨rfl, hdr, hf⟩
      have hf0 : Fr (fun k => own k = 3) w w4 := (Fr.of_below HX3.out).trans hf (fun k e => e)
      have H4 : Hid (WdAt w4 (upd own w w4 3) base W D bv bs (N + 1)) := H.out.stepD hf0 hdr
      have HB4 : Hid (Below base w w4) := H.out.bel hf0 (fun k e => .inl (by omega))
      clear hdr hf hf0 cD
      go_wp2_with (go_at_call 13; refine (num_any _ _ (by omega) (by omega)).mono ?_; rintro e w' ⟨rfl, rfl⟩)
      go_ret
      exact ⟨rfl, ⟨_, H4.out⟩, HB4.out⟩

set_option maxHeartbeats 1000000 in
set_option maxRecDepth 100000 in
theorem step_rules (own : Nat → Nat) (base W D : Nat) (bv : Value) (bs : List Bk) (N : Nat) (o : Opr) (la : Option Addr) (ln lc : Nat) (ba : Option Addr) (bn bc : Nat) (w : World) (h : WdAt w own base W D bv bs N) (hok : AllOk bs) (hin : OpIn w o la ln ba bn) (hwf : OpWf o) (k1 : o.kind = 10) :
    Calls Tryz.prog 7 #[.pointer (some ⟨W, 0, none⟩), opV o la ln lc ba bn bc] w fun e w' => e = .returned (.bool true) ∧ Went w w' base W D (N + 1) bs.length := by
  have hbx : Below w.heap.size w (w.alloc (.cells (opC o la ln lc ba bn bc).toArray 47)) := (Below.refl _ _).alloc (Nat.le_refl _) _
  have HBK0 : Hid ((w.alloc (.cells (opC o la ln lc ba bn bc).toArray 47)).heap[w.heap.size]? = some (.cells (opC o la ln lc ba bn bc).toArray 47 (0, 0))) := heap_alloc_new _ _
  have HBX : Hid (Below w.heap.size w (w.alloc (.cells (opC o la ln lc ba bn bc).toArray 47))) := hbx
  have HOK : Hid (AllOk bs) := hok
  have HH : Hid (WdAt w own base W D bv bs N) := h
  have HRU := ruled_any la ln lc o.lvs o.span o.keep o.s o.l0 o.l1 o.l2 _ (hin.lv.from hbx) hwf.lvs hin.ln hwf.s
  clear h hok hin hwf hbx
  go_enter Tryz.func7, Tryz.ntmps7
  go_upto_region 1 with fail
  generalize w.alloc (.cells (opC o la ln lc ba bn bc).toArray 47) = w0 at *
  have p0 : w0.cell? ⟨w.heap.size, 0, none⟩ = some (.int .i64 o.kind) := cell_blk HBK0.out rfl
  have p3 : w0.cell? ⟨w.heap.size, 3, none⟩ = some (.string o.s) := cell_blk HBK0.out rfl
  have p4 : w0.cell? ⟨w.heap.size, 4, none⟩ = some (.int .u8 o.l0) := cell_blk HBK0.out rfl
  have p5 : w0.cell? ⟨w.heap.size, 5, none⟩ = some (.int .u8 o.l1) := cell_blk HBK0.out rfl
  have p6 : w0.cell? ⟨w.heap.size, 6, none⟩ = some (.int .u8 o.l2) := cell_blk HBK0.out rfl
  have p7 : w0.cell? ⟨w.heap.size, 7, none⟩ = some (.int .i64 o.span) := cell_blk HBK0.out rfl
  have p8 : w0.cell? ⟨w.heap.size, 8, none⟩ = some (.int .i64 o.keep) := cell_blk HBK0.out rfl
  have p9 : w0.cell? ⟨w.heap.size, 9, none⟩ = some (.slice la ln lc) := cell_blk HBK0.out rfl
  rw [k1] at p0
  go_wp2_with fail
  refine HRU.mono ?_
  clear HRU
  rintro e w1 ⟨rfl, hb1⟩
  have HB1 : Hid (Below w.heap.size w w1) := HBX.out.trans (hb1.mono HBX.out.size)
  clear hb1
  go_wp2_with fail
  go_ret
  exact ⟨rfl, ⟨own, bv, bs, (HH.out.below HB1.out).more (Nat.le_succ _), HOK.out, Nat.le_refl _⟩, HB1.out.mono HH.out.bas⟩

set_option maxHeartbeats 1000000 in
set_option maxRecDepth 100000 in
theorem step_records (own : Nat → Nat) (base W D : Nat) (bv : Value) (bs : List Bk) (N : Nat) (o : Opr) (la : Option Addr) (ln lc : Nat) (ba : Option Addr) (bn bc : Nat) (w : World) (h : WdAt w own base W D bv bs N) (hok : AllOk bs) (hN : N ≤ 900000000000) (hin : OpIn w o la ln ba bn) (hwf : OpWf o) (k1 : o.kind = 11) :
    Calls Tryz.prog 7 #[.pointer (some ⟨W, 0, none⟩), opV o la ln lc ba bn bc] w fun e w' => e = .returned (.bool true) ∧ Went w w' base W D (N + 1) bs.length := by
  have hbx : Below w.heap.size w (w.alloc (.cells (opC o la ln lc ba bn bc).toArray 47)) := (Below.refl _ _).alloc (Nat.le_refl _) _
  have HBK0 : Hid ((w.alloc (.cells (opC o la ln lc ba bn bc).toArray 47)).heap[w.heap.size]? = some (.cells (opC o la ln lc ba bn bc).toArray 47 (0, 0))) := heap_alloc_new _ _
  have HBX : Hid (Below w.heap.size w (w.alloc (.cells (opC o la ln lc ba bn bc).toArray 47))) := hbx
  have HOK : Hid (AllOk bs) := hok
  have HH : Hid (WdAt w own base W D bv bs N) := h
  have HS : Hid (o.s.size ≤ maxLen) := hwf.s
  have hz0 : (w.alloc (.cells (opC o la ln lc ba bn bc).toArray 47)).heap.size = w.heap.size + 1 := World.size_alloc _ _
  have HRC := recorded_any ba bn bc o.bat _ (hin.sm.below hbx) hwf.bat (by have := hin.bn; omega)
  clear h hok hin hwf hbx
  go_enter Tryz.func7, Tryz.ntmps7
  go_upto_region 1 with fail
  generalize w.alloc (.cells (opC o la ln lc ba bn bc).toArray 47) = w0 at *
  have p0 : w0.cell? ⟨w.heap.size, 0, none⟩ = some (.int .i64 o.kind) := cell_blk HBK0.out rfl
  have p3 : w0.cell? ⟨w.heap.size, 3, none⟩ = some (.string o.s) := cell_blk HBK0.out rfl
  have p10 : w0.cell? ⟨w.heap.size, 10, none⟩ = some (.slice ba bn bc) := cell_blk HBK0.out rfl
  rw [k1] at p0
  go_wp2_with fail
  refine HRC.mono ?_
  clear HRC
  rintro e w1 ⟨rfl, hb1⟩
  have HB1 : Hid (Below w.heap.size w w1) := HBX.out.trans (hb1.mono HBX.out.size)
  have q3 : w1.cell? ⟨w.heap.size, 3, none⟩ = some (.string o.s) := (hb1.cell (p := ⟨w.heap.size, 3, none⟩) (by show w.heap.size < w0.heap.size; omega)).trans p3
  have HUR := unrecorded_w own base W D bv bs N o.s w1 (HH.out.below HB1.out) HS.out hN
  clear hb1 p0 p3 p10
  go_wp2_with fail
  refine HUR.mono ?_
  clear HUR
  rintro e w2 ⟨rfl, ⟨own', h1⟩, h2⟩
  have HF : Hid (Went w w2 base W D (N + 1) bs.length) := ⟨⟨own', bv, bs, h1, HOK.out, Nat.le_refl _⟩, (HB1.out.mono HH.out.bas).trans h2⟩
  clear h1 h2
  go_wp2_with fail
  go_ret
  exact ⟨rfl, HF.out⟩

end Go.Proofs.YthciddpljcbhiabGreatDoor

/- Walks: rows alike; the oldest time; the query of all that is kept (garnerkeep). -/
namespace Go.Proofs.YthciddpljcbhiabGreatDoor
open Go Go.RowKit

theorem ret_i64'' {a b : Int} (h : a = b) : Ending.returned (.int .i64 a) = .returned (.int .i64 b) := by rw [h]
theorem cell_blk' {w : World} {g o : Nat} {C : Array Value} {t : TypeId} {fr : Nat × Nat} {v : Value} (h : w.heap[g]? = some (.cells C t fr)) (hv : C[o]? = some v) : w.cell? ⟨g, o, none⟩ = some v := by simp [World.cell?, h, hv]
/-- Where the rows of a slice lie. -/
def RwsAt (w : World) (a : Option Addr) (l : List Rw) : Prop := 0 < l.length → ∃ g, a = some ⟨g, 0, none⟩ ∧ g < w.heap.size ∧ ∀ i, i < l.length → RwAt w g (i * 8) (rwG l i)
theorem RwsAt.of_owns {w : World} {base : Nat} {a : Option Addr} {n cap : Nat} {l : List Rw} (h : w.ownsRow base 78 8 (.slice a n cap) n (flatR l)) (hn : l.length = n) : RwsAt w a l := by
  intro hp
  obtain ⟨g, cap', he, _, hg, _⟩ := ownBlockForm h (by omega)
  injection he with h1 h2 h3
  subst h1
  exact ⟨g, rfl, hg, fun i hi => owns_rw h i hi⟩
theorem RwsAt.below {w w' : World} {a : Option Addr} {l : List Rw} (h : RwsAt w a l) (hb : Below w.heap.size w w') : RwsAt w' a l := by
  intro hp
  obtain ⟨g, rfl, hg, hr⟩ := h hp
  exact ⟨g, rfl, by have := hb.size; omega, fun i hi => (hr i hi).below hb⟩
theorem sameR_iff {a b : Rw} (h : sameR a b = true) : (a.ag.cnt != b.ag.cnt) = false ∧ (a.ag.sum != b.ag.sum) = false ∧ (a.ag.mn != b.ag.mn) = false ∧ (a.ag.mx != b.ag.mx) = false := by
  simp only [sameR, Bool.and_eq_true, beq_iff_eq] at h
  obtain ⟨⟨⟨h1, h2⟩, h3⟩, h4⟩ := h
  simp [h1, h2, h3, h4]

/-- The desk's block. -/
abbrev dkC (X : Nat) (s : St) (L n cap : Nat) (sv : Value) : Array Value := #[.pointer (some ⟨X, 0, none⟩), .int .i64 s.c.span, .int .i64 s.c.keep, .slice (some ⟨L, 0, none⟩) n cap, .int .i64 s.now, sv]

theorem oldT_eq (s : St) : oldT s = if s.now / s.c.span - s.c.keep < 0 then 0 else (s.now / s.c.span - s.c.keep) * s.c.span := by
  unfold oldT Cf.old; split <;> simp

end Go.Proofs.YthciddpljcbhiabGreatDoor

/- Walks: a query of a store. -/
namespace Go.Proofs.YthciddpljcbhiabGreatDoor
open Go Go.RowKit

set_option maxHeartbeats 4000000 in
set_option maxRecDepth 100000 in
theorem query_any (X : Nat) (F : Nat → Prop) (s : St) (q : Qy) {lg : ByteArray} (w : World) (h : StoreAt w X F s lg) (hq : q.wf) :
    Calls Tryz.prog 46 #[.pointer (some ⟨X, 0, none⟩), .agg (qyC q)] w fun e w' => ∃ v, e = .returned (.tuple #[v, .int .i64 (qE s.c s.now q)]) ∧ w'.ownsRow w.heap.size 78 8 v (rowsA s q).length (flatR (rowsA s q)) ∧ Below w.heap.size w w' := by
  obtain ⟨L, lcap, pv, bv, bk, gv, h⟩ := h
  have HS : Hid (StAt w X F s s s.l.length L lcap pv bv bk gv lg) := h
  have c0 := h.cell 0 _ rfl
  have c1 := h.cell 1 _ rfl
  have c2 := h.cell 2 _ rfl
  have c3 := h.cell 3 _ rfl
  have c5 := h.cell 5 _ rfl
  have hX := h.lt
  obtain ⟨pa, pcap, rfl⟩ := ownForm h.pts
  have HQ : Hid q.wf := hq
  have hXw : X ≠ w.heap.size := by omega
  clear h hq
  have hbox : Below w.heap.size w (w.alloc (.cells (qyC q) 45)) := (Below.refl _ _).alloc (Nat.le_refl _) _
  have HBX : Hid (Below w.heap.size w (w.alloc (.cells (qyC q) 45))) := hbox
  clear hbox
  go_enter Tryz.func46, Tryz.ntmps46
  go_upto_region 1 with fail
  go_cut [6] from 6 to 16 (fun v wx => v = .int .i64 (qE s.c s.now q) ∧ Below (w.heap.size + 1) (w.alloc (.cells (qyC q) 45)) wx)
  case first =>
    have k0 : (w.alloc (.cells (qyC q) 45)).drew.cell? ⟨X, 0, none⟩ = some (.int .i64 s.c.span) := cell_alloc1 c0
    have k1 : (w.alloc (.cells (qyC q) 45)).drew.cell? ⟨X, 1, none⟩ = some (.int .i64 s.c.keep) := cell_alloc1 c1
    have k2 : (w.alloc (.cells (qyC q) 45)).drew.cell? ⟨X, 2, none⟩ = some (.slice (some ⟨L, 0, none⟩) s.c.lvs.length lcap) := cell_alloc1 c2
    have k3 : (w.alloc (.cells (qyC q) 45)).drew.cell? ⟨X, 3, none⟩ = some (.int .i64 s.now) := cell_alloc1 c3
    have j0 : (w.alloc (.cells (qyC q) 45)).drew.cell? ⟨w.heap.size, 0, none⟩ = some (.int .i64 q.fr) := by simp [go_sem]
    have j1 : (w.alloc (.cells (qyC q) 45)).drew.cell? ⟨w.heap.size, 1, none⟩ = some (.int .i64 q.to) := by simp [go_sem]
    have j2 : (w.alloc (.cells (qyC q) 45)).drew.cell? ⟨w.heap.size, 2, none⟩ = some (.int .i64 q.step) := by simp [go_sem]
    have j3 : (w.alloc (.cells (qyC q) 45)).drew.cell? ⟨w.heap.size, 3, none⟩ = some (.string q.mt) := by simp [go_sem]
    have j4 : (w.alloc (.cells (qyC q) 45)).drew.cell? ⟨w.heap.size, 4, none⟩ = some (.string q.gb) := by simp [go_sem]
    have hXa : X < (w.alloc (.cells (qyC q) 45)).drew.heap.size := by show X < (w.alloc (.cells (qyC q) 45)).heap.size; simp; omega
    have hwa : w.heap.size < (w.alloc (.cells (qyC q) 45)).drew.heap.size := by show w.heap.size < (w.alloc (.cells (qyC q) 45)).heap.size; simp
    go_region_held3 (fun w' => w'.cell? ⟨X, 0, none⟩ = some (.int .i64 s.c.span) ∧ w'.cell? ⟨X, 1, none⟩ = some (.int .i64 s.c.keep) ∧ w'.cell? ⟨X, 2, none⟩ = some (.slice (some ⟨L, 0, none⟩) s.c.lvs.length lcap) ∧ w'.cell? ⟨X, 3, none⟩ = some (.int .i64 s.now) ∧ w'.cell? ⟨w.heap.size, 0, none⟩ = some (.int .i64 q.fr) ∧ w'.cell? ⟨w.heap.size, 1, none⟩ = some (.int .i64 q.to) ∧ w'.cell? ⟨w.heap.size, 2, none⟩ = some (.int .i64 q.step) ∧ w'.cell? ⟨w.heap.size, 3, none⟩ = some (.string q.mt) ∧ w'.cell? ⟨w.heap.size, 4, none⟩ = some (.string q.gb)) (first | exact ⟨k0, k1, k2, k3, j0, j1, j2, j3, j4⟩ | exact ⟨y0, y1, y2, y3, z0, z1, z2, z3, z4⟩)
      (first | (go_at_call 76; refine (check_q s.c q L 0 s.c.lvs.length lcap s.now _ HS.out.inv.right rfl ((HS.out.below HBX.out.drew).lv) HS.out.inv.n0 HS.out.inv.n1 HQ.out).mono ?_; rintro e w' ⟨rfl, hb'⟩; have y0 := (hb'.cell (p := ⟨X, 0, none⟩) hXa).trans k0; have y1 := (hb'.cell (p := ⟨X, 1, none⟩) hXa).trans k1; have y2 := (hb'.cell (p := ⟨X, 2, none⟩) hXa).trans k2; have y3 := (hb'.cell (p := ⟨X, 3, none⟩) hXa).trans k3; have z0 := (hb'.cell (p := ⟨w.heap.size, 0, none⟩) hwa).trans j0; have z1 := (hb'.cell (p := ⟨w.heap.size, 1, none⟩) hwa).trans j1; have z2 := (hb'.cell (p := ⟨w.heap.size, 2, none⟩) hwa).trans j2; have z3 := (hb'.cell (p := ⟨w.heap.size, 3, none⟩) hwa).trans j3; have z4 := (hb'.cell (p := ⟨w.heap.size, 4, none⟩) hwa).trans j4))
    all_goals go_wp2_with fail
    all_goals go_meet
    all_goals (case rel => exact ⟨rfl, ⟨hb'.os, hb'.tape, hb'.output, hb'.size, fun k hk => hb'.block k (by simpa using hk)⟩⟩)
  case rest =>
    obtain ⟨rfl, hb1⟩ := hcut
    have hz1 : w.heap.size + 1 ≤ wc.heap.size := by have := hb1.size; simpa using this
    have HW1 : Hid (Below w.heap.size w wc) := HBX.out.trans (hb1.mono (by omega))
    have HB1 : Hid (Below (w.heap.size + 1) (w.alloc (.cells (qyC q) 45)) wc) := hb1
    have HS1 : Hid (StAt wc X F s s s.l.length L lcap (.slice pa s.pts.length pcap) bv bk gv lg) := HS.out.below HW1.out
    clear c0 c1 c2 c3 c5 hb1
    by_cases he : qE s.c s.now q = 0
    · have HRA : Hid (rowsA s q = s.rows q) := if_pos he
      have HZ := qE_zero he
      have HRR : Hid (s.rows q = rowsOf (s.pts.filterMap (kvP s.c s.now q))) := by
        show rowsOf _ = _
        rw [kv_pts s (Cf.right_parts HS.out.inv.right).1 q HZ.2]
      have HE : Hid (qE s.c s.now q = 0) := he
      rw [he]
      have c0 := HS1.out.cell 0 _ rfl
      have c1 := HS1.out.cell 1 _ rfl
      have c2 := HS1.out.cell 2 _ rfl
      have c3 := HS1.out.cell 3 _ rfl
      have c5 := HS1.out.cell 5 _ rfl
      have hX1 := HS1.out.lt
      have p0 : wc.cell? ⟨w.heap.size, 0, none⟩ = some (.int .i64 q.fr) := by rw [HB1.out.cell (p := ⟨w.heap.size, 0, none⟩) (by simp)]; simp [go_sem]
      have p1 : wc.cell? ⟨w.heap.size, 1, none⟩ = some (.int .i64 q.to) := by rw [HB1.out.cell (p := ⟨w.heap.size, 1, none⟩) (by simp)]; simp [go_sem]
      have p2 : wc.cell? ⟨w.heap.size, 2, none⟩ = some (.int .i64 q.step) := by rw [HB1.out.cell (p := ⟨w.heap.size, 2, none⟩) (by simp)]; simp [go_sem]
      have p3 : wc.cell? ⟨w.heap.size, 3, none⟩ = some (.string q.mt) := by rw [HB1.out.cell (p := ⟨w.heap.size, 3, none⟩) (by simp)]; simp [go_sem]
      have p4 : wc.cell? ⟨w.heap.size, 4, none⟩ = some (.string q.gb) := by rw [HB1.out.cell (p := ⟨w.heap.size, 4, none⟩) (by simp)]; simp [go_sem]
      clear he
      go_wp2_with fail
      have hwa : w.heap.size < wc.heap.size := by omega
      go_region_held3 (fun w' => w'.cell? ⟨X, 0, none⟩ = some (.int .i64 s.c.span) ∧ w'.cell? ⟨X, 1, none⟩ = some (.int .i64 s.c.keep) ∧ w'.cell? ⟨X, 2, none⟩ = some (.slice (some ⟨L, 0, none⟩) s.c.lvs.length lcap) ∧ w'.cell? ⟨X, 3, none⟩ = some (.int .i64 s.now) ∧ w'.cell? ⟨w.heap.size, 0, none⟩ = some (.int .i64 q.fr) ∧ w'.cell? ⟨w.heap.size, 1, none⟩ = some (.int .i64 q.to) ∧ w'.cell? ⟨w.heap.size, 2, none⟩ = some (.int .i64 q.step) ∧ w'.cell? ⟨w.heap.size, 3, none⟩ = some (.string q.mt) ∧ w'.cell? ⟨w.heap.size, 4, none⟩ = some (.string q.gb) ∧ w'.cell? ⟨X, 5, none⟩ = some (.slice pa s.pts.length pcap)) (first | exact ⟨c0, c1, c2, c3, p0, p1, p2, p3, p4, c5⟩ | exact ⟨y0, y1, y2, y3, z0, z1, z2, z3, z4, y5⟩)
        (first | (go_at_call 77; refine (rows_any s.c q L 0 s.c.lvs.length lcap s.now pa s.pts.length pcap s.pts _ HS.out.inv.right rfl (HS1.out.below (Below.refl _ _).drew).lv HS.out.inv.n0 HS.out.inv.n1 HZ.1 (PtsAt.of_owns (owns_drew HS1.out.pts) rfl) rfl (pts_ok HS.out.inv) (pts_len HS.out.inv)).mono ?_; rintro e w' ⟨v, rfl, hv, hb'⟩; have y0 := (hb'.cell (p := ⟨X, 0, none⟩) hX1).trans c0; have y1 := (hb'.cell (p := ⟨X, 1, none⟩) hX1).trans c1; have y2 := (hb'.cell (p := ⟨X, 2, none⟩) hX1).trans c2; have y3 := (hb'.cell (p := ⟨X, 3, none⟩) hX1).trans c3; have y5 := (hb'.cell (p := ⟨X, 5, none⟩) hX1).trans c5; have z0 := (hb'.cell (p := ⟨w.heap.size, 0, none⟩) hwa).trans p0; have z1 := (hb'.cell (p := ⟨w.heap.size, 1, none⟩) hwa).trans p1; have z2 := (hb'.cell (p := ⟨w.heap.size, 2, none⟩) hwa).trans p2; have z3 := (hb'.cell (p := ⟨w.heap.size, 3, none⟩) hwa).trans p3; have z4 := (hb'.cell (p := ⟨w.heap.size, 4, none⟩) hwa).trans p4))
      all_goals go_wp2_with fail
      all_goals go_ret2
      all_goals exact ⟨v, by rw [HE.out]; rfl, by rw [HRA.out, HRR.out]; exact owns_base hv (fun k hk => by have h9 : wc.heap.size ≤ k := (hv.lt k hk).1; omega), HW1.out.trans ((show Below wc.heap.size wc w' from ⟨hb'.os, hb'.tape, hb'.output, hb'.size, hb'.block⟩).mono (by omega))⟩
    · have HRA : Hid (rowsA s q = []) := if_neg he
      have hneb : (qE s.c s.now q != 0) = true := by simpa using he
      go_wp2_with fail
      go_ret2
      refine ⟨_, rfl, ?_, HW1.out⟩
      rw [HRA.out]
      exact World.ownsRow_nil _ _ _ _

end Go.Proofs.YthciddpljcbhiabGreatDoor

/- Walks: how many cells there are. -/
namespace Go.Proofs.YthciddpljcbhiabGreatDoor
open Go Go.RowKit Go.Lib
attribute [local go_sem ↓] Go.wp_at_zero Go.wp_at_succ

/-! The keys of cells. -/
structure Ky where
  st : Int
  nm : Lb
deriving DecidableEq
def Ky.zero : Ky := ⟨0, Lb.zero⟩
abbrev kyC (k : Ky) : Array Value := #[.int .i64 k.st, .int .u8 k.nm.a, .int .u8 k.nm.b, .int .u8 k.nm.c]
def Ky.cells (k : Ky) : List Value := [.int .i64 k.st, .int .u8 k.nm.a, .int .u8 k.nm.b, .int .u8 k.nm.c]
def flatKy (l : List Ky) : List Value := l.flatMap Ky.cells
theorem len4K (k : Ky) : k.cells.length = 4 := rfl
def kyG (l : List Ky) (i : Nat) : Ky := l.getD i Ky.zero
theorem kyG_get (l : List Ky) (i : Nat) (h : i < l.length) : kyG l i = l[i] := by simp [kyG, List.getD, h]
theorem Ky.one (k : Ky) : ∀ v ∈ k.cells, v.oneCell' = true := by intro v hv; simp [Ky.cells] at hv; rcases hv with h | h | h | h <;> subst h <;> rfl
theorem Tryz.info170' : (Tryz.prog.info? 170).map (fun i => (i.zero, i.size, i.bytes)) = some (some (.agg #[.int .i64 0, .int .u8 0, .int .u8 0, .int .u8 0]), 4, 16) := by kernel_rfl
theorem owns_ky {w : World} {base g n cap : Nat} {l : List Ky} (h : w.ownsRow base 170 4 (.slice (some ⟨g, 0, none⟩) n cap) n (flatKy l)) (i : Nat) (hi : i < l.length) :
    w.cell? ⟨g, i * 4, none⟩ = some (.int .i64 (kyG l i).st) ∧ w.cell? ⟨g, i * 4 + 1, none⟩ = some (.int .u8 (kyG l i).nm.a) ∧ w.cell? ⟨g, i * 4 + 2, none⟩ = some (.int .u8 (kyG l i).nm.b) ∧ w.cell? ⟨g, i * 4 + 3, none⟩ = some (.int .u8 (kyG l i).nm.c) := by
  have k := fun j (hj : j < 4) => flat_get Ky.cells 4 len4K l i j hj hi
  rw [kyG_get l i hi]
  exact ⟨owns_cell h (k 0 (by omega)), owns_cell h (k 1 (by omega)), owns_cell h (k 2 (by omega)), owns_cell h (k 3 (by omega))⟩
def kyP (c : Cf) (now : Int) (p : Pt) : Ky := ⟨p.time - p.time % (lvG c.lvs (c.lvl now p.time)).window, sG p (c.lvl now p.time)⟩
def keyA (l : List Ky) (k : Ky) : List Ky := if k ∈ l then l else l ++ [k]
def keysK (c : Cf) (now : Int) (ps : List Pt) (k : Nat) : List Ky := ((ps.take k).map (kyP c now)).foldl keyA []
theorem keysK_succ (c : Cf) (now : Int) (ps : List Pt) (k : Nat) (h : k < ps.length) : keysK c now ps (k + 1) = keyA (keysK c now ps k) (kyP c now (ptG ps k)) := by
  unfold keysK
  rw [List.take_succ_eq_append_getElem h, List.map_append, List.foldl_append, ptG_get ps k h]
  rfl
theorem keyA_len (l : List Ky) (k : Ky) : (keyA l k).length ≤ l.length + 1 := by unfold keyA; split <;> simp
theorem keysK_len (c : Cf) (now : Int) (ps : List Pt) (k : Nat) : (keysK c now ps k).length ≤ k := by
  induction k with
  | zero => simp [keysK]
  | succ k ih =>
    by_cases h : k < ps.length
    · rw [keysK_succ c now ps k h]; have := keyA_len (keysK c now ps k) (kyP c now (ptG ps k)); omega
    · have e : keysK c now ps (k + 1) = keysK c now ps k := by unfold keysK; rw [List.take_of_length_le (by omega), List.take_of_length_le (by omega)]
      rw [e]; omega
def cellsN (s : St) : Nat := (keysK s.c s.now s.pts s.pts.length).length
theorem wInC (n : Int) (h : -9223372036854775808 ≤ n ∧ n ≤ 9223372036854775807) : wrap64 n = n := by unfold wrap64; omega

set_option maxHeartbeats 400000 in
theorem winStart_any (lvs : List Lv) (b off n cap k : Nat) (t : Int) (w : World) (hn : lvs.length = n) (hk : k < n) (hat : LvAt w b off lvs) (w1 : 1 ≤ (lvG lvs k).window) (w2 : (lvG lvs k).window ≤ 100) (t0 : 0 ≤ t) (t1 : t ≤ 100000) :
    Calls Tryz.prog 122 #[.slice (some ⟨b, off, none⟩) n cap, .int .i64 k, .int .i64 t] w fun e w' => e = .returned (.int .i64 (t - t % (lvG lvs k).window)) ∧ w' = w := by
  obtain ⟨_, c1, _, _⟩ := hat k (by rw [hn]; exact hk)
  generalize lvG lvs k = V at *
  have hk0 : ¬ (k : Int) < 0 := by omega
  have hk1 : ¬ (n : Int) ≤ k := by omega
  have hv : ¬ V.window < 1 := by omega
  clear hat hn
  go_enter Tryz.func122, Tryz.ntmps122
  go_wp2_with fail
  go_ret
  have e1 := Int.emod_nonneg t (show V.window ≠ 0 by omega)
  have e2 := Int.emod_lt_of_pos t (show 0 < V.window by omega)
  exact ⟨ret_i64'' (wInC _ (by omega)), rfl⟩

set_option maxHeartbeats 1000000 in
theorem hasK_any (a : Option Addr) (n cap base : Nat) (l : List Ky) (K : Ky) (w : World) (hown : w.ownsRow base 170 4 (.slice a n cap) n (flatKy l)) (hn : l.length = n) (hn2 : n ≤ 100000) :
    Calls Tryz.prog 108 #[.slice a n cap, .agg (kyC K)] w fun e w' => e = .returned (.bool (decide (K ∈ l))) ∧ Below w.heap.size w w' := by
  have HO : Hid (w.ownsRow base 170 4 (.slice a n cap) n (flatKy l)) := hown
  have HN : Hid (l.length = n) := hn
  clear hown hn
  go_enter Tryz.func108, Tryz.ntmps108
  go_wp2_with fail
  go_loopw [5] (fun i wr => ∃ k : Nat, i = .int .i64 k ∧ k ≤ n ∧ (∀ j, j < k → kyG l j ≠ K) ∧ ∃ d, wr = (w.alloc (.cells (kyC K) 170)).drewN d) (fun i _ => n - (intOf i).toNat)
  case atStart => exact ⟨0, rfl, Nat.zero_le _, fun j hj => by omega, 0, rfl⟩
  case round =>
    obtain ⟨k, rfl, hk, hno, d, rfl⟩ := hrel
    have HA : Hid (∀ j, j < k → kyG l j ≠ K) := hno
    clear hno
    by_cases hlt : k < n
    · obtain ⟨g, cap', he, _, hgs, hcap⟩ := ownBlockForm HO.out (by omega)
      obtain ⟨rfl, rfl⟩ : a = some ⟨g, 0, none⟩ ∧ cap = cap' := by injection he with h1 h2 h3; exact ⟨h1, h3⟩
      obtain ⟨x0, x1, x2, x3⟩ := owns_ky HO.out k (by rw [HN.out]; exact hlt)
      have hgne : g ≠ w.heap.size := by omega
      have HMEM : Hid (kyG l k = K → K ∈ l) := fun e => by rw [← e, kyG_get l k (by rw [HN.out]; exact hlt)]; exact List.getElem_mem _
      have HEQ : Hid (kyG l k = K ↔ ((kyG l k).st == K.st && ((kyG l k).nm.a == K.nm.a && (kyG l k).nm.b == K.nm.b && (kyG l k).nm.c == K.nm.c)) = true) := by
        show _ ↔ _
        constructor
        · intro e; rw [e]; simp
        · intro e
          simp only [Bool.and_eq_true, beq_iff_eq] at e
          cases hh : kyG l k with
          | mk st nm =>
            rw [hh] at e
            cases K with
            | mk st' nm' =>
              obtain ⟨e1, ⟨e2, e3⟩, e4⟩ := e
              have := lb_ext e2 e3 e4
              simp only at e1 this
              rw [e1, this]
      generalize hY : kyG l k = Y at *
      have HYY : Hid (kyG l k = Y) := hY
      clear hY
      have heq := fun w => eq26 9997 Y.nm.a Y.nm.b Y.nm.c K.nm.a K.nm.b K.nm.c w
      cases e1 : (Y.st == K.st)
      · have hne : Y ≠ K := fun e => by rw [e] at e1; simp at e1
        cases e2 : (Y.nm.a == K.nm.a && Y.nm.b == K.nm.b && Y.nm.c == K.nm.c)
        all_goals
          rw [e2] at heq
          go_wp2_with fail
          go_quiet (fail)
          go_wp2_with fail
          exact ⟨⟨k + 1, by go_num, by omega, fun j hj => by (by_cases hjk : j = k; rw [hjk, HYY.out]; exact hne; exact HA.out j (by omega)), _, rfl⟩, by simp [intOf]; omega⟩
      · cases e2 : (Y.nm.a == K.nm.a && Y.nm.b == K.nm.b && Y.nm.c == K.nm.c)
        · have hne : Y ≠ K := fun e => by rw [e] at e2; simp at e2
          rw [e2] at heq
          go_wp2_with fail
          go_quiet (fail)
          go_wp2_with fail
          exact ⟨⟨k + 1, by go_num, by omega, fun j hj => by (by_cases hjk : j = k; rw [hjk, HYY.out]; exact hne; exact HA.out j (by omega)), _, rfl⟩, by simp [intOf]; omega⟩
        · have hm : K ∈ l := HMEM.out (HEQ.out.2 (by rw [e1, e2]; rfl))
          have HM : Hid (decide (K ∈ l) = true) := by show _ = _; simpa using hm
          clear hm
          rw [e2] at heq
          go_wp2_with fail
          go_quiet (fail)
          go_wp2_with fail
          go_ret
          exact ⟨ret_bool HM.out.symm, below_drewN (below_drewN ((Below.refl _ _).alloc (Nat.le_refl _) _) _) _⟩
    · have hlt2 : ¬ (k : Int) < n := by omega
      have HM : Hid (decide (K ∈ l) = false) := by
        show _ = _
        refine decide_eq_false fun hm => ?_
        obtain ⟨i, hi, e⟩ := List.getElem_of_mem hm
        exact HA.out i (by rw [HN.out] at hi; omega) (by rw [kyG_get l i hi]; exact e)
      go_wp2_with fail
      go_ret
      exact ⟨ret_bool HM.out.symm, below_drewN ((Below.refl _ _).alloc (Nat.le_refl _) _) _⟩

theorem pt_blk {w : World} {P : Nat} {p : Pt} (h : w.heap[P]? = some (.cells (ptC p) 127 (0, 0))) (o : Nat) (v : Value) (hv : (ptC p)[o]? = some v) : w.cell? ⟨P, o, none⟩ = some v := cell_blk h hv

set_option maxHeartbeats 2000000 in
set_option maxRecDepth 100000 in
theorem keyOf_any (c : Cf) (b off n cap : Nat) (now : Int) (p : Pt) (w : World) (hr : c.right = true) (n0 : 0 ≤ now) (n1 : now ≤ 100000) (hn : c.lvs.length = n) (hat : LvAt w b off c.lvs) (hp : PtOk c p) :
    Calls Tryz.prog 107 #[.agg (cfC c b off n cap), .int .i64 now, .agg (ptC p)] w fun e w' => e = .returned (.agg (kyC (kyP c now p))) ∧ Below w.heap.size w w' := by
  obtain ⟨h1, h2, _, _, q1, q4, h7⟩ := Cf.right_parts hr
  have hlv := Cf.lvl_lt hr now p.time
  have HWI := h7 _ hlv
  have HW2 : (lvG c.lvs (c.lvl now p.time)).window ≤ 100 := by
    have := Int.le_of_dvd (by omega) (Int.dvd_of_emod_eq_zero HWI.2.1)
    omega
  have HW1 := HWI.1
  have HAT : Hid (LvAt w b off c.lvs) := hat
  have HN : Hid (c.lvs.length = n) := hn
  have hbs : b < w.heap.size := hat.block (by omega)
  have t0 := hp.t0
  have t1 := hp.t1
  have HKY : Hid (kyP c now p = ⟨p.time - p.time % (lvG c.lvs (c.lvl now p.time)).window, sG p (c.lvl now p.time)⟩) := rfl
  have HLV : Hid (c.lvl now p.time < n) := by show _ < _; omega
  have HLE := fun w hat => level_any c b off n cap now p.time w h1 h2 n0 n1 t0 (by omega) hn (by omega) (by omega) hat
  have HWS := fun w hat => winStart_any c.lvs b off n cap (c.lvl now p.time) p.time w hn (by omega) hat HW1 HW2 t0 t1
  have HOF := fun w => of_any p (c.lvl now p.time) (by omega) w
  have HLEH : Hid (∀ w, LvAt w b off c.lvs → Calls Tryz.prog 97 #[.agg (cfC c b off n cap), .int .i64 now, .int .i64 p.time] w fun e w' => e = .returned (.int .i64 (c.lvl now p.time)) ∧ Below w.heap.size w w') := HLE
  have HWSH : Hid (∀ w, LvAt w b off c.lvs → Calls Tryz.prog 122 #[.slice (some ⟨b, off, none⟩) n cap, .int .i64 ((c.lvl now p.time : Nat) : Int), .int .i64 p.time] w fun e w' => e = .returned (.int .i64 (p.time - p.time % (lvG c.lvs (c.lvl now p.time)).window)) ∧ w' = w) := HWS
  have HOFH : Hid (∀ w, Calls Tryz.prog 100 #[.agg (ptC p), .int .i64 ((c.lvl now p.time : Nat) : Int)] w fun e w' => e = .returned (.agg (lbA (sG p (c.lvl now p.time)))) ∧ Below w.heap.size w w') := HOF
  clear hr hn hat hp HLE HWS HOF h7 HWI hlv HW1 HW2 h1 h2 q1 q4
  generalize c.lvl now p.time = K at *
  generalize hST : p.time - p.time % (lvG c.lvs K).window = ST at *
  have HB0 : Hid (Below w.heap.size w (((w.alloc (.cells (cfC c b off n cap) 40)).alloc (.cells (ptC p) 127)).alloc (.cells #[.int .i64 0, .int .u8 0, .int .u8 0, .int .u8 0] 170))) := (((Below.refl _ _).alloc (Nat.le_refl _) _).alloc (by simp) _).alloc (by simp; omega) _
  go_enter Tryz.func107, Tryz.ntmps107
  go_wp2_with fail
  refine (HLEH.out _ (HAT.out.below HB0.out hbs)).mono ?_
  rintro e w1 ⟨rfl, hb1⟩
  have hz1 : w.heap.size + 2 < w1.heap.size := by have := hb1.size; simp at this; omega
  have HC1 : Hid (w1.heap[w.heap.size]? = some (.cells (cfC c b off n cap) 40 (0, 0))) := by
    show _ = _
    rw [hb1.block _ (by simp; omega), Below.heap_alloc _ _ _ (by simp; omega), Below.heap_alloc _ _ _ (by simp)]
    exact heap_alloc_new w _
  have HP1 : Hid (w1.heap[w.heap.size + 1]? = some (.cells (ptC p) 127 (0, 0))) := by
    show _ = _
    rw [hb1.block _ (by simp), Below.heap_alloc _ _ _ (by simp)]
    have e := heap_alloc_new (w.alloc (.cells (cfC c b off n cap) 40)) (.cells (ptC p) 127)
    rw [World.size_alloc] at e
    exact e
  have HR1 : Hid (w1.heap[w.heap.size + 1 + 1]? = some (.cells #[.int .i64 0, .int .u8 0, .int .u8 0, .int .u8 0] 170 (0, 0))) := by
    show _ = _
    rw [hb1.block _ (by simp)]
    have e := heap_alloc_new ((w.alloc (.cells (cfC c b off n cap) 40)).alloc (.cells (ptC p) 127)) (.cells #[.int .i64 0, .int .u8 0, .int .u8 0, .int .u8 0] 170)
    rw [World.size_alloc, World.size_alloc] at e
    exact e
  have HB1 : Hid (Below w.heap.size w w1) := HB0.out.trans (hb1.mono (by simp; omega))
  have x2 := cell_blk (o := 2) HC1.out rfl
  have y0 := pt_blk HP1.out 0 _ rfl
  have y1 := pt_blk HP1.out 1 _ rfl
  have y2 := pt_blk HP1.out 2 _ rfl
  have y3 := pt_blk HP1.out 3 _ rfl
  have y4 := pt_blk HP1.out 4 _ rfl
  have y5 := pt_blk HP1.out 5 _ rfl
  have y6 := pt_blk HP1.out 6 _ rfl
  have y7 := pt_blk HP1.out 7 _ rfl
  have y8 := pt_blk HP1.out 8 _ rfl
  have y9 := pt_blk HP1.out 9 _ rfl
  have y10 := pt_blk HP1.out 10 _ rfl
  have y11 := pt_blk HP1.out 11 _ rfl
  have y12 := pt_blk HP1.out 12 _ rfl
  have y13 := pt_blk HP1.out 13 _ rfl
  clear hb1
  go_wp2_with fail
  refine (HWSH.out _ (HAT.out.below HB1.out hbs)).mono ?_
  rintro e w2 ⟨rfl, rfl⟩
  go_wp2_with fail
  refine (HOFH.out _).mono ?_
  rintro e w3 ⟨rfl, hb3⟩
  have HR3 : Hid (w3.heap[w.heap.size + 1 + 1]? = some (.cells #[.int .i64 0, .int .u8 0, .int .u8 0, .int .u8 0] 170 (0, 0))) := (hb3.block _ (by omega)).trans HR1.out
  have HB3 : Hid (Below w.heap.size w w3) := HB1.out.trans (hb3.mono HB1.out.size)
  have r0 : w3.cell? ⟨w.heap.size + 1 + 1, 0, none⟩ = some (.int .i64 0) := cell_blk (o := 0) HR3.out rfl
  have r1 : w3.cell? ⟨w.heap.size + 1 + 1, 1, none⟩ = some (.int .u8 0) := cell_blk (o := 1) HR3.out rfl
  have r2 : w3.cell? ⟨w.heap.size + 1 + 1, 2, none⟩ = some (.int .u8 0) := cell_blk (o := 2) HR3.out rfl
  have r3 : w3.cell? ⟨w.heap.size + 1 + 1, 3, none⟩ = some (.int .u8 0) := cell_blk (o := 3) HR3.out rfl
  have rz := fun o => froz_blk (o := o) HR3.out
  have hz3 : w.heap.size + 1 + 1 < w3.heap.size := by have := hb3.size; omega
  have hzn : w.heap.size + 1 + 1 ≠ w3.heap.size := by omega
  clear hb3 x2 y0 y1 y2 y3 y4 y5 y6 y7 y8 y9 y10 y11 y12 y13
  generalize sG p K = NM at *
  have hF : (((((w3.setCell ⟨w.heap.size + 1 + 1, 0, none⟩ (.int .i64 ST)).setCell ⟨w.heap.size + 1 + 1, 1, none⟩ (.int .u8 NM.a)).setCell ⟨w.heap.size + 1 + 1, 2, none⟩ (.int .u8 NM.b)).setCell ⟨w.heap.size + 1 + 1, 3, none⟩ (.int .u8 NM.c)).alloc (.cells #[.int .u8 NM.a, .int .u8 NM.b, .int .u8 NM.c] 42)).heap[w.heap.size + 1 + 1]? = some (.cells #[.int .i64 ST, .int .u8 NM.a, .int .u8 NM.b, .int .u8 NM.c] 170 (0, 0)) := by
    rw [Below.heap_alloc _ _ _ (by simpa [World.setCell] using hz3)]
    have h0 := heap_setCell (o := 0) (v := (.int .i64 ST)) HR3.out
    have h1 := heap_setCell (o := 1) (v := (.int .u8 NM.a)) h0
    have h2 := heap_setCell (o := 2) (v := (.int .u8 NM.b)) h1
    have h3 := heap_setCell (o := 3) (v := (.int .u8 NM.c)) h2
    simp only [List.setIfInBounds_toArray, List.set_cons_succ, List.set_cons_zero] at h3
    exact h3
  have HF : Hid (_ = _) := hF
  clear hF
  go_wp2_with fail
  have f0 := cell_blk (v := .int .i64 ST) (o := 0) HF.out rfl
  have f1 := cell_blk (v := .int .u8 NM.a) (o := 1) HF.out rfl
  have f2 := cell_blk (v := .int .u8 NM.b) (o := 2) HF.out rfl
  have f3 := cell_blk (v := .int .u8 NM.c) (o := 3) HF.out rfl
  refine bodyPost_ret (v := .agg #[.int .i64 ST, .int .u8 NM.a, .int .u8 NM.b, .int .u8 NM.c]) (by simp [results, Tryz.results107, go_sem, f0, f1, f2, f3]) rfl ⟨by rw [HKY.out], ?_⟩
  exact (bel_set (bel_set (bel_set (bel_set HB3.out (by omega)) (by omega)) (by omega)) (by omega)).alloc (by have := HB3.out.size; simpa [World.setCell] using this) _

end Go.Proofs.YthciddpljcbhiabGreatDoor

/- Walks: cell.Count, Cells. -/
namespace Go.Proofs.YthciddpljcbhiabGreatDoor
open Go Go.RowKit Go.Lib
attribute [local go_sem ↓] Go.wp_at_zero Go.wp_at_succ

theorem set4_box {w : World} {P : Nat} {k : Ky} (h : w.heap[P]? = some (.cells #[.int .i64 0, .int .u8 0, .int .u8 0, .int .u8 0] 170 (0, 0))) :
    ((((w.setCell ⟨P, 0, none⟩ (.int .i64 k.st)).setCell ⟨P, 1, none⟩ (.int .u8 k.nm.a)).setCell ⟨P, 2, none⟩ (.int .u8 k.nm.b)).setCell ⟨P, 3, none⟩ (.int .u8 k.nm.c)).heap[P]? = some (.cells (kyC k) 170 (0, 0)) := by
  have h0 := heap_setCell (o := 0) (v := (.int .i64 k.st)) h
  have h1 := heap_setCell (o := 1) (v := (.int .u8 k.nm.a)) h0
  have h2 := heap_setCell (o := 2) (v := (.int .u8 k.nm.b)) h1
  have h3 := heap_setCell (o := 3) (v := (.int .u8 k.nm.c)) h2
  simp only [List.setIfInBounds_toArray, List.set_cons_succ, List.set_cons_zero] at h3
  exact h3

set_option maxHeartbeats 2000000 in
set_option maxRecDepth 100000 in
theorem count_any' (c : Cf) (b off n cap : Nat) (now : Int) (pa : Option Addr) (pn pcap base : Nat) (ps : List Pt) (w : World) (hr : c.right = true) (n0 : 0 ≤ now) (n1 : now ≤ 100000) (hn : c.lvs.length = n) (hat : LvAt w b off c.lvs)
    (hown : w.ownsRow base 127 14 (.slice pa pn pcap) pn (flatP ps)) (hpn : ps.length = pn) (hp5 : pn ≤ 500) (hp : ∀ p ∈ ps, PtOk c p) :
    Calls Tryz.prog 83 #[.agg (cfC c b off n cap), .int .i64 now, .slice pa pn pcap] w fun e w' => e = .returned (.int .i64 ((keysK c now ps pn).length : Int)) ∧ Below w.heap.size w w' := by
  have HR : Hid (c.right = true) := hr
  have HN : Hid (c.lvs.length = n) := hn
  have HAT : Hid (LvAt w b off c.lvs) := hat
  have HOW : Hid (w.ownsRow base 127 14 (.slice pa pn pcap) pn (flatP ps)) := hown
  have HPN : Hid (ps.length = pn) := hpn
  have HPO : Hid (∀ p ∈ ps, PtOk c p) := hp
  have hbs : b < w.heap.size := hat.block (by have := (Cf.right_parts hr).2.2.2.2.1; omega)
  obtain ⟨li0, hli, lz0, lz1, lz2⟩ := infP Tryz.info170'
  have HB0 : Hid (Below w.heap.size w (w.alloc (.cells (cfC c b off n cap) 40))) := (Below.refl _ _).alloc (Nat.le_refl _) _
  clear hr hn hat hown hpn hp
  go_enter Tryz.func83, Tryz.ntmps83
  go_wp2_with fail
  go_loopw [7, 8] (fun v i wr => ∃ k : Nat, i = .int .i64 k ∧ k ≤ pn ∧ wr.ownsRow (w.heap.size + 1) 170 4 v (keysK c now ps k).length (flatKy (keysK c now ps k)) ∧ wr.heap[w.heap.size]? = some (.cells (cfC c b off n cap) 40 (0, 0)) ∧ Below w.heap.size w wr) (fun _ i _ => pn - (intOf i).toNat)
  case atStart => exact ⟨0, rfl, Nat.zero_le _, World.ownsRow_nil _ _ _ _, heap_alloc_new w _, HB0.out⟩
  case round =>
    obtain ⟨k, rfl, hk, ho, hC, hB⟩ := hrel
    have HO : Hid (wr.ownsRow (w.heap.size + 1) 170 4 u7 (keysK c now ps k).length (flatKy (keysK c now ps k))) := ho
    have HC : Hid (wr.heap[w.heap.size]? = some (.cells (cfC c b off n cap) 40 (0, 0))) := hC
    have HB : Hid (Below w.heap.size w wr) := hB
    have hkl := keysK_len c now ps k
    obtain ⟨ea, ec, rfl⟩ := ownForm ho
    have x0 : wr.cell? ⟨w.heap.size, 0, none⟩ = some (.int .i64 c.span) := cell_blk (o := 0) hC rfl
    have x1 : wr.cell? ⟨w.heap.size, 1, none⟩ = some (.int .i64 c.keep) := cell_blk (o := 1) hC rfl
    have x2 : wr.cell? ⟨w.heap.size, 2, none⟩ = some (.slice (some ⟨b, off, none⟩) n cap) := cell_blk (o := 2) hC rfl
    have hWr : w.heap.size < wr.heap.size := (Array.getElem?_eq_some_iff.1 hC).1
    clear ho hC hB
    by_cases hlt : k < pn
    · obtain ⟨g, cap', he, _, hgs, hcap⟩ := ownBlockForm HOW.out (by omega)
      obtain ⟨rfl, rfl⟩ : pa = some ⟨g, 0, none⟩ ∧ pcap = cap' := by injection he with h1 h2 h3; exact ⟨h1, h3⟩
      have hpt : PtAt wr g (k * 14) (ptG ps k) := At.below (owns_pt HOW.out k (by rw [HPN.out]; exact hlt)) HB.out hgs
      have HOK := HPO.out (ptG ps k) (by rw [ptG_get ps k (by rw [HPN.out]; exact hlt)]; exact List.getElem_mem _)
      have HSU : Hid (keysK c now ps (k + 1) = keyA (keysK c now ps k) (kyP c now (ptG ps k))) := keysK_succ c now ps k (by rw [HPN.out]; exact hlt)
      generalize ptG ps k = Z at *
      obtain ⟨y0, y1, y2, y3, y4, y5, y6, y7, y8, y9, y10, y11, y12, y13⟩ := PtAt.all hpt
      have HK : Hid (∀ W, Below wr.heap.size wr W → Calls Tryz.prog 107 #[.agg (cfC c b off n cap), .int .i64 now, .agg (ptC Z)] W fun e w' => e = .returned (.agg (kyC (kyP c now Z))) ∧ Below W.heap.size W w') := fun W hW =>
        keyOf_any c b off n cap now Z W HR.out n0 n1 HN.out (HAT.out.below (HB.out.trans (hW.mono (by omega))) hbs) HOK
      have hgr : g < wr.heap.size := by omega
      clear hpt HOK
      generalize kyP c now Z = Y at *
      generalize hE : keysK c now ps k = E at *
      go_upto_region 5 with fail
      go_cut [9] from 10 to 30 (fun v wx => ∃ P, v = .pointer (some ⟨P, 0, none⟩) ∧ wx.heap[P]? = some (.cells (kyC Y) 170 (0, 0)) ∧ wr.heap.size ≤ P ∧ Below wr.heap.size wr wx)
      case first =>
        go_region_with (first
          | (go_at_call 107; refine (HK.out wr.drew (Below.refl _ _).drew).mono ?_; rintro e w' ⟨rfl, hb'⟩; have HB' : Hid (Below wr.heap.size wr w') := ⟨hb'.os, hb'.tape, hb'.output, hb'.size, hb'.block⟩; clear hb')
          | (go_at_call 107; refine (HK.out (wr.alloc (.cells #[.int .i64 0, .int .u8 0, .int .u8 0, .int .u8 0] 170)).drew (((Below.refl _ _).alloc (Nat.le_refl _) _).drew)).mono ?_; rintro e w' ⟨rfl, hb'⟩; have hPw : w'.heap[wr.heap.size]? = some (.cells #[.int .i64 0, .int .u8 0, .int .u8 0, .int .u8 0] 170 (0, 0)) := (hb'.block wr.heap.size (by show wr.heap.size < (wr.alloc _).heap.size; simp)).trans (heap_alloc_new wr _); have HPw : Hid (w'.heap[wr.heap.size]? = some (.cells #[.int .i64 0, .int .u8 0, .int .u8 0, .int .u8 0] 170 (0, 0))) := hPw; have HB2 : Hid (Below wr.heap.size wr w') := ((Below.refl _ _).alloc (Nat.le_refl _) _).trans (Below.mono ⟨hb'.os, hb'.tape, hb'.output, hb'.size, hb'.block⟩ (by show wr.heap.size ≤ (wr.alloc _).heap.size; simp)); have q0 := cell_blk (o := 0) hPw rfl; have q1 := cell_blk (o := 1) hPw rfl; have q2 := cell_blk (o := 2) hPw rfl; have q3 := cell_blk (o := 3) hPw rfl; have qz := fun o => froz_blk (o := o) hPw; clear hb' hPw))
        all_goals go_wp2_with fail
        all_goals go_meet
        all_goals (case rel => first
          | (have h9 := set4_box (k := Y) HPw.out; exact ⟨wr.heap.size, rfl, h9, Nat.le_refl _, bel_set (bel_set (bel_set (bel_set HB2.out (Nat.le_refl _)) (Nat.le_refl _)) (Nat.le_refl _)) (Nat.le_refl _)⟩)
          | (have h9 := HB'.out.size; exact ⟨w'.heap.size, rfl, heap_alloc_new w' _, h9, HB'.out.alloc h9 _⟩))
      case rest =>
        obtain ⟨P, rfl, hP, hPl, hbc⟩ := hcut
        have hPc : P < wc.heap.size := (Array.getElem?_eq_some_iff.1 hP).1
        have HP : Hid (wc.heap[P]? = some (.cells (kyC Y) 170 (0, 0))) := hP
        have HOc : Hid (wc.ownsRow (w.heap.size + 1) 170 4 (.slice ea E.length ec) E.length (flatKy E)) := owns_below HO.out hbc (fun j e => (HO.out.lt j e).2)
        have HCc : Hid (wc.heap[w.heap.size]? = some (.cells (cfC c b off n cap) 40 (0, 0))) := (hbc.block _ hWr).trans HC.out
        have HBc : Hid (Below w.heap.size w wc) := HB.out.trans (hbc.mono (by omega))
        have z0 := cell_blk (o := 0) hP rfl
        have z1 := cell_blk (o := 1) hP rfl
        have z2 := cell_blk (o := 2) hP rfl
        have z3 := cell_blk (o := 3) hP rfl
        have hWc : w.heap.size < wc.heap.size := Nat.lt_of_lt_of_le hWr hbc.size
        clear hP hbc y0 y1 y2 y3 y4 y5 y6 y7 y8 y9 y10 y11 y12 y13 x0 x1 x2
        go_wp2_with fail
        refine (hasK_any ea E.length ec (w.heap.size + 1) E Y wc HOc.out rfl (by omega)).mono ?_
        rintro e w4 ⟨rfl, hb4⟩
        have HO4 : Hid (w4.ownsRow (w.heap.size + 1) 170 4 (.slice ea E.length ec) E.length (flatKy E)) := owns_below HOc.out hb4 (fun j e => (HOc.out.lt j e).2)
        have HC4 : Hid (w4.heap[w.heap.size]? = some (.cells (cfC c b off n cap) 40 (0, 0))) := (hb4.block _ hWc).trans HCc.out
        have HB4 : Hid (Below w.heap.size w w4) := HBc.out.trans (hb4.mono (by omega))
        have HP4 := (hb4.block _ hPc).trans HP.out
        have z0 := cell_blk (o := 0) HP4 rfl
        have z1 := cell_blk (o := 1) HP4 rfl
        have z2 := cell_blk (o := 2) HP4 rfl
        have z3 := cell_blk (o := 3) HP4 rfl
        have hP4 : P < w4.heap.size := Nat.lt_of_lt_of_le hPc hb4.size
        have hW4 : w.heap.size < w4.heap.size := Nat.lt_of_lt_of_le hWc hb4.size
        clear hb4 HP4
        cases hm : decide (Y ∈ E)
        · have HSN : Hid (keyA E Y = E ++ [Y]) := if_neg (of_decide_eq_false hm)
          clear hm
          go_wp2_with (refine listAppend rfl (.tmp 27) (.tmp 29) 168 rfl (w.heap.size + 1) 170 li0 (.agg #[.int .i64 0, .int .u8 0, .int .u8 0, .int .u8 0]) 4 16 Tryz.underlying168 hli lz0 lz1 lz2 rfl (by decide) (.slice ea E.length ec) E.length (flatKy E) (by simp [Act.eval]) (HO4.out.alloc _) ⟨w4.heap.size, 0, none⟩ 1 1 (Ky.cells Y) (by simp [Act.eval]) rfl (newAt _ (Ky.cells Y) 170 _ rfl) (Ky.one _) (by unfold maxLen; omega) (by omega) (by simp; omega) ?_; intro v' w5 hown hgrow hblk)
          have HOW5 : Hid (w5.ownsRow (w.heap.size + 1) 170 4 v' (keysK c now ps (k + 1)).length (flatKy (keysK c now ps (k + 1)))) := by
            show World.ownsRow _ _ _ _ _ _ _
            rw [HSU.out, HSN.out, List.length_append, show flatKy (E ++ [Y]) = flatKy E ++ Y.cells from flat_snoc _ _ _]
            exact hown
          have HB5 : Hid (Below w.heap.size w w5) := gr_below (HB4.out.alloc (by omega) _) hgrow (by simp; omega) (fun j e => by have := (HO4.out.lt j e).1; omega)
          have HC5 : Hid (w5.heap[w.heap.size]? = some (.cells (cfC c b off n cap) 40 (0, 0))) := by
            show _ = _
            rw [hgrow.block w.heap.size (by simp; omega) (fun e => by have := (HO4.out.lt _ e.symm).1; omega), Below.heap_alloc _ _ _ hW4]
            exact HC4.out
          clear hown hgrow hblk
          go_wp2_with fail
          exact ⟨⟨k + 1, by go_num, by omega, HOW5.out, HC5.out, HB5.out⟩, by simp [intOf]; omega⟩
        · have HSN : Hid (keyA E Y = E) := if_pos (of_decide_eq_true hm)
          clear hm
          go_wp2_with fail
          exact ⟨⟨k + 1, by go_num, by omega, by rw [HSU.out, HSN.out]; exact HO4.out, HC4.out, HB4.out⟩, by simp [intOf]; omega⟩
    · have hlt2 : ¬ (k : Int) < pn := by omega
      have hke : k = pn := by omega
      subst hke
      go_wp2_with fail
      go_ret
      exact ⟨rfl, HB.out⟩

end Go.Proofs.YthciddpljcbhiabGreatDoor

/- Walks: Cells; what a store tells; do two stores tell the same (garnerkeep). -/
namespace Go.Proofs.YthciddpljcbhiabGreatDoor
open Go Go.RowKit Go.Lib
attribute [local go_sem ↓] Go.wp_at_zero Go.wp_at_succ

set_option maxHeartbeats 1000000 in
theorem cells_any (X : Nat) (F : Nat → Prop) (s : St) (lg : ByteArray) (w : World) (h : StoreAt w X F s lg) : Calls Tryz.prog 50 #[.pointer (some ⟨X, 0, none⟩)] w fun e w' => e = .returned (.int .i64 (cellsN s : Int)) ∧ Below w.heap.size w w' := by
  obtain ⟨L, lcap, pv, bv, bk, gv, h⟩ := h
  obtain ⟨pa, pcap, rfl⟩ := ownForm h.pts
  have c0 := h.cell 0 _ rfl
  have c1 := h.cell 1 _ rfl
  have c2 := h.cell 2 _ rfl
  have c3 := h.cell 3 _ rfl
  have c5 := h.cell 5 _ rfl
  have HK : Hid (∀ d, Calls Tryz.prog 83 #[.agg (cfC s.c L 0 s.c.lvs.length lcap), .int .i64 s.now, .slice pa s.pts.length pcap] (w.drewN d) fun e w' => e = .returned (.int .i64 (cellsN s : Int)) ∧ Below w.heap.size w w') := fun d => by
    have hd : Below w.heap.size w (w.drewN d) := below_drewN (Below.refl _ _) d
    refine (count_any' s.c L 0 s.c.lvs.length lcap s.now pa s.pts.length pcap 0 s.pts (w.drewN d) h.inv.right h.inv.n0 h.inv.n1 rfl (h.lv.below hd h.Llt) (owns_drewN h.pts d) rfl (pts_len h.inv) (pts_ok h.inv)).mono ?_
    rintro e w' ⟨rfl, hb⟩
    exact ⟨rfl, hd.trans hb⟩
  have HK0 : Hid (Calls Tryz.prog 83 #[.agg (cfC s.c L 0 s.c.lvs.length lcap), .int .i64 s.now, .slice pa s.pts.length pcap] w.drew fun e w' => e = .returned (.int .i64 (cellsN s : Int)) ∧ Below w.heap.size w w') := by
    have hd : Below w.heap.size w w.drew := (Below.refl _ _).drew
    refine (count_any' s.c L 0 s.c.lvs.length lcap s.now pa s.pts.length pcap 0 s.pts w.drew h.inv.right h.inv.n0 h.inv.n1 rfl (h.lv.below hd h.Llt) (owns_drew h.pts) rfl (pts_len h.inv) (pts_ok h.inv)).mono ?_
    rintro e w' ⟨rfl, hb⟩
    exact ⟨rfl, hd.trans hb⟩
  clear h
  go_enter Tryz.func50, Tryz.ntmps50
  go_wp2_with fail
  go_region_with (go_at_call 83; refine HK0.out.mono ?_; rintro e w' ⟨rfl, hb⟩)
  all_goals go_wp2_with fail
  all_goals go_ret
  all_goals exact ⟨rfl, hb⟩

end Go.Proofs.YthciddpljcbhiabGreatDoor

/- Walks: the document's series of all samples (garnerref): the walk. -/
namespace Go.Proofs.YthciddpljcbhiabGreatDoor
open Go Go.RowKit Go.Lib

theorem admRow_nil (lvs : List Lv) : ∀ now, admRow lvs [] now = admRow lvs (List.replicate lvs.length []) now := by
  induction lvs with
  | nil => intro now; rfl
  | cons lv lvs ih =>
    intro now
    show (if now = over then [] :: admRow lvs [] over else if madeL lv.rule now ∈ ([] : List Lb) then [] :: admRow lvs [] (madeL lv.rule now) else if (([] : List Lb).length : Int) < lv.limit then ([] ++ [madeL lv.rule now]) :: admRow lvs [] (madeL lv.rule now) else [] :: admRow lvs [] over) = _
    rw [ih, ih]
    rfl
theorem serNow_nil (lvs : List Lv) : ∀ now, serNow lvs [] now = serNow lvs (List.replicate lvs.length []) now := by
  induction lvs with
  | nil => intro now; rfl
  | cons lv lvs ih =>
    intro now
    show (if now = over then over :: serNow lvs [] over else if madeL lv.rule now ∈ ([] : List Lb) then madeL lv.rule now :: serNow lvs [] (madeL lv.rule now) else if (([] : List Lb).length : Int) < lv.limit then madeL lv.rule now :: serNow lvs [] (madeL lv.rule now) else over :: serNow lvs [] over) = _
    rw [ih, ih]
    rfl
/-- What is admitted behind the first k samples, and their series. -/
def admK (lvs : List Lv) (l : List Sm) (k : Nat) : List (List Lb) := admAll lvs (List.replicate lvs.length []) (l.take k)
def serK (lvs : List Lv) (l : List Sm) (k : Nat) : List (List Lb) := serAll lvs (List.replicate lvs.length []) (l.take k)
theorem serK_all (lvs : List Lv) (l : List Sm) : serK lvs l l.length = serAll lvs [] l := by
  unfold serK
  rw [List.take_length]
  cases l with
  | nil => rfl
  | cons x l =>
    show serNow lvs (List.replicate lvs.length []) x.lb :: serAll lvs (admRow lvs (List.replicate lvs.length []) x.lb) l = serNow lvs [] x.lb :: serAll lvs (admRow lvs [] x.lb) l
    rw [← serNow_nil, ← admRow_nil]
theorem admK_len (lvs : List Lv) (l : List Sm) (k : Nat) : (admK lvs l k).length = lvs.length := by
  unfold admK
  have : ∀ (l : List Sm) (A : List (List Lb)), A.length = lvs.length → (admAll lvs A l).length = lvs.length := by
    intro l
    induction l with
    | nil => intro A h; exact h
    | cons x l ih => intro A h; exact ih _ (admRow_len _ _ _)
  exact this _ _ (by simp)
theorem admK_succ (lvs : List Lv) (l : List Sm) (k : Nat) (h : k < l.length) : admK lvs l (k + 1) = admRow lvs (admK lvs l k) (smG l k).lb := by
  unfold admK
  rw [List.take_succ_eq_append_getElem h, admAll_append, smG_get l k h]
  rfl
theorem serK_succ (lvs : List Lv) (l : List Sm) (k : Nat) (h : k < l.length) : serK lvs l (k + 1) = serK lvs l k ++ [serNow lvs (admK lvs l k) (smG l k).lb] := by
  unfold serK admK
  rw [List.take_succ_eq_append_getElem h, serAll_append, smG_get l k h]
  rfl
theorem admK_fits (lvs : List Lv) (l : List Sm) (hl : ∀ j, j < lvs.length → 1 ≤ (lvG lvs j).limit) : ∀ k, k ≤ l.length → Fits lvs (admK lvs l k)
  | 0, _ => by
    intro j hj
    have : aG (admK lvs l 0) j = [] := by
      show aG (List.replicate lvs.length []) j = []
      simp [aG, List.getD, hj]
    rw [this]
    have := hl j hj
    simp; omega
  | k + 1, h => by
    have h1 := admK_fits lvs l hl k (by omega)
    rw [admK_succ lvs l k (by omega)]
    have h2 := runA_fits lvs (admK lvs l k) (smG l k).lb (admK_len _ _ _) h1 lvs.length (Nat.le_refl _)
    rw [(runA_all lvs (admK lvs l k) (smG l k).lb (admK_len _ _ _)).1] at h2
    exact h2
theorem right_more {c : Cf} (h : c.right = true) : ∀ j, j < c.lvs.length → (lvG c.lvs j).rule.size = 3 ∧ 1 ≤ (lvG c.lvs j).limit ∧ (lvG c.lvs j).limit ≤ 20 := by
  simp only [Cf.right, rightB, Bool.and_eq_true, decide_eq_true_eq] at h
  obtain ⟨_, h9⟩ := h
  intro j hj
  have s := (okSer_iff _ _).1 (List.all_eq_true.1 h9 j (List.mem_range.2 hj))
  refine ⟨?_, s.2.1, s.2.2⟩
  by_cases h3 : (lvG c.lvs j).rule.size = 3
  · exact h3
  · have := ruleB_size h3
    rw [this] at s
    exact absurd s.1 (by simp)
theorem set_aG (A : List (List Lb)) (j : Nat) (h : j < A.length) : A.set j (aG A j) = A := by
  apply List.ext_getElem?
  intro i
  rw [List.getElem?_set]
  by_cases e : j = i
  · subst e; simp [h, aG, List.getD]
  · simp [e]
theorem lbC_one (m : Lb) : ∀ u ∈ lbC m, u.oneCell' = true := by
  intro u hu
  simp [lbC] at hu
  rcases hu with rfl | rfl | rfl <;> rfl
/-- The rows of series as they came out. -/
def SerAt (w : World) (base : Nat) (ov : Value) (rs : List Value) (S : List (List Lb)) (n : Nat) : Prop :=
  w.ownsRow 0 144 1 ov rs.length rs ∧ rs.length = S.length ∧ (∀ k, ov.ownBlock = some k → base ≤ k) ∧ ∀ i, i < rs.length → ∃ b cap, vG rs i = .slice (some ⟨b, 0, none⟩) n cap ∧ base ≤ b ∧ At w b 0 (flatL (aG S i)) ∧ (aG S i).length = n
theorem SrS.ser {w : World} {base : Nat} {ow : Nat → Nat} {G : Nat} {vs : List Value} {L : List (List Lb)} {ov : Value} {rs : List Value} {S : List (List Lb)} {n : Nat} (h : SrS w base ow G vs L ov rs S n) : SerAt w base ov rs S n := by
  have hb : ∀ k, ow k ≠ 0 → base ≤ k := fun k hk => by
    by_cases hlt : k < base
    · exact absurd (h.low k hlt) hk
    · omega
  refine ⟨h.orow, h.lS, fun k e => hb k (by rw [h.oO k e]; omega), fun i hi => ?_⟩
  obtain ⟨b, cap, e1, e2, e3, e4⟩ := h.row i hi
  exact ⟨b, cap, e1, hb b (by omega), e3, e4⟩
theorem SrS.new (w : World) (n : Nat) : SrS (w.alloc (.cells (List.replicate n (.slice none 0 0)).toArray 144)) w.heap.size (fun k => if k = w.heap.size then 1 else 0) w.heap.size (List.replicate n (.slice none 0 0)) (List.replicate n []) (.slice none 0 0) [] [] n := by
  have hn : ∀ (k : Nat), (Value.slice none 0 0).ownBlock ≠ some k := fun k => by simp [Value.ownBlock]
  have hv : ∀ j, vG (List.replicate n (.slice none 0 0)) j = .slice none 0 0 := fun j => by
    unfold vG
    simp only [List.getD, List.getElem?_replicate]
    split <;> rfl
  have ha : ∀ j, aG (List.replicate n []) j = [] := fun j => by
    unfold aG
    simp only [List.getD, List.getElem?_replicate]
    split <;> rfl
  exact {
    out := fun k hk => by
      rw [World.size_alloc] at hk
      exact if_neg (by omega)
    low := fun k hk => if_neg (by omega)
    bas := by rw [World.size_alloc]; omega
    blk := heap_alloc_new _ _
    lv := by simp
    lL := by simp
    oG := if_pos rfl
    adm := fun j _ => by rw [hv, ha]; exact World.ownsRow_nil _ _ _ _
    oA := fun j _ k e => by rw [hv] at e; exact absurd e (hn k)
    orow := World.ownsRow_nil _ _ _ _
    oO := fun k e => absurd e (hn k)
    lS := rfl
    row := fun i hi => by simp at hi }

set_option maxHeartbeats 4000000 in
set_option maxRecDepth 100000 in
theorem series_ref (R : Nat) (F : Nat → Prop) (c : Cf) (ps : List Cp) (L lcap : Nat) (cv : Value) (a : Option Addr) (m cap : Nat) (l : List Sm) (w : World) (h : RfS w R F c ps L lcap cv) (hs : IsSms w a m l) (hm : m ≤ 500) (hlab : ∀ x ∈ l, lab3 x.l0 x.l1 x.l2 = true) (hov : OvAt w) :
    Calls Tryz.prog 79 #[.pointer (some ⟨R, 0, none⟩), .slice a m cap] w fun e w' => ∃ ov rs, e = .returned ov ∧ SerAt w' w.heap.size ov rs (serAll c.lvs [] l) c.lvs.length ∧ Below w.heap.size w w' := by
  obtain ⟨_, _, _, _, l1, l4, hlv⟩ := Cf.right_parts (rf_right h)
  have HRUL : Hid (∀ j, j < c.lvs.length → (lvG c.lvs j).rule.size = 3 ∧ 1 ≤ (lvG c.lvs j).limit ∧ (lvG c.lvs j).limit ≤ 20) := right_more (rf_right h)
  have HRF : Hid (RfS w R F c ps L lcap cv) := h
  have HS : Hid (IsSms w a m l) := hs
  have HML : Hid (l.length = m) := hs.1
  have HLAB : Hid (∀ x ∈ l, lab3 x.l0 x.l1 x.l2 = true) := hlab
  have HOV : Hid (OvAt w) := hov
  have hpos := hov.pos
  have c2 := h.cell 2 _ rfl
  have HFIT : Hid (∀ k, k ≤ l.length → Fits c.lvs (admK c.lvs l k)) := admK_fits c.lvs l (fun j hj => (hlv j hj).2.2.2)
  obtain ⟨Z, hZ⟩ : ∃ Z, Z = (List.replicate c.lvs.length (Value.slice none 0 0)).toArray := ⟨_, rfl⟩
  have hmk := make140 c.lvs.length (by omega)
  have HNEW : Hid (SrS (w.alloc (.cells Z 144)) w.heap.size (fun k => if k = w.heap.size then 1 else 0) w.heap.size (List.replicate c.lvs.length (.slice none 0 0)) (admK c.lvs l 0) (.slice none 0 0) [] (serK c.lvs l 0) c.lvs.length) := by rw [hZ]; exact SrS.new w c.lvs.length
  rw [← hZ] at hmk
  have HBN : Hid (Below w.heap.size w (w.alloc (.cells Z 144))) := (Below.refl _ _).alloc (Nat.le_refl _) _
  obtain ⟨li0, hli, lz0, lz1, lz2⟩ := infP Tryz.info42'
  obtain ⟨ri0, hri, rz0, rz1, rz2⟩ := infP Tryz.info144'
  clear h hs hlab hov hlv hZ
  go_enter Tryz.func79, Tryz.ntmps79
  go_wp2_with fail
  generalize hN : c.lvs.length = n at *
  go_loopw [6, 7] (fun ov i wr => ∃ (k : Nat) (ow : Nat → Nat) (vs rs : List Value), i = .int .i64 k ∧ k ≤ m ∧ SrS wr w.heap.size ow w.heap.size vs (admK c.lvs l k) ov rs (serK c.lvs l k) n ∧ Below w.heap.size w wr) (fun _ i _ => m - (intOf i).toNat)
  case atStart => exact ⟨0, _, _, _, rfl, Nat.zero_le _, HNEW.out, HBN.out⟩
  case round =>
    obtain ⟨k, ow, vs, rs, rfl, hk, hsr, hbe⟩ := hrel
    rename World => V
    have HSR : Hid (SrS V w.heap.size ow w.heap.size vs (admK c.lvs l k) u6 rs (serK c.lvs l k) n) := hsr
    have HBE : Hid (Below w.heap.size w V) := hbe
    clear hsr hbe HNEW HBN
    by_cases hlt : k < m
    · obtain ⟨b, off, rfl, hat⟩ := HS.out.2 (by omega)
      obtain ⟨_, s1, s2, s3, _⟩ := hat k (by rw [HML.out]; exact hlt)
      have hbw : b < w.heap.size := hat.block (by rw [HML.out]; omega)
      have hlb : lab3 (smG l k).l0 (smG l k).l1 (smG l k).l2 = true := HLAB.out _ (by rw [smG_get l k (by rw [HML.out]; exact hlt)]; exact List.getElem_mem _)
      have y1 : V.cell? ⟨b, off + k * 5 + 1, none⟩ = some (.int .u8 (smG l k).l0) := (HBE.out.cell (p := ⟨b, off + k * 5 + 1, none⟩) hbw).trans s1
      have y2 : V.cell? ⟨b, off + k * 5 + 2, none⟩ = some (.int .u8 (smG l k).l1) := (HBE.out.cell (p := ⟨b, off + k * 5 + 2, none⟩) hbw).trans s2
      have y3 : V.cell? ⟨b, off + k * 5 + 3, none⟩ = some (.int .u8 (smG l k).l2) := (HBE.out.cell (p := ⟨b, off + k * 5 + 3, none⟩) hbw).trans s3
      have hzV := HBE.out.size
      have hbV : Below V.heap.size V (V.alloc (.cells #[.int .u8 (smG l k).l0, .int .u8 (smG l k).l1, .int .u8 (smG l k).l2] 42)) := (Below.refl _ _).alloc (Nat.le_refl _) _
      have HIN : Hid (LvIn (V.alloc (.cells #[.int .u8 (smG l k).l0, .int .u8 (smG l k).l1, .int .u8 (smG l k).l2] 42)) w.heap.size (upd ow V (V.alloc (.cells #[.int .u8 (smG l k).l0, .int .u8 (smG l k).l1, .int .u8 (smG l k).l2] 42)) 5) w.heap.size vs (runA c.lvs (admK c.lvs l k) (smG l k).lb 0).1 u6 rs (serK c.lvs l k) n V.heap.size (runA c.lvs (admK c.lvs l k) (smG l k).lb 0).2.1 (.slice none 0 0) (runA c.lvs (admK c.lvs l k) (smG l k).lb 0).2.2) :=
        { sr := HSR.out.other (.inr rfl) (Fr.of_below hbV), nb := heap_alloc_new _ _, oN := by unfold upd; rw [if_pos ⟨Nat.le_refl _, by rw [World.size_alloc]; omega⟩], rw' := World.ownsRow_nil _ _ _ _, oR := fun k e => by simp [Value.ownBlock] at e }
      have HBV : Hid (Below w.heap.size w (V.alloc (.cells #[.int .u8 (smG l k).l0, .int .u8 (smG l k).l1, .int .u8 (smG l k).l2] 42))) := HBE.out.trans (hbV.mono hzV)
      clear hat s1 s2 s3 hbV
      go_wp2_with fail
      go_loopw [8, 10] (fun rv j wx => ∃ (jj : Nat) (ow' : Nat → Nat) (vs' : List Value), j = .int .i64 jj ∧ jj ≤ n ∧ LvIn wx w.heap.size ow' w.heap.size vs' (runA c.lvs (admK c.lvs l k) (smG l k).lb jj).1 u6 rs (serK c.lvs l k) n V.heap.size (runA c.lvs (admK c.lvs l k) (smG l k).lb jj).2.1 rv (runA c.lvs (admK c.lvs l k) (smG l k).lb jj).2.2 ∧ Below w.heap.size w wx) (fun _ j _ => n - (intOf j).toNat)
      case atStart => exact ⟨0, _, _, rfl, Nat.zero_le _, HIN.out, HBV.out⟩
      case round =>
        obtain ⟨jj, ow', vs', rfl, hj, hin, hbx⟩ := hrel
        rename World => wx
        have HI : Hid (LvIn wx w.heap.size ow' w.heap.size vs' (runA c.lvs (admK c.lvs l k) (smG l k).lb jj).1 u6 rs (serK c.lvs l k) n V.heap.size (runA c.lvs (admK c.lvs l k) (smG l k).lb jj).2.1 u8 (runA c.lvs (admK c.lvs l k) (smG l k).lb jj).2.2) := hin
        have HBX : Hid (Below w.heap.size w wx) := hbx
        clear hin hbx HIN HBV
        have d2 : wx.cell? ⟨R, 2, none⟩ = some (.slice (some ⟨L, 0, none⟩) n lcap) := by have h9 : wx.cell? ⟨R, 2, none⟩ = some (.slice (some ⟨L, 0, none⟩) c.lvs.length lcap) := (HRF.out.below HBX.out).cell 2 _ rfl; rw [hN] at h9; exact h9
        by_cases hlj : jj < n
        · have HSUC : Hid (runA c.lvs (admK c.lvs l k) (smG l k).lb (jj + 1) = ((runA c.lvs (admK c.lvs l k) (smG l k).lb jj).1.set jj (stpA (lvG c.lvs jj) (aG (runA c.lvs (admK c.lvs l k) (smG l k).lb jj).1 jj) (runA c.lvs (admK c.lvs l k) (smG l k).lb jj).2.1), stpN (lvG c.lvs jj) (aG (runA c.lvs (admK c.lvs l k) (smG l k).lb jj).1 jj) (runA c.lvs (admK c.lvs l k) (smG l k).lb jj).2.1, (runA c.lvs (admK c.lvs l k) (smG l k).lb jj).2.2 ++ [stpN (lvG c.lvs jj) (aG (runA c.lvs (admK c.lvs l k) (smG l k).lb jj).1 jj) (runA c.lvs (admK c.lvs l k) (smG l k).lb jj).2.1])) := rfl
          have hfit : (((aG (runA c.lvs (admK c.lvs l k) (smG l k).lb jj).1 jj).length : Nat) : Int) ≤ (lvG c.lvs jj).limit := runA_fits c.lvs _ _ (by rw [admK_len]) (HFIT.out k (by rw [HML.out]; omega)) jj (by omega) jj (by omega)
          have hpl : (runA c.lvs (admK c.lvs l k) (smG l k).lb jj).2.2.length = jj := (runA_len _ _ _ jj).2
          have hokN : okS (runA c.lvs (admK c.lvs l k) (smG l k).lb jj).2.1 := runA_ok _ _ _ (.inr hlb) jj
          obtain ⟨hr3, hl1, hl20⟩ := HRUL.out jj (by omega)
          obtain ⟨_, _, a2, a3⟩ := (HRF.out.below HBX.out).lv jj (by omega)
          simp only [Nat.zero_add] at a2 a3
          obtain ⟨g0, g1, g2⟩ := HOV.out.below HBX.out hpos
          generalize runA c.lvs (admK c.lvs l k) (smG l k).lb jj = ra at *
          obtain ⟨A', nw, pre⟩ := ra
          simp only at HI HSUC hfit hpl hokN
          have n0 : wx.cell? ⟨V.heap.size, 0, none⟩ = some (.int .u8 nw.a) := cell_blk HI.out.nb rfl
          have n1 : wx.cell? ⟨V.heap.size, 1, none⟩ = some (.int .u8 nw.b) := cell_blk HI.out.nb rfl
          have n2 : wx.cell? ⟨V.heap.size, 2, none⟩ = some (.int .u8 nw.c) := cell_blk HI.out.nb rfl
          have hjI : (jj : Int) < (n : Int) := by omega
          have heq := fun w => eq26 9998 nw.a nw.b nw.c 42 42 42 w
          rw [show (nw.a == 42 && nw.b == 42 && nw.c == 42) = decide (nw = over) from lb_beq over nw] at heq
          obtain ⟨bd, hbd⟩ : ∃ bd, bd = decide (nw = over) := ⟨_, rfl⟩
          rw [← hbd] at heq
          have HBD : Hid (bd = decide (nw = over)) := hbd
          clear hbd
          go_upto_if 42 with fail
          go_cut [] from 30 to 92 (fun wz => ∃ (ow2 : Nat → Nat) (vs2 : List Value), LvIn wz w.heap.size ow2 w.heap.size vs2 (A'.set jj (stpA (lvG c.lvs jj) (aG A' jj) nw)) u6 rs (serK c.lvs l k) n V.heap.size (stpN (lvG c.lvs jj) (aG A' jj) nw) u8 pre ∧ Below w.heap.size w wz)
          case first =>
            have HJA : Hid (jj < A'.length) := by show _ < _; rw [HI.out.sr.lL]; exact hlj
            cases bd
            case true =>
              have HR : Hid (stpA (lvG c.lvs jj) (aG A' jj) nw = aG A' jj ∧ stpN (lvG c.lvs jj) (aG A' jj) nw = nw) := by
                have hov : nw = over := by simpa using HBD.out.symm
                exact ⟨if_pos hov, by unfold stpN; rw [if_pos hov]; exact hov.symm⟩
              go_wp2_with fail
              go_meet
              case rel => exact ⟨ow', vs', by rw [HR.out.1, HR.out.2, set_aG _ _ HJA.out]; exact HI.out, HBX.out⟩
            case false =>
              have HNO : Hid (¬ nw = over) := by show ¬ _; simpa using HBD.out.symm
              have hlab : lab3 nw.a nw.b nw.c = true := hokN.resolve_left HNO.out
              have z0 : wx.frozen? ⟨V.heap.size, 0, none⟩ = false := froz_blk HI.out.nb
              have z1 : wx.frozen? ⟨V.heap.size, 1, none⟩ = false := froz_blk HI.out.nb
              have z2 : wx.frozen? ⟨V.heap.size, 2, none⟩ = false := froz_blk HI.out.nb
              have hNl := HI.out.Nlt
              have HMD := fun W => made_any (lvG c.lvs jj).rule nw.a nw.b nw.c W hr3 hlab
              have HMM : Hid (∀ W, Calls Tryz.prog 62 #[.string (lvG c.lvs jj).rule, .agg #[.int .u8 nw.a, .int .u8 nw.b, .int .u8 nw.c]] W fun e w' => e = .returned (.agg #[.int .u8 (madeL (lvG c.lvs jj).rule nw).a, .int .u8 (madeL (lvG c.lvs jj).rule nw).b, .int .u8 (madeL (lvG c.lvs jj).rule nw).c]) ∧ w' = (W.alloc (c3 (madeL (lvG c.lvs jj).rule nw).a (madeL (lvG c.lvs jj).rule nw).b (madeL (lvG c.lvs jj).rule nw).c)).alloc (c3 (madeL (lvG c.lvs jj).rule nw).a (madeL (lvG c.lvs jj).rule nw).b (madeL (lvG c.lvs jj).rule nw).c)) := HMD
              clear HMD
              generalize hMM : madeL (lvG c.lvs jj).rule nw = mm at *
              go_upto_region 12 with fail
              go_cut [] from 30 to 92 (fun wz => LvIn wz w.heap.size ow' w.heap.size vs' A' u6 rs (serK c.lvs l k) n V.heap.size mm u8 pre ∧ Below w.heap.size w wz)
              case first =>
                go_region_with (go_at_call 62; refine (HMM.out _).mono ?_; rintro e w' ⟨rfl, rfl⟩)
                all_goals go_wp2_with fail
                all_goals go_meet
                all_goals (case rel => exact ⟨(HI.out.setB mm _ _).1, HBX.out.trans (HI.out.setB mm _ _).2⟩)
              case rest =>
                obtain ⟨hin2, hb2⟩ := hcut
                have HI2 : Hid (LvIn wc w.heap.size ow' w.heap.size vs' A' u6 rs (serK c.lvs l k) n V.heap.size mm u8 pre) := hin2
                have HB2 : Hid (Below w.heap.size w wc) := hb2
                have hadm := hin2.sr.adm jj hlj
                obtain ⟨va, vcap, ev⟩ := ownForm hadm
                have cj : wc.cell? ⟨w.heap.size, jj, none⟩ = some (.slice va (aG A' jj).length vcap) := by
                  rw [← ev]
                  exact cell_blk hin2.sr.blk (by rw [List.getElem?_toArray]; exact vG_get _ _ (by rw [hin2.sr.lv]; exact hlj))
                have m0 : wc.cell? ⟨V.heap.size, 0, none⟩ = some (.int .u8 mm.a) := cell_blk hin2.nb rfl
                have m1 : wc.cell? ⟨V.heap.size, 1, none⟩ = some (.int .u8 mm.b) := cell_blk hin2.nb rfl
                have m2 : wc.cell? ⟨V.heap.size, 2, none⟩ = some (.int .u8 mm.c) := cell_blk hin2.nb rfl
                have HEV : Hid (vG vs' jj = .slice va (aG A' jj).length vcap) := ev
                have hlenA : (aG A' jj).length ≤ 20 := by omega
                have HATA : Hid (∀ W, Below wc.heap.size wc W → 0 < (aG A' jj).length → ∃ b off, va = some ⟨b, off, none⟩ ∧ At W b off (flatL (aG A' jj))) := fun W hW h0 => by
                  rw [ev] at hadm
                  obtain ⟨g, cap', e', _, _, _⟩ := ownBlockForm hadm h0
                  injection e' with e1 _ _
                  subst e1
                  exact ⟨g, 0, rfl, fun i v hi => (hW.cell (p := ⟨g, 0 + i, none⟩) (World.block_lt_of_cell? wc _ (owns_at hadm i v hi))).trans (owns_at hadm i v hi)⟩
                clear hin2 hb2 hadm ev n0 n1 n2 z0 z1 z2 g0 g1 g2 d2 a2 a3 hNl HMM HI HBX
                have q0 : wc.drew.cell? ⟨w.heap.size, jj, none⟩ = some (.slice va (aG A' jj).length vcap) := cj
                have q1 : wc.drew.cell? ⟨V.heap.size, 0, none⟩ = some (.int .u8 mm.a) := m0
                have q2 : wc.drew.cell? ⟨V.heap.size, 1, none⟩ = some (.int .u8 mm.b) := m1
                have q3 : wc.drew.cell? ⟨V.heap.size, 2, none⟩ = some (.int .u8 mm.c) := m2
                have hGl : w.heap.size < wc.drew.heap.size := HI2.out.sr.Glt
                have hNl2 : V.heap.size < wc.drew.heap.size := HI2.out.Nlt
                have hJI : (jj : Int) < (n : Int) := by omega
                go_upto_region 13 with fail
                go_cut [11] from 30 to 92 (fun v wz => v = .bool (decide (mm ∈ aG A' jj)) ∧ LvIn wz w.heap.size ow' w.heap.size vs' A' u6 rs (serK c.lvs l k) n V.heap.size mm u8 pre ∧ Below w.heap.size w wz)
                case first =>
                  go_region_held3 (fun w' => w'.cell? ⟨w.heap.size, jj, none⟩ = some (.slice va (aG A' jj).length vcap) ∧ w'.cell? ⟨V.heap.size, 0, none⟩ = some (.int .u8 mm.a) ∧ w'.cell? ⟨V.heap.size, 1, none⟩ = some (.int .u8 mm.b) ∧ w'.cell? ⟨V.heap.size, 2, none⟩ = some (.int .u8 mm.c)) (first | exact ⟨q0, q1, q2, q3⟩ | exact ⟨y0, y1', y2', y3'⟩)
                    (first | (go_at_call 105; refine (among_ref va (aG A' jj).length vcap (aG A' jj) mm _ rfl (HATA.out _ (Below.refl _ _).drew) (by omega)).mono ?_; rintro e w' ⟨rfl, hb'⟩; have y0 := (hb'.cell (p := ⟨w.heap.size, jj, none⟩) hGl).trans q0; have y1' := (hb'.cell (p := ⟨V.heap.size, 0, none⟩) hNl2).trans q1; have y2' := (hb'.cell (p := ⟨V.heap.size, 1, none⟩) hNl2).trans q2; have y3' := (hb'.cell (p := ⟨V.heap.size, 2, none⟩) hNl2).trans q3))
                  all_goals go_wp2_with fail
                  all_goals go_meet
                  all_goals (case rel => exact ⟨rfl, HI2.out.below ⟨hb'.os, hb'.tape, hb'.output, hb'.size, hb'.block⟩, HB2.out.trans (Below.mono ⟨hb'.os, hb'.tape, hb'.output, hb'.size, hb'.block⟩ HI2.out.sr.bas)⟩)
                case rest =>
                  obtain ⟨rfl, hin3, hb3⟩ := hcut
                  clear q0 q1 q2 q3 cj m0 m1 m2 hGl hNl2 HATA HI2 HB2
                  rename World => we
                  have HI3 : Hid (LvIn we w.heap.size ow' w.heap.size vs' A' u6 rs (serK c.lvs l k) n V.heap.size mm u8 pre) := hin3
                  have HB3 : Hid (Below w.heap.size w we) := hb3
                  clear hin3 hb3
                  generalize hbm : decide (mm ∈ aG A' jj) = bm at *
                  have HBM : Hid (decide (mm ∈ aG A' jj) = bm) := hbm
                  clear hbm
                  cases bm
                  case true =>
                    have HR : Hid (stpA (lvG c.lvs jj) (aG A' jj) nw = aG A' jj ∧ stpN (lvG c.lvs jj) (aG A' jj) nw = mm) := by
                      have hmem : madeL (lvG c.lvs jj).rule nw ∈ aG A' jj := by rw [hMM]; simpa using HBM.out
                      exact ⟨by unfold stpA; rw [if_neg HNO.out, if_pos hmem], by unfold stpN; rw [if_neg HNO.out, if_pos hmem, hMM]⟩
                    go_wp2_with fail
                    go_meet
                    case rel => exact ⟨ow', vs', by rw [HR.out.1, HR.out.2, set_aG _ _ HJA.out]; exact HI3.out, HB3.out⟩
                  case false =>
                    have hadm := HI3.out.sr.adm jj hlj
                    rw [HEV.out] at hadm
                    have cj : we.cell? ⟨w.heap.size, jj, none⟩ = some (.slice va (aG A' jj).length vcap) := by
                      rw [← HEV.out]
                      exact cell_blk HI3.out.sr.blk (by rw [List.getElem?_toArray]; exact vG_get _ _ (by rw [HI3.out.sr.lv]; exact hlj))
                    have e2 : we.cell? ⟨R, 2, none⟩ = some (.slice (some ⟨L, 0, none⟩) n lcap) := by have h9 : we.cell? ⟨R, 2, none⟩ = some (.slice (some ⟨L, 0, none⟩) c.lvs.length lcap) := (HRF.out.below HB3.out).cell 2 _ rfl; rw [hN] at h9; exact h9
                    obtain ⟨_, _, _, a3⟩ := (HRF.out.below HB3.out).lv jj (by omega)
                    simp only [Nat.zero_add] at a3
                    have HADM : Hid (we.ownsRow 0 42 3 (.slice va (aG A' jj).length vcap) (aG A' jj).length (flatL (aG A' jj))) := hadm
                    clear hadm
                    go_upto_region 16 with fail
                    go_cut [63] from 30 to 92 (fun v wz => v = .bool (decide (((aG A' jj).length : Int) < (lvG c.lvs jj).limit)) ∧ ∃ d, wz = we.drewN d)
                    case first =>
                      go_quiet (fail)
                      go_wp2_with fail
                      go_meet
                      case rel => exact ⟨rfl, _, rfl⟩
                    case rest =>
                      obtain ⟨rfl, dd, hwc⟩ := hcut
                      have HI4 : Hid (LvIn wc w.heap.size ow' w.heap.size vs' A' u6 rs (serK c.lvs l k) n V.heap.size mm u8 pre) := by rw [hwc]; exact HI3.out.below (below_drewN (Below.refl _ _) _)
                      have HB4 : Hid (Below w.heap.size w wc) := by rw [hwc]; exact below_drewN HB3.out _
                      have cj4 : wc.cell? ⟨w.heap.size, jj, none⟩ = some (.slice va (aG A' jj).length vcap) := by rw [hwc]; exact cj
                      have HADM4 : Hid (wc.ownsRow 0 42 3 (.slice va (aG A' jj).length vcap) (aG A' jj).length (flatL (aG A' jj))) := by rw [hwc]; exact HADM.out
                      clear hwc HI3 HB3 cj e2 a3 HADM
                      generalize hbl : decide (((aG A' jj).length : Int) < (lvG c.lvs jj).limit) = bl at *
                      have HBL : Hid (decide (((aG A' jj).length : Int) < (lvG c.lvs jj).limit) = bl) := hbl
                      clear hbl
                      cases bl
                      case true =>
                        have HR : Hid (stpA (lvG c.lvs jj) (aG A' jj) nw = aG A' jj ++ [mm] ∧ stpN (lvG c.lvs jj) (aG A' jj) nw = mm) := by
                          have hmem : ¬ madeL (lvG c.lvs jj).rule nw ∈ aG A' jj := by rw [hMM]; simpa using HBM.out
                          have hlim : ((aG A' jj).length : Int) < (lvG c.lvs jj).limit := by simpa using HBL.out
                          exact ⟨by unfold stpA; rw [if_neg HNO.out, if_neg hmem, if_pos hlim, hMM], by unfold stpN; rw [if_neg HNO.out, if_neg hmem, if_pos hlim, hMM]⟩
                        have m0 : wc.cell? ⟨V.heap.size, 0, none⟩ = some (.int .u8 mm.a) := cell_blk HI4.out.nb rfl
                        have m1 : wc.cell? ⟨V.heap.size, 1, none⟩ = some (.int .u8 mm.b) := cell_blk HI4.out.nb rfl
                        have m2 : wc.cell? ⟨V.heap.size, 2, none⟩ = some (.int .u8 mm.c) := cell_blk HI4.out.nb rfl
                        have fz : wc.frozen? ⟨w.heap.size, jj, none⟩ = false := froz_blk HI4.out.sr.blk
                        have hGl := HI4.out.sr.Glt
                        have HGV : Hid ((Value.slice va (aG A' jj).length vcap).ownBlock ≠ some w.heap.size) := fun e => by
                          rw [← HEV.out] at e
                          have h1 := HI4.out.sr.oA jj hlj _ e
                          have h2 := HI4.out.sr.oG
                          omega
                        have hMl : (aG A' jj).length ≤ 20 := hlenA
                        go_upto_region 17 with fail
                        go_region_law (refine stepAppend rfl (.tmp 84) (.tmp 86) 144 rfl 0 42 li0 (.agg #[.int .u8 0, .int .u8 0, .int .u8 0]) 3 3 Tryz.underlying144 hli lz0 lz1 lz2 rfl (by decide) (.slice va (aG A' jj).length vcap) (aG A' jj).length (flatL (aG A' jj)) (by simp [Act.eval]) (HADM4.out.alloc _) ⟨wc.heap.size, 0, none⟩ 1 1 (lbC mm) (by simp [Act.eval]) rfl (newAt _ (lbC mm) 42 _ rfl) (lbC_one mm) (by unfold maxLen; omega) (by omega) (Nat.zero_le _) ?_; intro v' w3 hown' hgrow hblk; have qX3 : w3.cell? ⟨w.heap.size, jj, none⟩ = some (.slice va (aG A' jj).length vcap) := hgrow.cell (cell_alloc1 cj4) (fun e => HGV.out e.symm); have fX3 : w3.frozen? ⟨w.heap.size, jj, none⟩ = false := (World.frozen?_of_block (hgrow.block w.heap.size (by simp; omega) (fun e => HGV.out e.symm))).trans (frozen_alloc1 hGl fz); obtain ⟨a', p', rfl⟩ := ownForm hown')
                        all_goals (have hg' := gr_undrew hgrow)
                        all_goals (have HL5 : Hid (LvIn (w3.setCell ⟨w.heap.size, jj, none⟩ (.slice a' ((aG A' jj).length + 1) p')) w.heap.size (upd ow' (wc.alloc (.cells (lbC mm).toArray 42)) w3 (10 + jj)) w.heap.size (vs'.set jj (.slice a' ((aG A' jj).length + 1) p')) (A'.set jj (aG A' jj ++ [mm])) u6 rs (serK c.lvs l k) n V.heap.size mm u8 pre ∧ Below w.heap.size wc (w3.setCell ⟨w.heap.size, jj, none⟩ (.slice a' ((aG A' jj).length + 1) p'))) := by obtain ⟨h1, h2⟩ := HI4.out.more hlj (m := mm) ((Below.refl _ _).alloc (Nat.le_refl _) (.cells (lbC mm).toArray 42)) (by rw [HEV.out]; exact hg') hown' (by rw [HEV.out]; exact hblk); exact ⟨h1, HI4.out.bel h2 (fun k e => by rcases e with e | e <;> omega)⟩)
                        all_goals clear hgrow hg' hblk hown'
                        all_goals go_wp2_with fail
                        all_goals go_meet
                        all_goals (case rel => exact ⟨_, _, by rw [HR.out.1, HR.out.2]; exact HL5.out.1, HB4.out.trans HL5.out.2⟩)
                      case false =>
                        have HR : Hid (stpA (lvG c.lvs jj) (aG A' jj) nw = aG A' jj ∧ stpN (lvG c.lvs jj) (aG A' jj) nw = over) := by
                          have hmem : ¬ madeL (lvG c.lvs jj).rule nw ∈ aG A' jj := by rw [hMM]; simpa using HBM.out
                          have hlim : ¬ ((aG A' jj).length : Int) < (lvG c.lvs jj).limit := by simpa using HBL.out
                          exact ⟨by unfold stpA; rw [if_neg HNO.out, if_neg hmem, if_neg hlim], by unfold stpN; rw [if_neg HNO.out, if_neg hmem, if_neg hlim]⟩
                        obtain ⟨g0, g1, g2⟩ := HOV.out.below HB4.out hpos
                        have z0 : wc.frozen? ⟨V.heap.size, 0, none⟩ = false := froz_blk HI4.out.nb
                        have z1 : wc.frozen? ⟨V.heap.size, 1, none⟩ = false := froz_blk HI4.out.nb
                        have z2 : wc.frozen? ⟨V.heap.size, 2, none⟩ = false := froz_blk HI4.out.nb
                        have m0 : wc.cell? ⟨V.heap.size, 0, none⟩ = some (.int .u8 mm.a) := cell_blk HI4.out.nb rfl
                        have m1 : wc.cell? ⟨V.heap.size, 1, none⟩ = some (.int .u8 mm.b) := cell_blk HI4.out.nb rfl
                        have m2 : wc.cell? ⟨V.heap.size, 2, none⟩ = some (.int .u8 mm.c) := cell_blk HI4.out.nb rfl
                        go_wp2_with fail
                        go_meet
                        case rel =>
                          obtain ⟨h1, h2⟩ := HI4.out.set over
                          exact ⟨ow', vs', by rw [HR.out.1, HR.out.2, set_aG _ _ HJA.out]; exact h1, HB4.out.trans (HI4.out.bel h2 (fun k e => by have e' : ow' k = 5 := e; omega))⟩
          case rest =>
            obtain ⟨ow2, vs2, hin2, hb2⟩ := hcut
            have hrw := hin2.rw'
            obtain ⟨ra, rcap, er⟩ := ownForm hrw
            subst er
            have HI2 : Hid (LvIn wc w.heap.size ow2 w.heap.size vs2 (A'.set jj (stpA (lvG c.lvs jj) (aG A' jj) nw)) u6 rs (serK c.lvs l k) n V.heap.size (stpN (lvG c.lvs jj) (aG A' jj) nw) (.slice ra pre.length rcap) pre) := hin2
            have HB2 : Hid (Below w.heap.size w wc) := hb2
            clear hin2 hb2 hrw n0 n1 n2 g0 g1 g2 a2 a3 d2 HI HBX heq
            generalize stpA (lvG c.lvs jj) (aG A' jj) nw = adm2 at *
            generalize stpN (lvG c.lvs jj) (aG A' jj) nw = nw2 at *
            have m0 : wc.cell? ⟨V.heap.size, 0, none⟩ = some (.int .u8 nw2.a) := cell_blk HI2.out.nb rfl
            have m1 : wc.cell? ⟨V.heap.size, 1, none⟩ = some (.int .u8 nw2.b) := cell_blk HI2.out.nb rfl
            have m2 : wc.cell? ⟨V.heap.size, 2, none⟩ = some (.int .u8 nw2.c) := cell_blk HI2.out.nb rfl
            have HOW : Hid ((wc.alloc (.cells (lbC nw2).toArray 42)).ownsRow 0 42 3 (.slice ra pre.length rcap) pre.length (flatL pre)) := HI2.out.rw'.alloc _
            have HNW : Hid (∀ j u, (lbC nw2)[j]? = some u → (wc.alloc (.cells (lbC nw2).toArray 42)).cell? ((⟨wc.heap.size, 0, none⟩ : Addr).add j) = some u) := newAt _ _ _ _ rfl
            go_wp2_with (refine listAppend rfl (.tmp 89) (.tmp 91) 144 rfl 0 42 li0 (.agg #[.int .u8 0, .int .u8 0, .int .u8 0]) 3 3 Tryz.underlying144 hli lz0 lz1 lz2 rfl (by decide) (.slice ra pre.length rcap) pre.length (flatL pre) (by simp [Act.eval]) HOW.out ⟨wc.heap.size, 0, none⟩ 1 1 (lbC nw2) (by simp [Act.eval]) rfl HNW.out (lbC_one nw2) (by unfold maxLen; omega) (by omega) (Nat.zero_le _) ?_; intro v' w6 hown hgrow hblk; obtain ⟨h5, h6⟩ := HI2.out.app ((Below.refl _ _).alloc (Nat.le_refl _) _) hgrow hown hblk; have HF : Hid (LvIn w6 w.heap.size (upd ow2 (wc.alloc (.cells (lbC nw2).toArray 42)) w6 4) w.heap.size vs2 (A'.set jj adm2) u6 rs (serK c.lvs l k) n V.heap.size nw2 v' (pre ++ [nw2]) ∧ Below w.heap.size w w6) := ⟨h5, HB2.out.trans (HI2.out.bel h6 (fun k e => by have e' : ow2 k = 4 := e; omega))⟩; clear hown hgrow hblk h5 h6)
            exact ⟨⟨jj + 1, _, _, by go_num, by omega, by rw [HSUC.out]; exact HF.out.1, HF.out.2⟩, by simp [intOf]; omega⟩
        · obtain rfl : jj = n := by omega
          have hall := runA_all c.lvs (admK c.lvs l k) (smG l k).lb (admK_len _ _ _)
          rw [hN] at hall
          have hpl : (runA c.lvs (admK c.lvs l k) (smG l k).lb jj).2.2.length = jj := (runA_len _ _ _ jj).2
          have hkl : k < l.length := by rw [HML.out]; exact hlt
          have HADK : Hid (admK c.lvs l (k + 1) = (runA c.lvs (admK c.lvs l k) (smG l k).lb jj).1) := by show _ = _; rw [admK_succ c.lvs l k hkl, hall.1]
          have HSEK : Hid (serK c.lvs l (k + 1) = serK c.lvs l k ++ [(runA c.lvs (admK c.lvs l k) (smG l k).lb jj).2.2]) := by show _ = _; rw [serK_succ c.lvs l k hkl, hall.2]
          clear hall hkl
          generalize runA c.lvs (admK c.lvs l k) (smG l k).lb jj = ra at *
          obtain ⟨A', nw, pre⟩ := ra
          simp only at HI HADK HSEK hpl
          have hrw := HI.out.rw'
          obtain ⟨b', rcap, er, _, _, _⟩ := ownBlockForm hrw (by omega)
          have hatr : At wx b' 0 (flatL pre) := by rw [er] at hrw; exact owns_at hrw
          have hbo : ow' b' = 4 := HI.out.oR b' (by rw [er]; rfl)
          rw [hpl] at er
          subst er
          obtain ⟨oa, ocap, eo⟩ := ownForm HI.out.sr.orow
          subst eo
          have HOR : Hid ((wx.alloc (.cells #[.slice (some ⟨b', 0, none⟩) jj rcap] 144)).ownsRow 0 144 1 (.slice oa rs.length ocap) rs.length rs) := HI.out.sr.orow.alloc _
          have HNW : Hid (∀ j u, ([.slice (some ⟨b', 0, none⟩) jj rcap] : List Value)[j]? = some u → (wx.alloc (.cells #[.slice (some ⟨b', 0, none⟩) jj rcap] 144)).cell? ((⟨wx.heap.size, 0, none⟩ : Addr).add j) = some u) := newAt wx [.slice (some ⟨b', 0, none⟩) jj rcap] 144 _ rfl
          have hrs : rs.length ≤ 500 := by
            have h1 := HI.out.sr.lS
            have h2 : (serK c.lvs l k).length ≤ k := by unfold serK; rw [serAll_len]; simp; omega
            omega
          have HAT : Hid (At wx b' 0 (flatL pre)) := hatr
          have HBO : Hid (ow' b' = 4) := hbo
          have HPL : Hid (pre.length = jj) := hpl
          clear hrw hatr hbo hpl
          go_wp2_with (refine listAppend rfl (.tmp 93) (.tmp 95) 140 rfl 0 144 ri0 (.slice none 0 0) 1 24 Tryz.underlying140 hri rz0 rz1 rz2 rfl (by decide) (.slice oa rs.length ocap) rs.length rs (by simp [Act.eval]) HOR.out ⟨wx.heap.size, 0, none⟩ 1 1 [.slice (some ⟨b', 0, none⟩) jj rcap] (by simp [Act.eval]) rfl HNW.out (by simp [Value.oneCell']) (by unfold maxLen; omega) (by omega) (Nat.zero_le _) ?_; intro v' w6 hown hgrow hblk; obtain ⟨h5, h6⟩ := HI.out.sr.push (s := pre) (b := b') (cap := rcap) ((Below.refl _ _).alloc (Nat.le_refl _) (.cells #[.slice (some ⟨b', 0, none⟩) jj rcap] 144)) hgrow hown hblk HBO.out HAT.out HPL.out; have HF : Hid (SrS w6 w.heap.size _ w.heap.size vs' A' v' (rs ++ [.slice (some ⟨b', 0, none⟩) jj rcap]) (serK c.lvs l k ++ [pre]) jj ∧ Below w.heap.size w w6) := ⟨h5, HBX.out.trans (HI.out.bel h6 (fun k e => by have e' : ow' k = 2 := e; omega))⟩; clear hown hgrow hblk h5 h6)
          exact ⟨⟨k + 1, _, _, _, by go_num, by omega, by rw [HADK.out, HSEK.out]; exact HF.out.1, HF.out.2⟩, by simp [intOf]; omega⟩
    · have hkm : k = m := by omega
      have HFIN : Hid (SerAt V w.heap.size u6 rs (serAll c.lvs [] l) n) := by
        have h9 := HSR.out.ser
        rw [hkm, ← HML.out, serK_all] at h9
        exact h9
      go_wp2_with fail
      go_ret
      exact ⟨u6, rs, rfl, by rw [hN]; exact HFIN.out, HBE.out⟩

end Go.Proofs.YthciddpljcbhiabGreatDoor

/- How many cells: the document's count and the program's are one (no program). -/
namespace Go.Proofs.YthciddpljcbhiabGreatDoor
open Go Go.RowKit Go.Lib

/-- A cell of the document's. -/
structure Ce where
  blk : Int
  win : Int
  nm : Lb
deriving DecidableEq
def Ce.zero : Ce := ⟨0, 0, Lb.zero⟩
def Ce.cells (k : Ce) : List Value := [.int .i64 k.blk, .int .i64 k.win, .int .u8 k.nm.a, .int .u8 k.nm.b, .int .u8 k.nm.c]
def flatCe (l : List Ce) : List Value := l.flatMap Ce.cells
theorem len5C (k : Ce) : k.cells.length = 5 := rfl
theorem flatCe_len (l : List Ce) : (flatCe l).length = l.length * 5 := flat_length _ 5 len5C l
def ceG (l : List Ce) (i : Nat) : Ce := l.getD i Ce.zero
theorem ceG_get (l : List Ce) (i : Nat) (h : i < l.length) : ceG l i = l[i] := by simp [ceG, List.getD, h]
theorem Ce.one (k : Ce) : ∀ v ∈ k.cells, v.oneCell' = true := by intro v hv; simp [Ce.cells] at hv; rcases hv with h | h | h | h | h <;> subst h <;> rfl
def ceA (l : List Ce) (k : Ce) : List Ce := if k ∈ l then l else l ++ [k]
/-- The cell of a point. -/
def ceP (c : Cf) (now : Int) (p : Pt) : Ce := ⟨p.time / c.span, p.time / (lvG c.lvs (c.lvl now p.time)).window, sG p (c.lvl now p.time)⟩

/-- Keys that part the points alike give as many. -/
theorem fold_same {α K K' : Type} [DecidableEq K] [DecidableEq K'] (f : α → K) (g : α → K') (l : List α) (h : ∀ x ∈ l, ∀ y ∈ l, f x = f y ↔ g x = g y) : ∀ (m r : List α), (∀ x ∈ m, x ∈ l) → (∀ x ∈ r, x ∈ l) →
    ((m.map f).foldl (fun a k => if k ∈ a then a else a ++ [k]) (r.map f)).length = ((m.map g).foldl (fun a k => if k ∈ a then a else a ++ [k]) (r.map g)).length := by
  intro m
  induction m with
  | nil => intro r _ _; simp
  | cons x m ih =>
    intro r hm hr
    have hx : x ∈ l := hm x (by simp)
    have hiff : f x ∈ r.map f ↔ g x ∈ r.map g := by
      constructor
      · intro e
        obtain ⟨y, hy, e'⟩ := List.mem_map.1 e
        exact List.mem_map.2 ⟨y, hy, (h y (hr y hy) x hx).1 e'⟩
      · intro e
        obtain ⟨y, hy, e'⟩ := List.mem_map.1 e
        exact List.mem_map.2 ⟨y, hy, (h y (hr y hy) x hx).2 e'⟩
    simp only [List.map_cons, List.foldl_cons]
    by_cases hin : f x ∈ r.map f
    · rw [if_pos hin, if_pos (hiff.1 hin)]
      exact ih r (fun y hy => hm y (by simp [hy])) hr
    · rw [if_neg hin, if_neg (fun e => hin (hiff.2 e))]
      have e1 : r.map f ++ [f x] = (r ++ [x]).map f := by simp
      have e2 : r.map g ++ [g x] = (r ++ [x]).map g := by simp
      rw [e1, e2]
      exact ih (r ++ [x]) (fun y hy => hm y (by simp [hy])) (fun y hy => by
        rcases List.mem_append.1 hy with hy | hy
        · exact hr y hy
        · simp at hy; subst hy; exact hx)

/-- A window's start lies in its block, and tells it. -/
theorem start_block {t s w : Int} (hs : 1 ≤ s) (hw : 1 ≤ w) (hd : s % w = 0) : (t - t % w) / s = t / s := by
  obtain ⟨k, rfl⟩ : w ∣ s := Int.dvd_of_emod_eq_zero hd
  have hk : 0 < k := by
    rcases Int.lt_trichotomy k 0 with h | h | h
    · have := Int.mul_neg_of_pos_of_neg (show 0 < w by omega) h; omega
    · subst h; simp at hs
    · exact h
  have e1 : t - t % w = w * (t / w) := by have := Int.emod_add_mul_ediv t w; omega
  rw [e1, Int.mul_ediv_mul_of_pos _ _ (by omega)]
  exact Int.ediv_ediv_of_nonneg (by omega)
theorem key_iff {c : Cf} (hc : c.right = true) (now : Int) {p q : Pt} : kyP c now p = kyP c now q ↔ ceP c now p = ceP c now q := by
  obtain ⟨s1, _, _, _, _, _, hl⟩ := Cf.right_parts hc
  have hw : ∀ t, 1 ≤ (lvG c.lvs (c.lvl now t)).window ∧ c.span % (lvG c.lvs (c.lvl now t)).window = 0 := fun t => by
    have := hl (c.lvl now t) (Cf.lvl_lt hc now t)
    exact ⟨this.1, this.2.1⟩
  have hlv : ∀ t u, t / c.span = u / c.span → c.lvl now t = c.lvl now u := fun t u e => by rw [← lvl_block s1 now t, ← lvl_block s1 now u, e]
  obtain ⟨p1, p2⟩ := hw p.time
  obtain ⟨q1, q2⟩ := hw q.time
  unfold kyP ceP
  constructor
  · intro e
    simp only [Ky.mk.injEq] at e
    have hb : p.time / c.span = q.time / c.span := by
      have a1 := start_block (t := p.time) s1 p1 p2
      have a2 := start_block (t := q.time) s1 q1 q2
      rw [← a1, ← a2, e.1]
    have hl' := hlv _ _ hb
    rw [hl'] at e p1 ⊢
    have hst : p.time / (lvG c.lvs (c.lvl now q.time)).window = q.time / (lvG c.lvs (c.lvl now q.time)).window := by
      have e1 := Int.emod_add_mul_ediv p.time (lvG c.lvs (c.lvl now q.time)).window
      have e2 := Int.emod_add_mul_ediv q.time (lvG c.lvs (c.lvl now q.time)).window
      have e3 : (lvG c.lvs (c.lvl now q.time)).window * (p.time / (lvG c.lvs (c.lvl now q.time)).window) = (lvG c.lvs (c.lvl now q.time)).window * (q.time / (lvG c.lvs (c.lvl now q.time)).window) := by omega
      exact Int.eq_of_mul_eq_mul_left (by omega) e3
    rw [hb, hst, e.2]
  · intro e
    simp only [Ce.mk.injEq] at e
    have hl' := hlv _ _ e.1
    rw [hl'] at e ⊢
    have e1 := Int.emod_add_mul_ediv p.time (lvG c.lvs (c.lvl now q.time)).window
    have e2 := Int.emod_add_mul_ediv q.time (lvG c.lvs (c.lvl now q.time)).window
    rw [e.2.1] at e1
    have e3 : p.time - p.time % (lvG c.lvs (c.lvl now q.time)).window = q.time - q.time % (lvG c.lvs (c.lvl now q.time)).window := by omega
    rw [e3, e.2.2]

/-- The document's cells behind the first k samples, by the series of each. -/
def ceX (c : Cf) (now : Int) (S : List (List Lb)) (l : List Sm) (k : Nat) : Ce := ⟨(smG l k).time / c.span, (smG l k).time / (lvG c.lvs (c.lvl now (smG l k).time)).window, lbsG (aG S k) (c.lvl now (smG l k).time)⟩
def ceK (c : Cf) (now : Int) (S : List (List Lb)) (l : List Sm) : Nat → List Ce
  | 0 => []
  | k + 1 => if liveB c now (smG l k).time then ceA (ceK c now S l k) (ceX c now S l k) else ceK c now S l k
theorem ceK_len (c : Cf) (now : Int) (S : List (List Lb)) (l : List Sm) : ∀ k, (ceK c now S l k).length ≤ k
  | 0 => Nat.le_refl _
  | k + 1 => by
    have h := ceK_len c now S l k
    unfold ceK
    split
    · unfold ceA
      split
      · omega
      · simp; omega
    · omega
theorem ceK_pts (c : Cf) (now : Int) (A : List (List Lb)) (S : List (List Lb)) (l : List Sm) (hS : S = l.map fun x => serOf c.lvs A x.lb) : ∀ k, k ≤ l.length → ceK c now S l k = ((((l.take k).map (ptOf c.lvs A)).filter fun p => liveB c now p.time).map (ceP c now)).foldl ceA []
  | 0, _ => by simp [ceK]
  | k + 1, h => by
    have ih := ceK_pts c now A S l hS k (by omega)
    have hlt : k < l.length := by omega
    have e1 : l.take (k + 1) = l.take k ++ [smG l k] := by rw [smG_get l k hlt]; exact List.take_succ_eq_append_getElem hlt
    have e2 : aG S k = serOf c.lvs A (smG l k).lb := by
      unfold aG
      rw [hS, smG_get l k hlt]
      simp [List.getD, hlt]
    have e3 : ceX c now S l k = ceP c now (ptOf c.lvs A (smG l k)) := by
      unfold ceX ceP ptOf sG lbsG
      rw [e2]
    rw [e1, List.map_append, List.filter_append, List.map_append, List.foldl_append, ← ih]
    show (if liveB c now (smG l k).time then ceA (ceK c now S l k) (ceX c now S l k) else ceK c now S l k) = _
    have hl : liveB c now (ptOf c.lvs A (smG l k)).time = liveB c now (smG l k).time := rfl
    by_cases hv : liveB c now (smG l k).time = true
    · rw [if_pos hv]
      simp only [List.map_cons, List.map_nil, List.filter_cons, List.filter_nil, hl, hv, if_true, List.foldl_cons, List.foldl_nil, e3]
    · rw [if_neg hv]
      simp only [List.map_cons, List.map_nil, List.filter_cons, List.filter_nil, hl, if_neg hv, List.foldl_nil]
/-- The two counts are one. -/
theorem cells_same (s : St) (hc : s.c.right = true) : (ceK s.c s.now (serAll s.c.lvs [] s.l) s.l s.l.length).length = cellsN s := by
  rw [ceK_pts s.c s.now s.adm _ s.l (serAll_eq s.c.lvs s.l []) s.l.length (Nat.le_refl _), List.take_length]
  show ((s.pts.map (ceP s.c s.now)).foldl ceA []).length = _
  unfold cellsN keysK
  rw [List.take_length]
  have h := fold_same (kyP s.c s.now) (ceP s.c s.now) s.pts (fun x _ y _ => key_iff hc s.now) s.pts [] (fun _ hx => hx) (fun _ hx => absurd hx (by simp))
  exact h.symm

end Go.Proofs.YthciddpljcbhiabGreatDoor

/- Walks: the document's Cells (garnerref). -/
namespace Go.Proofs.YthciddpljcbhiabGreatDoor
open Go Go.RowKit Go.Lib

theorem Tryz.info149' : (Tryz.prog.info? 149).map (fun i => (i.zero, i.size, i.bytes)) = some (some (.agg #[.int .i64 0, .int .i64 0, .int .u8 0, .int .u8 0, .int .u8 0]), 5, 24) := by kernel_rfl
theorem wrapS (x : Int) (h0 : 0 ≤ x) (h1 : x ≤ 1000000) : IntKind.i64.wrap x = x := by simp [IntKind.wrap, IntKind.bits, IntKind.signed]; omega
theorem ce_iff (Y X : Ce) : Y = X ↔ (Y.blk == X.blk && (Y.win == X.win && (Y.nm.a == X.nm.a && Y.nm.b == X.nm.b && Y.nm.c == X.nm.c))) = true := by
  rw [lb_beq]
  cases Y; cases X
  simp
theorem take_mem (Q : List Ce) (x : Ce) (q : Nat) (h : q < Q.length) : decide (x ∈ Q.take (q + 1)) = (decide (x ∈ Q.take q) || decide (ceG Q q = x)) := by
  rw [List.take_succ_eq_append_getElem h, ceG_get Q q h]
  rw [Bool.eq_iff_iff]
  simp only [decide_eq_true_eq, Bool.or_eq_true, List.mem_append, List.mem_singleton]
  constructor
  · rintro (h1 | h1)
    · exact .inl h1
    · exact .inr h1.symm
  · rintro (h1 | h1)
    · exact .inl h1
    · exact .inr h1.symm
theorem owns_ce {w : World} {base g n cap : Nat} {l : List Ce} (h : w.ownsRow base 149 5 (.slice (some ⟨g, 0, none⟩) n cap) n (flatCe l)) (i : Nat) (hi : i < l.length) :
    w.cell? ⟨g, i * 5, none⟩ = some (.int .i64 (ceG l i).blk) ∧ w.cell? ⟨g, i * 5 + 1, none⟩ = some (.int .i64 (ceG l i).win) ∧ w.cell? ⟨g, i * 5 + 2, none⟩ = some (.int .u8 (ceG l i).nm.a) ∧ w.cell? ⟨g, i * 5 + 3, none⟩ = some (.int .u8 (ceG l i).nm.b) ∧ w.cell? ⟨g, i * 5 + 4, none⟩ = some (.int .u8 (ceG l i).nm.c) := by
  have hat := owns_at h
  rw [ceG_get l i hi]
  have hg : ∀ j v, (Ce.cells l[i])[j]? = some v → w.cell? ⟨g, i * 5 + j, none⟩ = some v := fun j v hv => by
    have := at_elem Ce.cells 5 len5C hat i hi j v hv
    simpa using this
  exact ⟨by simpa using hg 0 _ rfl, hg 1 _ rfl, hg 2 _ rfl, hg 3 _ rfl, hg 4 _ rfl⟩
theorem owns_sm {w : World} {base : Nat} {va : Option Addr} {m vc : Nat} {l : List Sm} (h : w.ownsRow base 76 5 (.slice va m vc) m (flatS l)) (hl : l.length = m) : IsSms w va m l := by
  refine ⟨hl, fun h0 => ?_⟩
  obtain ⟨g, cap, e, _, _, _⟩ := ownBlockForm h h0
  injection e with e1 _ e2
  subst e1 e2
  exact ⟨g, 0, rfl, smAt_of (owns_at h)⟩

set_option maxHeartbeats 4000000 in
set_option maxRecDepth 100000 in
theorem cells_ref (R : Nat) (F : Nat → Prop) (c : Cf) (ps : List Cp) (L lcap : Nat) (cv : Value) (w : World) (h : RfS w R F c ps L lcap cv) (hov : OvAt w) :
    Calls Tryz.prog 51 #[.pointer (some ⟨R, 0, none⟩)] w fun e w' => e = .returned (.int .i64 (cellsN ((St.new c).doAll (ps.map (·.1))) : Nat)) ∧ Below w.heap.size w w' := by
  obtain ⟨sp1, sp2, k0, k1, l1, l4, hlv⟩ := Cf.right_parts (rf_right h)
  obtain ⟨n0, n1⟩ := rf_nowr h
  have HRF : Hid (RfS w R F c ps L lcap cv) := h
  have HOV : Hid (OvAt w) := hov
  have hpos := hov.pos
  have hl : ((St.new c).doAll (ps.map (·.1))).l = allS (ps.map (·.1)) := by rw [doAll_l]; rfl
  have HOKL : Hid (∀ x ∈ allS (ps.map (·.1)), smOk x = true ∧ x.wf) := fun x hx => h.inv.ok x (by rw [hl]; exact hx)
  have hm : (allS (ps.map (·.1))).length ≤ 500 := by have := h.inv.len; rw [hl] at this; exact this
  have HRES : Hid (cellsN ((St.new c).doAll (ps.map (·.1))) = (ceK c (sumT (ps.map (·.1))) (serAll c.lvs [] (allS (ps.map (·.1)))) (allS (ps.map (·.1))) (allS (ps.map (·.1))).length).length) := by
    have h9 := cells_same _ h.inv.right
    rw [doAll_cf, rf_now, hl] at h9
    exact h9.symm
  have HSM := samples_ref R F c ps L lcap cv w h
  have HAGE : Hid (∀ W t, Below w.heap.size w W → 0 ≤ t → t ≤ 100000 → Calls Tryz.prog 72 #[.pointer (some ⟨R, 0, none⟩), .int .i64 t] W fun e w' => e = .returned (.int .i64 (c.age (sumT (ps.map (·.1))) t)) ∧ ∃ d, w' = W.drewN d) := fun W t hW t0 t1 => age_ref R F c ps L lcap cv t W (h.below hW) sp1 sp2 t0 (by omega)
  have HLVL : Hid (∀ W t, Below w.heap.size w W → 0 ≤ t → t ≤ 100000 → Calls Tryz.prog 80 #[.pointer (some ⟨R, 0, none⟩), .int .i64 t] W fun e w' => e = .returned (.int .i64 (c.lvl (sumT (ps.map (·.1))) t : Nat)) ∧ ∃ d, w' = W.drewN d) := fun W t hW t0 t1 => level_ref R F c ps L lcap cv t W (h.below hW) t0 (by omega)
  have HLL : Hid (∀ t, c.lvl (sumT (ps.map (·.1))) t < c.lvs.length) := fun t => Cf.lvl_lt (rf_right h) _ t
  have HWIN : Hid (∀ j, j < c.lvs.length → 1 ≤ (lvG c.lvs j).window) := fun j hj => (hlv j hj).1
  obtain ⟨li0, hli, lz0, lz1, lz2⟩ := infP Tryz.info149'
  clear h hov hl hlv
  generalize sumT (ps.map (·.1)) = now at *
  generalize allS (ps.map (·.1)) = l at *
  generalize cellsN ((St.new c).doAll (ps.map (·.1))) = res at *
  go_enter Tryz.func51, Tryz.ntmps51
  go_wp2_with fail
  refine HSM.mono ?_
  rintro e w1 ⟨va, vc, rfl, hown1, hb1⟩
  clear HSM
  have HB1 : Hid (Below w.heap.size w w1) := hb1
  have HSMS : Hid (IsSms w1 va l.length l) := owns_sm hown1 rfl
  have HSER := series_ref R F c ps L lcap cv va l.length vc l w1 (HRF.out.below hb1) HSMS.out hm (fun x hx => ((smOk_iff x).1 (HOKL.out x hx).1).2.2) (HOV.out.below hb1 hpos)
  clear hown1 hb1
  go_wp2_with fail
  refine HSER.mono ?_
  clear HSER
  rintro e w2 ⟨ov, rs, rfl, hser, hb2⟩
  obtain ⟨hor, hrl, _, hrow⟩ := hser
  obtain ⟨oa, ocap, eo⟩ := ownForm hor
  subst eo
  have hrm : rs.length = l.length := by rw [hrl, serAll_len]
  have HB2 : Hid (Below w.heap.size w w2) := HB1.out.trans (hb2.mono HB1.out.size)
  have HSM2 : Hid (IsSms w2 va l.length l) := HSMS.out.below hb2
  have HOR : Hid (w2.ownsRow 0 144 1 (.slice oa rs.length ocap) rs.length rs) := hor
  have HROW : Hid (∀ i, i < rs.length → ∃ b cap, vG rs i = .slice (some ⟨b, 0, none⟩) c.lvs.length cap ∧ w1.heap.size ≤ b ∧ At w2 b 0 (flatL (aG (serAll c.lvs [] l) i)) ∧ (aG (serAll c.lvs [] l) i).length = c.lvs.length) := hrow
  clear hb2 hor hrl hrow HSMS
  generalize serAll c.lvs [] l = S at *
  go_wp2_with fail
  go_loopw [5, 6] (fun v i wr => ∃ k : Nat, i = .int .i64 k ∧ k ≤ l.length ∧ wr.ownsRow w2.heap.size 149 5 v (ceK c now S l k).length (flatCe (ceK c now S l k)) ∧ Below w2.heap.size w2 wr) (fun _ i _ => l.length - (intOf i).toNat)
  case atStart => exact ⟨0, rfl, Nat.zero_le _, World.ownsRow_nil _ _ _ _, Below.refl _ _⟩
  case round =>
    obtain ⟨k, rfl, hk, hown, hbe⟩ := hrel
    rename World => V
    have HOW : Hid (V.ownsRow w2.heap.size 149 5 u5 (ceK c now S l k).length (flatCe (ceK c now S l k))) := hown
    have HBE : Hid (Below w2.heap.size w2 V) := hbe
    have HBW : Hid (Below w.heap.size w V) := HB2.out.trans (hbe.mono HB2.out.size)
    obtain ⟨ua, ucap, eu⟩ := ownForm hown
    subst eu
    have hckl := ceK_len c now S l k
    clear hown hbe
    by_cases hlt : k < l.length
    · obtain ⟨b, off, rfl, hat⟩ := HSM2.out.2 (by omega)
      obtain ⟨s0, _⟩ := hat k hlt
      have hbw : b < w2.heap.size := hat.block (by omega)
      have x0 : V.cell? ⟨b, off + k * 5, none⟩ = some (.int .i64 (smG l k).time) := (HBE.out.cell (p := ⟨b, off + k * 5, none⟩) hbw).trans s0
      have hok := (HOKL.out (smG l k) (by rw [smG_get l k hlt]; exact List.getElem_mem _)).1
      obtain ⟨t0, t1, _⟩ := (smOk_iff _).1 hok
      have x1 := (HRF.out.below HBW.out).cell 1 _ rfl
      have HA := HAGE.out V (smG l k).time HBW.out t0 t1
      have HCE : Hid (ceK c now S l (k + 1) = if liveB c now (smG l k).time then ceA (ceK c now S l k) (ceX c now S l k) else ceK c now S l k) := rfl
      clear hat hok
      by_cases hlive : c.age now (smG l k).time ≤ c.keep
      · have HC2 : Hid (ceK c now S l (k + 1) = ceA (ceK c now S l k) (ceX c now S l k)) := by
          show _ = _
          rw [HCE.out, if_pos (by rw [live_iff]; exact hlive)]
        have hjn := HLL.out (smG l k).time
        obtain ⟨sb, scap, esb, hsb1, hsat, hsl⟩ := HROW.out k (by omega)
        have HX : Hid (ceX c now S l k = ⟨(smG l k).time / c.span, (smG l k).time / (lvG c.lvs (c.lvl now (smG l k).time)).window, lbsG (aG S k) (c.lvl now (smG l k).time)⟩) := rfl
        have hsbl : sb < w2.heap.size := World.block_lt_of_cell? w2 _ (at_lbs hsat 0 (by omega)).1
        obtain ⟨q0, q1, q2⟩ := at_lbs hsat _ (by rw [hsl]; exact hjn)
        simp only [Nat.zero_add] at q0 q1 q2
        obtain ⟨og, ocp, eog, crow⟩ := owns_one HOR.out k (vG rs k) (vG_get rs k (by omega))
        injection eog with eo1 _ eo2
        subst eo1 eo2
        rw [esb] at crow
        have hogl : og < w2.heap.size := World.block_lt_of_cell? w2 _ crow
        have hwin := HWIN.out _ hjn
        have HLC := HLVL.out
        clear hsat esb hsl HCE
        generalize hj : c.lvl now (smG l k).time = j at *
        generalize c.age now (smG l k).time = ag at *
        have HFACT : Hid (∀ W, Below w2.heap.size w2 W → W.cell? ⟨b, off + k * 5, none⟩ = some (.int .i64 (smG l k).time) ∧ W.cell? ⟨R, 0, none⟩ = some (.int .i64 c.span) ∧ W.cell? ⟨R, 1, none⟩ = some (.int .i64 c.keep) ∧ W.cell? ⟨R, 2, none⟩ = some (.slice (some ⟨L, 0, none⟩) c.lvs.length lcap) ∧ W.cell? ⟨L, j * 4 + 1, none⟩ = some (.int .i64 (lvG c.lvs j).window) ∧ W.cell? ⟨og, k, none⟩ = some (.slice (some ⟨sb, 0, none⟩) c.lvs.length scap) ∧ W.cell? ⟨sb, j * 3, none⟩ = some (.int .u8 (lbsG (aG S k) j).a) ∧ W.cell? ⟨sb, j * 3 + 1, none⟩ = some (.int .u8 (lbsG (aG S k) j).b) ∧ W.cell? ⟨sb, j * 3 + 2, none⟩ = some (.int .u8 (lbsG (aG S k) j).c)) := fun W hW => by
          have hWw : Below w.heap.size w W := HB2.out.trans (hW.mono HB2.out.size)
          have hrf := HRF.out.below hWw
          obtain ⟨_, a1, _, _⟩ := hrf.lv j hjn
          simp only [Nat.zero_add] at a1
          exact ⟨(hW.cell (p := ⟨b, off + k * 5, none⟩) hbw).trans s0, hrf.cell 0 _ rfl, hrf.cell 1 _ rfl, hrf.cell 2 _ rfl, a1, (hW.cell (p := ⟨og, k, none⟩) hogl).trans crow, (hW.cell (p := ⟨sb, j * 3, none⟩) hsbl).trans q0, (hW.cell (p := ⟨sb, j * 3 + 1, none⟩) hsbl).trans q1, (hW.cell (p := ⟨sb, j * 3 + 2, none⟩) hsbl).trans q2⟩
        have HLV2 := fun W (hW : Below w2.heap.size w2 W) => HLC W (smG l k).time (HB2.out.trans (hW.mono HB2.out.size)) t0 t1
        rw [hj] at HLV2
        have HLV3 : Hid (∀ W (hW : Below w2.heap.size w2 W), Calls Tryz.prog 80 #[.pointer (some ⟨R, 0, none⟩), .int .i64 (smG l k).time] W fun e w' => e = .returned (.int .i64 (j : Nat)) ∧ ∃ d, w' = W.drewN d) := HLV2
        have HXX : Hid (ceX c now S l k = ⟨(smG l k).time / c.span, (smG l k).time / (lvG c.lvs j).window, lbsG (aG S k) j⟩) := HX.out
        clear HLC HLV2 HX q0 q1 q2 crow hj
        generalize (smG l k).time = t at *
        generalize lbsG (aG S k) j = sl at *
        generalize (lvG c.lvs j).window = wn at *
        go_wp2_with fail
        refine HA.mono ?_
        rintro e w3 ⟨rfl, d, rfl⟩
        clear HA x0 x1
        have HB3 : Hid (Below w2.heap.size w2 (V.drewN d)) := below_drewN HBE.out d
        have HO3 : Hid ((V.drewN d).ownsRow w2.heap.size 149 5 (.slice ua (ceK c now S l k).length ucap) (ceK c now S l k).length (flatCe (ceK c now S l k))) := owns_drewN HOW.out d
        generalize V.drewN d = w3 at *
        obtain ⟨f0, _, f2, _⟩ := HFACT.out w3 HB3.out
        have hag : ¬ c.keep < ag := by omega
        go_wp2_with fail
        refine (HLV3.out w3 HB3.out).mono ?_
        rintro e w4 ⟨rfl, d2, rfl⟩
        have HB4 : Hid (Below w2.heap.size w2 (w3.drewN d2)) := below_drewN HB3.out d2
        have HO4 : Hid ((w3.drewN d2).ownsRow w2.heap.size 149 5 (.slice ua (ceK c now S l k).length ucap) (ceK c now S l k).length (flatCe (ceK c now S l k))) := owns_drewN HO3.out d2
        clear f0 f2 HB3 HO3 HLV3
        generalize w3.drewN d2 = w4 at *
        obtain ⟨g0, g1, _, g2, g3, g4, g5, g6, g7⟩ := HFACT.out w4.drew (HB4.out.drew)
        have hjI : (j : Int) < (c.lvs.length : Int) := by omega
        have hkI : (k : Int) < (l.length : Int) := by omega
        have hkR : (k : Int) < (rs.length : Int) := by omega
        have v1 : ¬ c.span = 0 := by omega
        have v2 : ¬ wn = 0 := by omega
        have v3 : 0 ≤ t / c.span := Int.ediv_nonneg t0 (by omega)
        have v4 : t / c.span ≤ t := Int.ediv_le_self _ t0
        have v5 : 0 ≤ t / wn := Int.ediv_nonneg t0 (by omega)
        have v6 : t / wn ≤ t := Int.ediv_le_self _ t0
        have v7 : t.tdiv c.span = t / c.span := Int.tdiv_eq_ediv_of_nonneg t0
        have v8 : t.tdiv wn = t / wn := Int.tdiv_eq_ediv_of_nonneg t0
        have v9 : (c.span == 0) = false := by simpa using v1
        have v10 : (wn == 0) = false := by simpa using v2
        have v11 : IntKind.i64.wrap (t / c.span) = t / c.span := wrapS _ v3 (by omega)
        have v12 : IntKind.i64.wrap (t / wn) = t / wn := wrapS _ v5 (by omega)
        go_upto_region 10 with fail
        go_cut [9] from 17 to 98 (fun v wz => v = .pointer (some ⟨w4.heap.size, 0, none⟩) ∧ wz = (w4.alloc (.cells #[.int .i64 (t / c.span), .int .i64 (t / wn), .int .u8 sl.a, .int .u8 sl.b, .int .u8 sl.c] 149)).drew)
        case first =>
          go_region_held3 (fun w' => w'.cell? ⟨b, off + k * 5, none⟩ = some (.int .i64 t) ∧ w'.cell? ⟨R, 0, none⟩ = some (.int .i64 c.span) ∧ w'.cell? ⟨R, 2, none⟩ = some (.slice (some ⟨L, 0, none⟩) c.lvs.length lcap) ∧ w'.cell? ⟨L, j * 4 + 1, none⟩ = some (.int .i64 wn) ∧ w'.cell? ⟨og, k, none⟩ = some (.slice (some ⟨sb, 0, none⟩) c.lvs.length scap) ∧ w'.cell? ⟨sb, j * 3, none⟩ = some (.int .u8 sl.a) ∧ w'.cell? ⟨sb, j * 3 + 1, none⟩ = some (.int .u8 sl.b) ∧ w'.cell? ⟨sb, j * 3 + 2, none⟩ = some (.int .u8 sl.c)) (first | exact ⟨g0, g1, g2, g3, g4, g5, g6, g7⟩ | exact ⟨cell_alloc1 g0, cell_alloc1 g1, cell_alloc1 g2, cell_alloc1 g3, cell_alloc1 g4, cell_alloc1 g5, cell_alloc1 g6, cell_alloc1 g7⟩) (fail)
          all_goals go_wp2_with fail
          all_goals go_meet
          all_goals (case rel => exact ⟨rfl, rfl⟩)
        case rest =>
          obtain ⟨rfl, hwc⟩ := hcut
          have hbc : Below w4.heap.size w4 wc := by rw [hwc]; exact ((Below.refl _ _).alloc (Nat.le_refl _) _).drew
          have hbk : wc.heap[w4.heap.size]? = some (.cells #[.int .i64 (t / c.span), .int .i64 (t / wn), .int .u8 sl.a, .int .u8 sl.b, .int .u8 sl.c] 149 (0, 0)) := by rw [hwc]; exact heap_alloc_new w4 _
          have HBC : Hid (Below w2.heap.size w2 wc) := HB4.out.trans (hbc.mono HB4.out.size)
          have HOC : Hid (wc.ownsRow w2.heap.size 149 5 (.slice ua (ceK c now S l k).length ucap) (ceK c now S l k).length (flatCe (ceK c now S l k))) := owns_fr HO4.out (Fr.of_below (S := fun _ => False) hbc) (fun _ _ e => e)
          have HCK : Hid (ceK c now S l (k + 1) = ceA (ceK c now S l k) ⟨t / c.span, t / wn, sl⟩) := by show _ = _; rw [HC2.out, HXX.out]
          have z0 : wc.cell? ⟨w4.heap.size, 0, none⟩ = some (.int .i64 (t / c.span)) := cell_blk hbk rfl
          have z1 : wc.cell? ⟨w4.heap.size, 1, none⟩ = some (.int .i64 (t / wn)) := cell_blk hbk rfl
          have z2 : wc.cell? ⟨w4.heap.size, 2, none⟩ = some (.int .u8 sl.a) := cell_blk hbk rfl
          have z3 : wc.cell? ⟨w4.heap.size, 3, none⟩ = some (.int .u8 sl.b) := cell_blk hbk rfl
          have z4 : wc.cell? ⟨w4.heap.size, 4, none⟩ = some (.int .u8 sl.c) := cell_blk hbk rfl
          clear hwc hbc hbk g0 g1 g2 g3 g4 g5 g6 g7 v1 v2 v3 v4 v5 v6 v7 v8 v9 v10 v11 v12 HB4 HO4 HFACT HXX HC2
          generalize ceK c now S l k = Q at *
          generalize t / c.span = xb at *
          generalize t / wn = xw at *
          go_wp2_with fail
          go_loopw [10, 11] (fun old i wr => ∃ q : Nat, i = .int .i64 q ∧ q ≤ Q.length ∧ old = .bool (decide ((⟨xb, xw, sl⟩ : Ce) ∈ Q.take q)) ∧ ∃ d, wr = wc.drewN d) (fun _ i _ => Q.length - (intOf i).toNat)
          case atStart => exact ⟨0, rfl, Nat.zero_le _, by simp, 0, rfl⟩
          case round =>
            obtain ⟨q, rfl, hq, rfl, d5, rfl⟩ := hrel
            by_cases hlq : q < Q.length
            · obtain ⟨ug, ucp, eug, _, _, _⟩ := ownBlockForm HOC.out (by omega)
              injection eug with eu1 _ eu2
              subst eu1 eu2
              obtain ⟨y0, y1, y2, y3, y4⟩ := owns_ce HOC.out q hlq
              have HTK : Hid (decide ((⟨xb, xw, sl⟩ : Ce) ∈ Q.take (q + 1)) = (decide ((⟨xb, xw, sl⟩ : Ce) ∈ Q.take q) || decide (ceG Q q = ⟨xb, xw, sl⟩))) := take_mem Q _ q hlq
              have HYE : Hid (decide (ceG Q q = ⟨xb, xw, sl⟩) = ((ceG Q q).blk == xb && ((ceG Q q).win == xw && ((ceG Q q).nm.a == sl.a && (ceG Q q).nm.b == sl.b && (ceG Q q).nm.c == sl.c)))) := by
                show _ = _
                rw [Bool.eq_iff_iff, decide_eq_true_eq]
                exact ce_iff _ _
              generalize decide ((⟨xb, xw, sl⟩ : Ce) ∈ Q.take q) = od at *
              generalize decide (ceG Q q = ⟨xb, xw, sl⟩) = oe at *
              generalize ceG Q q = Y at *
              have hqI : (q : Int) < (Q.length : Int) := by omega
              cases od
              · have heq := fun w => eq26 9997 Y.nm.a Y.nm.b Y.nm.c sl.a sl.b sl.c w
                cases e1 : (Y.blk == xb) <;> cases e2 : (Y.win == xw) <;> cases e3 : (Y.nm.a == sl.a && Y.nm.b == sl.b && Y.nm.c == sl.c)
                all_goals
                  rw [e3] at heq
                  rw [e1, e2, e3] at HYE
                  have HFF : Hid (decide ((⟨xb, xw, sl⟩ : Ce) ∈ Q.take (q + 1)) = oe) := by show _ = _; rw [HTK.out]; exact Bool.false_or _
                  go_wp2_with fail
                  go_quiet (fail)
                  go_wp2_with fail
                  exact ⟨⟨q + 1, by go_num, by omega, by rw [HFF.out, HYE.out]; rfl, _, rfl⟩, by simp [intOf]; omega⟩
              · have HFF : Hid (decide ((⟨xb, xw, sl⟩ : Ce) ∈ Q.take (q + 1)) = true) := by show _ = _; rw [HTK.out]; rfl
                go_wp2_with fail
                go_quiet (fail)
                go_wp2_with fail
                exact ⟨⟨q + 1, by go_num, by omega, by rw [HFF.out], _, rfl⟩, by simp [intOf]; omega⟩
            · have hqE : q = Q.length := by omega
              have hall : Q.take q = Q := by rw [hqE]; exact List.take_length
              rw [hall]
              have HB6 : Hid (Below w2.heap.size w2 (wc.drewN d5)) := below_drewN HBC.out d5
              have HO6 : Hid ((wc.drewN d5).ownsRow w2.heap.size 149 5 (.slice ua Q.length ucap) Q.length (flatCe Q)) := owns_drewN HOC.out d5
              have y0 : (wc.drewN d5).cell? ⟨w4.heap.size, 0, none⟩ = some (.int .i64 xb) := z0
              have y1 : (wc.drewN d5).cell? ⟨w4.heap.size, 1, none⟩ = some (.int .i64 xw) := z1
              have y2 : (wc.drewN d5).cell? ⟨w4.heap.size, 2, none⟩ = some (.int .u8 sl.a) := z2
              have y3 : (wc.drewN d5).cell? ⟨w4.heap.size, 3, none⟩ = some (.int .u8 sl.b) := z3
              have y4 : (wc.drewN d5).cell? ⟨w4.heap.size, 4, none⟩ = some (.int .u8 sl.c) := z4
              clear z0 z1 z2 z3 z4 hall
              generalize wc.drewN d5 = w6 at *
              obtain ⟨od, hod⟩ : ∃ od, od = decide ((⟨xb, xw, sl⟩ : Ce) ∈ Q) := ⟨_, rfl⟩
              rw [← hod]
              have HOD : Hid (od = decide ((⟨xb, xw, sl⟩ : Ce) ∈ Q)) := hod
              clear hod
              cases od
              · have HCA : Hid (ceA Q ⟨xb, xw, sl⟩ = Q ++ [⟨xb, xw, sl⟩]) := by
                  have hno : ¬ (⟨xb, xw, sl⟩ : Ce) ∈ Q := by simpa using HOD.out.symm
                  exact if_neg hno
                have HO7 : Hid ((w6.alloc (.cells (Ce.cells ⟨xb, xw, sl⟩).toArray 149)).ownsRow w2.heap.size 149 5 (.slice ua Q.length ucap) Q.length (flatCe Q)) := HO6.out.alloc _
                have HNW : Hid (∀ j u, (Ce.cells ⟨xb, xw, sl⟩)[j]? = some u → (w6.alloc (.cells (Ce.cells ⟨xb, xw, sl⟩).toArray 149)).cell? ((⟨w6.heap.size, 0, none⟩ : Addr).add j) = some u) := newAt _ _ _ _ rfl
                have HB7 : Hid (Below w2.heap.size w2 (w6.alloc (.cells (Ce.cells ⟨xb, xw, sl⟩).toArray 149))) := HB6.out.alloc HB6.out.size _
                have hz6 := HB6.out.size
                have HUB : Hid (∀ kk, (Value.slice ua Q.length ucap).ownBlock = some kk → w2.heap.size ≤ kk) := fun kk e => (HO6.out.lt kk e).1
                go_wp2_with (refine listAppend rfl (.tmp 95) (.tmp 97) 147 rfl w2.heap.size 149 li0 (.agg #[.int .i64 0, .int .i64 0, .int .u8 0, .int .u8 0, .int .u8 0]) 5 24 Tryz.underlying147 hli lz0 lz1 lz2 rfl (by decide) (.slice ua Q.length ucap) Q.length (flatCe Q) (by simp [Act.eval]) HO7.out ⟨w6.heap.size, 0, none⟩ 1 1 (Ce.cells ⟨xb, xw, sl⟩) (by simp [Act.eval]) rfl HNW.out (Ce.one _) (by unfold maxLen; omega) (by omega) (by rw [World.size_alloc]; omega) ?_; intro v' w8 hown hgrow hblk; have HF8 : Hid (w8.ownsRow w2.heap.size 149 5 v' (Q.length + 1) (flatCe Q ++ Ce.cells ⟨xb, xw, sl⟩) ∧ Below w2.heap.size w2 w8) := ⟨hown, HB7.out.grown hgrow (by rw [World.size_alloc]; omega) HUB.out⟩; clear hown hgrow hblk)
                exact ⟨⟨k + 1, by go_num, by omega, by rw [HCK.out, HCA.out, List.length_append, show flatCe (Q ++ [⟨xb, xw, sl⟩]) = flatCe Q ++ Ce.cells ⟨xb, xw, sl⟩ from flat_snoc _ _ _]; exact HF8.out.1, HF8.out.2⟩, by simp [intOf]; omega⟩
              · have HCA : Hid (ceA Q ⟨xb, xw, sl⟩ = Q) := by
                  have hyes : (⟨xb, xw, sl⟩ : Ce) ∈ Q := by simpa using HOD.out.symm
                  exact if_pos hyes
                go_wp2_with fail
                exact ⟨⟨k + 1, by go_num, by omega, by rw [HCK.out, HCA.out]; exact HO6.out, HB6.out⟩, by simp [intOf]; omega⟩
      · have HC2 : Hid (ceK c now S l (k + 1) = ceK c now S l k) := by
          show _ = _
          rw [HCE.out, if_neg (by rw [live_iff]; exact hlive)]
        generalize c.age now (smG l k).time = ag at *
        go_wp2_with fail
        refine HA.mono ?_
        rintro e w3 ⟨rfl, d, rfl⟩
        clear HA
        have y1 : (V.drewN d).cell? ⟨R, 1, none⟩ = some (.int .i64 c.keep) := x1
        have HB3 : Hid (Below w2.heap.size w2 (V.drewN d)) := below_drewN HBE.out d
        have HO3 : Hid ((V.drewN d).ownsRow w2.heap.size 149 5 (.slice ua (ceK c now S l k).length ucap) (ceK c now S l k).length (flatCe (ceK c now S l k))) := owns_drewN HOW.out d
        clear x0 x1
        generalize V.drewN d = w3 at *
        go_wp2_with fail
        exact ⟨⟨k + 1, by go_num, by omega, by rw [HC2.out]; exact HO3.out, HB3.out⟩, by simp [intOf]; omega⟩
    · have hkE : k = l.length := by omega
      have HF : Hid ((ceK c now S l l.length).length = res) := HRES.out.symm
      go_wp2_with fail
      go_ret
      exact ⟨by rw [← HF.out]; rfl, HBW.out⟩

end Go.Proofs.YthciddpljcbhiabGreatDoor

/- Walks: Sizes: every script is as the document says. -/
namespace Go.Proofs.YthciddpljcbhiabGreatDoor
open Go Go.RowKit Go.Lib

theorem cl_ref {R : Nat} {F : Nat → Prop} {c : Cf} {cs : List Chg} (w : World) (h : RfAt w R F c cs) (hov : OvAt w) : Calls Tryz.prog 51 #[.pointer (some ⟨R, 0, none⟩)] w fun e w' => e = .returned (.int .i64 (cellsN ((St.new c).doAll cs) : Nat)) ∧ Below w.heap.size w w' := by
  obtain ⟨ps, L, lcap, cv, rfl, h⟩ := h
  exact cells_ref R F c ps L lcap cv w h hov

set_option maxHeartbeats 1000000 in
set_option maxRecDepth 100000 in
theorem asked_cells (own : Nat → Nat) (base W D : Nat) (bv : Value) (bs : List Bk) (N : Nat) (i : Nat) (o : Opr) (la : Option Addr) (ln lc : Nat) (ba : Option Addr) (bn bc : Nat) (w : World) (h : WdAt w own base W D bv bs N) (hok : AllOk bs) (hi : i < bs.length) (hov : OvAt w) (hk : o.kind = 6) :
    Calls Tryz.prog 22 #[.pointer (some ⟨W, 0, none⟩), bkV (bkG bs i), opV o la ln lc ba bn bc] w fun e w' => e = .returned (.bool true) ∧ Went w w' base W D (N + 1) bs.length := by
  obtain ⟨hb0, hb1, hb2⟩ := box2q w (bkG bs i) o la ln lc ba bn bc
  have HOK : Hid (AllOk bs) := hok
  have hbas := h.bas
  have H0 : Hid (WdAt ((w.alloc (.cells #[.pointer (some ⟨(bkG bs i).X, 0, none⟩), .pointer (some ⟨(bkG bs i).R, 0, none⟩)] 62)).alloc (.cells (opC o la ln lc ba bn bc).toArray 47)) own base W D bv bs N) := h.below hb2
  have HOV : Hid (OvAt ((w.alloc (.cells #[.pointer (some ⟨(bkG bs i).X, 0, none⟩), .pointer (some ⟨(bkG bs i).R, 0, none⟩)] 62)).alloc (.cells (opC o la ln lc ba bn bc).toArray 47))) := hov.below hb2 hov.pos
  obtain ⟨e1, e2⟩ := hok i hi
  have HE1 : Hid ((bkG bs i).s = (St.new (bkG bs i).c).doAll (bkG bs i).cs) := e1
  have HB : Hid (Below w.heap.size w ((w.alloc (.cells #[.pointer (some ⟨(bkG bs i).X, 0, none⟩), .pointer (some ⟨(bkG bs i).R, 0, none⟩)] 62)).alloc (.cells (opC o la ln lc ba bn bc).toArray 47))) := hb2
  have HB0 : Hid (((w.alloc (.cells #[.pointer (some ⟨(bkG bs i).X, 0, none⟩), .pointer (some ⟨(bkG bs i).R, 0, none⟩)] 62)).alloc (.cells (opC o la ln lc ba bn bc).toArray 47)).heap[w.heap.size]? = some (.cells #[.pointer (some ⟨(bkG bs i).X, 0, none⟩), .pointer (some ⟨(bkG bs i).R, 0, none⟩)] 62 (0, 0))) := hb0
  have HB1 : Hid (((w.alloc (.cells #[.pointer (some ⟨(bkG bs i).X, 0, none⟩), .pointer (some ⟨(bkG bs i).R, 0, none⟩)] 62)).alloc (.cells (opC o la ln lc ba bn bc).toArray 47)).heap[w.heap.size + 1]? = some (.cells (opC o la ln lc ba bn bc).toArray 47 (0, 0))) := hb1
  have hpos := hov.pos
  clear h hok hb0 hb1 hb2 e1 e2 hov
  go_enter Tryz.func22, Tryz.ntmps22
  go_upto_region 1 with fail
  generalize (w.alloc (.cells #[.pointer (some ⟨(bkG bs i).X, 0, none⟩), .pointer (some ⟨(bkG bs i).R, 0, none⟩)] 62)).alloc (.cells (opC o la ln lc ba bn bc).toArray 47) = w0 at *
  have hlt0 : w.heap.size < w0.heap.size := (Array.getElem?_eq_some_iff.1 HB0.out).1
  have c0 : w0.cell? ⟨w.heap.size, 0, none⟩ = some (.pointer (some ⟨(bkG bs i).X, 0, none⟩)) := cell_blk HB0.out rfl
  have c1 : w0.cell? ⟨w.heap.size, 1, none⟩ = some (.pointer (some ⟨(bkG bs i).R, 0, none⟩)) := cell_blk HB0.out rfl
  have p0 : w0.cell? ⟨w.heap.size + 1, 0, none⟩ = some (.int .i64 o.kind) := cell_blk HB1.out rfl
  rw [hk] at p0
  go_wp2_with fail
  refine (cells_any (bkG bs i).X _ (bkG bs i).s (bkG bs i).lg w0 (H0.out.st i hi)).mono ?_
  rintro e w1 ⟨rfl, hb1⟩
  have d1 : w1.cell? ⟨w.heap.size, 1, none⟩ = some (.pointer (some ⟨(bkG bs i).R, 0, none⟩)) := (hb1.cell (p := ⟨w.heap.size, 1, none⟩) hlt0).trans c1
  have H1 : Hid (WdAt w1 own base W D bv bs N) := H0.out.below hb1
  have HBB1 : Hid (Below w.heap.size w w1) := HB.out.trans (hb1.mono HB.out.size)
  have HO1 : Hid (OvAt w1) := HOV.out.below hb1 (by omega)
  clear hb1 c0 c1 p0
  have HC2 := cl_ref w1 (H1.out.rf i hi) HO1.out
  rw [← HE1.out] at HC2
  generalize cellsN (bkG bs i).s = cn at *
  go_wp2_with fail
  refine HC2.mono ?_
  clear HC2
  rintro e w2 ⟨rfl, hb2⟩
  have H2 : Hid (WdAt w2 own base W D bv bs N) := H1.out.below hb2
  have HBB2 : Hid (Below w.heap.size w w2) := HBB1.out.trans (hb2.mono HBB1.out.size)
  clear hb2 d1
  go_wp2_with fail
  go_ret
  exact ⟨rfl, ⟨_, _, _, H2.out.more (Nat.le_succ _), HOK.out, Nat.le_refl _⟩, HBB2.out.mono hbas⟩

theorem stepOk_sizes {base W D : Nat} {o : Opr} (hwf : OpWf o) (hk : skipB 6 6 o.kind = false) : StepOkO base W D o := by
  have h := skip_no hk
  refine stepOkO_of hwf (by omega) (by omega) (by omega) (by omega) (fun k1 k2 k3 own bv bs N i la ln lc ba bn bc w hw hok hi _ hov => ?_)
  by_cases k6 : o.kind = 6
  · exact asked_cells own base W D bv bs N i o la ln lc ba bn bc w hw hok hi hov k6
  · exact asked_none own base W D bv bs N i o la ln lc ba bn bc w hw hok (by omega) (by omega) k6 (by omega)

end Go.Proofs.YthciddpljcbhiabGreatDoor

/- Walks: does a row stand ahead of another? (garnerref) -/
namespace Go.Proofs.YthciddpljcbhiabGreatDoor
open Go Go.RowKit Go.Lib

def gKey (k : Key) (i : Nat) : Int := match i with | 0 => k.g0 | 1 => k.g1 | _ => k.g2
theorem lt_first {a b : Key} (hs : a.st = b.st) {j : Nat} (hj : j < 3) (he : ∀ i, i < j → gKey a i = gKey b i) (h : gKey a j < gKey b j) : a.lt b := by
  have : j = 0 ∨ j = 1 ∨ j = 2 := by omega
  unfold Key.lt
  rcases this with rfl | rfl | rfl
  · have h' : a.g0 < b.g0 := h
    omega
  · have e0 : a.g0 = b.g0 := he 0 (by omega)
    have h' : a.g1 < b.g1 := h
    omega
  · have e0 : a.g0 = b.g0 := he 0 (by omega)
    have e1 : a.g1 = b.g1 := he 1 (by omega)
    have h' : a.g2 < b.g2 := h
    omega
theorem nlt_first {a b : Key} (hs : a.st = b.st) {j : Nat} (hj : j < 3) (he : ∀ i, i < j → gKey a i = gKey b i) (h : gKey b j < gKey a j) : ¬ a.lt b := Key.lt_asymm (lt_first hs.symm hj (fun i hi => (he i hi).symm) h)
theorem nlt_eq {a b : Key} (hs : a.st = b.st) (he : ∀ i, i < 3 → gKey a i = gKey b i) : ¬ a.lt b := by
  have e0 : a.g0 = b.g0 := he 0 (by omega)
  have e1 : a.g1 = b.g1 := he 1 (by omega)
  have e2 : a.g2 = b.g2 := he 2 (by omega)
  unfold Key.lt
  omega
abbrev rwA (r : Rw) : Array Value := #[.int .i64 r.key.st, .int .u8 r.key.g0, .int .u8 r.key.g1, .int .u8 r.key.g2, .int .i64 r.ag.cnt, .int .i64 r.ag.sum, .int .i32 r.ag.mn, .int .i32 r.ag.mx]
theorem rwA_get (r : Rw) (k : Nat) (h : k < 3) : (rwA r)[1 + k]? = some (.int .u8 (gKey r.key k)) := by
  have : k = 0 ∨ k = 1 ∨ k = 2 := by omega
  rcases this with rfl | rfl | rfl <;> rfl

set_option maxHeartbeats 1000000 in
set_option maxRecDepth 100000 in
theorem less_ref (a b : Rw) (w : World) : Calls Tryz.prog 106 #[.agg (rwA a), .agg (rwA b)] w fun e w' => (∃ r : Bool, e = .returned (.bool r) ∧ (r = true ↔ a.key.lt b.key)) ∧ Below w.heap.size w w' := by
  have hB : Below w.heap.size w ((w.alloc (.cells (rwA a) 78)).alloc (.cells (rwA b) 78)) := ((Below.refl _ _).alloc (Nat.le_refl _) _).alloc (by simp) _
  have ha : ((w.alloc (.cells (rwA a) 78)).alloc (.cells (rwA b) 78)).heap[w.heap.size]? = some (.cells (rwA a) 78 (0, 0)) := by
    rw [Below.heap_alloc _ _ _ (by simp)]
    exact heap_alloc_new _ _
  have hb : ((w.alloc (.cells (rwA a) 78)).alloc (.cells (rwA b) 78)).heap[w.heap.size + 1]? = some (.cells (rwA b) 78 (0, 0)) := by
    have h9 := heap_alloc_new (w.alloc (.cells (rwA a) 78)) (.cells (rwA b) 78)
    simpa only [World.size_alloc] using h9
  have HB : Hid (Below w.heap.size w ((w.alloc (.cells (rwA a) 78)).alloc (.cells (rwA b) 78))) := hB
  have HA1 : Hid (((w.alloc (.cells (rwA a) 78)).alloc (.cells (rwA b) 78)).heap[w.heap.size]? = some (.cells (rwA a) 78 (0, 0))) := ha
  have HB1 : Hid (((w.alloc (.cells (rwA a) 78)).alloc (.cells (rwA b) 78)).heap[w.heap.size + 1]? = some (.cells (rwA b) 78 (0, 0))) := hb
  clear hB ha hb
  go_enter Tryz.func106, Tryz.ntmps106
  go_upto_region 1 with fail
  generalize (w.alloc (.cells (rwA a) 78)).alloc (.cells (rwA b) 78) = w0 at *
  have x0 : w0.cell? ⟨w.heap.size, 0, none⟩ = some (.int .i64 a.key.st) := cell_blk HA1.out rfl
  have y0 : w0.cell? ⟨w.heap.size + 1, 0, none⟩ = some (.int .i64 b.key.st) := cell_blk HB1.out rfl
  by_cases hs : a.key.st = b.key.st
  · have hsb : (a.key.st != b.key.st) = false := by simp [hs]
    have HS : Hid (a.key.st = b.key.st) := hs
    clear hs
    go_wp2_with fail
    go_loopw [5] (fun i wr => ∃ k : Nat, i = .int .i64 k ∧ k ≤ 3 ∧ (∀ j, j < k → gKey a.key j = gKey b.key j) ∧ ∃ d, wr = w0.drewN d) (fun i _ => 3 - (intOf i).toNat)
    case atStart => exact ⟨0, rfl, Nat.zero_le _, fun j hj => by omega, 0, rfl⟩
    case round =>
      obtain ⟨k, rfl, hk, hall, d, rfl⟩ := hrel
      have HAL : Hid (∀ j, j < k → gKey a.key j = gKey b.key j) := hall
      clear hall
      by_cases hlt : k < 3
      · have u : w0.cell? ⟨w.heap.size, 1 + k, none⟩ = some (.int .u8 (gKey a.key k)) := cell_blk HA1.out (rwA_get a k hlt)
        have v : w0.cell? ⟨w.heap.size + 1, 1 + k, none⟩ = some (.int .u8 (gKey b.key k)) := cell_blk HB1.out (rwA_get b k hlt)
        have HLT : Hid (gKey a.key k < gKey b.key k → a.key.lt b.key) := fun h => lt_first HS.out hlt HAL.out h
        have HNL : Hid (gKey b.key k < gKey a.key k → ¬ a.key.lt b.key) := fun h => nlt_first HS.out hlt HAL.out h
        have HNX : Hid (gKey a.key k = gKey b.key k → ∀ j, j < k + 1 → gKey a.key j = gKey b.key j) := fun h j hj => by
          by_cases e : j = k
          · subst e; exact h
          · exact HAL.out j (by omega)
        generalize gKey a.key k = ga at *
        generalize gKey b.key k = gb at *
        by_cases he : ga = gb
        · have hne : (ga != gb) = false := by simp [he]
          have HN2 : Hid (∀ j, j < k + 1 → gKey a.key j = gKey b.key j) := HNX.out he
          clear he
          go_wp2_with fail
          go_quiet (fail)
          go_wp2_with fail
          exact ⟨⟨k + 1, by go_num, by omega, HN2.out, _, rfl⟩, by simp [intOf]; omega⟩
        · have hne : (ga != gb) = true := by simp [he]
          by_cases hl : ga < gb
          · have HT : Hid (a.key.lt b.key) := HLT.out hl
            clear he
            go_wp2_with fail
            go_quiet (fail)
            go_wp2_with fail
            go_quiet (fail)
            go_wp2_with fail
            go_ret
            exact ⟨⟨_, rfl, fun _ => HT.out, fun _ => rfl⟩, below_drewN (below_drewN (below_drewN HB.out _) _) _⟩
          · have HF : Hid (¬ a.key.lt b.key) := HNL.out (by omega)
            clear he
            go_wp2_with fail
            go_quiet (fail)
            go_wp2_with fail
            go_quiet (fail)
            go_wp2_with fail
            go_ret
            exact ⟨⟨_, rfl, (fun e => absurd (of_decide_eq_true e) (by omega)), fun e => absurd e HF.out⟩, below_drewN (below_drewN (below_drewN HB.out _) _) _⟩
      · have HF : Hid (¬ a.key.lt b.key) := nlt_eq HS.out (fun j hj => HAL.out j (by omega))
        go_wp2_with fail
        go_ret
        exact ⟨⟨false, rfl, (fun e => by cases e), fun e => absurd e HF.out⟩, below_drewN HB.out _⟩
  · have hsb : (a.key.st != b.key.st) = true := by simp [hs]
    by_cases hl : a.key.st < b.key.st
    · have HT : Hid (a.key.lt b.key) := .inl hl
      go_wp2_with fail
      go_ret
      exact ⟨⟨_, rfl, fun _ => HT.out, fun _ => rfl⟩, HB.out⟩
    · have HF : Hid (¬ a.key.lt b.key) := by show ¬ _; unfold Key.lt; omega
      go_wp2_with fail
      go_ret
      exact ⟨.inl ⟨rfl, HF.out⟩, HB.out⟩

end Go.Proofs.YthciddpljcbhiabGreatDoor

/- One value more among the rows, row by row (no program). -/
namespace Go.Proofs.YthciddpljcbhiabGreatDoor

def joY (dk : Bool) (y : Rw) (v : Int) : Rw := if dk then ⟨y.key, y.ag.join (.one v)⟩ else y
theorem joY_key (dk : Bool) (y : Rw) (v : Int) : (joY dk y v).key = y.key := by cases dk <;> rfl
def apX (ap : Bool) (k : Key) (v : Int) : List Rw := if ap then [⟨k, .one v⟩] else []
def rest (b : Bool) (l : List Rw) (k : Key) (v : Int) : List Rw := if b then l else addR l k v
theorem ad_step {l : List Rw} (hup : l.Pairwise fun a b => a.key.lt b.key) {k : Key} {v : Int} {i : Nat} (hi : i < l.length) {inb : Bool} {out : List Rw} (hinv : addR l k v = out ++ rest inb (l.drop i) k v) (hin : inb = true → ∀ r ∈ l.drop i, k.lt r.key)
    {dk r : Bool} (hdk : dk = true ↔ (rwG l i).key = k) (hr : r = true ↔ k.lt (rwG l i).key) :
    addR l k v = (out ++ apX (!(inb || dk) && r) k v ++ [joY dk (rwG l i) v]) ++ rest ((inb || dk) || (!(inb || dk) && r)) (l.drop (i + 1)) k v ∧ (((inb || dk) || (!(inb || dk) && r)) = true → ∀ x ∈ l.drop (i + 1), k.lt x.key) := by
  have hd : l.drop i = rwG l i :: l.drop (i + 1) := by rw [rwG_get l i hi]; exact List.drop_eq_getElem_cons hi
  have hlt : ∀ x ∈ l.drop (i + 1), (rwG l i).key.lt x.key := by
    have h1 : (l.drop i).Pairwise fun a b => a.key.lt b.key := hup.sublist (List.drop_sublist _ _)
    rw [hd, List.pairwise_cons] at h1
    exact h1.1
  rw [hd] at hinv hin
  generalize rwG l i = y at *
  generalize l.drop (i + 1) = t at *
  cases inb with
  | true =>
    have hky : k.lt y.key := hin rfl y (by simp)
    have hdf : dk = false := by
      cases dk with
      | false => rfl
      | true => exact absurd (hdk.1 rfl ▸ hky) (Key.lt_irrefl _)
    subst hdf
    refine ⟨?_, fun _ x hx => hin rfl x (by simp [hx])⟩
    rw [hinv]
    simp [rest, apX, joY]
  | false =>
    cases dk with
    | true =>
      have hk : y.key = k := hdk.1 rfl
      refine ⟨?_, fun _ x hx => by rw [← hk]; exact hlt x hx⟩
      rw [hinv]
      simp [rest, apX, joY, addR, hk]
    | false =>
      have hk : ¬ y.key = k := fun e => by have := hdk.2 e; cases this
      cases r with
      | true =>
        have hky : k.lt y.key := hr.1 rfl
        refine ⟨?_, fun _ x hx => Key.lt_trans hky (hlt x hx)⟩
        rw [hinv]
        simp [rest, apX, joY, addR, hk, hky]
      | false =>
        have hky : ¬ k.lt y.key := fun e => by have := hr.2 e; cases this
        refine ⟨?_, fun e => by simp at e⟩
        rw [hinv]
        simp [rest, apX, joY, addR, hk, hky]
theorem ad_end {l : List Rw} {k : Key} {v : Int} {inb : Bool} {out : List Rw} (hinv : addR l k v = out ++ rest inb (l.drop l.length) k v) : addR l k v = out ++ apX (!inb) k v := by
  rw [hinv, List.drop_length]
  cases inb <;> simp [rest, apX, addR]

end Go.Proofs.YthciddpljcbhiabGreatDoor
