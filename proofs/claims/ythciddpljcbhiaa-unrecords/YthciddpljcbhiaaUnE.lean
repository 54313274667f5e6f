/- Walks: a number read by the document's answer; an append within a region. -/
import Derived.Test.YthciddpljcbhiaaUnSpec
import Derived.Deep.RegionLaw
namespace Go.Proofs.Ythciddpljcbhiaa
open Go.RowKit

theorem byt_extract (s : ByteArray) (a b j : Nat) (h : a + j < b) (hb : b ≤ s.size) : byt (s.extract a b) j = byt s (a + j) := by
  have h1 := nums_get (s.extract a b) j (by rw [ByteArray.size_extract]; omega)
  have h2 := nums_get s (a + j) (by omega)
  have e : nums (s.extract a b) = ((nums s).take b).drop a := by
    unfold nums
    rw [← List.map_take, ← List.map_drop]
    congr 1
    simp [ByteArray.data_extract, List.extract, List.drop_take]
  rw [e, List.getElem?_drop, List.getElem?_take_of_lt (by omega), h2] at h1
  exact (Option.some.inj h1).symm
theorem num4_extract (s : ByteArray) (a b p : Nat) (h : a + p + 4 ≤ b) (hb : b ≤ s.size) : num4 (s.extract a b) p = num4 s (a + p) := by
  unfold num4
  rw [byt_extract s a b p (by omega) hb, byt_extract s a b (p + 1) (by omega) hb, byt_extract s a b (p + 2) (by omega) hb, byt_extract s a b (p + 3) (by omega) hb]
  rfl

set_option maxHeartbeats 400000 in
set_option maxRecDepth 100000 in
theorem refNumber_any (s : ByteArray) (w : World) (hp : s.size = 4) :
    Calls Try.prog 57 #[.string s] w fun e w' => e = .returned (.int .i64 (num4 s 0)) ∧ w' = w := by
  obtain ⟨a0, a1⟩ := byt_range s 3
  obtain ⟨b0, b1⟩ := byt_range s 2
  obtain ⟨c0, c1⟩ := byt_range s 1
  obtain ⟨d0, d1⟩ := byt_range s 0
  have B3 : Hid (((s[3].toNat : Nat) : Int) = byt s 3) := byt_eq s 3 (by omega)
  have B2 : Hid (((s[2].toNat : Nat) : Int) = byt s 2) := byt_eq s 2 (by omega)
  have B1 : Hid (((s[1].toNat : Nat) : Int) = byt s 1) := byt_eq s 1 (by omega)
  have B0 : Hid (((s[0].toNat : Nat) : Int) = byt s 0) := byt_eq s 0 (by omega)
  have E3 : ((s[3].toNat : Nat) : Int) ≤ 255 := by rw [B3.out]; exact a1
  have E2 : ((s[2].toNat : Nat) : Int) ≤ 255 := by rw [B2.out]; exact b1
  have E1 : ((s[1].toNat : Nat) : Int) ≤ 255 := by rw [B1.out]; exact c1
  have E0 : ((s[0].toNat : Nat) : Int) ≤ 255 := by rw [B0.out]; exact d1
  have HE' : Hid (∀ x y : Int, x = y → Value.int IntKind.i64 x = .int .i64 y) := fun x y h => by rw [h]
  go_enter Try.func57, Try.ntmps57
  go_wp2
  go_loop [3, 4] (fun n i => (i = .int .i64 3 ∧ n = .int .i64 0) ∨ (i = .int .i64 2 ∧ n = .int .i64 (byt s 3)) ∨ (i = .int .i64 1 ∧ n = .int .i64 (byt s 2 + 256 * byt s 3))
    ∨ (i = .int .i64 0 ∧ n = .int .i64 (byt s 1 + 256 * (byt s 2 + 256 * byt s 3))) ∨ (i = .int .i64 (-1) ∧ n = .int .i64 (num4 s 0))) (fun _ i => (intOf i + 1).toNat)
  case atStart => exact Or.inl ⟨rfl, rfl⟩
  case round =>
    rcases hrel with ⟨rfl, rfl⟩ | ⟨rfl, rfl⟩ | ⟨rfl, rfl⟩ | ⟨rfl, rfl⟩ | ⟨rfl, rfl⟩
    · go_wp2
      refine ⟨Or.inr (Or.inl ⟨rfl, HE'.out _ _ ?_⟩), by simp [intOf]⟩
      rw [B3.out]
    · go_wp2
      refine ⟨Or.inr (Or.inr (Or.inl ⟨rfl, HE'.out _ _ ?_⟩)), by simp [intOf]⟩
      rw [B2.out]; omega
    · generalize hq : byt s 2 + 256 * byt s 3 = q at *
      have hq0 : 0 ≤ q := by omega
      have hq1 : q ≤ 65535 := by omega
      clear hq
      go_wp2
      refine ⟨Or.inr (Or.inr (Or.inr (Or.inl ⟨rfl, HE'.out _ _ ?_⟩))), by simp [intOf]⟩
      rw [B1.out]; omega
    · generalize hq : byt s 1 + 256 * (byt s 2 + 256 * byt s 3) = q at *
      have hq0 : 0 ≤ q := by omega
      have hq1 : q ≤ 16777215 := by omega
      have HQ : Hid (num4 s 0 = byt s 0 + 256 * q) := by show _ = _; unfold num4; rw [hq]
      clear hq
      go_wp2
      refine ⟨Or.inr (Or.inr (Or.inr (Or.inr ⟨rfl, HE'.out _ _ ?_⟩))), by simp [intOf]⟩
      rw [HQ.out, B0.out]; omega
    · go_wp2
      go_ret
      exact ⟨rfl, rfl⟩

/-- An append onto a row of the call's own, as one step of a region that draws its order. -/
theorem step_append_mine {P : Program} {w : World} {ops : Array Oper} {o : Oper} {a : Act} {K : Act → World → Prop} {Q : Exit → Act → World → Prop} {E : Prop} (hgd : o.guard = none) (s x : Operand) (t : TypeId)
    (ho : o.op = .call { callee := .builtin .append, args := #[s, x], argTypes := #[t, t] })
    (base : Nat) (e : TypeId) (i : TypeInfo) (z : Value) (size bytes : Nat) (ht : P.underlying t = some (.slice e)) (hi : P.info? e = some i) (hz : i.zero = some z)
    (hsize : i.size = size) (hby : i.bytes = bytes) (hzs : z.cells.size = size) (hsz : 0 < size)
    (v : Value) (n : Nat) (xs : List Value) (hs : a.eval s = v) (hown : w.ownsRow base e size v n xs)
    (ad : Addr) (m c : Nat) (news : List Value) (hx : a.eval x = .slice (some ad) m c) (hl : news.length = m * size) (hnews : ∀ j u, news[j]? = some u → w.cell? (ad.add j) = some u) (h1 : ∀ u ∈ news, u.oneCell' = true)
    (h63 : n + m ≤ maxLen) (hbytes : (n + m) * bytes ≤ 140737488355328) (hbase : base ≤ w.heap.size)
    (h : ∀ v' w', w'.ownsRow base e size v' (n + m) (xs ++ news) → w.grownBy w' v.ownBlock → K (a.put o.dst v') w') :
    if Region.wanted o (yielded ops a.tmps) = true then Oper.wp P o a w K Q else E := by
  have hw : Region.wanted o (yielded ops a.tmps) = true := by simp [Region.wanted, hgd]
  rw [if_pos hw]
  exact wp_append_own w s x t ho base e i z size bytes ht hi hz hsize hby hzs hsz v n xs hs hown ad m c news hx hl hnews h1 h63 hbytes hbase fun v' w' h2 h3 _ => h v' w' h2 h3

end Go.Proofs.Ythciddpljcbhiaa
