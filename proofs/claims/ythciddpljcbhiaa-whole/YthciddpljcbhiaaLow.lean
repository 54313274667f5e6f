/- Walks: numbers as bytes by the document's answer (low, checked). -/
import Derived.Test.YthciddpljcbhiaaNum
namespace Go.Proofs.Ythciddpljcbhiaa
open Go.RowKit

theorem Try.info5' : (Try.prog.info? 5).map (fun i => (i.zero, i.size, i.bytes)) = some (some (.int .u8 0), 1, 1) := by kernel_rfl

theorem shrN_succ (n : Int) (k : Nat) : shrN n (k + 1) = shrN n k / 256 := rfl

/-- An owned row of bytes, as a string. -/
theorem convOwn {w : World} {B : Nat} {v : Value} {n : Nat} {xs : List Int} (h : w.ownsRow B 5 1 v n (xs.map (Value.int .u8))) (hn : 0 < n) : (convert 50 9 v).run Try.prog w = .ok (.string (strOfNums xs)) w := by
  have hlen : xs.length = n := by have := h.1; simpa using this
  obtain ⟨_, h2⟩ := h
  rcases h2 with ⟨_, h0⟩ | ⟨g, cap, cur, rfl, _, hg, hnc, _, hcs, ht⟩
  · omega
  · refine run_convert_bytes_arg (P := Try.prog) _ 50 5 Try.underlying50 Try.underlying5 g 0 n cap xs hlen (fun i hi => ?_) 9 Try.underlying9
    have e : (cur.toList.take (n * 1))[i]? = some (.int .u8 (xs.getD i 0)) := by rw [ht]; simp [List.getD, show i < xs.length by omega]
    rw [List.getElem?_take_of_lt (by omega), Array.getElem?_toList] at e
    simp [World.cell?, hg, e]

set_option maxHeartbeats 400000 in
theorem low_any (n : Int) (m : Nat) (w : World) (h0 : 0 ≤ n) (h1 : n ≤ 9223372036854775807) (hm0 : 0 < m) (hm : m ≤ 8) :
    Calls Try.prog 84 #[.int .i64 n, .int .i64 m] w fun e w' => e = .returned (.string (strOfNums (lowN n m))) ∧ Below w.heap.size w w' := by
  obtain ⟨i0, hi, hz0, hz1, hz2⟩ := info_parts Try.info5'
  go_enter Try.func84, Try.ntmps84
  go_wp2
  go_loopw [0, 5, 6] (fun q v i wr => ∃ k : Nat, k ≤ m ∧ i = .int .i64 k ∧ q = .int .i64 (shrN n k) ∧ wr.ownsRow w.heap.size 5 1 v k ((lowN n k).map (Value.int .u8)) ∧ Below w.heap.size w wr) (fun _ _ i _ => m - (intOf i).toNat)
  case atStart => exact ⟨0, Nat.zero_le _, rfl, rfl, World.ownsRow_nil _ _ _ _, Below.refl _ _⟩
  case round =>
    obtain ⟨k, hk, rfl, rfl, hown, hbel⟩ := hrel
    have HO : Hid (wr.ownsRow w.heap.size 5 1 u5 k ((lowN n k).map (Value.int .u8))) := hown
    have HB : Hid (Below w.heap.size w wr) := hbel
    have hsz := hbel.size
    clear hown hbel
    obtain ⟨hq0, hq1⟩ := shrN_range n h0 k
    have HS : Hid (shrN n (k + 1) = shrN n k / 256) := shrN_succ n k
    have HL : Hid (lowN n (k + 1) = lowN n k ++ [shrN n k % 256]) := lowN_snoc k n
    generalize hq : shrN n k = q at *
    clear hq
    by_cases hlt : k < m
    · go_wp2_with (first | (at_builtin; refine wpList_append_own _ rfl _ _ 50 rfl w.heap.size 5 i0 (.int .u8 0) 1 1 Try.underlying50 hi hz0 hz1 hz2 rfl (by decide) _ _ _ rfl (HO.out.alloc _) ⟨wr.heap.size, 0, none⟩ 1 1 [.int .u8 (q % 256)] rfl rfl ?c1 ?c2 ?c3 ?c4 ?c5 ?_) | go_in)
      case c1 =>
        intro j u hj
        match j, hj with
        | 0, hj => simp at hj; subst hj; simp [Addr.add]
      case c2 => intro u hu; simp at hu; subst hu; rfl
      case c3 => unfold maxLen; omega
      case c4 => omega
      case c5 => simp; omega
      intro v' w1 hown' hgrow _
      have hb1 : Below w.heap.size w w1 := (HB.out.alloc hsz _).grown hgrow (by simp; omega) (fun b hb => (HO.out.lt b hb).1)
      have HO' : Hid (w1.ownsRow w.heap.size 5 1 v' (k + 1) ((lowN n (k + 1)).map (Value.int .u8))) := by
        rw [HL.out, List.map_append]; exact hown'
      have HB' : Hid (Below w.heap.size w w1) := hb1
      clear hown' hgrow hb1
      go_wp2
      go_roundw
      case rel => exact ⟨k + 1, by omega, by go_num, by rw [HS.out], HO'.out, HB'.out⟩
      case measure => simp [intOf]; omega
    · have hkm : k = m := by omega
      have hcv := convOwn HO.out (by omega)
      go_wp2
      go_ret
      exact ⟨rfl, HB.out⟩

set_option maxHeartbeats 400000 in
theorem checked_any (s : ByteArray) (w : World) (hs : s.size ≤ 1000000) :
    Calls Try.prog 85 #[.string s] w fun e w' => e = .returned (.string (s ++ strOfNums (lowN (chk (nums s)) 4))) ∧ Below w.heap.size w w' := by
  go_enter Try.func85, Try.ntmps85
  go_wp2
  go_loop [3, 4] (fun h i => ∃ k : Nat, k ≤ s.size ∧ i = .int .i64 k ∧ h = .int .i64 (chk ((nums s).take k))) (fun _ i => s.size - (intOf i).toNat)
  case atStart => exact ⟨0, Nat.zero_le _, rfl, rfl⟩
  case round =>
    obtain ⟨k, hk, rfl, rfl⟩ := hrel
    obtain ⟨hq0, hq1⟩ := chk_range ((nums s).take k)
    by_cases hlt : k < s.size
    · have HB : Hid (((s[k].toNat : Nat) : Int) = byt s k) := byt_eq s k hlt
      have hbr := byt_range s k
      have hb1 : ((s[k].toNat : Nat) : Int) ≤ 255 := by rw [HB.out]; exact hbr.2
      have hb0 : 0 ≤ ((s[k].toNat : Nat) : Int) := by omega
      clear hbr
      have HT : Hid (chk ((nums s).take (k + 1)) = chkS (chk ((nums s).take k)) (byt s k)) := by rw [nums_take s k hlt]; exact chk_snoc _ _
      go_wp2
      refine ⟨⟨k + 1, by omega, by go_num, ?_⟩, by simp [intOf]; omega⟩
      rw [HT.out, ← HB.out]
      unfold chkS
      rfl
    · have HE : Hid ((nums s).take k = nums s) := List.take_of_length_le (by rw [nums_len]; omega)
      rw [HE.out] at hq0 hq1
      go_wp2_with fail
      rw [HE.out]
      have hsum : s.size + (strOfNums (lowN (chk (nums s)) 4)).size ≤ 9223372036854775807 := by rw [strOfNums_size, lowN_len]; omega
      refine (low_any _ 4 _ (by omega) (by omega) (by omega) (by omega)).mono ?_
      rintro e w1 ⟨rfl, hb⟩
      go_wp2_with fail
      go_ret
      exact ⟨rfl, hb⟩

end Go.Proofs.Ythciddpljcbhiaa
