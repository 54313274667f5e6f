/- Walks: the record of a batch, by the program and by the document's answer. -/
import Derived.Test.YthciddpljcbhiaaLow
import Derived.Test.YthciddpljcbhiaaSmA
namespace Go.Proofs.Ythciddpljcbhiaa
open Go.RowKit

theorem conv3' (w : World) (g : Nat) (hg : g = w.heap.size) (a b c : Int) : (convert 50 9 (.slice (some ⟨g, 0, none⟩) 3 3)).run Try.prog (w.alloc (.cells #[.int .u8 a, .int .u8 b, .int .u8 c] 5)) =
    .ok (.string (strOfNums [a, b, c])) (w.alloc (.cells #[.int .u8 a, .int .u8 b, .int .u8 c] 5)) := convNew w [a, b, c] 3 rfl 3 _ rfl _ hg

set_option maxHeartbeats 400000 in
set_option maxRecDepth 100000 in
theorem ofSample_any (x : Sm) (w : World) (ht0 : 0 ≤ x.time) (ht1 : x.time ≤ 100000) (_hv0 : -2147483648 ≤ x.value) (_hv1 : x.value ≤ 2147483647) :
    Calls Try.prog 59 #[smV x] w fun e w' => e = .returned (.string (strOfNums (smB x))) ∧ Below w.heap.size w w' := by
  obtain ⟨hu0, hu1⟩ := uval_range x.value
  have HU : Hid (uval x.value = x.value % 4294967296) := rfl
  have HS : Hid (strOfNums (lowN x.time 4) ++ strOfNums [x.l0, x.l1, x.l2] ++ strOfNums (lowN (uval x.value) 4) = strOfNums (smB x)) := by
    rw [str_add, str_add]; rfl
  have hs1 : (strOfNums (lowN x.time 4)).size + (strOfNums [x.l0, x.l1, x.l2]).size ≤ 9223372036854775807 := by rw [strOfNums_size, strOfNums_size, lowN_len]; simp
  have hs2 : (strOfNums (lowN x.time 4) ++ strOfNums [x.l0, x.l1, x.l2]).size + (strOfNums (lowN (uval x.value) 4)).size ≤ 9223372036854775807 := by rw [str_add, strOfNums_size, strOfNums_size, lowN_len]; simp [lowN_len]
  go_enter Try.func59, Try.ntmps59
  go_wp2_with fail
  refine (number_any _ _ (by omega) (by omega)).mono ?_
  rintro e w1 ⟨rfl, o1, rfl⟩
  have hcv := fun w g hg => conv3' w g hg x.l0 x.l1 x.l2
  go_wp2_with fail
  refine (number_any _ _ (by omega) (by omega)).mono ?_
  rintro e w1 ⟨rfl, o2, rfl⟩
  rw [← HU.out]
  go_wp2_with fail
  go_ret
  refine ⟨ret_str HS.out, ?_⟩
  exact ((((Below.refl _ _).alloc (Nat.le_refl _) _).alloc (by simp) _).alloc (by simp; omega) _).alloc (by simp; omega) _

theorem conv2' (w : World) (g : Nat) (hg : g = w.heap.size) (a b : Int) : (convert 50 9 (.slice (some ⟨g, 0, none⟩) 2 2)).run Try.prog (w.alloc (.cells #[.int .u8 a, .int .u8 b] 5)) =
    .ok (.string (strOfNums [a, b])) (w.alloc (.cells #[.int .u8 a, .int .u8 b] 5)) := convNew w [a, b] 2 rfl 2 _ rfl _ hg

/-- The bytes of a record's beginning: its head and k samples. -/
def begB (ls : List Sm) (k : Nat) : List Int := [87, (ls.length : Int)] ++ (ls.take k).flatMap smB
theorem begB_succ (ls : List Sm) (k : Nat) (h : k < ls.length) : begB ls (k + 1) = begB ls k ++ smB (smG ls k) := by
  unfold begB; rw [flat_take ls k h, List.append_assoc]
theorem begB_len (ls : List Sm) (k : Nat) : (begB ls k).length ≤ 2 + ls.length * 11 := by
  unfold begB
  simp [flat_length smB 11 smB_len]
  have : min k ls.length ≤ ls.length := Nat.min_le_right _ _
  omega
theorem begB_all (ls : List Sm) (k : Nat) (h : ls.length ≤ k) : begB ls k = bodyB ls := by unfold begB bodyB; rw [List.take_of_length_le h]

set_option maxHeartbeats 400000 in
set_option maxRecDepth 100000 in
theorem ofBatch_any (b off n cap : Nat) (ls : List Sm) (w : World) (hn : ls.length = n) (h8 : n ≤ 8) (hat : SmAt w b off ls) (hwf : SmWf ls) (hok : smsOk ls = true) :
    Calls Try.prog 43 #[.slice (some ⟨b, off, none⟩) n cap] w fun e w' => e = .returned (.string (strOfNums (recB ls))) ∧ Below w.heap.size w w' := by
  have HAT : Hid (SmAt w b off ls) := hat
  have HN : Hid (ls.length = n) := hn
  have HW : Hid (SmWf ls) := hwf
  have HOK : Hid (∀ j, j < n → smOk (smG ls j) = true) := fun j hj => by
    have := List.all_eq_true.1 hok j (List.mem_range.2 (by omega)); exact this
  clear hat hn hwf hok
  have hcv := fun w g hg => conv2' w g hg 87 (n : Int)
  go_enter Try.func43, Try.ntmps43
  go_wp2_with fail
  go_loopw [3, 4] (fun s i wr => ∃ k : Nat, k ≤ n ∧ i = .int .i64 k ∧ s = .string (strOfNums (begB ls k)) ∧ Below w.heap.size w wr) (fun _ i _ => n - (intOf i).toNat)
  case atStart => exact ⟨0, Nat.zero_le _, rfl, by rw [show begB ls 0 = [87, (n : Int)] from by simp [begB, HN.out]], (Below.refl _ _).alloc (Nat.le_refl _) _⟩
  case round =>
    obtain ⟨k, hk, rfl, rfl, hbel⟩ := hrel
    have hsz := hbel.size
    by_cases hlt : k < n
    · have hb0 : b < w.heap.size := HAT.out.block (by rw [HN.out]; omega)
      obtain ⟨c0, c1, c2, c3, c4⟩ := (HAT.out.below hbel hb0) k (by rw [HN.out]; exact hlt)
      have HX := (smOk_iff _).1 (HOK.out k hlt)
      obtain ⟨ht0, ht1, _⟩ := HX
      obtain ⟨_, _, _, _, hv0, hv1⟩ := HW.out k
      have HE : Hid (strOfNums (begB ls k) ++ strOfNums (smB (smG ls k)) = strOfNums (begB ls (k + 1))) := by show _ = _; rw [str_add, begB_succ ls k (by rw [HN.out]; exact hlt)]
      have hsum : (strOfNums (begB ls k)).size + (strOfNums (smB (smG ls k))).size ≤ 9223372036854775807 := by
        rw [strOfNums_size, strOfNums_size, smB_len]; have := begB_len ls k; have := HN.out; omega
      go_wp2_with fail
      refine (ofSample_any (smG ls k) _ ht0 ht1 hv0 hv1).mono ?_
      rintro e w1 ⟨rfl, hb1⟩
      go_wp2_with fail
      rw [HE.out]
      exact ⟨⟨k + 1, by omega, by go_num, rfl, hbel.trans (hb1.mono hsz)⟩, by simp [intOf]; omega⟩
    · have HB : Hid (begB ls k = bodyB ls) := begB_all ls k (by rw [HN.out]; omega)
      have HNU : Hid (nums (strOfNums (bodyB ls)) = bodyB ls) := nums_str _ (bodyB_byte HW.out (by rw [HN.out]; omega))
      have hlen : (bodyB ls).length ≤ 100 := by rw [bodyB_len, HN.out]; omega
      obtain ⟨q0, q1⟩ := chk_range (bodyB ls)
      rw [HB.out]
      have hsum : (strOfNums (bodyB ls)).size + (strOfNums (lowN (chk (bodyB ls)) 4)).size ≤ 9223372036854775807 := by rw [strOfNums_size, strOfNums_size, lowN_len]; omega
      have HE : Hid (strOfNums (bodyB ls) ++ strOfNums (lowN (chk (bodyB ls)) 4) = strOfNums (recB ls)) := by rw [str_add]; rfl
      go_wp2_with fail
      refine (check_any (strOfNums (bodyB ls)) _ (by rw [strOfNums_size]; unfold maxLen; omega)).mono ?_
      rintro e w1 ⟨rfl, rfl⟩
      rw [HNU.out]
      go_wp2_with fail
      refine (number_any _ _ q0 q1).mono ?_
      rintro e w1 ⟨rfl, o1, rfl⟩
      go_wp2_with fail
      go_ret
      exact ⟨ret_str HE.out, hbel.alloc hsz _⟩

set_option maxHeartbeats 1000000 in
set_option maxRecDepth 100000 in
theorem written_any (b off n cap : Nat) (ls : List Sm) (w : World) (hn : ls.length = n) (h8 : n ≤ 8) (hat : SmAt w b off ls) (hwf : SmWf ls) (hok : smsOk ls = true) :
    Calls Try.prog 56 #[.slice (some ⟨b, off, none⟩) n cap] w fun e w' => e = .returned (.string (strOfNums (recB ls))) ∧ Below w.heap.size w w' := by
  have HAT : Hid (SmAt w b off ls) := hat
  have HN : Hid (ls.length = n) := hn
  have HW : Hid (SmWf ls) := hwf
  have HOK : Hid (∀ j, j < n → smOk (smG ls j) = true) := fun j hj => by
    have := List.all_eq_true.1 hok j (List.mem_range.2 (by omega)); exact this
  clear hat hn hwf hok
  have hs0 : (⟨#[87]⟩ : ByteArray).size + (strOfNums (lowN (n : Int) 1)).size ≤ 9223372036854775807 := by rw [strOfNums_size, lowN_len]; decide
  have HH : Hid ((⟨#[87]⟩ : ByteArray) ++ strOfNums (lowN (n : Int) 1) = strOfNums (begB ls 0)) := by
    show _ = _
    rw [show (⟨#[87]⟩ : ByteArray) = strOfNums [87] from rfl, str_add, low1_eq _ (by omega) (by omega)]
    simp [begB, HN.out]
  go_enter Try.func56, Try.ntmps56
  go_wp2_with fail
  refine (low_any _ 1 _ (by omega) (by omega) (by omega) (by omega)).mono ?_
  rintro e w1 ⟨rfl, hb1⟩
  go_wp2_with fail
  rw [HH.out]
  go_loopw [4, 5] (fun s i wr => ∃ k : Nat, k ≤ n ∧ i = .int .i64 k ∧ s = .string (strOfNums (begB ls k)) ∧ Below w.heap.size w wr) (fun _ i _ => n - (intOf i).toNat)
  case atStart => exact ⟨0, Nat.zero_le _, rfl, rfl, hb1⟩
  case round =>
    obtain ⟨k, hk, rfl, rfl, hbel⟩ := hrel
    have hsz := hbel.size
    by_cases hlt : k < n
    · have hb0 : b < w.heap.size := HAT.out.block (by rw [HN.out]; omega)
      have HAR : Hid (SmAt wr b off ls) := HAT.out.below hbel hb0
      obtain ⟨c0, c1, c2, c3, c4⟩ := HAR.out k (by rw [HN.out]; exact hlt)
      obtain ⟨ht0, ht1, _⟩ := (smOk_iff _).1 (HOK.out k hlt)
      obtain ⟨_, _, _, _, hv0, hv1⟩ := HW.out k
      have hbr : b < wr.heap.size := by omega
      have HE : Hid (strOfNums (begB ls k) ++ strOfNums (lowN (smG ls k).time 4) ++ strOfNums [(smG ls k).l0, (smG ls k).l1, (smG ls k).l2] ++ strOfNums (lowN (uval (smG ls k).value) 4) = strOfNums (begB ls (k + 1))) := by
        show _ = _
        rw [str_add, str_add, str_add, begB_succ ls k (by rw [HN.out]; exact hlt)]; simp [smB]
      have hlen : (strOfNums (begB ls k)).size ≤ 100 := by rw [strOfNums_size]; have := begB_len ls k; have := HN.out; omega
      have hz1 : (strOfNums (begB ls k)).size + (strOfNums (lowN (smG ls k).time 4)).size ≤ 9223372036854775807 := by rw [strOfNums_size (lowN _ _), lowN_len]; omega
      have hz2 : (strOfNums (begB ls k) ++ strOfNums (lowN (smG ls k).time 4)).size + (strOfNums [(smG ls k).l0, (smG ls k).l1, (smG ls k).l2]).size ≤ 9223372036854775807 := by
        rw [ByteArray.size_append, strOfNums_size (lowN _ _), strOfNums_size [_, _, _], lowN_len]; simp; omega
      have hz3 : (strOfNums (begB ls k) ++ strOfNums (lowN (smG ls k).time 4) ++ strOfNums [(smG ls k).l0, (smG ls k).l1, (smG ls k).l2]).size + (strOfNums (lowN (uval (smG ls k).value) 4)).size ≤ 9223372036854775807 := by
        rw [ByteArray.size_append, ByteArray.size_append, strOfNums_size (lowN _ _), strOfNums_size (lowN _ _), strOfNums_size [_, _, _], lowN_len, lowN_len]; simp; omega
      have hcv := fun w g hg => conv3' w g hg (smG ls k).l0 (smG ls k).l1 (smG ls k).l2
      have hu0 : 0 ≤ uval (smG ls k).value := (uval_range _).1
      have hu1 : uval (smG ls k).value < 4294967296 := (uval_range _).2
      generalize hX : smG ls k = X at *
      clear hX
      by_cases hneg : X.value < 0
      · have HU : Hid (X.value + 4294967296 = uval X.value) := by show _ = _; unfold uval; omega
        go_wp2_with fail
        refine (low_any _ 4 _ ht0 (by omega) (by omega) (by omega)).mono ?_
        rintro e w2 ⟨rfl, hb2⟩
        have hsz2 : wr.heap.size < w2.heap.size := by have := hb2.size; simp at this; omega
        have j0 : w2.cell? ⟨wr.heap.size, 0, none⟩ = some (.int .u8 X.l0) := by rw [hb2.cell (p := ⟨wr.heap.size, 0, none⟩) (by simp)]; simp [go_sem]
        have j1 : w2.cell? ⟨wr.heap.size, 1, none⟩ = some (.int .u8 X.l1) := by rw [hb2.cell (p := ⟨wr.heap.size, 1, none⟩) (by simp)]; simp [go_sem]
        have j2 : w2.cell? ⟨wr.heap.size, 2, none⟩ = some (.int .u8 X.l2) := by rw [hb2.cell (p := ⟨wr.heap.size, 2, none⟩) (by simp)]; simp [go_sem]
        have hbw2 : Below w.heap.size w w2 := (hbel.alloc hsz _).trans (hb2.mono (by simp; omega))
        clear hb2 c0 c1 c2 c3 c4
        go_wp2_with fail
        refine (low_any _ 4 _ (by omega) (by omega) (by omega) (by omega)).mono ?_
        rintro e w3 ⟨rfl, hb3⟩
        rw [HU.out]
        have hbw3 : Below w.heap.size w w3 := hbw2.trans (hb3.mono hbw2.size)
        have i0 : w3.cell? ⟨wr.heap.size, 0, none⟩ = some (.int .u8 X.l0) := (hb3.cell (p := ⟨wr.heap.size, 0, none⟩) hsz2).trans j0
        have i1 : w3.cell? ⟨wr.heap.size, 1, none⟩ = some (.int .u8 X.l1) := (hb3.cell (p := ⟨wr.heap.size, 1, none⟩) hsz2).trans j1
        have i2 : w3.cell? ⟨wr.heap.size, 2, none⟩ = some (.int .u8 X.l2) := (hb3.cell (p := ⟨wr.heap.size, 2, none⟩) hsz2).trans j2
        have hsz3 := hbw3.size
        clear hb3 j0 j1 j2 hbw2
        go_wp2_with fail
        rw [HE.out]
        exact ⟨⟨k + 1, by omega, by go_num, rfl, hbw3.alloc hsz3 _⟩, by simp [intOf]; omega⟩
      · have HU : Hid (lowN X.value 4 = lowN (uval X.value) 4) := by show _ = _; congr 1; unfold uval; omega
        go_wp2_with fail
        refine (low_any _ 4 _ ht0 (by omega) (by omega) (by omega)).mono ?_
        rintro e w2 ⟨rfl, hb2⟩
        have hsz2 : wr.heap.size < w2.heap.size := by have := hb2.size; simp at this; omega
        have j0 : w2.cell? ⟨wr.heap.size, 0, none⟩ = some (.int .u8 X.l0) := by rw [hb2.cell (p := ⟨wr.heap.size, 0, none⟩) (by simp)]; simp [go_sem]
        have j1 : w2.cell? ⟨wr.heap.size, 1, none⟩ = some (.int .u8 X.l1) := by rw [hb2.cell (p := ⟨wr.heap.size, 1, none⟩) (by simp)]; simp [go_sem]
        have j2 : w2.cell? ⟨wr.heap.size, 2, none⟩ = some (.int .u8 X.l2) := by rw [hb2.cell (p := ⟨wr.heap.size, 2, none⟩) (by simp)]; simp [go_sem]
        have hbw2 : Below w.heap.size w w2 := (hbel.alloc hsz _).trans (hb2.mono (by simp; omega))
        clear hb2 c0 c1 c2 c3 c4
        go_wp2_with fail
        refine (low_any _ 4 _ (by omega) (by omega) (by omega) (by omega)).mono ?_
        rintro e w3 ⟨rfl, hb3⟩
        rw [HU.out]
        have hbw3 : Below w.heap.size w w3 := hbw2.trans (hb3.mono hbw2.size)
        have i0 : w3.cell? ⟨wr.heap.size, 0, none⟩ = some (.int .u8 X.l0) := (hb3.cell (p := ⟨wr.heap.size, 0, none⟩) hsz2).trans j0
        have i1 : w3.cell? ⟨wr.heap.size, 1, none⟩ = some (.int .u8 X.l1) := (hb3.cell (p := ⟨wr.heap.size, 1, none⟩) hsz2).trans j1
        have i2 : w3.cell? ⟨wr.heap.size, 2, none⟩ = some (.int .u8 X.l2) := (hb3.cell (p := ⟨wr.heap.size, 2, none⟩) hsz2).trans j2
        have hsz3 := hbw3.size
        clear hb3 j0 j1 j2 hbw2
        go_wp2_with fail
        rw [HE.out]
        exact ⟨⟨k + 1, by omega, by go_num, rfl, hbw3.alloc hsz3 _⟩, by simp [intOf]; omega⟩
    · have HB : Hid (begB ls k = bodyB ls) := begB_all ls k (by rw [HN.out]; omega)
      have HNU : Hid (nums (strOfNums (bodyB ls)) = bodyB ls) := nums_str _ (bodyB_byte HW.out (by rw [HN.out]; omega))
      have hlen : (bodyB ls).length ≤ 100 := by rw [bodyB_len, HN.out]; omega
      rw [HB.out]
      have HE : Hid (strOfNums (bodyB ls) ++ strOfNums (lowN (chk (bodyB ls)) 4) = strOfNums (recB ls)) := by show _ = _; rw [str_add]; rfl
      go_wp2_with fail
      refine (checked_any (strOfNums (bodyB ls)) _ (by rw [strOfNums_size]; omega)).mono ?_
      rintro e w2 ⟨rfl, hb2⟩
      rw [HNU.out, HE.out]
      go_wp2_with fail
      go_ret
      exact ⟨rfl, hbel.trans (hb2.mono hsz)⟩

end Go.Proofs.Ythciddpljcbhiaa
