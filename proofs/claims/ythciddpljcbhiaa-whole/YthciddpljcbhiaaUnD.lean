/- Walks: a batch read (ReadBatch, Unrecord of the program). -/
import Derived.Test.YthciddpljcbhiaaUnC
import Derived.Test.YthciddpljcbhiaaSmH
namespace Go.Proofs.Ythciddpljcbhiaa
open Go.RowKit

theorem owns_belowU {w w' : World} {base : Nat} {e : TypeId} {sz : Nat} {v : Value} {n : Nat} {xs : List Value} (h : w.ownsRow base e sz v n xs) (hb : Below w.heap.size w w') : w'.ownsRow base e sz v n xs := by
  have hlt := h.lt
  obtain ⟨h1, h2⟩ := h
  refine ⟨h1, ?_⟩
  rcases h2 with h2 | ⟨g, cap, cur, rfl, hbg, hg, hr⟩
  · exact Or.inl h2
  · refine Or.inr ⟨g, cap, cur, rfl, hbg, ?_, hr⟩
    rw [hb.block g (hlt g rfl).2]; exact hg

/-- An owned row of samples is a list of samples. -/
theorem owns_sms {w : World} {base : Nat} {v : Value} {n : Nat} {ls : List Sm} (h : w.ownsRow base 42 5 v n (flatS ls)) (hn : ls.length = n) : ∃ a cap, v = .slice a n cap ∧ IsSms w a n ls := by
  rcases h.2 with ⟨rfl, rfl⟩ | ⟨g, cap, cur, rfl, hbg, hg, hnc, hcm, hcs, htake⟩
  · exact ⟨none, 0, rfl, hn, fun h => absurd h (by omega)⟩
  · refine ⟨_, cap, rfl, hn, fun _ => ⟨g, 0, rfl, smAt_of fun j u hj => ?_⟩⟩
    rw [← htake] at hj
    have hj' : cur[j]? = some u := by
      rw [List.getElem?_take] at hj
      split at hj
      · simpa using hj
      · cases hj
    simp [World.cell?, hg, hj']

theorem flatS_succ (s : ByteArray) (k : Nat) : flatS (smsR s (k + 1)) = flatS (smsR s k) ++ (smR s (2 + 11 * k)).cells := by rw [smsR_succ]; exact flat_snoc _ _ _

/-- What Unrecord answers. -/
def UnPost (s : ByteArray) (w : World) (e : Ending) (w' : World) : Prop :=
  Below w.heap.size w w' ∧ ((unOk s = true ∧ ∃ v, e = .returned (.tuple #[v, .int .i64 (6 + 11 * (cN s : Int)), .int .i64 0]) ∧ w'.ownsRow w.heap.size 42 5 v (cN s) (flatS (smsR s (cN s)))) ∨
    (unOk s = false ∧ e = .returned (.tuple #[.slice none 0 0, .int .i64 0, .int .i64 13])))

set_option maxHeartbeats 1000000 in
set_option maxRecDepth 100000 in
theorem readBatch_any (s : ByteArray) (w : World) (hs : s.size ≤ maxLen) : Calls Try.prog 44 #[.string s] w (UnPost s w) := by
  have HM : Hid (s.size ≤ maxLen) := hs
  unfold maxLen at hs
  cases hh : headOk s
  · have HN : Hid (headN s = 0) := headN_no (by simp [hh])
    go_enter Try.func44, Try.ntmps44
    go_wp2_with fail
    refine (batchSize_any s _ HM.out).mono ?_
    rintro e w1 ⟨rfl, rfl⟩
    rw [HN.out]
    go_wp2_with fail
    go_ret3
    exact ⟨Below.refl _ _, Or.inr ⟨by simp [unOk, hh], rfl⟩⟩
  · obtain ⟨h2, _, hc1, hc2, hlen, _⟩ := (headOk_iff s).1 hh
    have HN : Hid (headN s = 6 + 11 * (cN s : Int)) := headN_yes hh
    have HU : Hid (unOk s = smsOk (smsR s (cN s))) := by show _ = _; simp [unOk, hh]
    obtain ⟨i0, hi, hz0, hz1, hz2⟩ := info_parts Try.info42'
    have HP : Hid (∀ e w', UnPost s w e w' = (Below w.heap.size w w' ∧ ((unOk s = true ∧ ∃ v, e = .returned (.tuple #[v, .int .i64 (6 + 11 * (cN s : Int)), .int .i64 0]) ∧ w'.ownsRow w.heap.size 42 5 v (cN s) (flatS (smsR s (cN s)))) ∨
      (unOk s = false ∧ e = .returned (.tuple #[.slice none 0 0, .int .i64 0, .int .i64 13]))))) := fun _ _ => rfl
    generalize hcc : cN s = c at *
    clear hh hcc
    have hzb : ((6 : Int) + 11 * (c : Int) == 0) = false := by simp; omega
    go_enter Try.func44, Try.ntmps44
    go_wp2_with fail
    refine (batchSize_any s _ HM.out).mono ?_
    rintro e w1 ⟨rfl, rfl⟩
    rw [HN.out]
    go_wp2_with fail
    go_loopw [6, 7] (fun v f wr => ∃ k : Nat, k ≤ c ∧ f = .int .i64 (2 + 11 * (k : Int)) ∧ wr.ownsRow w1.heap.size 42 5 v k (flatS (smsR s k)) ∧ Below w1.heap.size w1 wr ∧ ∀ j, j < k → smOk (smR s (2 + 11 * j)) = true) (fun _ f _ => (2 + 11 * c) - (intOf f).toNat)
    case atStart => exact ⟨0, Nat.zero_le _, rfl, World.ownsRow_nil _ _ _ _, Below.refl _ _, fun j hj => by omega⟩
    case round =>
      obtain ⟨k, hk, rfl, hown, hbel, hall⟩ := hrel
      have HO : Hid (wr.ownsRow w1.heap.size 42 5 u6 k (flatS (smsR s k))) := hown
      have HB : Hid (Below w1.heap.size w1 wr) := hbel
      have HA : Hid (∀ j, j < k → smOk (smR s (2 + 11 * j)) = true) := hall
      have hsz := hbel.size
      clear hown hbel hall
      by_cases hlt : k < c
      · have hle : (2 : Int) + 11 * (k : Int) + 11 ≤ 6 + 11 * (c : Int) - 4 := by omega
        go_wp2_with fail
        rw [show (2 : Int) + 11 * (k : Int) = ((2 + 11 * k : Nat) : Int) from by omega]
        refine (readSample_any s (2 + 11 * k) _ HM.out (by omega)).mono ?_
        rintro e w2 ⟨rfl, hb2⟩
        have hbw2 : Below w1.heap.size w1 w2 := HB.out.trans (hb2.mono hsz)
        cases hok : smOk (smR s (2 + 11 * k))
        · rw [rdV_no hok]
          have HX : Hid (unOk s = false) := by
            show _ = _
            rw [HU.out]
            exact all_false k (by rw [smsR_len]; exact hlt) (by rw [smsR_get s c k hlt]; exact hok)
          clear hok hb2
          go_wp2_with fail
          go_ret3
          rw [HP.out]
          exact ⟨hbw2.alloc hbw2.size _, Or.inr ⟨HX.out, rfl⟩⟩
        · rw [rdV_yes hok]
          have HA' : Hid (∀ j, j < k + 1 → smOk (smR s (2 + 11 * j)) = true) := upto_succ HA.out hok
          have HF : Hid (flatS (smsR s (k + 1)) = flatS (smsR s k) ++ (smR s (2 + 11 * k)).cells) := flatS_succ s k
          have HO2 : Hid (w2.ownsRow w1.heap.size 42 5 u6 k (flatS (smsR s k))) := owns_belowU HO.out hb2
          have HB2 : Hid (Below w1.heap.size w1 w2) := hbw2
          have hsz2 := hbw2.size
          generalize smR s (2 + 11 * k) = X at *
          clear hok hb2 HO HB HA hbw2
          go_wp2_with (first | (at_builtin; refine wpList_append_own _ rfl _ _ 28 rfl w1.heap.size 42 i0 (.agg #[.int .i64 0, .int .u8 0, .int .u8 0, .int .u8 0, .int .i32 0]) 5 16 Try.underlying28 hi hz0 hz1 hz2 rfl (by decide) _ _ _ rfl ((HO2.out.alloc _).alloc _) ⟨w2.heap.size + 1, 0, none⟩ 1 1 X.cells rfl rfl ?c1 ?c2 ?c3 ?c4 ?c5 ?_) | go_in)
          case c1 =>
            have := at_alloc_new (w2.alloc (smO X)) X.cells 42
            intro j u hj
            have h := this j u hj
            rw [World.size_alloc, Nat.zero_add] at h
            rw [show (⟨w2.heap.size + 1, 0, none⟩ : Addr).add j = ⟨w2.heap.size + 1, j, none⟩ from by unfold Addr.add; split <;> simp_all]
            exact h
          case c2 => intro u hu; simp [Sm.cells] at hu; rcases hu with rfl | rfl | rfl | rfl | rfl <;> rfl
          case c3 => unfold maxLen; omega
          case c4 => omega
          case c5 => simp; omega
          intro v' w3 hown' hgrow _
          have HB3 : Hid (Below w1.heap.size w1 w3) := ((HB2.out.alloc hsz2 _).alloc (by simp; omega) _).grown hgrow (by simp; omega) (fun b hb => (HO2.out.lt b hb).1)
          have HO3 : Hid (w3.ownsRow w1.heap.size 42 5 v' (k + 1) (flatS (smsR s (k + 1)))) := by
            show World.ownsRow _ _ _ _ _ _ _
            rw [HF.out]; exact hown'
          clear hown' hgrow
          go_wp2_with fail
          refine ⟨⟨k + 1, by omega, ?_, HO3.out, HB3.out, HA'.out⟩, ?_⟩
          · have e : ∀ x y : Int, x = y → Value.int IntKind.i64 x = .int .i64 y := fun x y h => by rw [h]
            exact e _ _ (by omega)
          · simp [intOf]; omega
      · have hkc : k = c := by omega
        have hge : ¬ (2 : Int) + 11 * (k : Int) + 11 ≤ 6 + 11 * (c : Int) - 4 := by omega
        have HX : Hid (unOk s = true) := by
          show _ = _
          rw [HU.out]
          refine all_true (fun j hj => ?_)
          rw [smsR_len] at hj
          rw [smsR_get s c j hj]
          exact HA.out j (by omega)
        go_wp2_with fail
        go_ret3
        rw [HP.out]
        exact ⟨HB.out, Or.inl ⟨HX.out, _, rfl, hkc ▸ HO.out⟩⟩

theorem garUnrecord_any (s : ByteArray) (w : World) (hs : s.size ≤ maxLen) : Calls Try.prog 18 #[.string s] w (UnPost s w) := by
  have HM : Hid (s.size ≤ maxLen) := hs
  clear hs
  go_enter Try.func18, Try.ntmps18
  go_wp2_with fail
  refine (readBatch_any s _ HM.out).mono ?_
  rintro e w1 ⟨hb, ⟨hu, v, rfl, hown⟩ | ⟨hu, rfl⟩⟩
  · have HO : Hid (w1.ownsRow w.heap.size 42 5 v (cN s) (flatS (smsR s (cN s)))) := hown
    have HU : Hid (unOk s = true) := hu
    clear hown hu
    generalize hq : (6 : Int) + 11 * (cN s : Int) = q
    have HQ : Hid ((6 : Int) + 11 * (cN s : Int) = q) := hq
    clear hq
    go_wp2_with fail
    go_ret3
    exact ⟨hb, Or.inl ⟨HU.out, v, by rw [HQ.out]; rfl, HO.out⟩⟩
  · have HU : Hid (unOk s = false) := hu
    clear hu
    go_wp2_with fail
    go_ret3
    exact ⟨hb, Or.inr ⟨HU.out, rfl⟩⟩
end Go.Proofs.Ythciddpljcbhiaa
