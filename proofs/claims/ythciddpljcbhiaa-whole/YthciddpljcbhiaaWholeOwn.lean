/- Proved: for every batch of samples, string and two numbers, garnerkeep.Whole answers true and changes none of its arguments (a batch comes back whole out of its record, whatever stands behind it, and a record with a byte less or a byte turned is none); no condition besides what every row says of itself. -/
import Derived.Test.YthciddpljcbhiaaRows
import Derived.Test.YthciddpljcbhiaaWhC
import Derived.Test.YthciddpljcbhiaaOpS
import Derived.SizedLaws
import Derived.ProofKit
import Derived.OpenShut
namespace Go.Proofs.Ythciddpljcbhiaa
open Go.ChangeShapes Go.WideShapes Go.ChangeAt Go.RowKit Go.Joins
open Go.ChangeMaps (open_string shut_string)

theorem wholeOwnKnob : ownKnob Try.prog.godebug = none := by kernel_rfl
theorem wholeLaidOut : laidOutB Try.prog = true := by kernel_rfl
theorem Try.wholeBytes42 : Try.prog.bytesOf 42 = 16 := by kernel_rfl

set_option maxRecDepth 100000 in
theorem whole_lifted (os : Os) (started : os.Started) (H : Type) (enc : TypeId × Value → H) :
    ReturnsInHanded {} Try.checked os 6 .any (Rows.wholeSpec.pre6 enc Try.prog Try.f6 Rows.wholeRow.domain false) (Rows.wholeSpec.post enc Try.prog Try.f6 false true false false) := by
  refine returnsInHanded_of_change_sized (C := Try.checked) wholeOwnKnob started (by kernel_rfl) Try.func6
    (ChangeSpec.witness6 (enc := enc) (C := Try.checked) false ⟨#[], #[.slice none 0 0, .string ByteArray.empty, .int .i64 0, .int .i64 0], []⟩ 8 (by kernel_rfl) (by kernel_rfl) (by kernel_rfl) (by kernel_rfl)) ?_
  intro W base args ds gs before hval0 hW hcnd hsz0 _
  have hval : ∀ (j : Nat) t v, Try.f6.params[j]? = some t → args[j]? = some v → Value.okWide Try.prog W .any base t v := hval0
  have hsz : (DataW.weightsEach Try.prog (Try.f6.params.toList ++ Rows.wholeSpec.plain.varTypes Try.prog) (ds ++ gs)).all (· ≤ reachBytes) = true := hsz0
  have hW' := hW
  obtain ⟨p, q, hA0, hV, rfl, hfz, hnd⟩ := hW
  have hA : DataW.TrodAll enc Try.prog W 0 (fun _ => true) true Try.f6.params.toList args.toList ds p := hA0
  rw [Try.params6] at hA hval hsz
  obtain ⟨v0, vs0, d0, ds0, p0, q0, hargs, rfl, rfl, h0, r0⟩ := trodAll_cons hA
  obtain ⟨v1, vs1, d1, ds1, p1, q1, rfl, rfl, rfl, h1, r1⟩ := trodAll_cons r0
  obtain ⟨v2, vs2, d2, ds2, p2, q2, rfl, rfl, rfl, h2, r2⟩ := trodAll_cons r1
  obtain ⟨v3, vs3, d3, ds3, p3, q3, rfl, rfl, rfl, h3, r3⟩ := trodAll_cons r2
  obtain ⟨rfl, rfl, rfl⟩ := trodAll_nil r3
  obtain rfl : args = #[v0, v1, v2, v3] := by cases args; simp_all
  obtain ⟨rfl, rfl⟩ := trodVars_none hV
  have k0 := h0
  have lt0 : ∀ x ∈ p0, x.block < W.heap.size := by obtain ⟨m, hm⟩ := k0; exact DataW.trod_lt m _ _ _ hm
  obtain ⟨a0, n0, cap0, rfl⟩ := okWide_slice Try.underlying28 (hval 0 28 v0 rfl rfl)
  obtain ⟨s, rfl, rfl, rfl, hs⟩ := open_string Try.underlying9 (hval 1 9 v1 rfl rfl) h1
  obtain ⟨c, rfl, rfl, rfl, hcw⟩ := open_int Try.underlying3 (hval 2 3 v2 rfl rfl) h2
  obtain ⟨d, rfl, rfl, rfl, hdw⟩ := open_int Try.underlying3 (hval 3 3 v3 rfl rfl) h3
  obtain ⟨hc0, hc1⟩ := i64_range hcw
  obtain ⟨hd0, hd1⟩ := i64_range hdw
  obtain ⟨fu, hfu⟩ := h0
  obtain ⟨a, n, cap, ls, hv, hlv, hwf, hlen⟩ := open_samples (y := (d0, p0)) (by simpa [Value.cells] using hfu)
  simp at hv
  obtain ⟨rfl, rfl, rfl⟩ := hv
  have hst : s.size ≤ 200000000000000 := by
    have hle := sized_string hsz (j := 1) (t := 9) rfl rfl
    have hle' : s.data.toList.length ≤ 140737488351232 := hle
    have e : s.data.toList.length = s.size := Array.length_toList
    omega
  have hr : n0 ≤ 10000000000000 := by
    rcases hlen with rfl | ⟨D, sp, hD, rfl⟩
    · omega
    · simp only at hD
      subst hD
      have hle := sized_slice hsz (j := 0) (t := 28) (e := 42) rfl rfl Try.underlying28
      rw [Try.wholeBytes42] at hle
      have hle' : (D.length + sp.length) * 16 ≤ 140737488351232 := hle
      omega
  clear hA0 hval0 hsz0
  refine (whole_any a0 n0 cap0 ls s c d W hlv hwf hr hst hc0 hc1 hd0 hd1).mono fun e W' ⟨he, bel⟩ => ?_
  subst he
  exact ⟨_, rfl, _, _, _, [], _, [], hW', trodAll_mk1 (shut_bool Try.underlying4 _), (trodAll_cons_mk (Below.trod wholeLaidOut (by kernel_rfl) (of_decide_eq_true (by kernel_rfl)) k0 bel lt0) (trodAll_cons_mk (shut_string Try.underlying9 hs) (trodAll_cons_mk (shut_int Try.underlying3 hcw) (trodAll_cons_mk (shut_int Try.underlying3 hdw) trodAll_mk0)))), rfl, bel.frame _, fun h => by cases h⟩

theorem whole_holds : Rows.WholeSaid :=
  OpenClaim.holds_of_wide 6 Try.f6 rfl rfl rfl rfl rfl rfl rfl ⟨rfl, rfl, rfl, rfl, rfl⟩ rfl rfl rfl rfl rfl (by kernel_rfl) Try.func6 (by kernel_rfl)
    (of_decide_eq_true (by kernel_rfl)) (by unfold Func.isWrapper; first | (rw [if_pos (by decide +kernel)]; kernel_rfl) | (rw [if_neg (by decide +kernel)]; exact ⟨rfl, rfl⟩))
    (fun os started H enc _ => whole_lifted os started H enc)

end Go.Proofs.Ythciddpljcbhiaa
