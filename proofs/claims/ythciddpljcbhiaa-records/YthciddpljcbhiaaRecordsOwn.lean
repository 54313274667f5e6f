/- Proved: for every batch of samples, garnerlaw.Records answers true and changes none of its arguments (Record answers as the document's own answer does); no condition besides what every row says of itself. -/
import Derived.Test.YthciddpljcbhiaaRows
import Derived.Test.YthciddpljcbhiaaRec
import Derived.Test.YthciddpljcbhiaaOpS
import Derived.SizedLaws
namespace Go.Proofs.Ythciddpljcbhiaa
open Go.ChangeShapes Go.WideShapes Go.ChangeAt Go.RowKit Go.Joins

theorem recordsOwnKnob : ownKnob Try.prog.godebug = none := by kernel_rfl
theorem recordsLaidOut : laidOutB Try.prog = true := by kernel_rfl
theorem Try.bytes42 : Try.prog.bytesOf 42 = 16 := by kernel_rfl

set_option maxRecDepth 100000 in
theorem records_lifted (os : Os) (started : os.Started) (H : Type) (enc : TypeId × Value → H) :
    ReturnsInHanded {} Try.checked os 4 .any (Rows.recordsSpec.pre6 enc Try.prog Try.f4 Rows.recordsRow.domain false) (Rows.recordsSpec.post enc Try.prog Try.f4 false true false false) := by
  refine returnsInHanded_of_change_sized (C := Try.checked) recordsOwnKnob started (by kernel_rfl) Try.func4
    (ChangeSpec.witness6 (enc := enc) (C := Try.checked) false ⟨#[], #[.slice none 0 0], []⟩ 8 (by kernel_rfl) (by kernel_rfl) (by kernel_rfl) (by kernel_rfl)) ?_
  intro W base args ds gs before hval0 hW hcnd hsz0 _
  have hval : ∀ (j : Nat) t v, Try.f4.params[j]? = some t → args[j]? = some v → Value.okWide Try.prog W .any base t v := hval0
  have hsz : (DataW.weightsEach Try.prog (Try.f4.params.toList ++ Rows.recordsSpec.plain.varTypes Try.prog) (ds ++ gs)).all (· ≤ reachBytes) = true := hsz0
  have hW' := hW
  obtain ⟨p, q, hA0, hV, rfl, hfz, hnd⟩ := hW
  have hA : DataW.TrodAll enc Try.prog W 0 (fun _ => true) true Try.f4.params.toList args.toList ds p := hA0
  rw [Try.params4] at hA hval hsz
  obtain ⟨v0, vs0, d0, ds0, p0, q0, hargs, rfl, rfl, h0, r0⟩ := trodAll_cons hA
  obtain ⟨rfl, rfl, rfl⟩ := trodAll_nil r0
  obtain rfl : args = #[v0] := by cases args; simp_all
  obtain ⟨rfl, rfl⟩ := trodVars_none hV
  have k0 := h0
  have lt0 : ∀ x ∈ p0, x.block < W.heap.size := by obtain ⟨m, hm⟩ := k0; exact DataW.trod_lt m _ _ _ hm
  obtain ⟨a0, n0, cap0, rfl⟩ := okWide_slice Try.underlying28 (hval 0 28 v0 rfl rfl)
  obtain ⟨fu, hfu⟩ := h0
  obtain ⟨a, n, cap, ls, hv, hlv, hwf, hlen⟩ := open_samples (y := (d0, p0)) (by simpa [Value.cells] using hfu)
  simp at hv
  obtain ⟨rfl, rfl, rfl⟩ := hv
  have hr : n0 ≤ 10000000000000 := by
    rcases hlen with rfl | ⟨D, sp, hD, rfl⟩
    · omega
    · simp only at hD
      subst hD
      have hle := sized_slice hsz (j := 0) (t := 28) (e := 42) rfl rfl Try.underlying28
      rw [Try.bytes42] at hle
      have hle' : (D.length + sp.length) * 16 ≤ 140737488351232 := hle
      omega
  clear hA0 hval0 hsz0
  refine (records_any a0 n0 cap0 ls W hlv hwf hr).mono fun e W' ⟨he, bel⟩ => ?_
  subst he
  exact ⟨_, rfl, _, _, _, [], _, [], hW', trodAll_mk1 (shut_bool Try.underlying4 _), (trodAll_cons_mk (Below.trod recordsLaidOut (by kernel_rfl) (of_decide_eq_true (by kernel_rfl)) k0 bel lt0) trodAll_mk0), rfl, bel.frame _, fun h => by cases h⟩

theorem records_holds : Rows.RecordsSaid :=
  OpenClaim.holds_of_wide 4 Try.f4 rfl rfl rfl rfl rfl rfl rfl ⟨rfl, rfl, rfl, rfl, rfl⟩ rfl rfl rfl rfl rfl (by kernel_rfl) Try.func4 (by kernel_rfl)
    (of_decide_eq_true (by kernel_rfl)) (by unfold Func.isWrapper; first | (rw [if_pos (by decide +kernel)]; kernel_rfl) | (rw [if_neg (by decide +kernel)]; exact ⟨rfl, rfl⟩))
    (fun os started H enc _ => records_lifted os started H enc)

end Go.Proofs.Ythciddpljcbhiaa
