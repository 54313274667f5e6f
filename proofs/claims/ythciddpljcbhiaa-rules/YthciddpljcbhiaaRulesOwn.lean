/- Proved: for every configuration, rule and labels, garnerlaw.Rules answers true and changes none of its arguments (Right and Project answer as the document's own answer does); no condition besides what every row says of itself. -/
import Derived.Test.YthciddpljcbhiaaRows
import Derived.Test.YthciddpljcbhiaaRul
import Derived.Test.YthciddpljcbhiaaOpn
import Derived.SizedLaws
namespace Go.Proofs.Ythciddpljcbhiaa
open Go.ChangeShapes Go.WideShapes Go.ChangeAt Go.RowKit Go.Joins
open Go.ChangeMaps (open_string shut_string)

theorem rulesOwnKnob : ownKnob Try.prog.godebug = none := by kernel_rfl
theorem rulesLaidOut : laidOutB Try.prog = true := by kernel_rfl
theorem Try.bytes76 : Try.prog.bytesOf 76 = 40 := by kernel_rfl

set_option maxRecDepth 100000 in
theorem rules_lifted (os : Os) (started : os.Started) (H : Type) (enc : TypeId × Value → H) :
    ReturnsInHanded {} Try.checked os 3 .any (Rows.rulesSpec.pre6 enc Try.prog Try.f3 Rows.rulesRow.domain false) (Rows.rulesSpec.post enc Try.prog Try.f3 false true false false) := by
  refine returnsInHanded_of_change_sized (C := Try.checked) rulesOwnKnob started (by kernel_rfl) Try.func3
    (ChangeSpec.witness6 (enc := enc) (C := Try.checked) false ⟨#[], #[.agg #[.int .i64 0, .int .i64 0, .slice none 0 0], .string ByteArray.empty, .agg #[.int .u8 0, .int .u8 0, .int .u8 0]], []⟩ 8 (by kernel_rfl) (by kernel_rfl) (by kernel_rfl) (by kernel_rfl)) ?_
  intro W base args ds gs before hval0 hW hcnd hsz0 _
  have hval : ∀ (j : Nat) t v, Try.f3.params[j]? = some t → args[j]? = some v → Value.okWide Try.prog W .any base t v := hval0
  have hsz : (DataW.weightsEach Try.prog (Try.f3.params.toList ++ Rows.rulesSpec.plain.varTypes Try.prog) (ds ++ gs)).all (· ≤ reachBytes) = true := hsz0
  have hW' := hW
  obtain ⟨p, q, hA0, hV, rfl, hfz, hnd⟩ := hW
  have hA : DataW.TrodAll enc Try.prog W 0 (fun _ => true) true Try.f3.params.toList args.toList ds p := hA0
  rw [Try.params3] at hA hval hsz
  obtain ⟨v0, vs0, d0, ds0, p0, q0, hargs, rfl, rfl, h0, r0⟩ := trodAll_cons hA
  obtain ⟨v1, vs1, d1, ds1, p1, q1, rfl, rfl, rfl, h1, r1⟩ := trodAll_cons r0
  obtain ⟨v2, vs2, d2, ds2, p2, q2, rfl, rfl, rfl, h2, r2⟩ := trodAll_cons r1
  obtain ⟨rfl, rfl, rfl⟩ := trodAll_nil r2
  obtain rfl : args = #[v0, v1, v2] := by cases args; simp_all
  obtain ⟨rfl, rfl⟩ := trodVars_none hV
  have k0 := h0
  have k2 := h2
  have lt0 : ∀ x ∈ p0, x.block < W.heap.size := by obtain ⟨m, hm⟩ := k0; exact DataW.trod_lt m _ _ _ hm
  have lt2 : ∀ x ∈ p2, x.block < W.heap.size := by obtain ⟨m, hm⟩ := k2; exact DataW.trod_lt m _ _ _ hm
  obtain ⟨c0, c1, c2, y0, y1, y2, fu, rfl, rfl, rfl, g0, g1, g2⟩ := open_agg3 Try.underlying24 (by kernel_rfl) Try.cells24 (hval 0 24 v0 rfl rfl) h0
  obtain ⟨span, e0, rfl, _⟩ := DataW.trod_int Try.underlying3 g0
  obtain ⟨keep, e1, rfl, _⟩ := DataW.trod_int Try.underlying3 g1
  simp at e0 e1
  subst e0 e1
  obtain ⟨a, n, cap, ls, rfl, hlv, hwf, hlen⟩ := open_levels g2
  have hr : n ≤ 7000000000000 := by
    rcases hlen with rfl | ⟨D, sp, hD, rfl⟩
    · omega
    · have hmem : (D.length + sp.length) * Try.prog.bytesOf 76 ∈ DataW.weights Try.prog 24 (.agg [.lit (.int .i64 span), .lit (.int .i64 keep), y2.1]) := by
        simp [DataW.weights, Try.underlying24, DataW.weightsEach, hD, Try.underlying22]
      have hle := List.all_eq_true.1 hsz _ (DataW.weights_mem_each (j := 0) (t := 24) rfl rfl _ hmem)
      rw [Try.bytes76] at hle
      have hle' : (D.length + sp.length) * 40 ≤ 140737488351232 := of_decide_eq_true hle
      omega
  obtain ⟨s, rfl, rfl, rfl, hs⟩ := open_string Try.underlying9 (hval 1 9 v1 rfl rfl) h1
  obtain ⟨l0, l1, l2, rfl⟩ := okWide_lab (hval 2 26 v2 rfl rfl)
  obtain ⟨x, z, t, rfl, rfl, rfl, _, _, _⟩ : ∃ x z t, l0 = .int .u8 x ∧ l1 = .int .u8 z ∧ l2 = .int .u8 t ∧ (0 ≤ x ∧ x ≤ 255) ∧ (0 ≤ z ∧ z ≤ 255) ∧ (0 ≤ t ∧ t ≤ 255) := by
    obtain ⟨m, hm⟩ := h2
    exact open_labs (by simpa [Value.cells] using hm)
  clear hA0 hval0 hsz0
  refine (rules_any a n cap ls span keep s x z t W hlv hwf hr hs).mono fun e W' ⟨he, bel⟩ => ?_
  subst he
  exact ⟨_, rfl, _, _, _, [], _, [], hW', trodAll_mk1 (shut_bool Try.underlying4 _), (trodAll_cons_mk (Below.trod rulesLaidOut (by kernel_rfl) (of_decide_eq_true (by kernel_rfl)) k0 bel lt0) (trodAll_cons_mk (shut_string Try.underlying9 hs) (trodAll_cons_mk (Below.trod rulesLaidOut (by kernel_rfl) (of_decide_eq_true (by kernel_rfl)) k2 bel lt2) trodAll_mk0))), rfl, bel.frame _, fun h => by cases h⟩

theorem rules_holds : Rows.RulesSaid :=
  OpenClaim.holds_of_wide 3 Try.f3 rfl rfl rfl rfl rfl rfl rfl ⟨rfl, rfl, rfl, rfl, rfl⟩ rfl rfl rfl rfl rfl (by kernel_rfl) Try.func3 (by kernel_rfl)
    (of_decide_eq_true (by kernel_rfl)) (by unfold Func.isWrapper; first | (rw [if_pos (by decide +kernel)]; kernel_rfl) | (rw [if_neg (by decide +kernel)]; exact ⟨rfl, rfl⟩))
    (fun os started H enc _ => rules_lifted os started H enc)

end Go.Proofs.Ythciddpljcbhiaa
