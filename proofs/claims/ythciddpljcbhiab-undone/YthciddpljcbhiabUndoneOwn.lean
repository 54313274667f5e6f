/- Proved: for every configuration, script, batch and number, garnerkeep.Undone answers true and changes none of its arguments (what is refused changes neither the log nor the time, the cells and the rows); no condition besides what every row says of itself. -/
import Derived.Test.YthciddpljcbhiabB5
import Derived.Test.YthciddpljcbhiabB6
import Derived.Test.YthciddpljcbhiabRows
import Derived.SizedLaws
import Derived.ProofKit
import Derived.OpenShut
namespace Go.Proofs.Ythciddpljcbhiab
open Go.ChangeShapes Go.WideShapes Go.ChangeAt Go.RowKit Go.Joins
open Go.ChangeMaps (open_string shut_string)

theorem undoneOwnKnob : ownKnob Try.prog.godebug = none := by kernel_rfl
theorem undoneLaidOut : laidOutB Try.prog = true := by kernel_rfl

set_option maxRecDepth 100000 in
theorem undone_lifted (os : Os) (started : os.Started) (H : Type) (enc : TypeId × Value → H) :
    ReturnsInHanded {} Try.checked os 5 .any (Rows.undoneSpec.pre6 enc Try.prog Try.f5 Rows.undoneRow.domain false) (Rows.undoneSpec.post enc Try.prog Try.f5 false true false false) := by
  refine returnsInHanded_of_change_sized (C := Try.checked) undoneOwnKnob started (by kernel_rfl) Try.func5
    (ChangeSpec.witness6 (enc := enc) (C := Try.checked) false ⟨#[], #[.agg #[.int .i64 0, .int .i64 0, .slice none 0 0], .slice none 0 0, .slice none 0 0, .int .i64 0], []⟩ 8 (by kernel_rfl) (by kernel_rfl) (by kernel_rfl) (by kernel_rfl)) ?_
  intro W base args ds gs before hval0 hW hcnd hsz0 _
  have hval : ∀ (j : Nat) t v, Try.f5.params[j]? = some t → args[j]? = some v → Value.okWide Try.prog W .any base t v := hval0
  have hsz : (DataW.weightsEach Try.prog (Try.f5.params.toList ++ Rows.undoneSpec.plain.varTypes Try.prog) (ds ++ gs)).all (· ≤ reachBytes) = true := hsz0
  have hW' := hW
  obtain ⟨p, q, hA0, hV, rfl, hfz, hnd⟩ := hW
  have hA : DataW.TrodAll enc Try.prog W 0 (fun _ => true) true Try.f5.params.toList args.toList ds p := hA0
  rw [Try.params5] at hA hval hsz
  obtain ⟨v0, vs0, d0, ds0, p0, q0, hargs, rfl, rfl, h0, r0⟩ := trodAll_cons hA
  obtain ⟨v1, vs1, d1, ds1, p1, q1, rfl, rfl, rfl, h1, r1⟩ := trodAll_cons r0
  obtain ⟨v2, vs2, d2, ds2, p2, q2, rfl, rfl, rfl, h2, r2⟩ := trodAll_cons r1
  obtain ⟨v3, vs3, d3, ds3, p3, q3, rfl, rfl, rfl, h3, r3⟩ := trodAll_cons r2
  obtain ⟨rfl, rfl, rfl⟩ := trodAll_nil r3
  obtain rfl : args = #[v0, v1, v2, v3] := by cases args; simp_all
  obtain ⟨rfl, rfl⟩ := trodVars_none hV
  have k0 := h0
  have k1 := h1
  have lt0 : ∀ x ∈ p0, x.block < W.heap.size := by obtain ⟨m, hm⟩ := k0; exact DataW.trod_lt m _ _ _ hm
  have lt1 : ∀ x ∈ p1, x.block < W.heap.size := by obtain ⟨m, hm⟩ := k1; exact DataW.trod_lt m _ _ _ hm
  have k2 := h2
  have lt2 : ∀ x ∈ p2, x.block < W.heap.size := by obtain ⟨m, hm⟩ := k2; exact DataW.trod_lt m _ _ _ hm
  obtain ⟨c0, c1, c2, y0, y1, y2, fu, rfl, rfl, rfl, g0, g1, g2⟩ := open_agg3 Try.underlying24 (by kernel_rfl) Try.cells24 (hval 0 24 v0 rfl rfl) h0
  obtain ⟨span, e0, _, ws⟩ := DataW.trod_int Try.underlying3 g0
  obtain ⟨keep, e1, _, wk⟩ := DataW.trod_int Try.underlying3 g1
  simp at e0 e1
  subst e0 e1
  obtain ⟨a, n, cap, ls, rfl, hlv, hwf⟩ := open_levels2 g2
  obtain ⟨a1, n1, cap1, rfl⟩ := okWide_slice Try.underlying25 (hval 1 25 v1 rfl rfl)
  obtain ⟨fv, hfv⟩ := h1
  obtain ⟨sa, sn, sc, l, hv, hsc, hsn⟩ := open_script (y := (d1, p1)) (by simpa [Value.cells] using hfv) (fun k hk => by
    have := List.all_eq_true.1 hsz k (DataW.weights_mem_each (j := 1) (t := 25) rfl rfl k hk)
    exact of_decide_eq_true this)
  simp at hv
  obtain ⟨rfl, rfl, rfl⟩ := hv
  obtain ⟨s0, s1⟩ := i64_range ws
  obtain ⟨z0, z1⟩ := i64_range wk
  obtain ⟨a2, n2, cap2, rfl⟩ := okWide_slice Try.underlying29 (hval 2 29 v2 rfl rfl)
  obtain ⟨fw2, hfw2⟩ := h2
  obtain ⟨b2, bn2, bc2, bs2, hv2, hb2, _, hl2⟩ := open_samples (y := (d2, p2)) (by simpa [Value.cells] using hfw2)
  simp at hv2
  obtain ⟨rfl, rfl, rfl⟩ := hv2
  have hr2 : n2 ≤ 9000000000000 := by
    rcases hl2 with rfl | ⟨D, sp, hD, rfl⟩
    · omega
    · simp only at hD
      subst hD
      have hle := sized_slice hsz (j := 2) (t := 29) rfl rfl Try.underlying29
      rw [Try.xbytes42] at hle
      have hle' : (D.length + sp.length) * 16 ≤ 140737488351232 := hle
      omega
  obtain ⟨c3, rfl, rfl, rfl, hcw3⟩ := open_int Try.underlying3 (hval 3 3 v3 rfl rfl) h3
  obtain ⟨lo3, hi3⟩ := i64_range hcw3
  clear hA0 hval0 hsz0
  refine (undone_any a n cap ls span keep a1 n1 cap1 l a2 n2 cap2 bs2 c3 W hlv hwf s0 s1 z0 z1 hsc hsn hb2 hr2 lo3 hi3).mono fun e W' ⟨he, bel⟩ => ?_
  subst he
  exact ⟨_, rfl, _, _, _, [], _, [], hW', trodAll_mk1 (shut_bool Try.underlying4 _), (trodAll_cons_mk (Below.trod undoneLaidOut (by kernel_rfl) (of_decide_eq_true (by kernel_rfl)) k0 bel lt0) (trodAll_cons_mk (Below.trod undoneLaidOut (by kernel_rfl) (of_decide_eq_true (by kernel_rfl)) k1 bel lt1) (trodAll_cons_mk (Below.trod undoneLaidOut (by kernel_rfl) (of_decide_eq_true (by kernel_rfl)) k2 bel lt2) (trodAll_cons_mk (shut_int Try.underlying3 hcw3) trodAll_mk0)))), rfl, bel.frame _, fun h => by cases h⟩

theorem undone_holds : Rows.UndoneSaid :=
  OpenClaim.holds_of_wide 5 Try.f5 rfl rfl rfl rfl rfl rfl rfl ⟨rfl, rfl, rfl, rfl, rfl⟩ rfl rfl rfl rfl rfl (by kernel_rfl) Try.func5 (by kernel_rfl)
    (of_decide_eq_true (by kernel_rfl)) (by unfold Func.isWrapper; first | (rw [if_pos (by decide +kernel)]; kernel_rfl) | (rw [if_neg (by decide +kernel)]; exact ⟨rfl, rfl⟩))
    (fun os started H enc _ => undone_lifted os started H enc)

end Go.Proofs.Ythciddpljcbhiab
