/- Proved: for every script, garnerlaw.Logs answers true and changes none of its arguments (every Open of any configuration and any log, of a log that was cut too, every Tick, every Write and every Log, wherever it is asked, is as the document's own store answers); where the variable garnerref.over, which the row lists, reads as listed: the card ties that to the program's text. -/
import Derived.Test.YthciddpljcbhiabGreatDoorB5
import Derived.Test.YthciddpljcbhiabGreatDoorCards
import Derived.Test.YthciddpljcbhiabGreatDoorTie
import Derived.SizedLaws
import Derived.ProofKit
import Derived.OpenShut
import Derived.SevenTiedAt
import Derived.Lib.LaidTab
namespace Go.Proofs.YthciddpljcbhiabGreatDoor
open Go Go.ChangeShapes Go.WideShapes Go.ChangeAt Go.RowKit Go.Joins
open Go.ChangeMaps (open_string shut_string)

theorem logsTab {W : World} (h : laidMetH Tryz.prog Rows.logsRow.laid W) : Lib.TabIs Tryz.prog W "garner/garnerref.over" .u8 [42, 42, 42] :=
  Lib.tabIs_of_head (rest := []) ladGlobal ladType Tryz.underlying42 Tryz.underlying5 Tryz.cells5 Tryz.cells42 h
theorem ovAt_laid {W : World} (h : laidMetH Tryz.prog Rows.logsRow.laid W) : OvAt W :=
  ⟨(logsTab h).cell ladGlobal 0 (by decide), (logsTab h).cell ladGlobal 1 (by decide), (logsTab h).cell ladGlobal 2 (by decide)⟩

set_option maxRecDepth 100000 in
theorem logs_lifted (os : Os) (started : os.Started) (H : Type) (enc : TypeId × Value → H) :
    ReturnsInHanded {} Tryz.checked os 3 .any (fun w args => (Rows.logsSpec.pre enc Tryz.prog Tryz.f3 [] false w args ∧ laidMetH Tryz.prog Rows.logsRow.laid w) ∧ sizedMet enc Tryz.prog Tryz.f3 (OpenSpec.ofChange Rows.logsSpec) false w args)
      (Rows.logsSpec.post enc Tryz.prog Tryz.f3 false true false false) := by
  refine returnsInHanded_of_change_and (C := Tryz.checked) (X := fun w _ => laidMetH Tryz.prog Rows.logsRow.laid w) (fun _ _ _ hh h => h.of_heap hh) ladOwn started (by kernel_rfl) Tryz.func3
    (ChangeSpec.witness_at (enc := enc) (C := Tryz.checked) (os := os) (X := fun w _ => laidMetH Tryz.prog Rows.logsRow.laid w) false (laidWorld os) #[.slice none 0 0] 8 rfl (by kernel_rfl) (by kernel_rfl) (by kernel_rfl) (by kernel_rfl) (by kernel_rfl) (laidWorld_met os _)) ?_
  intro W base args ds gs before hval0 hW _ hsz0 hL _
  have hval : ∀ (j : Nat) t v, Tryz.f3.params[j]? = some t → args[j]? = some v → Value.okWide Tryz.prog W .any base t v := hval0
  have hsz : (DataW.weightsEach Tryz.prog (Tryz.f3.params.toList ++ Rows.logsSpec.plain.varTypes Tryz.prog) (ds ++ gs)).all (· ≤ reachBytes) = true := hsz0
  have hW' := hW
  obtain ⟨p, q, hA0, hV, rfl, hfz, hnd⟩ := hW
  have hA : DataW.TrodAll enc Tryz.prog W 0 (fun _ => true) true Tryz.f3.params.toList args.toList ds p := hA0
  rw [Tryz.params3] at hA hval hsz
  obtain ⟨v0, vs0, d0, ds0, p0, q0, hargs, rfl, rfl, h0, r0⟩ := trodAll_cons hA
  obtain ⟨rfl, rfl, rfl⟩ := trodAll_nil r0
  obtain rfl : args = #[v0] := by cases args; simp_all
  obtain ⟨rfl, rfl⟩ := trodVars_none hV
  have k0 := h0
  have lt0 : ∀ x ∈ p0, x.block < W.heap.size := by obtain ⟨m, hm⟩ := k0; exact DataW.trod_lt m _ _ _ hm
  obtain ⟨a1, n1, cap1, rfl⟩ := okWide_slice Tryz.underlying22 (hval 0 22 v0 rfl rfl)
  obtain ⟨fv, hfv⟩ := h0
  obtain ⟨sa, sn, sc, l, hv, hsc, hsn⟩ := open_ops (y := (d0, p0)) (by simpa [Value.cells] using hfv) (fun k hk => by
    have := List.all_eq_true.1 hsz k (DataW.weights_mem_each (j := 0) (t := 22) rfl rfl k hk)
    exact of_decide_eq_true this)
  simp at hv
  obtain ⟨rfl, rfl, rfl⟩ := hv
  clear hA0 hval0 hsz0
  refine (logs_any a1 n1 cap1 l W hsc hsn (ovAt_laid hL)).mono fun e W' ⟨he, bel⟩ => ?_
  subst he
  exact ⟨_, rfl, _, _, _, [], _, [], hW', trodAll_mk1 (shut_bool Tryz.underlying4 _), (trodAll_cons_mk (Below.trod ladLaidOut (by kernel_rfl) (of_decide_eq_true (by kernel_rfl)) k0 bel lt0) trodAll_mk0), rfl, bel.frame _, fun h => by cases h⟩

theorem logs_said : Rows.LogsSaid :=
  OpenClaim.holds_of_wide 3 Tryz.f3 rfl rfl rfl rfl rfl rfl rfl ⟨rfl, rfl, rfl, rfl, rfl⟩ rfl rfl rfl rfl rfl (by kernel_rfl) Tryz.func3 (by kernel_rfl)
    (of_decide_eq_true (by kernel_rfl)) (by unfold Func.isWrapper; first | (rw [if_pos (by decide +kernel)]; kernel_rfl) | (rw [if_neg (by decide +kernel)]; exact ⟨rfl, rfl⟩))
    (fun os started H enc _ => logs_lifted os started H enc)
theorem logs_plain (f : FuncId) (fn : Func) (hf : Tryz.pinned.checked.prog.funcNamed "garner/garnerlaw.Logs" = some f) (hfn : Tryz.pinned.checked.prog.funcs[f]? = some fn) :
    false = Tryz.pinned.checked.prog.looks [] ∧ ∀ (j : Nat) t, fn.params[j]? = some t → Tryz.pinned.checked.prog.wantsStandIn t = false := by
  obtain rfl : f = 3 := Option.some.inj ((show Tryz.prog.funcNamed "garner/garnerlaw.Logs" = some 3 by kernel_rfl).symm.trans hf) |>.symm
  obtain rfl : fn = Tryz.f3 := (Option.some.inj (Tryz.func3.symm.trans hfn)).symm
  refine ⟨by kernel_rfl, fun j t ht => ?_⟩
  rw [Tryz.params3] at ht
  obtain rfl : t = 22 := by simpa using Array.mem_of_getElem? ht
  exact (show Tryz.prog.wantsStandIn 22 = false by kernel_rfl)
theorem logs_holds : Rows.LogsCardSaid :=
  Claim7.holds_tied_plain_at .later [] _ _ _ _ logs_said (fun _ h => by cases h) (by kernel_rfl) (fun _ h => by cases h) logs_row_tie rfl ⟨rfl, rfl⟩ (by kernel_rfl) rfl logs_plain (by kernel_rfl)

end Go.Proofs.YthciddpljcbhiabGreatDoor
