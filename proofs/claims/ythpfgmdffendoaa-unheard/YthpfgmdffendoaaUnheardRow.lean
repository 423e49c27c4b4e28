/- My own text. The statement Unheard. -/
import Derived.Test.YthpfgmdffendoaaUnheard
import Derived.ProofKit
import Derived.OpenShut
import Derived.ShutString
import Derived.ChangeOld
namespace Go.Proofs.Ythpfgmdffendoaa
set_option linter.unusedVariables false
set_option linter.unusedSimpArgs false
open Go.ChangeShapes Go.WideShapes Go.ChangeAt Go.RowKit
theorem own : ownKnob Try.prog.godebug = none := by kernel_rfl
theorem laidOut : laidOutB Try.prog = true := by kernel_rfl
theorem keepBytes : Try.prog.bytesOf 30 = 40 := by kernel_rfl
theorem keepOp : ∃ fs, Try.prog.underlying 30 = some (.struct fs) ∧ ∀ j, j < 5 → ∃ f, fs[j]? = some f ∧ f.offset = j ∧ f.type = 3 := by
  refine ⟨_, Try.underlying30, fun j hj => ?_⟩
  match j, hj with
  | 0, _ => exact ⟨_, rfl, rfl, rfl⟩
  | 1, _ => exact ⟨_, rfl, rfl, rfl⟩
  | 2, _ => exact ⟨_, rfl, rfl, rfl⟩
  | 3, _ => exact ⟨_, rfl, rfl, rfl⟩
  | 4, _ => exact ⟨_, rfl, rfl, rfl⟩

set_option maxRecDepth 100000 in
theorem unheard_lifted (os : Os) (started : os.Started) (H : Type) (enc : TypeId × Value → H) :
    ReturnsInHanded {} Try.checked os 4 .any (Rows.unheardSpec.pre6 enc Try.prog Try.f4 Rows.unheardRow.domain false) (Rows.unheardSpec.post enc Try.prog Try.f4 false true false false) := by
  refine returnsInHanded_of_change_sized (C := Try.checked) own started (by kernel_rfl) Try.func4
    (ChangeSpec.witness6 (enc := enc) (C := Try.checked) false ⟨#[], #[.slice none 0 0], []⟩ 8 (by kernel_rfl) (by kernel_rfl) (by kernel_rfl) (by kernel_rfl)) ?_
  intro W base args ds gs before hval0 hW hcnd hsz0 _
  have hval : ∀ (j : Nat) t v, Try.f4.params[j]? = some t → args[j]? = some v → Value.okWide Try.prog W .any base t v := hval0
  have hsz : (DataW.weightsEach Try.prog (Try.f4.params.toList ++ Rows.unheardSpec.plain.varTypes Try.prog) (ds ++ gs)).all (· ≤ reachBytes) = true := hsz0
  have hW' := hW
  obtain ⟨p, q, hA0, hV, rfl, hfz, hnd⟩ := hW
  have hA : DataW.TrodAll enc Try.prog W 0 (fun _ => true) true Try.f4.params.toList args.toList ds p := hA0
  rw [Try.params4] at hA hval hsz
  obtain ⟨v0, d0, rfl, rfl, h0⟩ := trodAll_one hA
  obtain ⟨rfl, rfl⟩ := trodVars_none hV
  obtain ⟨a0, len0, cap0, rfl⟩ := okWide_slice Try.underlying25 (hval 0 25 v0 rfl rfl)
  have k0 := h0
  have lt0 : ∀ x ∈ p, x.block < W.heap.size := by obtain ⟨m, hm⟩ := k0; exact DataW.trod_lt m _ _ _ hm
  obtain ⟨hn, x, hx, hs⟩ : len0 ≤ 4000000000000 ∧ ∃ x : Nat → Nat → Int, (∀ i j, Fits (x i j)) ∧ (0 < len0 → ∃ sb so, a0 = some ⟨sb, so, none⟩ ∧ sb < W.heap.size ∧ ∀ i j, i < len0 → j < 5 → W.cell? ⟨sb, so + i * 5 + j, none⟩ = some (.int .i64 (x i j))) := by
    obtain ⟨fuel, hf⟩ := h0
    obtain ⟨fs, hu, hfs⟩ := keepOp
    rcases open_ops Try.underlying25 hu (by kernel_rfl) Try.underlying3 (by kernel_rfl) hfs hf with ⟨hcs, _⟩ | ⟨a, len, cap, el, sp, hcs, hd, hel, hc⟩
    · simp [Value.cells] at hcs
      obtain ⟨rfl, rfl, rfl⟩ := hcs
      exact ⟨by omega, fun _ _ => 0, fun _ _ => show Fits 0 from ⟨by omega, by omega⟩, fun h => by omega⟩
    · simp [Value.cells] at hcs
      obtain ⟨rfl, rfl, rfl⟩ := hcs
      simp only at hd
      subst hd
      have hz := sized_slice hsz (j := 0) (t := 25) (e := 30) rfl rfl Try.underlying25
      rw [keepBytes] at hz
      simp only [reachBytes] at hz
      obtain ⟨x, hx, hs⟩ := ops_of (by omega) hc
      exact ⟨by omega, x, hx, fun hpos => by obtain ⟨sb, so, e, r⟩ := hs hpos; exact ⟨sb, so, by rw [e], r⟩⟩
  clear hA0 hval0
  refine (unheard_walk W a0 len0 cap0 x hn hx hs).mono fun e W' ⟨he, bel⟩ => ?_
  subst he
  exact ⟨_, rfl, _, _, _, [], _, [], hW', trodAll_mk1 (shut_bool Try.underlying4 _), trodAll_mk1 (Below.trod laidOut (by kernel_rfl) (of_decide_eq_true (by kernel_rfl)) k0 bel lt0), rfl, bel.frame _, fun h => by cases h⟩

theorem unheard_holds : Rows.UnheardSaid :=
  OpenClaim.holds_of_wide 4 Try.f4 rfl rfl rfl rfl rfl rfl rfl ⟨rfl, rfl, rfl, rfl, rfl⟩ rfl rfl rfl rfl rfl (by kernel_rfl) Try.func4 (by kernel_rfl)
    (of_decide_eq_true (by kernel_rfl)) (by unfold Func.isWrapper; first | (rw [if_pos (by decide +kernel)]; kernel_rfl) | (rw [if_neg (by decide +kernel)]; exact ⟨rfl, rfl⟩))
    (fun os started H enc _ => unheard_lifted os started H enc)
#print axioms unheard_holds
end Go.Proofs.Ythpfgmdffendoaa
