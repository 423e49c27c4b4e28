/- My own text: several texts in one. -/
import Derived.Test.YthpjcmilfipbaaaL8
import Derived.Test.YthpjcmilfipbaaaS2
namespace Go.Proofs.Ythpjcmilfipbaaa
set_option linter.unusedVariables false
set_option linter.unusedSimpArgs false
open Go.ChangeShapes Go.WideShapes Go.ChangeAt Go.RowKit
section
variable {R : World → (Nat → Prop) → Nat → Wd → Prop} {okc : Cl → Prop}
set_option maxHeartbeats 800000 in
theorem lrecords_any (s : SideOn R fnPrg 41 36 okc) (hcc : ∀ c : Cl, c.base → okc c) (hcm : ∀ c : Cl, okc c) (w : World) (ao : Option Addr) (n cap : Nat) (x : Nat → Nat → Int) (hn : n ≤ 1048576) (hx : ∀ i j, Fits (x i j)) (hs : Script w ao n x) :
    Calls Try.prog 6 #[.slice ao n cap] w fun e w' => e = .returned (.bool true) ∧ Below w.heap.size w w' := by
  have HC := hid (lholds_any s w ao n cap 1 3 x hn hx hcc (fun _ => hcm) hs)
  clear hs hx s hcc hcm
  go_enter Try.func6, Try.ntmps6
  go_wp2_with (first | (go_at_call 15; refine HC.out.mono ?_; rintro e w1 ⟨rfl, hb⟩; have HB := hid hb; clear hb))
  go_ret
  exact ⟨rfl, HB.out⟩
set_option maxRecDepth 100000 in
theorem records_lifted (s : SideOn R fnPrg 41 36 okc) (hcc : ∀ c : Cl, c.base → okc c) (hcm : ∀ c : Cl, okc c) (os : Os) (started : os.Started) (H : Type) (enc : TypeId × Value → H) (F : Stop.Interp) :
    ReturnsInHanded {} Try.checked os 6 .any ((Rows.OpenSpec.upto Rows.recordsSpec).pre6 enc Try.prog Try.f6 Rows.recordsUptoRow.domain false) (((Rows.OpenSpec.upto Rows.recordsSpec).at F).post enc Try.prog Try.f6 false true false false) := by
  refine returnsInHanded_of_cond (C := Try.checked) (s := Rows.OpenSpec.upto Rows.recordsSpec) (k := Rows.uptoSmall) rfl own started (by kernel_rfl) Try.func6
    (OpenSpec.witness (enc := enc) (C := Try.checked) (s := Rows.OpenSpec.upto Rows.recordsSpec) (k := Rows.uptoSmall) rfl false ⟨#[], #[.slice none 0 0], []⟩ 8 (by kernel_rfl) (by kernel_rfl) (by kernel_rfl)
      (x := ([.nil], [], [])) (by kernel_rfl) rfl (by kernel_rfl)) ?_
  intro W base args ds gs before hval0 hW _ hk _
  have hval : ∀ (j : Nat) t v, Try.f6.params[j]? = some t → args[j]? = some v → Value.okWide Try.prog W .any base t v := hval0
  have hW' := hW
  obtain ⟨p, q, hA0, hV, rfl, hfz, hnd⟩ := hW
  have hA : DataW.TrodAll enc Try.prog W 0 (fun _ => true) true Try.f6.params.toList args.toList ds p := hA0
  rw [Try.params6] at hA hval
  obtain ⟨v0, d0, rfl, rfl, h0⟩ := trodAll_one hA
  obtain ⟨rfl, rfl⟩ := trodVars_none hV
  obtain ⟨a0, len0, cap0, rfl⟩ := okWide_slice Try.underlying22 (hval 0 22 v0 rfl rfl)
  have k0 := h0
  have lt0 : ∀ x ∈ p, x.block < W.heap.size := by obtain ⟨m, hm⟩ := k0; exact DataW.trod_lt m _ _ _ hm
  obtain ⟨hn, x, hx, hs⟩ := script_of h0 (by simpa using hk)
  clear hA0 hval0
  refine (lrecords_any s hcc hcm W a0 len0 cap0 x hn hx hs).mono fun e W' ⟨he, bel⟩ => ?_
  subst he
  exact ⟨_, rfl, _, _, _, [], _, [], hW', trodAll_mk1 (shut_bool Try.underlying4 _), trodAll_mk1 (Below.trod laidOut (by kernel_rfl) (of_decide_eq_true (by kernel_rfl)) k0 bel lt0), rfl, bel.frame _, fun h => by cases h⟩
theorem records_of (s : SideOn R fnPrg 41 36 okc) (hcc : ∀ c : Cl, c.base → okc c) (hcm : ∀ c : Cl, okc c) : Rows.RecordsUptoSaid :=
  OpenClaim.holds_of_cond 6 Try.f6 rfl rfl rfl rfl rfl rfl rfl ⟨rfl, rfl, rfl, rfl, rfl⟩ rfl rfl rfl rfl rfl (by kernel_rfl) Try.func6 (by kernel_rfl)
    (of_decide_eq_true (by kernel_rfl)) (by unfold Func.isWrapper; first | (rw [if_pos (by decide +kernel)]; kernel_rfl) | (rw [if_neg (by decide +kernel)]; exact ⟨rfl, rfl⟩))
    (fun os started H enc _ F => records_lifted s hcc hcm os started H enc F)
end
end Go.Proofs.Ythpjcmilfipbaaa

namespace Go.Proofs.Ythpjcmilfipbaaa
theorem records_holds : Rows.RecordsUptoSaid := records_of prgSide (fun _ _ => trivial) (fun _ => trivial)
#print axioms records_holds
end Go.Proofs.Ythpjcmilfipbaaa
