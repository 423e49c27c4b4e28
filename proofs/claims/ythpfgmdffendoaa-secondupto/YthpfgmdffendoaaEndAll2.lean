/- My own text: several texts in one. -/
import Derived.Test.YthpfgmdffendoaaLawHolds
import Derived.Test.YthpfgmdffendoaaRows
import Derived.ProofKit
import Derived.OpenShut
import Derived.ShutString
import Derived.ChangeOld
import Derived.JoinedCond
import Derived.Test.YthpfgmdffendoaaSimAll
namespace Go.Proofs.Ythpfgmdffendoaa
set_option linter.unusedVariables false
set_option linter.unusedSimpArgs false
open Go.ChangeShapes Go.WideShapes Go.ChangeAt Go.RowKit
theorem own : ownKnob Try.prog.godebug = none := by kernel_rfl
theorem laidOut : laidOutB Try.prog = true := by kernel_rfl
theorem lawOp : ∃ fs, Try.prog.underlying 63 = some (.struct fs) ∧ ∀ j, j < 6 → ∃ f, fs[j]? = some f ∧ f.offset = j ∧ f.type = 3 := by
  refine ⟨_, Try.underlying63, fun j hj => ?_⟩
  match j, hj with
  | 0, _ => exact ⟨_, rfl, rfl, rfl⟩
  | 1, _ => exact ⟨_, rfl, rfl, rfl⟩
  | 2, _ => exact ⟨_, rfl, rfl, rfl⟩
  | 3, _ => exact ⟨_, rfl, rfl, rfl⟩
  | 4, _ => exact ⟨_, rfl, rfl, rfl⟩
  | 5, _ => exact ⟨_, rfl, rfl, rfl⟩
theorem bulk_pos {H : Type} (d : DataW H) : 1 ≤ Rows.uptoBulk d := by
  cases d with
  | lit l => cases l <;> simp [Rows.uptoBulk]
  | _ => simp [Rows.uptoBulk]
theorem bulk_len {H : Type} : ∀ l : List (DataW H), l.length ≤ Rows.uptoBulkAll l
  | [] => by simp
  | d :: l => by
    have h1 := bulk_pos d
    have h2 := bulk_len l
    simp only [Rows.uptoBulkAll, List.length_cons]
    omega
theorem bulk_slice {H : Type} {el sp : List (DataW H)} {rest : List (DataW H)} (hk : Rows.uptoSmall H (.slice el sp :: rest) = true) : el.length ≤ 1048576 := by
  have h := of_decide_eq_true hk
  simp only [Rows.uptoBulkAll, Rows.uptoBulk] at h
  have := bulk_len el
  omega
/-- A script, as it lies in memory. -/
def Script (W : World) (a0 : Option Addr) (n : Nat) (x : Nat → Nat → Int) : Prop :=
  0 < n → ∃ sb so, a0 = some ⟨sb, so, none⟩ ∧ sb < W.heap.size ∧ ∀ i j, i < n → j < 6 → W.cell? ⟨sb, so + i * 6 + j, none⟩ = some (.int .i64 (x i j))
theorem script_of {H : Type} {enc : TypeId × Value → H} {W : World} {a0 : Option Addr} {len0 cap0 : Nat} {d0 : DataW H} {p : List MemPlace} {base : Nat} {spare : Nat → Bool} {held : Bool}
    (hf : ∃ fuel, DataW.trod enc Try.prog W base spare held fuel 22 (Value.slice a0 len0 cap0).cells.toList = some (d0, p)) (hk : Rows.uptoSmall H [d0] = true) :
    len0 ≤ 1048576 ∧ ∃ x : Nat → Nat → Int, (∀ i j, Fits (x i j)) ∧ Script W a0 len0 x := by
  obtain ⟨fuel, hf⟩ := hf
  obtain ⟨fs, hu, hfs⟩ := lawOp
  rcases open_ops Try.underlying22 hu (by kernel_rfl) Try.underlying3 (by kernel_rfl) hfs hf with ⟨hcs, _⟩ | ⟨a, len, cap, el, sp, hcs, hd, hel, hc⟩
  · simp [Value.cells] at hcs
    obtain ⟨rfl, rfl, rfl⟩ := hcs
    exact ⟨by omega, fun _ _ => 0, fun _ _ => show Fits 0 from ⟨by omega, by omega⟩, fun h => by omega⟩
  · simp [Value.cells] at hcs
    obtain ⟨rfl, rfl, rfl⟩ := hcs
    simp only at hd
    subst hd
    obtain ⟨x, hx, hs⟩ := ops_of (by omega) hc
    have := bulk_slice hk
    exact ⟨by omega, x, hx, fun hpos => by obtain ⟨sb, so, e, r⟩ := hs hpos; exact ⟨sb, so, by rw [e], r⟩⟩
end Go.Proofs.Ythpfgmdffendoaa

namespace Go.Proofs.Ythpfgmdffendoaa
set_option linter.unusedVariables false
set_option linter.unusedSimpArgs false
open Go.ChangeShapes Go.WideShapes Go.ChangeAt Go.RowKit
section
variable {R : World → (Nat → Prop) → Nat → Wd → Prop} {okc : Cl → Prop}
set_option maxHeartbeats 800000 in
theorem lsecond_any (s : SideOn R fnPrg 30 25 okc) (hcc : ∀ c : Cl, c.base → okc c) (w : World) (ao : Option Addr) (n cap : Nat) (x : Nat → Nat → Int) (hn : n ≤ 1048576) (hx : ∀ i j, Fits (x i j)) (hs : Script w ao n x) :
    Calls Try.prog 5 #[.slice ao n cap] w fun e w' => e = .returned (.bool true) ∧ Below w.heap.size w w' := by
  have HC := hid (lholds_any s w ao n cap 7 2 x hn hx hcc (fun h => absurd h (by decide)) hs)
  clear hs hx s hcc
  go_enter Try.func5, Try.ntmps5
  go_wp2_with (first | (go_at_call 11; refine HC.out.mono ?_; rintro e w1 ⟨rfl, hb⟩; have HB := hid hb; clear hb))
  go_ret
  exact ⟨rfl, HB.out⟩
set_option maxRecDepth 100000 in
theorem second_lifted (s : SideOn R fnPrg 30 25 okc) (hcc : ∀ c : Cl, c.base → okc c) (os : Os) (started : os.Started) (H : Type) (enc : TypeId × Value → H) (F : Stop.Interp) :
    ReturnsInHanded {} Try.checked os 5 .any ((Rows.OpenSpec.upto Rows.secondSpec).pre6 enc Try.prog Try.f5 Rows.secondUptoRow.domain false) (((Rows.OpenSpec.upto Rows.secondSpec).at F).post enc Try.prog Try.f5 false true false false) := by
  refine returnsInHanded_of_cond (C := Try.checked) (s := Rows.OpenSpec.upto Rows.secondSpec) (k := Rows.uptoSmall) rfl own started (by kernel_rfl) Try.func5
    (OpenSpec.witness (enc := enc) (C := Try.checked) (s := Rows.OpenSpec.upto Rows.secondSpec) (k := Rows.uptoSmall) rfl false ⟨#[], #[.slice none 0 0], []⟩ 8 (by kernel_rfl) (by kernel_rfl) (by kernel_rfl)
      (x := ([.nil], [], [])) (by kernel_rfl) rfl (by kernel_rfl)) ?_
  intro W base args ds gs before hval0 hW _ hk _
  have hval : ∀ (j : Nat) t v, Try.f5.params[j]? = some t → args[j]? = some v → Value.okWide Try.prog W .any base t v := hval0
  have hW' := hW
  obtain ⟨p, q, hA0, hV, rfl, hfz, hnd⟩ := hW
  have hA : DataW.TrodAll enc Try.prog W 0 (fun _ => true) true Try.f5.params.toList args.toList ds p := hA0
  rw [Try.params5] at hA hval
  obtain ⟨v0, d0, rfl, rfl, h0⟩ := trodAll_one hA
  obtain ⟨rfl, rfl⟩ := trodVars_none hV
  obtain ⟨a0, len0, cap0, rfl⟩ := okWide_slice Try.underlying22 (hval 0 22 v0 rfl rfl)
  have k0 := h0
  have lt0 : ∀ x ∈ p, x.block < W.heap.size := by obtain ⟨m, hm⟩ := k0; exact DataW.trod_lt m _ _ _ hm
  obtain ⟨hn, x, hx, hs⟩ := script_of h0 (by simpa using hk)
  clear hA0 hval0
  refine (lsecond_any s hcc W a0 len0 cap0 x hn hx hs).mono fun e W' ⟨he, bel⟩ => ?_
  subst he
  exact ⟨_, rfl, _, _, _, [], _, [], hW', trodAll_mk1 (shut_bool Try.underlying4 _), trodAll_mk1 (Below.trod laidOut (by kernel_rfl) (of_decide_eq_true (by kernel_rfl)) k0 bel lt0), rfl, bel.frame _, fun h => by cases h⟩
theorem second_of (s : SideOn R fnPrg 30 25 okc) (hcc : ∀ c : Cl, c.base → okc c) : Rows.SecondUptoSaid :=
  OpenClaim.holds_of_cond 5 Try.f5 rfl rfl rfl rfl rfl rfl rfl ⟨rfl, rfl, rfl, rfl, rfl⟩ rfl rfl rfl rfl rfl (by kernel_rfl) Try.func5 (by kernel_rfl)
    (of_decide_eq_true (by kernel_rfl)) (by unfold Func.isWrapper; first | (rw [if_pos (by decide +kernel)]; kernel_rfl) | (rw [if_neg (by decide +kernel)]; exact ⟨rfl, rfl⟩))
    (fun os started H enc _ F => second_lifted s hcc os started H enc F)
end
end Go.Proofs.Ythpfgmdffendoaa

namespace Go.Proofs.Ythpfgmdffendoaa
theorem second_holds : Rows.SecondUptoSaid := second_of prgSide (fun _ h => h)
#print axioms second_holds
end Go.Proofs.Ythpfgmdffendoaa
