/- My own text: several texts in one. -/
import Derived.Test.YthpjcmilfipbaaaK7
import Derived.Test.YthpjcmilfipbaaaRows
import Derived.ProofKit
import Derived.OpenShut
import Derived.ShutString
import Derived.ChangeOld
namespace Go.Proofs.Ythpjcmilfipbaaa
set_option linter.unusedVariables false
set_option linter.unusedSimpArgs false
open Go.ChangeShapes Go.WideShapes Go.ChangeAt Go.RowKit
theorem ownK : ownKnob Try.prog.godebug = none := by kernel_rfl
theorem laidOutK : laidOutB Try.prog = true := by kernel_rfl
theorem keepBytesK : Try.prog.bytesOf 30 = 40 := by kernel_rfl
theorem keepOpK : ∃ fs, Try.prog.underlying 30 = some (.struct fs) ∧ ∀ j, j < 5 → ∃ f, fs[j]? = some f ∧ f.offset = j ∧ f.type = 3 := by
  refine ⟨_, Try.underlying30, fun j hj => ?_⟩
  match j, hj with
  | 0, _ => exact ⟨_, rfl, rfl, rfl⟩
  | 1, _ => exact ⟨_, rfl, rfl, rfl⟩
  | 2, _ => exact ⟨_, rfl, rfl, rfl⟩
  | 3, _ => exact ⟨_, rfl, rfl, rfl⟩
  | 4, _ => exact ⟨_, rfl, rfl, rfl⟩
theorem kscript_of {H : Type} {enc : TypeId × Value → H} {W : World} {a0 : Option Addr} {len0 cap0 : Nat} {d0 : DataW H} {p : List MemPlace} {base : Nat} {spare : Nat → Bool} {held : Bool} {ts : List TypeId} {rest : List (DataW H)}
    (hf : ∃ fuel, DataW.trod enc Try.prog W base spare held fuel 25 (Value.slice a0 len0 cap0).cells.toList = some (d0, p)) (hsz : (DataW.weightsEach Try.prog (25 :: ts) (d0 :: rest)).all (· ≤ reachBytes) = true) :
    len0 ≤ 4000000000000 ∧ ∃ x : Nat → Nat → Int, (∀ i j, Fits (x i j)) ∧ KScript W a0 len0 x := by
  obtain ⟨fuel, hf⟩ := hf
  obtain ⟨fs, hu, hfs⟩ := keepOpK
  rcases open_ops Try.underlying25 hu (by kernel_rfl) Try.underlying3 (by kernel_rfl) hfs hf with ⟨hcs, _⟩ | ⟨a, len, cap, el, sp, hcs, hd, hel, hc⟩
  · simp [Value.cells] at hcs
    obtain ⟨rfl, rfl, rfl⟩ := hcs
    exact ⟨by omega, fun _ _ => 0, fun _ _ => show Fits 0 from ⟨by omega, by omega⟩, fun h => by omega⟩
  · simp [Value.cells] at hcs
    obtain ⟨rfl, rfl, rfl⟩ := hcs
    simp only at hd
    subst hd
    have hz := sized_slice hsz (j := 0) (t := 25) (e := 30) rfl rfl Try.underlying25
    rw [keepBytesK] at hz
    simp only [reachBytes] at hz
    obtain ⟨x, hx, hs⟩ := ops_of (by omega) hc
    exact ⟨by omega, x, hx, fun hpos => by obtain ⟨sb, so, e, r⟩ := hs hpos; exact ⟨sb, so, by rw [e], r⟩⟩
end Go.Proofs.Ythpjcmilfipbaaa
