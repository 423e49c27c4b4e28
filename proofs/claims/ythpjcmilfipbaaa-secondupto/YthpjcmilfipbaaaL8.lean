/- My own text: several texts in one. -/
import Derived.Test.YthpjcmilfipbaaaL7
import Derived.Test.YthpjcmilfipbaaaRows
import Derived.ProofKit
import Derived.OpenShut
import Derived.ShutString
import Derived.ChangeOld
import Derived.JoinedCond
namespace Go.Proofs.Ythpjcmilfipbaaa
set_option linter.unusedVariables false
set_option linter.unusedSimpArgs false
open Go.ChangeShapes Go.WideShapes Go.ChangeAt Go.RowKit
theorem own : ownKnob Try.prog.godebug = none := by kernel_rfl
theorem laidOut : laidOutB Try.prog = true := by kernel_rfl
theorem lawOp : ∃ fs, Try.prog.underlying 72 = some (.struct fs) ∧ ∀ j, j < 6 → ∃ f, fs[j]? = some f ∧ f.offset = j ∧ f.type = 3 := by
  refine ⟨_, Try.underlying72, fun j hj => ?_⟩
  match j, hj with
  | 0, _ => exact ⟨_, rfl, rfl, rfl⟩
  | 1, _ => exact ⟨_, rfl, rfl, rfl⟩
  | 2, _ => exact ⟨_, rfl, rfl, rfl⟩
  | 3, _ => exact ⟨_, rfl, rfl, rfl⟩
  | 4, _ => exact ⟨_, rfl, rfl, rfl⟩
  | 5, _ => exact ⟨_, rfl, rfl, rfl⟩
theorem bulk_pos {H : Type} (d : DataW H) : 1 ≤ Rows.uptoBulk d := by
  cases d with
  | lit l => cases l <;> simp [Rows.uptoBulk]
  | _ => simp [Rows.uptoBulk]
theorem bulk_len {H : Type} : ∀ l : List (DataW H), l.length ≤ Rows.uptoBulkAll l
  | [] => by simp
  | d :: l => by
    have h1 := bulk_pos d
    have h2 := bulk_len l
    simp only [Rows.uptoBulkAll, List.length_cons]
    omega
theorem bulk_slice {H : Type} {el sp : List (DataW H)} {rest : List (DataW H)} (hk : Rows.uptoSmall H (.slice el sp :: rest) = true) : el.length ≤ 1048576 := by
  have h := of_decide_eq_true hk
  simp only [Rows.uptoBulkAll, Rows.uptoBulk] at h
  have := bulk_len el
  omega
/-- A script, as it lies in memory. -/
def Script (W : World) (a0 : Option Addr) (n : Nat) (x : Nat → Nat → Int) : Prop :=
  0 < n → ∃ sb so, a0 = some ⟨sb, so, none⟩ ∧ sb < W.heap.size ∧ ∀ i j, i < n → j < 6 → W.cell? ⟨sb, so + i * 6 + j, none⟩ = some (.int .i64 (x i j))
theorem script_of {H : Type} {enc : TypeId × Value → H} {W : World} {a0 : Option Addr} {len0 cap0 : Nat} {d0 : DataW H} {p : List MemPlace} {base : Nat} {spare : Nat → Bool} {held : Bool}
    (hf : ∃ fuel, DataW.trod enc Try.prog W base spare held fuel 22 (Value.slice a0 len0 cap0).cells.toList = some (d0, p)) (hk : Rows.uptoSmall H [d0] = true) :
    len0 ≤ 1048576 ∧ ∃ x : Nat → Nat → Int, (∀ i j, Fits (x i j)) ∧ Script W a0 len0 x := by
  obtain ⟨fuel, hf⟩ := hf
  obtain ⟨fs, hu, hfs⟩ := lawOp
  rcases open_ops Try.underlying22 hu (by kernel_rfl) Try.underlying3 (by kernel_rfl) hfs hf with ⟨hcs, _⟩ | ⟨a, len, cap, el, sp, hcs, hd, hel, hc⟩
  · simp [Value.cells] at hcs
    obtain ⟨rfl, rfl, rfl⟩ := hcs
    exact ⟨by omega, fun _ _ => 0, fun _ _ => show Fits 0 from ⟨by omega, by omega⟩, fun h => by omega⟩
  · simp [Value.cells] at hcs
    obtain ⟨rfl, rfl, rfl⟩ := hcs
    simp only at hd
    subst hd
    obtain ⟨x, hx, hs⟩ := ops_of (by omega) hc
    have := bulk_slice hk
    exact ⟨by omega, x, hx, fun hpos => by obtain ⟨sb, so, e, r⟩ := hs hpos; exact ⟨sb, so, by rw [e], r⟩⟩
end Go.Proofs.Ythpjcmilfipbaaa
