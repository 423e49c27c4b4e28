/- My own text: several texts in one. -/
import Derived.Test.YthpjcmilfipbaaaP1
import Derived.ProofKit
import Derived.SizedLaws
import Derived.Deep.Slices
namespace Go.Proofs.Ythpjcmilfipbaaa
set_option linter.unusedVariables false
set_option linter.unusedSimpArgs false
open Go.RowKit Go.Deep
def Fits (x : Int) : Prop := -9223372036854775808 ≤ x ∧ x ≤ 9223372036854775807
theorem fits_of_wf {x : Int} (h : (Lit.int .i64 x).wf = true) : Fits x := by
  simp [Lit.wf, IntKind.min, IntKind.max, IntKind.signed, IntKind.bits] at h
  exact ⟨by omega, by omega⟩
section
variable {H : Type} {enc : TypeId × Value → H} {P : Program} {w : World} {base : Nat} {spare : Nat → Bool} {held : Bool}
/-- A slice of structs that are nf ints each, opened: its cells. -/
theorem open_ops {t e i : TypeId} {fs : Array Field} {nf fuel : Nat} {cs : List Value} {x : DataW H × List MemPlace} (ht : P.underlying t = some (.slice e)) (he : P.underlying e = some (.struct fs)) (ce : P.cellsOf e = nf)
    (hi : P.underlying i = some (.int .i64)) (ci : P.cellsOf i = 1) (hf : ∀ j, j < nf → ∃ f, fs[j]? = some f ∧ f.offset = j ∧ f.type = i)
    (h : DataW.trod enc P w base spare held fuel t cs = some x) :
    (cs = [.slice none 0 0] ∧ x = (.nil, [])) ∨
    ∃ (a : Addr) (len cap : Nat) (el sp : List (DataW H)), cs = [.slice (some a) len cap] ∧ x.1 = .slice el sp ∧ el.length = len ∧ ∀ k j, k < len → j < nf → ∃ z, Fits z ∧ w.cell? (a.add (k * nf + j)) = some (.int .i64 z) := by
  rcases open_slice ht h with h0 | ⟨a, len, cap, m, n, D, Pl, rfl, hb, hl, hm, hmm, rfl, hx⟩
  · exact Or.inl h0
  refine Or.inr ⟨a, len, cap, _, _, rfl, rfl, by simp, ?_⟩
  intro k j hk hj
  have hlm : len ≤ m := by rw [hmm]; split <;> omega
  obtain ⟨cs', h1, h2⟩ := hx k (by omega)
  rw [ce] at h1
  obtain ⟨_, hlen, hcell⟩ := World.cells?_some h1
  obtain ⟨xs, q, _, _, _, hxl, hfl⟩ := DataW.trod_struct he h2
  obtain ⟨f, hfj, ho, hty⟩ := hf j hj
  have g := hfl j f hfj
  have hjl : j < xs.length := by rw [hxl]; exact (Array.getElem?_eq_some_iff.1 hfj).1
  rw [ho, hty, ci, List.getElem?_eq_getElem hjl] at g
  obtain ⟨z, hz, _, hwf⟩ := DataW.trod_int hi g
  refine ⟨z, fits_of_wf hwf, ?_⟩
  have e0 := hcell j hj
  rw [add_add] at e0
  rw [e0]
  have : (cs'.drop j).take 1 = [cs'[j]'(by omega)] := by rw [List.drop_eq_getElem_cons (by omega)]; rfl
  rw [this] at hz
  simp at hz
  simp [hz, hlen, hj]
end
theorem ops_of {W : World} {a : Addr} {len nf : Nat} (hnf : 0 < nf) (hc : ∀ k j, k < len → j < nf → ∃ z, Fits z ∧ W.cell? (a.add (k * nf + j)) = some (.int .i64 z)) :
    ∃ x : Nat → Nat → Int, (∀ i j, Fits (x i j)) ∧ (0 < len → ∃ sb so, a = ⟨sb, so, none⟩ ∧ sb < W.heap.size ∧ ∀ i j, i < len → j < nf → W.cell? ⟨sb, so + i * nf + j, none⟩ = some (.int .i64 (x i j))) := by
  have hpick : ∀ i j, ∃ z, Fits z ∧ (i < len → j < nf → W.cell? (a.add (i * nf + j)) = some (.int .i64 z)) := by
    intro i j
    by_cases hij : i < len ∧ j < nf
    · obtain ⟨z, hz1, hz2⟩ := hc i j hij.1 hij.2
      exact ⟨z, hz1, fun _ _ => hz2⟩
    · exact ⟨0, ⟨by omega, by omega⟩, fun h1 h2 => absurd ⟨h1, h2⟩ hij⟩
  obtain ⟨x, hx⟩ : ∃ x : Nat → Nat → Int, ∀ i j, Fits (x i j) ∧ (i < len → j < nf → W.cell? (a.add (i * nf + j)) = some (.int .i64 (x i j))) :=
    ⟨fun i j => (hpick i j).choose, fun i j => (hpick i j).choose_spec⟩
  refine ⟨x, fun i j => (hx i j).1, fun hpos => ?_⟩
  obtain ⟨b, off, spot⟩ := a
  have hc0 := (hx 0 0).2 hpos hnf
  have e0 : (⟨b, off, spot⟩ : Addr).add (0 * nf + 0) = ⟨b, off, spot⟩ := by simp [Addr.add]
  rw [e0] at hc0
  have hspot : spot = none := World.cell?_spot hc0
  subst hspot
  refine ⟨b, off, rfl, World.block_lt_of_cell? W _ hc0, fun i j hi hj => ?_⟩
  have h1 := (hx i j).2 hi hj
  have e1 : (⟨b, off, none⟩ : Addr).add (i * nf + j) = ⟨b, off + i * nf + j, none⟩ := by
    by_cases e : i * nf + j = 0
    · have : i * nf = 0 := by omega
      have : j = 0 := by omega
      simp_all [Addr.add]
    · unfold Addr.add
      simp only [if_neg e]
      congr 1; omega
  rw [e1] at h1
  exact h1
end Go.Proofs.Ythpjcmilfipbaaa
