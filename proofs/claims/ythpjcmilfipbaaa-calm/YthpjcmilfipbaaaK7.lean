/- My own text: several texts in one. -/
import Derived.Test.YthpjcmilfipbaaaK6
import Derived.Test.YthpjcmilfipbaaaL6
namespace Go.Proofs.Ythpjcmilfipbaaa
set_option linter.unusedVariables false
set_option linter.unusedSimpArgs false
open Go.RowKit
/-- A script of the book's own steps, as it lies in memory. -/
def KScript (W : World) (a0 : Option Addr) (n : Nat) (x : Nat → Nat → Int) : Prop :=
  0 < n → ∃ sb so, a0 = some ⟨sb, so, none⟩ ∧ sb < W.heap.size ∧ ∀ i j, i < n → j < 5 → W.cell? ⟨sb, so + i * 5 + j, none⟩ = some (.int .i64 (x i j))
def tbNone : Nat → Rec := fun _ => ⟨0, 0, 0⟩
theorem bookNone (L : List Era) (g : Gh) : BookOk L g tbNone := fun i _ hp => absurd rfl hp
theorem zeroBook : Try.zeroCells48 = Array.replicate 180 (.int .i64 0) := by kernel_rfl
theorem BRep.none (w : World) : BRep (w.alloc (.cells Try.zeroCells48 48)) w.heap.size tbNone := by
  refine ⟨_, heap_alloc_new w _, by rw [zeroBook]; simp, fun i hi => ?_⟩
  rw [zeroBook]
  simp only [Array.getElem?_replicate]
  exact ⟨by rw [if_pos (by omega)]; rfl, by rw [if_pos (by omega)]; rfl, by rw [if_pos (by omega)]; rfl⟩
section
variable {R : World → (Nat → Prop) → Nat → Wd → Prop}
set_option maxHeartbeats 3200000 in
set_option maxRecDepth 100000 in
theorem kkept_any (s : Side R fnPrg 41 36) (w : World) (ao : Option Addr) (n cap : Nat) (heard : Bool) (x : Nat → Nat → Int) (hn : n ≤ 4000000000000) (hx : ∀ i j, Fits (x i j)) (hs : KScript w ao n x) :
    Calls Try.prog 10 #[.slice ao n cap, .bool heard] w fun e w' => e = .returned (.bool true) ∧ Below w.heap.size w w' := by
  have HSI := hidK s
  have HS := hidK hs
  have HX := hidK hx
  clear s hs hx
  go_enter Try.func10, Try.ntmps10
  go_wp2_with fail
  refine (kbegun_any HSI.out w).mono ?_
  rintro e w1 ⟨cb, rfl, h1, hB1⟩
  have H1 := hidK h1
  have HB1 := hidK hB1
  clear h1 hB1
  have hs1 : w.heap.size ≤ w1.heap.size := HB1.out.size
  have HBA := hidK ((Below.refl w1.heap.size w1).alloc (Nat.le_refl _) (.cells Try.zeroCells48 48))
  have HBV := hidK (HB1.out.trans (HBA.out.mono hs1))
  have H2 := hidK (H1.out.more HSI.out HBA.out (Own w.heap.size w1.heap.size) fun k hk => by
    rcases hk with hk | hk
    · exact Or.inl hk
    · exact Or.inr ⟨by omega, by simp; omega⟩)
  have HBk := hidK (BRep.none w1)
  cases heard
  · go_wp2_with fail
    refine wp_genR (fun V => Kp R w.heap.size cb w1.heap.size V ∧ Below w.heap.size w V) ⟨by
      obtain ⟨g, hg⟩ := dBegun_inv
      exact ⟨dBegun, g, tbNone, H2.out, HBk.out, hg, bookNone _ _, hs1⟩, HBV.out⟩ ?_
    rintro V ⟨hV, hVB⟩
    clear H1 H2 HB1 HBA HBV HBk hs1
    have HV := hidK hV
    have HVB := hidK hVB
    clear hV hVB
    generalize w1.heap.size = bb at *
    go_loopw [8] (fun t wr => ∃ k : Nat, k ≤ n ∧ t = .int .i64 k ∧ Kp R w.heap.size cb bb wr ∧ Below w.heap.size w wr) (fun t _ => n - (intOf t).toNat)
    case atStart => exact ⟨0, Nat.zero_le _, rfl, HV.out, HVB.out⟩
    case round =>
      obtain ⟨k, hk, rfl, hK, hB⟩ := hrel
      have HK := hidK hK
      have HB := hidK hB
      clear hK hB HV HVB
      by_cases hkn : k < n
      · obtain ⟨sb, so, rfl, hsb, hcells⟩ := HS.out (by omega)
        have hc : ∀ j, j < 5 → wr.cell? ⟨sb, so + k * 5 + j, none⟩ = some (.int .i64 (x k j)) := fun j hj => (HB.out.cell hsb).trans (hcells k j hkn hj)
        have c0 := hc 0 (by omega); have c1 := hc 1 (by omega); have c2 := hc 2 (by omega); have c3 := hc 3 (by omega); have c4 := hc 4 (by omega)
        simp only [Nat.add_zero] at c0
        have f0 := HX.out k 0
        have f1 := HX.out k 1
        have f2 := HX.out k 2
        have f3 := HX.out k 3
        have f4 := HX.out k 4
        clear hc hcells
        generalize x k 0 = x0 at *
        generalize x k 1 = x1 at *
        generalize x k 2 = x2 at *
        generalize x k 3 = x3 at *
        generalize x k 4 = x4 at *
        have HC := hidK (kstep_any HSI.out HK.out x0 x1 x2 x3 x4 ⟨f0.1, f0.2⟩ ⟨f1.1, f1.2⟩ ⟨f2.1, f2.2⟩ ⟨f3.1, f3.2⟩ ⟨f4.1, f4.2⟩)
        unfold kopVal at HC
        have hki0 : (0 : Int) ≤ (k : Int) := by omega
        have hki1 : (k : Int) < (n : Int) := by omega
        go_wp2_with (first | (go_at_call 25; refine HC.out.mono ?_; rintro e w2 ⟨rfl, hK2, hB2⟩; have HK2 := hidK hK2; have HB2 := hidK hB2; clear hK2 hB2))
        go_roundw
        case rel => exact ⟨k + 1, by omega, by go_num, HK2.out, HB.out.trans HB2.out⟩
        case measure => simp [intOf]; omega
      · have : k = n := by omega
        subst this
        go_wp2
        go_ret
        exact ⟨rfl, HB.out⟩
  · have HF := hidK (kfirst_any HSI.out H2.out)
    go_wp2_with fail
    refine HF.out.mono ?_
    rintro e w2 ⟨rfl, h2, hF2⟩
    have HT : Hid (Calls Try.prog 24 #[.pointer (some ⟨w1.heap.size, 0, none⟩), .int .i64 0, recVal ⟨1, 1, 7⟩] w2 fun e w' => e = .returned (.bool true) ∧ Kp R w.heap.size cb w1.heap.size w' ∧ Below w.heap.size w2 w') := by
      obtain ⟨g, hg, ht⟩ := dFirst_inv
      exact KpAt.tells HSI.out (d := dFirst) (g := g) (tb := tbNone) ⟨h2, HBk.out.same (hF2.block _ (by simp) fun e => e (Or.inr rfl)), hg, bookNone _ _, hs1⟩ 0 ⟨1, 1, 7⟩ ⟨by omega, by decide, _, ht, rfl, rfl, fun _ => rfl⟩
    have HB2 := hidK (HBV.out.trans (own_below (bb := w1.heap.size) HBV.out.size hF2))
    unfold recVal at HT
    clear h2 hF2 HF H1 H2 HBk HBA HBV HB1
    go_wp2_with (first | (go_at_call 24; refine HT.out.mono ?_; rintro e w3 ⟨rfl, hK3, hB3⟩; have HK3 := hidK hK3; have HB3 := hidK hB3; clear hK3 hB3))
    refine wp_genR (fun V => Kp R w.heap.size cb w1.heap.size V ∧ Below w.heap.size w V) ⟨HK3.out, HB2.out.trans HB3.out⟩ ?_
    rintro V ⟨hV, hVB⟩
    clear HT HB2 HK3 HB3 hs1
    have HV := hidK hV
    have HVB := hidK hVB
    clear hV hVB
    generalize w1.heap.size = bb at *
    go_loopw [8] (fun t wr => ∃ k : Nat, k ≤ n ∧ t = .int .i64 k ∧ Kp R w.heap.size cb bb wr ∧ Below w.heap.size w wr) (fun t _ => n - (intOf t).toNat)
    case atStart => exact ⟨0, Nat.zero_le _, rfl, HV.out, HVB.out⟩
    case round =>
      obtain ⟨k, hk, rfl, hK, hB⟩ := hrel
      have HK := hidK hK
      have HB := hidK hB
      clear hK hB HV HVB
      by_cases hkn : k < n
      · obtain ⟨sb, so, rfl, hsb, hcells⟩ := HS.out (by omega)
        have hc : ∀ j, j < 5 → wr.cell? ⟨sb, so + k * 5 + j, none⟩ = some (.int .i64 (x k j)) := fun j hj => (HB.out.cell hsb).trans (hcells k j hkn hj)
        have c0 := hc 0 (by omega); have c1 := hc 1 (by omega); have c2 := hc 2 (by omega); have c3 := hc 3 (by omega); have c4 := hc 4 (by omega)
        simp only [Nat.add_zero] at c0
        have f0 := HX.out k 0
        have f1 := HX.out k 1
        have f2 := HX.out k 2
        have f3 := HX.out k 3
        have f4 := HX.out k 4
        clear hc hcells
        generalize x k 0 = x0 at *
        generalize x k 1 = x1 at *
        generalize x k 2 = x2 at *
        generalize x k 3 = x3 at *
        generalize x k 4 = x4 at *
        have HC := hidK (kstep_any HSI.out HK.out x0 x1 x2 x3 x4 ⟨f0.1, f0.2⟩ ⟨f1.1, f1.2⟩ ⟨f2.1, f2.2⟩ ⟨f3.1, f3.2⟩ ⟨f4.1, f4.2⟩)
        unfold kopVal at HC
        have hki0 : (0 : Int) ≤ (k : Int) := by omega
        have hki1 : (k : Int) < (n : Int) := by omega
        go_wp2_with (first | (go_at_call 25; refine HC.out.mono ?_; rintro e w2 ⟨rfl, hK2, hB2⟩; have HK2 := hidK hK2; have HB2 := hidK hB2; clear hK2 hB2))
        go_roundw
        case rel => exact ⟨k + 1, by omega, by go_num, HK2.out, HB.out.trans HB2.out⟩
        case measure => simp [intOf]; omega
      · have : k = n := by omega
        subst this
        go_wp2
        go_ret
        exact ⟨rfl, HB.out⟩
end
end Go.Proofs.Ythpjcmilfipbaaa
