/- My own text: several texts in one. -/
import Derived.Test.YthpjcmilfipbaaaK5
namespace Go.Proofs.Ythpjcmilfipbaaa
set_option linter.unusedVariables false
set_option linter.unusedSimpArgs false
open Go.RowKit
def dBegun : Wd := (rProduce rNew 0 1 1 7).1
theorem begun_ans : (rProduce rNew 0 1 1 7).2 = (0, false, 0) := by decide
theorem begun_fetch : rFetch dBegun 0 0 = (⟨0, 0, 0⟩, 9) := by rfl
theorem begun_way : dBegun.way.length = 2 := by decide
theorem dBegun_inv : ∃ g, Inv dBegun g := by
  obtain ⟨g, h, _⟩ := Inv.new.produce 0 1 1 7
  exact ⟨g, h⟩
def dHeard : Nat → Wd
  | 0 => dBegun
  | n + 1 => (rDeliver (dHeard n) 0).1
def dFirst : Wd := (rProduce (dHeard 4) 0 1 1 8).1
theorem heard_ans : ∀ j, j < 4 → (rDeliver (dHeard j) 0).2 = 0 := by decide
theorem first_ans : (rProduce (dHeard 4) 0 1 1 8).2 = (0, true, 0) := by decide
theorem first_fetch : rFetch dFirst 0 0 = (⟨1, 1, 7⟩, 0) := by rfl
theorem dBegun_ok : ROk dBegun := ROk.new.produce 0 1 1 7
theorem dHeard_ok : ∀ n, ROk (dHeard n)
  | 0 => dBegun_ok
  | n + 1 => (dHeard_ok n).deliver 0
theorem dHeard_inv : ∀ n, ∃ g, Inv (dHeard n) g
  | 0 => dBegun_inv
  | n + 1 => by
    obtain ⟨g, h⟩ := dHeard_inv n
    obtain ⟨g', h', _⟩ := h.deliver (dHeard_ok n) 0
    exact ⟨g', h'⟩
theorem dFirst_inv : ∃ g, Inv dFirst g ∧ Told dFirst.eras g 0 ⟨1, 1, 7⟩ := by
  obtain ⟨g, h⟩ := dHeard_inv 4
  obtain ⟨g', h', _⟩ := h.produce 0 1 1 8
  refine ⟨g', h', ?_⟩
  have hf := Inv.fetched (d := dFirst) h' 0 0 (by rw [first_fetch])
  rw [first_fetch] at hf
  rcases hf with hf | hf
  · exact hf.1
  · exact absurd ((dHeard_ok 4).produce 0 1 1 8) hf
section
variable {R : World → (Nat → Prop) → Nat → Wd → Prop} {w w1 : World} {cb : Nat} {own : Nat → Prop} {d : Wd}
theorem old_below {n : Nat} (hn : n ≤ w.heap.size) (h : Fr (fun k => ¬ k < n) w w1) : Below n w w1 :=
  ⟨h.os, h.tape, h.output, h.size, fun k hk => h.block k (Nat.lt_of_lt_of_le hk hn) fun e => e hk⟩
set_option maxHeartbeats 1600000 in
theorem kbegun_any (s : Side R fnPrg 41 36) (w : World) :
    Calls Try.prog 16 #[] w fun e w' => ∃ b, e = .returned (.tuple #[.pointer (some ⟨b, 0, none⟩), .bool true]) ∧ One R w' (fun k => k < w.heap.size) b dBegun ∧ Below w.heap.size w w' := by
  have HS := hidK s
  clear s
  go_enter Try.func16, Try.ntmps16
  go_wp2_with fail
  refine (One.new HS.out w).mono ?_
  rintro e w1 ⟨b, rfl, h1, hB1⟩
  have HB1 := hidK hB1
  have HC := hidK (h1.call HS.out (.produce 0 1 1 7) ⟨⟨by omega, by omega⟩, ⟨by omega, by omega⟩, ⟨by omega, by omega⟩, ⟨by omega, by omega⟩⟩)
  clear h1 hB1
  have e1 : (Cl.produce 0 1 1 7).ans rNew = .tuple #[.int .i64 0, .bool false, .int .i64 0] := rfl
  rw [e1] at HC
  clear e1
  go_wp2_with fail
  refine HC.out.mono ?_
  rintro e w2 ⟨rfl, h2, hF2⟩
  have HB2 := hidK (HB1.out.trans (old_below HB1.out.size hF2))
  have HC2 := hidK (h2.call HS.out (.fetch 0 0) ⟨⟨by omega, by omega⟩, ⟨by omega, by omega⟩⟩)
  have e2 : (Cl.fetch 0 0).ans ((Cl.produce 0 1 1 7).next rNew) = .tuple #[.agg #[.int .i64 0, .int .i64 0, .int .i64 0], .int .i64 9] := rfl
  rw [e2] at HC2
  clear e2 h2 hF2
  go_wp2_with fail
  refine HC2.out.mono ?_
  rintro e w3 ⟨rfl, h3, hF3⟩
  have HB3 := hidK (HB2.out.trans (old_below HB2.out.size hF3))
  have H3 : Hid (One R w3 (fun k => k < w.heap.size) b dBegun) := h3
  have HBA := hidK ((Below.refl w3.heap.size w3).alloc (Nat.le_refl _) (.cells #[.int .i64 0, .int .i64 0, .int .i64 0] 36))
  have H4 := hidK (H3.out.quiet HS.out HBA.out)
  have HM := hidK (H4.out.msgs HS.out)
  rw [begun_way] at HM
  clear h3 hF3 HC HC2
  go_wp2_with fail
  refine HM.out.mono ?_
  rintro e w4 ⟨v, rfl, hv, hB4⟩
  obtain ⟨ao, cap, rfl, _⟩ := ownsRow_shape hv
  have H5 := hidK (H4.out.quiet HS.out hB4)
  have hs3 : w.heap.size ≤ w3.heap.size := HB3.out.size
  have HB5 := hidK ((HB3.out.trans (HBA.out.mono hs3)).trans (hB4.mono (by simp; omega)))
  clear hv hB4 HM
  go_wp2
  exact bodyPost_ret (v := .tuple #[.pointer (some ⟨b, 0, none⟩), .bool true]) (by simp [results, Try.results16, go_sem, *]) rfl ⟨_, rfl, H5.out, HB5.out⟩
set_option maxHeartbeats 1600000 in
theorem kfirst_any (s : Side R fnPrg 41 36) (h : One R w own cb dBegun) :
    Calls Try.prog 23 #[.pointer (some ⟨cb, 0, none⟩)] w fun e w' => e = .returned (.bool true) ∧ One R w' own cb dFirst ∧ Fr (fun k => ¬ own k) w w' := by
  have HS := hidK s
  have H := hidK h
  clear s h
  go_enter Try.func23, Try.ntmps23
  go_wp2_with fail
  go_loopw [3] (fun t wr => ∃ j : Nat, j ≤ 4 ∧ t = .int .i64 j ∧ One R wr own cb (dHeard j) ∧ Fr (fun k => ¬ own k) w wr) (fun t _ => 4 - (intOf t).toNat)
  case atStart => exact ⟨0, Nat.zero_le _, rfl, H.out, Fr.refl _ _⟩
  case round =>
    obtain ⟨j, hj4, rfl, hO, hF⟩ := hrel
    have HO := hidK hO
    have HF := hidK hF
    clear hO hF
    by_cases hj : j < 4
    · have HC := hidK (HO.out.call HS.out (.deliver 0) ⟨by omega, by omega⟩)
      have e1 : (Cl.deliver 0).ans (dHeard j) = .int .i64 0 := by show Value.int .i64 (rDeliver (dHeard j) 0).2 = _; rw [heard_ans j hj]
      rw [e1] at HC
      clear e1
      have hji : (j : Int) < 4 := by omega
      go_wp2_with (first | (go_at_call 52; refine HC.out.mono ?_; rintro e w2 ⟨rfl, h2, hF2⟩; have H2 := hidK h2; have HF2 := hidK hF2; clear h2 hF2))
      go_roundw
      case rel => exact ⟨j + 1, by omega, by go_num, H2.out, HF.out.then HF2.out⟩
      case measure => simp [intOf]; omega
    · have : j = 4 := by omega
      subst this
      have HC := hidK (HO.out.call HS.out (.produce 0 1 1 8) ⟨⟨by omega, by omega⟩, ⟨by omega, by omega⟩, ⟨by omega, by omega⟩, ⟨by omega, by omega⟩⟩)
      have e1 : (Cl.produce 0 1 1 8).ans (dHeard 4) = .tuple #[.int .i64 0, .bool true, .int .i64 0] := by
        show Value.tuple #[.int .i64 (rProduce (dHeard 4) 0 1 1 8).2.1, .bool (rProduce (dHeard 4) 0 1 1 8).2.2.1, .int .i64 (rProduce (dHeard 4) 0 1 1 8).2.2.2] = _
        rw [first_ans]
      rw [e1] at HC
      clear e1
      go_wp2_with fail
      refine HC.out.mono ?_
      rintro e w2 ⟨rfl, h2, hF2⟩
      have H2 : Hid (One R w2 own cb dFirst) := h2
      have HF2 := hidK hF2
      have HC2 := hidK (H2.out.call HS.out (.fetch 0 0) ⟨⟨by omega, by omega⟩, ⟨by omega, by omega⟩⟩)
      have e2 : (Cl.fetch 0 0).ans dFirst = .tuple #[.agg #[.int .i64 1, .int .i64 1, .int .i64 7], .int .i64 0] := by
        show Value.tuple #[recVal (rFetch dFirst 0 0).1, .int .i64 (rFetch dFirst 0 0).2] = _
        rw [first_fetch]; rfl
      rw [e2] at HC2
      clear e2 h2 hF2 HC
      go_wp2_with (first | (go_at_call 19; refine HC2.out.mono ?_; rintro e w3 ⟨rfl, h3, hF3⟩; have H3 : Hid (One R w3 own cb dFirst) := h3; have HF3 := hidK hF3; clear h3 hF3))
      go_ret
      exact ⟨ret_boolR (by simp), H3.out.quiet HS.out ((Below.refl _ _).alloc (Nat.le_refl _) _), ((HF.out.then HF2.out).then HF3.out).then (Fr.alloc _ _ _)⟩
end
end Go.Proofs.Ythpjcmilfipbaaa
