/- My own text: several texts in one. -/
import Derived.Test.YthpjcmilfipbaaaG1
import Derived.Test.YthpjcmilfipbaaaG4
namespace Go.Proofs.Ythpjcmilfipbaaa
set_option linter.unusedVariables false
set_option linter.unusedSimpArgs false
open Go.RowKit
theorem dlvN_succ (n : Nat) (d : Wd) : dlvN (n + 1) d = dlv (dlvN n d) := by rw [dlvN_add n 1 d]; rfl
section
variable {R : World → (Nat → Prop) → Nat → Wd → Prop} {fn : Cl → Nat} {fm fw : Nat} {w w1 : World} {own : Nat → Prop} {cb bb : Nat} {d : Wd} {tb : Nat → Rec}
set_option maxHeartbeats 3200000 in
theorem kstill_any (s : Side R fnPrg 41 36) (h : Kg R own cb bb d tb w) :
    Calls Try.prog 28 #[.pointer (some ⟨cb, 0, none⟩)] w fun e w' => e = .returned (.bool true) ∧ Kg R own cb bb (dropN 50 (upN 5 d)) tb w' ∧ Fr (MayTurn own bb) w w' := by
  have HS := hidK s
  have H := hidK h
  clear s h
  go_enter Try.func28, Try.ntmps28
  go_wp2_with fail
  go_loopw [3] (fun t wr => ∃ j : Nat, j ≤ 5 ∧ t = .int .i64 j ∧ Kg R own cb bb (upN j d) tb wr ∧ Fr (MayTurn own bb) w wr) (fun t _ => 5 - (intOf t).toNat)
  case atStart => exact ⟨0, Nat.zero_le _, rfl, H.out, Fr.refl _ _⟩
  case round =>
    obtain ⟨j, hj5, rfl, hK, hF⟩ := hrel
    have HK := hidK hK
    have HF := hidK hF
    clear hK hF
    by_cases hj : j < 5
    · have HC := hidK (HK.out.call HS.out (.restart j) ⟨by omega, by omega⟩)
      have hz := restart_ans (upN j d) j hj
      have e1 : (Cl.restart j).ans (upN j d) = .int .i64 (rRestart (upN j d) j).2 := rfl
      rw [e1] at HC
      clear e1
      generalize (rRestart (upN j d) (j : Int)).2 = z at *
      rcases hz with rfl | rfl
      · go_wp2_with (first | (go_at_call 55; refine HC.out.mono ?_; rintro e w2 ⟨rfl, hK2, hF2⟩; have HK2 := hidK hK2; have HF2 := hidK hF2; clear hK2 hF2))
        go_roundw
        case rel => exact ⟨j + 1, by omega, by go_num, HK2.out, HF.out.then HF2.out⟩
        case measure => simp [intOf]; omega
      · go_wp2_with (first | (go_at_call 55; refine HC.out.mono ?_; rintro e w2 ⟨rfl, hK2, hF2⟩; have HK2 := hidK hK2; have HF2 := hidK hF2; clear hK2 hF2))
        go_roundw
        case rel => exact ⟨j + 1, by omega, by go_num, HK2.out, HF.out.then HF2.out⟩
        case measure => simp [intOf]; omega
    · have : j = 5 := by omega
      subst this
      go_wp2_with fail
      go_loopw [5] (fun t wr => ∃ j : Nat, j ≤ 50 ∧ t = .int .i64 j ∧ Kg R own cb bb (dropN j (upN 5 d)) tb wr ∧ Fr (MayTurn own bb) w wr) (fun t _ => 50 - (intOf t).toNat)
      case atStart => exact ⟨0, Nat.zero_le _, rfl, HK.out, HF.out⟩
      case round =>
        obtain ⟨j, hj50, rfl, hK, hF⟩ := hrel
        clear HK HF
        have HK := hidK hK
        have HF := hidK hF
        clear hK hF
        by_cases hj : j < 50
        · have HC := hidK (HK.out.call HS.out (.drop 0) ⟨by omega, by omega⟩)
          have e1 : (Cl.drop 0).ans (dropN j (upN 5 d)) = .int .i64 (rDrop (dropN j (upN 5 d)) 0).2 := rfl
          rw [e1] at HC
          clear e1
          generalize (rDrop (dropN j (upN 5 d)) 0).2 = z at HC
          go_wp2_with (first | (go_at_call 20; refine HC.out.mono ?_; rintro e w2 ⟨rfl, hK2, hF2⟩; have HK2 := hidK hK2; have HF2 := hidK hF2; clear hK2 hF2))
          go_roundw
          case rel =>
            refine ⟨_, _, _, _, _, _, _, ?_, rfl⟩
            exact ⟨j + 1, by omega, by go_num, HK2.out, HF.out.then HF2.out⟩
          case measure => simp [intOf]; omega
        · have : j = 50 := by omega
          subst this
          have HM := hidK (HK.out.one.msgs HS.out)
          have hok5 : ROk (dropN 50 (upN 5 d)) := HK.out.one.ok
          have hz : (dropN 50 (upN 5 d)).way = [] := by
            rw [(dropN_way 50 (upN 5 d)).1, (upN_up 5 d (Nat.le_refl _)).2.1]
            exact List.drop_of_length_le H.out.one.ok.way
          rw [hz] at HM
          clear hz hok5
          go_wp2_with fail
          refine HM.out.mono ?_
          rintro e w2 ⟨v, rfl, hv, hB⟩
          obtain ⟨ao, cap, rfl, _⟩ := ownsRow_shape hv
          have HK2 := hidK (HK.out.quiet HS.out hB)
          have HF2 := hidK (HF.out.then (Fr.below hB))
          clear hv hB HM
          go_wp2_with fail
          go_ret
          exact ⟨ret_boolR (by simp), HK2.out, HF2.out⟩
set_option maxHeartbeats 3200000 in
theorem ksettled_any (s : Side R fnPrg 41 36) (h : Kg R own cb bb d tb w) (n : Nat) (hn : n ≤ 100) (hz : (dlvN n d).way = []) :
    Calls Try.prog 30 #[.pointer (some ⟨cb, 0, none⟩)] w fun e w' => e = .returned (.bool true) ∧ Kg R own cb bb (dlvN n d) tb w' ∧ Fr (MayTurn own bb) w w' := by
  obtain ⟨m, m1, m2, m3, m4⟩ := settle_first n d hz
  have HS := hidK s
  have H := hidK h
  have HM2 := hidK m2
  have HM3 := hidK m3
  have HM4 := hidK m4
  have hm100 : m ≤ 100 := by omega
  clear s h m2 m3 m4 hz m1 hn
  go_enter Try.func30, Try.ntmps30
  go_wp2_with fail
  go_loopw [3] (fun t wr => ∃ j : Nat, j ≤ m ∧ t = .int .i64 j ∧ Kg R own cb bb (dlvN j d) tb wr ∧ Fr (MayTurn own bb) w wr) (fun t _ => m - (intOf t).toNat)
  case atStart => exact ⟨0, Nat.zero_le _, rfl, H.out, Fr.refl _ _⟩
  case round =>
    obtain ⟨j, hjm, rfl, hK, hF⟩ := hrel
    have HK := hidK hK
    have HF := hidK hF
    clear hK hF
    have HM := hidK (HK.out.one.msgs HS.out)
    have hji : (j : Int) < 200 := by omega
    by_cases hj : j < m
    · have hne := HM3.out j hj
      have hlen : 0 < (dlvN j d).way.length := List.length_pos_iff.2 hne
      have hl50 := HK.out.one.ok.way
      have hans := dlv_ok hne
      clear hne
      go_wp2_with fail
      refine HM.out.mono ?_
      rintro e w2 ⟨v, rfl, hv, hB⟩
      obtain ⟨ao, cap, rfl, _⟩ := ownsRow_shape hv
      have HK2 := hidK (HK.out.quiet HS.out hB)
      have HF2 := hidK (HF.out.then (Fr.below hB))
      have HC := hidK (HK2.out.call HS.out (.deliver 0) ⟨by omega, by omega⟩)
      have e1 : (Cl.deliver 0).ans (dlvN j d) = .int .i64 0 := by show Value.int .i64 (rDeliver (dlvN j d) 0).2 = _; rw [hans]
      rw [e1] at HC
      clear hv hB HM e1 hans
      generalize (dlvN j d).way.length = ln at *
      have hlb : ((ln : Int) == 0) = false := by simp; omega
      go_wp2_with (first | (go_at_call 52; refine HC.out.mono ?_; rintro e w3 ⟨rfl, hK3, hF3⟩; have HK3 := hidK hK3; have HF3 := hidK hF3; clear hK3 hF3))
      go_roundw
      case rel => exact ⟨j + 1, by omega, by go_num, by rw [dlvN_succ]; exact HK3.out, HF2.out.then HF3.out⟩
      case measure => simp [intOf]; omega
    · have : j = m := by omega
      subst this
      rw [HM2.out] at HM
      go_wp2_with fail
      refine HM.out.mono ?_
      rintro e w2 ⟨v, rfl, hv, hB⟩
      obtain ⟨ao, cap, rfl, _⟩ := ownsRow_shape hv
      have HK2 := hidK (HK.out.quiet HS.out hB)
      have HF2 := hidK (HF.out.then (Fr.below hB))
      clear hv hB HM
      go_wp2_with fail
      go_ret
      exact ⟨rfl, by rw [← HM4.out]; exact HK2.out, HF2.out⟩
end
end Go.Proofs.Ythpjcmilfipbaaa
