/- My own text: several texts in one. -/
import Derived.Test.YthpjcmilfipbaaaP2
import Derived.Deep.RegionHeld3
import Derived.Deep.QuietTactic
import Derived.BigQuiet
import Derived.BigRegion
namespace Go.Proofs.Ythpjcmilfipbaaa
set_option linter.unusedVariables false
set_option linter.unusedSimpArgs false
open Go.RowKit
theorem wp_genP {P : Program} {c : Code} {Q : Exit → Act → World → Prop} {a : Act} {w : World} (F : World → Prop) (hF : F w) (h : ∀ W, F W → c.wp P Q a W) : c.wp P Q a w := h w hF
theorem hidP {p : Prop} (h : p) : Hid p := h
section
variable {w : World} {S : Nat → Prop} {b : Nat} {c : Clu} {lv : Nat → Value} {ev uv : Value} {mv : List (Msg × Value)}
set_option maxHeartbeats 3200000 in
set_option maxRecDepth 100000 in
theorem goDown_any (h : Rep w S b c lv ev uv mv) (k : Nat) (hk : k < 5) :
    Calls Try.prog 71 #[.pointer (some ⟨b, 0, none⟩), .int .i64 k] w fun e w' =>
      e = .returned (.tuple #[]) ∧ Rep w' S b { c with nodes := upd c.nodes k (downNd (c.nodes k)) } lv ev uv mv ∧ Fr S w w' := by
  obtain ⟨u0, u1, u2, u3, u4⟩ := h.node k hk
  obtain ⟨u5, u6, u7, u8, u9⟩ := h.nodeHas k hk
  obtain ⟨u10, u11, u12, u13, u14⟩ := h.nodeKno k hk
  obtain ⟨ao, cap, hlv, hcap, _, hpos⟩ := ownsRow_shape (h.logs k hk)
  rw [hlv] at u4
  have hb := h.lt
  have H := hidP h
  have HL := hidP hlv
  have hk0 : (0 : Int) ≤ (k : Int) := by omega
  have hk1 : (k : Int) < 5 := by omega
  have nb : ¬ b = w.heap.size := by omega
  clear h hlv hpos hcap
  go_enter Try.func71, Try.ntmps71
  go_wp2_with fail
  refine wp_genP (fun W => Rep W S b c lv ev uv mv ∧ Below w.heap.size w W ∧ W.heap[w.heap.size]? = some (.cells (ndRow (c.nodes k) (.slice ao (c.nodes k).log.length cap)).toArray 89)) ⟨H.out.alloc _, (Below.refl _ _).alloc (Nat.le_refl _) _, heap_alloc_new w _⟩ ?_
  rintro W ⟨hW1, hW2, hW3⟩
  have n1 : W.cell? ⟨w.heap.size, 1, none⟩ = some (.int .i64 (c.nodes k).follows) := (cell_of_row _ _ _ _ _ _ hW3).trans rfl
  have n2 : W.cell? ⟨w.heap.size, 2, none⟩ = some (.int .i64 (c.nodes k).given) := (cell_of_row _ _ _ _ _ _ hW3).trans rfl
  have n4 : W.cell? ⟨w.heap.size, 4, none⟩ = some (.slice ao (c.nodes k).log.length cap) := (cell_of_row _ _ _ _ _ _ hW3).trans rfl
  clear u0 u1 u2 u3 u4 u5 u6 u7 u8 u9 u10 u11 u12 u13 u14
  obtain ⟨u0, u1, u2, u3, u4⟩ := hW1.node k hk
  obtain ⟨u5, u6, u7, u8, u9⟩ := hW1.nodeHas k hk
  obtain ⟨u10, u11, u12, u13, u14⟩ := hW1.nodeKno k hk
  have z := fun o => hW1.free (k * 15 + o)
  have z0 := z 0; have z1 := z 1; have z2 := z 2; have z3 := z 3; have z4 := z 4; have z5 := z 5; have z6 := z 6; have z7 := z 7; have z8 := z 8; have z9 := z 9
  have z10 := z 10; have z11 := z 11; have z12 := z 12; have z13 := z 13; have z14 := z 14
  rw [Nat.add_zero] at z0
  rw [HL.out] at u4
  have HD := hidP (hW1.putNode k hk (downNd (c.nodes k)) rfl)
  rw [HL.out] at HD
  have HW2 := hidP hW2
  clear hW1 hW2 hW3 z
  go_region
  exact bodyPost_end (results_none rfl _ _ _) rfl ⟨rfl, HD.out.1.drew, (Fr.below HW2.out).then (HD.out.2.then (Fr.drew _ _))⟩
set_option maxHeartbeats 3200000 in
set_option maxRecDepth 100000 in
theorem follow_any (h : Rep w S b c lv ev uv mv) (k : Nat) (hk : k < 5) (ep role : Int) :
    Calls Try.prog 103 #[.pointer (some ⟨b, 0, none⟩), .int .i64 k, .int .i64 ep, .int .i64 role] w fun e w' =>
      e = .returned (.tuple #[]) ∧ Rep w' S b (follow c k ep role) lv ev uv mv ∧ Fr S w w' := by
  obtain ⟨u0, u1, u2, u3, u4⟩ := h.node k hk
  obtain ⟨u5, u6, u7, u8, u9⟩ := h.nodeHas k hk
  obtain ⟨u10, u11, u12, u13, u14⟩ := h.nodeKno k hk
  obtain ⟨ao, cap, hlv, hcap, _, hpos⟩ := ownsRow_shape (h.logs k hk)
  rw [hlv] at u4
  have hb := h.lt
  have H := hidP h
  have HL := hidP hlv
  have hk0 : (0 : Int) ≤ (k : Int) := by omega
  have hk1 : (k : Int) < 5 := by omega
  have nb : ¬ b = w.heap.size := by omega
  clear h hlv hpos hcap
  go_enter Try.func103, Try.ntmps103
  go_wp2_with fail
  refine wp_genP (fun W => Rep W S b c lv ev uv mv ∧ Below w.heap.size w W ∧ W.heap[w.heap.size]? = some (.cells (ndRow (c.nodes k) (.slice ao (c.nodes k).log.length cap)).toArray 89)) ⟨H.out.alloc _, (Below.refl _ _).alloc (Nat.le_refl _) _, heap_alloc_new w _⟩ ?_
  rintro W ⟨hW1, hW2, hW3⟩
  have n0 : W.cell? ⟨w.heap.size, 0, none⟩ = some (.bool (c.nodes k).up) := (cell_of_row _ _ _ _ _ _ hW3).trans rfl
  have n2 : W.cell? ⟨w.heap.size, 2, none⟩ = some (.int .i64 (c.nodes k).given) := (cell_of_row _ _ _ _ _ _ hW3).trans rfl
  have n4 : W.cell? ⟨w.heap.size, 4, none⟩ = some (.slice ao (c.nodes k).log.length cap) := (cell_of_row _ _ _ _ _ _ hW3).trans rfl
  clear u0 u1 u2 u3 u4 u5 u6 u7 u8 u9 u10 u11 u12 u13 u14
  obtain ⟨u0, u1, u2, u3, u4⟩ := hW1.node k hk
  obtain ⟨u5, u6, u7, u8, u9⟩ := hW1.nodeHas k hk
  obtain ⟨u10, u11, u12, u13, u14⟩ := hW1.nodeKno k hk
  have z := fun o => hW1.free (k * 15 + o)
  have z0 := z 0; have z1 := z 1; have z2 := z 2; have z3 := z 3; have z4 := z 4; have z5 := z 5; have z6 := z 6; have z7 := z 7; have z8 := z 8; have z9 := z 9
  have z10 := z 10; have z11 := z 11; have z12 := z 12; have z13 := z 13; have z14 := z 14
  rw [Nat.add_zero] at z0
  rw [HL.out] at u4
  have HD := hidP (hW1.putNode k hk (followNd (c.nodes k) ep role) rfl)
  rw [HL.out] at HD
  have HW2 := hidP hW2
  clear hW1 hW2 hW3 z
  go_region
  exact bodyPost_end (results_none rfl _ _ _) rfl ⟨rfl, HD.out.1.drew, (Fr.below HW2.out).then (HD.out.2.then (Fr.drew _ _))⟩
set_option maxHeartbeats 1600000 in
theorem crash_any (h : Rep w S b c lv ev uv mv) (node : Int) :
    Calls Try.prog 54 #[.pointer (some ⟨b, 0, none⟩), .int .i64 node] w fun e w' =>
      e = .returned (.int .i64 (crash c node).2) ∧ Rep w' S b (crash c node).1 lv ev uv mv ∧ Fr S w w' := by
  have H := hidP h
  by_cases hr : refNode c node = 0
  · obtain ⟨k, rfl, hk, hup⟩ := refNode_zero hr
    have HF := hidP (show crash c k = ({ c with nodes := upd c.nodes k (downNd (c.nodes k)) }, 0) by unfold crash; rw [if_pos hr]; rfl)
    have HR := hidP hr
    clear h hr hup
    go_enter Try.func54, Try.ntmps54
    go_wp2_with (first | (go_at_call 47; refine (refNode_any H.out _).mono ?_; rw [HR.out]; rintro e w' ⟨rfl, hw1⟩; rw [hw1]; clear hw1) | (go_at_call 71; refine (goDown_any H.out k hk).mono ?_; rintro e w2 ⟨rfl, hR2, hF2⟩; have HR2 := hidP hR2; have HF2 := hidP hF2; clear hR2 hF2))
    go_ret
    rw [HF.out]
    exact ⟨rfl, HR2.out, HF2.out⟩
  · have HF := hidP (show crash c node = (c, refNode c node) by unfold crash; rw [if_neg hr])
    have hr' : (refNode c node != 0) = true := by simp [hr]
    clear h hr
    go_enter Try.func54, Try.ntmps54
    go_wp2_with (first | (go_at_call 47; refine (refNode_any H.out _).mono ?_; rintro e w' ⟨rfl, hw1⟩; rw [hw1]; clear hw1))
    go_ret
    rw [HF.out]
    exact ⟨rfl, H.out, Fr.refl _ _⟩
set_option maxHeartbeats 1600000 in
theorem restart_any (h : Rep w S b c lv ev uv mv) (node : Int) :
    Calls Try.prog 55 #[.pointer (some ⟨b, 0, none⟩), .int .i64 node] w fun e w' =>
      e = .returned (.int .i64 (restart c node).2) ∧ Rep w' S b (restart c node).1 lv ev uv mv ∧ Fr S w w' := by
  have H := hidP h
  by_cases hn : 0 ≤ node ∧ node < 5
  · obtain ⟨h0, h5⟩ := hn
    obtain ⟨k, rfl⟩ := Int.eq_ofNat_of_zero_le h0
    have hk : k < 5 := by omega
    have hnb : nodeB (k : Int) = true := by simp [nodeB]; omega
    have u0 := h.cUp k hk
    have z0 := h.free (k * 15)
    have hb := h.lt
    cases hup : (c.nodes k).up
    · rw [hup] at u0
      have HF := hidP (show restart c k = ({ c with nodes := upd c.nodes k { c.nodes k with up := true } }, 0) by unfold restart; rw [if_pos hnb]; show (if (c.nodes k).up = true then _ else _) = _; rw [hup]; rfl)
      have HS := hidP (h.setUp k hk true)
      clear h hup
      go_enter Try.func55, Try.ntmps55
      go_wp2_with (first | (go_at_call 51; refine (isNode_any _ _).mono ?_; rintro e w' ⟨rfl, hw1⟩; rw [hw1]; clear hw1))
      go_ret
      rw [HF.out]
      exact ⟨rfl, HS.out.1, HS.out.2⟩
    · rw [hup] at u0
      have HF := hidP (show restart c k = (c, 4) by unfold restart; rw [if_pos hnb]; show (if (c.nodes k).up = true then _ else _) = _; rw [hup]; rfl)
      clear h hup
      go_enter Try.func55, Try.ntmps55
      go_wp2_with (first | (go_at_call 51; refine (isNode_any _ _).mono ?_; rintro e w' ⟨rfl, hw1⟩; rw [hw1]; clear hw1))
      go_ret
      rw [HF.out]
      exact ⟨rfl, H.out, Fr.refl _ _⟩
  · have hnb : nodeB node = false := by simp [nodeB]; omega
    have HF := hidP (show restart c node = (c, 2) by unfold restart; rw [if_neg (by rw [hnb]; decide)])
    clear h hn
    go_enter Try.func55, Try.ntmps55
    go_wp2_with (first | (go_at_call 51; refine (isNode_any _ _).mono ?_; rintro e w' ⟨rfl, hw1⟩; rw [hw1]; clear hw1))
    go_ret
    rw [HF.out]
    exact ⟨rfl, H.out, Fr.refl _ _⟩
end
end Go.Proofs.Ythpjcmilfipbaaa
