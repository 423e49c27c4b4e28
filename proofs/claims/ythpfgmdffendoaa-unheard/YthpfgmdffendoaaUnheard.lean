/- My own text. Walk: Unheard. -/
import Derived.Test.YthpfgmdffendoaaBegun
import Derived.Test.YthpfgmdffendoaaArg
namespace Go.Proofs.Ythpfgmdffendoaa
set_option linter.unusedVariables false
set_option linter.unusedSimpArgs false
open Go.RowKit
theorem hid {p : Prop} (h : p) : Hid p := h
theorem Fr.cell {S : Nat → Prop} {w w' : World} (h : Fr S w w') (a : Addr) (hl : a.block < w.heap.size) (hs : ¬ S a.block) : w'.cell? a = w.cell? a :=
  World.cell?_of_block (h.block a.block hl hs)
def Box (N : Nat) (w : World) : Nat → Prop := fun q => N ≤ q ∧ q < w.heap.size
theorem box_next {N : Nat} {wr W w2 : World} {b : Nat} {c : Clu} {lv : Nat → Value} {ev uv : Value} {mv : List (Msg × Value)} (h : Rep w2 (Ext (Box N wr) W) b c lv ev uv mv) (hN : N ≤ W.heap.size) : Rep w2 (Box N w2) b c lv ev uv mv :=
  h.mono fun q hq e => by rcases e with e | e; exact ⟨e.1, hq⟩; exact ⟨Nat.le_trans hN e, hq⟩
theorem four {x : Int} (h0 : 0 ≤ x) (h4 : x < 4) : x = 0 ∨ x = 1 ∨ x = 2 ∨ x = 3 := by omega

set_option maxHeartbeats 6400000 in
set_option maxRecDepth 100000 in
theorem unheard_walk (w : World) (ao : Option Addr) (n cap : Nat) (x : Nat → Nat → Int) (hn : n ≤ 4000000000000) (hx : ∀ i j, Fits (x i j))
    (hs : 0 < n → ∃ sb so, ao = some ⟨sb, so, none⟩ ∧ sb < w.heap.size ∧ ∀ i j, i < n → j < 5 → w.cell? ⟨sb, so + i * 5 + j, none⟩ = some (.int .i64 (x i j))) :
    Calls Try.prog 4 #[.slice ao n cap] w fun e w' => e = .returned (.bool true) ∧ Below w.heap.size w w' := by
  have HS : Hid (0 < n → ∃ sb so, ao = some ⟨sb, so, none⟩ ∧ sb < w.heap.size ∧ ∀ i j, i < n → j < 5 → w.cell? ⟨sb, so + i * 5 + j, none⟩ = some (.int .i64 (x i j))) := hs
  have HX : Hid (∀ i j, Fits (x i j)) := hx
  clear hs hx
  go_enter Try.func4, Try.ntmps4
  go_wp2_with fail
  refine (begun_any w).mono ?_
  rintro e w1 ⟨rfl, ⟨lv1, ev1, uv1, mv1, hR1⟩, hB1⟩
  have HR1 : Hid (Rep w1 (Box w.heap.size w1) w.heap.size begunC lv1 ev1 uv1 mv1) := hR1.mono fun k hk e => ⟨e, hk⟩
  have HB1 : Hid (Below w.heap.size w w1) := hB1
  clear hR1 hB1
  go_wp2_with fail
  go_loopw [5] (fun t wr => ∃ k : Nat, k ≤ n ∧ t = .int .i64 k ∧ (∃ c lv ev uv mv, Deaf c ∧ Rep wr (Box w.heap.size wr) w.heap.size c lv ev uv mv) ∧ Below w.heap.size w wr) (fun t _ => n - (intOf t).toNat)
  case atStart => exact ⟨0, Nat.zero_le _, rfl, ⟨_, _, _, _, _, Deaf.begun, HR1.out⟩, HB1.out⟩
  case round =>
    obtain ⟨k, hk, rfl, ⟨c, lv, ev, uv, mv, hD, hR⟩, hB⟩ := hrel
    clear HR1 HB1
    have HD : Hid (Deaf c) := hD
    have HR : Hid (Rep wr (Box w.heap.size wr) w.heap.size c lv ev uv mv) := hR
    have HB : Hid (Below w.heap.size w wr) := hB
    have hsz := hB.size
    have hlt := hR.lt
    clear hD hR hB
    by_cases hkn : k < n
    · obtain ⟨sb, so, rfl, hsb, hcells⟩ := HS.out (by omega)
      have hc : ∀ j, j < 5 → wr.cell? ⟨sb, so + k * 5 + j, none⟩ = some (.int .i64 (x k j)) := fun j hj => (HB.out.cell hsb).trans (hcells k j hkn hj)
      have c0 := hc 0 (by omega); have c1 := hc 1 (by omega); have c2 := hc 2 (by omega); have c3 := hc 3 (by omega); have c4 := hc 4 (by omega)
      simp only [Nat.add_zero] at c0
      obtain ⟨a0, b0⟩ := HX.out k 0
      obtain ⟨a1, b1⟩ := HX.out k 1
      obtain ⟨a2, b2⟩ := HX.out k 2
      obtain ⟨a3, b3⟩ := HX.out k 3
      obtain ⟨a4, b4⟩ := HX.out k 4
      clear hc hcells
      generalize x k 0 = x0 at *
      generalize x k 1 = x1 at *
      generalize x k 2 = x2 at *
      generalize x k 3 = x3 at *
      generalize x k 4 = x4 at *
      have p1 := pickN_bd x1 50 (by omega)
      have p0 := pickN_bd x0 4 (by omega)
      have hsbr : sb < wr.heap.size := by omega
      rcases four p0.1 p0.2 with h4 | h4 | h4 | h4
      · go_wp2_with (first | (go_at_call 13; refine (pick_any _ _ (by omega) (by omega) (by omega) _).mono ?_; rintro e w' ⟨rfl, rfl⟩))
        refine wp_gen (fun W => W.heap.size = wr.heap.size + 1 ∧ Rep W (Box w.heap.size wr) w.heap.size c lv ev uv mv ∧ Below w.heap.size w W ∧ W.cell? ⟨wr.heap.size, 2, none⟩ = some (.int .i64 x2) ∧ W.cell? ⟨wr.heap.size, 3, none⟩ = some (.int .i64 x3) ∧ W.cell? ⟨wr.heap.size, 4, none⟩ = some (.int .i64 x4)) ?_ ?_
        · exact ⟨by simp, HR.out.alloc _, HB.out.alloc hsz _, by simp [go_sem], by simp [go_sem], by simp [go_sem]⟩
        rintro W ⟨hWs, hWR, hWB, d2, d3, d4⟩
        have HWR : Hid (Rep W (Box w.heap.size wr) w.heap.size c lv ev uv mv) := hWR
        have HWB : Hid (Below w.heap.size w W) := hWB
        have HWs : Hid (W.heap.size = wr.heap.size + 1) := hWs
        clear hWs hWR hWB HR HB c0 c1 c2 c3 c4
        have p2 := pickN_bd x2 4 (by omega)
        have p3 := pickN_bd x3 9 (by omega)
        have p4 := pickN_bd x4 256 (by omega)
        go_region_held3 (fun w' => w'.cell? ⟨wr.heap.size, 2, none⟩ = some (.int .i64 x2) ∧ w'.cell? ⟨wr.heap.size, 3, none⟩ = some (.int .i64 x3) ∧ w'.cell? ⟨wr.heap.size, 4, none⟩ = some (.int .i64 x4))
          (first
            | (go_keep; done)
            | exact ⟨(hFr2.out.cell ⟨wr.heap.size, 2, none⟩ (by show wr.heap.size < W.heap.size; rw [HWs.out]; omega) (fun e => Nat.lt_irrefl _ e.2)).trans d2, (hFr2.out.cell ⟨wr.heap.size, 3, none⟩ (by show wr.heap.size < W.heap.size; rw [HWs.out]; omega) (fun e => Nat.lt_irrefl _ e.2)).trans d3, (hFr2.out.cell ⟨wr.heap.size, 4, none⟩ (by show wr.heap.size < W.heap.size; rw [HWs.out]; omega) (fun e => Nat.lt_irrefl _ e.2)).trans d4⟩)
          (first
            | (go_at_call 13; refine (pick_any _ _ (by omega) (by omega) (by omega) _).mono ?_; rintro e w' ⟨rfl, rfl⟩)
            | (go_at_call 14; refine (produce_any HWR.out.drew HD.out.ok 0 _ _ _).mono ?_; rw [(HD.out.produce _ _ _).2]; rintro e w2 ⟨rfl, ⟨lv2, uv2, mv2, hR2⟩, hF2⟩; have hR2 := hid hR2; have hFr2 := hid hF2))
        all_goals
          have HN : Hid (∃ c lv ev uv mv, Deaf c ∧ Rep w2 (Box w.heap.size w2) w.heap.size c lv ev uv mv) := ⟨_, _, _, _, _, (HD.out.produce _ _ _).1, box_next hR2.out HWB.out.size⟩
          have HNB : Hid (Below w.heap.size w w2) := HWB.out.trans (Below.trans (Below.refl _ W).drew (hFr2.out.toBelow HWB.out.size fun q e => e.1))
          clear hR2 hFr2
          go_wp2
          go_roundw
          case rel => exact ⟨k + 1, by omega, by go_num, HN.out, HNB.out⟩
          case measure => simp [intOf]; omega
      · have p2 := pickN_bd x2 60 (by omega)
        have HF : Hid ((fetch c 0 (pickN x2 60)).2 = 9) := HD.out.fetch _ p2.1
        go_wp2_with (first | (go_at_call 13; refine (pick_any _ _ (by omega) (by omega) (by omega) _).mono ?_; rintro e w' ⟨rfl, rfl⟩))
        refine (fetch_any (HR.out.alloc _) HD.out.ok 0 _).mono ?_
        rw [HF.out]
        rintro e w2 ⟨rfl, hB2⟩
        have HN : Hid (∀ o, ∃ c lv ev uv mv, Deaf c ∧ Rep (w2.alloc o) (Box w.heap.size (w2.alloc o)) w.heap.size c lv ev uv mv) :=
          fun _ => ⟨_, _, _, _, _, HD.out, (((HR.out.alloc _).below hB2).alloc _).mono fun q hq e => ⟨e.1, hq⟩⟩
        have HNB : Hid (Below w.heap.size w w2) := (HB.out.alloc hsz _).trans (hB2.mono (by simp; omega))
        have hs2 : w.heap.size ≤ w2.heap.size := HNB.out.size
        clear hB2
        go_wp2
        go_roundw
        case rel => exact ⟨k + 1, by omega, by go_num, HN.out _, HNB.out.alloc hs2 _⟩
        case measure => simp [intOf]; omega
      · go_wp2_with (first | (go_at_call 13; refine (pick_any _ _ (by omega) (by omega) (by omega) _).mono ?_; rintro e w' ⟨rfl, rfl⟩))
        refine (drop_any (HR.out.alloc _) HD.out.ok _).mono ?_
        rintro e w2 ⟨rfl, ⟨uv2, mv2, hR2⟩, hF2⟩
        have HN : Hid (∃ c lv ev uv mv, Deaf c ∧ Rep w2 (Box w.heap.size w2) w.heap.size c lv ev uv mv) := ⟨_, _, _, _, _, HD.out.drop _, box_next hR2 (by simp; omega)⟩
        have HNB : Hid (Below w.heap.size w w2) := (HB.out.alloc hsz _).trans (hF2.toBelow (by simp; omega) fun q e => e.1)
        clear hR2 hF2
        go_wp2
        go_roundw
        case rel => exact ⟨k + 1, by omega, by go_num, HN.out, HNB.out⟩
        case measure => simp [intOf]; omega
      · go_wp2_with (first | (go_at_call 13; refine (pick_any _ _ (by omega) (by omega) (by omega) _).mono ?_; rintro e w' ⟨rfl, rfl⟩))
        refine (twice_any (HR.out.alloc _) HD.out.ok _).mono ?_
        rintro e w2 ⟨rfl, ⟨uv2, mv2, hR2⟩, hF2⟩
        have HN : Hid (∃ c lv ev uv mv, Deaf c ∧ Rep w2 (Box w.heap.size w2) w.heap.size c lv ev uv mv) := ⟨_, _, _, _, _, HD.out.twice _, box_next hR2 (by simp; omega)⟩
        have HNB : Hid (Below w.heap.size w w2) := (HB.out.alloc hsz _).trans (hF2.toBelow (by simp; omega) fun q e => e.1)
        clear hR2 hF2
        go_wp2
        go_roundw
        case rel => exact ⟨k + 1, by omega, by go_num, HN.out, HNB.out⟩
        case measure => simp [intOf]; omega
    · obtain ⟨u, e1, g1, l1, hseen, hl1⟩ := HD.out.seen
      have HSe : Hid (seen c 0 = (⟨u, e1, g1, 3, l1, 0⟩, 0)) := hseen
      clear hseen
      go_wp2_with fail
      refine (node_any HR.out HD.out.ok 0).mono ?_
      rw [HSe.out]
      rintro e w2 ⟨rfl, hB2⟩
      have HNB : Hid (Below w.heap.size w w2) := HB.out.trans (hB2.mono hsz)
      have hs2 : w.heap.size ≤ w2.heap.size := HNB.out.size
      clear hB2
      unfold Show.val
      go_wp2
      go_ret
      exact ⟨rfl, HNB.out.alloc hs2 _⟩
end Go.Proofs.Ythpfgmdffendoaa
