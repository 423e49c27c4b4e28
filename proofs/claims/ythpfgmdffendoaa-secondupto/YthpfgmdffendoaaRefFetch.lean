/- My own text. Walks of package ledgerref: Fetch, Node. -/
import Derived.Test.YthpfgmdffendoaaRefProduce
namespace Go.Proofs.Ythpfgmdffendoaa
set_option linter.unusedVariables false
set_option linter.unusedSimpArgs false
open Go.RowKit
theorem rDone_bd (d : Wd) (k : Nat) : rDone d k ≤ (d.mem k).log.length := by
  have : ∀ j, rDoneTo d k j ≤ (d.mem k).log.length := by
    intro j
    induction j with
    | zero => exact Int.le_refl _
    | succ j ih =>
      unfold rDoneTo
      split
      · rename_i h; omega
      · exact ih
  unfold rDone
  split
  · exact this 5
  · omega
section
variable {w : World} {S : Nat → Prop} {b : Nat} {d : Wd} {ev uv : Value}

set_option maxHeartbeats 1600000 in
theorem rfetch_nil (node off : Int) (w : World) :
    Calls Try.prog 48 #[.pointer none, .int .i64 node, .int .i64 off] w fun e w' =>
      e = .returned (.tuple #[.agg #[.int .i64 0, .int .i64 0, .int .i64 0], .int .i64 1]) ∧ Below w.heap.size w w' := by
  go_enter Try.func48, Try.ntmps48
  go_wp2_with (first | (go_at_call 58; refine (rref_nil _ _ _).mono ?_; rintro e w1 ⟨rfl, hw1⟩; rw [hw1]; clear hw1))
  exact bodyPost_ret (v := .tuple #[.agg #[.int .i64 0, .int .i64 0, .int .i64 0], .int .i64 1]) (by simp [results, Try.results48, go_sem]) rfl ⟨rfl, (Below.refl _ _).alloc (Nat.le_refl _) _⟩

set_option maxHeartbeats 3200000 in
set_option maxRecDepth 100000 in
theorem rfetch_any (h : RRep w S b d ev uv) (hok : ROk d) (node off : Int) :
    Calls Try.prog 48 #[.pointer (some ⟨b, 0, none⟩), .int .i64 node, .int .i64 off] w fun e w' =>
      e = .returned (.tuple #[.agg #[.int .i64 (rFetch d node off).1.p, .int .i64 (rFetch d node off).1.s, .int .i64 (rFetch d node off).1.v], .int .i64 (rFetch d node off).2]) ∧ Below w.heap.size w w' := by
  have H : Hid (RRep w S b d ev uv) := h
  have HO : Hid (ROk d) := hok
  have hbw := h.lt
  by_cases hr : rRef d node true = 0
  rotate_left
  · have HF : Hid (rFetch d node off = (⟨0, 0, 0⟩, rRef d node true)) := by show rFetch d node off = _; simp [rFetch, hr]
    have hb : (rRef d node true != 0) = true := by simp [hr]
    clear h hok hr
    go_enter Try.func48, Try.ntmps48
    go_wp2_with (first | (go_at_call 58; refine (rref_any (H.out.alloc _) _ _).mono ?_; rintro e w1 ⟨rfl, hw1⟩; rw [hw1]; clear hw1))
    exact bodyPost_ret (v := .tuple #[.agg #[.int .i64 0, .int .i64 0, .int .i64 0], .int .i64 (rRef d node true)]) (by simp [results, Try.results48, go_sem]) rfl ⟨by rw [HF.out], (Below.refl _ _).alloc (Nat.le_refl _) _⟩
  obtain ⟨k, rfl, hk, _⟩ := rRef_zero hr
  have hb : (rRef d (k : Int) true != 0) = false := by simp [hr]
  have hro := h.cRol k hk
  have hl := h.cLog k hk
  have hlen := hok.log k hk
  have hby := hok.byt k hk
  have HBy : Hid (∀ r ∈ (d.mem k).log, recOk r) := hby
  have HW : Hid (rRef d (k : Int) true = 0) := hr
  have hdb := rDone_bd d k
  clear h hok hr hby
  have HFs : Hid (rFetch d k off = if (d.mem k).role ≠ 3 then (⟨0, 0, 0⟩, 6) else if off < 0 then (⟨0, 0, 0⟩, 5) else if rDone d k ≤ off then (⟨0, 0, 0⟩, 9) else ((d.mem k).log.getD off.toNat ⟨0, 0, 0⟩, 0)) := by
    show rFetch d k off = _
    rw [rFetch]; simp [HW.out]
  go_enter Try.func48, Try.ntmps48
  go_wp2_with (first | (go_at_call 58; refine (rref_any (H.out.alloc _) _ _).mono ?_; rintro e w1 ⟨rfl, hw1⟩; rw [hw1]; clear hw1))
  refine (rdone_any (H.out.alloc _) HO.out k hk).mono ?_
  rintro e w2 ⟨rfl, hBd⟩
  have hRw : RRep w2 S b d ev uv := (H.out.alloc _).below hBd
  have hro2 := hRw.cRol k hk
  have hl2 := hRw.cLog k hk
  have hz : w2.heap[w.heap.size]? = some (.cells #[.int .i64 0, .int .i64 0, .int .i64 0] 36) := (hBd.block _ (by simp)).trans (heap_alloc_new w _)
  have z0 : w2.cell? ⟨w.heap.size, 0, none⟩ = some (.int .i64 0) := (cell_of_row _ _ _ _ _ _ hz).trans rfl
  have z1 : w2.cell? ⟨w.heap.size, 1, none⟩ = some (.int .i64 0) := (cell_of_row _ _ _ _ _ _ hz).trans rfl
  have z2 : w2.cell? ⟨w.heap.size, 2, none⟩ = some (.int .i64 0) := (cell_of_row _ _ _ _ _ _ hz).trans rfl
  have y0 : w2.frozen? ⟨w.heap.size, 0, none⟩ = false := by simp [World.frozen?, hz]
  have y1 : w2.frozen? ⟨w.heap.size, 1, none⟩ = false := by simp [World.frozen?, hz]
  have y2 : w2.frozen? ⟨w.heap.size, 2, none⟩ = false := by simp [World.frozen?, hz]
  have HB2 : Hid (Below w.heap.size w w2) := ((Below.refl _ _).alloc (Nat.le_refl _) _).trans (hBd.mono (by simp))
  clear hRw hz hBd hro hl
  by_cases h1 : (d.mem k).role = 3
  rotate_left
  · have HF : Hid (rFetch d k off = (⟨0, 0, 0⟩, 6)) := by show rFetch d k off = _; rw [HFs.out, if_pos h1]
    have hb1 : ((d.mem k).role != 3) = true := by simp [h1]
    clear h1
    go_wp2
    exact bodyPost_ret (v := .tuple #[.agg #[.int .i64 0, .int .i64 0, .int .i64 0], .int .i64 6]) (by simp [results, Try.results48, go_sem, *]) rfl ⟨by rw [HF.out], ((HB2.out.setCell (p := ⟨w.heap.size, 0, none⟩) (Nat.le_refl _) _).setCell (p := ⟨w.heap.size, 1, none⟩) (Nat.le_refl _) _).setCell (p := ⟨w.heap.size, 2, none⟩) (Nat.le_refl _) _⟩
  rw [h1] at hro2
  have HR1 : Hid ((d.mem k).role = 3) := h1
  clear h1
  by_cases h2 : off < 0
  · have HF : Hid (rFetch d k off = (⟨0, 0, 0⟩, 5)) := by show rFetch d k off = _; rw [HFs.out, if_neg (by simp [HR1.out]), if_pos h2]
    go_wp2
    exact bodyPost_ret (v := .tuple #[.agg #[.int .i64 0, .int .i64 0, .int .i64 0], .int .i64 5]) (by simp [results, Try.results48, go_sem, *]) rfl ⟨by rw [HF.out], ((HB2.out.setCell (p := ⟨w.heap.size, 0, none⟩) (Nat.le_refl _) _).setCell (p := ⟨w.heap.size, 1, none⟩) (Nat.le_refl _) _).setCell (p := ⟨w.heap.size, 2, none⟩) (Nat.le_refl _) _⟩
  by_cases h3 : rDone d k ≤ off
  · have HF : Hid (rFetch d k off = (⟨0, 0, 0⟩, 9)) := by show rFetch d k off = _; rw [HFs.out, if_neg (by simp [HR1.out]), if_neg h2, if_pos h3]
    go_wp2
    exact bodyPost_ret (v := .tuple #[.agg #[.int .i64 0, .int .i64 0, .int .i64 0], .int .i64 9]) (by simp [results, Try.results48, go_sem, *]) rfl ⟨by rw [HF.out], ((HB2.out.setCell (p := ⟨w.heap.size, 0, none⟩) (Nat.le_refl _) _).setCell (p := ⟨w.heap.size, 1, none⟩) (Nat.le_refl _) _).setCell (p := ⟨w.heap.size, 2, none⟩) (Nat.le_refl _) _⟩
  obtain ⟨a, rfl⟩ := Int.eq_ofNat_of_zero_le (Int.not_lt.1 h2)
  have ha : a < (d.mem k).log.length := by omega
  have hra : (d.mem k).log[a]? = some (d.mem k).log[a] := by simp [ha]
  have HF : Hid (rFetch d k a = ((d.mem k).log[a], 0)) := by
    show rFetch d k a = _
    rw [HFs.out, if_neg (by simp [HR1.out]), if_neg h2, if_neg h3]
    simp [ha]
  have hxo := HBy.out _ (List.getElem_mem ha)
  have hcut := fun w' => enc_cut (d.mem k).log a ha w'
  have e1 : ((d.mem k).log.drop a).take 1 = [(d.mem k).log[a]] := by rw [List.drop_eq_getElem_cons ha]; rfl
  rw [e1] at hcut
  have hidx := fun w' => enc_idx [(d.mem k).log[a]] 0 (d.mem k).log[a] rfl hxo w'
  generalize (d.mem k).log[a] = x at hra HF hxo hcut hidx e1
  obtain ⟨p0, p1, s0, s1, v0, v1⟩ := hxo
  have i0 : ∀ w', (Instr.index 9 (.string (encB [x])) (.int .i64 0)).run Try.prog w' = .ok (.int .u8 x.p) w' := fun w' => (hidx w').1
  have i1 : ∀ w', (Instr.index 9 (.string (encB [x])) (.int .i64 1)).run Try.prog w' = .ok (.int .u8 x.s) w' := fun w' => (hidx w').2.1
  have i2 : ∀ w', (Instr.index 9 (.string (encB [x])) (.int .i64 2)).run Try.prog w' = .ok (.int .u8 x.v) w' := fun w' => (hidx w').2.2
  have u1 : IntKind.i64.wrap x.p = x.p := wrap_small _ (by omega) (by omega)
  have u2 : IntKind.i64.wrap x.s = x.s := wrap_small _ (by omega) (by omega)
  have u3 : IntKind.i64.wrap x.v = x.v := wrap_small _ (by omega) (by omega)
  clear hidx hra e1 h2
  go_wp2_with fail
  go_region_law (fail)
  all_goals
    go_wp2
    exact bodyPost_ret (v := .tuple #[.agg #[.int .i64 x.p, .int .i64 x.s, .int .i64 x.v], .int .i64 0]) (by simp [results, Try.results48, go_sem, *]) rfl ⟨by rw [HF.out], (((HB2.out.drew).setCell (p := ⟨w.heap.size, 0, none⟩) (Nat.le_refl _) _).setCell (p := ⟨w.heap.size, 1, none⟩) (Nat.le_refl _) _).setCell (p := ⟨w.heap.size, 2, none⟩) (Nat.le_refl _) _⟩
end
end Go.Proofs.Ythpfgmdffendoaa
