/- My own text. Walks of package ledgerref: Node. -/
import Derived.Test.YthpfgmdffendoaaRefOut
import Derived.Test.YthpfgmdffendoaaRefOk
import Derived.Deep.RegionHeld3
namespace Go.Proofs.Ythpfgmdffendoaa
set_option linter.unusedVariables false
set_option linter.unusedSimpArgs false
open Go.RowKit
section
variable {w : World} {S : Nat → Prop} {b : Nat} {d : Wd} {ev uv : Value}

structure ShowR where
  up : Bool
  epoch : Int
  installed : Int
  role : Int
  len : Int
  done : Int
def ShowR.val (x : ShowR) : Value := .agg #[.bool x.up, .int .i64 x.epoch, .int .i64 x.installed, .int .i64 x.role, .int .i64 x.len, .int .i64 x.done]
def rSeen (d : Wd) (node : Int) : ShowR × Int :=
  if nodeB node then (⟨(d.mem node.toNat).up, (d.mem node.toNat).follows, (d.mem node.toNat).given, (d.mem node.toNat).role, (d.mem node.toNat).log.length, rDone d node.toNat⟩, 0)
  else (⟨false, 0, 0, 0, 0, 0⟩, 2)

set_option maxHeartbeats 1600000 in
theorem rnode_nil (node : Int) (w : World) :
    Calls Try.prog 70 #[.pointer none, .int .i64 node] w fun e w' =>
      e = .returned (.tuple #[.agg #[.bool false, .int .i64 0, .int .i64 0, .int .i64 0, .int .i64 0, .int .i64 0], .int .i64 1]) ∧ Below w.heap.size w w' := by
  go_enter Try.func70, Try.ntmps70
  go_wp2_with (first | (go_at_call 58; refine (rref_nil _ _ _).mono ?_; rintro e w1 ⟨rfl, hw1⟩; rw [hw1]; clear hw1))
  exact bodyPost_ret (v := .tuple #[.agg #[.bool false, .int .i64 0, .int .i64 0, .int .i64 0, .int .i64 0, .int .i64 0], .int .i64 1]) (by simp [results, Try.results70, go_sem, *]) rfl ⟨rfl, (Below.refl _ _).alloc (Nat.le_refl _) _⟩

theorem six (W : World) (N B j : Nat) (a0 a1 a2 a3 a4 a5 : Value) (h : ¬ B = N) :
    ((((((W.setCell ⟨N, 0, none⟩ a0).setCell ⟨N, 1, none⟩ a1).setCell ⟨N, 2, none⟩ a2).setCell ⟨N, 3, none⟩ a3).setCell ⟨N, 4, none⟩ a4).setCell ⟨N, 5, none⟩ a5).cell? ⟨B, j, none⟩ = W.cell? ⟨B, j, none⟩ := by
  have hn : ∀ (V : World) (o : Nat) (a : Value), (V.setCell ⟨N, o, none⟩ a).cell? ⟨B, j, none⟩ = V.cell? ⟨B, j, none⟩ := fun V o a =>
    World.cell?_of_block (Below.heap_setCell V ⟨N, o, none⟩ a B h)
  rw [hn, hn, hn, hn, hn, hn]
set_option maxHeartbeats 3200000 in
set_option maxRecDepth 100000 in
theorem rnode_any (h : RRep w S b d ev uv) (hok : ROk d) (node : Int) :
    Calls Try.prog 70 #[.pointer (some ⟨b, 0, none⟩), .int .i64 node] w fun e w' =>
      e = .returned (.tuple #[(rSeen d node).1.val, .int .i64 (rSeen d node).2]) ∧ Below w.heap.size w w' := by
  have H : Hid (RRep w S b d ev uv) := h
  have HO : Hid (ROk d) := hok
  have hbw := h.lt
  by_cases hn : 0 ≤ node ∧ node < 5
  rotate_left
  · have hb : nodeB node = false := by simp [nodeB]; omega
    have hr : rRef d node false = 2 := by simp [rRef, hb]
    have HF : Hid (rSeen d node = (⟨false, 0, 0, 0, 0, 0⟩, 2)) := by show rSeen d node = _; simp [rSeen, hb]
    clear h hok hn
    go_enter Try.func70, Try.ntmps70
    go_wp2_with (first | (go_at_call 58; refine (rref_any (H.out.alloc _) _ _).mono ?_; rintro e w1 ⟨rfl, hw1⟩; rw [hw1]; clear hw1))
    exact bodyPost_ret (v := .tuple #[.agg #[.bool false, .int .i64 0, .int .i64 0, .int .i64 0, .int .i64 0, .int .i64 0], .int .i64 2]) (by simp [results, Try.results70, go_sem, *]) rfl ⟨by rw [HF.out]; rfl, (Below.refl _ _).alloc (Nat.le_refl _) _⟩
  obtain ⟨h0, h5⟩ := hn
  obtain ⟨k, rfl⟩ := Int.eq_ofNat_of_zero_le h0
  have hk : k < 5 := by omega
  have hb : nodeB (k : Int) = true := by simp [nodeB]; omega
  have hr : rRef d (k : Int) false = 0 := by simp [rRef, hb]
  have HF : Hid (rSeen d k = (⟨(d.mem k).up, (d.mem k).follows, (d.mem k).given, (d.mem k).role, (d.mem k).log.length, rDone d k⟩, 0)) := by show rSeen d k = _; simp [rSeen, hb]
  obtain ⟨m0, m1, m2, m3, m4, m5, m6, m7, m8, m9, m10, m11, m12, m13, m14⟩ := h.member k hk
  have hlen := hok.log k hk
  clear h hok hb
  go_enter Try.func70, Try.ntmps70
  go_wp2_with (first | (go_at_call 58; refine (rref_any (H.out.alloc _) _ _).mono ?_; rintro e w1 ⟨rfl, hw1⟩; rw [hw1]; clear hw1))
  refine (rdone_any ((H.out.alloc _).alloc _) HO.out k hk).mono ?_
  rintro e w2 ⟨rfl, hBd⟩
  have hz : w2.heap[w.heap.size]? = some (.cells #[.bool false, .int .i64 0, .int .i64 0, .int .i64 0, .int .i64 0, .int .i64 0] 41) := (hBd.block _ (by simp; omega)).trans (heap_alloc2_old w _ _)
  have hC : Copy w2 (w.heap.size + 1) (d.mem k) := by
    have q := copy_alloc (w.alloc (.cells #[.bool false, .int .i64 0, .int .i64 0, .int .i64 0, .int .i64 0, .int .i64 0] 41)) (d.mem k)
    have q2 := q.same (w' := w2) (hBd.block _ (by simp))
    simpa using q2
  have HZ : Hid (w2.heap[w.heap.size]? = some (.cells #[.bool false, .int .i64 0, .int .i64 0, .int .i64 0, .int .i64 0, .int .i64 0] 41)) := hz
  have HC : Hid (Copy w2 (w.heap.size + 1) (d.mem k)) := hC
  have HB2 : Hid (Below w.heap.size w w2) := (((Below.refl _ _).alloc (Nat.le_refl _) _).alloc (by simp) _).trans (hBd.mono (by simp; omega))
  clear hC hz hBd m0 m1 m2 m3 m4 m5 m6 m7 m8 m9 m10 m11 m12 m13 m14
  go_wp2_with fail
  refine wp_genR (fun W => Below w.heap.size w W ∧ W.heap[w.heap.size]? = some (.cells #[.bool false, .int .i64 0, .int .i64 0, .int .i64 0, .int .i64 0, .int .i64 0] 41) ∧ Copy W (w.heap.size + 1) (d.mem k)) ⟨HB2.out, HZ.out, HC.out⟩ ?_
  rintro W ⟨hWB, hWZ, hWC⟩
  obtain ⟨f1, f2, f3, f4⟩ := hWC.cells
  have f0 : W.cell? ⟨w.heap.size + 1, 0, none⟩ = some (.bool (d.mem k).up) := by
    obtain ⟨cs, q1, q2, _⟩ := hWC
    exact (cell_of_row _ _ _ _ _ _ q1).trans q2
  have HWB : Hid (Below w.heap.size w W) := hWB
  have z : ∀ j, W.cell? ⟨w.heap.size, j, none⟩ = (#[.bool false, .int .i64 0, .int .i64 0, .int .i64 0, .int .i64 0, .int .i64 0] : Array Value)[j]? := fun j => cell_of_row _ _ _ _ _ _ hWZ
  have z0 := z 0; have z1 := z 1; have z2 := z 2; have z3 := z 3; have z4 := z 4; have z5 := z 5
  simp at z0 z1 z2 z3 z4 z5
  have y : ∀ j, W.frozen? ⟨w.heap.size, j, none⟩ = false := fun j => by simp [World.frozen?, hWZ]
  have y0 := y 0; have y1 := y 1; have y2 := y 2; have y3 := y 3; have y4 := y 4; have y5 := y 5
  clear z y hWB hWZ hWC HB2 HZ HC H HO
  generalize rDone d k = dn at *
  generalize (d.mem k).log = lg at *
  generalize (d.mem k).up = mu at *
  generalize (d.mem k).follows = mf at *
  generalize (d.mem k).given = mg at *
  generalize (d.mem k).role = mr at *
  generalize hNq : w.heap.size = N at *
  have HN : Hid (N = w.heap.size) := hNq.symm
  clear hNq
  have nN : ¬ N + 1 = N := by omega
  go_region_held3 (fun w' => w'.cell? ⟨N + 1, 0, none⟩ = some (.bool mu) ∧ w'.cell? ⟨N + 1, 1, none⟩ = some (.int .i64 mf) ∧ w'.cell? ⟨N + 1, 2, none⟩ = some (.int .i64 mg) ∧ w'.cell? ⟨N + 1, 3, none⟩ = some (.int .i64 mr) ∧ w'.cell? ⟨N + 1, 4, none⟩ = some (.string (encB lg)))
    (first
      | (simp only [World.cell?_drew, f0, f1, f2, f3, f4, and_self]; done)
      | (simp only [six _ _ _ _ _ _ _ _ _ _ nN, World.cell?_drew, f0, f1, f2, f3, f4, and_self]; done))
    (first
      | (go_at_call 60; refine (rcount_any _ hlen _).mono ?_; rintro e w1 ⟨rfl, hw1⟩; rw [hw1]; clear hw1))
  go_wp2
  have HB3 : Below N w ((((((W.setCell ⟨N, 0, none⟩ (.bool mu)).setCell ⟨N, 1, none⟩ (.int .i64 mf)).setCell ⟨N, 2, none⟩ (.int .i64 mg)).setCell ⟨N, 3, none⟩ (.int .i64 mr)).setCell ⟨N, 4, none⟩ (.int .i64 lg.length)).setCell ⟨N, 5, none⟩ (.int .i64 dn)).drew :=
    ((((((HWB.out.setCell (Nat.le_refl _) _).setCell (Nat.le_refl _) _).setCell (Nat.le_refl _) _).setCell (Nat.le_refl _) _).setCell (Nat.le_refl _) _).setCell (Nat.le_refl _) _).drew
  exact bodyPost_ret (v := .tuple #[.agg #[.bool mu, .int .i64 mf, .int .i64 mg, .int .i64 mr, .int .i64 lg.length, .int .i64 dn], .int .i64 0]) (by simp [results, Try.results70, go_sem, *]) rfl ⟨by rw [HF.out]; rfl, HB3.mono (Nat.le_of_eq HN.out.symm)⟩
end
end Go.Proofs.Ythpfgmdffendoaa
