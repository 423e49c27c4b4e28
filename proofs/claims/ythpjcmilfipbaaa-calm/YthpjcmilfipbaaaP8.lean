/- My own text: several texts in one. -/
import Derived.Test.YthpjcmilfipbaaaP6
import Derived.Test.YthpjcmilfipbaaaP7
namespace Go.Proofs.Ythpjcmilfipbaaa
set_option linter.unusedVariables false
set_option linter.unusedSimpArgs false
open Go.RowKit
section
variable {w : World} {S : Nat → Prop} {b : Nat} {c : Clu} {lv : Nat → Value} {ev uv : Value} {mv : List (Msg × Value)}
theorem knowTo_ok {c : Clu} (h : Ok c) (k f : Nat) (n : Int) : Ok (knowTo c k f n) := by
  unfold knowTo; split
  · exact putKnown_ok h _ _ _
  · exact h
set_option maxHeartbeats 16000000 in
set_option maxRecDepth 100000 in
theorem takeAck_any (h : Rep w S b c lv ev uv mv) (hok : Ok c) (k : Nat) (hk : k < 5) (m : Msg) (hto : m.to = k) (f : Nat) (hf5 : f < 5) (hfr : m.frm = f) (ro : Option Addr) (rl rc : Nat) :
    Calls Try.prog 98 #[.pointer (some ⟨b, 0, none⟩), msgVal m (.slice ro rl rc)] w fun e w' =>
      e = .returned (.tuple #[]) ∧ (∃ lv' uv' mv', Rep w' (Ext S w) b (takeAck c k m) lv' ev uv' mv') ∧ Fr S w w' := by
  unfold msgVal
  obtain ⟨ao, cap, hlv, hcap, _, hpos⟩ := ownsRow_shape (h.logs k hk)
  have hb := h.lt
  have H := hidP h
  have HO := hidP hok
  have HL := hidP hlv
  have hk0 : (0 : Int) ≤ (k : Int) := by omega
  have hk1 : (k : Int) < 5 := by omega
  have hf0 : (0 : Int) ≤ (f : Int) := by omega
  have hf1 : (f : Int) < 5 := by omega
  have HTO := hidP hto
  have HFR := hidP hfr
  clear h hok hlv hpos hcap hto hfr
  go_enter Try.func98, Try.ntmps98
  go_wp2_with fail
  refine wp_genP (fun W => Below w.heap.size w W ∧ W.heap.size = w.heap.size + 1 ∧ W.heap[w.heap.size]? = some (.cells #[.int .i64 m.kind, .int .i64 m.frm, .int .i64 m.to, .int .i64 m.epoch, .int .i64 m.n, .slice ro rl rc] 101)) ⟨(Below.refl _ _).alloc (Nat.le_refl _) _, by simp, heap_alloc_new w _⟩ ?_
  rintro W ⟨hW2, hW3, hW4⟩
  have hW1 : Rep W (Past S w) b c lv ev uv mv := (H.out.mono (S' := Past S w) fun q hq e => Or.inl ⟨e, hq⟩).below hW2
  obtain ⟨u0, u1, u2, u3, u4⟩ := hW1.node k hk
  obtain ⟨u5, u6, u7, u8, u9⟩ := hW1.nodeHas k hk
  obtain ⟨u10, u11, u12, u13, u14⟩ := hW1.nodeKno k hk
  have m1 : W.cell? ⟨w.heap.size, 1, none⟩ = some (.int .i64 m.frm) := (cell_of_row _ _ _ _ _ _ hW4).trans rfl
  have m2 : W.cell? ⟨w.heap.size, 2, none⟩ = some (.int .i64 m.to) := (cell_of_row _ _ _ _ _ _ hW4).trans rfl
  have m3 : W.cell? ⟨w.heap.size, 3, none⟩ = some (.int .i64 m.epoch) := (cell_of_row _ _ _ _ _ _ hW4).trans rfl
  have m4 : W.cell? ⟨w.heap.size, 4, none⟩ = some (.int .i64 m.n) := (cell_of_row _ _ _ _ _ _ hW4).trans rfl
  rw [HL.out] at u4
  rw [HTO.out] at m2
  rw [HFR.out] at m1
  have hbW := hW1.lt
  have hmW : w.heap.size < W.heap.size := by omega
  have HW1 := hidP hW1
  have HW2 := hidP hW2
  have HW3 := hidP hW3
  clear hW1 hW2 hW3 hW4
  have nb : ¬ b = W.heap.size := by omega
  have nm : ¬ w.heap.size = W.heap.size := by omega
  have HND := hidP (fun o : Obj => (show Rep (W.alloc o).drew (Past S w) b c lv ev uv mv from (HW1.out.alloc o).drew))
  have HNB := hidP (fun o : Obj => (show Below w.heap.size w (W.alloc o).drew from (HW2.out.alloc (by omega) o).drew))
  have kn : ∀ o : Obj, ∀ j, j < 5 → True := fun _ _ _ => trivial
  go_region
  have hnb : nodeB (f : Int) = true := by simp [nodeB]; omega
  by_cases hcond : (c.nodes k).follows = m.epoch ∧ (c.nodes k).role = 3
  · obtain ⟨hf, hr⟩ := hcond
    have HT := hidP (show takeAck c k m = sendFirst (knowTo c k f m.n) k f by unfold takeAck; rw [HFR.out, if_pos ⟨hf, hr, hnb⟩]; rfl)
    have bf : ((c.nodes k).follows != m.epoch) = false := by simp [hf]
    have br : ((c.nodes k).role != 3) = false := by simp [hr]
    clear hf hr
    go_wp2_with (first | (go_at_call 51; refine (isNode_any _ _).mono ?_; rintro e w' ⟨rfl, hw1⟩; rw [hw1]; clear hw1))
    have HKn := hidP (show ∀ j, j < 5 → ((#[.bool (c.nodes k).up, .int .i64 (c.nodes k).follows, .int .i64 (c.nodes k).given, .int .i64 (c.nodes k).role, .slice ao (c.nodes k).log.length cap, .bool ((c.nodes k).has 0), .bool ((c.nodes k).has 1), .bool ((c.nodes k).has 2), .bool ((c.nodes k).has 3), .bool ((c.nodes k).has 4), .int .i64 ((c.nodes k).known 0), .int .i64 ((c.nodes k).known 1), .int .i64 ((c.nodes k).known 2), .int .i64 ((c.nodes k).known 3), .int .i64 ((c.nodes k).known 4)] : Array Value)[10 + j]? = some (.int .i64 ((c.nodes k).known j))) from fun j hj => by
      match j, hj with
      | 0, _ => rfl
      | 1, _ => rfl
      | 2, _ => rfl
      | 3, _ => rfl
      | 4, _ => rfl)
    refine wp_genP (fun V => Rep V (Past S w) b c lv ev uv mv ∧ Below w.heap.size w V ∧ w.heap.size + 2 ≤ V.heap.size ∧ V.cell? ⟨w.heap.size, 1, none⟩ = some (.int .i64 f) ∧ V.cell? ⟨w.heap.size, 2, none⟩ = some (.int .i64 k) ∧ V.cell? ⟨w.heap.size, 4, none⟩ = some (.int .i64 m.n) ∧ V.cell? ⟨W.heap.size, 10 + f, none⟩ = some (.int .i64 ((c.nodes k).known f)))
      ⟨HND.out _, HNB.out _, by simp; have := HW3.out; omega, by simp [World.cell?_alloc_some, m1], by simp [World.cell?_alloc_some, m2], by simp [World.cell?_alloc_some, m4], by rw [World.cell?_drew]; exact (cell_of_row _ _ _ _ _ _ (heap_alloc_new W _)).trans (HKn.out f hf5)⟩ ?_
    rintro V ⟨hV1, hV2, hV3, e1, e2, e4, e5⟩
    have a0 := hV1.cKno k f hk hf5
    have z0 := hV1.free (k * 15 + 10 + f)
    have hVb := hV1.lt
    have HV1 := hidP hV1
    have HV2 := hidP hV2
    have hmV : w.heap.size < V.heap.size := by omega
    have nbm : ¬ b = w.heap.size := by omega
    have nbm2 : ¬ w.heap.size = b := by omega
    clear hV1 hV2 u0 u1 u2 u3 u4 u5 u6 u7 u8 u9 u10 u11 u12 u13 u14 m1 m2 m3 m4 HKn
    by_cases hlt : (c.nodes k).known f < m.n
    · have HP := hidP (show knowTo c k f m.n = { c with nodes := upd c.nodes k { c.nodes k with known := upd (c.nodes k).known f m.n } } by unfold knowTo; rw [if_pos hlt]; rfl)
      have HO1 := hidP (show Ok { c with nodes := upd c.nodes k { c.nodes k with known := upd (c.nodes k).known f m.n } } by have := knowTo_ok HO.out k f m.n; rw [HP.out] at this; exact this)
      have HSt := hidP (fun nd : Nat => (Rep.setKnown (w := V.drewN nd) (HV1.out.same fun _ _ _ => rfl) k hk f hf5 m.n))
      go_quiet (fail)
      go_wp2_with fail
      go_region
      go_wp2_with fail
      refine (sendFirst_any (HSt.out (nq + 1)).1 HO1.out k f hk hf5).mono ?_
      rintro e w3 ⟨rfl, ⟨uv3, mv3, hR3⟩, hF3⟩
      have HR3 := hidP hR3
      have HF3 := hidP hF3
      clear hR3 hF3
      go_wp2
      exact bodyPost_end (results_none rfl _ _ _) rfl ⟨rfl, ⟨_, _, _, by
        rw [HT.out, HP.out]
        exact HR3.out.mono fun q _ e => by
          rcases e with e | e
          · exact Past.ext q e
          · exact Or.inr (Nat.le_trans (by omega : w.heap.size ≤ V.heap.size) (by simpa [World.setCell] using e))⟩, (((Fr.below HV2.out).then (Fr.drewP _ V (nq + 1))).trans ((HSt.out (nq + 1)).2.mono fun q e => Past.ext q e)).trans (HF3.out.mono fun q e => Past.ext q e)⟩
    · have HP := hidP (show knowTo c k f m.n = c by unfold knowTo; rw [if_neg hlt])
      go_quiet (fail)
      go_wp2_with fail
      refine (sendFirst_any (w := V.drewN nq) (HV1.out.same fun _ _ _ => rfl) HO.out k f hk hf5).mono ?_
      rintro e w3 ⟨rfl, ⟨uv3, mv3, hR3⟩, hF3⟩
      have HR3 := hidP hR3
      have HF3 := hidP hF3
      clear hR3 hF3
      go_wp2
      exact bodyPost_end (results_none rfl _ _ _) rfl ⟨rfl, ⟨_, _, _, by
        rw [HT.out, HP.out]
        exact HR3.out.mono fun q _ e => by
          rcases e with e | e
          · exact Past.ext q e
          · exact Or.inr (Nat.le_trans (by omega : w.heap.size ≤ V.heap.size) (by simpa [World.setCell] using e))⟩, ((Fr.below HV2.out).then (Fr.drewP _ V nq)).trans (HF3.out.mono fun q e => Past.ext q e)⟩
  · have HT := hidP (show takeAck c k m = c by unfold takeAck; rw [if_neg (fun x => hcond ⟨x.1, x.2.1⟩)])
    cases hf : ((c.nodes k).follows != m.epoch)
    · have hr : ((c.nodes k).role != 3) = true := by
        simp at hf ⊢
        exact fun x => hcond ⟨hf, x⟩
      clear hcond
      go_wp2_with (first | (go_at_call 51; refine (isNode_any _ _).mono ?_; rintro e w' ⟨rfl, hw1⟩; rw [hw1]; clear hw1))
      exact bodyPost_ret (results_none rfl _ _ _) rfl ⟨rfl, ⟨_, _, _, by rw [HT.out]; exact (HND.out _).mono fun q _ e => Past.ext q e⟩, Fr.below (HNB.out _)⟩
    · clear hcond
      go_wp2_with (first | (go_at_call 51; refine (isNode_any _ _).mono ?_; rintro e w' ⟨rfl, hw1⟩; rw [hw1]; clear hw1))
      exact bodyPost_ret (results_none rfl _ _ _) rfl ⟨rfl, ⟨_, _, _, by rw [HT.out]; exact (HND.out _).mono fun q _ e => Past.ext q e⟩, Fr.below (HNB.out _)⟩
end
end Go.Proofs.Ythpjcmilfipbaaa
