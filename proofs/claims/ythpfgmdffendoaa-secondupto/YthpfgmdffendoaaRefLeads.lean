/- My own text. Walks of package ledgerref: leads (Ack; what is nothing). -/
import Derived.Test.YthpfgmdffendoaaRefStarts
import Derived.Test.YthpfgmdffendoaaRefOut
import Derived.BigRegion
namespace Go.Proofs.Ythpfgmdffendoaa
set_option linter.unusedVariables false
set_option linter.unusedSimpArgs false
open Go.RowKit
/-- A letter in a block of its own. -/
def LetAt (w : World) (B : Nat) (m : Msg) : Prop := w.heap[B]? = some (.cells #[.int .i64 m.kind, .int .i64 m.frm, .int .i64 m.to, .int .i64 m.epoch, .int .i64 m.n, .string (encB m.recs)] 129)
theorem LetAt.cells {w : World} {B : Nat} {m : Msg} (h : LetAt w B m) : w.cell? ⟨B, 0, none⟩ = some (.int .i64 m.kind) ∧ w.cell? ⟨B, 1, none⟩ = some (.int .i64 m.frm) ∧ w.cell? ⟨B, 2, none⟩ = some (.int .i64 m.to) ∧
    w.cell? ⟨B, 3, none⟩ = some (.int .i64 m.epoch) ∧ w.cell? ⟨B, 4, none⟩ = some (.int .i64 m.n) ∧ w.cell? ⟨B, 5, none⟩ = some (.string (encB m.recs)) :=
  ⟨(cell_of_row _ _ _ _ _ _ h).trans rfl, (cell_of_row _ _ _ _ _ _ h).trans rfl, (cell_of_row _ _ _ _ _ _ h).trans rfl, (cell_of_row _ _ _ _ _ _ h).trans rfl, (cell_of_row _ _ _ _ _ _ h).trans rfl, (cell_of_row _ _ _ _ _ _ h).trans rfl⟩
theorem LetAt.lt {w : World} {B : Nat} {m : Msg} (h : LetAt w B m) : B < w.heap.size := (Array.getElem?_eq_some_iff.1 h).1
theorem LetAt.same {w w' : World} {B : Nat} {m : Msg} (h : LetAt w B m) (hB : w'.heap[B]? = w.heap[B]?) : LetAt w' B m := hB.trans h
theorem ROk.know {d : Wd} (h : ROk d) (k : Nat) (hk : k < 5) (f : Nat) (n : Int) (h0 : 0 ≤ n) (h1 : n ≤ 60) : ROk (rKnow d k f n) := by
  unfold rKnow
  split
  · refine h.put k _ (h.fol k hk) (h.rol k hk) (h.log k hk) (h.byt k hk) (fun j hj => ?_)
    show 0 ≤ upd (d.mem k).knows f n j ∧ upd (d.mem k).knows f n j ≤ 60
    unfold upd
    split
    · exact ⟨h0, h1⟩
    · exact h.kno k j hk hj
  · exact h
theorem rKnow_same (d : Wd) (k f : Nat) (n : Int) : (rKnow d k f n).eras = d.eras ∧ ((rKnow d k f n).mem k).log = (d.mem k).log ∧ ((rKnow d k f n).mem k).follows = (d.mem k).follows ∧ (rKnow d k f n).way = d.way := by
  unfold rKnow
  split
  · refine ⟨rfl, ?_, ?_, rfl⟩ <;> rw [put_at]
  · exact ⟨rfl, rfl, rfl, rfl⟩
theorem ROk.ack {d : Wd} (h : ROk d) (k f : Nat) (hk : k < 5) (hf : f < 5) (hfo : 1 ≤ (d.mem k).follows) : ROk (rAck d k f) := by
  unfold rAck
  split
  · rename_i hlt
    obtain ⟨n, hn⟩ := Int.eq_ofNat_of_zero_le (h.kno k f hk hf).1
    rw [hn] at hlt ⊢
    exact h.appends k f hk hf hfo n (by omega)
  · exact h
section
variable {w : World} {S : Nat → Prop} {b : Nat} {d : Wd} {ev uv : Value}
theorem RRep.drewN (h : RRep w S b d ev uv) (n : Nat) : RRep (w.drewN n) S b d ev uv := h.same fun _ _ _ => rfl
theorem Fr.drewN (S : Nat → Prop) (w : World) (n : Nat) : Fr S w (w.drewN n) := ⟨rfl, rfl, rfl, Nat.le_refl _, fun _ _ _ => rfl⟩
theorem rappends_int (h : RRep w S b d ev uv) (hway : d.way.length ≤ 50) (k to : Nat) (hk : k < 5) (n : Int) (h0 : 0 ≤ n) (hn : n < (d.mem k).log.length) (hlen : (d.mem k).log.length ≤ 60) :
    Calls Try.prog 63 #[.pointer (some ⟨b, 0, none⟩), .int .i64 k, .int .i64 to, .int .i64 n] w fun e w' =>
      e = .returned (.tuple #[]) ∧ (∃ uv', RRep w' (Ext S w) b (rAppends d k to n) ev uv') ∧ Fr S w w' := by
  obtain ⟨n, rfl⟩ := Int.eq_ofNat_of_zero_le h0
  exact rappends_any h hway k to hk n (by omega) hlen

set_option maxHeartbeats 6400000 in
set_option maxRecDepth 100000 in
theorem rleads_ack (h : RRep w S b d ev uv) (hok : ROk d) (k : Nat) (hk : k < 5) (m : Msg) (hm : MsgOk d.eras.length m) (hk9 : m.kind = 9) (hr3 : (d.mem k).role = 3) :
    Calls Try.prog 86 #[.pointer (some ⟨b, 0, none⟩), .int .i64 k, letVal m] w fun e w' =>
      e = .returned (.tuple #[]) ∧ (∃ uv', RRep w' (Ext S w) b (rLeads d k m) ev uv') ∧ Fr S w w' := by
  obtain ⟨m0, m1, m2, m3, m4, m5, m6, m7, m8, m9, m10, m11, m12, m13, m14⟩ := h.member k hk
  have hb := h.lt
  have hlen := hok.log k hk
  obtain ⟨f, hf⟩ := Int.eq_ofNat_of_zero_le (hm.lead (Or.inl hk9))
  have hf5 : f < 5 := by have := hm.frm.2; omega
  have hn0 := hm.n
  have hfo := hok.rol k hk (by omega)
  have HF : Hid (rLeads d k m = rAck (rKnow d k f m.n) k f) := by
    show rLeads d k m = _
    rw [rLeads, if_neg (by omega), if_neg (by omega), if_neg (by omega), if_pos ⟨hk9, hr3⟩, hf]; rfl
  have H : Hid (RRep w S b d ev uv) := h
  have HO : Hid (ROk d) := hok
  have HFo : Hid (1 ≤ (d.mem k).follows) := hfo
  have b3 : (m.kind == 3) = false := by simp [hk9]
  have b5 : (m.kind == 5) = false := by simp [hk9]
  have b7 : (m.kind == 7) = false := by simp [hk9]
  have b9 : (m.kind == 9) = true := by simp [hk9]
  have br3 : ((d.mem k).role == 3) = true := by simp [hr3]
  unfold letVal
  rw [hf]
  have HMf : Hid (m.frm = (f : Int)) := hf
  clear h hok hm hk9 hr3 hfo hf
  have hk0 : (0 : Int) ≤ (k : Int) := by omega
  have hk1 : (k : Int) < 5 := by omega
  have hf0 : (0 : Int) ≤ (f : Int) := by omega
  have hf1 : (f : Int) < 5 := by omega
  have hnb0 : ¬ b = w.heap.size := by omega
  have hnb1 : ¬ b = w.heap.size + 1 := by omega
  go_enter Try.func86, Try.ntmps86
  go_wp2_with fail
  refine wp_genR (fun W => RRep W (Now S w) b d ev uv ∧ Fr S w W ∧ LetAt W w.heap.size m ∧ Copy W (w.heap.size + 1) (d.mem k)) ⟨(H.out.now.alloc _).alloc _, (Fr.alloc _ _ _).then (Fr.alloc _ _ _), by unfold LetAt; rw [HMf.out]; exact heap_alloc2_old w _ _, by have q := copy_alloc (w.alloc (.cells #[.int .i64 m.kind, .int .i64 f, .int .i64 m.to, .int .i64 m.epoch, .int .i64 m.n, .string (encB m.recs)] 129)) (d.mem k); simpa using q⟩ ?_
  rintro W ⟨hWR, hWB, hWL, hWC⟩
  obtain ⟨_, _, _, _, l4, _⟩ := hWL.cells
  have kf := hWC.knows f hf5
  have cK := hWR.cKno k f hk hf5
  have zK := hWR.free (k * 15 + 5 + f)
  have hbW := hWR.lt
  have HWR : Hid (RRep W (Now S w) b d ev uv) := hWR
  have HWB : Hid (Fr S w W) := hWB
  have HWL : Hid (LetAt W w.heap.size m) := hWL
  have HWC : Hid (Copy W (w.heap.size + 1) (d.mem k)) := hWC
  clear hWR hWB hWL hWC m0 m1 m2 m3 m4 m5 m6 m7 m8 m9 m10 m11 m12 m13 m14
  have hkb := HO.out.kno k f hk hf5
  -- what follows the test, in whatever world
  by_cases hgt : (d.mem k).knows f < m.n
  · have HK : Hid (rKnow d k f m.n = d.put k { d.mem k with knows := upd (d.mem k).knows f m.n }) := by show rKnow d k f m.n = _; simp [rKnow, hgt]
    have HKn : Hid (((rKnow d k f m.n).mem k).knows f = m.n) := by show ((rKnow d k f m.n).mem k).knows f = _; rw [HK.out, put_at]; simp [upd]
    have HSet : Hid (∀ W1 : World, RRep W1 (Now S w) b d ev uv → RRep (W1.setCell ⟨b, k * 15 + 5 + f, none⟩ (.int .i64 m.n)) (Now S w) b (rKnow d k f m.n) ev uv ∧ Fr (Now S w) W1 (W1.setCell ⟨b, k * 15 + 5 + f, none⟩ (.int .i64 m.n))) := fun W1 h1 => by
      rw [HK.out]; exact h1.setCell (k * 15 + 5 + f) (.int .i64 m.n) _ rfl rfl (fun cs hcs => hcs.setKno k hk f hf5 m.n)
    have HO2 : Hid (ROk (rKnow d k f m.n)) := HO.out.know k hk f m.n hn0.1 hn0.2
    have HKs : Hid (((rKnow d k f m.n).mem k).log = (d.mem k).log) := (rKnow_same d k f m.n).2.1
    obtain ⟨_, _, _, g4⟩ := HWC.out.cells
    by_cases hlt : m.n < ((d.mem k).log.length : Int)
    · have HA : Hid (rAck (rKnow d k f m.n) k f = rAppends (rKnow d k f m.n) k f (m.n)) := by
        show rAck (rKnow d k f m.n) k f = _
        rw [rAck, HKn.out, HKs.out, if_pos hlt]
      go_quiet (fail)
      go_wp2_with fail
      go_region
      go_wp2_with (first | (go_at_call 60; refine (rcount_any _ hlen _).mono ?_; rintro e w1 ⟨rfl, hw1⟩; rw [hw1]; clear hw1))
      refine (rappends_int (HSet.out _ (HWR.out.drewN (nq + 1))).1 HO2.out.way k f hk _ hn0.1 (by rw [HKs.out]; exact hlt) (by rw [HKs.out]; exact hlen)).mono ?_
      rintro e w3 ⟨rfl, ⟨uv3, hR3⟩, hF3⟩
      have HR3 : Hid _ := hR3
      have HF3 : Hid _ := hF3
      clear hR3 hF3
      go_wp2
      exact bodyPost_end (results_none rfl _ _ _) rfl ⟨rfl, ⟨uv3, by rw [HF.out, HA.out]; exact HR3.out.back (by have := HWB.out.size; simpa [World.setCell] using this)⟩, (HWB.out.then ((Fr.drewN _ W (nq + 1)).then ((HSet.out _ (HWR.out.drewN (nq + 1))).2.now))).then HF3.out.now⟩
    · have HA : Hid (rAck (rKnow d k f m.n) k f = rKnow d k f m.n) := by
        show rAck (rKnow d k f m.n) k f = _
        rw [rAck, HKn.out, HKs.out, if_neg hlt]
      have hge : ((d.mem k).log.length : Int) ≤ m.n := by omega
      clear hlt
      go_quiet (fail)
      go_wp2_with fail
      go_region
      go_wp2_with (first | (go_at_call 60; refine (rcount_any _ hlen _).mono ?_; rintro e w1 ⟨rfl, hw1⟩; rw [hw1]; clear hw1))
      exact bodyPost_end (results_none rfl _ _ _) rfl ⟨rfl, ⟨uv, by rw [HF.out, HA.out]; exact ((HSet.out _ (HWR.out.drewN (nq + 1))).1).mono fun _ _ e => Or.inl e.1⟩, (HWB.out.then ((Fr.drewN _ W (nq + 1)).then ((HSet.out _ (HWR.out.drewN (nq + 1))).2.now)))⟩
  · have HEq : Hid (rKnow d k f m.n = d) := by show rKnow d k f m.n = _; simp [rKnow, hgt]
    have HKn : Hid (((rKnow d k f m.n).mem k).knows f = (d.mem k).knows f) := by show ((rKnow d k f m.n).mem k).knows f = _; rw [HEq.out]
    have hle : m.n ≤ (d.mem k).knows f := by omega
    clear hgt
    have HO2 : Hid (ROk (rKnow d k f m.n)) := HO.out.know k hk f m.n hn0.1 hn0.2
    have HKs : Hid (((rKnow d k f m.n).mem k).log = (d.mem k).log) := (rKnow_same d k f m.n).2.1
    obtain ⟨_, _, _, g4⟩ := HWC.out.cells
    by_cases hlt : (d.mem k).knows f < ((d.mem k).log.length : Int)
    · have HA : Hid (rAck (rKnow d k f m.n) k f = rAppends (rKnow d k f m.n) k f ((d.mem k).knows f)) := by
        show rAck (rKnow d k f m.n) k f = _
        rw [rAck, HKn.out, HKs.out, if_pos hlt]
      go_quiet (fail)
      go_wp2_with (first | (go_at_call 60; refine (rcount_any _ hlen _).mono ?_; rintro e w1 ⟨rfl, hw1⟩; rw [hw1]; clear hw1))
      refine (rappends_int (show RRep (W.drewN nq) (Now S w) b (rKnow d k f m.n) ev uv by rw [HEq.out]; exact HWR.out.drewN nq) HO2.out.way k f hk _ hkb.1 (by rw [HKs.out]; exact hlt) (by rw [HKs.out]; exact hlen)).mono ?_
      rintro e w3 ⟨rfl, ⟨uv3, hR3⟩, hF3⟩
      have HR3 : Hid _ := hR3
      have HF3 : Hid _ := hF3
      clear hR3 hF3
      go_wp2
      exact bodyPost_end (results_none rfl _ _ _) rfl ⟨rfl, ⟨uv3, by rw [HF.out, HA.out]; exact HR3.out.back (W := W) HWB.out.size⟩, (HWB.out.then (Fr.drewN _ W nq)).then HF3.out.now⟩
    · have HA : Hid (rAck (rKnow d k f m.n) k f = rKnow d k f m.n) := by
        show rAck (rKnow d k f m.n) k f = _
        rw [rAck, HKn.out, HKs.out, if_neg hlt]
      have hge : ((d.mem k).log.length : Int) ≤ (d.mem k).knows f := by omega
      clear hlt
      go_quiet (fail)
      go_wp2_with (first | (go_at_call 60; refine (rcount_any _ hlen _).mono ?_; rintro e w1 ⟨rfl, hw1⟩; rw [hw1]; clear hw1))
      exact bodyPost_end (results_none rfl _ _ _) rfl ⟨rfl, ⟨uv, by rw [HF.out, HA.out]; exact ((show RRep (W.drewN nq) (Now S w) b (rKnow d k f m.n) ev uv by rw [HEq.out]; exact HWR.out.drewN nq)).mono fun _ _ e => Or.inl e.1⟩, (HWB.out.then (Fr.drewN _ W nq))⟩

set_option maxHeartbeats 6400000 in
set_option maxRecDepth 100000 in
theorem rleads_idle (h : RRep w S b d ev uv) (k : Nat) (hk : k < 5) (m : Msg) (h3 : ¬ (m.kind = 3 ∧ (d.mem k).role = 1)) (h5 : ¬ (m.kind = 5 ∧ (d.mem k).role = 2)) (h7 : ¬ (m.kind = 7 ∧ (d.mem k).role = 2)) (h9 : ¬ (m.kind = 9 ∧ (d.mem k).role = 3)) :
    Calls Try.prog 86 #[.pointer (some ⟨b, 0, none⟩), .int .i64 k, letVal m] w fun e w' =>
      e = .returned (.tuple #[]) ∧ (∃ uv', RRep w' (Ext S w) b (rLeads d k m) ev uv') ∧ Fr S w w' := by
  obtain ⟨m0, m1, m2, m3, m4, m5, m6, m7, m8, m9, m10, m11, m12, m13, m14⟩ := h.member k hk
  have hb := h.lt
  have HF : Hid (rLeads d k m = d) := by show rLeads d k m = _; simp [rLeads, h3, h5, h7, h9]
  have H : Hid (RRep w S b d ev uv) := h
  unfold letVal
  have key : (m.kind = 3 ∧ (d.mem k).role ≠ 1) ∨ (m.kind = 5 ∧ (d.mem k).role ≠ 2) ∨ (m.kind = 7 ∧ (d.mem k).role ≠ 2) ∨ (m.kind = 9 ∧ (d.mem k).role ≠ 3) ∨ (m.kind ≠ 3 ∧ m.kind ≠ 5 ∧ m.kind ≠ 7 ∧ m.kind ≠ 9) := by omega
  clear h h3 h5 h7 h9
  rcases key with ⟨q1, q2⟩ | ⟨q1, q2⟩ | ⟨q1, q2⟩ | ⟨q1, q2⟩ | ⟨q1, q2, q3, q4⟩
  · have b3 : (m.kind == 3) = true := by simp [q1]
    have b5 : (m.kind == 5) = false := by simp [q1]
    have b7 : (m.kind == 7) = false := by simp [q1]
    have b9 : (m.kind == 9) = false := by simp [q1]
    have br : ((d.mem k).role == 1) = false := by simp [q2]
    clear q1 q2
    go_enter Try.func86, Try.ntmps86
    go_wp2
    exact bodyPost_end (results_none rfl _ _ _) rfl ⟨rfl, ⟨_, by rw [HF.out]; exact ((H.out.alloc _).alloc _).mono fun _ _ e => Or.inl e⟩, (Fr.alloc _ _ _).then (Fr.alloc _ _ _)⟩
  · have b3 : (m.kind == 3) = false := by simp [q1]
    have b5 : (m.kind == 5) = true := by simp [q1]
    have b7 : (m.kind == 7) = false := by simp [q1]
    have b9 : (m.kind == 9) = false := by simp [q1]
    have br : ((d.mem k).role == 2) = false := by simp [q2]
    clear q1 q2
    go_enter Try.func86, Try.ntmps86
    go_wp2
    exact bodyPost_end (results_none rfl _ _ _) rfl ⟨rfl, ⟨_, by rw [HF.out]; exact ((H.out.alloc _).alloc _).mono fun _ _ e => Or.inl e⟩, (Fr.alloc _ _ _).then (Fr.alloc _ _ _)⟩
  · have b3 : (m.kind == 3) = false := by simp [q1]
    have b5 : (m.kind == 5) = false := by simp [q1]
    have b7 : (m.kind == 7) = true := by simp [q1]
    have b9 : (m.kind == 9) = false := by simp [q1]
    have br : ((d.mem k).role == 2) = false := by simp [q2]
    clear q1 q2
    go_enter Try.func86, Try.ntmps86
    go_wp2
    exact bodyPost_end (results_none rfl _ _ _) rfl ⟨rfl, ⟨_, by rw [HF.out]; exact ((H.out.alloc _).alloc _).mono fun _ _ e => Or.inl e⟩, (Fr.alloc _ _ _).then (Fr.alloc _ _ _)⟩
  · have b3 : (m.kind == 3) = false := by simp [q1]
    have b5 : (m.kind == 5) = false := by simp [q1]
    have b7 : (m.kind == 7) = false := by simp [q1]
    have b9 : (m.kind == 9) = true := by simp [q1]
    have br : ((d.mem k).role == 3) = false := by simp [q2]
    clear q1 q2
    go_enter Try.func86, Try.ntmps86
    go_wp2
    exact bodyPost_end (results_none rfl _ _ _) rfl ⟨rfl, ⟨_, by rw [HF.out]; exact ((H.out.alloc _).alloc _).mono fun _ _ e => Or.inl e⟩, (Fr.alloc _ _ _).then (Fr.alloc _ _ _)⟩
  · have b3 : (m.kind == 3) = false := by simp [q1]
    have b5 : (m.kind == 5) = false := by simp [q2]
    have b7 : (m.kind == 7) = false := by simp [q3]
    have b9 : (m.kind == 9) = false := by simp [q4]
    clear q1 q2 q3 q4
    go_enter Try.func86, Try.ntmps86
    go_wp2
    exact bodyPost_end (results_none rfl _ _ _) rfl ⟨rfl, ⟨_, by rw [HF.out]; exact ((H.out.alloc _).alloc _).mono fun _ _ e => Or.inl e⟩, (Fr.alloc _ _ _).then (Fr.alloc _ _ _)⟩
end
end Go.Proofs.Ythpfgmdffendoaa
