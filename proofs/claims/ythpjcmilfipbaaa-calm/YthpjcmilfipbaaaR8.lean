/- My own text: several texts in one. -/
import Derived.Test.YthpjcmilfipbaaaR2
namespace Go.Proofs.Ythpjcmilfipbaaa
set_option linter.unusedVariables false
set_option linter.unusedSimpArgs false
open Go.RowKit
theorem rRef_zero {d : Wd} {node : Int} {up : Bool} (h : rRef d node up = 0) : ∃ k : Nat, node = k ∧ k < 5 ∧ (up = true → (d.mem k).up = true) := by
  unfold rRef nodeB at h
  split at h
  · rename_i hb
    simp at hb
    obtain ⟨k, rfl⟩ := Int.eq_ofNat_of_zero_le hb.1
    refine ⟨k, rfl, by omega, fun hu => ?_⟩
    subst hu
    simp at h; exact h
  · simp at h
theorem recB_parts {p s v : Int} (h : recB p s v = true) : 1 ≤ p ∧ p ≤ 4 ∧ 1 ≤ s ∧ s ≤ 99 ∧ 0 ≤ v ∧ v ≤ 255 := by
  simp [recB] at h; omega
theorem recB_no {p s v : Int} (h : recB p s v = false) : p < 1 ∨ 4 < p ∨ s < 1 ∨ 99 < s ∨ v < 0 ∨ 255 < v := by
  by_cases h1 : 1 ≤ p ∧ p ≤ 4 ∧ 1 ≤ s ∧ s ≤ 99 ∧ 0 ≤ v ∧ v ≤ 255
  · have : recB p s v = true := by simp [recB]; omega
    rw [this] at h; cases h
  · omega
/-- A store of a new log. -/
theorem RCells.setLog {cs : Array Value} {d : Wd} {ev : Value} {act : Int} {uv : Value} (h : RCells cs d.mem ev act uv) (k : Nat) (hk : k < 5) (l : List Rec) :
    RCells (cs.setIfInBounds (k * 15 + 4) (.string (encB l))) (rPutLog d k l).mem ev act uv := by
  have hm : ∀ i, (rPutLog d k l).mem i = if i = k then { d.mem k with log := l } else d.mem i := fun i => by simp [rPutLog, Wd.put, upd]
  refine h.set _ _ (by omega) ?_ ?_ ?_ ?_ ?_ ?_ ?_ ?_ ?_ ?_
  · intro i hi; rw [if_neg (by omega), hm]; split <;> simp_all
  · intro i hi; rw [if_neg (by omega), hm]; split <;> simp_all
  · intro i hi; rw [if_neg (by omega), hm]; split <;> simp_all
  · intro i hi; rw [if_neg (by omega), hm]; split <;> simp_all
  · intro i hi
    rw [hm]
    by_cases e : i = k
    · subst e; simp
    · rw [if_neg (by omega), if_neg e]
  · intro i j hi hj; rw [if_neg (by omega), hm]; split <;> simp_all
  · intro i j hi hj; rw [if_neg (by omega), hm]; split <;> simp_all
  · rw [if_neg (by omega)]
  · rw [if_neg (by omega)]
  · rw [if_neg (by omega)]
theorem conv_rec (r : Rec) (hok : recOk r) (B : Nat) (w : World) (h0 : w.cell? ⟨B, 0, none⟩ = some (.int .u8 r.p)) (h1 : w.cell? ⟨B, 1, none⟩ = some (.int .u8 r.s)) (h2 : w.cell? ⟨B, 2, none⟩ = some (.int .u8 r.v)) :
    (convert 129 9 (.slice (some ⟨B, 0, none⟩) 3 3)).run Try.prog w = .ok (.string (encB [r])) w := by
  rw [run_convert_bytes_string w 129 9 5 _ 3 3 Try.underlying129 Try.underlying5 Try.underlying9]
  have hl : (loadCells ⟨B, 0, none⟩ 3).run Try.prog w = .ok ([r.p, r.s, r.v].map (Value.int .u8)).toArray w := by
    refine run_loadCells_list (P := Try.prog) w ⟨B, 0, none⟩ ([r.p, r.s, r.v].map (Value.int .u8)) ?_
    intro j v hv
    rw [add_at]
    match j, hv with
    | 0, hv => simp at hv; subst hv; exact h0
    | 1, hv => simp at hv; subst hv; exact h1
    | 2, hv => simp at hv; subst hv; exact h2
    | j + 3, hv => simp at hv
  rw [run_bytesToString w _ 3 3 [r.p, r.s, r.v] hl]
  rfl
section
variable {w : World} {S : Nat → Prop} {b : Nat} {d : Wd} {ev uv : Value}

set_option maxHeartbeats 1600000 in
theorem rproduce_nil (node p s v : Int) (w : World) :
    Calls Try.prog 61 #[.pointer none, .int .i64 node, .int .i64 p, .int .i64 s, .int .i64 v] w fun e w' =>
      e = .returned (.tuple #[.int .i64 0, .bool false, .int .i64 1]) ∧ w' = w := by
  go_enter Try.func61, Try.ntmps61
  go_wp2_with (first | (go_at_call 72; refine (rref_nil _ _ _).mono ?_; rintro e w1 ⟨rfl, hw1⟩; rw [hw1]; clear hw1))
  go_ret3
  exact ⟨rfl, rfl⟩

set_option maxHeartbeats 3200000 in
set_option maxRecDepth 100000 in
theorem rproduce_err (h : RRep w S b d ev uv) (hok : ROk d) (node p s v : Int) (hold : ¬ ∃ k : Nat, node = k ∧ k < 5 ∧ rRef d (k : Int) true = 0 ∧ recB p s v = true ∧ (d.mem k).role = 3 ∧ ¬ offsetOf (d.mem k).log p s < 0)
    (hnew : ¬ ∃ k : Nat, node = k ∧ k < 5 ∧ rRef d (k : Int) true = 0 ∧ recB p s v = true ∧ (d.mem k).role = 3 ∧ offsetOf (d.mem k).log p s < 0 ∧ ¬ (1 < s ∧ offsetOf (d.mem k).log p (s - 1) < 0) ∧ (d.mem k).log.length < 60) :
    Calls Try.prog 61 #[.pointer (some ⟨b, 0, none⟩), .int .i64 node, .int .i64 p, .int .i64 s, .int .i64 v] w fun e w' =>
      e = .returned (.tuple #[.int .i64 (rProduce d node p s v).2.1, .bool (rProduce d node p s v).2.2.1, .int .i64 (rProduce d node p s v).2.2.2]) ∧
      (∃ uv', RRep w' (Ext S w) b (rProduce d node p s v).1 ev uv') ∧ Fr S w w' := by
  have H : Hid (RRep w S b d ev uv) := h
  have HO : Hid (ROk d) := hok
  by_cases hr : rRef d node true = 0
  rotate_left
  · have HF : Hid (rProduce d node p s v = (d, 0, false, rRef d node true)) := by show rProduce d node p s v = _; simp [rProduce, hr]
    have hb : (rRef d node true != 0) = true := by simp [hr]
    clear h hok hr
    go_enter Try.func61, Try.ntmps61
    go_wp2_with (first | (go_at_call 72; refine (rref_any H.out _ _).mono ?_; rintro e w1 ⟨rfl, hw1⟩; rw [hw1]; clear hw1))
    go_ret3
    rw [HF.out]
    exact ⟨rfl, ⟨_, H.out.mono fun _ _ e => Or.inl e⟩, Fr.refl _ _⟩
  obtain ⟨k, rfl, hk, _⟩ := rRef_zero hr
  have hb : (rRef d (k : Int) true != 0) = false := by simp [hr]
  have HW : Hid (rRef d (k : Int) true = 0) := hr
  clear hr
  cases hrec : recB p s v
  · have HF : Hid (rProduce d k p s v = (d, 0, false, 5)) := by show rProduce d k p s v = _; simp [rProduce, HW.out, hrec]
    have hno := recB_no hrec
    clear h hok hrec
    go_enter Try.func61, Try.ntmps61
    go_wp2_with (first | (go_at_call 72; refine (rref_any H.out _ _).mono ?_; rintro e w1 ⟨rfl, hw1⟩; rw [hw1]; clear hw1))
    all_goals
      go_ret3
      rw [HF.out]
      exact ⟨rfl, ⟨_, H.out.mono fun _ _ e => Or.inl e⟩, Fr.refl _ _⟩
  obtain ⟨p1, p2, s1, s2, v1, v2⟩ := recB_parts hrec
  obtain ⟨m0, m1, m2, m3, m4, m5, m6, m7, m8, m9, m10, m11, m12, m13, m14⟩ := h.member k hk
  have hbw := h.lt
  have hlen := hok.log k hk
  have HBy : Hid (∀ r ∈ (d.mem k).log, recOk r) := hok.byt k hk
  have hnb : ¬ b = w.heap.size := by omega
  have hfz := h.free (k * 15 + 4)
  clear h hok
  by_cases hro : (d.mem k).role = 3
  rotate_left
  · have HF : Hid (rProduce d k p s v = (d, 0, false, 6)) := by show rProduce d k p s v = _; simp [rProduce, HW.out, hrec, hro]
    have hro' : ((d.mem k).role != 3) = true := by simp [hro]
    clear hrec hro
    go_enter Try.func61, Try.ntmps61
    go_wp2_with (first | (go_at_call 72; refine (rref_any H.out _ _).mono ?_; rintro e w1 ⟨rfl, hw1⟩; rw [hw1]; clear hw1))
    go_ret3
    rw [HF.out]
    exact ⟨rfl, ⟨_, (H.out.alloc _).mono fun _ _ e => Or.inl e⟩, Fr.alloc _ _ _⟩
  have HF0 : Hid (rProduce d k p s v = rProduceAt d k p s v) := by show rProduce d k p s v = _; simp [rProduce, HW.out, hrec, hro]
  have hfol := HO.out.rol k hk (by omega)
  have hfol2 := (HO.out.fol k hk).2
  obtain ⟨q, hq⟩ : ∃ q : Nat, (d.mem k).follows = (q : Int) + 1 := ⟨((d.mem k).follows - 1).toNat, by omega⟩
  have HQ : Hid ((d.mem k).follows = (q : Int) + 1) := hq
  have hql : q < d.eras.length := by omega
  have hro2 : ((d.mem k).role != 3) = false := by simp [hro]
  have hob := offsetOf_bd (d.mem k).log p s
  have HKn : Hid (∀ j, j < 5 → 0 ≤ (d.mem k).knows j) := fun j hj => (HO.out.kno k j hk hj).1
  have HFo : Hid (1 ≤ (d.mem k).follows) := hfol
  have HRC : Hid (recB p s v = true) := hrec
  have HRO : Hid ((d.mem k).role = 3) := hro
  clear hro hrec hfol hfol2 hq
  by_cases hkk : offsetOf (d.mem k).log p s < 0
  · have HKK : Hid (offsetOf (d.mem k).log p s < 0) := hkk
    by_cases hgap : 1 < s ∧ offsetOf (d.mem k).log p (s - 1) < 0
    · have HF : Hid (rProduce d k p s v = (d, 0, false, 7)) := by show rProduce d k p s v = _; rw [HF0.out]; simp [rProduceAt, hkk, hgap]
      obtain ⟨g1, g2⟩ := hgap
      go_enter Try.func61, Try.ntmps61
      go_wp2_with (first | (go_at_call 72; refine (rref_any H.out _ _).mono ?_; rintro e w1 ⟨rfl, hw1⟩; rw [hw1]; clear hw1) | (go_at_call 73; refine (rfind_any _ hlen HBy.out _ _ _).mono ?_; rintro e w1 ⟨rfl, hw1⟩; rw [hw1]; clear hw1) | (go_at_call 74; refine (rcount_any _ hlen _).mono ?_; rintro e w1 ⟨rfl, hw1⟩; rw [hw1]; clear hw1))
      go_ret3
      rw [HF.out]
      exact ⟨rfl, ⟨_, (H.out.alloc _).mono fun _ _ e => Or.inl e⟩, Fr.alloc _ _ _⟩
    · have HG : Hid (¬ (1 < s ∧ offsetOf (d.mem k).log p (s - 1) < 0)) := hgap
      have hob2 := offsetOf_bd (d.mem k).log p (s - 1)
      by_cases hfull : 60 ≤ (d.mem k).log.length
      · have HF : Hid (rProduce d k p s v = (d, 0, false, 8)) := by show rProduce d k p s v = _; rw [HF0.out]; simp [rProduceAt, hkk, hgap, hfull]
        have hfi : (60 : Int) ≤ ((d.mem k).log.length : Int) := by omega
        by_cases g1 : 1 < s
        · have g2 : 0 ≤ offsetOf (d.mem k).log p (s - 1) := by omega
          clear hgap
          go_enter Try.func61, Try.ntmps61
          go_wp2_with (first | (go_at_call 72; refine (rref_any H.out _ _).mono ?_; rintro e w1 ⟨rfl, hw1⟩; rw [hw1]; clear hw1) | (go_at_call 73; refine (rfind_any _ hlen HBy.out _ _ _).mono ?_; rintro e w1 ⟨rfl, hw1⟩; rw [hw1]; clear hw1) | (go_at_call 74; refine (rcount_any _ hlen _).mono ?_; rintro e w1 ⟨rfl, hw1⟩; rw [hw1]; clear hw1))
          go_ret3
          rw [HF.out]
          exact ⟨rfl, ⟨_, (H.out.alloc _).mono fun _ _ e => Or.inl e⟩, Fr.alloc _ _ _⟩
        · clear hgap
          go_enter Try.func61, Try.ntmps61
          go_wp2_with (first | (go_at_call 72; refine (rref_any H.out _ _).mono ?_; rintro e w1 ⟨rfl, hw1⟩; rw [hw1]; clear hw1) | (go_at_call 73; refine (rfind_any _ hlen HBy.out _ _ _).mono ?_; rintro e w1 ⟨rfl, hw1⟩; rw [hw1]; clear hw1) | (go_at_call 74; refine (rcount_any _ hlen _).mono ?_; rintro e w1 ⟨rfl, hw1⟩; rw [hw1]; clear hw1))
          go_ret3
          rw [HF.out]
          exact ⟨rfl, ⟨_, (H.out.alloc _).mono fun _ _ e => Or.inl e⟩, Fr.alloc _ _ _⟩
      · exact absurd ⟨k, rfl, hk, HW.out, HRC.out, HRO.out, HKK.out, HG.out, by omega⟩ hnew
  · exact absurd ⟨k, rfl, hk, HW.out, HRC.out, HRO.out, hkk⟩ hold
end
end Go.Proofs.Ythpjcmilfipbaaa
