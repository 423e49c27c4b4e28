/- My own text. Walks: begun, Unheard. -/
import Derived.Test.YthpfgmdffendoaaNew
namespace Go.Proofs.Ythpfgmdffendoaa
set_option linter.unusedVariables false
set_option linter.unusedSimpArgs false
open Go.RowKit
def begunC : Clu := (produce newC 0 1 1 7).1
theorem begun_at : (produce newC 0 1 1 7).2 = (0, false, 0) := by kernel_rfl
theorem begun_ways : begunC.ways.length = 2 := by kernel_rfl
theorem begun_fetch : fetch begunC 0 0 = (⟨0, 0, 0⟩, 9) := by kernel_rfl
theorem newC_ok : Ok newC := ⟨fun k _ => Nat.zero_le _, Nat.zero_le _, by decide⟩
theorem produce_ok {c : Clu} (h : Ok c) (node p s v : Int) : Ok (produce c node p s v).1 := by
  unfold produce
  by_cases h0 : refWrite c node p s v = 0
  · simp only [h0, ne_eq, not_true_eq_false, if_false]
    by_cases h1 : 0 ≤ offsetOf (c.nodes node.toNat).log p s
    · simp only [h1, if_true]
      split
      · exact h
      · exact lackTo_ok h _ 5
    · simp only [h1, if_false]
      by_cases h2 : 1 < s ∧ offsetOf (c.nodes node.toNat).log p (s - 1) < 0
      · simp only [h2, and_self, if_true]; exact h
      · simp only [h2, if_false]
        by_cases h3 : 60 ≤ (c.nodes node.toNat).log.length
        · simp only [h3, if_true]; exact h
        · simp only [h3, if_false]; exact write_ok h _ _ (by omega)
  · simp only [ne_eq, h0, not_false_eq_true, if_true]; exact h
theorem Fr.belowN {N : Nat} {w w' : World} (h : Fr (fun k => N ≤ k) w w') (hN : N ≤ w.heap.size) : Below N w w' := h.toBelow hN fun _ e => e

set_option maxHeartbeats 3200000 in
set_option maxRecDepth 100000 in
theorem begun_any (w : World) :
    Calls Try.prog 12 #[] w fun e w' => e = .returned (.tuple #[.pointer (some ⟨w.heap.size, 0, none⟩), .bool true]) ∧
      (∃ lv ev uv mv, Rep w' (fun k => w.heap.size ≤ k) w.heap.size begunC lv ev uv mv) ∧ Below w.heap.size w w' := by
  go_enter Try.func12, Try.ntmps12
  go_wp2_with fail
  refine (new_any w).mono ?_
  rintro e w1 ⟨rfl, ⟨ev, hR1⟩, hB1⟩
  have HR1 : Hid (Rep w1 (fun k => w.heap.size ≤ k) w.heap.size newC (fun _ => nilS) ev nilS []) := hR1
  have HB1 : Hid (Below w.heap.size w w1) := hB1
  clear hR1 hB1
  go_wp2_with fail
  refine (produce_any HR1.out newC_ok 0 1 1 7).mono ?_
  rw [begun_at]
  rintro e w2 ⟨rfl, ⟨lv2, uv2, mv2, hR2⟩, hF2⟩
  have HR2 : Hid (Rep w2 (fun k => w.heap.size ≤ k) w.heap.size begunC lv2 ev uv2 mv2) := hR2.mono fun k _ e => e.elim id (fun e => Nat.le_trans HB1.out.size e)
  have HB2 : Hid (Below w.heap.size w w2) := HB1.out.trans (hF2.belowN HB1.out.size)
  clear hR2 hF2
  go_wp2_with fail
  have HO : Hid (Ok begunC) := produce_ok newC_ok 0 1 1 7
  refine (fetch_any HR2.out HO.out 0 0).mono ?_
  rw [begun_fetch]
  rintro e w3 ⟨rfl, hB3⟩
  have HR3 : Hid (Rep w3 (fun k => w.heap.size ≤ k) w.heap.size begunC lv2 ev uv2 mv2) := HR2.out.below hB3
  have HB3 : Hid (Below w.heap.size w w3) := HB2.out.trans (hB3.mono HB2.out.size)
  clear hB3
  go_wp2_with fail
  refine (messages_any (HR3.out.alloc _) HO.out).mono ?_
  rintro e w4 ⟨v, rfl, hown, hB4⟩
  rw [begun_ways] at hown
  obtain ⟨ao, cap, rfl, _⟩ := ownsRow_shape hown
  have HR4 : Hid (Rep w4 (fun k => w.heap.size ≤ k) w.heap.size begunC lv2 ev uv2 mv2) := (HR3.out.alloc _).below hB4
  have HB4 : Hid (Below w.heap.size w w4) := (HB3.out.alloc HB3.out.size _).trans (hB4.mono (by simp; have := HB3.out.size; omega))
  clear hB4 hown
  go_wp2
  go_ret2
  exact ⟨rfl, ⟨_, _, _, _, HR4.out⟩, HB4.out⟩

/-- What Unheard keeps. -/
structure Deaf (c : Clu) : Prop where
  ok : Ok c
  up : (c.nodes 0).up = true
  role : (c.nodes 0).role = 3
  fol : (c.nodes 0).follows = 1
  kno : ∀ j, (c.nodes 0).known j = 0
  eps : c.epochs = [fun i => decide (i < 3)]
  log : (c.nodes 0).log ≠ []
theorem Deaf.begun : Deaf begunC := ⟨produce_ok newC_ok 0 1 1 7, by kernel_rfl, by kernel_rfl, by kernel_rfl, fun j => rfl, by kernel_rfl, by
  have : (begunC.nodes 0).log = [⟨1, 1, 7⟩] := by kernel_rfl
  rw [this]; simp⟩
theorem Deaf.done {c : Clu} (h : Deaf c) : done c 0 = 0 := by
  have hl : 0 < (c.nodes 0).log.length := by
    rcases e : (c.nodes 0).log with _ | ⟨a, l⟩
    · exact absurd e h.log
    · simp
  have o1 : isOther c 0 1 = true := by simp [isOther, h.fol, h.eps]
  have hk := h.kno
  have nn : ∀ j, 0 ≤ doneTo c 0 j := by
    intro j
    induction j with
    | zero => simp [doneTo]
    | succ j ih => simp only [doneTo, hk]; split <;> omega
  have d2 : doneTo c 0 2 = 0 := by
    have := nn 1
    have e2 : doneTo c 0 2 = if (c.nodes 0).known 1 < doneTo c 0 1 ∧ isOther c 0 1 = true then (c.nodes 0).known 1 else doneTo c 0 1 := rfl
    rw [e2, hk, o1]
    split
    · rfl
    · rename_i hh; simp at hh; omega
  have d3 : doneTo c 0 3 = 0 := by simp only [doneTo, hk] at d2 ⊢; rw [d2]; simp
  have d4 : doneTo c 0 4 = 0 := by simp only [doneTo, hk] at d3 ⊢; rw [d3]; simp
  show doneTo c 0 5 = 0
  simp only [doneTo, hk] at d4 ⊢; rw [d4]; simp
theorem Deaf.same {c c' : Clu} (h : Deaf c) (hn : c'.nodes = c.nodes) (he : c'.epochs = c.epochs) (ho : Ok c') : Deaf c' :=
  ⟨ho, by rw [hn]; exact h.up, by rw [hn]; exact h.role, by rw [hn]; exact h.fol, by rw [hn]; exact h.kno, by rw [he]; exact h.eps, by rw [hn]; exact h.log⟩
theorem Deaf.write {c : Clu} (h : Deaf c) (r : Rec) (hl : (c.nodes 0).log.length < 60) : Deaf (write c 0 r) := by
  have e := putLog_at c 0 ((c.nodes 0).log ++ [r]) 0
  have hn := (writeTo_nodes (putLog c 0 ((c.nodes 0).log ++ [r])) 0 ((c.nodes 0).log.length) 5)
  refine ⟨write_ok h.ok 0 r hl, ?_, ?_, ?_, ?_, ?_, ?_⟩ <;> unfold Go.Proofs.Ythpfgmdffendoaa.write
  · rw [hn.1, e.1]; exact h.up
  · rw [hn.1, e.2.2.2.1]; exact h.role
  · rw [hn.1, e.2.1]; exact h.fol
  · rw [hn.1, e.2.2.2.2.1]; exact h.kno
  · rw [hn.2]; exact h.eps
  · rw [hn.1, e.2.2.2.2.2]; simp
theorem Deaf.produce {c : Clu} (h : Deaf c) (p s v : Int) : Deaf (produce c 0 p s v).1 ∧ (produce c 0 p s v).2.2.1 = false := by
  unfold Go.Proofs.Ythpfgmdffendoaa.produce
  by_cases h0 : refWrite c 0 p s v = 0
  · simp only [h0, ne_eq, not_true_eq_false, if_false]
    by_cases h1 : 0 ≤ offsetOf (c.nodes (0 : Int).toNat).log p s
    · simp only [h1, if_true]
      have hd : Go.Proofs.Ythpfgmdffendoaa.done c (0 : Int).toNat = 0 := h.done
      rw [hd]
      have : ¬ offsetOf (c.nodes (0 : Int).toNat).log p s < 0 := by omega
      simp only [this, if_false, decide_false, and_true]
      exact h.same (lackTo_nodes c _ 5).1 (lackTo_nodes c _ 5).2 (lackTo_ok h.ok _ 5)
    · simp only [h1, if_false]
      by_cases h2 : 1 < s ∧ offsetOf (c.nodes (0 : Int).toNat).log p (s - 1) < 0
      · simp only [h2, and_self, if_true, and_true]; exact h
      · simp only [h2, if_false]
        by_cases h3 : 60 ≤ (c.nodes (0 : Int).toNat).log.length
        · simp only [h3, if_true, and_true]; exact h
        · simp only [h3, if_false]
          have hw := h.write ⟨p, s, v⟩ (by have : ¬ 60 ≤ (c.nodes 0).log.length := h3; omega)
          refine ⟨hw, ?_⟩
          have hd : Go.Proofs.Ythpfgmdffendoaa.done (Go.Proofs.Ythpfgmdffendoaa.write c (0 : Int).toNat ⟨p, s, v⟩) (0 : Int).toNat = 0 := hw.done
          rw [hd]
          simp
  · simp only [ne_eq, h0, not_false_eq_true, if_true, and_true]; exact h
theorem Deaf.fetch {c : Clu} (h : Deaf c) (o : Int) (ho : 0 ≤ o) : (fetch c 0 o).2 = 9 := by
  have hr : refNode c 0 = 0 := by simp [refNode, nodeB, h.up]
  have hd := h.done
  unfold Go.Proofs.Ythpfgmdffendoaa.fetch
  have h2 : ¬ o < 0 := by omega
  have hd' : Go.Proofs.Ythpfgmdffendoaa.done c (0 : Int).toNat = 0 := hd
  have hro : (c.nodes (0 : Int).toNat).role = 3 := h.role
  simp only [hr, hro, hd', h2, ho, ne_eq, not_true_eq_false, if_false, if_true]
theorem drop_ok {c : Clu} (h : Ok c) (i : Int) : Ok (drop c i).1 := by
  unfold drop
  split
  · refine ⟨h.log, ?_, h.eps⟩
    have := List.length_eraseIdx_le c.ways i.toNat
    have := h.ways
    simp only [takeOut]; omega
  · exact h
theorem Deaf.drop {c : Clu} (h : Deaf c) (i : Int) : Deaf (drop c i).1 :=
  h.same (by unfold Go.Proofs.Ythpfgmdffendoaa.drop; split <;> rfl) (by unfold Go.Proofs.Ythpfgmdffendoaa.drop; split <;> rfl) (drop_ok h.ok i)
theorem twice_nodes (c : Clu) (i : Int) : (twice c i).1.nodes = c.nodes ∧ (twice c i).1.epochs = c.epochs := by
  unfold twice
  split
  · simp only
    split
    · exact send_nodes _ _
    · exact ⟨rfl, rfl⟩
  · exact ⟨rfl, rfl⟩
theorem twice_ok {c : Clu} (h : Ok c) (i : Int) : Ok (twice c i).1 := by
  unfold twice
  split
  · simp only
    split
    · exact send_ok h _
    · exact h
  · exact h
theorem Deaf.twice {c : Clu} (h : Deaf c) (i : Int) : Deaf (twice c i).1 :=
  h.same (twice_nodes c i).1 (twice_nodes c i).2 (twice_ok h.ok i)
theorem Deaf.seen {c : Clu} (h : Deaf c) : ∃ u e g l, seen c 0 = (⟨u, e, g, 3, l, 0⟩, 0) ∧ 0 < l := by
  have hd : Go.Proofs.Ythpfgmdffendoaa.done c (0 : Int).toNat = 0 := h.done
  have hro : (c.nodes (0 : Int).toNat).role = 3 := h.role
  refine ⟨(c.nodes 0).up, (c.nodes 0).follows, (c.nodes 0).given, (c.nodes 0).log.length, ?_, ?_⟩
  · simp [Go.Proofs.Ythpfgmdffendoaa.seen, nodeB, h.role, h.done]
  · rcases e : (c.nodes 0).log with _ | ⟨a, l⟩
    · exact absurd e h.log
    · simp
end Go.Proofs.Ythpfgmdffendoaa
