/- My own text: several texts in one. -/
import Derived.Test.YthpjcmilfipbaaaG1
import Derived.Test.YthpjcmilfipbaaaG4
namespace Go.Proofs.Ythpjcmilfipbaaa
set_option linter.unusedVariables false
set_option linter.unusedSimpArgs false
open Go.RowKit
section
variable {R : World → (Nat → Prop) → Nat → Wd → Prop} {fn : Cl → Nat} {fm fw : Nat} {w w1 : World} {own : Nat → Prop} {cb : Nat} {d : Wd}
theorem One.refuse (s : Side R fn fm fw) (h : One R w own cb d) (c : Cl) (hc : c.fits) (hn : c.next d = d) (v : Value) (hv : c.ans d = v) :
    Calls Try.prog (fn c) (c.args (.pointer (some ⟨cb, 0, none⟩))) w fun e w' => e = .returned v ∧ One R w' own cb d ∧ Fr (fun k => ¬ own k) w w' := by
  refine (h.call s c hc).mono fun e w' ⟨h1, h2, h3⟩ => ⟨by rw [h1, hv], by rw [hn] at h2; exact h2, h3⟩
set_option maxHeartbeats 3200000 in
set_option maxRecDepth 100000 in
theorem kwrong_any (s : Side R fnPrg 41 36) (h : One R w own cb d) (v : Int) (hv : In64 v) :
    Calls Try.prog 33 #[.pointer (some ⟨cb, 0, none⟩), .int .i64 v] w fun e w' => e = .returned (.bool true) ∧ One R w' own cb d ∧ Fr (fun k => ¬ own k) w w' := by
  have HS := hidK s
  have H0 := hidK h
  obtain ⟨v0, v1⟩ := hv
  have hp := pickN_bd v 1099511627776 (by omega)
  obtain ⟨q1, q2, q3, q4, q5, q6, q7, q8, q9, q10, q11⟩ := refused_all h.ok (pickN v 1099511627776) hp.1
  clear s h
  have HP := hidK (kpick_any v 1099511627776 v0 v1 (by omega))
  generalize pickN v 1099511627776 = far at *
  obtain ⟨f0, f1⟩ := hp
  have a1 : (Cl.produce (5 + far) 1 1 1).ans d = .tuple #[.int .i64 0, .bool false, .int .i64 2] := by show Value.tuple #[.int .i64 (rProduce d (5 + far) 1 1 1).2.1, .bool (rProduce d (5 + far) 1 1 1).2.2.1, .int .i64 (rProduce d (5 + far) 1 1 1).2.2.2] = _; rw [q1]
  have n1 : (Cl.produce (5 + far) 1 1 1).next d = d := (congrArg Prod.fst q1)
  have a2 : (Cl.fetch (-1 - far) 0).ans d = .tuple #[.agg #[.int .i64 0, .int .i64 0, .int .i64 0], .int .i64 2] := by show Value.tuple #[recVal (rFetch d (-1 - far) 0).1, .int .i64 (rFetch d (-1 - far) 0).2] = _; rw [q2]; rfl
  have n2 : (Cl.fetch (-1 - far) 0).next d = d := rfl
  have a3 : (Cl.deliver (50 + far)).ans d = .int .i64 13 := by show Value.int .i64 (rDeliver d (50 + far)).2 = _; rw [q3]
  have n3 : (Cl.deliver (50 + far)).next d = d := (congrArg Prod.fst q3)
  have a4 : (Cl.drop (-1 - far)).ans d = .int .i64 13 := by show Value.int .i64 (rDrop d (-1 - far)).2 = _; rw [q4]
  have n4 : (Cl.drop (-1 - far)).next d = d := (congrArg Prod.fst q4)
  have a5 : (Cl.twice (50 + far)).ans d = .int .i64 13 := by show Value.int .i64 (rTwice d (50 + far)).2 = _; rw [q5]
  have n5 : (Cl.twice (50 + far)).next d = d := (congrArg Prod.fst q5)
  have a6 : (Cl.node (5 + far)).ans d = .tuple #[.agg #[.bool false, .int .i64 0, .int .i64 0, .int .i64 0, .int .i64 0, .int .i64 0], .int .i64 2] := by show Value.tuple #[(rSeen d (5 + far)).1.val, .int .i64 (rSeen d (5 + far)).2] = _; unfold rSeen; rw [if_neg (by simp [nodeB]; omega)]; rfl
  have n6 : (Cl.node (5 + far)).next d = d := rfl
  have a7 : (Cl.crash (-1 - far)).ans d = .int .i64 2 := by show Value.int .i64 (rCrash d (-1 - far)).2 = _; rw [q7]
  have n7 : (Cl.crash (-1 - far)).next d = d := (congrArg Prod.fst q7)
  have a8 : (Cl.restart (5 + far)).ans d = .int .i64 2 := by show Value.int .i64 (rRestart d (5 + far)).2 = _; rw [q8]
  have n8 : (Cl.restart (5 + far)).next d = d := (congrArg Prod.fst q8)
  have a9 : (Cl.conf (-far) 0).ans d = .int .i64 10 := by show Value.int .i64 (rReconf d (-far) 0).2 = _; rw [q9]
  have n9 : (Cl.conf (-far) 0).next d = d := (congrArg Prod.fst q9)
  have a10 : (Cl.conf (32 + far) 0).ans d = .int .i64 10 := by show Value.int .i64 (rReconf d (32 + far) 0).2 = _; rw [q10]
  have n10 : (Cl.conf (32 + far) 0).next d = d := (congrArg Prod.fst q10)
  have a11 : (Cl.conf 1 (1 + far)).ans d = .int .i64 10 := by show Value.int .i64 (rReconf d 1 (1 + far)).2 = _; rw [q11]
  have n11 : (Cl.conf 1 (1 + far)).next d = d := (congrArg Prod.fst q11)
  have HA := hidK (And.intro a1 (And.intro a2 (And.intro a3 (And.intro a4 (And.intro a5 (And.intro a6 (And.intro a7 (And.intro a8 (And.intro a9 (And.intro a10 a11))))))))))
  have HN := hidK (And.intro n1 (And.intro n2 (And.intro n3 (And.intro n4 (And.intro n5 (And.intro n6 (And.intro n7 (And.intro n8 (And.intro n9 (And.intro n10 n11))))))))))
  clear a1 a2 a3 a4 a5 a6 a7 a8 a9 a10 a11 n1 n2 n3 n4 n5 n6 n7 n8 n9 n10 n11 q1 q2 q3 q4 q5 q6 q7 q8 q9 q10 q11
  have HF0 := hidK (Fr.refl (fun k => ¬ own k) w)
  go_enter Try.func33, Try.ntmps33
  go_wp2_with (first | (go_at_call 17; refine (HP.out _).mono ?_; rintro e w1 ⟨rfl, hw1⟩; rw [hw1]; clear hw1))
  refine (H0.out.refuse HS.out (.produce (5 + far) 1 1 1) ⟨⟨by omega, by omega⟩, ⟨by omega, by omega⟩, ⟨by omega, by omega⟩, ⟨by omega, by omega⟩⟩ HN.out.1 _ HA.out.1).mono ?_
  rintro e w1 ⟨rfl, h1, hF1⟩
  have H1 := hidK h1
  have HF1 := hidK (HF0.out.then hF1)
  clear h1 hF1 H0 HF0
  go_wp2_with fail
  refine (H1.out.refuse HS.out (.fetch (-1 - far) 0) ⟨⟨by omega, by omega⟩, ⟨by omega, by omega⟩⟩ HN.out.2.1 _ HA.out.2.1).mono ?_
  rintro e w2 ⟨rfl, h2, hF2⟩
  have H2 := hidK (h2.quiet HS.out ((Below.refl w2.heap.size w2).alloc (Nat.le_refl _) (.cells #[.int .i64 0, .int .i64 0, .int .i64 0] 36)))
  have HF2 := hidK ((HF1.out.then hF2).then (Fr.alloc _ w2 (.cells #[.int .i64 0, .int .i64 0, .int .i64 0] 36)))
  clear h2 hF2 H1 HF1
  go_wp2_with fail
  refine (H2.out.refuse HS.out (.deliver (50 + far)) ⟨by omega, by omega⟩ HN.out.2.2.1 _ HA.out.2.2.1).mono ?_
  rintro e w3 ⟨rfl, h3, hF3⟩
  have H3 := hidK h3
  have HF3 := hidK (HF2.out.then hF3)
  clear h3 hF3 H2 HF2
  go_wp2_with fail
  refine (H3.out.refuse HS.out (.drop (-1 - far)) ⟨by omega, by omega⟩ HN.out.2.2.2.1 _ HA.out.2.2.2.1).mono ?_
  rintro e w4 ⟨rfl, h4, hF4⟩
  have H4 := hidK h4
  have HF4 := hidK (HF3.out.then hF4)
  clear h4 hF4 H3 HF3
  go_wp2_with fail
  refine (H4.out.refuse HS.out (.twice (50 + far)) ⟨by omega, by omega⟩ HN.out.2.2.2.2.1 _ HA.out.2.2.2.2.1).mono ?_
  rintro e w5 ⟨rfl, h5, hF5⟩
  have H5 := hidK h5
  have HF5 := hidK (HF4.out.then hF5)
  clear h5 hF5 H4 HF4
  go_wp2_with fail
  refine (H5.out.refuse HS.out (.node (5 + far)) ⟨by omega, by omega⟩ HN.out.2.2.2.2.2.1 _ HA.out.2.2.2.2.2.1).mono ?_
  rintro e w6 ⟨rfl, h6, hF6⟩
  have H6 := hidK (h6.quiet HS.out ((Below.refl w6.heap.size w6).alloc (Nat.le_refl _) (.cells #[.bool false, .int .i64 0, .int .i64 0, .int .i64 0, .int .i64 0, .int .i64 0] 41)))
  have HF6 := hidK ((HF5.out.then hF6).then (Fr.alloc _ w6 (.cells #[.bool false, .int .i64 0, .int .i64 0, .int .i64 0, .int .i64 0, .int .i64 0] 41)))
  clear h6 hF6 H5 HF5
  go_wp2_with fail
  refine (H6.out.refuse HS.out (.crash (-1 - far)) ⟨by omega, by omega⟩ HN.out.2.2.2.2.2.2.1 _ HA.out.2.2.2.2.2.2.1).mono ?_
  rintro e w7 ⟨rfl, h7, hF7⟩
  have H7 := hidK h7
  have HF7 := hidK (HF6.out.then hF7)
  clear h7 hF7 H6 HF6
  go_wp2_with fail
  refine (H7.out.refuse HS.out (.restart (5 + far)) ⟨by omega, by omega⟩ HN.out.2.2.2.2.2.2.2.1 _ HA.out.2.2.2.2.2.2.2.1).mono ?_
  rintro e w8 ⟨rfl, h8, hF8⟩
  have H8 := hidK h8
  have HF8 := hidK (HF7.out.then hF8)
  clear h8 hF8 H7 HF7
  go_wp2_with fail
  refine (H8.out.refuse HS.out (.conf (-far) 0) ⟨⟨by omega, by omega⟩, ⟨by omega, by omega⟩⟩ HN.out.2.2.2.2.2.2.2.2.1 _ HA.out.2.2.2.2.2.2.2.2.1).mono ?_
  rintro e w9 ⟨rfl, h9, hF9⟩
  have H9 := hidK h9
  have HF9 := hidK (HF8.out.then hF9)
  clear h9 hF9 H8 HF8
  go_wp2_with fail
  refine (H9.out.refuse HS.out (.conf (32 + far) 0) ⟨⟨by omega, by omega⟩, ⟨by omega, by omega⟩⟩ HN.out.2.2.2.2.2.2.2.2.2.1 _ HA.out.2.2.2.2.2.2.2.2.2.1).mono ?_
  rintro e w10 ⟨rfl, h10, hF10⟩
  have H10 := hidK h10
  have HF10 := hidK (HF9.out.then hF10)
  clear h10 hF10 H9 HF9
  go_wp2_with fail
  refine (H10.out.refuse HS.out (.conf 1 (1 + far)) ⟨⟨by omega, by omega⟩, ⟨by omega, by omega⟩⟩ HN.out.2.2.2.2.2.2.2.2.2.2 _ HA.out.2.2.2.2.2.2.2.2.2.2).mono ?_
  rintro e w11 ⟨rfl, h11, hF11⟩
  have H11 := hidK h11
  have HF11 := hidK (HF10.out.then hF11)
  clear h11 hF11 H10 HF10
  go_wp2_with fail
  go_ret
  exact ⟨rfl, H11.out, HF11.out⟩
end
end Go.Proofs.Ythpjcmilfipbaaa

namespace Go.Proofs.Ythpjcmilfipbaaa
set_option linter.unusedVariables false
set_option linter.unusedSimpArgs false
open Go.RowKit
/-- Two clusters that share no block, with each other and with what is the caller's own. -/
def Duo (R : World → (Nat → Prop) → Nat → Wd → Prop) (w : World) (own : Nat → Prop) (cx cy : Nat) (dx dy : Wd) : Prop :=
  ∃ Sx Sy, R w Sx cx dx ∧ R w Sy cy dy ∧ (∀ k, Sx k → ¬ Sy k) ∧ (∀ k, own k → ¬ Sx k) ∧ (∀ k, own k → ¬ Sy k) ∧ (∀ k, Sx k → k < w.heap.size) ∧ (∀ k, Sy k → k < w.heap.size) ∧ (∀ k, own k → k < w.heap.size) ∧ ROk dx ∧ ROk dy
section
variable {R : World → (Nat → Prop) → Nat → Wd → Prop} {fn : Cl → Nat} {fm fw : Nat} {w w1 : World} {own : Nat → Prop} {cx cy : Nat} {dx dy : Wd}
theorem Duo.symm (h : Duo R w own cx cy dx dy) : Duo R w own cy cx dy dx := by
  obtain ⟨Sx, Sy, h1, h2, h3, h4, h5, h6, h7, h8, h9, h10⟩ := h
  exact ⟨Sy, Sx, h2, h1, fun k a b => h3 k b a, h5, h4, h7, h6, h8, h10, h9⟩
/-- The one of them, the other being the caller's own for now. -/
theorem Duo.open (s : Side R fn fm fw) (h : Duo R w own cx cy dx dy) : ∃ ownx : Nat → Prop, One R w ownx cx dx ∧ (∀ k, own k → ownx k) ∧ ∀ w' dx', One R w' ownx cx dx' → Fr (fun k => ¬ ownx k ∨ own k) w w' → Duo R w' own cx cy dx' dy := by
  obtain ⟨Sx, Sy, h1, h2, h3, h4, h5, h6, h7, h8, h9, h10⟩ := h
  refine ⟨fun k => own k ∨ Sy k, ⟨⟨Sx, h1, fun k hk e => hk.elim (fun x => h4 k x e) fun x => h3 k e x⟩, h9, fun k hk => hk.elim (h8 k) (h7 k)⟩, fun k hk => Or.inl hk, fun w' dx' ho hf => ?_⟩
  obtain ⟨Sx', q1, q2⟩ := ho.rep
  exact ⟨fun k => Sx' k ∧ k < w'.heap.size, Sy, s.mono q1 fun k hk e => ⟨e, hk⟩, s.same h2 fun k hs hk => hf.block k hk fun e => e.elim (fun x => x (Or.inr hs)) fun x => h5 k x hs, fun k a b => q2 k (Or.inr b) a.1, fun k a b => q2 k (Or.inl a) b.1, h5, fun k a => a.2,
    fun k a => Nat.lt_of_lt_of_le (h7 k a) hf.size, fun k a => Nat.lt_of_lt_of_le (h8 k a) hf.size, ho.ok, h10⟩
theorem Duo.callx (s : Side R fn fm fw) (h : Duo R w own cx cy dx dy) (c : Cl) (hc : c.fits) :
    Calls Try.prog (fn c) (c.args (.pointer (some ⟨cx, 0, none⟩))) w fun e w' => e = .returned (c.ans dx) ∧ Duo R w' own cx cy (c.next dx) dy ∧ Fr (fun k => ¬ own k) w w' := by
  obtain ⟨ownx, h1, h2, h3⟩ := h.open s
  exact (h1.call s c hc).mono fun e w' ⟨q1, q2, q3⟩ => ⟨q1, h3 w' _ q2 (q3.mono fun k e => Or.inl e), q3.mono fun k e x => e (h2 k x)⟩
theorem Duo.cally (s : Side R fn fm fw) (h : Duo R w own cx cy dx dy) (c : Cl) (hc : c.fits) :
    Calls Try.prog (fn c) (c.args (.pointer (some ⟨cy, 0, none⟩))) w fun e w' => e = .returned (c.ans dy) ∧ Duo R w' own cx cy dx (c.next dy) ∧ Fr (fun k => ¬ own k) w w' :=
  (h.symm.callx s c hc).mono fun e w' ⟨q1, q2, q3⟩ => ⟨q1, q2.symm, q3⟩
theorem Duo.more (s : Side R fn fm fw) (h : Duo R w own cx cy dx dy) (hb : Below w.heap.size w w1) (own' : Nat → Prop) (ho : ∀ k, own' k → own k ∨ (w.heap.size ≤ k ∧ k < w1.heap.size)) : Duo R w1 own' cx cy dx dy := by
  obtain ⟨Sx, Sy, h1, h2, h3, h4, h5, h6, h7, h8, h9, h10⟩ := h
  exact ⟨Sx, Sy, s.same h1 fun k _ hk => hb.block k hk, s.same h2 fun k _ hk => hb.block k hk, h3,
    fun k a b => (ho k a).elim (fun x => h4 k x b) fun x => by have := h6 k b; omega, fun k a b => (ho k a).elim (fun x => h5 k x b) fun x => by have := h7 k b; omega,
    fun k a => Nat.lt_of_lt_of_le (h6 k a) hb.size, fun k a => Nat.lt_of_lt_of_le (h7 k a) hb.size, fun k a => (ho k a).elim (fun x => Nat.lt_of_lt_of_le (h8 k x) hb.size) fun x => x.2, h9, h10⟩
theorem Duo.quiet (s : Side R fn fm fw) (h : Duo R w own cx cy dx dy) (hb : Below w.heap.size w w1) : Duo R w1 own cx cy dx dy := h.more s hb own fun k a => Or.inl a
theorem Duo.sub (h : Duo R w own cx cy dx dy) {own' : Nat → Prop} (ho : ∀ k, own' k → own k) : Duo R w own' cx cy dx dy := by
  obtain ⟨Sx, Sy, h1, h2, h3, h4, h5, h6, h7, h8, h9, h10⟩ := h
  exact ⟨Sx, Sy, h1, h2, h3, fun k a => h4 k (ho k a), fun k a => h5 k (ho k a), h6, h7, fun k a => h8 k (ho k a), h9, h10⟩
theorem Duo.own_lt (h : Duo R w own cx cy dx dy) : ∀ k, own k → k < w.heap.size := by
  obtain ⟨Sx, Sy, h1, h2, h3, h4, h5, h6, h7, h8, h9, h10⟩ := h
  exact h8
theorem Duo.msgsx (s : Side R fn fm fw) (h : Duo R w own cx cy dx dy) :
    Calls Try.prog fm #[.pointer (some ⟨cx, 0, none⟩)] w fun e w' => ∃ v, e = .returned (.tuple #[v, .int .i64 0]) ∧ w'.ownsRow w.heap.size 109 5 v dx.way.length (seeCellsR dx.way) ∧ Below w.heap.size w w' := by
  obtain ⟨ownx, h1, h2, h3⟩ := h.open s
  exact h1.msgs s
theorem Duo.okx (h : Duo R w own cx cy dx dy) : ROk dx := by
  obtain ⟨Sx, Sy, h1, h2, h3, h4, h5, h6, h7, h8, h9, h10⟩ := h
  exact h9
/-- Two that are begun one behind the other. -/
theorem Duo.two (s : Side R fn fm fw) {n : Nat} (h : One R w own cx dx) (h2 : One R w1 (fun k => k < w.heap.size) cy dy) (hb : Below w.heap.size w w1) : Duo R w1 own cx cy dx dy := by
  obtain ⟨Sx, q1, q2⟩ := h.rep
  obtain ⟨Sy, p1, p2⟩ := h2.rep
  exact ⟨fun k => Sx k ∧ k < w.heap.size, fun k => Sy k ∧ k < w1.heap.size, s.same (s.mono q1 fun k hk e => ⟨e, hk⟩) fun k _ hk => hb.block k hk, s.mono p1 fun k hk e => ⟨e, hk⟩, fun k a b => p2 k a.2 b.1, fun k a b => q2 k a b.1, fun k a b => p2 k (h.lt k a) b.1,
    fun k a => Nat.lt_of_lt_of_le a.2 hb.size, fun k a => a.2, fun k a => Nat.lt_of_lt_of_le (h.lt k a) hb.size, h.ok, h2.ok⟩
end
end Go.Proofs.Ythpjcmilfipbaaa
