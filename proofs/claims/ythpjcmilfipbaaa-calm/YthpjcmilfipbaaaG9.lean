/- My own text: several texts in one. -/
import Derived.Test.YthpjcmilfipbaaaG8
namespace Go.Proofs.Ythpjcmilfipbaaa
set_option linter.unusedVariables false
set_option linter.unusedSimpArgs false
open Go.RowKit
section
variable {R : World → (Nat → Prop) → Nat → Wd → Prop} {fn : Cl → Nat} {fm fw : Nat} {w w1 : World} {own : Nat → Prop} {cb bb : Nat} {d : Wd} {tb : Nat → Rec}
theorem Kg.more (s : Side R fn fm fw) (h : Kg R own cb bb d tb w) (hb : Below w.heap.size w w1) (own' : Nat → Prop) (hm : own' bb) (ho : ∀ k, own' k → own k ∨ (w.heap.size ≤ k ∧ k < w1.heap.size)) : Kg R own' cb bb d tb w1 :=
  ⟨h.one.more s hb own' ho, h.book.same (hb.block bb h.book.lt), hm, h.inv⟩
theorem Kg.sub (h : Kg R own cb bb d tb w) {own' : Nat → Prop} (hm : own' bb) (ho : ∀ k, own' k → own k) : Kg R own' cb bb d tb w := ⟨h.one.sub ho, h.book, hm, h.inv⟩
theorem Serves.node {e : Int} {k : Nat} {L : List Era} (h : Serves d e k L) (hk : k < 5) : ∃ (u0 : Bool) (u1 u2 u4 u5 : Int), (Cl.node k).ans d = .tuple #[.agg #[.bool u0, .int .i64 u1, .int .i64 u2, .int .i64 3, .int .i64 u4, .int .i64 u5], .int .i64 0] := by
  have hb : nodeB (k : Int) = true := by simp [nodeB]; omega
  have : (rSeen d k).1.role = 3 ∧ (rSeen d k).2 = 0 := by unfold rSeen; rw [if_pos hb]; exact ⟨h.role, rfl⟩
  refine ⟨(rSeen d k).1.up, (rSeen d k).1.epoch, (rSeen d k).1.installed, (rSeen d k).1.len, (rSeen d k).1.done, ?_⟩
  show Value.tuple #[(rSeen d k).1.val, .int .i64 (rSeen d k).2] = _
  rw [this.2]
  unfold ShowR.val
  rw [this.1]
set_option maxHeartbeats 6400000 in
set_option maxRecDepth 100000 in
theorem kserves_any (s : Side R fnPrg 41 36) (h : Kg R own cb bb d tb w) {e : Int} {L : List Era} {N : Nat} (k : Nat) (hk : k < 5) (hsv : Serves d e k L) (hsm : Small d N) (hN : N < 60) (he : ((d.eras.length : Nat) : Int) = e) :
    Calls Try.prog 32 #[.pointer (some ⟨bb, 0, none⟩), .pointer (some ⟨cb, 0, none⟩), .int .i64 k] w fun e w' => e = .returned (.bool true) ∧ Fr (MayTurn own bb) w w' := by
  have HS := hidK s
  obtain ⟨g, hi, hbk⟩ := h.inv
  have HI := hidK hi
  have HBk := hidK hbk
  have HSv := hidK hsv
  have hlen : (d.mem k).log.length ≤ 60 := h.one.ok.log k hk
  have HR := hidK (calm_record hsv hi h.one.ok hsm hN hk he)
  obtain ⟨u0, u1, u2, u4, u5, hn⟩ := hsv.node hk
  have HC := hidK (h.call s (.node k) ⟨by omega, by omega⟩)
  rw [hn] at HC
  clear s h hi hbk hsv hsm he hn
  have hk0 : (0 : Int) ≤ (k : Int) := by omega
  have hk1 : (k : Int) < 5 := by omega
  go_enter Try.func32, Try.ntmps32
  go_wp2_with fail
  refine HC.out.mono ?_
  rintro e w1 ⟨rfl, hK1, hF1⟩
  have hK1 : Kg R own cb bb d tb w1 := hK1
  have HK1 := hidK (hK1.quiet HS.out ((Below.refl w1.heap.size w1).alloc (Nat.le_refl _) (.cells #[.bool u0, .int .i64 u1, .int .i64 u2, .int .i64 3, .int .i64 u4, .int .i64 u5] 41)))
  have HF1 := hidK (hF1.then (Fr.alloc _ w1 (.cells #[.bool u0, .int .i64 u1, .int .i64 u2, .int .i64 3, .int .i64 u4, .int .i64 u5] 41)))
  clear hK1 hF1 HC
  go_wp2_with fail
  go_loopw [9] (fun t wr => ∃ j : Nat, j ≤ 60 ∧ t = .int .i64 j ∧ Kg R own cb bb d tb wr ∧ Fr (MayTurn own bb) w wr) (fun t _ => 60 - (intOf t).toNat)
  case atStart => exact ⟨0, Nat.zero_le _, rfl, HK1.out, HF1.out⟩
  case round =>
    obtain ⟨j, hj60, rfl, hK, hF⟩ := hrel
    have HK := hidK hK
    have HF := hidK hF
    clear hK hF HK1 HF1
    by_cases hj : j < 60
    · obtain ⟨b0, b1, b2⟩ := HK.out.book.cells j hj
      have hbl := HK.out.book.lt
      have hj0 : (0 : Int) ≤ (j : Int) := by omega
      have hj1 : (j : Int) < 60 := by omega
      by_cases hp : (tb j).p = 0
      · have hpb : ((tb j).p == 0) = true := by simp [hp]
        clear hp
        go_wp2_with fail
        go_roundw
        case rel => exact ⟨j + 1, by omega, by go_num, HK.out.quiet HS.out ((Below.refl _ _).alloc (Nat.le_refl _) _), HF.out.then (Fr.alloc _ _ _)⟩
        case measure => simp [intOf]; omega
      · obtain ⟨r, r1, r2, r3, r4⟩ := HBk.out j hj hp
        have hfe := HSv.out.fetch HI.out hk r1
        have hpb : ((tb j).p == 0) = false := by simp [hp]
        have hK2 := HK.out.more HS.out ((Below.refl wr.heap.size wr).alloc (Nat.le_refl _) (.cells #[.int .i64 (tb j).p, .int .i64 (tb j).s, .int .i64 (tb j).v] 36)) (fun q => own q ∨ q = wr.heap.size) (Or.inl HK.out.mine) (fun q hq => hq.elim Or.inl fun e => Or.inr ⟨by omega, by simp; omega⟩)
        have HC2 := hidK (hK2.call HS.out (.fetch k j) ⟨⟨by omega, by omega⟩, ⟨by omega, by omega⟩⟩)
        have e2 : (Cl.fetch k j).ans d = .tuple #[.agg #[.int .i64 (tb j).p, .int .i64 (tb j).s, .int .i64 r.v], .int .i64 0] := by
          show Value.tuple #[recVal (rFetch d k j).1, .int .i64 (rFetch d k j).2] = _
          rw [hfe]; unfold recVal; rw [r2, r3]
        rw [e2] at HC2
        have HF2 := hidK (HF.out.then (Fr.alloc (MayTurn own bb) wr (.cells #[.int .i64 (tb j).p, .int .i64 (tb j).s, .int .i64 (tb j).v] 36)))
        have hmine := HK.out.mine
        clear hK2 e2 hfe r1 r2 r3 hp
        generalize hv : (tb j).v = tv at *
        generalize (tb j).p = tp at *
        generalize (tb j).s = ts at *
        generalize r.v = rv at *
        clear hv
        go_wp2_with fail
        refine HC2.out.mono ?_
        rintro e w3 ⟨rfl, hK3, hF3⟩
        have hA : w3.heap[wr.heap.size]? = some (.cells #[.int .i64 tp, .int .i64 ts, .int .i64 tv] 36) := (hF3.block _ (by simp) fun e => e.elim (fun e => e (Or.inr rfl)) fun e => by omega).trans (heap_alloc_new wr _)
        have hlt : wr.heap.size < w3.heap.size := (Array.getElem?_eq_some_iff.1 hA).1
        have a0 : w3.cell? ⟨wr.heap.size, 0, none⟩ = some (.int .i64 tp) := (cell_of_row _ _ _ _ _ _ hA).trans rfl
        have a1 : w3.cell? ⟨wr.heap.size, 1, none⟩ = some (.int .i64 ts) := (cell_of_row _ _ _ _ _ _ hA).trans rfl
        have a2 : w3.cell? ⟨wr.heap.size, 2, none⟩ = some (.int .i64 tv) := (cell_of_row _ _ _ _ _ _ hA).trans rfl
        have HK3 := hidK (show Kg R own cb bb d tb w3 from hK3.sub hmine fun q e => Or.inl e)
        have HF3 := hidK (HF2.out.then (hF3.mono (S' := MayTurn own bb) fun q e => e.elim (fun e => Or.inl fun x => e (Or.inl x)) Or.inr))
        clear hK3 hF3 hA HC2 HF2
        by_cases hv0 : 0 ≤ tv
        · have := r4 hv0
          subst this
          clear r4
          go_wp2_with fail
          go_roundw
          case rel => exact ⟨j + 1, by omega, by go_num, HK3.out.quiet HS.out ((Below.refl _ _).alloc (Nat.le_refl _) _), HF3.out.then (Fr.alloc _ _ _)⟩
          case measure => simp [intOf]; omega
        · clear r4
          go_wp2_with fail
          go_roundw
          case rel => exact ⟨j + 1, by omega, by go_num, HK3.out.quiet HS.out ((Below.refl _ _).alloc (Nat.le_refl _) _), HF3.out.then (Fr.alloc _ _ _)⟩
          case measure => simp [intOf]; omega
    · have : j = 60 := by omega
      subst this
      obtain ⟨⟨q1, q2⟩, n, hn20, q3, q4, q5⟩ := HR.out
      have HQ3 := hidK q3
      have HQ4 := hidK q4
      have HQ5 := hidK q5
      have HC3 := hidK (HK.out.call HS.out (.produce k 4 1 200) ⟨⟨by omega, by omega⟩, ⟨by omega, by omega⟩, ⟨by omega, by omega⟩, ⟨by omega, by omega⟩⟩)
      have e3 : (Cl.produce k 4 1 200).ans d = .tuple #[.int .i64 (d.mem k).log.length, .bool (rProduce d k 4 1 200).2.2.1, .int .i64 0] := by
        show Value.tuple #[.int .i64 (rProduce d k 4 1 200).2.1, .bool (rProduce d k 4 1 200).2.2.1, .int .i64 (rProduce d k 4 1 200).2.2.2] = _
        rw [q1, q2]
      rw [e3] at HC3
      generalize (rProduce d k 4 1 200).2.2.1 = tt at HC3
      clear q1 q2 q3 q4 q5 e3 HR
      go_wp2_with fail
      refine HC3.out.mono ?_
      rintro e w3 ⟨rfl, hK3, hF3⟩
      have HC4 := hidK (ksettled_any HS.out hK3 n (by omega) HQ3.out)
      have HF3 := hidK (HF.out.then hF3)
      clear hK3 hF3 HC3
      go_wp2_with fail
      refine HC4.out.mono ?_
      rintro e w4 ⟨rfl, hK4, hF4⟩
      have HF4 := hidK (HF3.out.then hF4)
      have HC5 := hidK (hK4.call HS.out (.produce k 4 1 0) ⟨⟨by omega, by omega⟩, ⟨by omega, by omega⟩, ⟨by omega, by omega⟩, ⟨by omega, by omega⟩⟩)
      have e5 : (Cl.produce k 4 1 0).ans (dlvN n ((Cl.produce k 4 1 200).next d)) = .tuple #[.int .i64 (d.mem k).log.length, .bool true, .int .i64 0] := by
        show Value.tuple #[.int .i64 (rProduce (dlvN n (rProduce d k 4 1 200).1) k 4 1 0).2.1, .bool (rProduce (dlvN n (rProduce d k 4 1 200).1) k 4 1 0).2.2.1, .int .i64 (rProduce (dlvN n (rProduce d k 4 1 200).1) k 4 1 0).2.2.2] = _
        rw [HQ4.out]
      rw [e5] at HC5
      clear hK4 hF4 HC4 e5
      go_wp2_with fail
      refine HC5.out.mono ?_
      rintro e w5 ⟨rfl, hK5, hF5⟩
      have hK5 : Kg R own cb bb (rProduce (dlvN n (rProduce d k 4 1 200).1) k 4 1 0).1 tb w5 := hK5
      rw [HQ4.out] at hK5
      have HF5 := hidK (HF4.out.then hF5)
      have HC6 := hidK (hK5.call HS.out (.fetch k (d.mem k).log.length) ⟨⟨by omega, by omega⟩, ⟨by omega, by omega⟩⟩)
      have e6 : (Cl.fetch k (d.mem k).log.length).ans (dlvN n (rProduce d k 4 1 200).1) = .tuple #[.agg #[.int .i64 4, .int .i64 1, .int .i64 200], .int .i64 0] := by
        show Value.tuple #[recVal (rFetch (dlvN n (rProduce d k 4 1 200).1) k (d.mem k).log.length).1, .int .i64 (rFetch (dlvN n (rProduce d k 4 1 200).1) k (d.mem k).log.length).2] = _
        rw [HQ5.out]; rfl
      have HC7 : Hid (Calls Try.prog (fnPrg (.fetch k (d.mem k).log.length)) ((Cl.fetch k (d.mem k).log.length).args (.pointer (some ⟨cb, 0, none⟩))) w5 fun e w' => e = .returned (.tuple #[.agg #[.int .i64 4, .int .i64 1, .int .i64 200], .int .i64 0]) ∧ Fr (MayTurn own bb) w5 w') := HC6.out.mono fun e w' ⟨q1, q2, q3⟩ => ⟨by rw [q1, e6], q3⟩
      clear hK5 hF5 HC5 e6 HC6
      generalize ((d.mem k).log.length : Nat) = ln at *
      go_wp2_with (first | (go_at_call 19; refine HC7.out.mono ?_; rintro e w6 ⟨rfl, hF6⟩; have HF6 := hidK (HF5.out.then hF6); clear hF6))
      go_ret
      exact ⟨ret_boolR (by simp), HF6.out.then (Fr.alloc _ _ _)⟩
end
end Go.Proofs.Ythpjcmilfipbaaa
