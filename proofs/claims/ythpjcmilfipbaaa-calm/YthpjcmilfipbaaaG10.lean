/- My own text: several texts in one. -/
import Derived.Test.YthpjcmilfipbaaaG9
import Derived.Test.YthpjcmilfipbaaaK7
namespace Go.Proofs.Ythpjcmilfipbaaa
set_option linter.unusedVariables false
set_option linter.unusedSimpArgs false
open Go.RowKit
theorem eras_hands (d : Wd) (k : Nat) : (rHands d k).eras = d.eras := by
  unfold rHands; split
  · exact (rSends_same _ _).2.1
  · exact (rHandsTo_same d k (d.mem k) 5).2.1
theorem eras_starts (d : Wd) (k : Nat) (e : Int) : (rStarts d k e).eras = d.eras := by
  unfold rStarts rStart2
  have h : (rWake (rFollows d k e 1) k e).eras = d.eras := by rw [(rWake_mem _ k e).2, rFollows_eras]
  split
  · rw [(rReadsTo_same _ k e _ 5).2.1, h]
  · split
    · rw [eras_hands, h]
    · exact h
theorem eras_leads (d : Wd) (k : Nat) (m : Msg) : (rLeads d k m).eras = d.eras := by
  unfold rLeads
  split
  · rw [eras_hands]; rfl
  split
  · split
    · exact (rSends_same _ _).2.1
    · rfl
  split
  · rfl
  split
  · rw [rAck_eras, (rKnow_keeps _ _ _ _).1]
  · rfl
theorem eras_takes (d : Wd) (k : Nat) (m : Msg) : (rTakes d k m).eras = d.eras := by
  unfold rTakes rSay
  split
  · rfl
  split
  · exact eras_starts _ _ _
  split
  · rw [(rSends_same _ _).2.1, rFollows_eras]
  split
  · split
    · rw [(rSends_same _ _).2.1]; exact rFollows_eras _ _ _ _
    · rw [(rSends_same _ _).2.1, rFollows_eras]
  split
  · split
    · rw [(rSends_same _ _).2.1]; unfold rTakeAppend; split <;> rfl
    · rfl
  split
  · exact eras_leads _ _ _
  · rfl
theorem eras_deliver (d : Wd) (i : Int) : (rDeliver d i).1.eras = d.eras := by
  unfold rDeliver
  split
  · show (match d.way[i.toNat]? with | some m => rGet (rOut d i.toNat) m | none => d).eras = d.eras
    split
    · rename_i m _
      unfold rGet
      split
      · unfold rMaster; split
        · exact (rSends_same _ _).2.1
        · rfl
      split
      · exact eras_takes _ _ _
      · rfl
    · rfl
  · rfl
theorem eras_produce (d : Wd) (n p s v : Int) : (rProduce d n p s v).1.eras = d.eras := by
  unfold rProduce
  split
  · rfl
  split
  · rfl
  split
  · rfl
  unfold rProduceAt
  split
  · split
    · rfl
    split
    · rfl
    · exact (rProdTo_same _ _ _ _ _ _ 5).2.1
  · exact (rProdTo_same _ _ _ _ _ _ 5).2.1
theorem eras_cl (d : Wd) (c : Cl) : (c.next d).eras.length ≤ d.eras.length + 1 := by
  cases c with
  | produce a b s v => show (rProduce d a b s v).1.eras.length ≤ _; rw [eras_produce]; omega
  | fetch a b => exact Nat.le_succ _
  | deliver a => show (rDeliver d a).1.eras.length ≤ _; rw [eras_deliver]; omega
  | drop a => show (rDrop d a).1.eras.length ≤ _; unfold rDrop; split <;> exact Nat.le_succ _
  | twice a =>
    show (rTwice d a).1.eras.length ≤ _
    unfold rTwice; split
    · show (match d.way[a.toNat]? with | some m => rSends d m | none => d).eras.length ≤ _
      split
      · rw [(rSends_same _ _).2.1]; omega
      · omega
    · exact Nat.le_succ _
  | node a => exact Nat.le_succ _
  | crash a => show (rCrash d a).1.eras.length ≤ _; unfold rCrash; split <;> exact Nat.le_succ _
  | restart a =>
    show (rRestart d a).1.eras.length ≤ _
    unfold rRestart; split
    · exact Nat.le_succ _
    · split <;> exact Nat.le_succ _
  | conf a b =>
    show (rReconf d a b).1.eras.length ≤ _
    unfold rReconf
    split
    · exact Nat.le_succ _
    split
    · exact Nat.le_succ _
    split
    · exact Nat.le_succ _
    · rw [(rSends_same _ _).2.1]; simp
  | remind =>
    show (rRemind d).1.eras.length ≤ _
    unfold rRemind; split
    · exact Nat.le_succ _
    · rw [(rSends_same _ _).2.1]; omega
  | config => exact Nat.le_succ _
theorem opD_cl (d : Wd) (k a b c v : Int) : ∃ x : Cl, opD d k a b c v = x.next d ∧ ∀ n p s u, x = .produce n p s u → p ≠ 4 := by
  have hb := pickN_bd b 3 (by omega)
  have h5 := pickN_bd k 10 (by omega)
  unfold opD wrD
  by_cases h0 : pickN k 10 = 0
  · rw [if_pos (Or.inl h0), if_pos h0]
    exact ⟨.produce (pickN a 5) (1 + pickN b 3) (1 + pickN c 99) (pickN v 256), rfl, fun n p s u e => by injection e with _ e2 _ _; omega⟩
  by_cases h1 : pickN k 10 = 1
  · rw [if_pos (Or.inr h1), if_neg h0]
    exact ⟨.config, rfl, fun n p s u e => by cases e⟩
  rw [if_neg (by omega)]
  by_cases h2 : pickN k 10 = 2
  · rw [if_pos h2]; exact ⟨.drop (pickN a 50), rfl, fun n p s u e => by cases e⟩
  rw [if_neg h2]
  by_cases h3 : pickN k 10 = 3
  · rw [if_pos h3]; exact ⟨.twice (pickN a 50), rfl, fun n p s u e => by cases e⟩
  rw [if_neg h3]
  by_cases h4 : pickN k 10 = 4
  · rw [if_pos h4]; exact ⟨.crash (pickN a 5), rfl, fun n p s u e => by cases e⟩
  rw [if_neg h4]
  by_cases h6 : pickN k 10 = 5
  · rw [if_pos h6]; exact ⟨.restart (pickN a 5), rfl, fun n p s u e => by cases e⟩
  rw [if_neg h6]
  by_cases h7 : pickN k 10 = 6
  · rw [if_pos h7]; exact ⟨.conf (1 + pickN a 31) (pickN b 5), rfl, fun n p s u e => by cases e⟩
  rw [if_neg h7]
  by_cases h8 : pickN k 10 = 7
  · rw [if_pos h8]; exact ⟨.remind, rfl, fun n p s u e => by cases e⟩
  rw [if_neg h8]
  exact ⟨.deliver (pickN a 50), rfl, fun n p s u e => by cases e⟩
theorem Small.restart1 {d : Wd} {N : Nat} (h : Small d N) (n : Nat) (hn : n < 5) : Small (rRestart d n).1 N := by
  unfold rRestart
  split
  · exact h
  split
  · exact h
  · exact h.put _ _ (h.log _ (by simpa using hn))
theorem Small.upN {N : Nat} : ∀ (n : Nat) (d : Wd), n ≤ 5 → Small d N → Small (upN n d) N
  | 0, d, _, h => h
  | n + 1, d, h5, h => (Small.upN n d (by omega) h).restart1 n (by omega)
theorem Small.drop1 {d : Wd} {N : Nat} (h : Small d N) : Small (rDrop d 0).1 N := by
  unfold rDrop; split
  · exact h.out _
  · exact h
theorem Small.dropN {N : Nat} : ∀ (n : Nat) (d : Wd), Small d N → Small (dropN n d) N
  | 0, d, h => h
  | n + 1, d, h => (Small.dropN n d h).drop1
theorem Small.dlvN {N : Nat} : ∀ (n : Nat) (d : Wd), ROk d → Small d N → Small (dlvN n d) N
  | 0, d, _, h => h
  | n + 1, d, hok, h => Small.dlvN n (dlv d) (hok.deliver 0) (h.deliver hok 0)
theorem Small.begun : Small dBegun 1 := Small.cl Small.new ROk.new (.produce 0 1 1 7) (fun a b s v e => by injection e with _ e2 _ _; omega)
/-- What is known of the state behind k steps. -/
structure Cw (d : Wd) (k : Nat) : Prop where
  small : Small d (1 + k)
  eras : d.eras.length ≤ 1 + k
theorem Cw.begun : Cw dBegun 0 := ⟨Small.begun, by decide⟩
theorem Cw.step {d : Wd} {n : Nat} (h : Cw d n) (hok : ROk d) (k a b c v : Int) : Cw (opD d k a b c v) (n + 1) := by
  obtain ⟨x, hx, hp⟩ := opD_cl d k a b c v
  rw [hx]
  exact ⟨h.small.cl hok x hp, by have := eras_cl d x; have := h.eras; omega⟩
end Go.Proofs.Ythpjcmilfipbaaa

namespace Go.Proofs.Ythpjcmilfipbaaa
set_option linter.unusedVariables false
set_option linter.unusedSimpArgs false
open Go.RowKit
theorem or_m (aa kk : Nat) (ha : aa < 31) (hk : kk < 5) : 1 ≤ bits BinOp.or IntKind.i64 (1 + (aa : Int)) (wrap64 (2 ^ kk)) ∧ bits BinOp.or IntKind.i64 (1 + (aa : Int)) (wrap64 (2 ^ kk)) < 32 ∧ bits BinOp.or IntKind.i64 (1 + (aa : Int)) (wrap64 (2 ^ kk)) / 2 ^ kk % 2 ≠ 0 := by
  have h : ∀ (a : Fin 31) (k : Fin 5), 1 ≤ bits BinOp.or IntKind.i64 (1 + ((a : Nat) : Int)) (wrap64 (2 ^ (k : Nat))) ∧ bits BinOp.or IntKind.i64 (1 + ((a : Nat) : Int)) (wrap64 (2 ^ (k : Nat))) < 32 ∧ bits BinOp.or IntKind.i64 (1 + ((a : Nat) : Int)) (wrap64 (2 ^ (k : Nat))) / 2 ^ (k : Nat) % 2 ≠ 0 := by decide +kernel
  exact h ⟨aa, ha⟩ ⟨kk, hk⟩
theorem calm_all {d : Wd} {k : Nat} (hok : ROk d) (hok1 : ROk (dropN 50 (upN 5 d))) (hc : Cw d k) (hk : k ≤ 30) (m : Int) (kk : Nat) (hkk : kk < 5) (h1 : 1 ≤ m) (h2 : m < 32) (h3 : m / 2 ^ kk % 2 ≠ 0) :
    (rReconf (dropN 50 (upN 5 d)) m kk).2 = 0 ∧ ∃ n, n ≤ 40 ∧ ∃ (L : List Era) (e : Int), Serves (dlvN n (rReconf (dropN 50 (upN 5 d)) m kk).1) e kk L ∧ Small (dlvN n (rReconf (dropN 50 (upN 5 d)) m kk).1) 32 ∧
      (1 ≤ e ∧ e ≤ 40 ∧ (((dlvN n (rReconf (dropN 50 (upN 5 d)) m kk).1).eras.length : Nat) : Int) = e) ∧
      (Cl.config).ans (dlvN n (rReconf (dropN 50 (upN 5 d)) m kk).1) = .tuple #[.agg #[.int .i64 e, .int .i64 m, .int .i64 kk, .int .i64 e], .int .i64 0] := by
  have hu := upN_up 5 d (Nat.le_refl _)
  have hd := dropN_way 50 (upN 5 d)
  have hsm : Small (dropN 50 (upN 5 d)) (1 + k) := Small.dropN 50 _ (Small.upN 5 d (Nat.le_refl _) hc.small)
  have hel : (dropN 50 (upN 5 d)).eras.length ≤ 31 := by rw [hd.2.2, hu.2.2]; have := hc.eras; omega
  have hup : ∀ i, i < 5 → ((dropN 50 (upN 5 d)).mem i).up = true := fun i hi => by rw [hd.2.1]; exact hu.1 i hi
  have hw : (dropN 50 (upN 5 d)).way = [] := by
    have hw0 : d.way.length ≤ 50 := hok.way
    rw [hd.1, hu.2.1]; exact List.drop_of_length_le hw0
  generalize dropN 50 (upN 5 d) = d1 at *
  obtain ⟨q1, n, hn, q2⟩ := calm_run hok1 hup hw (by omega) m kk hkk h1 h2 h3
  have hs2 : Small (rReconf d1 m kk).1 32 := (Small.cl hsm hok1 (.conf m kk) (fun a b s v e => by cases e)).more (by omega)
  refine ⟨q1, n, hn, _, _, q2, Small.dlvN n _ (hok1.reconf m kk) hs2, ⟨by omega, by omega, by rw [q2.eras]; simp⟩, ?_⟩
  show Value.tuple #[confVal _ _ _ _, .int .i64 0] = _
  have he : ((dlvN n (rReconf d1 m kk).1).eras.length : Int) = d1.eras.length + 1 := by rw [q2.eras]; simp
  have hx : (dlvN n (rReconf d1 m kk).1).era ((d1.eras.length : Int) + 1) = ⟨m, kk, d1.active⟩ := by
    unfold Wd.era
    rw [q2.eras]
    have : ((d1.eras.length : Int) + 1 - 1).toNat = d1.eras.length := by omega
    rw [this]; simp
  rw [he, hx, q2.act]; rfl
section
variable {R : World → (Nat → Prop) → Nat → Wd → Prop}
theorem kg_below {w w1 : World} {B bb : Nat} (hB : B ≤ w.heap.size) (hb : B ≤ bb) (h : Fr (MayTurn (Own B bb) bb) w w1) : Below B w w1 :=
  ⟨h.os, h.tape, h.output, h.size, fun k hk => h.block k (Nat.lt_of_lt_of_le hk hB) fun e => e.elim (fun e => e (Or.inl hk)) fun e => by omega⟩
set_option maxHeartbeats 6400000 in
set_option maxRecDepth 100000 in
theorem kcalm_any (s : Side R fnPrg 41 36) (w : World) (ao : Option Addr) (n cap : Nat) (mem lead : Int) (hmem : In64 mem) (hlead : In64 lead) (x : Nat → Nat → Int) (hn : n ≤ 4000000000000) (hx : ∀ i j, Fits (x i j)) (hs : KScript w ao n x) :
    Calls Try.prog 12 #[.slice ao n cap, .int .i64 mem, .int .i64 lead] w fun e w' => e = .returned (.bool true) ∧ Below w.heap.size w w' := by
  have HSI := hidK s
  have HS := hidK hs
  have HX := hidK hx
  obtain ⟨m0, m1⟩ := hmem
  obtain ⟨l0, l1⟩ := hlead
  clear s hs hx
  go_enter Try.func12, Try.ntmps12
  go_wp2_with fail
  refine (kbegun_any HSI.out w).mono ?_
  rintro e w1 ⟨cb, rfl, h1, hB1⟩
  have H1 := hidK h1
  have HB1 := hidK hB1
  clear h1 hB1
  have hs1 : w.heap.size ≤ w1.heap.size := HB1.out.size
  have HBA := hidK ((Below.refl w1.heap.size w1).alloc (Nat.le_refl _) (.cells Try.zeroCells48 48))
  have HBV := hidK (HB1.out.trans (HBA.out.mono hs1))
  have H2 := hidK (H1.out.more HSI.out HBA.out (Own w.heap.size w1.heap.size) fun k hk => by
    rcases hk with hk | hk
    · exact Or.inl hk
    · exact Or.inr ⟨by omega, by simp; omega⟩)
  have HBk := hidK (BRep.none w1)
  go_wp2_with fail
  refine wp_genR (fun V => (∃ d tb, Kg R (Own w.heap.size w1.heap.size) cb w1.heap.size d tb V ∧ Cw d 0) ∧ Below w.heap.size w V) ⟨⟨dBegun, tbNone, ⟨H2.out, HBk.out, Or.inr rfl, by
      obtain ⟨g, hg⟩ := dBegun_inv
      exact ⟨g, hg, bookNone _ _⟩⟩, Cw.begun⟩, HBV.out⟩ ?_
  rintro V ⟨hV, hVB⟩
  clear H1 H2 HB1 HBA HBV HBk
  have HV := hidK hV
  have HVB := hidK hVB
  clear hV hVB
  generalize w1.heap.size = bb at *
  go_loopw [10] (fun t wr => ∃ k : Nat, k ≤ n ∧ k ≤ 30 ∧ t = .int .i64 k ∧ (∃ d tb, Kg R (Own w.heap.size bb) cb bb d tb wr ∧ Cw d k) ∧ Below w.heap.size w wr) (fun t _ => n - (intOf t).toNat)
  case atStart => exact ⟨0, Nat.zero_le _, Nat.zero_le _, rfl, HV.out, HVB.out⟩
  case round =>
    obtain ⟨k, hk, hk30, rfl, ⟨d, tb, hK, hcw⟩, hB⟩ := hrel
    have HK := hidK hK
    have HB := hidK hB
    have HCw := hidK hcw
    have hle : w.heap.size ≤ wr.heap.size := hB.size
    clear hK hB HV HVB hcw
    by_cases hkn : k < n ∧ k < 30
    · obtain ⟨hkn, hk3⟩ := hkn
      obtain ⟨sb, so, rfl, hsb, hcells⟩ := HS.out (by omega)
      have hc : ∀ j, j < 5 → wr.cell? ⟨sb, so + k * 5 + j, none⟩ = some (.int .i64 (x k j)) := fun j hj => (HB.out.cell hsb).trans (hcells k j hkn hj)
      have c0 := hc 0 (by omega); have c1 := hc 1 (by omega); have c2 := hc 2 (by omega); have c3 := hc 3 (by omega); have c4 := hc 4 (by omega)
      simp only [Nat.add_zero] at c0
      have f0 := HX.out k 0
      have f1 := HX.out k 1
      have f2 := HX.out k 2
      have f3 := HX.out k 3
      have f4 := HX.out k 4
      clear hc hcells
      generalize x k 0 = x0 at *
      generalize x k 1 = x1 at *
      generalize x k 2 = x2 at *
      generalize x k 3 = x3 at *
      generalize x k 4 = x4 at *
      have HC := hidK (gstep_any HSI.out HK.out x0 x1 x2 x3 x4 ⟨f0.1, f0.2⟩ ⟨f1.1, f1.2⟩ ⟨f2.1, f2.2⟩ ⟨f3.1, f3.2⟩ ⟨f4.1, f4.2⟩)
      unfold kopVal at HC
      have hki0 : (0 : Int) ≤ (k : Int) := by omega
      have hki1 : (k : Int) < (n : Int) := by omega
      have hki2 : (k : Int) < 30 := by omega
      have HCw2 := hidK (HCw.out.step HK.out.one.ok x0 x1 x2 x3 x4)
      go_wp2_with (first | (go_at_call 25; refine HC.out.mono ?_; rintro e w2 ⟨rfl, hK2, hF2⟩; have HK2 := hidK hK2; have HB2 := hidK (kg_below hle hs1 hF2); clear hK2 hF2))
      go_roundw
      case rel => exact ⟨k + 1, by omega, by omega, by go_num, ⟨_, _, HK2.out, HCw2.out⟩, HB.out.trans HB2.out⟩
      case measure => simp [intOf]; omega
    · have HC := hidK (kstill_any HSI.out HK.out)
      obtain ⟨kk, hkk⟩ := Int.eq_ofNat_of_zero_le (pickN_bd lead 5 (by omega)).1
      have hk5 : kk < 5 := by have := (pickN_bd lead 5 (by omega)).2; omega
      obtain ⟨aa, haa⟩ := Int.eq_ofNat_of_zero_le (pickN_bd mem 31 (by omega)).1
      have ha31 : aa < 31 := by have := (pickN_bd mem 31 (by omega)).2; omega
      have HP1 := hidK (kpick_any lead 5 l0 l1 (by omega))
      have HP2 := hidK (kpick_any mem 31 m0 m1 (by omega))
      rw [hkk] at HP1
      rw [haa] at HP2
      clear hkk haa
      have hkk0 : (0 : Int) ≤ (kk : Int) := by omega
      have hkk1 : (kk : Int) < 5 := by omega
      have haa0 : (0 : Int) ≤ (aa : Int) := by omega
      have haa1 : (aa : Int) < 31 := by omega
      by_cases hkn1 : k < n
      · have hk9 : k = 30 := by omega
        subst hk9
        have hki1 : (30 : Int) < (n : Int) := by omega
        go_wp2_with fail
        refine HC.out.mono ?_
        rintro e w2 ⟨rfl, hK2, hF2⟩
        have HK2 := hidK hK2
        have HB2 := hidK (HB.out.trans (kg_below hle hs1 hF2))
        clear hK2 hF2 HC
        go_wp2_with (first | (go_at_call 17; first | (refine (HP1.out _).mono ?_; rintro e w1 ⟨rfl, hw1⟩; rw [hw1]; clear hw1) | (refine (HP2.out _).mono ?_; rintro e w1 ⟨rfl, hw1⟩; rw [hw1]; clear hw1)))
        go_quiet (first | (go_at_call 17; refine Calls.quiet_of_same (HP2.out _)))
        go_wp2_with fail
        obtain ⟨mm, hmm⟩ : ∃ mm, bits BinOp.or IntKind.i64 (1 + (aa : Int)) (wrap64 (2 ^ kk)) = mm := ⟨_, rfl⟩
        obtain ⟨g1, g2, g3⟩ := or_m aa kk ha31 hk5
        rw [hmm] at g1 g2 g3 ⊢
        have HQ := hidK (calm_all HK.out.one.ok HK2.out.one.ok HCw.out (by omega) mm kk hk5 g1 g2 g3)
        have hK3 : Kg R (Own w.heap.size bb) cb bb (dropN 50 (upN 5 d)) tb (w2.drewN nq) := HK2.out.quiet HSI.out ⟨rfl, rfl, rfl, Nat.le_refl _, fun _ _ => rfl⟩
        have HC3 := hidK (hK3.call HSI.out (.conf mm kk) ⟨⟨by omega, by omega⟩, ⟨by omega, by omega⟩⟩)
        clear hmm hK3
        generalize dropN 50 (upN 5 d) = d1 at *
        obtain ⟨r1, n1, hn1, L, e1, sv, sm, hel, hcf⟩ := HQ.out
        have e3 : (Cl.conf mm kk).ans d1 = .int .i64 0 := by show Value.int .i64 (rReconf d1 mm kk).2 = _; rw [r1]
        rw [e3] at HC3
        have HSv := hidK sv
        have HSm := hidK sm
        have HEl := hidK hel
        have HCf := hidK hcf
        have hle2 : w.heap.size ≤ w2.heap.size := HB2.out.size
        have HB3 := hidK (show Below w.heap.size w (w2.drewN nq) from HB2.out.trans ⟨rfl, rfl, rfl, Nat.le_refl _, fun _ _ => rfl⟩)
        clear r1 sv sm hel hcf e3 HQ
        refine HC3.out.mono ?_
        rintro e w3 ⟨rfl, hK3, hF3⟩
        have HB4 := hidK (HB3.out.trans (kg_below (w := w2.drewN nq) hle2 hs1 hF3))
        have hle3 : w.heap.size ≤ w3.heap.size := HB4.out.size
        have HC4 := hidK (ksettled_any HSI.out hK3 n1 (by omega) HSv.out.way)
        clear hK3 hF3 HC3
        go_wp2_with fail
        refine HC4.out.mono ?_
        rintro e w4 ⟨rfl, hK4, hF4⟩
        have HB5 := hidK (HB4.out.trans (kg_below hle3 hs1 hF4))
        have hle4 : w.heap.size ≤ w4.heap.size := HB5.out.size
        have HC5 := hidK (hK4.call HSI.out (.config) trivial)
        rw [show (Cl.config).ans (dlvN n1 ((Cl.conf mm kk).next d1)) = _ from HCf.out] at HC5
        clear hK4 hF4 HC4
        have he1 : (1 : Int) ≤ e1 ∧ e1 ≤ 40 := ⟨by have := HEl.out; omega, by have := HEl.out; omega⟩
        obtain ⟨he1a, he1b⟩ := he1
        go_wp2_with fail
        refine HC5.out.mono ?_
        rintro e w5 ⟨rfl, hK5, hF5⟩
        have hK5 : Kg R (Own w.heap.size bb) cb bb (dlvN n1 (rReconf d1 mm kk).1) tb w5 := hK5
        have HB6 := hidK (HB5.out.trans (kg_below hle4 hs1 hF5))
        have hle5 : w.heap.size ≤ w5.heap.size := HB6.out.size
        have hK6 := hK5.quiet HSI.out ((Below.refl w5.heap.size w5).alloc (Nat.le_refl _) (.cells #[.int .i64 e1, .int .i64 mm, .int .i64 kk, .int .i64 e1] 59))
        have HC6 := hidK (kserves_any HSI.out hK6 kk hk5 HSv.out HSm.out (by omega) HEl.out.2.2)
        have HB7 := hidK (HB6.out.trans (((Below.refl w5.heap.size w5).alloc (Nat.le_refl _) (.cells #[.int .i64 e1, .int .i64 mm, .int .i64 kk, .int .i64 e1] 59)).mono hle5))
        have hle7 : w.heap.size ≤ (w5.alloc (.cells #[.int .i64 e1, .int .i64 mm, .int .i64 kk, .int .i64 e1] 59)).heap.size := HB7.out.size
        clear hK5 hF5 hK6 HC5
        go_wp2_with (first | (go_at_call 32; refine HC6.out.mono ?_; rintro e w6 ⟨rfl, hF6⟩; have HB8 := hidK (HB7.out.trans (kg_below hle7 hs1 hF6)); clear hF6))
        go_ret
        exact ⟨rfl, HB8.out⟩
      · have hk9 : k = n := by omega
        subst hk9
        go_wp2_with fail
        refine HC.out.mono ?_
        rintro e w2 ⟨rfl, hK2, hF2⟩
        have HK2 := hidK hK2
        have HB2 := hidK (HB.out.trans (kg_below hle hs1 hF2))
        clear hK2 hF2 HC
        go_wp2_with (first | (go_at_call 17; first | (refine (HP1.out _).mono ?_; rintro e w1 ⟨rfl, hw1⟩; rw [hw1]; clear hw1) | (refine (HP2.out _).mono ?_; rintro e w1 ⟨rfl, hw1⟩; rw [hw1]; clear hw1)))
        go_quiet (first | (go_at_call 17; refine Calls.quiet_of_same (HP2.out _)))
        go_wp2_with fail
        obtain ⟨mm, hmm⟩ : ∃ mm, bits BinOp.or IntKind.i64 (1 + (aa : Int)) (wrap64 (2 ^ kk)) = mm := ⟨_, rfl⟩
        obtain ⟨g1, g2, g3⟩ := or_m aa kk ha31 hk5
        rw [hmm] at g1 g2 g3 ⊢
        have HQ := hidK (calm_all HK.out.one.ok HK2.out.one.ok HCw.out (by omega) mm kk hk5 g1 g2 g3)
        have hK3 : Kg R (Own w.heap.size bb) cb bb (dropN 50 (upN 5 d)) tb (w2.drewN nq) := HK2.out.quiet HSI.out ⟨rfl, rfl, rfl, Nat.le_refl _, fun _ _ => rfl⟩
        have HC3 := hidK (hK3.call HSI.out (.conf mm kk) ⟨⟨by omega, by omega⟩, ⟨by omega, by omega⟩⟩)
        clear hmm hK3
        generalize dropN 50 (upN 5 d) = d1 at *
        obtain ⟨r1, n1, hn1, L, e1, sv, sm, hel, hcf⟩ := HQ.out
        have e3 : (Cl.conf mm kk).ans d1 = .int .i64 0 := by show Value.int .i64 (rReconf d1 mm kk).2 = _; rw [r1]
        rw [e3] at HC3
        have HSv := hidK sv
        have HSm := hidK sm
        have HEl := hidK hel
        have HCf := hidK hcf
        have hle2 : w.heap.size ≤ w2.heap.size := HB2.out.size
        have HB3 := hidK (show Below w.heap.size w (w2.drewN nq) from HB2.out.trans ⟨rfl, rfl, rfl, Nat.le_refl _, fun _ _ => rfl⟩)
        clear r1 sv sm hel hcf e3 HQ
        refine HC3.out.mono ?_
        rintro e w3 ⟨rfl, hK3, hF3⟩
        have HB4 := hidK (HB3.out.trans (kg_below (w := w2.drewN nq) hle2 hs1 hF3))
        have hle3 : w.heap.size ≤ w3.heap.size := HB4.out.size
        have HC4 := hidK (ksettled_any HSI.out hK3 n1 (by omega) HSv.out.way)
        clear hK3 hF3 HC3
        go_wp2_with fail
        refine HC4.out.mono ?_
        rintro e w4 ⟨rfl, hK4, hF4⟩
        have HB5 := hidK (HB4.out.trans (kg_below hle3 hs1 hF4))
        have hle4 : w.heap.size ≤ w4.heap.size := HB5.out.size
        have HC5 := hidK (hK4.call HSI.out (.config) trivial)
        rw [show (Cl.config).ans (dlvN n1 ((Cl.conf mm kk).next d1)) = _ from HCf.out] at HC5
        clear hK4 hF4 HC4
        have he1 : (1 : Int) ≤ e1 ∧ e1 ≤ 40 := ⟨by have := HEl.out; omega, by have := HEl.out; omega⟩
        obtain ⟨he1a, he1b⟩ := he1
        go_wp2_with fail
        refine HC5.out.mono ?_
        rintro e w5 ⟨rfl, hK5, hF5⟩
        have hK5 : Kg R (Own w.heap.size bb) cb bb (dlvN n1 (rReconf d1 mm kk).1) tb w5 := hK5
        have HB6 := hidK (HB5.out.trans (kg_below hle4 hs1 hF5))
        have hle5 : w.heap.size ≤ w5.heap.size := HB6.out.size
        have hK6 := hK5.quiet HSI.out ((Below.refl w5.heap.size w5).alloc (Nat.le_refl _) (.cells #[.int .i64 e1, .int .i64 mm, .int .i64 kk, .int .i64 e1] 59))
        have HC6 := hidK (kserves_any HSI.out hK6 kk hk5 HSv.out HSm.out (by omega) HEl.out.2.2)
        have HB7 := hidK (HB6.out.trans (((Below.refl w5.heap.size w5).alloc (Nat.le_refl _) (.cells #[.int .i64 e1, .int .i64 mm, .int .i64 kk, .int .i64 e1] 59)).mono hle5))
        have hle7 : w.heap.size ≤ (w5.alloc (.cells #[.int .i64 e1, .int .i64 mm, .int .i64 kk, .int .i64 e1] 59)).heap.size := HB7.out.size
        clear hK5 hF5 hK6 HC5
        go_wp2_with (first | (go_at_call 32; refine HC6.out.mono ?_; rintro e w6 ⟨rfl, hF6⟩; have HB8 := hidK (HB7.out.trans (kg_below hle7 hs1 hF6)); clear hF6))
        go_ret
        exact ⟨rfl, HB8.out⟩
end
end Go.Proofs.Ythpjcmilfipbaaa
