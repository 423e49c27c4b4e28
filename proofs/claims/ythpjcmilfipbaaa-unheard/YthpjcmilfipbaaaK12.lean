/- My own text: several texts in one. -/
import Derived.Test.YthpjcmilfipbaaaK7
namespace Go.Proofs.Ythpjcmilfipbaaa
set_option linter.unusedVariables false
set_option linter.unusedSimpArgs false
open Go.RowKit
/-- Nobody has heard of anything yet. -/
structure Deaf0 (d : Wd) : Prop where
  ok : ROk d
  up : (d.mem 0).up = true
  role : (d.mem 0).role = 3
  fol : (d.mem 0).follows = 1
  kno : (d.mem 0).knows 1 = 0
  eras : d.eras = [⟨7, 0, 0⟩]
  log : (d.mem 0).log ≠ []
theorem rDoneTo_pos {d : Wd} (h : ∀ j, j < 5 → 0 ≤ (d.mem 0).knows j) : ∀ n, n ≤ 5 → 0 ≤ rDoneTo d 0 n
  | 0, _ => Int.natCast_nonneg _
  | n + 1, h5 => by
    have := rDoneTo_pos h n (by omega)
    have := h n (by omega)
    unfold rDoneTo
    split <;> omega
theorem Deaf0.done {d : Wd} (h : Deaf0 d) : rDone d 0 = 0 := by
  have hp := rDoneTo_pos (d := d) (fun j hj => (h.ok.kno 0 j (by omega) hj).1) 5 (Nat.le_refl _)
  unfold rDone
  rw [if_pos h.role]
  by_cases c : 0 < rDoneTo d 0 5
  · have := (rDoneTo_spec d 0 0 5 c).2 1 (by omega) (by omega) (by rw [rIn_eq, h.eras, h.fol]; decide)
    rw [h.kno] at this; omega
  · omega
theorem Deaf0.ref {d : Wd} (h : Deaf0 d) : rRef d 0 true = 0 := by
  unfold rRef
  rw [if_pos (by decide), show ((0 : Int)).toNat = 0 from rfl, h.up]; rfl
theorem Deaf0.fetch {d : Wd} (h : Deaf0 d) (off : Int) (h0 : 0 ≤ off) : rFetch d 0 off = (⟨0, 0, 0⟩, 9) := by
  unfold rFetch
  rw [if_neg (by rw [h.ref]; decide), show ((0 : Int)).toNat = 0 from rfl, if_neg (by rw [h.role]; decide), if_neg (by omega), if_pos (by rw [h.done]; exact h0)]
theorem Deaf0.mem {d d' : Wd} (h : Deaf0 d) (hok : ROk d') (hm : d'.mem = d.mem) (he : d'.eras = d.eras) : Deaf0 d' :=
  ⟨hok, by rw [hm]; exact h.up, by rw [hm]; exact h.role, by rw [hm]; exact h.fol, by rw [hm]; exact h.kno, by rw [he]; exact h.eras, by rw [hm]; exact h.log⟩
theorem Deaf0.drop {d : Wd} (h : Deaf0 d) (i : Int) : Deaf0 (rDrop d i).1 := by
  refine h.mem (h.ok.drop i) ?_ ?_ <;> (unfold rDrop; split <;> rfl)
theorem Deaf0.twice {d : Wd} (h : Deaf0 d) (i : Int) : Deaf0 (rTwice d i).1 := by
  have key : (rTwice d i).1.mem = d.mem ∧ (rTwice d i).1.eras = d.eras := by
    unfold rTwice
    split
    · show (match d.way[i.toNat]? with | some m => rSends d m | none => d).mem = d.mem ∧ (match d.way[i.toNat]? with | some m => rSends d m | none => d).eras = d.eras
      cases d.way[i.toNat]? with
      | none => exact ⟨rfl, rfl⟩
      | some m => exact ⟨(same_sends d m).2.1, (same_sends d m).1⟩
    · exact ⟨rfl, rfl⟩
  exact h.mem (h.ok.twice i) key.1 key.2
theorem Deaf0.produce {d : Wd} (h : Deaf0 d) (p s v : Int) : Deaf0 (rProduce d 0 p s v).1 ∧ (rProduce d 0 p s v).2.2.1 = false := by
  have hok := h.ok.produce 0 p s v
  unfold rProduce at hok ⊢
  rw [if_neg (by rw [h.ref]; decide)] at hok ⊢
  split
  · exact ⟨h, rfl⟩
  rename_i c2
  rw [if_neg c2] at hok
  rw [show ((0 : Int)).toNat = 0 from rfl, if_neg (by rw [h.role]; decide)] at hok ⊢
  unfold rProduceAt at hok ⊢
  split
  · rename_i c4
    rw [if_pos c4] at hok
    split
    · exact ⟨h, rfl⟩
    rename_i c5
    rw [if_neg c5] at hok
    split
    · exact ⟨h, rfl⟩
    rename_i c6
    rw [if_neg c6] at hok
    unfold rProduceNew at hok ⊢
    simp only at hok ⊢
    have hm := rProdTo_same (rPutLog d 0 ((d.mem 0).log ++ [⟨p, s, v⟩])) 0 (d.mem 0) (offsetOf (d.mem 0).log p s) (d.mem 0).log.length (rDone (rPutLog d 0 ((d.mem 0).log ++ [⟨p, s, v⟩])) 0) 5
    have h1 : Deaf0 (rPutLog d 0 ((d.mem 0).log ++ [⟨p, s, v⟩])) := by
      have hl : (d.mem 0).log.length < 60 := by omega
      have hr : recB p s v = true := by simpa using c2
      refine ⟨h.ok.putLog 0 (by omega) _ (by simp; omega) (fun r hr2 => ?_), ?_, ?_, ?_, ?_, h.eras, ?_⟩
      · rcases List.mem_append.1 hr2 with x | x
        · exact h.ok.byt 0 (by omega) r x
        · simp at x; subst x
          simp [recB] at hr
          show 0 ≤ p ∧ p ≤ 255 ∧ 0 ≤ s ∧ s ≤ 255 ∧ 0 ≤ v ∧ v ≤ 255
          omega
      all_goals (unfold rPutLog; rw [put_at])
      · exact h.up
      · exact h.role
      · exact h.fol
      · exact h.kno
      · simp
    refine ⟨h1.mem hok hm.1 hm.2.1, ?_⟩
    rw [h1.done]
    exact decide_eq_false (by omega)
  · rename_i c4
    rw [if_neg c4] at hok
    unfold rProduceOld at hok ⊢
    simp only at hok ⊢
    have hm := rProdTo_same d 0 (d.mem 0) (offsetOf (d.mem 0).log p s) (d.mem 0).log.length (rDone d 0) 5
    refine ⟨h.mem hok hm.1 hm.2.1, ?_⟩
    rw [h.done]
    exact decide_eq_false (by omega)
theorem Deaf0.begun : Deaf0 dBegun := ⟨dBegun_ok, by decide, by decide, by decide, by decide, rfl, by decide⟩
theorem Deaf0.seen {d : Wd} (h : Deaf0 d) : ∃ (e g l : Int), 0 < l ∧ (Cl.node 0).ans d = .tuple #[.agg #[.bool true, .int .i64 e, .int .i64 g, .int .i64 3, .int .i64 l, .int .i64 0], .int .i64 0] := by
  refine ⟨(d.mem 0).follows, (d.mem 0).given, (d.mem 0).log.length, ?_, ?_⟩
  · have := List.length_pos_iff.2 h.log; omega
  · show Value.tuple #[(rSeen d 0).1.val, .int .i64 (rSeen d 0).2] = _
    unfold rSeen
    rw [if_pos (by decide), show ((0 : Int)).toNat = 0 from rfl, h.done, h.up, h.role]; rfl
theorem fourK {x : Int} (h0 : 0 ≤ x) (h4 : x < 4) : x = 0 ∨ x = 1 ∨ x = 2 ∨ x = 3 := by omega
theorem Fr.cellK {S : Nat → Prop} {w w' : World} (h : Fr S w w') (a : Addr) (hl : a.block < w.heap.size) (hs : ¬ S a.block) : w'.cell? a = w.cell? a :=
  World.cell?_of_block (h.block a.block hl hs)
section
variable {R : World → (Nat → Prop) → Nat → Wd → Prop}
theorem One.deaf {fn : Cl → Nat} {fm fw : Nat} (s : Side R fn fm fw) {w : World} {own : Nat → Prop} {cb : Nat} {d : Wd} (h : One R w own cb d) (hD : Deaf0 d) (p sq v : Int) (hc : (Cl.produce 0 p sq v).fits) :
    Calls Try.prog (fn (.produce 0 p sq v)) #[.pointer (some ⟨cb, 0, none⟩), .int .i64 0, .int .i64 p, .int .i64 sq, .int .i64 v] w fun e w' =>
      (∃ a z : Int, e = .returned (.tuple #[.int .i64 a, .bool false, .int .i64 z])) ∧ One R w' own cb (rProduce d 0 p sq v).1 ∧ Fr (fun q => ¬ own q) w w' := by
  refine (h.call s (.produce 0 p sq v) hc).mono fun e w' ⟨q1, q2, q3⟩ => ⟨⟨(rProduce d 0 p sq v).2.1, (rProduce d 0 p sq v).2.2.2, ?_⟩, q2, q3⟩
  have e2 := (hD.produce p sq v).2
  rw [q1]
  show Ending.returned (Value.tuple #[.int .i64 (rProduce d 0 p sq v).2.1, .bool (rProduce d 0 p sq v).2.2.1, .int .i64 (rProduce d 0 p sq v).2.2.2]) = _
  rw [e2]
set_option maxHeartbeats 6400000 in
set_option maxRecDepth 100000 in
theorem kunheard_any (s : Side R fnPrg 41 36) (w : World) (ao : Option Addr) (n cap : Nat) (x : Nat → Nat → Int) (hn : n ≤ 4000000000000) (hx : ∀ i j, Fits (x i j)) (hs : KScript w ao n x) :
    Calls Try.prog 4 #[.slice ao n cap] w fun e w' => e = .returned (.bool true) ∧ Below w.heap.size w w' := by
  have HSI := hidK s
  have HS := hidK hs
  have HX := hidK hx
  clear s hs hx
  go_enter Try.func4, Try.ntmps4
  go_wp2_with fail
  refine (kbegun_any HSI.out w).mono ?_
  rintro e w1 ⟨cb, rfl, h1, hB1⟩
  have H1 := hidK h1
  have HB1 := hidK hB1
  clear h1 hB1
  go_wp2_with fail
  go_loopw [5] (fun t wr => ∃ k : Nat, k ≤ n ∧ t = .int .i64 k ∧ (∃ d, Deaf0 d ∧ One R wr (fun q => q < w.heap.size) cb d) ∧ Below w.heap.size w wr) (fun t _ => n - (intOf t).toNat)
  case atStart => exact ⟨0, Nat.zero_le _, rfl, ⟨_, Deaf0.begun, H1.out⟩, HB1.out⟩
  case round =>
    obtain ⟨k, hk, rfl, ⟨d, hD, hO⟩, hB⟩ := hrel
    clear H1 HB1
    have HD := hidK hD
    have HO := hidK hO
    have HB := hidK hB
    have hsz := hB.size
    clear hD hO hB
    by_cases hkn : k < n
    · obtain ⟨sb, so, rfl, hsb, hcells⟩ := HS.out (by omega)
      have hc : ∀ j, j < 5 → wr.cell? ⟨sb, so + k * 5 + j, none⟩ = some (.int .i64 (x k j)) := fun j hj => (HB.out.cell hsb).trans (hcells k j hkn hj)
      have c0 := hc 0 (by omega); have c1 := hc 1 (by omega); have c2 := hc 2 (by omega); have c3 := hc 3 (by omega); have c4 := hc 4 (by omega)
      simp only [Nat.add_zero] at c0
      obtain ⟨a0, b0⟩ := HX.out k 0
      obtain ⟨a1, b1⟩ := HX.out k 1
      obtain ⟨a2, b2⟩ := HX.out k 2
      obtain ⟨a3, b3⟩ := HX.out k 3
      obtain ⟨a4, b4⟩ := HX.out k 4
      clear hc hcells
      generalize x k 0 = x0 at *
      generalize x k 1 = x1 at *
      generalize x k 2 = x2 at *
      generalize x k 3 = x3 at *
      generalize x k 4 = x4 at *
      have p1 := pickN_bd x1 50 (by omega)
      have p0 := pickN_bd x0 4 (by omega)
      have hsbr : sb < wr.heap.size := by omega
      have HBo := hidK ((Below.refl wr.heap.size wr).alloc (Nat.le_refl _) (.cells #[.int .i64 x0, .int .i64 x1, .int .i64 x2, .int .i64 x3, .int .i64 x4] 30))
      have HB2 := hidK (HB.out.trans (HBo.out.mono hsz))
      have HO2 := hidK (HO.out.more HSI.out HBo.out (fun q => q < w.heap.size ∨ q = wr.heap.size) fun q hq => by
        rcases hq with hq | hq
        · exact Or.inl hq
        · exact Or.inr ⟨by omega, by simp; omega⟩)
      rcases fourK p0.1 p0.2 with h4 | h4 | h4 | h4
      · go_wp2_with (first | (go_at_call 17; refine (kpick_any _ _ (by omega) (by omega) (by omega) _).mono ?_; rintro e w' ⟨rfl, hw1⟩; rw [hw1]; clear hw1))
        refine wp_genR (fun W => W.heap.size = wr.heap.size + 1 ∧ One R W (fun q => q < w.heap.size ∨ q = wr.heap.size) cb d ∧ Below w.heap.size w W ∧ W.cell? ⟨wr.heap.size, 2, none⟩ = some (.int .i64 x2) ∧ W.cell? ⟨wr.heap.size, 3, none⟩ = some (.int .i64 x3) ∧ W.cell? ⟨wr.heap.size, 4, none⟩ = some (.int .i64 x4)) ⟨by simp, HO2.out, HB2.out, by simp [go_sem], by simp [go_sem], by simp [go_sem]⟩ ?_
        rintro W ⟨hWs, hWO, hWB, d2, d3, d4⟩
        have HWO := hidK hWO
        have HWB := hidK hWB
        have HWs := hidK hWs
        clear hWs hWO hWB HO HB HO2 HB2 HBo c0 c1 c2 c3 c4
        have p2 := pickN_bd x2 4 (by omega)
        have p3 := pickN_bd x3 9 (by omega)
        have p4 := pickN_bd x4 256 (by omega)
        have w2 : IntKind.i64.wrap (1 + pickN x2 4) = 1 + pickN x2 4 := by simp only [IntKind.wrap_i64]; omega
        have w3 : IntKind.i64.wrap (1 + pickN x3 9) = 1 + pickN x3 9 := by simp only [IntKind.wrap_i64]; omega
        have HP := hidK (HD.out.produce (1 + pickN x2 4) (1 + pickN x3 9) (pickN x4 256))
        have HC : Hid (∀ W' : World, One R W' (fun q => q < w.heap.size ∨ q = wr.heap.size) cb d → Calls Try.prog 18 #[.pointer (some ⟨cb, 0, none⟩), .int .i64 0, .int .i64 (1 + pickN x2 4), .int .i64 (1 + pickN x3 9), .int .i64 (pickN x4 256)] W' fun e w' =>
            (∃ a z : Int, e = .returned (.tuple #[.int .i64 a, .bool false, .int .i64 z])) ∧ One R w' (fun q => q < w.heap.size ∨ q = wr.heap.size) cb (rProduce d 0 (1 + pickN x2 4) (1 + pickN x3 9) (pickN x4 256)).1 ∧ Fr (fun q => ¬ (q < w.heap.size ∨ q = wr.heap.size)) W' w') := fun W' hW' =>
          hW'.deaf HSI.out HD.out _ _ _ ⟨⟨by omega, by omega⟩, ⟨by omega, by omega⟩, ⟨by omega, by omega⟩, ⟨by omega, by omega⟩⟩
        go_region_held3 (fun w' => w'.cell? ⟨wr.heap.size, 2, none⟩ = some (.int .i64 x2) ∧ w'.cell? ⟨wr.heap.size, 3, none⟩ = some (.int .i64 x3) ∧ w'.cell? ⟨wr.heap.size, 4, none⟩ = some (.int .i64 x4))
          (first
            | (go_keep; done)
            | exact ⟨(hFr2.out.cellK ⟨wr.heap.size, 2, none⟩ (by show wr.heap.size < W.heap.size; rw [HWs.out]; omega) (fun e => e (Or.inr rfl))).trans d2, (hFr2.out.cellK ⟨wr.heap.size, 3, none⟩ (by show wr.heap.size < W.heap.size; rw [HWs.out]; omega) (fun e => e (Or.inr rfl))).trans d3, (hFr2.out.cellK ⟨wr.heap.size, 4, none⟩ (by show wr.heap.size < W.heap.size; rw [HWs.out]; omega) (fun e => e (Or.inr rfl))).trans d4⟩)
          (first
            | (go_at_call 17; refine (kpick_any _ _ (by omega) (by omega) (by omega) _).mono ?_; rintro e w' ⟨rfl, hw1⟩; rw [hw1]; clear hw1)
            | (go_at_call 18; refine (HC.out W.drew (HWO.out.quiet HSI.out ⟨rfl, rfl, rfl, Nat.le_refl _, fun _ _ => rfl⟩)).mono ?_; rintro e w2 ⟨⟨ra, rz, rfl⟩, hR2, hF2⟩; have hO2 := hidK hR2; have hFr2 := hidK hF2; clear hR2 hF2))
        have H2 := hidK (hO2.out.sub (own' := fun q => q < w.heap.size) fun q hq => Or.inl hq)
        have HF2 := hidK (HWB.out.trans ⟨hFr2.out.os, hFr2.out.tape, hFr2.out.output, hFr2.out.size, fun q hq => hFr2.out.block q (Nat.lt_of_lt_of_le hq HWB.out.size) fun e => e (Or.inl hq)⟩)
        clear hO2 hFr2
        go_wp2
        go_roundw
        case rel => exact ⟨k + 1, by omega, by go_num, ⟨_, HP.out.1, H2.out⟩, HF2.out⟩
        case measure => simp [intOf]; omega
      · have p2 := pickN_bd x2 60 (by omega)
        have HC := hidK (HO2.out.call HSI.out (.fetch 0 (pickN x2 60)) ⟨⟨by omega, by omega⟩, ⟨by omega, by omega⟩⟩)
        have e1 : (Cl.fetch 0 (pickN x2 60)).ans d = .tuple #[.agg #[.int .i64 0, .int .i64 0, .int .i64 0], .int .i64 9] := by
          show Value.tuple #[recVal (rFetch d 0 (pickN x2 60)).1, .int .i64 (rFetch d 0 (pickN x2 60)).2] = _
          rw [HD.out.fetch _ p2.1]; rfl
        rw [e1] at HC
        clear e1
        go_wp2_with (first | (go_at_call 17; refine (kpick_any _ _ (by omega) (by omega) (by omega) _).mono ?_; rintro e w' ⟨rfl, hw1⟩; rw [hw1]; clear hw1) | (go_at_call 19; refine HC.out.mono ?_; rintro e w2 ⟨rfl, h2, hF2⟩; have H2 := hidK (h2.sub (own' := fun q => q < w.heap.size) fun q hq => Or.inl hq); have HF2 := hidK (HB2.out.trans ⟨hF2.os, hF2.tape, hF2.output, hF2.size, fun q hq => hF2.block q (by simp; omega) fun e => e (Or.inl hq)⟩); have hs2 : w.heap.size ≤ w2.heap.size := HF2.out.size; clear h2 hF2))
        go_roundw
        case rel => exact ⟨k + 1, by omega, by go_num, ⟨d, HD.out, H2.out.quiet HSI.out ((Below.refl _ _).alloc (Nat.le_refl _) _)⟩, HF2.out.alloc hs2 _⟩
        case measure => simp [intOf]; omega
      · have HC := hidK (HO2.out.call HSI.out (.drop (pickN x1 50)) ⟨by omega, by omega⟩)
        have HNx := hidK (HD.out.drop (pickN x1 50))
        go_wp2_with (first | (go_at_call 17; refine (kpick_any _ _ (by omega) (by omega) (by omega) _).mono ?_; rintro e w' ⟨rfl, hw1⟩; rw [hw1]; clear hw1) | (go_at_call 20; refine HC.out.mono ?_; rintro e w2 ⟨rfl, h2, hF2⟩; have H2 := hidK (h2.sub (own' := fun q => q < w.heap.size) fun q hq => Or.inl hq); have HF2 := hidK (HB2.out.trans ⟨hF2.os, hF2.tape, hF2.output, hF2.size, fun q hq => hF2.block q (by simp; omega) fun e => e (Or.inl hq)⟩); clear h2 hF2))
        go_roundw
        case rel => exact ⟨k + 1, by omega, by go_num, ⟨_, HNx.out, H2.out⟩, HF2.out⟩
        case measure => simp [intOf]; omega
      · have HC := hidK (HO2.out.call HSI.out (.twice (pickN x1 50)) ⟨by omega, by omega⟩)
        have HNx := hidK (HD.out.twice (pickN x1 50))
        go_wp2_with (first | (go_at_call 17; refine (kpick_any _ _ (by omega) (by omega) (by omega) _).mono ?_; rintro e w' ⟨rfl, hw1⟩; rw [hw1]; clear hw1) | (go_at_call 21; refine HC.out.mono ?_; rintro e w2 ⟨rfl, h2, hF2⟩; have H2 := hidK (h2.sub (own' := fun q => q < w.heap.size) fun q hq => Or.inl hq); have HF2 := hidK (HB2.out.trans ⟨hF2.os, hF2.tape, hF2.output, hF2.size, fun q hq => hF2.block q (by simp; omega) fun e => e (Or.inl hq)⟩); clear h2 hF2))
        go_roundw
        case rel => exact ⟨k + 1, by omega, by go_num, ⟨_, HNx.out, H2.out⟩, HF2.out⟩
        case measure => simp [intOf]; omega
    · obtain ⟨e1, g1, l1, hl1, hseen⟩ := HD.out.seen
      have HC := hidK (HO.out.call HSI.out (.node 0) ⟨by omega, by omega⟩)
      rw [hseen] at HC
      clear hseen
      go_wp2_with fail
      refine HC.out.mono ?_
      rintro e w2 ⟨rfl, h2, hF2⟩
      have HNB := hidK (HB.out.trans (old_below hsz hF2))
      have hs2 : w.heap.size ≤ w2.heap.size := HNB.out.size
      clear h2 hF2
      go_wp2
      go_ret
      exact ⟨rfl, HNB.out.alloc hs2 _⟩
end
end Go.Proofs.Ythpjcmilfipbaaa
