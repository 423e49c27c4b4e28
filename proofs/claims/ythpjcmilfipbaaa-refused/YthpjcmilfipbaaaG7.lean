/- My own text: several texts in one. -/
import Derived.Test.YthpjcmilfipbaaaK4
import Derived.ChangeKeysEq
import Derived.Laws.StructEq
import Derived.Laws.Rows
import Derived.Test.YthpjcmilfipbaaaG6
import Derived.Test.YthpjcmilfipbaaaK7
namespace Go.Proofs.Ythpjcmilfipbaaa
set_option linter.unusedVariables false
set_option linter.unusedSimpArgs false
open Go.RowKit
theorem rec_self (w : World) (d : Nat) (p s v : Int) : (Op.equalIn (d + 2) 36 (.agg #[.int .i64 p, .int .i64 s, .int .i64 v]) (.agg #[.int .i64 p, .int .i64 s, .int .i64 v])).run Try.prog w = .ok true w := by
  rw [run_equalIn_agg w (d + 1) 36 _ _ (by kernel_rfl) (by kernel_rfl)]
  simp [go_sem]
theorem items_self (w : World) (d : Nat) (cs : Array Value) : ∀ is : List Nat, (∀ i ∈ is, ∃ p s v : Int, (part 36 cs (i * 3)).run Try.prog w = .ok (.agg #[.int .i64 p, .int .i64 s, .int .i64 v]) w) →
    (Op.eqItems (d + 2) 36 3 cs cs is).run Try.prog w = .ok true w
  | [], _ => by simp [Op.eqItems]
  | i :: is, h => by
    obtain ⟨p, s, v, hp⟩ := h i (by simp)
    have ih := items_self w d cs is fun j hj => h j (by simp [hj])
    simp only [Op.eqItems, Sem.run_bind, hp, Result.andThen_ok, rec_self, Bool.not_true, Bool.false_eq_true, if_false]
    exact ih
theorem part_rec (w : World) (cs : Array Value) (o : Nat) (p s v : Int) (h0 : cs[o]? = some (.int .i64 p)) (h1 : cs[o + 1]? = some (.int .i64 s)) (h2 : cs[o + 2]? = some (.int .i64 v)) :
    (part 36 cs o).run Try.prog w = .ok (.agg #[.int .i64 p, .int .i64 s, .int .i64 v]) w := by
  have he : cs.extract o (o + 3) = #[.int .i64 p, .int .i64 s, .int .i64 v] := by
    have hl : o + 2 < cs.size := (Array.getElem?_eq_some_iff.1 h2).1
    apply Array.ext_getElem?
    intro i
    rw [Array.getElem?_extract]
    by_cases hi : i < 3
    · rw [if_pos (by omega)]
      match i, hi with
      | 0, _ => simpa using h0
      | 1, _ => simpa using h1
      | 2, _ => simpa using h2
    · rw [if_neg (by omega)]
      rw [Array.getElem?_eq_none (by simp; omega)]
  simp [part, go_sem]
  exact he
theorem told_self (w : World) (cs : Array Value) (tb : Nat → Rec) (h : ∀ i, i < 60 → cs[i * 3]? = some (.int .i64 (tb i).p) ∧ cs[i * 3 + 1]? = some (.int .i64 (tb i).s) ∧ cs[i * 3 + 2]? = some (.int .i64 (tb i).v)) :
    (Op.equalIn 10000 46 (.agg cs) (.agg cs)).run Try.prog w = .ok true w := by
  obtain ⟨i0, hi0⟩ : ∃ i, Try.prog.info? 36 = some i := by
    cases hq : Try.prog.info? 36 with
    | none => exact absurd hq (by decide +kernel)
    | some i => exact ⟨i, rfl⟩
  have hc : Try.prog.cellsOf 36 = 3 := by kernel_rfl
  rw [run_equalIn_array (P := Try.prog) w 9999 cs cs (n := 60) (e := 36) (by kernel_rfl) hi0, hc]
  refine items_self w 9997 cs (List.range 60) fun i hi => ?_
  have hi : i < 60 := by simpa using hi
  obtain ⟨q0, q1, q2⟩ := h i hi
  exact ⟨_, _, _, part_rec w cs (i * 3) _ _ _ q0 q1 q2⟩
theorem BRep.same_cells {w : World} {ba bb : Nat} {tb : Nat → Rec} (ha : BRep w ba tb) (hb : BRep w bb tb) : ∃ cs, w.heap[ba]? = some (.cells cs 48 (0, 0)) ∧ w.heap[bb]? = some (.cells cs 48 (0, 0)) ∧ cs.size = 180 ∧
    ∀ i, i < 60 → cs[i * 3]? = some (.int .i64 (tb i).p) ∧ cs[i * 3 + 1]? = some (.int .i64 (tb i).s) ∧ cs[i * 3 + 2]? = some (.int .i64 (tb i).v) := by
  obtain ⟨c1, a1, a2, a3⟩ := ha.blk
  obtain ⟨c2, b1, b2, b3⟩ := hb.blk
  have e : c1 = c2 := by
    apply Array.ext_getElem?
    intro j
    by_cases hj : j < 180
    · have hd : j = j / 3 * 3 + j % 3 := by omega
      obtain ⟨p0, p1, p2⟩ := a3 (j / 3) (by omega)
      obtain ⟨q0, q1, q2⟩ := b3 (j / 3) (by omega)
      have hm : j % 3 = 0 ∨ j % 3 = 1 ∨ j % 3 = 2 := by omega
      rcases hm with hm | hm | hm
      · rw [hd, hm, Nat.add_zero, p0, q0]
      · rw [hd, hm, p1, q1]
      · rw [hd, hm, p2, q2]
    · rw [Array.getElem?_eq_none (by omega), Array.getElem?_eq_none (by omega)]
  subst e
  exact ⟨c1, a1, b1, a2, a3⟩
theorem told_load (w : World) (g : Nat) (cs : Array Value) (h : w.heap[g]? = some (.cells cs 48 (0, 0))) (hs : cs.size = 180) : (loadVar 46 ⟨g, 0, none⟩).run Try.prog w = .ok (.agg cs) w :=
  run_loadVar_row (P := Try.prog) w g 48 46 cs (0, 0) (.array 60 36) h (by kernel_rfl) rfl (by rw [hs]; kernel_rfl)
end Go.Proofs.Ythpjcmilfipbaaa

namespace Go.Proofs.Ythpjcmilfipbaaa
set_option linter.unusedVariables false
set_option linter.unusedSimpArgs false
open Go.RowKit
theorem quiet_load {P : Program} {C : World → Prop} {K : Act → Prop} {o : Oper} {a : Act} (t : TypeId) (x : Operand) (ho : o.op = .load t x) (ad : Addr) (hx : a.eval x = .pointer (some ad)) (v : Value) (h : ∀ w, C w → (loadVar t ad).run P w = .ok v w) (hK : K (a.put o.dst v)) : o.quiet P a C K := by
  refine ⟨v, fun w hw => ?_, hK⟩
  unfold Oper.quietAt execOp
  have := h w hw
  simp [ho, hx, Instr.loadAt, Instr.sureAddr, this, Oper.quietUpon]
theorem quiet_eql {P : Program} {C : World → Prop} {K : Act → Prop} {o : Oper} {a : Act} (t tt : TypeId) (x y : Operand) (ho : o.op = .binOp .eql t x y tt) (xs ys : Array Value) (hx : a.eval x = .agg xs) (hy : a.eval y = .agg ys) (hm : P.eqGuardType P.depth t = false)
    (h : ∀ w, C w → (Op.equalIn 10000 t (.agg xs) (.agg ys)).run P w = .ok true w) (hK : K (a.put o.dst (.bool true))) : o.quiet P a C K := by
  refine ⟨.bool true, fun w hw => ?_, hK⟩
  unfold Oper.quietAt execOp
  have := h w hw
  simp [ho, hx, hy, run_eqGuard_agg w .eql t x y xs ys hm, run_eql_struct, this, Oper.quietUpon]
section
variable {R : World → (Nat → Prop) → Nat → Wd → Prop} {w w1 : World} {own : Nat → Prop} {cx cy ba : Nat} {dx dy : Wd} {tb : Nat → Rec}
theorem Duo.step (s : Side R fnPrg 41 36) (h : Duo R w own cx cy dx dy) (ho : own ba) (hB : BRep w ba tb) (hi : ∃ g, Inv dx g ∧ BookOk dx.eras g tb) (k a b c v : Int) (hk : In64 k) (ha : In64 a) (hb : In64 b) (hc : In64 c) (hv : In64 v) :
    Calls Try.prog 25 #[.pointer (some ⟨ba, 0, none⟩), .pointer (some ⟨cx, 0, none⟩), kopVal k a b c v] w fun e w' =>
      e = .returned (.bool true) ∧ Duo R w' own cx cy (opD dx k a b c v) dy ∧ BRep w' ba (opT dx tb k a b c v) ∧ (∃ g, Inv (opD dx k a b c v) g ∧ BookOk (opD dx k a b c v).eras g (opT dx tb k a b c v)) ∧ Fr (fun q => ¬ own q ∨ q = ba) w w' := by
  obtain ⟨ownx, h1, h2, h3⟩ := h.open s
  refine (gstep_any s ⟨h1, hB, h2 _ ho, hi⟩ k a b c v hk ha hb hc hv).mono fun e w' ⟨q1, q2, q3⟩ => ⟨q1, h3 w' _ q2.one (q3.mono fun q e => e.elim Or.inl fun e => Or.inr (by rw [e]; exact ho)), q2.book, q2.inv, q3.mono fun q e => e.elim (fun e => Or.inl fun x => e (h2 q x)) Or.inr⟩
theorem Duo.wrongy (s : Side R fnPrg 41 36) (h : Duo R w own cx cy dx dy) (v : Int) (hv : In64 v) :
    Calls Try.prog 33 #[.pointer (some ⟨cy, 0, none⟩), .int .i64 v] w fun e w' => e = .returned (.bool true) ∧ Duo R w' own cx cy dx dy ∧ Fr (fun k => ¬ own k) w w' := by
  obtain ⟨owny, h1, h2, h3⟩ := h.symm.open s
  exact (kwrong_any s h1 v hv).mono fun e w' ⟨q1, q2, q3⟩ => ⟨q1, (h3 w' _ q2 (q3.mono fun k e => Or.inl e)).symm, q3.mono fun k e x => e (h2 k x)⟩
/-- Two clusters in one state, and two books alike. -/
structure Rf (R : World → (Nat → Prop) → Nat → Wd → Prop) (B cx cy ba bb : Nat) (w : World) (d : Wd) (tb : Nat → Rec) : Prop where
  duo : Duo R w (fun k => k < B ∨ k = ba ∨ k = bb) cx cy d d
  ba : BRep w ba tb
  bb : BRep w bb tb
  inv : ∃ g, Inv d g ∧ BookOk d.eras g tb
theorem wrap_in (x : Int) : In64 (wrap64 x) := by
  unfold In64 wrap64
  omega
theorem fr_below {B : Nat} {P : Nat → Prop} (hB : B ≤ w.heap.size) (h : Fr P w w1) (hp : ∀ k, k < B → ¬ P k) : Below B w w1 :=
  ⟨h.os, h.tape, h.output, h.size, fun k hk => h.block k (Nat.lt_of_lt_of_le hk hB) (hp k hk)⟩
set_option maxHeartbeats 6400000 in
set_option maxRecDepth 100000 in
theorem krefused_any (s : Side R fnPrg 41 36) (w : World) (ao : Option Addr) (n cap : Nat) (v : Int) (hv : In64 v) (x : Nat → Nat → Int) (hn : n ≤ 4000000000000) (hx : ∀ i j, Fits (x i j)) (hs : KScript w ao n x) :
    Calls Try.prog 13 #[.slice ao n cap, .int .i64 v] w fun e w' => e = .returned (.bool true) ∧ Below w.heap.size w w' := by
  have HSI := hidK s
  have HS := hidK hs
  have HX := hidK hx
  have HV := hidK hv
  obtain ⟨v0, v1⟩ := hv
  clear s hs hx
  go_enter Try.func13, Try.ntmps13
  go_wp2_with fail
  refine (kbegun_any HSI.out w).mono ?_
  rintro e w1 ⟨cx, rfl, h1, hB1⟩
  have H1 := hidK h1
  have HB1 := hidK hB1
  clear h1 hB1
  go_wp2_with fail
  refine (kbegun_any HSI.out w1).mono ?_
  rintro e w2 ⟨cy, rfl, h2, hB2⟩
  have hs1 : w.heap.size ≤ w1.heap.size := HB1.out.size
  have H2 := hidK (Duo.two (n := 0) HSI.out H1.out h2 hB2)
  have HB2 := hidK (HB1.out.trans (hB2.mono hs1))
  have hs2 : w.heap.size ≤ w2.heap.size := HB2.out.size
  clear h2 hB2 H1 HB1
  have HBA := hidK (((Below.refl w2.heap.size w2).alloc (Nat.le_refl _) (.cells Try.zeroCells48 48)).alloc (by simp) (.cells Try.zeroCells48 48))
  have HD := hidK (H2.out.more HSI.out HBA.out (fun k => k < w.heap.size ∨ k = w2.heap.size ∨ k = w2.heap.size + 1) fun k hk => by
    rcases hk with hk | hk | hk
    · exact Or.inl hk
    · exact Or.inr ⟨by omega, by simp; omega⟩
    · exact Or.inr ⟨by omega, by simp; omega⟩)
  have HK1 := hidK ((BRep.none w2).same (w1 := (w2.alloc (.cells Try.zeroCells48 48)).alloc (.cells Try.zeroCells48 48)) (Below.heap_alloc _ _ _ (by simp)))
  have HK2 := hidK (BRep.none (w2.alloc (.cells Try.zeroCells48 48)))
  have hsz : (w2.alloc (.cells Try.zeroCells48 48)).heap.size = w2.heap.size + 1 := by simp
  rw [hsz] at HK2
  clear hsz
  go_wp2_with fail
  refine wp_genR (fun V => (∃ d tb, Rf R w.heap.size cx cy w2.heap.size (w2.heap.size + 1) V d tb) ∧ Below w.heap.size w V) ⟨⟨dBegun, tbNone, ⟨HD.out, HK1.out, HK2.out, by
      obtain ⟨g, hg⟩ := dBegun_inv
      exact ⟨g, hg, bookNone _ _⟩⟩⟩, HB2.out.trans (HBA.out.mono hs2)⟩ ?_
  rintro V ⟨hV, hVB⟩
  clear HD HK1 HK2 HBA HB2 H2
  have HVV := hidK hV
  have HVB := hidK hVB
  clear hV hVB
  have hbb1 : w2.heap.size ≠ w2.heap.size + 1 := by omega
  generalize w2.heap.size = ba at *
  go_loopw [11] (fun t wr => ∃ k : Nat, k ≤ n ∧ t = .int .i64 k ∧ (∃ d tb, Rf R w.heap.size cx cy ba (ba + 1) wr d tb) ∧ Below w.heap.size w wr) (fun t _ => n - (intOf t).toNat)
  case atStart => exact ⟨0, Nat.zero_le _, rfl, HVV.out, HVB.out⟩
  case round =>
    obtain ⟨k, hk, rfl, ⟨d, tb, hK⟩, hB⟩ := hrel
    have HK := hidK hK
    have HB := hidK hB
    have hle : w.heap.size ≤ wr.heap.size := hB.size
    clear hK hB HVV HVB
    by_cases hkn : k < n
    · obtain ⟨sb, so, rfl, hsb, hcells⟩ := HS.out (by omega)
      have hc : ∀ j, j < 5 → wr.cell? ⟨sb, so + k * 5 + j, none⟩ = some (.int .i64 (x k j)) := fun j hj => (HB.out.cell hsb).trans (hcells k j hkn hj)
      have c0 := hc 0 (by omega); have c1 := hc 1 (by omega); have c2 := hc 2 (by omega); have c3 := hc 3 (by omega); have c4 := hc 4 (by omega)
      simp only [Nat.add_zero] at c0
      have f0 := HX.out k 0
      have f1 := HX.out k 1
      have f2 := HX.out k 2
      have f3 := HX.out k 3
      have f4 := HX.out k 4
      clear hc hcells
      generalize x k 0 = x0 at *
      generalize x k 1 = x1 at *
      generalize x k 2 = x2 at *
      generalize x k 3 = x3 at *
      generalize x k 4 = x4 at *
      have HC := hidK (Duo.step (ba := ba) HSI.out HK.out.duo (Or.inr (Or.inl rfl)) HK.out.ba HK.out.inv x0 x1 x2 x3 x4 ⟨f0.1, f0.2⟩ ⟨f1.1, f1.2⟩ ⟨f2.1, f2.2⟩ ⟨f3.1, f3.2⟩ ⟨f4.1, f4.2⟩)
      unfold kopVal at HC
      have hki0 : (0 : Int) ≤ (k : Int) := by omega
      have hki1 : (k : Int) < (n : Int) := by omega
      go_wp2_with fail
      refine HC.out.mono ?_
      rintro e w3 ⟨rfl, h3, hb3, hi3, hF3⟩
      have hB3 := fr_below hle hF3 fun q hq e => e.elim (fun e => e (Or.inl hq)) fun e => by omega
      have hnn : ba + 1 ≠ ba := by omega
      have h3b : BRep w3 (ba + 1) tb := HK.out.bb.same (hF3.block _ HK.out.bb.lt fun e => e.elim (fun e => e (Or.inr (Or.inr rfl))) hnn)
      have HC2 := hidK (Duo.step (ba := ba + 1) HSI.out h3.symm (Or.inr (Or.inr rfl)) h3b HK.out.inv x0 x1 x2 x3 x4 ⟨f0.1, f0.2⟩ ⟨f1.1, f1.2⟩ ⟨f2.1, f2.2⟩ ⟨f3.1, f3.2⟩ ⟨f4.1, f4.2⟩)
      unfold kopVal at HC2
      have HB3 := hidK (HB.out.trans hB3)
      have Hb3 := hidK hb3
      have Hi3 := hidK hi3
      have k0 := (hB3.cell (p := ⟨sb, so + k * 5, none⟩) hsb).trans c0
      have k1 := (hB3.cell (p := ⟨sb, so + k * 5 + 1, none⟩) hsb).trans c1
      have k2 := (hB3.cell (p := ⟨sb, so + k * 5 + 2, none⟩) hsb).trans c2
      have k3 := (hB3.cell (p := ⟨sb, so + k * 5 + 3, none⟩) hsb).trans c3
      have k4 := (hB3.cell (p := ⟨sb, so + k * 5 + 4, none⟩) hsb).trans c4
      have hle3 : w.heap.size ≤ w3.heap.size := HB3.out.size
      clear h3 hb3 hi3 hF3 hB3 h3b HC c0 c1 c2 c3 c4
      go_wp2_with fail
      refine HC2.out.mono ?_
      rintro e w4 ⟨rfl, h4, hb4, hi4, hF4⟩
      have hB4 := fr_below hle3 hF4 fun q hq e => e.elim (fun e => e (Or.inl hq)) fun e => by omega
      have Hb4 := hidK hb4
      have Hb4a := hidK (Hb3.out.same (hF4.block _ Hb3.out.lt fun e => e.elim (fun e => e (Or.inr (Or.inl rfl))) (Ne.symm hnn)))
      have HB4 := hidK (HB3.out.trans hB4)
      have hle4 : w.heap.size ≤ w4.heap.size := HB4.out.size
      have HC3 := hidK (fun v => h4.symm.wrongy HSI.out v)
      clear h4 hb4 hi4 hF4 hB4 HC2 k0 k1 k2 k3 k4
      go_wp2_with fail
      refine (HC3.out (wrap64 (v + k)) (wrap_in _)).mono ?_
      rintro e w5 ⟨rfl, h5, hF5⟩
      have hB5 := fr_below hle4 hF5 fun q hq e => e (Or.inl hq)
      have HR5 : Hid (Rf R w.heap.size cx cy ba (ba + 1) w5 (opD d x0 x1 x2 x3 x4) (opT d tb x0 x1 x2 x3 x4)) := ⟨h5, Hb4a.out.same (hF5.block _ Hb4a.out.lt fun e => e (Or.inr (Or.inl rfl))), Hb4.out.same (hF5.block _ Hb4.out.lt fun e => e (Or.inr (Or.inr rfl))), Hi3.out⟩
      have HB5 := hidK (HB4.out.trans hB5)
      clear h5 hF5 hB5 HC3
      go_wp2_with fail
      go_roundw
      case rel => exact ⟨k + 1, by omega, by go_num, ⟨_, _, HR5.out⟩, HB5.out⟩
      case measure => simp [intOf]; omega
    · have : k = n := by omega
      subst this
      have HC3 := hidK (HK.out.duo.wrongy HSI.out v HV.out)
      go_wp2_with fail
      refine HC3.out.mono ?_
      rintro e w5 ⟨rfl, h5, hF5⟩
      have hB5 := fr_below hle hF5 fun q hq e => e (Or.inl hq)
      have Hba := hidK (HK.out.ba.same (hF5.block _ HK.out.ba.lt fun e => e (Or.inr (Or.inl rfl))))
      have Hbb := hidK (HK.out.bb.same (hF5.block _ HK.out.bb.lt fun e => e (Or.inr (Or.inr rfl))))
      have HB5 := hidK (HB.out.trans hB5)
      have HC4 := hidK (ksame_any HSI.out h5)
      have hle5 : w.heap.size ≤ w5.heap.size := HB5.out.size
      clear h5 hF5 hB5 HC3
      go_wp2_with fail
      refine HC4.out.mono ?_
      rintro e w6 ⟨rfl, h6, hF6⟩
      have hB6 := fr_below hle5 hF6 fun q hq e => e (Or.inl hq)
      have Hba6 := hidK (Hba.out.same (hF6.block _ Hba.out.lt fun e => e (Or.inr (Or.inl rfl))))
      have Hbb6 := hidK (Hbb.out.same (hF6.block _ Hbb.out.lt fun e => e (Or.inr (Or.inr rfl))))
      have HB6 := hidK (HB5.out.trans hB6)
      clear h6 hF6 hB6 HC4
      obtain ⟨cs, ra, rb, rs, rv⟩ := Hba6.out.same_cells Hbb6.out
      have la := hidK (fun nn => told_load (w6.drewN nn) ba cs ra rs)
      have lb := hidK (fun nn => told_load (w6.drewN nn) (ba + 1) cs rb rs)
      have le := hidK (fun nn => told_self (w6.drewN nn) cs tb rv)
      clear ra rb rs rv
      go_wp2_with fail
      refine wp_region_quiet_lit (by kernel_rfl) (by kernel_rfl) ?_
      iterate 8 (go_big_quiet_step (fail))
      go_big_quiet_want
      refine quiet_load 46 _ rfl ⟨ba, 0, none⟩ rfl (.agg cs) (fun w' hw' => by obtain ⟨nn, rfl⟩ := hw'; exact la.out nn) ?_
      go_simp
      go_big_quiet_on
      iterate 3 (go_big_quiet_step (fail))
      go_big_quiet_want
      refine quiet_load 46 _ rfl ⟨ba + 1, 0, none⟩ rfl (.agg cs) (fun w' hw' => by obtain ⟨nn, rfl⟩ := hw'; exact lb.out nn) ?_
      go_simp
      go_big_quiet_on
      go_big_quiet_want
      refine quiet_eql 46 _ _ _ rfl cs cs rfl rfl (by kernel_rfl) (fun w' hw' => by obtain ⟨nn, rfl⟩ := hw'; exact le.out nn) ?_
      go_simp
      go_big_quiet_on
      iterate 2 (go_big_quiet_step (fail))
      refine wpQuiet_nil ?_
      intro _ hw'
      obtain ⟨nq, hw''⟩ := hw'
      subst hw''
      go_wp2_with fail
      go_ret
      exact ⟨rfl, HB6.out.trans ⟨rfl, rfl, rfl, Nat.le_refl _, fun _ _ => rfl⟩⟩
end
end Go.Proofs.Ythpjcmilfipbaaa
