/- My own text: several texts in one. -/
import Derived.Test.YthpjcmilfipbaaaS1
import Derived.Test.YthpjcmilfipbaaaK2
import Derived.Test.YthpjcmilfipbaaaK3
import Derived.BigRegion
namespace Go.Proofs.Ythpjcmilfipbaaa
set_option linter.unusedVariables false
set_option linter.unusedSimpArgs false
open Go.RowKit
theorem hidK {p : Prop} (h : p) : Hid p := h
/-- A cluster that has none of the caller's own blocks. -/
structure One (R : World → (Nat → Prop) → Nat → Wd → Prop) (w : World) (own : Nat → Prop) (cb : Nat) (d : Wd) : Prop where
  rep : ∃ S, R w S cb d ∧ ∀ k, own k → ¬ S k
  ok : ROk d
  lt : ∀ k, own k → k < w.heap.size
section
variable {R : World → (Nat → Prop) → Nat → Wd → Prop} {fn : Cl → Nat} {fm fw : Nat} {w w1 : World} {own : Nat → Prop} {cb : Nat} {d : Wd}
theorem One.call (s : Side R fn fm fw) (h : One R w own cb d) (c : Cl) (hc : c.fits) :
    Calls Try.prog (fn c) (c.args (.pointer (some ⟨cb, 0, none⟩))) w fun e w' => e = .returned (c.ans d) ∧ One R w' own cb (c.next d) ∧ Fr (fun k => ¬ own k) w w' := by
  obtain ⟨S, h1, h2⟩ := h.rep
  refine (s.call h1 h.ok c hc trivial).mono fun e w' ⟨k1, k2, k3⟩ => ⟨k1, ⟨⟨Ext S w, k2, fun k hk e => ?_⟩, h.ok.cl c, fun k hk => Nat.lt_of_lt_of_le (h.lt k hk) k3.size⟩, k3.mono fun k e x => h2 k x e⟩
  rcases e with e | e
  · exact h2 k hk e
  · have := h.lt k hk; omega
theorem One.quiet (s : Side R fn fm fw) (h : One R w own cb d) (hb : Below w.heap.size w w1) : One R w1 own cb d := by
  obtain ⟨S, h1, h2⟩ := h.rep
  exact ⟨⟨S, s.same h1 fun k _ hk => hb.block k hk, h2⟩, h.ok, fun k hk => Nat.lt_of_lt_of_le (h.lt k hk) hb.size⟩
/-- The caller has turned its own. -/
theorem One.mine (s : Side R fn fm fw) (h : One R w own cb d) (hb : Fr own w w1) : One R w1 own cb d := by
  obtain ⟨S, h1, h2⟩ := h.rep
  exact ⟨⟨S, s.same h1 fun k hs hk => hb.block k hk fun e => h2 k e hs, h2⟩, h.ok, fun k hk => Nat.lt_of_lt_of_le (h.lt k hk) hb.size⟩
/-- The caller owns more: a block that is not the cluster's. -/
theorem One.more (s : Side R fn fm fw) (h : One R w own cb d) (hb : Below w.heap.size w w1) (own' : Nat → Prop) (ho : ∀ k, own' k → own k ∨ (w.heap.size ≤ k ∧ k < w1.heap.size)) : One R w1 own' cb d := by
  obtain ⟨S, h1, h2⟩ := h.rep
  refine ⟨⟨fun k => S k ∧ k < w.heap.size, s.same (s.mono h1 fun k hk e => ⟨e, hk⟩) fun k _ hk => hb.block k hk, fun k hk e => ?_⟩, h.ok, fun k hk => ?_⟩
  · rcases ho k hk with q | q
    · exact h2 k q e.1
    · omega
  · rcases ho k hk with q | q
    · exact Nat.lt_of_lt_of_le (h.lt k q) hb.size
    · exact q.2
theorem One.msgs (s : Side R fn fm fw) (h : One R w own cb d) :
    Calls Try.prog fm #[.pointer (some ⟨cb, 0, none⟩)] w fun e w' => ∃ v, e = .returned (.tuple #[v, .int .i64 0]) ∧ w'.ownsRow w.heap.size 109 5 v d.way.length (seeCellsR d.way) ∧ Below w.heap.size w w' := by
  obtain ⟨S, h1, h2⟩ := h.rep
  exact s.msgs h1 h.ok
theorem One.new (s : Side R fn fm fw) (w : World) : Calls Try.prog fw #[] w fun e w' => ∃ b, e = .returned (.pointer (some ⟨b, 0, none⟩)) ∧ One R w' (fun k => k < w.heap.size) b rNew ∧ Below w.heap.size w w' :=
  (s.new w).mono fun e w' ⟨b, h1, h2, h3⟩ => ⟨b, h1, ⟨⟨_, h2, fun k hk e => by have e : w.heap.size ≤ k := e; omega⟩, ROk.new, fun k hk => Nat.lt_of_lt_of_le hk h3.size⟩, h3⟩
theorem One.sub (h : One R w own cb d) {own' : Nat → Prop} (ho : ∀ k, own' k → own k) : One R w own' cb d := by
  obtain ⟨S, h1, h2⟩ := h.rep
  exact ⟨⟨S, h1, fun k hk => h2 k (ho k hk)⟩, h.ok, fun k hk => h.lt k (ho k hk)⟩
end
/-- The book. -/
structure BRep (w : World) (bb : Nat) (tb : Nat → Rec) : Prop where
  blk : ∃ cs, w.heap[bb]? = some (.cells cs 48 (0, 0)) ∧ cs.size = 180 ∧ ∀ i, i < 60 → cs[i * 3]? = some (.int .i64 (tb i).p) ∧ cs[i * 3 + 1]? = some (.int .i64 (tb i).s) ∧ cs[i * 3 + 2]? = some (.int .i64 (tb i).v)
section
variable {w w1 : World} {bb : Nat} {tb : Nat → Rec}
theorem BRep.lt (h : BRep w bb tb) : bb < w.heap.size := by
  obtain ⟨cs, h1, _⟩ := h.blk
  exact (Array.getElem?_eq_some_iff.1 h1).1
theorem BRep.same (h : BRep w bb tb) (he : w1.heap[bb]? = w.heap[bb]?) : BRep w1 bb tb := by
  obtain ⟨cs, h1, h2⟩ := h.blk
  exact ⟨cs, by rw [he]; exact h1, h2⟩
theorem BRep.cells (h : BRep w bb tb) (i : Nat) (hi : i < 60) : w.cell? ⟨bb, i * 3, none⟩ = some (.int .i64 (tb i).p) ∧ w.cell? ⟨bb, i * 3 + 1, none⟩ = some (.int .i64 (tb i).s) ∧ w.cell? ⟨bb, i * 3 + 2, none⟩ = some (.int .i64 (tb i).v) := by
  obtain ⟨cs, h1, _, h2⟩ := h.blk
  obtain ⟨q1, q2, q3⟩ := h2 i hi
  exact ⟨(cell_of_row _ _ _ _ _ _ h1).trans q1, (cell_of_row _ _ _ _ _ _ h1).trans q2, (cell_of_row _ _ _ _ _ _ h1).trans q3⟩
theorem BRep.free (h : BRep w bb tb) (o : Nat) : w.frozen? ⟨bb, o, none⟩ = false := by
  obtain ⟨cs, h1, _⟩ := h.blk
  simp [World.frozen?, h1]
theorem BRep.set (h : BRep w bb tb) (i : Nat) (hi : i < 60) (r : Rec) :
    BRep (((w.setCell ⟨bb, i * 3, none⟩ (.int .i64 r.p)).setCell ⟨bb, i * 3 + 1, none⟩ (.int .i64 r.s)).setCell ⟨bb, i * 3 + 2, none⟩ (.int .i64 r.v)) bb (upd tb i r) := by
  obtain ⟨cs, h1, h2, h3⟩ := h.blk
  refine ⟨_, heap_setCell_at _ _ _ _ _ _ _ (heap_setCell_at _ _ _ _ _ _ _ (heap_setCell_at _ _ _ _ _ _ _ h1)), by simp [h2], fun j hj => ?_⟩
  by_cases e : j = i
  · subst e
    rw [upd_same]
    simp [Array.getElem?_setIfInBounds, h2]
    omega
  · rw [upd_other _ _ _ _ e]
    obtain ⟨q1, q2, q3⟩ := h3 j hj
    simp only [Array.getElem?_setIfInBounds]
    refine ⟨?_, ?_, ?_⟩
    · rw [if_neg (by omega), if_neg (by omega), if_neg (by omega)]; exact q1
    · rw [if_neg (by omega), if_neg (by omega), if_neg (by omega)]; exact q2
    · rw [if_neg (by omega), if_neg (by omega), if_neg (by omega)]; exact q3
theorem BRep.setV (h : BRep w bb tb) (i : Nat) (hi : i < 60) (v : Int) : BRep (w.setCell ⟨bb, i * 3 + 2, none⟩ (.int .i64 v)) bb (upd tb i { tb i with v := v }) := by
  obtain ⟨cs, h1, h2, h3⟩ := h.blk
  refine ⟨_, heap_setCell_at _ _ _ _ _ _ _ h1, by simp [h2], fun j hj => ?_⟩
  obtain ⟨q1, q2, q3⟩ := h3 j hj
  simp only [Array.getElem?_setIfInBounds]
  by_cases e : j = i
  · subst e
    rw [upd_same]
    exact ⟨by rw [if_neg (by omega)]; exact q1, by rw [if_neg (by omega)]; exact q2, by rw [if_pos rfl, if_pos (by omega)]⟩
  · rw [upd_other _ _ _ _ e]
    exact ⟨by rw [if_neg (by omega)]; exact q1, by rw [if_neg (by omega)]; exact q2, by rw [if_neg (by omega)]; exact q3⟩
theorem BRep.set3 (h : BRep w bb tb) (i : Nat) (hi : i < 60) (r : Rec) :
    BRep (((w.setCell ⟨bb, i * 3, none⟩ (.int .i64 r.p)).setCell ⟨bb, i * 3 + 1, none⟩ (.int .i64 r.s)).setCell ⟨bb, i * 3 + 2, none⟩ (.int .i64 r.v)).drew bb (upd tb i r) ∧
    Fr (fun k => k = bb) w (((w.setCell ⟨bb, i * 3, none⟩ (.int .i64 r.p)).setCell ⟨bb, i * 3 + 1, none⟩ (.int .i64 r.s)).setCell ⟨bb, i * 3 + 2, none⟩ (.int .i64 r.v)).drew := by
  have f : ∀ (V : World) (o : Nat) (u : Value), Fr (fun k => k = bb) V (V.setCell ⟨bb, o, none⟩ u) := fun V o u => Fr.setCell (S := fun k => k = bb) V ⟨bb, o, none⟩ rfl u
  exact ⟨(h.set i hi r).same rfl, (((f _ _ _).then (f _ _ _)).then (f _ _ _)).then (Fr.drew _ _)⟩
theorem BRep.setV1 (h : BRep w bb tb) (i : Nat) (hi : i < 60) (v : Int) : BRep (w.setCell ⟨bb, i * 3 + 2, none⟩ (.int .i64 v)).drew bb (upd tb i { tb i with v := v }) ∧ Fr (fun k => k = bb) w (w.setCell ⟨bb, i * 3 + 2, none⟩ (.int .i64 v)).drew :=
  ⟨(h.setV i hi v).same rfl, (Fr.setCell (S := fun k => k = bb) w ⟨bb, i * 3 + 2, none⟩ rfl _).then (Fr.drew _ _)⟩
end
/-- What a book holds behind a telling. -/
def wrote (o x : Rec) : Rec := if o.p = 0 then x else if o.v < 0 then { o with v := x.v } else o
/-- The telling goes with the book. -/
structure Goes (tb : Nat → Rec) (at_ : Nat) (x : Rec) : Prop where
  lt : at_ < 60
  other : ∀ i, i < 60 → i ≠ at_ → ¬ ((tb i).p = x.p ∧ (tb i).s = x.s)
  here : (tb at_).p ≠ 0 → (tb at_).p = x.p ∧ (tb at_).s = x.s ∧ (0 ≤ (tb at_).v → 0 ≤ x.v → (tb at_).v = x.v)
set_option maxHeartbeats 3200000 in
set_option maxRecDepth 100000 in
theorem ktells_any {w : World} {bb : Nat} {tb : Nat → Rec} (h : BRep w bb tb) (n : Nat) (x : Rec) (hg : Goes tb n x) :
    Calls Try.prog 24 #[.pointer (some ⟨bb, 0, none⟩), .int .i64 n, recVal x] w fun e w' => e = .returned (.bool true) ∧ BRep w' bb (upd tb n (wrote (tb n) x)) ∧ Fr (fun k => k = bb) w w' := by
  unfold recVal
  have H := hidK h
  have HG := hidK hg
  have hn := hg.lt
  have hn0 : (0 : Int) ≤ (n : Int) := by omega
  have hn1 : (n : Int) < 60 := by omega
  have hbl := h.lt
  clear h hg
  go_enter Try.func24, Try.ntmps24
  go_wp2_with fail
  refine wp_genR (fun W => Below w.heap.size w W ∧ W.heap.size = w.heap.size + 1 ∧ W.heap[w.heap.size]? = some (.cells #[.int .i64 x.p, .int .i64 x.s, .int .i64 x.v] 36)) ⟨(Below.refl _ _).alloc (Nat.le_refl _) _, by simp, heap_alloc_new w _⟩ ?_
  rintro W ⟨hW1, hW2, hW3⟩
  have HW1 := hidK hW1
  have HW2 := hidK hW2
  have HW3 := hidK hW3
  clear hW1 hW2 hW3
  go_loopw [7] (fun t wr => ∃ j : Nat, j ≤ 60 ∧ t = .int .i64 j ∧ Below (w.heap.size + 1) W wr) (fun t _ => 60 - (intOf t).toNat)
  case atStart => exact ⟨0, Nat.zero_le _, rfl, Below.refl _ _⟩
  case round =>
    obtain ⟨j, hj60, rfl, hB⟩ := hrel
    have HB := hidK hB
    have hsz : w.heap.size + 1 ≤ wr.heap.size := by have := hB.size; have := HW2.out; omega
    have hxb := (hB.block w.heap.size (by omega)).trans HW3.out
    have x0 : wr.cell? ⟨w.heap.size, 0, none⟩ = some (.int .i64 x.p) := (cell_of_row _ _ _ _ _ _ hxb).trans rfl
    have x1 : wr.cell? ⟨w.heap.size, 1, none⟩ = some (.int .i64 x.s) := (cell_of_row _ _ _ _ _ _ hxb).trans rfl
    have x2 : wr.cell? ⟨w.heap.size, 2, none⟩ = some (.int .i64 x.v) := (cell_of_row _ _ _ _ _ _ hxb).trans rfl
    have HR := hidK (H.out.same (w1 := wr) ((hB.block bb (by omega)).trans (HW1.out.block bb hbl)))
    have hxl : w.heap.size < wr.heap.size := by omega
    have hbr : bb < wr.heap.size := by omega
    clear hxb hB
    by_cases hj : j < 60
    · obtain ⟨b0, b1, b2⟩ := HR.out.cells j hj
      have hji0 : (0 : Int) ≤ (j : Int) := by omega
      have hji1 : (j : Int) < 60 := by omega
      by_cases hjn : j = n
      · subst hjn
        go_wp2
        go_roundw
        case rel => exact ⟨j + 1, by omega, by go_num, HB.out.alloc hsz _⟩
        case measure => simp [intOf]; omega
      · have hne : ((j : Int) == (n : Int)) = false := by simp; omega
        have ho := HG.out.other j hj hjn
        cases hp : ((tb j).p == x.p)
        · go_wp2
          go_roundw
          case rel => exact ⟨j + 1, by omega, by go_num, HB.out.alloc hsz _⟩
          case measure => simp [intOf]; omega
        · have hs : ((tb j).s == x.s) = false := by
            simp at hp ⊢
            exact fun e => ho ⟨hp, e⟩
          clear ho
          go_wp2
          go_roundw
          case rel => exact ⟨j + 1, by omega, by go_num, HB.out.alloc hsz _⟩
          case measure => simp [intOf]; omega
    · have : j = 60 := by omega
      subst this
      obtain ⟨b0, b1, b2⟩ := HR.out.cells n hn
      have z0 := HR.out.free (n * 3); have z1 := HR.out.free (n * 3 + 1); have z2 := HR.out.free (n * 3 + 2)
      have HF := hidK (HW1.out.trans (HB.out.mono (Nat.le_succ _)))
      cases hp : ((tb n).p == 0)
      · obtain ⟨e1, e2, e3⟩ := HG.out.here (by simpa using hp)
        have hp0 : ¬ (tb n).p = 0 := by simpa using hp
        rw [← e1] at x0
        rw [← e2] at x1
        clear e1 e2
        cases hv : decide ((tb n).v < 0)
        · have hv0 : ¬ (tb n).v < 0 := by simpa using hv
          have hv1 : 0 ≤ (tb n).v := by omega
          have HE := hidK (show wrote (tb n) x = tb n by unfold wrote; rw [if_neg hp0, if_neg hv0])
          have HEQ := hidK (show upd tb n (tb n) = tb by funext i; unfold upd; split; (rename_i q; rw [q]); rfl)
          cases hxv : decide (0 ≤ x.v)
          · have hxv0 : ¬ 0 ≤ x.v := by simpa using hxv
            go_wp2
            go_ret
            exact ⟨rfl, by rw [HE.out, HEQ.out]; exact HR.out.same (Below.heap_alloc _ _ _ hbr), Fr.below (HF.out.alloc (by omega) _)⟩
          · have hxv0 : 0 ≤ x.v := by simpa using hxv
            rw [← e3 hv1 hxv0] at x2
            clear e3
            go_wp2
            go_ret
            exact ⟨rfl, by rw [HE.out, HEQ.out]; exact HR.out.same (Below.heap_alloc _ _ _ hbr), Fr.below (HF.out.alloc (by omega) _)⟩
        · have hv0 : (tb n).v < 0 := by simpa using hv
          have hv1 : ¬ 0 ≤ (tb n).v := by omega
          have HE := hidK (show wrote (tb n) x = { tb n with v := x.v } by unfold wrote; rw [if_neg hp0, if_pos hv0])
          go_wp2_with fail
          refine wp_genR (fun V => BRep V bb tb ∧ Below w.heap.size w V ∧ V.cell? ⟨w.heap.size, 2, none⟩ = some (.int .i64 x.v)) ⟨HR.out.same (Below.heap_alloc _ _ _ hbr), HF.out.alloc (by omega) _, by simp [World.cell?_alloc_some, x2]⟩ ?_
          rintro V ⟨hV1, hV2, v2⟩
          have HQ := hidK (hV1.setV1 n hn x.v)
          have HV2 := hidK hV2
          obtain ⟨c0, c1, c2⟩ := hV1.cells n hn
          have y2 := hV1.free (n * 3 + 2)
          clear hV1 hV2 b0 b1 b2 x0 x1 x2 z0 z1 z2 HR HF
          go_region
          go_wp2
          go_ret
          exact ⟨rfl, by rw [HE.out]; exact HQ.out.1, (Fr.below HV2.out).then HQ.out.2⟩
      · have hp0 : (tb n).p = 0 := by simpa using hp
        have HE := hidK (show wrote (tb n) x = x by unfold wrote; rw [if_pos hp0])
        go_wp2_with fail
        refine wp_genR (fun V => BRep V bb tb ∧ Below w.heap.size w V ∧ wr.heap.size < V.heap.size ∧ V.cell? ⟨w.heap.size, 0, none⟩ = some (.int .i64 x.p) ∧ V.cell? ⟨w.heap.size, 1, none⟩ = some (.int .i64 x.s) ∧ V.cell? ⟨w.heap.size, 2, none⟩ = some (.int .i64 x.v)) ⟨HR.out.same (Below.heap_alloc _ _ _ hbr), HF.out.alloc (by omega) _, by simp, by simp [World.cell?_alloc_some, x0], by simp [World.cell?_alloc_some, x1], by simp [World.cell?_alloc_some, x2]⟩ ?_
        rintro V ⟨hV1, hV2, hV3, v0, v1, v2⟩
        have HQ := hidK (hV1.set3 n hn x)
        have HV2 := hidK hV2
        obtain ⟨c0, c1, c2⟩ := hV1.cells n hn
        have y0 := hV1.free (n * 3); have y1 := hV1.free (n * 3 + 1); have y2 := hV1.free (n * 3 + 2)
        have nb : ¬ bb = w.heap.size := by omega
        have nb2 : ¬ w.heap.size = bb := by omega
        clear hV1 hV2 b0 b1 b2 x0 x1 x2 z0 z1 z2 HR HF
        go_region
        go_wp2
        go_ret
        exact ⟨rfl, by rw [HE.out]; exact HQ.out.1, (Fr.below HV2.out).then HQ.out.2⟩
end Go.Proofs.Ythpjcmilfipbaaa
