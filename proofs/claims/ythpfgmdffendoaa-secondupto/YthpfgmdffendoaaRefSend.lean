/- My own text. Walks of package ledgerref: sends, appends. -/
import Derived.Test.YthpfgmdffendoaaRefReads
namespace Go.Proofs.Ythpfgmdffendoaa
set_option linter.unusedVariables false
set_option linter.unusedSimpArgs false
open Go.RowKit
theorem infoLet : (Try.prog.info? 129).map (fun i => (i.zero, i.size, i.bytes)) = some (some (.agg #[.int .i64 0, .int .i64 0, .int .i64 0, .int .i64 0, .int .i64 0, .string ByteArray.empty]), 6, 56) := by kernel_rfl
section
variable {w : World} {S : Nat → Prop} {b : Nat} {d : Wd} {ev uv : Value}
/-- The list of messages is another one now. -/
theorem RRep.newWay {w1 : World} (h : RRep w S b d ev uv) {W : World} (hW : Fr No w W) (v' : Value) (way' : List Msg) (n gg : Nat) (hn : n = way'.length) (hv' : v'.ownBlock = some gg)
    (hown : w1.ownsRow 0 129 6 v' n (letCells way')) (hgrow : W.grownBy w1 uv.ownBlock) (hat : uv.ownBlock = some gg ∨ w.heap.size ≤ gg) :
    RRep (w1.setCell ⟨b, 77, none⟩ v') (Ext S w) b { d with way := way' } ev v' ∧ Fr S w (w1.setCell ⟨b, 77, none⟩ v') := by
  obtain ⟨cs, hbl, hc⟩ := h.blk
  have hb := h.lt
  have hblkne : ∀ {g : Nat} {v : Value} {k : Nat} {xs : List Value} {e sz : Nat}, w.ownsRow 0 e sz v k xs → v.ownBlock = some g → e ≠ 105 → g ≠ b := by
    intro g v k xs e sz ho hg he
    obtain ⟨cu, hcu⟩ := ownsRow_block ho hg
    exact ne_of_type hcu hbl he
  have hgb : gg ≠ b := by
    rcases hat with e | e
    · exact hblkne h.way e (by decide)
    · omega
  have hold : ∀ k, k < w.heap.size → uv.ownBlock ≠ some k → w1.heap[k]? = w.heap[k]? := fun k hk hu =>
    (hgrow.block k (Nat.lt_of_lt_of_le hk hW.size) (fun e => hu e.symm)).trans (hW.block k hk (fun e => e))
  have hset : ∀ k, k ≠ b → (w1.setCell ⟨b, 77, none⟩ v').heap[k]? = w1.heap[k]? := fun k hk => Below.heap_setCell _ _ _ _ hk
  have hub : uv.ownBlock ≠ some b := fun e => hblkne h.way e (by decide) rfl
  refine ⟨?_, ?_⟩
  · exact { blk := ⟨_, heap_setCell_at _ _ _ _ _ _ _ ((hold b hb hub).trans hbl), by
              refine hc.set 77 v' (by omega) ?_ ?_ ?_ ?_ ?_ ?_ ?_ ?_ ?_ ?_
              all_goals first | (intro i j hi hj; rw [if_neg (by omega)]) | (intro i hi; rw [if_neg (by omega)]) | rfl⟩
            inb := Or.inl h.inb
            eras := by
              refine ownsRow_same h.eras fun g hg hl => ?_
              have h1 : g ≠ b := hblkne h.eras hg (by decide)
              obtain ⟨cu, hcu⟩ := ownsRow_block h.eras hg
              rw [hset g h1, hold g hl]
              intro e
              obtain ⟨cu', hcu'⟩ := ownsRow_block h.way e
              exact ne_of_type hcu hcu' (by decide) rfl
            eraS := fun g hg => Or.inl (h.eraS g hg)
            way := by
              rw [← hn]
              exact ownsRow_same hown fun g hg _ => hset g (by rw [hv'] at hg; simp at hg; omega)
            wayS := fun g hg => by
              rw [hv'] at hg; simp at hg; subst hg
              rcases hat with e | e
              · exact Or.inl (h.wayS _ e)
              · exact Or.inr e }
  · have f1 : Fr S w w1 := (hW.mono (fun _ e => e.elim)).then (Fr.grown hgrow fun k hk => h.wayS k hk)
    exact f1.then (Fr.setCell _ _ h.inb _)

set_option maxHeartbeats 1600000 in
set_option maxRecDepth 100000 in
theorem rsends_any (h : RRep w S b d ev uv) (hway : d.way.length ≤ 50) (m : Msg) (s : ByteArray) (hs : s = encB m.recs) :
    Calls Try.prog 79 #[.pointer (some ⟨b, 0, none⟩), .int .i64 m.kind, .int .i64 m.frm, .int .i64 m.to, .int .i64 m.epoch, .int .i64 m.n, .string s] w fun e w' =>
      e = .returned (.tuple #[]) ∧ (∃ uv', RRep w' (Ext S w) b (rSends d m) ev uv') ∧ Fr S w w' := by
  have hw := h.cWay
  have hb := h.lt
  have hfr := h.free 77
  obtain ⟨ao, cap, hu, _, _, _⟩ := ownsRow_shape h.way
  have hne : uv.ownBlock ≠ some b := by
    intro e
    obtain ⟨cs, hbl, _⟩ := h.blk
    obtain ⟨cu, hcu⟩ := ownsRow_block h.way e
    exact ne_of_type hcu hbl (by decide) rfl
  subst hu
  have H : Hid (RRep w S b d ev (.slice ao d.way.length cap)) := h
  have HS : Hid (s = encB m.recs) := hs
  have hW : Hid (w.ownsRow 0 129 6 (.slice ao d.way.length cap) d.way.length (letCells d.way)) := h.way
  clear h hs
  by_cases hfull : d.way.length < 50
  · have HF : Hid (rSends d m = { d with way := d.way ++ [m] }) := by show rSends d m = _; simp [rSends, hfull]
    have hlt : (d.way.length : Int) < 50 := by omega
    obtain ⟨i0, hi0, hz0, hz1, hz2⟩ := info_parts infoLet
    have HNs : Hid (letRow m = [.int .i64 m.kind, .int .i64 m.frm, .int .i64 m.to, .int .i64 m.epoch, .int .i64 m.n, .string s]) := by
      show letRow m = _
      rw [letRow, ← HS.out]
    have hnews : ∀ u ∈ ([.int .i64 m.kind, .int .i64 m.frm, .int .i64 m.to, .int .i64 m.epoch, .int .i64 m.n, .string s] : List Value), u.oneCell' = true := by rw [← HNs.out]; exact letRow_one m
    go_enter Try.func79, Try.ntmps79
    go_wp2_with (first | (at_builtin; refine wpList_append_lies _ rfl _ _ 103 rfl 0 129 i0 _ 6 56 Try.underlying103 hi0 hz0 hz1 hz2 rfl (by omega) (.slice ao d.way.length cap) d.way.length (letCells d.way) rfl (hW.out.alloc _) ⟨w.heap.size, 0, none⟩ 1 1 [.int .i64 m.kind, .int .i64 m.frm, .int .i64 m.to, .int .i64 m.epoch, .int .i64 m.n, .string s] rfl rfl (World.news_of_block (cs := #[.int .i64 m.kind, .int .i64 m.frm, .int .i64 m.to, .int .i64 m.epoch, .int .i64 m.n, .string s]) (t := 129) (fr := (0, 0)) (heap_alloc_new w _)) hnews (by omega) (by unfold maxLen; omega) (by omega) (by omega) (w.heap.size + 1) (by simp) ?_; intro gg cap' w1 hown1 hgrow hat hlt2; have hc51 : w1.cell? ⟨b, 77, none⟩ = some (.slice ao d.way.length cap) := (by rw [hgrow.cell_far _ (by simp; omega) (Ne.symm hne)]; simp [World.cell?_alloc_some, hw]); have hf51 : w1.frozen? ⟨b, 77, none⟩ = false := (by rw [hgrow.frozen_far _ (by simp; omega) (Ne.symm hne)]; simp [frozen?_alloc_cells, hfr])))
    refine bodyPost_end (results_none rfl _ _ _) rfl ?_
    have hown2 : w1.ownsRow 0 129 6 (.slice (some ⟨gg, 0, none⟩) (d.way.length + 1) cap') (d.way.length + 1) (letCells (d.way ++ [m])) := by
      rw [letCells_append]
      have e : letCells [m] = letRow m := by simp [letCells]
      rw [e, HNs.out]; exact hown1
    have R := H.out.newWay (W := w.alloc _) (Fr.alloc _ _ _) (.slice (some ⟨gg, 0, none⟩) (d.way.length + 1) cap') (d.way ++ [m]) (d.way.length + 1) gg (by simp) rfl hown2 hgrow (orR hat fun e => by omega)
    exact ⟨rfl, ⟨_, by rw [HF.out]; exact R.1⟩, R.2⟩
  · have HF : Hid (rSends d m = d) := by show rSends d m = d; simp [rSends, hfull]
    have hge : (50 : Int) ≤ (d.way.length : Int) := by omega
    go_enter Try.func79, Try.ntmps79
    go_wp2
    exact bodyPost_end (results_none rfl _ _ _) rfl ⟨rfl, ⟨_, by rw [HF.out]; exact H.out.mono fun k _ hk => Or.inl hk⟩, Fr.refl _ _⟩
end
theorem wrap_small (x : Int) (h0 : -1000000 ≤ x) (h1 : x ≤ 1000000) : IntKind.i64.wrap x = x := by
  simp [IntKind.wrap, IntKind.signed, IntKind.bits]
  omega
theorem wrap_u8 (x : Int) (h0 : 0 ≤ x) (h1 : x ≤ 255) : IntKind.u8.wrap x = x := by
  simp [IntKind.wrap, IntKind.signed, IntKind.bits]
  omega
theorem flat_drop {α β : Type} (f : α → List β) (s : Nat) (hf : ∀ x, (f x).length = s) : ∀ (l : List α) (k : Nat), (l.flatMap f).drop (k * s) = (l.drop k).flatMap f
  | [], k => by simp
  | a :: l, 0 => by simp
  | a :: l, k + 1 => by
    have e : (k + 1) * s = (f a).length + k * s := by rw [hf, Nat.add_mul]; omega
    rw [List.flatMap_cons, e, ← List.drop_drop, List.drop_left, flat_drop f s hf l k]; rfl
theorem flat_take {α β : Type} (f : α → List β) (s : Nat) (hf : ∀ x, (f x).length = s) : ∀ (l : List α) (k : Nat), (l.flatMap f).take (k * s) = (l.take k).flatMap f
  | [], k => by simp
  | a :: l, 0 => by simp
  | a :: l, k + 1 => by
    have e : (k + 1) * s = (f a).length + k * s := by rw [hf, Nat.add_mul]; omega
    rw [List.flatMap_cons, e, List.take_length_add_append, flat_take f s hf l k]; simp
theorem enc_extract (l : List Rec) (k : Nat) : (encB l).extract (k * 3) (k * 3 + 3) = encB ((l.drop k).take 1) := by
  apply ByteArray.ext
  rw [ByteArray.data_extract]
  apply Array.toList_inj.1
  rw [Array.toList_extract]
  show List.take (k * 3 + 3 - k * 3) (List.drop (k * 3) (recBytes l)) = recBytes ((l.drop k).take 1)
  have e : k * 3 + 3 - k * 3 = 1 * 3 := by omega
  rw [e, recBytes, flat_drop _ 3 (fun _ => rfl), flat_take _ 3 (fun _ => rfl)]; rfl
theorem enc_cut (l : List Rec) (k : Nat) (hk : k < l.length) (w : World) :
    (Instr.slice 9 (.string (encB l)) (some (.int .i64 (3 * (k : Int)))) (some (.int .i64 (3 * (k : Int) + 3))) none).run Try.prog w = .ok (.string (encB ((l.drop k).take 1))) w := by
  rw [run_slice_string_if w 9 (encB l) .i64 .i64 _ _ Try.underlying9]
  have hs := encB_size l
  rw [if_pos (by rw [hs]; omega), if_pos (by omega)]
  have e1 : (3 * (k : Int)).toNat = k * 3 := by omega
  have e2 : (3 * (k : Int) + 3).toNat = k * 3 + 3 := by omega
  rw [e1, e2, enc_extract]
section
variable {w : World} {S : Nat → Prop} {b : Nat} {d : Wd} {ev uv : Value}
/-- The footprint, as far as it is there. -/
def Now (S : Nat → Prop) (w : World) : Nat → Prop := fun k => S k ∧ k < w.heap.size
theorem RRep.now (h : RRep w S b d ev uv) : RRep w (Now S w) b d ev uv := h.mono fun k hk e => ⟨e, hk⟩
theorem RRep.back {W w2 : World} (h : RRep w2 (Ext (Now S w) W) b d ev uv) (hs : w.heap.size ≤ W.heap.size) : RRep w2 (Ext S w) b d ev uv :=
  h.mono fun k _ e => by rcases e with e | e; exact Or.inl e.1; exact Or.inr (Nat.le_trans hs e)
theorem Fr.now {W w2 : World} (h : Fr (Now S w) W w2) : Fr S W w2 := h.mono fun _ e => e.1

set_option maxHeartbeats 1600000 in
set_option maxRecDepth 100000 in
theorem rappends_any (h : RRep w S b d ev uv) (hway : d.way.length ≤ 50) (k to : Nat) (hk : k < 5) (n : Nat) (hn : n < (d.mem k).log.length) (hlen : (d.mem k).log.length ≤ 60) :
    Calls Try.prog 63 #[.pointer (some ⟨b, 0, none⟩), .int .i64 k, .int .i64 to, .int .i64 n] w fun e w' =>
      e = .returned (.tuple #[]) ∧ (∃ uv', RRep w' (Ext S w) b (rAppends d k to n) ev uv') ∧ Fr S w w' := by
  obtain ⟨m0, m1, m2, m3, m4, m5, m6, m7, m8, m9, m10, m11, m12, m13, m14⟩ := h.member k hk
  have hb := h.lt
  have H : Hid (RRep w S b d ev uv) := h
  have HC : Hid (∀ w', (Instr.slice 9 (.string (encB (d.mem k).log)) (some (.int .i64 (3 * (n : Int)))) (some (.int .i64 (3 * (n : Int) + 3))) none).run Try.prog w' = .ok (.string (encB (((d.mem k).log.drop n).take 1))) w') := fun w' => enc_cut _ n hn w'
  have HF : Hid (rAppends d k to n = rSends d { kind := 8, frm := k, to := to, epoch := (d.mem k).follows, n := n, recs := ((d.mem k).log.drop n).take 1 }) := by show rAppends d k to n = _; simp [rAppends]
  clear h
  go_enter Try.func63, Try.ntmps63
  go_wp2_with fail
  refine wp_genR (fun W => RRep W (Now S w) b d ev uv ∧ Fr S w W ∧ Copy W w.heap.size (d.mem k)) ⟨H.out.now.alloc _, Fr.alloc _ _ _, copy_alloc w _⟩ ?_
  rintro W ⟨hWR, hWB, hWC⟩
  obtain ⟨f1, _, _, f4⟩ := hWC.cells
  have HWR : Hid (RRep W (Now S w) b d ev uv) := hWR
  have HWB : Hid (Fr S w W) := hWB
  have HWC : Hid (Copy W w.heap.size (d.mem k)) := hWC
  have cut := HC.out
  have wr1 : IntKind.i64.wrap (3 * (n : Int)) = 3 * (n : Int) := wrap_small _ (by omega) (by omega)
  have wr2 : IntKind.i64.wrap (3 * (n : Int) + 3) = 3 * (n : Int) + 3 := wrap_small _ (by omega) (by omega)
  clear hWR hWB hWC m0 m1 m2 m3 m4 m5 m6 m7 m8 m9 m10 m11 m12 m13 m14
  go_region_held3 (fun w' => w'.cell? ⟨w.heap.size, 1, none⟩ = some (.int .i64 (d.mem k).follows) ∧ w'.cell? ⟨w.heap.size, 4, none⟩ = some (.string (encB (d.mem k).log)))
    (first
      | (go_keep; done)
      | exact ⟨(World.cell?_of_block (hFr2.out.block w.heap.size HWC.out.lt (fun e => Nat.lt_irrefl _ e.2))).trans f1, (World.cell?_of_block (hFr2.out.block w.heap.size HWC.out.lt (fun e => Nat.lt_irrefl _ e.2))).trans f4⟩)
    (first
      | (go_at_call 79; refine (rsends_any HWR.out.drew hway { kind := 8, frm := k, to := to, epoch := (d.mem k).follows, n := n, recs := ((d.mem k).log.drop n).take 1 } _ rfl).mono ?_; rintro e w2 ⟨rfl, hR2, hF2⟩; have HR2 : Hid _ := hR2; have hFr2 : Hid _ := hF2; clear hR2 hF2))
  go_wp2
  refine bodyPost_end (results_none rfl _ _ _) rfl ?_
  obtain ⟨uv2, hR2⟩ := HR2.out
  exact ⟨rfl, ⟨uv2, by rw [HF.out]; exact hR2.back (W := W) HWB.out.size⟩, HWB.out.then ((Fr.drew _ W).then hFr2.out.now)⟩
end
end Go.Proofs.Ythpfgmdffendoaa
