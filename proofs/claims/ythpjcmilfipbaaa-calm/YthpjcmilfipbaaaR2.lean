/- My own text: several texts in one. -/
import Derived.Test.YthpjcmilfipbaaaR1
namespace Go.Proofs.Ythpjcmilfipbaaa
set_option linter.unusedVariables false
set_option linter.unusedSimpArgs false
open Go.RowKit
theorem infoLet : (Try.prog.info? 134).map (fun i => (i.zero, i.size, i.bytes)) = some (some (.agg #[.int .i64 0, .int .i64 0, .int .i64 0, .int .i64 0, .int .i64 0, .string ByteArray.empty]), 6, 56) := by kernel_rfl
section
variable {w : World} {S : Nat → Prop} {b : Nat} {d : Wd} {ev uv : Value}
/-- The list of messages is another one now. -/
theorem RRep.newWay {w1 : World} (h : RRep w S b d ev uv) {W : World} (hW : Fr No w W) (v' : Value) (way' : List Msg) (n gg : Nat) (hn : n = way'.length) (hv' : v'.ownBlock = some gg)
    (hown : w1.ownsRow 0 134 6 v' n (letCells way')) (hgrow : W.grownBy w1 uv.ownBlock) (hat : uv.ownBlock = some gg ∨ w.heap.size ≤ gg) :
    RRep (w1.setCell ⟨b, 77, none⟩ v') (Ext S w) b { d with way := way' } ev v' ∧ Fr S w (w1.setCell ⟨b, 77, none⟩ v') := by
  obtain ⟨cs, hbl, hc⟩ := h.blk
  have hb := h.lt
  have hblkne : ∀ {g : Nat} {v : Value} {k : Nat} {xs : List Value} {e sz : Nat}, w.ownsRow 0 e sz v k xs → v.ownBlock = some g → e ≠ 116 → g ≠ b := by
    intro g v k xs e sz ho hg he
    obtain ⟨cu, hcu⟩ := ownsRow_block ho hg
    exact ne_of_type hcu hbl he
  have hgb : gg ≠ b := by
    rcases hat with e | e
    · exact hblkne h.way e (by decide)
    · omega
  have hold : ∀ k, k < w.heap.size → uv.ownBlock ≠ some k → w1.heap[k]? = w.heap[k]? := fun k hk hu =>
    (hgrow.block k (Nat.lt_of_lt_of_le hk hW.size) (fun e => hu e.symm)).trans (hW.block k hk (fun e => e))
  have hset : ∀ k, k ≠ b → (w1.setCell ⟨b, 77, none⟩ v').heap[k]? = w1.heap[k]? := fun k hk => Below.heap_setCell _ _ _ _ hk
  have hub : uv.ownBlock ≠ some b := fun e => hblkne h.way e (by decide) rfl
  refine ⟨?_, ?_⟩
  · exact { blk := ⟨_, heap_setCell_at _ _ _ _ _ _ _ ((hold b hb hub).trans hbl), by
              refine hc.set 77 v' (by omega) ?_ ?_ ?_ ?_ ?_ ?_ ?_ ?_ ?_ ?_
              all_goals first | (intro i j hi hj; rw [if_neg (by omega)]) | (intro i hi; rw [if_neg (by omega)]) | rfl⟩
            inb := Or.inl h.inb
            eras := by
              refine ownsRow_same h.eras fun g hg hl => ?_
              have h1 : g ≠ b := hblkne h.eras hg (by decide)
              obtain ⟨cu, hcu⟩ := ownsRow_block h.eras hg
              rw [hset g h1, hold g hl]
              intro e
              obtain ⟨cu', hcu'⟩ := ownsRow_block h.way e
              exact ne_of_type hcu hcu' (by decide) rfl
            eraS := fun g hg => Or.inl (h.eraS g hg)
            way := by
              rw [← hn]
              exact ownsRow_same hown fun g hg _ => hset g (by rw [hv'] at hg; simp at hg; omega)
            wayS := fun g hg => by
              rw [hv'] at hg; simp at hg; subst hg
              rcases hat with e | e
              · exact Or.inl (h.wayS _ e)
              · exact Or.inr e }
  · have f1 : Fr S w w1 := (hW.mono (fun _ e => e.elim)).then (Fr.grown hgrow fun k hk => h.wayS k hk)
    exact f1.then (Fr.setCell _ _ h.inb _)

set_option maxHeartbeats 1600000 in
set_option maxRecDepth 100000 in
theorem rsends_any (h : RRep w S b d ev uv) (hway : d.way.length ≤ 50) (m : Msg) (s : ByteArray) (hs : s = encB m.recs) :
    Calls Try.prog 99 #[.pointer (some ⟨b, 0, none⟩), .int .i64 m.kind, .int .i64 m.frm, .int .i64 m.to, .int .i64 m.epoch, .int .i64 m.n, .string s] w fun e w' =>
      e = .returned (.tuple #[]) ∧ (∃ uv', RRep w' (Ext S w) b (rSends d m) ev uv') ∧ Fr S w w' := by
  have hw := h.cWay
  have hb := h.lt
  have hfr := h.free 77
  obtain ⟨ao, cap, hu, _, _, _⟩ := ownsRow_shape h.way
  have hne : uv.ownBlock ≠ some b := by
    intro e
    obtain ⟨cs, hbl, _⟩ := h.blk
    obtain ⟨cu, hcu⟩ := ownsRow_block h.way e
    exact ne_of_type hcu hbl (by decide) rfl
  subst hu
  have H : Hid (RRep w S b d ev (.slice ao d.way.length cap)) := h
  have HS : Hid (s = encB m.recs) := hs
  have hW : Hid (w.ownsRow 0 134 6 (.slice ao d.way.length cap) d.way.length (letCells d.way)) := h.way
  clear h hs
  by_cases hfull : d.way.length < 50
  · have HF : Hid (rSends d m = { d with way := d.way ++ [m] }) := by show rSends d m = _; simp [rSends, hfull]
    have hlt : (d.way.length : Int) < 50 := by omega
    obtain ⟨i0, hi0, hz0, hz1, hz2⟩ := info_parts infoLet
    have HNs : Hid (letRow m = [.int .i64 m.kind, .int .i64 m.frm, .int .i64 m.to, .int .i64 m.epoch, .int .i64 m.n, .string s]) := by
      show letRow m = _
      rw [letRow, ← HS.out]
    have hnews : ∀ u ∈ ([.int .i64 m.kind, .int .i64 m.frm, .int .i64 m.to, .int .i64 m.epoch, .int .i64 m.n, .string s] : List Value), u.oneCell' = true := by rw [← HNs.out]; exact letRow_one m
    go_enter Try.func99, Try.ntmps99
    go_wp2_with (first | (at_builtin; refine wpList_append_lies _ rfl _ _ 114 rfl 0 134 i0 _ 6 56 Try.underlying114 hi0 hz0 hz1 hz2 rfl (by omega) (.slice ao d.way.length cap) d.way.length (letCells d.way) rfl (hW.out.alloc _) ⟨w.heap.size, 0, none⟩ 1 1 [.int .i64 m.kind, .int .i64 m.frm, .int .i64 m.to, .int .i64 m.epoch, .int .i64 m.n, .string s] rfl rfl (World.news_of_block (cs := #[.int .i64 m.kind, .int .i64 m.frm, .int .i64 m.to, .int .i64 m.epoch, .int .i64 m.n, .string s]) (t := 134) (fr := (0, 0)) (heap_alloc_new w _)) hnews (by omega) (by unfold maxLen; omega) (by omega) (by omega) (w.heap.size + 1) (by simp) ?_; intro gg cap' w1 hown1 hgrow hat hlt2; have hc51 : w1.cell? ⟨b, 77, none⟩ = some (.slice ao d.way.length cap) := (by rw [hgrow.cell_far _ (by simp; omega) (Ne.symm hne)]; simp [World.cell?_alloc_some, hw]); have hf51 : w1.frozen? ⟨b, 77, none⟩ = false := (by rw [hgrow.frozen_far _ (by simp; omega) (Ne.symm hne)]; simp [frozen?_alloc_cells, hfr])))
    refine bodyPost_end (results_none rfl _ _ _) rfl ?_
    have hown2 : w1.ownsRow 0 134 6 (.slice (some ⟨gg, 0, none⟩) (d.way.length + 1) cap') (d.way.length + 1) (letCells (d.way ++ [m])) := by
      rw [letCells_append]
      have e : letCells [m] = letRow m := by simp [letCells]
      rw [e, HNs.out]; exact hown1
    have R := H.out.newWay (W := w.alloc _) (Fr.alloc _ _ _) (.slice (some ⟨gg, 0, none⟩) (d.way.length + 1) cap') (d.way ++ [m]) (d.way.length + 1) gg (by simp) rfl hown2 hgrow (orR hat fun e => by omega)
    exact ⟨rfl, ⟨_, by rw [HF.out]; exact R.1⟩, R.2⟩
  · have HF : Hid (rSends d m = d) := by show rSends d m = d; simp [rSends, hfull]
    have hge : (50 : Int) ≤ (d.way.length : Int) := by omega
    go_enter Try.func99, Try.ntmps99
    go_wp2
    exact bodyPost_end (results_none rfl _ _ _) rfl ⟨rfl, ⟨_, by rw [HF.out]; exact H.out.mono fun k _ hk => Or.inl hk⟩, Fr.refl _ _⟩
end
theorem wrap_small (x : Int) (h0 : -1000000 ≤ x) (h1 : x ≤ 1000000) : IntKind.i64.wrap x = x := by
  simp [IntKind.wrap, IntKind.signed, IntKind.bits]
  omega
theorem wrap_u8 (x : Int) (h0 : 0 ≤ x) (h1 : x ≤ 255) : IntKind.u8.wrap x = x := by
  simp [IntKind.wrap, IntKind.signed, IntKind.bits]
  omega
theorem flat_drop {α β : Type} (f : α → List β) (s : Nat) (hf : ∀ x, (f x).length = s) : ∀ (l : List α) (k : Nat), (l.flatMap f).drop (k * s) = (l.drop k).flatMap f
  | [], k => by simp
  | a :: l, 0 => by simp
  | a :: l, k + 1 => by
    have e : (k + 1) * s = (f a).length + k * s := by rw [hf, Nat.add_mul]; omega
    rw [List.flatMap_cons, e, ← List.drop_drop, List.drop_left, flat_drop f s hf l k]; rfl
theorem flat_take {α β : Type} (f : α → List β) (s : Nat) (hf : ∀ x, (f x).length = s) : ∀ (l : List α) (k : Nat), (l.flatMap f).take (k * s) = (l.take k).flatMap f
  | [], k => by simp
  | a :: l, 0 => by simp
  | a :: l, k + 1 => by
    have e : (k + 1) * s = (f a).length + k * s := by rw [hf, Nat.add_mul]; omega
    rw [List.flatMap_cons, e, List.take_length_add_append, flat_take f s hf l k]; simp
theorem enc_extract (l : List Rec) (k : Nat) : (encB l).extract (k * 3) (k * 3 + 3) = encB ((l.drop k).take 1) := by
  apply ByteArray.ext
  rw [ByteArray.data_extract]
  apply Array.toList_inj.1
  rw [Array.toList_extract]
  show List.take (k * 3 + 3 - k * 3) (List.drop (k * 3) (recBytes l)) = recBytes ((l.drop k).take 1)
  have e : k * 3 + 3 - k * 3 = 1 * 3 := by omega
  rw [e, recBytes, flat_drop _ 3 (fun _ => rfl), flat_take _ 3 (fun _ => rfl)]; rfl
theorem enc_cut (l : List Rec) (k : Nat) (hk : k < l.length) (w : World) :
    (Instr.slice 9 (.string (encB l)) (some (.int .i64 (3 * (k : Int)))) (some (.int .i64 (3 * (k : Int) + 3))) none).run Try.prog w = .ok (.string (encB ((l.drop k).take 1))) w := by
  rw [run_slice_string_if w 9 (encB l) .i64 .i64 _ _ Try.underlying9]
  have hs := encB_size l
  rw [if_pos (by rw [hs]; omega), if_pos (by omega)]
  have e1 : (3 * (k : Int)).toNat = k * 3 := by omega
  have e2 : (3 * (k : Int) + 3).toNat = k * 3 + 3 := by omega
  rw [e1, e2, enc_extract]
section
variable {w : World} {S : Nat → Prop} {b : Nat} {d : Wd} {ev uv : Value}
/-- The footprint, as far as it is there. -/
def Now (S : Nat → Prop) (w : World) : Nat → Prop := fun k => S k ∧ k < w.heap.size
theorem RRep.now (h : RRep w S b d ev uv) : RRep w (Now S w) b d ev uv := h.mono fun k hk e => ⟨e, hk⟩
theorem RRep.back {W w2 : World} (h : RRep w2 (Ext (Now S w) W) b d ev uv) (hs : w.heap.size ≤ W.heap.size) : RRep w2 (Ext S w) b d ev uv :=
  h.mono fun k _ e => by rcases e with e | e; exact Or.inl e.1; exact Or.inr (Nat.le_trans hs e)
theorem Fr.now {W w2 : World} (h : Fr (Now S w) W w2) : Fr S W w2 := h.mono fun _ e => e.1

set_option maxHeartbeats 1600000 in
set_option maxRecDepth 100000 in
theorem rappends_any (h : RRep w S b d ev uv) (hway : d.way.length ≤ 50) (k to : Nat) (hk : k < 5) (n : Nat) (hn : n < (d.mem k).log.length) (hlen : (d.mem k).log.length ≤ 60) :
    Calls Try.prog 77 #[.pointer (some ⟨b, 0, none⟩), .int .i64 k, .int .i64 to, .int .i64 n] w fun e w' =>
      e = .returned (.tuple #[]) ∧ (∃ uv', RRep w' (Ext S w) b (rAppends d k to n) ev uv') ∧ Fr S w w' := by
  obtain ⟨m0, m1, m2, m3, m4, m5, m6, m7, m8, m9, m10, m11, m12, m13, m14⟩ := h.member k hk
  have hb := h.lt
  have H : Hid (RRep w S b d ev uv) := h
  have HC : Hid (∀ w', (Instr.slice 9 (.string (encB (d.mem k).log)) (some (.int .i64 (3 * (n : Int)))) (some (.int .i64 (3 * (n : Int) + 3))) none).run Try.prog w' = .ok (.string (encB (((d.mem k).log.drop n).take 1))) w') := fun w' => enc_cut _ n hn w'
  have HF : Hid (rAppends d k to n = rSends d { kind := 8, frm := k, to := to, epoch := (d.mem k).follows, n := n, recs := ((d.mem k).log.drop n).take 1 }) := by show rAppends d k to n = _; simp [rAppends]
  clear h
  go_enter Try.func77, Try.ntmps77
  go_wp2_with fail
  refine wp_genR (fun W => RRep W (Now S w) b d ev uv ∧ Fr S w W ∧ Copy W w.heap.size (d.mem k)) ⟨H.out.now.alloc _, Fr.alloc _ _ _, copy_alloc w _⟩ ?_
  rintro W ⟨hWR, hWB, hWC⟩
  obtain ⟨f1, _, _, f4⟩ := hWC.cells
  have HWR : Hid (RRep W (Now S w) b d ev uv) := hWR
  have HWB : Hid (Fr S w W) := hWB
  have HWC : Hid (Copy W w.heap.size (d.mem k)) := hWC
  have cut := HC.out
  have wr1 : IntKind.i64.wrap (3 * (n : Int)) = 3 * (n : Int) := wrap_small _ (by omega) (by omega)
  have wr2 : IntKind.i64.wrap (3 * (n : Int) + 3) = 3 * (n : Int) + 3 := wrap_small _ (by omega) (by omega)
  clear hWR hWB hWC m0 m1 m2 m3 m4 m5 m6 m7 m8 m9 m10 m11 m12 m13 m14
  go_region_held3 (fun w' => w'.cell? ⟨w.heap.size, 1, none⟩ = some (.int .i64 (d.mem k).follows) ∧ w'.cell? ⟨w.heap.size, 4, none⟩ = some (.string (encB (d.mem k).log)))
    (first
      | (go_keep; done)
      | exact ⟨(World.cell?_of_block (hFr2.out.block w.heap.size HWC.out.lt (fun e => Nat.lt_irrefl _ e.2))).trans f1, (World.cell?_of_block (hFr2.out.block w.heap.size HWC.out.lt (fun e => Nat.lt_irrefl _ e.2))).trans f4⟩)
    (first
      | (go_at_call 99; refine (rsends_any HWR.out.drew hway { kind := 8, frm := k, to := to, epoch := (d.mem k).follows, n := n, recs := ((d.mem k).log.drop n).take 1 } _ rfl).mono ?_; rintro e w2 ⟨rfl, hR2, hF2⟩; have HR2 : Hid _ := hR2; have hFr2 : Hid _ := hF2; clear hR2 hF2))
  go_wp2
  refine bodyPost_end (results_none rfl _ _ _) rfl ?_
  obtain ⟨uv2, hR2⟩ := HR2.out
  exact ⟨rfl, ⟨uv2, by rw [HF.out]; exact hR2.back (W := W) HWB.out.size⟩, HWB.out.then ((Fr.drew _ W).then hFr2.out.now)⟩
end
end Go.Proofs.Ythpjcmilfipbaaa

namespace Go.Proofs.Ythpjcmilfipbaaa
set_option linter.unusedVariables false
set_option linter.unusedSimpArgs false
theorem put_at (d : Wd) (k : Nat) (m : Mem) : (d.put k m).mem k = m := by simp [Wd.put, upd]
theorem put_other (d : Wd) (k j : Nat) (m : Mem) (h : j ≠ k) : (d.put k m).mem j = d.mem j := by simp [Wd.put, upd, h]
theorem rSends_same (d : Wd) (m : Msg) : (rSends d m).mem = d.mem ∧ (rSends d m).eras = d.eras ∧ (rSends d m).active = d.active := by
  unfold rSends; split <;> exact ⟨rfl, rfl, rfl⟩
theorem ROk.sends {d : Wd} (h : ROk d) {m : Msg} (hm : MsgOk d.eras.length m) : ROk (rSends d m) := by
  obtain ⟨e1, e2, e3⟩ := rSends_same d m
  refine ⟨by rw [e2]; exact h.e1, by rw [e2]; exact h.e40, by rw [e2, e3]; exact h.act, by rw [e2]; exact h.era, by rw [e1, e2]; exact h.fol, by rw [e1]; exact h.rol, by rw [e1]; exact h.log, by rw [e1]; exact h.byt, by rw [e1]; exact h.kno, ?_, ?_⟩
  · unfold rSends
    split
    · simp; omega
    · exact h.way
  · rw [e2]
    unfold rSends
    split
    · intro x hx
      rcases List.mem_append.1 hx with hx | hx
      · exact h.msg x hx
      · simp at hx; subst hx; exact hm
    · exact h.msg
/-- A member is turned. -/
theorem ROk.put {d : Wd} (h : ROk d) (k : Nat) (m : Mem) (hf : 0 ≤ m.follows ∧ m.follows ≤ d.eras.length) (hr : m.role ≠ 0 → 1 ≤ m.follows) (hl : m.log.length ≤ 60) (hb : ∀ r ∈ m.log, recOk r)
    (hk : ∀ j, j < 5 → 0 ≤ m.knows j ∧ m.knows j ≤ 60) : ROk (d.put k m) := by
  have at_ : ∀ i, (d.put k m).mem i = if i = k then m else d.mem i := fun i => by
    by_cases e : i = k
    · subst e; rw [put_at, if_pos rfl]
    · rw [put_other _ _ _ _ e, if_neg e]
  refine ⟨h.e1, h.e40, h.act, h.era, ?_, ?_, ?_, ?_, ?_, h.way, h.msg⟩
  · intro i hi; rw [at_]; split; exact hf; exact h.fol i hi
  · intro i hi; rw [at_]; split; exact hr; exact h.rol i hi
  · intro i hi; rw [at_]; split; exact hl; exact h.log i hi
  · intro i hi; rw [at_]; split; exact hb; exact h.byt i hi
  · intro i j hi hj; rw [at_]; split; exact hk j hj; exact h.kno i j hi hj
theorem ROk.putLog {d : Wd} (h : ROk d) (k : Nat) (hk : k < 5) (l : List Rec) (hl : l.length ≤ 60) (hb : ∀ r ∈ l, recOk r) : ROk (rPutLog d k l) :=
  h.put k _ (h.fol k hk) (h.rol k hk) hl hb (fun j hj => h.kno k j hk hj)
theorem mem_drop1 {l : List Rec} {n : Nat} {r : Rec} (h : r ∈ (l.drop n).take 1) : r ∈ l := List.mem_of_mem_drop (List.mem_of_mem_take h)
theorem ROk.appends {d : Wd} (h : ROk d) (k to : Nat) (hk : k < 5) (ht : to < 5) (hf : 1 ≤ (d.mem k).follows) (n : Nat) (hn : n < (d.mem k).log.length) : ROk (rAppends d k to n) := by
  have hl := h.log k hk
  refine h.sends ⟨⟨by show (-1 : Int) ≤ (to : Int); omega, by show (to : Int) < 5; omega⟩, ⟨by show (-1 : Int) ≤ (k : Int); omega, by show (k : Int) < 5; omega⟩, fun _ => by show (0 : Int) ≤ (k : Int); omega, ⟨hf, (h.fol k hk).2⟩, fun e => by simp at e, ⟨by show (0 : Int) ≤ (n : Int); omega, by show (n : Int) ≤ 60; omega⟩, ?_, fun _ => ⟨?_, by show (n : Int) ≤ 59; omega⟩, ?_⟩
  · show (List.take 1 (List.drop (n : Int).toNat (d.mem k).log)).length ≤ 60
    have := List.length_take_le 1 (List.drop (n : Int).toNat (d.mem k).log); omega
  · exact List.length_take_le 1 _
  · intro r hr; exact h.byt k hk r (mem_drop1 hr)
theorem rAppends_same (d : Wd) (k to : Nat) (n : Int) : (rAppends d k to n).mem = d.mem ∧ (rAppends d k to n).eras = d.eras ∧ (rAppends d k to n).active = d.active := rSends_same _ _
theorem rProdTo_same (d : Wd) (k : Nat) (m : Mem) (kk n dn : Int) : ∀ j, (rProdTo d k m kk n dn j).mem = d.mem ∧ (rProdTo d k m kk n dn j).eras = d.eras ∧ (rProdTo d k m kk n dn j).active = d.active
  | 0 => ⟨rfl, rfl, rfl⟩
  | j + 1 => by
    have ih := rProdTo_same d k m kk n dn j
    unfold rProdTo
    split
    · exact ih
    · split
      · rw [(rAppends_same _ _ _ _).1, (rAppends_same _ _ _ _).2.1, (rAppends_same _ _ _ _).2.2]; exact ih
      · split
        · rw [(rAppends_same _ _ _ _).1, (rAppends_same _ _ _ _).2.1, (rAppends_same _ _ _ _).2.2]; exact ih
        · exact ih
theorem ROk.prodTo {d : Wd} (h : ROk d) (k : Nat) (hk : k < 5) (m : Mem) (kk dn : Int) (n : Nat) (hf : 1 ≤ (d.mem k).follows) (hkn : ∀ j, j < 5 → 0 ≤ m.knows j)
    (hn : kk < 0 → n < (d.mem k).log.length) (hn2 : 0 ≤ kk → n = (d.mem k).log.length) : ∀ j, j ≤ 5 → ROk (rProdTo d k m kk n dn j)
  | 0, _ => h
  | j + 1, hj => by
    have ih := h.prodTo k hk m kk dn n hf hkn hn hn2 j (by omega)
    have hs := (rProdTo_same d k m kk n dn j).1
    unfold rProdTo
    split
    · exact ih
    · split
      · rename_i hlt; exact ih.appends k j hk (by omega) (by rw [hs]; exact hf) n (by rw [hs]; exact hn hlt)
      · split
        · rename_i hge hh
          have e : m.knows j = ((m.knows j).toNat : Int) := by have := hkn j (by omega); omega
          rw [e]
          exact ih.appends k j hk (by omega) (by rw [hs]; exact hf) _ (by rw [hs]; have := hn2 (by omega); omega)
        · exact ih
end Go.Proofs.Ythpjcmilfipbaaa

namespace Go.Proofs.Ythpjcmilfipbaaa
set_option linter.unusedVariables false
set_option linter.unusedSimpArgs false
open Go.RowKit
theorem put_mem (d : Wd) (k i : Nat) (m : Mem) : (d.put k m).mem i = if i = k then m else d.mem i := by simp [Wd.put, upd]
theorem RCells.setUp {cs : Array Value} {d : Wd} {ev : Value} {act : Int} {uv : Value} (h : RCells cs d.mem ev act uv) (k : Nat) (hk : k < 5) (x : Bool) :
    RCells (cs.setIfInBounds (k * 15) (.bool x)) (d.put k { d.mem k with up := x }).mem ev act uv := by
  have hm := fun i => put_mem d k i { d.mem k with up := x }
  refine h.set _ _ (by omega) ?_ ?_ ?_ ?_ ?_ ?_ ?_ ?_ ?_ ?_
  · intro i hi
    rw [hm]
    by_cases e : i = k
    · subst e; simp
    · rw [if_neg (by omega), if_neg e]
  · intro i hi; rw [if_neg (by omega), hm]; split <;> simp_all
  · intro i hi; rw [if_neg (by omega), hm]; split <;> simp_all
  · intro i hi; rw [if_neg (by omega), hm]; split <;> simp_all
  · intro i hi; rw [if_neg (by omega), hm]; split <;> simp_all
  · intro i j hi hj; rw [if_neg (by omega), hm]; split <;> simp_all
  · intro i j hi hj; rw [if_neg (by omega), hm]; split <;> simp_all
  · rw [if_neg (by omega)]
  · rw [if_neg (by omega)]
  · rw [if_neg (by omega)]
theorem RCells.setFol {cs : Array Value} {d : Wd} {ev : Value} {act : Int} {uv : Value} (h : RCells cs d.mem ev act uv) (k : Nat) (hk : k < 5) (x : Int) :
    RCells (cs.setIfInBounds (k * 15 + 1) (.int .i64 x)) (d.put k { d.mem k with follows := x }).mem ev act uv := by
  have hm := fun i => put_mem d k i { d.mem k with follows := x }
  refine h.set _ _ (by omega) ?_ ?_ ?_ ?_ ?_ ?_ ?_ ?_ ?_ ?_
  · intro i hi; rw [if_neg (by omega), hm]; split <;> simp_all
  · intro i hi
    rw [hm]
    by_cases e : i = k
    · subst e; simp
    · rw [if_neg (by omega), if_neg e]
  · intro i hi; rw [if_neg (by omega), hm]; split <;> simp_all
  · intro i hi; rw [if_neg (by omega), hm]; split <;> simp_all
  · intro i hi; rw [if_neg (by omega), hm]; split <;> simp_all
  · intro i j hi hj; rw [if_neg (by omega), hm]; split <;> simp_all
  · intro i j hi hj; rw [if_neg (by omega), hm]; split <;> simp_all
  · rw [if_neg (by omega)]
  · rw [if_neg (by omega)]
  · rw [if_neg (by omega)]
theorem RCells.setGiv {cs : Array Value} {d : Wd} {ev : Value} {act : Int} {uv : Value} (h : RCells cs d.mem ev act uv) (k : Nat) (hk : k < 5) (x : Int) :
    RCells (cs.setIfInBounds (k * 15 + 2) (.int .i64 x)) (d.put k { d.mem k with given := x }).mem ev act uv := by
  have hm := fun i => put_mem d k i { d.mem k with given := x }
  refine h.set _ _ (by omega) ?_ ?_ ?_ ?_ ?_ ?_ ?_ ?_ ?_ ?_
  · intro i hi; rw [if_neg (by omega), hm]; split <;> simp_all
  · intro i hi; rw [if_neg (by omega), hm]; split <;> simp_all
  · intro i hi
    rw [hm]
    by_cases e : i = k
    · subst e; simp
    · rw [if_neg (by omega), if_neg e]
  · intro i hi; rw [if_neg (by omega), hm]; split <;> simp_all
  · intro i hi; rw [if_neg (by omega), hm]; split <;> simp_all
  · intro i j hi hj; rw [if_neg (by omega), hm]; split <;> simp_all
  · intro i j hi hj; rw [if_neg (by omega), hm]; split <;> simp_all
  · rw [if_neg (by omega)]
  · rw [if_neg (by omega)]
  · rw [if_neg (by omega)]
theorem RCells.setRol {cs : Array Value} {d : Wd} {ev : Value} {act : Int} {uv : Value} (h : RCells cs d.mem ev act uv) (k : Nat) (hk : k < 5) (x : Int) :
    RCells (cs.setIfInBounds (k * 15 + 3) (.int .i64 x)) (d.put k { d.mem k with role := x }).mem ev act uv := by
  have hm := fun i => put_mem d k i { d.mem k with role := x }
  refine h.set _ _ (by omega) ?_ ?_ ?_ ?_ ?_ ?_ ?_ ?_ ?_ ?_
  · intro i hi; rw [if_neg (by omega), hm]; split <;> simp_all
  · intro i hi; rw [if_neg (by omega), hm]; split <;> simp_all
  · intro i hi; rw [if_neg (by omega), hm]; split <;> simp_all
  · intro i hi
    rw [hm]
    by_cases e : i = k
    · subst e; simp
    · rw [if_neg (by omega), if_neg e]
  · intro i hi; rw [if_neg (by omega), hm]; split <;> simp_all
  · intro i j hi hj; rw [if_neg (by omega), hm]; split <;> simp_all
  · intro i j hi hj; rw [if_neg (by omega), hm]; split <;> simp_all
  · rw [if_neg (by omega)]
  · rw [if_neg (by omega)]
  · rw [if_neg (by omega)]
theorem RCells.setLog2 {cs : Array Value} {d : Wd} {ev : Value} {act : Int} {uv : Value} (h : RCells cs d.mem ev act uv) (k : Nat) (hk : k < 5) (x : List Rec) :
    RCells (cs.setIfInBounds (k * 15 + 4) (.string (encB x))) (d.put k { d.mem k with log := x }).mem ev act uv := by
  have hm := fun i => put_mem d k i { d.mem k with log := x }
  refine h.set _ _ (by omega) ?_ ?_ ?_ ?_ ?_ ?_ ?_ ?_ ?_ ?_
  · intro i hi; rw [if_neg (by omega), hm]; split <;> simp_all
  · intro i hi; rw [if_neg (by omega), hm]; split <;> simp_all
  · intro i hi; rw [if_neg (by omega), hm]; split <;> simp_all
  · intro i hi; rw [if_neg (by omega), hm]; split <;> simp_all
  · intro i hi
    rw [hm]
    by_cases e : i = k
    · subst e; simp
    · rw [if_neg (by omega), if_neg e]
  · intro i j hi hj; rw [if_neg (by omega), hm]; split <;> simp_all
  · intro i j hi hj; rw [if_neg (by omega), hm]; split <;> simp_all
  · rw [if_neg (by omega)]
  · rw [if_neg (by omega)]
  · rw [if_neg (by omega)]
theorem RCells.setKno {cs : Array Value} {d : Wd} {ev : Value} {act : Int} {uv : Value} (h : RCells cs d.mem ev act uv) (k : Nat) (hk : k < 5) (q : Nat) (hq : q < 5) (x : Int) :
    RCells (cs.setIfInBounds (k * 15 + 5 + q) (.int .i64 x)) (d.put k { d.mem k with knows := upd (d.mem k).knows q x }).mem ev act uv := by
  have hm := fun i => put_mem d k i { d.mem k with knows := upd (d.mem k).knows q x }
  refine h.set _ _ (by omega) ?_ ?_ ?_ ?_ ?_ ?_ ?_ ?_ ?_ ?_
  · intro i hi; rw [if_neg (by omega), hm]; split <;> simp_all
  · intro i hi; rw [if_neg (by omega), hm]; split <;> simp_all
  · intro i hi; rw [if_neg (by omega), hm]; split <;> simp_all
  · intro i hi; rw [if_neg (by omega), hm]; split <;> simp_all
  · intro i hi; rw [if_neg (by omega), hm]; split <;> simp_all
  · intro i j hi hj
    rw [hm]
    by_cases e : i = k
    · subst e
      by_cases e2 : j = q
      · subst e2; simp [upd]
      · rw [if_neg (by omega), if_pos rfl]; simp [upd, e2]
    · rw [if_neg (by omega), if_neg e]
  · intro i j hi hj; rw [if_neg (by omega), hm]; split <;> simp_all
  · rw [if_neg (by omega)]
  · rw [if_neg (by omega)]
  · rw [if_neg (by omega)]
theorem RCells.setHas {cs : Array Value} {d : Wd} {ev : Value} {act : Int} {uv : Value} (h : RCells cs d.mem ev act uv) (k : Nat) (hk : k < 5) (q : Nat) (hq : q < 5) (x : Bool) :
    RCells (cs.setIfInBounds (k * 15 + 10 + q) (.bool x)) (d.put k { d.mem k with has := upd (d.mem k).has q x }).mem ev act uv := by
  have hm := fun i => put_mem d k i { d.mem k with has := upd (d.mem k).has q x }
  refine h.set _ _ (by omega) ?_ ?_ ?_ ?_ ?_ ?_ ?_ ?_ ?_ ?_
  · intro i hi; rw [if_neg (by omega), hm]; split <;> simp_all
  · intro i hi; rw [if_neg (by omega), hm]; split <;> simp_all
  · intro i hi; rw [if_neg (by omega), hm]; split <;> simp_all
  · intro i hi; rw [if_neg (by omega), hm]; split <;> simp_all
  · intro i hi; rw [if_neg (by omega), hm]; split <;> simp_all
  · intro i j hi hj; rw [if_neg (by omega), hm]; split <;> simp_all
  · intro i j hi hj
    rw [hm]
    by_cases e : i = k
    · subst e
      by_cases e2 : j = q
      · subst e2; simp [upd]
      · rw [if_neg (by omega), if_pos rfl]; simp [upd, e2]
    · rw [if_neg (by omega), if_neg e]
  · rw [if_neg (by omega)]
  · rw [if_neg (by omega)]
  · rw [if_neg (by omega)]
theorem RCells.setAct {cs : Array Value} {m : Nat → Mem} {ev : Value} {act : Int} {uv : Value} (h : RCells cs m ev act uv) (x : Int) : RCells (cs.setIfInBounds 76 (.int .i64 x)) m ev x uv := by
  refine h.set 76 _ (by omega) ?_ ?_ ?_ ?_ ?_ ?_ ?_ ?_ ?_ ?_
  all_goals first | (intro i j hi hj; rw [if_neg (by omega)]) | (intro i hi; rw [if_neg (by omega)]) | rfl
section
variable {w : World} {S : Nat → Prop} {b : Nat} {d : Wd} {ev uv : Value}

set_option maxHeartbeats 800000 in
theorem rfollows_any (h : RRep w S b d ev uv) (k : Nat) (hk : k < 5) (e role : Int) :
    Calls Try.prog 111 #[.pointer (some ⟨b, 0, none⟩), .int .i64 k, .int .i64 e, .int .i64 role] w fun r w' =>
      r = .returned (.tuple #[]) ∧ RRep w' S b (rFollows d k e role) ev uv ∧ Fr S w w' := by
  have c1 := h.cFol k hk
  have c3 := h.cRol k hk
  have z1 := h.free (k * 15 + 1)
  have z3 := h.free (k * 15 + 3)
  have H : Hid (RRep w S b d ev uv) := h
  clear h
  by_cases hlt : (d.mem k).follows < e
  · have HF : Hid (rFollows d k e role = d.put k { d.mem k with follows := e, role := role }) := by show rFollows d k e role = _; simp [rFollows, hlt]
    go_enter Try.func111, Try.ntmps111
    go_wp2
    have q1 := H.out.setCell (k * 15 + 1) (.int .i64 e) (d.put k { d.mem k with follows := e }) rfl rfl (fun cs hcs => hcs.setFol k hk e)
    have q2 := q1.1.setCell (k * 15 + 3) (.int .i64 role) (d.put k { d.mem k with follows := e, role := role }) rfl rfl (fun cs hcs => by
      have := hcs.setRol k hk role
      have e2 : ((d.put k { d.mem k with follows := e }).put k { (d.put k { d.mem k with follows := e }).mem k with role := role }).mem = (d.put k { d.mem k with follows := e, role := role }).mem := by
        funext i; simp only [put_mem]; split <;> simp_all
      rw [e2] at this; exact this)
    exact bodyPost_end (results_none rfl _ _ _) rfl ⟨rfl, by rw [HF.out]; exact q2.1, q1.2.then q2.2⟩
  · have HF : Hid (rFollows d k e role = d) := by show rFollows d k e role = _; simp [rFollows, hlt]
    go_enter Try.func111, Try.ntmps111
    go_wp2
    exact bodyPost_end (results_none rfl _ _ _) rfl ⟨rfl, by rw [HF.out]; exact H.out, Fr.refl _ _⟩

set_option maxHeartbeats 800000 in
theorem rgiven_any (h : RRep w S b d ev uv) (k : Nat) (hk : k < 5) (e : Int) (l : List Rec) :
    Calls Try.prog 112 #[.pointer (some ⟨b, 0, none⟩), .int .i64 k, .int .i64 e, .string (encB l)] w fun r w' =>
      r = .returned (.tuple #[]) ∧ RRep w' S b (rGiven d k e l) ev uv ∧ Fr S w w' := by
  have c1 := h.cGiv k hk
  have c3 := h.cLog k hk
  have z1 := h.free (k * 15 + 2)
  have z3 := h.free (k * 15 + 4)
  have H : Hid (RRep w S b d ev uv) := h
  clear h
  go_enter Try.func112, Try.ntmps112
  go_wp2
  have q1 := H.out.setCell (k * 15 + 4) (.string (encB l)) (d.put k { d.mem k with log := l }) rfl rfl (fun cs hcs => hcs.setLog2 k hk l)
  have q2 := q1.1.setCell (k * 15 + 2) (.int .i64 e) (rGiven d k e l) rfl rfl (fun cs hcs => by
    have := hcs.setGiv k hk e
    have e2 : ((d.put k { d.mem k with log := l }).put k { (d.put k { d.mem k with log := l }).mem k with given := e }).mem = (rGiven d k e l).mem := by
      funext i; simp only [put_mem, rGiven]; split <;> simp_all
    rw [e2] at this; exact this)
  exact bodyPost_end (results_none rfl _ _ _) rfl ⟨rfl, q2.1, q1.2.then q2.2⟩
end
end Go.Proofs.Ythpjcmilfipbaaa

namespace Go.Proofs.Ythpjcmilfipbaaa
set_option linter.unusedVariables false
set_option linter.unusedSimpArgs false
open Go.RowKit
theorem rOthersTo_stays (d : Wd) (k : Nat) : ∀ (n j : Nat), rOthersTo d k j = false → rOthersTo d k (j + n) = false
  | 0, j, h => h
  | n + 1, j, h => by
    have := rOthersTo_stays d k n j h
    show (rOthersTo d k (j + n) && _) = false
    rw [this]; rfl
theorem rOthers_no {d : Wd} {k j : Nat} (hj : j < 5) (h : rOthersTo d k (j + 1) = false) : rOthers d k = false := by
  have := rOthersTo_stays d k (4 - j) (j + 1) h
  rw [show j + 1 + (4 - j) = 5 by omega] at this
  exact this
theorem rHandsTo_same (d : Wd) (k : Nat) (m : Mem) : ∀ j, (rHandsTo d k m j).mem = d.mem ∧ (rHandsTo d k m j).eras = d.eras ∧ (rHandsTo d k m j).active = d.active
  | 0 => ⟨rfl, rfl, rfl⟩
  | j + 1 => by
    have ih := rHandsTo_same d k m j
    unfold rHandsTo
    split
    · rw [(rSends_same _ _).1, (rSends_same _ _).2.1, (rSends_same _ _).2.2]; exact ih
    · exact ih
theorem ROk.handsTo {d : Wd} (h : ROk d) (k : Nat) (hk : k < 5) (hf : 1 ≤ (d.mem k).follows) : ∀ j, j ≤ 5 → ROk (rHandsTo d k (d.mem k) j)
  | 0, _ => h
  | j + 1, hj => by
    have ih := h.handsTo k hk hf j (by omega)
    have hs := (rHandsTo_same d k (d.mem k) j).2.1
    have hl := h.log k hk
    unfold rHandsTo
    split
    · refine ih.sends ⟨⟨by show (-1 : Int) ≤ (j : Int); omega, by show (j : Int) < 5; omega⟩, ⟨by show (-1 : Int) ≤ (k : Int); omega, by show (k : Int) < 5; omega⟩, fun _ => by show (0 : Int) ≤ (k : Int); omega, ⟨hf, by rw [hs]; exact (h.fol k hk).2⟩, fun e => by simp at e, ⟨by show (0 : Int) ≤ ((d.mem k).log.length : Int); omega, by show ((d.mem k).log.length : Int) ≤ 60; omega⟩, hl, fun e => by simp at e, h.byt k hk⟩
    · exact ih
theorem ROk.ready {d : Wd} (h : ROk d) (k : Nat) (hk : k < 5) (e : Int) (h1 : 1 ≤ e) (h2 : e ≤ d.eras.length) : ROk (rReady d k e) :=
  h.sends ⟨⟨by show (-1 : Int) ≤ -1; omega, by show (-1 : Int) < 5; omega⟩, ⟨by show (-1 : Int) ≤ (k : Int); omega, by show (k : Int) < 5; omega⟩, fun _ => by show (0 : Int) ≤ (k : Int); omega, ⟨h1, h2⟩, fun e => by simp at e, ⟨by show (0 : Int) ≤ 0; omega, by show (0 : Int) ≤ 60; omega⟩, Nat.zero_le _, fun e => by simp at e, fun r hr => by simp at hr⟩
theorem ROk.hands {d : Wd} (h : ROk d) (k : Nat) (hk : k < 5) (hf : 1 ≤ (d.mem k).follows) : ROk (rHands d k) := by
  unfold rHands
  split
  · exact h.ready k hk _ hf (h.fol k hk).2
  · exact h.handsTo k hk hf 5 (Nat.le_refl _)
section
variable {w : World} {S : Nat → Prop} {b : Nat} {d : Wd} {ev uv : Value}

set_option maxHeartbeats 1600000 in
set_option maxRecDepth 100000 in
theorem rothers_any (h : RRep w S b d ev uv) (hok : ROk d) (k : Nat) (hk : k < 5) (hf : 1 ≤ (d.mem k).follows) :
    Calls Try.prog 116 #[.pointer (some ⟨b, 0, none⟩), .int .i64 k] w fun e w' => e = .returned (.bool (rOthers d k)) ∧ Below w.heap.size w w' := by
  obtain ⟨m0, m1, m2, m3, m4, m5, m6, m7, m8, m9, m10, m11, m12, m13, m14⟩ := h.member k hk
  have hb := h.lt
  have H : Hid (RRep w S b d ev uv) := h
  have HO : Hid (ROk d) := hok
  have hfol2 := (hok.fol k hk).2
  obtain ⟨q, hq⟩ : ∃ q : Nat, (d.mem k).follows = (q : Int) + 1 := ⟨((d.mem k).follows - 1).toNat, by omega⟩
  have HQ : Hid ((d.mem k).follows = (q : Int) + 1) := hq
  have hql : q < d.eras.length := by omega
  clear h hok hf hfol2 hq
  go_enter Try.func116, Try.ntmps116
  go_wp2_with fail
  refine wp_genR (fun W => RRep W S b d ev uv ∧ Below w.heap.size w W ∧ Copy W w.heap.size (d.mem k)) ⟨H.out.alloc _, (Below.refl _ _).alloc (Nat.le_refl _) _, copy_alloc w _⟩ ?_
  rintro W ⟨hWR, hWB, hWC⟩
  obtain ⟨f1, _, _, _⟩ := hWC.cells
  rw [HQ.out] at f1
  have HWR : Hid (RRep W S b d ev uv) := hWR
  have HWB : Hid (Below w.heap.size w W) := hWB
  have HWC : Hid (Copy W w.heap.size (d.mem k)) := hWC
  clear hWR hWB hWC m0 m1 m2 m3 m4 m5 m6 m7 m8 m9 m10 m11 m12 m13 m14
  go_loop [6] (fun i => ∃ j : Nat, j ≤ 5 ∧ i = .int .i64 j ∧ rOthersTo d k j = true) (fun i => 5 - (intOf i).toNat)
  case atStart => exact ⟨0, Nat.zero_le _, rfl, rfl⟩
  case round =>
    obtain ⟨j, hj5, rfl, hT⟩ := hrel
    have HT : Hid (rOthersTo d k j = true) := hT
    clear hT
    by_cases hj : j < 5
    · have hh := HWC.out.has j hj
      have hj0 : (0 : Int) ≤ (j : Int) := by omega
      have hj1 : (j : Int) < 5 := by omega
      have HS : Hid (rOthersTo d k (j + 1) = !(decide (j ≠ k) && rIn d ((q : Int) + 1) j && !(d.mem k).has j)) := by
        show (rOthersTo d k j && _) = _
        rw [HT.out, ← HQ.out]; rfl
      by_cases ejk : j = k
      · have b1 : ((j : Int) != (k : Int)) = false := by simp [ejk]
        have HS' : Hid (rOthersTo d k (j + 1) = true) := by show rOthersTo d k (j + 1) = true; rw [HS.out]; simp [ejk]
        clear ejk HS
        go_wp2_with (first | (go_at_call 76; refine (rin_any HWR.out HO.out q hql j hj).mono ?_; rintro e w1 ⟨rfl, hw1⟩; rw [hw1]; clear hw1))
        go_round
        case rel => exact ⟨j + 1, by omega, by go_num, HS'.out⟩
        case measure => simp [intOf]; omega
      · have b1 : ((j : Int) != (k : Int)) = true := by simp; omega
        cases hin : rIn d ((q : Int) + 1) j
        · have HS' : Hid (rOthersTo d k (j + 1) = true) := by show rOthersTo d k (j + 1) = true; rw [HS.out, hin]; simp
          clear ejk HS
          go_wp2_with (first | (go_at_call 76; refine (rin_any HWR.out HO.out q hql j hj).mono ?_; rintro e w1 ⟨rfl, hw1⟩; rw [hw1]; clear hw1))
          go_round
          case rel => exact ⟨j + 1, by omega, by go_num, HS'.out⟩
          case measure => simp [intOf]; omega
        · cases hhas : (d.mem k).has j <;> rw [hhas] at hh
          · have HF : Hid (rOthers d k = false) := rOthers_no hj (by rw [HS.out, hin, hhas]; simp [ejk])
            clear ejk HS
            go_wp2_with (first | (go_at_call 76; refine (rin_any HWR.out HO.out q hql j hj).mono ?_; rintro e w1 ⟨rfl, hw1⟩; rw [hw1]; clear hw1))
            go_ret
            exact ⟨ret_boolR HF.out.symm, HWB.out⟩
          · have HS' : Hid (rOthersTo d k (j + 1) = true) := by show rOthersTo d k (j + 1) = true; rw [HS.out, hin, hhas]; simp
            clear ejk HS
            go_wp2_with (first | (go_at_call 76; refine (rin_any HWR.out HO.out q hql j hj).mono ?_; rintro e w1 ⟨rfl, hw1⟩; rw [hw1]; clear hw1))
            go_round
            case rel => exact ⟨j + 1, by omega, by go_num, HS'.out⟩
            case measure => simp [intOf]; omega
    · have : j = 5 := by omega
      subst this
      go_wp2_with fail
      go_ret
      exact ⟨ret_boolR HT.out.symm, HWB.out⟩

set_option maxHeartbeats 3200000 in
set_option maxRecDepth 100000 in
theorem rhands_any (h : RRep w S b d ev uv) (hok : ROk d) (k : Nat) (hk : k < 5) (hf : 1 ≤ (d.mem k).follows) :
    Calls Try.prog 115 #[.pointer (some ⟨b, 0, none⟩), .int .i64 k] w fun e w' =>
      e = .returned (.tuple #[]) ∧ (∃ uv', RRep w' (Ext S w) b (rHands d k) ev uv') ∧ Fr S w w' := by
  obtain ⟨m0, m1, m2, m3, m4, m5, m6, m7, m8, m9, m10, m11, m12, m13, m14⟩ := h.member k hk
  have hb := h.lt
  have H : Hid (RRep w S b d ev uv) := h
  have HO : Hid (ROk d) := hok
  have hfol2 := (hok.fol k hk).2
  have hlen := hok.log k hk
  obtain ⟨q, hq⟩ : ∃ q : Nat, (d.mem k).follows = (q : Int) + 1 := ⟨((d.mem k).follows - 1).toNat, by omega⟩
  have HQ : Hid ((d.mem k).follows = (q : Int) + 1) := hq
  have hql : q < d.eras.length := by omega
  have HFo : Hid (1 ≤ (d.mem k).follows) := hf
  clear h hok hf hfol2 hq
  go_enter Try.func115, Try.ntmps115
  go_wp2_with fail
  refine (rothers_any (H.out.alloc _) HO.out k hk HFo.out).mono ?_
  rintro e w2 ⟨rfl, hBd⟩
  have HR2 : Hid (RRep w2 (Now S w) b d ev uv) := (H.out.now.alloc _).below hBd
  have HB2 : Hid (Fr S w w2) := (Fr.alloc _ _ _).then (Fr.below hBd)
  have HC2 : Hid (Copy w2 w.heap.size (d.mem k)) := (copy_alloc w (d.mem k)).same (hBd.block _ (by simp))
  clear hBd m0 m1 m2 m3 m4 m5 m6 m7 m8 m9 m10 m11 m12 m13 m14
  obtain ⟨g1, _, _, _⟩ := HC2.out.cells
  cases hall : rOthers d k
  rotate_left
  · have HF : Hid (rHands d k = rReady d k (d.mem k).follows) := by show rHands d k = _; simp [rHands, hall]
    go_wp2_with fail
    refine (rsends_any HR2.out HO.out.way { kind := 6, frm := k, to := -1, epoch := (d.mem k).follows, n := 0, recs := [] } _ rfl).mono ?_
    rintro e w3 ⟨rfl, ⟨uv3, hR3⟩, hF3⟩
    have HR3 : Hid _ := hR3
    have HF3 : Hid _ := hF3
    clear hR3 hF3
    go_wp2
    exact bodyPost_ret (results_none rfl _ _ _) rfl ⟨rfl, ⟨uv3, by rw [HF.out]; exact HR3.out.back HB2.out.size⟩, HB2.out.then HF3.out.now⟩
  have HF : Hid (rHands d k = rHandsTo d k (d.mem k) 5) := by show rHands d k = _; simp [rHands, hall]
  clear g1
  go_wp2_with fail
  refine wp_genR (fun W => RRep W (Now S w) b d ev uv ∧ Fr S w W ∧ Copy W w.heap.size (d.mem k)) ⟨HR2.out, HB2.out, HC2.out⟩ ?_
  rintro W ⟨hWR, hWB, hWC⟩
  have HWR : Hid (RRep W (Now S w) b d ev uv) := hWR
  have HWB : Hid (Fr S w W) := hWB
  have HWC : Hid (Copy W w.heap.size (d.mem k)) := hWC
  clear hWR hWB hWC HR2 HB2 HC2
  go_loopw [6] (fun t wr => ∃ j : Nat, j ≤ 5 ∧ t = .int .i64 j ∧ (∃ uv', RRep wr (Ext (Now S w) W) b (rHandsTo d k (d.mem k) j) ev uv') ∧ Fr (Now S w) W wr ∧ Copy wr w.heap.size (d.mem k)) (fun t _ => 5 - (intOf t).toNat)
  case atStart => exact ⟨0, Nat.zero_le _, rfl, ⟨_, HWR.out.mono fun _ _ e => Or.inl e⟩, Fr.refl _ _, HWC.out⟩
  case round =>
    obtain ⟨j, hj5, rfl, ⟨uv1, hRr⟩, hFr, hCr⟩ := hrel
    obtain ⟨f1, _, _, f4⟩ := hCr.cells
    have HWr : Hid (RRep wr (Ext (Now S w) W) b (rHandsTo d k (d.mem k) j) ev uv1) := hRr
    have HFr : Hid (Fr (Now S w) W wr) := hFr
    have HCr : Hid (Copy wr w.heap.size (d.mem k)) := hCr
    have HEr : Hid ((rHandsTo d k (d.mem k) j).eras = d.eras) := (rHandsTo_same _ _ _ _).2.1
    clear hRr hFr hCr
    by_cases hj : j < 5
    · have HOr : Hid (ROk (rHandsTo d k (d.mem k) j)) := HO.out.handsTo k hk HFo.out j (by omega)
      have hh := HCr.out.has j hj
      have hj0 : (0 : Int) ≤ (j : Int) := by omega
      have hj1 : (j : Int) < 5 := by omega
      rw [HQ.out] at f1
      by_cases ejk : j = k
      · have b1 : ((j : Int) != (k : Int)) = false := by simp [ejk]
        have HS' : Hid (rHandsTo d k (d.mem k) (j + 1) = rHandsTo d k (d.mem k) j) := by
          show rHandsTo d k (d.mem k) (j + 1) = _
          rw [rHandsTo, if_neg (by simp [ejk])]
        clear ejk
        go_wp2_with (first | (go_at_call 76; refine (rin_any HWr.out HOr.out q (by rw [HEr.out]; exact hql) j hj).mono ?_; rintro e w1 ⟨rfl, hw1⟩; rw [hw1]; clear hw1))
        go_roundw
        case rel => exact ⟨j + 1, by omega, by go_num, ⟨uv1, by rw [HS'.out]; exact HWr.out⟩, HFr.out, HCr.out⟩
        case measure => simp [intOf]; omega
      · have b1 : ((j : Int) != (k : Int)) = true := by simp; omega
        cases hin : rIn (rHandsTo d k (d.mem k) j) ((q : Int) + 1) j
        · have HS' : Hid (rHandsTo d k (d.mem k) (j + 1) = rHandsTo d k (d.mem k) j) := by
            show rHandsTo d k (d.mem k) (j + 1) = _
            rw [rHandsTo, if_neg (by rw [HQ.out, hin]; simp)]
          clear ejk
          go_wp2_with (first | (go_at_call 76; refine (rin_any HWr.out HOr.out q (by rw [HEr.out]; exact hql) j hj).mono ?_; rintro e w1 ⟨rfl, hw1⟩; rw [hw1]; clear hw1))
          go_roundw
          case rel => exact ⟨j + 1, by omega, by go_num, ⟨uv1, by rw [HS'.out]; exact HWr.out⟩, HFr.out, HCr.out⟩
          case measure => simp [intOf]; omega
        · cases hhas : (d.mem k).has j <;> rw [hhas] at hh
          rotate_left
          · have HS' : Hid (rHandsTo d k (d.mem k) (j + 1) = rHandsTo d k (d.mem k) j) := by
              show rHandsTo d k (d.mem k) (j + 1) = _
              rw [rHandsTo, if_neg (by rw [hhas]; simp)]
            clear ejk
            go_wp2_with (first | (go_at_call 76; refine (rin_any HWr.out HOr.out q (by rw [HEr.out]; exact hql) j hj).mono ?_; rintro e w1 ⟨rfl, hw1⟩; rw [hw1]; clear hw1))
            go_roundw
            case rel => exact ⟨j + 1, by omega, by go_num, ⟨uv1, by rw [HS'.out]; exact HWr.out⟩, HFr.out, HCr.out⟩
            case measure => simp [intOf]; omega
          · have HS' : Hid (rHandsTo d k (d.mem k) (j + 1) = rSends (rHandsTo d k (d.mem k) j) { kind := 4, frm := k, to := j, epoch := (q : Int) + 1, n := (d.mem k).log.length, recs := (d.mem k).log }) := by
              show rHandsTo d k (d.mem k) (j + 1) = _
              rw [rHandsTo, if_pos ⟨ejk, by rw [HQ.out]; exact hin, hhas⟩, HQ.out]
            clear ejk
            go_wp2_with (first | (go_at_call 76; refine (rin_any HWr.out HOr.out q (by rw [HEr.out]; exact hql) j hj).mono ?_; rintro e w1 ⟨rfl, hw1⟩; rw [hw1]; clear hw1))
            go_region_held3 (fun w' => w'.cell? ⟨w.heap.size, 1, none⟩ = some (.int .i64 ((q : Int) + 1)) ∧ w'.cell? ⟨w.heap.size, 4, none⟩ = some (.string (encB (d.mem k).log)))
              (first
                | exact ⟨f1, f4⟩
                | exact ⟨(World.cell?_of_block (hFr2.out.block w.heap.size HCr.out.lt (fun e => e.elim (fun e => Nat.lt_irrefl _ e.2) (fun e => by have := HWC.out.lt; omega)))).trans f1, (World.cell?_of_block (hFr2.out.block w.heap.size HCr.out.lt (fun e => e.elim (fun e => Nat.lt_irrefl _ e.2) (fun e => by have := HWC.out.lt; omega)))).trans f4⟩)
              (first
                | (go_at_call 74; refine (rcount_any _ hlen _).mono ?_; rintro e w1 ⟨rfl, hw1⟩; rw [hw1]; clear hw1)
                | (go_at_call 99; refine (rsends_any HWr.out.drew HOr.out.way { kind := 4, frm := k, to := j, epoch := (q : Int) + 1, n := (d.mem k).log.length, recs := (d.mem k).log } _ rfl).mono ?_; rintro e w2 ⟨rfl, hR2, hF2⟩; have HR2 : Hid _ := hR2; have hFr2 : Hid _ := hF2; clear hR2 hF2))
            all_goals
              obtain ⟨uv2, hR2⟩ := HR2.out
              have HR3 : Hid (RRep w2 (Ext (Now S w) W) b (rSends (rHandsTo d k (d.mem k) j) { kind := 4, frm := k, to := j, epoch := (q : Int) + 1, n := (d.mem k).log.length, recs := (d.mem k).log }) ev uv2) := hR2.mono fun i _ e => Ext.sub (S := Now S w) (w' := wr) HFr.out.size i e
              have HF3 : Hid (Fr (Now S w) W w2) := (HFr.out.then (Fr.drew _ wr)).trans hFr2.out
              have HC3 : Hid (Copy w2 w.heap.size (d.mem k)) := HCr.out.same (hFr2.out.block _ HCr.out.lt (fun e => e.elim (fun e => Nat.lt_irrefl _ e.2) (fun e => by have := HWC.out.lt; omega)))
              clear hR2 HR2 hFr2
              go_wp2
              go_roundw
              case rel => exact ⟨j + 1, by omega, by go_num, ⟨uv2, by rw [HS'.out]; exact HR3.out⟩, HF3.out, HC3.out⟩
              case measure => simp [intOf]; omega
    · have : j = 5 := by omega
      subst this
      go_wp2_with fail
      exact bodyPost_end (results_none rfl _ _ _) rfl ⟨rfl, ⟨_, by rw [HF.out]; exact HWr.out.back HWB.out.size⟩, HWB.out.then HFr.out.now⟩
end
end Go.Proofs.Ythpjcmilfipbaaa
