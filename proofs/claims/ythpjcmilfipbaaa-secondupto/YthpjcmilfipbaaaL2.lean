/- My own text: several texts in one. -/
import Derived.Test.YthpjcmilfipbaaaL1
namespace Go.Proofs.Ythpjcmilfipbaaa
set_option linter.unusedVariables false
set_option linter.unusedSimpArgs false
open Go.RowKit
/-- The game's own memory: its block, the row of the books, the lists that came out. -/
structure GRep (w : World) (S : Nat → Prop) (G : Nat) (av lv : Value) (bks : List Bk) : Prop where
  blk : w.heap[G]? = some (.cells #[av, lv] 70 (0, 0))
  inG : S G
  lists : w.ownsRow 0 122 2 lv bks.length (bkCells bks)
  listS : ∀ g, lv.ownBlock = some g → S g
  oks : ∀ x ∈ bks, BkOk w x
  okS : ∀ x ∈ bks, ∀ g, x.ao = some ⟨g, 0, none⟩ → S g ∧ ∃ cs, w.heap[g]? = some (.cells cs 109 (0, 0))
theorem BkOk.same {w w' : World} {x : Bk} (h : BkOk w x) (hk : ∀ g, x.ao = some ⟨g, 0, none⟩ → w'.heap[g]? = w.heap[g]?) : BkOk w' x := by
  refine ⟨h.len, h.n, h.at0, fun g hg i hi => ?_⟩
  have e : ∀ o, w'.cell? ⟨g, o, none⟩ = w.cell? ⟨g, o, none⟩ := fun o => World.cell?_of_block (hk g hg)
  simp only [e]
  exact h.full g hg i hi
theorem GRep.same {w w' : World} {S : Nat → Prop} {G : Nat} {av lv : Value} {bks : List Bk} (h : GRep w S G av lv bks) (hk : ∀ k, S k → k < w.heap.size → w'.heap[k]? = w.heap[k]?) : GRep w' S G av lv bks :=
  { blk := by rw [hk G h.inG (Array.getElem?_eq_some_iff.1 h.blk).1]; exact h.blk
    inG := h.inG
    lists := ownsRow_same h.lists fun g hg hl => hk g (h.listS g hg) hl
    listS := h.listS
    oks := fun x hx => (h.oks x hx).same fun g hg => by
      obtain ⟨hs, cs, hc⟩ := h.okS x hx g hg
      exact hk g hs (Array.getElem?_eq_some_iff.1 hc).1
    okS := fun x hx g hg => by
      obtain ⟨hs, cs, hc⟩ := h.okS x hx g hg
      exact ⟨hs, cs, by rw [hk g hs (Array.getElem?_eq_some_iff.1 hc).1]; exact hc⟩ }
theorem GRep.same2 {w w' : World} {S S' : Nat → Prop} {G : Nat} {av lv : Value} {bks : List Bk} (h : GRep w S G av lv bks) (hs : ∀ q, q < w.heap.size → S q → S' q) (hG : w'.heap[G]? = w.heap[G]?) (hL : ∀ g, lv.ownBlock = some g → w'.heap[g]? = w.heap[g]?)
    (hB : ∀ x ∈ bks, ∀ g, x.ao = some ⟨g, 0, none⟩ → w'.heap[g]? = w.heap[g]?) : GRep w' S' G av lv bks :=
  { blk := by rw [hG]; exact h.blk
    inG := hs _ (Array.getElem?_eq_some_iff.1 h.blk).1 h.inG
    lists := ownsRow_same h.lists fun g hg _ => hL g hg
    listS := fun g hg => hs g (ownsRow_lt h.lists hg) (h.listS g hg)
    oks := fun x hx => (h.oks x hx).same fun g hg => hB x hx g hg
    okS := fun x hx g hg => by
      obtain ⟨hq, cs, hc⟩ := h.okS x hx g hg
      exact ⟨hs g (Array.getElem?_eq_some_iff.1 hc).1 hq, cs, by rw [hB x hx g hg]; exact hc⟩ }
theorem bk_of_row {w : World} {B k cap nn : Nat} {ao : Option Addr} (hk : k ≤ 1000) (hn : nn ≤ 1000000000) (h : w.ownsRow B 109 5 (.slice ao k cap) k (seeCellsR (List.replicate k (mark nn)))) : BkOk w ⟨ao, k, cap, nn⟩ := by
  obtain ⟨ao', cap', he, _, h3, h4⟩ := ownsRow_shape h
  injection he with e1 e2 e3
  subst e1
  refine ⟨hk, hn, h4, fun g hg i hi => ?_⟩
  simp only at hg hi
  subst hg
  exact see_cellsB h i (mark nn) (by simp [hi])
theorem infoBook : (Try.prog.info? 122).map (fun i => (i.zero, i.size, i.bytes)) = some (some (.agg #[.slice none 0 0, .int .i64 0]), 2, 32) := by kernel_rfl
theorem bkCells_append (l m : List Bk) : bkCells (l ++ m) = bkCells l ++ bkCells m := by simp [bkCells]
/-- The row of books is another one now: one book more. -/
theorem GRep.add {w w1 W : World} {S : Nat → Prop} {G : Nat} {av lv : Value} {bks : List Bk} (h : GRep w S G av lv bks) (hW : Fr No w W) (x : Bk) (hx : BkOk w x) (hxS : ∀ g, x.ao = some ⟨g, 0, none⟩ → S g ∧ ∃ cs, w.heap[g]? = some (.cells cs 109 (0, 0)))
    (gg cap' : Nat) (hown : w1.ownsRow 0 122 2 (.slice (some ⟨gg, 0, none⟩) (bks.length + 1) cap') (bks.length + 1) (bkCells bks ++ bkRow x)) (hgrow : W.grownBy w1 lv.ownBlock) (hat : lv.ownBlock = some gg ∨ w.heap.size ≤ gg) :
    GRep (w1.setCell ⟨G, 1, none⟩ (.slice (some ⟨gg, 0, none⟩) (bks.length + 1) cap')) (Ext S w) G av (.slice (some ⟨gg, 0, none⟩) (bks.length + 1) cap') (bks ++ [x]) ∧
    Fr S w (w1.setCell ⟨G, 1, none⟩ (.slice (some ⟨gg, 0, none⟩) (bks.length + 1) cap')) ∧
    ∀ (g : Nat) (cs : Array Value), w.heap[g]? = some (Obj.cells cs 109 (0, 0)) → (w1.setCell ⟨G, 1, none⟩ (.slice (some ⟨gg, 0, none⟩) (bks.length + 1) cap')).heap[g]? = w.heap[g]? := by
  have hGl : G < w.heap.size := (Array.getElem?_eq_some_iff.1 h.blk).1
  have hLG : lv.ownBlock ≠ some G := fun e => by
    obtain ⟨cu, hcu⟩ := ownsRow_block h.lists e
    exact ne_of_type hcu h.blk (by decide) rfl
  have hgG : gg ≠ G := by
    rcases hat with e | e
    · intro q; subst q; exact hLG e
    · omega
  have hold : ∀ q, q < w.heap.size → lv.ownBlock ≠ some q → w1.heap[q]? = w.heap[q]? := fun q hq hu =>
    (hgrow.block q (Nat.lt_of_lt_of_le hq hW.size) (fun e => hu e.symm)).trans (hW.block q hq (fun e => e))
  have hset : ∀ q, q ≠ G → (w1.setCell ⟨G, 1, none⟩ (.slice (some ⟨gg, 0, none⟩) (bks.length + 1) cap')).heap[q]? = w1.heap[q]? := fun q hq => Below.heap_setCell _ _ _ _ hq
  have hmsg : ∀ (g : Nat) (cs : Array Value), w.heap[g]? = some (Obj.cells cs 109 (0, 0)) → (w1.setCell ⟨G, 1, none⟩ (.slice (some ⟨gg, 0, none⟩) (bks.length + 1) cap')).heap[g]? = w.heap[g]? := fun g cs hc => by
    rw [hset g (ne_of_type hc h.blk (by decide)), hold g (Array.getElem?_eq_some_iff.1 hc).1]
    intro e
    obtain ⟨cu, hcu⟩ := ownsRow_block h.lists e
    exact ne_of_type hc hcu (by decide) rfl
  refine ⟨{ blk := ?_, inG := Or.inl h.inG, lists := ?_, listS := ?_, oks := ?_, okS := ?_ }, ?_, hmsg⟩
  · have := heap_setCell_at w1 G 1 (.slice (some ⟨gg, 0, none⟩) (bks.length + 1) cap') _ _ _ ((hold G hGl hLG).trans h.blk)
    exact this
  · rw [bkCells_append, List.length_append]
    have e : bkCells [x] = bkRow x := by simp [bkCells]
    rw [e]
    exact ownsRow_same hown fun g hg _ => hset g (by simp [Value.ownBlock] at hg; omega)
  · intro g hg
    simp [Value.ownBlock] at hg
    subst hg
    rcases hat with e | e
    · exact Or.inl (h.listS _ e)
    · exact Or.inr e
  · intro y hy
    rcases List.mem_append.1 hy with hy | hy
    · refine (h.oks y hy).same fun g hg => ?_
      obtain ⟨_, cs, hc⟩ := h.okS y hy g hg
      exact hmsg g cs hc
    · simp at hy; subst hy
      refine hx.same fun g hg => ?_
      obtain ⟨_, cs, hc⟩ := hxS g hg
      exact hmsg g cs hc
  · intro y hy g hg
    rcases List.mem_append.1 hy with hy | hy
    · obtain ⟨hs, cs, hc⟩ := h.okS y hy g hg
      exact ⟨Or.inl hs, cs, by rw [hmsg g cs hc]; exact hc⟩
    · simp at hy; subst hy
      obtain ⟨hs, cs, hc⟩ := hxS g hg
      exact ⟨Or.inl hs, cs, by rw [hmsg g cs hc]; exact hc⟩
  · have f1 : Fr S w w1 := (hW.mono (fun _ e => e.elim)).then (Fr.grown hgrow fun q hq => h.listS q hq)
    exact f1.then (Fr.setCell _ _ h.inG _)
theorem ownsRow_zero {w : World} {B : Nat} {e : TypeId} {size : Nat} {v : Value} {n : Nat} {xs : List Value} (h : w.ownsRow B e size v n xs) : w.ownsRow 0 e size v n xs := by
  refine ⟨h.1, ?_⟩
  rcases h.2 with hn | ⟨g, cap, cur, e1, hb, hg, rest⟩
  · exact .inl hn
  · exact .inr ⟨g, cap, cur, e1, Nat.zero_le _, hg, rest⟩
theorem GRep.mono {w : World} {S S' : Nat → Prop} {G : Nat} {av lv : Value} {bks : List Bk} (h : GRep w S G av lv bks) (hs : ∀ q, q < w.heap.size → S q → S' q) : GRep w S' G av lv bks :=
  h.same2 hs rfl (fun _ _ => rfl) (fun _ _ _ _ => rfl)
theorem GRep.rowG {w : World} {S : Nat → Prop} {G : Nat} {av lv : Value} {bks : List Bk} (h : GRep w S G av lv bks) : lv.ownBlock ≠ some G := fun e => by
  obtain ⟨cu, hcu⟩ := ownsRow_block h.lists e
  exact ne_of_type hcu h.blk (by decide) rfl
/-- A list grew by one mark; the books that share its row are shorter views of it. -/
theorem GRep.longer {w w2 : World} {S : Nat → Prop} {G : Nat} {av lv v : Value} {bks : List Bk} (h : GRep w S G av lv bks) {k nn g cap : Nat} {xs : List Value} (hv : w.ownsRow 0 109 5 v k xs) (hgrow : w.grownBy w2 v.ownBlock)
    (hat : v.ownBlock = some g ∨ (w.heap.size ≤ g ∧ ∀ q, q < w.heap.size → w2.heap[q]? = w.heap[q]?)) (hrow : w2.ownsRow 0 109 5 (.slice (some ⟨g, 0, none⟩) (k + 1) cap) (k + 1) (seeCellsR (List.replicate (k + 1) (mark nn))))
    (hsh : ∀ x ∈ bks, ∀ g, x.ao = some ⟨g, 0, none⟩ → v.ownBlock = some g → x.n = nn ∧ x.len ≤ k) : GRep w2 S G av lv bks := by
  have hne : ∀ (q : Nat) (cs : Array Value) (e : TypeId), w.heap[q]? = some (Obj.cells cs e (0, 0)) → e ≠ 109 → w2.heap[q]? = w.heap[q]? := fun q cs e hq he =>
    hgrow.block q (Array.getElem?_eq_some_iff.1 hq).1 fun e2 => by
      obtain ⟨cu, hcu⟩ := ownsRow_block hv e2.symm
      exact ne_of_type hq hcu he rfl
  have hoth : ∀ x ∈ bks, ∀ q, x.ao = some ⟨q, 0, none⟩ → w2.heap[q]? = w.heap[q]? ∨ (q = g ∧ x.n = nn ∧ x.len ≤ k) := fun x hx q hq => by
    obtain ⟨_, cs, hc⟩ := h.okS x hx q hq
    have hl := (Array.getElem?_eq_some_iff.1 hc).1
    by_cases e : v.ownBlock = some q
    · rcases hat with e2 | e2
      · rw [e] at e2
        exact Or.inr ⟨by simpa using e2, hsh x hx q hq e⟩
      · exact Or.inl (e2.2 q hl)
    · exact Or.inl (hgrow.block q hl fun e2 => e e2.symm)
  refine { blk := ?_, inG := h.inG, lists := ?_, listS := h.listS, oks := ?_, okS := ?_ }
  · rw [hne _ _ _ h.blk (by decide)]; exact h.blk
  · exact ownsRow_same h.lists fun q hq _ => by
      obtain ⟨cu, hcu⟩ := ownsRow_block h.lists hq
      exact hne _ _ _ hcu (by decide)
  · intro x hx
    refine ⟨(h.oks x hx).len, (h.oks x hx).n, (h.oks x hx).at0, fun q hq i hi => ?_⟩
    rcases hoth x hx q hq with e | ⟨rfl, e2, e3⟩
    · have e : ∀ o, w2.cell? ⟨q, o, none⟩ = w.cell? ⟨q, o, none⟩ := fun o => World.cell?_of_block e
      simp only [e]
      exact (h.oks x hx).full q hq i hi
    · have := see_cellsB hrow i (mark nn) (by rw [List.getElem?_replicate, if_pos (by omega)])
      rw [e2]
      exact this
  · intro x hx q hq
    obtain ⟨hs, cs, hc⟩ := h.okS x hx q hq
    rcases hoth x hx q hq with e | ⟨rfl, e2, e3⟩
    · exact ⟨hs, cs, by rw [e]; exact hc⟩
    · obtain ⟨cu, hcu⟩ := ownsRow_block hrow (g := q) rfl
      exact ⟨hs, cu, hcu⟩
theorem infoSee : (Try.prog.info? 109).map (fun i => (i.zero, i.size, i.bytes)) = some (some (.agg #[.int .i64 0, .int .i64 0, .int .i64 0, .int .i64 0, .int .i64 0]), 5, 40) := by kernel_rfl
theorem mark_more (k nn : Nat) : seeCellsR (List.replicate k (mark nn)) ++ [.int .i64 (-(nn : Int)), .int .i64 0, .int .i64 0, .int .i64 0, .int .i64 nn] = seeCellsR (List.replicate (k + 1) (mark nn)) := by
  rw [List.replicate_succ', seeCellsR, seeCellsR, List.flatMap_append]; simp [seeRowR, mark]
theorem GRep.longer2 {w w1 : World} {S : Nat → Prop} {G : Nat} {av lv v : Value} {bks : List Bk} (h : GRep w S G av lv bks) {k nn g cap : Nat} {o : Obj} (hv : w.ownsRow 0 109 5 v k (seeCellsR (List.replicate k (mark nn)))) (hgrow : (w.alloc o).grownBy w1 v.ownBlock)
    (hat : v.ownBlock = some g ∨ ((w.alloc o).heap.size ≤ g ∧ ∀ q, q < (w.alloc o).heap.size → w1.heap[q]? = (w.alloc o).heap[q]?))
    (hrow : w1.ownsRow 0 109 5 (.slice (some ⟨g, 0, none⟩) (k + 1) cap) (k + 1) (seeCellsR (List.replicate k (mark nn)) ++ [.int .i64 (-(nn : Int)), .int .i64 0, .int .i64 0, .int .i64 0, .int .i64 nn]))
    (hsh : ∀ x ∈ bks, ∀ g, x.ao = some ⟨g, 0, none⟩ → v.ownBlock = some g → x.n = nn ∧ x.len ≤ k) :
    GRep w1 S G av lv bks ∧ w1.ownsRow 0 109 5 (.slice (some ⟨g, 0, none⟩) (k + 1) cap) (k + 1) (seeCellsR (List.replicate (k + 1) (mark nn))) := by
  rw [mark_more] at hrow
  exact ⟨(h.same (w' := w.alloc o) fun q _ hq => Below.heap_alloc _ _ _ hq).longer (World.ownsRow.alloc hv _) hgrow hat hrow hsh, hrow⟩
/-- j marks, then what was there. -/
def marked (n j : Nat) (xs : List Value) : List Value := seeCellsR (List.replicate j (mark n)) ++ xs.drop (j * 5)
theorem marked_zero (n : Nat) (xs : List Value) : marked n 0 xs = xs := by simp [marked, seeCellsR]
theorem marked_all (n j : Nat) (xs : List Value) (h : xs.length = j * 5) : marked n j xs = seeCellsR (List.replicate j (mark n)) := by
  simp [marked, List.drop_of_length_le (Nat.le_of_eq h)]
theorem marked_len (n j : Nat) (xs : List Value) (h : j * 5 ≤ xs.length) : (marked n j xs).length = xs.length := by
  have e : (seeCellsR (List.replicate j (mark n))).length = j * 5 := by rw [seeCellsR, flat_len _ 5 (fun _ => rfl)]; simp
  rw [marked, List.length_append, e, List.length_drop]; omega
theorem set_at_left (a : List Value) : ∀ (b : List Value) (k : Nat) (u : Value), (a ++ b).set (a.length + k) u = a ++ b.set k u := by
  intro b k u
  rw [List.set_append_right _ _ (by omega)]
  congr 2
  omega
theorem marked_step (n j : Nat) (xs : List Value) (h : (j + 1) * 5 ≤ xs.length) :
    (((((marked n j xs).set (j * 5) (.int .i64 (-(n : Int)))).set (j * 5 + 1) (.int .i64 0)).set (j * 5 + 2) (.int .i64 0)).set (j * 5 + 3) (.int .i64 0)).set (j * 5 + 4) (.int .i64 n) = marked n (j + 1) xs := by
  have e : (seeCellsR (List.replicate j (mark n))).length = j * 5 := by rw [seeCellsR, flat_len _ 5 (fun _ => rfl)]; simp
  have er : seeCellsR (List.replicate (j + 1) (mark n)) = seeCellsR (List.replicate j (mark n)) ++ [.int .i64 (-(n : Int)), .int .i64 0, .int .i64 0, .int .i64 0, .int .i64 n] := by
    rw [List.replicate_succ', seeCellsR_append]; simp [seeCellsR, seeRowR, mark]
  have hd : (xs.drop (j * 5)).length = xs.length - j * 5 := by simp
  match hx : xs.drop (j * 5), hd with
  | a0 :: a1 :: a2 :: a3 :: a4 :: rest, _ =>
    have ed : xs.drop ((j + 1) * 5) = rest := by
      rw [show (j + 1) * 5 = j * 5 + 5 by omega, ← List.drop_drop, hx]; rfl
    rw [marked, marked, hx, ed, er]
    have s0 := set_at_left (seeCellsR (List.replicate j (mark n)))
    simp only [e] at s0
    have s00 := fun b u => s0 b 0 u
    simp only [Nat.add_zero] at s00
    rw [s00, s0, s0, s0, s0]
    simp
  | [], hd => simp at hd; omega
  | [_], hd => simp at hd; omega
  | [_, _], hd => simp at hd; omega
  | [_, _, _], hd => simp at hd; omega
  | [_, _, _, _], hd => simp at hd; omega
theorem fill_step {w : World} {B g n cap k j : Nat} {xs : List Value} (h : w.ownsRow B 109 5 (.slice (some ⟨g, 0, none⟩) k cap) k (marked n j xs)) (hj : (j + 1) * 5 ≤ xs.length) :
    (((((w.setCell ⟨g, j * 5, none⟩ (.int .i64 (-(n : Int)))).setCell ⟨g, j * 5 + 1, none⟩ (.int .i64 0)).setCell ⟨g, j * 5 + 2, none⟩ (.int .i64 0)).setCell ⟨g, j * 5 + 3, none⟩ (.int .i64 0)).setCell ⟨g, j * 5 + 4, none⟩ (.int .i64 n)).ownsRow B 109 5 (.slice (some ⟨g, 0, none⟩) k cap) k (marked n (j + 1) xs) := by
  have q := (((((h.stored (j * 5) (.int .i64 (-(n : Int)))).1.stored (j * 5 + 1) (.int .i64 0)).1.stored (j * 5 + 2) (.int .i64 0)).1.stored (j * 5 + 3) (.int .i64 0)).1.stored (j * 5 + 4) (.int .i64 n)).1
  rw [marked_step n j xs hj] at q
  exact q
set_option maxHeartbeats 3200000 in
set_option maxRecDepth 100000 in
theorem lowns_any {w : World} {S : Nat → Prop} {G : Nat} {av lv v : Value} {bks : List Bk} {B k : Nat} {xs : List Value} (h : GRep w S G av lv bks) (hbn : bks.length ≤ 100000000) (hk : k ≤ 50) (hv : w.ownsRow B 109 5 v k xs) (hvS : ∀ g, v.ownBlock = some g → S g)
    (hnew : ∀ x ∈ bks, ∀ g, x.ao = some ⟨g, 0, none⟩ → v.ownBlock ≠ some g) :
    Calls Try.prog 80 #[.pointer (some ⟨G, 0, none⟩), v] w fun e w' =>
      e = .returned (.tuple #[]) ∧ (∃ lv' bks', bks'.length = bks.length + 4 ∧ GRep w' (Ext S w) G av lv' bks') ∧ Fr S w w' := by
  obtain ⟨ao, cap, rfl, _, _, hp⟩ := ownsRow_shape hv
  obtain ⟨lo, lcap, rfl, _, _, hlp⟩ := ownsRow_shape h.lists
  have c1 : w.cell? ⟨G, 1, none⟩ = some (.slice lo bks.length lcap) := (cell_of_row _ _ _ _ _ _ h.blk).trans rfl
  have hGl : G < w.heap.size := (Array.getElem?_eq_some_iff.1 h.blk).1
  have H : Hid _ := h
  have HV : Hid (w.ownsRow B 109 5 (.slice ao k cap) k xs) := hv
  have HP : Hid _ := hp
  have HVS : Hid _ := hvS
  have HN : Hid _ := hnew
  obtain ⟨nn, hnn⟩ : ∃ nn : Nat, nn = bks.length + 1 := ⟨_, rfl⟩
  have HNN : Hid (nn = bks.length + 1) := hnn
  have hw1 : IntKind.i64.wrap ((bks.length : Int) + 1) = (nn : Int) := by rw [wrap_mid _ (by omega) (by omega)]; omega
  have hw2 : IntKind.i64.wrap (-(nn : Int)) = -(nn : Int) := wrap_mid _ (by omega) (by omega)
  clear h hv hp hvS hnew hlp hnn
  go_enter Try.func80, Try.ntmps80
  go_wp2_with fail
  refine wp_genR (fun W => W = w.alloc (.cells #[.int .i64 (-(nn : Int)), .int .i64 0, .int .i64 0, .int .i64 0, .int .i64 nn] 109)) rfl ?_
  rintro W hW
  have hWM : W.heap[w.heap.size]? = some (.cells #[.int .i64 (-(nn : Int)), .int .i64 0, .int .i64 0, .int .i64 0, .int .i64 nn] 109) := by rw [hW]; exact heap_alloc_new w _
  have HWF : Hid (Fr No w W) := by rw [hW]; exact Fr.alloc _ _ _
  have HWM : Hid (W.heap[w.heap.size]? = some (.cells #[.int .i64 (-(nn : Int)), .int .i64 0, .int .i64 0, .int .i64 0, .int .i64 nn] 109)) := hWM
  have HWV : Hid (W.ownsRow B 109 5 (.slice ao k cap) k xs) := by rw [hW]; exact World.ownsRow.alloc HV.out _
  have HWs : Hid (W.heap.size = w.heap.size + 1) := by show W.heap.size = _; rw [hW]; simp
  clear hW hWM c1
  have HL : Hid (xs.length = k * 5) := HV.out.1
  go_loopw [6] (fun t wr => ∃ j : Nat, j ≤ k ∧ t = .int .i64 j ∧ wr.ownsRow B 109 5 (.slice ao k cap) k (marked nn j xs) ∧ Fr (fun q => (Value.slice ao k cap).ownBlock = some q) W wr) (fun t _ => k - (intOf t).toNat)
  case atStart => exact ⟨0, Nat.zero_le _, rfl, by rw [marked_zero]; exact HWV.out, Fr.refl _ _⟩
  case round =>
    obtain ⟨j, hj5, rfl, hO, hF⟩ := hrel
    by_cases hj : j < k
    · obtain ⟨g, rfl⟩ := HP.out (by omega)
      have hgl := ownsRow_lt HV.out (g := g) rfl
      have hNg : ¬ w.heap.size = g := by omega
      have HM := (hF.block w.heap.size (by have := HWs.out; omega) (by simp [Value.ownBlock]; omega)).trans HWM.out
      have m0 : wr.cell? ⟨w.heap.size, 0, none⟩ = some (.int .i64 (-(nn : Int))) := (cell_of_row _ _ _ _ _ _ HM).trans rfl
      have m1 : wr.cell? ⟨w.heap.size, 1, none⟩ = some (.int .i64 0) := (cell_of_row _ _ _ _ _ _ HM).trans rfl
      have m2 : wr.cell? ⟨w.heap.size, 2, none⟩ = some (.int .i64 0) := (cell_of_row _ _ _ _ _ _ HM).trans rfl
      have m3 : wr.cell? ⟨w.heap.size, 3, none⟩ = some (.int .i64 0) := (cell_of_row _ _ _ _ _ _ HM).trans rfl
      have m4 : wr.cell? ⟨w.heap.size, 4, none⟩ = some (.int .i64 nn) := (cell_of_row _ _ _ _ _ _ HM).trans rfl
      have hlen : (marked nn j xs).length = k * 5 := by rw [marked_len _ _ _ (by rw [HL.out]; omega)]; exact HL.out
      have cc : ∀ o, o < k * 5 → ∃ u, wr.cell? ⟨g, o, none⟩ = some u := fun o ho => by
        have := hO.cells (g := g) rfl o ((marked nn j xs)[o]'(by omega)) (by simp [show o < (marked nn j xs).length by omega])
        rw [add_at] at this
        exact ⟨_, by simpa using this⟩
      obtain ⟨cu, hcu⟩ := ownsRow_block hO (g := g) rfl
      have zz : ∀ o, wr.frozen? ⟨g, o, none⟩ = false := fun o => by simp [World.frozen?, hcu]
      obtain ⟨u0, g0⟩ := cc (j * 5) (by omega)
      obtain ⟨u1, g1⟩ := cc (j * 5 + 1) (by omega)
      obtain ⟨u2, g2⟩ := cc (j * 5 + 2) (by omega)
      obtain ⟨u3, g3⟩ := cc (j * 5 + 3) (by omega)
      obtain ⟨u4, g4⟩ := cc (j * 5 + 4) (by omega)
      have z0 := zz (j * 5); have z1 := zz (j * 5 + 1); have z2 := zz (j * 5 + 2); have z3 := zz (j * 5 + 3); have z4 := zz (j * 5 + 4)
      have HO : Hid _ := fill_step (n := nn) hO (by rw [HL.out]; omega)
      have HFF : Hid _ := hF
      have FS : Hid (∀ (V : World) (o : Nat) (u : Value), Fr (fun q => (Value.slice (some ⟨g, 0, none⟩) k cap).ownBlock = some q) V (V.setCell ⟨g, o, none⟩ u)) := fun V o u => Fr.setCell (S := fun q => (Value.slice (some ⟨g, 0, none⟩) k cap).ownBlock = some q) V ⟨g, o, none⟩ rfl u
      have hji0 : (0 : Int) ≤ (j : Int) := by omega
      have hji1 : (j : Int) < (k : Int) := by omega
      clear cc zz hcu HM hO hF hlen
      go_wp2
      go_roundw
      case rel => exact ⟨j + 1, by omega, by go_num, HO.out, ((((HFF.out.then (FS.out _ _ _)).then (FS.out _ _ _)).then (FS.out _ _ _)).then (FS.out _ _ _)).then (FS.out _ _ _)⟩
      case measure => simp [intOf]; omega
    · have hjk : j = k := by omega
      subst hjk
      rw [marked_all _ _ _ HL.out] at hO
      have HX : Hid (BkOk wr ⟨ao, j, cap, nn⟩) := bk_of_row (by omega) (by have := HNN.out; omega) hO
      have hall : ∀ q, q < w.heap.size → (Value.slice ao j cap).ownBlock ≠ some q → wr.heap[q]? = w.heap[q]? := fun q hq hn =>
        (hF.block q (Nat.lt_of_lt_of_le hq HWF.out.size) hn).trans (HWF.out.block q hq (fun e => e))
      have HR : Hid (GRep wr (Now S w) G av (.slice lo bks.length lcap) bks) := by
        refine H.out.same2 (fun q hq hs => ⟨hs, hq⟩) (hall G hGl fun e => ?_) (fun g hg => hall g (ownsRow_lt H.out.lists hg) fun e => ?_) (fun x hx g hg => ?_)
        · obtain ⟨cu, hcu⟩ := ownsRow_block HV.out e
          exact ne_of_type hcu H.out.blk (by decide) rfl
        · obtain ⟨cu, hcu⟩ := ownsRow_block HV.out e
          obtain ⟨cu2, hcu2⟩ := ownsRow_block H.out.lists hg
          exact ne_of_type hcu hcu2 (by decide) rfl
        · obtain ⟨_, cs, hc⟩ := H.out.okS x hx g hg
          exact hall g (Array.getElem?_eq_some_iff.1 hc).1 (HN.out x hx g hg)
      have HO : Hid (wr.ownsRow B 109 5 (.slice ao j cap) j (seeCellsR (List.replicate j (mark nn)))) := hO
      have HFF : Hid (Fr S w wr) := (HWF.out.mono fun _ e => e.elim).then (hF.mono fun q e => HVS.out q e)
      have HM : Hid (wr.heap[w.heap.size]? = some (.cells #[.int .i64 (-(nn : Int)), .int .i64 0, .int .i64 0, .int .i64 0, .int .i64 nn] 109)) :=
        (hF.block w.heap.size (by have := HWs.out; omega) (fun e => by have := ownsRow_lt HV.out e; omega)).trans HWM.out
      have hws : w.heap.size < wr.heap.size := by have := hF.size; have := HWs.out; omega
      have c1 : wr.cell? ⟨G, 1, none⟩ = some (.slice lo bks.length lcap) := (cell_of_row _ _ _ _ _ _ HR.out.blk).trans rfl
      have z1 : wr.frozen? ⟨G, 1, none⟩ = false := by simp [World.frozen?, HR.out.blk]
      clear hall hO hF HWF HWV
      obtain ⟨i0, hi0, hz0, hz1, hz2⟩ := info_parts infoBook
      have hnews : ∀ u ∈ ([.slice ao j cap, .int .i64 nn] : List Value), u.oneCell' = true := by
        intro u hu
        simp only [List.mem_cons, List.not_mem_nil, or_false] at hu
        rcases hu with rfl | rfl <;> rfl
      have hGr : G < wr.heap.size := Nat.lt_trans hGl hws
      have HLG : Hid ((Value.slice lo bks.length lcap).ownBlock ≠ some G) := fun e => by
        obtain ⟨cu, hcu⟩ := ownsRow_block HR.out.lists e
        exact ne_of_type hcu HR.out.blk (by decide) rfl
      go_wp2_with (first | (at_builtin; refine wpList_append_lies _ rfl _ _ 68 rfl 0 122 i0 _ 2 32 Try.underlying68 hi0 hz0 hz1 hz2 rfl (by omega) (.slice lo bks.length lcap) bks.length (bkCells bks) rfl (World.ownsRow.alloc HR.out.lists _) ⟨wr.heap.size, 0, none⟩ 1 1 [.slice ao j cap, .int .i64 nn] rfl rfl (World.news_of_block (cs := #[.slice ao j cap, .int .i64 nn]) (t := 122) (fr := (0, 0)) (heap_alloc_new wr _)) hnews (by omega) (by unfold maxLen; omega) (by omega) (by omega) (wr.heap.size + 1) (by simp) ?_; intro gg cap' w1 hown1 hgrow hat hlt2; have hc51 : w1.cell? ⟨G, 1, none⟩ = some (.slice lo bks.length lcap) := (by rw [hgrow.cell_far _ (by simp; omega) (Ne.symm HLG.out)]; simp [World.cell?_alloc_some, c1]); have hf51 : w1.frozen? ⟨G, 1, none⟩ = false := (by rw [hgrow.frozen_far _ (by simp; omega) (Ne.symm HLG.out)]; simp [frozen?_alloc_cells, z1])))
      have HA : Hid _ := HR.out.add (x := ⟨ao, j, cap, nn⟩) (w1 := w1) (Fr.alloc No wr (.cells #[.slice ao j cap, .int .i64 nn] 122)) HX.out (fun g hg => by
        have hg' : (Value.slice ao j cap).ownBlock = some g := by simp only at hg; subst hg; rfl
        obtain ⟨cu, hcu⟩ := ownsRow_block HO.out hg'
        exact ⟨⟨HVS.out g hg', ownsRow_lt HV.out hg'⟩, cu, hcu⟩) gg cap' hown1 hgrow (by rcases hat with e | e; exact Or.inl e; exact Or.inr (by omega))
      have HOz : Hid (wr.ownsRow 0 109 5 (.slice ao j cap) j (seeCellsR (List.replicate j (mark nn)))) := ownsRow_zero HO.out
      refine wp_genR (fun V => V.ownsRow 0 109 5 (.slice ao j cap) j (seeCellsR (List.replicate j (mark nn))) ∧
        (∃ lv' bks', bks'.length = bks.length + 1 ∧ GRep V (Ext S w) G av lv' bks' ∧ ∀ x ∈ bks', ∀ g, x.ao = some ⟨g, 0, none⟩ → (Value.slice ao j cap).ownBlock = some g → x.n = nn ∧ x.len ≤ j) ∧ Fr S w V ∧ w.heap.size < V.heap.size ∧
        V.heap[w.heap.size]? = some (.cells #[.int .i64 (-(nn : Int)), .int .i64 0, .int .i64 0, .int .i64 0, .int .i64 nn] 109)) ?_ ?_
      · obtain ⟨q1, q2, q3⟩ := HA.out
        refine ⟨ownsRow_same HOz.out fun g hg _ => ?_, ⟨_, _, ?_, q1.mono ?_, ?_⟩, HFF.out.trans (q2.mono fun q e => Or.inl e.1), Nat.lt_of_lt_of_le hws q2.size, (q3 _ _ HM.out).trans HM.out⟩
        · obtain ⟨cu, hcu⟩ := ownsRow_block HOz.out hg
          exact q3 _ _ hcu
        · simp
        · intro q _ hq
          rcases hq with hq | hq
          · exact Or.inl hq.1
          · exact Or.inr (by omega)
        · intro x hx g hg hg2
          rcases List.mem_append.1 hx with hx | hx
          · exact absurd hg2 (HN.out x hx g hg)
          · simp at hx; subst hx; exact ⟨rfl, Nat.le_refl _⟩
      rintro V ⟨hv1, hv2, hv3, hv4, hv5⟩
      have V1 : Hid _ := hv1
      have V2 : Hid _ := hv2
      have V3 : Hid _ := hv3
      have V5 : Hid _ := hv5
      clear hv1 hv2 hv3 hv5 HA HR HX HO HOz HFF HM c1 z1 hown1 hgrow hat hlt2 hc51 hf51
      obtain ⟨i1, hi1, hy0, hy1, hy2⟩ := info_parts infoSee
      go_loopw [7, 8] (fun t7 t8 wr2 => ∃ q : Nat, q ≤ 3 ∧ t8 = .int .i64 q ∧ wr2.ownsRow 0 109 5 t7 (j + q) (seeCellsR (List.replicate (j + q) (mark nn))) ∧
        (∀ g, t7.ownBlock = some g → Ext S w g ∧ g ≠ w.heap.size) ∧
        (∃ lv' bks', bks'.length = bks.length + 1 + q ∧ GRep wr2 (Ext S w) G av lv' bks' ∧ ∀ x ∈ bks', ∀ g, x.ao = some ⟨g, 0, none⟩ → t7.ownBlock = some g → x.n = nn ∧ x.len ≤ j + q) ∧ Fr S w wr2 ∧ w.heap.size < wr2.heap.size ∧
        wr2.heap[w.heap.size]? = some (.cells #[.int .i64 (-(nn : Int)), .int .i64 0, .int .i64 0, .int .i64 0, .int .i64 nn] 109)) (fun _ t8 _ => 3 - (intOf t8).toNat)
      case atStart => exact ⟨0, Nat.zero_le _, rfl, V1.out, fun g hg => ⟨Or.inl (HVS.out g hg), by have := ownsRow_lt HV.out hg; omega⟩, V2.out, V3.out, hv4, V5.out⟩
      case round =>
        obtain ⟨q, hq3, rfl, hr1, hr2, ⟨lv2, bk2, hb1, hb2, hb3⟩, hr4, hr5, hr6⟩ := hrel
        obtain ⟨ao2, cap2, rfl, _, _, hp2⟩ := ownsRow_shape hr1
        by_cases hq : q < 3
        · obtain ⟨lo2, lcap2, rfl, _, _, hlp2⟩ := ownsRow_shape hb2.lists
          have c1 : wr.cell? ⟨G, 1, none⟩ = some (.slice lo2 bk2.length lcap2) := (cell_of_row _ _ _ _ _ _ hb2.blk).trans rfl
          have z1 : wr.frozen? ⟨G, 1, none⟩ = false := by simp [World.frozen?, hb2.blk]
          have m0 : wr.cell? ⟨w.heap.size, 0, none⟩ = some (.int .i64 (-(nn : Int))) := (cell_of_row _ _ _ _ _ _ hr6).trans rfl
          have m1 : wr.cell? ⟨w.heap.size, 1, none⟩ = some (.int .i64 0) := (cell_of_row _ _ _ _ _ _ hr6).trans rfl
          have m2 : wr.cell? ⟨w.heap.size, 2, none⟩ = some (.int .i64 0) := (cell_of_row _ _ _ _ _ _ hr6).trans rfl
          have m3 : wr.cell? ⟨w.heap.size, 3, none⟩ = some (.int .i64 0) := (cell_of_row _ _ _ _ _ _ hr6).trans rfl
          have m4 : wr.cell? ⟨w.heap.size, 4, none⟩ = some (.int .i64 nn) := (cell_of_row _ _ _ _ _ _ hr6).trans rfl
          have hGr2 : G < wr.heap.size := (Array.getElem?_eq_some_iff.1 hb2.blk).1
          have R1 : Hid _ := hr1
          have R2 : Hid _ := hr2
          have R4 : Hid _ := hr4
          have R6 : Hid _ := hr6
          have B1 : Hid _ := hb1
          have B2 : Hid _ := hb2
          have B3 : Hid _ := hb3
          have hqi : (q : Int) < 3 := by omega
          have hnews1 : ∀ u ∈ ([.int .i64 (-(nn : Int)), .int .i64 0, .int .i64 0, .int .i64 0, .int .i64 nn] : List Value), u.oneCell' = true := by
            intro u hu
            simp only [List.mem_cons, List.not_mem_nil, or_false] at hu
            rcases hu with rfl | rfl | rfl | rfl | rfl <;> rfl
          have hb2l : bk2.length ≤ 100000004 := by omega
          clear hr1 hr2 hr4 hr6 hb1 hb2 hb3 V1 V2 V3 V5 hlp2 hp2
          go_wp2_with (first | (at_builtin; refine wpList_append_keep _ rfl _ _ 82 rfl 0 109 i1 _ 5 40 Try.underlying82 hi1 hy0 hy1 hy2 rfl (by omega) (.slice ao2 (j + q) cap2) (j + q) (seeCellsR (List.replicate (j + q) (mark nn))) rfl (World.ownsRow.alloc R1.out _) ⟨wr.heap.size, 0, none⟩ 1 1 [.int .i64 (-(nn : Int)), .int .i64 0, .int .i64 0, .int .i64 0, .int .i64 nn] rfl rfl (World.news_of_block (cs := #[.int .i64 (-(nn : Int)), .int .i64 0, .int .i64 0, .int .i64 0, .int .i64 nn]) (t := 109) (fr := (0, 0)) (heap_alloc_new wr _)) hnews1 (by omega) (by unfold maxLen; omega) (by omega) (by omega) ?_; intro g1 cap1 w1 hown1 hgrow1 hlt1 hat1; have HL2 : Hid _ := B2.out.longer2 R1.out hgrow1 hat1 hown1 B3.out; have HG1 : Hid (GRep w1 (Ext S w) G av (.slice lo2 bk2.length lcap2) bk2) := HL2.out.1; have c11 : w1.cell? ⟨G, 1, none⟩ = some (.slice lo2 bk2.length lcap2) := (cell_of_row _ _ _ _ _ _ HG1.out.blk).trans rfl; have z11 : w1.frozen? ⟨G, 1, none⟩ = false := (by simp [World.frozen?, HG1.out.blk]); have hG1 : G < w1.heap.size := (Array.getElem?_eq_some_iff.1 HG1.out.blk).1; have HLG1 : Hid ((Value.slice lo2 bk2.length lcap2).ownBlock ≠ some G) := HG1.out.rowG) | (at_builtin; refine wpList_append_lies _ rfl _ _ 68 rfl 0 122 i0 _ 2 32 Try.underlying68 hi0 hz0 hz1 hz2 rfl (by omega) (.slice lo2 bk2.length lcap2) bk2.length (bkCells bk2) rfl (World.ownsRow.alloc HG1.out.lists _) ⟨w1.heap.size, 0, none⟩ 1 1 [.slice (some ⟨g1, 0, none⟩) (j + q + 1) cap1, .int .i64 nn] rfl rfl (World.news_of_block (cs := #[.slice (some ⟨g1, 0, none⟩) (j + q + 1) cap1, .int .i64 nn]) (t := 122) (fr := (0, 0)) (heap_alloc_new w1 _)) (by intro u hu; simp only [List.mem_cons, List.not_mem_nil, or_false] at hu; rcases hu with rfl | rfl <;> rfl) (by omega) (by unfold maxLen; omega) (by omega) (by omega) (w1.heap.size + 1) (by simp) ?_; intro gg cap' w2 hown2 hgrow hat hlt2; have hc51 : w2.cell? ⟨G, 1, none⟩ = some (.slice lo2 bk2.length lcap2) := (by rw [hgrow.cell_far _ (by simp; omega) (Ne.symm HLG1.out)]; simp [World.cell?_alloc_some, c11]); have hf51 : w2.frozen? ⟨G, 1, none⟩ = false := (by rw [hgrow.frozen_far _ (by simp; omega) (Ne.symm HLG1.out)]; simp [frozen?_alloc_cells, z11])))
          go_roundw
          case rel =>
            have hs1 : wr.heap.size ≤ w1.heap.size := by have := hgrow1.size; simp at this; omega
            have hat0 : (Value.slice ao2 (j + q) cap2).ownBlock = some g1 ∨ wr.heap.size + 1 ≤ g1 := by
              rcases hat1 with e | e
              · exact Or.inl e
              · have := e.1; simp at this; exact Or.inr this
            have hE1 : Ext S w g1 ∧ g1 ≠ w.heap.size := by
              rcases hat0 with e | e
              · exact R2.out g1 e
              · exact ⟨Or.inr (by omega), by omega⟩
            have hM1 : w1.heap[w.heap.size]? = some (.cells #[.int .i64 (-(nn : Int)), .int .i64 0, .int .i64 0, .int .i64 0, .int .i64 nn] 109) := by
              rw [hgrow1.block w.heap.size (by simp; omega) (fun e => (R2.out _ e.symm).2 rfl), Below.heap_alloc _ _ _ hr5]
              exact R6.out
            have hF1 : Fr (Ext S w) wr w1 := (Fr.alloc _ _ _).then (Fr.grown hgrow1 fun k hk => (R2.out k hk).1)
            obtain ⟨q1, q2, q3⟩ := HG1.out.add (w1 := w2) (Fr.alloc No w1 (.cells #[.slice (some ⟨g1, 0, none⟩) (j + q + 1) cap1, .int .i64 nn] 122)) ⟨some ⟨g1, 0, none⟩, j + q + 1, cap1, nn⟩
              (bk_of_row (by omega) (by have := HNN.out; omega) HL2.out.2) (fun g hg => by
                simp only [Option.some.injEq, Addr.mk.injEq, and_true] at hg
                subst hg
                exact ⟨hE1.1, ownsRow_block HL2.out.2 rfl⟩) gg cap' hown2 hgrow (by rcases hat with e | e; exact Or.inl e; exact Or.inr (by omega))
            refine ⟨q + 1, by omega, by go_num, ownsRow_same HL2.out.2 fun g hg _ => ?_, fun g hg => ?_, ⟨_, _, ?_, q1.mono ?_, ?_⟩, R4.out.trans (hF1.then q2), by have := q2.size; omega, (q3 _ _ hM1).trans hM1⟩
            · obtain ⟨cu, hcu⟩ := ownsRow_block HL2.out.2 hg
              exact q3 _ _ hcu
            · simp only [Value.ownBlock, Option.some.injEq] at hg
              subst hg
              exact hE1
            · have := B1.out; simp; omega
            · intro k _ hk
              rcases hk with hk | hk
              · exact hk
              · exact Or.inr (by omega)
            · intro x hx g hg hg2
              simp only [Value.ownBlock, Option.some.injEq] at hg2
              subst hg2
              rcases List.mem_append.1 hx with hx | hx
              · rcases hat0 with e | e
                · obtain ⟨e1, e2⟩ := B3.out x hx g1 hg e
                  exact ⟨e1, by omega⟩
                · obtain ⟨_, cs, hc⟩ := B2.out.okS x hx g1 hg
                  have := (Array.getElem?_eq_some_iff.1 hc).1
                  omega
              · simp at hx; subst hx; exact ⟨rfl, by simp; omega⟩
          case measure => simp [intOf]; omega
        · have hq33 : q = 3 := by omega
          subst hq33
          have R4 : Hid _ := hr4
          have B1 : Hid _ := hb1
          have B2 : Hid _ := hb2
          clear hr1 hr2 hr4 hr6 hb1 hb2 hb3 hp2
          go_wp2
          exact bodyPost_end (results_none rfl _ _ _) rfl ⟨rfl, ⟨_, _, by have := B1.out; omega, B2.out⟩, R4.out⟩
end Go.Proofs.Ythpjcmilfipbaaa
