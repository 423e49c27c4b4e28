/- My own text: several texts in one. -/
import Derived.Test.YthpjcmilfipbaaaL2
import Derived.Test.YthpjcmilfipbaaaS1
namespace Go.Proofs.Ythpjcmilfipbaaa
set_option linter.unusedVariables false
set_option linter.unusedSimpArgs false
open Go.RowKit
/-- A pair of clusters: the program's block and state, the document's. -/
structure Cp where
  x : Nat
  dx : Wd
  y : Nat
  dy : Wd
def ptrX : Option Cp → Option Addr
  | none => none
  | some p => some ⟨p.x, 0, none⟩
def ptrY : Option Cp → Option Addr
  | none => none
  | some p => some ⟨p.y, 0, none⟩
def pairRow (p : Option Cp) : List Value := [.pointer (ptrX p), .pointer (ptrY p)]
def pairCells (l : List (Option Cp)) : List Value := l.flatMap pairRow
theorem pairCells_append (l m : List (Option Cp)) : pairCells (l ++ m) = pairCells l ++ pairCells m := by simp [pairCells]
theorem pairCells_set : ∀ (l : List (Option Cp)) (i : Nat) (p q : Option Cp), l[i]? = some p → ptrX q = ptrX p → ptrY q = ptrY p → pairCells (l.set i q) = pairCells l
  | [], i, p, q, h, _, _ => by simp at h
  | a :: l, 0, p, q, h, hx, hy => by
    simp at h; subst h
    simp [pairCells, pairRow, hx, hy]
  | a :: l, i + 1, p, q, h, hx, hy => by
    have := pairCells_set l i p q (by simpa using h) hx hy
    simp only [pairCells] at this
    simp [pairCells, this]
def Of (col : Nat → Option Nat) (c : Nat) : Nat → Prop := fun k => col k = some c
def paint (col : Nat → Option Nat) (w : World) (c : Nat) : Nat → Option Nat := fun k => if k < w.heap.size then col k else some c
theorem paint_old {col : Nat → Option Nat} {w : World} {c k : Nat} (h : k < w.heap.size) : paint col w c k = col k := by simp [paint, h]
theorem paint_new {col : Nat → Option Nat} {w : World} {c k : Nat} (h : w.heap.size ≤ k) : paint col w c k = some c := by simp [paint]; omega
theorem paint_ext {col : Nat → Option Nat} {w : World} {c k : Nat} (h : Ext (Of col c) w k) : Of (paint col w c) c k := by
  by_cases hk : k < w.heap.size
  · rcases h with h | h
    · show paint col w c k = _; rw [paint_old hk]; exact h
    · omega
  · exact paint_new (by omega)
section
variable {R : World → (Nat → Prop) → Nat → Wd → Prop} {fn : Cl → Nat} {fm fw : Nat} {okc : Cl → Prop}
/-- Behind a call of the part c all other parts are as they were. -/
theorem SideOn.keep (s : SideOn R fn fm fw okc) {w w1 : World} {col : Nat → Option Nat} {c c' b : Nat} {d : Wd} (h : R w (Of col c') b d) (hne : c' ≠ c) (hf : Fr (Of col c) w w1) : R w1 (Of (paint col w c) c') b d := by
  have h1 : R w (Of (paint col w c) c') b d := s.mono h fun k hk e => by show paint col w c k = _; rw [paint_old hk]; exact e
  refine s.same h1 fun k hk hl => hf.block k hl fun e => ?_
  have e1 : paint col w c k = some c' := hk
  rw [paint_old hl] at e1
  have e2 : col k = some c := e
  rw [e1] at e2
  exact hne (by simpa using e2)
theorem SideOn.mine (s : SideOn R fn fm fw okc) {w w1 : World} {col : Nat → Option Nat} {c b : Nat} {d : Wd} (h : R w1 (Ext (Of col c) w) b d) : R w1 (Of (paint col w c) c) b d := s.mono h fun k _ e => paint_ext e
/-- The whole game. -/
structure Game (R : World → (Nat → Prop) → Nat → Wd → Prop) (B : Nat) (w : World) (col : Nat → Option Nat) (G : Nat) (av lv : Value) (ps : List (Option Cp)) (bks : List Bk) : Prop where
  base : B ≤ w.heap.size
  low : ∀ k, k < B → col k = none
  g : GRep w (Of col 0) G av lv bks
  all : w.ownsRow 0 78 2 av ps.length (pairCells ps)
  allS : ∀ g, av.ownBlock = some g → Of col 1 g
  xs : ∀ (i : Nat) (p : Cp), ps[i]? = some (some p) → R w (Of col (2 * i + 2)) p.x p.dx ∧ ROk p.dx
  ys : ∀ (i : Nat) (p : Cp), ps[i]? = some (some p) → DocR w (Of col (2 * i + 3)) p.y p.dy ∧ ROk p.dy
variable {B : Nat} {w w1 : World} {col : Nat → Option Nat} {G : Nat} {av lv : Value} {ps : List (Option Cp)} {bks : List Bk}
theorem Game.low' (h : Game R B w col G av lv ps bks) (c : Nat) : ∀ k, k < B → paint col w c k = none := fun k hk => by
  rw [paint_old (Nat.lt_of_lt_of_le hk h.base)]; exact h.low k hk
theorem Game.below (h : Game R B w col G av lv ps bks) {c : Nat} (hf : Fr (Of col c) w w1) : Below B w w1 :=
  ⟨hf.os, hf.tape, hf.output, hf.size, fun k hk => hf.block k (Nat.lt_of_lt_of_le hk h.base) fun e => by
    have e2 : col k = some c := e
    rw [h.low k hk] at e2; simp at e2⟩
theorem GRep.keep {c : Nat} (h : GRep w (Of col 0) G av lv bks) (hne : c ≠ 0) (hf : Fr (Of col c) w w1) : GRep w1 (Of (paint col w c) 0) G av lv bks := by
  have same : ∀ k, k < w.heap.size → Of col 0 k → w1.heap[k]? = w.heap[k]? := fun k hk e => hf.block k hk fun e2 => by
    have e3 : col k = some 0 := e
    have e4 : col k = some c := e2
    rw [e3] at e4; simp at e4; omega
  refine h.same2 (fun q hq e => by show paint col w c q = _; rw [paint_old hq]; exact e) (same G (Array.getElem?_eq_some_iff.1 h.blk).1 h.inG) (fun g hg => same g (ownsRow_lt h.lists hg) (h.listS g hg)) fun x hx g hg => ?_
  obtain ⟨hs, cs, hc⟩ := h.okS x hx g hg
  exact same g (Array.getElem?_eq_some_iff.1 hc).1 hs
theorem all_keep {c : Nat} (hne : c ≠ 1) (hall : w.ownsRow 0 78 2 av ps.length (pairCells ps)) (hS : ∀ g, av.ownBlock = some g → Of col 1 g) (hf : Fr (Of col c) w w1) :
    w1.ownsRow 0 78 2 av ps.length (pairCells ps) ∧ ∀ g, av.ownBlock = some g → Of (paint col w c) 1 g :=
  ⟨ownsRow_same hall fun g hg hl => hf.block g hl fun e => by
      have e3 : col g = some 1 := hS g hg
      have e4 : col g = some c := e
      rw [e3] at e4; simp at e4; omega,
   fun g hg => by show paint col w c g = _; rw [paint_old (ownsRow_lt hall hg)]; exact hS g hg⟩
/-- A call of the program's cluster number i. -/
theorem Game.callX (s : SideOn R fn fm fw okc) (h : Game R B w col G av lv ps bks) {i : Nat} {p : Cp} (hi : ps[i]? = some (some p)) {d' : Wd} (hR : R w1 (Ext (Of col (2 * i + 2)) w) p.x d') (hok : ROk d') (hf : Fr (Of col (2 * i + 2)) w w1) :
    Game R B w1 (paint col w (2 * i + 2)) G av lv (ps.set i (some { p with dx := d' })) bks := by
  obtain ⟨a1, a2⟩ := all_keep (by omega) h.all h.allS hf
  have e := pairCells_set ps i (some p) (some { p with dx := d' }) hi rfl rfl
  refine { base := Nat.le_trans h.base hf.size, low := h.low' _, g := h.g.keep (by omega) hf, all := by rw [e, List.length_set]; exact a1, allS := a2, xs := fun j q hq => ?_, ys := fun j q hq => ?_ }
  · rw [List.getElem?_set] at hq
    by_cases e : i = j
    · subst e
      have hl := (List.getElem?_eq_some_iff.1 hi).1
      simp [hl] at hq
      subst hq
      exact ⟨s.mine hR, hok⟩
    · rw [if_neg e] at hq
      exact ⟨s.keep (h.xs j q hq).1 (by omega) hf, (h.xs j q hq).2⟩
  · rw [List.getElem?_set] at hq
    by_cases e : i = j
    · subst e
      have hl := (List.getElem?_eq_some_iff.1 hi).1
      simp [hl] at hq
      subst hq
      exact ⟨docSide.keep (h.ys i p hi).1 (by omega) hf, (h.ys i p hi).2⟩
    · rw [if_neg e] at hq
      exact ⟨docSide.keep (h.ys j q hq).1 (by omega) hf, (h.ys j q hq).2⟩
theorem Game.callY (s : SideOn R fn fm fw okc) (h : Game R B w col G av lv ps bks) {i : Nat} {p : Cp} (hi : ps[i]? = some (some p)) {d' : Wd} (hR : DocR w1 (Ext (Of col (2 * i + 3)) w) p.y d') (hok : ROk d') (hf : Fr (Of col (2 * i + 3)) w w1) :
    Game R B w1 (paint col w (2 * i + 3)) G av lv (ps.set i (some { p with dy := d' })) bks := by
  obtain ⟨a1, a2⟩ := all_keep (by omega) h.all h.allS hf
  have e := pairCells_set ps i (some p) (some { p with dy := d' }) hi rfl rfl
  refine { base := Nat.le_trans h.base hf.size, low := h.low' _, g := h.g.keep (by omega) hf, all := by rw [e, List.length_set]; exact a1, allS := a2, xs := fun j q hq => ?_, ys := fun j q hq => ?_ }
  · rw [List.getElem?_set] at hq
    by_cases e : i = j
    · subst e
      have hl := (List.getElem?_eq_some_iff.1 hi).1
      simp [hl] at hq
      subst hq
      exact ⟨s.keep (h.xs i p hi).1 (by omega) hf, (h.xs i p hi).2⟩
    · rw [if_neg e] at hq
      exact ⟨s.keep (h.xs j q hq).1 (by omega) hf, (h.xs j q hq).2⟩
  · rw [List.getElem?_set] at hq
    by_cases e : i = j
    · subst e
      have hl := (List.getElem?_eq_some_iff.1 hi).1
      simp [hl] at hq
      subst hq
      exact ⟨docSide.mine hR, hok⟩
    · rw [if_neg e] at hq
      exact ⟨docSide.keep (h.ys j q hq).1 (by omega) hf, (h.ys j q hq).2⟩
/-- The game's own memory has turned. -/
theorem Game.turned (s : SideOn R fn fm fw okc) (h : Game R B w col G av lv ps bks) {lv' : Value} {bks' : List Bk} (hg : GRep w1 (Ext (Of col 0) w) G av lv' bks') (hf : Fr (Of col 0) w w1) : Game R B w1 (paint col w 0) G av lv' ps bks' := by
  obtain ⟨a1, a2⟩ := all_keep (by omega) h.all h.allS hf
  exact { base := Nat.le_trans h.base hf.size, low := h.low' _, g := hg.mono fun q _ e => paint_ext e, all := a1, allS := a2
          xs := fun j q hq => ⟨s.keep (h.xs j q hq).1 (by omega) hf, (h.xs j q hq).2⟩, ys := fun j q hq => ⟨docSide.keep (h.ys j q hq).1 (by omega) hf, (h.ys j q hq).2⟩ }
theorem Game.quiet (s : SideOn R fn fm fw okc) (h : Game R B w col G av lv ps bks) (hb : Below w.heap.size w w1) : Game R B w1 (paint col w 0) G av lv ps bks :=
  h.turned s ((h.g.same fun k _ hk => hb.block k hk).mono fun k _ e => Or.inl e) (Fr.below hb)
def Cl.res (c : Cl) : Option Wd → Value
  | none => c.nilAns
  | some d => c.ans d
def nextX (c : Cl) : Option Cp → Option Cp
  | none => none
  | some p => some { p with dx := c.next p.dx }
def nextY (c : Cl) : Option Cp → Option Cp
  | none => none
  | some p => some { p with dy := c.next p.dy }
def dX : Option Cp → Option Wd
  | none => none
  | some p => some p.dx
def dY : Option Cp → Option Wd
  | none => none
  | some p => some p.dy
theorem set_self {α : Type} : ∀ (l : List α) (i : Nat) (a : α), l[i]? = some a → l.set i a = l
  | [], i, a, h => by simp at h
  | b :: l, 0, a, h => by simp at h; subst h; rfl
  | b :: l, i + 1, a, h => by simp [set_self l i a (by simpa using h)]
/-- What the game owns is as it was. -/
structure Still (w : World) (col : Nat → Option Nat) (w' : World) (col' : Nat → Option Nat) : Prop where
  size : w.heap.size ≤ w'.heap.size
  colk : ∀ k, k < w.heap.size → col' k = col k
  game : ∀ k, k < w.heap.size → Of col 0 k → w'.heap[k]? = w.heap[k]?
theorem Still.trans {w w1 w2 : World} {c c1 c2 : Nat → Option Nat} (h : Still w c w1 c1) (k : Still w1 c1 w2 c2) : Still w c w2 c2 :=
  ⟨Nat.le_trans h.size k.size, fun i hi => (k.colk i (Nat.lt_of_lt_of_le hi h.size)).trans (h.colk i hi), fun i hi e =>
    (k.game i (Nat.lt_of_lt_of_le hi h.size) ((h.colk i hi).trans e)).trans (h.game i hi e)⟩
theorem Still.below {w w1 : World} {c : Nat → Option Nat} {n : Nat} (hb : Below w.heap.size w w1) : Still w c w1 (paint c w n) :=
  ⟨hb.size, fun k hk => paint_old hk, fun k hk _ => hb.block k hk⟩
theorem Still.fr {w w1 : World} {c : Nat → Option Nat} {n : Nat} (hn : n ≠ 0) (hb : Fr (Of c n) w w1) : Still w c w1 (paint c w n) :=
  ⟨hb.size, fun k hk => paint_old hk, fun k hk e => hb.block k hk fun e2 => by
    have e3 : c k = some 0 := e
    have e4 : c k = some n := e2
    rw [e3] at e4; simp at e4; omega⟩
theorem Game.x (s : SideOn R fn fm fw okc) (h : Game R B w col G av lv ps bks) {i : Nat} {p : Option Cp} (hi : ps[i]? = some p) (c : Cl) (hc : c.fits) (hcc : okc c) :
    Calls Try.prog (fn c) (c.args (.pointer (ptrX p))) w fun e w' => e = .returned (c.res (dX p)) ∧ Below B w w' ∧ ∃ col', Still w col w' col' ∧ Game R B w' col' G av lv (ps.set i (nextX c p)) bks := by
  cases p with
  | none =>
    refine (s.nil c hc hcc w).mono fun e w' ⟨he, hb⟩ => ⟨he, hb.mono h.base, paint col w 0, Still.below hb, ?_⟩
    show Game R B w' (paint col w 0) G av lv (ps.set i none) bks
    rw [set_self ps i none hi]
    exact h.quiet s hb
  | some p =>
    exact (s.call (h.xs i p hi).1 (h.xs i p hi).2 c hc hcc).mono fun e w' ⟨he, hR, hf⟩ => ⟨he, h.below hf, _, Still.fr (by omega) hf, h.callX s hi hR ((h.xs i p hi).2.cl c) hf⟩
theorem Game.y (s : SideOn R fn fm fw okc) (h : Game R B w col G av lv ps bks) {i : Nat} {p : Option Cp} (hi : ps[i]? = some p) (c : Cl) (hc : c.fits) :
    Calls Try.prog (fnDoc c) (c.args (.pointer (ptrY p))) w fun e w' => e = .returned (c.res (dY p)) ∧ Below B w w' ∧ ∃ col', Still w col w' col' ∧ Game R B w' col' G av lv (ps.set i (nextY c p)) bks := by
  cases p with
  | none =>
    refine (docSide.nil c hc trivial w).mono fun e w' ⟨he, hb⟩ => ⟨he, hb.mono h.base, paint col w 0, Still.below hb, ?_⟩
    show Game R B w' (paint col w 0) G av lv (ps.set i none) bks
    rw [set_self ps i none hi]
    exact h.quiet s hb
  | some p =>
    exact (docSide.call (h.ys i p hi).1 (h.ys i p hi).2 c hc trivial).mono fun e w' ⟨he, hR, hf⟩ => ⟨he, h.below hf, _, Still.fr (by omega) hf, h.callY s hi hR ((h.ys i p hi).2.cl c) hf⟩
/-- Both sides of each pair are in the same state. -/
def Eqs (ps : List (Option Cp)) : Prop := ∀ p, some p ∈ ps → p.dx = p.dy
/-- First the one side, then the other. -/
structure Post (R : World → (Nat → Prop) → Nat → Wd → Prop) (B : Nat) (w : World) (G : Nat) (av lv : Value) (n m : Nat) (w' : World) : Prop where
  bel : Below B w w'
  game : ∃ col' lv' ps' bks', Game R B w' col' G av lv' ps' bks' ∧ Eqs ps' ∧ ps'.length = n ∧ bks'.length ≤ m
theorem Game.xy (s : SideOn R fn fm fw okc) (h : Game R B w col G av lv ps bks) (he : Eqs ps) {i : Nat} {p : Option Cp} (hi : ps[i]? = some p) (c : Cl) (hc : c.fits) (hcc : okc c) :
    Calls Try.prog (fn c) (c.args (.pointer (ptrX p))) w fun e w' => e = .returned (c.res (dX p)) ∧ w.heap.size ≤ w'.heap.size ∧ (∀ k, k < w.heap.size → Of col 0 k → w'.heap[k]? = w.heap[k]?) ∧
      ∀ w1, Below w'.heap.size w' w1 → Calls Try.prog (fnDoc c) (c.args (.pointer (ptrY p))) w1 fun e w2 => e = .returned (c.res (dX p)) ∧ w1.heap.size ≤ w2.heap.size ∧ (∀ k, w'.heap.size ≤ k → k < w1.heap.size → w2.heap[k]? = w1.heap[k]?) ∧
        Post R B w G av lv ps.length bks.length w2 := by
  refine (h.x s hi c hc hcc).mono fun e w' ⟨h1, h2, col', hst, h3⟩ => ⟨h1, hst.size, hst.game, fun w1 hw1 => ?_⟩
  have hl := (List.getElem?_eq_some_iff.1 hi).1
  have hi2 : (ps.set i (nextX c p))[i]? = some (nextX c p) := by simp [hl]
  have hp : ptrY (nextX c p) = ptrY p := by cases p <;> rfl
  have hd : dY (nextX c p) = dX p := by
    cases p with
    | none => rfl
    | some p => exact congrArg some (he p (List.mem_of_getElem? hi)).symm
  have := (h3.quiet s hw1).y s hi2 c hc
  rw [hp, hd] at this
  refine this.mono fun e w2 ⟨k1, k2, col2, hst2, k3⟩ => ⟨k1, hst2.size, fun k hk hk2 => hst2.game k hk2 (paint_new hk), (h2.trans (hw1.mono h3.base)).trans k2, col2, lv, _, bks, k3, ?_, by simp, Nat.le_refl _⟩
  rw [List.set_set]
  intro q hq
  rcases List.mem_or_eq_of_mem_set hq with hq | hq
  · exact he q hq
  · cases p with
    | none => simp [nextX, nextY] at hq
    | some p =>
      simp only [nextX, nextY, Option.some.injEq] at hq
      subst hq
      show c.next p.dx = c.next p.dy
      rw [he p (List.mem_of_getElem? hi)]
/-- The same, where the caller's own pair and step lie in two new blocks. -/
theorem Post.back {n m : Nat} {w0 w2 : World} (h : Post R B w0 G av lv n m w2) (hb : Below B w w0) : Post R B w G av lv n m w2 := ⟨hb.trans h.bel, h.game⟩
theorem Post.more (s : SideOn R fn fm fw okc) {n m : Nat} {w2 w3 : World} (h : Post R B w G av lv n m w2) (hb : Below w2.heap.size w2 w3) : Post R B w G av lv n m w3 := by
  obtain ⟨h1, col', lv', ps', bks', h2, h3⟩ := h
  exact ⟨h1.trans (hb.mono h2.base), _, _, _, _, h2.quiet s hb, h3⟩
theorem Game.two (s : SideOn R fn fm fw okc) (h : Game R B w col G av lv ps bks) (o1 o2 : Obj) : Game R B ((w.alloc o1).alloc o2) (paint col w 0) G av lv ps bks ∧ Below B w ((w.alloc o1).alloc o2) := by
  have hb : Below w.heap.size w ((w.alloc o1).alloc o2) := ((Below.refl _ _).alloc (Nat.le_refl _) _).alloc (by simp) _
  exact ⟨h.quiet s hb, hb.mono h.base⟩
theorem Game.xyAt (s : SideOn R fn fm fw okc) (h : Game R B w col G av lv ps bks) (he : Eqs ps) {i : Nat} {p : Option Cp} (hi : ps[i]? = some p) (c : Cl) (hc : c.fits) (hcc : okc c) (o1 o2 : Obj) :
    Calls Try.prog (fn c) (c.args (.pointer (ptrX p))) ((w.alloc o1).alloc o2) fun e w' => e = .returned (c.res (dX p)) ∧ w.heap.size + 2 ≤ w'.heap.size ∧ w'.heap[w.heap.size]? = some o1 ∧ w'.heap[w.heap.size + 1]? = some o2 ∧
      ∀ w1, Below w'.heap.size w' w1 → Calls Try.prog (fnDoc c) (c.args (.pointer (ptrY p))) w1 fun e w2 => e = .returned (c.res (dX p)) ∧ w1.heap.size ≤ w2.heap.size ∧ (∀ k, w'.heap.size ≤ k → k < w1.heap.size → w2.heap[k]? = w1.heap[k]?) ∧
        Post R B w G av lv ps.length bks.length w2 := by
  obtain ⟨h0, hb⟩ := h.two s o1 o2
  refine (h0.xy s he hi c hc hcc).mono fun e w' ⟨h1, hs, h2, h3⟩ => ⟨h1, by simpa using hs, ?_, ?_, fun w1 hw1 => (h3 w1 hw1).mono fun e w2 ⟨k1, ks, k3, k2⟩ => ⟨k1, ks, k3, k2.back hb⟩⟩
  · rw [h2 w.heap.size (by simp; omega) (paint_new (Nat.le_refl _))]
    exact heap_alloc2_old w o1 o2
  · rw [h2 (w.heap.size + 1) (by simp) (paint_new (by omega))]
    exact heap_alloc2_new w o1 o2
end
end Go.Proofs.Ythpjcmilfipbaaa
