/- My own text. Memory: frames over a set of blocks, and how a cluster lies in memory. -/
import Derived.WalkKit
import Derived.Deep.AppendLies
import Derived.Test.YthpfgmdffendoaaPure
namespace Go.Proofs.Ythpfgmdffendoaa
set_option linter.unusedVariables false
set_option linter.unusedSimpArgs false
open Go.RowKit

theorem orR {a b c : Prop} (h : a ∨ b) (f : b → c) : a ∨ c := h.elim Or.inl fun e => Or.inr (f e)
/-- Nothing that was there has turned but for the blocks of S. -/
structure Fr (S : Nat → Prop) (w w' : World) : Prop where
  os : w'.os = w.os
  tape : w'.tape = w.tape
  output : w'.output = w.output
  size : w.heap.size ≤ w'.heap.size
  block : ∀ k, k < w.heap.size → ¬ S k → w'.heap[k]? = w.heap[k]?
def Ext (S : Nat → Prop) (w : World) : Nat → Prop := fun k => S k ∨ w.heap.size ≤ k
def No : Nat → Prop := fun _ => False
theorem Fr.refl (S : Nat → Prop) (w : World) : Fr S w w := ⟨rfl, rfl, rfl, Nat.le_refl _, fun _ _ _ => rfl⟩
theorem Fr.trans {S : Nat → Prop} {a b c : World} (h : Fr S a b) (k : Fr (Ext S a) b c) : Fr S a c :=
  ⟨k.os.trans h.os, k.tape.trans h.tape, k.output.trans h.output, Nat.le_trans h.size k.size, fun i hi hs =>
    (k.block i (Nat.lt_of_lt_of_le hi h.size) (fun e => by rcases e with e | e; exact hs e; omega)).trans (h.block i hi hs)⟩
theorem Fr.mono {S S' : Nat → Prop} {a b : World} (h : Fr S a b) (hs : ∀ k, S k → S' k) : Fr S' a b :=
  ⟨h.os, h.tape, h.output, h.size, fun k hk hn => h.block k hk (fun e => hn (hs k e))⟩
/-- S need only speak of the blocks that were there. -/
theorem Fr.old {S S' : Nat → Prop} {a b : World} (h : Fr S a b) (hs : ∀ k, k < a.heap.size → S k → S' k) : Fr S' a b :=
  ⟨h.os, h.tape, h.output, h.size, fun k hk hn => h.block k hk (fun e => hn (hs k hk e))⟩
theorem Fr.then {S : Nat → Prop} {a b c : World} (h : Fr S a b) (k : Fr S b c) : Fr S a c := h.trans (k.mono fun _ e => Or.inl e)
theorem Fr.drew (S : Nat → Prop) (w : World) : Fr S w w.drew := ⟨rfl, rfl, rfl, Nat.le_refl _, fun _ _ _ => rfl⟩
theorem Fr.alloc (S : Nat → Prop) (w : World) (o : Obj) : Fr S w (w.alloc o) :=
  ⟨rfl, rfl, rfl, by simp, fun k hk _ => Below.heap_alloc _ _ _ hk⟩
theorem Fr.setCell {S : Nat → Prop} (w : World) (p : Addr) (hp : S p.block) (u : Value) : Fr S w (w.setCell p u) :=
  ⟨rfl, rfl, rfl, by simp [World.setCell], fun k _ hk => Below.heap_setCell _ _ _ _ (fun e => hk (e ▸ hp))⟩
theorem Fr.grown {S : Nat → Prop} {w w' : World} {row : Option Nat} (hg : w.grownBy w' row) (hr : ∀ k, row = some k → S k) : Fr S w w' :=
  ⟨hg.os, hg.tape, hg.output, hg.size, fun k hk hn => hg.block k hk (fun e => hn (hr k e.symm))⟩
theorem Fr.below {S : Nat → Prop} {w w' : World} (h : Below w.heap.size w w') : Fr S w w' :=
  ⟨h.os, h.tape, h.output, h.size, fun k hk _ => h.block k hk⟩
theorem Fr.toBelow {S : Nat → Prop} {B : Nat} {w w' : World} (h : Fr S w w') (hB : B ≤ w.heap.size) (hs : ∀ k, S k → B ≤ k) : Below B w w' :=
  ⟨h.os, h.tape, h.output, h.size, fun k hk => h.block k (by omega) (fun e => by have := hs k e; omega)⟩
theorem Ext.sub {S : Nat → Prop} {w w' : World} (h : w.heap.size ≤ w'.heap.size) : ∀ k, Ext (Ext S w) w' k → Ext S w k := by
  intro k hk
  rcases hk with hk | hk
  · exact hk
  · exact Or.inr (by omega)

/-- A row stays owned where its block is as it was. -/
theorem ownsRow_same {w w' : World} {base : Nat} {e : TypeId} {size : Nat} {v : Value} {n : Nat} {xs : List Value} (h : w.ownsRow base e size v n xs)
    (hk : ∀ g, v.ownBlock = some g → g < w.heap.size → w'.heap[g]? = w.heap[g]?) : w'.ownsRow base e size v n xs := by
  refine ⟨h.1, ?_⟩
  rcases h.2 with hn | ⟨g, cap, cur, rfl, hb, hg, rest⟩
  · exact .inl hn
  · exact .inr ⟨g, cap, cur, rfl, hb, by rw [hk g rfl (Array.getElem?_eq_some_iff.1 hg).1]; exact hg, rest⟩
theorem ownsRow_block {w : World} {base : Nat} {e : TypeId} {size : Nat} {v : Value} {n : Nat} {xs : List Value} (h : w.ownsRow base e size v n xs) {g : Nat} (hv : v.ownBlock = some g) :
    ∃ cur, w.heap[g]? = some (.cells cur e (0, 0)) := by
  rcases h.2 with ⟨rfl, _⟩ | ⟨g', cap, cur, rfl, hb, hg, rest⟩
  · simp [Value.ownBlock] at hv
  · simp [Value.ownBlock] at hv; subst hv; exact ⟨cur, hg⟩
theorem ownsRow_lt {w : World} {base : Nat} {e : TypeId} {size : Nat} {v : Value} {n : Nat} {xs : List Value} (h : w.ownsRow base e size v n xs) {g : Nat} (hv : v.ownBlock = some g) : g < w.heap.size :=
  (h.lt g hv).2
/-- The value's shape: nil, or a slice over a row. -/
theorem ownsRow_shape {w : World} {base : Nat} {e : TypeId} {size : Nat} {v : Value} {n : Nat} {xs : List Value} (h : w.ownsRow base e size v n xs) :
    ∃ ao cap, v = .slice ao n cap ∧ n ≤ cap ∧ (∀ a, ao = some a → ∃ g, a = ⟨g, 0, none⟩ ∧ v.ownBlock = some g) ∧ (0 < n → ∃ g, ao = some ⟨g, 0, none⟩) := by
  rcases h.2 with ⟨rfl, rfl⟩ | ⟨g, cap, cur, rfl, hb, hg, hn, _⟩
  · exact ⟨none, 0, rfl, Nat.le_refl _, by simp, by omega⟩
  · exact ⟨some ⟨g, 0, none⟩, cap, rfl, hn, fun a ha => ⟨g, by simpa using ha.symm, rfl⟩, fun _ => ⟨g, rfl⟩⟩
theorem add_at (g j : Nat) : (⟨g, 0, none⟩ : Addr).add j = ⟨g, j, none⟩ := by unfold Addr.add; split <;> simp_all
theorem ownsRow_cell {w : World} {base : Nat} {e : TypeId} {size : Nat} {n cap g : Nat} {xs : List Value} (h : w.ownsRow base e size (.slice (some ⟨g, 0, none⟩) n cap) n xs) (j : Nat) (hj : j < xs.length) :
    w.cell? ⟨g, j, none⟩ = some (xs.getD j undef) := by
  have := h.cells (g := g) rfl j xs[j] (by simp [hj])
  rw [add_at] at this
  rw [this]; simp [hj]
theorem getD_some {α : Type} {l : List α} {j : Nat} {d : α} (hj : j < l.length) : l[j]? = some (l.getD j d) := by simp [hj]

theorem heap_setCell_at (w : World) (b o : Nat) (v : Value) (cs : Array Value) (t : TypeId) (fr : Nat × Nat) (h : w.heap[b]? = some (.cells cs t fr)) :
    (w.setCell ⟨b, o, none⟩ v).heap[b]? = some (.cells (cs.setIfInBounds o v) t fr) := by
  simp [World.setCell, Array.getElem?_modify, h]
def recCells (l : List Rec) : List Value := l.flatMap fun r => [.int .i64 r.p, .int .i64 r.s, .int .i64 r.v]
def epCells (l : List (Nat → Bool)) : List Value := l.flatMap fun f => [.bool (f 0), .bool (f 1), .bool (f 2), .bool (f 3), .bool (f 4)]
def msgRow (x : Msg × Value) : List Value := [.int .i64 x.1.kind, .int .i64 x.1.frm, .int .i64 x.1.to, .int .i64 x.1.epoch, .int .i64 x.1.n, x.2]
def msgCells (l : List (Msg × Value)) : List Value := l.flatMap msgRow

theorem flat_len {α β : Type} (f : α → List β) (s : Nat) (hf : ∀ x, (f x).length = s) : ∀ l : List α, (l.flatMap f).length = l.length * s
  | [] => by simp
  | a :: l => by simp [flat_len f s hf l, hf, Nat.add_mul]; omega
theorem flat_at {α β : Type} (f : α → List β) (s : Nat) (hf : ∀ x, (f x).length = s) : ∀ (l : List α) (k j : Nat) (a : α), l[k]? = some a → j < s → (l.flatMap f)[k * s + j]? = (f a)[j]?
  | [], k, j, a, h, _ => by simp at h
  | x :: l, 0, j, a, h, hj => by
    simp at h; subst h
    simp only [List.flatMap_cons, Nat.zero_mul, Nat.zero_add]
    rw [List.getElem?_append_left (by rw [hf]; exact hj)]
  | x :: l, k + 1, j, a, h, hj => by
    simp only [List.flatMap_cons]
    rw [List.getElem?_append_right (by rw [hf, Nat.add_mul]; omega), hf, show (k + 1) * s + j - s = k * s + j by rw [Nat.add_mul]; omega]
    exact flat_at f s hf l k j a (by simpa using h) hj
theorem recCells_len (l : List Rec) : (recCells l).length = l.length * 3 := flat_len _ 3 (fun _ => rfl) l
theorem epCells_len (l : List (Nat → Bool)) : (epCells l).length = l.length * 5 := flat_len _ 5 (fun _ => rfl) l
theorem msgCells_len (l : List (Msg × Value)) : (msgCells l).length = l.length * 6 := flat_len _ 6 (fun _ => rfl) l
theorem recCells_append (l m : List Rec) : recCells (l ++ m) = recCells l ++ recCells m := by simp [recCells]
theorem msgCells_append (l m : List (Msg × Value)) : msgCells (l ++ m) = msgCells l ++ msgCells m := by simp [msgCells]

/-- A record's three cells in a row that is owned. -/
theorem rec_cells {w : World} {e g n cap : Nat} {l : List Rec} (h : w.ownsRow 0 e 3 (.slice (some ⟨g, 0, none⟩) n cap) n (recCells l)) (k : Nat) (r : Rec) (hk : l[k]? = some r) :
    w.cell? ⟨g, k * 3, none⟩ = some (.int .i64 r.p) ∧ w.cell? ⟨g, k * 3 + 1, none⟩ = some (.int .i64 r.s) ∧ w.cell? ⟨g, k * 3 + 2, none⟩ = some (.int .i64 r.v) := by
  have hc := h.cells (g := g) rfl
  have key : ∀ j u, j < 3 → ([Value.int .i64 r.p, .int .i64 r.s, .int .i64 r.v] : List Value)[j]? = some u → w.cell? ⟨g, k * 3 + j, none⟩ = some u := by
    intro j u hj hu
    have := hc (k * 3 + j) u (by rw [recCells, flat_at _ 3 (fun _ => rfl) l k j r hk hj]; exact hu)
    rwa [add_at] at this
  exact ⟨by simpa using key 0 _ (by omega) rfl, key 1 _ (by omega) rfl, key 2 _ (by omega) rfl⟩
theorem msg_cells {w : World} {e g n cap : Nat} {l : List (Msg × Value)} (h : w.ownsRow 0 e 6 (.slice (some ⟨g, 0, none⟩) n cap) n (msgCells l)) (k : Nat) (x : Msg × Value) (hk : l[k]? = some x) :
    w.cell? ⟨g, k * 6, none⟩ = some (.int .i64 x.1.kind) ∧ w.cell? ⟨g, k * 6 + 1, none⟩ = some (.int .i64 x.1.frm) ∧ w.cell? ⟨g, k * 6 + 2, none⟩ = some (.int .i64 x.1.to) ∧
    w.cell? ⟨g, k * 6 + 3, none⟩ = some (.int .i64 x.1.epoch) ∧ w.cell? ⟨g, k * 6 + 4, none⟩ = some (.int .i64 x.1.n) ∧ w.cell? ⟨g, k * 6 + 5, none⟩ = some x.2 := by
  have hc := h.cells (g := g) rfl
  have key : ∀ j u, j < 6 → (msgRow x)[j]? = some u → w.cell? ⟨g, k * 6 + j, none⟩ = some u := by
    intro j u hj hu
    have := hc (k * 6 + j) u (by rw [msgCells, flat_at _ 6 (fun _ => rfl) l k j x hk hj]; exact hu)
    rwa [add_at] at this
  exact ⟨by simpa using key 0 _ (by omega) rfl, key 1 _ (by omega) rfl, key 2 _ (by omega) rfl, key 3 _ (by omega) rfl, key 4 _ (by omega) rfl, key 5 _ (by omega) rfl⟩
theorem ep_cells {w : World} {e g n cap : Nat} {l : List (Nat → Bool)} (h : w.ownsRow 0 e 5 (.slice (some ⟨g, 0, none⟩) n cap) n (epCells l)) (k : Nat) (f : Nat → Bool) (hk : l[k]? = some f) (j : Nat) (hj : j < 5) :
    w.cell? ⟨g, k * 5 + j, none⟩ = some (.bool (f j)) := by
  have hc := h.cells (g := g) rfl
  have key : ∀ u, ([Value.bool (f 0), .bool (f 1), .bool (f 2), .bool (f 3), .bool (f 4)] : List Value)[j]? = some u → w.cell? ⟨g, k * 5 + j, none⟩ = some u := by
    intro u hu
    have := hc (k * 5 + j) u (by rw [epCells, flat_at _ 5 (fun _ => rfl) l k j f hk hj]; exact hu)
    rwa [add_at] at this
  refine key _ ?_
  match j, hj with
  | 0, _ => rfl
  | 1, _ => rfl
  | 2, _ => rfl
  | 3, _ => rfl
  | 4, _ => rfl

/-- The cluster's own block. -/
structure Cells (cs : Array Value) (n : Nat → Nd) (lv : Nat → Value) (ev uv : Value) : Prop where
  size : cs.size = 52
  up : ∀ k, k < 5 → cs[k * 10]? = some (.bool (n k).up)
  fol : ∀ k, k < 5 → cs[k * 10 + 1]? = some (.int .i64 (n k).follows)
  giv : ∀ k, k < 5 → cs[k * 10 + 2]? = some (.int .i64 (n k).given)
  rol : ∀ k, k < 5 → cs[k * 10 + 3]? = some (.int .i64 (n k).role)
  log : ∀ k, k < 5 → cs[k * 10 + 4]? = some (lv k)
  kno : ∀ k j, k < 5 → j < 5 → cs[k * 10 + 5 + j]? = some (.int .i64 ((n k).known j))
  eps : cs[50]? = some ev
  way : cs[51]? = some uv
/-- A cluster in memory: b its block; S holds all its blocks. -/
structure Rep (w : World) (S : Nat → Prop) (b : Nat) (c : Clu) (lv : Nat → Value) (ev uv : Value) (mv : List (Msg × Value)) : Prop where
  blk : ∃ cs, w.heap[b]? = some (.cells cs 84 (0, 0)) ∧ Cells cs c.nodes lv ev uv
  inb : S b
  logs : ∀ k, k < 5 → w.ownsRow 0 36 3 (lv k) (c.nodes k).log.length (recCells (c.nodes k).log)
  logS : ∀ k g, k < 5 → (lv k).ownBlock = some g → S g
  logD : ∀ k j g, k < 5 → j < 5 → k ≠ j → (lv k).ownBlock = some g → (lv j).ownBlock ≠ some g
  eps : w.ownsRow 0 98 5 ev c.epochs.length (epCells c.epochs)
  epS : ∀ g, ev.ownBlock = some g → S g
  way : w.ownsRow 0 91 6 uv mv.length (msgCells mv)
  wayS : ∀ g, uv.ownBlock = some g → S g
  mvs : mv.map Prod.fst = c.ways
  recs : ∀ x, x ∈ mv → w.ownsRow 0 36 3 x.2 x.1.recs.length (recCells x.1.recs)
  recS : ∀ x g, x ∈ mv → x.2.ownBlock = some g → S g
  recD : ∀ x k g, x ∈ mv → k < 5 → x.2.ownBlock = some g → (lv k).ownBlock ≠ some g
def Has (w : World) (S : Nat → Prop) (b : Nat) (c : Clu) : Prop := ∃ lv ev uv mv, Rep w S b c lv ev uv mv

section
variable {w : World} {S : Nat → Prop} {b : Nat} {c : Clu} {lv : Nat → Value} {ev uv : Value} {mv : List (Msg × Value)}
theorem Rep.cell (h : Rep w S b c lv ev uv mv) : ∃ cs, Cells cs c.nodes lv ev uv ∧ (∀ o, w.cell? ⟨b, o, none⟩ = cs[o]?) ∧ ∀ o, w.frozen? ⟨b, o, none⟩ = false := by
  obtain ⟨cs, hb, hc⟩ := h.blk
  exact ⟨cs, hc, fun o => cell_of_row w b o cs _ _ hb, fun o => by simp [World.frozen?, hb]⟩
theorem Rep.lt (h : Rep w S b c lv ev uv mv) : b < w.heap.size := by
  obtain ⟨cs, hb, _⟩ := h.blk
  exact (Array.getElem?_eq_some_iff.1 hb).1
theorem Rep.ways_len (h : Rep w S b c lv ev uv mv) : mv.length = c.ways.length := by rw [← h.mvs]; simp
theorem Rep.cUp (h : Rep w S b c lv ev uv mv) : ∀ k, k < 5 → w.cell? ⟨b, k * 10, none⟩ = some (.bool (c.nodes k).up) := by
  obtain ⟨cs, hc, hk, _⟩ := h.cell; intro k h5; rw [hk]; exact hc.up k h5
theorem Rep.cFol (h : Rep w S b c lv ev uv mv) : ∀ k, k < 5 → w.cell? ⟨b, k * 10 + 1, none⟩ = some (.int .i64 (c.nodes k).follows) := by
  obtain ⟨cs, hc, hk, _⟩ := h.cell; intro k h5; rw [hk]; exact hc.fol k h5
theorem Rep.cGiv (h : Rep w S b c lv ev uv mv) : ∀ k, k < 5 → w.cell? ⟨b, k * 10 + 2, none⟩ = some (.int .i64 (c.nodes k).given) := by
  obtain ⟨cs, hc, hk, _⟩ := h.cell; intro k h5; rw [hk]; exact hc.giv k h5
theorem Rep.cRol (h : Rep w S b c lv ev uv mv) : ∀ k, k < 5 → w.cell? ⟨b, k * 10 + 3, none⟩ = some (.int .i64 (c.nodes k).role) := by
  obtain ⟨cs, hc, hk, _⟩ := h.cell; intro k h5; rw [hk]; exact hc.rol k h5
theorem Rep.cLog (h : Rep w S b c lv ev uv mv) : ∀ k, k < 5 → w.cell? ⟨b, k * 10 + 4, none⟩ = some (lv k) := by
  obtain ⟨cs, hc, hk, _⟩ := h.cell; intro k h5; rw [hk]; exact hc.log k h5
theorem Rep.cKno (h : Rep w S b c lv ev uv mv) : ∀ k j, k < 5 → j < 5 → w.cell? ⟨b, k * 10 + 5 + j, none⟩ = some (.int .i64 ((c.nodes k).known j)) := by
  obtain ⟨cs, hc, hk, _⟩ := h.cell; intro k j h5 hj; rw [hk]; exact hc.kno k j h5 hj
theorem Rep.cEps (h : Rep w S b c lv ev uv mv) : w.cell? ⟨b, 50, none⟩ = some ev := by
  obtain ⟨cs, hc, hk, _⟩ := h.cell; rw [hk]; exact hc.eps
theorem Rep.cWay (h : Rep w S b c lv ev uv mv) : w.cell? ⟨b, 51, none⟩ = some uv := by
  obtain ⟨cs, hc, hk, _⟩ := h.cell; rw [hk]; exact hc.way
theorem Rep.free (h : Rep w S b c lv ev uv mv) : ∀ o, w.frozen? ⟨b, o, none⟩ = false := by
  obtain ⟨cs, _, _, hf⟩ := h.cell; exact hf
/-- The cluster is there in every world that has its blocks. -/
theorem Rep.same {w' : World} (h : Rep w S b c lv ev uv mv) (hk : ∀ k, S k → k < w.heap.size → w'.heap[k]? = w.heap[k]?) : Rep w' S b c lv ev uv mv := by
  obtain ⟨cs, hb, hc⟩ := h.blk
  exact { blk := ⟨cs, by rw [hk b h.inb h.lt]; exact hb, hc⟩, inb := h.inb
          logs := fun k h5 => ownsRow_same (h.logs k h5) fun g hg hl => hk g (h.logS k g h5 hg) hl
          logS := h.logS, logD := h.logD
          eps := ownsRow_same h.eps fun g hg hl => hk g (h.epS g hg) hl
          epS := h.epS
          way := ownsRow_same h.way fun g hg hl => hk g (h.wayS g hg) hl
          wayS := h.wayS, mvs := h.mvs
          recs := fun x hx => ownsRow_same (h.recs x hx) fun g hg hl => hk g (h.recS x g hx hg) hl
          recS := h.recS, recD := h.recD }
theorem Rep.mono {S' : Nat → Prop} (h : Rep w S b c lv ev uv mv) (hs : ∀ k, k < w.heap.size → S k → S' k) : Rep w S' b c lv ev uv mv :=
  { blk := h.blk, inb := hs _ h.lt h.inb, logs := h.logs, logS := fun k g h5 hg => hs g (ownsRow_lt (h.logs k h5) hg) (h.logS k g h5 hg), logD := h.logD, eps := h.eps
    epS := fun g hg => hs g (ownsRow_lt h.eps hg) (h.epS g hg), way := h.way, wayS := fun g hg => hs g (ownsRow_lt h.way hg) (h.wayS g hg), mvs := h.mvs, recs := h.recs
    recS := fun x g hx hg => hs g (ownsRow_lt (h.recs x hx) hg) (h.recS x g hx hg), recD := h.recD }
theorem Rep.below {w' : World} (h : Rep w S b c lv ev uv mv) (hb : Below w.heap.size w w') : Rep w' S b c lv ev uv mv := h.same fun k _ hk => hb.block k hk
theorem Rep.alloc (h : Rep w S b c lv ev uv mv) (o : Obj) : Rep (w.alloc o) S b c lv ev uv mv := h.same fun k _ hk => Below.heap_alloc _ _ _ hk
theorem Rep.drew (h : Rep w S b c lv ev uv mv) : Rep w.drew S b c lv ev uv mv := h.same fun k _ hk => rfl
theorem Rep.fr {S' : Nat → Prop} {w' : World} (h : Rep w S b c lv ev uv mv) (hf : Fr S' w w') (hd : ∀ k, S k → ¬ S' k) : Rep w' S b c lv ev uv mv :=
  h.same fun k hs hk => hf.block k hk (hd k hs)
/-- The blocks' element types tell them apart. -/
theorem ne_of_type {g k : Nat} {c1 c2 : Array Value} {e1 e2 : TypeId} {f1 f2 : Nat × Nat} (h1 : w.heap[g]? = some (.cells c1 e1 f1)) (h2 : w.heap[k]? = some (.cells c2 e2 f2)) (h : e1 ≠ e2) : g ≠ k := by
  intro e; subst e; rw [h1] at h2; simp at h2; exact h h2.2.1
end
end Go.Proofs.Ythpfgmdffendoaa
