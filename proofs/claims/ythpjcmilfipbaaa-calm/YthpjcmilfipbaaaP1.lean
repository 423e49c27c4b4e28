/- My own text: several texts in one. -/
import Derived.WalkKit
import Derived.Deep.AppendLies
import Derived.Test.YthpjcmilfipbaaaRows
import Derived.WalkSpells
import Derived.WalkLawsBesides
import Derived.Deep.RegionHeld3
import Derived.Deep.QuietTactic
import Derived.BigQuiet
import Derived.Deep.RegionLaw
namespace Go.Proofs.Ythpjcmilfipbaaa
set_option linter.unusedVariables false
set_option linter.unusedSimpArgs false
structure Rec where
  p : Int
  s : Int
  v : Int
structure Msg where
  kind : Int
  frm : Int
  to : Int
  epoch : Int
  n : Int
  recs : List Rec
structure Nd where
  up : Bool
  follows : Int
  given : Int
  role : Int
  log : List Rec
  has : Nat → Bool
  known : Nat → Int
structure Era where
  members : Int
  leader : Int
  before : Int
def era0 : Era := ⟨0, 0, 0⟩
structure Clu where
  nodes : Nat → Nd
  epochs : List Era
  active : Int
  ways : List Msg
def upd {α : Type} (f : Nat → α) (k : Nat) (v : α) : Nat → α := fun i => if i = k then v else f i
theorem upd_same {α : Type} (f : Nat → α) (k : Nat) (v : α) : upd f k v k = v := by simp [upd]
theorem upd_other {α : Type} (f : Nat → α) (k j : Nat) (v : α) (h : j ≠ k) : upd f k v j = f j := by simp [upd, h]
/-- What c modulo n is, in the statements' own way. -/
def pickN (c n : Int) : Int := if c < 0 then (-(c + 1)).tmod n else c.tmod n
theorem pickN_bd (c n : Int) (hn : 0 < n) : 0 ≤ pickN c n ∧ pickN c n < n := by
  unfold pickN
  split
  · rw [Int.tmod_eq_emod_of_nonneg (by omega)]
    exact ⟨Int.emod_nonneg _ (by omega), Int.emod_lt_of_pos _ hn⟩
  · rw [Int.tmod_eq_emod_of_nonneg (by omega)]
    exact ⟨Int.emod_nonneg _ (by omega), Int.emod_lt_of_pos _ hn⟩
def nodeB (k : Int) : Bool := decide (0 ≤ k) && decide (k < 5)
def recB (p s v : Int) : Bool := decide (1 ≤ p) && decide (p ≤ 4) && (decide (1 ≤ s) && decide (s ≤ 99)) && (decide (0 ≤ v) && decide (v ≤ 255))
def offGo (p s : Int) : List Rec → Nat → Int
  | [], _ => -1
  | r :: l, k => if r.p = p ∧ r.s = s then k else offGo p s l (k + 1)
def offsetOf (l : List Rec) (p s : Int) : Int := offGo p s l 0
theorem offGo_bd (p s : Int) : ∀ (l : List Rec) (k : Nat), -1 ≤ offGo p s l k ∧ offGo p s l k < k + l.length ∧ (offGo p s l k < 0 ∨ (k : Int) ≤ offGo p s l k)
  | [], k => by simp [offGo]; omega
  | r :: l, k => by
    unfold offGo
    have := offGo_bd p s l (k + 1)
    simp only [List.length_cons]
    split <;> omega
theorem offsetOf_bd (l : List Rec) (p s : Int) : -1 ≤ offsetOf l p s ∧ offsetOf l p s < l.length := by
  have := offGo_bd p s l 0
  unfold offsetOf
  omega
/-- What the first k records say: none of them is it. -/
theorem offGo_skip (p s : Int) (l : List Rec) : ∀ (k i : Nat), (∀ j r, j < k → l[j]? = some r → ¬ (r.p = p ∧ r.s = s)) → offGo p s l i = offGo p s (l.drop k) (i + k) := by
  intro k
  induction k generalizing l with
  | zero => intro i _; simp
  | succ k ih =>
    intro i h
    cases l with
    | nil => simp [offGo]
    | cons r l =>
      have h0 := h 0 r (by omega) (by simp)
      have := ih l (i + 1) (fun j x hj hx => h (j + 1) x (by omega) (by simpa using hx))
      simp only [offGo, h0, if_false, List.drop_succ_cons]
      rw [this]; congr 1; omega
theorem offsetOf_at (l : List Rec) (p s : Int) (k : Nat) (r : Rec) (h : ∀ j r, j < k → l[j]? = some r → ¬ (r.p = p ∧ r.s = s)) (hr : l[k]? = some r) (he : r.p = p ∧ r.s = s) : offsetOf l p s = k := by
  unfold offsetOf
  rw [offGo_skip p s l k 0 h]
  have : l.drop k = r :: l.drop (k + 1) := by
    rw [List.getElem?_eq_some_iff] at hr
    obtain ⟨hl, rfl⟩ := hr
    simp
  rw [this, offGo, if_pos he]; simp
theorem offsetOf_none (l : List Rec) (p s : Int) (h : ∀ j r, j < l.length → l[j]? = some r → ¬ (r.p = p ∧ r.s = s)) : offsetOf l p s = -1 := by
  unfold offsetOf
  rw [offGo_skip p s l l.length 0 h]; simp [offGo]
def epochOf (c : Clu) (e : Int) : Era := if e < 1 ∨ (c.epochs.length : Int) < e then era0 else c.epochs.getD (e - 1).toNat era0
def amongB (members node : Int) : Bool := nodeB node && decide (members / 2 ^ node.toNat % 2 = 1)
def isOther (c : Clu) (node other : Nat) : Bool := if other = node then false else amongB (epochOf c (c.nodes node).follows).members other
def doneTo (c : Clu) (node : Nat) : Nat → Int
  | 0 => (c.nodes node).log.length
  | j + 1 => if (c.nodes node).known j < doneTo c node j ∧ isOther c node j = true then (c.nodes node).known j else doneTo c node j
def done (c : Clu) (node : Nat) : Int := doneTo c node 5
def send (c : Clu) (m : Msg) : Clu := if 50 ≤ c.ways.length then c else { c with ways := c.ways ++ [m] }
def sendAppend (c : Clu) (node other : Nat) (at_ : Int) : Clu :=
  if at_ < 0 ∨ ((c.nodes node).log.length : Int) ≤ at_ then c
  else send c { kind := 8, frm := node, to := other, epoch := (c.nodes node).follows, n := at_, recs := ((c.nodes node).log.drop at_.toNat).take 1 }
def sendFirst (c : Clu) (node other : Nat) : Clu := sendAppend c node other ((c.nodes node).known other)
def lackTo (c : Clu) (node : Nat) : Nat → Clu
  | 0 => c
  | j + 1 => if isOther (lackTo c node j) node j then sendFirst (lackTo c node j) node j else lackTo c node j
def lack (c : Clu) (node : Nat) : Clu := lackTo c node 5
def putLog (c : Clu) (node : Nat) (l : List Rec) : Clu := { c with nodes := upd c.nodes node { c.nodes node with log := l } }
def writeTo (c : Clu) (node : Nat) (at_ : Int) : Nat → Clu
  | 0 => c
  | j + 1 => if isOther (writeTo c node at_ j) node j then sendAppend (writeTo c node at_ j) node j at_ else writeTo c node at_ j
def write (c : Clu) (node : Nat) (r : Rec) : Clu := writeTo (putLog c node ((c.nodes node).log ++ [r])) node ((c.nodes node).log.length) 5
def refNode (c : Clu) (node : Int) : Int := if nodeB node then (if (c.nodes node.toNat).up then 0 else 3) else 2
def refWrite (c : Clu) (node p s v : Int) : Int :=
  if refNode c node ≠ 0 then refNode c node else if recB p s v then (if (c.nodes node.toNat).role = 3 then 0 else 6) else 5
def produce (c : Clu) (node p s v : Int) : Clu × Int × Bool × Int :=
  if refWrite c node p s v ≠ 0 then (c, 0, false, refWrite c node p s v)
  else
    let k := node.toNat
    let l := (c.nodes k).log
    if 0 ≤ offsetOf l p s then
      (if offsetOf l p s < done c k then c else lack c k, offsetOf l p s, decide (offsetOf l p s < done c k), 0)
    else if 1 < s ∧ offsetOf l p (s - 1) < 0 then (c, 0, false, 7)
    else if 60 ≤ l.length then (c, 0, false, 8)
    else (write c k ⟨p, s, v⟩, l.length, decide ((l.length : Int) < done (write c k ⟨p, s, v⟩) k), 0)
def fetch (c : Clu) (node off : Int) : Rec × Int :=
  if refNode c node ≠ 0 then (⟨0, 0, 0⟩, refNode c node)
  else if (c.nodes node.toNat).role ≠ 3 then (⟨0, 0, 0⟩, 6)
  else if off < 0 then (⟨0, 0, 0⟩, 5)
  else if done c node.toNat ≤ off then (⟨0, 0, 0⟩, 9)
  else ((c.nodes node.toNat).log.getD off.toNat ⟨0, 0, 0⟩, 0)
def underB (c : Clu) (i : Int) : Bool := decide (0 ≤ i) && decide (i < (c.ways.length : Int))
def takeOut (c : Clu) (i : Nat) : Clu := { c with ways := c.ways.eraseIdx i }
def drop (c : Clu) (i : Int) : Clu × Int := if underB c i then (takeOut c i.toNat, 0) else (c, 13)
def twice (c : Clu) (i : Int) : Clu × Int :=
  if underB c i then (match c.ways[i.toNat]? with | some m => send c m | none => c, 0) else (c, 13)
/-- The bounds that a cluster keeps. -/
structure Ok (c : Clu) : Prop where
  log : ∀ k, k < 5 → (c.nodes k).log.length ≤ 60
  ways : c.ways.length ≤ 50
  eps : c.epochs.length ≤ 40
  mem : ∀ x ∈ c.epochs, 0 ≤ x.members ∧ x.members < 32
end Go.Proofs.Ythpjcmilfipbaaa

namespace Go.Proofs.Ythpjcmilfipbaaa
set_option linter.unusedVariables false
set_option linter.unusedSimpArgs false
open Go.RowKit

theorem orR {a b c : Prop} (h : a ∨ b) (f : b → c) : a ∨ c := h.elim Or.inl fun e => Or.inr (f e)
/-- Nothing that was there has turned but for the blocks of S. -/
structure Fr (S : Nat → Prop) (w w' : World) : Prop where
  os : w'.os = w.os
  tape : w'.tape = w.tape
  output : w'.output = w.output
  size : w.heap.size ≤ w'.heap.size
  block : ∀ k, k < w.heap.size → ¬ S k → w'.heap[k]? = w.heap[k]?
def Ext (S : Nat → Prop) (w : World) : Nat → Prop := fun k => S k ∨ w.heap.size ≤ k
def No : Nat → Prop := fun _ => False
theorem Fr.refl (S : Nat → Prop) (w : World) : Fr S w w := ⟨rfl, rfl, rfl, Nat.le_refl _, fun _ _ _ => rfl⟩
theorem Fr.trans {S : Nat → Prop} {a b c : World} (h : Fr S a b) (k : Fr (Ext S a) b c) : Fr S a c :=
  ⟨k.os.trans h.os, k.tape.trans h.tape, k.output.trans h.output, Nat.le_trans h.size k.size, fun i hi hs =>
    (k.block i (Nat.lt_of_lt_of_le hi h.size) (fun e => by rcases e with e | e; exact hs e; omega)).trans (h.block i hi hs)⟩
theorem Fr.mono {S S' : Nat → Prop} {a b : World} (h : Fr S a b) (hs : ∀ k, S k → S' k) : Fr S' a b :=
  ⟨h.os, h.tape, h.output, h.size, fun k hk hn => h.block k hk (fun e => hn (hs k e))⟩
/-- S need only speak of the blocks that were there. -/
theorem Fr.old {S S' : Nat → Prop} {a b : World} (h : Fr S a b) (hs : ∀ k, k < a.heap.size → S k → S' k) : Fr S' a b :=
  ⟨h.os, h.tape, h.output, h.size, fun k hk hn => h.block k hk (fun e => hn (hs k hk e))⟩
theorem Fr.then {S : Nat → Prop} {a b c : World} (h : Fr S a b) (k : Fr S b c) : Fr S a c := h.trans (k.mono fun _ e => Or.inl e)
theorem Fr.drew (S : Nat → Prop) (w : World) : Fr S w w.drew := ⟨rfl, rfl, rfl, Nat.le_refl _, fun _ _ _ => rfl⟩
theorem Fr.alloc (S : Nat → Prop) (w : World) (o : Obj) : Fr S w (w.alloc o) :=
  ⟨rfl, rfl, rfl, by simp, fun k hk _ => Below.heap_alloc _ _ _ hk⟩
theorem Fr.setCell {S : Nat → Prop} (w : World) (p : Addr) (hp : S p.block) (u : Value) : Fr S w (w.setCell p u) :=
  ⟨rfl, rfl, rfl, by simp [World.setCell], fun k _ hk => Below.heap_setCell _ _ _ _ (fun e => hk (e ▸ hp))⟩
theorem Fr.grown {S : Nat → Prop} {w w' : World} {row : Option Nat} (hg : w.grownBy w' row) (hr : ∀ k, row = some k → S k) : Fr S w w' :=
  ⟨hg.os, hg.tape, hg.output, hg.size, fun k hk hn => hg.block k hk (fun e => hn (hr k e.symm))⟩
theorem Fr.below {S : Nat → Prop} {w w' : World} (h : Below w.heap.size w w') : Fr S w w' :=
  ⟨h.os, h.tape, h.output, h.size, fun k hk _ => h.block k hk⟩
theorem Fr.toBelow {S : Nat → Prop} {B : Nat} {w w' : World} (h : Fr S w w') (hB : B ≤ w.heap.size) (hs : ∀ k, S k → B ≤ k) : Below B w w' :=
  ⟨h.os, h.tape, h.output, h.size, fun k hk => h.block k (by omega) (fun e => by have := hs k e; omega)⟩
theorem Ext.sub {S : Nat → Prop} {w w' : World} (h : w.heap.size ≤ w'.heap.size) : ∀ k, Ext (Ext S w) w' k → Ext S w k := by
  intro k hk
  rcases hk with hk | hk
  · exact hk
  · exact Or.inr (by omega)

/-- A row stays owned where its block is as it was. -/
theorem ownsRow_same {w w' : World} {base : Nat} {e : TypeId} {size : Nat} {v : Value} {n : Nat} {xs : List Value} (h : w.ownsRow base e size v n xs)
    (hk : ∀ g, v.ownBlock = some g → g < w.heap.size → w'.heap[g]? = w.heap[g]?) : w'.ownsRow base e size v n xs := by
  refine ⟨h.1, ?_⟩
  rcases h.2 with hn | ⟨g, cap, cur, rfl, hb, hg, rest⟩
  · exact .inl hn
  · exact .inr ⟨g, cap, cur, rfl, hb, by rw [hk g rfl (Array.getElem?_eq_some_iff.1 hg).1]; exact hg, rest⟩
theorem ownsRow_block {w : World} {base : Nat} {e : TypeId} {size : Nat} {v : Value} {n : Nat} {xs : List Value} (h : w.ownsRow base e size v n xs) {g : Nat} (hv : v.ownBlock = some g) :
    ∃ cur, w.heap[g]? = some (.cells cur e (0, 0)) := by
  rcases h.2 with ⟨rfl, _⟩ | ⟨g', cap, cur, rfl, hb, hg, rest⟩
  · simp [Value.ownBlock] at hv
  · simp [Value.ownBlock] at hv; subst hv; exact ⟨cur, hg⟩
theorem ownsRow_lt {w : World} {base : Nat} {e : TypeId} {size : Nat} {v : Value} {n : Nat} {xs : List Value} (h : w.ownsRow base e size v n xs) {g : Nat} (hv : v.ownBlock = some g) : g < w.heap.size :=
  (h.lt g hv).2
/-- The value's shape: nil, or a slice over a row. -/
theorem ownsRow_shape {w : World} {base : Nat} {e : TypeId} {size : Nat} {v : Value} {n : Nat} {xs : List Value} (h : w.ownsRow base e size v n xs) :
    ∃ ao cap, v = .slice ao n cap ∧ n ≤ cap ∧ (∀ a, ao = some a → ∃ g, a = ⟨g, 0, none⟩ ∧ v.ownBlock = some g) ∧ (0 < n → ∃ g, ao = some ⟨g, 0, none⟩) := by
  rcases h.2 with ⟨rfl, rfl⟩ | ⟨g, cap, cur, rfl, hb, hg, hn, _⟩
  · exact ⟨none, 0, rfl, Nat.le_refl _, by simp, by omega⟩
  · exact ⟨some ⟨g, 0, none⟩, cap, rfl, hn, fun a ha => ⟨g, by simpa using ha.symm, rfl⟩, fun _ => ⟨g, rfl⟩⟩
theorem add_at (g j : Nat) : (⟨g, 0, none⟩ : Addr).add j = ⟨g, j, none⟩ := by unfold Addr.add; split <;> simp_all
theorem ownsRow_cell {w : World} {base : Nat} {e : TypeId} {size : Nat} {n cap g : Nat} {xs : List Value} (h : w.ownsRow base e size (.slice (some ⟨g, 0, none⟩) n cap) n xs) (j : Nat) (hj : j < xs.length) :
    w.cell? ⟨g, j, none⟩ = some (xs.getD j undef) := by
  have := h.cells (g := g) rfl j xs[j] (by simp [hj])
  rw [add_at] at this
  rw [this]; simp [hj]
theorem getD_some {α : Type} {l : List α} {j : Nat} {d : α} (hj : j < l.length) : l[j]? = some (l.getD j d) := by simp [hj]

theorem heap_setCell_at (w : World) (b o : Nat) (v : Value) (cs : Array Value) (t : TypeId) (fr : Nat × Nat) (h : w.heap[b]? = some (.cells cs t fr)) :
    (w.setCell ⟨b, o, none⟩ v).heap[b]? = some (.cells (cs.setIfInBounds o v) t fr) := by
  simp [World.setCell, Array.getElem?_modify, h]
def recCells (l : List Rec) : List Value := l.flatMap fun r => [.int .i64 r.p, .int .i64 r.s, .int .i64 r.v]
def epRow (x : Era) : List Value := [.int .i64 x.members, .int .i64 x.leader, .int .i64 x.before]
def epCells (l : List Era) : List Value := l.flatMap epRow
def msgRow (x : Msg × Value) : List Value := [.int .i64 x.1.kind, .int .i64 x.1.frm, .int .i64 x.1.to, .int .i64 x.1.epoch, .int .i64 x.1.n, x.2]
def msgCells (l : List (Msg × Value)) : List Value := l.flatMap msgRow

theorem flat_len {α β : Type} (f : α → List β) (s : Nat) (hf : ∀ x, (f x).length = s) : ∀ l : List α, (l.flatMap f).length = l.length * s
  | [] => by simp
  | a :: l => by simp [flat_len f s hf l, hf, Nat.add_mul]; omega
theorem flat_at {α β : Type} (f : α → List β) (s : Nat) (hf : ∀ x, (f x).length = s) : ∀ (l : List α) (k j : Nat) (a : α), l[k]? = some a → j < s → (l.flatMap f)[k * s + j]? = (f a)[j]?
  | [], k, j, a, h, _ => by simp at h
  | x :: l, 0, j, a, h, hj => by
    simp at h; subst h
    simp only [List.flatMap_cons, Nat.zero_mul, Nat.zero_add]
    rw [List.getElem?_append_left (by rw [hf]; exact hj)]
  | x :: l, k + 1, j, a, h, hj => by
    simp only [List.flatMap_cons]
    rw [List.getElem?_append_right (by rw [hf, Nat.add_mul]; omega), hf, show (k + 1) * s + j - s = k * s + j by rw [Nat.add_mul]; omega]
    exact flat_at f s hf l k j a (by simpa using h) hj
theorem recCells_len (l : List Rec) : (recCells l).length = l.length * 3 := flat_len _ 3 (fun _ => rfl) l
theorem epCells_len (l : List Era) : (epCells l).length = l.length * 3 := flat_len _ 3 (fun _ => rfl) l
theorem epCells_append (l m : List Era) : epCells (l ++ m) = epCells l ++ epCells m := by simp [epCells]
theorem msgCells_len (l : List (Msg × Value)) : (msgCells l).length = l.length * 6 := flat_len _ 6 (fun _ => rfl) l
theorem recCells_append (l m : List Rec) : recCells (l ++ m) = recCells l ++ recCells m := by simp [recCells]
theorem msgCells_append (l m : List (Msg × Value)) : msgCells (l ++ m) = msgCells l ++ msgCells m := by simp [msgCells]

/-- A record's three cells in a row that is owned. -/
theorem rec_cells {w : World} {e g n cap : Nat} {l : List Rec} (h : w.ownsRow 0 e 3 (.slice (some ⟨g, 0, none⟩) n cap) n (recCells l)) (k : Nat) (r : Rec) (hk : l[k]? = some r) :
    w.cell? ⟨g, k * 3, none⟩ = some (.int .i64 r.p) ∧ w.cell? ⟨g, k * 3 + 1, none⟩ = some (.int .i64 r.s) ∧ w.cell? ⟨g, k * 3 + 2, none⟩ = some (.int .i64 r.v) := by
  have hc := h.cells (g := g) rfl
  have key : ∀ j u, j < 3 → ([Value.int .i64 r.p, .int .i64 r.s, .int .i64 r.v] : List Value)[j]? = some u → w.cell? ⟨g, k * 3 + j, none⟩ = some u := by
    intro j u hj hu
    have := hc (k * 3 + j) u (by rw [recCells, flat_at _ 3 (fun _ => rfl) l k j r hk hj]; exact hu)
    rwa [add_at] at this
  exact ⟨by simpa using key 0 _ (by omega) rfl, key 1 _ (by omega) rfl, key 2 _ (by omega) rfl⟩
theorem msg_cells {w : World} {e g n cap : Nat} {l : List (Msg × Value)} (h : w.ownsRow 0 e 6 (.slice (some ⟨g, 0, none⟩) n cap) n (msgCells l)) (k : Nat) (x : Msg × Value) (hk : l[k]? = some x) :
    w.cell? ⟨g, k * 6, none⟩ = some (.int .i64 x.1.kind) ∧ w.cell? ⟨g, k * 6 + 1, none⟩ = some (.int .i64 x.1.frm) ∧ w.cell? ⟨g, k * 6 + 2, none⟩ = some (.int .i64 x.1.to) ∧
    w.cell? ⟨g, k * 6 + 3, none⟩ = some (.int .i64 x.1.epoch) ∧ w.cell? ⟨g, k * 6 + 4, none⟩ = some (.int .i64 x.1.n) ∧ w.cell? ⟨g, k * 6 + 5, none⟩ = some x.2 := by
  have hc := h.cells (g := g) rfl
  have key : ∀ j u, j < 6 → (msgRow x)[j]? = some u → w.cell? ⟨g, k * 6 + j, none⟩ = some u := by
    intro j u hj hu
    have := hc (k * 6 + j) u (by rw [msgCells, flat_at _ 6 (fun _ => rfl) l k j x hk hj]; exact hu)
    rwa [add_at] at this
  exact ⟨by simpa using key 0 _ (by omega) rfl, key 1 _ (by omega) rfl, key 2 _ (by omega) rfl, key 3 _ (by omega) rfl, key 4 _ (by omega) rfl, key 5 _ (by omega) rfl⟩
theorem ep_cells {w : World} {e g n cap : Nat} {l : List Era} (h : w.ownsRow 0 e 3 (.slice (some ⟨g, 0, none⟩) n cap) n (epCells l)) (k : Nat) (x : Era) (hk : l[k]? = some x) :
    w.cell? ⟨g, k * 3, none⟩ = some (.int .i64 x.members) ∧ w.cell? ⟨g, k * 3 + 1, none⟩ = some (.int .i64 x.leader) ∧ w.cell? ⟨g, k * 3 + 2, none⟩ = some (.int .i64 x.before) := by
  have hc := h.cells (g := g) rfl
  have key : ∀ j u, j < 3 → (epRow x)[j]? = some u → w.cell? ⟨g, k * 3 + j, none⟩ = some u := by
    intro j u hj hu
    have := hc (k * 3 + j) u (by rw [epCells, flat_at _ 3 (fun _ => rfl) l k j x hk hj]; exact hu)
    rwa [add_at] at this
  exact ⟨by simpa using key 0 _ (by omega) rfl, key 1 _ (by omega) rfl, key 2 _ (by omega) rfl⟩

/-- The cluster's own block. -/
structure Cells (cs : Array Value) (n : Nat → Nd) (a : Int) (lv : Nat → Value) (ev uv : Value) : Prop where
  size : cs.size = 78
  up : ∀ k, k < 5 → cs[k * 15]? = some (.bool (n k).up)
  fol : ∀ k, k < 5 → cs[k * 15 + 1]? = some (.int .i64 (n k).follows)
  giv : ∀ k, k < 5 → cs[k * 15 + 2]? = some (.int .i64 (n k).given)
  rol : ∀ k, k < 5 → cs[k * 15 + 3]? = some (.int .i64 (n k).role)
  log : ∀ k, k < 5 → cs[k * 15 + 4]? = some (lv k)
  has : ∀ k j, k < 5 → j < 5 → cs[k * 15 + 5 + j]? = some (.bool ((n k).has j))
  kno : ∀ k j, k < 5 → j < 5 → cs[k * 15 + 10 + j]? = some (.int .i64 ((n k).known j))
  eps : cs[75]? = some ev
  act : cs[76]? = some (.int .i64 a)
  way : cs[77]? = some uv
/-- One cell turns: what stands elsewhere stays. -/
theorem Cells.put {cs : Array Value} {n n' : Nat → Nd} {a a' : Int} {lv lv' : Nat → Value} {ev uv ev' uv' : Value} (h : Cells cs n a lv ev uv) (o : Nat) (v : Value) (ho : o < 78)
    (h1 : ∀ i, i < 5 → (if o = i * 15 then v else .bool (n i).up) = .bool (n' i).up)
    (h2 : ∀ i, i < 5 → (if o = i * 15 + 1 then v else .int .i64 (n i).follows) = .int .i64 (n' i).follows)
    (h3 : ∀ i, i < 5 → (if o = i * 15 + 2 then v else .int .i64 (n i).given) = .int .i64 (n' i).given)
    (h4 : ∀ i, i < 5 → (if o = i * 15 + 3 then v else .int .i64 (n i).role) = .int .i64 (n' i).role)
    (h5 : ∀ i, i < 5 → (if o = i * 15 + 4 then v else lv i) = lv' i)
    (h6 : ∀ i j, i < 5 → j < 5 → (if o = i * 15 + 5 + j then v else .bool ((n i).has j)) = .bool ((n' i).has j))
    (h7 : ∀ i j, i < 5 → j < 5 → (if o = i * 15 + 10 + j then v else .int .i64 ((n i).known j)) = .int .i64 ((n' i).known j))
    (h8 : (if o = 75 then v else ev) = ev') (h9 : (if o = 76 then v else .int .i64 a) = .int .i64 a') (h10 : (if o = 77 then v else uv) = uv') : Cells (cs.setIfInBounds o v) n' a' lv' ev' uv' := by
  have hs := h.size
  have key : ∀ j u u', j < 78 → cs[j]? = some u → (if o = j then v else u) = u' → (cs.setIfInBounds o v)[j]? = some u' := by
    intro j u u' hj hu he
    rw [Array.getElem?_setIfInBounds]
    by_cases e : o = j
    · rw [if_pos e] at he ⊢; rw [if_pos (by omega), he]
    · rw [if_neg e] at he ⊢; rw [hu, he]
  exact { size := by simp [hs], up := fun i hi => key _ _ _ (by omega) (h.up i hi) (h1 i hi), fol := fun i hi => key _ _ _ (by omega) (h.fol i hi) (h2 i hi)
          giv := fun i hi => key _ _ _ (by omega) (h.giv i hi) (h3 i hi), rol := fun i hi => key _ _ _ (by omega) (h.rol i hi) (h4 i hi)
          log := fun i hi => key _ _ _ (by omega) (h.log i hi) (h5 i hi), has := fun i j hi hj => key _ _ _ (by omega) (h.has i j hi hj) (h6 i j hi hj)
          kno := fun i j hi hj => key _ _ _ (by omega) (h.kno i j hi hj) (h7 i j hi hj)
          eps := key _ _ _ (by omega) h.eps h8, act := key _ _ _ (by omega) h.act h9, way := key _ _ _ (by omega) h.way h10 }
/-- A node's cell turns, but for the one that holds its log. -/
theorem Cells.putNd {cs : Array Value} {n : Nat → Nd} {a : Int} {lv : Nat → Value} {ev uv : Value} (h : Cells cs n a lv ev uv) (k : Nat) (hk : k < 5) (f : Nat) (hf : f < 15) (hf4 : f ≠ 4) (v : Value) (nd : Nd)
    (h1 : (if f = 0 then v else .bool (n k).up) = .bool nd.up)
    (h2 : (if f = 1 then v else .int .i64 (n k).follows) = .int .i64 nd.follows)
    (h3 : (if f = 2 then v else .int .i64 (n k).given) = .int .i64 nd.given)
    (h4 : (if f = 3 then v else .int .i64 (n k).role) = .int .i64 nd.role)
    (h6 : ∀ j, j < 5 → (if f = 5 + j then v else .bool ((n k).has j)) = .bool (nd.has j))
    (h7 : ∀ j, j < 5 → (if f = 10 + j then v else .int .i64 ((n k).known j)) = .int .i64 (nd.known j)) : Cells (cs.setIfInBounds (k * 15 + f) v) (upd n k nd) a lv ev uv := by
  refine h.put _ _ (by omega) (fun i hi => ?_) (fun i hi => ?_) (fun i hi => ?_) (fun i hi => ?_) (fun i hi => if_neg (by omega)) (fun i j hi hj => ?_) (fun i j hi hj => ?_) (if_neg (by omega)) (if_neg (by omega)) (if_neg (by omega))
  all_goals
    by_cases e : i = k
    · subst e
      rw [upd_same]
      first | rw [← h1] | rw [← h2] | rw [← h3] | rw [← h4] | rw [← h6 j hj] | rw [← h7 j hj]
      congr 1
      apply propext
      omega
    · rw [upd_other _ _ _ _ e, if_neg (by omega)]
/-- A cluster in memory: b its block; S holds all its blocks. -/
structure Rep (w : World) (S : Nat → Prop) (b : Nat) (c : Clu) (lv : Nat → Value) (ev uv : Value) (mv : List (Msg × Value)) : Prop where
  blk : ∃ cs, w.heap[b]? = some (.cells cs 94 (0, 0)) ∧ Cells cs c.nodes c.active lv ev uv
  inb : S b
  logs : ∀ k, k < 5 → w.ownsRow 0 36 3 (lv k) (c.nodes k).log.length (recCells (c.nodes k).log)
  logS : ∀ k g, k < 5 → (lv k).ownBlock = some g → S g
  logD : ∀ k j g, k < 5 → j < 5 → k ≠ j → (lv k).ownBlock = some g → (lv j).ownBlock ≠ some g
  eps : w.ownsRow 0 106 3 ev c.epochs.length (epCells c.epochs)
  epS : ∀ g, ev.ownBlock = some g → S g
  way : w.ownsRow 0 101 6 uv mv.length (msgCells mv)
  wayS : ∀ g, uv.ownBlock = some g → S g
  mvs : mv.map Prod.fst = c.ways
  recs : ∀ x, x ∈ mv → w.ownsRow 0 36 3 x.2 x.1.recs.length (recCells x.1.recs)
  recS : ∀ x g, x ∈ mv → x.2.ownBlock = some g → S g
  recD : ∀ x k g, x ∈ mv → k < 5 → x.2.ownBlock = some g → (lv k).ownBlock ≠ some g
def Has (w : World) (S : Nat → Prop) (b : Nat) (c : Clu) : Prop := ∃ lv ev uv mv, Rep w S b c lv ev uv mv

section
variable {w : World} {S : Nat → Prop} {b : Nat} {c : Clu} {lv : Nat → Value} {ev uv : Value} {mv : List (Msg × Value)}
theorem Rep.cell (h : Rep w S b c lv ev uv mv) : ∃ cs, Cells cs c.nodes c.active lv ev uv ∧ (∀ o, w.cell? ⟨b, o, none⟩ = cs[o]?) ∧ ∀ o, w.frozen? ⟨b, o, none⟩ = false := by
  obtain ⟨cs, hb, hc⟩ := h.blk
  exact ⟨cs, hc, fun o => cell_of_row w b o cs _ _ hb, fun o => by simp [World.frozen?, hb]⟩
theorem Rep.lt (h : Rep w S b c lv ev uv mv) : b < w.heap.size := by
  obtain ⟨cs, hb, _⟩ := h.blk
  exact (Array.getElem?_eq_some_iff.1 hb).1
theorem Rep.ways_len (h : Rep w S b c lv ev uv mv) : mv.length = c.ways.length := by rw [← h.mvs]; simp
theorem Rep.cUp (h : Rep w S b c lv ev uv mv) : ∀ k, k < 5 → w.cell? ⟨b, k * 15, none⟩ = some (.bool (c.nodes k).up) := by
  obtain ⟨cs, hc, hk, _⟩ := h.cell; intro k h5; rw [hk]; exact hc.up k h5
theorem Rep.cFol (h : Rep w S b c lv ev uv mv) : ∀ k, k < 5 → w.cell? ⟨b, k * 15 + 1, none⟩ = some (.int .i64 (c.nodes k).follows) := by
  obtain ⟨cs, hc, hk, _⟩ := h.cell; intro k h5; rw [hk]; exact hc.fol k h5
theorem Rep.cGiv (h : Rep w S b c lv ev uv mv) : ∀ k, k < 5 → w.cell? ⟨b, k * 15 + 2, none⟩ = some (.int .i64 (c.nodes k).given) := by
  obtain ⟨cs, hc, hk, _⟩ := h.cell; intro k h5; rw [hk]; exact hc.giv k h5
theorem Rep.cRol (h : Rep w S b c lv ev uv mv) : ∀ k, k < 5 → w.cell? ⟨b, k * 15 + 3, none⟩ = some (.int .i64 (c.nodes k).role) := by
  obtain ⟨cs, hc, hk, _⟩ := h.cell; intro k h5; rw [hk]; exact hc.rol k h5
theorem Rep.cLog (h : Rep w S b c lv ev uv mv) : ∀ k, k < 5 → w.cell? ⟨b, k * 15 + 4, none⟩ = some (lv k) := by
  obtain ⟨cs, hc, hk, _⟩ := h.cell; intro k h5; rw [hk]; exact hc.log k h5
theorem Rep.cKno (h : Rep w S b c lv ev uv mv) : ∀ k j, k < 5 → j < 5 → w.cell? ⟨b, k * 15 + 10 + j, none⟩ = some (.int .i64 ((c.nodes k).known j)) := by
  obtain ⟨cs, hc, hk, _⟩ := h.cell; intro k j h5 hj; rw [hk]; exact hc.kno k j h5 hj
theorem Rep.cEps (h : Rep w S b c lv ev uv mv) : w.cell? ⟨b, 75, none⟩ = some ev := by
  obtain ⟨cs, hc, hk, _⟩ := h.cell; rw [hk]; exact hc.eps
theorem Rep.cWay (h : Rep w S b c lv ev uv mv) : w.cell? ⟨b, 77, none⟩ = some uv := by
  obtain ⟨cs, hc, hk, _⟩ := h.cell; rw [hk]; exact hc.way
theorem Rep.cHas (h : Rep w S b c lv ev uv mv) : ∀ k j, k < 5 → j < 5 → w.cell? ⟨b, k * 15 + 5 + j, none⟩ = some (.bool ((c.nodes k).has j)) := by
  obtain ⟨cs, hc, hk, _⟩ := h.cell; intro k j h5 hj; rw [hk]; exact hc.has k j h5 hj
theorem Rep.cAct (h : Rep w S b c lv ev uv mv) : w.cell? ⟨b, 76, none⟩ = some (.int .i64 c.active) := by
  obtain ⟨cs, hc, hk, _⟩ := h.cell; rw [hk]; exact hc.act
theorem Rep.free (h : Rep w S b c lv ev uv mv) : ∀ o, w.frozen? ⟨b, o, none⟩ = false := by
  obtain ⟨cs, _, _, hf⟩ := h.cell; exact hf
/-- The cluster is there in every world that has its blocks. -/
theorem Rep.same {w' : World} (h : Rep w S b c lv ev uv mv) (hk : ∀ k, S k → k < w.heap.size → w'.heap[k]? = w.heap[k]?) : Rep w' S b c lv ev uv mv := by
  obtain ⟨cs, hb, hc⟩ := h.blk
  exact { blk := ⟨cs, by rw [hk b h.inb h.lt]; exact hb, hc⟩, inb := h.inb
          logs := fun k h5 => ownsRow_same (h.logs k h5) fun g hg hl => hk g (h.logS k g h5 hg) hl
          logS := h.logS, logD := h.logD
          eps := ownsRow_same h.eps fun g hg hl => hk g (h.epS g hg) hl
          epS := h.epS
          way := ownsRow_same h.way fun g hg hl => hk g (h.wayS g hg) hl
          wayS := h.wayS, mvs := h.mvs
          recs := fun x hx => ownsRow_same (h.recs x hx) fun g hg hl => hk g (h.recS x g hx hg) hl
          recS := h.recS, recD := h.recD }
theorem Rep.mono {S' : Nat → Prop} (h : Rep w S b c lv ev uv mv) (hs : ∀ k, k < w.heap.size → S k → S' k) : Rep w S' b c lv ev uv mv :=
  { blk := h.blk, inb := hs _ h.lt h.inb, logs := h.logs, logS := fun k g h5 hg => hs g (ownsRow_lt (h.logs k h5) hg) (h.logS k g h5 hg), logD := h.logD, eps := h.eps
    epS := fun g hg => hs g (ownsRow_lt h.eps hg) (h.epS g hg), way := h.way, wayS := fun g hg => hs g (ownsRow_lt h.way hg) (h.wayS g hg), mvs := h.mvs, recs := h.recs
    recS := fun x g hx hg => hs g (ownsRow_lt (h.recs x hx) hg) (h.recS x g hx hg), recD := h.recD }
theorem Rep.below {w' : World} (h : Rep w S b c lv ev uv mv) (hb : Below w.heap.size w w') : Rep w' S b c lv ev uv mv := h.same fun k _ hk => hb.block k hk
theorem Rep.alloc (h : Rep w S b c lv ev uv mv) (o : Obj) : Rep (w.alloc o) S b c lv ev uv mv := h.same fun k _ hk => Below.heap_alloc _ _ _ hk
theorem Rep.drew (h : Rep w S b c lv ev uv mv) : Rep w.drew S b c lv ev uv mv := h.same fun k _ hk => rfl
theorem Rep.fr {S' : Nat → Prop} {w' : World} (h : Rep w S b c lv ev uv mv) (hf : Fr S' w w') (hd : ∀ k, S k → ¬ S' k) : Rep w' S b c lv ev uv mv :=
  h.same fun k hs hk => hf.block k hk (hd k hs)
/-- The blocks' element types tell them apart. -/
theorem ne_of_type {g k : Nat} {c1 c2 : Array Value} {e1 e2 : TypeId} {f1 f2 : Nat × Nat} (h1 : w.heap[g]? = some (.cells c1 e1 f1)) (h2 : w.heap[k]? = some (.cells c2 e2 f2)) (h : e1 ≠ e2) : g ≠ k := by
  intro e; subst e; rw [h1] at h2; simp at h2; exact h h2.2.1
end
end Go.Proofs.Ythpjcmilfipbaaa

namespace Go.Proofs.Ythpjcmilfipbaaa
set_option linter.unusedVariables false
set_option linter.unusedSimpArgs false
open Go.RowKit

set_option maxHeartbeats 400000 in
theorem pick_any (c n : Int) (hc : -9223372036854775808 ≤ c) (hc' : c ≤ 9223372036854775807) (hn : 1 ≤ n) (w : World) :
    Calls Try.prog 17 #[.int .i64 c, .int .i64 n] w fun e w' => e = .returned (.int .i64 (pickN c n)) ∧ w' = w := by
  unfold pickN
  by_cases h : c < 0
  · rw [if_pos h]
    go_enter Try.func17, Try.ntmps17
    go_wp2
    go_ret
    exact ⟨by simp, rfl⟩
  · rw [if_neg h]
    have e : c.tmod n = c % n := Int.tmod_eq_emod_of_nonneg (by omega)
    go_enter Try.func17, Try.ntmps17
    go_wp2
    go_ret
    exact ⟨by simp [e], rfl⟩

set_option maxHeartbeats 400000 in
theorem isNode_any (c : Int) (w : World) :
    Calls Try.prog 51 #[.int .i64 c] w fun e w' => e = .returned (.bool (nodeB c)) ∧ w' = w := by
  unfold nodeB
  by_cases h : 0 ≤ c <;> by_cases h' : c < 5
  all_goals
    go_enter Try.func51, Try.ntmps51
    go_wp2
    go_ret
    exact ⟨by simp [h, h'], rfl⟩

theorem ret_bool {a b : Bool} (h : a = b) : Ending.returned (.bool a) = .returned (.bool b) := by rw [h]
theorem ret_int {k : IntKind} {a b : Int} (h : a = b) : Ending.returned (.int k a) = .returned (.int k b) := by rw [h]

set_option maxHeartbeats 800000 in
theorem isRecord_any (p s v : Int) (w : World) :
    Calls Try.prog 66 #[.int .i64 p, .int .i64 s, .int .i64 v] w fun e w' => e = .returned (.bool (recB p s v)) ∧ w' = w := by
  go_enter Try.func66, Try.ntmps66
  go_wp2
  all_goals
    go_ret
    exact ⟨ret_bool (by unfold recB; rw [Bool.eq_iff_iff]; simp; omega), rfl⟩

section
variable {w : World} {S : Nat → Prop} {b : Nat} {c : Clu} {lv : Nat → Value} {ev uv : Value} {mv : List (Msg × Value)}

set_option maxHeartbeats 400000 in
theorem refNode_any (h : Rep w S b c lv ev uv mv) (node : Int) :
    Calls Try.prog 47 #[.pointer (some ⟨b, 0, none⟩), .int .i64 node] w fun e w' => e = .returned (.int .i64 (refNode c node)) ∧ w' = w := by
  by_cases hn : 0 ≤ node ∧ node < 5
  · obtain ⟨h0, h5⟩ := hn
    obtain ⟨k, rfl⟩ := Int.eq_ofNat_of_zero_le h0
    have hk : k < 5 := by omega
    have hb : nodeB (k : Int) = true := by simp [nodeB]; omega
    have hc := h.cUp k hk
    have e : refNode c (k : Int) = if (c.nodes k).up then 0 else 3 := by simp [refNode, hb]
    rw [e]; clear e h
    cases hup : (c.nodes k).up <;> rw [hup] at hc
    all_goals
      go_enter Try.func47, Try.ntmps47
      go_wp2_with (go_at_call 51; refine (isNode_any _ _).mono ?_; rintro e w' ⟨rfl, rfl⟩)
      go_ret
      exact ⟨by simp, rfl⟩
  · have hb : nodeB node = false := by simp [nodeB]; omega
    have e : refNode c node = 2 := by simp [refNode, hb]
    rw [e]; clear e h
    go_enter Try.func47, Try.ntmps47
    go_wp2_with (go_at_call 51; refine (isNode_any _ _).mono ?_; rintro e w' ⟨rfl, rfl⟩)
    all_goals
      go_ret
      exact ⟨by simp, rfl⟩

theorem refNode_zero {c : Clu} {node : Int} (h : refNode c node = 0) : ∃ k : Nat, node = k ∧ k < 5 ∧ (c.nodes k).up = true := by
  unfold refNode nodeB at h
  split at h
  · rename_i hb
    simp at hb
    obtain ⟨k, rfl⟩ := Int.eq_ofNat_of_zero_le hb.1
    refine ⟨k, rfl, by omega, ?_⟩
    simp at h; exact h
  · simp at h

set_option maxHeartbeats 400000 in
theorem refWrite_any (h : Rep w S b c lv ev uv mv) (node p s v : Int) :
    Calls Try.prog 42 #[.pointer (some ⟨b, 0, none⟩), .int .i64 node, .int .i64 p, .int .i64 s, .int .i64 v] w fun e w' => e = .returned (.int .i64 (refWrite c node p s v)) ∧ w' = w := by
  by_cases hr : refNode c node = 0
  · have hr' : (refNode c node != 0) = false := by simp [hr]
    obtain ⟨k, rfl, hk, hup⟩ := refNode_zero hr
    have hc := h.cRol k hk
    have e : refWrite c (k : Int) p s v = if recB p s v then (if (c.nodes k).role = 3 then 0 else 6) else 5 := by simp [refWrite, hr]
    rw [e]
    have H : Hid (Rep w S b c lv ev uv mv) := h
    have HR : Hid (refNode c (k : Int) = 0) := hr
    clear e h hr
    cases hb : recB p s v
    · go_enter Try.func42, Try.ntmps42
      go_wp2_with (first
        | (go_at_call 47; refine (refNode_any H.out _).mono ?_; rintro e w' ⟨rfl, rfl⟩)
        | (go_at_call 66; refine (isRecord_any _ _ _ _).mono ?_; rintro e w' ⟨rfl, rfl⟩))
      go_ret
      exact ⟨by simp, rfl⟩
    cases hro : ((c.nodes k).role != 3)
    all_goals
      have hro' := hro
      simp at hro'
      rw [if_pos rfl]
      go_enter Try.func42, Try.ntmps42
      go_wp2_with (first
        | (go_at_call 47; refine (refNode_any H.out _).mono ?_; rintro e w' ⟨rfl, rfl⟩)
        | (go_at_call 66; refine (isRecord_any _ _ _ _).mono ?_; rintro e w' ⟨rfl, rfl⟩))
      go_ret
      exact ⟨by simp [hro'], rfl⟩
  · have hr' : (refNode c node != 0) = true := by simp [hr]
    have e : refWrite c node p s v = refNode c node := by simp [refWrite, hr]
    rw [e]
    have H : Hid (Rep w S b c lv ev uv mv) := h
    clear e h hr
    go_enter Try.func42, Try.ntmps42
    go_wp2_with (first
      | (go_at_call 47; refine (refNode_any H.out _).mono ?_; rintro e w' ⟨rfl, rfl⟩))
    go_ret
    exact ⟨rfl, rfl⟩
end
end Go.Proofs.Ythpjcmilfipbaaa

namespace Go.Proofs.Ythpjcmilfipbaaa
set_option linter.unusedVariables false
set_option linter.unusedSimpArgs false
open Go.RowKit

set_option maxHeartbeats 800000 in
theorem offsetOf_any {w : World} {v : Value} {l : List Rec} (h : w.ownsRow 0 36 3 v l.length (recCells l)) (hl : l.length ≤ 1000) (p s : Int) :
    Calls Try.prog 43 #[v, .int .i64 p, .int .i64 s] w fun e w' => e = .returned (.int .i64 (offsetOf l p s)) ∧ Below w.heap.size w w' := by
  obtain ⟨ao, cap, rfl, hcap, _, hpos⟩ := ownsRow_shape h
  have H : Hid (w.ownsRow 0 36 3 (.slice ao l.length cap) l.length (recCells l)) := h
  clear h
  go_enter Try.func43, Try.ntmps43
  go_wp2
  go_loopw [11] (fun i wr => ∃ k : Nat, k ≤ l.length ∧ i = .int .i64 k ∧ (∀ j r, j < k → l[j]? = some r → ¬ (r.p = p ∧ r.s = s)) ∧ Below w.heap.size w wr)
    (fun i _ => l.length - (intOf i).toNat)
  case atStart => exact ⟨0, Nat.zero_le _, rfl, fun j r hj => by omega, Below.refl _ _⟩
  case round =>
    obtain ⟨k, hk, rfl, hno, hbel⟩ := hrel
    have HN : Hid (∀ j r, j < k → l[j]? = some r → ¬ (r.p = p ∧ r.s = s)) := hno
    have HB : Hid (Below w.heap.size w wr) := hbel
    clear hno hbel
    by_cases hlt : k < l.length
    · obtain ⟨g, rfl⟩ := hpos (by omega)
      have hr : l[k]? = some l[k] := by simp [hlt]
      have h1 := rec_cells (w := wr) (ownsRow_same H.out fun g' _ hg' => HB.out.block g' hg') k l[k] hr
      obtain ⟨c1, c2, c3⟩ := h1
      generalize hx : l[k] = x at hr c1 c2 c3
      have HR : Hid (l[k]? = some x) := hr
      clear hr hx hpos
      by_cases e1 : x.p = p
      · by_cases e2 : x.s = s
        · have b1 : (x.p == p) = true := by simpa using e1
          have b2 : (x.s == s) = true := by simpa using e2
          have HF : Hid (offsetOf l p s = k) := offsetOf_at l p s k x HN.out HR.out ⟨e1, e2⟩
          clear e1 e2
          go_wp2
          go_ret
          exact ⟨ret_int HF.out.symm, HB.out.alloc HB.out.size _⟩
        · have b1 : (x.p == p) = true := by simpa using e1
          have b2 : (x.s == s) = false := by simpa using e2
          go_wp2
          go_roundw
          case rel =>
            refine ⟨k + 1, by omega, by go_num, fun j r hj hjr => ?_, HB.out.alloc HB.out.size _⟩
            by_cases e : j = k
            · subst e; have := HR.out; rw [this] at hjr; simp at hjr; subst hjr; exact fun ⟨_, e⟩ => e2 e
            · exact HN.out j r (by omega) hjr
          case measure => simp [intOf]; omega
      · have b1 : (x.p == p) = false := by simpa using e1
        go_wp2
        go_roundw
        case rel =>
          refine ⟨k + 1, by omega, by go_num, fun j r hj hjr => ?_, HB.out.alloc HB.out.size _⟩
          by_cases e : j = k
          · subst e; have := HR.out; rw [this] at hjr; simp at hjr; subst hjr; exact fun ⟨e, _⟩ => e1 e
          · exact HN.out j r (by omega) hjr
        case measure => simp [intOf]; omega
    · have HF : Hid (offsetOf l p s = -1) := offsetOf_none l p s (fun j r hj => HN.out j r (by omega))
      go_wp2
      go_ret
      exact ⟨ret_int HF.out.symm, HB.out⟩

theorem bits_oneP (q : Int) (h0 : 0 ≤ q) (h1 : q < 32) : bits BinOp.and IntKind.i64 q 1 = q % 2 := by
  obtain ⟨n, rfl⟩ := Int.eq_ofNat_of_zero_le h0
  have : ∀ n : Fin 32, bits BinOp.and IntKind.i64 ((n : Nat) : Int) 1 = ((n : Nat) : Int) % 2 := by decide
  exact this ⟨n, by omega⟩
section
variable {w : World} {S : Nat → Prop} {b : Nat} {c : Clu} {lv : Nat → Value} {ev uv : Value} {mv : List (Msg × Value)}

set_option maxHeartbeats 800000 in
theorem isAmong_any (q : Int) (hq0 : 0 ≤ q) (hq1 : q < 32) (node : Int) (w : World) :
    Calls Try.prog 58 #[.int .i64 q, .int .i64 node] w fun e w' => e = .returned (.bool (amongB q node)) ∧ w' = w := by
  by_cases hn : 0 ≤ node ∧ node < 5
  · obtain ⟨h0, h5⟩ := hn
    obtain ⟨k, rfl⟩ := Int.eq_ofNat_of_zero_le h0
    have hk : k < 5 := by omega
    have hb : nodeB (k : Int) = true := by simp [nodeB]; omega
    have HF := (show Hid (amongB q (k : Int) = decide (q / 2 ^ k % 2 = 1)) from by show amongB q (k : Int) = _; unfold amongB; rw [hb]; simp)
    clear h0 h5
    match k, hk with
    | 0, _ | 1, _ | 2, _ | 3, _ | 4, _ =>
      go_enter Try.func58, Try.ntmps58
      go_wp2_with (go_at_call 51; refine (isNode_any _ _).mono ?_; rintro e w' ⟨rfl, rfl⟩)
      go_ret
      refine ⟨ret_bool ?_, rfl⟩
      rw [HF.out]
      rw [bits_oneP _ (by omega) (by omega), Bool.eq_iff_iff]
      simp only [beq_iff_eq, decide_eq_true_eq]
      first
        | exact Iff.rfl
        | (simp; done)
        | (constructor <;> intro h <;> simp at * <;> omega)
  · have hb : nodeB node = false := by simp [nodeB]; omega
    have HF := (show Hid (amongB q node = false) from by show amongB q node = _; unfold amongB; rw [hb]; rfl)
    clear hn
    go_enter Try.func58, Try.ntmps58
    go_wp2_with (go_at_call 51; refine (isNode_any _ _).mono ?_; rintro e w' ⟨rfl, rfl⟩)
    go_ret
    exact ⟨ret_bool HF.out.symm, rfl⟩
def eraVal (x : Era) : Value := .agg #[.int .i64 x.members, .int .i64 x.leader, .int .i64 x.before]
set_option maxHeartbeats 800000 in
theorem epoch_any (h : Rep w S b c lv ev uv mv) (hok : Ok c) (e : Int) :
    Calls Try.prog 60 #[.pointer (some ⟨b, 0, none⟩), .int .i64 e] w fun r w' => r = .returned (eraVal (epochOf c e)) ∧ Below w.heap.size w w' := by
  unfold eraVal
  have he := h.cEps
  have hb := h.lt
  have hlen := hok.eps
  obtain ⟨ao, cap, rfl, hcap, _, hpos⟩ := ownsRow_shape h.eps
  have HO : Hid (w.ownsRow 0 106 3 (.slice ao c.epochs.length cap) c.epochs.length (epCells c.epochs)) := h.eps
  clear h hok
  by_cases e2 : e < 1
  · have HF : Hid (epochOf c e = era0) := by show epochOf c e = era0; simp [epochOf, e2]
    go_enter Try.func60, Try.ntmps60
    go_wp2
    refine bodyPost_ret (v := .agg #[.int .i64 0, .int .i64 0, .int .i64 0]) (by simp [results, Try.results60, go_sem, *]) rfl ⟨by rw [HF.out]; rfl, ?_⟩
    repeat' first | exact Below.refl _ _ | (refine Below.setCell ?_ (Nat.le_refl _) _) | (refine Below.alloc ?_ (Nat.le_refl _) _)
  by_cases e3 : (c.epochs.length : Int) < e
  · have HF : Hid (epochOf c e = era0) := by show epochOf c e = era0; simp [epochOf, e3]
    go_enter Try.func60, Try.ntmps60
    go_wp2
    refine bodyPost_ret (v := .agg #[.int .i64 0, .int .i64 0, .int .i64 0]) (by simp [results, Try.results60, go_sem, *]) rfl ⟨by rw [HF.out]; rfl, ?_⟩
    repeat' first | exact Below.refl _ _ | (refine Below.setCell ?_ (Nat.le_refl _) _) | (refine Below.alloc ?_ (Nat.le_refl _) _)
  obtain ⟨m, rfl⟩ : ∃ m : Nat, e = m + 1 := ⟨(e - 1).toNat, by omega⟩
  have hml : m < c.epochs.length := by omega
  obtain ⟨g, rfl⟩ := hpos (by omega)
  obtain ⟨c0, c1, c2⟩ := ep_cells HO.out m c.epochs[m] (by simp [hml])
  have HF : Hid (epochOf c ((m : Int) + 1) = c.epochs[m]) := by
    show epochOf c ((m : Int) + 1) = c.epochs[m]
    have h1 : ¬ ((m : Int) + 1 < 1 ∨ (c.epochs.length : Int) < m + 1) := by omega
    have h2 : ((m : Int) + 1 - 1).toNat = m := by omega
    rw [epochOf, if_neg h1, h2]
    simp [hml]
  generalize c.epochs[m] = x at c0 c1 c2 HF
  have hg := ownsRow_lt HO.out (g := g) rfl
  have e4 : (1 : Int) ≤ (m : Int) + 1 := by omega
  have e5 : (m : Int) + 1 ≤ (c.epochs.length : Int) := by omega
  clear e2 e3 hpos
  go_enter Try.func60, Try.ntmps60
  go_wp2
  refine bodyPost_ret (v := .agg #[.int .i64 x.members, .int .i64 x.leader, .int .i64 x.before]) (by simp [results, Try.results60, go_sem, *]) rfl ⟨by rw [HF.out], ?_⟩
  repeat' first | exact Below.refl _ _ | (refine Below.setCell ?_ (Nat.le_refl _) _) | (refine Below.alloc ?_ (Nat.le_refl _) _)
theorem epochOf_mem (hok : Ok c) (e : Int) : 0 ≤ (epochOf c e).members ∧ (epochOf c e).members < 32 := by
  unfold epochOf
  split
  · decide
  · rename_i h
    have hm : (e - 1).toNat < c.epochs.length := by omega
    have : c.epochs.getD (e - 1).toNat era0 = c.epochs[(e - 1).toNat] := by rw [List.getD_eq_getElem?_getD, List.getElem?_eq_getElem hm]; rfl
    rw [this]
    exact hok.mem _ (List.getElem_mem hm)
set_option maxHeartbeats 800000 in
theorem isOther_any (h : Rep w S b c lv ev uv mv) (hok : Ok c) (k j : Nat) (hk : k < 5) (hj : j < 5) :
    Calls Try.prog 67 #[.pointer (some ⟨b, 0, none⟩), .int .i64 k, .int .i64 j] w fun e w' => e = .returned (.bool (isOther c k j)) ∧ Below w.heap.size w w' := by
  have hf := h.cFol k hk
  have hk0 : (0 : Int) ≤ (k : Int) := by omega
  have hk1 : (k : Int) < 5 := by omega
  obtain ⟨hm0, hm1⟩ := epochOf_mem hok (c.nodes k).follows
  have HE : Hid (∀ e, Calls Try.prog 60 #[.pointer (some ⟨b, 0, none⟩), .int .i64 e] w fun r w' => r = .returned (eraVal (epochOf c e)) ∧ Below w.heap.size w w') := fun e => epoch_any h hok e
  unfold eraVal at HE
  clear h hok
  by_cases e1 : j = k
  · have HF : Hid (isOther c k j = false) := by show isOther c k j = false; simp [isOther, e1]
    have b1 : ((j : Int) == (k : Int)) = true := by simp [e1]
    clear e1
    go_enter Try.func67, Try.ntmps67
    go_wp2_with fail
    go_ret
    exact ⟨ret_bool HF.out.symm, Below.refl _ _⟩
  have b1 : ((j : Int) == (k : Int)) = false := by simp; omega
  have HF : Hid (isOther c k j = amongB (epochOf c (c.nodes k).follows).members j) := by show isOther c k j = _; rw [isOther, if_neg e1]
  clear e1
  go_enter Try.func67, Try.ntmps67
  go_wp2_with (first
    | (go_at_call 60; refine (HE.out _).mono ?_; rintro e w1 ⟨rfl, hB1⟩; have HB1 : Hid (Below w.heap.size w w1) := hB1; clear hB1)
    | (go_at_call 58; refine (isAmong_any _ hm0 hm1 _ _).mono ?_; rintro e w' ⟨rfl, hw1⟩; rw [hw1]; clear hw1))
  go_ret
  exact ⟨ret_bool HF.out.symm, HB1.out.alloc HB1.out.size _⟩

set_option maxHeartbeats 800000 in
theorem isUnder_any (h : Rep w S b c lv ev uv mv) (i : Int) :
    Calls Try.prog 48 #[.pointer (some ⟨b, 0, none⟩), .int .i64 i] w fun e w' => e = .returned (.bool (underB c i)) ∧ w' = w := by
  have hw := h.cWay
  obtain ⟨ao, cap, rfl, hcap, _, hpos⟩ := ownsRow_shape h.way
  have hl := h.ways_len
  rw [hl] at hw
  clear h hl
  by_cases e1 : 0 ≤ i <;> by_cases e2 : i < c.ways.length
  all_goals
    go_enter Try.func48, Try.ntmps48
    go_wp2
    go_ret
    exact ⟨ret_bool (by simp [underB, e1, e2]), rfl⟩

theorem idx5 (v0 v1 v2 v3 v4 : Value) (w : World) :
    (Instr.index 87 (.agg #[v0, v1, v2, v3, v4]) (.int .i64 0)).run Try.prog w = .ok v0 w ∧
    (Instr.index 87 (.agg #[v0, v1, v2, v3, v4]) (.int .i64 1)).run Try.prog w = .ok v1 w ∧
    (Instr.index 87 (.agg #[v0, v1, v2, v3, v4]) (.int .i64 2)).run Try.prog w = .ok v2 w ∧
    (Instr.index 87 (.agg #[v0, v1, v2, v3, v4]) (.int .i64 3)).run Try.prog w = .ok v3 w ∧
    (Instr.index 87 (.agg #[v0, v1, v2, v3, v4]) (.int .i64 4)).run Try.prog w = .ok v4 w :=
  ⟨by kernel_rfl, by kernel_rfl, by kernel_rfl, by kernel_rfl, by kernel_rfl⟩

set_option maxHeartbeats 1600000 in
set_option maxRecDepth 100000 in
theorem done_any (h : Rep w S b c lv ev uv mv) (hok : Ok c) (k : Nat) (hk : k < 5) :
    Calls Try.prog 44 #[.pointer (some ⟨b, 0, none⟩), .int .i64 k] w fun e w' => e = .returned (.int .i64 (done c k)) ∧ Below w.heap.size w w' := by
  have hl := h.cLog k hk
  have hkn : ∀ j, j < 5 → w.cell? ⟨b, k * 15 + 10 + j, none⟩ = some (.int .i64 ((c.nodes k).known j)) := fun j hj => h.cKno k j hk hj
  have k0 := hkn 0 (by omega)
  have k1 := hkn 1 (by omega)
  have k2 := hkn 2 (by omega)
  have k3 := hkn 3 (by omega)
  have k4 := hkn 4 (by omega)
  obtain ⟨ao, cap, hlv, hcap, _, hpos⟩ := ownsRow_shape (h.logs k hk)
  have hlen := hok.log k hk
  rw [hlv] at hl
  have H : Hid (Rep w S b c lv ev uv mv) := h
  clear h hkn hpos hlv
  have HO : Hid (Ok c) := hok
  clear hok
  go_enter Try.func44, Try.ntmps44
  go_wp2
  go_loopw [5, 23] (fun d i wr => ∃ j : Nat, j ≤ 5 ∧ i = .int .i64 j ∧ d = .int .i64 (doneTo c k j) ∧ Below w.heap.size w wr) (fun _ i _ => 5 - (intOf i).toNat)
  case atStart => exact ⟨0, Nat.zero_le _, rfl, rfl, Below.refl _ _⟩
  case round =>
    obtain ⟨j, hj5, rfl, rfl, hbel⟩ := hrel
    obtain ⟨i0, i1, i2, i3, i4⟩ := idx5 (.int .i64 ((c.nodes k).known 0)) (.int .i64 ((c.nodes k).known 1)) (.int .i64 ((c.nodes k).known 2)) (.int .i64 ((c.nodes k).known 3)) (.int .i64 ((c.nodes k).known 4)) wr
    have HB : Hid (Below w.heap.size w wr) := hbel
    clear hbel
    have HIs : Hid (∀ j, j < 5 → Calls Try.prog 67 #[.pointer (some ⟨b, 0, none⟩), .int .i64 k, .int .i64 (j : Nat)] wr fun e w' => e = .returned (.bool (isOther c k j)) ∧ Below wr.heap.size wr w') := fun j hj => isOther_any (H.out.below HB.out) HO.out k j hk hj
    by_cases hj : j < 5
    · have HS : Hid (doneTo c k (j + 1) = if (c.nodes k).known j < doneTo c k j ∧ isOther c k j = true then (c.nodes k).known j else doneTo c k j) := rfl
      generalize doneTo c k j = d at HS
      by_cases hlt : (c.nodes k).known j < d
      · cases hoth : isOther c k j
        all_goals
          have HS' : Hid (doneTo c k (j + 1) = if isOther c k j = true then (c.nodes k).known j else d) := by show doneTo c k (j + 1) = _; rw [HS.out]; simp [hlt]
          rw [hoth] at HS'
          clear HS
          match j, hj with
          | 0, _ | 1, _ | 2, _ | 3, _ | 4, _ =>
            go_wp2_with (go_at_call 67; refine (HIs.out _ (by decide)).mono ?_; rintro e w2 ⟨rfl, hB2⟩; have HB2 : Hid (Below wr.heap.size wr w2) := hB2; clear hB2)
            go_roundw
            case rel => exact ⟨_, by decide, rfl, congrArg (Value.int .i64) HS'.out.symm, HB.out.trans (HB2.out.mono HB.out.size)⟩
            case measure => simp [intOf]
      · have HS' : Hid (doneTo c k (j + 1) = d) := by show doneTo c k (j + 1) = _; rw [HS.out]; simp [hlt]
        clear HS HIs
        match j, hj with
        | 0, _ | 1, _ | 2, _ | 3, _ | 4, _ =>
          go_wp2_with fail
          go_roundw
          case rel => exact ⟨_, by decide, rfl, congrArg (Value.int .i64) HS'.out.symm, HB.out⟩
          case measure => simp [intOf]
    · have : j = 5 := by omega
      subst this
      go_wp2
      go_ret
      exact ⟨rfl, HB.out⟩
end
end Go.Proofs.Ythpjcmilfipbaaa
