/- My own text: several texts in one. -/
import Derived.Test.YthpjcmilfipbaaaP1
import Derived.Test.YthpjcmilfipbaaaRows
import Derived.WalkKit
import Derived.WalkSpells
import Derived.WalkLawsBesides
import Derived.Deep.RegionHeld3
import Derived.Deep.QuietTactic
import Derived.BigQuiet
import Derived.Deep.RegionLaw
import Derived.Deep.AppendLies
namespace Go.Proofs.Ythpjcmilfipbaaa
set_option linter.unusedVariables false
set_option linter.unusedSimpArgs false
structure Mem where
  up : Bool
  follows : Int
  given : Int
  role : Int
  log : List Rec
  knows : Nat → Int
  has : Nat → Bool
structure Wd where
  mem : Nat → Mem
  eras : List Era
  active : Int
  way : List Msg
def Wd.era (d : Wd) (e : Int) : Era := d.eras.getD (e - 1).toNat era0
def rIn (d : Wd) (e : Int) (i : Nat) : Bool := decide ((d.era e).members / 2 ^ i % 2 = 1)
def Wd.put (d : Wd) (k : Nat) (m : Mem) : Wd := { d with mem := upd d.mem k m }
def rDoneTo (d : Wd) (k : Nat) : Nat → Int
  | 0 => (d.mem k).log.length
  | j + 1 => if j ≠ k ∧ rIn d (d.mem k).follows j = true ∧ (d.mem k).knows j < rDoneTo d k j then (d.mem k).knows j else rDoneTo d k j
def rDone (d : Wd) (k : Nat) : Int := if (d.mem k).role = 3 then rDoneTo d k 5 else 0
def rSends (d : Wd) (m : Msg) : Wd := if d.way.length < 50 then { d with way := d.way ++ [m] } else d
def rAppends (d : Wd) (k to : Nat) (n : Int) : Wd :=
  rSends d { kind := 8, frm := k, to := to, epoch := (d.mem k).follows, n := n, recs := ((d.mem k).log.drop n.toNat).take 1 }
def rRef (d : Wd) (node : Int) (up : Bool) : Int := if nodeB node then (if up && !(d.mem node.toNat).up then 3 else 0) else 2
def rProdTo (d : Wd) (k : Nat) (m : Mem) (kk n dn : Int) : Nat → Wd
  | 0 => d
  | j + 1 =>
    if j = k ∨ rIn (rProdTo d k m kk n dn j) m.follows j = false then rProdTo d k m kk n dn j
    else if kk < 0 then rAppends (rProdTo d k m kk n dn j) k j n
    else if dn ≤ kk ∧ m.knows j < n then rAppends (rProdTo d k m kk n dn j) k j (m.knows j)
    else rProdTo d k m kk n dn j
def rPutLog (d : Wd) (k : Nat) (l : List Rec) : Wd := d.put k { d.mem k with log := l }
def rProduceOld (d : Wd) (k : Nat) (kk : Int) : Wd × Int × Bool × Int :=
  (rProdTo d k (d.mem k) kk (d.mem k).log.length (rDone d k) 5, kk, decide (kk < rDone d k), 0)
def rProduceNew (d : Wd) (k : Nat) (kk : Int) (r : Rec) : Wd × Int × Bool × Int :=
  (rProdTo (rPutLog d k ((d.mem k).log ++ [r])) k (d.mem k) kk (d.mem k).log.length (rDone (rPutLog d k ((d.mem k).log ++ [r])) k) 5, (d.mem k).log.length,
    decide (((d.mem k).log.length : Int) < rDone (rPutLog d k ((d.mem k).log ++ [r])) k), 0)
def rProduceAt (d : Wd) (k : Nat) (p s v : Int) : Wd × Int × Bool × Int :=
  if offsetOf (d.mem k).log p s < 0 then
    if 1 < s ∧ offsetOf (d.mem k).log p (s - 1) < 0 then (d, 0, false, 7)
    else if 60 ≤ (d.mem k).log.length then (d, 0, false, 8)
    else rProduceNew d k (offsetOf (d.mem k).log p s) ⟨p, s, v⟩
  else rProduceOld d k (offsetOf (d.mem k).log p s)
def rProduce (d : Wd) (node p s v : Int) : Wd × Int × Bool × Int :=
  if rRef d node true ≠ 0 then (d, 0, false, rRef d node true)
  else if recB p s v = false then (d, 0, false, 5)
  else if (d.mem node.toNat).role ≠ 3 then (d, 0, false, 6)
  else rProduceAt d node.toNat p s v
def rFetch (d : Wd) (node off : Int) : Rec × Int :=
  if rRef d node true ≠ 0 then (⟨0, 0, 0⟩, rRef d node true)
  else if (d.mem node.toNat).role ≠ 3 then (⟨0, 0, 0⟩, 6)
  else if off < 0 then (⟨0, 0, 0⟩, 5)
  else if rDone d node.toNat ≤ off then (⟨0, 0, 0⟩, 9)
  else ((d.mem node.toNat).log.getD off.toNat ⟨0, 0, 0⟩, 0)
def rUnder (d : Wd) (i : Int) : Bool := decide (0 ≤ i) && decide (i < (d.way.length : Int))
def rOut (d : Wd) (i : Nat) : Wd := { d with way := d.way.eraseIdx i }
def rFollows (d : Wd) (k : Nat) (e role : Int) : Wd := if (d.mem k).follows < e then d.put k { d.mem k with follows := e, role := role } else d
def rGiven (d : Wd) (k : Nat) (e : Int) (l : List Rec) : Wd := d.put k { d.mem k with log := l, given := e }
def rRole (d : Wd) (k : Nat) (r : Int) : Wd := d.put k { d.mem k with role := r }
def rOthersTo (d : Wd) (k : Nat) : Nat → Bool
  | 0 => true
  | j + 1 => rOthersTo d k j && !(decide (j ≠ k) && rIn d (d.mem k).follows j && !(d.mem k).has j)
def rOthers (d : Wd) (k : Nat) : Bool := rOthersTo d k 5
def rReady (d : Wd) (k : Nat) (e : Int) : Wd := rSends d { kind := 6, frm := k, to := -1, epoch := e, n := 0, recs := [] }
def rHandsTo (d : Wd) (k : Nat) (m : Mem) : Nat → Wd
  | 0 => d
  | j + 1 =>
    if j ≠ k ∧ rIn (rHandsTo d k m j) m.follows j = true ∧ m.has j = false then
      rSends (rHandsTo d k m j) { kind := 4, frm := k, to := j, epoch := m.follows, n := m.log.length, recs := m.log }
    else rHandsTo d k m j
def rHands (d : Wd) (k : Nat) : Wd := if rOthers d k then rReady d k (d.mem k).follows else rHandsTo d k (d.mem k) 5
def rReadsTo (d : Wd) (k : Nat) (e before : Int) : Nat → Wd
  | 0 => d
  | j + 1 =>
    if rIn (rReadsTo d k e before j) before j = true then rSends (rReadsTo d k e before j) { kind := 2, frm := k, to := j, epoch := e, n := 0, recs := [] }
    else rReadsTo d k e before j
def rWake (d : Wd) (k : Nat) (e : Int) : Wd := if (d.mem k).role = 0 ∧ (d.mem k).given < e then rRole d k 1 else d
def rStart2 (d : Wd) (k : Nat) (e : Int) : Wd :=
  if (d.mem k).role = 1 then rReadsTo d k e (d.era e).before 5 else if (d.mem k).role = 2 then rHands d k else d
def rStarts (d : Wd) (k : Nat) (e : Int) : Wd := rStart2 (rWake (rFollows d k e 1) k e) k e
def rTell (d : Wd) (k : Nat) (m : Msg) : Wd := d.put k { d.mem k with role := 2, has := fun _ => false, log := m.recs, given := m.epoch }
def rHas (d : Wd) (k : Nat) (frm : Nat) : Wd := d.put k { d.mem k with has := upd (d.mem k).has frm true }
def rServe (d : Wd) (k : Nat) : Wd := d.put k { d.mem k with role := 3, knows := fun _ => (d.mem k).log.length }
def rKnow (d : Wd) (k : Nat) (frm : Nat) (n : Int) : Wd := if (d.mem k).knows frm < n then d.put k { d.mem k with knows := upd (d.mem k).knows frm n } else d
def rAck (d : Wd) (k frm : Nat) : Wd := if (d.mem k).knows frm < (d.mem k).log.length then rAppends d k frm ((d.mem k).knows frm) else d
def rLeads (d : Wd) (k : Nat) (m : Msg) : Wd :=
  if m.kind = 3 ∧ (d.mem k).role = 1 then rHands (rTell d k m) k
  else if m.kind = 5 ∧ (d.mem k).role = 2 then (if rOthers (rHas d k m.frm.toNat) k then rReady (rHas d k m.frm.toNat) k m.epoch else rHas d k m.frm.toNat)
  else if m.kind = 7 ∧ (d.mem k).role = 2 then rServe d k
  else if m.kind = 9 ∧ (d.mem k).role = 3 then rAck (rKnow d k m.frm.toNat m.n) k m.frm.toNat
  else d
def rTakeAppend (d : Wd) (k : Nat) (m : Msg) : Wd := if m.n = ((d.mem k).log.length : Int) then rPutLog d k ((d.mem k).log ++ m.recs) else d
def rSay (d : Wd) (k : Nat) (m : Msg) (kind : Int) (n : Int) (l : List Rec) : Wd := rSends d { kind := kind, frm := k, to := m.frm, epoch := m.epoch, n := n, recs := l }
def rTakes (d : Wd) (k : Nat) (m : Msg) : Wd :=
  if m.epoch < (d.mem k).follows then d
  else if m.kind = 1 then rStarts d k m.epoch
  else if m.kind = 2 then rSay (rFollows d k m.epoch 0) k m 3 ((rFollows d k m.epoch 0).mem k).log.length ((rFollows d k m.epoch 0).mem k).log
  else if m.kind = 4 then
    if ((rFollows d k m.epoch 0).mem k).given < m.epoch then rSay (rGiven (rFollows d k m.epoch 0) k m.epoch m.recs) k m 5 0 [] else rSay (rFollows d k m.epoch 0) k m 5 0 []
  else if m.kind = 8 then
    if (d.mem k).follows = m.epoch ∧ (d.mem k).given = m.epoch ∧ (d.mem k).role = 0 then rSay (rTakeAppend d k m) k m 9 ((rTakeAppend d k m).mem k).log.length [] else d
  else if (d.mem k).follows = m.epoch then rLeads d k m else d
def rMaster (d : Wd) (e : Int) : Wd :=
  if e = d.eras.length then rSends { d with active := e } { kind := 7, frm := -1, to := (d.era e).leader, epoch := e, n := 0, recs := [] } else d
def rGet (d : Wd) (m : Msg) : Wd :=
  if m.to = -1 then rMaster d m.epoch else if (d.mem m.to.toNat).up then rTakes d m.to.toNat m else d
def rDeliver (d : Wd) (i : Int) : Wd × Int :=
  if rUnder d i then (match d.way[i.toNat]? with | some m => rGet (rOut d i.toNat) m | none => d, 0) else (d, 13)
def rDrop (d : Wd) (i : Int) : Wd × Int := if rUnder d i then (rOut d i.toNat, 0) else (d, 13)
def rTwice (d : Wd) (i : Int) : Wd × Int :=
  if rUnder d i then (match d.way[i.toNat]? with | some m => rSends d m | none => d, 0) else (d, 13)
def rCrash (d : Wd) (node : Int) : Wd × Int :=
  if rRef d node true = 0 then (d.put node.toNat { d.mem node.toNat with up := false, role := 0 }, 0) else (d, rRef d node true)
def rRestart (d : Wd) (node : Int) : Wd × Int :=
  if rRef d node false ≠ 0 then (d, rRef d node false)
  else if (d.mem node.toNat).up then (d, 4) else (d.put node.toNat { d.mem node.toNat with up := true }, 0)
def rBad (members leader : Int) : Bool := decide (members < 1) || decide (32 ≤ members) || decide (leader < 0) || decide (5 ≤ leader)
def rReconf (d : Wd) (members leader : Int) : Wd × Int :=
  if rBad members leader then (d, 10)
  else if members / 2 ^ leader.toNat % 2 = 0 then (d, 10)
  else if 40 ≤ d.eras.length then (d, 11)
  else (rSends { d with eras := d.eras ++ [⟨members, leader, d.active⟩] } { kind := 1, frm := -1, to := leader, epoch := d.eras.length + 1, n := 0, recs := [] }, 0)
def rRemind (d : Wd) : Wd × Int :=
  if d.active = d.eras.length then (d, 12)
  else (rSends d { kind := 1, frm := -1, to := (d.era d.eras.length).leader, epoch := d.eras.length, n := 0, recs := [] }, 0)
def recOk (r : Rec) : Prop := 0 ≤ r.p ∧ r.p ≤ 255 ∧ 0 ≤ r.s ∧ r.s ≤ 255 ∧ 0 ≤ r.v ∧ r.v ≤ 255
/-- A message that may be under way. -/
structure MsgOk (eras : Nat) (m : Msg) : Prop where
  to : -1 ≤ m.to ∧ m.to < 5
  frm : -1 ≤ m.frm ∧ m.frm < 5
  lead : m.kind = 9 ∨ m.kind = 5 → 0 ≤ m.frm
  ep : 1 ≤ m.epoch ∧ m.epoch ≤ eras
  start : m.kind = 1 → 2 ≤ m.epoch
  n : 0 ≤ m.n ∧ m.n ≤ 60
  len : m.recs.length ≤ 60
  app : m.kind = 8 → m.recs.length ≤ 1 ∧ m.n ≤ 59
  recs : ∀ r ∈ m.recs, recOk r
/-- What the document's answer keeps, so that it never panics. -/
structure ROk (d : Wd) : Prop where
  e1 : 1 ≤ d.eras.length
  e40 : d.eras.length ≤ 40
  act : 1 ≤ d.active ∧ d.active ≤ d.eras.length
  era : ∀ (e : Nat) (x : Era), d.eras[e]? = some x → 1 ≤ x.members ∧ x.members < 32 ∧ 0 ≤ x.leader ∧ x.leader < 5 ∧ 0 ≤ x.before ∧ x.before ≤ e ∧ (1 ≤ e → 1 ≤ x.before)
  fol : ∀ k, k < 5 → 0 ≤ (d.mem k).follows ∧ (d.mem k).follows ≤ d.eras.length
  rol : ∀ k, k < 5 → (d.mem k).role ≠ 0 → 1 ≤ (d.mem k).follows
  log : ∀ k, k < 5 → (d.mem k).log.length ≤ 60
  byt : ∀ k, k < 5 → ∀ r ∈ (d.mem k).log, recOk r
  kno : ∀ k j, k < 5 → j < 5 → 0 ≤ (d.mem k).knows j ∧ (d.mem k).knows j ≤ 60
  way : d.way.length ≤ 50
  msg : ∀ m ∈ d.way, MsgOk d.eras.length m
end Go.Proofs.Ythpjcmilfipbaaa

namespace Go.Proofs.Ythpjcmilfipbaaa
set_option linter.unusedVariables false
set_option linter.unusedSimpArgs false
open Go.RowKit
def recBytes (l : List Rec) : List UInt8 := l.flatMap fun r => [UInt8.ofNat r.p.toNat, UInt8.ofNat r.s.toNat, UInt8.ofNat r.v.toNat]
def encB (l : List Rec) : ByteArray := ⟨(recBytes l).toArray⟩
theorem recBytes_len (l : List Rec) : (recBytes l).length = l.length * 3 := flat_len _ 3 (fun _ => rfl) l
theorem encB_size (l : List Rec) : (encB l).size = l.length * 3 := by
  show (recBytes l).toArray.size = _
  simp [recBytes_len]
theorem encB_nil : encB [] = ByteArray.empty := rfl
theorem encB_append (l m : List Rec) : encB (l ++ m) = encB l ++ encB m := by
  have : recBytes (l ++ m) = recBytes l ++ recBytes m := by simp [recBytes]
  unfold encB
  rw [this, ByteArray.mk_append_mk]
theorem byte_nat {x : Int} (h0 : 0 ≤ x) (h1 : x ≤ 255) : ((UInt8.ofNat x.toNat).toNat : Int) = x := by
  have : x.toNat < 256 := by omega
  simp [UInt8.toNat_ofNat']
  omega
theorem encB_at (l : List Rec) (k j : Nat) (r : Rec) (hr : l[k]? = some r) (hj : j < 3) (h : k * 3 + j < (encB l).size) :
    some ((encB l)[k * 3 + j]) = [UInt8.ofNat r.p.toNat, UInt8.ofNat r.s.toNat, UInt8.ofNat r.v.toNat][j]? := by
  have h2 := flat_at (fun r : Rec => [UInt8.ofNat r.p.toNat, UInt8.ofNat r.s.toNat, UInt8.ofNat r.v.toNat]) 3 (fun _ => rfl) l k j r hr hj
  rw [← h2]
  show some ((recBytes l).toArray[k * 3 + j]) = (recBytes l)[k * 3 + j]?
  have : k * 3 + j < (recBytes l).length := by rw [recBytes_len]; rw [encB_size] at h; exact h
  rw [List.getElem?_eq_getElem this]
  rfl

def eraCells (l : List Era) : List Value := l.flatMap fun x => [.int .i64 x.members, .int .i64 x.leader, .int .i64 x.before]
def letRow (m : Msg) : List Value := [.int .i64 m.kind, .int .i64 m.frm, .int .i64 m.to, .int .i64 m.epoch, .int .i64 m.n, .string (encB m.recs)]
def letCells (l : List Msg) : List Value := l.flatMap letRow
theorem eraCells_len (l : List Era) : (eraCells l).length = l.length * 3 := flat_len _ 3 (fun _ => rfl) l
theorem letCells_len (l : List Msg) : (letCells l).length = l.length * 6 := flat_len _ 6 (fun _ => rfl) l
theorem eraCells_append (l m : List Era) : eraCells (l ++ m) = eraCells l ++ eraCells m := by simp [eraCells]
theorem letCells_append (l m : List Msg) : letCells (l ++ m) = letCells l ++ letCells m := by simp [letCells]
theorem letRow_one (m : Msg) : ∀ u ∈ letRow m, u.oneCell' = true := by
  intro u hu
  simp only [letRow, List.mem_cons, List.not_mem_nil, or_false] at hu
  rcases hu with rfl | rfl | rfl | rfl | rfl | rfl <;> rfl
theorem let_cells {w : World} {e g n cap : Nat} {l : List Msg} (h : w.ownsRow 0 e 6 (.slice (some ⟨g, 0, none⟩) n cap) n (letCells l)) (k : Nat) (x : Msg) (hk : l[k]? = some x) :
    w.cell? ⟨g, k * 6, none⟩ = some (.int .i64 x.kind) ∧ w.cell? ⟨g, k * 6 + 1, none⟩ = some (.int .i64 x.frm) ∧ w.cell? ⟨g, k * 6 + 2, none⟩ = some (.int .i64 x.to) ∧
    w.cell? ⟨g, k * 6 + 3, none⟩ = some (.int .i64 x.epoch) ∧ w.cell? ⟨g, k * 6 + 4, none⟩ = some (.int .i64 x.n) ∧ w.cell? ⟨g, k * 6 + 5, none⟩ = some (.string (encB x.recs)) := by
  have hc := h.cells (g := g) rfl
  have key : ∀ j u, j < 6 → (letRow x)[j]? = some u → w.cell? ⟨g, k * 6 + j, none⟩ = some u := by
    intro j u hj hu
    have := hc (k * 6 + j) u (by rw [letCells, flat_at _ 6 (fun _ => rfl) l k j x hk hj]; exact hu)
    rwa [add_at] at this
  exact ⟨by simpa using key 0 _ (by omega) rfl, key 1 _ (by omega) rfl, key 2 _ (by omega) rfl, key 3 _ (by omega) rfl, key 4 _ (by omega) rfl, key 5 _ (by omega) rfl⟩
theorem era_cells {w : World} {e g n cap : Nat} {l : List Era} (h : w.ownsRow 0 e 3 (.slice (some ⟨g, 0, none⟩) n cap) n (eraCells l)) (k : Nat) (x : Era) (hk : l[k]? = some x) :
    w.cell? ⟨g, k * 3, none⟩ = some (.int .i64 x.members) ∧ w.cell? ⟨g, k * 3 + 1, none⟩ = some (.int .i64 x.leader) ∧ w.cell? ⟨g, k * 3 + 2, none⟩ = some (.int .i64 x.before) := by
  have hc := h.cells (g := g) rfl
  have key : ∀ j u, j < 3 → ([Value.int .i64 x.members, .int .i64 x.leader, .int .i64 x.before] : List Value)[j]? = some u → w.cell? ⟨g, k * 3 + j, none⟩ = some u := by
    intro j u hj hu
    have := hc (k * 3 + j) u (by rw [eraCells, flat_at _ 3 (fun _ => rfl) l k j x hk hj]; exact hu)
    rwa [add_at] at this
  exact ⟨by simpa using key 0 _ (by omega) rfl, key 1 _ (by omega) rfl, key 2 _ (by omega) rfl⟩

/-- The world's own block. -/
structure RCells (cs : Array Value) (m : Nat → Mem) (ev : Value) (act : Int) (uv : Value) : Prop where
  size : cs.size = 78
  up : ∀ k, k < 5 → cs[k * 15]? = some (.bool (m k).up)
  fol : ∀ k, k < 5 → cs[k * 15 + 1]? = some (.int .i64 (m k).follows)
  giv : ∀ k, k < 5 → cs[k * 15 + 2]? = some (.int .i64 (m k).given)
  rol : ∀ k, k < 5 → cs[k * 15 + 3]? = some (.int .i64 (m k).role)
  log : ∀ k, k < 5 → cs[k * 15 + 4]? = some (.string (encB (m k).log))
  kno : ∀ k j, k < 5 → j < 5 → cs[k * 15 + 5 + j]? = some (.int .i64 ((m k).knows j))
  has : ∀ k j, k < 5 → j < 5 → cs[k * 15 + 10 + j]? = some (.bool ((m k).has j))
  eras : cs[75]? = some ev
  act : cs[76]? = some (.int .i64 act)
  way : cs[77]? = some uv
/-- A store into the world's block: what each cell reads as then. -/
theorem RCells.set {cs : Array Value} {m m' : Nat → Mem} {ev ev' : Value} {act act' : Int} {uv uv' : Value} (h : RCells cs m ev act uv) (o : Nat) (v : Value) (ho : o < 78)
    (h1 : ∀ i, i < 5 → (if o = i * 15 then v else .bool (m i).up) = .bool (m' i).up)
    (h2 : ∀ i, i < 5 → (if o = i * 15 + 1 then v else .int .i64 (m i).follows) = .int .i64 (m' i).follows)
    (h3 : ∀ i, i < 5 → (if o = i * 15 + 2 then v else .int .i64 (m i).given) = .int .i64 (m' i).given)
    (h4 : ∀ i, i < 5 → (if o = i * 15 + 3 then v else .int .i64 (m i).role) = .int .i64 (m' i).role)
    (h5 : ∀ i, i < 5 → (if o = i * 15 + 4 then v else .string (encB (m i).log)) = .string (encB (m' i).log))
    (h6 : ∀ i j, i < 5 → j < 5 → (if o = i * 15 + 5 + j then v else .int .i64 ((m i).knows j)) = .int .i64 ((m' i).knows j))
    (h7 : ∀ i j, i < 5 → j < 5 → (if o = i * 15 + 10 + j then v else .bool ((m i).has j)) = .bool ((m' i).has j))
    (h8 : (if o = 75 then v else ev) = ev') (h9 : (if o = 76 then v else .int .i64 act) = .int .i64 act') (h10 : (if o = 77 then v else uv) = uv') : RCells (cs.setIfInBounds o v) m' ev' act' uv' := by
  have hs := h.size
  have key : ∀ j u u', j < 78 → cs[j]? = some u → (if o = j then v else u) = u' → (cs.setIfInBounds o v)[j]? = some u' := by
    intro j u u' hj hu he
    rw [Array.getElem?_setIfInBounds]
    by_cases e : o = j
    · rw [if_pos e] at he ⊢; rw [if_pos (by omega), he]
    · rw [if_neg e] at he ⊢; rw [hu, he]
  exact { size := by simp [hs], up := fun i hi => key _ _ _ (by omega) (h.up i hi) (h1 i hi), fol := fun i hi => key _ _ _ (by omega) (h.fol i hi) (h2 i hi)
          giv := fun i hi => key _ _ _ (by omega) (h.giv i hi) (h3 i hi), rol := fun i hi => key _ _ _ (by omega) (h.rol i hi) (h4 i hi)
          log := fun i hi => key _ _ _ (by omega) (h.log i hi) (h5 i hi), kno := fun i j hi hj => key _ _ _ (by omega) (h.kno i j hi hj) (h6 i j hi hj)
          has := fun i j hi hj => key _ _ _ (by omega) (h.has i j hi hj) (h7 i j hi hj)
          eras := key _ _ _ (by omega) h.eras h8, act := key _ _ _ (by omega) h.act h9, way := key _ _ _ (by omega) h.way h10 }
structure RRep (w : World) (S : Nat → Prop) (b : Nat) (d : Wd) (ev uv : Value) : Prop where
  blk : ∃ cs, w.heap[b]? = some (.cells cs 116 (0, 0)) ∧ RCells cs d.mem ev d.active uv
  inb : S b
  eras : w.ownsRow 0 118 3 ev d.eras.length (eraCells d.eras)
  eraS : ∀ g, ev.ownBlock = some g → S g
  way : w.ownsRow 0 134 6 uv d.way.length (letCells d.way)
  wayS : ∀ g, uv.ownBlock = some g → S g
section
variable {w : World} {S : Nat → Prop} {b : Nat} {d : Wd} {ev uv : Value}
theorem RRep.cell (h : RRep w S b d ev uv) : ∃ cs, RCells cs d.mem ev d.active uv ∧ (∀ o, w.cell? ⟨b, o, none⟩ = cs[o]?) ∧ ∀ o, w.frozen? ⟨b, o, none⟩ = false := by
  obtain ⟨cs, hb, hc⟩ := h.blk
  exact ⟨cs, hc, fun o => cell_of_row w b o cs _ _ hb, fun o => by simp [World.frozen?, hb]⟩
theorem RRep.lt (h : RRep w S b d ev uv) : b < w.heap.size := by
  obtain ⟨cs, hb, _⟩ := h.blk
  exact (Array.getElem?_eq_some_iff.1 hb).1
theorem RRep.cUp (h : RRep w S b d ev uv) : ∀ k, k < 5 → w.cell? ⟨b, k * 15, none⟩ = some (.bool (d.mem k).up) := by
  obtain ⟨cs, hc, hk, _⟩ := h.cell; intro k h5; rw [hk]; exact hc.up k h5
theorem RRep.cFol (h : RRep w S b d ev uv) : ∀ k, k < 5 → w.cell? ⟨b, k * 15 + 1, none⟩ = some (.int .i64 (d.mem k).follows) := by
  obtain ⟨cs, hc, hk, _⟩ := h.cell; intro k h5; rw [hk]; exact hc.fol k h5
theorem RRep.cGiv (h : RRep w S b d ev uv) : ∀ k, k < 5 → w.cell? ⟨b, k * 15 + 2, none⟩ = some (.int .i64 (d.mem k).given) := by
  obtain ⟨cs, hc, hk, _⟩ := h.cell; intro k h5; rw [hk]; exact hc.giv k h5
theorem RRep.cRol (h : RRep w S b d ev uv) : ∀ k, k < 5 → w.cell? ⟨b, k * 15 + 3, none⟩ = some (.int .i64 (d.mem k).role) := by
  obtain ⟨cs, hc, hk, _⟩ := h.cell; intro k h5; rw [hk]; exact hc.rol k h5
theorem RRep.cLog (h : RRep w S b d ev uv) : ∀ k, k < 5 → w.cell? ⟨b, k * 15 + 4, none⟩ = some (.string (encB (d.mem k).log)) := by
  obtain ⟨cs, hc, hk, _⟩ := h.cell; intro k h5; rw [hk]; exact hc.log k h5
theorem RRep.cKno (h : RRep w S b d ev uv) : ∀ k j, k < 5 → j < 5 → w.cell? ⟨b, k * 15 + 5 + j, none⟩ = some (.int .i64 ((d.mem k).knows j)) := by
  obtain ⟨cs, hc, hk, _⟩ := h.cell; intro k j h5 hj; rw [hk]; exact hc.kno k j h5 hj
theorem RRep.cHas (h : RRep w S b d ev uv) : ∀ k j, k < 5 → j < 5 → w.cell? ⟨b, k * 15 + 10 + j, none⟩ = some (.bool ((d.mem k).has j)) := by
  obtain ⟨cs, hc, hk, _⟩ := h.cell; intro k j h5 hj; rw [hk]; exact hc.has k j h5 hj
theorem RRep.cEras (h : RRep w S b d ev uv) : w.cell? ⟨b, 75, none⟩ = some ev := by
  obtain ⟨cs, hc, hk, _⟩ := h.cell; rw [hk]; exact hc.eras
theorem RRep.cAct (h : RRep w S b d ev uv) : w.cell? ⟨b, 76, none⟩ = some (.int .i64 d.active) := by
  obtain ⟨cs, hc, hk, _⟩ := h.cell; rw [hk]; exact hc.act
theorem RRep.cWay (h : RRep w S b d ev uv) : w.cell? ⟨b, 77, none⟩ = some uv := by
  obtain ⟨cs, hc, hk, _⟩ := h.cell; rw [hk]; exact hc.way
theorem RRep.free (h : RRep w S b d ev uv) : ∀ o, w.frozen? ⟨b, o, none⟩ = false := by
  obtain ⟨cs, _, _, hf⟩ := h.cell; exact hf
theorem RRep.same {w' : World} (h : RRep w S b d ev uv) (hk : ∀ k, S k → k < w.heap.size → w'.heap[k]? = w.heap[k]?) : RRep w' S b d ev uv := by
  obtain ⟨cs, hb, hc⟩ := h.blk
  exact { blk := ⟨cs, by rw [hk b h.inb h.lt]; exact hb, hc⟩, inb := h.inb
          eras := ownsRow_same h.eras fun g hg hl => hk g (h.eraS g hg) hl, eraS := h.eraS
          way := ownsRow_same h.way fun g hg hl => hk g (h.wayS g hg) hl, wayS := h.wayS }
theorem RRep.mono {S' : Nat → Prop} (h : RRep w S b d ev uv) (hs : ∀ k, k < w.heap.size → S k → S' k) : RRep w S' b d ev uv :=
  { blk := h.blk, inb := hs _ h.lt h.inb, eras := h.eras, eraS := fun g hg => hs g (ownsRow_lt h.eras hg) (h.eraS g hg), way := h.way, wayS := fun g hg => hs g (ownsRow_lt h.way hg) (h.wayS g hg) }
theorem RRep.below {w' : World} (h : RRep w S b d ev uv) (hb : Below w.heap.size w w') : RRep w' S b d ev uv := h.same fun k _ hk => hb.block k hk
theorem RRep.alloc (h : RRep w S b d ev uv) (o : Obj) : RRep (w.alloc o) S b d ev uv := h.same fun k _ hk => Below.heap_alloc _ _ _ hk
theorem RRep.drew (h : RRep w S b d ev uv) : RRep w.drew S b d ev uv := h.same fun k _ hk => rfl
theorem RRep.fr {S' : Nat → Prop} {w' : World} (h : RRep w S b d ev uv) (hf : Fr S' w w') (hd : ∀ k, S k → ¬ S' k) : RRep w' S b d ev uv :=
  h.same fun k hs hk => hf.block k hk (hd k hs)
/-- A store into one of the members' cells (or the number of the active epoch). -/
theorem RRep.setCell (h : RRep w S b d ev uv) (o : Nat) (v : Value) (d' : Wd) (he : d'.eras = d.eras) (hw : d'.way = d.way)
    (hc : ∀ cs, RCells cs d.mem ev d.active uv → RCells (cs.setIfInBounds o v) d'.mem ev d'.active uv) : RRep (w.setCell ⟨b, o, none⟩ v) S b d' ev uv ∧ Fr S w (w.setCell ⟨b, o, none⟩ v) := by
  obtain ⟨cs, hb, hcs⟩ := h.blk
  have keep : ∀ {v' : Value} {n : Nat} {xs : List Value} {e sz : Nat}, w.ownsRow 0 e sz v' n xs → e ≠ 116 → (w.setCell ⟨b, o, none⟩ v).ownsRow 0 e sz v' n xs := by
    intro v' n xs e sz ho hne
    refine ownsRow_same ho fun g hg _ => Below.heap_setCell _ _ _ _ ?_
    obtain ⟨cu, hcu⟩ := ownsRow_block ho hg
    exact ne_of_type hcu hb hne
  exact ⟨{ blk := ⟨_, heap_setCell_at _ _ _ _ _ _ _ hb, hc cs hcs⟩, inb := h.inb, eras := by rw [he]; exact keep h.eras (by decide), eraS := h.eraS
           way := by rw [hw]; exact keep h.way (by decide), wayS := h.wayS }, Fr.setCell _ _ h.inb _⟩
end
end Go.Proofs.Ythpjcmilfipbaaa

namespace Go.Proofs.Ythpjcmilfipbaaa
set_option linter.unusedVariables false
set_option linter.unusedSimpArgs false
open Go.RowKit
theorem ret_boolR {a b : Bool} (h : a = b) : Ending.returned (.bool a) = .returned (.bool b) := by rw [h]
theorem ret_intR {k : IntKind} {a b : Int} (h : a = b) : Ending.returned (.int k a) = .returned (.int k b) := by rw [h]

set_option maxHeartbeats 400000 in
theorem rcount_any (l : List Rec) (hl : l.length ≤ 60) (w : World) :
    Calls Try.prog 74 #[.string (encB l)] w fun e w' => e = .returned (.int .i64 l.length) ∧ w' = w := by
  have hs := encB_size l
  go_enter Try.func74, Try.ntmps74
  go_wp2
  go_ret
  exact ⟨by simp, rfl⟩

/-- The three bytes of a record, as numbers. -/
theorem enc_idx (l : List Rec) (k : Nat) (r : Rec) (hr : l[k]? = some r) (hok : recOk r) (w : World) :
    (Instr.index 9 (.string (encB l)) (.int .i64 (3 * (k : Int)))).run Try.prog w = .ok (.int .u8 r.p) w ∧
    (Instr.index 9 (.string (encB l)) (.int .i64 (3 * (k : Int) + 1))).run Try.prog w = .ok (.int .u8 r.s) w ∧
    (Instr.index 9 (.string (encB l)) (.int .i64 (3 * (k : Int) + 2))).run Try.prog w = .ok (.int .u8 r.v) w := by
  have hk : k < l.length := (List.getElem?_eq_some_iff.1 hr).1
  have hs := encB_size l
  obtain ⟨p0, p1, s0, s1, v0, v1⟩ := hok
  have key : ∀ (j : Nat) (x : Int), j < 3 → 0 ≤ x → x ≤ 255 → [UInt8.ofNat r.p.toNat, UInt8.ofNat r.s.toNat, UInt8.ofNat r.v.toNat][j]? = some (UInt8.ofNat x.toNat) →
      (Instr.index 9 (.string (encB l)) (.int .i64 (3 * (k : Int) + j))).run Try.prog w = .ok (.int .u8 x) w := by
    intro j x hj h0 h1 hx
    rw [run_index_string w 9 (encB l) .i64 _ Try.underlying9]
    have hin : 0 ≤ 3 * (k : Int) + j ∧ 3 * (k : Int) + j < (encB l).size := by rw [hs]; omega
    rw [dif_pos hin]
    have e1 : (3 * (k : Int) + j).toNat = k * 3 + j := by omega
    have hlt : k * 3 + j < (encB l).size := by rw [hs]; omega
    have e2 := encB_at l k j r hr hj hlt
    rw [hx] at e2
    have e3 : (encB l)[k * 3 + j] = UInt8.ofNat x.toNat := by simpa using e2
    have e4 : ((encB l)[(3 * (k : Int) + j).toNat]'(by rw [e1]; exact hlt)) = UInt8.ofNat x.toNat := by
      rw [← e3]; congr 1
    rw [e4, byte_nat h0 h1]
  exact ⟨by simpa using key 0 r.p (by omega) p0 p1 rfl, by simpa using key 1 r.s (by omega) s0 s1 rfl, by simpa using key 2 r.v (by omega) v0 v1 rfl⟩

set_option maxHeartbeats 800000 in
theorem rfind_any (l : List Rec) (hl : l.length ≤ 60) (hok : ∀ r ∈ l, recOk r) (p s : Int) (w : World) :
    Calls Try.prog 73 #[.string (encB l), .int .i64 p, .int .i64 s] w fun e w' => e = .returned (.int .i64 (offsetOf l p s)) ∧ w' = w := by
  have HK : Hid (∀ r ∈ l, recOk r) := hok
  clear hok
  go_enter Try.func73, Try.ntmps73
  go_wp2
  go_loop [7] (fun i => ∃ k : Nat, k ≤ l.length ∧ i = .int .i64 k ∧ (∀ j r, j < k → l[j]? = some r → ¬ (r.p = p ∧ r.s = s))) (fun i => l.length - (intOf i).toNat)
  case atStart => exact ⟨0, Nat.zero_le _, rfl, fun j r hj => by omega⟩
  case round =>
    obtain ⟨k, hk, rfl, hno⟩ := hrel
    have HN : Hid (∀ j r, j < k → l[j]? = some r → ¬ (r.p = p ∧ r.s = s)) := hno
    clear hno
    by_cases hlt : k < l.length
    · have hr : l[k]? = some l[k] := by simp [hlt]
      have hx := HK.out l[k] (List.getElem_mem hlt)
      have hi := fun w' => enc_idx l k l[k] hr hx w'
      obtain ⟨p0, p1, s0, s1, v0, v1⟩ := hx
      generalize l[k] = x at hr hi p0 p1 s0 s1 v0 v1
      have HR : Hid (l[k]? = some x) := hr
      clear hr
      obtain ⟨i0, i1, i2⟩ := hi w
      clear hi i2
      by_cases e1 : x.p = p
      · by_cases e2 : x.s = s
        · have b1 : (x.p == p) = true := by simpa using e1
          have b2 : (x.s == s) = true := by simpa using e2
          have HF : Hid (offsetOf l p s = k) := offsetOf_at l p s k x HN.out HR.out ⟨e1, e2⟩
          clear e1 e2
          go_wp2_with (go_at_call 74; refine (rcount_any l hl _).mono ?_; rintro e w' ⟨rfl, rfl⟩)
          go_ret
          exact ⟨ret_intR HF.out.symm, rfl⟩
        · have b1 : (x.p == p) = true := by simpa using e1
          have b2 : (x.s == s) = false := by simpa using e2
          have HE : Hid (¬ x.s = s) := e2
          clear e1 e2
          go_wp2_with (go_at_call 74; refine (rcount_any l hl _).mono ?_; rintro e w' ⟨rfl, rfl⟩)
          go_round
          case rel =>
            refine ⟨k + 1, by omega, by go_num, fun j r hj hjr => ?_⟩
            by_cases e : j = k
            · subst e; have := HR.out; rw [this] at hjr; simp at hjr; subst hjr; exact fun ⟨_, e⟩ => HE.out e
            · exact HN.out j r (by omega) hjr
          case measure => simp [intOf]; omega
      · have b1 : (x.p == p) = false := by simpa using e1
        have HE : Hid (¬ x.p = p) := e1
        clear e1
        go_wp2_with (go_at_call 74; refine (rcount_any l hl _).mono ?_; rintro e w' ⟨rfl, rfl⟩)
        go_round
        case rel =>
          refine ⟨k + 1, by omega, by go_num, fun j r hj hjr => ?_⟩
          by_cases e : j = k
          · subst e; have := HR.out; rw [this] at hjr; simp at hjr; subst hjr; exact fun ⟨e, _⟩ => HE.out e
          · exact HN.out j r (by omega) hjr
        case measure => simp [intOf]; omega
    · have HF : Hid (offsetOf l p s = -1) := offsetOf_none l p s (fun j r hj => HN.out j r (by omega))
      go_wp2_with (go_at_call 74; refine (rcount_any l hl _).mono ?_; rintro e w' ⟨rfl, rfl⟩)
      go_ret
      exact ⟨ret_intR HF.out.symm, rfl⟩
theorem bits_one (q : Int) (h0 : 0 ≤ q) (h1 : q < 32) : bits BinOp.and IntKind.i64 q 1 = q % 2 := by
  obtain ⟨n, rfl⟩ := Int.eq_ofNat_of_zero_le h0
  have : ∀ n : Fin 32, bits BinOp.and IntKind.i64 ((n : Nat) : Int) 1 = ((n : Nat) : Int) % 2 := by decide
  exact this ⟨n, by omega⟩
section
variable {w : World} {S : Nat → Prop} {b : Nat} {d : Wd} {ev uv : Value}

set_option maxHeartbeats 800000 in
theorem rin_any (h : RRep w S b d ev uv) (hok : ROk d) (m : Nat) (hm : m < d.eras.length) (i : Nat) (hi : i < 5) :
    Calls Try.prog 76 #[.pointer (some ⟨b, 0, none⟩), .int .i64 ((m : Int) + 1), .int .i64 i] w fun e w' => e = .returned (.bool (rIn d ((m : Int) + 1) i)) ∧ w' = w := by
  have he := h.cEras
  have h40 := hok.e40
  obtain ⟨ao, cap, rfl, hcap, _, hpos⟩ := ownsRow_shape h.eras
  obtain ⟨g, rfl⟩ := hpos (by omega)
  obtain ⟨c0, _, _⟩ := era_cells h.eras m d.eras[m] (by simp [hm])
  have hb := hok.era m d.eras[m] (by simp [hm])
  obtain ⟨m1, m32, _⟩ := hb
  have HF : Hid (rIn d ((m : Int) + 1) i = decide (d.eras[m].members / 2 ^ i % 2 = 1)) := by
    show rIn d ((m : Int) + 1) i = _
    have : ((m : Int) + 1 - 1).toNat = m := by omega
    simp [rIn, Wd.era, this, hm]
  generalize d.eras[m].members = q at c0 m1 m32 HF
  clear h hok hpos
  match i, hi with
  | 0, _ | 1, _ | 2, _ | 3, _ | 4, _ =>
    go_enter Try.func76, Try.ntmps76
    go_wp2
    go_ret
    refine ⟨ret_boolR ?_, rfl⟩
    rw [HF.out]
    rw [bits_one _ (by omega) (by omega), Bool.eq_iff_iff]
    simp only [beq_iff_eq, decide_eq_true_eq]
    first
      | exact Iff.rfl
      | (simp; done)
      | (constructor <;> intro h <;> simp at * <;> omega)

set_option maxHeartbeats 800000 in
theorem rref_nil (node : Int) (up : Bool) (w : World) :
    Calls Try.prog 72 #[.pointer none, .int .i64 node, .bool up] w fun e w' => e = .returned (.int .i64 1) ∧ w' = w := by
  go_enter Try.func72, Try.ntmps72
  go_wp2
  go_ret
  exact ⟨rfl, rfl⟩

set_option maxHeartbeats 800000 in
theorem rref_any (h : RRep w S b d ev uv) (node : Int) (up : Bool) :
    Calls Try.prog 72 #[.pointer (some ⟨b, 0, none⟩), .int .i64 node, .bool up] w fun e w' => e = .returned (.int .i64 (rRef d node up)) ∧ w' = w := by
  by_cases hn : 0 ≤ node ∧ node < 5
  · obtain ⟨h0, h5⟩ := hn
    obtain ⟨k, rfl⟩ := Int.eq_ofNat_of_zero_le h0
    have hk : k < 5 := by omega
    have hb : nodeB (k : Int) = true := by simp [nodeB]; omega
    have hc := h.cUp k hk
    clear h
    cases up
    · have HF : Hid (rRef d (k : Int) false = 0) := by show rRef d (k : Int) false = 0; simp [rRef, hb]
      go_enter Try.func72, Try.ntmps72
      go_wp2
      go_ret
      exact ⟨ret_intR HF.out.symm, rfl⟩
    · cases hup : (d.mem k).up <;> rw [hup] at hc
      · have HF : Hid (rRef d (k : Int) true = 3) := by show rRef d (k : Int) true = 3; simp [rRef, hb, hup]
        go_enter Try.func72, Try.ntmps72
        go_wp2
        go_ret
        exact ⟨ret_intR HF.out.symm, rfl⟩
      · have HF : Hid (rRef d (k : Int) true = 0) := by show rRef d (k : Int) true = 0; simp [rRef, hb, hup]
        go_enter Try.func72, Try.ntmps72
        go_wp2
        go_ret
        exact ⟨ret_intR HF.out.symm, rfl⟩
  · have hb : nodeB node = false := by simp [nodeB]; omega
    have HF : Hid (rRef d node up = 2) := by show rRef d node up = 2; simp [rRef, hb]
    clear h hb
    by_cases h0 : node < 0
    · clear hn
      go_enter Try.func72, Try.ntmps72
      go_wp2
      go_ret
      exact ⟨ret_intR HF.out.symm, rfl⟩
    · have h5 : 5 ≤ node := by omega
      clear hn
      go_enter Try.func72, Try.ntmps72
      go_wp2
      go_ret
      exact ⟨ret_intR HF.out.symm, rfl⟩

theorem wp_genR {P : Program} {c : Code} {Q : Exit → Act → World → Prop} {a : Act} {w : World} (F : World → Prop) (hF : F w) (h : ∀ W, F W → c.wp P Q a W) : c.wp P Q a w := h w hF
/-- All cells of a member. -/
theorem RRep.member (h : RRep w S b d ev uv) (k : Nat) (hk : k < 5) :
    w.cell? ⟨b, k * 15, none⟩ = some (.bool (d.mem k).up) ∧ w.cell? ⟨b, k * 15 + 1, none⟩ = some (.int .i64 (d.mem k).follows) ∧ w.cell? ⟨b, k * 15 + 2, none⟩ = some (.int .i64 (d.mem k).given) ∧
    w.cell? ⟨b, k * 15 + 3, none⟩ = some (.int .i64 (d.mem k).role) ∧ w.cell? ⟨b, k * 15 + 4, none⟩ = some (.string (encB (d.mem k).log)) ∧
    w.cell? ⟨b, k * 15 + 5, none⟩ = some (.int .i64 ((d.mem k).knows 0)) ∧ w.cell? ⟨b, k * 15 + 6, none⟩ = some (.int .i64 ((d.mem k).knows 1)) ∧ w.cell? ⟨b, k * 15 + 7, none⟩ = some (.int .i64 ((d.mem k).knows 2)) ∧
    w.cell? ⟨b, k * 15 + 8, none⟩ = some (.int .i64 ((d.mem k).knows 3)) ∧ w.cell? ⟨b, k * 15 + 9, none⟩ = some (.int .i64 ((d.mem k).knows 4)) ∧
    w.cell? ⟨b, k * 15 + 10, none⟩ = some (.bool ((d.mem k).has 0)) ∧ w.cell? ⟨b, k * 15 + 11, none⟩ = some (.bool ((d.mem k).has 1)) ∧ w.cell? ⟨b, k * 15 + 12, none⟩ = some (.bool ((d.mem k).has 2)) ∧
    w.cell? ⟨b, k * 15 + 13, none⟩ = some (.bool ((d.mem k).has 3)) ∧ w.cell? ⟨b, k * 15 + 14, none⟩ = some (.bool ((d.mem k).has 4)) :=
  ⟨h.cUp k hk, h.cFol k hk, h.cGiv k hk, h.cRol k hk, h.cLog k hk, h.cKno k 0 hk (by omega), h.cKno k 1 hk (by omega), h.cKno k 2 hk (by omega), h.cKno k 3 hk (by omega), h.cKno k 4 hk (by omega),
    h.cHas k 0 hk (by omega), h.cHas k 1 hk (by omega), h.cHas k 2 hk (by omega), h.cHas k 3 hk (by omega), h.cHas k 4 hk (by omega)⟩
/-- The copy of a member in a block of its own. -/
def Copy (w : World) (B : Nat) (m : Mem) : Prop :=
  ∃ cs, w.heap[B]? = some (.cells cs 111 (0, 0)) ∧ cs[0]? = some (.bool m.up) ∧ cs[1]? = some (.int .i64 m.follows) ∧ cs[2]? = some (.int .i64 m.given) ∧ cs[3]? = some (.int .i64 m.role) ∧
    cs[4]? = some (.string (encB m.log)) ∧ (∀ j, j < 5 → cs[5 + j]? = some (.int .i64 (m.knows j))) ∧ (∀ j, j < 5 → cs[10 + j]? = some (.bool (m.has j)))
theorem copy_alloc (w : World) (m : Mem) : Copy (w.alloc (.cells #[.bool m.up, .int .i64 m.follows, .int .i64 m.given, .int .i64 m.role, .string (encB m.log), .int .i64 (m.knows 0), .int .i64 (m.knows 1), .int .i64 (m.knows 2), .int .i64 (m.knows 3), .int .i64 (m.knows 4),
    .bool (m.has 0), .bool (m.has 1), .bool (m.has 2), .bool (m.has 3), .bool (m.has 4)] 111)) w.heap.size m := by
  refine ⟨_, heap_alloc_new w _, rfl, rfl, rfl, rfl, rfl, fun j hj => ?_, fun j hj => ?_⟩
  · match j, hj with
    | 0, _ => rfl
    | 1, _ => rfl
    | 2, _ => rfl
    | 3, _ => rfl
    | 4, _ => rfl
  · match j, hj with
    | 0, _ => rfl
    | 1, _ => rfl
    | 2, _ => rfl
    | 3, _ => rfl
    | 4, _ => rfl
theorem Copy.same {w w' : World} {B : Nat} {m : Mem} (h : Copy w B m) (hB : w'.heap[B]? = w.heap[B]?) : Copy w' B m := by
  obtain ⟨cs, h1, r⟩ := h
  exact ⟨cs, hB.trans h1, r⟩
theorem Copy.drewC {w : World} {B : Nat} {m : Mem} (h : Copy w B m) : Copy w.drew B m := h
theorem Copy.lt {w : World} {B : Nat} {m : Mem} (h : Copy w B m) : B < w.heap.size := by
  obtain ⟨cs, h1, _⟩ := h
  exact (Array.getElem?_eq_some_iff.1 h1).1
theorem Copy.cells {w : World} {B : Nat} {m : Mem} (h : Copy w B m) : w.cell? ⟨B, 1, none⟩ = some (.int .i64 m.follows) ∧ w.cell? ⟨B, 2, none⟩ = some (.int .i64 m.given) ∧ w.cell? ⟨B, 3, none⟩ = some (.int .i64 m.role) ∧ w.cell? ⟨B, 4, none⟩ = some (.string (encB m.log)) := by
  obtain ⟨cs, h1, c0, c1, c2, c3, c4, _⟩ := h
  exact ⟨(cell_of_row _ _ _ _ _ _ h1).trans c1, (cell_of_row _ _ _ _ _ _ h1).trans c2, (cell_of_row _ _ _ _ _ _ h1).trans c3, (cell_of_row _ _ _ _ _ _ h1).trans c4⟩
theorem Copy.knows {w : World} {B : Nat} {m : Mem} (h : Copy w B m) (j : Nat) (hj : j < 5) : w.cell? ⟨B, 5 + j, none⟩ = some (.int .i64 (m.knows j)) := by
  obtain ⟨cs, h1, _, _, _, _, _, hk, _⟩ := h
  exact (cell_of_row _ _ _ _ _ _ h1).trans (hk j hj)
theorem Copy.has {w : World} {B : Nat} {m : Mem} (h : Copy w B m) (j : Nat) (hj : j < 5) : w.cell? ⟨B, 10 + j, none⟩ = some (.bool (m.has j)) := by
  obtain ⟨cs, h1, _, _, _, _, _, _, hh⟩ := h
  exact (cell_of_row _ _ _ _ _ _ h1).trans (hh j hj)

set_option maxHeartbeats 1600000 in
set_option maxRecDepth 100000 in
theorem rdone_any (h : RRep w S b d ev uv) (hok : ROk d) (k : Nat) (hk : k < 5) :
    Calls Try.prog 75 #[.pointer (some ⟨b, 0, none⟩), .int .i64 k] w fun e w' => e = .returned (.int .i64 (rDone d k)) ∧ Below w.heap.size w w' := by
  obtain ⟨m0, m1, m2, m3, m4, m5, m6, m7, m8, m9, m10, m11, m12, m13, m14⟩ := h.member k hk
  have hb := h.lt
  have H : Hid (RRep w S b d ev uv) := h
  have HO : Hid (ROk d) := hok
  have hlen := hok.log k hk
  clear h hok
  by_cases hr : (d.mem k).role = 3
  rotate_left
  · have hr' : ((d.mem k).role != 3) = true := by simp [hr]
    have HF : Hid (rDone d k = 0) := by show rDone d k = 0; simp [rDone, hr]
    clear hr
    go_enter Try.func75, Try.ntmps75
    go_wp2_with fail
    go_ret
    exact ⟨ret_intR HF.out.symm, (Below.refl _ _).alloc (Nat.le_refl _) _⟩
  have HF : Hid (rDone d k = rDoneTo d k 5) := by show rDone d k = _; simp [rDone, hr]
  have hfol := HO.out.rol k hk (by omega)
  have hfol2 := (HO.out.fol k hk).2
  have h40 := HO.out.e40
  obtain ⟨q, hq⟩ : ∃ q : Nat, (d.mem k).follows = (q : Int) + 1 := ⟨((d.mem k).follows - 1).toNat, by omega⟩
  have HQ : Hid ((d.mem k).follows = (q : Int) + 1) := hq
  have hql : q < d.eras.length := by omega
  have hr2 : ((d.mem k).role != 3) = false := by simp [hr]
  clear hr hfol hfol2 hq
  go_enter Try.func75, Try.ntmps75
  go_wp2_with (first | (go_at_call 74; refine (rcount_any _ hlen _).mono ?_; rintro e w' ⟨rfl, rfl⟩))
  refine wp_genR (fun W => RRep W S b d ev uv ∧ Below w.heap.size w W ∧ Copy W w.heap.size (d.mem k)) ⟨H.out.alloc _, (Below.refl _ _).alloc (Nat.le_refl _) _, copy_alloc w _⟩ ?_
  rintro W ⟨hWR, hWB, hWC⟩
  obtain ⟨f1, _, _, _⟩ := hWC.cells
  rw [HQ.out] at f1
  have HWR : Hid (RRep W S b d ev uv) := hWR
  have HWB : Hid (Below w.heap.size w W) := hWB
  have HWC : Hid (Copy W w.heap.size (d.mem k)) := hWC
  clear hWR hWB hWC m0 m1 m2 m3 m4 m5 m6 m7 m8 m9 m10 m11 m12 m13 m14
  go_loop [6, 7] (fun t i => ∃ j : Nat, j ≤ 5 ∧ i = .int .i64 j ∧ t = .int .i64 (rDoneTo d k j)) (fun _ i => 5 - (intOf i).toNat)
  case atStart => exact ⟨0, Nat.zero_le _, rfl, rfl⟩
  case round =>
    obtain ⟨j, hj5, rfl, rfl⟩ := hrel
    by_cases hj : j < 5
    · have kj := HWC.out.knows j hj
      have HS : Hid (rDoneTo d k (j + 1) = if j ≠ k ∧ rIn d ((q : Int) + 1) j = true ∧ (d.mem k).knows j < rDoneTo d k j then (d.mem k).knows j else rDoneTo d k j) := by show rDoneTo d k (j + 1) = _; rw [← HQ.out]; rfl
      generalize (d.mem k).knows j = kn at kj HS
      generalize rDoneTo d k j = t at HS
      have hj0 : (0 : Int) ≤ (j : Int) := by omega
      have hj1 : (j : Int) < 5 := by omega
      by_cases ejk : j = k
      · have b1 : ((j : Int) != (k : Int)) = false := by simp [ejk]
        have HS' : Hid (rDoneTo d k (j + 1) = t) := by show rDoneTo d k (j + 1) = t; rw [HS.out]; simp [ejk]
        clear ejk HS
        go_wp2_with (first | (go_at_call 76; refine (rin_any HWR.out HO.out q hql j hj).mono ?_; rintro e w' ⟨rfl, rfl⟩))
        go_round
        case rel => exact ⟨j + 1, by omega, by go_num, congrArg (Value.int .i64) HS'.out.symm⟩
        case measure => simp [intOf]; omega
      · have b1 : ((j : Int) != (k : Int)) = true := by simp; omega
        cases hin : rIn d ((q : Int) + 1) j
        · have HS' : Hid (rDoneTo d k (j + 1) = t) := by show rDoneTo d k (j + 1) = t; rw [HS.out]; simp [hin]
          clear ejk HS
          go_wp2_with (first | (go_at_call 76; refine (rin_any HWR.out HO.out q hql j hj).mono ?_; rintro e w' ⟨rfl, rfl⟩))
          go_round
          case rel => exact ⟨j + 1, by omega, by go_num, congrArg (Value.int .i64) HS'.out.symm⟩
          case measure => simp [intOf]; omega
        · by_cases hlt : kn < t
          · have HS' : Hid (rDoneTo d k (j + 1) = kn) := by show rDoneTo d k (j + 1) = kn; rw [HS.out]; simp [hin, hlt, ejk]
            clear ejk HS
            go_wp2_with (first | (go_at_call 76; refine (rin_any HWR.out HO.out q hql j hj).mono ?_; rintro e w' ⟨rfl, rfl⟩))
            go_round
            case rel => exact ⟨j + 1, by omega, by go_num, congrArg (Value.int .i64) HS'.out.symm⟩
            case measure => simp [intOf]; omega
          · have HS' : Hid (rDoneTo d k (j + 1) = t) := by show rDoneTo d k (j + 1) = t; rw [HS.out]; simp [hlt]
            clear ejk HS
            go_wp2_with (first | (go_at_call 76; refine (rin_any HWR.out HO.out q hql j hj).mono ?_; rintro e w' ⟨rfl, rfl⟩))
            go_round
            case rel => exact ⟨j + 1, by omega, by go_num, congrArg (Value.int .i64) HS'.out.symm⟩
            case measure => simp [intOf]; omega
    · have : j = 5 := by omega
      subst this
      go_wp2_with fail
      go_ret
      exact ⟨ret_intR HF.out.symm, HWB.out⟩
end
end Go.Proofs.Ythpjcmilfipbaaa
