/- My own text. The document's answer (package ledgerref) as plain functions: no Go, no heap. -/
import Derived.Test.YthpfgmdffendoaaPure
namespace Go.Proofs.Ythpfgmdffendoaa
set_option linter.unusedVariables false
set_option linter.unusedSimpArgs false
structure Mem where
  up : Bool
  follows : Int
  given : Int
  role : Int
  log : List Rec
  knows : Nat → Int
  has : Nat → Bool
structure Era where
  members : Int
  leader : Int
  before : Int
structure Wd where
  mem : Nat → Mem
  eras : List Era
  active : Int
  way : List Msg
def era0 : Era := ⟨0, 0, 0⟩
def Wd.era (d : Wd) (e : Int) : Era := d.eras.getD (e - 1).toNat era0
def rIn (d : Wd) (e : Int) (i : Nat) : Bool := decide ((d.era e).members / 2 ^ i % 2 = 1)
def Wd.put (d : Wd) (k : Nat) (m : Mem) : Wd := { d with mem := upd d.mem k m }
def rDoneTo (d : Wd) (k : Nat) : Nat → Int
  | 0 => (d.mem k).log.length
  | j + 1 => if j ≠ k ∧ rIn d (d.mem k).follows j = true ∧ (d.mem k).knows j < rDoneTo d k j then (d.mem k).knows j else rDoneTo d k j
def rDone (d : Wd) (k : Nat) : Int := if (d.mem k).role = 3 then rDoneTo d k 5 else 0
def rSends (d : Wd) (m : Msg) : Wd := if d.way.length < 50 then { d with way := d.way ++ [m] } else d
def rAppends (d : Wd) (k to : Nat) (n : Int) : Wd :=
  rSends d { kind := 8, frm := k, to := to, epoch := (d.mem k).follows, n := n, recs := ((d.mem k).log.drop n.toNat).take 1 }
def rRef (d : Wd) (node : Int) (up : Bool) : Int := if nodeB node then (if up && !(d.mem node.toNat).up then 3 else 0) else 2
def rProdTo (d : Wd) (k : Nat) (m : Mem) (kk n dn : Int) : Nat → Wd
  | 0 => d
  | j + 1 =>
    if j = k ∨ rIn (rProdTo d k m kk n dn j) m.follows j = false then rProdTo d k m kk n dn j
    else if kk < 0 then rAppends (rProdTo d k m kk n dn j) k j n
    else if dn ≤ kk ∧ m.knows j < n then rAppends (rProdTo d k m kk n dn j) k j (m.knows j)
    else rProdTo d k m kk n dn j
def rPutLog (d : Wd) (k : Nat) (l : List Rec) : Wd := d.put k { d.mem k with log := l }
def rProduceOld (d : Wd) (k : Nat) (kk : Int) : Wd × Int × Bool × Int :=
  (rProdTo d k (d.mem k) kk (d.mem k).log.length (rDone d k) 5, kk, decide (kk < rDone d k), 0)
def rProduceNew (d : Wd) (k : Nat) (kk : Int) (r : Rec) : Wd × Int × Bool × Int :=
  (rProdTo (rPutLog d k ((d.mem k).log ++ [r])) k (d.mem k) kk (d.mem k).log.length (rDone (rPutLog d k ((d.mem k).log ++ [r])) k) 5, (d.mem k).log.length,
    decide (((d.mem k).log.length : Int) < rDone (rPutLog d k ((d.mem k).log ++ [r])) k), 0)
def rProduceAt (d : Wd) (k : Nat) (p s v : Int) : Wd × Int × Bool × Int :=
  if offsetOf (d.mem k).log p s < 0 then
    if 1 < s ∧ offsetOf (d.mem k).log p (s - 1) < 0 then (d, 0, false, 7)
    else if 60 ≤ (d.mem k).log.length then (d, 0, false, 8)
    else rProduceNew d k (offsetOf (d.mem k).log p s) ⟨p, s, v⟩
  else rProduceOld d k (offsetOf (d.mem k).log p s)
def rProduce (d : Wd) (node p s v : Int) : Wd × Int × Bool × Int :=
  if rRef d node true ≠ 0 then (d, 0, false, rRef d node true)
  else if recB p s v = false then (d, 0, false, 5)
  else if (d.mem node.toNat).role ≠ 3 then (d, 0, false, 6)
  else rProduceAt d node.toNat p s v
def rFetch (d : Wd) (node off : Int) : Rec × Int :=
  if rRef d node true ≠ 0 then (⟨0, 0, 0⟩, rRef d node true)
  else if (d.mem node.toNat).role ≠ 3 then (⟨0, 0, 0⟩, 6)
  else if off < 0 then (⟨0, 0, 0⟩, 5)
  else if rDone d node.toNat ≤ off then (⟨0, 0, 0⟩, 9)
  else ((d.mem node.toNat).log.getD off.toNat ⟨0, 0, 0⟩, 0)
def rUnder (d : Wd) (i : Int) : Bool := decide (0 ≤ i) && decide (i < (d.way.length : Int))
def rOut (d : Wd) (i : Nat) : Wd := { d with way := d.way.eraseIdx i }
def rFollows (d : Wd) (k : Nat) (e role : Int) : Wd := if (d.mem k).follows < e then d.put k { d.mem k with follows := e, role := role } else d
def rGiven (d : Wd) (k : Nat) (e : Int) (l : List Rec) : Wd := d.put k { d.mem k with log := l, given := e }
def rRole (d : Wd) (k : Nat) (r : Int) : Wd := d.put k { d.mem k with role := r }
def rOthersTo (d : Wd) (k : Nat) : Nat → Bool
  | 0 => true
  | j + 1 => rOthersTo d k j && !(decide (j ≠ k) && rIn d (d.mem k).follows j && !(d.mem k).has j)
def rOthers (d : Wd) (k : Nat) : Bool := rOthersTo d k 5
def rReady (d : Wd) (k : Nat) (e : Int) : Wd := rSends d { kind := 6, frm := k, to := -1, epoch := e, n := 0, recs := [] }
def rHandsTo (d : Wd) (k : Nat) (m : Mem) : Nat → Wd
  | 0 => d
  | j + 1 =>
    if j ≠ k ∧ rIn (rHandsTo d k m j) m.follows j = true ∧ m.has j = false then
      rSends (rHandsTo d k m j) { kind := 4, frm := k, to := j, epoch := m.follows, n := m.log.length, recs := m.log }
    else rHandsTo d k m j
def rHands (d : Wd) (k : Nat) : Wd := if rOthers d k then rReady d k (d.mem k).follows else rHandsTo d k (d.mem k) 5
def rReadsTo (d : Wd) (k : Nat) (e before : Int) : Nat → Wd
  | 0 => d
  | j + 1 =>
    if rIn (rReadsTo d k e before j) before j = true then rSends (rReadsTo d k e before j) { kind := 2, frm := k, to := j, epoch := e, n := 0, recs := [] }
    else rReadsTo d k e before j
def rWake (d : Wd) (k : Nat) (e : Int) : Wd := if (d.mem k).role = 0 ∧ (d.mem k).given < e then rRole d k 1 else d
def rStart2 (d : Wd) (k : Nat) (e : Int) : Wd :=
  if (d.mem k).role = 1 then rReadsTo d k e (d.era e).before 5 else if (d.mem k).role = 2 then rHands d k else d
def rStarts (d : Wd) (k : Nat) (e : Int) : Wd := rStart2 (rWake (rFollows d k e 1) k e) k e
def rTell (d : Wd) (k : Nat) (m : Msg) : Wd := d.put k { d.mem k with role := 2, has := fun _ => false, log := m.recs, given := m.epoch }
def rHas (d : Wd) (k : Nat) (frm : Nat) : Wd := d.put k { d.mem k with has := upd (d.mem k).has frm true }
def rServe (d : Wd) (k : Nat) : Wd := d.put k { d.mem k with role := 3, knows := fun _ => (d.mem k).log.length }
def rKnow (d : Wd) (k : Nat) (frm : Nat) (n : Int) : Wd := if (d.mem k).knows frm < n then d.put k { d.mem k with knows := upd (d.mem k).knows frm n } else d
def rAck (d : Wd) (k frm : Nat) : Wd := if (d.mem k).knows frm < (d.mem k).log.length then rAppends d k frm ((d.mem k).knows frm) else d
def rLeads (d : Wd) (k : Nat) (m : Msg) : Wd :=
  if m.kind = 3 ∧ (d.mem k).role = 1 then rHands (rTell d k m) k
  else if m.kind = 5 ∧ (d.mem k).role = 2 then (if rOthers (rHas d k m.frm.toNat) k then rReady (rHas d k m.frm.toNat) k m.epoch else rHas d k m.frm.toNat)
  else if m.kind = 7 ∧ (d.mem k).role = 2 then rServe d k
  else if m.kind = 9 ∧ (d.mem k).role = 3 then rAck (rKnow d k m.frm.toNat m.n) k m.frm.toNat
  else d
def rTakeAppend (d : Wd) (k : Nat) (m : Msg) : Wd := if m.n = ((d.mem k).log.length : Int) then rPutLog d k ((d.mem k).log ++ m.recs) else d
def rSay (d : Wd) (k : Nat) (m : Msg) (kind : Int) (n : Int) (l : List Rec) : Wd := rSends d { kind := kind, frm := k, to := m.frm, epoch := m.epoch, n := n, recs := l }
def rTakes (d : Wd) (k : Nat) (m : Msg) : Wd :=
  if m.epoch < (d.mem k).follows then d
  else if m.kind = 1 then rStarts d k m.epoch
  else if m.kind = 2 then rSay (rFollows d k m.epoch 0) k m 3 ((rFollows d k m.epoch 0).mem k).log.length ((rFollows d k m.epoch 0).mem k).log
  else if m.kind = 4 then
    if ((rFollows d k m.epoch 0).mem k).given < m.epoch then rSay (rGiven (rFollows d k m.epoch 0) k m.epoch m.recs) k m 5 0 [] else rSay (rFollows d k m.epoch 0) k m 5 0 []
  else if m.kind = 8 then
    if (d.mem k).follows = m.epoch ∧ (d.mem k).given = m.epoch ∧ (d.mem k).role = 0 then rSay (rTakeAppend d k m) k m 9 ((rTakeAppend d k m).mem k).log.length [] else d
  else if (d.mem k).follows = m.epoch then rLeads d k m else d
def rMaster (d : Wd) (e : Int) : Wd :=
  if e = d.eras.length then rSends { d with active := e } { kind := 7, frm := -1, to := (d.era e).leader, epoch := e, n := 0, recs := [] } else d
def rGet (d : Wd) (m : Msg) : Wd :=
  if m.to = -1 then rMaster d m.epoch else if (d.mem m.to.toNat).up then rTakes d m.to.toNat m else d
def rDeliver (d : Wd) (i : Int) : Wd × Int :=
  if rUnder d i then (match d.way[i.toNat]? with | some m => rGet (rOut d i.toNat) m | none => d, 0) else (d, 13)
def rDrop (d : Wd) (i : Int) : Wd × Int := if rUnder d i then (rOut d i.toNat, 0) else (d, 13)
def rTwice (d : Wd) (i : Int) : Wd × Int :=
  if rUnder d i then (match d.way[i.toNat]? with | some m => rSends d m | none => d, 0) else (d, 13)
def rCrash (d : Wd) (node : Int) : Wd × Int :=
  if rRef d node true = 0 then (d.put node.toNat { d.mem node.toNat with up := false, role := 0 }, 0) else (d, rRef d node true)
def rRestart (d : Wd) (node : Int) : Wd × Int :=
  if rRef d node false ≠ 0 then (d, rRef d node false)
  else if (d.mem node.toNat).up then (d, 4) else (d.put node.toNat { d.mem node.toNat with up := true }, 0)
def rBad (members leader : Int) : Bool := decide (members < 1) || decide (32 ≤ members) || decide (leader < 0) || decide (5 ≤ leader)
def rReconf (d : Wd) (members leader : Int) : Wd × Int :=
  if rBad members leader then (d, 10)
  else if members / 2 ^ leader.toNat % 2 = 0 then (d, 10)
  else if 40 ≤ d.eras.length then (d, 11)
  else (rSends { d with eras := d.eras ++ [⟨members, leader, d.active⟩] } { kind := 1, frm := -1, to := leader, epoch := d.eras.length + 1, n := 0, recs := [] }, 0)
def rRemind (d : Wd) : Wd × Int :=
  if d.active = d.eras.length then (d, 12)
  else (rSends d { kind := 1, frm := -1, to := (d.era d.eras.length).leader, epoch := d.eras.length, n := 0, recs := [] }, 0)
def recOk (r : Rec) : Prop := 0 ≤ r.p ∧ r.p ≤ 255 ∧ 0 ≤ r.s ∧ r.s ≤ 255 ∧ 0 ≤ r.v ∧ r.v ≤ 255
/-- A message that may be under way. -/
structure MsgOk (eras : Nat) (m : Msg) : Prop where
  to : -1 ≤ m.to ∧ m.to < 5
  frm : -1 ≤ m.frm ∧ m.frm < 5
  lead : m.kind = 9 ∨ m.kind = 5 → 0 ≤ m.frm
  ep : 1 ≤ m.epoch ∧ m.epoch ≤ eras
  start : m.kind = 1 → 2 ≤ m.epoch
  n : 0 ≤ m.n ∧ m.n ≤ 60
  len : m.recs.length ≤ 60
  app : m.kind = 8 → m.recs.length ≤ 1 ∧ m.n ≤ 59
  recs : ∀ r ∈ m.recs, recOk r
/-- What the document's answer keeps, so that it never panics. -/
structure ROk (d : Wd) : Prop where
  e1 : 1 ≤ d.eras.length
  e40 : d.eras.length ≤ 40
  act : 1 ≤ d.active ∧ d.active ≤ d.eras.length
  era : ∀ (e : Nat) (x : Era), d.eras[e]? = some x → 1 ≤ x.members ∧ x.members < 32 ∧ 0 ≤ x.leader ∧ x.leader < 5 ∧ 0 ≤ x.before ∧ x.before ≤ e ∧ (1 ≤ e → 1 ≤ x.before)
  fol : ∀ k, k < 5 → 0 ≤ (d.mem k).follows ∧ (d.mem k).follows ≤ d.eras.length
  rol : ∀ k, k < 5 → (d.mem k).role ≠ 0 → 1 ≤ (d.mem k).follows
  log : ∀ k, k < 5 → (d.mem k).log.length ≤ 60
  byt : ∀ k, k < 5 → ∀ r ∈ (d.mem k).log, recOk r
  kno : ∀ k j, k < 5 → j < 5 → 0 ≤ (d.mem k).knows j ∧ (d.mem k).knows j ≤ 60
  way : d.way.length ≤ 50
  msg : ∀ m ∈ d.way, MsgOk d.eras.length m
end Go.Proofs.Ythpfgmdffendoaa
