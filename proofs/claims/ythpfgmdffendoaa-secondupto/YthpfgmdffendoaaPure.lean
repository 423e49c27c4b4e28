/- My own text. The program of package ledger as plain functions: no Go, no heap. -/
namespace Go.Proofs.Ythpfgmdffendoaa
set_option linter.unusedVariables false
set_option linter.unusedSimpArgs false
structure Rec where
  p : Int
  s : Int
  v : Int
structure Msg where
  kind : Int
  frm : Int
  to : Int
  epoch : Int
  n : Int
  recs : List Rec
structure Nd where
  up : Bool
  follows : Int
  given : Int
  role : Int
  log : List Rec
  known : Nat → Int
structure Clu where
  nodes : Nat → Nd
  epochs : List (Nat → Bool)
  ways : List Msg
def upd {α : Type} (f : Nat → α) (k : Nat) (v : α) : Nat → α := fun i => if i = k then v else f i
theorem upd_same {α : Type} (f : Nat → α) (k : Nat) (v : α) : upd f k v k = v := by simp [upd]
theorem upd_other {α : Type} (f : Nat → α) (k j : Nat) (v : α) (h : j ≠ k) : upd f k v j = f j := by simp [upd, h]
/-- What c modulo n is, in the statements' own way. -/
def pickN (c n : Int) : Int := if c < 0 then (-(c + 1)).tmod n else c.tmod n
theorem pickN_bd (c n : Int) (hn : 0 < n) : 0 ≤ pickN c n ∧ pickN c n < n := by
  unfold pickN
  split
  · rw [Int.tmod_eq_emod_of_nonneg (by omega)]
    exact ⟨Int.emod_nonneg _ (by omega), Int.emod_lt_of_pos _ hn⟩
  · rw [Int.tmod_eq_emod_of_nonneg (by omega)]
    exact ⟨Int.emod_nonneg _ (by omega), Int.emod_lt_of_pos _ hn⟩
def nodeB (k : Int) : Bool := decide (0 ≤ k) && decide (k < 5)
def recB (p s v : Int) : Bool := decide (1 ≤ p) && decide (p ≤ 4) && (decide (1 ≤ s) && decide (s ≤ 99)) && (decide (0 ≤ v) && decide (v ≤ 255))
def offGo (p s : Int) : List Rec → Nat → Int
  | [], _ => -1
  | r :: l, k => if r.p = p ∧ r.s = s then k else offGo p s l (k + 1)
def offsetOf (l : List Rec) (p s : Int) : Int := offGo p s l 0
theorem offGo_bd (p s : Int) : ∀ (l : List Rec) (k : Nat), -1 ≤ offGo p s l k ∧ offGo p s l k < k + l.length ∧ (offGo p s l k < 0 ∨ (k : Int) ≤ offGo p s l k)
  | [], k => by simp [offGo]; omega
  | r :: l, k => by
    unfold offGo
    have := offGo_bd p s l (k + 1)
    simp only [List.length_cons]
    split <;> omega
theorem offsetOf_bd (l : List Rec) (p s : Int) : -1 ≤ offsetOf l p s ∧ offsetOf l p s < l.length := by
  have := offGo_bd p s l 0
  unfold offsetOf
  omega
/-- What the first k records say: none of them is it. -/
theorem offGo_skip (p s : Int) (l : List Rec) : ∀ (k i : Nat), (∀ j r, j < k → l[j]? = some r → ¬ (r.p = p ∧ r.s = s)) → offGo p s l i = offGo p s (l.drop k) (i + k) := by
  intro k
  induction k generalizing l with
  | zero => intro i _; simp
  | succ k ih =>
    intro i h
    cases l with
    | nil => simp [offGo]
    | cons r l =>
      have h0 := h 0 r (by omega) (by simp)
      have := ih l (i + 1) (fun j x hj hx => h (j + 1) x (by omega) (by simpa using hx))
      simp only [offGo, h0, if_false, List.drop_succ_cons]
      rw [this]; congr 1; omega
theorem offsetOf_at (l : List Rec) (p s : Int) (k : Nat) (r : Rec) (h : ∀ j r, j < k → l[j]? = some r → ¬ (r.p = p ∧ r.s = s)) (hr : l[k]? = some r) (he : r.p = p ∧ r.s = s) : offsetOf l p s = k := by
  unfold offsetOf
  rw [offGo_skip p s l k 0 h]
  have : l.drop k = r :: l.drop (k + 1) := by
    rw [List.getElem?_eq_some_iff] at hr
    obtain ⟨hl, rfl⟩ := hr
    simp
  rw [this, offGo, if_pos he]; simp
theorem offsetOf_none (l : List Rec) (p s : Int) (h : ∀ j r, j < l.length → l[j]? = some r → ¬ (r.p = p ∧ r.s = s)) : offsetOf l p s = -1 := by
  unfold offsetOf
  rw [offGo_skip p s l l.length 0 h]; simp [offGo]
def isOther (c : Clu) (node other : Nat) : Bool :=
  let e := (c.nodes node).follows
  if other = node ∨ e < 1 ∨ (c.epochs.length : Int) < e then false else (c.epochs.getD (e - 1).toNat (fun _ => false)) other
def doneTo (c : Clu) (node : Nat) : Nat → Int
  | 0 => (c.nodes node).log.length
  | j + 1 => if (c.nodes node).known j < doneTo c node j ∧ isOther c node j = true then (c.nodes node).known j else doneTo c node j
def done (c : Clu) (node : Nat) : Int := doneTo c node 5
def send (c : Clu) (m : Msg) : Clu := if 50 ≤ c.ways.length then c else { c with ways := c.ways ++ [m] }
def sendAppend (c : Clu) (node other : Nat) (at_ : Int) : Clu :=
  if at_ < 0 ∨ ((c.nodes node).log.length : Int) ≤ at_ then c
  else send c { kind := 8, frm := node, to := other, epoch := (c.nodes node).follows, n := at_, recs := ((c.nodes node).log.drop at_.toNat).take 1 }
def sendFirst (c : Clu) (node other : Nat) : Clu := sendAppend c node other ((c.nodes node).known other)
def lackTo (c : Clu) (node : Nat) : Nat → Clu
  | 0 => c
  | j + 1 => if isOther (lackTo c node j) node j then sendFirst (lackTo c node j) node j else lackTo c node j
def lack (c : Clu) (node : Nat) : Clu := lackTo c node 5
def putLog (c : Clu) (node : Nat) (l : List Rec) : Clu := { c with nodes := upd c.nodes node { c.nodes node with log := l } }
def writeTo (c : Clu) (node : Nat) (at_ : Int) : Nat → Clu
  | 0 => c
  | j + 1 => if isOther (writeTo c node at_ j) node j then sendAppend (writeTo c node at_ j) node j at_ else writeTo c node at_ j
def write (c : Clu) (node : Nat) (r : Rec) : Clu := writeTo (putLog c node ((c.nodes node).log ++ [r])) node ((c.nodes node).log.length) 5
def refNode (c : Clu) (node : Int) : Int := if nodeB node then (if (c.nodes node.toNat).up then 0 else 3) else 2
def refWrite (c : Clu) (node p s v : Int) : Int :=
  if refNode c node ≠ 0 then refNode c node else if recB p s v then (if (c.nodes node.toNat).role = 3 then 0 else 6) else 5
def produce (c : Clu) (node p s v : Int) : Clu × Int × Bool × Int :=
  if refWrite c node p s v ≠ 0 then (c, 0, false, refWrite c node p s v)
  else
    let k := node.toNat
    let l := (c.nodes k).log
    if 0 ≤ offsetOf l p s then
      (if offsetOf l p s < done c k then c else lack c k, offsetOf l p s, decide (offsetOf l p s < done c k), 0)
    else if 1 < s ∧ offsetOf l p (s - 1) < 0 then (c, 0, false, 7)
    else if 60 ≤ l.length then (c, 0, false, 8)
    else (write c k ⟨p, s, v⟩, l.length, decide ((l.length : Int) < done (write c k ⟨p, s, v⟩) k), 0)
def fetch (c : Clu) (node off : Int) : Rec × Int :=
  if refNode c node ≠ 0 then (⟨0, 0, 0⟩, refNode c node)
  else if (c.nodes node.toNat).role ≠ 3 then (⟨0, 0, 0⟩, 6)
  else if off < 0 then (⟨0, 0, 0⟩, 5)
  else if done c node.toNat ≤ off then (⟨0, 0, 0⟩, 9)
  else ((c.nodes node.toNat).log.getD off.toNat ⟨0, 0, 0⟩, 0)
def underB (c : Clu) (i : Int) : Bool := decide (0 ≤ i) && decide (i < (c.ways.length : Int))
def takeOut (c : Clu) (i : Nat) : Clu := { c with ways := c.ways.eraseIdx i }
def drop (c : Clu) (i : Int) : Clu × Int := if underB c i then (takeOut c i.toNat, 0) else (c, 13)
def twice (c : Clu) (i : Int) : Clu × Int :=
  if underB c i then (match c.ways[i.toNat]? with | some m => send c m | none => c, 0) else (c, 13)
/-- The bounds that a cluster keeps. -/
structure Ok (c : Clu) : Prop where
  log : ∀ k, k < 5 → (c.nodes k).log.length ≤ 60
  ways : c.ways.length ≤ 50
  eps : c.epochs.length ≤ 40
end Go.Proofs.Ythpfgmdffendoaa
