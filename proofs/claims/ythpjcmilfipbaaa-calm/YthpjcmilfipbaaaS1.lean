/- My own text: several texts in one. -/
import Derived.Test.YthpjcmilfipbaaaR12
import Derived.Test.YthpjcmilfipbaaaR11
import Derived.Test.YthpjcmilfipbaaaR7
namespace Go.Proofs.Ythpjcmilfipbaaa
set_option linter.unusedVariables false
set_option linter.unusedSimpArgs false
open Go.RowKit
def In64 (x : Int) : Prop := -9223372036854775808 ≤ x ∧ x ≤ 9223372036854775807
/-- A call on a cluster; Messages stands by itself. -/
inductive Cl where
  | produce (a b c d : Int)
  | fetch (a b : Int)
  | deliver (a : Int)
  | drop (a : Int)
  | twice (a : Int)
  | node (a : Int)
  | crash (a : Int)
  | restart (a : Int)
  | conf (a b : Int)
  | remind
  | config
def Cl.fits : Cl → Prop
  | .produce a b c d => In64 a ∧ In64 b ∧ In64 c ∧ In64 d
  | .fetch a b => In64 a ∧ In64 b
  | .deliver a => In64 a
  | .drop a => In64 a
  | .twice a => In64 a
  | .node a => In64 a
  | .crash a => In64 a
  | .restart a => In64 a
  | .conf a b => In64 a ∧ In64 b
  | .remind => True
  | .config => True
def Cl.next (d : Wd) : Cl → Wd
  | .produce a b c e => (rProduce d a b c e).1
  | .fetch _ _ => d
  | .deliver a => (rDeliver d a).1
  | .drop a => (rDrop d a).1
  | .twice a => (rTwice d a).1
  | .node _ => d
  | .crash a => (rCrash d a).1
  | .restart a => (rRestart d a).1
  | .conf a b => (rReconf d a b).1
  | .remind => (rRemind d).1
  | .config => d
def recVal (r : Rec) : Value := .agg #[.int .i64 r.p, .int .i64 r.s, .int .i64 r.v]
def Cl.ans (d : Wd) : Cl → Value
  | .produce a b c e => .tuple #[.int .i64 (rProduce d a b c e).2.1, .bool (rProduce d a b c e).2.2.1, .int .i64 (rProduce d a b c e).2.2.2]
  | .fetch a b => .tuple #[recVal (rFetch d a b).1, .int .i64 (rFetch d a b).2]
  | .deliver a => .int .i64 (rDeliver d a).2
  | .drop a => .int .i64 (rDrop d a).2
  | .twice a => .int .i64 (rTwice d a).2
  | .node a => .tuple #[(rSeen d a).1.val, .int .i64 (rSeen d a).2]
  | .crash a => .int .i64 (rCrash d a).2
  | .restart a => .int .i64 (rRestart d a).2
  | .conf a b => .int .i64 (rReconf d a b).2
  | .remind => .int .i64 (rRemind d).2
  | .config => .tuple #[confVal d.eras.length (d.era d.eras.length).members (d.era d.eras.length).leader d.active, .int .i64 0]
def Cl.nilAns : Cl → Value
  | .produce _ _ _ _ => .tuple #[.int .i64 0, .bool false, .int .i64 1]
  | .fetch _ _ => .tuple #[recVal ⟨0, 0, 0⟩, .int .i64 1]
  | .node _ => .tuple #[ShowR.val ⟨false, 0, 0, 0, 0, 0⟩, .int .i64 1]
  | .config => .tuple #[confVal 0 0 0 0, .int .i64 1]
  | _ => .int .i64 1
def Cl.args (p : Value) : Cl → Array Value
  | .produce a b c d => #[p, .int .i64 a, .int .i64 b, .int .i64 c, .int .i64 d]
  | .fetch a b => #[p, .int .i64 a, .int .i64 b]
  | .deliver a => #[p, .int .i64 a]
  | .drop a => #[p, .int .i64 a]
  | .twice a => #[p, .int .i64 a]
  | .node a => #[p, .int .i64 a]
  | .crash a => #[p, .int .i64 a]
  | .restart a => #[p, .int .i64 a]
  | .conf a b => #[p, .int .i64 a, .int .i64 b]
  | .remind => #[p]
  | .config => #[p]
theorem ROk.cl {d : Wd} (h : ROk d) (c : Cl) : ROk (c.next d) := by
  cases c with
  | produce a b c e => exact h.produce a b c e
  | fetch => exact h
  | deliver a => exact h.deliver a
  | drop a => exact h.drop a
  | twice a => exact h.twice a
  | node => exact h
  | crash a => exact h.crash a
  | restart a => exact h.restart a
  | conf a b => exact h.reconf a b
  | remind => exact h.remind
  | config => exact h
/-- One side: how it lies in memory, and that each call answers as the plain document's answer does. -/
structure SideOn (R : World → (Nat → Prop) → Nat → Wd → Prop) (fn : Cl → Nat) (fm fw : Nat) (okc : Cl → Prop) : Prop where
  same : ∀ {w w' : World} {S : Nat → Prop} {b : Nat} {d : Wd}, R w S b d → (∀ k, S k → k < w.heap.size → w'.heap[k]? = w.heap[k]?) → R w' S b d
  mono : ∀ {w : World} {S S' : Nat → Prop} {b : Nat} {d : Wd}, R w S b d → (∀ k, k < w.heap.size → S k → S' k) → R w S' b d
  call : ∀ {w : World} {S : Nat → Prop} {b : Nat} {d : Wd}, R w S b d → ROk d → ∀ c : Cl, c.fits → okc c →
    Calls Try.prog (fn c) (c.args (.pointer (some ⟨b, 0, none⟩))) w fun e w' => e = .returned (c.ans d) ∧ R w' (Ext S w) b (c.next d) ∧ Fr S w w'
  nil : ∀ c : Cl, c.fits → okc c → ∀ w : World, Calls Try.prog (fn c) (c.args (.pointer none)) w fun e w' => e = .returned c.nilAns ∧ Below w.heap.size w w'
  msgs : ∀ {w : World} {S : Nat → Prop} {b : Nat} {d : Wd}, R w S b d → ROk d →
    Calls Try.prog fm #[.pointer (some ⟨b, 0, none⟩)] w fun e w' => ∃ v, e = .returned (.tuple #[v, .int .i64 0]) ∧ w'.ownsRow w.heap.size 109 5 v d.way.length (seeCellsR d.way) ∧ Below w.heap.size w w'
  msgsNil : ∀ w : World, Calls Try.prog fm #[.pointer none] w fun e w' => ∃ v, e = .returned (.tuple #[v, .int .i64 1]) ∧ w'.ownsRow w.heap.size 109 5 v 0 [] ∧ Below w.heap.size w w'
  new : ∀ w : World, Calls Try.prog fw #[] w fun e w' => ∃ b, e = .returned (.pointer (some ⟨b, 0, none⟩)) ∧ R w' (fun k => w.heap.size ≤ k) b rNew ∧ Below w.heap.size w w'
/-- Every call answers so. -/
abbrev Side (R : World → (Nat → Prop) → Nat → Wd → Prop) (fn : Cl → Nat) (fm fw : Nat) : Prop := SideOn R fn fm fw fun _ => True
/-- A call that has to do with no other epoch. -/
def Cl.base : Cl → Prop
  | .conf _ _ => False
  | .remind => False
  | .config => False
  | _ => True
def DocR (w : World) (S : Nat → Prop) (b : Nat) (d : Wd) : Prop := ∃ ev uv, RRep w S b d ev uv
def fnDoc : Cl → Nat
  | .produce _ _ _ _ => 61
  | .fetch _ _ => 62
  | .deliver _ => 81
  | .drop _ => 82
  | .twice _ => 83
  | .node _ => 84
  | .crash _ => 85
  | .restart _ => 86
  | .conf _ _ => 87
  | .remind => 88
  | .config => 89
def fnPrg : Cl → Nat
  | .produce _ _ _ _ => 18
  | .fetch _ _ => 19
  | .deliver _ => 52
  | .drop _ => 20
  | .twice _ => 21
  | .node _ => 22
  | .crash _ => 54
  | .restart _ => 55
  | .conf _ _ => 29
  | .remind => 56
  | .config => 31
theorem docSide : Side DocR fnDoc 78 37 where
  same := fun ⟨ev, uv, h⟩ hk => ⟨ev, uv, h.same hk⟩
  mono := fun ⟨ev, uv, h⟩ hk => ⟨ev, uv, h.mono hk⟩
  call := by
    rintro w S b d ⟨ev, uv, h⟩ hok c _ _
    have quiet : ∀ w', Below w.heap.size w w' → DocR w' (Ext S w) b d ∧ Fr S w w' := fun w' hb => ⟨⟨ev, uv, (h.below hb).mono fun k _ e => Or.inl e⟩, Fr.below hb⟩
    cases c with
    | produce n p s v => exact (rproduce_any h hok n p s v).mono fun e w' ⟨he, ⟨uv', h'⟩, hf⟩ => ⟨he, ⟨ev, uv', h'⟩, hf⟩
    | fetch n o => exact (rfetch_any h hok n o).mono fun e w' ⟨he, hb⟩ => ⟨he, quiet w' hb⟩
    | deliver i => exact (rdeliver_any h hok i).mono fun e w' ⟨he, ⟨uv', h'⟩, hf⟩ => ⟨he, ⟨ev, uv', h'⟩, hf⟩
    | drop i => exact (rdrop_any h hok.way i).mono fun e w' ⟨he, ⟨uv', h'⟩, hf⟩ => ⟨he, ⟨ev, uv', h'⟩, hf⟩
    | twice i => exact (rtwice_any h hok.way i).mono fun e w' ⟨he, ⟨uv', h'⟩, hf⟩ => ⟨he, ⟨ev, uv', h'⟩, hf⟩
    | node n => exact (rnode_any h hok n).mono fun e w' ⟨he, hb⟩ => ⟨he, quiet w' hb⟩
    | crash n => exact (rcrash_any h n).mono fun e w' ⟨he, h', hf⟩ => ⟨he, ⟨ev, uv, h'.mono fun k _ e => Or.inl e⟩, hf⟩
    | restart n => exact (rrestart_any h n).mono fun e w' ⟨he, h', hf⟩ => ⟨he, ⟨ev, uv, h'.mono fun k _ e => Or.inl e⟩, hf⟩
    | conf m l => exact (rreconf_any h hok m l).mono fun e w' ⟨he, ⟨ev', uv', h'⟩, hf⟩ => ⟨he, ⟨ev', uv', h'⟩, hf⟩
    | remind => exact (rremind_any h hok).mono fun e w' ⟨he, ⟨uv', h'⟩, hf⟩ => ⟨he, ⟨ev, uv', h'⟩, hf⟩
    | config => exact (rconfig_any h hok).mono fun e w' ⟨he, hb⟩ => ⟨he, quiet w' hb⟩
  nil := by
    intro c _ _ w
    have same : ∀ w' : World, w' = w → Below w.heap.size w w' := fun w' e => by rw [e]; exact Below.refl _ _
    cases c with
    | produce n p s v => exact (rproduce_nil n p s v w).mono fun e w' ⟨he, hb⟩ => ⟨he, same w' hb⟩
    | fetch n o => exact (rfetch_nil n o w).mono fun e w' ⟨he, hb⟩ => ⟨he, hb⟩
    | deliver i => exact (rdeliver_nil i w).mono fun e w' ⟨he, hb⟩ => ⟨he, hb⟩
    | drop i => exact (rdrop_nil i w).mono fun e w' ⟨he, hb⟩ => ⟨he, hb⟩
    | twice i => exact (rtwice_nil i w).mono fun e w' ⟨he, hb⟩ => ⟨he, same w' hb⟩
    | node n => exact (rnode_nil n w).mono fun e w' ⟨he, hb⟩ => ⟨he, hb⟩
    | crash n => exact (rcrash_nil n w).mono fun e w' ⟨he, hb⟩ => ⟨he, same w' hb⟩
    | restart n => exact (rrestart_nil n w).mono fun e w' ⟨he, hb⟩ => ⟨he, same w' hb⟩
    | conf m l => exact (rreconf_nil m l w).mono fun e w' ⟨he, hb⟩ => ⟨he, same w' hb⟩
    | remind => exact (rremind_nil w).mono fun e w' ⟨he, hb⟩ => ⟨he, same w' hb⟩
    | config => exact (rconfig_nil w).mono fun e w' ⟨he, hb⟩ => ⟨he, hb⟩
  msgs := fun ⟨ev, uv, h⟩ hok => (rmessages_any h hok.way)
  msgsNil := fun w => (rmessages_nil w).mono fun e w' ⟨he, hb⟩ => ⟨_, he, ⟨rfl, Or.inl ⟨rfl, rfl⟩⟩, by rw [hb]; exact Below.refl _ _⟩
  new := fun w => (rnew_any w).mono fun e w' ⟨he, ⟨ev, h⟩, hb⟩ => ⟨_, he, ⟨ev, _, h⟩, hb⟩
end Go.Proofs.Ythpjcmilfipbaaa
