/- My own text: several texts in one. -/
import Derived.Test.YthpjcmilfipbaaaR12
namespace Go.Proofs.Ythpjcmilfipbaaa
set_option linter.unusedVariables false
set_option linter.unusedSimpArgs false
def eraL (L : List Era) (e : Int) : Era := L.getD (e - 1).toNat era0
def inL (L : List Era) (e : Int) (i : Nat) : Bool := decide ((eraL L e).members / 2 ^ i % 2 = 1)
theorem era_eq (d : Wd) (e : Int) : d.era e = eraL d.eras e := rfl
theorem rIn_eq (d : Wd) (e : Int) (i : Nat) : rIn d e i = inL d.eras e i := rfl
/-- Each producer's records are in their order. -/
def cnt (p : Int) (l : List Rec) : Nat := (l.filter fun r => r.p == p).length
def Turn (l : List Rec) : Prop := ∀ (n : Nat) (r : Rec), l[n]? = some r → (1 ≤ r.p ∧ r.p ≤ 4) ∧ r.s = (cnt r.p (l.take n) : Int) + 1
structure Gh where
  set : Int → Prop
  act : Int → Prop
  ini : Int → List Rec
  glog : Int → List Rec
  ack : Nat → Int → Nat
  fol : Nat → Int
  giv : Nat → Int
def val (L : List Era) (g : Gh) (m : Nat) (e : Int) : Nat := if (m : Int) = (eraL L e).leader then (g.glog e).length else g.ack m e
def Wit (L : List Era) (g : Gh) (e : Int) (recs : List Rec) : Prop :=
  ∃ m, m < 5 ∧ inL L (eraL L e).before m = true ∧ (eraL L e).before < g.fol m ∧ (g.glog (eraL L e).before).take (val L g m (eraL L e).before) <+: recs
/-- All others of the epoch were given its log. -/
def Given (L : List Era) (g : Gh) (e : Int) : Prop := ∀ j, j < 5 → inL L e j = true → (j : Int) ≠ (eraL L e).leader → e ≤ g.giv j ∧ (g.ini e).length ≤ g.ack j e
structure GInv (L : List Era) (a : Int) (g : Gh) : Prop where
  a1 : g.act a ∧ 1 ≤ a ∧ a ≤ L.length
  a1' : ∀ e, g.act e → 1 ≤ e ∧ e ≤ a
  a2 : ∀ e : Int, 2 ≤ e → e ≤ L.length → g.act (eraL L e).before ∧ (eraL L e).before < e ∧ ∀ e1, (eraL L e).before < e1 → e1 < e → ¬ g.act e1
  a3 : ∀ e, g.act e → g.set e
  a3' : ∀ e, g.set e → 1 ≤ e ∧ e ≤ L.length ∧ ∀ k : Nat, k < 5 → (k : Int) = (eraL L e).leader → e ≤ g.giv k
  a4 : ∀ e, g.set e → g.ini e <+: g.glog e ∧ (¬ g.act e → g.glog e = g.ini e)
  a5 : ∀ e, g.act e → Given L g e
  a6 : ∀ j e, j < 5 → g.set e → g.ack j e ≤ (g.glog e).length
  a7 : ∀ e, g.set e → 2 ≤ e → Wit L g e (g.ini e)
  a8 : ∀ e, g.set e → Turn (g.glog e)
  a9 : ∀ j e, ¬ g.set e → g.ack j e = 0
structure NInv (L : List Era) (g : Gh) (k : Nat) (m : Mem) : Prop where
  fol : g.fol k = m.follows
  giv : g.giv k = m.given
  n1 : 0 ≤ m.given ∧ m.given ≤ m.follows ∧ m.follows ≤ L.length
  n2 : 1 ≤ m.given → g.set m.given ∧ g.ini m.given <+: m.log ∧ m.log <+: g.glog m.given ∧ g.ack k m.given = m.log.length ∧ ((k : Int) = (eraL L m.given).leader → m.log = g.glog m.given)
  n3 : m.role ≠ 0 → (k : Int) = (eraL L m.follows).leader ∧ 1 ≤ m.follows
  n4 : m.role = 1 → ¬ g.set m.follows
  n5 : m.role = 2 ∨ m.role = 3 → m.given = m.follows
  n6 : m.role = 2 → m.log = g.ini m.follows ∧ ∀ j, j < 5 → inL L m.follows j = true → j ≠ k → m.has j = true → m.follows ≤ g.giv j ∧ (g.ini m.follows).length ≤ g.ack j m.follows
  n7 : m.role = 3 → g.act m.follows ∧ ∀ j, j < 5 → inL L m.follows j = true → j ≠ k → m.knows j ≤ (g.ack j m.follows : Int)
  n8 : ∀ e, m.given < e → g.ack k e = 0
structure MInv (L : List Era) (g : Gh) (m : Msg) : Prop where
  m0 : m.to = -1 → m.kind = 6
  ep : 1 ≤ m.epoch ∧ m.epoch ≤ L.length
  m1 : m.kind = 1 → 2 ≤ m.epoch ∧ m.to = (eraL L m.epoch).leader
  m2 : m.kind = 2 → 2 ≤ m.epoch ∧ 0 ≤ m.to ∧ inL L (eraL L m.epoch).before m.to.toNat = true ∧ m.frm ≠ -1
  m3 : m.kind = 3 → 2 ≤ m.epoch ∧ Wit L g m.epoch m.recs ∧ Turn m.recs
  m4 : m.kind = 4 → g.set m.epoch ∧ m.recs = g.ini m.epoch ∧ m.to ≠ (eraL L m.epoch).leader ∧ m.frm ≠ -1
  m5 : m.kind = 5 → g.set m.epoch ∧ m.epoch ≤ g.giv m.frm.toNat ∧ (g.ini m.epoch).length ≤ g.ack m.frm.toNat m.epoch
  m6 : m.kind = 6 → g.set m.epoch ∧ Given L g m.epoch
  m7 : m.kind = 7 → g.act m.epoch
  m8 : m.kind = 8 → g.set m.epoch ∧ m.to ≠ (eraL L m.epoch).leader ∧ m.recs <+: (g.glog m.epoch).drop m.n.toNat ∧ m.frm ≠ -1
  m9 : m.kind = 9 → m.n ≤ (g.ack m.frm.toNat m.epoch : Int) ∧ m.frm ≠ (eraL L m.epoch).leader
structure Inv (d : Wd) (g : Gh) : Prop where
  gh : GInv d.eras d.active g
  nd : ∀ k, k < 5 → NInv d.eras g k (d.mem k)
  ms : ∀ m ∈ d.way, MInv d.eras g m
/-- The ghosts go on; k: the node that is turned. -/
structure Grow (L : List Era) (k : Nat) (g g' : Gh) : Prop where
  set : ∀ e, g.set e → g'.set e
  set' : ∀ e, g'.set e → g.set e ∨ (k : Int) = (eraL L e).leader
  act : ∀ e, g'.act e ↔ g.act e
  ini : ∀ e, g.set e → g'.ini e = g.ini e
  glog : ∀ e, g.set e → g.glog e <+: g'.glog e
  glog' : ∀ e, g.set e → (k : Int) ≠ (eraL L e).leader → g'.glog e = g.glog e
  frzL : ∀ e, g.set e → (k : Int) = (eraL L e).leader → e < g.fol k → g'.glog e = g.glog e
  ack : ∀ j e, g.ack j e ≤ g'.ack j e
  ack' : ∀ j e, j ≠ k → g'.ack j e = g.ack j e
  frz : ∀ e, e < g.fol k → g'.ack k e = g.ack k e
  fol : ∀ j, g.fol j ≤ g'.fol j
  fol' : ∀ j, j ≠ k → g'.fol j = g.fol j
  giv : ∀ j, g.giv j ≤ g'.giv j
  giv' : ∀ j, j ≠ k → g'.giv j = g.giv j
theorem Grow.refl (L : List Era) (k : Nat) (g : Gh) : Grow L k g g :=
  ⟨fun _ h => h, fun _ h => Or.inl h, fun _ => Iff.rfl, fun _ _ => rfl, fun _ _ => List.prefix_refl _, fun _ _ _ => rfl, fun _ _ _ _ => rfl, fun _ _ => Nat.le_refl _, fun _ _ _ => rfl, fun _ _ => rfl, fun _ => Int.le_refl _, fun _ _ => rfl, fun _ => Int.le_refl _, fun _ _ => rfl⟩
theorem prefix_take {l m : List Rec} (h : l <+: m) {n : Nat} (hn : n ≤ l.length) : m.take n = l.take n := by
  obtain ⟨t, rfl⟩ := h
  rw [List.take_append_of_le_length hn]
section
variable {L : List Era} {a : Int} {k : Nat} {g g' : Gh}
/-- A frozen beginning stays. -/
theorem Grow.part (h : Grow L k g g') (hg : GInv L a g) {e : Int} (he : g.set e) {m : Nat} (hm : m < 5) (hl : e < g.fol m) : val L g' m e = val L g m e ∧ (g'.glog e).take (val L g m e) = (g.glog e).take (val L g m e) := by
  unfold val
  by_cases hm2 : (m : Int) = (eraL L e).leader
  · rw [if_pos hm2, if_pos hm2]
    have : g'.glog e = g.glog e := by
      by_cases hk : (k : Int) = (eraL L e).leader
      · have : m = k := by omega
        subst this
        exact h.frzL e he hk hl
      · exact h.glog' e he hk
    rw [this]
    exact ⟨rfl, rfl⟩
  · rw [if_neg hm2, if_neg hm2]
    refine ⟨?_, prefix_take (h.glog e he) (hg.a6 m e hm he)⟩
    by_cases hk : m = k
    · subst hk; exact h.frz e hl
    · exact h.ack' m e hk
theorem Grow.wit (h : Grow L k g g') (hg : GInv L a g) {e : Int} (h2 : 2 ≤ e) (hE : e ≤ L.length) {recs : List Rec} (hw : Wit L g e recs) : Wit L g' e recs := by
  obtain ⟨m, h5, hin, hl, hp⟩ := hw
  have hs := hg.a3 _ (hg.a2 e h2 hE).1
  obtain ⟨e1, e2⟩ := h.part hg hs h5 hl
  exact ⟨m, h5, hin, Int.lt_of_lt_of_le hl (h.fol m), by rw [e1, e2]; exact hp⟩
theorem Grow.given (h : Grow L k g g') {e : Int} (he : g.set e) (hw : Given L g e) : Given L g' e := fun j h5 hin hn => by
  obtain ⟨h1, h2⟩ := hw j h5 hin hn
  rw [h.ini e he]
  exact ⟨Int.le_trans h1 (h.giv j), Nat.le_trans h2 (h.ack j e)⟩
theorem drop_prefix {l m : List Rec} (h : l <+: m) (n : Nat) : l.drop n <+: m.drop n := by
  obtain ⟨t, rfl⟩ := h
  by_cases hn : n ≤ l.length
  · rw [List.drop_append_of_le_length hn]; exact List.prefix_append _ _
  · rw [List.drop_of_length_le (by omega : l.length ≤ n)]; exact List.nil_prefix
theorem Grow.msg (h : Grow L k g g') (hg : GInv L a g) {m : Msg} (hm : MInv L g m) : MInv L g' m :=
  { m0 := hm.m0, ep := hm.ep, m1 := hm.m1, m2 := hm.m2
    m3 := fun e => ⟨(hm.m3 e).1, h.wit hg (hm.m3 e).1 hm.ep.2 (hm.m3 e).2.1, (hm.m3 e).2.2⟩
    m4 := fun e => ⟨h.set _ (hm.m4 e).1, by rw [h.ini _ (hm.m4 e).1]; exact (hm.m4 e).2.1, (hm.m4 e).2.2⟩
    m5 := fun e => ⟨h.set _ (hm.m5 e).1, Int.le_trans (hm.m5 e).2.1 (h.giv _), by rw [h.ini _ (hm.m5 e).1]; exact Nat.le_trans (hm.m5 e).2.2 (h.ack _ _)⟩
    m6 := fun e => ⟨h.set _ (hm.m6 e).1, h.given (hm.m6 e).1 (hm.m6 e).2⟩
    m7 := fun e => (h.act _).2 (hm.m7 e)
    m8 := fun e => ⟨h.set _ (hm.m8 e).1, (hm.m8 e).2.1, (hm.m8 e).2.2.1.trans (drop_prefix (h.glog _ (hm.m8 e).1) _), (hm.m8 e).2.2.2⟩
    m9 := fun e => ⟨by have := (hm.m9 e).1; have := h.ack m.frm.toNat m.epoch; omega, (hm.m9 e).2⟩ }
theorem Grow.node (h : Grow L k g g') (hg : GInv L a g) {j : Nat} (hj : j < 5) (hk : k < 5) (hne : j ≠ k) {m : Mem} (hm : NInv L g j m) : NInv L g' j m :=
  { fol := by rw [h.fol' j hne]; exact hm.fol
    giv := by rw [h.giv' j hne]; exact hm.giv
    n1 := hm.n1
    n2 := fun e => by
      obtain ⟨h1, h2, h3, h4, h5⟩ := hm.n2 e
      refine ⟨h.set _ h1, by rw [h.ini _ h1]; exact h2, h3.trans (h.glog _ h1), by rw [h.ack' j _ hne]; exact h4, fun hl => ?_⟩
      rw [h.glog' _ h1 (by omega)]
      exact h5 hl
    n3 := hm.n3
    n4 := fun e hs => by
      rcases h.set' _ hs with hs | hs
      · exact hm.n4 e hs
      · have := (hm.n3 (by omega)).1
        omega
    n5 := hm.n5
    n6 := fun e => by
      obtain ⟨h1, h2⟩ := hm.n6 e
      have hs : g.set m.follows := by
        have e1 := hm.n5 (Or.inl e)
        have := (hm.n3 (by omega)).2
        have := (hm.n2 (by omega)).1
        rw [e1] at this; exact this
      refine ⟨by rw [h.ini _ hs]; exact h1, fun i h5 hin hn hh => ?_⟩
      obtain ⟨q1, q2⟩ := h2 i h5 hin hn hh
      rw [h.ini _ hs]
      exact ⟨Int.le_trans q1 (h.giv i), Nat.le_trans q2 (h.ack i _)⟩
    n7 := fun e => ⟨(h.act _).2 (hm.n7 e).1, fun i h5 hin hn => by have := (hm.n7 e).2 i h5 hin hn; have := h.ack i m.follows; omega⟩
    n8 := fun e he => by rw [h.ack' j e hne]; exact hm.n8 e he }
/-- The ghosts' own, for a step that sets no epoch's log. -/
theorem Grow.ghost (h : Grow L k g g') (hg : GInv L a g) (hset : ∀ e, g'.set e → g.set e) (hact : ∀ e, ¬ g.act e → g'.glog e = g.glog e) (hle : ∀ j e, j < 5 → g.set e → g'.ack j e ≤ (g'.glog e).length) (ht : ∀ e, g.set e → Turn (g'.glog e)) (h9 : ∀ j e, ¬ g.set e → g'.ack j e = 0) : GInv L a g' :=
  { a1 := ⟨(h.act _).2 hg.a1.1, hg.a1.2⟩
    a1' := fun e he => hg.a1' e ((h.act e).1 he)
    a2 := fun e h2 hE => ⟨(h.act _).2 (hg.a2 e h2 hE).1, (hg.a2 e h2 hE).2.1, fun e1 q1 q2 q3 => (hg.a2 e h2 hE).2.2 e1 q1 q2 ((h.act e1).1 q3)⟩
    a3 := fun e he => h.set e (hg.a3 e ((h.act e).1 he))
    a3' := fun e he => by
      obtain ⟨q1, q2, q3⟩ := hg.a3' e (hset e he)
      exact ⟨q1, q2, fun i hi hl => Int.le_trans (q3 i hi hl) (h.giv i)⟩
    a4 := fun e he => by
      have hs := hset e he
      obtain ⟨q1, q2⟩ := hg.a4 e hs
      rw [h.ini e hs]
      refine ⟨q1.trans (h.glog e hs), fun hn => ?_⟩
      have hn' : ¬ g.act e := fun x => hn ((h.act e).2 x)
      rw [hact e hn']; exact q2 hn'
    a5 := fun e he => h.given (hg.a3 e ((h.act e).1 he)) (hg.a5 e ((h.act e).1 he))
    a6 := fun j e h5 he => hle j e h5 (hset e he)
    a7 := fun e he h2 => by
      have hs := hset e he
      rw [h.ini e hs]
      exact h.wit hg h2 (hg.a3' e hs).2.1 (hg.a7 e hs h2)
    a8 := fun e he => ht e (hset e he)
    a9 := fun j e he => h9 j e fun x => he (h.set e x) }
/-- A node is turned, the ghosts with it. -/
theorem Inv.put {d : Wd} (h : Inv d g) (hk : k < 5) (m : Mem) (hgr : Grow d.eras k g g') (hg : GInv d.eras d.active g') (hm : NInv d.eras g' k m) : Inv (d.put k m) g' :=
  { gh := hg
    nd := fun j hj => by
      by_cases e : j = k
      · subst e; rw [put_at]; exact hm
      · rw [put_other _ _ _ _ e]; exact hgr.node h.gh hj hk e (h.nd j hj)
    ms := fun x hx => hgr.msg h.gh (h.ms x hx) }
/-- A node is turned, the ghosts are not. -/
theorem Inv.put0 {d : Wd} (h : Inv d g) (hk : k < 5) (m : Mem) (hm : NInv d.eras g k m) : Inv (d.put k m) g := h.put hk m (Grow.refl _ _ _) h.gh hm
theorem Inv.sends {d : Wd} (h : Inv d g) {m : Msg} (hm : MInv d.eras g m) : Inv (rSends d m) g := by
  unfold rSends
  split
  · refine ⟨h.gh, h.nd, fun x hx => ?_⟩
    rcases List.mem_append.1 hx with hx | hx
    · exact h.ms x hx
    · simp at hx; subst hx; exact hm
  · exact h
theorem Inv.out {d : Wd} (h : Inv d g) (i : Nat) : Inv (rOut d i) g := ⟨h.gh, h.nd, fun x hx => h.ms x (List.mem_of_mem_eraseIdx hx)⟩
end
end Go.Proofs.Ythpjcmilfipbaaa

namespace Go.Proofs.Ythpjcmilfipbaaa
set_option linter.unusedVariables false
set_option linter.unusedSimpArgs false
/-- A record that may be told to be done. -/
def Told (L : List Era) (g : Gh) (n : Nat) (r : Rec) : Prop :=
  ∃ e, g.act e ∧ (∀ m, m < 5 → inL L e m = true → n < val L g m e) ∧ (g.glog e)[n]? = some r
theorem prefix_at {l m : List Rec} (h : l <+: m) {n : Nat} {r : Rec} (hr : l[n]? = some r) : m[n]? = some r := by
  obtain ⟨t, rfl⟩ := h
  rw [List.getElem?_append_left (List.getElem?_eq_some_iff.1 hr).1]; exact hr
theorem prefix_len {l m : List Rec} (h : l <+: m) : l.length ≤ m.length := by
  obtain ⟨t, rfl⟩ := h; simp
theorem prefix_eq {l m : List Rec} (h : l <+: m) (h2 : m <+: l) : l = m := h.eq_of_length (Nat.le_antisymm (prefix_len h) (prefix_len h2))
theorem prefix_turn {l m : List Rec} (h : l <+: m) (ht : Turn m) : Turn l := fun n r hr => by
  refine ⟨(ht n r (prefix_at h hr)).1, ?_⟩
  rw [(ht n r (prefix_at h hr)).2, prefix_take h (Nat.le_of_lt (List.getElem?_eq_some_iff.1 hr).1)]
section
variable {L : List Era} {a : Int} {k : Nat} {g g' : Gh} {d : Wd}
theorem Grow.told (h : Grow L k g g') (hg : GInv L a g) {n : Nat} {r : Rec} (ht : Told L g n r) : Told L g' n r := by
  obtain ⟨e, h1, h2, h3⟩ := ht
  have hs := hg.a3 e h1
  refine ⟨e, (h.act e).2 h1, fun m hm hi => Nat.lt_of_lt_of_le (h2 m hm hi) ?_, prefix_at (h.glog e hs) h3⟩
  unfold val
  split
  · exact prefix_len (h.glog e hs)
  · exact h.ack m e
/-- A step: the invariant goes on, and what may be told may be told. -/
def Next (d : Wd) (g : Gh) (d' : Wd) (P : Gh → Prop) : Prop := ∃ g', Inv d' g' ∧ (∀ n r, Told d.eras g n r → Told d'.eras g' n r) ∧ P g'
theorem Next.same (h : Inv d g) {P : Gh → Prop} (hp : P g) : Next d g d P := ⟨g, h, fun _ _ x => x, hp⟩
theorem Next.trans {d' d'' : Wd} {P Q : Gh → Prop} (h : Next d g d' P) (k : ∀ g', Inv d' g' → P g' → Next d' g' d'' Q) : Next d g d'' Q := by
  obtain ⟨g1, h1, h2, h3⟩ := h
  obtain ⟨g2, k1, k2, k3⟩ := k g1 h1 h3
  exact ⟨g2, k1, fun n r x => k2 n r (h2 n r x), k3⟩
theorem Next.put (h : Inv d g) (hk : k < 5) (m : Mem) (hgr : Grow d.eras k g g') (hg : GInv d.eras d.active g') (hm : NInv d.eras g' k m) {P : Gh → Prop} (hp : P g') : Next d g (d.put k m) P :=
  ⟨g', h.put hk m hgr hg hm, fun n r x => hgr.told h.gh x, hp⟩
def folTo (g : Gh) (k : Nat) (e : Int) : Gh := { g with fol := upd g.fol k e }
theorem folTo_grow (L : List Era) (g : Gh) (k : Nat) (e : Int) (h : g.fol k ≤ e) : Grow L k g (folTo g k e) :=
  { Grow.refl L k g with
    fol := fun j => by
      show g.fol j ≤ upd g.fol k e j
      unfold upd; split
      · rename_i q; rw [q]; exact h
      · exact Int.le_refl _
    fol' := fun j hj => by show upd g.fol k e j = _; rw [upd_other _ _ _ _ hj] }
theorem folTo_ghost (hg : GInv L a g) (k : Nat) (e : Int) (h : g.fol k ≤ e) : GInv L a (folTo g k e) :=
  (folTo_grow L g k e h).ghost hg (fun _ x => x) (fun _ _ => rfl) (fun j e h5 hs => hg.a6 j e h5 hs) (fun e hs => hg.a8 e hs) hg.a9
/-- A node follows an epoch now. -/
theorem Inv.follows0 (h : Inv d g) (hk : k < 5) (e : Int) (hE : e ≤ d.eras.length) (he : (d.mem k).follows ≤ e) : Next d g (rFollows d k e 0) fun g' => g'.fol k = e := by
  unfold rFollows
  have hn := h.nd k hk
  split
  · rename_i hlt
    have hf : g.fol k ≤ e := by rw [hn.fol]; omega
    refine Next.put h hk _ (folTo_grow d.eras g k e hf) (folTo_ghost h.gh k e hf) ?_ (by show upd g.fol k e k = e; rw [upd_same])
    exact { fol := by show upd g.fol k e k = e; rw [upd_same]
            giv := hn.giv
            n1 := ⟨hn.n1.1, by have := hn.n1.2.1; show (d.mem k).given ≤ e; omega, hE⟩
            n2 := fun x => hn.n2 x
            n3 := fun x => absurd rfl x
            n4 := fun x => by simp at x
            n5 := fun x => by simp at x
            n6 := fun x => by simp at x
            n7 := fun x => by simp at x
            n8 := hn.n8 }
  · exact Next.same h (by rw [hn.fol]; omega)
/-- A leader follows its epoch now. -/
theorem Inv.follows1 (h : Inv d g) (hk : k < 5) (e : Int) (hE : e ≤ d.eras.length) (he : (d.mem k).follows ≤ e) (h2 : 2 ≤ e) (hl : (k : Int) = (eraL d.eras e).leader) : Next d g (rFollows d k e 1) fun g' => g'.fol k = e := by
  unfold rFollows
  have hn := h.nd k hk
  split
  · rename_i hlt
    have hf : g.fol k ≤ e := by rw [hn.fol]; omega
    refine Next.put h hk _ (folTo_grow d.eras g k e hf) (folTo_ghost h.gh k e hf) ?_ (by show upd g.fol k e k = e; rw [upd_same])
    exact { fol := by show upd g.fol k e k = e; rw [upd_same]
            giv := hn.giv
            n1 := ⟨hn.n1.1, by have := hn.n1.2.1; show (d.mem k).given ≤ e; omega, hE⟩
            n2 := fun x => hn.n2 x
            n3 := fun x => ⟨hl, by show 1 ≤ e; omega⟩
            n4 := fun x hs => by
              have hs : g.set e := hs
              have := (h.gh.a3' e hs).2.2 k hk hl
              have := hn.n1.2.1
              rw [hn.giv] at *
              omega
            n5 := fun x => by simp at x
            n6 := fun x => by simp at x
            n7 := fun x => by simp at x
            n8 := hn.n8 }
  · exact Next.same h (by rw [hn.fol]; omega)
theorem Inv.wake (h : Inv d g) (hk : k < 5) (e : Int) (h2 : 2 ≤ e) (hf : (d.mem k).follows = e) (hl : (k : Int) = (eraL d.eras e).leader) : Inv (rWake d k e) g := by
  unfold rWake
  have hn := h.nd k hk
  split
  · rename_i hr
    refine h.put0 hk _ ?_
    exact { fol := hn.fol, giv := hn.giv, n1 := hn.n1, n2 := hn.n2
            n3 := fun x => ⟨by show (k : Int) = (eraL d.eras (d.mem k).follows).leader; rw [hf]; exact hl, by show 1 ≤ (d.mem k).follows; omega⟩
            n4 := fun x hs => by
              have hs : g.set (d.mem k).follows := hs
              rw [hf] at hs
              have := (h.gh.a3' e hs).2.2 k hk hl
              rw [hn.giv] at this
              omega
            n5 := fun x => by simp at x
            n6 := fun x => by simp at x
            n7 := fun x => by simp at x
            n8 := hn.n8 }
  · exact h
/-- What a member of the epoch before answers is a witness. -/
theorem Inv.witOf (h : Inv d g) (hk : k < 5) (e : Int) (h2 : 2 ≤ e) (hE : e ≤ d.eras.length) (hf : (d.mem k).follows = e) (hin : inL d.eras (eraL d.eras e).before k = true) :
    Wit d.eras g e (d.mem k).log ∧ Turn (d.mem k).log := by
  have hn := h.nd k hk
  obtain ⟨hab, hlt, hbet⟩ := h.gh.a2 e h2 hE
  have hsb := h.gh.a3 _ hab
  have hb1 := (h.gh.a1' _ hab).1
  have hfb : (eraL d.eras e).before < g.fol k := by rw [hn.fol, hf]; exact hlt
  have hgb : (eraL d.eras e).before ≤ (d.mem k).given := by
    rw [← hn.giv]
    by_cases hl : (k : Int) = (eraL d.eras (eraL d.eras e).before).leader
    · exact (h.gh.a3' _ hsb).2.2 k hk hl
    · exact (h.gh.a5 _ hab k hk hin hl).1
  have hge : (d.mem k).given ≤ e := by rw [← hf]; exact hn.n1.2.1
  obtain ⟨hs, hi, hp, ha, hlead⟩ := hn.n2 (by omega)
  refine ⟨?_, prefix_turn hp (h.gh.a8 _ hs)⟩
  by_cases c1 : (d.mem k).given = (eraL d.eras e).before
  · refine ⟨k, hk, hin, hfb, ?_⟩
    rw [← c1] at *
    unfold val
    split
    · rename_i hl
      rw [List.take_length, ← hlead hl]
      exact List.prefix_refl _
    · rw [ha, prefix_take hp (Nat.le_refl _), List.take_length]
      exact List.prefix_refl _
  by_cases c2 : (d.mem k).given = e
  · rw [c2] at hi hs
    obtain ⟨m, q1, q2, q3, q4⟩ := h.gh.a7 e hs h2
    exact ⟨m, q1, q2, q3, q4.trans hi⟩
  · have hna := hbet (d.mem k).given (by omega) (by omega)
    have e1 : (d.mem k).log = g.ini (d.mem k).given := by
      have := (h.gh.a4 _ hs).2 hna
      rw [this] at hp
      exact prefix_eq hp hi
    have h3 : 2 ≤ (d.mem k).given := by omega
    have h3E : (d.mem k).given ≤ d.eras.length := by omega
    obtain ⟨r1, r2, r3⟩ := h.gh.a2 _ h3 h3E
    have eb : (eraL d.eras (d.mem k).given).before = (eraL d.eras e).before := by
      by_cases x : (eraL d.eras (d.mem k).given).before < (eraL d.eras e).before
      · exact absurd hab (r3 _ x (by omega))
      · by_cases y : (eraL d.eras e).before < (eraL d.eras (d.mem k).given).before
        · exact absurd r1 (hbet _ y (by omega))
        · omega
    obtain ⟨m, q1, q2, q3, q4⟩ := h.gh.a7 _ hs h3
    rw [eb] at q2 q3 q4
    rw [e1]
    exact ⟨m, q1, q2, q3, q4⟩
end
end Go.Proofs.Ythpjcmilfipbaaa

namespace Go.Proofs.Ythpjcmilfipbaaa
set_option linter.unusedVariables false
set_option linter.unusedSimpArgs false
section
variable {L : List Era} {a : Int} {k : Nat} {g g' : Gh} {d : Wd}
theorem same_sends (d : Wd) (m : Msg) : (rSends d m).eras = d.eras ∧ (rSends d m).mem = d.mem ∧ (rSends d m).active = d.active := by
  unfold rSends; split <;> exact ⟨rfl, rfl, rfl⟩
theorem Next.sends {d' : Wd} {m : Msg} {P : Gh → Prop} (h : Next d g d' P) (hm : ∀ g', Inv d' g' → P g' → MInv d'.eras g' m) : Next d g (rSends d' m) P := by
  obtain ⟨g1, h1, h2, h3⟩ := h
  exact ⟨g1, h1.sends (hm g1 h1 h3), fun n r x => by rw [(same_sends d' m).1]; exact h2 n r x, h3⟩
theorem Next.drop {d' : Wd} {P Q : Gh → Prop} (h : Next d g d' P) (hq : ∀ g', P g' → Q g') : Next d g d' Q := by
  obtain ⟨g1, h1, h2, h3⟩ := h
  exact ⟨g1, h1, h2, hq g1 h3⟩
/-- A message whose kind asks for nothing of the others' fields. -/
theorem MInv.mk' {m : Msg} (ep : 1 ≤ m.epoch ∧ m.epoch ≤ L.length) (c : Int) (hk : m.kind = c) (h0 : c = 6 ∨ m.to ≠ -1)
    (h1 : c = 1 → 2 ≤ m.epoch ∧ m.to = (eraL L m.epoch).leader) (h2 : c = 2 → 2 ≤ m.epoch ∧ 0 ≤ m.to ∧ inL L (eraL L m.epoch).before m.to.toNat = true ∧ m.frm ≠ -1)
    (h3 : c = 3 → 2 ≤ m.epoch ∧ Wit L g m.epoch m.recs ∧ Turn m.recs) (h4 : c = 4 → g.set m.epoch ∧ m.recs = g.ini m.epoch ∧ m.to ≠ (eraL L m.epoch).leader ∧ m.frm ≠ -1)
    (h5 : c = 5 → g.set m.epoch ∧ m.epoch ≤ g.giv m.frm.toNat ∧ (g.ini m.epoch).length ≤ g.ack m.frm.toNat m.epoch) (h6 : c = 6 → g.set m.epoch ∧ Given L g m.epoch) (h7 : c = 7 → g.act m.epoch)
    (h8 : c = 8 → g.set m.epoch ∧ m.to ≠ (eraL L m.epoch).leader ∧ m.recs <+: (g.glog m.epoch).drop m.n.toNat ∧ m.frm ≠ -1) (h9 : c = 9 → m.n ≤ (g.ack m.frm.toNat m.epoch : Int) ∧ m.frm ≠ (eraL L m.epoch).leader) : MInv L g m := by
  subst hk
  exact ⟨fun x => by rcases h0 with h0 | h0; exact h0; exact absurd x h0, ep, h1, h2, h3, h4, h5, h6, h7, h8, h9⟩
theorem Inv.read (h : Inv d g) (hk : k < 5) (m : Msg) (hm : MInv d.eras g m) (hk2 : m.kind = 2) (hto : m.to = (k : Int)) (hf : (d.mem k).follows = m.epoch) (n : Int) : Inv (rSay d k m 3 n (d.mem k).log) g := by
  obtain ⟨q1, q2, q3, q4⟩ := hm.m2 hk2
  rw [hto] at q3
  obtain ⟨w1, w2⟩ := h.witOf hk m.epoch q1 hm.ep.2 hf (by simpa using q3)
  refine h.sends (MInv.mk' hm.ep 3 rfl (Or.inr q4) ?_ ?_ (fun _ => ⟨q1, w1, w2⟩) ?_ ?_ ?_ ?_ ?_ ?_) <;> intro x <;> omega
/-- What a node has been given. -/
def givTo (g : Gh) (k : Nat) (e : Int) (n : Nat) : Gh := { g with giv := upd g.giv k e, ack := fun j x => if j = k ∧ x = e then n else g.ack j x }
theorem givTo_grow (L : List Era) (g : Gh) (k : Nat) (e : Int) (n : Nat) (h : g.giv k ≤ e) (hn : g.ack k e ≤ n) (hf : g.fol k ≤ e) : Grow L k g (givTo g k e n) :=
  { Grow.refl L k g with
    ack := fun j x => by
      show g.ack j x ≤ if j = k ∧ x = e then n else g.ack j x
      split
      · rename_i q; rw [q.1, q.2]; exact hn
      · exact Nat.le_refl _
    ack' := fun j x hj => by show (if j = k ∧ x = e then n else g.ack j x) = _; rw [if_neg (fun q => hj q.1)]
    frz := fun x hx => by show (if k = k ∧ x = e then n else g.ack k x) = _; rw [if_neg (fun q => by have := q.2; omega)]
    giv := fun j => by
      show g.giv j ≤ upd g.giv k e j
      unfold upd; split
      · rename_i q; rw [q]; exact h
      · exact Int.le_refl _
    giv' := fun j hj => by show upd g.giv k e j = _; rw [upd_other _ _ _ _ hj] }
theorem givTo_ack (g : Gh) (k : Nat) (e : Int) (n : Nat) : (givTo g k e n).ack k e = n := by show (if k = k ∧ e = e then n else g.ack k e) = n; rw [if_pos ⟨rfl, rfl⟩]
theorem givTo_ghost (hg : GInv L a g) (k : Nat) (e : Int) (n : Nat) (h : g.giv k ≤ e) (hn : g.ack k e ≤ n) (hf : g.fol k ≤ e) (hs : g.set e) (hl : n ≤ (g.glog e).length) : GInv L a (givTo g k e n) :=
  (givTo_grow L g k e n h hn hf).ghost hg (fun _ x => x) (fun _ _ => rfl) (fun j x h5 hx => by
    show (if j = k ∧ x = e then n else g.ack j x) ≤ _
    split
    · rename_i q; rw [q.2]; exact hl
    · exact hg.a6 j x h5 hx) (fun x hx => hg.a8 x hx) (fun j x hx => by
    show (if j = k ∧ x = e then n else g.ack j x) = 0
    rw [if_neg (fun q => hx (by rw [q.2]; exact hs))]
    exact hg.a9 j x hx)
theorem Inv.state (h : Inv d g) (hk : k < 5) (m : Msg) (hm : MInv d.eras g m) (hk4 : m.kind = 4) (hto : m.to = (k : Int)) (hf : (d.mem k).follows = m.epoch) :
    Next d g (if (d.mem k).given < m.epoch then rSay (rGiven d k m.epoch m.recs) k m 5 0 [] else rSay d k m 5 0 []) fun _ => True := by
  obtain ⟨q1, q2, q3, q4⟩ := hm.m4 hk4
  rw [hto] at q3
  have hn := h.nd k hk
  have hr0 : (d.mem k).role = 0 := by
    by_cases x : (d.mem k).role = 0
    · exact x
    · have := (hn.n3 x).1; rw [hf] at this; exact absurd this q3
  split
  · rename_i hlt
    have e1 : g.giv k ≤ m.epoch := by rw [hn.giv]; omega
    have e2 : g.ack k m.epoch ≤ (g.ini m.epoch).length := by rw [hn.n8 _ hlt]; exact Nat.zero_le _
    have e3 : g.fol k ≤ m.epoch := by rw [hn.fol]; omega
    have gi := h.gh.a4 _ q1
    have hgr := givTo_grow d.eras g k m.epoch (g.ini m.epoch).length e1 e2 e3
    have step : Next d g (rGiven d k m.epoch m.recs) fun g' => MInv d.eras g' m ∧ m.epoch ≤ g'.giv k ∧ (g'.ini m.epoch).length ≤ g'.ack k m.epoch ∧ g'.set m.epoch := by
      refine Next.put h hk _ hgr (givTo_ghost h.gh k m.epoch _ e1 e2 e3 q1 (prefix_len gi.1)) ?_ ⟨hgr.msg h.gh hm, by show m.epoch ≤ upd g.giv k m.epoch k; rw [upd_same]; exact Int.le_refl _, by rw [givTo_ack]; exact Nat.le_refl _, q1⟩
      exact { fol := hn.fol, giv := by show upd g.giv k m.epoch k = _; rw [upd_same]
              n1 := ⟨by show 0 ≤ m.epoch; have := hm.ep.1; omega, by show m.epoch ≤ (d.mem k).follows; omega, hn.n1.2.2⟩
              n2 := fun _ => ⟨q1, by show g.ini m.epoch <+: m.recs; rw [q2]; exact List.prefix_refl _, by show m.recs <+: g.glog m.epoch; rw [q2]; exact gi.1, by rw [givTo_ack, q2], fun x => absurd x q3⟩
              n3 := fun x => absurd hr0 x
              n4 := fun x => by have x : (d.mem k).role = 1 := x; omega
              n5 := fun x => by have x : (d.mem k).role = 2 ∨ (d.mem k).role = 3 := x; omega
              n6 := fun x => by have x : (d.mem k).role = 2 := x; omega
              n7 := fun x => by have x : (d.mem k).role = 3 := x; omega
              n8 := fun x hx => by
                have hx : m.epoch < x := hx
                show (if k = k ∧ x = m.epoch then _ else g.ack k x) = 0
                rw [if_neg (fun q => by have := q.2; omega)]
                exact hn.n8 x (by omega) }
    refine Next.drop (Next.sends step (m := { kind := 5, frm := k, to := m.frm, epoch := m.epoch, n := 0, recs := [] }) fun g1 h1 hp => ?_) fun _ _ => trivial
    obtain ⟨p1, p2, p3, p4⟩ := hp
    refine MInv.mk' hm.ep 5 rfl (Or.inr q4) ?_ ?_ ?_ ?_ (fun _ => ?_) ?_ ?_ ?_ ?_
    all_goals first | (intro x; omega) | skip
    exact ⟨p4, p2, p3⟩
  · rename_i hlt
    have hge : (d.mem k).given = m.epoch := by have := hn.n1.2.1; omega
    obtain ⟨s1, s2, s3, s4, _⟩ := hn.n2 (by have := hm.ep.1; omega)
    rw [hge] at s1 s2 s3 s4
    have := prefix_len s2
    refine (Next.same (P := fun g' => g' = g) h rfl).sends (fun g1 h1 e => ?_) |>.drop fun _ _ => trivial
    subst e
    refine MInv.mk' hm.ep 5 rfl (Or.inr q4) ?_ ?_ ?_ ?_ (fun _ => ?_) ?_ ?_ ?_ ?_
    all_goals first | (intro x; omega) | skip
    exact ⟨q1, by show m.epoch ≤ g1.giv k; rw [hn.giv]; omega, by show (g1.ini m.epoch).length ≤ g1.ack k m.epoch; omega⟩
theorem rec_more {l l' recs : List Rec} (h : l <+: l') (hr : recs <+: l'.drop l.length) : l ++ recs <+: l' := by
  obtain ⟨t, rfl⟩ := h
  rw [List.drop_left] at hr
  exact List.prefix_append_right_inj l |>.2 hr
theorem Inv.app (h : Inv d g) (hk : k < 5) (m : Msg) (hm : MInv d.eras g m) (hk8 : m.kind = 8) (hto : m.to = (k : Int)) (hf : (d.mem k).follows = m.epoch) (hg : (d.mem k).given = m.epoch) (hr : (d.mem k).role = 0) :
    Next d g (rSay (rTakeAppend d k m) k m 9 ((rTakeAppend d k m).mem k).log.length []) fun _ => True := by
  obtain ⟨q1, q3, q2, q4⟩ := hm.m8 hk8
  rw [hto] at q3
  have hn := h.nd k hk
  have he1 := hm.ep.1
  obtain ⟨s1, s2, s3, s4, _⟩ := hn.n2 (by omega)
  rw [hg] at s1 s2 s3 s4
  have step : Next d g (rTakeAppend d k m) fun g' => (((rTakeAppend d k m).mem k).log.length : Int) ≤ (g'.ack k m.epoch : Int) := by
    unfold rTakeAppend
    split
    · rename_i hlen
      have q2' : m.recs <+: (g.glog m.epoch).drop (d.mem k).log.length := by rw [hlen] at q2; simpa using q2
      have hp := rec_more s3 q2'
      have e1 : g.giv k ≤ m.epoch := by rw [hn.giv]; omega
      have e2 : g.ack k m.epoch ≤ ((d.mem k).log ++ m.recs).length := by rw [s4]; simp
      have e3 : g.fol k ≤ m.epoch := by rw [hn.fol]; omega
      refine Next.put h hk _ (givTo_grow d.eras g k m.epoch _ e1 e2 e3) (givTo_ghost h.gh k m.epoch _ e1 e2 e3 s1 (prefix_len hp)) ?_ (by rw [givTo_ack]; show (((rPutLog d k ((d.mem k).log ++ m.recs)).mem k).log.length : Int) ≤ _; unfold rPutLog; rw [put_at]; exact Int.le_refl _)
      exact { fol := hn.fol, giv := by show upd g.giv k m.epoch k = _; rw [upd_same]; exact hg.symm
              n1 := hn.n1
              n2 := fun _ => by
                show g.set (d.mem k).given ∧ g.ini (d.mem k).given <+: (d.mem k).log ++ m.recs ∧ (d.mem k).log ++ m.recs <+: g.glog (d.mem k).given ∧ (givTo g k m.epoch ((d.mem k).log ++ m.recs).length).ack k (d.mem k).given = _ ∧ ((k : Int) = (eraL d.eras (d.mem k).given).leader → _)
                rw [hg]
                exact ⟨s1, s2.trans (List.prefix_append _ _), hp, givTo_ack _ _ _ _, fun x => absurd x q3⟩
              n3 := fun x => absurd hr x
              n4 := fun x => by have x : (d.mem k).role = 1 := x; omega
              n5 := fun x => by have x : (d.mem k).role = 2 ∨ (d.mem k).role = 3 := x; omega
              n6 := fun x => by have x : (d.mem k).role = 2 := x; omega
              n7 := fun x => by have x : (d.mem k).role = 3 := x; omega
              n8 := fun x hx => by
                have hx : (d.mem k).given < x := hx
                show (if k = k ∧ x = m.epoch then _ else g.ack k x) = 0
                rw [if_neg (fun q => by have := q.2; omega)]
                exact hn.n8 x hx }
    · exact Next.same h (by rw [s4]; exact Int.le_refl _)
  have hme : (rTakeAppend d k m).eras = d.eras := by unfold rTakeAppend; split <;> rfl
  refine (step.sends fun g1 h1 p1 => MInv.mk' (by rw [hme]; exact hm.ep) 9 rfl (Or.inr q4) ?_ ?_ ?_ ?_ ?_ ?_ ?_ ?_ (fun _ => ?_)).drop fun _ _ => trivial
  all_goals first | (intro x; omega) | skip
  exact ⟨p1, by rw [hme]; exact q3⟩
end
end Go.Proofs.Ythpjcmilfipbaaa

namespace Go.Proofs.Ythpjcmilfipbaaa
set_option linter.unusedVariables false
set_option linter.unusedSimpArgs false
section
variable {L : List Era} {a : Int} {k : Nat} {g g' : Gh} {d : Wd}
theorem rOthersTo_spec (d : Wd) (k : Nat) : ∀ n, rOthersTo d k n = true → ∀ j, j < n → j ≠ k → rIn d (d.mem k).follows j = true → (d.mem k).has j = true
  | 0, _, j, hj, _, _ => by omega
  | n + 1, h, j, hj, hne, hin => by
    simp only [rOthersTo, Bool.and_eq_true] at h
    by_cases e : j = n
    · subst e
      have := h.2
      simp [hne, hin] at this
      exact this
    · exact rOthersTo_spec d k n h.1 j (by omega) hne hin
theorem Inv.ready (h : Inv d g) (hk : k < 5) (hr : (d.mem k).role = 2) (ho : rOthers d k = true) : Inv (rReady d k (d.mem k).follows) g := by
  have hn := h.nd k hk
  obtain ⟨hl, h1⟩ := hn.n3 (by omega)
  have hge := hn.n5 (Or.inl hr)
  have hs := (hn.n2 (by omega)).1
  rw [hge] at hs
  refine h.sends (MInv.mk' ⟨h1, hn.n1.2.2⟩ 6 rfl (Or.inl rfl) ?_ ?_ ?_ ?_ ?_ (fun _ => ⟨hs, fun j hj hin hne => ?_⟩) ?_ ?_ ?_)
  all_goals first | (intro x; omega) | skip
  have hjk : j ≠ k := fun e => hne (by subst e; exact hl)
  exact (hn.n6 hr).2 j hj hin hjk (rOthersTo_spec d k 5 ho j hj hjk hin)
theorem Inv.handsTo (h : Inv d g) (hk : k < 5) (hr : (d.mem k).role = 2) : ∀ n, n ≤ 5 → Inv (rHandsTo d k (d.mem k) n) g ∧ (rHandsTo d k (d.mem k) n).eras = d.eras
  | 0, _ => ⟨h, rfl⟩
  | n + 1, h5 => by
    obtain ⟨ih, ie⟩ := Inv.handsTo h hk hr n (by omega)
    have hn := h.nd k hk
    obtain ⟨hl, h1⟩ := hn.n3 (by omega)
    have hge := hn.n5 (Or.inl hr)
    have hs := (hn.n2 (by omega)).1
    rw [hge] at hs
    unfold rHandsTo
    split
    · rename_i hc
      refine ⟨ih.sends ?_, by rw [(same_sends _ _).1]; exact ie⟩
      rw [ie]
      refine MInv.mk' ⟨h1, hn.n1.2.2⟩ 4 rfl (Or.inr (by show (n : Int) ≠ -1; omega)) ?_ ?_ ?_ (fun _ => ⟨hs, (hn.n6 hr).1, ?_, by show (k : Int) ≠ -1; omega⟩) ?_ ?_ ?_ ?_ ?_
      all_goals first | (intro x; omega) | skip
      show (n : Int) ≠ (eraL d.eras (d.mem k).follows).leader
      rw [← hl]; omega
    · exact ⟨ih, ie⟩
theorem Inv.hands (h : Inv d g) (hk : k < 5) (hr : (d.mem k).role = 2) : Inv (rHands d k) g ∧ (rHands d k).eras = d.eras := by
  unfold rHands
  split
  · rename_i ho
    exact ⟨h.ready hk hr ho, (same_sends _ _).1⟩
  · exact h.handsTo hk hr 5 (by omega)
/-- An epoch's log is set. -/
def tellTo (g : Gh) (k : Nat) (e : Int) (l : List Rec) : Gh :=
  { g with set := fun x => x = e ∨ g.set x, ini := fun x => if x = e then l else g.ini x, glog := fun x => if x = e then l else g.glog x, giv := upd g.giv k e, ack := fun j x => if j = k ∧ x = e then l.length else g.ack j x }
theorem tellTo_grow (hg : GInv L a g) (k : Nat) (e : Int) (l : List Rec) (hs : ¬ g.set e) (hl : (k : Int) = (eraL L e).leader) (hgv : g.giv k ≤ e) (hf : g.fol k ≤ e) : Grow L k g (tellTo g k e l) :=
  have ne : ∀ x, g.set x → x ≠ e := fun x hx q => hs (by rw [← q]; exact hx)
  have h0 := hg.a9 k e hs
  { Grow.refl L k g with
    set := fun x hx => Or.inr hx
    set' := fun x hx => by rcases hx with hx | hx; exact Or.inr (by rw [hx]; exact hl); exact Or.inl hx
    ini := fun x hx => by show (if x = e then l else g.ini x) = _; rw [if_neg (ne x hx)]
    glog := fun x hx => by show g.glog x <+: (if x = e then l else g.glog x); rw [if_neg (ne x hx)]; exact List.prefix_refl _
    glog' := fun x hx _ => by show (if x = e then l else g.glog x) = _; rw [if_neg (ne x hx)]
    frzL := fun x hx _ _ => by show (if x = e then l else g.glog x) = _; rw [if_neg (ne x hx)]
    ack := fun j x => by
      show g.ack j x ≤ if j = k ∧ x = e then l.length else g.ack j x
      split
      · rename_i q; rw [q.1, q.2, h0]; exact Nat.zero_le _
      · exact Nat.le_refl _
    ack' := fun j x hj => by show (if j = k ∧ x = e then l.length else g.ack j x) = _; rw [if_neg (fun q => hj q.1)]
    frz := fun x hx => by show (if k = k ∧ x = e then l.length else g.ack k x) = _; rw [if_neg (fun q => by have := q.2; omega)]
    giv := fun j => by
      show g.giv j ≤ upd g.giv k e j
      unfold upd; split
      · rename_i q; rw [q]; exact hgv
      · exact Int.le_refl _
    giv' := fun j hj => by show upd g.giv k e j = _; rw [upd_other _ _ _ _ hj] }
theorem tellTo_ghost (hg : GInv L a g) (hk : k < 5) (e : Int) (l : List Rec) (hs : ¬ g.set e) (hl : (k : Int) = (eraL L e).leader) (hgv : g.giv k ≤ e) (hf : g.fol k ≤ e) (h1 : 1 ≤ e) (hE : e ≤ L.length) (hw : 2 ≤ e → Wit L g e l) (ht : Turn l) : GInv L a (tellTo g k e l) := by
  have gr := tellTo_grow hg k e l hs hl hgv hf
  have ne : ∀ x, g.set x → x ≠ e := fun x hx q => hs (by rw [← q]; exact hx)
  have iniE : (tellTo g k e l).ini e = l := by show (if e = e then l else g.ini e) = l; rw [if_pos rfl]
  have glogE : (tellTo g k e l).glog e = l := by show (if e = e then l else g.glog e) = l; rw [if_pos rfl]
  exact { a1 := hg.a1
          a1' := hg.a1'
          a2 := hg.a2
          a3 := fun x hx => Or.inr (hg.a3 x hx)
          a3' := fun x hx => by
            rcases hx with hx | hx
            · subst hx
              refine ⟨h1, hE, fun i hi hil => ?_⟩
              have : i = k := by omega
              subst this
              show x ≤ upd g.giv i x i
              rw [upd_same]; exact Int.le_refl _
            · obtain ⟨q1, q2, q3⟩ := hg.a3' x hx
              exact ⟨q1, q2, fun i hi hil => Int.le_trans (q3 i hi hil) (gr.giv i)⟩
          a4 := fun x hx => by
            by_cases q : x = e
            · subst q; rw [iniE, glogE]; exact ⟨List.prefix_refl _, fun _ => rfl⟩
            · rcases hx with hx | hx
              · exact absurd hx q
              · obtain ⟨q1, q2⟩ := hg.a4 x hx
                rw [gr.ini x hx]
                exact ⟨q1.trans (gr.glog x hx), fun hn => by show (if x = e then l else g.glog x) = _; rw [if_neg q]; exact q2 hn⟩
          a5 := fun x hx => gr.given (hg.a3 x hx) (hg.a5 x hx)
          a6 := fun j x hj hx => by
            show (if j = k ∧ x = e then l.length else g.ack j x) ≤ (if x = e then l else g.glog x).length
            by_cases q : x = e
            · subst q
              rw [if_pos rfl]
              split
              · exact Nat.le_refl _
              · rw [hg.a9 j x hs]; exact Nat.zero_le _
            · rw [if_neg (fun r => q r.2), if_neg q]
              rcases hx with hx | hx
              · exact absurd hx q
              · exact hg.a6 j x hj hx
          a7 := fun x hx h2 => by
            by_cases q : x = e
            · subst q; rw [iniE]; exact gr.wit hg h2 hE (hw h2)
            · rcases hx with hx | hx
              · exact absurd hx q
              · rw [gr.ini x hx]; exact gr.wit hg h2 (hg.a3' x hx).2.1 (hg.a7 x hx h2)
          a8 := fun x hx => by
            by_cases q : x = e
            · subst q; rw [glogE]; exact ht
            · rcases hx with hx | hx
              · exact absurd hx q
              · show Turn (if x = e then l else g.glog x); rw [if_neg q]; exact hg.a8 x hx
          a9 := fun j x hx => by
            show (if j = k ∧ x = e then l.length else g.ack j x) = 0
            rw [if_neg (fun q => hx (Or.inl q.2))]
            exact hg.a9 j x fun y => hx (Or.inr y) }
theorem Inv.tell (h : Inv d g) (hk : k < 5) (m : Msg) (hm : MInv d.eras g m) (hk3 : m.kind = 3) (hf : (d.mem k).follows = m.epoch) (hr : (d.mem k).role = 1) : Next d g (rTell d k m) fun _ => True := by
  obtain ⟨q1, q2, q3⟩ := hm.m3 hk3
  have hn := h.nd k hk
  have hs := hn.n4 hr
  obtain ⟨hl, h1⟩ := hn.n3 (by omega)
  rw [hf] at hs hl
  have e1 : g.giv k ≤ m.epoch := by rw [hn.giv]; have := hn.n1.2.1; omega
  have e3 : g.fol k ≤ m.epoch := by rw [hn.fol]; omega
  have iniE : (tellTo g k m.epoch m.recs).ini m.epoch = m.recs := by show (if m.epoch = m.epoch then m.recs else _) = _; rw [if_pos rfl]
  have glogE : (tellTo g k m.epoch m.recs).glog m.epoch = m.recs := by show (if m.epoch = m.epoch then m.recs else _) = _; rw [if_pos rfl]
  refine Next.put h hk _ (tellTo_grow h.gh k m.epoch m.recs hs hl e1 e3) (tellTo_ghost h.gh hk m.epoch m.recs hs hl e1 e3 hm.ep.1 hm.ep.2 (fun _ => q2) q3) ?_ trivial
  exact { fol := hn.fol, giv := by show upd g.giv k m.epoch k = _; rw [upd_same]
          n1 := ⟨by show 0 ≤ m.epoch; have := hm.ep.1; omega, by show m.epoch ≤ (d.mem k).follows; omega, hn.n1.2.2⟩
          n2 := fun _ => by
            show (tellTo g k m.epoch m.recs).set m.epoch ∧ (tellTo g k m.epoch m.recs).ini m.epoch <+: m.recs ∧ m.recs <+: (tellTo g k m.epoch m.recs).glog m.epoch ∧ (if k = k ∧ m.epoch = m.epoch then m.recs.length else g.ack k m.epoch) = m.recs.length ∧ (_ → m.recs = (tellTo g k m.epoch m.recs).glog m.epoch)
            rw [iniE, glogE, if_pos ⟨rfl, rfl⟩]
            exact ⟨Or.inl rfl, List.prefix_refl _, List.prefix_refl _, rfl, fun _ => rfl⟩
          n3 := fun _ => ⟨by show (k : Int) = (eraL d.eras (d.mem k).follows).leader; rw [hf]; exact hl, h1⟩
          n4 := fun x => by simp at x
          n5 := fun _ => by show m.epoch = (d.mem k).follows; exact hf.symm
          n6 := fun _ => by
            refine ⟨by show m.recs = (tellTo g k m.epoch m.recs).ini (d.mem k).follows; rw [hf, iniE], fun j _ _ _ x => by simp at x⟩
          n7 := fun x => by simp at x
          n8 := fun x hx => by
            have hx : m.epoch < x := hx
            show (if k = k ∧ x = m.epoch then _ else g.ack k x) = 0
            rw [if_neg (fun q => by have := q.2; omega)]
            exact hn.n8 x (by have := hn.n1.2.1; omega) }
theorem Inv.hasIt (h : Inv d g) (hk : k < 5) (m : Msg) (hm : MInv d.eras g m) (hk5 : m.kind = 5) (hf : (d.mem k).follows = m.epoch) (hr : (d.mem k).role = 2) : Inv (rHas d k m.frm.toNat) g := by
  obtain ⟨q1, q2, q3⟩ := hm.m5 hk5
  have hn := h.nd k hk
  refine h.put0 hk _ { fol := hn.fol, giv := hn.giv, n1 := hn.n1, n2 := hn.n2, n3 := hn.n3, n4 := hn.n4, n5 := hn.n5, n6 := fun x => ?_, n7 := hn.n7, n8 := hn.n8 }
  refine ⟨(hn.n6 hr).1, fun j hj hin hne hh => ?_⟩
  by_cases e : j = m.frm.toNat
  · subst e
    show (d.mem k).follows ≤ _ ∧ (g.ini (d.mem k).follows).length ≤ g.ack _ (d.mem k).follows
    rw [hf]; exact ⟨q2, q3⟩
  · have hh : upd (d.mem k).has m.frm.toNat true j = true := hh
    rw [upd_other _ _ _ _ e] at hh
    exact (hn.n6 hr).2 j hj hin hne hh
theorem Inv.serve (h : Inv d g) (hk : k < 5) (m : Msg) (hm : MInv d.eras g m) (hk7 : m.kind = 7) (hf : (d.mem k).follows = m.epoch) (hr : (d.mem k).role = 2) : Inv (rServe d k) g := by
  have hact := hm.m7 hk7
  have hn := h.nd k hk
  obtain ⟨hl, h1⟩ := hn.n3 (by omega)
  rw [← hf] at hact
  refine h.put0 hk _ { fol := hn.fol, giv := hn.giv, n1 := hn.n1, n2 := hn.n2, n3 := fun _ => ⟨hl, h1⟩, n4 := fun x => by simp at x, n5 := fun _ => hn.n5 (Or.inl hr), n6 := fun x => by simp at x, n7 := fun _ => ⟨hact, fun j hj hin hne => ?_⟩, n8 := hn.n8 }
  have := (h.gh.a5 _ hact j hj hin (fun e => hne (by omega))).2
  show ((d.mem k).log.length : Int) ≤ (g.ack j (d.mem k).follows : Int)
  rw [(hn.n6 hr).1]
  omega
theorem Inv.know (h : Inv d g) (hk : k < 5) (m : Msg) (hm : MInv d.eras g m) (hk9 : m.kind = 9) (hf : (d.mem k).follows = m.epoch) (hr : (d.mem k).role = 3) : Inv (rKnow d k m.frm.toNat m.n) g := by
  obtain ⟨q1, q2⟩ := hm.m9 hk9
  have hn := h.nd k hk
  unfold rKnow
  split
  · refine h.put0 hk _ { fol := hn.fol, giv := hn.giv, n1 := hn.n1, n2 := hn.n2, n3 := hn.n3, n4 := hn.n4, n5 := hn.n5, n6 := hn.n6, n7 := fun _ => ⟨(hn.n7 hr).1, fun j hj hin hne => ?_⟩, n8 := hn.n8 }
    show upd (d.mem k).knows m.frm.toNat m.n j ≤ (g.ack j (d.mem k).follows : Int)
    by_cases e : j = m.frm.toNat
    · subst e; rw [upd_same, hf]; exact q1
    · rw [upd_other _ _ _ _ e]; exact (hn.n7 hr).2 j hj hin hne
  · exact h
theorem drop_take1 (l : List Rec) (n : Nat) : (l.drop n).take 1 <+: l.drop n := List.take_prefix _ _
theorem Inv.appends (h : Inv d g) (hk : k < 5) (hr : (d.mem k).role = 3) (to : Nat) (hne : to ≠ k) (n : Int) : Inv (rAppends d k to n) g := by
  have hn := h.nd k hk
  obtain ⟨hl, h1⟩ := hn.n3 (by omega)
  have hge := hn.n5 (Or.inr hr)
  obtain ⟨s1, _, _, _, s5⟩ := hn.n2 (by omega)
  rw [hge] at s1 s5
  refine h.sends (MInv.mk' ⟨h1, hn.n1.2.2⟩ 8 rfl (Or.inr (by show (to : Int) ≠ -1; omega)) ?_ ?_ ?_ ?_ ?_ ?_ ?_ (fun _ => ⟨s1, ?_, ?_, by show (k : Int) ≠ -1; omega⟩) ?_)
  all_goals first | (intro x; omega) | skip
  · show (to : Int) ≠ (eraL d.eras (d.mem k).follows).leader
    rw [← hl]; omega
  · show ((d.mem k).log.drop n.toNat).take 1 <+: (g.glog (d.mem k).follows).drop n.toNat
    rw [s5 hl]; exact drop_take1 _ _
end
end Go.Proofs.Ythpjcmilfipbaaa
