/- My own text: several texts in one. -/
import Derived.Test.YthpjcmilfipbaaaK1
import Derived.Test.YthpjcmilfipbaaaS1
namespace Go.Proofs.Ythpjcmilfipbaaa
set_option linter.unusedVariables false
set_option linter.unusedSimpArgs false
section
variable {L : List Era} {a : Int} {k : Nat} {g g' : Gh} {d : Wd}
theorem Inv.next {d' : Wd} (h : Inv d' g) (he : d'.eras = d.eras) : Next d g d' fun _ => True := ⟨g, h, fun n r x => by rw [he]; exact x, trivial⟩
theorem Inv.ack (h : Inv d g) (hk : k < 5) (hr : (d.mem k).role = 3) (f : Nat) (hne : f ≠ k) : Inv (rAck d k f) g := by
  unfold rAck; split
  · exact h.appends hk hr f hne _
  · exact h
theorem rKnow_keeps (d : Wd) (k f : Nat) (n : Int) : (rKnow d k f n).eras = d.eras ∧ ((rKnow d k f n).mem k).role = (d.mem k).role := by
  unfold rKnow; split
  · exact ⟨rfl, by rw [put_at]⟩
  · exact ⟨rfl, rfl⟩
theorem rAck_eras (d : Wd) (k f : Nat) : (rAck d k f).eras = d.eras := by
  unfold rAck; split
  · exact (same_sends _ _).1
  · rfl
theorem Inv.leads (h : Inv d g) (hk : k < 5) (m : Msg) (hm : MInv d.eras g m) (hl9 : m.kind = 9 → 0 ≤ m.frm) (hf : (d.mem k).follows = m.epoch) : Next d g (rLeads d k m) fun _ => True := by
  unfold rLeads
  split
  · rename_i c
    refine (h.tell hk m hm c.1 hf c.2).trans fun g1 h1 _ => ?_
    have := h1.hands hk (by unfold rTell; rw [put_at])
    exact this.1.next this.2
  split
  · rename_i c
    have h1 := h.hasIt hk m hm c.1 hf c.2
    have hr : ((rHas d k m.frm.toNat).mem k).role = 2 := by unfold rHas; rw [put_at]; exact c.2
    have hfo : ((rHas d k m.frm.toNat).mem k).follows = m.epoch := by unfold rHas; rw [put_at]; exact hf
    split
    · rename_i ho
      have := h1.ready hk hr ho
      rw [hfo] at this
      exact this.next (same_sends _ _).1
    · exact h1.next rfl
  split
  · rename_i c
    exact (h.serve hk m hm c.1 hf c.2).next rfl
  split
  · rename_i c
    have h1 := h.know hk m hm c.1 hf c.2
    obtain ⟨e1, e2⟩ := rKnow_keeps d k m.frm.toNat m.n
    have hn := h.nd k hk
    have hl := (hn.n3 (by omega)).1
    have hne : m.frm.toNat ≠ k := by
      have := (hm.m9 c.1).2
      rw [← hf, ← hl] at this
      have := hl9 c.1
      omega
    exact (h1.ack hk (by rw [e2]; exact c.2) _ hne).next (by rw [rAck_eras]; exact e1)
  · exact Next.same h trivial
theorem Inv.readsTo (h : Inv d g) (hk : k < 5) (e : Int) (h2 : 2 ≤ e) (hE : e ≤ d.eras.length) : ∀ n, n ≤ 5 → Inv (rReadsTo d k e (eraL d.eras e).before n) g ∧ (rReadsTo d k e (eraL d.eras e).before n).eras = d.eras
  | 0, _ => ⟨h, rfl⟩
  | n + 1, h5 => by
    obtain ⟨ih, ie⟩ := Inv.readsTo h hk e h2 hE n (by omega)
    unfold rReadsTo
    split
    · rename_i hc
      rw [rIn_eq, ie] at hc
      refine ⟨ih.sends ?_, by rw [(same_sends _ _).1]; exact ie⟩
      rw [ie]
      refine MInv.mk' ⟨by show 1 ≤ e; omega, hE⟩ 2 rfl (Or.inr (by show (n : Int) ≠ -1; omega)) ?_ (fun _ => ⟨h2, by show 0 ≤ (n : Int); omega, hc, by show (k : Int) ≠ -1; omega⟩) ?_ ?_ ?_ ?_ ?_ ?_ ?_
      all_goals (intro x; omega)
    · exact ⟨ih, ie⟩
theorem rFollows_mem (d : Wd) (k : Nat) (e r : Int) (h : (d.mem k).follows ≤ e) : ((rFollows d k e r).mem k).follows = e := by
  unfold rFollows; split
  · rw [put_at]
  · omega
theorem rWake_mem (d : Wd) (k : Nat) (e : Int) : ((rWake d k e).mem k).follows = (d.mem k).follows ∧ (rWake d k e).eras = d.eras := by
  unfold rWake; split
  · exact ⟨by unfold rRole; rw [put_at], rfl⟩
  · exact ⟨rfl, rfl⟩
theorem Inv.starts (h : Inv d g) (hk : k < 5) (e : Int) (h2 : 2 ≤ e) (hE : e ≤ d.eras.length) (hl : (k : Int) = (eraL d.eras e).leader) (he : (d.mem k).follows ≤ e) : Next d g (rStarts d k e) fun _ => True := by
  unfold rStarts
  refine (h.follows1 hk e hE he h2 hl).trans fun g1 h1 _ => ?_
  have e1 := rFollows_eras d k e 1
  have f1 := rFollows_mem d k e 1 he
  have h3 := h1.wake hk e h2 f1 (by rw [e1]; exact hl)
  obtain ⟨f2, e2⟩ := rWake_mem (rFollows d k e 1) k e
  unfold rStart2
  split
  · have hb : ((rWake (rFollows d k e 1) k e).era e).before = (eraL (rWake (rFollows d k e 1) k e).eras e).before := rfl
    rw [hb]
    have := h3.readsTo hk e h2 (by rw [e2, e1]; exact hE) 5 (by omega)
    exact this.1.next (by rw [this.2, e2])
  split
  · rename_i c
    have := h3.hands hk c
    exact this.1.next (by rw [this.2, e2])
  · exact h3.next e2
theorem Inv.takes (h : Inv d g) (hk : k < 5) (m : Msg) (hm : MInv d.eras g m) (hto : m.to = (k : Int)) (hl9 : m.kind = 9 → 0 ≤ m.frm) : Next d g (rTakes d k m) fun _ => True := by
  unfold rTakes
  split
  · exact Next.same h trivial
  rename_i hle
  have he : (d.mem k).follows ≤ m.epoch := by omega
  have ee := rFollows_eras d k m.epoch 0
  have fe := rFollows_mem d k m.epoch 0 he
  split
  · rename_i c
    obtain ⟨q1, q2⟩ := hm.m1 c
    exact h.starts hk m.epoch q1 hm.ep.2 (by rw [← hto]; exact q2) he
  split
  · rename_i c
    obtain ⟨g1, h1, h2, h3⟩ := h.follows0 hk m.epoch hm.ep.2 he
    have hm1 : MInv (rFollows d k m.epoch 0).eras g1 m := by
      rw [ee]
      have q := hm.m2 c
      refine MInv.mk' hm.ep 2 c (Or.inr (by omega)) ?_ (fun _ => q) ?_ ?_ ?_ ?_ ?_ ?_ ?_
      all_goals (intro x; omega)
    have h4 := h1.read hk m hm1 c hto fe ((rFollows d k m.epoch 0).mem k).log.length
    exact ⟨g1, h4, fun n r x => by rw [show (rSay (rFollows d k m.epoch 0) k m 3 ((rFollows d k m.epoch 0).mem k).log.length ((rFollows d k m.epoch 0).mem k).log).eras = (rFollows d k m.epoch 0).eras from (same_sends _ _).1]; exact h2 n r x, trivial⟩
  split
  · rename_i c
    have hmk : ∃ g1, Inv (rFollows d k m.epoch 0) g1 ∧ (∀ n r, Told d.eras g n r → Told (rFollows d k m.epoch 0).eras g1 n r) ∧ MInv (rFollows d k m.epoch 0).eras g1 m := by
      unfold rFollows
      split
      · rename_i hlt
        have hf : g.fol k ≤ m.epoch := by rw [(h.nd k hk).fol]; exact he
        obtain ⟨g1, h1, h2, h3⟩ := h.follows0 hk m.epoch hm.ep.2 he
        have hn := h.nd k hk
        have gr := folTo_grow d.eras g k m.epoch hf
        refine ⟨folTo g k m.epoch, h.put hk _ gr (folTo_ghost h.gh k m.epoch hf) ?_, fun n r x => gr.told h.gh x, gr.msg h.gh hm⟩
        exact { fol := by show upd g.fol k m.epoch k = m.epoch; rw [upd_same]
                giv := hn.giv
                n1 := ⟨hn.n1.1, by have := hn.n1.2.1; show (d.mem k).given ≤ m.epoch; omega, hm.ep.2⟩
                n2 := fun x => hn.n2 x
                n3 := fun x => absurd rfl x
                n4 := fun x => by simp at x
                n5 := fun x => by simp at x
                n6 := fun x => by simp at x
                n7 := fun x => by simp at x
                n8 := hn.n8 }
      · exact ⟨g, h, fun _ _ x => x, hm⟩
    obtain ⟨g1, h1, h2, hm1⟩ := hmk
    obtain ⟨g2, k1, k2, k3⟩ := h1.state hk m hm1 c hto fe
    exact ⟨g2, k1, fun n r x => k2 n r (h2 n r x), trivial⟩
  split
  · rename_i c
    split
    · rename_i c2
      exact h.app hk m hm c hto c2.1 c2.2.1 c2.2.2
    · exact Next.same h trivial
  split
  · rename_i c
    exact h.leads hk m hm hl9 c
  · exact Next.same h trivial
/-- The newest epoch becomes active. -/
def actTo (g : Gh) (e : Int) : Gh := { g with act := fun x => x = e ∨ g.act x }
theorem Inv.master (h : Inv d g) (hok : ROk d) (e : Int) (h1 : 1 ≤ e) (hs : g.set e) (hg : Given d.eras g e) : Next d g (rMaster d e) fun _ => True := by
  unfold rMaster
  split
  · rename_i he
    have hw : ∀ x recs, Wit d.eras g x recs → Wit d.eras (actTo g e) x recs := fun x recs w => w
    have key : Inv { d with active := e } (actTo g e) :=
      { gh := { a1 := ⟨Or.inl rfl, h1, by show e ≤ d.eras.length; omega⟩
                a1' := fun x hx => by
                  have ha := h.gh.a1.2.2
                  rcases hx with hx | hx
                  · subst hx; exact ⟨h1, Int.le_refl _⟩
                  · have := h.gh.a1' x hx
                    exact ⟨this.1, by show x ≤ e; omega⟩
                a2 := fun x h2 hE => by
                  obtain ⟨q1, q2, q3⟩ := h.gh.a2 x h2 hE
                  refine ⟨Or.inr q1, q2, fun e1 r1 r2 r3 => ?_⟩
                  have hE : x ≤ d.eras.length := hE
                  rcases r3 with r3 | r3
                  · omega
                  · exact q3 e1 r1 r2 r3
                a3 := fun x hx => by rcases hx with hx | hx; rw [hx]; exact hs; exact h.gh.a3 x hx
                a3' := h.gh.a3'
                a4 := fun x hx => ⟨(h.gh.a4 x hx).1, fun hn => (h.gh.a4 x hx).2 fun y => hn (Or.inr y)⟩
                a5 := fun x hx => by rcases hx with hx | hx; rw [hx]; exact hg; exact h.gh.a5 x hx
                a6 := h.gh.a6
                a7 := h.gh.a7
                a8 := h.gh.a8
                a9 := h.gh.a9 }
        nd := fun j hj => by
          have hn := h.nd j hj
          exact { fol := hn.fol, giv := hn.giv, n1 := hn.n1, n2 := hn.n2, n3 := hn.n3, n4 := hn.n4, n5 := hn.n5, n6 := hn.n6, n7 := fun x => ⟨Or.inr (hn.n7 x).1, (hn.n7 x).2⟩, n8 := hn.n8 }
        ms := fun x hx => by
          have hm := h.ms x hx
          exact { m0 := hm.m0, ep := hm.ep, m1 := hm.m1, m2 := hm.m2, m3 := hm.m3, m4 := hm.m4, m5 := hm.m5, m6 := hm.m6, m7 := fun e => Or.inr (hm.m7 e), m8 := hm.m8, m9 := hm.m9 } }
    refine ⟨actTo g e, key.sends (MInv.mk' ⟨h1, by show e ≤ d.eras.length; omega⟩ 7 rfl ?_ ?_ ?_ ?_ ?_ ?_ ?_ (fun _ => Or.inl rfl) ?_ ?_), fun n r x => ?_, trivial⟩
    all_goals first | (intro x; omega) | skip
    · obtain ⟨n, hn⟩ := Int.eq_ofNat_of_zero_le (show 0 ≤ e by omega)
      have := era_leader hok n (by omega) (by omega)
      rw [← hn] at this
      exact Or.inr (by show (d.era e).leader ≠ -1; omega)
    · rw [(same_sends _ _).1]
      obtain ⟨e1, q1, q2⟩ := x
      exact ⟨e1, Or.inr q1, q2⟩
  · exact Next.same h trivial
end
end Go.Proofs.Ythpjcmilfipbaaa

namespace Go.Proofs.Ythpjcmilfipbaaa
set_option linter.unusedVariables false
set_option linter.unusedSimpArgs false
section
variable {L : List Era} {a : Int} {k : Nat} {g g' : Gh} {d : Wd}
theorem Inv.get (h : Inv d g) (hok : ROk d) (m : Msg) (hm : MInv d.eras g m) (hmo : MsgOk d.eras.length m) : Next d g (rGet d m) fun _ => True := by
  unfold rGet
  split
  · rename_i c
    obtain ⟨q1, q2⟩ := hm.m6 (hm.m0 c)
    exact h.master hok m.epoch hm.ep.1 q1 q2
  split
  · rename_i c _
    have := hmo.to
    exact h.takes (by omega) m hm (by omega) fun x => hmo.lead (Or.inl x)
  · exact Next.same h trivial
theorem ROk.out {d : Wd} (h : ROk d) (i : Nat) : ROk (rOut d i) := by
  refine ⟨h.e1, h.e40, h.act, h.era, h.fol, h.rol, h.log, h.byt, h.kno, ?_, fun m hm => h.msg m (List.mem_of_mem_eraseIdx hm)⟩
  have := h.way
  show (d.way.eraseIdx i).length ≤ 50
  rw [List.length_eraseIdx]; split <;> omega
theorem Inv.deliver (h : Inv d g) (hok : ROk d) (i : Int) : Next d g (rDeliver d i).1 fun _ => True := by
  unfold rDeliver
  split
  · show Next d g (match d.way[i.toNat]? with | some m => rGet (rOut d i.toNat) m | none => d) fun _ => True
    cases hm : d.way[i.toNat]? with
    | none => exact Next.same h trivial
    | some m =>
      have hin := List.mem_of_getElem? hm
      obtain ⟨g1, k1, k2, k3⟩ := (h.out i.toNat).get (hok.out i.toNat) m (h.ms m hin) (hok.msg m hin)
      exact ⟨g1, k1, k2, trivial⟩
  · exact Next.same h trivial
theorem Inv.dropIt (h : Inv d g) (i : Int) : Next d g (rDrop d i).1 fun _ => True := by
  unfold rDrop
  split
  · exact (h.out i.toNat).next rfl
  · exact Next.same h trivial
theorem Inv.twice (h : Inv d g) (i : Int) : Next d g (rTwice d i).1 fun _ => True := by
  unfold rTwice
  split
  · show Next d g (match d.way[i.toNat]? with | some m => rSends d m | none => d) fun _ => True
    cases hm : d.way[i.toNat]? with
    | none => exact Next.same h trivial
    | some m => exact (h.sends (h.ms m (List.mem_of_getElem? hm))).next (same_sends _ _).1
  · exact Next.same h trivial
theorem NInv.idle {m m' : Mem} (hn : NInv L g k m) (h1 : m'.follows = m.follows) (h2 : m'.given = m.given) (h3 : m'.log = m.log) (h4 : m'.role = 0) : NInv L g k m' :=
  { fol := by rw [h1]; exact hn.fol
    giv := by rw [h2]; exact hn.giv
    n1 := by rw [h1, h2]; exact hn.n1
    n2 := by rw [h2, h3]; exact hn.n2
    n3 := fun x => absurd h4 x
    n4 := fun x => by omega
    n5 := fun x => by omega
    n6 := fun x => by omega
    n7 := fun x => by omega
    n8 := by rw [h2]; exact hn.n8 }
theorem rRef_node {d : Wd} {node : Int} {up : Bool} (h : rRef d node up = 0) : node.toNat < 5 := by
  unfold rRef nodeB at h
  by_cases c : (decide (0 ≤ node) && decide (node < 5)) = true
  · simp at c; omega
  · rw [if_neg c] at h; omega
theorem Inv.crash (h : Inv d g) (node : Int) : Next d g (rCrash d node).1 fun _ => True := by
  unfold rCrash
  split
  · rename_i c
    have hk := rRef_node c
    exact (h.put0 hk { d.mem node.toNat with up := false, role := 0 } ((h.nd _ hk).idle rfl rfl rfl rfl)).next rfl
  · exact Next.same h trivial
theorem Inv.restart (h : Inv d g) (node : Int) : Next d g (rRestart d node).1 fun _ => True := by
  unfold rRestart
  split
  · exact Next.same h trivial
  · rename_i c
    split
    · exact Next.same h trivial
    · have hk := rRef_node (show rRef d node false = 0 from Decidable.not_not.1 c)
      have hn := h.nd _ hk
      exact (h.put0 hk { d.mem node.toNat with up := true } { fol := hn.fol, giv := hn.giv, n1 := hn.n1, n2 := hn.n2, n3 := hn.n3, n4 := hn.n4, n5 := hn.n5, n6 := hn.n6, n7 := hn.n7, n8 := hn.n8 }).next rfl
theorem Inv.remind (h : Inv d g) (hok : ROk d) : Next d g (rRemind d).1 fun _ => True := by
  unfold rRemind
  split
  · exact Next.same h trivial
  · rename_i c
    have ha := h.gh.a1
    have h1 := hok.e1
    have hl := era_leader hok d.eras.length h1 (Nat.le_refl _)
    refine (h.sends (MInv.mk' ⟨by show (1 : Int) ≤ d.eras.length; omega, Int.le_refl _⟩ 1 rfl (Or.inr (by show (d.era d.eras.length).leader ≠ -1; omega)) (fun _ => ⟨by show (2 : Int) ≤ d.eras.length; omega, rfl⟩) ?_ ?_ ?_ ?_ ?_ ?_ ?_ ?_)).next (same_sends _ _).1
    all_goals (intro x; omega)
/-- An epoch more: what is said of the others stays. -/
theorem eraL_more (L : List Era) (x : Era) (e : Int) (h1 : 1 ≤ e) (hE : e ≤ L.length) : eraL (L ++ [x]) e = eraL L e := by
  unfold eraL
  rw [List.getD_eq_getElem?_getD, List.getD_eq_getElem?_getD, List.getElem?_append_left (by omega)]
theorem inL_more (L : List Era) (x : Era) (e : Int) (h1 : 1 ≤ e) (hE : e ≤ L.length) (j : Nat) : inL (L ++ [x]) e j = inL L e j := by unfold inL; rw [eraL_more L x e h1 hE]
theorem val_more (L : List Era) (x : Era) (g : Gh) (e : Int) (h1 : 1 ≤ e) (hE : e ≤ L.length) (m : Nat) : val (L ++ [x]) g m e = val L g m e := by unfold val; rw [eraL_more L x e h1 hE]
theorem wit_more (hg : GInv L a g) (x : Era) {e : Int} (h2 : 2 ≤ e) (hE : e ≤ L.length) {recs : List Rec} (h : Wit L g e recs) : Wit (L ++ [x]) g e recs := by
  obtain ⟨m, q1, q2, q3, q4⟩ := h
  obtain ⟨r1, r2, _⟩ := hg.a2 e h2 hE
  have b1 := (hg.a1' _ r1).1
  unfold Wit
  rw [eraL_more L x e (by omega) hE]
  exact ⟨m, q1, by rw [inL_more L x _ b1 (by omega)]; exact q2, q3, by rw [val_more L x g _ b1 (by omega)]; exact q4⟩
theorem given_more (x : Era) {e : Int} (h1 : 1 ≤ e) (hE : e ≤ L.length) (h : Given L g e) : Given (L ++ [x]) g e := fun j hj hin hne => by
  rw [inL_more L x e h1 hE] at hin
  rw [eraL_more L x e h1 hE] at hne
  exact h j hj hin hne
theorem Inv.reconf (h : Inv d g) (hok : ROk d) (mm l : Int) : Next d g (rReconf d mm l).1 fun _ => True := by
  unfold rReconf
  split
  · exact Next.same h trivial
  rename_i hbad
  split
  · exact Next.same h trivial
  split
  · exact Next.same h trivial
  have ha := h.gh.a1
  have hlen : ((d.eras ++ [(⟨mm, l, d.active⟩ : Era)]).length : Int) = d.eras.length + 1 := by simp
  have e1 := hok.e1
  have hnew : eraL (d.eras ++ [(⟨mm, l, d.active⟩ : Era)]) (d.eras.length + 1) = ⟨mm, l, d.active⟩ := by
    unfold eraL
    have : ((d.eras.length : Int) + 1 - 1).toNat = d.eras.length := by omega
    rw [this]; simp
  have key : Inv { d with eras := d.eras ++ [(⟨mm, l, d.active⟩ : Era)] } g :=
    { gh := { a1 := ⟨ha.1, ha.2.1, by show d.active ≤ ((d.eras ++ [(⟨mm, l, d.active⟩ : Era)]).length : Int); omega⟩
              a1' := h.gh.a1'
              a2 := fun e h2 hE => by
                have hE : e ≤ ((d.eras ++ [(⟨mm, l, d.active⟩ : Era)]).length : Int) := hE
                show g.act (eraL (d.eras ++ [(⟨mm, l, d.active⟩ : Era)]) e).before ∧ (eraL (d.eras ++ [(⟨mm, l, d.active⟩ : Era)]) e).before < e ∧ ∀ e1, (eraL (d.eras ++ [(⟨mm, l, d.active⟩ : Era)]) e).before < e1 → e1 < e → ¬ g.act e1
                by_cases c : e ≤ d.eras.length
                · rw [eraL_more _ _ e (by omega) c]; exact h.gh.a2 e h2 c
                · have : e = d.eras.length + 1 := by omega
                  rw [this, hnew]
                  exact ⟨ha.1, by show d.active < _; omega, fun e1 r1 _ r3 => by have := (h.gh.a1' e1 r3).2; have r1 : d.active < e1 := r1; omega⟩
              a3 := h.gh.a3
              a3' := fun e hs => by
                obtain ⟨q1, q2, q3⟩ := h.gh.a3' e hs
                exact ⟨q1, by show e ≤ ((d.eras ++ [(⟨mm, l, d.active⟩ : Era)]).length : Int); omega, fun i hi hil => q3 i hi (by rw [eraL_more _ _ e q1 q2] at hil; exact hil)⟩
              a4 := h.gh.a4
              a5 := fun e hs => by
                obtain ⟨q1, q2, _⟩ := h.gh.a3' e (h.gh.a3 e hs)
                exact given_more _ q1 q2 (h.gh.a5 e hs)
              a6 := h.gh.a6
              a7 := fun e hs h2 => wit_more h.gh _ h2 (h.gh.a3' e hs).2.1 (h.gh.a7 e hs h2)
              a8 := h.gh.a8
              a9 := h.gh.a9 }
      nd := fun j hj => by
        have hn := h.nd j hj
        have hf := hn.n1.2.2
        exact { fol := hn.fol, giv := hn.giv, n1 := ⟨hn.n1.1, hn.n1.2.1, by show (d.mem j).follows ≤ ((d.eras ++ [(⟨mm, l, d.active⟩ : Era)]).length : Int); omega⟩
                n2 := fun x => by
                  obtain ⟨s1, s2, s3, s4, s5⟩ := hn.n2 x
                  exact ⟨s1, s2, s3, s4, fun y => s5 (by rw [eraL_more _ _ _ x (by have := hn.n1.2.1; show (d.mem j).given ≤ _; omega)] at y; exact y)⟩
                n3 := fun x => by
                  obtain ⟨q1, q2⟩ := hn.n3 x
                  exact ⟨by rw [eraL_more _ _ _ q2 hf]; exact q1, q2⟩
                n4 := hn.n4
                n5 := hn.n5
                n6 := fun x => by
                  obtain ⟨_, q2⟩ := hn.n3 (by have x : (d.mem j).role = 2 := x; show (d.mem j).role ≠ 0; omega)
                  exact ⟨(hn.n6 x).1, fun i hi hin => (hn.n6 x).2 i hi (by rw [inL_more _ _ _ q2 hf] at hin; exact hin)⟩
                n7 := fun x => by
                  obtain ⟨_, q2⟩ := hn.n3 (by have x : (d.mem j).role = 3 := x; show (d.mem j).role ≠ 0; omega)
                  exact ⟨(hn.n7 x).1, fun i hi hin => (hn.n7 x).2 i hi (by rw [inL_more _ _ _ q2 hf] at hin; exact hin)⟩
                n8 := hn.n8 }
      ms := fun x hx => by
        have hm := h.ms x hx
        obtain ⟨p1, p2⟩ := hm.ep
        have ee := eraL_more d.eras ⟨mm, l, d.active⟩ x.epoch p1 p2
        exact { m0 := hm.m0, ep := ⟨p1, by show x.epoch ≤ ((d.eras ++ [(⟨mm, l, d.active⟩ : Era)]).length : Int); omega⟩
                m1 := fun c => by show 2 ≤ x.epoch ∧ x.to = (eraL (d.eras ++ [_]) x.epoch).leader; rw [ee]; exact hm.m1 c
                m2 := fun c => by
                  show 2 ≤ x.epoch ∧ 0 ≤ x.to ∧ inL (d.eras ++ [_]) (eraL (d.eras ++ [_]) x.epoch).before x.to.toNat = true ∧ x.frm ≠ -1
                  obtain ⟨q1, q2, q3, q4⟩ := hm.m2 c
                  obtain ⟨r1, r2, _⟩ := h.gh.a2 _ q1 p2
                  rw [ee, inL_more _ _ _ (h.gh.a1' _ r1).1 (by omega)]
                  exact ⟨q1, q2, q3, q4⟩
                m3 := fun c => ⟨(hm.m3 c).1, wit_more h.gh _ (hm.m3 c).1 p2 (hm.m3 c).2.1, (hm.m3 c).2.2⟩
                m4 := fun c => by show _ ∧ _ ∧ x.to ≠ (eraL (d.eras ++ [_]) x.epoch).leader ∧ _; rw [ee]; exact hm.m4 c
                m5 := hm.m5
                m6 := fun c => ⟨(hm.m6 c).1, given_more _ p1 p2 (hm.m6 c).2⟩
                m7 := hm.m7
                m8 := fun c => by show _ ∧ x.to ≠ (eraL (d.eras ++ [_]) x.epoch).leader ∧ _; rw [ee]; exact hm.m8 c
                m9 := fun c => by show _ ∧ x.frm ≠ (eraL (d.eras ++ [_]) x.epoch).leader; rw [ee]; exact hm.m9 c } }
  obtain ⟨b1, b2, b3, b4⟩ := rBad_no (by simpa using hbad)
  refine ⟨g, key.sends (MInv.mk' ⟨by show (1 : Int) ≤ d.eras.length + 1; omega, by show (d.eras.length : Int) + 1 ≤ ((d.eras ++ [(⟨mm, l, d.active⟩ : Era)]).length : Int); omega⟩ 1 rfl (Or.inr (by show l ≠ -1; omega)) (fun _ => ⟨by show (2 : Int) ≤ d.eras.length + 1; omega, by show l = (eraL (d.eras ++ [_]) (d.eras.length + 1)).leader; rw [hnew]⟩) ?_ ?_ ?_ ?_ ?_ ?_ ?_ ?_), fun n r x => ?_, trivial⟩
  all_goals first | (intro x; omega) | skip
  rw [(same_sends _ _).1]
  obtain ⟨e, q1, q2, q3⟩ := x
  obtain ⟨r1, r2, _⟩ := h.gh.a3' e (h.gh.a3 e q1)
  exact ⟨e, q1, fun m hm hin => by rw [val_more _ _ _ _ r1 r2]; exact q2 m hm (by rw [inL_more _ _ _ r1 r2] at hin; exact hin), q3⟩
end
end Go.Proofs.Ythpjcmilfipbaaa

namespace Go.Proofs.Ythpjcmilfipbaaa
set_option linter.unusedVariables false
set_option linter.unusedSimpArgs false
theorem offGo_none (p s : Int) : ∀ (l : List Rec) (k : Nat), offGo p s l k < 0 → ∀ r ∈ l, ¬ (r.p = p ∧ r.s = s)
  | [], k, _, r, hr => by simp at hr
  | x :: l, k, h, r, hr => by
    unfold offGo at h
    split at h
    · omega
    · rename_i c
      rcases List.mem_cons.1 hr with e | e
      · rw [e]; exact c
      · exact offGo_none p s l (k + 1) h r e
theorem offGo_at (p s : Int) : ∀ (l : List Rec) (k : Nat), 0 ≤ offGo p s l k → ∃ n r, offGo p s l k = (k + n : Nat) ∧ l[n]? = some r ∧ r.p = p ∧ r.s = s
  | [], k, h => by simp [offGo] at h
  | x :: l, k, h => by
    unfold offGo at h ⊢
    split at h
    · rename_i c
      rw [if_pos c]
      exact ⟨0, x, rfl, rfl, c.1, c.2⟩
    · rename_i c
      rw [if_neg c]
      obtain ⟨n, r, q1, q2, q3⟩ := offGo_at p s l (k + 1) h
      exact ⟨n + 1, r, by rw [q1]; omega, by simpa using q2, q3⟩
theorem cnt_append (p : Int) (l m : List Rec) : cnt p (l ++ m) = cnt p l + cnt p m := by simp [cnt]
theorem cnt_one (p : Int) (r : Rec) : cnt p [r] = if r.p = p then 1 else 0 := by
  unfold cnt; by_cases h : r.p = p <;> simp [h]
theorem cnt_le {p : Int} {l m : List Rec} (h : l <+: m) : cnt p l ≤ cnt p m := by
  obtain ⟨t, rfl⟩ := h; rw [cnt_append]; omega
theorem turn_bound {l : List Rec} (h : Turn l) {n : Nat} {r : Rec} (hr : l[n]? = some r) : r.s ≤ (cnt r.p l : Int) := by
  rw [(h n r hr).2]
  have hn := (List.getElem?_eq_some_iff.1 hr).1
  have e : l.take (n + 1) = l.take n ++ [r] := by
    rw [List.take_add_one, hr]; rfl
  have h1 : cnt r.p (l.take (n + 1)) ≤ cnt r.p l := cnt_le (List.take_prefix _ _)
  rw [e, cnt_append, cnt_one, if_pos rfl] at h1
  omega
theorem turn_all : ∀ (n : Nat) (l : List Rec), l.length = n → Turn l → ∀ (p j : Int), 1 ≤ j → j ≤ (cnt p l : Int) → ∃ r ∈ l, r.p = p ∧ r.s = j
  | 0, l, hl, _, p, j, h1, h2 => by
    have : l = [] := List.length_eq_zero_iff.1 hl
    subst this
    simp [cnt] at h2; omega
  | n + 1, l, hl, ht, p, j, h1, h2 => by
    have hne : l ≠ [] := fun e => by rw [e] at hl; simp at hl
    have e := List.dropLast_concat_getLast hne
    generalize hl0 : l.dropLast = l0 at *
    generalize hx : l.getLast hne = x at *
    have ht0 : Turn l0 := prefix_turn (by rw [← e]; exact List.prefix_append _ _) ht
    have hlen : l0.length = n := by
      have : (l0 ++ [x]).length = n + 1 := by rw [e]; exact hl
      simp at this; exact this
    have hat : l[n]? = some x := by rw [← e, ← hlen]; simp
    rw [← e, cnt_append, cnt_one] at h2
    by_cases c : x.p = p
    · rw [if_pos c] at h2
      by_cases c2 : j ≤ (cnt p l0 : Int)
      · obtain ⟨r, q1, q2⟩ := turn_all n l0 hlen ht0 p j h1 c2
        exact ⟨r, by rw [← e]; exact List.mem_append_left _ q1, q2⟩
      · refine ⟨x, by rw [← e]; simp, c, ?_⟩
        rw [(ht n x hat).2, c]
        have : l.take n = l0 := by rw [← e, ← hlen]; simp
        rw [this]; omega
    · rw [if_neg c] at h2
      obtain ⟨r, q1, q2⟩ := turn_all n l0 hlen ht0 p j h1 (by omega)
      exact ⟨r, by rw [← e]; exact List.mem_append_left _ q1, q2⟩
theorem turn_more {l : List Rec} (ht : Turn l) {p s v : Int} (hp : 1 ≤ p ∧ p ≤ 4) (h1 : 1 ≤ s) (h2 : offsetOf l p s < 0) (h3 : 1 < s → 0 ≤ offsetOf l p (s - 1)) : Turn (l ++ [⟨p, s, v⟩]) := by
  have hno := offGo_none p s l 0 h2
  have hs : s = (cnt p l : Int) + 1 := by
    by_cases c : s ≤ (cnt p l : Int)
    · obtain ⟨r, q1, q2, q3⟩ := turn_all _ l rfl ht p s h1 c
      exact absurd ⟨q2, q3⟩ (hno r q1)
    · by_cases c1 : s = 1
      · omega
      · obtain ⟨n, r, _, q2, q3, q4⟩ := offGo_at p (s - 1) l 0 (h3 (by omega))
        have := turn_bound ht q2
        rw [q3, q4] at this
        omega
  intro n r hr
  by_cases c : n < l.length
  · rw [List.getElem?_append_left c] at hr
    refine ⟨(ht n r hr).1, ?_⟩
    rw [(ht n r hr).2, List.take_append_of_le_length (by omega)]
  · rw [List.getElem?_append_right (by omega)] at hr
    have : n = l.length := by
      have := (List.getElem?_eq_some_iff.1 hr).1
      simp at this; omega
    subst this
    simp at hr
    subst hr
    refine ⟨hp, ?_⟩
    simp only [List.take_left]
    exact hs
/-- A record stands once. -/
theorem turn_once {l : List Rec} (ht : Turn l) {n m : Nat} {r x : Rec} (hr : l[n]? = some r) (hx : l[m]? = some x) (hp : r.p = x.p) (hs : r.s = x.s) : n = m := by
  have key : ∀ (n m : Nat) (r x : Rec), l[n]? = some r → l[m]? = some x → r.p = x.p → r.s = x.s → ¬ n < m := by
    intro n m r x hr hx hp hs hlt
    have e1 := (ht n r hr).2
    have e2 := (ht m x hx).2
    have e : l.take (n + 1) = l.take n ++ [r] := by rw [List.take_add_one, hr]; rfl
    have h1 : cnt r.p (l.take (n + 1)) ≤ cnt r.p (l.take m) := cnt_le (by
      rw [show l.take (n + 1) = (l.take m).take (n + 1) by rw [List.take_take]; congr 1; omega]
      exact List.take_prefix _ _)
    rw [e, cnt_append, cnt_one, if_pos rfl] at h1
    rw [← hp] at e2
    omega
  have a := key n m r x hr hx hp hs
  have b := key m n x r hx hr hp.symm hs.symm
  omega
section
variable {L : List Era} {a : Int} {k : Nat} {g g' : Gh} {d : Wd}
/-- A leader's log grows. -/
def logTo (g : Gh) (k : Nat) (e : Int) (l : List Rec) : Gh := { g with glog := fun x => if x = e then l else g.glog x, ack := fun j x => if j = k ∧ x = e then l.length else g.ack j x }
theorem logTo_grow (k : Nat) (e : Int) (l : List Rec) (hl : (k : Int) = (eraL L e).leader) (hp : g.glog e <+: l) (ha : g.ack k e ≤ l.length) (hf : g.fol k = e) : Grow L k g (logTo g k e l) :=
  { Grow.refl L k g with
    glog := fun x hx => by
      show g.glog x <+: (if x = e then l else g.glog x)
      split
      · rename_i q; rw [q]; exact hp
      · exact List.prefix_refl _
    glog' := fun x hx hn => by show (if x = e then l else g.glog x) = _; rw [if_neg (fun q => hn (by rw [q]; exact hl))]
    frzL := fun x hx _ hlt => by show (if x = e then l else g.glog x) = _; rw [if_neg (fun q => by omega)]
    ack := fun j x => by
      show g.ack j x ≤ if j = k ∧ x = e then l.length else g.ack j x
      split
      · rename_i q; rw [q.1, q.2]; exact ha
      · exact Nat.le_refl _
    ack' := fun j x hj => by show (if j = k ∧ x = e then l.length else g.ack j x) = _; rw [if_neg (fun q => hj q.1)]
    frz := fun x hx => by show (if k = k ∧ x = e then l.length else g.ack k x) = _; rw [if_neg (fun q => by have := q.2; omega)] }
theorem Inv.putLog (h : Inv d g) (hk : k < 5) (hr : (d.mem k).role = 3) (r : Rec) (ht : Turn ((d.mem k).log ++ [r])) : Next d g (rPutLog d k ((d.mem k).log ++ [r])) fun _ => True := by
  have hn := h.nd k hk
  obtain ⟨hl, h1⟩ := hn.n3 (by omega)
  have hge := hn.n5 (Or.inr hr)
  obtain ⟨s1, s2, s3, s4, s5⟩ := hn.n2 (by omega)
  rw [hge] at s1 s2 s3 s4 s5
  have hlog := s5 hl
  have hact := (hn.n7 hr).1
  have hp : g.glog (d.mem k).follows <+: (d.mem k).log ++ [r] := by rw [← hlog]; exact List.prefix_append _ _
  have gr := logTo_grow (L := d.eras) (g := g) k (d.mem k).follows ((d.mem k).log ++ [r]) hl hp (by rw [s4]; simp) hn.fol
  have glogE : (logTo g k (d.mem k).follows ((d.mem k).log ++ [r])).glog (d.mem k).follows = (d.mem k).log ++ [r] := by show (if _ = _ then _ else _) = _; rw [if_pos rfl]
  refine Next.put h hk _ gr (gr.ghost h.gh (fun _ x => x) (fun x hx => ?_) (fun j x hj hx => ?_) (fun x hx => ?_) fun j x hx => ?_) ?_ trivial
  · show (if x = (d.mem k).follows then _ else g.glog x) = _
    rw [if_neg (fun q => hx (by rw [q]; exact hact))]
  · show (if j = k ∧ x = (d.mem k).follows then _ else g.ack j x) ≤ (if x = (d.mem k).follows then (d.mem k).log ++ [r] else g.glog x).length
    by_cases q : x = (d.mem k).follows
    · rw [if_pos q]
      split
      · exact Nat.le_refl _
      · subst q
        have := h.gh.a6 j _ hj hx
        have := prefix_len hp
        omega
    · rw [if_neg (fun y => q y.2), if_neg q]; exact h.gh.a6 j x hj hx
  · show Turn (if x = (d.mem k).follows then (d.mem k).log ++ [r] else g.glog x)
    split
    · exact ht
    · exact h.gh.a8 x hx
  · show (if j = k ∧ x = (d.mem k).follows then _ else g.ack j x) = 0
    rw [if_neg (fun q => hx (by rw [q.2]; exact s1))]
    exact h.gh.a9 j x hx
  · exact { fol := hn.fol, giv := hn.giv, n1 := hn.n1
            n2 := fun _ => by
              show g.set (d.mem k).given ∧ g.ini (d.mem k).given <+: (d.mem k).log ++ [r] ∧ (d.mem k).log ++ [r] <+: (logTo g k (d.mem k).follows ((d.mem k).log ++ [r])).glog (d.mem k).given ∧ (if k = k ∧ (d.mem k).given = (d.mem k).follows then ((d.mem k).log ++ [r]).length else g.ack k (d.mem k).given) = ((d.mem k).log ++ [r]).length ∧ (_ → (d.mem k).log ++ [r] = (logTo g k (d.mem k).follows ((d.mem k).log ++ [r])).glog (d.mem k).given)
              rw [hge, glogE, if_pos ⟨rfl, rfl⟩]
              exact ⟨s1, s2.trans (List.prefix_append _ _), List.prefix_refl _, rfl, fun _ => rfl⟩
            n3 := fun _ => ⟨hl, h1⟩
            n4 := fun x => by have x : (d.mem k).role = 1 := x; omega
            n5 := fun _ => hge
            n6 := fun x => by have x : (d.mem k).role = 2 := x; omega
            n7 := fun _ => ⟨hact, fun j hj hin hne => by
              show (d.mem k).knows j ≤ ((if j = k ∧ (d.mem k).follows = (d.mem k).follows then _ else g.ack j (d.mem k).follows : Nat) : Int)
              rw [if_neg (fun q => hne q.1)]
              exact (hn.n7 hr).2 j hj hin hne⟩
            n8 := fun x hx => by
              have hx : (d.mem k).given < x := hx
              show (if k = k ∧ x = (d.mem k).follows then _ else g.ack k x) = 0
              rw [if_neg (fun q => by have := q.2; omega)]
              exact hn.n8 x hx }
theorem Inv.prodTo (h : Inv d g) (hk : k < 5) (hr : (d.mem k).role = 3) (m : Mem) (kk n dn : Int) : ∀ j, Inv (rProdTo d k m kk n dn j) g
  | 0 => h
  | j + 1 => by
    have ih := Inv.prodTo h hk hr m kk n dn j
    have hm := (rProdTo_same d k m kk n dn j).1
    unfold rProdTo
    split
    · exact ih
    rename_i c
    have hne : j ≠ k := fun e => c (Or.inl e)
    split
    · exact ih.appends hk (by rw [hm]; exact hr) j hne _
    split
    · exact ih.appends hk (by rw [hm]; exact hr) j hne _
    · exact ih
theorem Inv.produce (h : Inv d g) (node p s v : Int) : Next d g (rProduce d node p s v).1 fun _ => True := by
  unfold rProduce
  split
  · exact Next.same h trivial
  rename_i c1
  split
  · exact Next.same h trivial
  rename_i c2
  split
  · exact Next.same h trivial
  rename_i c3
  have hk : node.toNat < 5 := rRef_node (Decidable.not_not.1 c1)
  have hr : (d.mem node.toNat).role = 3 := Decidable.not_not.1 c3
  unfold rProduceAt
  split
  · rename_i c4
    split
    · exact Next.same h trivial
    rename_i c5
    split
    · exact Next.same h trivial
    have hn := h.nd _ hk
    have h1 := (hn.n3 (by omega)).2
    have hge := hn.n5 (Or.inr hr)
    obtain ⟨s1, _, s3, _⟩ := hn.n2 (by omega)
    have hs1 : 1 ≤ s ∧ 1 ≤ p ∧ p ≤ 4 := by
      have : recB p s v = true := by simpa using c2
      simp [recB] at this; omega
    have ht : Turn ((d.mem node.toNat).log ++ [⟨p, s, v⟩]) := turn_more (prefix_turn s3 (h.gh.a8 _ s1)) hs1.2 hs1.1 c4 fun x => by
      by_cases y : offsetOf (d.mem node.toNat).log p (s - 1) < 0
      · exact absurd ⟨x, y⟩ c5
      · omega
    refine (h.putLog hk hr ⟨p, s, v⟩ ht).trans fun g1 h1 _ => ?_
    exact (h1.prodTo hk (by unfold rPutLog; rw [put_at]; exact hr) _ _ _ _ 5).next (rProdTo_same _ _ _ _ _ _ 5).2.1
  · exact (h.prodTo hk hr _ _ _ _ 5).next (rProdTo_same _ _ _ _ _ _ 5).2.1
theorem Inv.cl (h : Inv d g) (hok : ROk d) (c : Cl) : Next d g (c.next d) fun _ => True := by
  cases c with
  | produce a b c e => exact h.produce a b c e
  | fetch => exact Next.same h trivial
  | deliver a => exact h.deliver hok a
  | drop a => exact h.dropIt a
  | twice a => exact h.twice a
  | node => exact Next.same h trivial
  | crash a => exact h.crash a
  | restart a => exact h.restart a
  | conf a b => exact h.reconf hok a b
  | remind => exact h.remind hok
  | config => exact Next.same h trivial
end
end Go.Proofs.Ythpjcmilfipbaaa

namespace Go.Proofs.Ythpjcmilfipbaaa
set_option linter.unusedVariables false
set_option linter.unusedSimpArgs false
def gNew : Gh := { set := fun e => e = 1, act := fun e => e = 1, ini := fun _ => [], glog := fun _ => [], ack := fun _ _ => 0, fol := fun i => (rNew.mem i).follows, giv := fun i => (rNew.mem i).given }
theorem eraNew : eraL rNew.eras 1 = ⟨7, 0, 0⟩ := rfl
theorem Inv.new : Inv rNew gNew where
  gh := { a1 := ⟨rfl, by decide, by decide⟩
          a1' := fun e he => by have he : e = 1 := he; subst he; exact ⟨by decide, by decide⟩
          a2 := fun e h2 hE => by have hE : e ≤ 1 := hE; omega
          a3 := fun e he => he
          a3' := fun e he => by
            have he : e = 1 := he
            subst he
            refine ⟨by decide, by decide, fun k hk hl => ?_⟩
            have : (k : Int) = 0 := hl
            have : k = 0 := by omega
            subst this
            decide
          a4 := fun e _ => ⟨List.prefix_refl _, fun _ => rfl⟩
          a5 := fun e he j hj hin _ => by
            have he : e = 1 := he
            subst he
            refine ⟨?_, Nat.le_refl _⟩
            match j, hj with
            | 0, _ => decide
            | 1, _ => decide
            | 2, _ => decide
            | 3, _ => exact absurd hin (by decide)
            | 4, _ => exact absurd hin (by decide)
          a6 := fun _ _ _ _ => Nat.le_refl _
          a7 := fun e he h2 => by have he : e = 1 := he; omega
          a8 := fun e _ n r hr => by have hr : ([] : List Rec)[n]? = some r := hr; simp at hr
          a9 := fun _ _ _ => rfl }
  nd := fun k hk => by
    have key : ∀ k, k < 5 → 0 ≤ (rNew.mem k).given ∧ (rNew.mem k).given ≤ (rNew.mem k).follows ∧ (rNew.mem k).follows ≤ 1 ∧ (1 ≤ (rNew.mem k).given → (rNew.mem k).given = 1) ∧ ((rNew.mem k).role ≠ 0 → k = 0) := by decide
    obtain ⟨k1, k2, k3, k4, k5⟩ := key k hk
    exact { fol := rfl, giv := rfl, n1 := ⟨k1, k2, k3⟩
            n2 := fun h => ⟨k4 h, List.prefix_refl _, List.prefix_refl _, rfl, fun _ => rfl⟩
            n3 := fun h => by have := k5 h; subst this; exact ⟨by decide, by decide⟩
            n4 := fun h => by have := k5 (by omega); subst this; exact absurd h (by decide)
            n5 := fun h => by have := k5 (by omega); subst this; decide
            n6 := fun h => by have := k5 (by omega); subst this; exact absurd h (by decide)
            n7 := fun h => by
              have := k5 (by omega)
              subst this
              exact ⟨rfl, fun j _ _ _ => by show (0 : Int) ≤ ((0 : Nat) : Int); decide⟩
            n8 := fun _ _ => rfl }
  ms := fun m hm => by have hm : m ∈ ([] : List Msg) := hm; simp at hm
section
variable {L : List Era} {a : Int} {k : Nat} {g g' : Gh} {d : Wd}
theorem rDoneTo_spec (d : Wd) (k : Nat) (x : Int) : ∀ n, x < rDoneTo d k n → x < (d.mem k).log.length ∧ ∀ j, j < n → j ≠ k → rIn d (d.mem k).follows j = true → x < (d.mem k).knows j
  | 0, h => ⟨h, fun j hj => by omega⟩
  | n + 1, h => by
    unfold rDoneTo at h
    split at h
    · rename_i c
      obtain ⟨q1, q2⟩ := rDoneTo_spec d k x n (by omega)
      refine ⟨q1, fun j hj hne hin => ?_⟩
      by_cases e : j = n
      · subst e; exact h
      · exact q2 j (by omega) hne hin
    · rename_i c
      obtain ⟨q1, q2⟩ := rDoneTo_spec d k x n h
      refine ⟨q1, fun j hj hne hin => ?_⟩
      by_cases e : j = n
      · subst e
        by_cases y : (d.mem k).knows j < rDoneTo d k j
        · exact absurd ⟨hne, hin, y⟩ c
        · omega
      · exact q2 j (by omega) hne hin
/-- What a leader has done may be told. -/
theorem Inv.told (h : Inv d g) (hk : k < 5) (hr : (d.mem k).role = 3) {n : Nat} (hn : (n : Int) < rDone d k) {r : Rec} (hat : (d.mem k).log[n]? = some r) : Told d.eras g n r := by
  have hd := h.nd k hk
  obtain ⟨hl, h1⟩ := hd.n3 (by omega)
  have hge := hd.n5 (Or.inr hr)
  obtain ⟨_, _, _, _, s5⟩ := hd.n2 (by omega)
  rw [hge] at s5
  unfold rDone at hn
  rw [if_pos hr] at hn
  obtain ⟨q1, q2⟩ := rDoneTo_spec d k n 5 hn
  refine ⟨(d.mem k).follows, (hd.n7 hr).1, fun m hm hin => ?_, by rw [← s5 hl]; exact hat⟩
  unfold val
  split
  · rw [← s5 hl]; omega
  · rename_i c
    have hne : m ≠ k := fun e => c (by rw [e]; exact hl)
    have := q2 m hm hne hin
    have := (hd.n7 hr).2 m hm hin hne
    omega
/-- All that may be told stands in one log. -/
theorem told_in (hg : GInv L a g) {n : Nat} {r : Rec} {e1 : Int} (h1 : g.act e1) (h2 : ∀ m, m < 5 → inL L e1 m = true → n < val L g m e1) (h3 : (g.glog e1)[n]? = some r) :
    ∀ (f : Nat) (e2 : Int), e2 ≤ f → g.act e2 → e1 < e2 → (g.ini e2)[n]? = some r
  | 0, e2, hf, ha, _ => by have := (hg.a1' e2 ha).1; omega
  | f + 1, e2, hf, ha, hlt => by
    have hb := hg.a1' e1 h1
    have hE := (hg.a3' e2 (hg.a3 e2 ha)).2.1
    obtain ⟨q1, q2, q3⟩ := hg.a2 e2 (by omega) hE
    have hle : e1 ≤ (eraL L e2).before := by
      by_cases x : (eraL L e2).before < e1
      · exact absurd h1 (q3 e1 x hlt)
      · omega
    obtain ⟨m, m1, m2, m3, m4⟩ := hg.a7 e2 (hg.a3 e2 ha) (by omega)
    have hin : (g.glog (eraL L e2).before)[n]? = some r ∧ n < val L g m (eraL L e2).before := by
      by_cases c : e1 = (eraL L e2).before
      · rw [← c] at m2 ⊢
        exact ⟨h3, h2 m m1 m2⟩
      · have ih := told_in hg h1 h2 h3 f (eraL L e2).before (by omega) q1 (by omega)
        have hs := hg.a3 _ q1
        refine ⟨prefix_at (hg.a4 _ hs).1 ih, ?_⟩
        have hl := (List.getElem?_eq_some_iff.1 ih).1
        unfold val
        split
        · exact Nat.lt_of_lt_of_le hl (prefix_len (hg.a4 _ hs).1)
        · rename_i c2
          exact Nat.lt_of_lt_of_le hl (hg.a5 _ q1 m m1 m2 c2).2
    exact prefix_at m4 (by rw [List.getElem?_take_of_lt hin.2]; exact hin.1)
theorem told_pair (hg : GInv L a g) {n m : Nat} {r x : Rec} (hr : Told L g n r) (hx : Told L g m x) : ∃ l, Turn l ∧ l[n]? = some r ∧ l[m]? = some x := by
  obtain ⟨e1, p1, p2, p3⟩ := hr
  obtain ⟨e2, q1, q2, q3⟩ := hx
  by_cases c : e1 < e2
  · have hs := hg.a3 e2 q1
    obtain ⟨f, hf⟩ := Int.eq_ofNat_of_zero_le (show 0 ≤ e2 by have := (hg.a1' e2 q1).1; omega)
    exact ⟨g.glog e2, hg.a8 e2 hs, prefix_at (hg.a4 e2 hs).1 (told_in hg p1 p2 p3 f e2 (by omega) q1 c), q3⟩
  by_cases c2 : e2 < e1
  · have hs := hg.a3 e1 p1
    obtain ⟨f, hf⟩ := Int.eq_ofNat_of_zero_le (show 0 ≤ e1 by have := (hg.a1' e1 p1).1; omega)
    exact ⟨g.glog e1, hg.a8 e1 hs, p3, prefix_at (hg.a4 e1 hs).1 (told_in hg q1 q2 q3 f e1 (by omega) p1 c2)⟩
  · have : e1 = e2 := by omega
    subst this
    exact ⟨g.glog e1, hg.a8 e1 (hg.a3 e1 p1), p3, q3⟩
theorem told_same (hg : GInv L a g) {n : Nat} {r x : Rec} (hr : Told L g n r) (hx : Told L g n x) : r = x := by
  obtain ⟨l, _, h1, h2⟩ := told_pair hg hr hx
  rw [h1] at h2; simpa using h2
theorem told_once (hg : GInv L a g) {n m : Nat} {r x : Rec} (hr : Told L g n r) (hx : Told L g m x) (hp : r.p = x.p) (hs : r.s = x.s) : n = m := by
  obtain ⟨l, h0, h1, h2⟩ := told_pair hg hr hx
  exact turn_once h0 h1 h2 hp hs
/-- What Fetch tells. -/
theorem Inv.fetched (h : Inv d g) (node off : Int) (hz : (rFetch d node off).2 = 0) : Told d.eras g off.toNat (rFetch d node off).1 ∧ 0 ≤ off ∧ off < 60 ∨ ¬ ROk d := by
  by_cases hok : ROk d
  · left
    unfold rFetch at hz ⊢
    split at hz
    · omega
    rename_i c1
    rw [if_neg c1]
    split at hz
    · simp at hz
    rename_i c2
    rw [if_neg c2]
    split at hz
    · simp at hz
    rename_i c3
    rw [if_neg c3]
    split at hz
    · simp at hz
    rename_i c4
    rw [if_neg c4]
    have hk : node.toNat < 5 := rRef_node (Decidable.not_not.1 c1)
    have hr : (d.mem node.toNat).role = 3 := Decidable.not_not.1 c2
    have hlt : off < rDone d node.toNat := by omega
    have hlen := hok.log _ hk
    have hl : off < (d.mem node.toNat).log.length := by
      have := hlt
      unfold rDone at this
      rw [if_pos hr] at this
      exact (rDoneTo_spec d _ off 5 this).1
    refine ⟨h.told hk hr (by omega) ?_, by omega, by omega⟩
    show (d.mem node.toNat).log[off.toNat]? = some ((d.mem node.toNat).log.getD off.toNat ⟨0, 0, 0⟩)
    exact getD_some (by omega)
  · exact Or.inr hok
/-- What Produce tells to be done. -/
theorem Inv.produced (h : Inv d g) (hok : ROk d) (node p s v : Int) (hz : (rProduce d node p s v).2.2.1 = true) {g' : Gh} (h' : Inv (rProduce d node p s v).1 g') :
    ∃ r, r.p = p ∧ r.s = s ∧ Told (rProduce d node p s v).1.eras g' (rProduce d node p s v).2.1.toNat r ∧ 0 ≤ (rProduce d node p s v).2.1 ∧ (rProduce d node p s v).2.1 < 60 := by
  unfold rProduce at hz h' ⊢
  split at hz
  · simp at hz
  rename_i c1
  rw [if_neg c1] at h' ⊢
  split at hz
  · simp at hz
  rename_i c2
  rw [if_neg c2] at h' ⊢
  split at hz
  · simp at hz
  rename_i c3
  rw [if_neg c3] at h' ⊢
  have hk : node.toNat < 5 := rRef_node (Decidable.not_not.1 c1)
  have hr : (d.mem node.toNat).role = 3 := Decidable.not_not.1 c3
  have hlen := hok.log _ hk
  unfold rProduceAt at hz h' ⊢
  split at hz
  · rename_i c4
    rw [if_pos c4] at h' ⊢
    split at hz
    · simp at hz
    rename_i c5
    rw [if_neg c5] at h' ⊢
    split at hz
    · simp at hz
    rename_i c6
    rw [if_neg c6] at h' ⊢
    unfold rProduceNew at hz h' ⊢
    simp only at hz h' ⊢
    have hm := (rProdTo_same (rPutLog d node.toNat ((d.mem node.toNat).log ++ [⟨p, s, v⟩])) node.toNat (d.mem node.toNat) (offsetOf (d.mem node.toNat).log p s) (d.mem node.toNat).log.length (rDone (rPutLog d node.toNat ((d.mem node.toNat).log ++ [⟨p, s, v⟩])) node.toNat) 5)
    have hd : ∀ d1 d2 : Wd, d1.mem = d2.mem → d1.eras = d2.eras → ∀ k, rDone d1 k = rDone d2 k := by
      intro d1 d2 e1 e2 k
      have : ∀ n, rDoneTo d1 k n = rDoneTo d2 k n := by
        intro n
        induction n with
        | zero => simp [rDoneTo, e1]
        | succ n ih => simp only [rDoneTo, ih, e1]; rw [rIn_eq, rIn_eq, e2]
      unfold rDone
      rw [this, e1]
    refine ⟨⟨p, s, v⟩, rfl, rfl, h'.told hk ?_ ?_ ?_, by omega, by omega⟩
    · rw [hm.1]; unfold rPutLog; rw [put_at]; exact hr
    · rw [hd _ _ hm.1 hm.2.1]
      have := of_decide_eq_true hz
      simpa using this
    · rw [hm.1]; unfold rPutLog; rw [put_at]; simp
  · rename_i c4
    rw [if_neg c4] at h' ⊢
    unfold rProduceOld at hz h' ⊢
    simp only at hz h' ⊢
    obtain ⟨n, r, q1, q2, q3, q4⟩ := offGo_at p s (d.mem node.toNat).log 0 (show 0 ≤ offGo p s (d.mem node.toNat).log 0 from by have : ¬ offsetOf (d.mem node.toNat).log p s < 0 := c4; unfold offsetOf at this; omega)
    have hoff : offsetOf (d.mem node.toNat).log p s = (n : Int) := by unfold offsetOf; rw [q1]; simp
    have hm := (rProdTo_same d node.toNat (d.mem node.toNat) (offsetOf (d.mem node.toNat).log p s) (d.mem node.toNat).log.length (rDone d node.toNat) 5)
    have hd : ∀ d1 d2 : Wd, d1.mem = d2.mem → d1.eras = d2.eras → ∀ k, rDone d1 k = rDone d2 k := by
      intro d1 d2 e1 e2 k
      have : ∀ n, rDoneTo d1 k n = rDoneTo d2 k n := by
        intro n
        induction n with
        | zero => simp [rDoneTo, e1]
        | succ n ih => simp only [rDoneTo, ih, e1]; rw [rIn_eq, rIn_eq, e2]
      unfold rDone
      rw [this, e1]
    have hnl := (List.getElem?_eq_some_iff.1 q2).1
    rw [hoff] at hz h' hm ⊢
    refine ⟨r, q3, q4, h'.told hk (by rw [hm.1]; exact hr) ?_ (by rw [hm.1]; simpa using q2), by omega, by omega⟩
    rw [hd _ _ hm.1 hm.2.1]
    have := of_decide_eq_true hz
    simpa using this
end
end Go.Proofs.Ythpjcmilfipbaaa
