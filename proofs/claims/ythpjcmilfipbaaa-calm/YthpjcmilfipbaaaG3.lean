/- My own text: several texts in one. -/
import Derived.Test.YthpjcmilfipbaaaG2
namespace Go.Proofs.Ythpjcmilfipbaaa
set_option linter.unusedVariables false
set_option linter.unusedSimpArgs false
/-- At most N records, none of producer 4. -/
def Few (N : Nat) (l : List Rec) : Prop := l.length ≤ N ∧ ∀ r ∈ l, r.p ≠ 4
def FewM (N : Nat) (m : Msg) : Prop := Few N m.recs ∧ (m.kind = 8 → m.n.toNat + m.recs.length ≤ N)
structure Small (d : Wd) (N : Nat) : Prop where
  log : ∀ k, k < 5 → Few N (d.mem k).log
  way : ∀ m ∈ d.way, FewM N m
theorem Few.more {N M : Nat} {l : List Rec} (h : Few N l) (hm : N ≤ M) : Few M l := ⟨Nat.le_trans h.1 hm, h.2⟩
theorem FewM.more {N M : Nat} {m : Msg} (h : FewM N m) (hm : N ≤ M) : FewM M m := ⟨h.1.more hm, fun x => Nat.le_trans (h.2 x) hm⟩
theorem few_nil (N : Nat) : Few N [] := ⟨Nat.zero_le _, fun r hr => by simp at hr⟩
section
variable {d : Wd} {N : Nat} {k : Nat}
theorem Small.more {M : Nat} (h : Small d N) (hm : N ≤ M) : Small d M := ⟨fun k hk => (h.log k hk).more hm, fun m hx => (h.way m hx).more hm⟩
theorem Small.sends (h : Small d N) {m : Msg} (hm : FewM N m) : Small (rSends d m) N := by
  unfold rSends; split
  · exact ⟨h.log, fun x hx => by
      rcases List.mem_append.1 hx with y | y
      · exact h.way x y
      · simp at y; subst y; exact hm⟩
  · exact h
theorem Small.put (h : Small d N) (k : Nat) (m : Mem) (hm : Few N m.log) : Small (d.put k m) N :=
  ⟨fun i hi => by
    by_cases x : i = k
    · subst x; rw [put_at]; exact hm
    · rw [put_other _ _ _ _ x]; exact h.log i hi, h.way⟩
theorem Small.out (h : Small d N) (i : Nat) : Small (rOut d i) N := ⟨h.log, fun m hm => h.way m (List.mem_of_mem_eraseIdx hm)⟩
theorem Small.plain (h : Small d N) {m : Msg} (h8 : m.kind ≠ 8) (hr : Few N m.recs) : Small (rSends d m) N := h.sends ⟨hr, fun x => absurd x h8⟩
theorem Small.follows (h : Small d N) (hk : k < 5) (e r : Int) : Small (rFollows d k e r) N := by
  unfold rFollows; split
  · exact h.put k _ (h.log k hk)
  · exact h
theorem Small.appends (h : Small d N) (hk : k < 5) (to : Nat) (n : Int) (h0 : 0 ≤ n) (hn : n < (d.mem k).log.length) : Small (rAppends d k to n) N := by
  have hl := h.log k hk
  refine h.sends ⟨⟨?_, fun r hr => hl.2 r (mem_drop1 hr)⟩, fun _ => ?_⟩
  · show (((d.mem k).log.drop n.toNat).take 1).length ≤ N
    have := List.length_take_le 1 ((d.mem k).log.drop n.toNat)
    have := hl.1; omega
  · show n.toNat + (((d.mem k).log.drop n.toNat).take 1).length ≤ N
    have := List.length_take_le 1 ((d.mem k).log.drop n.toNat)
    have := hl.1; omega
theorem Small.ready (h : Small d N) (k : Nat) (e : Int) : Small (rReady d k e) N := h.plain (by show (6 : Int) ≠ 8; omega) (few_nil N)
theorem Small.handsTo (h : Small d N) (hk : k < 5) : ∀ n, Small (rHandsTo d k (d.mem k) n) N
  | 0 => h
  | n + 1 => by
    have ih := Small.handsTo h hk n
    unfold rHandsTo; split
    · exact ih.plain (by show (4 : Int) ≠ 8; omega) (h.log k hk)
    · exact ih
theorem Small.hands (h : Small d N) (hk : k < 5) : Small (rHands d k) N := by
  unfold rHands; split
  · exact h.ready k _
  · exact h.handsTo hk 5
theorem Small.readsTo (h : Small d N) (e b : Int) : ∀ n, Small (rReadsTo d k e b n) N
  | 0 => h
  | n + 1 => by
    have ih := Small.readsTo h e b n
    unfold rReadsTo; split
    · exact ih.plain (by show (2 : Int) ≠ 8; omega) (few_nil N)
    · exact ih
theorem Small.starts (h : Small d N) (hk : k < 5) (e : Int) : Small (rStarts d k e) N := by
  unfold rStarts
  have h1 := h.follows hk e 1
  have h2 : Small (rWake (rFollows d k e 1) k e) N := by
    unfold rWake; split
    · exact h1.put k _ (h1.log k hk)
    · exact h1
  unfold rStart2; split
  · exact h2.readsTo e _ 5
  · split
    · exact h2.hands hk
    · exact h2
theorem Small.leads (h : Small d N) (hok : ROk d) (hk : k < 5) (m : Msg) (hm : FewM N m) (hf : m.kind = 9 → m.frm.toNat < 5) : Small (rLeads d k m) N := by
  unfold rLeads
  split
  · exact (h.put k _ hm.1 : Small (rTell d k m) N).hands hk
  split
  · have h1 : Small (rHas d k m.frm.toNat) N := h.put k _ (h.log k hk)
    split
    · exact h1.ready k _
    · exact h1
  split
  · exact h.put k _ (h.log k hk)
  split
  · rename_i c
    have hf5 := hf c.1
    have h1 : Small (rKnow d k m.frm.toNat m.n) N := by
      unfold rKnow; split
      · exact h.put k _ (h.log k hk)
      · exact h
    unfold rAck; split
    · rename_i c2
      refine h1.appends hk _ _ ?_ c2
      unfold rKnow; split
      · rename_i c3
        rw [put_at]
        show 0 ≤ upd (d.mem k).knows m.frm.toNat m.n m.frm.toNat
        rw [upd_same]
        have := (hok.kno k m.frm.toNat hk hf5).1
        omega
      · exact (hok.kno k m.frm.toNat hk hf5).1
    · exact h1
  · exact h
theorem Small.takes (h : Small d N) (hok : ROk d) (hk : k < 5) (m : Msg) (hm : FewM N m) (hmo : MsgOk d.eras.length m) : Small (rTakes d k m) N := by
  have hf := h.follows hk m.epoch 0
  unfold rTakes
  split
  · exact h
  split
  · exact h.starts hk _
  split
  · exact hf.plain (by show (3 : Int) ≠ 8; omega) (hf.log k hk)
  split
  · split
    · exact (hf.put k _ hm.1 : Small (rGiven (rFollows d k m.epoch 0) k m.epoch m.recs) N).plain (by show (5 : Int) ≠ 8; omega) (few_nil N)
    · exact hf.plain (by show (5 : Int) ≠ 8; omega) (few_nil N)
  split
  · rename_i c
    split
    · refine Small.plain ?_ (by show (9 : Int) ≠ 8; omega) (few_nil N)
      unfold rTakeAppend; split
      · rename_i c2
        refine h.put k _ ⟨?_, fun r hr => ?_⟩
        · have h8 := hm.2 c
          rw [c2] at h8
          show ((d.mem k).log ++ m.recs).length ≤ N
          rw [List.length_append]; omega
        · rcases List.mem_append.1 hr with x | x
          · exact (h.log k hk).2 r x
          · exact hm.1.2 r x
      · exact h
    · exact h
  split
  · exact h.leads hok hk m hm fun x => by have := hmo.lead (Or.inl x); have := hmo.frm; omega
  · exact h
theorem Small.deliver (h : Small d N) (hok : ROk d) (i : Int) : Small (rDeliver d i).1 N := by
  unfold rDeliver
  split
  · show Small (match d.way[i.toNat]? with | some m => rGet (rOut d i.toNat) m | none => d) N
    cases hm : d.way[i.toNat]? with
    | none => exact h
    | some m =>
      have hin := List.mem_of_getElem? hm
      show Small (rGet (rOut d i.toNat) m) N
      unfold rGet
      split
      · unfold rMaster; split
        · exact Small.plain (d := { rOut d i.toNat with active := m.epoch }) ⟨(h.out i.toNat).log, (h.out i.toNat).way⟩ (by show (7 : Int) ≠ 8; omega) (few_nil N)
        · exact h.out _
      · rename_i c
        split
        · have hto := (hok.msg m hin).to
          exact (h.out i.toNat).takes (hok.out i.toNat) (by omega) m (h.way m hin) (hok.msg m hin)
        · exact h.out _
  · exact h
theorem Small.prodTo (h : Small d N) (hk : k < 5) (m : Mem) (kk n dn : Int) (hm : ∀ j, j < 5 → 0 ≤ m.knows j) (hn : n ≤ (d.mem k).log.length) (h0 : 0 ≤ n) (hkk : kk < 0 → n < (d.mem k).log.length) : ∀ j, j ≤ 5 → Small (rProdTo d k m kk n dn j) N
  | 0, _ => h
  | j + 1, h5 => by
    have ih := Small.prodTo h hk m kk n dn hm hn h0 hkk j (by omega)
    have hs := (rProdTo_same d k m kk n dn j).1
    unfold rProdTo
    split
    · exact ih
    split
    · rename_i c; exact ih.appends hk j n h0 (by rw [hs]; exact hkk c)
    split
    · rename_i c; exact ih.appends hk j _ (hm j (by omega)) (by rw [hs]; omega)
    · exact ih
theorem Small.produce (h : Small d N) (hok : ROk d) (node p s v : Int) (hp : p ≠ 4) : Small (rProduce d node p s v).1 (N + 1) := by
  unfold rProduce
  split
  · exact h.more (by omega)
  rename_i c1
  split
  · exact h.more (by omega)
  split
  · exact h.more (by omega)
  have hk : node.toNat < 5 := rRef_node (Decidable.not_not.1 c1)
  unfold rProduceAt
  split
  · rename_i c4
    split
    · exact h.more (by omega)
    split
    · exact h.more (by omega)
    have h1 : Small (rPutLog d node.toNat ((d.mem node.toNat).log ++ [⟨p, s, v⟩])) (N + 1) := (h.more (by omega : N ≤ N + 1)).put _ _ ⟨by
      have := (h.log _ hk).1
      show ((d.mem node.toNat).log ++ [_]).length ≤ N + 1
      simp; omega, fun r hr => by
      rcases List.mem_append.1 hr with x | x
      · exact (h.log _ hk).2 r x
      · simp at x; subst x; exact hp⟩
    have hl : ((rPutLog d node.toNat ((d.mem node.toNat).log ++ [⟨p, s, v⟩])).mem node.toNat).log = (d.mem node.toNat).log ++ [⟨p, s, v⟩] := by unfold rPutLog; rw [put_at]
    exact h1.prodTo hk (d.mem node.toNat) _ _ _ (fun j hj => (hok.kno _ j hk hj).1) (by rw [hl]; simp; omega) (by omega) (fun _ => by rw [hl]; simp; omega) 5 (Nat.le_refl _)
  · rename_i c4
    exact (h.prodTo hk (d.mem node.toNat) _ _ _ (fun j hj => (hok.kno _ j hk hj).1) (Int.le_refl _) (by omega) (fun x => absurd x c4) 5 (Nat.le_refl _)).more (by omega)
end
theorem Small.cl {d : Wd} {N : Nat} (h : Small d N) (hok : ROk d) (c : Cl) (hc : ∀ a b s v, c = .produce a b s v → b ≠ 4) : Small (c.next d) (N + 1) := by
  have hm : N ≤ N + 1 := by omega
  cases c with
  | produce a b s v => exact h.produce hok a b s v (hc a b s v rfl)
  | fetch => exact h.more hm
  | deliver a => exact (h.deliver hok a).more hm
  | drop a =>
    refine Small.more ?_ hm
    show Small (rDrop d a).1 N
    unfold rDrop; split
    · exact h.out _
    · exact h
  | twice a =>
    refine Small.more ?_ hm
    show Small (rTwice d a).1 N
    unfold rTwice; split
    · show Small (match d.way[a.toNat]? with | some m => rSends d m | none => d) N
      cases hx : d.way[a.toNat]? with
      | none => exact h
      | some m => exact h.sends (h.way m (List.mem_of_getElem? hx))
    · exact h
  | node => exact h.more hm
  | crash a =>
    refine Small.more ?_ hm
    show Small (rCrash d a).1 N
    unfold rCrash; split
    · rename_i x; exact h.put _ _ (h.log _ (rRef_node x))
    · exact h
  | restart a =>
    refine Small.more ?_ hm
    show Small (rRestart d a).1 N
    unfold rRestart; split
    · exact h
    · rename_i x
      split
      · exact h
      · exact h.put _ _ (h.log _ (rRef_node (show rRef d a false = 0 from Decidable.not_not.1 x)))
  | conf a b =>
    refine Small.more ?_ hm
    show Small (rReconf d a b).1 N
    unfold rReconf; split
    · exact h
    split
    · exact h
    split
    · exact h
    · exact Small.plain (d := { d with eras := d.eras ++ [⟨a, b, d.active⟩] }) ⟨h.log, h.way⟩ (by show (1 : Int) ≠ 8; omega) (few_nil N)
  | remind =>
    refine Small.more ?_ hm
    show Small (rRemind d).1 N
    unfold rRemind; split
    · exact h
    · exact h.plain (by show (1 : Int) ≠ 8; omega) (few_nil N)
  | config => exact h.more hm
theorem Small.new : Small rNew 0 := ⟨fun k hk => ⟨Nat.le_refl _, fun r hr => by have hr : r ∈ ([] : List Rec) := hr; simp at hr⟩, fun m hm => by have hm : m ∈ ([] : List Msg) := hm; simp at hm⟩
/-- A leader whose knows are all the length of its log has all of it done. -/
theorem done_all {d : Wd} {k : Nat} (h : ∀ j, (d.mem k).knows j = (d.mem k).log.length) : ∀ n, rDoneTo d k n = (d.mem k).log.length
  | 0 => rfl
  | n + 1 => by
    have ih := done_all h n
    unfold rDoneTo
    rw [ih, h n, if_neg (by omega)]
/-- All that may be told is in the newest leader's log. -/
theorem told_log {d : Wd} {g : Gh} {k : Nat} (h : Inv d g) (hk : k < 5) (hr : (d.mem k).role = 3) (ha : d.active = (d.mem k).follows) {n : Nat} {r : Rec} (ht : Told d.eras g n r) : (d.mem k).log[n]? = some r := by
  have hn := h.nd k hk
  obtain ⟨hl, h1⟩ := hn.n3 (by omega)
  have hge := hn.n5 (Or.inr hr)
  obtain ⟨s1, _, _, _, s5⟩ := hn.n2 (by omega)
  rw [hge] at s1 s5
  have hact := (hn.n7 hr).1
  obtain ⟨e1, q1, q2, q3⟩ := ht
  have hle := (h.gh.a1' e1 q1).2
  rw [s5 hl]
  by_cases c : e1 = (d.mem k).follows
  · rw [← c]; exact q3
  · obtain ⟨f, hf⟩ := Int.eq_ofNat_of_zero_le (show 0 ≤ (d.mem k).follows by omega)
    exact prefix_at (h.gh.a4 _ s1).1 (told_in h.gh q1 q2 q3 f _ (by omega) hact (by omega))
theorem Serves.fetch {d : Wd} {g : Gh} {e : Int} {k : Nat} {L : List Era} (h : Serves d e k L) (hi : Inv d g) (hk : k < 5) {n : Nat} {r : Rec} (ht : Told d.eras g n r) : rFetch d k n = (r, 0) := by
  have hl := told_log hi hk h.role (by rw [h.act, h.fol]) ht
  have hup : rRef d k true = 0 := by
    unfold rRef nodeB
    have hb : (decide (0 ≤ (k : Int)) && decide ((k : Int) < 5)) = true := by simp; omega
    rw [if_pos hb, show ((k : Int)).toNat = k from rfl, h.up k hk]; rfl
  have hlt := (List.getElem?_eq_some_iff.1 hl).1
  have hd : rDone d k = (d.mem k).log.length := by unfold rDone; rw [if_pos h.role]; exact done_all h.kno 5
  unfold rFetch
  rw [if_neg (by omega), show ((k : Int)).toNat = k from rfl, if_neg (by rw [h.role]; omega), if_neg (by omega), if_neg (by rw [hd]; omega)]
  simp only [Int.toNat_natCast]
  rw [List.getD_eq_getElem?_getD, hl]; rfl
end Go.Proofs.Ythpjcmilfipbaaa
