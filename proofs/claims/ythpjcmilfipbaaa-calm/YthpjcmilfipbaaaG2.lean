/- My own text: several texts in one. -/
import Derived.Test.YthpjcmilfipbaaaK2
namespace Go.Proofs.Ythpjcmilfipbaaa
set_option linter.unusedVariables false
set_option linter.unusedSimpArgs false
def dlv (d : Wd) : Wd := (rDeliver d 0).1
def dlvN : Nat → Wd → Wd
  | 0, d => d
  | n + 1, d => dlvN n (dlv d)
theorem dlvN_add : ∀ (n m : Nat) (d : Wd), dlvN (n + m) d = dlvN m (dlvN n d)
  | 0, m, d => by simp [dlvN]
  | n + 1, m, d => by rw [show n + 1 + m = (n + m) + 1 by omega]; exact dlvN_add n m (dlv d)
theorem dlv_cons {d : Wd} {m : Msg} {t : List Msg} (h : d.way = m :: t) : dlv d = rGet { d with way := t } m := by
  unfold dlv rDeliver rUnder
  have h1 : (decide ((0 : Int) ≤ 0) && decide ((0 : Int) < (d.way.length : Int))) = true := by rw [h]; simp
  rw [if_pos h1]
  have h2 : d.way[(0 : Int).toNat]? = some m := by rw [h]; rfl
  have h3 : rOut d (0 : Int).toNat = { d with way := t } := by unfold rOut; rw [h]; rfl
  simp only [h2, h3]
theorem sends_room {d : Wd} (h : d.way.length < 50) (m : Msg) : rSends d m = { d with way := d.way ++ [m] } := by unfold rSends; rw [if_pos h]
/-- All nodes are up, the newest epoch is e, its leader k. -/
structure Fresh (d : Wd) (e : Int) (k : Nat) : Prop where
  up : ∀ i, i < 5 → (d.mem i).up = true
  fol : ∀ i, i < 5 → (d.mem i).follows ≤ e
  hk : k < 5
  lead : (d.era e).leader = k
  new : e = d.eras.length
  folk : (d.mem k).follows = e
def readM (e : Int) (k i : Nat) : Msg := { kind := 2, frm := k, to := i, epoch := e, n := 0, recs := [] }
def IsLog (e : Int) (k : Nat) (m : Msg) : Prop := m.kind = 3 ∧ m.to = k ∧ m.epoch = e
theorem get_node {d : Wd} {e : Int} {k i : Nat} (h : Fresh d e k) (hi : i < 5) (m : Msg) (hto : m.to = i) : rGet d m = rTakes d i m := by
  unfold rGet
  rw [hto, if_neg (by omega), show ((i : Int)).toNat = i from rfl, if_pos (h.up i hi)]
theorem follows_mem (d : Wd) (i j : Nat) (e : Int) (hj : j ≠ i) : (rFollows d i e 0).mem j = d.mem j := by
  unfold rFollows; split
  · exact put_other _ _ _ _ hj
  · rfl
theorem follows_at (d : Wd) (i : Nat) (e : Int) : ((rFollows d i e 0).mem i).up = (d.mem i).up ∧ ((rFollows d i e 0).mem i).log = (d.mem i).log ∧ ((rFollows d i e 0).mem i).given = (d.mem i).given := by
  unfold rFollows; split
  · rw [put_at]; exact ⟨rfl, rfl, rfl⟩
  · exact ⟨rfl, rfl, rfl⟩
theorem follows_way (d : Wd) (i : Nat) (e r : Int) : (rFollows d i e r).way = d.way ∧ (rFollows d i e r).active = d.active := by
  unfold rFollows; split <;> exact ⟨rfl, rfl⟩
/-- A node takes in what its epoch's leader sends: it follows that epoch. -/
theorem Fresh.follows {d : Wd} {e : Int} {k : Nat} (h : Fresh d e k) (i : Nat) (hi : i < 5) : Fresh (rFollows d i e 0) e k ∧ (rFollows d i e 0).mem k = d.mem k := by
  have he := rFollows_eras d i e 0
  have hkk : (rFollows d i e 0).mem k = d.mem k := by
    by_cases q : k = i
    · subst q
      unfold rFollows
      rw [if_neg (by have := h.folk; omega)]
    · exact follows_mem d i k e q
  refine ⟨⟨fun j hj => ?_, fun j hj => ?_, h.hk, ?_, by rw [he]; exact h.new, by rw [hkk]; exact h.folk⟩, hkk⟩
  · by_cases q : j = i
    · subst q; rw [(follows_at d j e).1]; exact h.up j hj
    · rw [follows_mem d i j e q]; exact h.up j hj
  · by_cases q : j = i
    · subst q; rw [rFollows_mem d j e 0 (h.fol j hj)]; exact Int.le_refl _
    · rw [follows_mem d i j e q]; exact h.fol j hj
  · show (eraL (rFollows d i e 0).eras e).leader = k
    rw [he]; exact h.lead
theorem Fresh.way {d : Wd} {e : Int} {k : Nat} (h : Fresh d e k) (q : List Msg) : Fresh { d with way := q } e k := ⟨h.up, h.fol, h.hk, h.lead, h.new, h.folk⟩
/-- The Reads are taken in; what comes back are Logs. -/
theorem reads_run {e : Int} {k : Nat} : ∀ (ts : List Nat) (d : Wd) (q : List Msg), Fresh d e k → (d.mem k).role = 1 → (∀ i ∈ ts, i < 5) → d.way = ts.map (readM e k) ++ q → (∀ m ∈ q, IsLog e k m) → ts.length + q.length ≤ 20 →
    ∃ q', (dlvN ts.length d).way = q' ∧ Fresh (dlvN ts.length d) e k ∧ ((dlvN ts.length d).mem k).role = 1 ∧ (∀ m ∈ q', IsLog e k m) ∧ q'.length = ts.length + q.length ∧ (dlvN ts.length d).eras = d.eras ∧ (dlvN ts.length d).active = d.active
  | [], d, q, hf, hr, _, hw, hq, _ => ⟨q, (by simpa using hw : d.way = q), hf, hr, hq, by simp, rfl, rfl⟩
  | i :: ts, d, q, hf, hr, ht, hw, hq, hl => by
    have hi := ht i (by simp)
    have hl' : ts.length + 1 + q.length ≤ 20 := by simpa using hl
    have hw' : d.way = readM e k i :: (ts.map (readM e k) ++ q) := by rw [hw]; rfl
    have h1 := dlv_cons hw'
    have hf1 := hf.way (ts.map (readM e k) ++ q)
    rw [get_node hf1 hi _ rfl] at h1
    obtain ⟨hf2, hm2⟩ := hf1.follows i hi
    have hw2 := (follows_way { d with way := ts.map (readM e k) ++ q } i e 0)
    have he2 := rFollows_eras { d with way := ts.map (readM e k) ++ q } i e 0
    have h2 : rTakes { d with way := ts.map (readM e k) ++ q } i (readM e k i) = rSay (rFollows { d with way := ts.map (readM e k) ++ q } i e 0) i (readM e k i) 3 ((rFollows { d with way := ts.map (readM e k) ++ q } i e 0).mem i).log.length ((rFollows { d with way := ts.map (readM e k) ++ q } i e 0).mem i).log := by
      unfold rTakes
      have := hf1.fol i hi
      rw [if_neg (show ¬ (readM e k i).epoch < _ by show ¬ e < (d.mem i).follows; have : (d.mem i).follows ≤ e := hf.fol i hi; omega), if_neg (show ¬ (readM e k i).kind = 1 by show ¬ (2 : Int) = 1; omega), if_pos (show (readM e k i).kind = 2 from rfl)]
      rfl
    rw [h2] at h1
    unfold rSay at h1
    rw [sends_room (by rw [hw2.1]; simp; omega), hw2.1] at h1
    generalize hD : rFollows { d with way := ts.map (readM e k) ++ q } i e 0 = D at *
    have hlog : IsLog e k { kind := 3, frm := i, to := (readM e k i).frm, epoch := (readM e k i).epoch, n := (D.mem i).log.length, recs := (D.mem i).log } := ⟨rfl, rfl, rfl⟩
    obtain ⟨q', r1, r2, r3, r4, r5, r6, r7⟩ := reads_run ts (dlv d) (q ++ [_]) (by rw [h1]; exact hf2.way _) (by rw [h1]; show (D.mem k).role = 1; rw [hm2]; exact hr) (fun j hj => ht j (by simp [hj])) (by rw [h1]; show (ts.map (readM e k) ++ q) ++ [_] = _; rw [List.append_assoc]) (fun m hm => by
      rcases List.mem_append.1 hm with x | x
      · exact hq m x
      · simp at x; subst x; exact hlog) (by simp; omega)
    refine ⟨q', r1, r2, r3, r4, by rw [r5]; simp; omega, ?_, ?_⟩
    · show (dlvN ts.length (dlv d)).eras = d.eras
      rw [r6, h1]; exact he2
    · show (dlvN ts.length (dlv d)).active = d.active
      rw [r7, h1]; exact hw2.2
/-- Later Logs say nothing. -/
theorem logs_run {e : Int} {k : Nat} : ∀ (l : List Msg) (d : Wd) (q : List Msg), Fresh d e k → (d.mem k).role = 2 → d.way = l ++ q → (∀ m ∈ l, IsLog e k m) → dlvN l.length d = { d with way := q }
  | [], d, q, _, _, hw, _ => by
    have : d.way = q := by simpa using hw
    subst this; rfl
  | m :: l, d, q, hf, hr, hw, hl => by
    obtain ⟨a1, a2, a3⟩ := hl m (by simp)
    have hw' : d.way = m :: (l ++ q) := by rw [hw]; rfl
    have h1 := dlv_cons hw'
    have hf1 := hf.way (l ++ q)
    rw [get_node hf1 hf.hk m a2] at h1
    have h2 : rTakes { d with way := l ++ q } k m = { d with way := l ++ q } := by
      unfold rTakes rLeads
      have hfo : ({ d with way := l ++ q } : Wd).mem k = d.mem k := rfl
      rw [hfo, a1, a3, if_neg (by have := hf.folk; omega), if_neg (by omega), if_neg (by omega), if_neg (by omega), if_neg (by omega), if_pos hf.folk, if_neg (by omega), if_neg (by omega), if_neg (by omega), if_neg (by omega)]
    rw [h2] at h1
    show dlvN l.length (dlv d) = _
    rw [h1]
    exact logs_run l { d with way := l ++ q } q hf1 hr rfl (fun x hx => hl x (by simp [hx]))
end Go.Proofs.Ythpjcmilfipbaaa

namespace Go.Proofs.Ythpjcmilfipbaaa
set_option linter.unusedVariables false
set_option linter.unusedSimpArgs false
def stateM (e : Int) (k : Nat) (l : List Rec) (j : Nat) : Msg := { kind := 4, frm := k, to := j, epoch := e, n := l.length, recs := l }
def haveM (e : Int) (k j : Nat) : Msg := { kind := 5, frm := j, to := k, epoch := e, n := 0, recs := [] }
def readyM (e : Int) (k : Nat) : Msg := { kind := 6, frm := k, to := -1, epoch := e, n := 0, recs := [] }
def serveM (e : Int) (k : Nat) : Msg := { kind := 7, frm := -1, to := k, epoch := e, n := 0, recs := [] }
def others (d : Wd) (e : Int) (k n : Nat) : List Nat := (List.range n).filter fun j => decide (j ≠ k) && rIn d e j
theorem others_mem {d : Wd} {e : Int} {k n j : Nat} : j ∈ others d e k n ↔ j < n ∧ j ≠ k ∧ rIn d e j = true := by
  unfold others; simp [List.mem_filter]
theorem others_succ (d : Wd) (e : Int) (k n : Nat) : others d e k (n + 1) = others d e k n ++ (if n ≠ k ∧ rIn d e n = true then [n] else []) := by
  unfold others
  rw [List.range_succ, List.filter_append]
  congr 1
  by_cases h1 : n = k
  · simp [h1]
  · cases h2 : rIn d e n <;> simp [h1, h2]
theorem others_len (d : Wd) (e : Int) (k n : Nat) : (others d e k n).length ≤ n := by
  unfold others
  have := List.length_filter_le (fun j => decide (j ≠ k) && rIn d e j) (List.range n)
  simpa using this
theorem others_nodup (d : Wd) (e : Int) (k n : Nat) : (others d e k n).Nodup := List.Pairwise.filter _ List.nodup_range
theorem rOthersTo_all (d : Wd) (k : Nat) : ∀ n, (∀ j, j < n → j ≠ k → rIn d (d.mem k).follows j = true → (d.mem k).has j = true) → rOthersTo d k n = true
  | 0, _ => rfl
  | n + 1, h => by
    unfold rOthersTo
    rw [rOthersTo_all d k n fun j hj => h j (by omega)]
    by_cases h1 : n = k
    · simp [h1]
    · cases h2 : rIn d (d.mem k).follows n
      · simp
      · simp [h n (by omega) h1 h2]
theorem handsTo_way (d : Wd) (k : Nat) (e : Int) (hf : (d.mem k).follows = e) (hn : ∀ j, (d.mem k).has j = false) (hw : d.way.length ≤ 20) :
    ∀ n, n ≤ 5 → rHandsTo d k (d.mem k) n = { d with way := d.way ++ (others d e k n).map (stateM e k (d.mem k).log) }
  | 0, _ => by simp [rHandsTo, others]
  | n + 1, h5 => by
    have ih := handsTo_way d k e hf hn hw n (by omega)
    have hl := others_len d e k n
    unfold rHandsTo
    rw [ih, others_succ, hf]
    have hin : rIn { d with way := d.way ++ (others d e k n).map (stateM e k (d.mem k).log) } e n = rIn d e n := rfl
    rw [hin]
    by_cases c : n ≠ k ∧ rIn d e n = true
    · rw [if_pos ⟨c.1, c.2, hn n⟩, if_pos c, sends_room (by simp; omega)]
      simp [stateM]
    · rw [if_neg (fun x => c ⟨x.1, x.2.1⟩), if_neg c]
      simp
/-- The first Log: the leader has its log, and hands it on. -/
theorem tell_run {d : Wd} {e : Int} {k : Nat} {m : Msg} {q : List Msg} (hf : Fresh d e k) (hr : (d.mem k).role = 1) (hw : d.way = m :: q) (hm : IsLog e k m) (hl : q.length ≤ 20) :
    ∃ l, Fresh (dlv d) e k ∧ ((dlv d).mem k).role = 2 ∧ (∀ j, ((dlv d).mem k).has j = false) ∧ (dlv d).eras = d.eras ∧ (dlv d).active = d.active ∧
      (dlv d).way = q ++ (if others d e k 5 = [] then [readyM e k] else (others d e k 5).map (stateM e k l)) := by
  obtain ⟨a1, a2, a3⟩ := hm
  have h1 := dlv_cons hw
  have hf1 := hf.way q
  rw [get_node hf1 hf.hk m a2] at h1
  have h2 : rTakes { d with way := q } k m = rHands (rTell { d with way := q } k m) k := by
    unfold rTakes rLeads
    have hfo : ({ d with way := q } : Wd).mem k = d.mem k := rfl
    rw [hfo, a1, a3, if_neg (by have := hf.folk; omega), if_neg (by omega), if_neg (by omega), if_neg (by omega), if_neg (by omega), if_pos hf.folk, if_pos ⟨rfl, hr⟩]
  rw [h2] at h1
  have hD : ∀ i, ((rTell { d with way := q } k m).mem i).up = (d.mem i).up ∧ ((rTell { d with way := q } k m).mem i).follows = (d.mem i).follows := by
    intro i
    unfold rTell
    by_cases x : i = k
    · subst x; rw [put_at]; exact ⟨rfl, rfl⟩
    · rw [put_other _ _ _ _ x]; exact ⟨rfl, rfl⟩
  have hk2 : ((rTell { d with way := q } k m).mem k).role = 2 ∧ (∀ j, ((rTell { d with way := q } k m).mem k).has j = false) := by
    unfold rTell; rw [put_at]; exact ⟨rfl, fun _ => rfl⟩
  have hE : (rTell { d with way := q } k m).eras = d.eras := rfl
  have hW : (rTell { d with way := q } k m).way = q := rfl
  have hA : (rTell { d with way := q } k m).active = d.active := rfl
  have hin : ∀ j, rIn (rTell { d with way := q } k m) e j = rIn d e j := fun j => rfl
  have hoth : others (rTell { d with way := q } k m) e k 5 = others d e k 5 := rfl
  have hFr : Fresh (rTell { d with way := q } k m) e k := ⟨fun i hi => by rw [(hD i).1]; exact hf.up i hi, fun i hi => by rw [(hD i).2]; exact hf.fol i hi, hf.hk, hf.lead, hf.new, by rw [(hD k).2]; exact hf.folk⟩
  generalize rTell { d with way := q } k m = D at *
  refine ⟨(D.mem k).log, ?_⟩
  have key : rHands D k = { D with way := D.way ++ (if others d e k 5 = [] then [readyM e k] else (others d e k 5).map (stateM e k (D.mem k).log)) } := by
    unfold rHands
    by_cases c : others d e k 5 = []
    · have : rOthers D k = true := rOthersTo_all D k 5 fun j hj hne hi => by
        have : j ∈ others d e k 5 := by rw [← hoth]; exact others_mem.2 ⟨hj, hne, by rw [← hFr.folk]; exact hi⟩
        rw [c] at this; simp at this
      rw [if_pos this, if_pos c]
      unfold rReady
      rw [sends_room (by rw [hW]; omega), hFr.folk]; rfl
    · have : ¬ rOthers D k = true := fun x => by
        obtain ⟨j, hj⟩ := List.exists_mem_of_ne_nil _ c
        rw [← hoth] at hj
        obtain ⟨b1, b2, b3⟩ := others_mem.1 hj
        have := rOthersTo_spec D k 5 x j b1 b2 (by rw [hFr.folk]; exact b3)
        rw [hk2.2 j] at this; simp at this
      rw [if_neg this, if_neg c, handsTo_way D k e hFr.folk hk2.2 (by rw [hW]; exact hl) 5 (Nat.le_refl _), hoth]
  rw [h1, key, hW]
  exact ⟨hFr.way _, hk2.1, hk2.2, hE, hA, rfl⟩
/-- The States are taken in; what comes back are Haves. -/
theorem states_run {e : Int} {k : Nat} {l : List Rec} : ∀ (js : List Nat) (d : Wd) (q : List Msg), Fresh d e k → (∀ j ∈ js, j < 5 ∧ j ≠ k) → d.way = js.map (stateM e k l) ++ q → js.length + q.length ≤ 20 →
    (dlvN js.length d).way = q ++ js.map (haveM e k) ∧ Fresh (dlvN js.length d) e k ∧ (dlvN js.length d).mem k = d.mem k ∧ (dlvN js.length d).eras = d.eras ∧ (dlvN js.length d).active = d.active
  | [], d, q, hf, _, hw, _ => ⟨by show d.way = q ++ []; simpa using hw, hf, rfl, rfl, rfl⟩
  | j :: js, d, q, hf, hj, hw, hl => by
    obtain ⟨hj5, hjk⟩ := hj j (by simp)
    have hl' : js.length + 1 + q.length ≤ 20 := by simpa using hl
    have hw' : d.way = stateM e k l j :: (js.map (stateM e k l) ++ q) := by rw [hw]; rfl
    have h1 := dlv_cons hw'
    have hf1 := hf.way (js.map (stateM e k l) ++ q)
    rw [get_node hf1 hj5 _ rfl] at h1
    obtain ⟨hf2, hm2⟩ := hf1.follows j hj5
    have hw2 := follows_way { d with way := js.map (stateM e k l) ++ q } j e 0
    have he2 := rFollows_eras { d with way := js.map (stateM e k l) ++ q } j e 0
    have h2 : rTakes { d with way := js.map (stateM e k l) ++ q } j (stateM e k l j) = if ((rFollows { d with way := js.map (stateM e k l) ++ q } j e 0).mem j).given < e then rSay (rGiven (rFollows { d with way := js.map (stateM e k l) ++ q } j e 0) j e l) j (stateM e k l j) 5 0 [] else rSay (rFollows { d with way := js.map (stateM e k l) ++ q } j e 0) j (stateM e k l j) 5 0 [] := by
      unfold rTakes
      rw [if_neg (show ¬ (stateM e k l j).epoch < _ by show ¬ e < (d.mem j).follows; have : (d.mem j).follows ≤ e := hf.fol j hj5; omega), if_neg (show ¬ (stateM e k l j).kind = 1 by show ¬ (4 : Int) = 1; omega), if_neg (show ¬ (stateM e k l j).kind = 2 by show ¬ (4 : Int) = 2; omega), if_pos (show (stateM e k l j).kind = 4 from rfl)]
      rfl
    rw [h2] at h1
    generalize hD : rFollows { d with way := js.map (stateM e k l) ++ q } j e 0 = D at *
    have key : ∃ D', dlv d = { D' with way := (js.map (stateM e k l) ++ q) ++ [haveM e k j] } ∧ Fresh D' e k ∧ D'.mem k = d.mem k ∧ D'.eras = d.eras ∧ D'.active = d.active := by
      by_cases c : (D.mem j).given < e
      · rw [if_pos c] at h1
        refine ⟨rGiven D j e l, ?_, ?_, ?_, he2, hw2.2⟩
        · rw [h1]
          unfold rSay
          rw [sends_room (by show D.way.length < 50; rw [hw2.1]; simp; omega)]
          have hgw : (rGiven D j e l).way = js.map (stateM e k l) ++ q := hw2.1
          rw [hgw]; rfl
        · have hg : ∀ i, ((rGiven D j e l).mem i).up = (D.mem i).up ∧ ((rGiven D j e l).mem i).follows = (D.mem i).follows := by
            intro i
            unfold rGiven
            by_cases x : i = j
            · subst x; rw [put_at]; exact ⟨rfl, rfl⟩
            · rw [put_other _ _ _ _ x]; exact ⟨rfl, rfl⟩
          exact ⟨fun i hi => by rw [(hg i).1]; exact hf2.up i hi, fun i hi => by rw [(hg i).2]; exact hf2.fol i hi, hf2.hk, hf2.lead, hf2.new, by rw [(hg k).2]; exact hf2.folk⟩
        · unfold rGiven
          rw [put_other _ _ _ _ (fun x => hjk x.symm)]; exact hm2
      · rw [if_neg c] at h1
        refine ⟨D, ?_, hf2, hm2, he2, hw2.2⟩
        rw [h1]
        unfold rSay
        rw [sends_room (by rw [hw2.1]; simp; omega), hw2.1]; rfl
    obtain ⟨D', e1, e2, e3, e4, e5⟩ := key
    obtain ⟨r1, r2, r3, r4, r5⟩ := states_run js (dlv d) (q ++ [haveM e k j]) (by rw [e1]; exact e2.way _) (fun i hi => hj i (by simp [hi])) (by rw [e1]; show (js.map (stateM e k l) ++ q) ++ [_] = _; rw [List.append_assoc]) (by simp; omega)
    refine ⟨?_, r2, ?_, ?_, ?_⟩
    · show (dlvN js.length (dlv d)).way = _
      rw [r1]; simp
    · show (dlvN js.length (dlv d)).mem k = _
      rw [r3, e1]; exact e3
    · show (dlvN js.length (dlv d)).eras = _
      rw [r4, e1]; exact e4
    · show (dlvN js.length (dlv d)).active = _
      rw [r5, e1]; exact e5
/-- At the last Have the leader sends a Ready. -/
theorem haves_run {e : Int} {k : Nat} : ∀ (js : List Nat) (d : Wd), js ≠ [] → Fresh d e k → (d.mem k).role = 2 → js.Nodup → (∀ j ∈ js, j < 5 ∧ j ≠ k ∧ rIn d e j = true ∧ (d.mem k).has j = false) → (∀ j, j < 5 → j ≠ k → rIn d e j = true → (d.mem k).has j = true ∨ j ∈ js) →
    d.way = js.map (haveM e k) → js.length ≤ 20 → (dlvN js.length d).way = [readyM e k] ∧ Fresh (dlvN js.length d) e k ∧ ((dlvN js.length d).mem k).role = 2 ∧ (dlvN js.length d).eras = d.eras ∧ (dlvN js.length d).active = d.active
  | [], d, h, _, _, _, _, _, _, _ => absurd rfl h
  | j :: js, d, _, hf, hr, hnd, hj, hall, hw, hl => by
    obtain ⟨hj5, hjk, hji, hjh⟩ := hj j (by simp)
    have hw' : d.way = haveM e k j :: js.map (haveM e k) := by rw [hw]; rfl
    have h1 := dlv_cons hw'
    have hf1 := hf.way (js.map (haveM e k))
    rw [get_node hf1 hf.hk _ rfl] at h1
    have h2 : rTakes { d with way := js.map (haveM e k) } k (haveM e k j) = if rOthers (rHas { d with way := js.map (haveM e k) } k j) k then rReady (rHas { d with way := js.map (haveM e k) } k j) k e else rHas { d with way := js.map (haveM e k) } k j := by
      unfold rTakes rLeads
      have hfo : ({ d with way := js.map (haveM e k) } : Wd).mem k = d.mem k := rfl
      have b1 : (haveM e k j).kind = 5 := rfl
      have b2 : (haveM e k j).epoch = e := rfl
      have b3 : (haveM e k j).frm.toNat = j := rfl
      rw [hfo, b1, b2, b3, if_neg (by have := hf.folk; omega), if_neg (by omega), if_neg (by omega), if_neg (by omega), if_neg (by omega), if_pos hf.folk, if_neg (by omega), if_pos ⟨rfl, hr⟩]
    rw [h2] at h1
    have hk2 : ((rHas { d with way := js.map (haveM e k) } k j).mem k).role = 2 ∧ ((rHas { d with way := js.map (haveM e k) } k j).mem k).follows = e ∧ ((rHas { d with way := js.map (haveM e k) } k j).mem k).has = upd (d.mem k).has j true := by
      unfold rHas; rw [put_at]; exact ⟨hr, hf.folk, rfl⟩
    have hD : ∀ i, ((rHas { d with way := js.map (haveM e k) } k j).mem i).up = (d.mem i).up ∧ ((rHas { d with way := js.map (haveM e k) } k j).mem i).follows = (d.mem i).follows := by
      intro i
      unfold rHas
      by_cases x : i = k
      · subst x; rw [put_at]; exact ⟨rfl, rfl⟩
      · rw [put_other _ _ _ _ x]; exact ⟨rfl, rfl⟩
    have hFr : Fresh (rHas { d with way := js.map (haveM e k) } k j) e k := ⟨fun i hi => by rw [(hD i).1]; exact hf.up i hi, fun i hi => by rw [(hD i).2]; exact hf.fol i hi, hf.hk, hf.lead, hf.new, hk2.2.1⟩
    have hW : (rHas { d with way := js.map (haveM e k) } k j).way = js.map (haveM e k) := rfl
    have hE : (rHas { d with way := js.map (haveM e k) } k j).eras = d.eras := rfl
    have hA : (rHas { d with way := js.map (haveM e k) } k j).active = d.active := rfl
    have hin : ∀ i, rIn (rHas { d with way := js.map (haveM e k) } k j) e i = rIn d e i := fun i => rfl
    generalize rHas { d with way := js.map (haveM e k) } k j = D at *
    have hnj : j ∉ js := (List.nodup_cons.1 hnd).1
    cases js with
    | nil =>
      have ho : rOthers D k = true := rOthersTo_all D k 5 fun i hi hne hii => by
        rw [hk2.2.2]
        by_cases x : i = j
        · subst x; rw [upd_same]
        · rw [upd_other _ _ _ _ x]
          rw [hk2.2.1, hin] at hii
          rcases hall i hi hne hii with y | y
          · exact y
          · simp at y; exact absurd y x
      rw [if_pos ho] at h1
      unfold rReady at h1
      rw [sends_room (by rw [hW]; simp), hW] at h1
      show (dlv d).way = _ ∧ Fresh (dlv d) e k ∧ ((dlv d).mem k).role = 2 ∧ (dlv d).eras = d.eras ∧ (dlv d).active = d.active
      rw [h1]
      exact ⟨rfl, hFr.way _, hk2.1, hE, hA⟩
    | cons j2 js =>
      have ho : ¬ rOthers D k = true := fun x => by
        obtain ⟨b1, b2, b3, b4⟩ := hj j2 (by simp)
        have hne : j2 ≠ j := fun y => hnj (by simp [y])
        have := rOthersTo_spec D k 5 x j2 b1 b2 (by rw [hk2.2.1, hin]; exact b3)
        rw [hk2.2.2, upd_other _ _ _ _ hne, b4] at this
        simp at this
      rw [if_neg ho] at h1
      have r := haves_run (j2 :: js) (dlv d) (by simp) (by rw [h1]; exact hFr) (by rw [h1]; exact hk2.1) (List.nodup_cons.1 hnd).2 (fun i hi => by
        obtain ⟨b1, b2, b3, b4⟩ := hj i (by simp at hi ⊢; exact Or.inr hi)
        rw [h1]
        refine ⟨b1, b2, by rw [hin]; exact b3, ?_⟩
        rw [hk2.2.2, upd_other _ _ _ _ (fun y => hnj (by rw [← y]; exact hi))]; exact b4) (fun i hi hne hii => by
        rw [h1] at hii ⊢
        rw [hin] at hii
        rw [hk2.2.2]
        by_cases x : i = j
        · subst x; exact Or.inl (upd_same _ _ _)
        · rw [upd_other _ _ _ _ x]
          rcases hall i hi hne hii with y | y
          · exact Or.inl y
          · rcases List.mem_cons.1 y with z | z
            · exact absurd z x
            · exact Or.inr z) (by rw [h1]; exact hW) (by simp at hl ⊢; omega)
      obtain ⟨r1, r2, r3, r4, r5⟩ := r
      refine ⟨r1, r2, r3, ?_, ?_⟩
      · show (dlvN (j2 :: js).length (dlv d)).eras = _
        rw [r4, h1]; exact hE
      · show (dlvN (j2 :: js).length (dlv d)).active = _
        rw [r5, h1]; exact hA
/-- Ready, then Serve. -/
theorem serve_run {d : Wd} {e : Int} {k : Nat} (hf : Fresh d e k) (hr : (d.mem k).role = 2) (hw : d.way = [readyM e k]) :
    (dlvN 2 d).way = [] ∧ ((dlvN 2 d).mem k).role = 3 ∧ ((dlvN 2 d).mem k).follows = e ∧ (dlvN 2 d).eras = d.eras ∧ (dlvN 2 d).active = e ∧ (∀ j, ((dlvN 2 d).mem k).knows j = ((dlvN 2 d).mem k).log.length) ∧ ∀ i, i < 5 → ((dlvN 2 d).mem i).up = true := by
  have h1 := dlv_cons hw
  have h2 : rGet { d with way := [] } (readyM e k) = { d with way := [serveM e k], active := e } := by
    unfold rGet
    rw [if_pos (show (readyM e k).to = -1 from rfl)]
    unfold rMaster
    have hE : (readyM e k).epoch = ((({ d with way := [] } : Wd).eras.length : Nat) : Int) := hf.new
    rw [if_pos hE, sends_room (by simp)]
    have hl : (({ d with way := [], active := (readyM e k).epoch } : Wd).era (readyM e k).epoch).leader = k := hf.lead
    have hl2 : (({ d with way := [] } : Wd).era (readyM e k).epoch).leader = k := hf.lead
    simp only [serveM, readyM, List.nil_append] at hl2 ⊢
    rw [hl2]
  rw [h2] at h1
  have hw3 : (dlv d).way = serveM e k :: [] := by rw [h1]
  have h3 := dlv_cons hw3
  have hf1 : Fresh { dlv d with way := [] } e k := by rw [h1]; exact ⟨hf.up, hf.fol, hf.hk, hf.lead, hf.new, hf.folk⟩
  rw [get_node hf1 hf.hk _ rfl] at h3
  have hmem : ({ dlv d with way := [] } : Wd).mem = d.mem := by rw [h1]
  have h4 : rTakes { dlv d with way := [] } k (serveM e k) = rServe { dlv d with way := [] } k := by
    unfold rTakes rLeads
    have b1 : (serveM e k).kind = 7 := rfl
    have b2 : (serveM e k).epoch = e := rfl
    rw [hmem, b1, b2, if_neg (by have := hf.folk; omega), if_neg (by omega), if_neg (by omega), if_neg (by omega), if_neg (by omega), if_pos hf.folk, if_neg (by omega), if_neg (by omega), if_pos ⟨rfl, hr⟩]
  rw [h4] at h3
  show (dlv (dlv d)).way = [] ∧ ((dlv (dlv d)).mem k).role = 3 ∧ ((dlv (dlv d)).mem k).follows = e ∧ (dlv (dlv d)).eras = d.eras ∧ (dlv (dlv d)).active = e ∧ (∀ j, ((dlv (dlv d)).mem k).knows j = ((dlv (dlv d)).mem k).log.length) ∧ ∀ i, i < 5 → ((dlv (dlv d)).mem i).up = true
  rw [h3]
  unfold rServe
  rw [put_at]
  refine ⟨rfl, rfl, by rw [hmem]; exact hf.folk, by show (dlv d).eras = _; rw [h1], by show (dlv d).active = _; rw [h1], fun j => rfl, fun i hi => ?_⟩
  by_cases x : i = k
  · subst x; rw [put_at, hmem]; exact hf.up i hi
  · rw [put_other _ _ _ _ x, hmem]; exact hf.up i hi
end Go.Proofs.Ythpjcmilfipbaaa

namespace Go.Proofs.Ythpjcmilfipbaaa
set_option linter.unusedVariables false
set_option linter.unusedSimpArgs false
def members (d : Wd) (e : Int) (n : Nat) : List Nat := (List.range n).filter fun j => rIn d e j
theorem members_mem {d : Wd} {e : Int} {n j : Nat} : j ∈ members d e n ↔ j < n ∧ rIn d e j = true := by unfold members; simp [List.mem_filter]
theorem members_succ (d : Wd) (e : Int) (n : Nat) : members d e (n + 1) = members d e n ++ (if rIn d e n = true then [n] else []) := by
  unfold members
  rw [List.range_succ, List.filter_append]
  congr 1
  cases h2 : rIn d e n <;> simp [h2]
theorem members_len (d : Wd) (e : Int) (n : Nat) : (members d e n).length ≤ n := by
  unfold members
  have := List.length_filter_le (fun j => rIn d e j) (List.range n)
  simpa using this
theorem readsTo_way (d : Wd) (k : Nat) (e b : Int) (hw : d.way.length ≤ 20) : ∀ n, n ≤ 5 → rReadsTo d k e b n = { d with way := d.way ++ (members d b n).map (readM e k) }
  | 0, _ => by simp [rReadsTo, members]
  | n + 1, h5 => by
    have ih := readsTo_way d k e b hw n (by omega)
    have hl := members_len d b n
    unfold rReadsTo
    rw [ih, members_succ]
    have hin : rIn { d with way := d.way ++ (members d b n).map (readM e k) } b n = rIn d b n := rfl
    rw [hin]
    by_cases c : rIn d b n = true
    · rw [if_pos c, if_pos c, sends_room (by simp; omega)]
      simp [readM]
    · rw [if_neg c, if_neg c]
      simp
/-- What a new epoch's leader comes to. -/
structure Serves (d : Wd) (e : Int) (k : Nat) (L : List Era) : Prop where
  way : d.way = []
  role : (d.mem k).role = 3
  fol : (d.mem k).follows = e
  eras : d.eras = L
  act : d.active = e
  kno : ∀ j, (d.mem k).knows j = (d.mem k).log.length
  up : ∀ i, i < 5 → (d.mem i).up = true
theorem bit_some {x : Int} (h1 : 1 ≤ x) (h2 : x < 32) : ∃ j, j < 5 ∧ x / 2 ^ j % 2 = 1 := by
  have h : ∀ n : Nat, n < 32 → 1 ≤ n → ∃ j, j < 5 ∧ (n : Int) / 2 ^ j % 2 = 1 := by decide
  obtain ⟨n, rfl⟩ := Int.eq_ofNat_of_zero_le (show 0 ≤ x by omega)
  exact h n (by omega) (by omega)
theorem calm_run {d : Wd} (hok : ROk d) (hup : ∀ i, i < 5 → (d.mem i).up = true) (hw : d.way = []) (h40 : d.eras.length < 40) (m : Int) (k : Nat) (hk : k < 5) (h1 : 1 ≤ m) (h32 : m < 32) (hbit : m / 2 ^ k % 2 ≠ 0) :
    (rReconf d m k).2 = 0 ∧ ∃ n, n ≤ 40 ∧ Serves (dlvN n (rReconf d m k).1) (d.eras.length + 1) k (d.eras ++ [⟨m, k, d.active⟩]) := by
  have hR : rReconf d m k = ({ d with eras := d.eras ++ [⟨m, k, d.active⟩], way := [{ kind := 1, frm := -1, to := k, epoch := d.eras.length + 1, n := 0, recs := [] }] }, 0) := by
    unfold rReconf rBad
    have hb : ¬ (decide (m < 1) || decide (32 ≤ m) || decide ((k : Int) < 0) || decide (5 ≤ (k : Int))) = true := by simp; omega
    rw [if_neg hb, show ((k : Int)).toNat = k from rfl, if_neg hbit, if_neg (by omega), sends_room (by rw [hw]; simp)]
    simp [hw]
  rw [hR]
  refine ⟨rfl, ?_⟩
  show ∃ n, n ≤ 40 ∧ Serves (dlvN n { d with eras := d.eras ++ [⟨m, k, d.active⟩], way := [{ kind := 1, frm := -1, to := k, epoch := d.eras.length + 1, n := 0, recs := [] }] }) (d.eras.length + 1) k (d.eras ++ [⟨m, k, d.active⟩])
  generalize he : ((d.eras.length : Int) + 1) = e
  generalize hd0 : ({ d with eras := d.eras ++ [(⟨m, k, d.active⟩ : Era)], way := [{ kind := 1, frm := -1, to := (k : Int), epoch := e, n := 0, recs := [] }] } : Wd) = d0
  have hera : d0.era e = ⟨m, k, d.active⟩ := by
    rw [← hd0]
    show (d.eras ++ [(⟨m, k, d.active⟩ : Era)]).getD (e - 1).toNat era0 = _
    have : (e - 1).toNat = d.eras.length := by omega
    rw [this]; simp
  have hmem : d0.mem = d.mem := by rw [← hd0]
  have hway : d0.way = { kind := 1, frm := -1, to := (k : Int), epoch := e, n := 0, recs := [] } :: [] := by rw [← hd0]
  have hlen : ((d0.eras.length : Nat) : Int) = e := by rw [← hd0]; simp; omega
  have hera0 : d0.eras = d.eras ++ [⟨m, k, d.active⟩] := by rw [← hd0]
  have hfo : ∀ i, i < 5 → (d.mem i).follows < e := fun i hi => by have := (hok.fol i hi).2; omega
  -- Start
  have s1 := dlv_cons hway
  have s2 : rGet { d0 with way := [] } { kind := 1, frm := -1, to := (k : Int), epoch := e, n := 0, recs := [] } = rStarts { d0 with way := [] } k e := by
    unfold rGet
    have hu : (({ d0 with way := [] } : Wd).mem k).up = true := by show (d0.mem k).up = true; rw [hmem]; exact hup k hk
    rw [if_neg (show ¬ (k : Int) = -1 by omega), show ((k : Int)).toNat = k from rfl, if_pos hu]
    unfold rTakes
    have hf : ¬ e < (({ d0 with way := [] } : Wd).mem k).follows := by show ¬ e < (d0.mem k).follows; rw [hmem]; have := hfo k hk; omega
    rw [if_neg hf, if_pos rfl]
  rw [s2] at s1
  have hFol : rFollows { d0 with way := [] } k e 1 = ({ d0 with way := [] } : Wd).put k { d.mem k with follows := e, role := 1 } := by
    unfold rFollows
    have hf : (({ d0 with way := [] } : Wd).mem k).follows < e := by show (d0.mem k).follows < e; rw [hmem]; exact hfo k hk
    rw [if_pos hf]
    show ({ d0 with way := [] } : Wd).put k { d0.mem k with follows := e, role := 1 } = _
    rw [hmem]
  generalize hD : ({ d0 with way := [] } : Wd).put k { d.mem k with follows := e, role := 1 } = D at hFol
  have hDk : D.mem k = { d.mem k with follows := e, role := 1 } := by rw [← hD, put_at]
  have hDo : ∀ i, i ≠ k → D.mem i = d.mem i := fun i hi => by
    rw [← hD, put_other _ _ _ _ hi]
    show d0.mem i = _; rw [hmem]
  have hDe : D.eras = d0.eras := by rw [← hD]; rfl
  have hDw : D.way = [] := by rw [← hD]; rfl
  have s3 : rStarts { d0 with way := [] } k e = { D with way := (members D d.active 5).map (readM e k) } := by
    unfold rStarts
    rw [hFol]
    have hwk : rWake D k e = D := by
      unfold rWake
      rw [if_neg (fun x => by have := x.1; rw [hDk] at this; simp at this)]
    rw [hwk]
    unfold rStart2
    have hr1 : (D.mem k).role = 1 := by rw [hDk]
    rw [if_pos hr1]
    have hb : (D.era e).before = d.active := by
      show (D.eras.getD (e - 1).toNat era0).before = _
      rw [hDe]
      have : d0.eras.getD (e - 1).toNat era0 = d0.era e := rfl
      rw [this, hera]
    rw [hb, readsTo_way D k e d.active (by rw [hDw]; simp) 5 (Nat.le_refl _), hDw]; rfl
  rw [s3] at s1
  have hFr : Fresh D e k := by
    refine ⟨fun i hi => ?_, fun i hi => ?_, hk, ?_, by rw [hDe]; exact hlen.symm, by rw [hDk]⟩
    · by_cases x : i = k
      · subst x; rw [hDk]; exact hup i hi
      · rw [hDo i x]; exact hup i hi
    · by_cases x : i = k
      · subst x; rw [hDk]; exact Int.le_refl _
      · rw [hDo i x]; have := hfo i hi; omega
    · show (D.eras.getD (e - 1).toNat era0).leader = _
      rw [hDe]
      have : d0.eras.getD (e - 1).toNat era0 = d0.era e := rfl
      rw [this, hera]
  -- Reads
  obtain ⟨q', r1, r2, r3, r4, r5, r6, r7⟩ := reads_run (members D d.active 5) (dlv d0) [] (by rw [s1]; exact hFr.way _) (by rw [s1]; show (D.mem k).role = 1; rw [hDk]) (fun i hi => (members_mem.1 hi).1) (by rw [s1]; simp) (by simp) (by have := members_len D d.active 5; simp; omega)
  have hne : (members D d.active 5) ≠ [] := by
    have ha := hok.act
    obtain ⟨a, haa⟩ := Int.eq_ofNat_of_zero_le (show 0 ≤ d.active by omega)
    have hal : (d.active - 1).toNat < d.eras.length := by omega
    obtain ⟨x1, x2, _⟩ := hok.era _ _ (List.getElem?_eq_getElem hal)
    obtain ⟨j, hj5, hjb⟩ := bit_some x1 x2
    have : j ∈ members D d.active 5 := members_mem.2 ⟨hj5, by
      unfold rIn
      have hE : D.era d.active = d.eras[(d.active - 1).toNat] := by
        show D.eras.getD (d.active - 1).toNat era0 = _
        rw [hDe, hera0, List.getD_eq_getElem?_getD, List.getElem?_append_left hal, List.getElem?_eq_getElem hal]; rfl
      rw [hE]; exact decide_eq_true hjb⟩
    intro x; rw [x] at this; simp at this
  generalize hts : members D d.active 5 = ts at *
  have htl : ts.length ≤ 5 := by rw [← hts]; exact members_len D d.active 5
  have hq0 : q' ≠ [] := fun x => by
    rw [x] at r5
    simp at r5
    exact hne (List.length_eq_zero_iff.1 (by omega))
  match q', hq0 with
  | m0 :: rest, _ =>
    have hrl : rest.length + 1 = ts.length := by simpa using r5
    obtain ⟨l, t1, t2, t3, t4, t5, t6⟩ := tell_run r2 r3 r1 (r4 m0 (by simp)) (by omega)
    have hlg := logs_run rest (dlv (dlvN ts.length (dlv d0))) _ t1 t2 t6 (fun x hx => r4 x (by simp [hx]))
    generalize hd2 : dlvN ts.length (dlv d0) = d2 at *
    have hall : ∀ n, dlvN (1 + (ts.length + (1 + (rest.length + n)))) d0 = dlvN n (dlvN rest.length (dlv d2)) := by
      intro n
      rw [dlvN_add, dlvN_add, dlvN_add, dlvN_add]
      show dlvN n (dlvN rest.length (dlv (dlvN ts.length (dlv d0)))) = _
      rw [hd2]
    rw [hlg] at hall
    have hE2 : d2.eras = d0.eras := by rw [r6, s1]; exact hDe
    by_cases c : others d2 e k 5 = []
    · rw [if_pos c] at hall
      obtain ⟨v1, v2, v3, v4, v5, v6, v7⟩ := serve_run (d := { dlv d2 with way := [readyM e k] }) (t1.way _) t2 rfl
      refine ⟨1 + (ts.length + (1 + (rest.length + 2))), by omega, ?_⟩
      rw [hall 2]
      exact ⟨v1, v2, v3, by rw [v4]; show (dlv d2).eras = _; rw [t4, hE2, hera0], v5, v6, v7⟩
    · rw [if_neg c] at hall
      have hol := others_len d2 e k 5
      have hon := others_nodup d2 e k 5
      have hin2 : ∀ j, rIn (dlv d2) e j = rIn d2 e j := fun j => by unfold rIn Wd.era; rw [t4]
      have hom : ∀ j, j ∈ others d2 e k 5 ↔ j < 5 ∧ j ≠ k ∧ rIn d2 e j = true := fun j => others_mem
      generalize others d2 e k 5 = js at *
      obtain ⟨w1, w2, w3, w4, w5⟩ := states_run (l := l) js { dlv d2 with way := js.map (stateM e k l) } [] (t1.way _) (fun j hj => ⟨((hom j).1 hj).1, ((hom j).1 hj).2.1⟩) (by simp) (by simp; omega)
      generalize hd3 : dlvN js.length { dlv d2 with way := js.map (stateM e k l) } = d3 at *
      have hk3 : d3.mem k = (dlv d2).mem k := w3
      have hin3 : ∀ j, rIn d3 e j = rIn d2 e j := fun j => by rw [← hin2 j]; unfold rIn Wd.era; rw [w4]
      obtain ⟨x1, x2, x3, x4, x5⟩ := haves_run js d3 c w2 (by rw [hk3]; exact t2) hon (fun j hj => ⟨((hom j).1 hj).1, ((hom j).1 hj).2.1, by rw [hin3]; exact ((hom j).1 hj).2.2, by rw [hk3]; exact t3 j⟩) (fun j hj hne hi => Or.inr ((hom j).2 ⟨hj, hne, by rw [← hin3]; exact hi⟩)) (by rw [w1]; simp) (by omega)
      obtain ⟨v1, v2, v3, v4, v5, v6, v7⟩ := serve_run x2 x3 x1
      refine ⟨1 + (ts.length + (1 + (rest.length + (js.length + (js.length + 2))))), by omega, ?_⟩
      rw [hall, dlvN_add, hd3, dlvN_add]
      exact ⟨v1, v2, v3, by rw [v4, x4, w4]; show (dlv d2).eras = _; rw [t4, hE2, hera0], v5, v6, v7⟩
end Go.Proofs.Ythpjcmilfipbaaa
