/- My own text: several texts in one. -/
import Derived.Test.YthpjcmilfipbaaaG3
namespace Go.Proofs.Ythpjcmilfipbaaa
set_option linter.unusedVariables false
set_option linter.unusedSimpArgs false
def appM (e : Int) (k : Nat) (n : Nat) (r : Rec) (j : Nat) : Msg := { kind := 8, frm := k, to := j, epoch := e, n := n, recs := [r] }
def ackM (e : Int) (k : Nat) (n : Nat) (j : Nat) : Msg := { kind := 9, frm := j, to := k, epoch := e, n := n, recs := [] }
theorem prodTo_way (d : Wd) (k : Nat) (m : Mem) (e : Int) (kk dn : Int) (l : List Rec) (r : Rec) (hkk : kk < 0) (hm : m.follows = e) (hf : (d.mem k).follows = e) (hl : (d.mem k).log = l ++ [r]) (hw : d.way.length ≤ 20) :
    ∀ n, n ≤ 5 → rProdTo d k m kk l.length dn n = { d with way := d.way ++ (others d e k n).map (appM e k l.length r) }
  | 0, _ => by simp [rProdTo, others]
  | n + 1, h5 => by
    have ih := prodTo_way d k m e kk dn l r hkk hm hf hl hw n (by omega)
    have hol := others_len d e k n
    unfold rProdTo
    rw [ih, others_succ, hm]
    have hin : rIn { d with way := d.way ++ (others d e k n).map (appM e k l.length r) } e n = rIn d e n := rfl
    rw [hin]
    by_cases c : n ≠ k ∧ rIn d e n = true
    · rw [if_neg (fun x => by rcases x with x | x; exact c.1 x; rw [c.2] at x; simp at x), if_pos hkk, if_pos c]
      unfold rAppends
      rw [sends_room (by simp; omega)]
      have hk2 : (({ d with way := d.way ++ (others d e k n).map (appM e k l.length r) } : Wd).mem k) = d.mem k := rfl
      rw [hk2, hl, hf]
      have : ((l ++ [r]).drop (l.length : Int).toNat).take 1 = [r] := by simp
      rw [this]
      simp [appM]
    · rw [if_pos (by
        by_cases x : n = k
        · exact Or.inl x
        · exact Or.inr (by
            cases y : rIn d e n
            · rfl
            · exact absurd ⟨x, y⟩ c)), if_neg c]
      simp
/-- All others of the epoch have the log as it was. -/
structure Ripe (d : Wd) (e : Int) (k : Nat) (n : Nat) (js : List Nat) : Prop where
  up : ∀ i, i < 5 → (d.mem i).up = true
  js : ∀ j ∈ js, j < 5 ∧ j ≠ k ∧ (d.mem j).follows = e ∧ (d.mem j).given = e ∧ (d.mem j).role = 0 ∧ (d.mem j).log.length = n
theorem get_up {d : Wd} (hup : ∀ i, i < 5 → (d.mem i).up = true) {i : Nat} (hi : i < 5) (m : Msg) (hto : m.to = i) : rGet d m = rTakes d i m := by
  unfold rGet
  rw [hto, if_neg (by omega), show ((i : Int)).toNat = i from rfl, if_pos (hup i hi)]
theorem apps_run {e : Int} {k n : Nat} {r : Rec} (hk : k < 5) : ∀ (js : List Nat) (d : Wd) (q : List Msg), Ripe d e k n js → js.Nodup → d.way = js.map (appM e k n r) ++ q → js.length + q.length ≤ 20 →
    (dlvN js.length d).way = q ++ js.map (ackM e k (n + 1)) ∧ (∀ i, i < 5 → ((dlvN js.length d).mem i).up = true) ∧ (dlvN js.length d).mem k = d.mem k ∧ (dlvN js.length d).eras = d.eras
  | [], d, q, hr, _, hw, _ => ⟨by show d.way = q ++ []; simpa using hw, hr.up, rfl, rfl⟩
  | j :: js, d, q, hr, hnd, hw, hl => by
    obtain ⟨hj5, hjk, j1, j2, j3, j4⟩ := hr.js j (by simp)
    have hl' : js.length + 1 + q.length ≤ 20 := by simpa using hl
    have hw' : d.way = appM e k n r j :: (js.map (appM e k n r) ++ q) := by rw [hw]; rfl
    have h1 := dlv_cons hw'
    rw [get_up (d := { d with way := js.map (appM e k n r) ++ q }) hr.up hj5 _ rfl] at h1
    have hD : rTakeAppend { d with way := js.map (appM e k n r) ++ q } j (appM e k n r j) = rPutLog { d with way := js.map (appM e k n r) ++ q } j ((d.mem j).log ++ [r]) := by
      unfold rTakeAppend
      have hc : (appM e k n r j).n = ((({ d with way := js.map (appM e k n r) ++ q } : Wd).mem j).log.length : Int) := by show (n : Int) = ((d.mem j).log.length : Int); rw [j4]
      rw [if_pos hc]; rfl
    have h2 : rTakes { d with way := js.map (appM e k n r) ++ q } j (appM e k n r j) = rSay (rPutLog { d with way := js.map (appM e k n r) ++ q } j ((d.mem j).log ++ [r])) j (appM e k n r j) 9 (((d.mem j).log ++ [r]).length) [] := by
      unfold rTakes
      have hfo : ({ d with way := js.map (appM e k n r) ++ q } : Wd).mem j = d.mem j := rfl
      have b1 : (appM e k n r j).kind = 8 := rfl
      have b2 : (appM e k n r j).epoch = e := rfl
      rw [hfo, b1, b2, hD, if_neg (by omega), if_neg (by omega), if_neg (by omega), if_neg (by omega), if_pos rfl, if_pos ⟨j1, j2, j3⟩]
      unfold rPutLog
      rw [put_at]
    rw [h2] at h1
    unfold rSay at h1
    rw [sends_room (by show (js.map (appM e k n r) ++ q).length < 50; simp; omega)] at h1
    have hlen : (((d.mem j).log ++ [r]).length : Int) = ((n + 1 : Nat) : Int) := by simp [j4]
    generalize hDD : rPutLog { d with way := js.map (appM e k n r) ++ q } j ((d.mem j).log ++ [r]) = D at *
    have hDw : D.way = js.map (appM e k n r) ++ q := by rw [← hDD]; rfl
    have hDo : ∀ i, i ≠ j → D.mem i = d.mem i := fun i hi => by rw [← hDD]; unfold rPutLog; rw [put_other _ _ _ _ hi]
    have hDu : ∀ i, (D.mem i).up = (d.mem i).up := fun i => by
      by_cases x : i = j
      · subst x; rw [← hDD]; unfold rPutLog; rw [put_at]
      · rw [hDo i x]
    have hDe : D.eras = d.eras := by rw [← hDD]; rfl
    have h3 : dlv d = { D with way := (js.map (appM e k n r) ++ q) ++ [ackM e k (n + 1) j] } := by
      rw [h1, hDw, hlen]; rfl
    have hnj : j ∉ js := (List.nodup_cons.1 hnd).1
    obtain ⟨r1, r2, r3, r4⟩ := apps_run (e := e) (n := n) (r := r) hk js (dlv d) (q ++ [ackM e k (n + 1) j]) (by
      rw [h3]
      refine ⟨fun i hi => by show (D.mem i).up = true; rw [hDu i]; exact hr.up i hi, fun i hi => ?_⟩
      have hij : i ≠ j := fun x => hnj (by rw [← x]; exact hi)
      obtain ⟨a1, a2, a3⟩ := hr.js i (by simp [hi])
      show i < 5 ∧ i ≠ k ∧ (D.mem i).follows = e ∧ (D.mem i).given = e ∧ (D.mem i).role = 0 ∧ (D.mem i).log.length = n
      rw [hDo i hij]; exact ⟨a1, a2, a3⟩) (List.nodup_cons.1 hnd).2 (by rw [h3]; show (js.map (appM e k n r) ++ q) ++ [_] = _; rw [List.append_assoc]) (by simp; omega)
    refine ⟨?_, r2, ?_, ?_⟩
    · show (dlvN js.length (dlv d)).way = _
      rw [r1]; simp
    · show (dlvN js.length (dlv d)).mem k = _
      rw [r3, h3]; exact hDo k (fun x => hjk x.symm)
    · show (dlvN js.length (dlv d)).eras = _
      rw [r4, h3]; exact hDe
/-- The Acks tell the leader that all have it. -/
theorem acks_run {e : Int} {k n : Nat} (hk : k < 5) : ∀ (js : List Nat) (d : Wd), (∀ i, i < 5 → (d.mem i).up = true) → (d.mem k).role = 3 → (d.mem k).follows = e → (d.mem k).log.length = n + 1 → (∀ j ∈ js, (d.mem k).knows j < ((n + 1 : Nat) : Int)) → js.Nodup → d.way = js.map (ackM e k (n + 1)) →
    (dlvN js.length d).way = [] ∧ (∀ i, i < 5 → ((dlvN js.length d).mem i).up = true) ∧ ((dlvN js.length d).mem k).role = 3 ∧ ((dlvN js.length d).mem k).follows = e ∧ ((dlvN js.length d).mem k).log = (d.mem k).log ∧ (dlvN js.length d).eras = d.eras ∧
      ∀ j, ((dlvN js.length d).mem k).knows j = if j ∈ js then ((n + 1 : Nat) : Int) else (d.mem k).knows j
  | [], d, hup, hr, hf, _, _, _, hw => ⟨(by simpa using hw : d.way = []), hup, hr, hf, rfl, rfl, fun j => by simp [dlvN]⟩
  | j :: js, d, hup, hr, hf, hlg, hkn, hnd, hw => by
    have hw' : d.way = ackM e k (n + 1) j :: js.map (ackM e k (n + 1)) := by rw [hw]; rfl
    have h1 := dlv_cons hw'
    rw [get_up (d := { d with way := js.map (ackM e k (n + 1)) }) hup hk _ rfl] at h1
    have hlt := hkn j (by simp)
    have hD : rKnow { d with way := js.map (ackM e k (n + 1)) } k j ((n + 1 : Nat) : Int) = ({ d with way := js.map (ackM e k (n + 1)) } : Wd).put k { d.mem k with knows := upd (d.mem k).knows j ((n + 1 : Nat) : Int) } := by
      unfold rKnow; rw [if_pos hlt]
    have h2 : rTakes { d with way := js.map (ackM e k (n + 1)) } k (ackM e k (n + 1) j) = rAck (rKnow { d with way := js.map (ackM e k (n + 1)) } k j ((n + 1 : Nat) : Int)) k j := by
      unfold rTakes rLeads
      have hfo : ({ d with way := js.map (ackM e k (n + 1)) } : Wd).mem k = d.mem k := rfl
      have b1 : (ackM e k (n + 1) j).kind = 9 := rfl
      have b2 : (ackM e k (n + 1) j).epoch = e := rfl
      have b3 : (ackM e k (n + 1) j).frm.toNat = j := rfl
      have b4 : (ackM e k (n + 1) j).n = ((n + 1 : Nat) : Int) := rfl
      rw [hfo, b1, b2, b3, b4, if_neg (by omega), if_neg (by omega), if_neg (by omega), if_neg (by omega), if_neg (by omega), if_pos hf, if_neg (by omega), if_neg (by omega), if_neg (by omega), if_pos ⟨rfl, hr⟩]
    rw [h2, hD] at h1
    have h3 : rAck (({ d with way := js.map (ackM e k (n + 1)) } : Wd).put k { d.mem k with knows := upd (d.mem k).knows j ((n + 1 : Nat) : Int) }) k j = ({ d with way := js.map (ackM e k (n + 1)) } : Wd).put k { d.mem k with knows := upd (d.mem k).knows j ((n + 1 : Nat) : Int) } := by
      unfold rAck
      rw [put_at]
      have hx : ¬ upd (d.mem k).knows j ((n + 1 : Nat) : Int) j < ((d.mem k).log.length : Int) := by rw [upd_same, hlg]; omega
      rw [if_neg hx]
    rw [h3] at h1
    have hnj : j ∉ js := (List.nodup_cons.1 hnd).1
    have hmk : (dlv d).mem k = { d.mem k with knows := upd (d.mem k).knows j ((n + 1 : Nat) : Int) } := by rw [h1, put_at]
    obtain ⟨r1, r2, r3, r4, r5, r6, r7⟩ := acks_run (e := e) (n := n) hk js (dlv d) (fun i hi => by
      rw [h1]
      by_cases x : i = k
      · subst x; rw [put_at]; exact hup i hi
      · rw [put_other _ _ _ _ x]; exact hup i hi) (by rw [hmk]; exact hr) (by rw [hmk]; exact hf) (by rw [hmk]; exact hlg) (fun i hi => by
      rw [hmk]
      show upd (d.mem k).knows j ((n + 1 : Nat) : Int) i < _
      rw [upd_other _ _ _ _ (fun x => hnj (by rw [← x]; exact hi))]
      exact hkn i (by simp [hi])) (List.nodup_cons.1 hnd).2 (by rw [h1]; rfl)
    refine ⟨r1, r2, r3, r4, ?_, ?_, fun i => ?_⟩
    · show ((dlvN js.length (dlv d)).mem k).log = _
      rw [r5, hmk]
    · show (dlvN js.length (dlv d)).eras = _
      rw [r6, h1]; rfl
    · show ((dlvN js.length (dlv d)).mem k).knows i = _
      rw [r7 i, hmk]
      by_cases x : i = j
      · subst x
        rw [if_neg hnj, if_pos (by simp)]
        exact upd_same _ _ _
      · show (if i ∈ js then _ else upd (d.mem k).knows j ((n + 1 : Nat) : Int) i) = _
        rw [upd_other _ _ _ _ x]
        by_cases y : i ∈ js
        · rw [if_pos y, if_pos (by simp [y])]
        · rw [if_neg y, if_neg (by simp [x, y])]
end Go.Proofs.Ythpjcmilfipbaaa

namespace Go.Proofs.Ythpjcmilfipbaaa
set_option linter.unusedVariables false
set_option linter.unusedSimpArgs false
theorem offGo_neg (p s : Int) : ∀ (l : List Rec) (k : Nat), (∀ r ∈ l, ¬ (r.p = p ∧ r.s = s)) → offGo p s l k = -1
  | [], k, _ => rfl
  | x :: l, k, h => by
    unfold offGo
    rw [if_neg (h x (by simp))]
    exact offGo_neg p s l (k + 1) fun r hr => h r (by simp [hr])
theorem offGo_last (p s v : Int) (l : List Rec) (h : ∀ r ∈ l, ¬ (r.p = p ∧ r.s = s)) : offsetOf (l ++ [⟨p, s, v⟩]) p s = l.length :=
  offsetOf_at _ p s l.length ⟨p, s, v⟩ (fun j r hj hr => h r (List.mem_of_getElem? (by rw [List.getElem?_append_left hj] at hr; exact hr))) (by simp) ⟨rfl, rfl⟩
theorem prodTo_none2 (d : Wd) (k : Nat) (m : Mem) (kk n dn : Int) (h1 : ¬ kk < 0) (h2 : ¬ dn ≤ kk) : ∀ j, rProdTo d k m kk n dn j = d
  | 0 => rfl
  | j + 1 => by
    have ih := prodTo_none2 d k m kk n dn h1 h2 j
    unfold rProdTo
    simp only [ih]
    split
    · rfl
    split
    · rename_i x; exact absurd x.1 h2
    · rfl
theorem calm_record {d : Wd} {g : Gh} {e : Int} {k : Nat} {L : List Era} {N : Nat} (h : Serves d e k L) (hi : Inv d g) (hok : ROk d) (hs : Small d N) (hN : N < 60) (hk : k < 5) (he : ((d.eras.length : Nat) : Int) = e) :
    ((rProduce d k 4 1 200).2.1 = (d.mem k).log.length ∧ (rProduce d k 4 1 200).2.2.2 = 0) ∧ ∃ n, n ≤ 20 ∧ (dlvN n (rProduce d k 4 1 200).1).way = [] ∧
      rProduce (dlvN n (rProduce d k 4 1 200).1) k 4 1 0 = (dlvN n (rProduce d k 4 1 200).1, ((d.mem k).log.length : Int), true, 0) ∧ rFetch (dlvN n (rProduce d k 4 1 200).1) k (d.mem k).log.length = (⟨4, 1, 200⟩, 0) := by
  have hn := hi.nd k hk
  obtain ⟨hl, h1⟩ := hn.n3 (by have := h.role; omega)
  have he1 : 1 ≤ e := by rw [← h.fol]; exact h1
  have hge := hn.n5 (Or.inr h.role)
  obtain ⟨s1, _, _, _, s5⟩ := hn.n2 (by omega)
  rw [hge] at s1 s5
  have hact := (hn.n7 h.role).1
  have hno : ∀ r ∈ (d.mem k).log, ¬ (r.p = 4 ∧ r.s = 1) := fun r hr x => (hs.log k hk).2 r hr x.1
  have hoff : offsetOf (d.mem k).log 4 1 = -1 := offGo_neg 4 1 _ 0 hno
  have hll := (hs.log k hk).1
  have href : ∀ D : Wd, (∀ i, i < 5 → (D.mem i).up = true) → rRef D k true = 0 := fun D hu => by
    unfold rRef nodeB
    have hb : (decide (0 ≤ (k : Int)) && decide ((k : Int) < 5)) = true := by simp; omega
    rw [if_pos hb, show ((k : Int)).toNat = k from rfl, hu k hk]; rfl
  generalize hln : (d.mem k).log.length = n0 at *
  generalize hD : rPutLog d k ((d.mem k).log ++ [⟨4, 1, 200⟩]) = D
  have hDk : D.mem k = { d.mem k with log := (d.mem k).log ++ [⟨4, 1, 200⟩] } := by rw [← hD]; unfold rPutLog; rw [put_at]
  have hDo : ∀ i, i ≠ k → D.mem i = d.mem i := fun i hx => by rw [← hD]; unfold rPutLog; rw [put_other _ _ _ _ hx]
  have hDe : D.eras = d.eras := by rw [← hD]; rfl
  have hDw : D.way = [] := by rw [← hD]; exact h.way
  have hP : rProduce d k 4 1 200 = ({ D with way := (others D e k 5).map (appM e k n0 ⟨4, 1, 200⟩) }, (n0 : Int), decide ((n0 : Int) < rDone D k), 0) := by
    unfold rProduce
    rw [if_neg (by rw [href d h.up]; decide), if_neg (by decide), show ((k : Int)).toNat = k from rfl, if_neg (by rw [h.role]; decide)]
    unfold rProduceAt
    rw [hoff, if_pos (by decide), if_neg (by omega), if_neg (by omega)]
    unfold rProduceNew
    rw [hD, hln]
    have hw := prodTo_way D k (d.mem k) e (-1) (rDone D k) (d.mem k).log ⟨4, 1, 200⟩ (by decide) h.fol (by rw [hDk]; exact h.fol) (by rw [hDk]) (by rw [hDw]; simp) 5 (Nat.le_refl _)
    rw [hln] at hw
    rw [hw, hDw]; rfl
  rw [hP]
  refine ⟨⟨rfl, rfl⟩, ?_⟩
  show ∃ n, n ≤ 20 ∧ (dlvN n { D with way := (others D e k 5).map (appM e k n0 ⟨4, 1, 200⟩) }).way = [] ∧ rProduce (dlvN n { D with way := (others D e k 5).map (appM e k n0 ⟨4, 1, 200⟩) }) k 4 1 0 = (dlvN n { D with way := (others D e k 5).map (appM e k n0 ⟨4, 1, 200⟩) }, (n0 : Int), true, 0) ∧ rFetch (dlvN n { D with way := (others D e k 5).map (appM e k n0 ⟨4, 1, 200⟩) }) k n0 = (⟨4, 1, 200⟩, 0)
  have hDup : ∀ i, i < 5 → (D.mem i).up = true := fun i hx => by
    by_cases x : i = k
    · subst x; rw [hDk]; exact h.up i hx
    · rw [hDo i x]; exact h.up i hx
  have hin : ∀ j, rIn D e j = inL d.eras e j := fun j => by rw [rIn_eq, hDe]
  have hjs : ∀ j ∈ others D e k 5, j < 5 ∧ j ≠ k ∧ (D.mem j).follows = e ∧ (D.mem j).given = e ∧ (D.mem j).role = 0 ∧ (D.mem j).log.length = n0 := fun j hj => by
    obtain ⟨a1, a2, a3⟩ := others_mem.1 hj
    have hjn := hi.nd j a1
    rw [hin] at a3
    have hnl : (j : Int) ≠ (eraL d.eras e).leader := fun x => a2 (by rw [h.fol] at hl; omega)
    have g1 := (hi.gh.a5 _ hact j a1 (by rw [h.fol]; exact a3) (by rw [h.fol]; exact hnl)).1
    rw [hjn.giv, h.fol] at g1
    have g2 := hjn.n1
    have g3 : (d.mem j).given = e := by omega
    have g4 : (d.mem j).follows = e := by omega
    have g5 : (d.mem j).role = 0 := by
      by_cases x : (d.mem j).role = 0
      · exact x
      · have := (hjn.n3 x).1
        rw [g4] at this
        exact absurd this hnl
    obtain ⟨t1, t2, t3, t4, _⟩ := hjn.n2 (by rw [g3]; exact he1)
    rw [g3] at t1 t2 t3 t4
    have g6 := (hn.n7 h.role).2 j a1 (by rw [h.fol]; exact a3) a2
    rw [h.kno j, hln, h.fol, t4] at g6
    have g7 := prefix_len t3
    rw [h.fol] at s5
    rw [← s5 (by rw [h.fol] at hl; exact hl), hln] at g7
    rw [hDo j a2]
    exact ⟨a1, a2, g4, g3, g5, by omega⟩
  have hol := others_len D e k 5
  have hon := others_nodup D e k 5
  have hom : ∀ j, j ∈ others D e k 5 ↔ j < 5 ∧ j ≠ k ∧ rIn D e j = true := fun j => others_mem
  generalize others D e k 5 = js at *
  obtain ⟨a1, a2, a3, a4⟩ := apps_run (e := e) (n := n0) (r := ⟨4, 1, 200⟩) hk js { D with way := js.map (appM e k n0 ⟨4, 1, 200⟩) } [] ⟨hDup, hjs⟩ hon (by simp) (by simp; omega)
  generalize hd1 : dlvN js.length { D with way := js.map (appM e k n0 ⟨4, 1, 200⟩) } = d1 at *
  have hk1 : d1.mem k = D.mem k := a3
  obtain ⟨b1, b2, b3, b4, b5, b6, b7⟩ := acks_run (e := e) (n := n0) hk js d1 a2 (by rw [hk1, hDk]; exact h.role) (by rw [hk1, hDk]; exact h.fol) (by rw [hk1, hDk]; show ((d.mem k).log ++ [_]).length = _; simp [hln]) (fun j hj => by
    rw [hk1, hDk]
    show (d.mem k).knows j < _
    rw [h.kno j, hln]; omega) hon (by rw [a1]; simp)
  refine ⟨js.length + js.length, by omega, ?_⟩
  rw [dlvN_add, hd1]
  generalize hd2 : dlvN js.length d1 = d2 at *
  have hlog2 : (d2.mem k).log = (d.mem k).log ++ [⟨4, 1, 200⟩] := by rw [b5, hk1, hDk]
  have hlen2 : (d2.mem k).log.length = n0 + 1 := by rw [hlog2]; simp [hln]
  have hE2 : d2.eras = D.eras := by rw [b6, a4]
  have hdn : rDone d2 k = ((n0 + 1 : Nat) : Int) := by
    unfold rDone
    rw [if_pos b3]
    have key : ∀ n, n ≤ 5 → rDoneTo d2 k n = ((n0 + 1 : Nat) : Int) := by
      intro n
      induction n with
      | zero => intro _; show ((d2.mem k).log.length : Int) = _; rw [hlen2]
      | succ n ih =>
        intro h5
        unfold rDoneTo
        rw [ih (by omega)]
        by_cases c : n ≠ k ∧ rIn d2 (d2.mem k).follows n = true
        · have hmem : n ∈ js := (hom n).2 ⟨by omega, c.1, by
            have := c.2
            rw [b4] at this
            unfold rIn Wd.era at this ⊢
            rw [hE2] at this; exact this⟩
          have hkv := b7 n
          rw [if_pos hmem] at hkv
          rw [if_neg (fun x => by have := x.2.2; omega)]
        · rw [if_neg (fun x => c ⟨x.1, x.2.1⟩)]
    exact key 5 (Nat.le_refl _)
  have hoff2 : offsetOf (d2.mem k).log 4 1 = (n0 : Int) := by rw [hlog2, offGo_last 4 1 200 _ hno, hln]
  refine ⟨b1, ?_, ?_⟩
  · unfold rProduce
    rw [if_neg (by rw [href d2 b2]; decide), if_neg (by decide), show ((k : Int)).toNat = k from rfl, if_neg (by rw [b3]; decide)]
    unfold rProduceAt
    rw [hoff2, if_neg (by omega)]
    unfold rProduceOld
    rw [hdn, prodTo_none2 d2 k _ _ _ _ (by omega) (by omega)]
    have : decide ((n0 : Int) < ((n0 + 1 : Nat) : Int)) = true := decide_eq_true (by omega)
    rw [this]
  · unfold rFetch
    rw [if_neg (by rw [href d2 b2]; decide), show ((k : Int)).toNat = k from rfl, if_neg (by rw [b3]; decide), if_neg (by omega), if_neg (by rw [hdn]; omega)]
    simp only [Int.toNat_natCast]
    rw [hlog2, ← hln]
    simp
end Go.Proofs.Ythpjcmilfipbaaa

namespace Go.Proofs.Ythpjcmilfipbaaa
set_option linter.unusedVariables false
set_option linter.unusedSimpArgs false
theorem dlv_empty {d : Wd} (h : d.way = []) : dlv d = d := by
  unfold dlv rDeliver rUnder
  rw [if_neg (by rw [h]; simp)]
theorem dlvN_empty {d : Wd} (h : d.way = []) : ∀ n, dlvN n d = d
  | 0 => rfl
  | n + 1 => by show dlvN n (dlv d) = d; rw [dlv_empty h]; exact dlvN_empty h n
/-- The first time that nothing is under way. -/
theorem settle_first : ∀ (n : Nat) (d : Wd), (dlvN n d).way = [] → ∃ m, m ≤ n ∧ (dlvN m d).way = [] ∧ (∀ i, i < m → (dlvN i d).way ≠ []) ∧ dlvN m d = dlvN n d
  | 0, d, h => ⟨0, Nat.le_refl _, h, fun i hi => by omega, rfl⟩
  | n + 1, d, h => by
    by_cases c : d.way = []
    · exact ⟨0, Nat.zero_le _, c, fun i hi => by omega, (dlvN_empty c (n + 1)).symm⟩
    · obtain ⟨m, m1, m2, m3, m4⟩ := settle_first n (dlv d) h
      refine ⟨m + 1, by omega, m2, fun i hi => ?_, m4⟩
      match i with
      | 0 => exact c
      | i + 1 => exact m3 i (by omega)
theorem dlv_ok {d : Wd} (hw : d.way ≠ []) : (rDeliver d 0).2 = 0 := by
  unfold rDeliver rUnder
  have : 0 < d.way.length := List.length_pos_iff.2 hw
  rw [if_pos (by simp; omega)]
/-- All nodes come up. -/
def upN : Nat → Wd → Wd
  | 0, d => d
  | n + 1, d => (rRestart (upN n d) n).1
theorem restart_ans (d : Wd) (n : Nat) (hn : n < 5) : (rRestart d n).2 = 0 ∨ (rRestart d n).2 = 4 := by
  unfold rRestart rRef nodeB
  have hb : (decide (0 ≤ (n : Int)) && decide ((n : Int) < 5)) = true := by simp; omega
  rw [if_pos hb]
  simp only [Bool.false_and, Bool.false_eq_true, if_false, ne_eq, not_true_eq_false]
  split
  · exact Or.inr rfl
  · exact Or.inl rfl
theorem restart_up (d : Wd) (n : Nat) (hn : n < 5) : ((rRestart d n).1.mem n).up = true ∧ (∀ i, i ≠ n → (rRestart d n).1.mem i = d.mem i) ∧ (rRestart d n).1.way = d.way ∧ (rRestart d n).1.eras = d.eras := by
  unfold rRestart rRef nodeB
  have hb : (decide (0 ≤ (n : Int)) && decide ((n : Int) < 5)) = true := by simp; omega
  rw [if_pos hb]
  simp only [Bool.false_and, Bool.false_eq_true, if_false, ne_eq, not_true_eq_false, Int.toNat_natCast]
  cases hu : (d.mem n).up
  · simp only [Bool.false_eq_true, if_false]
    exact ⟨by rw [put_at], fun i hi => put_other _ _ _ _ hi, rfl, rfl⟩
  · simp only [if_true]
    exact ⟨hu, fun i hi => trivial, trivial, trivial⟩
theorem upN_up : ∀ (n : Nat) (d : Wd), n ≤ 5 → (∀ i, i < n → ((upN n d).mem i).up = true) ∧ (upN n d).way = d.way ∧ (upN n d).eras = d.eras
  | 0, d, _ => ⟨fun i hi => by omega, rfl, rfl⟩
  | n + 1, d, h5 => by
    obtain ⟨a1, a2, a3⟩ := upN_up n d (by omega)
    obtain ⟨b1, b2, b3, b4⟩ := restart_up (upN n d) n (by omega)
    refine ⟨fun i hi => ?_, by show (rRestart (upN n d) n).1.way = _; rw [b3, a2], by show (rRestart (upN n d) n).1.eras = _; rw [b4, a3]⟩
    show ((rRestart (upN n d) n).1.mem i).up = true
    by_cases x : i = n
    · subst x; exact b1
    · rw [b2 i x]; exact a1 i (by omega)
/-- What is under way is dropped. -/
def dropN : Nat → Wd → Wd
  | 0, d => d
  | n + 1, d => (rDrop (dropN n d) 0).1
theorem drop_way (d : Wd) : (rDrop d 0).1.way = d.way.tail ∧ (rDrop d 0).1.mem = d.mem ∧ (rDrop d 0).1.eras = d.eras ∧ (rDrop d 0).1.active = d.active := by
  unfold rDrop rUnder
  cases hw : d.way with
  | nil => simp [hw]
  | cons m t => simp [rOut, hw]
theorem dropN_way : ∀ (n : Nat) (d : Wd), (dropN n d).way = d.way.drop n ∧ (dropN n d).mem = d.mem ∧ (dropN n d).eras = d.eras
  | 0, d => ⟨by simp [dropN], rfl, rfl⟩
  | n + 1, d => by
    obtain ⟨a1, a2, a3⟩ := dropN_way n d
    obtain ⟨b1, b2, b3, _⟩ := drop_way (dropN n d)
    refine ⟨?_, by show (rDrop (dropN n d) 0).1.mem = _; rw [b2, a2], by show (rDrop (dropN n d) 0).1.eras = _; rw [b3, a3]⟩
    show (rDrop (dropN n d) 0).1.way = _
    rw [b1, a1, List.tail_drop]
theorem dropN_none {d : Wd} (hok : ROk d) : (dropN 50 d).way = [] := by
  rw [(dropN_way 50 d).1]
  exact List.drop_of_length_le hok.way
/-- Calls that are refused change nothing. -/
theorem refused_all {d : Wd} (hok : ROk d) (far : Int) (h0 : 0 ≤ far) :
    rProduce d (5 + far) 1 1 1 = (d, 0, false, 2) ∧ rFetch d (-1 - far) 0 = (⟨0, 0, 0⟩, 2) ∧ rDeliver d (50 + far) = (d, 13) ∧ rDrop d (-1 - far) = (d, 13) ∧ rTwice d (50 + far) = (d, 13) ∧
    (rSeen d (5 + far)).2 = 2 ∧ rCrash d (-1 - far) = (d, 2) ∧ rRestart d (5 + far) = (d, 2) ∧ rReconf d (-far) 0 = (d, 10) ∧ rReconf d (32 + far) 0 = (d, 10) ∧ rReconf d 1 (1 + far) = (d, 10) := by
  have n1 : nodeB (5 + far) = false := by simp [nodeB]; omega
  have n2 : nodeB (-1 - far) = false := by simp [nodeB]; omega
  have r1 : ∀ u, rRef d (5 + far) u = 2 := fun u => by unfold rRef; rw [n1]; rfl
  have r2 : ∀ u, rRef d (-1 - far) u = 2 := fun u => by unfold rRef; rw [n2]; rfl
  have hw := hok.way
  have u1 : rUnder d (50 + far) = false := by unfold rUnder; simp; omega
  have u2 : rUnder d (-1 - far) = false := by unfold rUnder; simp; omega
  refine ⟨?_, ?_, ?_, ?_, ?_, ?_, ?_, ?_, ?_, ?_, ?_⟩
  · unfold rProduce; rw [r1, if_pos (by decide)]
  · unfold rFetch; rw [r2, if_pos (by decide)]
  · unfold rDeliver; rw [u1, if_neg (by decide)]
  · unfold rDrop; rw [u2, if_neg (by decide)]
  · unfold rTwice; rw [u1, if_neg (by decide)]
  · unfold rSeen; rw [n1, if_neg (by decide)]
  · unfold rCrash; rw [r2, if_neg (by decide)]
  · unfold rRestart; rw [r1, if_pos (by decide)]
  · unfold rReconf rBad; rw [if_pos (by simp; omega)]
  · unfold rReconf rBad; rw [if_pos (by simp; omega)]
  · unfold rReconf
    by_cases c : rBad 1 (1 + far) = true
    · rw [if_pos c]
    · rw [if_neg c]
      have h4 : far < 4 := by
        unfold rBad at c
        simp at c
        omega
      have : (1 : Int) / 2 ^ (1 + far).toNat % 2 = 0 := by
        obtain ⟨f, rfl⟩ := Int.eq_ofNat_of_zero_le h0
        match f, h4 with
        | 0, _ => decide
        | 1, _ => decide
        | 2, _ => decide
        | 3, _ => decide
      rw [if_pos this]
end Go.Proofs.Ythpjcmilfipbaaa
