/- My own text: several texts in one. -/
import Derived.Test.YthpjcmilfipbaaaP12
import Derived.Test.YthpjcmilfipbaaaP13
import Derived.Test.YthpjcmilfipbaaaS1
import Derived.Test.YthpjcmilfipbaaaR12
namespace Go.Proofs.Ythpjcmilfipbaaa
set_option linter.unusedVariables false
set_option linter.unusedSimpArgs false
/-- A node of the program's, and of the document's. -/
structure NdR (inn : Nat → Bool) (k : Nat) (n : Nd) (m : Mem) : Prop where
  up : n.up = m.up
  fol : n.follows = m.follows
  giv : n.given = m.given
  rol : n.role = m.role
  log : n.log = m.log
  kno : m.role = 3 → ∀ j, j < 5 → j ≠ k → inn j = true → n.known j = m.knows j
  has2 : m.role = 2 → ∀ j, j < 5 → n.has j = m.has j
  has0 : m.role ≠ 2 → ∀ j, j < 5 → n.has j = false
/-- What is known of an Append and of an Ack that are under way. -/
structure MOk (d : Wd) (m : Msg) : Prop where
  app : m.kind = 8 → (∃ r, m.recs = [r]) ∧ rIn d m.epoch m.to.toNat = true ∧ m.to ≠ m.frm ∧ 0 ≤ m.to
  ack : m.kind = 9 → rIn d m.epoch m.frm.toNat = true ∧ m.frm ≠ m.to
structure Sim (c : Clu) (d : Wd) : Prop where
  nd : ∀ k, k < 5 → NdR (rIn d (d.mem k).follows) k (c.nodes k) (d.mem k)
  eps : c.epochs = d.eras
  act : c.active = d.active
  way : c.ways = d.way
  pl : ∀ m ∈ d.way, MOk d m
section
variable {c : Clu} {d : Wd}
theorem Sim.up (h : Sim c d) (k : Nat) (hk : k < 5) : (c.nodes k).up = (d.mem k).up := (h.nd k hk).up
theorem Sim.fol (h : Sim c d) (k : Nat) (hk : k < 5) : (c.nodes k).follows = (d.mem k).follows := (h.nd k hk).fol
theorem Sim.giv (h : Sim c d) (k : Nat) (hk : k < 5) : (c.nodes k).given = (d.mem k).given := (h.nd k hk).giv
theorem Sim.rol (h : Sim c d) (k : Nat) (hk : k < 5) : (c.nodes k).role = (d.mem k).role := (h.nd k hk).rol
theorem Sim.log (h : Sim c d) (k : Nat) (hk : k < 5) : (c.nodes k).log = (d.mem k).log := (h.nd k hk).log
theorem Sim.okc (h : Sim c d) (hok : ROk d) : Ok c :=
  ⟨fun k hk => by rw [h.log k hk]; exact hok.log k hk, by rw [h.way]; exact hok.way, by rw [h.eps]; exact hok.e40, fun x hx => by
    rw [h.eps] at hx
    obtain ⟨i, hi⟩ := List.getElem?_of_mem hx
    have := hok.era i x hi
    omega⟩
theorem Sim.ref (h : Sim c d) (node : Int) : refNode c node = rRef d node true := by
  unfold refNode rRef
  by_cases hn : nodeB node = true
  · have hk : node.toNat < 5 := by simp [nodeB] at hn; omega
    rw [if_pos hn, if_pos hn, h.up _ hk]
    cases (d.mem node.toNat).up <;> rfl
  · rw [if_neg hn, if_neg hn]
theorem Sim.epo (h : Sim c d) (e : Int) (h1 : 1 ≤ e) (h2 : e ≤ d.eras.length) : epochOf c e = d.era e := by
  unfold epochOf Wd.era
  rw [h.eps, if_neg (by omega)]
theorem amongIn (q : Int) (j : Nat) (hj : j < 5) : amongB q j = decide (q / 2 ^ j % 2 = 1) := by
  have : nodeB (j : Int) = true := by simp [nodeB]; omega
  unfold amongB; rw [this]; simp
theorem Sim.isO (h : Sim c d) (hok : ROk d) {k : Nat} (hk : k < 5) (hr : (d.mem k).role ≠ 0) {j : Nat} (hj : j < 5) : isOther c k j = (decide (j ≠ k) && rIn d (d.mem k).follows j) := by
  have hf := hok.rol k hk hr
  have hl := (hok.fol k hk).2
  unfold isOther rIn
  rw [h.fol k hk, h.epo _ hf hl, amongIn _ _ hj]
  by_cases e : j = k <;> simp [e]
/-- A node turns on both sides. -/
theorem Sim.put (h : Sim c d) {k : Nat} (hk : k < 5) {nd : Nd} {m : Mem} (hr : NdR (rIn d m.follows) k nd m) : Sim { c with nodes := upd c.nodes k nd } (d.put k m) :=
  { nd := fun i hi => by
      show NdR (rIn (d.put k m) (upd d.mem k m i).follows) i (upd c.nodes k nd i) (upd d.mem k m i)
      by_cases e : i = k
      · subst e; rw [upd_same, upd_same]; exact hr
      · rw [upd_other _ _ _ _ e, upd_other _ _ _ _ e]; exact h.nd i hi
    eps := h.eps, act := h.act, way := h.way, pl := fun x hx => ⟨(h.pl x hx).app, (h.pl x hx).ack⟩ }
theorem MOk.same {d d' : Wd} {m : Msg} (h : MOk d m) (he : d'.eras = d.eras) : MOk d' m := by
  have : ∀ e j, rIn d' e j = rIn d e j := fun e j => by unfold rIn Wd.era; rw [he]
  exact ⟨fun x => by rw [this]; exact h.app x, fun x => by rw [this]; exact h.ack x⟩
theorem mok_plain (d : Wd) (m : Msg) (h8 : m.kind ≠ 8) (h9 : m.kind ≠ 9) : MOk d m := ⟨fun x => absurd x h8, fun x => absurd x h9⟩
end
end Go.Proofs.Ythpjcmilfipbaaa

namespace Go.Proofs.Ythpjcmilfipbaaa
set_option linter.unusedVariables false
set_option linter.unusedSimpArgs false
section
variable {c : Clu} {d : Wd}
theorem Sim.send (h : Sim c d) {m : Msg} (hm : MOk d m) : Sim (send c m) (rSends d m) := by
  have hw := h.way
  unfold Go.Proofs.Ythpjcmilfipbaaa.send rSends
  by_cases q : d.way.length < 50
  · rw [if_neg (by rw [hw]; omega), if_pos q]
    exact { nd := h.nd, eps := h.eps, act := h.act, way := by show c.ways ++ [m] = d.way ++ [m]; rw [hw]
            pl := fun x hx => by
              rcases List.mem_append.1 hx with hx | hx
              · exact ⟨(h.pl x hx).app, (h.pl x hx).ack⟩
              · simp at hx; subst hx; exact ⟨hm.app, hm.ack⟩ }
  · rw [if_pos (by rw [hw]; omega), if_neg q]; exact h
theorem Sim.append (h : Sim c d) {k j : Nat} (hk : k < 5) (hj : j < 5) (n : Int) (h0 : 0 ≤ n) (hn : n < (d.mem k).log.length) (hjk : j ≠ k) (hin : rIn d (d.mem k).follows j = true) : Sim (sendAppend c k j n) (rAppends d k j n) := by
  unfold sendAppend rAppends
  rw [if_neg (by rw [h.log k hk]; omega), h.log k hk, h.fol k hk]
  refine h.send ⟨fun _ => ⟨?_, hin, by show (j : Int) ≠ (k : Int); omega, by show (0 : Int) ≤ (j : Int); omega⟩, fun x => absurd x (by show (8 : Int) ≠ 9; decide)⟩
  have hl : n.toNat < (d.mem k).log.length := by omega
  refine ⟨(d.mem k).log[n.toNat], ?_⟩
  show ((d.mem k).log.drop n.toNat).take 1 = _
  rw [List.drop_eq_getElem_cons hl]; rfl
theorem doneTo_same (h : Sim c d) (hok : ROk d) {k : Nat} (hk : k < 5) (hr : (d.mem k).role = 3) : ∀ n, n ≤ 5 → doneTo c k n = rDoneTo d k n
  | 0, _ => by simp only [doneTo, rDoneTo, h.log k hk]
  | n + 1, h5 => by
    have ih := doneTo_same h hok hk hr n (by omega)
    have hk2 := (h.nd k hk).kno hr n (by omega)
    have ho := h.isO hok hk (by omega) (show n < 5 by omega)
    simp only [doneTo, rDoneTo, ih, ho]
    by_cases e1 : n = k
    · simp [e1]
    · cases e2 : rIn d (d.mem k).follows n
      · simp [e1]
      · rw [hk2 e1 e2]; simp [e1]
theorem Sim.done (h : Sim c d) (hok : ROk d) {k : Nat} (hk : k < 5) (hr : (d.mem k).role = 3) : done c k = rDone d k := by
  unfold Go.Proofs.Ythpjcmilfipbaaa.done rDone
  rw [if_pos hr]; exact doneTo_same h hok hk hr 5 (by omega)
theorem Sim.fetch (h : Sim c d) (hok : ROk d) (node off : Int) : fetch c node off = rFetch d node off := by
  unfold Go.Proofs.Ythpjcmilfipbaaa.fetch rFetch
  rw [h.ref]
  by_cases q : rRef d node true = 0
  · have hk : node.toNat < 5 := by
      unfold rRef nodeB at q
      by_cases x : (decide (0 ≤ node) && decide (node < 5)) = true
      · simp at x; omega
      · rw [if_neg x] at q; omega
    simp only [q, ne_eq, not_true_eq_false, if_false, h.rol _ hk]
    by_cases hr : (d.mem node.toNat).role = 3
    · simp only [hr, not_true_eq_false, if_false, h.done hok hk hr, h.log _ hk]
    · simp only [hr, not_false_eq_true, if_true]
  · simp only [q, ne_eq, not_false_eq_true, if_true]
theorem nodeB_lt {node : Int} (h : nodeB node = true) : node.toNat < 5 := by simp [nodeB] at h; omega
theorem Sim.seen (h : Sim c d) (hok : ROk d) (node : Int) : (seen c node).1.val = (rSeen d node).1.val ∧ (seen c node).2 = (rSeen d node).2 := by
  unfold Go.Proofs.Ythpjcmilfipbaaa.seen rSeen
  by_cases hn : nodeB node = true
  · have hk := nodeB_lt hn
    rw [if_pos hn, if_pos hn, h.up _ hk, h.fol _ hk, h.giv _ hk, h.rol _ hk, h.log _ hk]
    refine ⟨?_, rfl⟩
    by_cases hr : (d.mem node.toNat).role = 3
    · rw [if_pos hr, h.done hok hk hr]; rfl
    · rw [if_neg hr]
      unfold Show.val ShowR.val rDone
      rw [if_neg hr]
  · rw [if_neg hn, if_neg hn]; exact ⟨rfl, rfl⟩
theorem Sim.under (h : Sim c d) (i : Int) : underB c i = rUnder d i := by unfold underB rUnder; rw [h.way]
theorem Sim.out (h : Sim c d) (i : Nat) : Sim (takeOut c i) (rOut d i) :=
  { nd := h.nd, eps := h.eps, act := h.act, way := by show c.ways.eraseIdx i = d.way.eraseIdx i; rw [h.way], pl := fun m hm => ⟨(h.pl m (List.mem_of_mem_eraseIdx hm)).app, (h.pl m (List.mem_of_mem_eraseIdx hm)).ack⟩ }
theorem Sim.drop (h : Sim c d) (i : Int) : Sim (drop c i).1 (rDrop d i).1 ∧ (drop c i).2 = (rDrop d i).2 := by
  unfold Go.Proofs.Ythpjcmilfipbaaa.drop rDrop
  rw [h.under]
  split
  · exact ⟨h.out _, rfl⟩
  · exact ⟨h, rfl⟩
theorem Sim.twice (h : Sim c d) (i : Int) : Sim (twice c i).1 (rTwice d i).1 ∧ (twice c i).2 = (rTwice d i).2 := by
  unfold Go.Proofs.Ythpjcmilfipbaaa.twice rTwice
  rw [h.under]
  split
  · refine ⟨?_, rfl⟩
    show Sim (match c.ways[i.toNat]? with | some m => Go.Proofs.Ythpjcmilfipbaaa.send c m | none => c) (match d.way[i.toNat]? with | some m => rSends d m | none => d)
    rw [h.way]
    cases hm : d.way[i.toNat]? with
    | none => exact h
    | some m => exact h.send (h.pl m (List.mem_of_getElem? hm))
  · exact ⟨h, rfl⟩
theorem Sim.prodNew (h : Sim c d) (hok : ROk d) {k : Nat} (hk : k < 5) (hr : (d.mem k).role = 3) (m : Mem) (hm : m.follows = (d.mem k).follows) (kk n dn : Int) (hkk : kk < 0) (h0 : 0 ≤ n) (hn : n < (d.mem k).log.length) :
    ∀ j, j ≤ 5 → Sim (writeTo c k n j) (rProdTo d k m kk n dn j)
  | 0, _ => h
  | j + 1, h5 => by
    have ih := Sim.prodNew h hok hk hr m hm kk n dn hkk h0 hn j (by omega)
    have hs := rProdTo_same d k m kk n dn j
    have hw := writeTo_nodes c k n j
    have ho := h.isO hok hk (by omega) (show j < 5 by omega)
    have hi : isOther (writeTo c k n j) k j = isOther c k j := by unfold isOther epochOf; rw [hw.1, hw.2]
    have hin : rIn (rProdTo d k m kk n dn j) m.follows j = rIn d (d.mem k).follows j := by unfold rIn Wd.era; rw [hs.2.1, hm]
    unfold writeTo rProdTo
    rw [hi, ho, hin]
    by_cases e1 : j = k
    · have b1 : ¬ (decide (j ≠ k) && rIn d (d.mem k).follows j) = true := by simp [e1]
      rw [if_neg b1, if_pos (Or.inl e1)]; exact ih
    · cases e2 : rIn d (d.mem k).follows j
      · have b1 : ¬ (decide (j ≠ k) && false) = true := by simp
        have b2 : j = k ∨ false = false := Or.inr rfl
        rw [if_neg b1, if_pos b2]; exact ih
      · have b1 : (decide (j ≠ k) && true) = true := by simp [e1]
        have b2 : ¬ (j = k ∨ true = false) := by simp [e1]
        rw [if_pos b1, if_neg b2, if_pos hkk]
        exact ih.append hk (by omega) n h0 (by rw [hs.1]; exact hn) e1 (by rw [hs.1]; exact (show rIn (rProdTo d k m kk n dn j) (d.mem k).follows j = rIn d (d.mem k).follows j by unfold rIn Wd.era; rw [hs.2.1]).trans e2)
theorem Sim.prodOld (h : Sim c d) (hok : ROk d) {k : Nat} (hk : k < 5) (hr : (d.mem k).role = 3) (kk dn : Int) (hkk : ¬ kk < 0) (hdn : dn ≤ kk) :
    ∀ j, j ≤ 5 → Sim (lackTo c k j) (rProdTo d k (d.mem k) kk (d.mem k).log.length dn j)
  | 0, _ => h
  | j + 1, h5 => by
    have ih := Sim.prodOld h hok hk hr kk dn hkk hdn j (by omega)
    have hs := rProdTo_same d k (d.mem k) kk (d.mem k).log.length dn j
    have hw := lackTo_nodes c k j
    have ho := h.isO hok hk (by omega) (show j < 5 by omega)
    have hi : isOther (lackTo c k j) k j = isOther c k j := by unfold isOther epochOf; rw [hw.1, hw.2]
    have hin : rIn (rProdTo d k (d.mem k) kk (d.mem k).log.length dn j) (d.mem k).follows j = rIn d (d.mem k).follows j := by unfold rIn Wd.era; rw [hs.2.1]
    have hkn0 := (h.nd k hk).kno hr j (by omega)
    have h0 := (hok.kno k j hk (by omega)).1
    unfold lackTo rProdTo
    rw [hi, ho, hin]
    by_cases e1 : j = k
    · have b1 : ¬ (decide (j ≠ k) && rIn d (d.mem k).follows j) = true := by simp [e1]
      rw [if_neg b1, if_pos (Or.inl e1)]; exact ih
    · cases e2 : rIn d (d.mem k).follows j
      · have b1 : ¬ (decide (j ≠ k) && false) = true := by simp
        have b2 : j = k ∨ false = false := Or.inr rfl
        rw [if_neg b1, if_pos b2]; exact ih
      · have b1 : (decide (j ≠ k) && true) = true := by simp [e1]
        have b2 : ¬ (j = k ∨ true = false) := by simp [e1]
        rw [if_pos b1, if_neg b2, if_neg hkk]
        have hkn := hkn0 e1 e2
        unfold sendFirst
        rw [hw.1, hkn]
        by_cases e3 : (d.mem k).knows j < (d.mem k).log.length
        · rw [if_pos ⟨hdn, e3⟩]
          exact ih.append hk (by omega) _ h0 (by rw [hs.1]; exact e3) e1 (by rw [hs.1]; exact (show rIn (rProdTo d k (d.mem k) kk (d.mem k).log.length dn j) (d.mem k).follows j = rIn d (d.mem k).follows j by unfold rIn Wd.era; rw [hs.2.1]).trans e2)
        · rw [if_neg (fun x => e3 x.2)]
          unfold sendAppend
          rw [if_pos (by rw [hw.1, h.log k hk]; omega)]
          exact ih
theorem prodTo_none (d : Wd) (k : Nat) (m : Mem) (kk n dn : Int) (h1 : ¬ kk < 0) (h2 : ¬ dn ≤ kk) : ∀ j, rProdTo d k m kk n dn j = d
  | 0 => rfl
  | j + 1 => by
    have ih := prodTo_none d k m kk n dn h1 h2 j
    unfold rProdTo
    simp only [ih]
    split
    · rfl
    split
    · rename_i x; exact absurd x.1 h2
    · rfl
theorem Sim.putLog (h : Sim c d) {k : Nat} (hk : k < 5) (l : List Rec) : Sim (putLog c k l) (rPutLog d k l) :=
  have q := h.nd k hk
  h.put hk ⟨q.up, q.fol, q.giv, q.rol, rfl, q.kno, q.has2, q.has0⟩
theorem done_same {c c' : Clu} (h1 : c'.nodes = c.nodes) (h2 : c'.epochs = c.epochs) (k : Nat) : done c' k = done c k := by
  have : ∀ n, doneTo c' k n = doneTo c k n := by
    intro n
    induction n with
    | zero => simp only [doneTo, h1]
    | succ n ih =>
      have hi : isOther c' k n = isOther c k n := by unfold isOther epochOf; rw [h1, h2]
      simp only [doneTo, ih, h1, hi]
  unfold done; exact this 5
theorem Sim.produce (h : Sim c d) (hok : ROk d) (node p s v : Int) : Sim (produce c node p s v).1 (rProduce d node p s v).1 ∧ (produce c node p s v).2 = (rProduce d node p s v).2 := by
  have hok' := hok.produce node p s v
  unfold Go.Proofs.Ythpjcmilfipbaaa.produce rProduce refWrite
  unfold rProduce at hok'
  rw [h.ref]
  by_cases q : rRef d node true = 0
  · have hk : node.toNat < 5 := by
      unfold rRef nodeB at q
      by_cases x : (decide (0 ≤ node) && decide (node < 5)) = true
      · simp at x; omega
      · rw [if_neg x] at q; omega
    rw [if_neg (show ¬ rRef d node true ≠ 0 by omega)] at hok' ⊢
    rw [if_neg (show ¬ rRef d node true ≠ 0 by omega)]
    cases hrb : recB p s v
    · simp; exact h
    · simp only [hrb, if_true, h.rol _ hk, Bool.true_eq_false, if_false] at hok' ⊢
      by_cases hr : (d.mem node.toNat).role = 3
      · have hrs := h.prodOld hok hk hr
        simp only [hr, if_true, ne_eq, not_true_eq_false, if_false, h.log _ hk, h.done hok hk hr] at hok' ⊢
        unfold rProduceAt at hok' ⊢
        by_cases o1 : offsetOf (d.mem node.toNat).log p s < 0
        · rw [if_neg (by omega), if_pos o1]
          rw [if_pos o1] at hok'
          by_cases o2 : 1 < s ∧ offsetOf (d.mem node.toNat).log p (s - 1) < 0
          · rw [if_pos o2, if_pos o2]; exact ⟨h, rfl⟩
          · rw [if_neg o2, if_neg o2]
            rw [if_neg o2] at hok'
            by_cases o3 : 60 ≤ (d.mem node.toNat).log.length
            · rw [if_pos o3, if_pos o3]; exact ⟨h, rfl⟩
            · rw [if_neg o3, if_neg o3]
              rw [if_neg o3] at hok'
              unfold rProduceNew at hok' ⊢
              simp only at hok' ⊢
              have h1 := h.putLog hk ((d.mem node.toNat).log ++ [⟨p, s, v⟩])
              have hr1 : ((rPutLog d node.toNat ((d.mem node.toNat).log ++ [⟨p, s, v⟩])).mem node.toNat).role = 3 := by unfold rPutLog; rw [put_at]; exact hr
              have hl1 : ((rPutLog d node.toNat ((d.mem node.toNat).log ++ [⟨p, s, v⟩])).mem node.toNat).log = (d.mem node.toNat).log ++ [⟨p, s, v⟩] := by unfold rPutLog; rw [put_at]
              have hf1 : ((rPutLog d node.toNat ((d.mem node.toNat).log ++ [⟨p, s, v⟩])).mem node.toNat).follows = (d.mem node.toNat).follows := by unfold rPutLog; rw [put_at]
              have hok1 : ROk (rPutLog d node.toNat ((d.mem node.toNat).log ++ [⟨p, s, v⟩])) := hok.putLog _ hk _ (by simp; omega) fun r hr2 => by
                rcases List.mem_append.1 hr2 with x | x
                · exact hok.byt _ hk r x
                · simp at x; subst x
                  simp [recB] at hrb
                  show 0 ≤ p ∧ p ≤ 255 ∧ 0 ≤ s ∧ s ≤ 255 ∧ 0 ≤ v ∧ v ≤ 255
                  omega
              have hS := fun dn => h1.prodNew hok1 hk hr1 (d.mem node.toNat) hf1.symm (offsetOf (d.mem node.toNat).log p s) (d.mem node.toNat).log.length dn o1 (by omega) (by rw [hl1]; simp; omega) 5 (Nat.le_refl _)
              have hw : write c node.toNat ⟨p, s, v⟩ = writeTo (Go.Proofs.Ythpjcmilfipbaaa.putLog c node.toNat ((d.mem node.toNat).log ++ [⟨p, s, v⟩])) node.toNat (d.mem node.toNat).log.length 5 := by unfold write; rw [h.log _ hk]
              rw [hw]
              refine ⟨hS _, ?_⟩
              have hdn : Go.Proofs.Ythpjcmilfipbaaa.done (writeTo (Go.Proofs.Ythpjcmilfipbaaa.putLog c node.toNat ((d.mem node.toNat).log ++ [⟨p, s, v⟩])) node.toNat (d.mem node.toNat).log.length 5) node.toNat = rDone (rPutLog d node.toNat ((d.mem node.toNat).log ++ [⟨p, s, v⟩])) node.toNat := by
                rw [done_same (writeTo_nodes _ _ _ 5).1 (writeTo_nodes _ _ _ 5).2]
                exact h1.done hok1 hk hr1
              rw [hdn]
        · rw [if_pos (show 0 ≤ offsetOf (d.mem node.toNat).log p s by omega), if_neg o1]
          unfold rProduceOld
          by_cases o4 : offsetOf (d.mem node.toNat).log p s < rDone d node.toNat
          · rw [if_pos o4, prodTo_none d _ _ _ _ _ o1 (by omega)]
            exact ⟨h, rfl⟩
          · rw [if_neg o4]
            exact ⟨h.prodOld hok hk hr _ _ o1 (by omega) 5 (Nat.le_refl _), rfl⟩
      · simp [hr]; exact h
  · simp only [q, ne_eq, not_false_eq_true, if_true]
    exact ⟨h, trivial⟩
end
end Go.Proofs.Ythpjcmilfipbaaa

namespace Go.Proofs.Ythpjcmilfipbaaa
set_option linter.unusedVariables false
set_option linter.unusedSimpArgs false
theorem upd_upd {α : Type} (f : Nat → α) (k : Nat) (a b : α) : upd (upd f k a) k b = upd f k b := by
  funext i; unfold upd; split <;> rfl
section
variable {c : Clu} {d : Wd}
theorem Sim.follow (h : Sim c d) {k : Nat} (hk : k < 5) (e r : Int) (h2 : r ≠ 2) (h3 : r ≠ 3) : Sim (follow c k e r) (d.put k { d.mem k with follows := e, role := r }) :=
  have q := h.nd k hk
  h.put hk ⟨q.up, rfl, q.giv, rfl, q.log, fun x => absurd x h3, fun x => absurd x h2, fun _ j hj => rfl⟩
theorem Sim.follow0 (h : Sim c d) {k : Nat} (hk : k < 5) (e : Int) : Sim (follow0 c k e) (rFollows d k e 0) := by
  unfold Go.Proofs.Ythpjcmilfipbaaa.follow0 rFollows
  rw [h.fol k hk]
  split
  · exact h.follow hk e 0 (by decide) (by decide)
  · exact h
theorem Sim.give (h : Sim c d) {k : Nat} (hk : k < 5) (l : List Rec) (e : Int) : Sim (giveLog c k l e) (rGiven d k e l) :=
  have q := h.nd k hk
  h.put hk ⟨q.up, q.fol, rfl, q.rol, rfl, q.kno, q.has2, q.has0⟩
theorem Sim.tell (h : Sim c d) {k : Nat} (hk : k < 5) (m : Msg) (hr : (d.mem k).role = 1) : Sim (putRole (giveLog c k m.recs m.epoch) k 2) (rTell d k m) := by
  have e : putRole (giveLog c k m.recs m.epoch) k 2 = { c with nodes := upd c.nodes k { c.nodes k with log := m.recs, given := m.epoch, role := 2 } } := by
    show Clu.mk (upd (upd c.nodes k _) k _) c.epochs c.active c.ways = Clu.mk (upd c.nodes k _) c.epochs c.active c.ways
    rw [upd_upd]
    congr 2
    show ({ (upd c.nodes k { c.nodes k with log := m.recs, given := m.epoch } k) with role := 2 } : Nd) = _
    rw [upd_same]
  rw [e]
  have q := h.nd k hk
  exact h.put hk ⟨q.up, q.fol, rfl, rfl, rfl, fun x => absurd x (by show (2 : Int) ≠ 3; decide), fun _ j hj => q.has0 (by omega) j hj, fun x => absurd rfl x⟩
theorem allTo_same (h : Sim c d) (hok : ROk d) {k : Nat} (hk : k < 5) (hr : (d.mem k).role = 2) : ∀ n, n ≤ 5 → allTo c k n = rOthersTo d k n
  | 0, _ => rfl
  | n + 1, h5 => by
    have ih := allTo_same h hok hk hr n (by omega)
    have ho := h.isO hok hk (by omega) (show n < 5 by omega)
    have hh := (h.nd k hk).has2 hr n (by omega)
    unfold allTo rOthersTo lacks
    rw [ih, ho, hh]
    cases rOthersTo d k n <;> cases (d.mem k).has n <;> cases rIn d (d.mem k).follows n <;> cases decide (n ≠ k) <;> rfl
theorem Sim.all (h : Sim c d) (hok : ROk d) {k : Nat} (hk : k < 5) (hr : (d.mem k).role = 2) : allHave c k = rOthers d k := allTo_same h hok hk hr 5 (Nat.le_refl _)
theorem Sim.ready (h : Sim c d) {k : Nat} (hk : k < 5) : Sim (sendReady c k) (rReady d k (d.mem k).follows) := by
  unfold sendReady rReady
  have e : readyMsg c k = { kind := 6, frm := k, to := -1, epoch := (d.mem k).follows, n := 0, recs := [] } := by unfold readyMsg; rw [h.fol k hk]
  rw [e]
  exact h.send (mok_plain _ _ (by show (6 : Int) ≠ 8; decide) (by show (6 : Int) ≠ 9; decide))
theorem handTo_nodes (c : Clu) (k : Nat) : ∀ j, (handTo c k j).nodes = c.nodes ∧ (handTo c k j).epochs = c.epochs
  | 0 => ⟨rfl, rfl⟩
  | j + 1 => by
    have ih := handTo_nodes c k j
    unfold handTo
    split
    · unfold sendLog; rw [(send_nodes _ _).1, (send_nodes _ _).2]; exact ih
    · exact ih
theorem Sim.handTo (h : Sim c d) (hok : ROk d) {k : Nat} (hk : k < 5) (hr : (d.mem k).role = 2) : ∀ n, n ≤ 5 → Sim (handTo c k n) (rHandsTo d k (d.mem k) n)
  | 0, _ => h
  | j + 1, h5 => by
    have ih := Sim.handTo h hok hk hr j (by omega)
    have hs := rHandsTo_same d k (d.mem k) j
    have hw := handTo_nodes c k j
    have ho := h.isO hok hk (by omega) (show j < 5 by omega)
    have hh := (h.nd k hk).has2 hr j (by omega)
    have hl : lacks (Go.Proofs.Ythpjcmilfipbaaa.handTo c k j) k j = (!(d.mem k).has j && (decide (j ≠ k) && rIn d (d.mem k).follows j)) := by
      unfold lacks
      rw [hw.1, hh, ← ho]
      congr 1
      unfold isOther epochOf; rw [hw.1, hw.2]
    have hin : rIn (rHandsTo d k (d.mem k) j) (d.mem k).follows j = rIn d (d.mem k).follows j := by unfold rIn Wd.era; rw [hs.2.1]
    unfold Go.Proofs.Ythpjcmilfipbaaa.handTo rHandsTo
    rw [hl, hin]
    by_cases e : j ≠ k ∧ rIn d (d.mem k).follows j = true ∧ (d.mem k).has j = false
    · rw [if_pos e, if_pos (by simp [e.1, e.2.1, e.2.2])]
      unfold sendLog
      have em : logMsg (Go.Proofs.Ythpjcmilfipbaaa.handTo c k j) 4 k j = { kind := 4, frm := k, to := j, epoch := (d.mem k).follows, n := (d.mem k).log.length, recs := (d.mem k).log } := by
        unfold logMsg; rw [hw.1, h.fol k hk, h.log k hk]
      rw [em]
      exact ih.send (mok_plain _ _ (by show (4 : Int) ≠ 8; decide) (by show (4 : Int) ≠ 9; decide))
    · rw [if_neg e, if_neg (fun x => e (by simp at x; exact ⟨x.2.1, x.2.2, x.1⟩))]
      exact ih
theorem Sim.hands (h : Sim c d) (hok : ROk d) {k : Nat} (hk : k < 5) (hr : (d.mem k).role = 2) : Sim (handOn c k) (rHands d k) := by
  unfold handOn rHands
  rw [h.all hok hk hr]
  split
  · exact h.ready hk
  · exact h.handTo hok hk hr 5 (Nat.le_refl _)
theorem readsTo_nodes (c : Clu) (k : Nat) (e q : Int) : ∀ j, (readsTo c k e q j).nodes = c.nodes ∧ (readsTo c k e q j).epochs = c.epochs
  | 0 => ⟨rfl, rfl⟩
  | j + 1 => by
    have ih := readsTo_nodes c k e q j
    unfold readsTo
    split
    · rw [(send_nodes _ _).1, (send_nodes _ _).2]; exact ih
    · exact ih
theorem Sim.readsTo (h : Sim c d) {k : Nat} (hk : k < 5) (e bf : Int) : ∀ n, n ≤ 5 → Sim (readsTo c k e (d.era bf).members n) (rReadsTo d k e bf n)
  | 0, _ => h
  | j + 1, h5 => by
    have ih := Sim.readsTo h hk e bf j (by omega)
    have hs := rReadsTo_same d k e bf j
    have hin : rIn (rReadsTo d k e bf j) bf j = decide ((d.era bf).members / 2 ^ j % 2 = 1) := by unfold rIn Wd.era; rw [hs.2.1]
    unfold Go.Proofs.Ythpjcmilfipbaaa.readsTo rReadsTo
    rw [amongIn _ _ (by omega), hin]
    split
    · exact ih.send (mok_plain _ _ (by show (2 : Int) ≠ 8; decide) (by show (2 : Int) ≠ 9; decide))
    · exact ih
theorem era_mem {d : Wd} (hok : ROk d) (e : Int) (h2 : 2 ≤ e) (hl : e ≤ d.eras.length) : 1 ≤ (d.era e).before ∧ (d.era e).before ≤ d.eras.length := by
  have hm : (e - 1).toNat < d.eras.length := by omega
  have hg : d.eras[(e - 1).toNat]? = some (d.era e) := by unfold Wd.era; rw [List.getD_eq_getElem?_getD, List.getElem?_eq_getElem hm]; rfl
  have := hok.era (e - 1).toNat (d.era e) hg
  omega
theorem Sim.reads (h : Sim c d) (hok : ROk d) {k : Nat} (hk : k < 5) (e : Int) (he : (d.mem k).follows = e) (h2 : 2 ≤ e) : Sim (sendReads c k) (rReadsTo d k e (d.era e).before 5) := by
  have hl := (hok.fol k hk).2
  have hb := era_mem hok e h2 (by omega)
  unfold sendReads
  rw [h.fol k hk, he, h.epo e (by omega) (by omega), h.epo _ hb.1 hb.2]
  exact h.readsTo hk e _ 5 (Nat.le_refl _)
theorem Sim.startOn (h : Sim c d) (hok : ROk d) {k : Nat} (hk : k < 5) (e : Int) (he : (d.mem k).follows = e) (h2 : 2 ≤ e) : Sim (startOn c k) (rStart2 d k e) := by
  unfold Go.Proofs.Ythpjcmilfipbaaa.startOn rStart2
  rw [h.rol k hk]
  split
  · exact h.reads hok hk e he h2
  · split
    · rename_i hr; exact h.hands hok hk hr
    · exact h
theorem Sim.wake (h : Sim c d) {k : Nat} (hk : k < 5) (e : Int) (he : (d.mem k).follows ≤ e) : Sim (wakeTo c k e) (rWake (rFollows d k e 1) k e) ∧ ((rWake (rFollows d k e 1) k e).mem k).follows = e := by
  unfold wakeTo rWake rFollows
  rw [h.fol k hk, h.giv k hk, h.rol k hk]
  by_cases q : (d.mem k).follows < e
  · rw [if_pos (Or.inl q), if_pos q, put_at]
    rw [if_neg (fun x => absurd x.1 (by show (1 : Int) ≠ 0; decide))]
    exact ⟨h.follow hk e 1 (by decide) (by decide), by rw [put_at]⟩
  · rw [if_neg q]
    have hf : (d.mem k).follows = e := by omega
    by_cases q2 : (d.mem k).role = 0 ∧ (d.mem k).given < e
    · rw [if_pos (Or.inr q2), if_pos q2]
      have := h.follow hk e 1 (by decide) (by decide)
      unfold rRole
      have e2 : ({ d.mem k with follows := e, role := 1 } : Mem) = { d.mem k with role := 1 } := by rw [← hf]
      rw [e2] at this
      exact ⟨this, by rw [put_at]; exact hf⟩
    · rw [if_neg (fun x => x.elim q q2), if_neg q2]
      exact ⟨h, hf⟩
theorem isOther_known (c : Clu) (k j f : Nat) (n : Int) : isOther (putKnown c k f n) k j = isOther c k j := by
  unfold isOther epochOf putKnown
  simp only [upd_same]
theorem servTo_eq (c : Clu) (k : Nat) (n : Int) : ∀ j, servTo c k n j = { c with nodes := upd c.nodes k { c.nodes k with known := fun i => if i < j ∧ isOther c k i = true then n else (c.nodes k).known i } }
  | 0 => by
    show c = Clu.mk (upd c.nodes k _) _ _ _
    have : upd c.nodes k { c.nodes k with known := fun i => if i < 0 ∧ isOther c k i = true then n else (c.nodes k).known i } = c.nodes := by
      have e : ({ c.nodes k with known := fun i => if i < 0 ∧ isOther c k i = true then n else (c.nodes k).known i } : Nd) = c.nodes k := by simp
      rw [e, upd_self]
    rw [this]
  | j + 1 => by
    have ih := servTo_eq c k n j
    have hi : isOther (servTo c k n j) k j = isOther c k j := by
      rw [ih]; unfold isOther epochOf; simp only [upd_same]
    unfold servTo
    rw [hi]
    cases ho : isOther c k j
    · have hk : (fun i => if i < j ∧ isOther c k i = true then n else (c.nodes k).known i) = (fun i => if i < j + 1 ∧ isOther c k i = true then n else (c.nodes k).known i) := by
        funext i
        by_cases e : i = j
        · subst e; simp [ho]
        · have : (i < j + 1) ↔ (i < j) := by omega
          simp [this]
      rw [if_neg (by decide), ih, hk]
    · rw [if_pos rfl, ih]
      unfold putKnown
      show Clu.mk (upd (upd c.nodes k _) k _) c.epochs c.active c.ways = Clu.mk (upd c.nodes k _) c.epochs c.active c.ways
      rw [upd_upd]
      congr 2
      simp only [upd_same]
      congr 1
      funext i
      by_cases e : i = j
      · subst e; simp [upd, ho]
      · have : (i < j + 1) ↔ (i < j) := by omega
        simp [upd, e, this]
theorem Sim.serve (h : Sim c d) (hok : ROk d) {k : Nat} (hk : k < 5) (hr : (d.mem k).role = 2) : Sim (servTo (Go.Proofs.Ythpjcmilfipbaaa.follow c k (d.mem k).follows 3) k (c.nodes k).log.length 5) (rServe d k) := by
  have q := h.nd k hk
  have hf := hok.rol k hk (by omega)
  have hl := (hok.fol k hk).2
  rw [servTo_eq]
  have e : ({ Go.Proofs.Ythpjcmilfipbaaa.follow c k (d.mem k).follows 3 with nodes := upd (Go.Proofs.Ythpjcmilfipbaaa.follow c k (d.mem k).follows 3).nodes k { (Go.Proofs.Ythpjcmilfipbaaa.follow c k (d.mem k).follows 3).nodes k with known := fun i => if i < 5 ∧ isOther (Go.Proofs.Ythpjcmilfipbaaa.follow c k (d.mem k).follows 3) k i = true then ((c.nodes k).log.length : Int) else ((Go.Proofs.Ythpjcmilfipbaaa.follow c k (d.mem k).follows 3).nodes k).known i } } : Clu) =
      { c with nodes := upd c.nodes k { followNd (c.nodes k) (d.mem k).follows 3 with known := fun i => if i < 5 ∧ isOther (Go.Proofs.Ythpjcmilfipbaaa.follow c k (d.mem k).follows 3) k i = true then ((c.nodes k).log.length : Int) else 0 } } := by
    show Clu.mk (upd (upd c.nodes k _) k _) c.epochs c.active c.ways = Clu.mk (upd c.nodes k _) c.epochs c.active c.ways
    rw [upd_upd]
    congr 2
    show ({ (upd c.nodes k (followNd (c.nodes k) (d.mem k).follows 3) k) with known := fun i => if i < 5 ∧ isOther (Go.Proofs.Ythpjcmilfipbaaa.follow c k (d.mem k).follows 3) k i = true then ((c.nodes k).log.length : Int) else (upd c.nodes k (followNd (c.nodes k) (d.mem k).follows 3) k).known i } : Nd) = _
    rw [upd_same]; rfl
  rw [e]
  refine h.put hk ⟨q.up, rfl, q.giv, rfl, q.log, fun _ j hj hjk hin => ?_, fun x => absurd x (by show (3 : Int) ≠ 2; decide), fun _ j hj => rfl⟩
  have ho : isOther (Go.Proofs.Ythpjcmilfipbaaa.follow c k (d.mem k).follows 3) k j = true := by
    unfold isOther
    rw [if_neg hjk]
    have e1 : ((Go.Proofs.Ythpjcmilfipbaaa.follow c k (d.mem k).follows 3).nodes k).follows = (d.mem k).follows := by
      show (upd c.nodes k _ k).follows = _
      rw [upd_same]; rfl
    have e2 : epochOf (Go.Proofs.Ythpjcmilfipbaaa.follow c k (d.mem k).follows 3) (d.mem k).follows = d.era (d.mem k).follows := h.epo _ hf hl
    rw [e1, e2, amongIn _ _ hj]
    exact hin
  show (if j < 5 ∧ isOther (Go.Proofs.Ythpjcmilfipbaaa.follow c k (d.mem k).follows 3) k j = true then ((c.nodes k).log.length : Int) else 0) = ((d.mem k).log.length : Int)
  rw [if_pos ⟨hj, ho⟩, q.log]
end
end Go.Proofs.Ythpjcmilfipbaaa

namespace Go.Proofs.Ythpjcmilfipbaaa
set_option linter.unusedVariables false
set_option linter.unusedSimpArgs false
open Go.RowKit
section
variable {c : Clu} {d : Wd}
theorem Sim.crash (h : Sim c d) (node : Int) : Sim (crash c node).1 (rCrash d node).1 ∧ (crash c node).2 = (rCrash d node).2 := by
  unfold Go.Proofs.Ythpjcmilfipbaaa.crash rCrash
  rw [h.ref]
  split
  · rename_i hr
    obtain ⟨k, rfl, hk, _⟩ := refNode_zero (c := c) (by rw [h.ref]; exact hr)
    have q := h.nd k hk
    exact ⟨h.put hk ⟨rfl, q.fol, q.giv, rfl, q.log, fun x => absurd x (by show (0 : Int) ≠ 3; decide), fun x => absurd x (by show (0 : Int) ≠ 2; decide), fun _ j hj => rfl⟩, rfl⟩
  · exact ⟨h, rfl⟩
theorem Sim.restart (h : Sim c d) (node : Int) : Sim (restart c node).1 (rRestart d node).1 ∧ (restart c node).2 = (rRestart d node).2 := by
  unfold Go.Proofs.Ythpjcmilfipbaaa.restart rRestart rRef
  by_cases hn : nodeB node = true
  · have hk := nodeB_lt hn
    simp only [hn, if_true, Bool.false_and, Bool.false_eq_true, if_false, ne_eq, not_true_eq_false]
    rw [h.up _ hk]
    cases hu : (d.mem node.toNat).up
    · simp only [Bool.false_eq_true, if_false]
      have q := h.nd _ hk
      exact ⟨h.put hk ⟨rfl, q.fol, q.giv, q.rol, q.log, q.kno, q.has2, q.has0⟩, trivial⟩
    · simp only [if_true]; exact ⟨h, trivial⟩
  · have hn2 : nodeB node = false := by simpa using hn
    rw [hn2]
    exact ⟨h, rfl⟩
theorem rTakes_app {d : Wd} {k : Nat} {m : Msg} (hle : (d.mem k).follows ≤ m.epoch) (h8 : m.kind = 8) : rTakes d k m = if (d.mem k).follows = m.epoch ∧ (d.mem k).given = m.epoch ∧ (d.mem k).role = 0 then rSay (rTakeAppend d k m) k m 9 ((rTakeAppend d k m).mem k).log.length [] else d := by
  unfold rTakes
  rw [if_neg (show ¬ m.epoch < (d.mem k).follows by omega), if_neg (show ¬ m.kind = 1 by omega), if_neg (show ¬ m.kind = 2 by omega), if_neg (show ¬ m.kind = 4 by omega), if_pos h8]
theorem rTakes_leads {d : Wd} {k : Nat} {m : Msg} (hle : (d.mem k).follows ≤ m.epoch) (k1 : m.kind ≠ 1) (k2 : m.kind ≠ 2) (k4 : m.kind ≠ 4) (k8 : m.kind ≠ 8) : rTakes d k m = if (d.mem k).follows = m.epoch then rLeads d k m else d := by
  unfold rTakes
  rw [if_neg (show ¬ m.epoch < (d.mem k).follows by omega), if_neg k1, if_neg k2, if_neg k4, if_neg k8]
theorem rLeads_of {d : Wd} {k : Nat} {m : Msg} : rLeads d k m = if m.kind = 3 ∧ (d.mem k).role = 1 then rHands (rTell d k m) k
    else if m.kind = 5 ∧ (d.mem k).role = 2 then (if rOthers (rHas d k m.frm.toNat) k then rReady (rHas d k m.frm.toNat) k m.epoch else rHas d k m.frm.toNat)
    else if m.kind = 7 ∧ (d.mem k).role = 2 then rServe d k
    else if m.kind = 9 ∧ (d.mem k).role = 3 then rAck (rKnow d k m.frm.toNat m.n) k m.frm.toNat
    else d := rfl
theorem rIn_put (d : Wd) (k : Nat) (m : Mem) (e : Int) (j : Nat) : rIn (d.put k m) e j = rIn d e j := rfl
theorem Sim.takeApp (h : Sim c d) {k : Nat} (hk : k < 5) (m : Msg) (hm : MOk d m) (hto : m.to = k) (h8 : m.kind = 8) (hle : (d.mem k).follows ≤ m.epoch) : Sim (takeApp c k m) (rTakes d k m) := by
  rw [rTakes_app hle h8]
  unfold Go.Proofs.Ythpjcmilfipbaaa.takeApp
  rw [h.fol k hk, h.giv k hk, h.rol k hk]
  split
  · have h1 : Sim (takePut c k m) (rTakeAppend d k m) := by
      unfold takePut rTakeAppend
      rw [h.log k hk]
      split
      · exact h.putLog hk _
      · exact h
    have hl := h1.log k hk
    have he : (rTakeAppend d k m).eras = d.eras := by unfold rTakeAppend; split <;> rfl
    unfold rSay
    have e2 : ackMsg k m ((takePut c k m).nodes k).log.length = { kind := 9, frm := k, to := m.frm, epoch := m.epoch, n := ((rTakeAppend d k m).mem k).log.length, recs := [] } := by unfold ackMsg; rw [hl]
    rw [e2]
    have hin := hm.app h8
    refine h1.send ⟨fun x => absurd x (by show (9 : Int) ≠ 8; decide), fun _ => ⟨?_, ?_⟩⟩
    · show rIn (rTakeAppend d k m) m.epoch k = true
      have : rIn (rTakeAppend d k m) m.epoch k = rIn d m.epoch k := by unfold rIn Wd.era; rw [he]
      rw [this]
      have h2 := hin.2.1
      rw [hto] at h2; exact h2
    · show (k : Int) ≠ m.frm
      rw [← hto]; exact hin.2.2.1
  · exact h
theorem Sim.know (h : Sim c d) {k : Nat} (hk : k < 5) {f : Nat} (hf : f < 5) (n : Int) (hfk : f ≠ k) (hin : rIn d (d.mem k).follows f = true) (hr : (d.mem k).role = 3) : Sim (knowTo c k f n) (rKnow d k f n) := by
  have q := h.nd k hk
  unfold knowTo rKnow
  rw [q.kno hr f hf hfk hin]
  split
  · refine h.put hk ⟨q.up, q.fol, q.giv, q.rol, q.log, fun _ j hj hjk hi => ?_, q.has2, q.has0⟩
    show upd (c.nodes k).known f n j = upd (d.mem k).knows f n j
    by_cases e : j = f
    · rw [e, upd_same, upd_same]
    · rw [upd_other _ _ _ _ e, upd_other _ _ _ _ e]; exact q.kno hr j hj hjk hi
  · exact h
theorem rKnow_at (d : Wd) (k f : Nat) (n : Int) : ((rKnow d k f n).mem k).role = (d.mem k).role ∧ ((rKnow d k f n).mem k).follows = (d.mem k).follows ∧ ((rKnow d k f n).mem k).log = (d.mem k).log ∧ (rKnow d k f n).eras = d.eras := by
  unfold rKnow; split
  · rw [put_at]; exact ⟨rfl, rfl, rfl, rfl⟩
  · exact ⟨rfl, rfl, rfl, rfl⟩
theorem Sim.ack (h : Sim c d) (hok : ROk d) {k : Nat} (hk : k < 5) {f : Nat} (hf : f < 5) (hfk : f ≠ k) (hin : rIn d (d.mem k).follows f = true) (hr : (d.mem k).role = 3) (h0 : 0 ≤ (d.mem k).knows f) : Sim (sendFirst c k f) (rAck d k f) := by
  unfold sendFirst rAck
  rw [(h.nd k hk).kno hr f hf hfk hin]
  split
  · rename_i hlt
    exact h.append hk hf _ h0 hlt hfk hin
  · rename_i hlt
    unfold sendAppend
    rw [if_pos (by rw [h.log k hk]; omega)]
    exact h
theorem Sim.kind (h : Sim c d) (hok : ROk d) {k : Nat} (hk : k < 5) (m : Msg) (hm : MOk d m) (hmo : MsgOk d.eras.length m) (hto : m.to = k) (hle : (d.mem k).follows ≤ m.epoch) : Sim (takeKind c k m) (rTakes d k m) := by
  have h3 := h.fol k hk
  unfold takeKind
  by_cases k1 : m.kind = 1
  · rw [if_pos k1]
    have hT : rTakes d k m = rStarts d k m.epoch := by unfold rTakes; rw [if_neg (show ¬ m.epoch < (d.mem k).follows by omega), if_pos k1]
    rw [hT]
    have hw := h.wake hk m.epoch hle
    have hok2 : ROk (rWake (rFollows d k m.epoch 1) k m.epoch) := by
      have h1 := hok.follows k hk m.epoch 1 hmo.ep.1 hmo.ep.2
      unfold rWake
      split
      · refine h1.role k hk 1 ?_
        unfold rFollows; split
        · rw [put_at]; exact hmo.ep.1
        · have := hmo.ep.1; omega
      · exact h1
    exact hw.1.startOn hok2 hk m.epoch hw.2 (hmo.start k1)
  rw [if_neg k1]
  by_cases k2 : m.kind = 2
  · rw [if_pos k2]
    have hT : rTakes d k m = rSay (rFollows d k m.epoch 0) k m 3 ((rFollows d k m.epoch 0).mem k).log.length ((rFollows d k m.epoch 0).mem k).log := by unfold rTakes; rw [if_neg (show ¬ m.epoch < (d.mem k).follows by omega), if_neg k1, if_pos k2]
    rw [hT]
    unfold takeRead sendLog rSay
    have hf := h.follow0 hk m.epoch
    have e : logMsg (Go.Proofs.Ythpjcmilfipbaaa.follow0 c k m.epoch) 3 k m.frm = { kind := 3, frm := k, to := m.frm, epoch := m.epoch, n := ((rFollows d k m.epoch 0).mem k).log.length, recs := ((rFollows d k m.epoch 0).mem k).log } := by
      unfold logMsg
      rw [hf.fol k hk, hf.log k hk]
      congr 1
      unfold rFollows; split
      · rw [put_at]
      · omega
    rw [e]
    exact hf.send (mok_plain _ _ (by show (3 : Int) ≠ 8; decide) (by show (3 : Int) ≠ 9; decide))
  rw [if_neg k2]
  by_cases k3 : m.kind = 3
  · rw [if_pos k3]
    rw [rTakes_leads hle k1 k2 (by omega) (by omega), rLeads_of]
    unfold takeLogIn
    rw [h3, h.rol k hk]
    by_cases q : (d.mem k).follows = m.epoch
    · rw [if_pos q]
      by_cases q2 : (d.mem k).role = 1
      · rw [if_pos ⟨q, q2⟩, if_pos ⟨k3, q2⟩]
        have hokt : ROk (rTell d k m) := hok.tell k hk m hmo.len hmo.recs (by have := hmo.ep.1; omega)
        exact (h.tell hk m q2).hands hokt hk (by unfold rTell; rw [put_at])
      · rw [if_neg (fun x => q2 x.2), if_neg (fun x => q2 x.2), if_neg (fun x => by have := x.1; omega), if_neg (fun x => by have := x.1; omega), if_neg (fun x => by have := x.1; omega)]; exact h
    · rw [if_neg (fun x => q x.1), if_neg q]; exact h
  rw [if_neg k3]
  by_cases k4 : m.kind = 4
  · rw [if_pos k4]
    have hT : rTakes d k m = if ((rFollows d k m.epoch 0).mem k).given < m.epoch then rSay (rGiven (rFollows d k m.epoch 0) k m.epoch m.recs) k m 5 0 [] else rSay (rFollows d k m.epoch 0) k m 5 0 [] := by unfold rTakes; rw [if_neg (show ¬ m.epoch < (d.mem k).follows by omega), if_neg k1, if_neg k2, if_pos k4]
    rw [hT]
    unfold takeState give0 rSay
    have hf := h.follow0 hk m.epoch
    rw [hf.giv k hk]
    split
    · exact (hf.give hk m.recs m.epoch).send (mok_plain _ _ (by show (5 : Int) ≠ 8; decide) (by show (5 : Int) ≠ 9; decide))
    · exact hf.send (mok_plain _ _ (by show (5 : Int) ≠ 8; decide) (by show (5 : Int) ≠ 9; decide))
  rw [if_neg k4]
  by_cases k5 : m.kind = 5
  · rw [if_pos k5]
    have hfr0 := hmo.lead (Or.inr k5)
    have hfr1 := hmo.frm.2
    have hnb : nodeB m.frm = true := by simp [nodeB]; omega
    rw [rTakes_leads hle k1 k2 k4 (by omega)]
    unfold takeHave
    rw [h3, h.rol k hk]
    by_cases q : (d.mem k).follows = m.epoch
    · rw [if_pos q]
      by_cases q2 : (d.mem k).role = 2
      · have hd : rLeads d k m = (if rOthers (rHas d k m.frm.toNat) k then rReady (rHas d k m.frm.toNat) k m.epoch else rHas d k m.frm.toNat) := by rw [rLeads_of, if_neg (fun x => by have := x.1; omega), if_pos ⟨k5, q2⟩]
        rw [if_pos ⟨q, q2, hnb⟩, hd]
        have qn := h.nd k hk
        have h1 : Sim (putHas c k m.frm.toNat) (rHas d k m.frm.toNat) := h.put hk ⟨qn.up, qn.fol, qn.giv, qn.rol, qn.log, qn.kno, fun _ j hj => by
          show upd (c.nodes k).has m.frm.toNat true j = upd (d.mem k).has m.frm.toNat true j
          by_cases e : j = m.frm.toNat
          · rw [e, upd_same, upd_same]
          · rw [upd_other _ _ _ _ e, upd_other _ _ _ _ e]; exact qn.has2 q2 j hj, fun x => absurd q2 x⟩
        have hokh : ROk (rHas d k m.frm.toNat) := hok.hasN k hk _
        have hr2 : ((rHas d k m.frm.toNat).mem k).role = 2 := by unfold rHas; rw [put_at]; exact q2
        have hf2 : ((rHas d k m.frm.toNat).mem k).follows = m.epoch := by unfold rHas; rw [put_at]; exact q
        rw [h1.all hokh hk hr2]
        split
        · have := h1.ready hk
          rw [hf2] at this; exact this
        · exact h1
      · rw [if_neg (fun x => q2 x.2.1), rLeads_of, if_neg (fun x => by have := x.1; omega), if_neg (fun x => q2 x.2), if_neg (fun x => by have := x.1; omega), if_neg (fun x => by have := x.1; omega)]; exact h
    · rw [if_neg (fun x => q x.1), if_neg q]; exact h
  rw [if_neg k5]
  by_cases k7 : m.kind = 7
  · rw [if_pos k7]
    rw [rTakes_leads hle k1 k2 k4 (by omega), rLeads_of]
    unfold takeServe
    rw [h3, h.rol k hk]
    by_cases q : (d.mem k).follows = m.epoch
    · rw [if_pos q]
      by_cases q2 : (d.mem k).role = 2
      · rw [if_pos ⟨q, q2⟩, if_neg (fun x => by have := x.1; omega), if_neg (fun x => by have := x.1; omega), if_pos ⟨k7, q2⟩]
        have := h.serve hok hk q2
        rw [q] at this; exact this
      · rw [if_neg (fun x => q2 x.2), if_neg (fun x => by have := x.1; omega), if_neg (fun x => by have := x.1; omega), if_neg (fun x => q2 x.2), if_neg (fun x => by have := x.1; omega)]; exact h
    · rw [if_neg (fun x => q x.1), if_neg q]; exact h
  rw [if_neg k7]
  by_cases k8 : m.kind = 8
  · rw [if_pos k8]; exact h.takeApp hk m hm hto k8 hle
  rw [if_neg k8]
  by_cases k9 : m.kind = 9
  · rw [if_pos k9]
    have hfr0 := hmo.lead (Or.inl k9)
    have hfr1 := hmo.frm.2
    have hnb : nodeB m.frm = true := by simp [nodeB]; omega
    have hin := hm.ack k9
    have hfk : m.frm.toNat ≠ k := by have := hin.2; omega
    rw [rTakes_leads hle k1 k2 k4 (by omega), rLeads_of]
    unfold Go.Proofs.Ythpjcmilfipbaaa.takeAck
    rw [h3, h.rol k hk]
    by_cases q : (d.mem k).follows = m.epoch
    · rw [if_pos q]
      by_cases q2 : (d.mem k).role = 3
      · rw [if_pos ⟨q, q2, hnb⟩, if_neg (fun x => by have := x.1; omega), if_neg (fun x => by have := x.1; omega), if_neg (fun x => by have := x.1; omega), if_pos ⟨k9, q2⟩]
        have hi1 : rIn d (d.mem k).follows m.frm.toNat = true := by rw [q]; exact hin.1
        have h1 := h.know hk (show m.frm.toNat < 5 by omega) m.n hfk hi1 q2
        have ha := rKnow_at d k m.frm.toNat m.n
        have hokk : ROk (rKnow d k m.frm.toNat m.n) := hok.know k hk _ _ hmo.n.1 hmo.n.2
        exact h1.ack hokk hk (by omega) hfk (by rw [ha.2.1]; exact (show rIn (rKnow d k m.frm.toNat m.n) (d.mem k).follows m.frm.toNat = rIn d (d.mem k).follows m.frm.toNat by unfold rIn Wd.era; rw [ha.2.2.2]).trans hi1) (by rw [ha.1]; exact q2) (hokk.kno k _ hk (by omega)).1
      · rw [if_neg (fun x => q2 x.2.1), if_neg (fun x => by have := x.1; omega), if_neg (fun x => by have := x.1; omega), if_neg (fun x => by have := x.1; omega), if_neg (fun x => q2 x.2)]; exact h
    · rw [if_neg (fun x => q x.1), if_neg q]; exact h
  rw [if_neg k9]
  rw [rTakes_leads hle k1 k2 k4 k8, rLeads_of]
  split
  · rw [if_neg (fun x => k3 x.1), if_neg (fun x => k5 x.1), if_neg (fun x => k7 x.1), if_neg (fun x => k9 x.1)]; exact h
  · exact h
theorem Sim.told (h : Sim c d) (hok : ROk d) (kind : Int) (h8 : kind ≠ 8) (h9 : kind ≠ 9) : Sim (sendToLeader c kind) (rSends d { kind := kind, frm := -1, to := (d.era d.eras.length).leader, epoch := d.eras.length, n := 0, recs := [] }) := by
  have h1 := hok.e1
  have e : toldMsg c kind = { kind := kind, frm := -1, to := (d.era d.eras.length).leader, epoch := d.eras.length, n := 0, recs := [] } := by
    unfold toldMsg
    rw [h.epo _ (by rw [h.eps]; omega) (by rw [h.eps]; omega), h.eps]
  unfold sendToLeader
  rw [e]
  exact h.send (mok_plain _ _ h8 h9)
theorem Sim.master (h : Sim c d) (hok : ROk d) (m : Msg) : Sim (takeReady c m) (rMaster d m.epoch) := by
  unfold takeReady rMaster
  rw [h.eps]
  split
  · rename_i q
    have h1 : Sim (putActive c m.epoch) { d with active := m.epoch } := { nd := h.nd, eps := h.eps, act := rfl, way := h.way, pl := fun x hx => ⟨(h.pl x hx).app, (h.pl x hx).ack⟩ }
    have hoka : ROk { d with active := m.epoch } := ⟨hok.e1, hok.e40, ⟨by show 1 ≤ m.epoch; have := hok.e1; omega, by show m.epoch ≤ d.eras.length; omega⟩, hok.era, hok.fol, hok.rol, hok.log, hok.byt, hok.kno, hok.way, hok.msg⟩
    have := h1.told hoka 7 (by decide) (by decide)
    rw [q]
    rw [q] at this
    exact this
  · exact h
theorem Sim.deliver (h : Sim c d) (hok : ROk d) (i : Int) : Sim (deliver c i).1 (rDeliver d i).1 ∧ (deliver c i).2 = (rDeliver d i).2 := by
  unfold Go.Proofs.Ythpjcmilfipbaaa.deliver rDeliver
  rw [h.under]
  split
  · refine ⟨?_, rfl⟩
    show Sim (match c.ways[i.toNat]? with | some m => Go.Proofs.Ythpjcmilfipbaaa.takeIn (takeOut c i.toNat) m | none => c) (match d.way[i.toNat]? with | some m => rGet (rOut d i.toNat) m | none => d)
    rw [h.way]
    cases hm : d.way[i.toNat]? with
    | none => exact h
    | some m =>
      have hmem := List.mem_of_getElem? hm
      have hp := h.pl m hmem
      have hmo := hok.msg m hmem
      have h1 := h.out i.toNat
      have hok1 : ROk (rOut d i.toNat) := ⟨hok.e1, hok.e40, hok.act, hok.era, hok.fol, hok.rol, hok.log, hok.byt, hok.kno, by
        have := hok.way
        show (d.way.eraseIdx i.toNat).length ≤ 50
        rw [List.length_eraseIdx]; split <;> omega, fun x hx => hok.msg x (List.mem_of_mem_eraseIdx hx)⟩
      show Sim (Go.Proofs.Ythpjcmilfipbaaa.takeIn (takeOut c i.toNat) m) (rGet (rOut d i.toNat) m)
      unfold Go.Proofs.Ythpjcmilfipbaaa.takeIn rGet
      by_cases hto : m.to = -1
      · rw [if_pos hto, if_pos hto]; exact h1.master hok1 m
      · obtain ⟨k, hk⟩ := Int.eq_ofNat_of_zero_le (show 0 ≤ m.to by have := hmo.to.1; omega)
        have hk5 : k < 5 := by have := hmo.to.2; omega
        have hnk : nodeB (k : Int) = true := by simp [nodeB]; omega
        rw [if_neg hto, if_neg hto, hk, show ((k : Int)).toNat = k from rfl, h1.up k hk5, h1.fol k hk5]
        by_cases hu : ((rOut d i.toNat).mem k).up = true
        · rw [if_pos hu]
          by_cases hle : ((rOut d i.toNat).mem k).follows ≤ m.epoch
          · rw [if_pos ⟨hnk, hu, hle⟩]
            exact h1.kind hok1 hk5 m ⟨hp.app, hp.ack⟩ hmo hk hle
          · rw [if_neg (fun x => hle x.2.2)]
            unfold rTakes
            rw [if_pos (by omega)]; exact h1
        · rw [if_neg (fun x => hu x.2.1), if_neg hu]; exact h1
  · exact ⟨h, rfl⟩
theorem Sim.remind (h : Sim c d) (hok : ROk d) : Sim (remind c).1 (rRemind d).1 ∧ (remind c).2 = (rRemind d).2 := by
  unfold Go.Proofs.Ythpjcmilfipbaaa.remind rRemind
  rw [h.act, h.eps]
  split
  · exact ⟨h, rfl⟩
  · exact ⟨h.told hok 1 (by decide) (by decide), rfl⟩
theorem rIn_more (d : Wd) (x : Era) (hok : ROk d) (e : Int) (he : e ≤ d.eras.length) (j : Nat) : rIn { d with eras := d.eras ++ [x] } e j = rIn d e j := by
  have h1 := hok.e1
  unfold rIn Wd.era
  have : (d.eras ++ [x]).getD (e - 1).toNat era0 = d.eras.getD (e - 1).toNat era0 := by
    rw [List.getD_eq_getElem?_getD, List.getD_eq_getElem?_getD, List.getElem?_append_left (by omega)]
  show decide (((d.eras ++ [x]).getD (e - 1).toNat era0).members / 2 ^ j % 2 = 1) = _
  rw [this]
theorem Sim.reconf (h : Sim c d) (hok : ROk d) (q l : Int) : Sim (reconf c q l).1 (rReconf d q l).1 ∧ (reconf c q l).2 = (rReconf d q l).2 := by
  have hok' := hok.reconf q l
  unfold Go.Proofs.Ythpjcmilfipbaaa.reconf rReconf
  unfold rReconf at hok'
  by_cases hb : rBad q l = true
  · rw [if_pos hb, if_neg]
    · exact ⟨h, rfl⟩
    · rintro ⟨x, y⟩
      simp [rBad] at hb
      simp [memB] at x
      simp [amongB, nodeB] at y
      omega
  · have hb2 : 1 ≤ q ∧ q < 32 ∧ 0 ≤ l ∧ l < 5 := by simp [rBad] at hb; omega
    have hmb : memB q = true := by simp [memB]; omega
    obtain ⟨k, rfl⟩ := Int.eq_ofNat_of_zero_le hb2.2.2.1
    have hk : k < 5 := by omega
    rw [if_neg hb] at hok' ⊢
    rw [amongIn _ _ hk]
    have e1 : ((k : Int)).toNat = k := rfl
    rw [e1] at hok' ⊢
    by_cases h0 : q / 2 ^ k % 2 = 0
    · rw [if_pos h0, if_neg (fun x => by have := x.2; simp at this; omega)]
      exact ⟨h, rfl⟩
    · have h1 : q / 2 ^ k % 2 = 1 := by omega
      rw [if_neg h0] at hok' ⊢
      rw [if_pos ⟨hmb, by simp [h1]⟩, h.eps]
      by_cases h40 : 40 ≤ d.eras.length
      · rw [if_pos h40, if_pos h40]; exact ⟨h, rfl⟩
      · rw [if_neg h40, if_neg h40]
        rw [if_neg h40] at hok'
        refine ⟨?_, rfl⟩
        have h2 : Sim (addEpoch c q k) { d with eras := d.eras ++ [⟨q, k, d.active⟩] } :=
          { nd := fun i hi => by
              have hn := h.nd i hi
              have hf := (hok.fol i hi).2
              exact ⟨hn.up, hn.fol, hn.giv, hn.rol, hn.log, fun hr j hj hjk hin => hn.kno hr j hj hjk (by rw [rIn_more d _ hok _ hf] at hin; exact hin), hn.has2, hn.has0⟩
            eps := by show c.epochs ++ [⟨q, k, c.active⟩] = d.eras ++ [⟨q, k, d.active⟩]; rw [h.eps, h.act]
            act := h.act, way := h.way
            pl := fun x hx => by
              have hx : x ∈ d.way := hx
              have hp := h.pl x hx
              have he := (hok.msg x hx).ep.2
              exact ⟨fun y => by rw [rIn_more d _ hok _ he]; exact hp.app y, fun y => by rw [rIn_more d _ hok _ he]; exact hp.ack y⟩ }
        have hl : ((d.eras ++ [(⟨q, k, d.active⟩ : Era)]).length : Int) = d.eras.length + 1 := by simp
        have hE : (Wd.era { d with eras := d.eras ++ [⟨q, k, d.active⟩] } (d.eras.length + 1)).leader = k := by
          unfold Wd.era
          have : ((d.eras.length : Int) + 1 - 1).toNat = d.eras.length := by omega
          show ((d.eras ++ [(⟨q, k, d.active⟩ : Era)]).getD ((d.eras.length : Int) + 1 - 1).toNat era0).leader = k
          rw [this]; simp
        have em : toldMsg (addEpoch c q k) 1 = { kind := 1, frm := -1, to := k, epoch := d.eras.length + 1, n := 0, recs := [] } := by
          unfold toldMsg
          have hel : ((addEpoch c q k).epochs.length : Int) = d.eras.length + 1 := by show ((c.epochs ++ [(⟨q, k, c.active⟩ : Era)]).length : Int) = _; rw [h.eps]; simp
          rw [hel, h2.epo _ (by omega) (by rw [hl]; omega), hE]
        unfold sendToLeader
        rw [em]
        exact h2.send (mok_plain _ _ (by show (1 : Int) ≠ 8; decide) (by show (1 : Int) ≠ 9; decide))
theorem Sim.new : Sim newC rNew :=
  { nd := fun k hk => by
      match k, hk with
      | 0, _ => exact ⟨rfl, rfl, rfl, rfl, rfl, fun _ _ _ _ _ => rfl, fun x => absurd x (by decide), fun _ _ _ => rfl⟩
      | 1, _ => exact ⟨rfl, rfl, rfl, rfl, rfl, fun x => absurd x (by decide), fun x => absurd x (by decide), fun _ _ _ => rfl⟩
      | 2, _ => exact ⟨rfl, rfl, rfl, rfl, rfl, fun x => absurd x (by decide), fun x => absurd x (by decide), fun _ _ _ => rfl⟩
      | 3, _ => exact ⟨rfl, rfl, rfl, rfl, rfl, fun x => absurd x (by decide), fun x => absurd x (by decide), fun _ _ _ => rfl⟩
      | 4, _ => exact ⟨rfl, rfl, rfl, rfl, rfl, fun x => absurd x (by decide), fun x => absurd x (by decide), fun _ _ _ => rfl⟩
    eps := rfl, act := rfl, way := rfl, pl := fun m hm => by have hm : m ∈ ([] : List Msg) := hm; simp at hm }
end
/-- The program's cluster in memory, and the document's state that it is in. -/
def PrgR (w : World) (S : Nat → Prop) (b : Nat) (d : Wd) : Prop := ∃ c lv ev uv mv, Rep w S b c lv ev uv mv ∧ Sim c d
theorem see_same (l : List Msg) : seeCells l = seeCellsR l := rfl
theorem fit_of {d : Wd} {m : Msg} (h : MsgOk d.eras.length m) (hm : MOk d m) : Fit m :=
  ⟨h.to, fun x => ⟨h.lead (by omega), h.frm.2⟩, h.len, fun x => (hm.app x).1⟩
theorem prgSide : Side PrgR fnPrg 41 36 where
  same := fun ⟨c, lv, ev, uv, mv, h, hs⟩ hk => ⟨c, lv, ev, uv, mv, h.same hk, hs⟩
  mono := fun ⟨c, lv, ev, uv, mv, h, hs⟩ hk => ⟨c, lv, ev, uv, mv, h.mono hk, hs⟩
  call := by
    rintro w S b d ⟨c, lv, ev, uv, mv, h, hs⟩ hok cl _ _
    have hokc := hs.okc hok
    have quiet : ∀ w', Below w.heap.size w w' → PrgR w' (Ext S w) b d ∧ Fr S w w' := fun w' hb => ⟨⟨c, lv, ev, uv, mv, (h.below hb).mono fun k _ e => Or.inl e, hs⟩, Fr.below hb⟩
    cases cl with
    | produce n p s v =>
      have q := hs.produce hok n p s v
      exact (produce_any h hokc n p s v).mono fun e w' ⟨he, ⟨lv', uv', mv', h'⟩, hf⟩ => ⟨by rw [he, q.2]; rfl, ⟨_, _, _, _, _, h', q.1⟩, hf⟩
    | fetch n o => exact (fetch_any h hokc n o).mono fun e w' ⟨he, hb⟩ => ⟨by rw [he, hs.fetch hok n o]; rfl, quiet w' hb⟩
    | deliver i =>
      have q := hs.deliver hok i
      refine (deliver_any h hokc (fun m hm => by rw [hs.way] at hm; exact fit_of (hok.msg m hm) (hs.pl m hm)) (fun m hm k hk h8 hn => ?_) i).mono fun e w' ⟨he, ⟨lv', uv', mv', h'⟩, hf⟩ => ⟨by rw [he, q.2]; rfl, ⟨_, _, _, _, _, h', q.1⟩, hf⟩
      rw [hs.way] at hm
      have := ((hok.msg m hm).app h8).2
      omega
    | drop i =>
      have q := hs.drop i
      exact (drop_any h hokc i).mono fun e w' ⟨he, ⟨uv', mv', h'⟩, hf⟩ => ⟨by rw [he, q.2]; rfl, ⟨_, _, _, _, _, h', q.1⟩, hf⟩
    | twice i =>
      have q := hs.twice i
      exact (twice_any h hokc i).mono fun e w' ⟨he, ⟨uv', mv', h'⟩, hf⟩ => ⟨by rw [he, q.2]; rfl, ⟨_, _, _, _, _, h', q.1⟩, hf⟩
    | node n =>
      have q := hs.seen hok n
      exact (node_any h hokc n).mono fun e w' ⟨he, hb⟩ => ⟨by rw [he, q.1, q.2]; rfl, quiet w' hb⟩
    | crash n =>
      have q := hs.crash n
      exact (crash_any h n).mono fun e w' ⟨he, h', hf⟩ => ⟨by rw [he, q.2]; rfl, ⟨_, _, _, _, _, h'.mono fun k _ e => Or.inl e, q.1⟩, hf⟩
    | restart n =>
      have q := hs.restart n
      exact (restart_any h n).mono fun e w' ⟨he, h', hf⟩ => ⟨by rw [he, q.2]; rfl, ⟨_, _, _, _, _, h'.mono fun k _ e => Or.inl e, q.1⟩, hf⟩
    | conf m l =>
      have q := hs.reconf hok m l
      exact (reconf_any h hokc m l).mono fun e w' ⟨he, ⟨ev', uv', mv', h'⟩, hf⟩ => ⟨by rw [he, q.2]; rfl, ⟨_, _, _, _, _, h', q.1⟩, hf⟩
    | remind =>
      have q := hs.remind hok
      exact (remind_any h hokc).mono fun e w' ⟨he, ⟨uv', mv', h'⟩, hf⟩ => ⟨by rw [he, q.2]; rfl, ⟨_, _, _, _, _, h', q.1⟩, hf⟩
    | config =>
      have e1 := hok.e1
      have hE : epochOf c c.epochs.length = d.era d.eras.length := by rw [hs.eps]; exact hs.epo _ (by omega) (by omega)
      exact (config_any h hokc).mono fun e w' ⟨he, hb⟩ => ⟨by rw [he, hE, hs.eps, hs.act]; rfl, quiet w' hb⟩
  nil := by
    intro cl _ _ w
    cases cl with
    | produce n p s v => exact produce_nilP n p s v w
    | fetch n o => exact fetch_nilP n o w
    | deliver i => exact deliver_nilP i w
    | drop i => exact drop_nilP i w
    | twice i => exact twice_nilP i w
    | node n => exact node_nilP n w
    | crash n => exact crash_nilP n w
    | restart n => exact restart_nilP n w
    | conf m l => exact reconf_nilP m l w
    | remind => exact remind_nilP w
    | config => exact config_nilP w
  msgs := fun ⟨c, lv, ev, uv, mv, h, hs⟩ hok => (messages_any h (hs.okc hok)).mono fun e w' ⟨v, he, ho, hb⟩ => ⟨v, he, by rw [hs.way] at ho; exact ho, hb⟩
  msgsNil := fun w => (messages_nilP w).mono fun e w' ⟨he, hb⟩ => ⟨_, he, ⟨rfl, Or.inl ⟨rfl, rfl⟩⟩, hb⟩
  new := fun w => (new_any w).mono fun e w' ⟨he, ⟨ev, h⟩, hb⟩ => ⟨_, he, ⟨_, _, _, _, _, h, Sim.new⟩, hb⟩
end Go.Proofs.Ythpjcmilfipbaaa
