/- My own text: several texts in one. -/
import Derived.Test.YthpfgmdffendoaaDeliverAll
import Derived.Test.YthpfgmdffendoaaNew
import Derived.Test.YthpfgmdffendoaaSide
import Derived.Test.YthpfgmdffendoaaRefNode
namespace Go.Proofs.Ythpfgmdffendoaa
set_option linter.unusedVariables false
set_option linter.unusedSimpArgs false
structure Sim (c : Clu) (d : Wd) : Prop where
  up : ∀ k, k < 5 → (c.nodes k).up = (d.mem k).up
  fol : ∀ k, k < 5 → (c.nodes k).follows = (d.mem k).follows
  giv : ∀ k, k < 5 → (c.nodes k).given = (d.mem k).given
  rol : ∀ k, k < 5 → (c.nodes k).role = (d.mem k).role
  log : ∀ k, k < 5 → (c.nodes k).log = (d.mem k).log
  kno : ∀ k j, k < 5 → j < 5 → (d.mem k).role = 3 → (c.nodes k).known j = (d.mem k).knows j
  eras : d.eras = [⟨7, 0, 0⟩]
  eps : c.epochs = [fun i => decide (i < 3)]
  way : c.ways = d.way
  pl : ∀ m ∈ d.way, Plain m
section
variable {c : Clu} {d : Wd}
theorem Sim.okc (h : Sim c d) (hok : ROk d) : Ok c :=
  ⟨fun k hk => by rw [h.log k hk]; exact hok.log k hk, by rw [h.way]; exact hok.way, by rw [h.eps]; simp⟩
theorem Sim.ref (h : Sim c d) (node : Int) : refNode c node = rRef d node true := by
  unfold refNode rRef
  by_cases hn : nodeB node = true
  · have hk : node.toNat < 5 := by simp [nodeB] at hn; omega
    rw [if_pos hn, if_pos hn, h.up _ hk]
    cases (d.mem node.toNat).up <;> rfl
  · rw [if_neg hn, if_neg hn]
theorem Sim.fol1 (h : Sim c d) (hok : ROk d) {k : Nat} (hk : k < 5) (hr : (d.mem k).role = 3) : (d.mem k).follows = 1 := by
  have h1 := hok.rol k hk (by omega)
  have h2 := (hok.fol k hk).2
  rw [h.eras] at h2
  simp at h2
  omega
def inD1 (j : Nat) : Bool := decide ((7 : Int) / 2 ^ j % 2 = 1)
theorem in1 (j : Nat) (hj : j < 5) : inD1 j = decide (j < 3) := by
  match j, hj with
  | 0, _ => rfl
  | 1, _ => rfl
  | 2, _ => rfl
  | 3, _ => rfl
  | 4, _ => rfl
theorem Sim.isO (h : Sim c d) (hok : ROk d) {k : Nat} (hk : k < 5) (hr : (d.mem k).role = 3) {j : Nat} (hj : j < 5) : isOther c k j = (decide (j ≠ k) && rIn d (d.mem k).follows j) := by
  have hf := h.fol1 hok hk hr
  unfold isOther rIn Wd.era
  rw [h.fol k hk, hf, h.eps, h.eras]
  by_cases e : j = k
  · simp [e]
  · simp only [e, false_or, List.length_singleton]
    rw [if_neg (by omega)]
    have := in1 j hj
    unfold inD1 at this
    simp [e, this]
end
end Go.Proofs.Ythpfgmdffendoaa

namespace Go.Proofs.Ythpfgmdffendoaa
set_option linter.unusedVariables false
set_option linter.unusedSimpArgs false
section
variable {c : Clu} {d : Wd}
theorem Sim.send (h : Sim c d) {m : Msg} (hm : Plain m) : Sim (send c m) (rSends d m) := by
  have hw := h.way
  unfold Go.Proofs.Ythpfgmdffendoaa.send rSends
  by_cases q : d.way.length < 50
  · rw [if_neg (by rw [hw]; omega), if_pos q]
    exact { h with way := by show c.ways ++ [m] = d.way ++ [m]; rw [hw]
                   pl := fun x hx => by
                     rcases List.mem_append.1 hx with hx | hx
                     · exact h.pl x hx
                     · simp at hx; subst hx; exact hm }
  · rw [if_pos (by rw [hw]; omega), if_neg q]; exact h
theorem Sim.append (h : Sim c d) {k j : Nat} (hk : k < 5) (hj : j < 5) (n : Int) (h0 : 0 ≤ n) (hn : n < (d.mem k).log.length) : Sim (sendAppend c k j n) (rAppends d k j n) := by
  unfold sendAppend rAppends
  rw [if_neg (by rw [h.log k hk]; omega), h.log k hk, h.fol k hk]
  refine h.send ⟨⟨by show (0 : Int) ≤ (j : Int); omega, by show (j : Int) < 5; omega⟩, ⟨by show (0 : Int) ≤ (k : Int); omega, by show (k : Int) < 5; omega⟩, Or.inl rfl, fun _ => ?_⟩
  have hl : n.toNat < (d.mem k).log.length := by omega
  refine ⟨(d.mem k).log[n.toNat], ?_⟩
  show ((d.mem k).log.drop n.toNat).take 1 = _
  rw [List.drop_eq_getElem_cons hl]; rfl
theorem doneTo_same (h : Sim c d) (hok : ROk d) {k : Nat} (hk : k < 5) (hr : (d.mem k).role = 3) : ∀ n, n ≤ 5 → doneTo c k n = rDoneTo d k n
  | 0, _ => by simp only [doneTo, rDoneTo, h.log k hk]
  | n + 1, h5 => by
    have ih := doneTo_same h hok hk hr n (by omega)
    have hk2 := h.kno k n hk (by omega) hr
    have ho := h.isO hok hk hr (show n < 5 by omega)
    simp only [doneTo, rDoneTo, ih, hk2, ho]
    by_cases e1 : n = k
    · simp [e1]
    · cases e2 : rIn d (d.mem k).follows n <;> simp [e1, e2]
theorem Sim.done (h : Sim c d) (hok : ROk d) {k : Nat} (hk : k < 5) (hr : (d.mem k).role = 3) : done c k = rDone d k := by
  unfold Go.Proofs.Ythpfgmdffendoaa.done rDone
  rw [if_pos hr]; exact doneTo_same h hok hk hr 5 (by omega)
theorem Sim.fetch (h : Sim c d) (hok : ROk d) (node off : Int) : fetch c node off = rFetch d node off := by
  unfold Go.Proofs.Ythpfgmdffendoaa.fetch rFetch
  rw [h.ref]
  by_cases q : rRef d node true = 0
  · have hk : node.toNat < 5 := by
      unfold rRef nodeB at q
      by_cases x : (decide (0 ≤ node) && decide (node < 5)) = true
      · simp at x; omega
      · rw [if_neg x] at q; omega
    simp only [q, ne_eq, not_true_eq_false, if_false, h.rol _ hk]
    by_cases hr : (d.mem node.toNat).role = 3
    · simp only [hr, not_true_eq_false, if_false, h.done hok hk hr, h.log _ hk]
    · simp only [hr, not_false_eq_true, if_true]
  · simp only [q, ne_eq, not_false_eq_true, if_true]
theorem nodeB_lt {node : Int} (h : nodeB node = true) : node.toNat < 5 := by simp [nodeB] at h; omega
theorem Sim.seen (h : Sim c d) (hok : ROk d) (node : Int) : (seen c node).1.val = (rSeen d node).1.val ∧ (seen c node).2 = (rSeen d node).2 := by
  unfold Go.Proofs.Ythpfgmdffendoaa.seen rSeen
  by_cases hn : nodeB node = true
  · have hk := nodeB_lt hn
    rw [if_pos hn, if_pos hn, h.up _ hk, h.fol _ hk, h.giv _ hk, h.rol _ hk, h.log _ hk]
    refine ⟨?_, rfl⟩
    by_cases hr : (d.mem node.toNat).role = 3
    · rw [if_pos hr, h.done hok hk hr]; rfl
    · rw [if_neg hr]
      unfold Show.val ShowR.val rDone
      rw [if_neg hr]
  · rw [if_neg hn, if_neg hn]; exact ⟨rfl, rfl⟩
theorem Sim.under (h : Sim c d) (i : Int) : underB c i = rUnder d i := by unfold underB rUnder; rw [h.way]
theorem Sim.out (h : Sim c d) (i : Nat) : Sim (takeOut c i) (rOut d i) :=
  { h with way := by show c.ways.eraseIdx i = d.way.eraseIdx i; rw [h.way], pl := fun m hm => h.pl m (List.mem_of_mem_eraseIdx hm) }
theorem Sim.drop (h : Sim c d) (i : Int) : Sim (drop c i).1 (rDrop d i).1 ∧ (drop c i).2 = (rDrop d i).2 := by
  unfold Go.Proofs.Ythpfgmdffendoaa.drop rDrop
  rw [h.under]
  split
  · exact ⟨h.out _, rfl⟩
  · exact ⟨h, rfl⟩
theorem Sim.twice (h : Sim c d) (i : Int) : Sim (twice c i).1 (rTwice d i).1 ∧ (twice c i).2 = (rTwice d i).2 := by
  unfold Go.Proofs.Ythpfgmdffendoaa.twice rTwice
  rw [h.under]
  split
  · refine ⟨?_, rfl⟩
    show Sim (match c.ways[i.toNat]? with | some m => Go.Proofs.Ythpfgmdffendoaa.send c m | none => c) (match d.way[i.toNat]? with | some m => rSends d m | none => d)
    rw [h.way]
    cases hm : d.way[i.toNat]? with
    | none => exact h
    | some m => exact h.send (h.pl m (List.mem_of_getElem? hm))
  · exact ⟨h, rfl⟩
theorem Sim.prodNew (h : Sim c d) (hok : ROk d) {k : Nat} (hk : k < 5) (hr : (d.mem k).role = 3) (m : Mem) (hm : m.follows = (d.mem k).follows) (kk n dn : Int) (hkk : kk < 0) (h0 : 0 ≤ n) (hn : n < (d.mem k).log.length) :
    ∀ j, j ≤ 5 → Sim (writeTo c k n j) (rProdTo d k m kk n dn j)
  | 0, _ => h
  | j + 1, h5 => by
    have ih := Sim.prodNew h hok hk hr m hm kk n dn hkk h0 hn j (by omega)
    have hs := rProdTo_same d k m kk n dn j
    have hw := writeTo_nodes c k n j
    have ho := h.isO hok hk hr (show j < 5 by omega)
    have hi : isOther (writeTo c k n j) k j = isOther c k j := by unfold isOther; rw [hw.1, hw.2]
    have hin : rIn (rProdTo d k m kk n dn j) m.follows j = rIn d (d.mem k).follows j := by unfold rIn Wd.era; rw [hs.2.1, hm]
    unfold writeTo rProdTo
    rw [hi, ho, hin]
    by_cases e1 : j = k
    · have b1 : ¬ (decide (j ≠ k) && rIn d (d.mem k).follows j) = true := by simp [e1]
      rw [if_neg b1, if_pos (Or.inl e1)]; exact ih
    · cases e2 : rIn d (d.mem k).follows j
      · have b1 : ¬ (decide (j ≠ k) && false) = true := by simp
        have b2 : j = k ∨ false = false := Or.inr rfl
        rw [if_neg b1, if_pos b2]; exact ih
      · have b1 : (decide (j ≠ k) && true) = true := by simp [e1]
        have b2 : ¬ (j = k ∨ true = false) := by simp [e1]
        rw [if_pos b1, if_neg b2, if_pos hkk]
        exact ih.append hk (by omega) n h0 (by rw [hs.1]; exact hn)
theorem Sim.prodOld (h : Sim c d) (hok : ROk d) {k : Nat} (hk : k < 5) (hr : (d.mem k).role = 3) (kk dn : Int) (hkk : ¬ kk < 0) (hdn : dn ≤ kk) :
    ∀ j, j ≤ 5 → Sim (lackTo c k j) (rProdTo d k (d.mem k) kk (d.mem k).log.length dn j)
  | 0, _ => h
  | j + 1, h5 => by
    have ih := Sim.prodOld h hok hk hr kk dn hkk hdn j (by omega)
    have hs := rProdTo_same d k (d.mem k) kk (d.mem k).log.length dn j
    have hw := lackTo_nodes c k j
    have ho := h.isO hok hk hr (show j < 5 by omega)
    have hi : isOther (lackTo c k j) k j = isOther c k j := by unfold isOther; rw [hw.1, hw.2]
    have hin : rIn (rProdTo d k (d.mem k) kk (d.mem k).log.length dn j) (d.mem k).follows j = rIn d (d.mem k).follows j := by unfold rIn Wd.era; rw [hs.2.1]
    have hkn := h.kno k j hk (by omega) hr
    have h0 := (hok.kno k j hk (by omega)).1
    unfold lackTo rProdTo
    rw [hi, ho, hin]
    by_cases e1 : j = k
    · have b1 : ¬ (decide (j ≠ k) && rIn d (d.mem k).follows j) = true := by simp [e1]
      rw [if_neg b1, if_pos (Or.inl e1)]; exact ih
    · cases e2 : rIn d (d.mem k).follows j
      · have b1 : ¬ (decide (j ≠ k) && false) = true := by simp
        have b2 : j = k ∨ false = false := Or.inr rfl
        rw [if_neg b1, if_pos b2]; exact ih
      · have b1 : (decide (j ≠ k) && true) = true := by simp [e1]
        have b2 : ¬ (j = k ∨ true = false) := by simp [e1]
        rw [if_pos b1, if_neg b2, if_neg hkk]
        unfold sendFirst
        rw [hw.1, hkn]
        by_cases e3 : (d.mem k).knows j < (d.mem k).log.length
        · rw [if_pos ⟨hdn, e3⟩]
          exact ih.append hk (by omega) _ h0 (by rw [hs.1]; exact e3)
        · rw [if_neg (fun x => e3 x.2)]
          unfold sendAppend
          rw [if_pos (by rw [hw.1, h.log k hk]; omega)]
          exact ih
theorem prodTo_none (d : Wd) (k : Nat) (m : Mem) (kk n dn : Int) (h1 : ¬ kk < 0) (h2 : ¬ dn ≤ kk) : ∀ j, rProdTo d k m kk n dn j = d
  | 0 => rfl
  | j + 1 => by
    have ih := prodTo_none d k m kk n dn h1 h2 j
    unfold rProdTo
    simp only [ih]
    split
    · rfl
    split
    · rename_i x; exact absurd x.1 h2
    · rfl
theorem Sim.putLog (h : Sim c d) {k : Nat} (hk : k < 5) (l : List Rec) : Sim (putLog c k l) (rPutLog d k l) := by
  have e := putLog_at c k l
  have e2 : ∀ i, ((rPutLog d k l).mem i).up = (d.mem i).up ∧ ((rPutLog d k l).mem i).follows = (d.mem i).follows ∧ ((rPutLog d k l).mem i).given = (d.mem i).given ∧ ((rPutLog d k l).mem i).role = (d.mem i).role ∧ ((rPutLog d k l).mem i).knows = (d.mem i).knows ∧ ((rPutLog d k l).mem i).log = if i = k then l else (d.mem i).log := by
    intro i
    unfold rPutLog Wd.put upd
    by_cases q : i = k
    · subst q; simp
    · simp [q]
  exact { up := fun i hi => by rw [(e i).1, (e2 i).1]; exact h.up i hi
          fol := fun i hi => by rw [(e i).2.1, (e2 i).2.1]; exact h.fol i hi
          giv := fun i hi => by rw [(e i).2.2.1, (e2 i).2.2.1]; exact h.giv i hi
          rol := fun i hi => by rw [(e i).2.2.2.1, (e2 i).2.2.2.1]; exact h.rol i hi
          log := fun i hi => by rw [(e i).2.2.2.2.2, (e2 i).2.2.2.2.2, h.log i hi]
          kno := fun i j hi hj hr => by rw [(e i).2.2.2.2.1, (e2 i).2.2.2.2.1]; exact h.kno i j hi hj (by rw [(e2 i).2.2.2.1] at hr; exact hr)
          eras := h.eras, eps := h.eps, way := h.way, pl := h.pl }
theorem done_same {c c' : Clu} (h1 : c'.nodes = c.nodes) (h2 : c'.epochs = c.epochs) (k : Nat) : done c' k = done c k := by
  have : ∀ n, doneTo c' k n = doneTo c k n := by
    intro n
    induction n with
    | zero => simp only [doneTo, h1]
    | succ n ih =>
      have hi : isOther c' k n = isOther c k n := by unfold isOther; rw [h1, h2]
      simp only [doneTo, ih, h1, hi]
  unfold done; exact this 5
theorem Sim.produce (h : Sim c d) (hok : ROk d) (node p s v : Int) : Sim (produce c node p s v).1 (rProduce d node p s v).1 ∧ (produce c node p s v).2 = (rProduce d node p s v).2 := by
  have hok' := hok.produce node p s v
  unfold Go.Proofs.Ythpfgmdffendoaa.produce rProduce refWrite
  unfold rProduce at hok'
  rw [h.ref]
  by_cases q : rRef d node true = 0
  · have hk : node.toNat < 5 := by
      unfold rRef nodeB at q
      by_cases x : (decide (0 ≤ node) && decide (node < 5)) = true
      · simp at x; omega
      · rw [if_neg x] at q; omega
    rw [if_neg (show ¬ rRef d node true ≠ 0 by omega)] at hok' ⊢
    rw [if_neg (show ¬ rRef d node true ≠ 0 by omega)]
    cases hrb : recB p s v
    · simp; exact h
    · simp only [hrb, if_true, h.rol _ hk, Bool.true_eq_false, if_false] at hok' ⊢
      by_cases hr : (d.mem node.toNat).role = 3
      · have hrs := h.prodOld hok hk hr
        simp only [hr, if_true, ne_eq, not_true_eq_false, if_false, h.log _ hk, h.done hok hk hr] at hok' ⊢
        unfold rProduceAt at hok' ⊢
        by_cases o1 : offsetOf (d.mem node.toNat).log p s < 0
        · rw [if_neg (by omega), if_pos o1]
          rw [if_pos o1] at hok'
          by_cases o2 : 1 < s ∧ offsetOf (d.mem node.toNat).log p (s - 1) < 0
          · rw [if_pos o2, if_pos o2]; exact ⟨h, rfl⟩
          · rw [if_neg o2, if_neg o2]
            rw [if_neg o2] at hok'
            by_cases o3 : 60 ≤ (d.mem node.toNat).log.length
            · rw [if_pos o3, if_pos o3]; exact ⟨h, rfl⟩
            · rw [if_neg o3, if_neg o3]
              rw [if_neg o3] at hok'
              unfold rProduceNew at hok' ⊢
              simp only at hok' ⊢
              have h1 := h.putLog hk ((d.mem node.toNat).log ++ [⟨p, s, v⟩])
              have hr1 : ((rPutLog d node.toNat ((d.mem node.toNat).log ++ [⟨p, s, v⟩])).mem node.toNat).role = 3 := by unfold rPutLog; rw [put_at]; exact hr
              have hl1 : ((rPutLog d node.toNat ((d.mem node.toNat).log ++ [⟨p, s, v⟩])).mem node.toNat).log = (d.mem node.toNat).log ++ [⟨p, s, v⟩] := by unfold rPutLog; rw [put_at]
              have hf1 : ((rPutLog d node.toNat ((d.mem node.toNat).log ++ [⟨p, s, v⟩])).mem node.toNat).follows = (d.mem node.toNat).follows := by unfold rPutLog; rw [put_at]
              have hok1 : ROk (rPutLog d node.toNat ((d.mem node.toNat).log ++ [⟨p, s, v⟩])) := hok.putLog _ hk _ (by simp; omega) fun r hr2 => by
                rcases List.mem_append.1 hr2 with x | x
                · exact hok.byt _ hk r x
                · simp at x; subst x
                  simp [recB] at hrb
                  show 0 ≤ p ∧ p ≤ 255 ∧ 0 ≤ s ∧ s ≤ 255 ∧ 0 ≤ v ∧ v ≤ 255
                  omega
              have hS := fun dn => h1.prodNew hok1 hk hr1 (d.mem node.toNat) hf1.symm (offsetOf (d.mem node.toNat).log p s) (d.mem node.toNat).log.length dn o1 (by omega) (by rw [hl1]; simp; omega) 5 (Nat.le_refl _)
              have hw : write c node.toNat ⟨p, s, v⟩ = writeTo (Go.Proofs.Ythpfgmdffendoaa.putLog c node.toNat ((d.mem node.toNat).log ++ [⟨p, s, v⟩])) node.toNat (d.mem node.toNat).log.length 5 := by unfold write; rw [h.log _ hk]
              rw [hw]
              refine ⟨hS _, ?_⟩
              have hdn : Go.Proofs.Ythpfgmdffendoaa.done (writeTo (Go.Proofs.Ythpfgmdffendoaa.putLog c node.toNat ((d.mem node.toNat).log ++ [⟨p, s, v⟩])) node.toNat (d.mem node.toNat).log.length 5) node.toNat = rDone (rPutLog d node.toNat ((d.mem node.toNat).log ++ [⟨p, s, v⟩])) node.toNat := by
                rw [done_same (writeTo_nodes _ _ _ 5).1 (writeTo_nodes _ _ _ 5).2]
                exact h1.done hok1 hk hr1
              rw [hdn]
        · rw [if_pos (show 0 ≤ offsetOf (d.mem node.toNat).log p s by omega), if_neg o1]
          unfold rProduceOld
          by_cases o4 : offsetOf (d.mem node.toNat).log p s < rDone d node.toNat
          · rw [if_pos o4, prodTo_none d _ _ _ _ _ o1 (by omega)]
            exact ⟨h, rfl⟩
          · rw [if_neg o4]
            exact ⟨h.prodOld hok hk hr _ _ o1 (by omega) 5 (Nat.le_refl _), rfl⟩
      · simp [hr]; exact h
  · simp only [q, ne_eq, not_false_eq_true, if_true]
    exact ⟨h, trivial⟩
end
end Go.Proofs.Ythpfgmdffendoaa

namespace Go.Proofs.Ythpfgmdffendoaa
set_option linter.unusedVariables false
set_option linter.unusedSimpArgs false
open Go.RowKit
section
variable {c : Clu} {d : Wd}
theorem Sim.crash (h : Sim c d) (node : Int) : Sim (crash c node).1 (rCrash d node).1 ∧ (crash c node).2 = (rCrash d node).2 := by
  unfold Go.Proofs.Ythpfgmdffendoaa.crash rCrash
  rw [h.ref]
  split
  · refine ⟨?_, rfl⟩
    refine { up := fun i hi => ?_, fol := fun i hi => ?_, giv := fun i hi => ?_, rol := fun i hi => ?_, log := fun i hi => ?_, kno := fun i j hi hj hr => ?_, eras := h.eras, eps := h.eps, way := h.way, pl := h.pl }
    · show (upd c.nodes node.toNat (downNd (c.nodes node.toNat)) i).up = (upd d.mem node.toNat _ i).up
      unfold upd downNd; split; rfl; exact h.up i hi
    · show (upd c.nodes node.toNat (downNd (c.nodes node.toNat)) i).follows = (upd d.mem node.toNat _ i).follows
      unfold upd downNd; split; (rename_i q; rw [← q]; exact h.fol i hi); exact h.fol i hi
    · show (upd c.nodes node.toNat (downNd (c.nodes node.toNat)) i).given = (upd d.mem node.toNat _ i).given
      unfold upd downNd; split; (rename_i q; rw [← q]; exact h.giv i hi); exact h.giv i hi
    · show (upd c.nodes node.toNat (downNd (c.nodes node.toNat)) i).role = (upd d.mem node.toNat _ i).role
      unfold upd downNd; split; rfl; exact h.rol i hi
    · show (upd c.nodes node.toNat (downNd (c.nodes node.toNat)) i).log = (upd d.mem node.toNat _ i).log
      unfold upd downNd; split; (rename_i q; rw [← q]; exact h.log i hi); exact h.log i hi
    · have hr : (upd d.mem node.toNat { d.mem node.toNat with up := false, role := 0 } i).role = 3 := hr
      by_cases q : i = node.toNat
      · rw [q, upd_same] at hr; simp at hr
      · rw [upd_other _ _ _ _ q] at hr
        show (upd c.nodes node.toNat (downNd (c.nodes node.toNat)) i).known j = (upd d.mem node.toNat _ i).knows j
        rw [upd_other _ _ _ _ q, upd_other _ _ _ _ q]
        exact h.kno i j hi hj hr
  · exact ⟨h, rfl⟩
theorem Sim.restart (h : Sim c d) (node : Int) : Sim (restart c node).1 (rRestart d node).1 ∧ (restart c node).2 = (rRestart d node).2 := by
  unfold Go.Proofs.Ythpfgmdffendoaa.restart rRestart rRef
  by_cases hn : nodeB node = true
  · have hk := nodeB_lt hn
    simp only [hn, if_true, Bool.false_and, Bool.false_eq_true, if_false, ne_eq, not_true_eq_false]
    rw [h.up _ hk]
    cases hu : (d.mem node.toNat).up
    · simp only [Bool.false_eq_true, if_false]
      refine ⟨?_, trivial⟩
      refine { up := fun i hi => ?_, fol := fun i hi => ?_, giv := fun i hi => ?_, rol := fun i hi => ?_, log := fun i hi => ?_, kno := fun i j hi hj hr => ?_, eras := h.eras, eps := h.eps, way := h.way, pl := h.pl }
      · show (upd c.nodes node.toNat _ i).up = (upd d.mem node.toNat _ i).up
        unfold upd; split; rfl; exact h.up i hi
      · show (upd c.nodes node.toNat _ i).follows = (upd d.mem node.toNat _ i).follows
        unfold upd; split; (rename_i q; rw [← q]; exact h.fol i hi); exact h.fol i hi
      · show (upd c.nodes node.toNat _ i).given = (upd d.mem node.toNat _ i).given
        unfold upd; split; (rename_i q; rw [← q]; exact h.giv i hi); exact h.giv i hi
      · show (upd c.nodes node.toNat _ i).role = (upd d.mem node.toNat _ i).role
        unfold upd; split; (rename_i q; rw [← q]; exact h.rol i hi); exact h.rol i hi
      · show (upd c.nodes node.toNat _ i).log = (upd d.mem node.toNat _ i).log
        unfold upd; split; (rename_i q; rw [← q]; exact h.log i hi); exact h.log i hi
      · have hr : (upd d.mem node.toNat { d.mem node.toNat with up := true } i).role = 3 := hr
        show (upd c.nodes node.toNat _ i).known j = (upd d.mem node.toNat _ i).knows j
        by_cases q : i = node.toNat
        · subst q
          rw [upd_same] at hr
          rw [upd_same, upd_same]; exact h.kno _ j hi hj hr
        · rw [upd_other _ _ _ _ q] at hr
          rw [upd_other _ _ _ _ q, upd_other _ _ _ _ q]; exact h.kno i j hi hj hr
    · simp only [if_true]; exact ⟨h, trivial⟩
  · have hn2 : nodeB node = false := by simpa using hn
    rw [hn2]
    exact ⟨h, rfl⟩
theorem Sim.takeApp (h : Sim c d) (hok : ROk d) {k : Nat} (hk : k < 5) (m : Msg) (hp : Plain m) (hto : m.to = k) (h8 : m.kind = 8) : Sim (takeApp c k m) (rTakes d k m) := by
  unfold Go.Proofs.Ythpfgmdffendoaa.takeApp rTakes
  rw [h.fol k hk, h.giv k hk, h.rol k hk]
  by_cases e1 : (d.mem k).follows = m.epoch ∧ (d.mem k).given = m.epoch ∧ (d.mem k).role = 0
  · rw [if_pos e1, if_neg (by omega), if_neg (by omega), if_neg (by omega), if_neg (by omega), if_pos h8, if_pos e1]
    have h1 : Sim (takePut c k m) (rTakeAppend d k m) := by
      unfold takePut rTakeAppend
      rw [h.log k hk]
      split
      · exact h.putLog hk _
      · exact h
    have hl := h1.log k hk
    unfold rSay
    have e2 : ackMsg k m ((takePut c k m).nodes k).log.length = { kind := 9, frm := k, to := m.frm, epoch := m.epoch, n := ((rTakeAppend d k m).mem k).log.length, recs := [] } := by unfold ackMsg; rw [hl]
    rw [e2]
    exact h1.send ⟨⟨hp.frm.1, hp.frm.2⟩, ⟨by show (0 : Int) ≤ (k : Int); omega, by show (k : Int) < 5; omega⟩, Or.inr rfl, fun x => by simp at x⟩
  · rw [if_neg e1]
    by_cases e2 : m.epoch < (d.mem k).follows
    · rw [if_pos e2]; exact h
    · rw [if_neg e2, if_neg (by omega), if_neg (by omega), if_neg (by omega), if_pos h8, if_neg e1]; exact h
theorem Sim.takeAck (h : Sim c d) (hok : ROk d) {k : Nat} (hk : k < 5) (m : Msg) (hp : Plain m) (hto : m.to = k) (h9 : m.kind = 9) : Sim (takeAck c k m) (rTakes d k m) := by
  have hf5 : m.frm.toNat < 5 := by have := hp.frm; omega
  have hnb : nodeB m.frm = true := by have := hp.frm; simp [nodeB]; omega
  unfold Go.Proofs.Ythpfgmdffendoaa.takeAck rTakes
  rw [h.fol k hk, h.rol k hk]
  by_cases e1 : (d.mem k).follows = m.epoch ∧ (d.mem k).role = 3
  · rw [if_pos ⟨e1.1, e1.2, hnb⟩, if_neg (by omega), if_neg (by omega), if_neg (by omega), if_neg (by omega), if_neg (by omega), if_pos e1.1]
    unfold rLeads
    rw [if_neg (by omega), if_neg (by omega), if_neg (by omega), if_pos ⟨h9, e1.2⟩]
    have hkn := h.kno k m.frm.toNat hk hf5 e1.2
    have h0 := (hok.kno k m.frm.toNat hk hf5).1
    have h1 : Sim (knowTo c k m.frm.toNat m.n) (rKnow d k m.frm.toNat m.n) ∧ ((rKnow d k m.frm.toNat m.n).mem k).role = 3 ∧ 0 ≤ ((rKnow d k m.frm.toNat m.n).mem k).knows m.frm.toNat := by
      unfold knowTo rKnow
      rw [hkn]
      split
      · rename_i hlt
        refine ⟨{ up := fun i hi => ?_, fol := fun i hi => ?_, giv := fun i hi => ?_, rol := fun i hi => ?_, log := fun i hi => ?_, kno := fun i j hi hj hr => ?_, eras := h.eras, eps := h.eps, way := h.way, pl := h.pl }, by rw [put_at]; exact e1.2, by rw [put_at]; show 0 ≤ upd (d.mem k).knows m.frm.toNat m.n m.frm.toNat; rw [upd_same]; omega⟩
        · show (upd c.nodes k _ i).up = (upd d.mem k _ i).up
          unfold upd; split; (rename_i q; rw [← q]; exact h.up i hi); exact h.up i hi
        · show (upd c.nodes k _ i).follows = (upd d.mem k _ i).follows
          unfold upd; split; (rename_i q; rw [← q]; exact h.fol i hi); exact h.fol i hi
        · show (upd c.nodes k _ i).given = (upd d.mem k _ i).given
          unfold upd; split; (rename_i q; rw [← q]; exact h.giv i hi); exact h.giv i hi
        · show (upd c.nodes k _ i).role = (upd d.mem k _ i).role
          unfold upd; split; (rename_i q; rw [← q]; exact h.rol i hi); exact h.rol i hi
        · show (upd c.nodes k _ i).log = (upd d.mem k _ i).log
          unfold upd; split; (rename_i q; rw [← q]; exact h.log i hi); exact h.log i hi
        · show (upd c.nodes k _ i).known j = (upd d.mem k _ i).knows j
          by_cases q : i = k
          · subst q
            rw [upd_same, upd_same]
            show upd (c.nodes i).known m.frm.toNat m.n j = upd (d.mem i).knows m.frm.toNat m.n j
            by_cases q2 : j = m.frm.toNat
            · rw [q2, upd_same, upd_same]
            · rw [upd_other _ _ _ _ q2, upd_other _ _ _ _ q2]; exact h.kno i j hi hj e1.2
          · have hr : (upd d.mem k { d.mem k with knows := upd (d.mem k).knows m.frm.toNat m.n } i).role = 3 := hr
            rw [upd_other _ _ _ _ q] at hr
            rw [upd_other _ _ _ _ q, upd_other _ _ _ _ q]; exact h.kno i j hi hj hr
      · exact ⟨h, e1.2, h0⟩
    obtain ⟨h1, hr1, hn1⟩ := h1
    unfold sendFirst rAck
    rw [h1.kno k m.frm.toNat hk hf5 hr1]
    split
    · rename_i hlt
      exact h1.append hk hf5 _ hn1 hlt
    · rename_i hlt
      unfold sendAppend
      rw [if_pos (by rw [h1.log k hk]; omega)]
      exact h1
  · rw [if_neg (fun x => e1 ⟨x.1, x.2.1⟩)]
    split
    · exact h
    rw [if_neg (by omega), if_neg (by omega), if_neg (by omega), if_neg (by omega)]
    split
    · rename_i e2
      unfold rLeads
      rw [if_neg (by omega), if_neg (by omega), if_neg (by omega), if_neg (fun x => e1 ⟨e2, x.2⟩)]
      exact h
    · exact h
theorem Sim.deliver (h : Sim c d) (hok : ROk d) (i : Int) : Sim (deliver c i).1 (rDeliver d i).1 ∧ (deliver c i).2 = (rDeliver d i).2 := by
  unfold Go.Proofs.Ythpfgmdffendoaa.deliver rDeliver
  rw [h.under]
  split
  · refine ⟨?_, rfl⟩
    show Sim (match c.ways[i.toNat]? with | some m => Go.Proofs.Ythpfgmdffendoaa.takeIn (takeOut c i.toNat) m | none => c) (match d.way[i.toNat]? with | some m => rGet (rOut d i.toNat) m | none => d)
    rw [h.way]
    cases hm : d.way[i.toNat]? with
    | none => exact h
    | some m =>
      have hp := h.pl m (List.mem_of_getElem? hm)
      have h1 := h.out i.toNat
      obtain ⟨k, hto⟩ := Int.eq_ofNat_of_zero_le hp.to.1
      have hk : k < 5 := by have := hp.to.2; omega
      have hok1 : ROk (rOut d i.toNat) := ⟨hok.e1, hok.e40, hok.act, hok.era, hok.fol, hok.rol, hok.log, hok.byt, hok.kno, by
        have := hok.way
        show (d.way.eraseIdx i.toNat).length ≤ 50
        rw [List.length_eraseIdx]; split <;> omega, fun x hx => hok.msg x (List.mem_of_mem_eraseIdx hx)⟩
      have hnk : nodeB (k : Int) = true := by simp [nodeB]; omega
      show Sim (Go.Proofs.Ythpfgmdffendoaa.takeIn (takeOut c i.toNat) m) (rGet (rOut d i.toNat) m)
      unfold Go.Proofs.Ythpfgmdffendoaa.takeIn rGet
      rw [hto, show ((k : Int)).toNat = k from rfl, if_neg (show ¬ (k : Int) = -1 by omega), h1.up k hk]
      by_cases hu : ((rOut d i.toNat).mem k).up = true
      · rw [if_pos ⟨hnk, hu⟩, if_pos hu]
        rcases hp.kind with h8 | h9
        · rw [if_pos h8]; exact h1.takeApp hok1 hk m hp hto h8
        · rw [if_neg (by omega), if_pos h9]; exact h1.takeAck hok1 hk m hp hto h9
      · rw [if_neg (fun x => hu x.2), if_neg hu]; exact h1
  · exact ⟨h, rfl⟩
theorem Sim.new : Sim newC rNew :=
  { up := by decide, fol := by decide, giv := by decide, rol := by decide
    log := fun k hk => rfl, kno := fun k j hk hj _ => rfl, eras := rfl, eps := rfl, way := rfl, pl := fun m hm => by have hm : m ∈ ([] : List Msg) := hm; simp at hm }
end
/-- The program's cluster in memory, and the document's state that it is in. -/
def PrgR (w : World) (S : Nat → Prop) (b : Nat) (d : Wd) : Prop := ∃ c lv ev uv mv, Rep w S b c lv ev uv mv ∧ Sim c d
theorem see_same (l : List Msg) : seeCells l = seeCellsR l := rfl
theorem prgSide : SideOn PrgR fnPrg 30 25 Cl.base where
  same := fun ⟨c, lv, ev, uv, mv, h, hs⟩ hk => ⟨c, lv, ev, uv, mv, h.same hk, hs⟩
  mono := fun ⟨c, lv, ev, uv, mv, h, hs⟩ hk => ⟨c, lv, ev, uv, mv, h.mono hk, hs⟩
  call := by
    rintro w S b d ⟨c, lv, ev, uv, mv, h, hs⟩ hok cl _ hbase
    have hokc := hs.okc hok
    have quiet : ∀ w', Below w.heap.size w w' → PrgR w' (Ext S w) b d ∧ Fr S w w' := fun w' hb => ⟨⟨c, lv, ev, uv, mv, (h.below hb).mono fun k _ e => Or.inl e, hs⟩, Fr.below hb⟩
    cases cl with
    | produce n p s v =>
      have q := hs.produce hok n p s v
      exact (produce_any h hokc n p s v).mono fun e w' ⟨he, ⟨lv', uv', mv', h'⟩, hf⟩ => ⟨by rw [he, q.2]; rfl, ⟨_, _, _, _, _, h', q.1⟩, hf⟩
    | fetch n o => exact (fetch_any h hokc n o).mono fun e w' ⟨he, hb⟩ => ⟨by rw [he, hs.fetch hok n o]; rfl, quiet w' hb⟩
    | deliver i =>
      have q := hs.deliver hok i
      refine (deliver_any h hokc (fun m hm => hs.pl m (by rw [hs.way] at hm; exact hm)) (fun m hm k hk h8 hn => ?_) i).mono fun e w' ⟨he, ⟨lv', uv', mv', h'⟩, hf⟩ => ⟨by rw [he, q.2]; rfl, ⟨_, _, _, _, _, h', q.1⟩, hf⟩
      rw [hs.way] at hm
      have := ((hok.msg m hm).app h8).2
      omega
    | drop i =>
      have q := hs.drop i
      exact (drop_any h hokc i).mono fun e w' ⟨he, ⟨uv', mv', h'⟩, hf⟩ => ⟨by rw [he, q.2]; rfl, ⟨_, _, _, _, _, h', q.1⟩, hf⟩
    | twice i =>
      have q := hs.twice i
      exact (twice_any h hokc i).mono fun e w' ⟨he, ⟨uv', mv', h'⟩, hf⟩ => ⟨by rw [he, q.2]; rfl, ⟨_, _, _, _, _, h', q.1⟩, hf⟩
    | node n =>
      have q := hs.seen hok n
      exact (node_any h hokc n).mono fun e w' ⟨he, hb⟩ => ⟨by rw [he, q.1, q.2]; rfl, quiet w' hb⟩
    | crash n =>
      have q := hs.crash n
      exact (crash_any h n).mono fun e w' ⟨he, h', hf⟩ => ⟨by rw [he, q.2]; rfl, ⟨_, _, _, _, _, h'.mono fun k _ e => Or.inl e, q.1⟩, hf⟩
    | restart n =>
      have q := hs.restart n
      exact (restart_any h n).mono fun e w' ⟨he, h', hf⟩ => ⟨by rw [he, q.2]; rfl, ⟨_, _, _, _, _, h'.mono fun k _ e => Or.inl e, q.1⟩, hf⟩
    | conf m l => exact hbase.elim
    | remind => exact hbase.elim
    | config => exact hbase.elim
  nil := by
    intro cl _ hbase w
    cases cl with
    | produce n p s v => exact produce_nilP n p s v w
    | fetch n o => exact fetch_nilP n o w
    | deliver i => exact deliver_nilP i w
    | drop i => exact drop_nilP i w
    | twice i => exact twice_nilP i w
    | node n => exact node_nilP n w
    | crash n => exact crash_nilP n w
    | restart n => exact restart_nilP n w
    | conf m l => exact hbase.elim
    | remind => exact hbase.elim
    | config => exact hbase.elim
  msgs := fun ⟨c, lv, ev, uv, mv, h, hs⟩ hok => (messages_any h (hs.okc hok)).mono fun e w' ⟨v, he, ho, hb⟩ => ⟨v, he, by rw [hs.way] at ho; exact ho, hb⟩
  msgsNil := fun w => (messages_nilP w).mono fun e w' ⟨he, hb⟩ => ⟨_, he, ⟨rfl, Or.inl ⟨rfl, rfl⟩⟩, hb⟩
  new := fun w => (new_any w).mono fun e w' ⟨he, ⟨ev, h⟩, hb⟩ => ⟨_, he, ⟨_, _, _, _, _, h, Sim.new⟩, hb⟩
end Go.Proofs.Ythpfgmdffendoaa
