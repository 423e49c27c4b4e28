/- My own text. What the document's answer keeps (ROk), call for call. -/
import Derived.Test.YthpfgmdffendoaaRefDeliver
import Derived.Test.YthpfgmdffendoaaRefNew
namespace Go.Proofs.Ythpfgmdffendoaa
set_option linter.unusedVariables false
set_option linter.unusedSimpArgs false
open Go.RowKit
section
variable {d : Wd}
theorem MsgOk.more {n n' : Nat} {m : Msg} (h : MsgOk n m) (hn : n ≤ n') : MsgOk n' m :=
  { h with ep := ⟨h.ep.1, by have := h.ep.2; omega⟩ }
theorem ROk.say (h : ROk d) (k : Nat) (hk : k < 5) (m : Msg) (hm : MsgOk d.eras.length m) (kind n : Int) (l : List Rec) (h1 : kind ≠ 1) (h8 : kind ≠ 8) (hn : 0 ≤ n ∧ n ≤ 60) (hl : l.length ≤ 60) (hb : ∀ r ∈ l, recOk r) : ROk (rSay d k m kind n l) :=
  h.sends { to := hm.frm, frm := ⟨by show (-1 : Int) ≤ (k : Int); omega, by show (k : Int) < 5; omega⟩, lead := fun _ => by show (0 : Int) ≤ (k : Int); omega, ep := hm.ep, start := fun e => absurd e h1, n := hn, len := hl, app := fun e => absurd e h8, recs := hb }
theorem rFollows_eras (d : Wd) (k : Nat) (e r : Int) : (rFollows d k e r).eras = d.eras := by unfold rFollows; split <;> rfl
theorem ROk.leads (h : ROk d) (k : Nat) (hk : k < 5) (m : Msg) (hm : MsgOk d.eras.length m) : ROk (rLeads d k m) := by
  unfold rLeads
  split
  · rename_i c
    have hf := h.rol k hk (by omega)
    refine (h.tell k hk m hm.len hm.recs hf).hands k hk ?_
    rw [rTell, put_at]; exact hf
  split
  · rename_i _ c
    split
    · exact (h.hasN k hk _).ready k hk m.epoch hm.ep.1 hm.ep.2
    · exact h.hasN k hk _
  split
  · rename_i _ _ c
    exact h.serve k hk (h.rol k hk (by omega))
  split
  · rename_i _ _ _ c
    have hf := h.rol k hk (by omega)
    have hfr := hm.lead (Or.inl c.1)
    refine (h.know k hk _ m.n hm.n.1 hm.n.2).ack k _ hk (by have := hm.frm.2; omega) ?_
    rw [(rKnow_same d k _ m.n).2.2.1]; exact hf
  · exact h
theorem ROk.takes (h : ROk d) (k : Nat) (hk : k < 5) (m : Msg) (hm : MsgOk d.eras.length m) : ROk (rTakes d k m) := by
  have hF : ROk (rFollows d k m.epoch 0) := h.follows k hk m.epoch 0 hm.ep.1 hm.ep.2
  have hmF : MsgOk (rFollows d k m.epoch 0).eras.length m := by rw [rFollows_eras]; exact hm
  unfold rTakes
  split
  · exact h
  split
  · exact h.starts k hk m.epoch hm.ep.1 hm.ep.2
  split
  · exact hF.say k hk m hmF 3 _ _ (by omega) (by omega) ⟨by omega, by have := hF.log k hk; omega⟩ (hF.log k hk) (hF.byt k hk)
  split
  · split
    · exact (hF.given k hk m.epoch m.recs hm.len hm.recs).say k hk m hmF 5 0 [] (by omega) (by omega) ⟨by omega, by omega⟩ (by simp) (fun r hr => by cases hr)
    · exact hF.say k hk m hmF 5 0 [] (by omega) (by omega) ⟨by omega, by omega⟩ (by simp) (fun r hr => by cases hr)
  split
  · rename_i c8
    split
    · have hA : ROk (rTakeAppend d k m) ∧ (rTakeAppend d k m).eras = d.eras := by
        unfold rTakeAppend
        split
        · rename_i cn
          have h8 := hm.app c8
          refine ⟨h.putLog k hk _ (by rw [List.length_append]; omega) fun r hr => ?_, rfl⟩
          rcases List.mem_append.1 hr with hr | hr
          · exact h.byt k hk r hr
          · exact hm.recs r hr
        · exact ⟨h, rfl⟩
      exact hA.1.say k hk m (by rw [hA.2]; exact hm) 9 _ [] (by omega) (by omega) ⟨by omega, by have := hA.1.log k hk; omega⟩ (by simp) (fun r hr => by cases hr)
    · exact h
  split
  · exact h.leads k hk m hm
  · exact h
theorem era_leader (h : ROk d) (e : Nat) (h1 : 1 ≤ e) (h2 : e ≤ d.eras.length) : 0 ≤ (d.era e).leader ∧ (d.era e).leader < 5 := by
  obtain ⟨q, rfl⟩ : ∃ q, e = q + 1 := ⟨e - 1, by omega⟩
  have hq : q < d.eras.length := by omega
  have e1 : (((q + 1 : Nat) : Int) - 1).toNat = q := by omega
  have := h.era q d.eras[q] (by simp [hq])
  rw [Wd.era, e1]
  simp [hq]
  exact ⟨this.2.2.1, this.2.2.2.1⟩
theorem startOk (h : ROk d) (to e : Int) (ht : 0 ≤ to ∧ to < 5) (n : Nat) (he : 2 ≤ e ∧ e ≤ n) : MsgOk n { kind := 1, frm := -1, to := to, epoch := e, n := 0, recs := [] } :=
  { to := ⟨by show (-1 : Int) ≤ to; omega, ht.2⟩, frm := ⟨by show (-1 : Int) ≤ -1; omega, by show (-1 : Int) < 5; omega⟩, lead := fun e => by simp at e, ep := ⟨by show (1 : Int) ≤ e; omega, he.2⟩, start := fun _ => he.1, n := ⟨by show (0 : Int) ≤ 0; omega, by show (0 : Int) ≤ 60; omega⟩, len := by simp, app := fun e => by simp at e, recs := fun r hr => by cases hr }
theorem ROk.master (h : ROk d) (e : Int) (h1 : 1 ≤ e) (h2 : e ≤ d.eras.length) : ROk (rMaster d e) := by
  unfold rMaster
  split
  · rename_i c
    have hl := era_leader h d.eras.length h.e1 (Nat.le_refl _)
    rw [← c] at hl
    have h' : ROk { d with active := e } := { h with act := ⟨h1, h2⟩ }
    exact h'.sends { to := ⟨by show (-1 : Int) ≤ (d.era e).leader; omega, hl.2⟩, frm := ⟨by show (-1 : Int) ≤ -1; omega, by show (-1 : Int) < 5; omega⟩, lead := fun e => by simp at e, ep := ⟨h1, h2⟩, start := fun e => by simp at e, n := ⟨by show (0 : Int) ≤ 0; omega, by show (0 : Int) ≤ 60; omega⟩, len := by simp, app := fun e => by simp at e, recs := fun r hr => by cases hr }
  · exact h
theorem ROk.deliver (h : ROk d) (i : Int) : ROk (rDeliver d i).1 := by
  unfold rDeliver
  cases hu : rUnder d i
  · exact h
  · obtain ⟨n, m, rfl, hx⟩ := rUnder_at hu
    have hm := h.msg m (List.mem_of_getElem? hx)
    simp only [Int.toNat_natCast, hx]
    show ROk (rGet (rOut d n) m)
    unfold rGet
    split
    · exact (h.outOk n).master m.epoch hm.ep.1 hm.ep.2
    split
    · exact (h.outOk n).takes _ (by have := hm.to; omega) m hm
    · exact h.outOk n
theorem ROk.drop (h : ROk d) (i : Int) : ROk (rDrop d i).1 := by
  unfold rDrop
  split
  · exact h.outOk _
  · exact h
theorem ROk.twice (h : ROk d) (i : Int) : ROk (rTwice d i).1 := by
  unfold rTwice
  cases hu : rUnder d i
  · exact h
  · obtain ⟨n, m, rfl, hx⟩ := rUnder_at hu
    simp only [Int.toNat_natCast, hx]
    exact h.sends (h.msg m (List.mem_of_getElem? hx))
theorem ROk.crash (h : ROk d) (node : Int) : ROk (rCrash d node).1 := by
  unfold rCrash
  split
  · rename_i hr
    obtain ⟨k, rfl, hk, _⟩ := rRef_zero hr
    exact h.put k _ (h.fol k hk) (fun e => absurd rfl e) (h.log k hk) (h.byt k hk) (fun j hj => h.kno k j hk hj)
  · exact h
theorem ROk.restart (h : ROk d) (node : Int) : ROk (rRestart d node).1 := by
  unfold rRestart
  split
  · exact h
  · rename_i hr
    obtain ⟨k, rfl, hk, _⟩ := rRef_zero (Decidable.of_not_not hr)
    split
    · exact h
    · exact h.put k _ (h.fol k hk) (h.rol k hk) (h.log k hk) (h.byt k hk) (fun j hj => h.kno k j hk hj)
theorem ROk.remind (h : ROk d) : ROk (rRemind d).1 := by
  unfold rRemind
  split
  · exact h
  · rename_i ha
    have := h.act
    have h1 := h.e1
    exact h.sends (startOk h _ _ (era_leader h d.eras.length h1 (Nat.le_refl _)) _ ⟨by omega, Int.le_refl _⟩)
theorem ROk.reconf (h : ROk d) (m l : Int) : ROk (rReconf d m l).1 := by
  unfold rReconf
  split
  · exact h
  rename_i hb
  split
  · exact h
  split
  · exact h
  rename_i hf
  obtain ⟨h1, h2, h3, h4⟩ := rBad_no (by simpa using hb)
  have ha := h.act
  have hl : (d.eras ++ [(⟨m, l, d.active⟩ : Era)]).length = d.eras.length + 1 := by simp
  have h' : ROk { d with eras := d.eras ++ [⟨m, l, d.active⟩] } :=
    { e1 := by show 1 ≤ (d.eras ++ [_]).length; rw [hl]; omega
      e40 := by show (d.eras ++ [_]).length ≤ 40; rw [hl]; omega
      act := ⟨ha.1, by show d.active ≤ ((d.eras ++ [_]).length : Nat); rw [hl]; omega⟩
      era := fun e x hx => by
        by_cases he : e < d.eras.length
        · rw [List.getElem?_append_left he] at hx; exact h.era e x hx
        · rw [List.getElem?_append_right (by omega)] at hx
          have he2 : e - d.eras.length = 0 := by
            rcases Nat.eq_zero_or_pos (e - d.eras.length) with q | q
            · exact q
            · rw [List.getElem?_eq_none (by simp; omega)] at hx; cases hx
          rw [he2] at hx
          simp at hx
          subst hx
          exact ⟨h1, h2, h3, h4, by show 0 ≤ d.active; omega, by show d.active ≤ (e : Int); omega, fun _ => ha.1⟩
      fol := fun k hk => ⟨(h.fol k hk).1, by show (d.mem k).follows ≤ ((d.eras ++ [_]).length : Nat); rw [hl]; have := (h.fol k hk).2; omega⟩
      rol := h.rol, log := h.log, byt := h.byt, kno := h.kno, way := h.way
      msg := fun x hx => (h.msg x hx).more (by show d.eras.length ≤ (d.eras ++ [_]).length; rw [hl]; omega) }
  refine h'.sends (startOk h _ _ ⟨h3, h4⟩ _ ⟨?_, ?_⟩)
  · have := h.e1; omega
  · show (d.eras.length : Int) + 1 ≤ ((d.eras ++ [_]).length : Nat); rw [hl]; omega
theorem ROk.produce (h : ROk d) (node p s v : Int) : ROk (rProduce d node p s v).1 := by
  unfold rProduce
  split
  · exact h
  split
  · exact h
  split
  · exact h
  rename_i hr hb hro
  obtain ⟨k, rfl, hk, _⟩ := rRef_zero (Decidable.of_not_not hr)
  have hro3 : (d.mem k).role = 3 := Decidable.of_not_not hro
  have hf := h.rol k hk (by omega)
  obtain ⟨p1, p2, s1, s2, v1, v2⟩ := recB_parts (show recB p s v = true by simpa using hb)
  show ROk (rProduceAt d k p s v).1
  unfold rProduceAt
  split
  · split
    · exact h
    split
    · exact h
    rename_i ho _ hfull
    have h' := h.putLog k hk ((d.mem k).log ++ [⟨p, s, v⟩]) (by simp; omega) fun r hr => by
      rcases List.mem_append.1 hr with hr | hr
      · exact h.byt k hk r hr
      · simp at hr; subst hr; exact ⟨by show 0 ≤ p; omega, by show p ≤ 255; omega, by show 0 ≤ s; omega, by show s ≤ 255; omega, by show 0 ≤ v; omega, by show v ≤ 255; omega⟩
    have hlk : ((rPutLog d k ((d.mem k).log ++ [⟨p, s, v⟩])).mem k).log.length = (d.mem k).log.length + 1 := by rw [rPutLog, put_at]; simp
    have hfo : ((rPutLog d k ((d.mem k).log ++ [⟨p, s, v⟩])).mem k).follows = (d.mem k).follows := by rw [rPutLog, put_at]
    exact h'.prodTo k hk (d.mem k) _ _ (d.mem k).log.length (by rw [hfo]; exact hf) (fun j hj => (h.kno k j hk hj).1) (fun _ => by rw [hlk]; omega) (fun e => by omega) 5 (Nat.le_refl _)
  · exact h.prodTo k hk (d.mem k) _ _ (d.mem k).log.length hf (fun j hj => (h.kno k j hk hj).1) (fun e => by omega) (fun _ => rfl) 5 (Nat.le_refl _)
theorem ROk.new : ROk rNew :=
  { e1 := by decide, e40 := by decide, act := ⟨by decide, by decide⟩
    era := fun e x hx => by
      match e with
      | 0 => simp [rNew] at hx; subst hx; simp
      | e + 1 => simp [rNew] at hx
    fol := fun k hk => by simp only [rNew, rNewMem]; split <;> simp
    rol := fun k hk hr => by
      by_cases e : k = 0
      · subst e; simp [rNew, rNewMem]
      · simp [rNew, e] at hr
    log := fun k hk => by simp [rNew, rNewMem], byt := fun k hk r hr => by simp [rNew, rNewMem] at hr
    kno := fun k j hk hj => by simp [rNew, rNewMem], way := by simp [rNew], msg := fun m hm => by simp [rNew] at hm }
end
end Go.Proofs.Ythpfgmdffendoaa
