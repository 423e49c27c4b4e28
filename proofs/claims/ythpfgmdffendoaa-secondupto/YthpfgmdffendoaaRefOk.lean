/- My own text. The document's answer keeps what it needs. -/
import Derived.Test.YthpfgmdffendoaaRefPure
namespace Go.Proofs.Ythpfgmdffendoaa
set_option linter.unusedVariables false
set_option linter.unusedSimpArgs false
theorem put_at (d : Wd) (k : Nat) (m : Mem) : (d.put k m).mem k = m := by simp [Wd.put, upd]
theorem put_other (d : Wd) (k j : Nat) (m : Mem) (h : j ≠ k) : (d.put k m).mem j = d.mem j := by simp [Wd.put, upd, h]
theorem rSends_same (d : Wd) (m : Msg) : (rSends d m).mem = d.mem ∧ (rSends d m).eras = d.eras ∧ (rSends d m).active = d.active := by
  unfold rSends; split <;> exact ⟨rfl, rfl, rfl⟩
theorem ROk.sends {d : Wd} (h : ROk d) {m : Msg} (hm : MsgOk d.eras.length m) : ROk (rSends d m) := by
  obtain ⟨e1, e2, e3⟩ := rSends_same d m
  refine ⟨by rw [e2]; exact h.e1, by rw [e2]; exact h.e40, by rw [e2, e3]; exact h.act, by rw [e2]; exact h.era, by rw [e1, e2]; exact h.fol, by rw [e1]; exact h.rol, by rw [e1]; exact h.log, by rw [e1]; exact h.byt, by rw [e1]; exact h.kno, ?_, ?_⟩
  · unfold rSends
    split
    · simp; omega
    · exact h.way
  · rw [e2]
    unfold rSends
    split
    · intro x hx
      rcases List.mem_append.1 hx with hx | hx
      · exact h.msg x hx
      · simp at hx; subst hx; exact hm
    · exact h.msg
/-- A member is turned. -/
theorem ROk.put {d : Wd} (h : ROk d) (k : Nat) (m : Mem) (hf : 0 ≤ m.follows ∧ m.follows ≤ d.eras.length) (hr : m.role ≠ 0 → 1 ≤ m.follows) (hl : m.log.length ≤ 60) (hb : ∀ r ∈ m.log, recOk r)
    (hk : ∀ j, j < 5 → 0 ≤ m.knows j ∧ m.knows j ≤ 60) : ROk (d.put k m) := by
  have at_ : ∀ i, (d.put k m).mem i = if i = k then m else d.mem i := fun i => by
    by_cases e : i = k
    · subst e; rw [put_at, if_pos rfl]
    · rw [put_other _ _ _ _ e, if_neg e]
  refine ⟨h.e1, h.e40, h.act, h.era, ?_, ?_, ?_, ?_, ?_, h.way, h.msg⟩
  · intro i hi; rw [at_]; split; exact hf; exact h.fol i hi
  · intro i hi; rw [at_]; split; exact hr; exact h.rol i hi
  · intro i hi; rw [at_]; split; exact hl; exact h.log i hi
  · intro i hi; rw [at_]; split; exact hb; exact h.byt i hi
  · intro i j hi hj; rw [at_]; split; exact hk j hj; exact h.kno i j hi hj
theorem ROk.putLog {d : Wd} (h : ROk d) (k : Nat) (hk : k < 5) (l : List Rec) (hl : l.length ≤ 60) (hb : ∀ r ∈ l, recOk r) : ROk (rPutLog d k l) :=
  h.put k _ (h.fol k hk) (h.rol k hk) hl hb (fun j hj => h.kno k j hk hj)
theorem mem_drop1 {l : List Rec} {n : Nat} {r : Rec} (h : r ∈ (l.drop n).take 1) : r ∈ l := List.mem_of_mem_drop (List.mem_of_mem_take h)
theorem ROk.appends {d : Wd} (h : ROk d) (k to : Nat) (hk : k < 5) (ht : to < 5) (hf : 1 ≤ (d.mem k).follows) (n : Nat) (hn : n < (d.mem k).log.length) : ROk (rAppends d k to n) := by
  have hl := h.log k hk
  refine h.sends ⟨⟨by show (-1 : Int) ≤ (to : Int); omega, by show (to : Int) < 5; omega⟩, ⟨by show (-1 : Int) ≤ (k : Int); omega, by show (k : Int) < 5; omega⟩, fun _ => by show (0 : Int) ≤ (k : Int); omega, ⟨hf, (h.fol k hk).2⟩, fun e => by simp at e, ⟨by show (0 : Int) ≤ (n : Int); omega, by show (n : Int) ≤ 60; omega⟩, ?_, fun _ => ⟨?_, by show (n : Int) ≤ 59; omega⟩, ?_⟩
  · show (List.take 1 (List.drop (n : Int).toNat (d.mem k).log)).length ≤ 60
    have := List.length_take_le 1 (List.drop (n : Int).toNat (d.mem k).log); omega
  · exact List.length_take_le 1 _
  · intro r hr; exact h.byt k hk r (mem_drop1 hr)
theorem rAppends_same (d : Wd) (k to : Nat) (n : Int) : (rAppends d k to n).mem = d.mem ∧ (rAppends d k to n).eras = d.eras ∧ (rAppends d k to n).active = d.active := rSends_same _ _
theorem rProdTo_same (d : Wd) (k : Nat) (m : Mem) (kk n dn : Int) : ∀ j, (rProdTo d k m kk n dn j).mem = d.mem ∧ (rProdTo d k m kk n dn j).eras = d.eras ∧ (rProdTo d k m kk n dn j).active = d.active
  | 0 => ⟨rfl, rfl, rfl⟩
  | j + 1 => by
    have ih := rProdTo_same d k m kk n dn j
    unfold rProdTo
    split
    · exact ih
    · split
      · rw [(rAppends_same _ _ _ _).1, (rAppends_same _ _ _ _).2.1, (rAppends_same _ _ _ _).2.2]; exact ih
      · split
        · rw [(rAppends_same _ _ _ _).1, (rAppends_same _ _ _ _).2.1, (rAppends_same _ _ _ _).2.2]; exact ih
        · exact ih
theorem ROk.prodTo {d : Wd} (h : ROk d) (k : Nat) (hk : k < 5) (m : Mem) (kk dn : Int) (n : Nat) (hf : 1 ≤ (d.mem k).follows) (hkn : ∀ j, j < 5 → 0 ≤ m.knows j)
    (hn : kk < 0 → n < (d.mem k).log.length) (hn2 : 0 ≤ kk → n = (d.mem k).log.length) : ∀ j, j ≤ 5 → ROk (rProdTo d k m kk n dn j)
  | 0, _ => h
  | j + 1, hj => by
    have ih := h.prodTo k hk m kk dn n hf hkn hn hn2 j (by omega)
    have hs := (rProdTo_same d k m kk n dn j).1
    unfold rProdTo
    split
    · exact ih
    · split
      · rename_i hlt; exact ih.appends k j hk (by omega) (by rw [hs]; exact hf) n (by rw [hs]; exact hn hlt)
      · split
        · rename_i hge hh
          have e : m.knows j = ((m.knows j).toNat : Int) := by have := hkn j (by omega); omega
          rw [e]
          exact ih.appends k j hk (by omega) (by rw [hs]; exact hf) _ (by rw [hs]; have := hn2 (by omega); omega)
        · exact ih
end Go.Proofs.Ythpfgmdffendoaa
