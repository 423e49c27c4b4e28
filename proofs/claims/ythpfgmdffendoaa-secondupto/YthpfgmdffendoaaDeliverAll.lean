/- My own text: several texts in one. -/
import Derived.Test.YthpfgmdffendoaaTakeAck
import Derived.Test.YthpfgmdffendoaaFetch
import Derived.Test.YthpfgmdffendoaaCalls1
import Derived.Test.YthpfgmdffendoaaMsgs
namespace Go.Proofs.Ythpfgmdffendoaa
set_option linter.unusedVariables false
set_option linter.unusedSimpArgs false
open Go.RowKit
/-- A message that may be under way while there is one epoch. -/
structure Plain (m : Msg) : Prop where
  to : 0 ≤ m.to ∧ m.to < 5
  frm : 0 ≤ m.frm ∧ m.frm < 5
  kind : m.kind = 8 ∨ m.kind = 9
  one : m.kind = 8 → ∃ r, m.recs = [r]
section
variable {w : World} {S : Nat → Prop} {b : Nat} {c : Clu} {lv : Nat → Value} {ev uv : Value} {mv : List (Msg × Value)}
set_option maxHeartbeats 3200000 in
set_option maxRecDepth 100000 in
theorem takeIn_any (h : Rep w S b c lv ev uv mv) (hok : Ok c) (m : Msg) (hp : Plain m) (rv : Value) (hrv : w.ownsRow 0 36 3 rv m.recs.length (recCells m.recs))
    (hl60 : ∀ k, k < 5 → m.kind = 8 → m.n = ((c.nodes k).log.length : Int) → (c.nodes k).log.length < 60) :
    Calls Try.prog 56 #[.pointer (some ⟨b, 0, none⟩), msgVal m rv] w fun e w' =>
      e = .returned (.tuple #[]) ∧ (∃ lv' uv' mv', Rep w' (Ext S w) b (takeIn c m) lv' ev uv' mv') ∧ Fr S w w' := by
  obtain ⟨k, hto⟩ := Int.eq_ofNat_of_zero_le hp.to.1
  obtain ⟨f, hfr⟩ := Int.eq_ofNat_of_zero_le hp.frm.1
  have hk : k < 5 := by have := hp.to.2; omega
  have hf : f < 5 := by have := hp.frm.2; omega
  have hnb : nodeB m.to = true := by rw [hto]; simp [nodeB]; omega
  have hnk : nodeB (k : Int) = true := by simp [nodeB]; omega
  obtain ⟨ro, rc, rfl, _, _, hrp⟩ := ownsRow_shape hrv
  have hb := h.lt
  have HB0 := hidP (show ∀ o : Obj, Below w.heap.size w (w.alloc o) from fun o => (Below.refl _ _).alloc (Nat.le_refl _) o)
  have H := hidP h
  have HK := hidP hp.kind
  have HTO := hidP hto
  have HTI := hidP (show takeIn c m = if (c.nodes k).up = true then (if m.kind = 8 then takeApp c k m else if m.kind = 9 then takeAck c k m else c) else c by
    unfold takeIn
    rw [hto, show ((k : Int)).toNat = k from rfl]
    by_cases q : (c.nodes k).up = true
    · rw [if_pos ⟨hnk, q⟩, if_pos q]
    · rw [if_neg (fun x => q x.2), if_neg q])
  have HA : Hid (m.kind = 8 → ∀ W, Below w.heap.size w W → Calls Try.prog 77 #[.pointer (some ⟨b, 0, none⟩), msgVal m (.slice ro m.recs.length rc)] W fun e w' =>
      e = .returned (.tuple #[]) ∧ (∃ lv' uv' mv', Rep w' (Ext S W) b (takeApp c k m) lv' ev uv' mv') ∧ Fr S W w') := by
    intro h8 W hW
    obtain ⟨r, hr⟩ := hp.one h8
    rw [hr] at hrv hrp ⊢
    obtain ⟨rg, rfl⟩ := hrp (by simp)
    exact takeApp_any (h.below hW) hok k hk m hto r hr rg rc (ownsRow_same hrv fun g _ hl => hW.block g hl) (fun x => hl60 k hk h8 x)
  have HC : Hid (∀ W, Below w.heap.size w W → Calls Try.prog 78 #[.pointer (some ⟨b, 0, none⟩), msgVal m (.slice ro m.recs.length rc)] W fun e w' =>
      e = .returned (.tuple #[]) ∧ (∃ lv' uv' mv', Rep w' (Ext S W) b (takeAck c k m) lv' ev uv' mv') ∧ Fr S W w') := fun W hW => takeAck_any (h.below hW) hok k hk m hto f hf hfr ro _ rc
  unfold msgVal at HA HC ⊢
  have u0 := h.cUp k hk
  generalize m.recs.length = rl at *
  clear h hok hp hrv hrp hl60 hnb hfr
  have hk0 : (0 : Int) ≤ (k : Int) := by omega
  have hk1 : (k : Int) < 5 := by omega
  rw [hto]
  rw [hto] at HA HC
  clear hto
  cases hup : (c.nodes k).up
  · rw [hup] at u0
    have HF := hidP (show takeIn c m = c by rw [HTI.out, hup]; rfl)
    go_enter Try.func56, Try.ntmps56
    go_wp2_with fail
    refine wp_genP (fun W => Below w.heap.size w W ∧ w.heap.size < W.heap.size ∧ W.cell? ⟨b, k * 10, none⟩ = some (.bool false) ∧ W.heap[w.heap.size]? = some (.cells #[.int .i64 m.kind, .int .i64 m.frm, .int .i64 k, .int .i64 m.epoch, .int .i64 m.n, .slice ro rl rc] 91)) ⟨HB0.out _, by simp, by simp [World.cell?_alloc_some, u0], heap_alloc_new w _⟩ ?_
    rintro W ⟨hW1, hW2, u1, hW3⟩
    have m0 : W.cell? ⟨w.heap.size, 0, none⟩ = some (.int .i64 m.kind) := (cell_of_row _ _ _ _ _ _ hW3).trans rfl
    have m1 : W.cell? ⟨w.heap.size, 1, none⟩ = some (.int .i64 m.frm) := (cell_of_row _ _ _ _ _ _ hW3).trans rfl
    have m2 : W.cell? ⟨w.heap.size, 2, none⟩ = some (.int .i64 k) := (cell_of_row _ _ _ _ _ _ hW3).trans rfl
    have m3 : W.cell? ⟨w.heap.size, 3, none⟩ = some (.int .i64 m.epoch) := (cell_of_row _ _ _ _ _ _ hW3).trans rfl
    have m4 : W.cell? ⟨w.heap.size, 4, none⟩ = some (.int .i64 m.n) := (cell_of_row _ _ _ _ _ _ hW3).trans rfl
    have m5 : W.cell? ⟨w.heap.size, 5, none⟩ = some (.slice ro rl rc) := (cell_of_row _ _ _ _ _ _ hW3).trans rfl
    have HW1 := hidP hW1
    clear hW1 hW3 u0
    go_quiet (first | (go_at_call 40; refine Calls.quiet_of_same (isNode_any _ _)))
    go_wp2
    exact bodyPost_ret (results_none rfl _ _ _) rfl ⟨rfl, ⟨_, _, _, by rw [HF.out]; exact (((H.out.mono (S' := Ext S w) fun q _ e => Or.inl e).below HW1.out).same fun _ _ _ => rfl)⟩, (Fr.below HW1.out).then (Fr.drewP _ W nq)⟩
  · rw [hup] at u0
    rcases HK.out with h8 | h9
    · have HF := hidP (show takeIn c m = takeApp c k m by rw [HTI.out, hup, if_pos rfl, if_pos h8])
      have HC0 := hidP (HA.out h8)
      rw [h8] at HC0 ⊢
      clear h8 HA HC HTI HK
      go_enter Try.func56, Try.ntmps56
      go_wp2_with fail
      refine wp_genP (fun W => Below w.heap.size w W ∧ w.heap.size < W.heap.size ∧ W.cell? ⟨b, k * 10, none⟩ = some (.bool true) ∧ W.heap[w.heap.size]? = some (.cells #[.int .i64 8, .int .i64 m.frm, .int .i64 k, .int .i64 m.epoch, .int .i64 m.n, .slice ro rl rc] 91)) ⟨HB0.out _, by simp, by simp [World.cell?_alloc_some, u0], heap_alloc_new w _⟩ ?_
      rintro W ⟨hW1, hW2, u1, hW3⟩
      have m0 : W.cell? ⟨w.heap.size, 0, none⟩ = some (.int .i64 8) := (cell_of_row _ _ _ _ _ _ hW3).trans rfl
      have m1 : W.cell? ⟨w.heap.size, 1, none⟩ = some (.int .i64 m.frm) := (cell_of_row _ _ _ _ _ _ hW3).trans rfl
      have m2 : W.cell? ⟨w.heap.size, 2, none⟩ = some (.int .i64 k) := (cell_of_row _ _ _ _ _ _ hW3).trans rfl
      have m3 : W.cell? ⟨w.heap.size, 3, none⟩ = some (.int .i64 m.epoch) := (cell_of_row _ _ _ _ _ _ hW3).trans rfl
      have m4 : W.cell? ⟨w.heap.size, 4, none⟩ = some (.int .i64 m.n) := (cell_of_row _ _ _ _ _ _ hW3).trans rfl
      have m5 : W.cell? ⟨w.heap.size, 5, none⟩ = some (.slice ro rl rc) := (cell_of_row _ _ _ _ _ _ hW3).trans rfl
      have HW1 := hidP hW1
      clear hW1 hW3 u0
      go_quiet (first | (go_at_call 40; refine Calls.quiet_of_same (isNode_any _ _)))
      go_wp2_with (first | (go_at_call 77; refine (HC0.out (W.drewN nq) (HW1.out.trans ⟨rfl, rfl, rfl, Nat.le_refl _, fun _ _ => rfl⟩)).mono ?_; rintro e w3 ⟨rfl, ⟨lv3, uv3, mv3, hR3⟩, hF3⟩; have HR3 := hidP hR3; have HF3 := hidP hF3; clear hR3 hF3))
      exact bodyPost_end (results_none rfl _ _ _) rfl ⟨rfl, ⟨_, _, _, by
        rw [HF.out]
        exact HR3.out.mono fun q _ e => by
          rcases e with e | e
          · exact Or.inl e
          · exact Or.inr (Nat.le_trans HW1.out.size e)⟩, ((Fr.below HW1.out).then (Fr.drewP _ W nq)).then HF3.out⟩
    · have HF := hidP (show takeIn c m = takeAck c k m by rw [HTI.out, hup, if_pos rfl, if_neg (by omega), if_pos h9])
      have HC0 := hidP HC.out
      rw [h9] at HC0 ⊢
      clear h9 HA HC HTI HK
      go_enter Try.func56, Try.ntmps56
      go_wp2_with fail
      refine wp_genP (fun W => Below w.heap.size w W ∧ w.heap.size < W.heap.size ∧ W.cell? ⟨b, k * 10, none⟩ = some (.bool true) ∧ W.heap[w.heap.size]? = some (.cells #[.int .i64 9, .int .i64 m.frm, .int .i64 k, .int .i64 m.epoch, .int .i64 m.n, .slice ro rl rc] 91)) ⟨HB0.out _, by simp, by simp [World.cell?_alloc_some, u0], heap_alloc_new w _⟩ ?_
      rintro W ⟨hW1, hW2, u1, hW3⟩
      have m0 : W.cell? ⟨w.heap.size, 0, none⟩ = some (.int .i64 9) := (cell_of_row _ _ _ _ _ _ hW3).trans rfl
      have m1 : W.cell? ⟨w.heap.size, 1, none⟩ = some (.int .i64 m.frm) := (cell_of_row _ _ _ _ _ _ hW3).trans rfl
      have m2 : W.cell? ⟨w.heap.size, 2, none⟩ = some (.int .i64 k) := (cell_of_row _ _ _ _ _ _ hW3).trans rfl
      have m3 : W.cell? ⟨w.heap.size, 3, none⟩ = some (.int .i64 m.epoch) := (cell_of_row _ _ _ _ _ _ hW3).trans rfl
      have m4 : W.cell? ⟨w.heap.size, 4, none⟩ = some (.int .i64 m.n) := (cell_of_row _ _ _ _ _ _ hW3).trans rfl
      have m5 : W.cell? ⟨w.heap.size, 5, none⟩ = some (.slice ro rl rc) := (cell_of_row _ _ _ _ _ _ hW3).trans rfl
      have HW1 := hidP hW1
      clear hW1 hW3 u0
      go_quiet (first | (go_at_call 40; refine Calls.quiet_of_same (isNode_any _ _)))
      go_wp2_with (first | (go_at_call 78; refine (HC0.out (W.drewN nq) (HW1.out.trans ⟨rfl, rfl, rfl, Nat.le_refl _, fun _ _ => rfl⟩)).mono ?_; rintro e w3 ⟨rfl, ⟨lv3, uv3, mv3, hR3⟩, hF3⟩; have HR3 := hidP hR3; have HF3 := hidP hF3; clear hR3 hF3))
      exact bodyPost_end (results_none rfl _ _ _) rfl ⟨rfl, ⟨_, _, _, by
        rw [HF.out]
        exact HR3.out.mono fun q _ e => by
          rcases e with e | e
          · exact Or.inl e
          · exact Or.inr (Nat.le_trans HW1.out.size e)⟩, ((Fr.below HW1.out).then (Fr.drewP _ W nq)).then HF3.out⟩
end
end Go.Proofs.Ythpfgmdffendoaa

namespace Go.Proofs.Ythpfgmdffendoaa
set_option linter.unusedVariables false
set_option linter.unusedSimpArgs false
open Go.RowKit
def downNd (n : Nd) : Nd := { up := false, follows := n.follows, given := n.given, role := 0, log := n.log, known := fun _ => 0 }
def crash (c : Clu) (node : Int) : Clu × Int := if refNode c node = 0 then ({ c with nodes := upd c.nodes node.toNat (downNd (c.nodes node.toNat)) }, 0) else (c, refNode c node)
def restart (c : Clu) (node : Int) : Clu × Int :=
  if nodeB node then (if (c.nodes node.toNat).up then (c, 4) else ({ c with nodes := upd c.nodes node.toNat { c.nodes node.toNat with up := true } }, 0)) else (c, 2)
theorem Cells.setUp {cs : Array Value} {n : Nat → Nd} {lv : Nat → Value} {ev uv : Value} (h : Cells cs n lv ev uv) (k : Nat) (hk : k < 5) (u : Bool) : Cells (cs.setIfInBounds (k * 10) (.bool u)) (upd n k { n k with up := u }) lv ev uv := by
  have hs := h.size
  have ne : ∀ j x, cs[j]? = some x → k * 10 ≠ j → (cs.setIfInBounds (k * 10) (.bool u))[j]? = some x := fun j x hx hj => by rw [Array.getElem?_setIfInBounds_ne (by omega)]; exact hx
  have e : ∀ i, (upd n k { n k with up := u } i).follows = (n i).follows ∧ (upd n k { n k with up := u } i).given = (n i).given ∧ (upd n k { n k with up := u } i).role = (n i).role ∧ (upd n k { n k with up := u } i).known = (n i).known := by
    intro i; unfold upd; by_cases q : i = k
    · subst q; simp
    · simp [q]
  constructor
  · simp [hs]
  · intro i hi
    by_cases q : i = k
    · subst q; rw [upd_same, Array.getElem?_setIfInBounds_self, if_pos (by omega)]
    · rw [upd_other _ _ _ _ q]; exact ne _ _ (h.up i hi) (by omega)
  · intro i hi; rw [(e i).1]; exact ne _ _ (h.fol i hi) (by omega)
  · intro i hi; rw [(e i).2.1]; exact ne _ _ (h.giv i hi) (by omega)
  · intro i hi; rw [(e i).2.2.1]; exact ne _ _ (h.rol i hi) (by omega)
  · intro i hi; exact ne _ _ (h.log i hi) (by omega)
  · intro i j hi hj; rw [(e i).2.2.2]; exact ne _ _ (h.kno i j hi hj) (by omega)
  · exact ne _ _ h.eps (by omega)
  · exact ne _ _ h.way (by omega)
theorem Cells.setRol {cs : Array Value} {n : Nat → Nd} {lv : Nat → Value} {ev uv : Value} (h : Cells cs n lv ev uv) (k : Nat) (hk : k < 5) (u : Int) : Cells (cs.setIfInBounds (k * 10 + 3) (.int .i64 u)) (upd n k { n k with role := u }) lv ev uv := by
  have hs := h.size
  have ne : ∀ j x, cs[j]? = some x → k * 10 + 3 ≠ j → (cs.setIfInBounds (k * 10 + 3) (.int .i64 u))[j]? = some x := fun j x hx hj => by rw [Array.getElem?_setIfInBounds_ne (by omega)]; exact hx
  have e : ∀ i, (upd n k { n k with role := u } i).up = (n i).up ∧ (upd n k { n k with role := u } i).follows = (n i).follows ∧ (upd n k { n k with role := u } i).given = (n i).given ∧ (upd n k { n k with role := u } i).known = (n i).known := by
    intro i; unfold upd; by_cases q : i = k
    · subst q; simp
    · simp [q]
  constructor
  · simp [hs]
  · intro i hi; rw [(e i).1]; exact ne _ _ (h.up i hi) (by omega)
  · intro i hi; rw [(e i).2.1]; exact ne _ _ (h.fol i hi) (by omega)
  · intro i hi; rw [(e i).2.2.1]; exact ne _ _ (h.giv i hi) (by omega)
  · intro i hi
    by_cases q : i = k
    · subst q; rw [upd_same, Array.getElem?_setIfInBounds_self, if_pos (by omega)]
    · rw [upd_other _ _ _ _ q]; exact ne _ _ (h.rol i hi) (by omega)
  · intro i hi; exact ne _ _ (h.log i hi) (by omega)
  · intro i j hi hj; rw [(e i).2.2.2]; exact ne _ _ (h.kno i j hi hj) (by omega)
  · exact ne _ _ h.eps (by omega)
  · exact ne _ _ h.way (by omega)
theorem Cells.same {cs : Array Value} {n : Nat → Nd} {lv : Nat → Value} {ev uv : Value} (h : Cells cs n lv ev uv) (o : Nat) (v : Value) (hv : cs[o]? = some v) : Cells (cs.setIfInBounds o v) n lv ev uv := by
  have : cs.setIfInBounds o v = cs := by
    apply Array.ext_getElem?
    intro i
    by_cases e : o = i
    · subst e
      rw [Array.getElem?_setIfInBounds_self, if_pos (Array.getElem?_eq_some_iff.1 hv).1]; exact hv.symm
    · rw [Array.getElem?_setIfInBounds_ne e]
  rw [this]; exact h
section
variable {w : World} {S : Nat → Prop} {b : Nat} {c : Clu} {lv : Nat → Value} {ev uv : Value} {mv : List (Msg × Value)}
set_option maxHeartbeats 1600000 in
set_option maxRecDepth 100000 in
theorem deliver_any (h : Rep w S b c lv ev uv mv) (hok : Ok c) (hpl : ∀ m ∈ c.ways, Plain m) (hl60 : ∀ m ∈ c.ways, ∀ k, k < 5 → m.kind = 8 → m.n = ((c.nodes k).log.length : Int) → (c.nodes k).log.length < 60) (i : Int) :
    Calls Try.prog 41 #[.pointer (some ⟨b, 0, none⟩), .int .i64 i] w fun e w' =>
      e = .returned (.int .i64 (deliver c i).2) ∧ (∃ lv' uv' mv', Rep w' (Ext S w) b (deliver c i).1 lv' ev uv' mv') ∧ Fr S w w' := by
  have H := hidP h
  have HO := hidP hok
  cases hu : underB c i
  · have HF := hidP (show deliver c i = (c, 13) by simp [deliver, hu])
    clear h hok hpl hl60
    go_enter Try.func41, Try.ntmps41
    go_wp2_with (first | (go_at_call 37; refine (isUnder_any H.out _).mono ?_; rintro e w' ⟨rfl, hw1⟩; rw [hw1]; clear hw1))
    go_ret
    rw [HF.out]
    exact ⟨rfl, ⟨_, _, _, H.out.mono fun _ _ e => Or.inl e⟩, Fr.refl _ _⟩
  · obtain ⟨n, x, rfl, hx, hcx⟩ := underB_at h hu
    have hmem := List.mem_of_getElem? hcx
    have HF := hidP (show deliver c n = (takeIn (takeOut c n) x.1, 0) by simp [deliver, hu, hcx])
    have HX := hidP hx
    have HP := hidP (hpl _ hmem)
    have H60 := hidP (hl60 _ hmem)
    have HOT := hidP (show Ok (takeOut c n) from ⟨hok.log, by show (c.ways.eraseIdx n).length ≤ 50; have := hok.ways; rw [List.length_eraseIdx]; split <;> omega, hok.eps⟩)
    obtain ⟨ro, rc, hxv, _⟩ := ownsRow_shape (h.recs x (List.mem_of_getElem? hx))
    have HXV := hidP hxv
    have HT := hidP (takeOut_any h hok n x hx)
    rw [hxv] at HT
    clear h hok hx hpl hl60 hcx hmem hxv
    go_enter Try.func41, Try.ntmps41
    go_wp2_with (first | (go_at_call 37; refine (isUnder_any H.out _).mono ?_; rintro e w' ⟨rfl, hw1⟩; rw [hw1]; clear hw1))
    refine HT.out.mono ?_
    rintro e w2 ⟨rfl, ⟨uv2, hR2⟩, hF2, hrow⟩
    have HR2 := hidP hR2
    have HF2 := hidP hF2
    have HTI := hidP (fun W (hW : Below w2.heap.size w2 W) => takeIn_any (hR2.below hW) HOT.out x.1 HP.out (.slice ro x.1.recs.length rc) (ownsRow_same (w' := W) hrow fun g _ hl => hW.block g hl) H60.out)
    unfold msgVal at HTI
    clear hR2 hF2 hrow HT
    go_wp2_with fail
    refine (HTI.out _ ((Below.refl _ w2).alloc (Nat.le_refl _) _)).mono ?_
    rintro e w3 ⟨rfl, ⟨lv3, uv3, mv3, hR3⟩, hF3⟩
    have HR3 := hidP hR3
    have HF3 := hidP hF3
    have hs2 : w.heap.size ≤ w2.heap.size := HF2.out.size
    clear hR3 hF3
    go_wp2
    go_ret
    rw [HF.out]
    refine ⟨rfl, ⟨lv3, uv3, mv3, HR3.out.mono fun q _ e => ?_⟩, (HF2.out.then (Fr.alloc _ _ _)).trans HF3.out⟩
    rcases e with e | e
    · exact e
    · exact Or.inr (by simp at e; omega)
theorem Rep.downed (h : Rep w S b c lv ev uv mv) (k : Nat) (hk : k < 5) :
    Rep ((((((((((w.setCell ⟨b, k * 10, none⟩ (.bool false)).setCell ⟨b, k * 10 + 1, none⟩ (.int .i64 (c.nodes k).follows)).setCell ⟨b, k * 10 + 2, none⟩ (.int .i64 (c.nodes k).given)).setCell ⟨b, k * 10 + 3, none⟩ (.int .i64 0)).setCell ⟨b, k * 10 + 4, none⟩ (lv k)).setCell ⟨b, k * 10 + 5, none⟩ (.int .i64 0)).setCell ⟨b, k * 10 + 6, none⟩ (.int .i64 0)).setCell ⟨b, k * 10 + 7, none⟩ (.int .i64 0)).setCell ⟨b, k * 10 + 8, none⟩ (.int .i64 0)).setCell ⟨b, k * 10 + 9, none⟩ (.int .i64 0)).drew S b { c with nodes := upd c.nodes k (downNd (c.nodes k)) } lv ev uv mv ∧ Fr S w ((((((((((w.setCell ⟨b, k * 10, none⟩ (.bool false)).setCell ⟨b, k * 10 + 1, none⟩ (.int .i64 (c.nodes k).follows)).setCell ⟨b, k * 10 + 2, none⟩ (.int .i64 (c.nodes k).given)).setCell ⟨b, k * 10 + 3, none⟩ (.int .i64 0)).setCell ⟨b, k * 10 + 4, none⟩ (lv k)).setCell ⟨b, k * 10 + 5, none⟩ (.int .i64 0)).setCell ⟨b, k * 10 + 6, none⟩ (.int .i64 0)).setCell ⟨b, k * 10 + 7, none⟩ (.int .i64 0)).setCell ⟨b, k * 10 + 8, none⟩ (.int .i64 0)).setCell ⟨b, k * 10 + 9, none⟩ (.int .i64 0)).drew := by
  have uu : ∀ (n : Nat → Nd) (x y : Nd), upd (upd n k x) k y = upd n k y := fun n x y => by funext i; unfold upd; split <;> rfl
  have lg : ∀ (n : Nat → Nd) (x : Nd), x.log = (n k).log → ∀ i, i < 5 → (upd n k x i).log = (n i).log := fun n x hx i _ => by unfold upd; split; (rename_i q; rw [q]; exact hx); rfl
  have s0 := h.setOwn (k * 10) (.bool false) (upd c.nodes k { c.nodes k with up := false }) (lg _ _ rfl) fun cs hcs => hcs.setUp k hk false
  have s1 := s0.1.setOwn (k * 10 + 1) (.int .i64 (c.nodes k).follows) (upd c.nodes k { c.nodes k with up := false }) (fun _ _ => rfl) fun cs hcs => hcs.same _ _ (by have := hcs.fol k hk; simp only [upd_same] at this; exact this)
  have s2 := s1.1.setOwn (k * 10 + 2) (.int .i64 (c.nodes k).given) (upd c.nodes k { c.nodes k with up := false }) (fun _ _ => rfl) fun cs hcs => hcs.same _ _ (by have := hcs.giv k hk; simp only [upd_same] at this; exact this)
  have s3 := s2.1.setOwn (k * 10 + 3) (.int .i64 0) (upd c.nodes k { c.nodes k with up := false, role := 0 }) (fun i hi => by simp only [upd]; split <;> rfl) fun cs hcs => by
    have := hcs.setRol k hk 0
    simp only [uu, upd_same] at this; exact this
  have s4 := s3.1.setOwn (k * 10 + 4) (lv k) (upd c.nodes k { c.nodes k with up := false, role := 0 }) (fun _ _ => rfl) fun cs hcs => hcs.same _ _ (hcs.log k hk)
  have s5 := s4.1.setOwn (k * 10 + 5) (.int .i64 0) (upd c.nodes k { c.nodes k with up := false, role := 0, known := upd (c.nodes k).known 0 0 }) (fun i hi => by simp only [upd]; split <;> rfl) fun cs hcs => by
    have := Cells.setKno (c := { c with nodes := upd c.nodes k { c.nodes k with up := false, role := 0 } }) hcs k hk 0 (by omega) 0
    simp only [uu, upd_same] at this; exact this
  have s6 := s5.1.setOwn (k * 10 + 6) (.int .i64 0) (upd c.nodes k { c.nodes k with up := false, role := 0, known := upd (upd (c.nodes k).known 0 0) 1 0 }) (fun i hi => by simp only [upd]; split <;> rfl) fun cs hcs => by
    have := Cells.setKno (c := { c with nodes := upd c.nodes k { c.nodes k with up := false, role := 0, known := upd (c.nodes k).known 0 0 } }) hcs k hk 1 (by omega) 0
    simp only [uu, upd_same] at this; exact this
  have s7 := s6.1.setOwn (k * 10 + 7) (.int .i64 0) (upd c.nodes k { c.nodes k with up := false, role := 0, known := upd (upd (upd (c.nodes k).known 0 0) 1 0) 2 0 }) (fun i hi => by simp only [upd]; split <;> rfl) fun cs hcs => by
    have := Cells.setKno (c := { c with nodes := upd c.nodes k { c.nodes k with up := false, role := 0, known := upd (upd (c.nodes k).known 0 0) 1 0 } }) hcs k hk 2 (by omega) 0
    simp only [uu, upd_same] at this; exact this
  have s8 := s7.1.setOwn (k * 10 + 8) (.int .i64 0) (upd c.nodes k { c.nodes k with up := false, role := 0, known := upd (upd (upd (upd (c.nodes k).known 0 0) 1 0) 2 0) 3 0 }) (fun i hi => by simp only [upd]; split <;> rfl) fun cs hcs => by
    have := Cells.setKno (c := { c with nodes := upd c.nodes k { c.nodes k with up := false, role := 0, known := upd (upd (upd (c.nodes k).known 0 0) 1 0) 2 0 } }) hcs k hk 3 (by omega) 0
    simp only [uu, upd_same] at this; exact this
  have s9 := s8.1.setOwn (k * 10 + 9) (.int .i64 0) (upd c.nodes k (downNd (c.nodes k))) (fun i hi => by simp only [upd]; split <;> rfl) fun cs hcs => by
    have := Cells.setKno (c := { c with nodes := upd c.nodes k { c.nodes k with up := false, role := 0, known := upd (upd (upd (upd (c.nodes k).known 0 0) 1 0) 2 0) 3 0 } }) hcs k hk 4 (by omega) 0
    simp only [uu, upd_same] at this
    refine { size := this.size, up := fun i hi => ?_, fol := fun i hi => ?_, giv := fun i hi => ?_, rol := fun i hi => ?_, log := this.log, kno := fun i j hi hj => ?_, eps := this.eps, way := this.way }
    · have q := this.up i hi
      by_cases e : i = k
      · subst e; rw [upd_same] at q ⊢; exact q
      · rw [upd_other _ _ _ _ e] at q ⊢; exact q
    · have q := this.fol i hi
      by_cases e : i = k
      · subst e; rw [upd_same] at q ⊢; exact q
      · rw [upd_other _ _ _ _ e] at q ⊢; exact q
    · have q := this.giv i hi
      by_cases e : i = k
      · subst e; rw [upd_same] at q ⊢; exact q
      · rw [upd_other _ _ _ _ e] at q ⊢; exact q
    · have q := this.rol i hi
      by_cases e : i = k
      · subst e; rw [upd_same] at q ⊢; exact q
      · rw [upd_other _ _ _ _ e] at q ⊢; exact q
    · have q := this.kno i j hi hj
      by_cases e : i = k
      · subst e
        rw [upd_same] at q ⊢
        rw [q]
        show some (Value.int .i64 (upd (upd (upd (upd (upd (c.nodes i).known 0 0) 1 0) 2 0) 3 0) 4 0 j)) = some (Value.int .i64 0)
        match j, hj with
        | 0, _ => rfl
        | 1, _ => rfl
        | 2, _ => rfl
        | 3, _ => rfl
        | 4, _ => rfl
      · rw [upd_other _ _ _ _ e] at q ⊢; exact q
  exact ⟨s9.1.drew, (((((((((s0.2.then s1.2).then s2.2).then s3.2).then s4.2).then s5.2).then s6.2).then s7.2).then s8.2).then s9.2).then (Fr.drew _ _)⟩
set_option maxHeartbeats 1600000 in
set_option maxRecDepth 100000 in
theorem goDown_any (h : Rep w S b c lv ev uv mv) (k : Nat) (hk : k < 5) :
    Calls Try.prog 57 #[.pointer (some ⟨b, 0, none⟩), .int .i64 k] w fun e w' =>
      e = .returned (.tuple #[]) ∧ Rep w' S b { c with nodes := upd c.nodes k (downNd (c.nodes k)) } lv ev uv mv ∧ Fr S w w' := by
  obtain ⟨u0, u1, u2, u3, u4, u5, u6, u7, u8, u9⟩ := h.node k hk
  have z0 := h.free (k * 10); have z1 := h.free (k * 10 + 1); have z2 := h.free (k * 10 + 2); have z3 := h.free (k * 10 + 3); have z4 := h.free (k * 10 + 4)
  have z5 := h.free (k * 10 + 5); have z6 := h.free (k * 10 + 6); have z7 := h.free (k * 10 + 7); have z8 := h.free (k * 10 + 8); have z9 := h.free (k * 10 + 9)
  obtain ⟨ao, cap, hlv, hcap, _, hpos⟩ := ownsRow_shape (h.logs k hk)
  rw [hlv] at u4
  have hb := h.lt
  have H := hidP h
  have HL := hidP hlv
  have hk0 : (0 : Int) ≤ (k : Int) := by omega
  have hk1 : (k : Int) < 5 := by omega
  have nb : ¬ b = w.heap.size := by omega
  clear h hlv hpos hcap
  go_enter Try.func57, Try.ntmps57
  go_wp2_with fail
  refine wp_genP (fun W => Rep W S b c lv ev uv mv ∧ Below w.heap.size w W ∧ W.heap[w.heap.size]? = some (.cells #[.bool (c.nodes k).up, .int .i64 (c.nodes k).follows, .int .i64 (c.nodes k).given, .int .i64 (c.nodes k).role, .slice ao (c.nodes k).log.length cap, .int .i64 ((c.nodes k).known 0), .int .i64 ((c.nodes k).known 1), .int .i64 ((c.nodes k).known 2), .int .i64 ((c.nodes k).known 3), .int .i64 ((c.nodes k).known 4)] 79)) ⟨H.out.alloc _, (Below.refl _ _).alloc (Nat.le_refl _) _, heap_alloc_new w _⟩ ?_
  rintro W ⟨hW1, hW2, hW3⟩
  have n1 : W.cell? ⟨w.heap.size, 1, none⟩ = some (.int .i64 (c.nodes k).follows) := (cell_of_row _ _ _ _ _ _ hW3).trans rfl
  have n2 : W.cell? ⟨w.heap.size, 2, none⟩ = some (.int .i64 (c.nodes k).given) := (cell_of_row _ _ _ _ _ _ hW3).trans rfl
  have n4 : W.cell? ⟨w.heap.size, 4, none⟩ = some (.slice ao (c.nodes k).log.length cap) := (cell_of_row _ _ _ _ _ _ hW3).trans rfl
  clear u0 u1 u2 u3 u4 u5 u6 u7 u8 u9 z0 z1 z2 z3 z4 z5 z6 z7 z8 z9
  obtain ⟨u0, u1, u2, u3, u4, u5, u6, u7, u8, u9⟩ := hW1.node k hk
  have z0 := hW1.free (k * 10); have z1 := hW1.free (k * 10 + 1); have z2 := hW1.free (k * 10 + 2); have z3 := hW1.free (k * 10 + 3); have z4 := hW1.free (k * 10 + 4)
  have z5 := hW1.free (k * 10 + 5); have z6 := hW1.free (k * 10 + 6); have z7 := hW1.free (k * 10 + 7); have z8 := hW1.free (k * 10 + 8); have z9 := hW1.free (k * 10 + 9)
  rw [HL.out] at u4
  have HD := hidP (hW1.downed k hk)
  rw [HL.out] at HD
  have HW2 := hidP hW2
  clear hW1 hW2 hW3
  go_region
  exact bodyPost_end (results_none rfl _ _ _) rfl ⟨rfl, HD.out.1, (Fr.below HW2.out).then HD.out.2⟩
set_option maxHeartbeats 1600000 in
theorem crash_any (h : Rep w S b c lv ev uv mv) (node : Int) :
    Calls Try.prog 43 #[.pointer (some ⟨b, 0, none⟩), .int .i64 node] w fun e w' =>
      e = .returned (.int .i64 (crash c node).2) ∧ Rep w' S b (crash c node).1 lv ev uv mv ∧ Fr S w w' := by
  have H := hidP h
  by_cases hr : refNode c node = 0
  · obtain ⟨k, rfl, hk, hup⟩ := refNode_zero hr
    have HF := hidP (show crash c k = ({ c with nodes := upd c.nodes k (downNd (c.nodes k)) }, 0) by unfold crash; rw [if_pos hr]; rfl)
    have HR := hidP hr
    clear h hr hup
    go_enter Try.func43, Try.ntmps43
    go_wp2_with (first | (go_at_call 36; refine (refNode_any H.out _).mono ?_; rw [HR.out]; rintro e w' ⟨rfl, hw1⟩; rw [hw1]; clear hw1) | (go_at_call 57; refine (goDown_any H.out k hk).mono ?_; rintro e w2 ⟨rfl, hR2, hF2⟩; have HR2 := hidP hR2; have HF2 := hidP hF2; clear hR2 hF2))
    go_ret
    rw [HF.out]
    exact ⟨rfl, HR2.out, HF2.out⟩
  · have HF := hidP (show crash c node = (c, refNode c node) by unfold crash; rw [if_neg hr])
    have hr' : (refNode c node != 0) = true := by simp [hr]
    clear h hr
    go_enter Try.func43, Try.ntmps43
    go_wp2_with (first | (go_at_call 36; refine (refNode_any H.out _).mono ?_; rintro e w' ⟨rfl, hw1⟩; rw [hw1]; clear hw1))
    go_ret
    rw [HF.out]
    exact ⟨rfl, H.out, Fr.refl _ _⟩
set_option maxHeartbeats 1600000 in
theorem restart_any (h : Rep w S b c lv ev uv mv) (node : Int) :
    Calls Try.prog 44 #[.pointer (some ⟨b, 0, none⟩), .int .i64 node] w fun e w' =>
      e = .returned (.int .i64 (restart c node).2) ∧ Rep w' S b (restart c node).1 lv ev uv mv ∧ Fr S w w' := by
  have H := hidP h
  by_cases hn : 0 ≤ node ∧ node < 5
  · obtain ⟨h0, h5⟩ := hn
    obtain ⟨k, rfl⟩ := Int.eq_ofNat_of_zero_le h0
    have hk : k < 5 := by omega
    have hnb : nodeB (k : Int) = true := by simp [nodeB]; omega
    have u0 := h.cUp k hk
    have z0 := h.free (k * 10)
    have hb := h.lt
    cases hup : (c.nodes k).up
    · rw [hup] at u0
      have HF := hidP (show restart c k = ({ c with nodes := upd c.nodes k { c.nodes k with up := true } }, 0) by unfold restart; rw [if_pos hnb]; show (if (c.nodes k).up = true then _ else _) = _; rw [hup]; rfl)
      have HS := hidP (h.setOwn (k * 10) (.bool true) (upd c.nodes k { c.nodes k with up := true }) (fun i _ => by unfold upd; split; (rename_i q; rw [q]); rfl) fun cs hcs => hcs.setUp k hk true)
      clear h hup
      go_enter Try.func44, Try.ntmps44
      go_wp2_with (first | (go_at_call 40; refine (isNode_any _ _).mono ?_; rintro e w' ⟨rfl, hw1⟩; rw [hw1]; clear hw1))
      go_ret
      rw [HF.out]
      exact ⟨rfl, HS.out.1, HS.out.2⟩
    · rw [hup] at u0
      have HF := hidP (show restart c k = (c, 4) by unfold restart; rw [if_pos hnb]; show (if (c.nodes k).up = true then _ else _) = _; rw [hup]; rfl)
      clear h hup
      go_enter Try.func44, Try.ntmps44
      go_wp2_with (first | (go_at_call 40; refine (isNode_any _ _).mono ?_; rintro e w' ⟨rfl, hw1⟩; rw [hw1]; clear hw1))
      go_ret
      rw [HF.out]
      exact ⟨rfl, H.out, Fr.refl _ _⟩
  · have hnb : nodeB node = false := by simp [nodeB]; omega
    have HF := hidP (show restart c node = (c, 2) by unfold restart; rw [if_neg (by rw [hnb]; decide)])
    clear h hn
    go_enter Try.func44, Try.ntmps44
    go_wp2_with (first | (go_at_call 40; refine (isNode_any _ _).mono ?_; rintro e w' ⟨rfl, hw1⟩; rw [hw1]; clear hw1))
    go_ret
    rw [HF.out]
    exact ⟨rfl, H.out, Fr.refl _ _⟩
end
set_option maxHeartbeats 800000 in
theorem produce_nilP (n p s v : Int) (w : World) :
    Calls Try.prog 14 #[.pointer none, .int .i64 n, .int .i64 p, .int .i64 s, .int .i64 v] w fun e w' => e = .returned (.tuple #[.int .i64 0, .bool false, .int .i64 1]) ∧ Below w.heap.size w w' := by
  go_enter Try.func14, Try.ntmps14
  go_wp2
  exact bodyPost_ret (v := .tuple #[.int .i64 0, .bool false, .int .i64 1]) (by simp [results, Try.results14, go_sem, *]) rfl ⟨rfl, by first | exact Below.refl _ _ | exact (Below.refl _ _).alloc (Nat.le_refl _) _⟩
set_option maxHeartbeats 800000 in
theorem fetch_nilP (n o : Int) (w : World) :
    Calls Try.prog 15 #[.pointer none, .int .i64 n, .int .i64 o] w fun e w' => e = .returned (.tuple #[.agg #[.int .i64 0, .int .i64 0, .int .i64 0], .int .i64 1]) ∧ Below w.heap.size w w' := by
  go_enter Try.func15, Try.ntmps15
  go_wp2
  exact bodyPost_ret (v := .tuple #[.agg #[.int .i64 0, .int .i64 0, .int .i64 0], .int .i64 1]) (by simp [results, Try.results15, go_sem, *]) rfl ⟨rfl, by first | exact Below.refl _ _ | exact (Below.refl _ _).alloc (Nat.le_refl _) _⟩
set_option maxHeartbeats 800000 in
theorem node_nilP (n : Int) (w : World) :
    Calls Try.prog 18 #[.pointer none, .int .i64 n] w fun e w' => e = .returned (.tuple #[.agg #[.bool false, .int .i64 0, .int .i64 0, .int .i64 0, .int .i64 0, .int .i64 0], .int .i64 1]) ∧ Below w.heap.size w w' := by
  go_enter Try.func18, Try.ntmps18
  go_wp2
  exact bodyPost_ret (v := .tuple #[.agg #[.bool false, .int .i64 0, .int .i64 0, .int .i64 0, .int .i64 0, .int .i64 0], .int .i64 1]) (by simp [results, Try.results18, go_sem, *]) rfl ⟨rfl, by first | exact Below.refl _ _ | exact (Below.refl _ _).alloc (Nat.le_refl _) _⟩
set_option maxHeartbeats 800000 in
theorem messages_nilP (w : World) :
    Calls Try.prog 30 #[.pointer none] w fun e w' => e = .returned (.tuple #[.slice none 0 0, .int .i64 1]) ∧ Below w.heap.size w w' := by
  go_enter Try.func30, Try.ntmps30
  go_wp2
  exact bodyPost_ret (v := .tuple #[.slice none 0 0, .int .i64 1]) (by simp [results, Try.results30, go_sem, *]) rfl ⟨rfl, by first | exact Below.refl _ _ | exact (Below.refl _ _).alloc (Nat.le_refl _) _⟩
set_option maxHeartbeats 800000 in
theorem deliver_nilP (i : Int) (w : World) :
    Calls Try.prog 41 #[.pointer none, .int .i64 i] w fun e w' => e = .returned (.int .i64 1) ∧ Below w.heap.size w w' := by
  go_enter Try.func41, Try.ntmps41
  go_wp2
  exact bodyPost_ret (v := .int .i64 1) (by simp [results, Try.results41, go_sem, *]) rfl ⟨rfl, by first | exact Below.refl _ _ | exact (Below.refl _ _).alloc (Nat.le_refl _) _⟩
set_option maxHeartbeats 800000 in
theorem drop_nilP (i : Int) (w : World) :
    Calls Try.prog 16 #[.pointer none, .int .i64 i] w fun e w' => e = .returned (.int .i64 1) ∧ Below w.heap.size w w' := by
  go_enter Try.func16, Try.ntmps16
  go_wp2
  exact bodyPost_ret (v := .int .i64 1) (by simp [results, Try.results16, go_sem, *]) rfl ⟨rfl, by first | exact Below.refl _ _ | exact (Below.refl _ _).alloc (Nat.le_refl _) _⟩
set_option maxHeartbeats 800000 in
theorem twice_nilP (i : Int) (w : World) :
    Calls Try.prog 17 #[.pointer none, .int .i64 i] w fun e w' => e = .returned (.int .i64 1) ∧ Below w.heap.size w w' := by
  go_enter Try.func17, Try.ntmps17
  go_wp2
  exact bodyPost_ret (v := .int .i64 1) (by simp [results, Try.results17, go_sem, *]) rfl ⟨rfl, by first | exact Below.refl _ _ | exact (Below.refl _ _).alloc (Nat.le_refl _) _⟩
set_option maxHeartbeats 800000 in
theorem crash_nilP (i : Int) (w : World) :
    Calls Try.prog 43 #[.pointer none, .int .i64 i] w fun e w' => e = .returned (.int .i64 1) ∧ Below w.heap.size w w' := by
  go_enter Try.func43, Try.ntmps43
  go_wp2
  exact bodyPost_ret (v := .int .i64 1) (by simp [results, Try.results43, go_sem, *]) rfl ⟨rfl, by first | exact Below.refl _ _ | exact (Below.refl _ _).alloc (Nat.le_refl _) _⟩
set_option maxHeartbeats 800000 in
theorem restart_nilP (i : Int) (w : World) :
    Calls Try.prog 44 #[.pointer none, .int .i64 i] w fun e w' => e = .returned (.int .i64 1) ∧ Below w.heap.size w w' := by
  go_enter Try.func44, Try.ntmps44
  go_wp2
  exact bodyPost_ret (v := .int .i64 1) (by simp [results, Try.results44, go_sem, *]) rfl ⟨rfl, by first | exact Below.refl _ _ | exact (Below.refl _ _).alloc (Nat.le_refl _) _⟩
end Go.Proofs.Ythpfgmdffendoaa
