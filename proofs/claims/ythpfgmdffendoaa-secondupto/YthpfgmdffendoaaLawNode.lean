/- My own text. Walks of package ledgerlaw: node, master. -/
import Derived.Test.YthpfgmdffendoaaGame
namespace Go.Proofs.Ythpfgmdffendoaa
set_option linter.unusedVariables false
set_option linter.unusedSimpArgs false
open Go.RowKit
section
variable {R : World → (Nat → Prop) → Nat → Wd → Prop} {okc : Cl → Prop} {B : Nat} {w w1 : World} {col : Nat → Option Nat} {G : Nat} {av lv : Value} {ps : List (Option Cp)} {bks : List Bk}
theorem res_node (a : Int) (o : Option Wd) : ∃ (u : Bool) (e i r l dn z : Int), (Cl.node a).res o = .tuple #[.agg #[.bool u, .int .i64 e, .int .i64 i, .int .i64 r, .int .i64 l, .int .i64 dn], .int .i64 z] := by
  cases o with
  | none => exact ⟨_, _, _, _, _, _, _, rfl⟩
  | some d => exact ⟨_, _, _, _, _, _, _, rfl⟩
theorem res_config (o : Option Wd) : ∃ (e m l a z : Int), Cl.config.res o = .tuple #[.agg #[.int .i64 e, .int .i64 m, .int .i64 l, .int .i64 a], .int .i64 z] := by
  cases o with
  | none => exact ⟨_, _, _, _, _, rfl⟩
  | some d => exact ⟨_, _, _, _, _, rfl⟩
theorem res_fetch (a b : Int) (o : Option Wd) : ∃ (p s v z : Int), (Cl.fetch a b).res o = .tuple #[.agg #[.int .i64 p, .int .i64 s, .int .i64 v], .int .i64 z] := by
  cases o with
  | none => exact ⟨_, _, _, _, rfl⟩
  | some d => exact ⟨_, _, _, _, rfl⟩
theorem res_produce (a b c d : Int) (o : Option Wd) : ∃ (k : Int) (t : Bool) (z : Int), (Cl.produce a b c d).res o = .tuple #[.int .i64 k, .bool t, .int .i64 z] := by
  cases o with
  | none => exact ⟨_, _, _, rfl⟩
  | some d => exact ⟨_, _, _, rfl⟩
theorem res_crash (a : Int) (o : Option Wd) : ∃ z : Int, (Cl.crash a).res o = .int .i64 z := by cases o <;> exact ⟨_, rfl⟩
theorem res_restart (a : Int) (o : Option Wd) : ∃ z : Int, (Cl.restart a).res o = .int .i64 z := by cases o <;> exact ⟨_, rfl⟩
theorem res_conf (a b : Int) (o : Option Wd) : ∃ z : Int, (Cl.conf a b).res o = .int .i64 z := by cases o <;> exact ⟨_, rfl⟩
theorem res_remind (o : Option Wd) : ∃ z : Int, Cl.remind.res o = .int .i64 z := by cases o <;> exact ⟨_, rfl⟩
theorem res_deliver (a : Int) (o : Option Wd) : ∃ z : Int, (Cl.deliver a).res o = .int .i64 z := by cases o <;> exact ⟨_, rfl⟩
theorem res_drop (a : Int) (o : Option Wd) : ∃ z : Int, (Cl.drop a).res o = .int .i64 z := by cases o <;> exact ⟨_, rfl⟩
theorem res_twice (a : Int) (o : Option Wd) : ∃ z : Int, (Cl.twice a).res o = .int .i64 z := by cases o <;> exact ⟨_, rfl⟩
def opVal (k W a b c d : Int) : Value := .agg #[.int .i64 k, .int .i64 W, .int .i64 a, .int .i64 b, .int .i64 c, .int .i64 d]
set_option maxHeartbeats 1600000 in
theorem lnode_any (s : SideOn R fnPrg 30 25 okc) (h : Game R B w col G av lv ps bks) (he : Eqs ps) {i : Nat} {p : Option Cp} (hi : ps[i]? = some p) (k W a b c d : Int) (hk : k = 9 ∨ k = 10 ∨ k = 11) (ha : In64 a) (hcc : ∀ c : Cl, c.base → okc c) :
    Calls Try.prog 50 #[.agg #[.pointer (ptrX p), .pointer (ptrY p)], opVal k W a b c d] w fun e w' => e = .returned (.bool true) ∧ Post R B w G av lv ps.length bks.length w' := by
  unfold opVal
  rcases hk with rfl | rfl | rfl
  · have C := h.xyAt s he hi (.node a) ha (hcc _ trivial) (.cells #[.pointer (ptrX p), .pointer (ptrY p)] 69) (.cells #[.int .i64 9, .int .i64 W, .int .i64 a, .int .i64 b, .int .i64 c, .int .i64 d] 63)
    obtain ⟨u, e, ins, r, l, dn, z, hz⟩ := res_node a (dX p)
    rw [hz] at C
    generalize ptrX p = px at *
    generalize ptrY p = py at *
    have HC : Hid (Calls Try.prog 18 #[.pointer px, .int .i64 a] ((w.alloc (.cells #[.pointer px, .pointer py] 69)).alloc (.cells #[.int .i64 9, .int .i64 W, .int .i64 a, .int .i64 b, .int .i64 c, .int .i64 d] 63)) fun e' w' => e' = .returned (.tuple #[.agg #[.bool u, .int .i64 e, .int .i64 ins, .int .i64 r, .int .i64 l, .int .i64 dn], .int .i64 z]) ∧ w.heap.size + 2 ≤ w'.heap.size ∧ w'.heap[w.heap.size]? = some (.cells #[.pointer px, .pointer py] 69) ∧ w'.heap[w.heap.size + 1]? = some (.cells #[.int .i64 9, .int .i64 W, .int .i64 a, .int .i64 b, .int .i64 c, .int .i64 d] 63) ∧
      ∀ w1, Below w'.heap.size w' w1 → Calls Try.prog 70 #[.pointer py, .int .i64 a] w1 fun e' w2 => e' = .returned (.tuple #[.agg #[.bool u, .int .i64 e, .int .i64 ins, .int .i64 r, .int .i64 l, .int .i64 dn], .int .i64 z]) ∧ w1.heap.size ≤ w2.heap.size ∧ (∀ k, w'.heap.size ≤ k → k < w1.heap.size → w2.heap[k]? = w1.heap[k]?) ∧ Post R B w G av lv ps.length bks.length w2) := C
    have HS : Hid _ := s
    clear C hz h he hi s hcc
    go_enter Try.func50, Try.ntmps50
    go_wp2_with (first | (go_at_call 18; refine HC.out.mono ?_; rintro e1 w1 ⟨rfl, hs1, hb1, hb2, hY⟩; have hl1 : w.heap.size < w1.heap.size := (by omega); have hl2 : w.heap.size + 1 < w1.heap.size := (by omega); have HY : Hid _ := hY; have p1 : w1.cell? ⟨w.heap.size, 1, none⟩ = some (.pointer py) := (cell_of_row _ _ _ _ _ _ hb1).trans rfl; have o2 : w1.cell? ⟨w.heap.size + 1, 2, none⟩ = some (.int .i64 a) := (cell_of_row _ _ _ _ _ _ hb2).trans rfl; have o3 : w1.cell? ⟨w.heap.size + 1, 3, none⟩ = some (.int .i64 b) := (cell_of_row _ _ _ _ _ _ hb2).trans rfl; clear hY hb1 hb2) | (go_at_call 70; refine (HY.out _ (by first | exact Below.refl _ _ | exact (Below.refl _ _).alloc (Nat.le_refl _) _)).mono ?_; rintro e2 w2 ⟨rfl, hs2, hk2, hP⟩; have hb3 := (hk2 w1.heap.size (Nat.le_refl _) (by simp)).trans (heap_alloc_new w1 _); have n0 : w2.cell? ⟨w1.heap.size, 0, none⟩ = some (.bool u) := (cell_of_row _ _ _ _ _ _ hb3).trans rfl; have n1 : w2.cell? ⟨w1.heap.size, 1, none⟩ = some (.int .i64 e) := (cell_of_row _ _ _ _ _ _ hb3).trans rfl; have n2 : w2.cell? ⟨w1.heap.size, 2, none⟩ = some (.int .i64 ins) := (cell_of_row _ _ _ _ _ _ hb3).trans rfl; have n3 : w2.cell? ⟨w1.heap.size, 3, none⟩ = some (.int .i64 r) := (cell_of_row _ _ _ _ _ _ hb3).trans rfl; have n4 : w2.cell? ⟨w1.heap.size, 4, none⟩ = some (.int .i64 l) := (cell_of_row _ _ _ _ _ _ hb3).trans rfl; have n5 : w2.cell? ⟨w1.heap.size, 5, none⟩ = some (.int .i64 dn) := (cell_of_row _ _ _ _ _ _ hb3).trans rfl; have hl3 : w1.heap.size < w2.heap.size := (by simp at hs2; omega); clear hb3; have HP : Hid _ := hP; clear hP))
    go_ret
    exact ⟨ret_boolR (by simp), HP.out.more HS.out ((Below.refl _ _).alloc (Nat.le_refl _) _)⟩
  · have C := h.xyAt s he hi (.crash a) ha (hcc _ trivial) (.cells #[.pointer (ptrX p), .pointer (ptrY p)] 69) (.cells #[.int .i64 10, .int .i64 W, .int .i64 a, .int .i64 b, .int .i64 c, .int .i64 d] 63)
    obtain ⟨z, hz⟩ := res_crash a (dX p)
    rw [hz] at C
    generalize ptrX p = px at *
    generalize ptrY p = py at *
    have HC : Hid (Calls Try.prog 43 #[.pointer px, .int .i64 a] ((w.alloc (.cells #[.pointer px, .pointer py] 69)).alloc (.cells #[.int .i64 10, .int .i64 W, .int .i64 a, .int .i64 b, .int .i64 c, .int .i64 d] 63)) fun e' w' => e' = .returned (.int .i64 z) ∧ w.heap.size + 2 ≤ w'.heap.size ∧ w'.heap[w.heap.size]? = some (.cells #[.pointer px, .pointer py] 69) ∧ w'.heap[w.heap.size + 1]? = some (.cells #[.int .i64 10, .int .i64 W, .int .i64 a, .int .i64 b, .int .i64 c, .int .i64 d] 63) ∧
      ∀ w1, Below w'.heap.size w' w1 → Calls Try.prog 71 #[.pointer py, .int .i64 a] w1 fun e' w2 => e' = .returned (.int .i64 z) ∧ w1.heap.size ≤ w2.heap.size ∧ (∀ k, w'.heap.size ≤ k → k < w1.heap.size → w2.heap[k]? = w1.heap[k]?) ∧ Post R B w G av lv ps.length bks.length w2) := C
    have HS : Hid _ := s
    clear C hz h he hi s hcc
    go_enter Try.func50, Try.ntmps50
    go_wp2_with (first | (go_at_call 43; refine HC.out.mono ?_; rintro e1 w1 ⟨rfl, hs1, hb1, hb2, hY⟩; have hl1 : w.heap.size < w1.heap.size := (by omega); have hl2 : w.heap.size + 1 < w1.heap.size := (by omega); have HY : Hid _ := hY; have p1 : w1.cell? ⟨w.heap.size, 1, none⟩ = some (.pointer py) := (cell_of_row _ _ _ _ _ _ hb1).trans rfl; have o2 : w1.cell? ⟨w.heap.size + 1, 2, none⟩ = some (.int .i64 a) := (cell_of_row _ _ _ _ _ _ hb2).trans rfl; have o3 : w1.cell? ⟨w.heap.size + 1, 3, none⟩ = some (.int .i64 b) := (cell_of_row _ _ _ _ _ _ hb2).trans rfl; clear hY hb1 hb2) | (go_at_call 71; refine (HY.out _ (by first | exact Below.refl _ _ | exact (Below.refl _ _).alloc (Nat.le_refl _) _)).mono ?_; rintro e2 w2 ⟨rfl, hs2, hk2, hP⟩; have HP : Hid _ := hP; clear hP))
    go_ret
    exact ⟨ret_boolR (by simp), HP.out⟩
  · have C := h.xyAt s he hi (.restart a) ha (hcc _ trivial) (.cells #[.pointer (ptrX p), .pointer (ptrY p)] 69) (.cells #[.int .i64 11, .int .i64 W, .int .i64 a, .int .i64 b, .int .i64 c, .int .i64 d] 63)
    obtain ⟨z, hz⟩ := res_restart a (dX p)
    rw [hz] at C
    generalize ptrX p = px at *
    generalize ptrY p = py at *
    have HC : Hid (Calls Try.prog 44 #[.pointer px, .int .i64 a] ((w.alloc (.cells #[.pointer px, .pointer py] 69)).alloc (.cells #[.int .i64 11, .int .i64 W, .int .i64 a, .int .i64 b, .int .i64 c, .int .i64 d] 63)) fun e' w' => e' = .returned (.int .i64 z) ∧ w.heap.size + 2 ≤ w'.heap.size ∧ w'.heap[w.heap.size]? = some (.cells #[.pointer px, .pointer py] 69) ∧ w'.heap[w.heap.size + 1]? = some (.cells #[.int .i64 11, .int .i64 W, .int .i64 a, .int .i64 b, .int .i64 c, .int .i64 d] 63) ∧
      ∀ w1, Below w'.heap.size w' w1 → Calls Try.prog 72 #[.pointer py, .int .i64 a] w1 fun e' w2 => e' = .returned (.int .i64 z) ∧ w1.heap.size ≤ w2.heap.size ∧ (∀ k, w'.heap.size ≤ k → k < w1.heap.size → w2.heap[k]? = w1.heap[k]?) ∧ Post R B w G av lv ps.length bks.length w2) := C
    have HS : Hid _ := s
    clear C hz h he hi s hcc
    go_enter Try.func50, Try.ntmps50
    go_wp2_with (first | (go_at_call 44; refine HC.out.mono ?_; rintro e1 w1 ⟨rfl, hs1, hb1, hb2, hY⟩; have hl1 : w.heap.size < w1.heap.size := (by omega); have hl2 : w.heap.size + 1 < w1.heap.size := (by omega); have HY : Hid _ := hY; have p1 : w1.cell? ⟨w.heap.size, 1, none⟩ = some (.pointer py) := (cell_of_row _ _ _ _ _ _ hb1).trans rfl; have o2 : w1.cell? ⟨w.heap.size + 1, 2, none⟩ = some (.int .i64 a) := (cell_of_row _ _ _ _ _ _ hb2).trans rfl; have o3 : w1.cell? ⟨w.heap.size + 1, 3, none⟩ = some (.int .i64 b) := (cell_of_row _ _ _ _ _ _ hb2).trans rfl; clear hY hb1 hb2) | (go_at_call 72; refine (HY.out _ (by first | exact Below.refl _ _ | exact (Below.refl _ _).alloc (Nat.le_refl _) _)).mono ?_; rintro e2 w2 ⟨rfl, hs2, hk2, hP⟩; have HP : Hid _ := hP; clear hP))
    go_ret
    exact ⟨ret_boolR (by simp), HP.out⟩
set_option maxHeartbeats 1600000 in
theorem lmaster_any (s : SideOn R fnPrg 30 25 okc) (h : Game R B w col G av lv ps bks) (he : Eqs ps) {i : Nat} {p : Option Cp} (hi : ps[i]? = some p) (k W a b c d : Int) (hk : k = 12 ∨ k = 13 ∨ k = 14) (ha : In64 a) (hb : In64 b) (hcc : ∀ c : Cl, okc c) :
    Calls Try.prog 51 #[.agg #[.pointer (ptrX p), .pointer (ptrY p)], opVal k W a b c d] w fun e w' => e = .returned (.bool true) ∧ Post R B w G av lv ps.length bks.length w' := by
  unfold opVal
  rcases hk with rfl | rfl | rfl
  · have C := h.xyAt s he hi (.conf a b) ⟨ha, hb⟩ (hcc _) (.cells #[.pointer (ptrX p), .pointer (ptrY p)] 69) (.cells #[.int .i64 12, .int .i64 W, .int .i64 a, .int .i64 b, .int .i64 c, .int .i64 d] 63)
    obtain ⟨z, hz⟩ := res_conf a b (dX p)
    rw [hz] at C
    generalize ptrX p = px at *
    generalize ptrY p = py at *
    have HC : Hid (Calls Try.prog 45 #[.pointer px, .int .i64 a, .int .i64 b] ((w.alloc (.cells #[.pointer px, .pointer py] 69)).alloc (.cells #[.int .i64 12, .int .i64 W, .int .i64 a, .int .i64 b, .int .i64 c, .int .i64 d] 63)) fun e' w' => e' = .returned (.int .i64 z) ∧ w.heap.size + 2 ≤ w'.heap.size ∧ w'.heap[w.heap.size]? = some (.cells #[.pointer px, .pointer py] 69) ∧ w'.heap[w.heap.size + 1]? = some (.cells #[.int .i64 12, .int .i64 W, .int .i64 a, .int .i64 b, .int .i64 c, .int .i64 d] 63) ∧
      ∀ w1, Below w'.heap.size w' w1 → Calls Try.prog 73 #[.pointer py, .int .i64 a, .int .i64 b] w1 fun e' w2 => e' = .returned (.int .i64 z) ∧ w1.heap.size ≤ w2.heap.size ∧ (∀ k, w'.heap.size ≤ k → k < w1.heap.size → w2.heap[k]? = w1.heap[k]?) ∧ Post R B w G av lv ps.length bks.length w2) := C
    have HS : Hid _ := s
    clear C hz h he hi s hcc
    go_enter Try.func51, Try.ntmps51
    go_wp2_with (first | (go_at_call 45; refine HC.out.mono ?_; rintro e1 w1 ⟨rfl, hs1, hb1, hb2, hY⟩; have hl1 : w.heap.size < w1.heap.size := (by omega); have hl2 : w.heap.size + 1 < w1.heap.size := (by omega); have HY : Hid _ := hY; have p1 : w1.cell? ⟨w.heap.size, 1, none⟩ = some (.pointer py) := (cell_of_row _ _ _ _ _ _ hb1).trans rfl; have o2 : w1.cell? ⟨w.heap.size + 1, 2, none⟩ = some (.int .i64 a) := (cell_of_row _ _ _ _ _ _ hb2).trans rfl; have o3 : w1.cell? ⟨w.heap.size + 1, 3, none⟩ = some (.int .i64 b) := (cell_of_row _ _ _ _ _ _ hb2).trans rfl; clear hY hb1 hb2) | (go_at_call 73; refine (HY.out _ (by first | exact Below.refl _ _ | exact (Below.refl _ _).alloc (Nat.le_refl _) _)).mono ?_; rintro e2 w2 ⟨rfl, hs2, hk2, hP⟩; have HP : Hid _ := hP; clear hP))
    go_ret
    exact ⟨ret_boolR (by simp), HP.out⟩
  · have C := h.xyAt s he hi .remind trivial (hcc _) (.cells #[.pointer (ptrX p), .pointer (ptrY p)] 69) (.cells #[.int .i64 13, .int .i64 W, .int .i64 a, .int .i64 b, .int .i64 c, .int .i64 d] 63)
    obtain ⟨z, hz⟩ := res_remind (dX p)
    rw [hz] at C
    generalize ptrX p = px at *
    generalize ptrY p = py at *
    have HC : Hid (Calls Try.prog 46 #[.pointer px] ((w.alloc (.cells #[.pointer px, .pointer py] 69)).alloc (.cells #[.int .i64 13, .int .i64 W, .int .i64 a, .int .i64 b, .int .i64 c, .int .i64 d] 63)) fun e' w' => e' = .returned (.int .i64 z) ∧ w.heap.size + 2 ≤ w'.heap.size ∧ w'.heap[w.heap.size]? = some (.cells #[.pointer px, .pointer py] 69) ∧ w'.heap[w.heap.size + 1]? = some (.cells #[.int .i64 13, .int .i64 W, .int .i64 a, .int .i64 b, .int .i64 c, .int .i64 d] 63) ∧
      ∀ w1, Below w'.heap.size w' w1 → Calls Try.prog 74 #[.pointer py] w1 fun e' w2 => e' = .returned (.int .i64 z) ∧ w1.heap.size ≤ w2.heap.size ∧ (∀ k, w'.heap.size ≤ k → k < w1.heap.size → w2.heap[k]? = w1.heap[k]?) ∧ Post R B w G av lv ps.length bks.length w2) := C
    have HS : Hid _ := s
    clear C hz h he hi s hcc
    go_enter Try.func51, Try.ntmps51
    go_wp2_with (first | (go_at_call 46; refine HC.out.mono ?_; rintro e1 w1 ⟨rfl, hs1, hb1, hb2, hY⟩; have hl1 : w.heap.size < w1.heap.size := (by omega); have hl2 : w.heap.size + 1 < w1.heap.size := (by omega); have HY : Hid _ := hY; have p1 : w1.cell? ⟨w.heap.size, 1, none⟩ = some (.pointer py) := (cell_of_row _ _ _ _ _ _ hb1).trans rfl; have o2 : w1.cell? ⟨w.heap.size + 1, 2, none⟩ = some (.int .i64 a) := (cell_of_row _ _ _ _ _ _ hb2).trans rfl; have o3 : w1.cell? ⟨w.heap.size + 1, 3, none⟩ = some (.int .i64 b) := (cell_of_row _ _ _ _ _ _ hb2).trans rfl; clear hY hb1 hb2) | (go_at_call 74; refine (HY.out _ (by first | exact Below.refl _ _ | exact (Below.refl _ _).alloc (Nat.le_refl _) _)).mono ?_; rintro e2 w2 ⟨rfl, hs2, hk2, hP⟩; have HP : Hid _ := hP; clear hP))
    go_ret
    exact ⟨ret_boolR (by simp), HP.out⟩
  · have C := h.xyAt s he hi .config trivial (hcc _) (.cells #[.pointer (ptrX p), .pointer (ptrY p)] 69) (.cells #[.int .i64 14, .int .i64 W, .int .i64 a, .int .i64 b, .int .i64 c, .int .i64 d] 63)
    obtain ⟨e, m, l, ac, z, hz⟩ := res_config (dX p)
    rw [hz] at C
    generalize ptrX p = px at *
    generalize ptrY p = py at *
    have HC : Hid (Calls Try.prog 75 #[.pointer px] ((w.alloc (.cells #[.pointer px, .pointer py] 69)).alloc (.cells #[.int .i64 14, .int .i64 W, .int .i64 a, .int .i64 b, .int .i64 c, .int .i64 d] 63)) fun e' w' => e' = .returned (.tuple #[.agg #[.int .i64 e, .int .i64 m, .int .i64 l, .int .i64 ac], .int .i64 z]) ∧ w.heap.size + 2 ≤ w'.heap.size ∧ w'.heap[w.heap.size]? = some (.cells #[.pointer px, .pointer py] 69) ∧ w'.heap[w.heap.size + 1]? = some (.cells #[.int .i64 14, .int .i64 W, .int .i64 a, .int .i64 b, .int .i64 c, .int .i64 d] 63) ∧
      ∀ w1, Below w'.heap.size w' w1 → Calls Try.prog 76 #[.pointer py] w1 fun e' w2 => e' = .returned (.tuple #[.agg #[.int .i64 e, .int .i64 m, .int .i64 l, .int .i64 ac], .int .i64 z]) ∧ w1.heap.size ≤ w2.heap.size ∧ (∀ k, w'.heap.size ≤ k → k < w1.heap.size → w2.heap[k]? = w1.heap[k]?) ∧ Post R B w G av lv ps.length bks.length w2) := C
    have HS : Hid _ := s
    clear C hz h he hi s hcc
    go_enter Try.func51, Try.ntmps51
    go_wp2_with (first | (go_at_call 75; refine HC.out.mono ?_; rintro e1 w1 ⟨rfl, hs1, hb1, hb2, hY⟩; have hl1 : w.heap.size < w1.heap.size := (by omega); have hl2 : w.heap.size + 1 < w1.heap.size := (by omega); have HY : Hid _ := hY; have p1 : w1.cell? ⟨w.heap.size, 1, none⟩ = some (.pointer py) := (cell_of_row _ _ _ _ _ _ hb1).trans rfl; have o2 : w1.cell? ⟨w.heap.size + 1, 2, none⟩ = some (.int .i64 a) := (cell_of_row _ _ _ _ _ _ hb2).trans rfl; have o3 : w1.cell? ⟨w.heap.size + 1, 3, none⟩ = some (.int .i64 b) := (cell_of_row _ _ _ _ _ _ hb2).trans rfl; clear hY hb1 hb2) | (go_at_call 76; refine (HY.out _ (by first | exact Below.refl _ _ | exact (Below.refl _ _).alloc (Nat.le_refl _) _)).mono ?_; rintro e2 w2 ⟨rfl, hs2, hk2, hP⟩; have hb3 := (hk2 w1.heap.size (Nat.le_refl _) (by simp)).trans (heap_alloc_new w1 _); have n0 : w2.cell? ⟨w1.heap.size, 0, none⟩ = some (.int .i64 e) := (cell_of_row _ _ _ _ _ _ hb3).trans rfl; have n1 : w2.cell? ⟨w1.heap.size, 1, none⟩ = some (.int .i64 m) := (cell_of_row _ _ _ _ _ _ hb3).trans rfl; have n2 : w2.cell? ⟨w1.heap.size, 2, none⟩ = some (.int .i64 l) := (cell_of_row _ _ _ _ _ _ hb3).trans rfl; have n3 : w2.cell? ⟨w1.heap.size, 3, none⟩ = some (.int .i64 ac) := (cell_of_row _ _ _ _ _ _ hb3).trans rfl; have hl3 : w1.heap.size < w2.heap.size := (by simp at hs2; omega); clear hb3; have HP : Hid _ := hP; clear hP))
    go_ret
    exact ⟨ret_boolR (by simp), HP.out.more HS.out ((Below.refl _ _).alloc (Nat.le_refl _) _)⟩
end
end Go.Proofs.Ythpfgmdffendoaa
