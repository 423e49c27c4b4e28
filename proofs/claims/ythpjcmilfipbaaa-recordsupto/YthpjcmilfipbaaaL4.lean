/- My own text: several texts in one. -/
import Derived.Test.YthpjcmilfipbaaaL3
namespace Go.Proofs.Ythpjcmilfipbaaa
set_option linter.unusedVariables false
set_option linter.unusedSimpArgs false
open Go.RowKit
section
variable {R : World → (Nat → Prop) → Nat → Wd → Prop} {okc : Cl → Prop} {B : Nat} {w w1 : World} {col : Nat → Option Nat} {G : Nat} {av lv : Value} {ps : List (Option Cp)} {bks : List Bk}
theorem res_node (a : Int) (o : Option Wd) : ∃ (u : Bool) (e i r l dn z : Int), (Cl.node a).res o = .tuple #[.agg #[.bool u, .int .i64 e, .int .i64 i, .int .i64 r, .int .i64 l, .int .i64 dn], .int .i64 z] := by
  cases o with
  | none => exact ⟨_, _, _, _, _, _, _, rfl⟩
  | some d => exact ⟨_, _, _, _, _, _, _, rfl⟩
theorem res_config (o : Option Wd) : ∃ (e m l a z : Int), Cl.config.res o = .tuple #[.agg #[.int .i64 e, .int .i64 m, .int .i64 l, .int .i64 a], .int .i64 z] := by
  cases o with
  | none => exact ⟨_, _, _, _, _, rfl⟩
  | some d => exact ⟨_, _, _, _, _, rfl⟩
theorem res_fetch (a b : Int) (o : Option Wd) : ∃ (p s v z : Int), (Cl.fetch a b).res o = .tuple #[.agg #[.int .i64 p, .int .i64 s, .int .i64 v], .int .i64 z] := by
  cases o with
  | none => exact ⟨_, _, _, _, rfl⟩
  | some d => exact ⟨_, _, _, _, rfl⟩
theorem res_produce (a b c d : Int) (o : Option Wd) : ∃ (k : Int) (t : Bool) (z : Int), (Cl.produce a b c d).res o = .tuple #[.int .i64 k, .bool t, .int .i64 z] := by
  cases o with
  | none => exact ⟨_, _, _, rfl⟩
  | some d => exact ⟨_, _, _, rfl⟩
theorem res_crash (a : Int) (o : Option Wd) : ∃ z : Int, (Cl.crash a).res o = .int .i64 z := by cases o <;> exact ⟨_, rfl⟩
theorem res_restart (a : Int) (o : Option Wd) : ∃ z : Int, (Cl.restart a).res o = .int .i64 z := by cases o <;> exact ⟨_, rfl⟩
theorem res_conf (a b : Int) (o : Option Wd) : ∃ z : Int, (Cl.conf a b).res o = .int .i64 z := by cases o <;> exact ⟨_, rfl⟩
theorem res_remind (o : Option Wd) : ∃ z : Int, Cl.remind.res o = .int .i64 z := by cases o <;> exact ⟨_, rfl⟩
theorem res_deliver (a : Int) (o : Option Wd) : ∃ z : Int, (Cl.deliver a).res o = .int .i64 z := by cases o <;> exact ⟨_, rfl⟩
theorem res_drop (a : Int) (o : Option Wd) : ∃ z : Int, (Cl.drop a).res o = .int .i64 z := by cases o <;> exact ⟨_, rfl⟩
theorem res_twice (a : Int) (o : Option Wd) : ∃ z : Int, (Cl.twice a).res o = .int .i64 z := by cases o <;> exact ⟨_, rfl⟩
def opVal (k W a b c d : Int) : Value := .agg #[.int .i64 k, .int .i64 W, .int .i64 a, .int .i64 b, .int .i64 c, .int .i64 d]
set_option maxHeartbeats 1600000 in
theorem lnode_any (s : SideOn R fnPrg 41 36 okc) (h : Game R B w col G av lv ps bks) (he : Eqs ps) {i : Nat} {p : Option Cp} (hi : ps[i]? = some p) (k W a b c d : Int) (hk : k = 9 ∨ k = 10 ∨ k = 11) (ha : In64 a) (hcc : ∀ c : Cl, c.base → okc c) :
    Calls Try.prog 64 #[.agg #[.pointer (ptrX p), .pointer (ptrY p)], opVal k W a b c d] w fun e w' => e = .returned (.bool true) ∧ Post R B w G av lv ps.length bks.length w' := by
  unfold opVal
  rcases hk with rfl | rfl | rfl
  · have C := h.xyAt s he hi (.node a) ha (hcc _ trivial) (.cells #[.pointer (ptrX p), .pointer (ptrY p)] 78) (.cells #[.int .i64 9, .int .i64 W, .int .i64 a, .int .i64 b, .int .i64 c, .int .i64 d] 72)
    obtain ⟨u, e, ins, r, l, dn, z, hz⟩ := res_node a (dX p)
    rw [hz] at C
    generalize ptrX p = px at *
    generalize ptrY p = py at *
    have HC : Hid (Calls Try.prog 22 #[.pointer px, .int .i64 a] ((w.alloc (.cells #[.pointer px, .pointer py] 78)).alloc (.cells #[.int .i64 9, .int .i64 W, .int .i64 a, .int .i64 b, .int .i64 c, .int .i64 d] 72)) fun e' w' => e' = .returned (.tuple #[.agg #[.bool u, .int .i64 e, .int .i64 ins, .int .i64 r, .int .i64 l, .int .i64 dn], .int .i64 z]) ∧ w.heap.size + 2 ≤ w'.heap.size ∧ w'.heap[w.heap.size]? = some (.cells #[.pointer px, .pointer py] 78) ∧ w'.heap[w.heap.size + 1]? = some (.cells #[.int .i64 9, .int .i64 W, .int .i64 a, .int .i64 b, .int .i64 c, .int .i64 d] 72) ∧
      ∀ w1, Below w'.heap.size w' w1 → Calls Try.prog 84 #[.pointer py, .int .i64 a] w1 fun e' w2 => e' = .returned (.tuple #[.agg #[.bool u, .int .i64 e, .int .i64 ins, .int .i64 r, .int .i64 l, .int .i64 dn], .int .i64 z]) ∧ w1.heap.size ≤ w2.heap.size ∧ (∀ k, w'.heap.size ≤ k → k < w1.heap.size → w2.heap[k]? = w1.heap[k]?) ∧ Post R B w G av lv ps.length bks.length w2) := C
    have HS : Hid _ := s
    clear C hz h he hi s hcc
    go_enter Try.func64, Try.ntmps64
    go_wp2_with (first | (go_at_call 22; refine HC.out.mono ?_; rintro e1 w1 ⟨rfl, hs1, hb1, hb2, hY⟩; have hl1 : w.heap.size < w1.heap.size := (by omega); have hl2 : w.heap.size + 1 < w1.heap.size := (by omega); have HY : Hid _ := hY; have p1 : w1.cell? ⟨w.heap.size, 1, none⟩ = some (.pointer py) := (cell_of_row _ _ _ _ _ _ hb1).trans rfl; have o2 : w1.cell? ⟨w.heap.size + 1, 2, none⟩ = some (.int .i64 a) := (cell_of_row _ _ _ _ _ _ hb2).trans rfl; have o3 : w1.cell? ⟨w.heap.size + 1, 3, none⟩ = some (.int .i64 b) := (cell_of_row _ _ _ _ _ _ hb2).trans rfl; clear hY hb1 hb2) | (go_at_call 84; refine (HY.out _ (by first | exact Below.refl _ _ | exact (Below.refl _ _).alloc (Nat.le_refl _) _)).mono ?_; rintro e2 w2 ⟨rfl, hs2, hk2, hP⟩; have hb3 := (hk2 w1.heap.size (Nat.le_refl _) (by simp)).trans (heap_alloc_new w1 _); have n0 : w2.cell? ⟨w1.heap.size, 0, none⟩ = some (.bool u) := (cell_of_row _ _ _ _ _ _ hb3).trans rfl; have n1 : w2.cell? ⟨w1.heap.size, 1, none⟩ = some (.int .i64 e) := (cell_of_row _ _ _ _ _ _ hb3).trans rfl; have n2 : w2.cell? ⟨w1.heap.size, 2, none⟩ = some (.int .i64 ins) := (cell_of_row _ _ _ _ _ _ hb3).trans rfl; have n3 : w2.cell? ⟨w1.heap.size, 3, none⟩ = some (.int .i64 r) := (cell_of_row _ _ _ _ _ _ hb3).trans rfl; have n4 : w2.cell? ⟨w1.heap.size, 4, none⟩ = some (.int .i64 l) := (cell_of_row _ _ _ _ _ _ hb3).trans rfl; have n5 : w2.cell? ⟨w1.heap.size, 5, none⟩ = some (.int .i64 dn) := (cell_of_row _ _ _ _ _ _ hb3).trans rfl; have hl3 : w1.heap.size < w2.heap.size := (by simp at hs2; omega); clear hb3; have HP : Hid _ := hP; clear hP))
    go_ret
    exact ⟨ret_boolR (by simp), HP.out.more HS.out ((Below.refl _ _).alloc (Nat.le_refl _) _)⟩
  · have C := h.xyAt s he hi (.crash a) ha (hcc _ trivial) (.cells #[.pointer (ptrX p), .pointer (ptrY p)] 78) (.cells #[.int .i64 10, .int .i64 W, .int .i64 a, .int .i64 b, .int .i64 c, .int .i64 d] 72)
    obtain ⟨z, hz⟩ := res_crash a (dX p)
    rw [hz] at C
    generalize ptrX p = px at *
    generalize ptrY p = py at *
    have HC : Hid (Calls Try.prog 54 #[.pointer px, .int .i64 a] ((w.alloc (.cells #[.pointer px, .pointer py] 78)).alloc (.cells #[.int .i64 10, .int .i64 W, .int .i64 a, .int .i64 b, .int .i64 c, .int .i64 d] 72)) fun e' w' => e' = .returned (.int .i64 z) ∧ w.heap.size + 2 ≤ w'.heap.size ∧ w'.heap[w.heap.size]? = some (.cells #[.pointer px, .pointer py] 78) ∧ w'.heap[w.heap.size + 1]? = some (.cells #[.int .i64 10, .int .i64 W, .int .i64 a, .int .i64 b, .int .i64 c, .int .i64 d] 72) ∧
      ∀ w1, Below w'.heap.size w' w1 → Calls Try.prog 85 #[.pointer py, .int .i64 a] w1 fun e' w2 => e' = .returned (.int .i64 z) ∧ w1.heap.size ≤ w2.heap.size ∧ (∀ k, w'.heap.size ≤ k → k < w1.heap.size → w2.heap[k]? = w1.heap[k]?) ∧ Post R B w G av lv ps.length bks.length w2) := C
    have HS : Hid _ := s
    clear C hz h he hi s hcc
    go_enter Try.func64, Try.ntmps64
    go_wp2_with (first | (go_at_call 54; refine HC.out.mono ?_; rintro e1 w1 ⟨rfl, hs1, hb1, hb2, hY⟩; have hl1 : w.heap.size < w1.heap.size := (by omega); have hl2 : w.heap.size + 1 < w1.heap.size := (by omega); have HY : Hid _ := hY; have p1 : w1.cell? ⟨w.heap.size, 1, none⟩ = some (.pointer py) := (cell_of_row _ _ _ _ _ _ hb1).trans rfl; have o2 : w1.cell? ⟨w.heap.size + 1, 2, none⟩ = some (.int .i64 a) := (cell_of_row _ _ _ _ _ _ hb2).trans rfl; have o3 : w1.cell? ⟨w.heap.size + 1, 3, none⟩ = some (.int .i64 b) := (cell_of_row _ _ _ _ _ _ hb2).trans rfl; clear hY hb1 hb2) | (go_at_call 85; refine (HY.out _ (by first | exact Below.refl _ _ | exact (Below.refl _ _).alloc (Nat.le_refl _) _)).mono ?_; rintro e2 w2 ⟨rfl, hs2, hk2, hP⟩; have HP : Hid _ := hP; clear hP))
    go_ret
    exact ⟨ret_boolR (by simp), HP.out⟩
  · have C := h.xyAt s he hi (.restart a) ha (hcc _ trivial) (.cells #[.pointer (ptrX p), .pointer (ptrY p)] 78) (.cells #[.int .i64 11, .int .i64 W, .int .i64 a, .int .i64 b, .int .i64 c, .int .i64 d] 72)
    obtain ⟨z, hz⟩ := res_restart a (dX p)
    rw [hz] at C
    generalize ptrX p = px at *
    generalize ptrY p = py at *
    have HC : Hid (Calls Try.prog 55 #[.pointer px, .int .i64 a] ((w.alloc (.cells #[.pointer px, .pointer py] 78)).alloc (.cells #[.int .i64 11, .int .i64 W, .int .i64 a, .int .i64 b, .int .i64 c, .int .i64 d] 72)) fun e' w' => e' = .returned (.int .i64 z) ∧ w.heap.size + 2 ≤ w'.heap.size ∧ w'.heap[w.heap.size]? = some (.cells #[.pointer px, .pointer py] 78) ∧ w'.heap[w.heap.size + 1]? = some (.cells #[.int .i64 11, .int .i64 W, .int .i64 a, .int .i64 b, .int .i64 c, .int .i64 d] 72) ∧
      ∀ w1, Below w'.heap.size w' w1 → Calls Try.prog 86 #[.pointer py, .int .i64 a] w1 fun e' w2 => e' = .returned (.int .i64 z) ∧ w1.heap.size ≤ w2.heap.size ∧ (∀ k, w'.heap.size ≤ k → k < w1.heap.size → w2.heap[k]? = w1.heap[k]?) ∧ Post R B w G av lv ps.length bks.length w2) := C
    have HS : Hid _ := s
    clear C hz h he hi s hcc
    go_enter Try.func64, Try.ntmps64
    go_wp2_with (first | (go_at_call 55; refine HC.out.mono ?_; rintro e1 w1 ⟨rfl, hs1, hb1, hb2, hY⟩; have hl1 : w.heap.size < w1.heap.size := (by omega); have hl2 : w.heap.size + 1 < w1.heap.size := (by omega); have HY : Hid _ := hY; have p1 : w1.cell? ⟨w.heap.size, 1, none⟩ = some (.pointer py) := (cell_of_row _ _ _ _ _ _ hb1).trans rfl; have o2 : w1.cell? ⟨w.heap.size + 1, 2, none⟩ = some (.int .i64 a) := (cell_of_row _ _ _ _ _ _ hb2).trans rfl; have o3 : w1.cell? ⟨w.heap.size + 1, 3, none⟩ = some (.int .i64 b) := (cell_of_row _ _ _ _ _ _ hb2).trans rfl; clear hY hb1 hb2) | (go_at_call 86; refine (HY.out _ (by first | exact Below.refl _ _ | exact (Below.refl _ _).alloc (Nat.le_refl _) _)).mono ?_; rintro e2 w2 ⟨rfl, hs2, hk2, hP⟩; have HP : Hid _ := hP; clear hP))
    go_ret
    exact ⟨ret_boolR (by simp), HP.out⟩
set_option maxHeartbeats 1600000 in
theorem lmaster_any (s : SideOn R fnPrg 41 36 okc) (h : Game R B w col G av lv ps bks) (he : Eqs ps) {i : Nat} {p : Option Cp} (hi : ps[i]? = some p) (k W a b c d : Int) (hk : k = 12 ∨ k = 13 ∨ k = 14) (ha : In64 a) (hb : In64 b) (hcc : ∀ c : Cl, okc c) :
    Calls Try.prog 65 #[.agg #[.pointer (ptrX p), .pointer (ptrY p)], opVal k W a b c d] w fun e w' => e = .returned (.bool true) ∧ Post R B w G av lv ps.length bks.length w' := by
  unfold opVal
  rcases hk with rfl | rfl | rfl
  · have C := h.xyAt s he hi (.conf a b) ⟨ha, hb⟩ (hcc _) (.cells #[.pointer (ptrX p), .pointer (ptrY p)] 78) (.cells #[.int .i64 12, .int .i64 W, .int .i64 a, .int .i64 b, .int .i64 c, .int .i64 d] 72)
    obtain ⟨z, hz⟩ := res_conf a b (dX p)
    rw [hz] at C
    generalize ptrX p = px at *
    generalize ptrY p = py at *
    have HC : Hid (Calls Try.prog 29 #[.pointer px, .int .i64 a, .int .i64 b] ((w.alloc (.cells #[.pointer px, .pointer py] 78)).alloc (.cells #[.int .i64 12, .int .i64 W, .int .i64 a, .int .i64 b, .int .i64 c, .int .i64 d] 72)) fun e' w' => e' = .returned (.int .i64 z) ∧ w.heap.size + 2 ≤ w'.heap.size ∧ w'.heap[w.heap.size]? = some (.cells #[.pointer px, .pointer py] 78) ∧ w'.heap[w.heap.size + 1]? = some (.cells #[.int .i64 12, .int .i64 W, .int .i64 a, .int .i64 b, .int .i64 c, .int .i64 d] 72) ∧
      ∀ w1, Below w'.heap.size w' w1 → Calls Try.prog 87 #[.pointer py, .int .i64 a, .int .i64 b] w1 fun e' w2 => e' = .returned (.int .i64 z) ∧ w1.heap.size ≤ w2.heap.size ∧ (∀ k, w'.heap.size ≤ k → k < w1.heap.size → w2.heap[k]? = w1.heap[k]?) ∧ Post R B w G av lv ps.length bks.length w2) := C
    have HS : Hid _ := s
    clear C hz h he hi s hcc
    go_enter Try.func65, Try.ntmps65
    go_wp2_with (first | (go_at_call 29; refine HC.out.mono ?_; rintro e1 w1 ⟨rfl, hs1, hb1, hb2, hY⟩; have hl1 : w.heap.size < w1.heap.size := (by omega); have hl2 : w.heap.size + 1 < w1.heap.size := (by omega); have HY : Hid _ := hY; have p1 : w1.cell? ⟨w.heap.size, 1, none⟩ = some (.pointer py) := (cell_of_row _ _ _ _ _ _ hb1).trans rfl; have o2 : w1.cell? ⟨w.heap.size + 1, 2, none⟩ = some (.int .i64 a) := (cell_of_row _ _ _ _ _ _ hb2).trans rfl; have o3 : w1.cell? ⟨w.heap.size + 1, 3, none⟩ = some (.int .i64 b) := (cell_of_row _ _ _ _ _ _ hb2).trans rfl; clear hY hb1 hb2) | (go_at_call 87; refine (HY.out _ (by first | exact Below.refl _ _ | exact (Below.refl _ _).alloc (Nat.le_refl _) _)).mono ?_; rintro e2 w2 ⟨rfl, hs2, hk2, hP⟩; have HP : Hid _ := hP; clear hP))
    go_ret
    exact ⟨ret_boolR (by simp), HP.out⟩
  · have C := h.xyAt s he hi .remind trivial (hcc _) (.cells #[.pointer (ptrX p), .pointer (ptrY p)] 78) (.cells #[.int .i64 13, .int .i64 W, .int .i64 a, .int .i64 b, .int .i64 c, .int .i64 d] 72)
    obtain ⟨z, hz⟩ := res_remind (dX p)
    rw [hz] at C
    generalize ptrX p = px at *
    generalize ptrY p = py at *
    have HC : Hid (Calls Try.prog 56 #[.pointer px] ((w.alloc (.cells #[.pointer px, .pointer py] 78)).alloc (.cells #[.int .i64 13, .int .i64 W, .int .i64 a, .int .i64 b, .int .i64 c, .int .i64 d] 72)) fun e' w' => e' = .returned (.int .i64 z) ∧ w.heap.size + 2 ≤ w'.heap.size ∧ w'.heap[w.heap.size]? = some (.cells #[.pointer px, .pointer py] 78) ∧ w'.heap[w.heap.size + 1]? = some (.cells #[.int .i64 13, .int .i64 W, .int .i64 a, .int .i64 b, .int .i64 c, .int .i64 d] 72) ∧
      ∀ w1, Below w'.heap.size w' w1 → Calls Try.prog 88 #[.pointer py] w1 fun e' w2 => e' = .returned (.int .i64 z) ∧ w1.heap.size ≤ w2.heap.size ∧ (∀ k, w'.heap.size ≤ k → k < w1.heap.size → w2.heap[k]? = w1.heap[k]?) ∧ Post R B w G av lv ps.length bks.length w2) := C
    have HS : Hid _ := s
    clear C hz h he hi s hcc
    go_enter Try.func65, Try.ntmps65
    go_wp2_with (first | (go_at_call 56; refine HC.out.mono ?_; rintro e1 w1 ⟨rfl, hs1, hb1, hb2, hY⟩; have hl1 : w.heap.size < w1.heap.size := (by omega); have hl2 : w.heap.size + 1 < w1.heap.size := (by omega); have HY : Hid _ := hY; have p1 : w1.cell? ⟨w.heap.size, 1, none⟩ = some (.pointer py) := (cell_of_row _ _ _ _ _ _ hb1).trans rfl; have o2 : w1.cell? ⟨w.heap.size + 1, 2, none⟩ = some (.int .i64 a) := (cell_of_row _ _ _ _ _ _ hb2).trans rfl; have o3 : w1.cell? ⟨w.heap.size + 1, 3, none⟩ = some (.int .i64 b) := (cell_of_row _ _ _ _ _ _ hb2).trans rfl; clear hY hb1 hb2) | (go_at_call 88; refine (HY.out _ (by first | exact Below.refl _ _ | exact (Below.refl _ _).alloc (Nat.le_refl _) _)).mono ?_; rintro e2 w2 ⟨rfl, hs2, hk2, hP⟩; have HP : Hid _ := hP; clear hP))
    go_ret
    exact ⟨ret_boolR (by simp), HP.out⟩
  · have C := h.xyAt s he hi .config trivial (hcc _) (.cells #[.pointer (ptrX p), .pointer (ptrY p)] 78) (.cells #[.int .i64 14, .int .i64 W, .int .i64 a, .int .i64 b, .int .i64 c, .int .i64 d] 72)
    obtain ⟨e, m, l, ac, z, hz⟩ := res_config (dX p)
    rw [hz] at C
    generalize ptrX p = px at *
    generalize ptrY p = py at *
    have HC : Hid (Calls Try.prog 31 #[.pointer px] ((w.alloc (.cells #[.pointer px, .pointer py] 78)).alloc (.cells #[.int .i64 14, .int .i64 W, .int .i64 a, .int .i64 b, .int .i64 c, .int .i64 d] 72)) fun e' w' => e' = .returned (.tuple #[.agg #[.int .i64 e, .int .i64 m, .int .i64 l, .int .i64 ac], .int .i64 z]) ∧ w.heap.size + 2 ≤ w'.heap.size ∧ w'.heap[w.heap.size]? = some (.cells #[.pointer px, .pointer py] 78) ∧ w'.heap[w.heap.size + 1]? = some (.cells #[.int .i64 14, .int .i64 W, .int .i64 a, .int .i64 b, .int .i64 c, .int .i64 d] 72) ∧
      ∀ w1, Below w'.heap.size w' w1 → Calls Try.prog 89 #[.pointer py] w1 fun e' w2 => e' = .returned (.tuple #[.agg #[.int .i64 e, .int .i64 m, .int .i64 l, .int .i64 ac], .int .i64 z]) ∧ w1.heap.size ≤ w2.heap.size ∧ (∀ k, w'.heap.size ≤ k → k < w1.heap.size → w2.heap[k]? = w1.heap[k]?) ∧ Post R B w G av lv ps.length bks.length w2) := C
    have HS : Hid _ := s
    clear C hz h he hi s hcc
    go_enter Try.func65, Try.ntmps65
    go_wp2_with (first | (go_at_call 31; refine HC.out.mono ?_; rintro e1 w1 ⟨rfl, hs1, hb1, hb2, hY⟩; have hl1 : w.heap.size < w1.heap.size := (by omega); have hl2 : w.heap.size + 1 < w1.heap.size := (by omega); have HY : Hid _ := hY; have p1 : w1.cell? ⟨w.heap.size, 1, none⟩ = some (.pointer py) := (cell_of_row _ _ _ _ _ _ hb1).trans rfl; have o2 : w1.cell? ⟨w.heap.size + 1, 2, none⟩ = some (.int .i64 a) := (cell_of_row _ _ _ _ _ _ hb2).trans rfl; have o3 : w1.cell? ⟨w.heap.size + 1, 3, none⟩ = some (.int .i64 b) := (cell_of_row _ _ _ _ _ _ hb2).trans rfl; clear hY hb1 hb2) | (go_at_call 89; refine (HY.out _ (by first | exact Below.refl _ _ | exact (Below.refl _ _).alloc (Nat.le_refl _) _)).mono ?_; rintro e2 w2 ⟨rfl, hs2, hk2, hP⟩; have hb3 := (hk2 w1.heap.size (Nat.le_refl _) (by simp)).trans (heap_alloc_new w1 _); have n0 : w2.cell? ⟨w1.heap.size, 0, none⟩ = some (.int .i64 e) := (cell_of_row _ _ _ _ _ _ hb3).trans rfl; have n1 : w2.cell? ⟨w1.heap.size, 1, none⟩ = some (.int .i64 m) := (cell_of_row _ _ _ _ _ _ hb3).trans rfl; have n2 : w2.cell? ⟨w1.heap.size, 2, none⟩ = some (.int .i64 l) := (cell_of_row _ _ _ _ _ _ hb3).trans rfl; have n3 : w2.cell? ⟨w1.heap.size, 3, none⟩ = some (.int .i64 ac) := (cell_of_row _ _ _ _ _ _ hb3).trans rfl; have hl3 : w1.heap.size < w2.heap.size := (by simp at hs2; omega); clear hb3; have HP : Hid _ := hP; clear hP))
    go_ret
    exact ⟨ret_boolR (by simp), HP.out.more HS.out ((Below.refl _ _).alloc (Nat.le_refl _) _)⟩
end
end Go.Proofs.Ythpjcmilfipbaaa

namespace Go.Proofs.Ythpjcmilfipbaaa
set_option linter.unusedVariables false
set_option linter.unusedSimpArgs false
open Go.RowKit
section
variable {R : World → (Nat → Prop) → Nat → Wd → Prop} {fn : Cl → Nat} {fm fw : Nat} {okc : Cl → Prop} {B : Nat} {w w1 : World} {col : Nat → Option Nat} {G : Nat} {av lv : Value} {ps : List (Option Cp)} {bks : List Bk}
theorem Post.four {n m : Nat} {w2 : World} (h : Post R B w G av lv n m w2) : Post R B w G av lv n (m + 4) w2 := by
  obtain ⟨h1, col', lv', ps', bks', h2, h3, h4, h5⟩ := h
  exact ⟨h1, col', lv', ps', bks', h2, h3, h4, by omega⟩
theorem hid {p : Prop} (h : p) : Hid p := h
def wayX : Option Cp → List Msg
  | none => []
  | some p => p.dx.way
def errX : Option Cp → Int
  | none => 1
  | some p => 0
theorem Game.msgs (s : SideOn R fn fm fw okc) (h : Game R B w col G av lv ps bks) (he : Eqs ps) {i : Nat} {p : Option Cp} (hi : ps[i]? = some p) (o1 o2 : Obj) :
    (wayX p).length ≤ 50 ∧
    Calls Try.prog fm #[.pointer (ptrX p)] ((w.alloc o1).alloc o2) fun e w1 => ∃ v, e = .returned (.tuple #[v, .int .i64 (errX p)]) ∧ w.heap.size + 2 ≤ w1.heap.size ∧ w1.heap[w.heap.size]? = some o1 ∧
      Calls Try.prog 78 #[.pointer (ptrY p)] w1 fun e w2 => ∃ v2, e = .returned (.tuple #[v2, .int .i64 (errX p)]) ∧ Below (w.heap.size + 2) ((w.alloc o1).alloc o2) w2 ∧
        w2.ownsRow (w.heap.size + 2) 109 5 v (wayX p).length (seeCellsR (wayX p)) ∧ w2.ownsRow 0 109 5 v2 (wayX p).length (seeCellsR (wayX p)) := by
  have hsz : ((w.alloc o1).alloc o2).heap.size = w.heap.size + 2 := by simp
  have two := h.two s o1 o2
  generalize hw0 : (w.alloc o1).alloc o2 = w0 at *
  have ho1 : w0.heap[w.heap.size]? = some o1 := by rw [← hw0]; exact heap_alloc2_old w o1 o2
  cases p with
  | none =>
    refine ⟨by simp [wayX], (s.msgsNil w0).mono fun e w1 ⟨v, h1, h2, h3⟩ => ⟨v, h1, by have := h3.size; omega, by rw [h3.block _ (by omega)]; exact ho1, ?_⟩⟩
    refine (docSide.msgsNil w1).mono fun e w2 ⟨v2, k1, k2, k3⟩ => ⟨v2, k1, ?_, ?_, ownsRow_zero k2⟩
    · rw [← hsz]; exact h3.trans (k3.mono h3.size)
    · rw [← hsz]; exact ownsRow_same h2 fun g _ hl => k3.block g hl
  | some p =>
    obtain ⟨r1, r2⟩ := two.1.xs i p hi
    obtain ⟨q1, q2⟩ := two.1.ys i p hi
    have hd := he p (List.mem_of_getElem? hi)
    refine ⟨r2.way, (s.msgs r1 r2).mono fun e w1 ⟨v, h1, h2, h3⟩ => ⟨v, h1, by have := h3.size; omega, by rw [h3.block _ (by omega)]; exact ho1, ?_⟩⟩
    refine (docSide.msgs (docSide.same q1 fun k _ hk => h3.block k hk) q2).mono fun e w2 ⟨v2, k1, k2, k3⟩ => ⟨v2, k1, ?_, ?_, ?_⟩
    · rw [← hsz]; exact h3.trans (k3.mono h3.size)
    · rw [← hsz]; exact ownsRow_same h2 fun g _ hl => k3.block g hl
    · show w2.ownsRow 0 109 5 v2 p.dx.way.length (seeCellsR p.dx.way)
      rw [hd]; exact ownsRow_zero k2
theorem Game.owns (s : SideOn R fn fm fw okc) (h : Game R B w col G av lv ps bks) (he : Eqs ps) (o1 o2 : Obj) {w3 : World} (hb : Below (w.heap.size + 2) ((w.alloc o1).alloc o2) w3) {v : Value} {k : Nat} {xs : List Value} (hk : k ≤ 50) (hn : bks.length ≤ 100000000)
    (hv : w3.ownsRow (w.heap.size + 2) 109 5 v k xs) :
    Calls Try.prog 80 #[.pointer (some ⟨G, 0, none⟩), v] w3 fun e w' => e = .returned (.tuple #[]) ∧ Post R B w G av lv ps.length (bks.length + 4) w' := by
  have hsz : ((w.alloc o1).alloc o2).heap.size = w.heap.size + 2 := by simp
  have two := h.two s o1 o2
  generalize hw0 : (w.alloc o1).alloc o2 = w0 at *
  rw [← hsz] at hb
  have h3 := two.1.quiet s hb
  have hg : ∀ g, v.ownBlock = some g → w.heap.size + 2 ≤ g := fun g e => (hv.lt g e).1
  refine (lowns_any h3.g hn hk hv (fun g e => paint_new (by have := hg g e; omega)) fun x hx g hx2 e => ?_).mono fun e w' ⟨h1, ⟨lv', bks', h2, h4⟩, h5⟩ => ⟨h1, ?_, _, _, _, _, h3.turned s h4 h5, he, rfl, by omega⟩
  · obtain ⟨_, cs, hc⟩ := h3.g.okS x hx g hx2
    obtain ⟨_, cs2, hc2⟩ := two.1.g.okS x hx g hx2
    have := (Array.getElem?_eq_some_iff.1 hc2).1
    have := hg g e
    omega
  · exact (two.2.trans (hb.mono two.1.base)).trans (h3.below h5)
set_option maxHeartbeats 1600000 in
theorem lway_any (s : SideOn R fnPrg 41 36 okc) (h : Game R B w col G av lv ps bks) (he : Eqs ps) {i : Nat} {p : Option Cp} (hi : ps[i]? = some p) (hn : bks.length ≤ 100000000) (k W a b c d : Int) (hk : k = 5 ∨ k = 6 ∨ k = 7 ∨ k = 8) (ha : In64 a) (hcc : ∀ c : Cl, c.base → okc c) :
    Calls Try.prog 63 #[.pointer (some ⟨G, 0, none⟩), .agg #[.pointer (ptrX p), .pointer (ptrY p)], opVal k W a b c d] w fun e w' => e = .returned (.bool true) ∧ Post R B w G av lv ps.length (bks.length + 4) w' := by
  unfold opVal
  rcases hk with rfl | rfl | rfl | rfl
  · have hm := h.msgs s he hi (.cells #[.pointer (ptrX p), .pointer (ptrY p)] 78) (.cells #[.int .i64 5, .int .i64 W, .int .i64 a, .int .i64 b, .int .i64 c, .int .i64 d] 72)
    have HO := hid fun (w3 : World) hb (v : Value) hv => h.owns s he (.cells #[.pointer (ptrX p), .pointer (ptrY p)] 78) (.cells #[.int .i64 5, .int .i64 W, .int .i64 a, .int .i64 b, .int .i64 c, .int .i64 d] 72) (w3 := w3) hb (v := v) (k := (wayX p).length) (xs := seeCellsR (wayX p)) hm.1 hn hv
    generalize wayX p = l at *
    generalize errX p = z at *
    generalize ptrX p = px at *
    generalize ptrY p = py at *
    have h50 := hm.1
    have HC := hid hm.2
    clear hm h he hi s hcc
    go_enter Try.func63, Try.ntmps63
    go_wp2_with (first | (go_at_call 41; refine HC.out.mono ?_; rintro e1 w1 ⟨v, rfl, hs1, hb1, hY⟩; have hl1 : w.heap.size < w1.heap.size := (by omega); have HY := hid hY; have p1 : w1.cell? ⟨w.heap.size, 1, none⟩ = some (.pointer py) := (cell_of_row _ _ _ _ _ _ hb1).trans rfl; clear hY hb1) | (go_at_call 78; refine HY.out.mono ?_; rintro e2 w2 ⟨v2, rfl, hB, hv, hv2⟩; have HB := hid hB; have HV := hid hv; have HV2 := hid hv2; clear hB hv hv2) | (go_at_call 79; refine (lalike_same l h50 HV.out HV2.out).mono ?_; rintro e3 w3 ⟨rfl, nd, hw3⟩; rw [hw3]; clear hw3) | (go_at_call 80; refine (HO.out (w2.drewN nd) (HB.out.trans ⟨rfl, rfl, rfl, Nat.le_refl _, fun _ _ => rfl⟩) v (ownsRow_same HV.out fun _ _ _ => rfl)).mono ?_; rintro e4 w4 ⟨rfl, hP⟩; have HP := hid hP; clear hP))
    go_ret
    exact ⟨ret_boolR (by simp), HP.out⟩
  · have C := h.xyAt s he hi (.deliver a) ha (hcc _ trivial) (.cells #[.pointer (ptrX p), .pointer (ptrY p)] 78) (.cells #[.int .i64 6, .int .i64 W, .int .i64 a, .int .i64 b, .int .i64 c, .int .i64 d] 72)
    obtain ⟨z, hz⟩ := res_deliver a (dX p)
    rw [hz] at C
    generalize ptrX p = px at *
    generalize ptrY p = py at *
    have HC : Hid (Calls Try.prog 52 #[.pointer px, .int .i64 a] ((w.alloc (.cells #[.pointer px, .pointer py] 78)).alloc (.cells #[.int .i64 6, .int .i64 W, .int .i64 a, .int .i64 b, .int .i64 c, .int .i64 d] 72)) fun e' w' => e' = .returned (.int .i64 z) ∧ w.heap.size + 2 ≤ w'.heap.size ∧ w'.heap[w.heap.size]? = some (.cells #[.pointer px, .pointer py] 78) ∧ w'.heap[w.heap.size + 1]? = some (.cells #[.int .i64 6, .int .i64 W, .int .i64 a, .int .i64 b, .int .i64 c, .int .i64 d] 72) ∧
      ∀ w1, Below w'.heap.size w' w1 → Calls Try.prog 81 #[.pointer py, .int .i64 a] w1 fun e' w2 => e' = .returned (.int .i64 z) ∧ w1.heap.size ≤ w2.heap.size ∧ (∀ k, w'.heap.size ≤ k → k < w1.heap.size → w2.heap[k]? = w1.heap[k]?) ∧ Post R B w G av lv ps.length bks.length w2) := C
    have HS : Hid _ := s
    clear C hz h he hi s hcc
    go_enter Try.func63, Try.ntmps63
    go_wp2_with (first | (go_at_call 52; refine HC.out.mono ?_; rintro e1 w1 ⟨rfl, hs1, hb1, hb2, hY⟩; have hl1 : w.heap.size < w1.heap.size := (by omega); have hl2 : w.heap.size + 1 < w1.heap.size := (by omega); have HY : Hid _ := hY; have p1 : w1.cell? ⟨w.heap.size, 1, none⟩ = some (.pointer py) := (cell_of_row _ _ _ _ _ _ hb1).trans rfl; have o2 : w1.cell? ⟨w.heap.size + 1, 2, none⟩ = some (.int .i64 a) := (cell_of_row _ _ _ _ _ _ hb2).trans rfl; clear hY hb1 hb2) | (go_at_call 81; refine (HY.out _ (Below.refl _ _)).mono ?_; rintro e2 w2 ⟨rfl, hs2, hk2, hP⟩; have HP : Hid _ := hP; clear hP))
    go_ret
    exact ⟨ret_boolR (by simp), HP.out.four⟩
  · have C := h.xyAt s he hi (.drop a) ha (hcc _ trivial) (.cells #[.pointer (ptrX p), .pointer (ptrY p)] 78) (.cells #[.int .i64 7, .int .i64 W, .int .i64 a, .int .i64 b, .int .i64 c, .int .i64 d] 72)
    obtain ⟨z, hz⟩ := res_drop a (dX p)
    rw [hz] at C
    generalize ptrX p = px at *
    generalize ptrY p = py at *
    have HC : Hid (Calls Try.prog 20 #[.pointer px, .int .i64 a] ((w.alloc (.cells #[.pointer px, .pointer py] 78)).alloc (.cells #[.int .i64 7, .int .i64 W, .int .i64 a, .int .i64 b, .int .i64 c, .int .i64 d] 72)) fun e' w' => e' = .returned (.int .i64 z) ∧ w.heap.size + 2 ≤ w'.heap.size ∧ w'.heap[w.heap.size]? = some (.cells #[.pointer px, .pointer py] 78) ∧ w'.heap[w.heap.size + 1]? = some (.cells #[.int .i64 7, .int .i64 W, .int .i64 a, .int .i64 b, .int .i64 c, .int .i64 d] 72) ∧
      ∀ w1, Below w'.heap.size w' w1 → Calls Try.prog 82 #[.pointer py, .int .i64 a] w1 fun e' w2 => e' = .returned (.int .i64 z) ∧ w1.heap.size ≤ w2.heap.size ∧ (∀ k, w'.heap.size ≤ k → k < w1.heap.size → w2.heap[k]? = w1.heap[k]?) ∧ Post R B w G av lv ps.length bks.length w2) := C
    have HS : Hid _ := s
    clear C hz h he hi s hcc
    go_enter Try.func63, Try.ntmps63
    go_wp2_with (first | (go_at_call 20; refine HC.out.mono ?_; rintro e1 w1 ⟨rfl, hs1, hb1, hb2, hY⟩; have hl1 : w.heap.size < w1.heap.size := (by omega); have hl2 : w.heap.size + 1 < w1.heap.size := (by omega); have HY : Hid _ := hY; have p1 : w1.cell? ⟨w.heap.size, 1, none⟩ = some (.pointer py) := (cell_of_row _ _ _ _ _ _ hb1).trans rfl; have o2 : w1.cell? ⟨w.heap.size + 1, 2, none⟩ = some (.int .i64 a) := (cell_of_row _ _ _ _ _ _ hb2).trans rfl; clear hY hb1 hb2) | (go_at_call 82; refine (HY.out _ (Below.refl _ _)).mono ?_; rintro e2 w2 ⟨rfl, hs2, hk2, hP⟩; have HP : Hid _ := hP; clear hP))
    go_ret
    exact ⟨ret_boolR (by simp), HP.out.four⟩
  · have C := h.xyAt s he hi (.twice a) ha (hcc _ trivial) (.cells #[.pointer (ptrX p), .pointer (ptrY p)] 78) (.cells #[.int .i64 8, .int .i64 W, .int .i64 a, .int .i64 b, .int .i64 c, .int .i64 d] 72)
    obtain ⟨z, hz⟩ := res_twice a (dX p)
    rw [hz] at C
    generalize ptrX p = px at *
    generalize ptrY p = py at *
    have HC : Hid (Calls Try.prog 21 #[.pointer px, .int .i64 a] ((w.alloc (.cells #[.pointer px, .pointer py] 78)).alloc (.cells #[.int .i64 8, .int .i64 W, .int .i64 a, .int .i64 b, .int .i64 c, .int .i64 d] 72)) fun e' w' => e' = .returned (.int .i64 z) ∧ w.heap.size + 2 ≤ w'.heap.size ∧ w'.heap[w.heap.size]? = some (.cells #[.pointer px, .pointer py] 78) ∧ w'.heap[w.heap.size + 1]? = some (.cells #[.int .i64 8, .int .i64 W, .int .i64 a, .int .i64 b, .int .i64 c, .int .i64 d] 72) ∧
      ∀ w1, Below w'.heap.size w' w1 → Calls Try.prog 83 #[.pointer py, .int .i64 a] w1 fun e' w2 => e' = .returned (.int .i64 z) ∧ w1.heap.size ≤ w2.heap.size ∧ (∀ k, w'.heap.size ≤ k → k < w1.heap.size → w2.heap[k]? = w1.heap[k]?) ∧ Post R B w G av lv ps.length bks.length w2) := C
    have HS : Hid _ := s
    clear C hz h he hi s hcc
    go_enter Try.func63, Try.ntmps63
    go_wp2_with (first | (go_at_call 21; refine HC.out.mono ?_; rintro e1 w1 ⟨rfl, hs1, hb1, hb2, hY⟩; have hl1 : w.heap.size < w1.heap.size := (by omega); have hl2 : w.heap.size + 1 < w1.heap.size := (by omega); have HY : Hid _ := hY; have p1 : w1.cell? ⟨w.heap.size, 1, none⟩ = some (.pointer py) := (cell_of_row _ _ _ _ _ _ hb1).trans rfl; have o2 : w1.cell? ⟨w.heap.size + 1, 2, none⟩ = some (.int .i64 a) := (cell_of_row _ _ _ _ _ _ hb2).trans rfl; clear hY hb1 hb2) | (go_at_call 83; refine (HY.out _ (Below.refl _ _)).mono ?_; rintro e2 w2 ⟨rfl, hs2, hk2, hP⟩; have HP : Hid _ := hP; clear hP))
    go_ret
    exact ⟨ret_boolR (by simp), HP.out.four⟩
end
end Go.Proofs.Ythpjcmilfipbaaa
