/- My own text: several texts in one. -/
import Derived.Test.YthpjcmilfipbaaaL4
namespace Go.Proofs.Ythpjcmilfipbaaa
set_option linter.unusedVariables false
set_option linter.unusedSimpArgs false
open Go.RowKit
section
variable {R : World → (Nat → Prop) → Nat → Wd → Prop} {okc : Cl → Prop} {B : Nat} {w w1 : World} {col : Nat → Option Nat} {G : Nat} {av lv : Value} {ps : List (Option Cp)} {bks : List Bk}
theorem ret_pair {v : Value} {b : Bool} {n : Int} (hv : v = .bool b) (hb : b = true) : (Value.tuple #[v, .int .i64 n]) = .tuple #[.bool true, .int .i64 n] := by rw [hv, hb]
set_option maxHeartbeats 1600000 in
theorem ldoes_produce (s : SideOn R fnPrg 41 36 okc) (h : Game R B w col G av lv ps bks) (he : Eqs ps) {i : Nat} {p : Option Cp} (hi : ps[i]? = some p) (hn : bks.length ≤ 100000000) (W a b c d : Int) (ha : In64 a) (hb : In64 b) (hc : In64 c) (hd : In64 d) (hcc : ∀ c : Cl, c.base → okc c) :
    Calls Try.prog 39 #[.pointer (some ⟨G, 0, none⟩), .agg #[.pointer (ptrX p), .pointer (ptrY p)], opVal 3 W a b c d] w fun e w' => (∃ n : Int, e = .returned (.tuple #[.bool true, .int .i64 n])) ∧ Post R B w G av lv ps.length (bks.length + 4) w' := by
  unfold opVal
  have C := h.xyAt s he hi (.produce a b c d) ⟨ha, hb, hc, hd⟩ (hcc _ trivial) (.cells #[.pointer (ptrX p), .pointer (ptrY p)] 78) (.cells #[.int .i64 3, .int .i64 W, .int .i64 a, .int .i64 b, .int .i64 c, .int .i64 d] 72)
  obtain ⟨k, t, z, hz⟩ := res_produce a b c d (dX p)
  rw [hz] at C
  generalize ptrX p = px at *
  generalize ptrY p = py at *
  have HC : Hid (Calls Try.prog 18 #[.pointer px, .int .i64 a, .int .i64 b, .int .i64 c, .int .i64 d] ((w.alloc (.cells #[.pointer px, .pointer py] 78)).alloc (.cells #[.int .i64 3, .int .i64 W, .int .i64 a, .int .i64 b, .int .i64 c, .int .i64 d] 72)) fun e' w' => e' = .returned (.tuple #[.int .i64 k, .bool t, .int .i64 z]) ∧ w.heap.size + 2 ≤ w'.heap.size ∧ w'.heap[w.heap.size]? = some (.cells #[.pointer px, .pointer py] 78) ∧ w'.heap[w.heap.size + 1]? = some (.cells #[.int .i64 3, .int .i64 W, .int .i64 a, .int .i64 b, .int .i64 c, .int .i64 d] 72) ∧
      ∀ w1, Below w'.heap.size w' w1 → Calls Try.prog 61 #[.pointer py, .int .i64 a, .int .i64 b, .int .i64 c, .int .i64 d] w1 fun e' w2 => e' = .returned (.tuple #[.int .i64 k, .bool t, .int .i64 z]) ∧ w1.heap.size ≤ w2.heap.size ∧ (∀ k, w'.heap.size ≤ k → k < w1.heap.size → w2.heap[k]? = w1.heap[k]?) ∧ Post R B w G av lv ps.length bks.length w2) := C
  have HS := hid s
  clear C hz h he hi s hcc
  go_enter Try.func39, Try.ntmps39
  go_wp2_with (first | (go_at_call 18; refine HC.out.mono ?_; rintro e1 w1 ⟨rfl, hs1, hb1, hb2, hY⟩; have hl1 : w.heap.size < w1.heap.size := (by omega); have hl2 : w.heap.size + 1 < w1.heap.size := (by omega); have HY := hid hY; have p1 : w1.cell? ⟨w.heap.size, 1, none⟩ = some (.pointer py) := (cell_of_row _ _ _ _ _ _ hb1).trans rfl; have o2 : w1.cell? ⟨w.heap.size + 1, 2, none⟩ = some (.int .i64 a) := (cell_of_row _ _ _ _ _ _ hb2).trans rfl; have o3 : w1.cell? ⟨w.heap.size + 1, 3, none⟩ = some (.int .i64 b) := (cell_of_row _ _ _ _ _ _ hb2).trans rfl; have o4 : w1.cell? ⟨w.heap.size + 1, 4, none⟩ = some (.int .i64 c) := (cell_of_row _ _ _ _ _ _ hb2).trans rfl; have o5 : w1.cell? ⟨w.heap.size + 1, 5, none⟩ = some (.int .i64 d) := (cell_of_row _ _ _ _ _ _ hb2).trans rfl; clear hY hb1 hb2) | (go_at_call 61; refine (HY.out _ (Below.refl _ _)).mono ?_; rintro e2 w2 ⟨rfl, hs2, hk2, hP⟩; have HP := hid hP; clear hP))
  exact bodyPost_ret (v := .tuple #[.bool true, .int .i64 1]) (by simp [results, Try.results39, go_sem, *]) rfl ⟨⟨_, rfl⟩, HP.out.four⟩
set_option maxHeartbeats 1600000 in
theorem ldoes_fetch (s : SideOn R fnPrg 41 36 okc) (h : Game R B w col G av lv ps bks) (he : Eqs ps) {i : Nat} {p : Option Cp} (hi : ps[i]? = some p) (hn : bks.length ≤ 100000000) (W a b c d : Int) (ha : In64 a) (hb : In64 b) (hc : In64 c) (hd : In64 d) (hcc : ∀ c : Cl, c.base → okc c) :
    Calls Try.prog 39 #[.pointer (some ⟨G, 0, none⟩), .agg #[.pointer (ptrX p), .pointer (ptrY p)], opVal 4 W a b c d] w fun e w' => (∃ n : Int, e = .returned (.tuple #[.bool true, .int .i64 n])) ∧ Post R B w G av lv ps.length (bks.length + 4) w' := by
  unfold opVal
  have C := h.xyAt s he hi (.fetch a b) ⟨ha, hb⟩ (hcc _ trivial) (.cells #[.pointer (ptrX p), .pointer (ptrY p)] 78) (.cells #[.int .i64 4, .int .i64 W, .int .i64 a, .int .i64 b, .int .i64 c, .int .i64 d] 72)
  obtain ⟨pp, sq, vv, z, hz⟩ := res_fetch a b (dX p)
  rw [hz] at C
  generalize ptrX p = px at *
  generalize ptrY p = py at *
  have HC : Hid (Calls Try.prog 19 #[.pointer px, .int .i64 a, .int .i64 b] ((w.alloc (.cells #[.pointer px, .pointer py] 78)).alloc (.cells #[.int .i64 4, .int .i64 W, .int .i64 a, .int .i64 b, .int .i64 c, .int .i64 d] 72)) fun e' w' => e' = .returned (.tuple #[.agg #[.int .i64 pp, .int .i64 sq, .int .i64 vv], .int .i64 z]) ∧ w.heap.size + 2 ≤ w'.heap.size ∧ w'.heap[w.heap.size]? = some (.cells #[.pointer px, .pointer py] 78) ∧ w'.heap[w.heap.size + 1]? = some (.cells #[.int .i64 4, .int .i64 W, .int .i64 a, .int .i64 b, .int .i64 c, .int .i64 d] 72) ∧
      ∀ w1, Below w'.heap.size w' w1 → Calls Try.prog 62 #[.pointer py, .int .i64 a, .int .i64 b] w1 fun e' w2 => e' = .returned (.tuple #[.agg #[.int .i64 pp, .int .i64 sq, .int .i64 vv], .int .i64 z]) ∧ w1.heap.size ≤ w2.heap.size ∧ (∀ k, w'.heap.size ≤ k → k < w1.heap.size → w2.heap[k]? = w1.heap[k]?) ∧ Post R B w G av lv ps.length bks.length w2) := C
  have HS := hid s
  clear C hz h he hi s hcc
  go_enter Try.func39, Try.ntmps39
  go_wp2_with (first | (go_at_call 19; refine HC.out.mono ?_; rintro e1 w1 ⟨rfl, hs1, hb1, hb2, hY⟩; have hl1 : w.heap.size < w1.heap.size := (by omega); have hl2 : w.heap.size + 1 < w1.heap.size := (by omega); have HY := hid hY; have p1 : w1.cell? ⟨w.heap.size, 1, none⟩ = some (.pointer py) := (cell_of_row _ _ _ _ _ _ hb1).trans rfl; have o2 : w1.cell? ⟨w.heap.size + 1, 2, none⟩ = some (.int .i64 a) := (cell_of_row _ _ _ _ _ _ hb2).trans rfl; have o3 : w1.cell? ⟨w.heap.size + 1, 3, none⟩ = some (.int .i64 b) := (cell_of_row _ _ _ _ _ _ hb2).trans rfl; have o4 : w1.cell? ⟨w.heap.size + 1, 4, none⟩ = some (.int .i64 c) := (cell_of_row _ _ _ _ _ _ hb2).trans rfl; have o5 : w1.cell? ⟨w.heap.size + 1, 5, none⟩ = some (.int .i64 d) := (cell_of_row _ _ _ _ _ _ hb2).trans rfl; clear hY hb1 hb2) | (go_at_call 62; refine (HY.out _ ((Below.refl _ _).alloc (Nat.le_refl _) _)).mono ?_; rintro e2 w2 ⟨rfl, hs2, hk2, hP⟩; have hb3 := (hk2 w1.heap.size (Nat.le_refl _) (by simp)).trans (heap_alloc_new w1 _); have n0 : w2.cell? ⟨w1.heap.size, 0, none⟩ = some (.int .i64 pp) := (cell_of_row _ _ _ _ _ _ hb3).trans rfl; have n1 : w2.cell? ⟨w1.heap.size, 1, none⟩ = some (.int .i64 sq) := (cell_of_row _ _ _ _ _ _ hb3).trans rfl; have n2 : w2.cell? ⟨w1.heap.size, 2, none⟩ = some (.int .i64 vv) := (cell_of_row _ _ _ _ _ _ hb3).trans rfl; have hl3 : w1.heap.size < w2.heap.size := (by simp at hs2; omega); have HP := hid hP; clear hb3 hP))
  exact bodyPost_ret (v := .tuple #[.bool true, .int .i64 1]) (by simp [results, Try.results39, go_sem, *]) rfl ⟨⟨_, rfl⟩, HP.out.four.more HS.out ((Below.refl _ _).alloc (Nat.le_refl _) _)⟩
set_option maxHeartbeats 1600000 in
theorem ldoes_way (s : SideOn R fnPrg 41 36 okc) (h : Game R B w col G av lv ps bks) (he : Eqs ps) {i : Nat} {p : Option Cp} (hi : ps[i]? = some p) (hn : bks.length ≤ 100000000) (k W a b c d : Int) (hk : k = 5 ∨ k = 6 ∨ k = 7 ∨ k = 8) (ha : In64 a) (hb : In64 b) (hc : In64 c) (hd : In64 d) (hcc : ∀ c : Cl, c.base → okc c) :
    Calls Try.prog 39 #[.pointer (some ⟨G, 0, none⟩), .agg #[.pointer (ptrX p), .pointer (ptrY p)], opVal k W a b c d] w fun e w' => (∃ n : Int, e = .returned (.tuple #[.bool true, .int .i64 n])) ∧ Post R B w G av lv ps.length (bks.length + 4) w' := by
  unfold opVal
  obtain ⟨h0, hbel⟩ := h.two s (.cells #[.pointer (ptrX p), .pointer (ptrY p)] 78) (.cells #[.int .i64 k, .int .i64 W, .int .i64 a, .int .i64 b, .int .i64 c, .int .i64 d] 72)
  have HC := hid (lway_any s h0 he hi hn k W a b c d hk ha hcc)
  have HB := hid hbel
  unfold opVal at HC
  generalize ptrX p = px at *
  generalize ptrY p = py at *
  clear h0 hbel h he hi s hcc
  rcases hk with rfl | rfl | rfl | rfl
  · go_enter Try.func39, Try.ntmps39
    go_wp2_with (first | (go_at_call 63; refine HC.out.mono ?_; rintro e1 w1 ⟨rfl, hP⟩; have HP := hid hP; clear hP))
    exact bodyPost_ret (v := .tuple #[.bool true, .int .i64 2]) (by simp [results, Try.results39, go_sem, *]) rfl ⟨⟨_, rfl⟩, (HP.out.back HB.out)⟩
  · go_enter Try.func39, Try.ntmps39
    go_wp2_with (first | (go_at_call 63; refine HC.out.mono ?_; rintro e1 w1 ⟨rfl, hP⟩; have HP := hid hP; clear hP))
    exact bodyPost_ret (v := .tuple #[.bool true, .int .i64 2]) (by simp [results, Try.results39, go_sem, *]) rfl ⟨⟨_, rfl⟩, (HP.out.back HB.out)⟩
  · go_enter Try.func39, Try.ntmps39
    go_wp2_with (first | (go_at_call 63; refine HC.out.mono ?_; rintro e1 w1 ⟨rfl, hP⟩; have HP := hid hP; clear hP))
    exact bodyPost_ret (v := .tuple #[.bool true, .int .i64 2]) (by simp [results, Try.results39, go_sem, *]) rfl ⟨⟨_, rfl⟩, (HP.out.back HB.out)⟩
  · go_enter Try.func39, Try.ntmps39
    go_wp2_with (first | (go_at_call 63; refine HC.out.mono ?_; rintro e1 w1 ⟨rfl, hP⟩; have HP := hid hP; clear hP))
    exact bodyPost_ret (v := .tuple #[.bool true, .int .i64 2]) (by simp [results, Try.results39, go_sem, *]) rfl ⟨⟨_, rfl⟩, (HP.out.back HB.out)⟩
set_option maxHeartbeats 1600000 in
theorem ldoes_node (s : SideOn R fnPrg 41 36 okc) (h : Game R B w col G av lv ps bks) (he : Eqs ps) {i : Nat} {p : Option Cp} (hi : ps[i]? = some p) (hn : bks.length ≤ 100000000) (k W a b c d : Int) (hk : k = 9 ∨ k = 10 ∨ k = 11) (ha : In64 a) (hb : In64 b) (hc : In64 c) (hd : In64 d) (hcc : ∀ c : Cl, c.base → okc c) :
    Calls Try.prog 39 #[.pointer (some ⟨G, 0, none⟩), .agg #[.pointer (ptrX p), .pointer (ptrY p)], opVal k W a b c d] w fun e w' => (∃ n : Int, e = .returned (.tuple #[.bool true, .int .i64 n])) ∧ Post R B w G av lv ps.length (bks.length + 4) w' := by
  unfold opVal
  obtain ⟨h0, hbel⟩ := h.two s (.cells #[.pointer (ptrX p), .pointer (ptrY p)] 78) (.cells #[.int .i64 k, .int .i64 W, .int .i64 a, .int .i64 b, .int .i64 c, .int .i64 d] 72)
  have HC := hid (lnode_any s h0 he hi k W a b c d hk ha hcc)
  have HB := hid hbel
  unfold opVal at HC
  generalize ptrX p = px at *
  generalize ptrY p = py at *
  clear h0 hbel h he hi s hcc
  rcases hk with rfl | rfl | rfl
  · go_enter Try.func39, Try.ntmps39
    go_wp2_with (first | (go_at_call 64; refine HC.out.mono ?_; rintro e1 w1 ⟨rfl, hP⟩; have HP := hid hP; clear hP))
    exact bodyPost_ret (v := .tuple #[.bool true, .int .i64 4]) (by simp [results, Try.results39, go_sem, *]) rfl ⟨⟨_, rfl⟩, (HP.out.back HB.out).four⟩
  · go_enter Try.func39, Try.ntmps39
    go_wp2_with (first | (go_at_call 64; refine HC.out.mono ?_; rintro e1 w1 ⟨rfl, hP⟩; have HP := hid hP; clear hP))
    exact bodyPost_ret (v := .tuple #[.bool true, .int .i64 4]) (by simp [results, Try.results39, go_sem, *]) rfl ⟨⟨_, rfl⟩, (HP.out.back HB.out).four⟩
  · go_enter Try.func39, Try.ntmps39
    go_wp2_with (first | (go_at_call 64; refine HC.out.mono ?_; rintro e1 w1 ⟨rfl, hP⟩; have HP := hid hP; clear hP))
    exact bodyPost_ret (v := .tuple #[.bool true, .int .i64 4]) (by simp [results, Try.results39, go_sem, *]) rfl ⟨⟨_, rfl⟩, (HP.out.back HB.out).four⟩
set_option maxHeartbeats 1600000 in
theorem ldoes_master (s : SideOn R fnPrg 41 36 okc) (h : Game R B w col G av lv ps bks) (he : Eqs ps) {i : Nat} {p : Option Cp} (hi : ps[i]? = some p) (hn : bks.length ≤ 100000000) (k W a b c d : Int) (hk : k = 12 ∨ k = 13 ∨ k = 14) (ha : In64 a) (hb : In64 b) (hc : In64 c) (hd : In64 d) (hcc : ∀ c : Cl, okc c) :
    Calls Try.prog 39 #[.pointer (some ⟨G, 0, none⟩), .agg #[.pointer (ptrX p), .pointer (ptrY p)], opVal k W a b c d] w fun e w' => (∃ n : Int, e = .returned (.tuple #[.bool true, .int .i64 n])) ∧ Post R B w G av lv ps.length (bks.length + 4) w' := by
  unfold opVal
  obtain ⟨h0, hbel⟩ := h.two s (.cells #[.pointer (ptrX p), .pointer (ptrY p)] 78) (.cells #[.int .i64 k, .int .i64 W, .int .i64 a, .int .i64 b, .int .i64 c, .int .i64 d] 72)
  have HC := hid (lmaster_any s h0 he hi k W a b c d hk ha hb hcc)
  have HB := hid hbel
  unfold opVal at HC
  generalize ptrX p = px at *
  generalize ptrY p = py at *
  clear h0 hbel h he hi s hcc
  rcases hk with rfl | rfl | rfl
  · go_enter Try.func39, Try.ntmps39
    go_wp2_with (first | (go_at_call 65; refine HC.out.mono ?_; rintro e1 w1 ⟨rfl, hP⟩; have HP := hid hP; clear hP))
    exact bodyPost_ret (v := .tuple #[.bool true, .int .i64 8]) (by simp [results, Try.results39, go_sem, *]) rfl ⟨⟨_, rfl⟩, (HP.out.back HB.out).four⟩
  · go_enter Try.func39, Try.ntmps39
    go_wp2_with (first | (go_at_call 65; refine HC.out.mono ?_; rintro e1 w1 ⟨rfl, hP⟩; have HP := hid hP; clear hP))
    exact bodyPost_ret (v := .tuple #[.bool true, .int .i64 8]) (by simp [results, Try.results39, go_sem, *]) rfl ⟨⟨_, rfl⟩, (HP.out.back HB.out).four⟩
  · go_enter Try.func39, Try.ntmps39
    go_wp2_with (first | (go_at_call 65; refine HC.out.mono ?_; rintro e1 w1 ⟨rfl, hP⟩; have HP := hid hP; clear hP))
    exact bodyPost_ret (v := .tuple #[.bool true, .int .i64 8]) (by simp [results, Try.results39, go_sem, *]) rfl ⟨⟨_, rfl⟩, (HP.out.back HB.out).four⟩
set_option maxHeartbeats 1600000 in
theorem ldoes_other (s : SideOn R fnPrg 41 36 okc) (h : Game R B w col G av lv ps bks) (he : Eqs ps) {i : Nat} {p : Option Cp} (hi : ps[i]? = some p) (hn : bks.length ≤ 100000000) (k W a b c d : Int) (hk : k < 3 ∨ 14 < k) (ha : In64 a) (hb : In64 b) (hc : In64 c) (hd : In64 d) (hcc : ∀ c : Cl, c.base → okc c) :
    Calls Try.prog 39 #[.pointer (some ⟨G, 0, none⟩), .agg #[.pointer (ptrX p), .pointer (ptrY p)], opVal k W a b c d] w fun e w' => (∃ n : Int, e = .returned (.tuple #[.bool true, .int .i64 n])) ∧ Post R B w G av lv ps.length (bks.length + 4) w' := by
  unfold opVal
  have b3 : (k == 3) = false := by simp; omega
  have b4 : (k == 4) = false := by simp; omega
  have b5 : (k == 5) = false := by simp; omega
  have b6 : (k == 6) = false := by simp; omega
  have b7 : (k == 7) = false := by simp; omega
  have b8 : (k == 8) = false := by simp; omega
  have b9 : (k == 9) = false := by simp; omega
  have b10 : (k == 10) = false := by simp; omega
  have b11 : (k == 11) = false := by simp; omega
  have b12 : (k == 12) = false := by simp; omega
  have b13 : (k == 13) = false := by simp; omega
  have b14 : (k == 14) = false := by simp; omega
  have HT := hid (h.two s (.cells #[.pointer (ptrX p), .pointer (ptrY p)] 78) (.cells #[.int .i64 k, .int .i64 W, .int .i64 a, .int .i64 b, .int .i64 c, .int .i64 d] 72))
  have HE := hid he
  generalize ptrX p = px at *
  generalize ptrY p = py at *
  clear h he hi s hk hcc
  go_enter Try.func39, Try.ntmps39
  go_wp2
  exact bodyPost_ret (v := .tuple #[.bool true, .int .i64 0]) (by simp [results, Try.results39, go_sem, *]) rfl ⟨⟨_, rfl⟩, HT.out.2, _, _, _, _, HT.out.1, HE.out, rfl, by omega⟩
theorem ldoes_any (s : SideOn R fnPrg 41 36 okc) (h : Game R B w col G av lv ps bks) (he : Eqs ps) {i : Nat} {p : Option Cp} (hi : ps[i]? = some p) (hn : bks.length ≤ 100000000) (k W a b c d : Int) (ha : In64 a) (hb : In64 b) (hc : In64 c) (hd : In64 d) (hcc : ∀ c : Cl, c.base → okc c) (hcm : (k = 12 ∨ k = 13 ∨ k = 14) → ∀ c : Cl, okc c) :
    Calls Try.prog 39 #[.pointer (some ⟨G, 0, none⟩), .agg #[.pointer (ptrX p), .pointer (ptrY p)], opVal k W a b c d] w fun e w' => (∃ n : Int, e = .returned (.tuple #[.bool true, .int .i64 n])) ∧ Post R B w G av lv ps.length (bks.length + 4) w' := by
  by_cases h1 : k < 3 ∨ 14 < k
  · exact ldoes_other s h he hi hn k W a b c d h1 ha hb hc hd hcc
  by_cases h2 : k = 3
  · subst h2; exact ldoes_produce s h he hi hn W a b c d ha hb hc hd hcc
  by_cases h3 : k = 4
  · subst h3; exact ldoes_fetch s h he hi hn W a b c d ha hb hc hd hcc
  by_cases h4 : k ≤ 8
  · exact ldoes_way s h he hi hn k W a b c d (by omega) ha hb hc hd hcc
  by_cases h5 : k ≤ 11
  · exact ldoes_node s h he hi hn k W a b c d (by omega) ha hb hc hd hcc
  · exact ldoes_master s h he hi hn k W a b c d (by omega) ha hb hc hd (hcm (by omega))
end
end Go.Proofs.Ythpjcmilfipbaaa

namespace Go.Proofs.Ythpjcmilfipbaaa
set_option linter.unusedVariables false
set_option linter.unusedSimpArgs false
open Go.RowKit
section
variable {R : World → (Nat → Prop) → Nat → Wd → Prop} {fn : Cl → Nat} {fm fw : Nat} {okc : Cl → Prop} {B : Nat} {w w1 : World} {col : Nat → Option Nat} {G : Nat} {av lv : Value} {ps : List (Option Cp)} {bks : List Bk}
theorem SideOn.quiet (s : SideOn R fn fm fw okc) {c c' b : Nat} {d : Wd} (h : R w (Of col c') b d) (hb : Below w.heap.size w w1) : R w1 (Of (paint col w c) c') b d :=
  s.same (s.mono h fun k hk e => by show paint col w c k = _; rw [paint_old hk]; exact e) fun k _ hk => hb.block k hk
theorem Game.quietC (s : SideOn R fn fm fw okc) (h : Game R B w col G av lv ps bks) (c : Nat) (hb : Below w.heap.size w w1) : Game R B w1 (paint col w c) G av lv ps bks :=
  { base := Nat.le_trans h.base hb.size, low := h.low' _
    g := by
      refine h.g.same2 (fun q hq e => by show paint col w c q = _; rw [paint_old hq]; exact e) (hb.block G (Array.getElem?_eq_some_iff.1 h.g.blk).1) (fun g hg => hb.block g (ownsRow_lt h.g.lists hg)) fun x hx g hg => ?_
      obtain ⟨_, cs, hc⟩ := h.g.okS x hx g hg
      exact hb.block g (Array.getElem?_eq_some_iff.1 hc).1
    all := ownsRow_same h.all fun g _ hl => hb.block g hl
    allS := fun g hg => by show paint col w c g = _; rw [paint_old (ownsRow_lt h.all hg)]; exact h.allS g hg
    xs := fun i p hi => ⟨s.quiet (h.xs i p hi).1 hb, (h.xs i p hi).2⟩
    ys := fun i p hi => ⟨docSide.quiet (h.ys i p hi).1 hb, (h.ys i p hi).2⟩ }
theorem Game.rowA (h : Game R B w col G av lv ps bks) : av.ownBlock ≠ some G := fun e => by
  have e1 : col G = some 1 := h.allS G e
  have e2 : col G = some 0 := h.g.inG
  rw [e1] at e2; simp at e2
/-- New on both sides. -/
theorem Game.new (s : SideOn R fn fm fw okc) (h : Game R B w col G av lv ps bks) :
    Calls Try.prog fw #[] w fun e w1 => ∃ b, e = .returned (.pointer (some ⟨b, 0, none⟩)) ∧ Below w.heap.size w w1 ∧
      Calls Try.prog 37 #[] w1 fun e w2 => ∃ b2, e = .returned (.pointer (some ⟨b2, 0, none⟩)) ∧ Below w.heap.size w w2 ∧
        ∃ col2, Game R B w2 col2 G av lv ps bks ∧ R w2 (Of col2 (2 * ps.length + 2)) b rNew ∧ DocR w2 (Of col2 (2 * ps.length + 3)) b2 rNew := by
  refine (s.new w).mono fun e w1 ⟨b, h1, h2, h3⟩ => ⟨b, h1, h3, ?_⟩
  have g1 := h.quietC s (2 * ps.length + 2) h3
  have r1 : R w1 (Of (paint col w (2 * ps.length + 2)) (2 * ps.length + 2)) b rNew := s.mono h2 fun k _ e => paint_new e
  refine (docSide.new w1).mono fun e w2 ⟨b2, k1, k2, k3⟩ => ⟨b2, k1, h3.trans (k3.mono h3.size), paint (paint col w (2 * ps.length + 2)) w1 (2 * ps.length + 3), g1.quietC s _ k3, s.quiet r1 k3, docSide.mono k2 fun k _ e => paint_new e⟩
theorem Game.add (s : SideOn R fn fm fw okc) (h : Game R B w col G av lv ps bks) (p : Option Cp) (hx : ∀ q, p = some q → R w (Of col (2 * ps.length + 2)) q.x q.dx ∧ ROk q.dx) (hy : ∀ q, p = some q → DocR w (Of col (2 * ps.length + 3)) q.y q.dy ∧ ROk q.dy)
    {W : World} (hW : Fr No w W) {gg cap' : Nat} (hown : w1.ownsRow 0 78 2 (.slice (some ⟨gg, 0, none⟩) (ps.length + 1) cap') (ps.length + 1) (pairCells ps ++ pairRow p)) (hgrow : W.grownBy w1 av.ownBlock) (hat : av.ownBlock = some gg ∨ w.heap.size ≤ gg) :
    Game R B (w1.setCell ⟨G, 0, none⟩ (.slice (some ⟨gg, 0, none⟩) (ps.length + 1) cap')) (paint col w 1) G (.slice (some ⟨gg, 0, none⟩) (ps.length + 1) cap') lv (ps ++ [p]) bks ∧
    Below B w (w1.setCell ⟨G, 0, none⟩ (.slice (some ⟨gg, 0, none⟩) (ps.length + 1) cap')) := by
  have hGl : G < w.heap.size := (Array.getElem?_eq_some_iff.1 h.g.blk).1
  have hG0 : col G = some 0 := h.g.inG
  have hrow : ∀ q c, col q = some c → c ≠ 1 → av.ownBlock ≠ some q := fun q c hq hc e => by
    have : col q = some 1 := h.allS q e
    rw [hq] at this; simp at this; exact hc this
  have hgG : gg ≠ G := by
    rcases hat with e | e
    · intro q; subst q; exact hrow gg 0 hG0 (by omega) e
    · omega
  have hold : ∀ q, q < w.heap.size → av.ownBlock ≠ some q → w1.heap[q]? = w.heap[q]? := fun q hq hu =>
    (hgrow.block q (Nat.lt_of_lt_of_le hq hW.size) (fun e => hu e.symm)).trans (hW.block q hq (fun e => e))
  have hset : ∀ q, q ≠ G → (w1.setCell ⟨G, 0, none⟩ (.slice (some ⟨gg, 0, none⟩) (ps.length + 1) cap')).heap[q]? = w1.heap[q]? := fun q hq => Below.heap_setCell _ _ _ _ hq
  have hall : ∀ q c, q < w.heap.size → col q = some c → c ≠ 1 → q ≠ G → (w1.setCell ⟨G, 0, none⟩ (.slice (some ⟨gg, 0, none⟩) (ps.length + 1) cap')).heap[q]? = w.heap[q]? := fun q c hq hc h1 hG =>
    (hset q hG).trans (hold q hq (hrow q c hc h1))
  have hsz : w.heap.size ≤ (w1.setCell ⟨G, 0, none⟩ (.slice (some ⟨gg, 0, none⟩) (ps.length + 1) cap')).heap.size := by
    have := hgrow.size
    have := hW.size
    simp [World.setCell]; omega
  have hpart : ∀ q c, q < w.heap.size → 2 ≤ c → Of (paint col w 1) c q → (w1.setCell ⟨G, 0, none⟩ (.slice (some ⟨gg, 0, none⟩) (ps.length + 1) cap')).heap[q]? = w.heap[q]? := fun q c hq hc e => by
    have e1 : paint col w 1 q = some c := e
    rw [paint_old hq] at e1
    exact hall q c hq e1 (by omega) fun e2 => by rw [e2, hG0] at e1; simp at e1; omega
  refine ⟨{ base := Nat.le_trans h.base hsz, low := h.low' _, g := ?_, all := ?_, allS := ?_, xs := ?_, ys := ?_ }, ?_⟩
  · refine { blk := ?_, inG := by show paint col w 1 G = _; rw [paint_old hGl]; exact hG0, lists := ?_, listS := fun g hg => ?_, oks := fun x hx => ?_, okS := fun x hx g hg => ?_ }
    · have := heap_setCell_at w1 G 0 (.slice (some ⟨gg, 0, none⟩) (ps.length + 1) cap') _ _ _ ((hold G hGl (hrow G 0 hG0 (by omega))).trans h.g.blk)
      exact this
    · refine ownsRow_same h.g.lists fun g hg hl => hall g 0 hl (h.g.listS g hg) (by omega) fun e => ?_
      subst e
      exact h.g.rowG hg
    · show paint col w 1 g = _; rw [paint_old (ownsRow_lt h.g.lists hg)]; exact h.g.listS g hg
    · refine (h.g.oks x hx).same fun g hg => ?_
      obtain ⟨hs, cs, hc⟩ := h.g.okS x hx g hg
      exact hall g 0 (Array.getElem?_eq_some_iff.1 hc).1 hs (by omega) (ne_of_type hc h.g.blk (by decide))
    · obtain ⟨hs, cs, hc⟩ := h.g.okS x hx g hg
      have hl := (Array.getElem?_eq_some_iff.1 hc).1
      exact ⟨by show paint col w 1 g = _; rw [paint_old hl]; exact hs, cs, by rw [hall g 0 hl hs (by omega) (ne_of_type hc h.g.blk (by decide))]; exact hc⟩
  · rw [pairCells_append, List.length_append]
    have e : pairCells [p] = pairRow p := by simp [pairCells]
    rw [e]
    exact ownsRow_same hown fun g hg _ => hset g (by simp [Value.ownBlock] at hg; omega)
  · intro g hg
    simp [Value.ownBlock] at hg
    subst hg
    rcases hat with e | e
    · show paint col w 1 gg = _; rw [paint_old (ownsRow_lt h.all e)]; exact h.allS gg e
    · exact paint_new e
  · intro i q hq
    have keep : ∀ {b : Nat} {d : Wd} {c : Nat}, 2 ≤ c → R w (Of col c) b d → R (w1.setCell ⟨G, 0, none⟩ (.slice (some ⟨gg, 0, none⟩) (ps.length + 1) cap')) (Of (paint col w 1) c) b d := fun {b d c} hc hr =>
      s.same (s.mono hr fun k hk e => by show paint col w 1 k = _; rw [paint_old hk]; exact e) fun k e hk => hpart k c hk hc e
    by_cases hi : i < ps.length
    · rw [List.getElem?_append_left hi] at hq
      exact ⟨keep (by omega) (h.xs i q hq).1, (h.xs i q hq).2⟩
    · rw [List.getElem?_append_right (by omega)] at hq
      have : i = ps.length := by
        have := (List.getElem?_eq_some_iff.1 hq).1
        simp at this; omega
      subst this
      simp at hq
      exact ⟨keep (by omega) (hx q hq).1, (hx q hq).2⟩
  · intro i q hq
    have keep : ∀ {b : Nat} {d : Wd} {c : Nat}, 2 ≤ c → DocR w (Of col c) b d → DocR (w1.setCell ⟨G, 0, none⟩ (.slice (some ⟨gg, 0, none⟩) (ps.length + 1) cap')) (Of (paint col w 1) c) b d := fun {b d c} hc hr =>
      docSide.same (docSide.mono hr fun k hk e => by show paint col w 1 k = _; rw [paint_old hk]; exact e) fun k e hk => hpart k c hk hc e
    by_cases hi : i < ps.length
    · rw [List.getElem?_append_left hi] at hq
      exact ⟨keep (by omega) (h.ys i q hq).1, (h.ys i q hq).2⟩
    · rw [List.getElem?_append_right (by omega)] at hq
      have : i = ps.length := by
        have := (List.getElem?_eq_some_iff.1 hq).1
        simp at this; omega
      subst this
      simp at hq
      exact ⟨keep (by omega) (hy q hq).1, (hy q hq).2⟩
  · refine ⟨by show w1.os = w.os; rw [hgrow.os, hW.os], by show w1.tape = w.tape; rw [hgrow.tape, hW.tape], by show w1.output = w.output; rw [hgrow.output, hW.output], hsz, fun k hk => ?_⟩
    have hl := h.low k hk
    rw [hset k (fun e => by rw [e, hG0] at hl; simp at hl)]
    exact hold k (Nat.lt_of_lt_of_le hk h.base) fun e => by
      have : col k = some 1 := h.allS k e
      rw [hl] at this; simp at this
theorem pair_cells {e g n cap : Nat} {l : List (Option Cp)} (h : w.ownsRow 0 e 2 (.slice (some ⟨g, 0, none⟩) n cap) n (pairCells l)) (k : Nat) (x : Option Cp) (hk : l[k]? = some x) :
    w.cell? ⟨g, k * 2, none⟩ = some (.pointer (ptrX x)) ∧ w.cell? ⟨g, k * 2 + 1, none⟩ = some (.pointer (ptrY x)) := by
  have hc := h.cells (g := g) rfl
  have key : ∀ j u, j < 2 → (pairRow x)[j]? = some u → w.cell? ⟨g, k * 2 + j, none⟩ = some u := by
    intro j u hj hu
    have := hc (k * 2 + j) u (by rw [pairCells, flat_at _ 2 (fun _ => rfl) l k j x hk hj]; exact hu)
    rwa [add_at] at this
  exact ⟨by simpa using key 0 _ (by omega) rfl, key 1 _ (by omega) rfl⟩
theorem infoPair : (Try.prog.info? 78).map (fun i => (i.zero, i.size, i.bytes)) = some (some (.agg #[.pointer none, .pointer none]), 2, 16) := by kernel_rfl
theorem pairRow_one (p : Option Cp) : ∀ u ∈ pairRow p, u.oneCell' = true := by
  intro u hu
  simp only [pairRow, List.mem_cons, List.not_mem_nil, or_false] at hu
  rcases hu with rfl | rfl <;> rfl
end
end Go.Proofs.Ythpjcmilfipbaaa
