/- My own text. Walks of package ledgerlaw: does. -/
import Derived.Test.YthpfgmdffendoaaLawWay
namespace Go.Proofs.Ythpfgmdffendoaa
set_option linter.unusedVariables false
set_option linter.unusedSimpArgs false
open Go.RowKit
section
variable {R : World → (Nat → Prop) → Nat → Wd → Prop} {okc : Cl → Prop} {B : Nat} {w w1 : World} {col : Nat → Option Nat} {G : Nat} {av lv : Value} {ps : List (Option Cp)} {bks : List Bk}
theorem ret_pair {v : Value} {b : Bool} {n : Int} (hv : v = .bool b) (hb : b = true) : (Value.tuple #[v, .int .i64 n]) = .tuple #[.bool true, .int .i64 n] := by rw [hv, hb]
set_option maxHeartbeats 1600000 in
theorem ldoes_produce (s : SideOn R fnPrg 30 25 okc) (h : Game R B w col G av lv ps bks) (he : Eqs ps) {i : Nat} {p : Option Cp} (hi : ps[i]? = some p) (hn : bks.length ≤ 100000000) (W a b c d : Int) (ha : In64 a) (hb : In64 b) (hc : In64 c) (hd : In64 d) (hcc : ∀ c : Cl, c.base → okc c) :
    Calls Try.prog 28 #[.pointer (some ⟨G, 0, none⟩), .agg #[.pointer (ptrX p), .pointer (ptrY p)], opVal 3 W a b c d] w fun e w' => (∃ n : Int, e = .returned (.tuple #[.bool true, .int .i64 n])) ∧ Post R B w G av lv ps.length (bks.length + 4) w' := by
  unfold opVal
  have C := h.xyAt s he hi (.produce a b c d) ⟨ha, hb, hc, hd⟩ (hcc _ trivial) (.cells #[.pointer (ptrX p), .pointer (ptrY p)] 69) (.cells #[.int .i64 3, .int .i64 W, .int .i64 a, .int .i64 b, .int .i64 c, .int .i64 d] 63)
  obtain ⟨k, t, z, hz⟩ := res_produce a b c d (dX p)
  rw [hz] at C
  generalize ptrX p = px at *
  generalize ptrY p = py at *
  have HC : Hid (Calls Try.prog 14 #[.pointer px, .int .i64 a, .int .i64 b, .int .i64 c, .int .i64 d] ((w.alloc (.cells #[.pointer px, .pointer py] 69)).alloc (.cells #[.int .i64 3, .int .i64 W, .int .i64 a, .int .i64 b, .int .i64 c, .int .i64 d] 63)) fun e' w' => e' = .returned (.tuple #[.int .i64 k, .bool t, .int .i64 z]) ∧ w.heap.size + 2 ≤ w'.heap.size ∧ w'.heap[w.heap.size]? = some (.cells #[.pointer px, .pointer py] 69) ∧ w'.heap[w.heap.size + 1]? = some (.cells #[.int .i64 3, .int .i64 W, .int .i64 a, .int .i64 b, .int .i64 c, .int .i64 d] 63) ∧
      ∀ w1, Below w'.heap.size w' w1 → Calls Try.prog 47 #[.pointer py, .int .i64 a, .int .i64 b, .int .i64 c, .int .i64 d] w1 fun e' w2 => e' = .returned (.tuple #[.int .i64 k, .bool t, .int .i64 z]) ∧ w1.heap.size ≤ w2.heap.size ∧ (∀ k, w'.heap.size ≤ k → k < w1.heap.size → w2.heap[k]? = w1.heap[k]?) ∧ Post R B w G av lv ps.length bks.length w2) := C
  have HS := hid s
  clear C hz h he hi s hcc
  go_enter Try.func28, Try.ntmps28
  go_wp2_with (first | (go_at_call 14; refine HC.out.mono ?_; rintro e1 w1 ⟨rfl, hs1, hb1, hb2, hY⟩; have hl1 : w.heap.size < w1.heap.size := (by omega); have hl2 : w.heap.size + 1 < w1.heap.size := (by omega); have HY := hid hY; have p1 : w1.cell? ⟨w.heap.size, 1, none⟩ = some (.pointer py) := (cell_of_row _ _ _ _ _ _ hb1).trans rfl; have o2 : w1.cell? ⟨w.heap.size + 1, 2, none⟩ = some (.int .i64 a) := (cell_of_row _ _ _ _ _ _ hb2).trans rfl; have o3 : w1.cell? ⟨w.heap.size + 1, 3, none⟩ = some (.int .i64 b) := (cell_of_row _ _ _ _ _ _ hb2).trans rfl; have o4 : w1.cell? ⟨w.heap.size + 1, 4, none⟩ = some (.int .i64 c) := (cell_of_row _ _ _ _ _ _ hb2).trans rfl; have o5 : w1.cell? ⟨w.heap.size + 1, 5, none⟩ = some (.int .i64 d) := (cell_of_row _ _ _ _ _ _ hb2).trans rfl; clear hY hb1 hb2) | (go_at_call 47; refine (HY.out _ (Below.refl _ _)).mono ?_; rintro e2 w2 ⟨rfl, hs2, hk2, hP⟩; have HP := hid hP; clear hP))
  exact bodyPost_ret (v := .tuple #[.bool true, .int .i64 1]) (by simp [results, Try.results28, go_sem, *]) rfl ⟨⟨_, rfl⟩, HP.out.four⟩
set_option maxHeartbeats 1600000 in
theorem ldoes_fetch (s : SideOn R fnPrg 30 25 okc) (h : Game R B w col G av lv ps bks) (he : Eqs ps) {i : Nat} {p : Option Cp} (hi : ps[i]? = some p) (hn : bks.length ≤ 100000000) (W a b c d : Int) (ha : In64 a) (hb : In64 b) (hc : In64 c) (hd : In64 d) (hcc : ∀ c : Cl, c.base → okc c) :
    Calls Try.prog 28 #[.pointer (some ⟨G, 0, none⟩), .agg #[.pointer (ptrX p), .pointer (ptrY p)], opVal 4 W a b c d] w fun e w' => (∃ n : Int, e = .returned (.tuple #[.bool true, .int .i64 n])) ∧ Post R B w G av lv ps.length (bks.length + 4) w' := by
  unfold opVal
  have C := h.xyAt s he hi (.fetch a b) ⟨ha, hb⟩ (hcc _ trivial) (.cells #[.pointer (ptrX p), .pointer (ptrY p)] 69) (.cells #[.int .i64 4, .int .i64 W, .int .i64 a, .int .i64 b, .int .i64 c, .int .i64 d] 63)
  obtain ⟨pp, sq, vv, z, hz⟩ := res_fetch a b (dX p)
  rw [hz] at C
  generalize ptrX p = px at *
  generalize ptrY p = py at *
  have HC : Hid (Calls Try.prog 15 #[.pointer px, .int .i64 a, .int .i64 b] ((w.alloc (.cells #[.pointer px, .pointer py] 69)).alloc (.cells #[.int .i64 4, .int .i64 W, .int .i64 a, .int .i64 b, .int .i64 c, .int .i64 d] 63)) fun e' w' => e' = .returned (.tuple #[.agg #[.int .i64 pp, .int .i64 sq, .int .i64 vv], .int .i64 z]) ∧ w.heap.size + 2 ≤ w'.heap.size ∧ w'.heap[w.heap.size]? = some (.cells #[.pointer px, .pointer py] 69) ∧ w'.heap[w.heap.size + 1]? = some (.cells #[.int .i64 4, .int .i64 W, .int .i64 a, .int .i64 b, .int .i64 c, .int .i64 d] 63) ∧
      ∀ w1, Below w'.heap.size w' w1 → Calls Try.prog 48 #[.pointer py, .int .i64 a, .int .i64 b] w1 fun e' w2 => e' = .returned (.tuple #[.agg #[.int .i64 pp, .int .i64 sq, .int .i64 vv], .int .i64 z]) ∧ w1.heap.size ≤ w2.heap.size ∧ (∀ k, w'.heap.size ≤ k → k < w1.heap.size → w2.heap[k]? = w1.heap[k]?) ∧ Post R B w G av lv ps.length bks.length w2) := C
  have HS := hid s
  clear C hz h he hi s hcc
  go_enter Try.func28, Try.ntmps28
  go_wp2_with (first | (go_at_call 15; refine HC.out.mono ?_; rintro e1 w1 ⟨rfl, hs1, hb1, hb2, hY⟩; have hl1 : w.heap.size < w1.heap.size := (by omega); have hl2 : w.heap.size + 1 < w1.heap.size := (by omega); have HY := hid hY; have p1 : w1.cell? ⟨w.heap.size, 1, none⟩ = some (.pointer py) := (cell_of_row _ _ _ _ _ _ hb1).trans rfl; have o2 : w1.cell? ⟨w.heap.size + 1, 2, none⟩ = some (.int .i64 a) := (cell_of_row _ _ _ _ _ _ hb2).trans rfl; have o3 : w1.cell? ⟨w.heap.size + 1, 3, none⟩ = some (.int .i64 b) := (cell_of_row _ _ _ _ _ _ hb2).trans rfl; have o4 : w1.cell? ⟨w.heap.size + 1, 4, none⟩ = some (.int .i64 c) := (cell_of_row _ _ _ _ _ _ hb2).trans rfl; have o5 : w1.cell? ⟨w.heap.size + 1, 5, none⟩ = some (.int .i64 d) := (cell_of_row _ _ _ _ _ _ hb2).trans rfl; clear hY hb1 hb2) | (go_at_call 48; refine (HY.out _ ((Below.refl _ _).alloc (Nat.le_refl _) _)).mono ?_; rintro e2 w2 ⟨rfl, hs2, hk2, hP⟩; have hb3 := (hk2 w1.heap.size (Nat.le_refl _) (by simp)).trans (heap_alloc_new w1 _); have n0 : w2.cell? ⟨w1.heap.size, 0, none⟩ = some (.int .i64 pp) := (cell_of_row _ _ _ _ _ _ hb3).trans rfl; have n1 : w2.cell? ⟨w1.heap.size, 1, none⟩ = some (.int .i64 sq) := (cell_of_row _ _ _ _ _ _ hb3).trans rfl; have n2 : w2.cell? ⟨w1.heap.size, 2, none⟩ = some (.int .i64 vv) := (cell_of_row _ _ _ _ _ _ hb3).trans rfl; have hl3 : w1.heap.size < w2.heap.size := (by simp at hs2; omega); have HP := hid hP; clear hb3 hP))
  exact bodyPost_ret (v := .tuple #[.bool true, .int .i64 1]) (by simp [results, Try.results28, go_sem, *]) rfl ⟨⟨_, rfl⟩, HP.out.four.more HS.out ((Below.refl _ _).alloc (Nat.le_refl _) _)⟩
set_option maxHeartbeats 1600000 in
theorem ldoes_way (s : SideOn R fnPrg 30 25 okc) (h : Game R B w col G av lv ps bks) (he : Eqs ps) {i : Nat} {p : Option Cp} (hi : ps[i]? = some p) (hn : bks.length ≤ 100000000) (k W a b c d : Int) (hk : k = 5 ∨ k = 6 ∨ k = 7 ∨ k = 8) (ha : In64 a) (hb : In64 b) (hc : In64 c) (hd : In64 d) (hcc : ∀ c : Cl, c.base → okc c) :
    Calls Try.prog 28 #[.pointer (some ⟨G, 0, none⟩), .agg #[.pointer (ptrX p), .pointer (ptrY p)], opVal k W a b c d] w fun e w' => (∃ n : Int, e = .returned (.tuple #[.bool true, .int .i64 n])) ∧ Post R B w G av lv ps.length (bks.length + 4) w' := by
  unfold opVal
  obtain ⟨h0, hbel⟩ := h.two s (.cells #[.pointer (ptrX p), .pointer (ptrY p)] 69) (.cells #[.int .i64 k, .int .i64 W, .int .i64 a, .int .i64 b, .int .i64 c, .int .i64 d] 63)
  have HC := hid (lway_any s h0 he hi hn k W a b c d hk ha hcc)
  have HB := hid hbel
  unfold opVal at HC
  generalize ptrX p = px at *
  generalize ptrY p = py at *
  clear h0 hbel h he hi s hcc
  rcases hk with rfl | rfl | rfl | rfl
  · go_enter Try.func28, Try.ntmps28
    go_wp2_with (first | (go_at_call 49; refine HC.out.mono ?_; rintro e1 w1 ⟨rfl, hP⟩; have HP := hid hP; clear hP))
    exact bodyPost_ret (v := .tuple #[.bool true, .int .i64 2]) (by simp [results, Try.results28, go_sem, *]) rfl ⟨⟨_, rfl⟩, (HP.out.back HB.out)⟩
  · go_enter Try.func28, Try.ntmps28
    go_wp2_with (first | (go_at_call 49; refine HC.out.mono ?_; rintro e1 w1 ⟨rfl, hP⟩; have HP := hid hP; clear hP))
    exact bodyPost_ret (v := .tuple #[.bool true, .int .i64 2]) (by simp [results, Try.results28, go_sem, *]) rfl ⟨⟨_, rfl⟩, (HP.out.back HB.out)⟩
  · go_enter Try.func28, Try.ntmps28
    go_wp2_with (first | (go_at_call 49; refine HC.out.mono ?_; rintro e1 w1 ⟨rfl, hP⟩; have HP := hid hP; clear hP))
    exact bodyPost_ret (v := .tuple #[.bool true, .int .i64 2]) (by simp [results, Try.results28, go_sem, *]) rfl ⟨⟨_, rfl⟩, (HP.out.back HB.out)⟩
  · go_enter Try.func28, Try.ntmps28
    go_wp2_with (first | (go_at_call 49; refine HC.out.mono ?_; rintro e1 w1 ⟨rfl, hP⟩; have HP := hid hP; clear hP))
    exact bodyPost_ret (v := .tuple #[.bool true, .int .i64 2]) (by simp [results, Try.results28, go_sem, *]) rfl ⟨⟨_, rfl⟩, (HP.out.back HB.out)⟩
set_option maxHeartbeats 1600000 in
theorem ldoes_node (s : SideOn R fnPrg 30 25 okc) (h : Game R B w col G av lv ps bks) (he : Eqs ps) {i : Nat} {p : Option Cp} (hi : ps[i]? = some p) (hn : bks.length ≤ 100000000) (k W a b c d : Int) (hk : k = 9 ∨ k = 10 ∨ k = 11) (ha : In64 a) (hb : In64 b) (hc : In64 c) (hd : In64 d) (hcc : ∀ c : Cl, c.base → okc c) :
    Calls Try.prog 28 #[.pointer (some ⟨G, 0, none⟩), .agg #[.pointer (ptrX p), .pointer (ptrY p)], opVal k W a b c d] w fun e w' => (∃ n : Int, e = .returned (.tuple #[.bool true, .int .i64 n])) ∧ Post R B w G av lv ps.length (bks.length + 4) w' := by
  unfold opVal
  obtain ⟨h0, hbel⟩ := h.two s (.cells #[.pointer (ptrX p), .pointer (ptrY p)] 69) (.cells #[.int .i64 k, .int .i64 W, .int .i64 a, .int .i64 b, .int .i64 c, .int .i64 d] 63)
  have HC := hid (lnode_any s h0 he hi k W a b c d hk ha hcc)
  have HB := hid hbel
  unfold opVal at HC
  generalize ptrX p = px at *
  generalize ptrY p = py at *
  clear h0 hbel h he hi s hcc
  rcases hk with rfl | rfl | rfl
  · go_enter Try.func28, Try.ntmps28
    go_wp2_with (first | (go_at_call 50; refine HC.out.mono ?_; rintro e1 w1 ⟨rfl, hP⟩; have HP := hid hP; clear hP))
    exact bodyPost_ret (v := .tuple #[.bool true, .int .i64 4]) (by simp [results, Try.results28, go_sem, *]) rfl ⟨⟨_, rfl⟩, (HP.out.back HB.out).four⟩
  · go_enter Try.func28, Try.ntmps28
    go_wp2_with (first | (go_at_call 50; refine HC.out.mono ?_; rintro e1 w1 ⟨rfl, hP⟩; have HP := hid hP; clear hP))
    exact bodyPost_ret (v := .tuple #[.bool true, .int .i64 4]) (by simp [results, Try.results28, go_sem, *]) rfl ⟨⟨_, rfl⟩, (HP.out.back HB.out).four⟩
  · go_enter Try.func28, Try.ntmps28
    go_wp2_with (first | (go_at_call 50; refine HC.out.mono ?_; rintro e1 w1 ⟨rfl, hP⟩; have HP := hid hP; clear hP))
    exact bodyPost_ret (v := .tuple #[.bool true, .int .i64 4]) (by simp [results, Try.results28, go_sem, *]) rfl ⟨⟨_, rfl⟩, (HP.out.back HB.out).four⟩
set_option maxHeartbeats 1600000 in
theorem ldoes_master (s : SideOn R fnPrg 30 25 okc) (h : Game R B w col G av lv ps bks) (he : Eqs ps) {i : Nat} {p : Option Cp} (hi : ps[i]? = some p) (hn : bks.length ≤ 100000000) (k W a b c d : Int) (hk : k = 12 ∨ k = 13 ∨ k = 14) (ha : In64 a) (hb : In64 b) (hc : In64 c) (hd : In64 d) (hcc : ∀ c : Cl, okc c) :
    Calls Try.prog 28 #[.pointer (some ⟨G, 0, none⟩), .agg #[.pointer (ptrX p), .pointer (ptrY p)], opVal k W a b c d] w fun e w' => (∃ n : Int, e = .returned (.tuple #[.bool true, .int .i64 n])) ∧ Post R B w G av lv ps.length (bks.length + 4) w' := by
  unfold opVal
  obtain ⟨h0, hbel⟩ := h.two s (.cells #[.pointer (ptrX p), .pointer (ptrY p)] 69) (.cells #[.int .i64 k, .int .i64 W, .int .i64 a, .int .i64 b, .int .i64 c, .int .i64 d] 63)
  have HC := hid (lmaster_any s h0 he hi k W a b c d hk ha hb hcc)
  have HB := hid hbel
  unfold opVal at HC
  generalize ptrX p = px at *
  generalize ptrY p = py at *
  clear h0 hbel h he hi s hcc
  rcases hk with rfl | rfl | rfl
  · go_enter Try.func28, Try.ntmps28
    go_wp2_with (first | (go_at_call 51; refine HC.out.mono ?_; rintro e1 w1 ⟨rfl, hP⟩; have HP := hid hP; clear hP))
    exact bodyPost_ret (v := .tuple #[.bool true, .int .i64 8]) (by simp [results, Try.results28, go_sem, *]) rfl ⟨⟨_, rfl⟩, (HP.out.back HB.out).four⟩
  · go_enter Try.func28, Try.ntmps28
    go_wp2_with (first | (go_at_call 51; refine HC.out.mono ?_; rintro e1 w1 ⟨rfl, hP⟩; have HP := hid hP; clear hP))
    exact bodyPost_ret (v := .tuple #[.bool true, .int .i64 8]) (by simp [results, Try.results28, go_sem, *]) rfl ⟨⟨_, rfl⟩, (HP.out.back HB.out).four⟩
  · go_enter Try.func28, Try.ntmps28
    go_wp2_with (first | (go_at_call 51; refine HC.out.mono ?_; rintro e1 w1 ⟨rfl, hP⟩; have HP := hid hP; clear hP))
    exact bodyPost_ret (v := .tuple #[.bool true, .int .i64 8]) (by simp [results, Try.results28, go_sem, *]) rfl ⟨⟨_, rfl⟩, (HP.out.back HB.out).four⟩
set_option maxHeartbeats 1600000 in
theorem ldoes_other (s : SideOn R fnPrg 30 25 okc) (h : Game R B w col G av lv ps bks) (he : Eqs ps) {i : Nat} {p : Option Cp} (hi : ps[i]? = some p) (hn : bks.length ≤ 100000000) (k W a b c d : Int) (hk : k < 3 ∨ 14 < k) (ha : In64 a) (hb : In64 b) (hc : In64 c) (hd : In64 d) (hcc : ∀ c : Cl, c.base → okc c) :
    Calls Try.prog 28 #[.pointer (some ⟨G, 0, none⟩), .agg #[.pointer (ptrX p), .pointer (ptrY p)], opVal k W a b c d] w fun e w' => (∃ n : Int, e = .returned (.tuple #[.bool true, .int .i64 n])) ∧ Post R B w G av lv ps.length (bks.length + 4) w' := by
  unfold opVal
  have b3 : (k == 3) = false := by simp; omega
  have b4 : (k == 4) = false := by simp; omega
  have b5 : (k == 5) = false := by simp; omega
  have b6 : (k == 6) = false := by simp; omega
  have b7 : (k == 7) = false := by simp; omega
  have b8 : (k == 8) = false := by simp; omega
  have b9 : (k == 9) = false := by simp; omega
  have b10 : (k == 10) = false := by simp; omega
  have b11 : (k == 11) = false := by simp; omega
  have b12 : (k == 12) = false := by simp; omega
  have b13 : (k == 13) = false := by simp; omega
  have b14 : (k == 14) = false := by simp; omega
  have HT := hid (h.two s (.cells #[.pointer (ptrX p), .pointer (ptrY p)] 69) (.cells #[.int .i64 k, .int .i64 W, .int .i64 a, .int .i64 b, .int .i64 c, .int .i64 d] 63))
  have HE := hid he
  generalize ptrX p = px at *
  generalize ptrY p = py at *
  clear h he hi s hk hcc
  go_enter Try.func28, Try.ntmps28
  go_wp2
  exact bodyPost_ret (v := .tuple #[.bool true, .int .i64 0]) (by simp [results, Try.results28, go_sem, *]) rfl ⟨⟨_, rfl⟩, HT.out.2, _, _, _, _, HT.out.1, HE.out, rfl, by omega⟩
theorem ldoes_any (s : SideOn R fnPrg 30 25 okc) (h : Game R B w col G av lv ps bks) (he : Eqs ps) {i : Nat} {p : Option Cp} (hi : ps[i]? = some p) (hn : bks.length ≤ 100000000) (k W a b c d : Int) (ha : In64 a) (hb : In64 b) (hc : In64 c) (hd : In64 d) (hcc : ∀ c : Cl, c.base → okc c) (hcm : (k = 12 ∨ k = 13 ∨ k = 14) → ∀ c : Cl, okc c) :
    Calls Try.prog 28 #[.pointer (some ⟨G, 0, none⟩), .agg #[.pointer (ptrX p), .pointer (ptrY p)], opVal k W a b c d] w fun e w' => (∃ n : Int, e = .returned (.tuple #[.bool true, .int .i64 n])) ∧ Post R B w G av lv ps.length (bks.length + 4) w' := by
  by_cases h1 : k < 3 ∨ 14 < k
  · exact ldoes_other s h he hi hn k W a b c d h1 ha hb hc hd hcc
  by_cases h2 : k = 3
  · subst h2; exact ldoes_produce s h he hi hn W a b c d ha hb hc hd hcc
  by_cases h3 : k = 4
  · subst h3; exact ldoes_fetch s h he hi hn W a b c d ha hb hc hd hcc
  by_cases h4 : k ≤ 8
  · exact ldoes_way s h he hi hn k W a b c d (by omega) ha hb hc hd hcc
  by_cases h5 : k ≤ 11
  · exact ldoes_node s h he hi hn k W a b c d (by omega) ha hb hc hd hcc
  · exact ldoes_master s h he hi hn k W a b c d (by omega) ha hb hc hd (hcm (by omega))
end
end Go.Proofs.Ythpfgmdffendoaa
