/- My own text: several texts in one. -/
import Derived.Test.YthpjcmilfipbaaaR1
import Derived.Test.YthpjcmilfipbaaaR7
namespace Go.Proofs.Ythpjcmilfipbaaa
set_option linter.unusedVariables false
set_option linter.unusedSimpArgs false
open Go.RowKit
set_option maxHeartbeats 800000 in
theorem lpick_any (c n : Int) (hc : -9223372036854775808 ≤ c) (hc' : c ≤ 9223372036854775807) (hn : 1 ≤ n) (w : World) :
    Calls Try.prog 38 #[.int .i64 c, .int .i64 n] w fun e w' => e = .returned (.int .i64 (pickN c n)) ∧ w' = w := by
  unfold pickN
  by_cases h0 : c < 0
  · rw [if_pos h0]
    go_enter Try.func38, Try.ntmps38
    go_wp2
    go_ret
    exact ⟨by simp, rfl⟩
  · rw [if_neg h0]
    have e : c.tmod n = c % n := Int.tmod_eq_emod_of_nonneg (by omega)
    go_enter Try.func38, Try.ntmps38
    go_wp2
    go_ret
    exact ⟨by simp [e], rfl⟩
/-- Is the step passed over? -/
def over (kind stage : Int) : Bool := if kind = 12 ∨ kind = 13 ∨ kind = 14 then decide (stage < 3) else (kind == 10 || kind == 11) && decide (stage < 2)
set_option maxHeartbeats 800000 in
theorem lpassed_any (kind stage : Int) (w : World) :
    Calls Try.prog 35 #[.int .i64 kind, .int .i64 stage] w fun e w' => e = .returned (.bool (over kind stage)) ∧ w' = w := by
  by_cases h12 : kind = 12
  · subst h12
    go_enter Try.func35, Try.ntmps35
    go_wp2
    go_ret
    exact ⟨ret_boolR (by simp [over]), rfl⟩
  by_cases h13 : kind = 13
  · subst h13
    go_enter Try.func35, Try.ntmps35
    go_wp2
    go_ret
    exact ⟨ret_boolR (by simp [over]), rfl⟩
  by_cases h14 : kind = 14
  · subst h14
    go_enter Try.func35, Try.ntmps35
    go_wp2
    go_ret
    exact ⟨ret_boolR (by simp [over]), rfl⟩
  have b12 : (kind == 12) = false := by simp [h12]
  have b13 : (kind == 13) = false := by simp [h13]
  have b14 : (kind == 14) = false := by simp [h14]
  have HO : Hid (over kind stage = ((kind == 10 || kind == 11) && decide (stage < 2))) := by show over kind stage = _; simp [over, h12, h13, h14]
  clear h12 h13 h14
  cases b10 : (kind == 10)
  · cases b11 : (kind == 11)
    · go_enter Try.func35, Try.ntmps35
      go_wp2
      go_ret
      exact ⟨ret_boolR (by rw [HO.out, b10, b11]; simp), rfl⟩
    · go_enter Try.func35, Try.ntmps35
      go_wp2
      go_ret
      exact ⟨ret_boolR (by rw [HO.out, b10, b11]; simp), rfl⟩
  · go_enter Try.func35, Try.ntmps35
    go_wp2
    go_ret
    exact ⟨ret_boolR (by rw [HO.out, b10]; simp), rfl⟩
end Go.Proofs.Ythpjcmilfipbaaa

namespace Go.Proofs.Ythpjcmilfipbaaa
set_option linter.unusedVariables false
set_option linter.unusedSimpArgs false
open Go.RowKit
theorem see_cellsB {w : World} {B e g n cap : Nat} {l : List Msg} (h : w.ownsRow B e 5 (.slice (some ⟨g, 0, none⟩) n cap) n (seeCellsR l)) (k : Nat) (x : Msg) (hk : l[k]? = some x) :
    w.cell? ⟨g, k * 5, none⟩ = some (.int .i64 x.kind) ∧ w.cell? ⟨g, k * 5 + 1, none⟩ = some (.int .i64 x.frm) ∧ w.cell? ⟨g, k * 5 + 2, none⟩ = some (.int .i64 x.to) ∧
    w.cell? ⟨g, k * 5 + 3, none⟩ = some (.int .i64 x.epoch) ∧ w.cell? ⟨g, k * 5 + 4, none⟩ = some (.int .i64 x.n) := by
  have hc := h.cells (g := g) rfl
  have key : ∀ j u, j < 5 → (seeRowR x)[j]? = some u → w.cell? ⟨g, k * 5 + j, none⟩ = some u := by
    intro j u hj hu
    have := hc (k * 5 + j) u (by rw [seeCellsR, flat_at _ 5 (fun _ => rfl) l k j x hk hj]; exact hu)
    rwa [add_at] at this
  exact ⟨by simpa using key 0 _ (by omega) rfl, key 1 _ (by omega) rfl, key 2 _ (by omega) rfl, key 3 _ (by omega) rfl, key 4 _ (by omega) rfl⟩
set_option maxHeartbeats 3200000 in
set_option maxRecDepth 100000 in
theorem lalike_same {w : World} {B1 B2 : Nat} {va vb : Value} (l : List Msg) (hl : l.length ≤ 50) (ha : w.ownsRow B1 109 5 va l.length (seeCellsR l)) (hb : w.ownsRow B2 109 5 vb l.length (seeCellsR l)) :
    Calls Try.prog 79 #[va, vb] w fun e w' => e = .returned (.bool true) ∧ ∃ n, w' = w.drewN n := by
  obtain ⟨ao, cap, rfl, _, _, hpa⟩ := ownsRow_shape ha
  obtain ⟨bo, cap2, rfl, _, _, hpb⟩ := ownsRow_shape hb
  have HA : Hid _ := ha
  have HB : Hid _ := hb
  have HPA : Hid _ := hpa
  have HPB : Hid _ := hpb
  clear ha hb hpa hpb
  go_enter Try.func79, Try.ntmps79
  go_wp2_with fail
  go_loopw [5] (fun t wr => ∃ j : Nat, j ≤ l.length ∧ t = .int .i64 j ∧ ∃ n, wr = w.drewN n) (fun t _ => l.length - (intOf t).toNat)
  case atStart => exact ⟨0, Nat.zero_le _, rfl, 0, rfl⟩
  case round =>
    obtain ⟨j, hj5, rfl, n, hwr⟩ := hrel
    by_cases hj : j < l.length
    · obtain ⟨ga, hga⟩ := HPA.out (by omega)
      obtain ⟨gb, hgb⟩ := HPB.out (by omega)
      have HA2 := HA.out
      have HB2 := HB.out
      rw [hga] at HA2
      rw [hgb] at HB2
      obtain ⟨a0, a1, a2, a3, a4⟩ := see_cellsB HA2 j l[j] (by simp [hj])
      obtain ⟨b0, b1, b2, b3, b4⟩ := see_cellsB HB2 j l[j] (by simp [hj])
      rw [hwr, hga, hgb]
      generalize l[j] = x at *
      have hji0 : (0 : Int) ≤ (j : Int) := by omega
      have hji1 : (j : Int) < (l.length : Int) := by omega
      clear HA2 HB2 hga hgb hwr
      go_wp2_with fail
      go_quiet (fail)
      go_wp2
      go_roundw
      case rel => exact ⟨j + 1, by omega, by go_num, _, rfl⟩
      case measure => simp [intOf]; omega
    · have : j = l.length := by omega
      subst this
      rw [hwr]
      clear hwr
      go_wp2
      go_ret
      exact ⟨rfl, n, rfl⟩
end Go.Proofs.Ythpjcmilfipbaaa

namespace Go.Proofs.Ythpjcmilfipbaaa
set_option linter.unusedVariables false
set_option linter.unusedSimpArgs false
open Go.RowKit
/-- A list that came out, as the game keeps it. -/
structure Bk where
  ao : Option Addr
  len : Nat
  cap : Nat
  n : Nat
def bkRow (x : Bk) : List Value := [.slice x.ao x.len x.cap, .int .i64 x.n]
def bkCells (l : List Bk) : List Value := l.flatMap bkRow
def mark (n : Nat) : Msg := { kind := -(n : Int), frm := 0, to := 0, epoch := 0, n := n, recs := [] }
/-- The list is full of its own mark. -/
structure BkOk (w : World) (x : Bk) : Prop where
  len : x.len ≤ 1000
  n : x.n ≤ 1000000000
  at0 : 0 < x.len → ∃ g, x.ao = some ⟨g, 0, none⟩
  full : ∀ g, x.ao = some ⟨g, 0, none⟩ → ∀ i, i < x.len → w.cell? ⟨g, i * 5, none⟩ = some (.int .i64 (-(x.n : Int))) ∧ w.cell? ⟨g, i * 5 + 1, none⟩ = some (.int .i64 0) ∧ w.cell? ⟨g, i * 5 + 2, none⟩ = some (.int .i64 0) ∧ w.cell? ⟨g, i * 5 + 3, none⟩ = some (.int .i64 0) ∧ w.cell? ⟨g, i * 5 + 4, none⟩ = some (.int .i64 x.n)
theorem wrap_mid (x : Int) (h0 : -1000000000000 ≤ x) (h1 : x ≤ 1000000000000) : IntKind.i64.wrap x = x := by
  simp only [IntKind.wrap_i64]; omega
theorem bk_cells {w : World} {B e g n cap : Nat} {l : List Bk} (h : w.ownsRow B e 2 (.slice (some ⟨g, 0, none⟩) n cap) n (bkCells l)) (k : Nat) (x : Bk) (hk : l[k]? = some x) :
    w.cell? ⟨g, k * 2, none⟩ = some (.slice x.ao x.len x.cap) ∧ w.cell? ⟨g, k * 2 + 1, none⟩ = some (.int .i64 x.n) := by
  have hc := h.cells (g := g) rfl
  have key : ∀ j u, j < 2 → (bkRow x)[j]? = some u → w.cell? ⟨g, k * 2 + j, none⟩ = some u := by
    intro j u hj hu
    have := hc (k * 2 + j) u (by rw [bkCells, flat_at _ 2 (fun _ => rfl) l k j x hk hj]; exact hu)
    rwa [add_at] at this
  exact ⟨by simpa using key 0 _ (by omega) rfl, key 1 _ (by omega) rfl⟩
set_option maxHeartbeats 3200000 in
set_option maxRecDepth 100000 in
theorem lkept_true {w : World} {G : Nat} {lv : Value} (bks : List Bk) (hl : bks.length ≤ 1000000000) (hG : w.cell? ⟨G, 1, none⟩ = some lv) (ho : w.ownsRow 0 122 2 lv bks.length (bkCells bks)) (hb : ∀ x ∈ bks, BkOk w x) :
    Calls Try.prog 40 #[.pointer (some ⟨G, 0, none⟩)] w fun e w' => e = .returned (.bool true) ∧ Below w.heap.size w w' := by
  have hGl : G < w.heap.size := World.block_lt_of_cell? w ⟨G, 1, none⟩ hG
  obtain ⟨ao, cap, rfl, _, _, hp⟩ := ownsRow_shape ho
  have HO : Hid _ := ho
  have HP : Hid _ := hp
  have HB : Hid (∀ x ∈ bks, BkOk w x) := hb
  clear ho hp hb
  go_enter Try.func40, Try.ntmps40
  go_wp2_with fail
  go_loopw [3] (fun t wr => ∃ j : Nat, j ≤ bks.length ∧ t = .int .i64 j ∧ Below w.heap.size w wr) (fun t _ => bks.length - (intOf t).toNat)
  case atStart => exact ⟨0, Nat.zero_le _, rfl, Below.refl _ _⟩
  case round =>
    obtain ⟨j, hj5, rfl, hbel⟩ := hrel
    have hG1 := (hbel.cell (p := ⟨G, 1, none⟩) hGl).trans hG
    have HBel : Hid (Below w.heap.size w wr) := hbel
    have hGl1 : G < wr.heap.size := Nat.lt_of_lt_of_le hGl hbel.size
    by_cases hj : j < bks.length
    · obtain ⟨ga, hga⟩ := HP.out (by omega)
      have HO2 := HO.out
      rw [hga] at HO2 hG1
      have hgl := ownsRow_lt HO2 (g := ga) rfl
      obtain ⟨c0, c1⟩ := bk_cells HO2 j bks[j] (by simp [hj])
      have HX : Hid (BkOk w bks[j]) := HB.out _ (List.getElem_mem hj)
      generalize bks[j] = x at *
      have d0 := (hbel.cell (p := ⟨ga, j * 2, none⟩) hgl).trans c0
      have d1 := (hbel.cell (p := ⟨ga, j * 2 + 1, none⟩) hgl).trans c1
      have hji0 : (0 : Int) ≤ (j : Int) := by omega
      have hji1 : (j : Int) < (bks.length : Int) := by omega
      have hn := HX.out.n
      have hlen := HX.out.len
      have hneg : IntKind.i64.wrap (-(x.n : Int)) = -(x.n : Int) := wrap_mid _ (by omega) (by omega)
      clear HO2 hga hbel c0 c1
      go_wp2_with fail
      refine wp_genR (fun W => Below w.heap.size w W ∧ W.cell? ⟨wr.heap.size, 0, none⟩ = some (.slice x.ao x.len x.cap) ∧
        W.cell? ⟨wr.heap.size + 1, 0, none⟩ = some (.int .i64 (-(x.n : Int))) ∧ W.cell? ⟨wr.heap.size + 1, 1, none⟩ = some (.int .i64 0) ∧ W.cell? ⟨wr.heap.size + 1, 2, none⟩ = some (.int .i64 0) ∧ W.cell? ⟨wr.heap.size + 1, 3, none⟩ = some (.int .i64 0) ∧ W.cell? ⟨wr.heap.size + 1, 4, none⟩ = some (.int .i64 x.n)) ?_ ?_
      · have A := heap_alloc2_old wr (.cells #[.slice x.ao x.len x.cap, .int .i64 x.n] 122) (.cells #[.int .i64 (-(x.n : Int)), .int .i64 0, .int .i64 0, .int .i64 0, .int .i64 x.n] 109)
        have M := heap_alloc2_new wr (.cells #[.slice x.ao x.len x.cap, .int .i64 x.n] 122) (.cells #[.int .i64 (-(x.n : Int)), .int .i64 0, .int .i64 0, .int .i64 0, .int .i64 x.n] 109)
        exact ⟨(HBel.out.alloc HBel.out.size _).alloc (by simp; exact Nat.le_succ_of_le HBel.out.size) _, (cell_of_row _ _ _ _ _ _ A).trans rfl, (cell_of_row _ _ _ _ _ _ M).trans rfl, (cell_of_row _ _ _ _ _ _ M).trans rfl, (cell_of_row _ _ _ _ _ _ M).trans rfl, (cell_of_row _ _ _ _ _ _ M).trans rfl, (cell_of_row _ _ _ _ _ _ M).trans rfl⟩
      rintro W ⟨hWB, w0, e0, e1, e2, e3, e4⟩
      have HWB : Hid (Below w.heap.size w W) := hWB
      clear d0 d1 hG1 HBel hWB
      go_loopw [6] (fun t w2 => ∃ i : Nat, i ≤ x.len ∧ t = .int .i64 i ∧ ∃ nd, w2 = W.drewN nd) (fun t _ => x.len - (intOf t).toNat)
      case atStart => exact ⟨0, Nat.zero_le _, rfl, 0, rfl⟩
      case round =>
        obtain ⟨i, hi5, rfl, nd, hw2⟩ := hrel
        rw [hw2]
        clear hw2
        by_cases hi : i < x.len
        · obtain ⟨gm, hgm⟩ := HX.out.at0 (by omega)
          obtain ⟨k0, k1, k2, k3, k4⟩ := HX.out.full gm hgm i hi
          have hgl2 : gm < w.heap.size := World.block_lt_of_cell? w ⟨gm, i * 5, none⟩ k0
          replace k0 := (HWB.out.cell (p := ⟨gm, i * 5, none⟩) hgl2).trans k0
          replace k1 := (HWB.out.cell (p := ⟨gm, i * 5 + 1, none⟩) hgl2).trans k1
          replace k2 := (HWB.out.cell (p := ⟨gm, i * 5 + 2, none⟩) hgl2).trans k2
          replace k3 := (HWB.out.cell (p := ⟨gm, i * 5 + 3, none⟩) hgl2).trans k3
          replace k4 := (HWB.out.cell (p := ⟨gm, i * 5 + 4, none⟩) hgl2).trans k4
          rw [hgm] at w0
          have hii0 : (0 : Int) ≤ (i : Int) := by omega
          have hii1 : (i : Int) < (x.len : Int) := by omega
          clear hgm
          go_wp2_with fail
          go_quiet (fail)
          go_wp2
          go_roundw
          case rel => exact ⟨i + 1, by omega, by go_num, _, rfl⟩
          case measure => simp [intOf]; omega
        · have : i = x.len := by omega
          have HXl : Hid (i = x.len) := this
          have hge : (x.len : Int) ≤ (i : Int) := by omega
          clear this hi
          go_wp2
          go_roundw
          case rel => exact ⟨j + 1, by omega, by go_num, HWB.out.trans ⟨rfl, rfl, rfl, Nat.le_refl _, fun _ _ => rfl⟩⟩
          case measure => simp [intOf]; omega
    · have : j = bks.length := by omega
      subst this
      clear hbel
      go_wp2
      go_ret
      exact ⟨rfl, HBel.out⟩
end Go.Proofs.Ythpjcmilfipbaaa

namespace Go.Proofs.Ythpjcmilfipbaaa
set_option linter.unusedVariables false
set_option linter.unusedSimpArgs false
open Go.RowKit
/-- Where the row has moved, all old blocks are as they were. -/
theorem run_append_keep {P : Program} (w : World) (t ty : TypeId) (base : Nat) (e : TypeId) (i : TypeInfo) (z : Value) (size bytes : Nat) (ht : P.underlying t = some (.slice e)) (hi : P.info? e = some i) (hz : i.zero = some z)
    (hsize : i.size = size) (hby : i.bytes = bytes) (hzs : z.cells.size = size) (hsz : 0 < size)
    (v : Value) (n : Nat) (xs : List Value) (hown : w.ownsRow base e size v n xs)
    (ad : Addr) (m c : Nat) (news : List Value) (hl : news.length = m * size) (hnews : ∀ j u, news[j]? = some u → w.cell? (ad.add j) = some u) (h1 : ∀ u ∈ news, u.oneCell' = true)
    (hm : 0 < m) (h63 : n + m ≤ maxLen) (hbytes : (n + m) * bytes ≤ 140737488355328) (hbase : base ≤ w.heap.size) :
    ∃ g cap w', (Builtin.append_ #[t, t] ty #[v, .slice (some ad) m c]).run P w = .ok (.slice (some ⟨g, 0, none⟩) (n + m) cap) w' ∧
      w'.ownsRow base e size (.slice (some ⟨g, 0, none⟩) (n + m) cap) (n + m) (xs ++ news) ∧ w.grownBy w' v.ownBlock ∧ g < w'.heap.size ∧
      (v.ownBlock = some g ∨ (w.heap.size ≤ g ∧ ∀ k, k < w.heap.size → w'.heap[k]? = w.heap[k]?)) := by
  obtain ⟨g, cap, w', hr, h2, h3, h4, h5⟩ := run_append_lies (P := P) w t ty base e i z size bytes ht hi hz hsize hby hzs hsz v n xs hown ad m c news hl hnews h1 hm h63 hbytes hbase _ rfl
  refine ⟨g, cap, w', hr, h2, h3, h5, ?_⟩
  have hsmall : n + m ≤ 9223372036854775807 := by simp only [maxLen] at h63; omega
  rcases hown.2 with ⟨rfl, rfl⟩ | ⟨g0, cap0, cur, rfl, hbg, hg, hnc, hcm, hcs, htake⟩
  · refine Or.inr ⟨?_, fun k hk => h3.block k hk (by simp [Value.ownBlock])⟩
    rcases h4 with h4 | h4
    · simp [Value.ownBlock] at h4
    · omega
  · by_cases hroom : n + m ≤ cap0
    · subst hsize
      have hfit : n * i.size + news.length ≤ cur.size := by rw [hl, hcs, ← Nat.add_mul]; exact Nat.mul_le_mul_right _ hroom
      have hr2 := run_append_room (P := P) w t ty e i ht hi g0 n cap0 cur hg ad m c news hl hnews h1 hroom hfit
      rw [hr2] at hr
      injection hr with e1 e2
      injection e1 with e3
      injection e3 with e4
      injection e4 with e5
      exact Or.inl (by simp [Value.ownBlock, e5])
    · subst hsize
      subst hby
      have holds : ∀ j u, xs[j]? = some u → w.cell? ((⟨g0, 0, none⟩ : Addr).add j) = some u := hown.cells (g := g0) rfl
      have hr2 := run_append_grow (P := P) w t ty e i z ht hi hz ⟨g0, 0, none⟩ n cap0 xs hown.1 holds ad m c news hl hnews (by omega) (by omega) (growslice_fits (by omega) hbytes)
      rw [hr2] at hr
      injection hr with e1 e2
      injection e1 with e3
      injection e3 with e4
      injection e4 with e5
      refine Or.inr ⟨by omega, fun k hk => ?_⟩
      rw [← e2]
      exact Below.heap_alloc w.drew _ k hk
theorem wpList_append_keep {P : Program} (w : World) {ops : Array Oper} {rest : List Oper} {o : Oper} {a : Act} {Q : Exit → Act → World → Prop} (hgd : o.guard = none) (s x : Operand) (t : TypeId)
    (ho : o.op = .call { callee := .builtin .append, args := #[s, x], argTypes := #[t, t] })
    (base : Nat) (e : TypeId) (i : TypeInfo) (z : Value) (size bytes : Nat) (ht : P.underlying t = some (.slice e)) (hi : P.info? e = some i) (hz : i.zero = some z)
    (hsize : i.size = size) (hby : i.bytes = bytes) (hzs : z.cells.size = size) (hsz : 0 < size)
    (v : Value) (n : Nat) (xs : List Value) (hs : a.eval s = v) (hown : w.ownsRow base e size v n xs)
    (ad : Addr) (m c : Nat) (news : List Value) (hx : a.eval x = .slice (some ad) m c) (hl : news.length = m * size) (hnews : ∀ j u, news[j]? = some u → w.cell? (ad.add j) = some u) (h1 : ∀ u ∈ news, u.oneCell' = true)
    (hm : 0 < m) (h63 : n + m ≤ maxLen) (hbytes : (n + m) * bytes ≤ 140737488355328) (hbase : base ≤ w.heap.size)
    (h : ∀ g cap w', w'.ownsRow base e size (.slice (some ⟨g, 0, none⟩) (n + m) cap) (n + m) (xs ++ news) → w.grownBy w' v.ownBlock → g < w'.heap.size → (v.ownBlock = some g ∨ (w.heap.size ≤ g ∧ ∀ k, k < w.heap.size → w'.heap[k]? = w.heap[k]?)) → wpList P ops Q rest (a.put o.dst (.slice (some ⟨g, 0, none⟩) (n + m) cap)) w') : wpList P ops Q (o :: rest) a w := by
  refine wpList_plain hgd fun K hK' => ?_
  obtain ⟨g, cap, w', hr, h2, h3, h4, h5⟩ := run_append_keep (P := P) w t o.type base e i z size bytes ht hi hz hsize hby hzs hsz v n xs hown ad m c news hl hnews h1 hm h63 hbytes hbase
  unfold Oper.wp execOp
  simp only [ho, resolve, invoke, builtin, Sem.run_bind, Sem.run_pure, Result.andThen_ok, List.map_toArray, List.map_cons, List.map_nil, hs, hx, hr]
  exact hK' _ _ (h g cap w' h2 h3 h4 h5)
end Go.Proofs.Ythpjcmilfipbaaa
