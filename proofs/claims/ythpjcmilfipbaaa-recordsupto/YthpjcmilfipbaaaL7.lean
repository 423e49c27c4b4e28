/- My own text: several texts in one. -/
import Derived.Test.YthpjcmilfipbaaaL5
import Derived.Test.YthpjcmilfipbaaaL6
import Derived.Deep.RegionHeld3
namespace Go.Proofs.Ythpjcmilfipbaaa
set_option linter.unusedVariables false
set_option linter.unusedSimpArgs false
open Go.RowKit
section
variable {R : World → (Nat → Prop) → Nat → Wd → Prop} {okc : Cl → Prop}
/-- The loop's own. -/
def Play (R : World → (Nat → Prop) → Nat → Wd → Prop) (w0 : World) (n : Nat) (w : World) : Prop :=
  Below w0.heap.size w0 w ∧ ∃ col av lv ps bks, Game R w0.heap.size w col w0.heap.size av lv ps bks ∧ Eqs ps ∧ ps.length ≤ n ∧ bks.length ≤ 4 * n
theorem Play.begin (w : World) : Play R w 0 (w.alloc (.cells #[.slice none 0 0, .slice none 0 0] 70)) := by
  have hb : Below w.heap.size w (w.alloc (.cells #[.slice none 0 0, .slice none 0 0] 70)) := (Below.refl _ _).alloc (Nat.le_refl _) _
  refine ⟨hb, fun k => if k < w.heap.size then none else some 0, .slice none 0 0, .slice none 0 0, [], [], ?_, fun p hp => by simp at hp, by simp, by simp⟩
  exact { base := by simp, low := fun k hk => by simp [hk]
          g := { blk := heap_alloc_new w _, inG := by show (if w.heap.size < w.heap.size then none else some 0) = _; simp, lists := ⟨rfl, Or.inl ⟨rfl, rfl⟩⟩, listS := fun g hg => by simp [Value.ownBlock] at hg, oks := fun x hx => by simp at hx, okS := fun x hx => by simp at hx }
          all := ⟨rfl, Or.inl ⟨rfl, rfl⟩⟩, allS := fun g hg => by simp [Value.ownBlock] at hg
          xs := fun i p hp => by simp at hp, ys := fun i p hp => by simp at hp }
theorem Play.quiet {fn : Cl → Nat} {fm fw : Nat} (s : SideOn R fn fm fw okc) {w0 w w1 : World} {n : Nat} (h : Play R w0 n w) (hb : Below w.heap.size w w1) : Play R w0 n w1 := by
  obtain ⟨h1, col, av, lv, ps, bks, h2, h3⟩ := h
  exact ⟨h1.trans (hb.mono h2.base), _, _, _, _, _, h2.quiet s hb, h3⟩
theorem Play.more {w0 w : World} {n : Nat} (h : Play R w0 n w) : Play R w0 (n + 1) w := by
  obtain ⟨h1, col, av, lv, ps, bks, h2, h3, h4, h5⟩ := h
  exact ⟨h1, col, av, lv, ps, bks, h2, h3, by omega, by omega⟩
theorem Play.kept {fn : Cl → Nat} {fm fw : Nat} (s : SideOn R fn fm fw okc) {w0 w : World} {n : Nat} (h : Play R w0 n w) (hn : n ≤ 10000000) :
    Calls Try.prog 40 #[.pointer (some ⟨w0.heap.size, 0, none⟩)] w fun e w' => e = .returned (.bool true) ∧ Play R w0 n w' := by
  obtain ⟨h1, col, av, lv, ps, bks, h2, h3, h4, h5⟩ := h
  exact (lkept_true bks (by omega) ((cell_of_row _ _ _ _ _ _ h2.g.blk).trans rfl) h2.g.lists h2.g.oks).mono fun e w' ⟨k1, k2⟩ => ⟨k1, Play.quiet s ⟨h1, col, av, lv, ps, bks, h2, h3, h4, h5⟩ k2⟩
theorem Play.added {fn : Cl → Nat} {fm fw : Nat} (s : SideOn R fn fm fw okc) {w0 w w1 W : World} {n : Nat} {col : Nat → Option Nat} {av lv : Value} {ps : List (Option Cp)} {bks : List Bk} (hb : Below w0.heap.size w0 w) (h : Game R w0.heap.size w col w0.heap.size av lv ps bks) (he : Eqs ps) (hl1 : ps.length ≤ n) (hl2 : bks.length ≤ 4 * n)
    (p : Option Cp) (hx : ∀ q, p = some q → R w (Of col (2 * ps.length + 2)) q.x q.dx ∧ ROk q.dx) (hy : ∀ q, p = some q → DocR w (Of col (2 * ps.length + 3)) q.y q.dy ∧ ROk q.dy) (hpe : ∀ q, p = some q → q.dx = q.dy)
    (hW : Fr No w W) {gg cap' : Nat} (hown : w1.ownsRow 0 78 2 (.slice (some ⟨gg, 0, none⟩) (ps.length + 1) cap') (ps.length + 1) (pairCells ps ++ pairRow p)) (hgrow : W.grownBy w1 av.ownBlock) (hat : av.ownBlock = some gg ∨ gg = w.heap.size + 1) :
    Play R w0 (n + 1) (w1.setCell ⟨w0.heap.size, 0, none⟩ (.slice (some ⟨gg, 0, none⟩) (ps.length + 1) cap')) := by
  obtain ⟨h1, h2⟩ := h.add s p hx hy hW hown hgrow (by rcases hat with e | e; exact Or.inl e; exact Or.inr (by omega))
  refine ⟨hb.trans h2, _, _, _, _, _, h1, fun q hq => ?_, by simp; omega, by omega⟩
  rcases List.mem_append.1 hq with hq | hq
  · exact he q hq
  · simp at hq; exact hpe q hq.symm
theorem Play.post {w0 w w2 : World} {n : Nat} {lv0 : Value} {av : Value} {a b : Nat} (hb : Below w0.heap.size w0 w) (h : Post R w0.heap.size w w0.heap.size av lv0 a b w2) (ha : a ≤ n) (hl2 : b ≤ 4 * n) : Play R w0 n w2 := by
  obtain ⟨h1, col, lv, ps, bks, h2, h3, h4, h5⟩ := h
  exact ⟨hb.trans h1, _, _, _, _, _, h2, h3, by omega, by omega⟩
set_option maxHeartbeats 6400000 in
set_option maxRecDepth 100000 in
theorem lholds_any (s : SideOn R fnPrg 41 36 okc) (w : World) (ao : Option Addr) (n cap : Nat) (held stage : Int) (x : Nat → Nat → Int) (hn : n ≤ 1048576) (hx : ∀ i j, Fits (x i j)) (hcc : ∀ c : Cl, c.base → okc c) (hcm : 3 ≤ stage → ∀ c : Cl, okc c)
    (hs : 0 < n → ∃ sb so, ao = some ⟨sb, so, none⟩ ∧ sb < w.heap.size ∧ ∀ i j, i < n → j < 6 → w.cell? ⟨sb, so + i * 6 + j, none⟩ = some (.int .i64 (x i j))) :
    Calls Try.prog 15 #[.slice ao n cap, .int .i64 held, .int .i64 stage] w fun e w' => e = .returned (.bool true) ∧ Below w.heap.size w w' := by
  have HSI := hid s
  have HCC := hid hcc
  have HCM := hid hcm
  have HS := hid hs
  have HX := hid hx
  clear s hs hx hcc hcm
  go_enter Try.func15, Try.ntmps15
  go_wp2_with fail
  refine wp_genR (fun W => Play R w 0 W) (Play.begin w) ?_
  intro W hW
  have HW := hid hW
  clear hW
  go_loopw [8] (fun t wr => ∃ k : Nat, k ≤ n ∧ t = .int .i64 k ∧ Play R w k wr) (fun t _ => n - (intOf t).toNat)
  case atStart => exact ⟨0, Nat.zero_le _, rfl, HW.out⟩
  case round =>
    obtain ⟨k, hk, rfl, hB, col, av, lv, ps, bks, hG, hE, hl1, hl2⟩ := hrel
    clear HW
    have HG := hid hG
    have HE := hid hE
    have HB := hid hB
    have hsz := hB.size
    clear hG hE hB
    by_cases hkn : k < n
    · obtain ⟨sb, so, rfl, hsb, hcells⟩ := HS.out (by omega)
      have hc : ∀ j, j < 6 → wr.cell? ⟨sb, so + k * 6 + j, none⟩ = some (.int .i64 (x k j)) := fun j hj => (HB.out.cell hsb).trans (hcells k j hkn hj)
      have c0 := hc 0 (by omega); have c1 := hc 1 (by omega); have c2 := hc 2 (by omega); have c3 := hc 3 (by omega); have c4 := hc 4 (by omega); have c5 := hc 5 (by omega)
      simp only [Nat.add_zero] at c0
      have f0 := HX.out k 0
      have f1 := HX.out k 1
      have f2 := HX.out k 2
      have f3 := HX.out k 3
      have f4 := HX.out k 4
      have f5 := HX.out k 5
      clear hc hcells
      generalize x k 0 = x0 at *
      generalize x k 1 = x1 at *
      generalize x k 2 = x2 at *
      generalize x k 3 = x3 at *
      generalize x k 4 = x4 at *
      generalize x k 5 = x5 at *
      have hsbr : sb < wr.heap.size := by omega
      have hki0 : (0 : Int) ≤ (k : Int) := by omega
      have hki1 : (k : Int) < (n : Int) := by omega
      have HPl := hid (Play.quiet HSI.out (w0 := w) (n := k) ⟨HB.out, _, _, _, _, _, HG.out, HE.out, hl1, hl2⟩ ((Below.refl _ wr).alloc (Nat.le_refl _) (.cells #[.int .i64 x0, .int .i64 x1, .int .i64 x2, .int .i64 x3, .int .i64 x4, .int .i64 x5] 72)))
      cases hov : over x0 stage
      · by_cases h1 : x0 = 1
        · subst h1
          have HG0 := hid (HG.out.quiet HSI.out ((Below.refl _ wr).alloc (Nat.le_refl _) (.cells #[.int .i64 1, .int .i64 x1, .int .i64 x2, .int .i64 x3, .int .i64 x4, .int .i64 x5] 72)))
          have HB0 := hid (HB.out.trans (((Below.refl _ wr).alloc (Nat.le_refl _) (.cells #[.int .i64 1, .int .i64 x1, .int .i64 x2, .int .i64 x3, .int .i64 x4, .int .i64 x5] 72)).mono hsz))
          have HBs := hid HB0.out.size
          have HN := hid (HG0.out.new HSI.out)
          obtain ⟨ao2, acap, rfl, _, _, hap⟩ := ownsRow_shape HG.out.all
          obtain ⟨i0, hi0, hz0, hz1, hz2⟩ := info_parts infoPair
          clear HPl
          go_wp2_with (first | (go_at_call 35; refine (lpassed_any _ _ _).mono ?_; rintro e w1 ⟨rfl, hw1⟩; rw [hw1]; clear hw1) | (go_at_call 36; refine HN.out.mono ?_; rintro e1 w1 ⟨b1, rfl, hb1, hY⟩; have HY := hid hY; clear hY hb1) | (go_at_call 37; refine HY.out.mono ?_; rintro e2 w2 ⟨b2, rfl, hb2, col2, hG2, hR2, hD2⟩; have HG2 := hid hG2; have HR2 := hid hR2; have HD2 := hid hD2; have HB2 := hid hb2; have ca : w2.cell? ⟨w.heap.size, 0, none⟩ = some (.slice ao2 ps.length acap) := (cell_of_row _ _ _ _ _ _ HG2.out.g.blk).trans rfl; have za : w2.frozen? ⟨w.heap.size, 0, none⟩ = false := (by simp [World.frozen?, HG2.out.g.blk]); have hGl : w.heap.size < w2.heap.size := (Array.getElem?_eq_some_iff.1 HG2.out.g.blk).1; have HLG := hid HG2.out.rowA; clear hG2 hR2 hD2 hb2) | (at_builtin; refine wpList_append_lies _ rfl _ _ 67 rfl 0 78 i0 _ 2 16 Try.underlying67 hi0 hz0 hz1 hz2 rfl (by omega) (.slice ao2 ps.length acap) ps.length (pairCells ps) rfl (World.ownsRow.alloc HG2.out.all _) ⟨w2.heap.size, 0, none⟩ 1 1 (pairRow (some ⟨b1, rNew, b2, rNew⟩)) rfl rfl (World.news_of_block (cs := #[.pointer (some ⟨b1, 0, none⟩), .pointer (some ⟨b2, 0, none⟩)]) (t := 78) (fr := (0, 0)) (heap_alloc_new w2 _)) (pairRow_one _) (by omega) (by unfold maxLen; omega) (by omega) (by omega) (w2.heap.size + 1) (by simp) ?_; intro gg cap' w3 hown1 hgrow hat hlt2; have hc51 : w3.cell? ⟨w.heap.size, 0, none⟩ = some (.slice ao2 ps.length acap) := (by rw [hgrow.cell_far _ (by simp; omega) (Ne.symm HLG.out)]; simp [World.cell?_alloc_some, ca]); have hf51 : w3.frozen? ⟨w.heap.size, 0, none⟩ = false := (by rw [hgrow.frozen_far _ (by simp; omega) (Ne.symm HLG.out)]; simp [frozen?_alloc_cells, za]); have HA := hid (Play.added HSI.out (HB0.out.trans (HB2.out.mono HBs.out)) HG2.out HE.out hl1 hl2 (some ⟨b1, rNew, b2, rNew⟩) (fun q e => by simp at e; subst e; exact ⟨HR2.out, ROk.new⟩) (fun q e => by simp at e; subst e; exact ⟨HD2.out, ROk.new⟩) (fun q e => by simp at e; subst e; rfl) (Fr.alloc No w2 _) hown1 hgrow hat)) | (go_at_call 40; refine (HA.out.kept HSI.out (by omega)).mono ?_; rintro e4 w4 ⟨rfl, hPk⟩; have HPk := hid hPk; clear hPk))
          all_goals
            go_roundw
            case rel => exact ⟨k + 1, by omega, by go_num, (by first | exact HPk.out | exact HA.out)⟩
            case measure => simp [intOf]; omega
        · by_cases h2 : x0 = 2
          · subst h2
            have HG0 := hid (HG.out.quiet HSI.out ((Below.refl _ wr).alloc (Nat.le_refl _) (.cells #[.int .i64 2, .int .i64 x1, .int .i64 x2, .int .i64 x3, .int .i64 x4, .int .i64 x5] 72)))
            have HB0 := hid (HB.out.trans (((Below.refl _ wr).alloc (Nat.le_refl _) (.cells #[.int .i64 2, .int .i64 x1, .int .i64 x2, .int .i64 x3, .int .i64 x4, .int .i64 x5] 72)).mono hsz))
            have HBs := hid HB0.out.size
            have ca : (wr.alloc (.cells #[.int .i64 2, .int .i64 x1, .int .i64 x2, .int .i64 x3, .int .i64 x4, .int .i64 x5] 72)).cell? ⟨w.heap.size, 0, none⟩ = some av := (cell_of_row _ _ _ _ _ _ HG0.out.g.blk).trans rfl
            have za : (wr.alloc (.cells #[.int .i64 2, .int .i64 x1, .int .i64 x2, .int .i64 x3, .int .i64 x4, .int .i64 x5] 72)).frozen? ⟨w.heap.size, 0, none⟩ = false := by simp [World.frozen?, HG0.out.g.blk]
            have hGl : w.heap.size < wr.heap.size + 1 := by omega
            have HLG := hid HG0.out.rowA
            obtain ⟨ao2, acap, rfl, _, _, hap⟩ := ownsRow_shape HG.out.all
            obtain ⟨i0, hi0, hz0, hz1, hz2⟩ := info_parts infoPair
            clear HPl
            go_wp2_with (first | (go_at_call 35; refine (lpassed_any _ _ _).mono ?_; rintro e w1 ⟨rfl, hw1⟩; rw [hw1]; clear hw1) | (at_builtin; refine wpList_append_lies _ rfl _ _ 67 rfl 0 78 i0 _ 2 16 Try.underlying67 hi0 hz0 hz1 hz2 rfl (by omega) (.slice ao2 ps.length acap) ps.length (pairCells ps) rfl (World.ownsRow.alloc HG0.out.all _) ⟨wr.heap.size + 1, 0, none⟩ 1 1 (pairRow none) rfl rfl (World.news_of_block (cs := #[.pointer none, .pointer none]) (t := 78) (fr := (0, 0)) (heap_alloc2_new wr _ _)) (pairRow_one _) (by omega) (by unfold maxLen; omega) (by omega) (by omega) (wr.heap.size + 2) (by simp) ?_; intro gg cap' w3 hown1 hgrow hat hlt2; have hc51 : w3.cell? ⟨w.heap.size, 0, none⟩ = some (.slice ao2 ps.length acap) := (by rw [hgrow.cell_far _ (by simp; omega) (Ne.symm HLG.out)]; simp [World.cell?_alloc_some, ca]); have hf51 : w3.frozen? ⟨w.heap.size, 0, none⟩ = false := (by rw [hgrow.frozen_far _ (by simp; omega) (Ne.symm HLG.out)]; simp [frozen?_alloc_cells, za]); have HA := hid (Play.added HSI.out HB0.out HG0.out HE.out hl1 hl2 none (fun q e => by simp at e) (fun q e => by simp at e) (fun q e => by simp at e) (Fr.alloc No _ _) hown1 hgrow (by simpa using hat))) | (go_at_call 40; refine (HA.out.kept HSI.out (by omega)).mono ?_; rintro e4 w4 ⟨rfl, hPk⟩; have HPk := hid hPk; clear hPk))
            all_goals
              go_roundw
              case rel => exact ⟨k + 1, by omega, by go_num, (by first | exact HPk.out | exact HA.out)⟩
              case measure => simp [intOf]; omega
          · have b1 : (x0 == 1) = false := by simp [h1]
            have b2 : (x0 == 2) = false := by simp [h2]
            have HG0 := hid (HG.out.quiet HSI.out ((Below.refl _ wr).alloc (Nat.le_refl _) (.cells #[.int .i64 x0, .int .i64 x1, .int .i64 x2, .int .i64 x3, .int .i64 x4, .int .i64 x5] 72)))
            have HB0 := hid (HB.out.trans (((Below.refl _ wr).alloc (Nat.le_refl _) (.cells #[.int .i64 x0, .int .i64 x1, .int .i64 x2, .int .i64 x3, .int .i64 x4, .int .i64 x5] 72)).mono hsz))
            have ca : (wr.alloc (.cells #[.int .i64 x0, .int .i64 x1, .int .i64 x2, .int .i64 x3, .int .i64 x4, .int .i64 x5] 72)).cell? ⟨w.heap.size, 0, none⟩ = some av := (cell_of_row _ _ _ _ _ _ HG0.out.g.blk).trans rfl
            have hGl : w.heap.size < wr.heap.size + 1 := by omega
            obtain ⟨ao2, acap, rfl, _, _, hap⟩ := ownsRow_shape HG.out.all
            have HOV := hid (show (x0 = 12 ∨ x0 = 13 ∨ x0 = 14) → 3 ≤ stage from fun hk3 => by
              unfold over at hov
              rw [if_pos hk3] at hov
              have := of_decide_eq_false hov
              omega)
            clear h1 h2
            by_cases hp0 : ps = []
            · subst hp0
              simp only [List.length_nil] at ca hl1
              clear hap
              go_wp2_with (first | (go_at_call 35; refine (lpassed_any _ _ _).mono ?_; rintro e w1 ⟨rfl, hw1⟩; rw [hw1]; clear hw1) | (go_at_call 40; refine (HPl.out.more.kept HSI.out (by omega)).mono ?_; rintro e4 w4 ⟨rfl, hPk⟩; have HPk := hid hPk; clear hPk))
              all_goals
                go_roundw
                case rel => exact ⟨k + 1, by omega, by go_num, (by first | exact HPk.out | exact HPl.out.more)⟩
                case measure => simp [intOf]; omega
            · have hpos : 0 < ps.length := List.length_pos_iff.2 hp0
              have hposi : (0 : Int) < (ps.length : Int) := by omega
              obtain ⟨ga, rfl⟩ := hap hpos
              have hpk := pickN_bd x1 ps.length hposi
              obtain ⟨q, hq⟩ := Int.eq_ofNat_of_zero_le hpk.1
              have HPI := hid (lpick_any x1 ps.length f1.1 f1.2 (by omega))
              rw [hq] at HPI hpk
              have hq1 : q < ps.length := by omega
              have hqi0 : (0 : Int) ≤ (q : Int) := by omega
              have hqi1 : (q : Int) < (ps.length : Int) := by omega
              have HI : Hid (ps[q]? = some ps[q]) := by show ps[q]? = some ps[q]; simp [hq1]
              obtain ⟨d0, d1⟩ := pair_cells HG0.out.all q _ HI.out
              clear hap hp0 hpk hq
              generalize ps[q] = p at *
              have hgal := ownsRow_lt HG0.out.all (g := ga) rfl
              go_wp2_with (first | (go_at_call 35; refine (lpassed_any _ _ _).mono ?_; rintro e w1 ⟨rfl, hw1⟩; rw [hw1]; clear hw1) | (go_at_call 38; refine (HPI.out _).mono ?_; rintro e w1 ⟨rfl, hw1⟩; rw [hw1]; clear hw1))
              refine wp_genR (fun V => V.heap.size = wr.heap.size + 1 ∧ Game R w.heap.size V (paint col wr 0) w.heap.size (.slice (some ⟨ga, 0, none⟩) ps.length acap) lv ps bks ∧ Below w.heap.size w V ∧ V.cell? ⟨w.heap.size, 0, none⟩ = some (.slice (some ⟨ga, 0, none⟩) ps.length acap) ∧
                V.cell? ⟨ga, q * 2, none⟩ = some (.pointer (ptrX p)) ∧ V.cell? ⟨ga, q * 2 + 1, none⟩ = some (.pointer (ptrY p)) ∧ V.heap[wr.heap.size]? = some (.cells #[.int .i64 x0, .int .i64 x1, .int .i64 x2, .int .i64 x3, .int .i64 x4, .int .i64 x5] 72)) ⟨by simp, HG0.out, HB0.out, ca, d0, d1, heap_alloc_new wr _⟩ ?_
              rintro V ⟨hVs, hVG, hVB, fa, fc, fd, hVo⟩
              have VS := hid hVs
              have VG := hid hVG
              have VB := hid hVB
              have VO := hid hVo
              have fb : V.cell? ⟨wr.heap.size, 1, none⟩ = some (.int .i64 x1) := (cell_of_row _ _ _ _ _ _ hVo).trans rfl
              have n1 : ¬ w.heap.size = V.heap.size := by omega
              have n2 : ¬ wr.heap.size = V.heap.size := by omega
              have n3 : ¬ ga = V.heap.size := by have := hgal; simp at this; omega
              clear hVs hVG hVB hVo HG0 HB0 ca d0 d1 HG HB HPl c0 c1 c2 c3 c4 c5 hgal
              have HBU := hid (((Below.refl V.heap.size V).alloc (Nat.le_refl _) (.cells #[.pointer (ptrX p), .pointer (ptrY p)] 78)).drew)
              have HBW := hid (VB.out.trans (HBU.out.mono VB.out.size))
              have HDo := hid (ldoes_any HSI.out (VG.out.quiet HSI.out HBU.out) HE.out HI.out (by omega) x0 x1 x2 x3 x4 x5 ⟨f2.1, f2.2⟩ ⟨f3.1, f3.2⟩ ⟨f4.1, f4.2⟩ ⟨f5.1, f5.2⟩ HCC.out (fun hk3 => HCM.out (HOV.out hk3)))
              unfold opVal at HDo
              have g0 : V.cell? ⟨wr.heap.size, 0, none⟩ = some (.int .i64 x0) := (cell_of_row _ _ _ _ _ _ VO.out).trans rfl
              have g2 : V.cell? ⟨wr.heap.size, 2, none⟩ = some (.int .i64 x2) := (cell_of_row _ _ _ _ _ _ VO.out).trans rfl
              have g3 : V.cell? ⟨wr.heap.size, 3, none⟩ = some (.int .i64 x3) := (cell_of_row _ _ _ _ _ _ VO.out).trans rfl
              have g4 : V.cell? ⟨wr.heap.size, 4, none⟩ = some (.int .i64 x4) := (cell_of_row _ _ _ _ _ _ VO.out).trans rfl
              have g5 : V.cell? ⟨wr.heap.size, 5, none⟩ = some (.int .i64 x5) := (cell_of_row _ _ _ _ _ _ VO.out).trans rfl
              have hvl : wr.heap.size < V.heap.size := by have := VS.out; omega
              clear VB VG
              generalize ptrX p = px at *
              generalize ptrY p = py at *
              go_region_held3 (fun w' => w'.cell? ⟨w.heap.size, 0, none⟩ = some (.slice (some ⟨ga, 0, none⟩) ps.length acap) ∧ w'.cell? ⟨wr.heap.size, 1, none⟩ = some (.int .i64 x1) ∧ w'.cell? ⟨ga, q * 2, none⟩ = some (.pointer px) ∧ w'.cell? ⟨ga, q * 2 + 1, none⟩ = some (.pointer py))
                (first
                  | (simp only [World.cell?_drew, fa, fb, fc, fd, and_self]; done)
                  | (simp [World.cell?_drew, World.cell?_alloc_some, fa, fb, fc, fd]; done))
                (first
                  | (go_at_call 38; refine (HPI.out _).mono ?_; rintro e w1 ⟨rfl, hw1⟩; rw [hw1]; clear hw1))
              all_goals
                go_wp2_with (first | (go_at_call 39; refine HDo.out.mono ?_; rintro e5 w5 ⟨⟨nn, rfl⟩, hP⟩; have HPo := hid (Play.post (n := k + 1) HBW.out hP (by omega) (by omega)); clear hP) | (go_at_call 40; refine (HPo.out.kept HSI.out (by omega)).mono ?_; rintro e4 w4 ⟨rfl, hPk⟩; have HPk := hid hPk; clear hPk))
                all_goals
                  go_roundw
                  case rel => exact ⟨k + 1, by omega, by go_num, (by first | exact HPk.out | exact HPo.out)⟩
                  case measure => simp [intOf]; omega
      · go_wp2_with (first | (go_at_call 35; refine (lpassed_any _ _ _).mono ?_; rintro e w1 ⟨rfl, hw1⟩; rw [hw1]; clear hw1))
        go_roundw
        case rel => exact ⟨k + 1, by omega, by go_num, HPl.out.more⟩
        case measure => simp [intOf]; omega
    · have : k = n := by omega
      subst this
      go_wp2
      go_ret
      exact ⟨rfl, HB.out⟩
end
end Go.Proofs.Ythpjcmilfipbaaa
