/- My own text. Walks: takeInAck. -/
import Derived.Test.YthpfgmdffendoaaTakeIn
namespace Go.Proofs.Ythpfgmdffendoaa
set_option linter.unusedVariables false
set_option linter.unusedSimpArgs false
open Go.RowKit
theorem Fr.drewP (S : Nat → Prop) (w : World) (n : Nat) : Fr S w (w.drewN n) := ⟨rfl, rfl, rfl, Nat.le_refl _, fun _ _ _ => rfl⟩
theorem Cells.setKno {cs : Array Value} {c : Clu} {lv : Nat → Value} {ev uv : Value} (h : Cells cs c.nodes lv ev uv) (k : Nat) (hk : k < 5) (f : Nat) (hf : f < 5) (n : Int) :
    Cells (cs.setIfInBounds (k * 10 + 5 + f) (.int .i64 n)) (upd c.nodes k { c.nodes k with known := upd (c.nodes k).known f n }) lv ev uv := by
  have hs := h.size
  have ne : ∀ j u, cs[j]? = some u → k * 10 + 5 + f ≠ j → (cs.setIfInBounds (k * 10 + 5 + f) (.int .i64 n))[j]? = some u := fun j u hu hj => by rw [Array.getElem?_setIfInBounds_ne (by omega)]; exact hu
  have e : ∀ i, (upd c.nodes k { c.nodes k with known := upd (c.nodes k).known f n } i).up = (c.nodes i).up ∧ (upd c.nodes k { c.nodes k with known := upd (c.nodes k).known f n } i).follows = (c.nodes i).follows ∧ (upd c.nodes k { c.nodes k with known := upd (c.nodes k).known f n } i).given = (c.nodes i).given ∧
      (upd c.nodes k { c.nodes k with known := upd (c.nodes k).known f n } i).role = (c.nodes i).role := by
    intro i; unfold upd; by_cases q : i = k
    · subst q; simp
    · simp [q]
  constructor
  · simp [hs]
  · intro i hi; rw [(e i).1]; exact ne _ _ (h.up i hi) (by omega)
  · intro i hi; rw [(e i).2.1]; exact ne _ _ (h.fol i hi) (by omega)
  · intro i hi; rw [(e i).2.2.1]; exact ne _ _ (h.giv i hi) (by omega)
  · intro i hi; rw [(e i).2.2.2]; exact ne _ _ (h.rol i hi) (by omega)
  · intro i hi; exact ne _ _ (h.log i hi) (by omega)
  · intro i j hi hj
    by_cases q : i = k
    · subst q
      rw [upd_same]
      by_cases q2 : j = f
      · subst q2
        show _ = some (Value.int .i64 (upd (c.nodes i).known j n j))
        rw [upd_same, Array.getElem?_setIfInBounds_self, if_pos (by omega)]
      · show _ = some (Value.int .i64 (upd (c.nodes i).known f n j))
        rw [upd_other _ _ _ _ q2]; exact ne _ _ (h.kno i j hi hj) (by omega)
    · rw [upd_other _ _ _ _ q]; exact ne _ _ (h.kno i j hi hj) (by omega)
  · exact ne _ _ h.eps (by omega)
  · exact ne _ _ h.way (by omega)
section
variable {w : World} {S : Nat → Prop} {b : Nat} {c : Clu} {lv : Nat → Value} {ev uv : Value} {mv : List (Msg × Value)}
/-- A store into the cluster's own block that turns neither logs nor lists. -/
theorem Rep.setOwn (h : Rep w S b c lv ev uv mv) (o : Nat) (v : Value) (nodes' : Nat → Nd) (hl : ∀ k, k < 5 → (nodes' k).log = (c.nodes k).log) (hc : ∀ cs, Cells cs c.nodes lv ev uv → Cells (cs.setIfInBounds o v) nodes' lv ev uv) :
    Rep (w.setCell ⟨b, o, none⟩ v) S b { c with nodes := nodes' } lv ev uv mv ∧ Fr S w (w.setCell ⟨b, o, none⟩ v) := by
  obtain ⟨cs, hb, hcs⟩ := h.blk
  have keep : ∀ {v' : Value} {n : Nat} {xs : List Value} {e sz : Nat}, w.ownsRow 0 e sz v' n xs → e ≠ 84 → (w.setCell ⟨b, o, none⟩ v).ownsRow 0 e sz v' n xs := by
    intro v' n xs e sz ho hne
    refine ownsRow_same ho fun g hg _ => Below.heap_setCell _ _ _ _ ?_
    obtain ⟨cu, hcu⟩ := ownsRow_block ho hg
    exact ne_of_type hcu hb hne
  refine ⟨{ blk := ⟨_, heap_setCell_at _ _ _ _ _ _ _ hb, hc cs hcs⟩, inb := h.inb, logs := fun k hk => ?_, logS := h.logS, logD := h.logD, eps := keep h.eps (by decide), epS := h.epS, way := keep h.way (by decide), wayS := h.wayS, mvs := h.mvs
            recs := fun x hx => keep (h.recs x hx) (by decide), recS := h.recS, recD := h.recD }, Fr.setCell _ _ h.inb _⟩
  show (w.setCell ⟨b, o, none⟩ v).ownsRow 0 36 3 (lv k) (nodes' k).log.length (recCells (nodes' k).log)
  rw [hl k hk]; exact keep (h.logs k hk) (by decide)
theorem Rep.setKnown (h : Rep w S b c lv ev uv mv) (k : Nat) (hk : k < 5) (f : Nat) (hf : f < 5) (n : Int) :
    Rep (w.setCell ⟨b, k * 10 + 5 + f, none⟩ (.int .i64 n)) S b { c with nodes := upd c.nodes k { c.nodes k with known := upd (c.nodes k).known f n } } lv ev uv mv ∧ Fr S w (w.setCell ⟨b, k * 10 + 5 + f, none⟩ (.int .i64 n)) :=
  h.setOwn _ _ _ (fun i hi => by unfold upd; split; (rename_i q; rw [q]); rfl) fun cs hcs => hcs.setKno k hk f hf n
theorem knowTo_ok {c : Clu} (h : Ok c) (k f : Nat) (n : Int) : Ok (knowTo c k f n) := by
  unfold knowTo; split
  · exact ⟨fun i hi => by show (upd c.nodes k _ i).log.length ≤ 60; unfold upd; split; (rename_i q; rw [← q]; exact h.log i hi); exact h.log i hi, h.ways, h.eps⟩
  · exact h
set_option maxHeartbeats 16000000 in
set_option maxRecDepth 100000 in
theorem takeAck_any (h : Rep w S b c lv ev uv mv) (hok : Ok c) (k : Nat) (hk : k < 5) (m : Msg) (hto : m.to = k) (f : Nat) (hf5 : f < 5) (hfr : m.frm = f) (ro : Option Addr) (rl rc : Nat) :
    Calls Try.prog 78 #[.pointer (some ⟨b, 0, none⟩), msgVal m (.slice ro rl rc)] w fun e w' =>
      e = .returned (.tuple #[]) ∧ (∃ lv' uv' mv', Rep w' (Ext S w) b (takeAck c k m) lv' ev uv' mv') ∧ Fr S w w' := by
  unfold msgVal
  obtain ⟨ao, cap, hlv, hcap, _, hpos⟩ := ownsRow_shape (h.logs k hk)
  have hb := h.lt
  have H := hidP h
  have HO := hidP hok
  have HL := hidP hlv
  have hk0 : (0 : Int) ≤ (k : Int) := by omega
  have hk1 : (k : Int) < 5 := by omega
  have hf0 : (0 : Int) ≤ (f : Int) := by omega
  have hf1 : (f : Int) < 5 := by omega
  have HTO := hidP hto
  have HFR := hidP hfr
  clear h hok hlv hpos hcap hto hfr
  go_enter Try.func78, Try.ntmps78
  go_wp2_with fail
  refine wp_genP (fun W => Below w.heap.size w W ∧ W.heap.size = w.heap.size + 1 ∧ W.heap[w.heap.size]? = some (.cells #[.int .i64 m.kind, .int .i64 m.frm, .int .i64 m.to, .int .i64 m.epoch, .int .i64 m.n, .slice ro rl rc] 91)) ⟨(Below.refl _ _).alloc (Nat.le_refl _) _, by simp, heap_alloc_new w _⟩ ?_
  rintro W ⟨hW2, hW3, hW4⟩
  have hW1 : Rep W (Past S w) b c lv ev uv mv := (H.out.mono (S' := Past S w) fun q hq e => Or.inl ⟨e, hq⟩).below hW2
  obtain ⟨u0, u1, u2, u3, u4, u5, u6, u7, u8, u9⟩ := hW1.node k hk
  have m1 : W.cell? ⟨w.heap.size, 1, none⟩ = some (.int .i64 m.frm) := (cell_of_row _ _ _ _ _ _ hW4).trans rfl
  have m2 : W.cell? ⟨w.heap.size, 2, none⟩ = some (.int .i64 m.to) := (cell_of_row _ _ _ _ _ _ hW4).trans rfl
  have m3 : W.cell? ⟨w.heap.size, 3, none⟩ = some (.int .i64 m.epoch) := (cell_of_row _ _ _ _ _ _ hW4).trans rfl
  have m4 : W.cell? ⟨w.heap.size, 4, none⟩ = some (.int .i64 m.n) := (cell_of_row _ _ _ _ _ _ hW4).trans rfl
  rw [HL.out] at u4
  rw [HTO.out] at m2
  rw [HFR.out] at m1
  have hbW := hW1.lt
  have hmW : w.heap.size < W.heap.size := by omega
  have HW1 := hidP hW1
  have HW2 := hidP hW2
  have HW3 := hidP hW3
  clear hW1 hW2 hW3 hW4
  have nb : ¬ b = W.heap.size := by omega
  have nm : ¬ w.heap.size = W.heap.size := by omega
  have HND := hidP (fun o : Obj => (show Rep (W.alloc o).drew (Past S w) b c lv ev uv mv from (HW1.out.alloc o).drew))
  have HNB := hidP (fun o : Obj => (show Below w.heap.size w (W.alloc o).drew from (HW2.out.alloc (by omega) o).drew))
  have kn : ∀ o : Obj, ∀ j, j < 5 → True := fun _ _ _ => trivial
  go_region
  have hnb : nodeB (f : Int) = true := by simp [nodeB]; omega
  by_cases hcond : (c.nodes k).follows = m.epoch ∧ (c.nodes k).role = 3
  · obtain ⟨hf, hr⟩ := hcond
    have HT := hidP (show takeAck c k m = sendFirst (knowTo c k f m.n) k f by unfold takeAck; rw [HFR.out, if_pos ⟨hf, hr, hnb⟩]; rfl)
    have bf : ((c.nodes k).follows != m.epoch) = false := by simp [hf]
    have br : ((c.nodes k).role != 3) = false := by simp [hr]
    clear hf hr
    go_wp2_with (first | (go_at_call 40; refine (isNode_any _ _).mono ?_; rintro e w' ⟨rfl, hw1⟩; rw [hw1]; clear hw1))
    have HKn := hidP (show ∀ j, j < 5 → ((#[.bool (c.nodes k).up, .int .i64 (c.nodes k).follows, .int .i64 (c.nodes k).given, .int .i64 (c.nodes k).role, .slice ao (c.nodes k).log.length cap, .int .i64 ((c.nodes k).known 0), .int .i64 ((c.nodes k).known 1), .int .i64 ((c.nodes k).known 2), .int .i64 ((c.nodes k).known 3), .int .i64 ((c.nodes k).known 4)] : Array Value)[5 + j]? = some (.int .i64 ((c.nodes k).known j))) from fun j hj => by
      match j, hj with
      | 0, _ => rfl
      | 1, _ => rfl
      | 2, _ => rfl
      | 3, _ => rfl
      | 4, _ => rfl)
    refine wp_genP (fun V => Rep V (Past S w) b c lv ev uv mv ∧ Below w.heap.size w V ∧ w.heap.size + 2 ≤ V.heap.size ∧ V.cell? ⟨w.heap.size, 1, none⟩ = some (.int .i64 f) ∧ V.cell? ⟨w.heap.size, 2, none⟩ = some (.int .i64 k) ∧ V.cell? ⟨w.heap.size, 4, none⟩ = some (.int .i64 m.n) ∧ V.cell? ⟨W.heap.size, 5 + f, none⟩ = some (.int .i64 ((c.nodes k).known f)))
      ⟨HND.out _, HNB.out _, by simp; have := HW3.out; omega, by simp [World.cell?_alloc_some, m1], by simp [World.cell?_alloc_some, m2], by simp [World.cell?_alloc_some, m4], by rw [World.cell?_drew]; exact (cell_of_row _ _ _ _ _ _ (heap_alloc_new W _)).trans (HKn.out f hf5)⟩ ?_
    rintro V ⟨hV1, hV2, hV3, e1, e2, e4, e5⟩
    have a0 := hV1.cKno k f hk hf5
    have z0 := hV1.free (k * 10 + 5 + f)
    have hVb := hV1.lt
    have HV1 := hidP hV1
    have HV2 := hidP hV2
    have hmV : w.heap.size < V.heap.size := by omega
    have nbm : ¬ b = w.heap.size := by omega
    have nbm2 : ¬ w.heap.size = b := by omega
    clear hV1 hV2 u0 u1 u2 u3 u4 u5 u6 u7 u8 u9 m1 m2 m3 m4 HKn
    by_cases hlt : (c.nodes k).known f < m.n
    · have HP := hidP (show knowTo c k f m.n = { c with nodes := upd c.nodes k { c.nodes k with known := upd (c.nodes k).known f m.n } } by unfold knowTo; rw [if_pos hlt])
      have HO1 := hidP (show Ok { c with nodes := upd c.nodes k { c.nodes k with known := upd (c.nodes k).known f m.n } } by have := knowTo_ok HO.out k f m.n; rw [HP.out] at this; exact this)
      have HSt := hidP (fun nd : Nat => (Rep.setKnown (w := V.drewN nd) (HV1.out.same fun _ _ _ => rfl) k hk f hf5 m.n))
      go_quiet (fail)
      go_wp2_with fail
      go_region
      go_wp2_with fail
      refine (sendFirst_any (HSt.out (nq + 1)).1 HO1.out k f hk hf5).mono ?_
      rintro e w3 ⟨rfl, ⟨uv3, mv3, hR3⟩, hF3⟩
      have HR3 := hidP hR3
      have HF3 := hidP hF3
      clear hR3 hF3
      go_wp2
      exact bodyPost_end (results_none rfl _ _ _) rfl ⟨rfl, ⟨_, _, _, by
        rw [HT.out, HP.out]
        exact HR3.out.mono fun q _ e => by
          rcases e with e | e
          · exact Past.ext q e
          · exact Or.inr (Nat.le_trans (by omega : w.heap.size ≤ V.heap.size) (by simpa [World.setCell] using e))⟩, (((Fr.below HV2.out).then (Fr.drewP _ V (nq + 1))).trans ((HSt.out (nq + 1)).2.mono fun q e => Past.ext q e)).trans (HF3.out.mono fun q e => Past.ext q e)⟩
    · have HP := hidP (show knowTo c k f m.n = c by unfold knowTo; rw [if_neg hlt])
      go_quiet (fail)
      go_wp2_with fail
      refine (sendFirst_any (w := V.drewN nq) (HV1.out.same fun _ _ _ => rfl) HO.out k f hk hf5).mono ?_
      rintro e w3 ⟨rfl, ⟨uv3, mv3, hR3⟩, hF3⟩
      have HR3 := hidP hR3
      have HF3 := hidP hF3
      clear hR3 hF3
      go_wp2
      exact bodyPost_end (results_none rfl _ _ _) rfl ⟨rfl, ⟨_, _, _, by
        rw [HT.out, HP.out]
        exact HR3.out.mono fun q _ e => by
          rcases e with e | e
          · exact Past.ext q e
          · exact Or.inr (Nat.le_trans (by omega : w.heap.size ≤ V.heap.size) (by simpa [World.setCell] using e))⟩, ((Fr.below HV2.out).then (Fr.drewP _ V nq)).trans (HF3.out.mono fun q e => Past.ext q e)⟩
  · have HT := hidP (show takeAck c k m = c by unfold takeAck; rw [if_neg (fun x => hcond ⟨x.1, x.2.1⟩)])
    cases hf : ((c.nodes k).follows != m.epoch)
    · have hr : ((c.nodes k).role != 3) = true := by
        simp at hf ⊢
        exact fun x => hcond ⟨hf, x⟩
      clear hcond
      go_wp2_with (first | (go_at_call 40; refine (isNode_any _ _).mono ?_; rintro e w' ⟨rfl, hw1⟩; rw [hw1]; clear hw1))
      exact bodyPost_ret (results_none rfl _ _ _) rfl ⟨rfl, ⟨_, _, _, by rw [HT.out]; exact (HND.out _).mono fun q _ e => Past.ext q e⟩, Fr.below (HNB.out _)⟩
    · clear hcond
      go_wp2_with (first | (go_at_call 40; refine (isNode_any _ _).mono ?_; rintro e w' ⟨rfl, hw1⟩; rw [hw1]; clear hw1))
      exact bodyPost_ret (results_none rfl _ _ _) rfl ⟨rfl, ⟨_, _, _, by rw [HT.out]; exact (HND.out _).mono fun q _ e => Past.ext q e⟩, Fr.below (HNB.out _)⟩
end
end Go.Proofs.Ythpfgmdffendoaa
