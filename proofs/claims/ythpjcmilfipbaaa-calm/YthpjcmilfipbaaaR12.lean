/- My own text: several texts in one. -/
import Derived.Test.YthpjcmilfipbaaaR11
import Derived.Test.YthpjcmilfipbaaaR7
import Derived.Test.YthpjcmilfipbaaaR4
import Derived.Test.YthpjcmilfipbaaaR2
import Derived.Deep.RegionHeld3
import Derived.Test.YthpjcmilfipbaaaR8
namespace Go.Proofs.Ythpjcmilfipbaaa
set_option linter.unusedVariables false
set_option linter.unusedSimpArgs false
open Go.RowKit
def nilR : Value := .slice none 0 0
def rNewMem (j i : Nat) : Mem := { up := decide (i < j), follows := if i < j ∧ i < 3 then 1 else 0, given := if i < j ∧ i < 3 then 1 else 0, role := 0, log := [], knows := fun _ => 0, has := fun _ => false }
def rNewTo (j : Nat) : Wd := { mem := rNewMem j, eras := [⟨7, 0, 0⟩], active := 1, way := [] }
def rNew : Wd := { mem := fun i => { rNewMem 5 i with role := if i = 0 then 3 else 0 }, eras := [⟨7, 0, 0⟩], active := 1, way := [] }
theorem mem_ext {a b : Mem} (h1 : a.up = b.up) (h2 : a.follows = b.follows) (h3 : a.given = b.given) (h4 : a.role = b.role) (h5 : a.log = b.log) (h6 : a.knows = b.knows) (h7 : a.has = b.has) : a = b := by
  cases a; cases b; simp_all
section
variable {w : World} {S : Nat → Prop} {b : Nat} {d : Wd} {ev uv : Value}
theorem RRep.newStep1 {j : Nat} (h : RRep w S b (rNewTo j) ev uv) (hj : j < 3) :
    RRep (((w.setCell ⟨b, j * 15, none⟩ (.bool true)).setCell ⟨b, j * 15 + 1, none⟩ (.int .i64 1)).setCell ⟨b, j * 15 + 2, none⟩ (.int .i64 1)) S b (rNewTo (j + 1)) ev uv ∧
    Fr S w (((w.setCell ⟨b, j * 15, none⟩ (.bool true)).setCell ⟨b, j * 15 + 1, none⟩ (.int .i64 1)).setCell ⟨b, j * 15 + 2, none⟩ (.int .i64 1)) := by
  have q1 := h.setCell (j * 15) (.bool true) ((rNewTo j).put j { (rNewTo j).mem j with up := true }) rfl rfl (fun cs hcs => hcs.setUp j (by omega) true)
  have q2 := q1.1.setCell (j * 15 + 1) (.int .i64 1) ((rNewTo j).put j { (rNewTo j).mem j with up := true, follows := 1 }) rfl rfl (fun cs hcs => by
    have := hcs.setFol j (by omega) 1
    have e2 : (((rNewTo j).put j { (rNewTo j).mem j with up := true }).put j { ((rNewTo j).put j { (rNewTo j).mem j with up := true }).mem j with follows := 1 }).mem = ((rNewTo j).put j { (rNewTo j).mem j with up := true, follows := 1 }).mem := by
      funext i; simp only [put_mem]; split <;> simp_all
    rw [e2] at this; exact this)
  have q3 := q2.1.setCell (j * 15 + 2) (.int .i64 1) (rNewTo (j + 1)) rfl rfl (fun cs hcs => by
    have := hcs.setGiv j (by omega) 1
    have e2 : (((rNewTo j).put j { (rNewTo j).mem j with up := true, follows := 1 }).put j { ((rNewTo j).put j { (rNewTo j).mem j with up := true, follows := 1 }).mem j with given := 1 }).mem = (rNewTo (j + 1)).mem := by
      funext i
      simp only [put_mem]
      by_cases e : i = j
      · subst e
        apply mem_ext <;> simp [rNewTo, rNewMem, hj]
      · have e3 : (i < j + 1 ∧ i < 3) ↔ (i < j ∧ i < 3) := by omega
        have e4 : i < j + 1 ↔ i < j := by omega
        apply mem_ext <;> simp [e, rNewTo, rNewMem, e3, e4]
    rw [e2] at this; exact this)
  exact ⟨q3.1, (q1.2.then q2.2).then q3.2⟩
theorem RRep.newStep2 {j : Nat} (h : RRep w S b (rNewTo j) ev uv) (hj5 : j < 5) (hj : ¬ j < 3) :
    RRep (w.setCell ⟨b, j * 15, none⟩ (.bool true)) S b (rNewTo (j + 1)) ev uv ∧ Fr S w (w.setCell ⟨b, j * 15, none⟩ (.bool true)) :=
  h.setCell (j * 15) (.bool true) (rNewTo (j + 1)) rfl rfl (fun cs hcs => by
    have := hcs.setUp j (by omega) true
    have e2 : ((rNewTo j).put j { (rNewTo j).mem j with up := true }).mem = (rNewTo (j + 1)).mem := by
      funext i
      simp only [put_mem]
      by_cases e : i = j
      · subst e
        apply mem_ext <;> simp [rNewTo, rNewMem, hj]
      · have e3 : (i < j + 1 ∧ i < 3) ↔ (i < j ∧ i < 3) := by omega
        have e4 : i < j + 1 ↔ i < j := by omega
        apply mem_ext <;> simp [e, rNewTo, rNewMem, e3, e4]
    rw [e2] at this; exact this)
theorem RRep.newLast (h : RRep w S b (rNewTo 5) ev uv) : RRep (w.setCell ⟨b, 3, none⟩ (.int .i64 3)) S b rNew ev uv ∧ Fr S w (w.setCell ⟨b, 3, none⟩ (.int .i64 3)) :=
  h.setCell 3 (.int .i64 3) rNew rfl rfl (fun cs hcs => by
    have := hcs.setRol 0 (by omega) 3
    have e2 : ((rNewTo 5).put 0 { (rNewTo 5).mem 0 with role := 3 }).mem = rNew.mem := by
      funext i
      simp only [put_mem]
      by_cases e : i = 0
      · subst e
        apply mem_ext <;> simp [rNew, rNewTo, rNewMem]
      · apply mem_ext <;> simp [e, rNew, rNewTo, rNewMem]
    rw [e2] at this; exact this)
set_option maxRecDepth 100000 in
theorem rnew_start (w : World) : RRep (w.alloc (.cells (Try.zeroCells116.setIfInBounds 76 (.int .i64 1)) 116)) (fun k => w.heap.size ≤ k) w.heap.size { rNewTo 0 with eras := [] } nilR nilR := by
  refine { blk := ⟨_, heap_alloc_new w _, ?_⟩, inb := Nat.le_refl _, eras := World.ownsRow_nil _ _ _ _, eraS := fun g hg => by simp [nilR, Value.ownBlock] at hg, way := World.ownsRow_nil _ _ _ _, wayS := fun g hg => by simp [nilR, Value.ownBlock] at hg }
  constructor
  · rfl
  all_goals first | rfl | (intro k hk; match k, hk with | 0, _ => rfl | 1, _ => rfl | 2, _ => rfl | 3, _ => rfl | 4, _ => rfl) | (intro k j hk hj; match k, hk, j, hj with | 0, _, 0, _ | 0, _, 1, _ | 0, _, 2, _ | 0, _, 3, _ | 0, _, 4, _ | 1, _, 0, _ | 1, _, 1, _ | 1, _, 2, _ | 1, _, 3, _ | 1, _, 4, _ | 2, _, 0, _ | 2, _, 1, _ | 2, _, 2, _ | 2, _, 3, _ | 2, _, 4, _ | 3, _, 0, _ | 3, _, 1, _ | 3, _, 2, _ | 3, _, 3, _ | 3, _, 4, _ | 4, _, 0, _ | 4, _, 1, _ | 4, _, 2, _ | 4, _, 3, _ | 4, _, 4, _ => rfl)
set_option maxHeartbeats 3200000 in
set_option maxRecDepth 100000 in
theorem rnew_any (w : World) :
    Calls Try.prog 37 #[] w fun e w' => e = .returned (.pointer (some ⟨w.heap.size, 0, none⟩)) ∧ (∃ ev, RRep w' (fun k => w.heap.size ≤ k) w.heap.size rNew ev nilR) ∧ Below w.heap.size w w' := by
  obtain ⟨i0, hi0, hz0, hz1, hz2⟩ := info_parts infoEra
  have HS0 : Hid (RRep (w.alloc (.cells (Try.zeroCells116.setIfInBounds 76 (.int .i64 1)) 116)) (fun k => w.heap.size ≤ k) w.heap.size { rNewTo 0 with eras := [] } nilR nilR) := rnew_start w
  have HS1 : Hid (RRep ((w.alloc (.cells (Try.zeroCells116.setIfInBounds 76 (.int .i64 1)) 116)).alloc (.cells #[.int .i64 7, .int .i64 0, .int .i64 0] 118)) (fun k => w.heap.size ≤ k) w.heap.size { rNewTo 0 with eras := [] } nilR nilR) := HS0.out.alloc _
  have HC0 : Hid ((w.alloc (.cells (Try.zeroCells116.setIfInBounds 76 (.int .i64 1)) 116)).cell? ⟨w.heap.size, 75, none⟩ = some (.slice none 0 0)) := HS0.out.cEras
  have HC : Hid (((w.alloc (.cells (Try.zeroCells116.setIfInBounds 76 (.int .i64 1)) 116)).alloc (.cells #[.int .i64 7, .int .i64 0, .int .i64 0] 118)).cell? ⟨w.heap.size, 75, none⟩ = some (.slice none 0 0)) := HS1.out.cEras
  have HZ : Hid (((w.alloc (.cells (Try.zeroCells116.setIfInBounds 76 (.int .i64 1)) 116)).alloc (.cells #[.int .i64 7, .int .i64 0, .int .i64 0] 118)).frozen? ⟨w.heap.size, 75, none⟩ = false) := HS1.out.free 75
  have hnews : ∀ u ∈ ([.int .i64 7, .int .i64 0, .int .i64 0] : List Value), u.oneCell' = true := by
    intro u hu
    simp only [List.mem_cons, List.not_mem_nil, or_false] at hu
    rcases hu with rfl | rfl | rfl <;> rfl
  go_enter Try.func37, Try.ntmps37
  go_wp2_with (first | (at_builtin; refine wpList_append_lies _ rfl _ _ 113 rfl 0 118 i0 _ 3 24 Try.underlying113 hi0 hz0 hz1 hz2 rfl (by omega) (.slice none 0 0) 0 [] rfl (World.ownsRow_nil _ _ _ _) ⟨w.heap.size + 1, 0, none⟩ 1 1 [.int .i64 7, .int .i64 0, .int .i64 0] rfl rfl (World.news_of_block (cs := #[.int .i64 7, .int .i64 0, .int .i64 0]) (t := 118) (fr := (0, 0)) (heap_alloc2_new w _ _)) hnews (by omega) (by unfold maxLen; omega) (by omega) (by omega) (w.heap.size + 2) (by simp) ?_; intro gg cap' w1 hown1 hgrow hat hlt2; have hc51 : w1.cell? ⟨w.heap.size, 75, none⟩ = some (.slice none 0 0) := (by rw [hgrow.cell_far _ (by simp; omega) (by simp [Value.ownBlock])]; exact HC.out); have hf51 : w1.frozen? ⟨w.heap.size, 75, none⟩ = false := (by rw [hgrow.frozen_far _ (by simp; omega) (by simp [Value.ownBlock])]; exact HZ.out)))
  have R := HS0.out.newEras (W := (w.alloc (.cells (Try.zeroCells116.setIfInBounds 76 (.int .i64 1)) 116)).alloc (.cells #[.int .i64 7, .int .i64 0, .int .i64 0] 118)) (Fr.alloc _ _ _) (.slice (some ⟨gg, 0, none⟩) 1 cap') [(⟨7, 0, 0⟩ : Era)] 1 gg rfl rfl hown1 hgrow (orR hat fun e => by simp at e ⊢; omega)
  clear hown1 hgrow hat hlt2 hc51 hf51 hnews HC HC0 HZ
  generalize w1.setCell _ _ = W2 at R ⊢
  have HR : Hid (RRep W2 (fun k => w.heap.size ≤ k) w.heap.size (rNewTo 0) (.slice (some ⟨gg, 0, none⟩) 1 cap') nilR) := R.1.mono fun k _ e => by
    rcases e with e | e
    · exact e
    · simp at e; omega
  have HB : Hid (Below w.heap.size w W2) := ((Below.refl _ _).alloc (Nat.le_refl _) _).trans (R.2.toBelow (by simp) fun _ e => e)
  clear R HS0 HS1
  go_loopw [2] (fun t wr => ∃ j : Nat, j ≤ 5 ∧ t = .int .i64 j ∧ RRep wr (fun k => w.heap.size ≤ k) w.heap.size (rNewTo j) (.slice (some ⟨gg, 0, none⟩) 1 cap') nilR ∧ Below w.heap.size w wr) (fun t _ => 5 - (intOf t).toNat)
  case atStart => exact ⟨0, Nat.zero_le _, rfl, HR.out, HB.out⟩
  case round =>
    obtain ⟨j, hj5, rfl, hR, hB⟩ := hrel
    clear HR HB
    have HR : Hid (RRep wr (fun k => w.heap.size ≤ k) w.heap.size (rNewTo j) (.slice (some ⟨gg, 0, none⟩) 1 cap') nilR) := hR
    have HB : Hid (Below w.heap.size w wr) := hB
    by_cases hj : j < 5
    · have f0 := hR.free (j * 15); have f1 := hR.free (j * 15 + 1); have f2 := hR.free (j * 15 + 2)
      have c0 := hR.cUp j hj
      have c1 := hR.cFol j hj
      have c2 := hR.cGiv j hj
      have hji0 : (0 : Int) ≤ (j : Int) := by omega
      have hji5 : (j : Int) < 5 := by omega
      clear hR hB
      by_cases hj3 : j < 3
      · have HS : Hid _ := HR.out.newStep1 hj3
        have hji3 : (j : Int) < 3 := by omega
        go_wp2
        go_roundw
        case rel => exact ⟨j + 1, by omega, by go_num, HS.out.1, HB.out.trans (HS.out.2.toBelow HB.out.size fun _ e => e)⟩
        case measure => simp [intOf]; omega
      · have HS : Hid _ := HR.out.newStep2 hj hj3
        have hji3 : (3 : Int) ≤ (j : Int) := by omega
        go_wp2
        go_roundw
        case rel => exact ⟨j + 1, by omega, by go_num, HS.out.1, HB.out.trans (HS.out.2.toBelow HB.out.size fun _ e => e)⟩
        case measure => simp [intOf]; omega
    · have : j = 5 := by omega
      subst this
      have f0 := hR.free 3
      have c0 := hR.cRol 0 (by omega)
      have HS : Hid _ := HR.out.newLast
      clear hR hB
      go_wp2
      go_ret
      exact ⟨rfl, ⟨_, HS.out.1⟩, HB.out.trans (HS.out.2.toBelow HB.out.size fun _ e => e)⟩
end
end Go.Proofs.Ythpjcmilfipbaaa

namespace Go.Proofs.Ythpjcmilfipbaaa
set_option linter.unusedVariables false
set_option linter.unusedSimpArgs false
open Go.RowKit
section
variable {d : Wd}
theorem MsgOk.more {n n' : Nat} {m : Msg} (h : MsgOk n m) (hn : n ≤ n') : MsgOk n' m :=
  { h with ep := ⟨h.ep.1, by have := h.ep.2; omega⟩ }
theorem ROk.say (h : ROk d) (k : Nat) (hk : k < 5) (m : Msg) (hm : MsgOk d.eras.length m) (kind n : Int) (l : List Rec) (h1 : kind ≠ 1) (h8 : kind ≠ 8) (hn : 0 ≤ n ∧ n ≤ 60) (hl : l.length ≤ 60) (hb : ∀ r ∈ l, recOk r) : ROk (rSay d k m kind n l) :=
  h.sends { to := hm.frm, frm := ⟨by show (-1 : Int) ≤ (k : Int); omega, by show (k : Int) < 5; omega⟩, lead := fun _ => by show (0 : Int) ≤ (k : Int); omega, ep := hm.ep, start := fun e => absurd e h1, n := hn, len := hl, app := fun e => absurd e h8, recs := hb }
theorem rFollows_eras (d : Wd) (k : Nat) (e r : Int) : (rFollows d k e r).eras = d.eras := by unfold rFollows; split <;> rfl
theorem ROk.leads (h : ROk d) (k : Nat) (hk : k < 5) (m : Msg) (hm : MsgOk d.eras.length m) : ROk (rLeads d k m) := by
  unfold rLeads
  split
  · rename_i c
    have hf := h.rol k hk (by omega)
    refine (h.tell k hk m hm.len hm.recs hf).hands k hk ?_
    rw [rTell, put_at]; exact hf
  split
  · rename_i _ c
    split
    · exact (h.hasN k hk _).ready k hk m.epoch hm.ep.1 hm.ep.2
    · exact h.hasN k hk _
  split
  · rename_i _ _ c
    exact h.serve k hk (h.rol k hk (by omega))
  split
  · rename_i _ _ _ c
    have hf := h.rol k hk (by omega)
    have hfr := hm.lead (Or.inl c.1)
    refine (h.know k hk _ m.n hm.n.1 hm.n.2).ack k _ hk (by have := hm.frm.2; omega) ?_
    rw [(rKnow_same d k _ m.n).2.2.1]; exact hf
  · exact h
theorem ROk.takes (h : ROk d) (k : Nat) (hk : k < 5) (m : Msg) (hm : MsgOk d.eras.length m) : ROk (rTakes d k m) := by
  have hF : ROk (rFollows d k m.epoch 0) := h.follows k hk m.epoch 0 hm.ep.1 hm.ep.2
  have hmF : MsgOk (rFollows d k m.epoch 0).eras.length m := by rw [rFollows_eras]; exact hm
  unfold rTakes
  split
  · exact h
  split
  · exact h.starts k hk m.epoch hm.ep.1 hm.ep.2
  split
  · exact hF.say k hk m hmF 3 _ _ (by omega) (by omega) ⟨by omega, by have := hF.log k hk; omega⟩ (hF.log k hk) (hF.byt k hk)
  split
  · split
    · exact (hF.given k hk m.epoch m.recs hm.len hm.recs).say k hk m hmF 5 0 [] (by omega) (by omega) ⟨by omega, by omega⟩ (by simp) (fun r hr => by cases hr)
    · exact hF.say k hk m hmF 5 0 [] (by omega) (by omega) ⟨by omega, by omega⟩ (by simp) (fun r hr => by cases hr)
  split
  · rename_i c8
    split
    · have hA : ROk (rTakeAppend d k m) ∧ (rTakeAppend d k m).eras = d.eras := by
        unfold rTakeAppend
        split
        · rename_i cn
          have h8 := hm.app c8
          refine ⟨h.putLog k hk _ (by rw [List.length_append]; omega) fun r hr => ?_, rfl⟩
          rcases List.mem_append.1 hr with hr | hr
          · exact h.byt k hk r hr
          · exact hm.recs r hr
        · exact ⟨h, rfl⟩
      exact hA.1.say k hk m (by rw [hA.2]; exact hm) 9 _ [] (by omega) (by omega) ⟨by omega, by have := hA.1.log k hk; omega⟩ (by simp) (fun r hr => by cases hr)
    · exact h
  split
  · exact h.leads k hk m hm
  · exact h
theorem era_leader (h : ROk d) (e : Nat) (h1 : 1 ≤ e) (h2 : e ≤ d.eras.length) : 0 ≤ (d.era e).leader ∧ (d.era e).leader < 5 := by
  obtain ⟨q, rfl⟩ : ∃ q, e = q + 1 := ⟨e - 1, by omega⟩
  have hq : q < d.eras.length := by omega
  have e1 : (((q + 1 : Nat) : Int) - 1).toNat = q := by omega
  have := h.era q d.eras[q] (by simp [hq])
  rw [Wd.era, e1]
  simp [hq]
  exact ⟨this.2.2.1, this.2.2.2.1⟩
theorem startOk (h : ROk d) (to e : Int) (ht : 0 ≤ to ∧ to < 5) (n : Nat) (he : 2 ≤ e ∧ e ≤ n) : MsgOk n { kind := 1, frm := -1, to := to, epoch := e, n := 0, recs := [] } :=
  { to := ⟨by show (-1 : Int) ≤ to; omega, ht.2⟩, frm := ⟨by show (-1 : Int) ≤ -1; omega, by show (-1 : Int) < 5; omega⟩, lead := fun e => by simp at e, ep := ⟨by show (1 : Int) ≤ e; omega, he.2⟩, start := fun _ => he.1, n := ⟨by show (0 : Int) ≤ 0; omega, by show (0 : Int) ≤ 60; omega⟩, len := by simp, app := fun e => by simp at e, recs := fun r hr => by cases hr }
theorem ROk.master (h : ROk d) (e : Int) (h1 : 1 ≤ e) (h2 : e ≤ d.eras.length) : ROk (rMaster d e) := by
  unfold rMaster
  split
  · rename_i c
    have hl := era_leader h d.eras.length h.e1 (Nat.le_refl _)
    rw [← c] at hl
    have h' : ROk { d with active := e } := { h with act := ⟨h1, h2⟩ }
    exact h'.sends { to := ⟨by show (-1 : Int) ≤ (d.era e).leader; omega, hl.2⟩, frm := ⟨by show (-1 : Int) ≤ -1; omega, by show (-1 : Int) < 5; omega⟩, lead := fun e => by simp at e, ep := ⟨h1, h2⟩, start := fun e => by simp at e, n := ⟨by show (0 : Int) ≤ 0; omega, by show (0 : Int) ≤ 60; omega⟩, len := by simp, app := fun e => by simp at e, recs := fun r hr => by cases hr }
  · exact h
theorem ROk.deliver (h : ROk d) (i : Int) : ROk (rDeliver d i).1 := by
  unfold rDeliver
  cases hu : rUnder d i
  · exact h
  · obtain ⟨n, m, rfl, hx⟩ := rUnder_at hu
    have hm := h.msg m (List.mem_of_getElem? hx)
    simp only [Int.toNat_natCast, hx]
    show ROk (rGet (rOut d n) m)
    unfold rGet
    split
    · exact (h.outOk n).master m.epoch hm.ep.1 hm.ep.2
    split
    · exact (h.outOk n).takes _ (by have := hm.to; omega) m hm
    · exact h.outOk n
theorem ROk.drop (h : ROk d) (i : Int) : ROk (rDrop d i).1 := by
  unfold rDrop
  split
  · exact h.outOk _
  · exact h
theorem ROk.twice (h : ROk d) (i : Int) : ROk (rTwice d i).1 := by
  unfold rTwice
  cases hu : rUnder d i
  · exact h
  · obtain ⟨n, m, rfl, hx⟩ := rUnder_at hu
    simp only [Int.toNat_natCast, hx]
    exact h.sends (h.msg m (List.mem_of_getElem? hx))
theorem ROk.crash (h : ROk d) (node : Int) : ROk (rCrash d node).1 := by
  unfold rCrash
  split
  · rename_i hr
    obtain ⟨k, rfl, hk, _⟩ := rRef_zero hr
    exact h.put k _ (h.fol k hk) (fun e => absurd rfl e) (h.log k hk) (h.byt k hk) (fun j hj => h.kno k j hk hj)
  · exact h
theorem ROk.restart (h : ROk d) (node : Int) : ROk (rRestart d node).1 := by
  unfold rRestart
  split
  · exact h
  · rename_i hr
    obtain ⟨k, rfl, hk, _⟩ := rRef_zero (Decidable.of_not_not hr)
    split
    · exact h
    · exact h.put k _ (h.fol k hk) (h.rol k hk) (h.log k hk) (h.byt k hk) (fun j hj => h.kno k j hk hj)
theorem ROk.remind (h : ROk d) : ROk (rRemind d).1 := by
  unfold rRemind
  split
  · exact h
  · rename_i ha
    have := h.act
    have h1 := h.e1
    exact h.sends (startOk h _ _ (era_leader h d.eras.length h1 (Nat.le_refl _)) _ ⟨by omega, Int.le_refl _⟩)
theorem ROk.reconf (h : ROk d) (m l : Int) : ROk (rReconf d m l).1 := by
  unfold rReconf
  split
  · exact h
  rename_i hb
  split
  · exact h
  split
  · exact h
  rename_i hf
  obtain ⟨h1, h2, h3, h4⟩ := rBad_no (by simpa using hb)
  have ha := h.act
  have hl : (d.eras ++ [(⟨m, l, d.active⟩ : Era)]).length = d.eras.length + 1 := by simp
  have h' : ROk { d with eras := d.eras ++ [⟨m, l, d.active⟩] } :=
    { e1 := by show 1 ≤ (d.eras ++ [_]).length; rw [hl]; omega
      e40 := by show (d.eras ++ [_]).length ≤ 40; rw [hl]; omega
      act := ⟨ha.1, by show d.active ≤ ((d.eras ++ [_]).length : Nat); rw [hl]; omega⟩
      era := fun e x hx => by
        by_cases he : e < d.eras.length
        · rw [List.getElem?_append_left he] at hx; exact h.era e x hx
        · rw [List.getElem?_append_right (by omega)] at hx
          have he2 : e - d.eras.length = 0 := by
            rcases Nat.eq_zero_or_pos (e - d.eras.length) with q | q
            · exact q
            · rw [List.getElem?_eq_none (by simp; omega)] at hx; cases hx
          rw [he2] at hx
          simp at hx
          subst hx
          exact ⟨h1, h2, h3, h4, by show 0 ≤ d.active; omega, by show d.active ≤ (e : Int); omega, fun _ => ha.1⟩
      fol := fun k hk => ⟨(h.fol k hk).1, by show (d.mem k).follows ≤ ((d.eras ++ [_]).length : Nat); rw [hl]; have := (h.fol k hk).2; omega⟩
      rol := h.rol, log := h.log, byt := h.byt, kno := h.kno, way := h.way
      msg := fun x hx => (h.msg x hx).more (by show d.eras.length ≤ (d.eras ++ [_]).length; rw [hl]; omega) }
  refine h'.sends (startOk h _ _ ⟨h3, h4⟩ _ ⟨?_, ?_⟩)
  · have := h.e1; omega
  · show (d.eras.length : Int) + 1 ≤ ((d.eras ++ [_]).length : Nat); rw [hl]; omega
theorem ROk.produce (h : ROk d) (node p s v : Int) : ROk (rProduce d node p s v).1 := by
  unfold rProduce
  split
  · exact h
  split
  · exact h
  split
  · exact h
  rename_i hr hb hro
  obtain ⟨k, rfl, hk, _⟩ := rRef_zero (Decidable.of_not_not hr)
  have hro3 : (d.mem k).role = 3 := Decidable.of_not_not hro
  have hf := h.rol k hk (by omega)
  obtain ⟨p1, p2, s1, s2, v1, v2⟩ := recB_parts (show recB p s v = true by simpa using hb)
  show ROk (rProduceAt d k p s v).1
  unfold rProduceAt
  split
  · split
    · exact h
    split
    · exact h
    rename_i ho _ hfull
    have h' := h.putLog k hk ((d.mem k).log ++ [⟨p, s, v⟩]) (by simp; omega) fun r hr => by
      rcases List.mem_append.1 hr with hr | hr
      · exact h.byt k hk r hr
      · simp at hr; subst hr; exact ⟨by show 0 ≤ p; omega, by show p ≤ 255; omega, by show 0 ≤ s; omega, by show s ≤ 255; omega, by show 0 ≤ v; omega, by show v ≤ 255; omega⟩
    have hlk : ((rPutLog d k ((d.mem k).log ++ [⟨p, s, v⟩])).mem k).log.length = (d.mem k).log.length + 1 := by rw [rPutLog, put_at]; simp
    have hfo : ((rPutLog d k ((d.mem k).log ++ [⟨p, s, v⟩])).mem k).follows = (d.mem k).follows := by rw [rPutLog, put_at]
    exact h'.prodTo k hk (d.mem k) _ _ (d.mem k).log.length (by rw [hfo]; exact hf) (fun j hj => (h.kno k j hk hj).1) (fun _ => by rw [hlk]; omega) (fun e => by omega) 5 (Nat.le_refl _)
  · exact h.prodTo k hk (d.mem k) _ _ (d.mem k).log.length hf (fun j hj => (h.kno k j hk hj).1) (fun e => by omega) (fun _ => rfl) 5 (Nat.le_refl _)
theorem ROk.new : ROk rNew :=
  { e1 := by decide, e40 := by decide, act := ⟨by decide, by decide⟩
    era := fun e x hx => by
      match e with
      | 0 => simp [rNew] at hx; subst hx; simp
      | e + 1 => simp [rNew] at hx
    fol := fun k hk => by simp only [rNew, rNewMem]; split <;> simp
    rol := fun k hk hr => by
      by_cases e : k = 0
      · subst e; simp [rNew, rNewMem]
      · simp [rNew, e] at hr
    log := fun k hk => by simp [rNew, rNewMem], byt := fun k hk r hr => by simp [rNew, rNewMem] at hr
    kno := fun k j hk hj => by simp [rNew, rNewMem], way := by simp [rNew], msg := fun m hm => by simp [rNew] at hm }
end
end Go.Proofs.Ythpjcmilfipbaaa

namespace Go.Proofs.Ythpjcmilfipbaaa
set_option linter.unusedVariables false
set_option linter.unusedSimpArgs false
open Go.RowKit
section
variable {w : World} {S : Nat → Prop} {b : Nat} {d : Wd} {ev uv : Value}

structure ShowR where
  up : Bool
  epoch : Int
  installed : Int
  role : Int
  len : Int
  done : Int
def ShowR.val (x : ShowR) : Value := .agg #[.bool x.up, .int .i64 x.epoch, .int .i64 x.installed, .int .i64 x.role, .int .i64 x.len, .int .i64 x.done]
def rSeen (d : Wd) (node : Int) : ShowR × Int :=
  if nodeB node then (⟨(d.mem node.toNat).up, (d.mem node.toNat).follows, (d.mem node.toNat).given, (d.mem node.toNat).role, (d.mem node.toNat).log.length, rDone d node.toNat⟩, 0)
  else (⟨false, 0, 0, 0, 0, 0⟩, 2)

set_option maxHeartbeats 1600000 in
theorem rnode_nil (node : Int) (w : World) :
    Calls Try.prog 84 #[.pointer none, .int .i64 node] w fun e w' =>
      e = .returned (.tuple #[.agg #[.bool false, .int .i64 0, .int .i64 0, .int .i64 0, .int .i64 0, .int .i64 0], .int .i64 1]) ∧ Below w.heap.size w w' := by
  go_enter Try.func84, Try.ntmps84
  go_wp2_with (first | (go_at_call 72; refine (rref_nil _ _ _).mono ?_; rintro e w1 ⟨rfl, hw1⟩; rw [hw1]; clear hw1))
  exact bodyPost_ret (v := .tuple #[.agg #[.bool false, .int .i64 0, .int .i64 0, .int .i64 0, .int .i64 0, .int .i64 0], .int .i64 1]) (by simp [results, Try.results84, go_sem, *]) rfl ⟨rfl, (Below.refl _ _).alloc (Nat.le_refl _) _⟩

theorem six (W : World) (N B j : Nat) (a0 a1 a2 a3 a4 a5 : Value) (h : ¬ B = N) :
    ((((((W.setCell ⟨N, 0, none⟩ a0).setCell ⟨N, 1, none⟩ a1).setCell ⟨N, 2, none⟩ a2).setCell ⟨N, 3, none⟩ a3).setCell ⟨N, 4, none⟩ a4).setCell ⟨N, 5, none⟩ a5).cell? ⟨B, j, none⟩ = W.cell? ⟨B, j, none⟩ := by
  have hn : ∀ (V : World) (o : Nat) (a : Value), (V.setCell ⟨N, o, none⟩ a).cell? ⟨B, j, none⟩ = V.cell? ⟨B, j, none⟩ := fun V o a =>
    World.cell?_of_block (Below.heap_setCell V ⟨N, o, none⟩ a B h)
  rw [hn, hn, hn, hn, hn, hn]
set_option maxHeartbeats 3200000 in
set_option maxRecDepth 100000 in
theorem rnode_any (h : RRep w S b d ev uv) (hok : ROk d) (node : Int) :
    Calls Try.prog 84 #[.pointer (some ⟨b, 0, none⟩), .int .i64 node] w fun e w' =>
      e = .returned (.tuple #[(rSeen d node).1.val, .int .i64 (rSeen d node).2]) ∧ Below w.heap.size w w' := by
  have H : Hid (RRep w S b d ev uv) := h
  have HO : Hid (ROk d) := hok
  have hbw := h.lt
  by_cases hn : 0 ≤ node ∧ node < 5
  rotate_left
  · have hb : nodeB node = false := by simp [nodeB]; omega
    have hr : rRef d node false = 2 := by simp [rRef, hb]
    have HF : Hid (rSeen d node = (⟨false, 0, 0, 0, 0, 0⟩, 2)) := by show rSeen d node = _; simp [rSeen, hb]
    clear h hok hn
    go_enter Try.func84, Try.ntmps84
    go_wp2_with (first | (go_at_call 72; refine (rref_any (H.out.alloc _) _ _).mono ?_; rintro e w1 ⟨rfl, hw1⟩; rw [hw1]; clear hw1))
    exact bodyPost_ret (v := .tuple #[.agg #[.bool false, .int .i64 0, .int .i64 0, .int .i64 0, .int .i64 0, .int .i64 0], .int .i64 2]) (by simp [results, Try.results84, go_sem, *]) rfl ⟨by rw [HF.out]; rfl, (Below.refl _ _).alloc (Nat.le_refl _) _⟩
  obtain ⟨h0, h5⟩ := hn
  obtain ⟨k, rfl⟩ := Int.eq_ofNat_of_zero_le h0
  have hk : k < 5 := by omega
  have hb : nodeB (k : Int) = true := by simp [nodeB]; omega
  have hr : rRef d (k : Int) false = 0 := by simp [rRef, hb]
  have HF : Hid (rSeen d k = (⟨(d.mem k).up, (d.mem k).follows, (d.mem k).given, (d.mem k).role, (d.mem k).log.length, rDone d k⟩, 0)) := by show rSeen d k = _; simp [rSeen, hb]
  obtain ⟨m0, m1, m2, m3, m4, m5, m6, m7, m8, m9, m10, m11, m12, m13, m14⟩ := h.member k hk
  have hlen := hok.log k hk
  clear h hok hb
  go_enter Try.func84, Try.ntmps84
  go_wp2_with (first | (go_at_call 72; refine (rref_any (H.out.alloc _) _ _).mono ?_; rintro e w1 ⟨rfl, hw1⟩; rw [hw1]; clear hw1))
  refine (rdone_any ((H.out.alloc _).alloc _) HO.out k hk).mono ?_
  rintro e w2 ⟨rfl, hBd⟩
  have hz : w2.heap[w.heap.size]? = some (.cells #[.bool false, .int .i64 0, .int .i64 0, .int .i64 0, .int .i64 0, .int .i64 0] 41) := (hBd.block _ (by simp; omega)).trans (heap_alloc2_old w _ _)
  have hC : Copy w2 (w.heap.size + 1) (d.mem k) := by
    have q := copy_alloc (w.alloc (.cells #[.bool false, .int .i64 0, .int .i64 0, .int .i64 0, .int .i64 0, .int .i64 0] 41)) (d.mem k)
    have q2 := q.same (w' := w2) (hBd.block _ (by simp))
    simpa using q2
  have HZ : Hid (w2.heap[w.heap.size]? = some (.cells #[.bool false, .int .i64 0, .int .i64 0, .int .i64 0, .int .i64 0, .int .i64 0] 41)) := hz
  have HC : Hid (Copy w2 (w.heap.size + 1) (d.mem k)) := hC
  have HB2 : Hid (Below w.heap.size w w2) := (((Below.refl _ _).alloc (Nat.le_refl _) _).alloc (by simp) _).trans (hBd.mono (by simp; omega))
  clear hC hz hBd m0 m1 m2 m3 m4 m5 m6 m7 m8 m9 m10 m11 m12 m13 m14
  go_wp2_with fail
  refine wp_genR (fun W => Below w.heap.size w W ∧ W.heap[w.heap.size]? = some (.cells #[.bool false, .int .i64 0, .int .i64 0, .int .i64 0, .int .i64 0, .int .i64 0] 41) ∧ Copy W (w.heap.size + 1) (d.mem k)) ⟨HB2.out, HZ.out, HC.out⟩ ?_
  rintro W ⟨hWB, hWZ, hWC⟩
  obtain ⟨f1, f2, f3, f4⟩ := hWC.cells
  have f0 : W.cell? ⟨w.heap.size + 1, 0, none⟩ = some (.bool (d.mem k).up) := by
    obtain ⟨cs, q1, q2, _⟩ := hWC
    exact (cell_of_row _ _ _ _ _ _ q1).trans q2
  have HWB : Hid (Below w.heap.size w W) := hWB
  have z : ∀ j, W.cell? ⟨w.heap.size, j, none⟩ = (#[.bool false, .int .i64 0, .int .i64 0, .int .i64 0, .int .i64 0, .int .i64 0] : Array Value)[j]? := fun j => cell_of_row _ _ _ _ _ _ hWZ
  have z0 := z 0; have z1 := z 1; have z2 := z 2; have z3 := z 3; have z4 := z 4; have z5 := z 5
  simp at z0 z1 z2 z3 z4 z5
  have y : ∀ j, W.frozen? ⟨w.heap.size, j, none⟩ = false := fun j => by simp [World.frozen?, hWZ]
  have y0 := y 0; have y1 := y 1; have y2 := y 2; have y3 := y 3; have y4 := y 4; have y5 := y 5
  clear z y hWB hWZ hWC HB2 HZ HC H HO
  generalize rDone d k = dn at *
  generalize (d.mem k).log = lg at *
  generalize (d.mem k).up = mu at *
  generalize (d.mem k).follows = mf at *
  generalize (d.mem k).given = mg at *
  generalize (d.mem k).role = mr at *
  generalize hNq : w.heap.size = N at *
  have HN : Hid (N = w.heap.size) := hNq.symm
  clear hNq
  have nN : ¬ N + 1 = N := by omega
  go_region_held3 (fun w' => w'.cell? ⟨N + 1, 0, none⟩ = some (.bool mu) ∧ w'.cell? ⟨N + 1, 1, none⟩ = some (.int .i64 mf) ∧ w'.cell? ⟨N + 1, 2, none⟩ = some (.int .i64 mg) ∧ w'.cell? ⟨N + 1, 3, none⟩ = some (.int .i64 mr) ∧ w'.cell? ⟨N + 1, 4, none⟩ = some (.string (encB lg)))
    (first
      | (simp only [World.cell?_drew, f0, f1, f2, f3, f4, and_self]; done)
      | (simp only [six _ _ _ _ _ _ _ _ _ _ nN, World.cell?_drew, f0, f1, f2, f3, f4, and_self]; done))
    (first
      | (go_at_call 74; refine (rcount_any _ hlen _).mono ?_; rintro e w1 ⟨rfl, hw1⟩; rw [hw1]; clear hw1))
  go_wp2
  have HB3 : Below N w ((((((W.setCell ⟨N, 0, none⟩ (.bool mu)).setCell ⟨N, 1, none⟩ (.int .i64 mf)).setCell ⟨N, 2, none⟩ (.int .i64 mg)).setCell ⟨N, 3, none⟩ (.int .i64 mr)).setCell ⟨N, 4, none⟩ (.int .i64 lg.length)).setCell ⟨N, 5, none⟩ (.int .i64 dn)).drew :=
    ((((((HWB.out.setCell (Nat.le_refl _) _).setCell (Nat.le_refl _) _).setCell (Nat.le_refl _) _).setCell (Nat.le_refl _) _).setCell (Nat.le_refl _) _).setCell (Nat.le_refl _) _).drew
  exact bodyPost_ret (v := .tuple #[.agg #[.bool mu, .int .i64 mf, .int .i64 mg, .int .i64 mr, .int .i64 lg.length, .int .i64 dn], .int .i64 0]) (by simp [results, Try.results84, go_sem, *]) rfl ⟨by rw [HF.out]; rfl, HB3.mono (Nat.le_of_eq HN.out.symm)⟩
end
end Go.Proofs.Ythpjcmilfipbaaa

namespace Go.Proofs.Ythpjcmilfipbaaa
set_option linter.unusedVariables false
set_option linter.unusedSimpArgs false
open Go.RowKit
theorem rDone_bd (d : Wd) (k : Nat) : rDone d k ≤ (d.mem k).log.length := by
  have : ∀ j, rDoneTo d k j ≤ (d.mem k).log.length := by
    intro j
    induction j with
    | zero => exact Int.le_refl _
    | succ j ih =>
      unfold rDoneTo
      split
      · rename_i h; omega
      · exact ih
  unfold rDone
  split
  · exact this 5
  · omega
section
variable {w : World} {S : Nat → Prop} {b : Nat} {d : Wd} {ev uv : Value}

set_option maxHeartbeats 1600000 in
theorem rfetch_nil (node off : Int) (w : World) :
    Calls Try.prog 62 #[.pointer none, .int .i64 node, .int .i64 off] w fun e w' =>
      e = .returned (.tuple #[.agg #[.int .i64 0, .int .i64 0, .int .i64 0], .int .i64 1]) ∧ Below w.heap.size w w' := by
  go_enter Try.func62, Try.ntmps62
  go_wp2_with (first | (go_at_call 72; refine (rref_nil _ _ _).mono ?_; rintro e w1 ⟨rfl, hw1⟩; rw [hw1]; clear hw1))
  exact bodyPost_ret (v := .tuple #[.agg #[.int .i64 0, .int .i64 0, .int .i64 0], .int .i64 1]) (by simp [results, Try.results62, go_sem]) rfl ⟨rfl, (Below.refl _ _).alloc (Nat.le_refl _) _⟩

set_option maxHeartbeats 3200000 in
set_option maxRecDepth 100000 in
theorem rfetch_any (h : RRep w S b d ev uv) (hok : ROk d) (node off : Int) :
    Calls Try.prog 62 #[.pointer (some ⟨b, 0, none⟩), .int .i64 node, .int .i64 off] w fun e w' =>
      e = .returned (.tuple #[.agg #[.int .i64 (rFetch d node off).1.p, .int .i64 (rFetch d node off).1.s, .int .i64 (rFetch d node off).1.v], .int .i64 (rFetch d node off).2]) ∧ Below w.heap.size w w' := by
  have H : Hid (RRep w S b d ev uv) := h
  have HO : Hid (ROk d) := hok
  have hbw := h.lt
  by_cases hr : rRef d node true = 0
  rotate_left
  · have HF : Hid (rFetch d node off = (⟨0, 0, 0⟩, rRef d node true)) := by show rFetch d node off = _; simp [rFetch, hr]
    have hb : (rRef d node true != 0) = true := by simp [hr]
    clear h hok hr
    go_enter Try.func62, Try.ntmps62
    go_wp2_with (first | (go_at_call 72; refine (rref_any (H.out.alloc _) _ _).mono ?_; rintro e w1 ⟨rfl, hw1⟩; rw [hw1]; clear hw1))
    exact bodyPost_ret (v := .tuple #[.agg #[.int .i64 0, .int .i64 0, .int .i64 0], .int .i64 (rRef d node true)]) (by simp [results, Try.results62, go_sem]) rfl ⟨by rw [HF.out], (Below.refl _ _).alloc (Nat.le_refl _) _⟩
  obtain ⟨k, rfl, hk, _⟩ := rRef_zero hr
  have hb : (rRef d (k : Int) true != 0) = false := by simp [hr]
  have hro := h.cRol k hk
  have hl := h.cLog k hk
  have hlen := hok.log k hk
  have hby := hok.byt k hk
  have HBy : Hid (∀ r ∈ (d.mem k).log, recOk r) := hby
  have HW : Hid (rRef d (k : Int) true = 0) := hr
  have hdb := rDone_bd d k
  clear h hok hr hby
  have HFs : Hid (rFetch d k off = if (d.mem k).role ≠ 3 then (⟨0, 0, 0⟩, 6) else if off < 0 then (⟨0, 0, 0⟩, 5) else if rDone d k ≤ off then (⟨0, 0, 0⟩, 9) else ((d.mem k).log.getD off.toNat ⟨0, 0, 0⟩, 0)) := by
    show rFetch d k off = _
    rw [rFetch]; simp [HW.out]
  go_enter Try.func62, Try.ntmps62
  go_wp2_with (first | (go_at_call 72; refine (rref_any (H.out.alloc _) _ _).mono ?_; rintro e w1 ⟨rfl, hw1⟩; rw [hw1]; clear hw1))
  refine (rdone_any (H.out.alloc _) HO.out k hk).mono ?_
  rintro e w2 ⟨rfl, hBd⟩
  have hRw : RRep w2 S b d ev uv := (H.out.alloc _).below hBd
  have hro2 := hRw.cRol k hk
  have hl2 := hRw.cLog k hk
  have hz : w2.heap[w.heap.size]? = some (.cells #[.int .i64 0, .int .i64 0, .int .i64 0] 36) := (hBd.block _ (by simp)).trans (heap_alloc_new w _)
  have z0 : w2.cell? ⟨w.heap.size, 0, none⟩ = some (.int .i64 0) := (cell_of_row _ _ _ _ _ _ hz).trans rfl
  have z1 : w2.cell? ⟨w.heap.size, 1, none⟩ = some (.int .i64 0) := (cell_of_row _ _ _ _ _ _ hz).trans rfl
  have z2 : w2.cell? ⟨w.heap.size, 2, none⟩ = some (.int .i64 0) := (cell_of_row _ _ _ _ _ _ hz).trans rfl
  have y0 : w2.frozen? ⟨w.heap.size, 0, none⟩ = false := by simp [World.frozen?, hz]
  have y1 : w2.frozen? ⟨w.heap.size, 1, none⟩ = false := by simp [World.frozen?, hz]
  have y2 : w2.frozen? ⟨w.heap.size, 2, none⟩ = false := by simp [World.frozen?, hz]
  have HB2 : Hid (Below w.heap.size w w2) := ((Below.refl _ _).alloc (Nat.le_refl _) _).trans (hBd.mono (by simp))
  clear hRw hz hBd hro hl
  by_cases h1 : (d.mem k).role = 3
  rotate_left
  · have HF : Hid (rFetch d k off = (⟨0, 0, 0⟩, 6)) := by show rFetch d k off = _; rw [HFs.out, if_pos h1]
    have hb1 : ((d.mem k).role != 3) = true := by simp [h1]
    clear h1
    go_wp2
    exact bodyPost_ret (v := .tuple #[.agg #[.int .i64 0, .int .i64 0, .int .i64 0], .int .i64 6]) (by simp [results, Try.results62, go_sem, *]) rfl ⟨by rw [HF.out], ((HB2.out.setCell (p := ⟨w.heap.size, 0, none⟩) (Nat.le_refl _) _).setCell (p := ⟨w.heap.size, 1, none⟩) (Nat.le_refl _) _).setCell (p := ⟨w.heap.size, 2, none⟩) (Nat.le_refl _) _⟩
  rw [h1] at hro2
  have HR1 : Hid ((d.mem k).role = 3) := h1
  clear h1
  by_cases h2 : off < 0
  · have HF : Hid (rFetch d k off = (⟨0, 0, 0⟩, 5)) := by show rFetch d k off = _; rw [HFs.out, if_neg (by simp [HR1.out]), if_pos h2]
    go_wp2
    exact bodyPost_ret (v := .tuple #[.agg #[.int .i64 0, .int .i64 0, .int .i64 0], .int .i64 5]) (by simp [results, Try.results62, go_sem, *]) rfl ⟨by rw [HF.out], ((HB2.out.setCell (p := ⟨w.heap.size, 0, none⟩) (Nat.le_refl _) _).setCell (p := ⟨w.heap.size, 1, none⟩) (Nat.le_refl _) _).setCell (p := ⟨w.heap.size, 2, none⟩) (Nat.le_refl _) _⟩
  by_cases h3 : rDone d k ≤ off
  · have HF : Hid (rFetch d k off = (⟨0, 0, 0⟩, 9)) := by show rFetch d k off = _; rw [HFs.out, if_neg (by simp [HR1.out]), if_neg h2, if_pos h3]
    go_wp2
    exact bodyPost_ret (v := .tuple #[.agg #[.int .i64 0, .int .i64 0, .int .i64 0], .int .i64 9]) (by simp [results, Try.results62, go_sem, *]) rfl ⟨by rw [HF.out], ((HB2.out.setCell (p := ⟨w.heap.size, 0, none⟩) (Nat.le_refl _) _).setCell (p := ⟨w.heap.size, 1, none⟩) (Nat.le_refl _) _).setCell (p := ⟨w.heap.size, 2, none⟩) (Nat.le_refl _) _⟩
  obtain ⟨a, rfl⟩ := Int.eq_ofNat_of_zero_le (Int.not_lt.1 h2)
  have ha : a < (d.mem k).log.length := by omega
  have hra : (d.mem k).log[a]? = some (d.mem k).log[a] := by simp [ha]
  have HF : Hid (rFetch d k a = ((d.mem k).log[a], 0)) := by
    show rFetch d k a = _
    rw [HFs.out, if_neg (by simp [HR1.out]), if_neg h2, if_neg h3]
    simp [ha]
  have hxo := HBy.out _ (List.getElem_mem ha)
  have hcut := fun w' => enc_cut (d.mem k).log a ha w'
  have e1 : ((d.mem k).log.drop a).take 1 = [(d.mem k).log[a]] := by rw [List.drop_eq_getElem_cons ha]; rfl
  rw [e1] at hcut
  have hidx := fun w' => enc_idx [(d.mem k).log[a]] 0 (d.mem k).log[a] rfl hxo w'
  generalize (d.mem k).log[a] = x at hra HF hxo hcut hidx e1
  obtain ⟨p0, p1, s0, s1, v0, v1⟩ := hxo
  have i0 : ∀ w', (Instr.index 9 (.string (encB [x])) (.int .i64 0)).run Try.prog w' = .ok (.int .u8 x.p) w' := fun w' => (hidx w').1
  have i1 : ∀ w', (Instr.index 9 (.string (encB [x])) (.int .i64 1)).run Try.prog w' = .ok (.int .u8 x.s) w' := fun w' => (hidx w').2.1
  have i2 : ∀ w', (Instr.index 9 (.string (encB [x])) (.int .i64 2)).run Try.prog w' = .ok (.int .u8 x.v) w' := fun w' => (hidx w').2.2
  have u1 : IntKind.i64.wrap x.p = x.p := wrap_small _ (by omega) (by omega)
  have u2 : IntKind.i64.wrap x.s = x.s := wrap_small _ (by omega) (by omega)
  have u3 : IntKind.i64.wrap x.v = x.v := wrap_small _ (by omega) (by omega)
  clear hidx hra e1 h2
  go_wp2_with fail
  go_region_law (fail)
  all_goals
    go_wp2
    exact bodyPost_ret (v := .tuple #[.agg #[.int .i64 x.p, .int .i64 x.s, .int .i64 x.v], .int .i64 0]) (by simp [results, Try.results62, go_sem, *]) rfl ⟨by rw [HF.out], (((HB2.out.drew).setCell (p := ⟨w.heap.size, 0, none⟩) (Nat.le_refl _) _).setCell (p := ⟨w.heap.size, 1, none⟩) (Nat.le_refl _) _).setCell (p := ⟨w.heap.size, 2, none⟩) (Nat.le_refl _) _⟩
end
end Go.Proofs.Ythpjcmilfipbaaa
