/- My own text: several texts in one. -/
import Derived.Deep.AppendLies
import Derived.Maps.AppendAt
import Derived.WalkKit
import Derived.Test.YthpjcmilfipbaaaP3
import Derived.Test.YthpjcmilfipbaaaP2
namespace Go.Proofs.Ythpjcmilfipbaaa
set_option linter.unusedVariables false
set_option linter.unusedSimpArgs false
open Go.RowKit
section
variable {P : Program} (w : World)
theorem run_append_copy (t ty : TypeId) (e : TypeId) (i : TypeInfo) (z : Value) (size bytes : Nat) (ht : P.underlying t = some (.slice e)) (hi : P.info? e = some i) (hz : i.zero = some z)
    (hsize : i.size = size) (hby : i.bytes = bytes) (hzs : z.cells.size = size) (hsz : 0 < size)
    (B : Nat) (hB : w.heap[B]? = some (.cells #[] e (0, 0))) (sv : Value) (m bs : Nat) (news : List Value) (hsrc : w.ownsRow bs e size sv m news) (h1 : ∀ u ∈ news, u.oneCell' = true)
    (h63 : m ≤ maxLen) (hbytes : m * bytes ≤ 140737488355328) :
    ∃ g cap w', (Builtin.append_ #[t, t] ty #[.slice (some ⟨B, 0, none⟩) 0 0, sv]).run P w = .ok (.slice (some ⟨g, 0, none⟩) m cap) w' ∧
      w'.ownsRow B e size (.slice (some ⟨g, 0, none⟩) m cap) m news ∧ w.grownBy w' (some B) ∧ B ≤ g := by
  have hBl : B < w.heap.size := (Array.getElem?_eq_some_iff.1 hB).1
  have hd : w.ownsRow B e size (.slice (some ⟨B, 0, none⟩) 0 0) 0 [] := ⟨by simp, .inr ⟨B, 0, #[], rfl, Nat.le_refl _, hB, Nat.le_refl _, by unfold maxLen; omega, by simp, by simp⟩⟩
  rcases hsrc.2 with ⟨rfl, rfl⟩ | ⟨g, cap, cur, rfl, hbg, hg, hnc, hcm, hcs, htake⟩
  · have hn : news = [] := List.eq_nil_of_length_eq_zero (by simpa using hsrc.1)
    subst hn
    refine ⟨B, 0, w, ?_, hd, ⟨rfl, rfl, rfl, Nat.le_refl _, fun _ _ _ => rfl⟩, Nat.le_refl _⟩
    subst hsize
    simp [Builtin.append_, run_underlying ht, sizeOf, typeInfo, hi, Builtin.lenOf, Builtin.firstCells, storeCells]
  · obtain ⟨v', w', hr, h2, h3, h4, h5⟩ := run_append_own_at (P := P) w B t ty e i z size bytes ht hi hz hsize hby hzs hsz (.slice (some ⟨B, 0, none⟩) 0 0) 0 [] hd ⟨g, 0, none⟩ m cap news hsrc.1 (hsrc.cells (g := g) rfl) h1 (by omega) (by rw [Nat.zero_add]; exact hbytes) (Nat.le_of_lt hBl)
    rw [Nat.zero_add, List.nil_append] at h2
    rcases h2.2 with ⟨rfl, h0⟩ | ⟨g', cap', cur', rfl, hb', _⟩
    · exact absurd (h4.1 rfl).1 (by simp)
    · exact ⟨g', cap', w', hr, h2, h3, hb'⟩
theorem wp_append_copy {o : Oper} {a : Act} {K : Act → World → Prop} {Q : Exit → Act → World → Prop} (s x : Operand) (t : TypeId)
    (ho : o.op = .call { callee := .builtin .append, args := #[s, x], argTypes := #[t, t] })
    (e : TypeId) (i : TypeInfo) (z : Value) (size bytes : Nat) (ht : P.underlying t = some (.slice e)) (hi : P.info? e = some i) (hz : i.zero = some z)
    (hsize : i.size = size) (hby : i.bytes = bytes) (hzs : z.cells.size = size) (hsz : 0 < size)
    (B : Nat) (hs : a.eval s = .slice (some ⟨B, 0, none⟩) 0 0) (hB : w.heap[B]? = some (.cells #[] e (0, 0))) (sv : Value) (m bs : Nat) (news : List Value) (hx : a.eval x = sv) (hsrc : w.ownsRow bs e size sv m news) (h1 : ∀ u ∈ news, u.oneCell' = true)
    (h63 : m ≤ maxLen) (hbytes : m * bytes ≤ 140737488355328)
    (h : ∀ g cap w', w'.ownsRow B e size (.slice (some ⟨g, 0, none⟩) m cap) m news → w.grownBy w' (some B) → B ≤ g → K (a.put o.dst (.slice (some ⟨g, 0, none⟩) m cap)) w') : o.wp P a w K Q := by
  obtain ⟨g, cap, w', hr, h2, h3, h4⟩ := run_append_copy (P := P) w t o.type e i z size bytes ht hi hz hsize hby hzs hsz B hB sv m bs news hsrc h1 h63 hbytes
  unfold Oper.wp execOp
  simp only [ho, resolve, invoke, builtin, Sem.run_bind, Sem.run_pure, Result.andThen_ok, List.map_toArray, List.map_cons, List.map_nil, hs, hx, hr]
  exact h g cap w' h2 h3 h4
theorem wpList_append_copy {ops : Array Oper} {rest : List Oper} {o : Oper} {a : Act} {Q : Exit → Act → World → Prop} (hgd : o.guard = none) (s x : Operand) (t : TypeId)
    (ho : o.op = .call { callee := .builtin .append, args := #[s, x], argTypes := #[t, t] })
    (e : TypeId) (i : TypeInfo) (z : Value) (size bytes : Nat) (ht : P.underlying t = some (.slice e)) (hi : P.info? e = some i) (hz : i.zero = some z)
    (hsize : i.size = size) (hby : i.bytes = bytes) (hzs : z.cells.size = size) (hsz : 0 < size)
    (B : Nat) (hs : a.eval s = .slice (some ⟨B, 0, none⟩) 0 0) (hB : w.heap[B]? = some (.cells #[] e (0, 0))) (sv : Value) (m bs : Nat) (news : List Value) (hx : a.eval x = sv) (hsrc : w.ownsRow bs e size sv m news) (h1 : ∀ u ∈ news, u.oneCell' = true)
    (h63 : m ≤ maxLen) (hbytes : m * bytes ≤ 140737488355328)
    (h : ∀ g cap w', w'.ownsRow B e size (.slice (some ⟨g, 0, none⟩) m cap) m news → w.grownBy w' (some B) → B ≤ g → wpList P ops Q rest (a.put o.dst (.slice (some ⟨g, 0, none⟩) m cap)) w') : wpList P ops Q (o :: rest) a w :=
  wpList_plain hgd fun _ hK => wp_append_copy w s x t ho e i z size bytes ht hi hz hsize hby hzs hsz B hs hB sv m bs news hx hsrc h1 h63 hbytes fun g cap w' h2 h3 h4 => hK _ _ (h g cap w' h2 h3 h4)
theorem step_append_copy {ops : Array Oper} {o : Oper} {a : Act} {K : Act → World → Prop} {Q : Exit → Act → World → Prop} {E : Prop} (hgd : o.guard = none) (s x : Operand) (t : TypeId)
    (ho : o.op = .call { callee := .builtin .append, args := #[s, x], argTypes := #[t, t] })
    (e : TypeId) (i : TypeInfo) (z : Value) (size bytes : Nat) (ht : P.underlying t = some (.slice e)) (hi : P.info? e = some i) (hz : i.zero = some z)
    (hsize : i.size = size) (hby : i.bytes = bytes) (hzs : z.cells.size = size) (hsz : 0 < size)
    (B : Nat) (hs : a.eval s = .slice (some ⟨B, 0, none⟩) 0 0) (hB : w.heap[B]? = some (.cells #[] e (0, 0))) (sv : Value) (m bs : Nat) (news : List Value) (hx : a.eval x = sv) (hsrc : w.ownsRow bs e size sv m news) (h1 : ∀ u ∈ news, u.oneCell' = true)
    (h63 : m ≤ maxLen) (hbytes : m * bytes ≤ 140737488355328)
    (h : ∀ g cap w', w'.ownsRow B e size (.slice (some ⟨g, 0, none⟩) m cap) m news → w.grownBy w' (some B) → B ≤ g → K (a.put o.dst (.slice (some ⟨g, 0, none⟩) m cap)) w') :
    if Region.wanted o (yielded ops a.tmps) = true then Oper.wp P o a w K Q else E := by
  have hw : Region.wanted o (yielded ops a.tmps) = true := by simp [Region.wanted, hgd]
  rw [if_pos hw]
  exact wp_append_copy w s x t ho e i z size bytes ht hi hz hsize hby hzs hsz B hs hB sv m bs news hx hsrc h1 h63 hbytes h
end
end Go.Proofs.Ythpjcmilfipbaaa

namespace Go.Proofs.Ythpjcmilfipbaaa
set_option linter.unusedVariables false
set_option linter.unusedSimpArgs false
open Go.RowKit
theorem recCells_one (l : List Rec) : ∀ u ∈ recCells l, u.oneCell' = true := by
  intro u hu
  simp only [recCells, List.mem_flatMap] at hu
  obtain ⟨r, _, hr⟩ := hu
  simp only [List.mem_cons, List.not_mem_nil, or_false] at hr
  rcases hr with rfl | rfl | rfl <;> rfl
theorem ownsRow_base {w : World} {base base' : Nat} {e : TypeId} {size : Nat} {v : Value} {n : Nat} {xs : List Value} (h : w.ownsRow base e size v n xs) (hb : base' ≤ base) : w.ownsRow base' e size v n xs :=
  ⟨h.1, orR h.2 fun ⟨g, cap, cur, e, h0, r⟩ => ⟨g, cap, cur, e, Nat.le_trans hb h0, r⟩⟩
section
variable {w : World} {S : Nat → Prop} {b : Nat} {c : Clu} {lv : Nat → Value} {ev uv : Value} {mv : List (Msg × Value)}
set_option maxHeartbeats 3200000 in
set_option maxRecDepth 100000 in
theorem sendLog_any (h : Rep w S b c lv ev uv mv) (hok : Ok c) (k : Nat) (hk : k < 5) (kind to : Int) :
    Calls Try.prog 106 #[.pointer (some ⟨b, 0, none⟩), .int .i64 kind, .int .i64 k, .int .i64 to] w fun e w' =>
      e = .returned (.tuple #[]) ∧ (∃ uv' mv', Rep w' (Ext S w) b (sendLog c kind k to) lv ev uv' mv') ∧ Fr S w w' := by
  have u4 := h.cLog k hk
  have u1 := h.cFol k hk
  have hown := hidP (h.logs k hk)
  have hlen := hok.log k hk
  obtain ⟨ao, cap, hlv, hcap, _, hpos⟩ := ownsRow_shape (h.logs k hk)
  rw [hlv] at u4 hown
  have hb := h.lt
  have H := hidP h
  have HL := hidP hlv
  have HO := hidP hok
  have hk0 : (0 : Int) ≤ (k : Int) := by omega
  have hk1 : (k : Int) < 5 := by omega
  have nb : ¬ b = w.heap.size := by omega
  clear h hlv hpos hcap hok
  obtain ⟨i0, hi0, hz0, hz1, hz2⟩ := info_parts infoRec
  have hone := recCells_one (c.nodes k).log
  go_enter Try.func106, Try.ntmps106
  go_wp2_with (first | (at_builtin; refine wpList_append_copy _ rfl _ _ 53 rfl 36 i0 _ 3 24 Try.underlying53 hi0 hz0 hz1 hz2 rfl (by omega) w.heap.size rfl (heap_alloc_new w _) (.slice ao (c.nodes k).log.length cap) (c.nodes k).log.length 0 (recCells (c.nodes k).log) rfl (hown.out.alloc _) hone (by unfold maxLen; omega) (by omega) ?_; intro g cap' w1 hown1 hgrow hle; have hc1 : w1.cell? ⟨b, k * 15 + 1, none⟩ = some (.int .i64 (c.nodes k).follows) := (by rw [hgrow.cell_far _ (by simp; omega) (by simpa using nb)]; simp [World.cell?_alloc_some, u1])))
  have hbel : Below w.heap.size w w1 := ((Below.refl _ _).alloc (Nat.le_refl _) _).grown hgrow (by simp) (by simp)
  refine (send_any ((H.out.below hbel).mono (S' := Ext S w) fun _ _ e => Or.inl e) HO.out (logMsg c kind k to) _ (ownsRow_base hown1 (Nat.zero_le _)) (fun g' hg' => ?_) (fun i g' hi hg' => ?_)).mono ?_
  · simp [Value.ownBlock] at hg'; subst hg'; exact Or.inr hle
  · simp [Value.ownBlock] at hg'; subst hg'
    intro e
    have := ownsRow_lt (H.out.logs i hi) e
    omega
  rintro e w' ⟨rfl, ⟨uv', mv', hR⟩, hFr⟩
  go_wp2
  exact bodyPost_end (results_none rfl _ _ _) rfl ⟨rfl, ⟨uv', mv', hR.mono fun i _ e => Ext.sub hbel.size i e⟩, (Fr.below hbel).trans hFr⟩
end
end Go.Proofs.Ythpjcmilfipbaaa

namespace Go.Proofs.Ythpjcmilfipbaaa
set_option linter.unusedVariables false
set_option linter.unusedSimpArgs false
open Go.RowKit
theorem handTo_ok {c : Clu} (h : Ok c) (k : Nat) : ∀ j, Ok (handTo c k j)
  | 0 => h
  | j + 1 => by
    have ih := handTo_ok h k j
    unfold handTo
    split
    · exact send_ok ih _
    · exact ih
section
variable {w : World} {S : Nat → Prop} {b : Nat} {c : Clu} {lv : Nat → Value} {ev uv : Value} {mv : List (Msg × Value)}
set_option maxHeartbeats 3200000 in
theorem lacks_any (h : Rep w S b c lv ev uv mv) (hok : Ok c) (k j : Nat) (hk : k < 5) (hj : j < 5) :
    Calls Try.prog 114 #[.pointer (some ⟨b, 0, none⟩), .int .i64 k, .int .i64 j] w fun e w' => e = .returned (.bool (lacks c k j)) ∧ Below w.heap.size w w' := by
  have u := h.cHas k j hk hj
  have hk0 : (0 : Int) ≤ (k : Int) := by omega
  have hk1 : (k : Int) < 5 := by omega
  have hj0 : (0 : Int) ≤ (j : Int) := by omega
  have hj1 : (j : Int) < 5 := by omega
  have HI := hidP (isOther_any h hok k j hk hj)
  clear h hok
  cases hh : (c.nodes k).has j
  · have HF := hidP (show lacks c k j = isOther c k j by unfold lacks; rw [hh]; rfl)
    rw [hh] at u
    go_enter Try.func114, Try.ntmps114
    go_wp2_with (first | (go_at_call 67; refine HI.out.mono ?_; rintro e w2 ⟨rfl, hB2⟩; have HB2 := hidP hB2; clear hB2))
    go_ret
    exact ⟨ret_bool HF.out.symm, HB2.out⟩
  · have HF := hidP (show lacks c k j = false by unfold lacks; rw [hh]; rfl)
    rw [hh] at u
    go_enter Try.func114, Try.ntmps114
    go_wp2_with (first | (go_at_call 67; refine HI.out.mono ?_; rintro e w2 ⟨rfl, hB2⟩; have HB2 := hidP hB2; clear hB2))
    go_ret
    exact ⟨ret_bool HF.out.symm, Below.refl _ _⟩
theorem allTo_false (c : Clu) (k j : Nat) (hj : j < 5) (h : lacks c k j = true) : allHave c k = false := by
  have key : ∀ i, j < i → allTo c k i = false := by
    intro i hi
    induction i with
    | zero => omega
    | succ i ih =>
      unfold allTo
      by_cases e : j = i
      · subst e; rw [h]; simp
      · rw [ih (by omega)]; rfl
  exact key 5 hj
set_option maxHeartbeats 3200000 in
theorem allHave_any (h : Rep w S b c lv ev uv mv) (hok : Ok c) (k : Nat) (hk : k < 5) :
    Calls Try.prog 108 #[.pointer (some ⟨b, 0, none⟩), .int .i64 k] w fun e w' => e = .returned (.bool (allHave c k)) ∧ Below w.heap.size w w' := by
  have H := hidP h
  have HO := hidP hok
  clear h hok
  go_enter Try.func108, Try.ntmps108
  go_wp2
  go_loopw [6] (fun i wr => ∃ j : Nat, j ≤ 5 ∧ i = .int .i64 j ∧ allTo c k j = true ∧ Below w.heap.size w wr) (fun i _ => 5 - (intOf i).toNat)
  case atStart => exact ⟨0, Nat.zero_le _, rfl, rfl, Below.refl _ _⟩
  case round =>
    obtain ⟨j, hj5, rfl, hall, hbel⟩ := hrel
    have HB := hidP hbel
    have HA := hidP hall
    clear hall hbel
    by_cases hj : j < 5
    · have HL := hidP (lacks_any (H.out.below HB.out) HO.out k j hk hj)
      cases hl : lacks c k j
      · have HS := hidP (show allTo c k (j + 1) = true by unfold allTo; rw [HA.out, hl]; rfl)
        go_wp2_with (first | (go_at_call 114; refine HL.out.mono ?_; rintro e w2 ⟨rfl, hB2⟩; have HB2 := hidP (HB.out.trans (hB2.mono HB.out.size)); clear hB2))
        go_roundw
        case rel => exact ⟨j + 1, by omega, by go_num, HS.out, HB2.out⟩
        case measure => simp [intOf]; omega
      · have HF := hidP (allTo_false c k j hj hl)
        go_wp2_with (first | (go_at_call 114; refine HL.out.mono ?_; rintro e w2 ⟨rfl, hB2⟩; have HB2 := hidP (HB.out.trans (hB2.mono HB.out.size)); clear hB2))
        go_ret
        exact ⟨ret_bool HF.out.symm, HB2.out⟩
    · have : j = 5 := by omega
      subst this
      go_wp2
      go_ret
      exact ⟨ret_bool HA.out.symm, HB.out⟩
set_option maxHeartbeats 1600000 in
theorem sendReady_any (h : Rep w S b c lv ev uv mv) (hok : Ok c) (k : Nat) (hk : k < 5) :
    Calls Try.prog 109 #[.pointer (some ⟨b, 0, none⟩), .int .i64 k] w fun e w' =>
      e = .returned (.tuple #[]) ∧ (∃ uv' mv', Rep w' (Ext S w) b (sendReady c k) lv ev uv' mv') ∧ Fr S w w' := by
  have u1 := h.cFol k hk
  have hb := h.lt
  have hk0 : (0 : Int) ≤ (k : Int) := by omega
  have hk1 : (k : Int) < 5 := by omega
  have HS := hidP (send_any h hok (readyMsg c k) (.slice none 0 0) ⟨rfl, Or.inl ⟨rfl, rfl⟩⟩ (fun g hg => by simp [Value.ownBlock] at hg) (fun k g _ hg => by simp [Value.ownBlock] at hg))
  clear h hok
  go_enter Try.func109, Try.ntmps109
  go_wp2_with fail
  refine HS.out.mono ?_
  rintro e w' ⟨rfl, hR, hFr⟩
  go_wp2
  exact bodyPost_end (results_none rfl _ _ _) rfl ⟨rfl, hR, hFr⟩
set_option maxHeartbeats 3200000 in
theorem handOn_any (h : Rep w S b c lv ev uv mv) (hok : Ok c) (k : Nat) (hk : k < 5) :
    Calls Try.prog 105 #[.pointer (some ⟨b, 0, none⟩), .int .i64 k] w fun e w' =>
      e = .returned (.tuple #[]) ∧ (∃ uv' mv', Rep w' (Ext S w) b (handOn c k) lv ev uv' mv') ∧ Fr S w w' := by
  have H := hidP h
  have HO := hidP hok
  have HA := hidP (allHave_any h hok k hk)
  clear h hok
  cases ha : allHave c k
  · have HF := hidP (show handOn c k = handTo c k 5 by unfold handOn; rw [ha]; rfl)
    rw [ha] at HA
    go_enter Try.func105, Try.ntmps105
    go_wp2_with (first | (go_at_call 108; refine HA.out.mono ?_; rintro e w1 ⟨rfl, hB1⟩; have HB1 := hidP hB1; clear hB1))
    go_loopw [11] (fun i wr => ∃ j : Nat, j ≤ 5 ∧ i = .int .i64 j ∧ (∃ uv' mv', Rep wr (Ext S w) b (handTo c k j) lv ev uv' mv') ∧ Fr S w wr) (fun i _ => 5 - (intOf i).toNat)
    case atStart => exact ⟨0, Nat.zero_le _, rfl, ⟨_, _, (H.out.below HB1.out).mono fun _ _ e => Or.inl e⟩, Fr.below HB1.out⟩
    case round =>
      obtain ⟨j, hj5, rfl, ⟨uv1, mv1, hR⟩, hFr⟩ := hrel
      have HR := hidP hR
      have HFr := hidP hFr
      have HO1 := hidP (handTo_ok HO.out k j)
      clear hR hFr
      by_cases hj : j < 5
      · have HL := hidP (lacks_any HR.out HO1.out k j hk hj)
        cases hl : lacks (handTo c k j) k j
        · have HS := hidP (show handTo c k (j + 1) = handTo c k j by rw [handTo, hl]; rfl)
          go_wp2_with (first | (go_at_call 114; refine HL.out.mono ?_; rintro e w2 ⟨rfl, hB2⟩; have HR' := hidP (HR.out.below hB2); have HFr' := hidP (HFr.out.then (Fr.below hB2)); clear hB2))
          go_roundw
          case rel => exact ⟨j + 1, by omega, by go_num, ⟨uv1, mv1, by rw [HS.out]; exact HR'.out⟩, HFr'.out⟩
          case measure => simp [intOf]; omega
        · have HS := hidP (show handTo c k (j + 1) = sendLog (handTo c k j) 4 k j by rw [handTo, hl]; rfl)
          go_wp2_with (first | (go_at_call 114; refine HL.out.mono ?_; rintro e w2 ⟨rfl, hB2⟩; have HR' := hidP (HR.out.below hB2); have HFr' := hidP (HFr.out.then (Fr.below hB2)); clear hB2))
          refine (sendLog_any HR'.out HO1.out k hk 4 j).mono ?_
          rintro e w3 ⟨rfl, ⟨uv3, mv3, hR3⟩, hFr3⟩
          have HR3 := hidP hR3
          have HFr3 := hidP hFr3
          clear hR3 hFr3
          go_wp2
          go_roundw
          case rel => exact ⟨j + 1, by omega, by go_num, ⟨uv3, mv3, by rw [HS.out]; exact HR3.out.mono fun i _ e => Ext.sub HFr'.out.size i e⟩, HFr'.out.trans HFr3.out⟩
          case measure => simp [intOf]; omega
      · have : j = 5 := by omega
        subst this
        go_wp2
        exact bodyPost_end (results_none rfl _ _ _) rfl ⟨rfl, ⟨_, _, by rw [HF.out]; exact HR.out⟩, HFr.out⟩
  · have HF := hidP (show handOn c k = sendReady c k by unfold handOn; rw [ha]; rfl)
    rw [ha] at HA
    go_enter Try.func105, Try.ntmps105
    go_wp2_with (first | (go_at_call 108; refine HA.out.mono ?_; rintro e w1 ⟨rfl, hB1⟩; have HB1 := hidP hB1; clear hB1))
    refine (sendReady_any (H.out.below HB1.out) HO.out k hk).mono ?_
    rintro e w3 ⟨rfl, ⟨uv3, mv3, hR3⟩, hFr3⟩
    go_wp2
    exact bodyPost_ret (results_none rfl _ _ _) rfl ⟨rfl, ⟨_, _, by rw [HF.out]; exact hR3.mono fun i _ e => orR e fun e => Nat.le_trans HB1.out.size e⟩, (Fr.below HB1.out).then hFr3⟩
end
end Go.Proofs.Ythpjcmilfipbaaa

namespace Go.Proofs.Ythpjcmilfipbaaa
set_option linter.unusedVariables false
set_option linter.unusedSimpArgs false
open Go.RowKit
/-- The cluster's blocks, and none of the caller's own, which lie from N up to M. -/
def Gap (S : Nat → Prop) (N M : Nat) : Nat → Prop := fun q => (S q ∧ q < N) ∨ M ≤ q
theorem Gap.ext {S : Nat → Prop} {w : World} {M : Nat} (hM : w.heap.size ≤ M) (q : Nat) (h : Gap S w.heap.size M q) : Ext S w q := by
  rcases h with h | h
  · exact Or.inl h.1
  · exact Or.inr (by omega)
theorem Gap.not {S : Nat → Prop} {N M q : Nat} (h1 : N ≤ q) (h2 : q < M) : ¬ Gap S N M q := fun h => by
  rcases h with h | h <;> omega
theorem readsTo_ok {c : Clu} (h : Ok c) (k : Nat) (e q : Int) : ∀ j, Ok (readsTo c k e q j)
  | 0 => h
  | j + 1 => by
    have ih := readsTo_ok h k e q j
    unfold readsTo
    split
    · exact send_ok ih _
    · exact ih
section
variable {w : World} {S : Nat → Prop} {b : Nat} {c : Clu} {lv : Nat → Value} {ev uv : Value} {mv : List (Msg × Value)}
/-- The caller's own blocks lie between. -/
theorem Rep.gap {W : World} (h : Rep w S b c lv ev uv mv) (hB : Below w.heap.size w W) (M : Nat) : Rep W (Gap S w.heap.size M) b c lv ev uv mv :=
  (h.mono (S' := Gap S w.heap.size M) fun q hq e => Or.inl ⟨e, hq⟩).below hB
set_option maxHeartbeats 3200000 in
set_option maxRecDepth 100000 in
theorem sendReads_any (h : Rep w S b c lv ev uv mv) (hok : Ok c) (k : Nat) (hk : k < 5) :
    Calls Try.prog 104 #[.pointer (some ⟨b, 0, none⟩), .int .i64 k] w fun e w' =>
      e = .returned (.tuple #[]) ∧ (∃ uv' mv', Rep w' (Ext S w) b (sendReads c k) lv ev uv' mv') ∧ Fr S w w' := by
  have u1 := h.cFol k hk
  have hb := h.lt
  have hk0 : (0 : Int) ≤ (k : Int) := by omega
  have hk1 : (k : Int) < 5 := by omega
  have HE := hidP (fun (W : World) (hW : Below w.heap.size w W) (e : Int) => epoch_any (h.below hW) hok e)
  unfold eraVal at HE
  have H := hidP h
  have HO := hidP hok
  obtain ⟨hq0, hq1⟩ := epochOf_mem hok (epochOf c (c.nodes k).follows).before
  clear h hok
  go_enter Try.func104, Try.ntmps104
  go_wp2_with fail
  refine (HE.out w (Below.refl _ _) (c.nodes k).follows).mono ?_
  rintro e w1 ⟨rfl, hB1⟩
  have HB1 := hidP hB1
  clear hB1
  go_wp2_with fail
  have hB2 := HB1.out.alloc HB1.out.size (.cells #[.int .i64 (epochOf c (c.nodes k).follows).members, .int .i64 (epochOf c (c.nodes k).follows).leader, .int .i64 (epochOf c (c.nodes k).follows).before] 106)
  refine (HE.out _ hB2 (epochOf c (c.nodes k).follows).before).mono ?_
  rintro e w2 ⟨rfl, hB3⟩
  have HB2 := hidP (hB2.trans (hB3.mono hB2.size))
  clear hB2 hB3
  have HFin := hidP (show sendReads c k = readsTo c k (c.nodes k).follows (epochOf c (epochOf c (c.nodes k).follows).before).members 5 from rfl)
  generalize hq : epochOf c (epochOf c (c.nodes k).follows).before = x at HFin hq0 hq1
  clear hq
  go_wp2_with fail
  have H0 := hidP (show (w2.alloc (.cells #[.int .i64 x.members, .int .i64 x.leader, .int .i64 x.before] 106)).heap[w2.heap.size]? = _ from heap_alloc_new w2 _)
  have hB4 := HB2.out.alloc HB2.out.size (.cells #[.int .i64 x.members, .int .i64 x.leader, .int .i64 x.before] 106)
  have HN := hidP HB2.out.size
  go_loopw [22] (fun i wr => ∃ j : Nat, j ≤ 5 ∧ i = .int .i64 j ∧ wr.cell? ⟨w2.heap.size, 0, none⟩ = some (.int .i64 x.members) ∧ (∃ uv' mv', Rep wr (Gap S w.heap.size (w2.heap.size + 1)) b (readsTo c k (c.nodes k).follows x.members j) lv ev uv' mv') ∧ Fr S w wr ∧ w2.heap.size < wr.heap.size) (fun i _ => 5 - (intOf i).toNat)
  case atStart => exact ⟨0, Nat.zero_le _, rfl, (cell_of_row _ _ _ _ _ _ H0.out).trans rfl, ⟨_, _, H.out.gap hB4 _⟩, Fr.below hB4, by simp⟩
  case round =>
    obtain ⟨j, hj5, rfl, hcell, ⟨uv1, mv1, hR⟩, hFr, hlt⟩ := hrel
    have HR := hidP hR
    have HFr := hidP hFr
    have HO1 := hidP (readsTo_ok HO.out k (c.nodes k).follows x.members j)
    clear hR hFr
    by_cases hj : j < 5
    · cases hl : amongB x.members j
      · have HS := hidP (show readsTo c k (c.nodes k).follows x.members (j + 1) = readsTo c k (c.nodes k).follows x.members j by rw [readsTo, hl]; rfl)
        go_wp2_with (first | (go_at_call 58; refine (isAmong_any _ hq0 hq1 _ _).mono ?_; rintro e w' ⟨rfl, hw1⟩; rw [hw1]; clear hw1))
        go_roundw
        case rel => exact ⟨j + 1, by omega, by go_num, hcell, ⟨uv1, mv1, by rw [HS.out]; exact HR.out⟩, HFr.out, hlt⟩
        case measure => simp [intOf]; omega
      · have HS := hidP (show readsTo c k (c.nodes k).follows x.members (j + 1) = send (readsTo c k (c.nodes k).follows x.members j) (readMsg k j (c.nodes k).follows) by rw [readsTo, hl]; rfl)
        go_wp2_with (first | (go_at_call 58; refine (isAmong_any _ hq0 hq1 _ _).mono ?_; rintro e w' ⟨rfl, hw1⟩; rw [hw1]; clear hw1))
        refine (send_any HR.out HO1.out (readMsg k j (c.nodes k).follows) (.slice none 0 0) ⟨rfl, Or.inl ⟨rfl, rfl⟩⟩ (fun g hg => by simp [Value.ownBlock] at hg) (fun k g _ hg => by simp [Value.ownBlock] at hg)).mono ?_
        rintro e w3 ⟨rfl, ⟨uv3, mv3, hR3⟩, hFr3⟩
        have hblk : w3.heap[w2.heap.size]? = wr.heap[w2.heap.size]? := hFr3.block _ hlt (Gap.not HN.out (by omega))
        have HC3 := hidP ((World.cell?_of_block (a := ⟨w2.heap.size, 0, none⟩) hblk).trans hcell)
        have HL3 := hidP (Nat.lt_of_lt_of_le hlt hFr3.size)
        have HR3 := hidP (hR3.mono (S' := Gap S w.heap.size (w2.heap.size + 1)) fun q _ e => e.elim id fun e => Or.inr (by omega))
        have HFr3 := hidP (HFr.out.trans (hFr3.mono fun q e => Gap.ext (by have := HN.out; omega) q e))
        clear hR3 hFr3 hblk
        go_wp2
        go_roundw
        case rel => exact ⟨j + 1, by omega, by go_num, HC3.out, ⟨uv3, mv3, by rw [HS.out]; exact HR3.out⟩, HFr3.out, HL3.out⟩
        case measure => simp [intOf]; omega
    · have : j = 5 := by omega
      subst this
      go_wp2
      exact bodyPost_end (results_none rfl _ _ _) rfl ⟨rfl, ⟨_, _, by rw [HFin.out]; exact HR.out.mono fun q _ e => Gap.ext (by have := HN.out; omega) q e⟩, HFr.out⟩
end
end Go.Proofs.Ythpjcmilfipbaaa

namespace Go.Proofs.Ythpjcmilfipbaaa
set_option linter.unusedVariables false
set_option linter.unusedSimpArgs false
open Go.RowKit
def msgVal (m : Msg) (rv : Value) : Value := .agg #[.int .i64 m.kind, .int .i64 m.frm, .int .i64 m.to, .int .i64 m.epoch, .int .i64 m.n, rv]
theorem giveLog_eq (c : Clu) (k : Nat) (l : List Rec) (e : Int) : ({ putLog c k l with nodes := upd (putLog c k l).nodes k { (putLog c k l).nodes k with given := e } } : Clu) = giveLog c k l e := by
  show Clu.mk (upd (upd c.nodes k _) k _) _ _ _ = Clu.mk (upd c.nodes k _) _ _ _
  congr 1
  funext i
  unfold upd
  by_cases h : i = k
  · simp [h, putLog, upd]
  · simp [h]
section
variable {w : World} {S : Nat → Prop} {b : Nat} {c : Clu} {lv : Nat → Value} {ev uv : Value} {mv : List (Msg × Value)}
set_option maxHeartbeats 3200000 in
set_option maxRecDepth 100000 in
theorem takeLog_any (h : Rep w S b c lv ev uv mv) (hok : Ok c) (k : Nat) (hk : k < 5) (m : Msg) (hto : m.to = k) (ro : Option Addr) (rc : Nat) (hrv : w.ownsRow 0 36 3 (.slice ro m.recs.length rc) m.recs.length (recCells m.recs)) (hl : m.recs.length ≤ 60) :
    Calls Try.prog 107 #[.pointer (some ⟨b, 0, none⟩), msgVal m (.slice ro m.recs.length rc)] w fun e w' =>
      e = .returned (.tuple #[]) ∧ (∃ lv', Rep w' (Ext S w) b (giveLog c k m.recs m.epoch) lv' ev uv mv) ∧ Fr S w w' := by
  unfold msgVal
  rw [hto]
  have u4 := h.cLog k hk
  have hown := hidP hrv
  obtain ⟨ao, cap, hlv, hcap, _, hpos⟩ := ownsRow_shape (h.logs k hk)
  rw [hlv] at u4
  have hb := h.lt
  have H := hidP h
  have HL := hidP hlv
  have HO := hidP hok
  have hk0 : (0 : Int) ≤ (k : Int) := by omega
  have hk1 : (k : Int) < 5 := by omega
  have nb : ¬ b = w.heap.size := by omega
  clear h hlv hpos hcap hok hrv
  obtain ⟨i0, hi0, hz0, hz1, hz2⟩ := info_parts infoRec
  have hone := recCells_one m.recs
  go_enter Try.func107, Try.ntmps107
  go_wp2_with fail
  refine wp_genP (fun W => Below w.heap.size w W ∧ W.heap.size = w.heap.size + 1 ∧ W.heap[w.heap.size]? = some (.cells #[.int .i64 m.kind, .int .i64 m.frm, .int .i64 k, .int .i64 m.epoch, .int .i64 m.n, .slice ro m.recs.length rc] 101)) ⟨(Below.refl _ _).alloc (Nat.le_refl _) _, by simp, heap_alloc_new w _⟩ ?_
  rintro W ⟨hW1, hW2, hW3⟩
  have m2 : W.cell? ⟨w.heap.size, 2, none⟩ = some (.int .i64 k) := (cell_of_row _ _ _ _ _ _ hW3).trans rfl
  have m3 : W.cell? ⟨w.heap.size, 3, none⟩ = some (.int .i64 m.epoch) := (cell_of_row _ _ _ _ _ _ hW3).trans rfl
  have m5 : W.cell? ⟨w.heap.size, 5, none⟩ = some (.slice ro m.recs.length rc) := (cell_of_row _ _ _ _ _ _ hW3).trans rfl
  have hRW := H.out.below hW1
  have v4 := hRW.cLog k hk
  rw [HL.out] at v4
  have f4 := hRW.free (k * 15 + 4)
  have hbW := hRW.lt
  have hownW := hidP (ownsRow_same (w' := W) hown.out fun g _ hl => hW1.block g hl)
  have HW1 := hidP hW1
  have HW2 := hidP hW2
  have HW3 := hidP hW3
  have hmW : w.heap.size < W.heap.size := by omega
  have nm : ¬ w.heap.size = W.heap.size := by omega
  have nbW : ¬ b = W.heap.size := by omega
  clear hW1 hW2 hW3 hRW hown u4
  go_region_law ((refine step_append_copy _ (by rfl) _ _ _ (by rfl) 36 i0 _ 3 24 Try.underlying53 hi0 hz0 hz1 hz2 rfl (by omega) W.heap.size (by rfl) (heap_alloc_new _ _) (.slice ro m.recs.length rc) m.recs.length 0 (recCells m.recs) (by rfl) ((hownW.out.drew).alloc _) hone (by unfold maxLen; omega) (by omega) ?_; intro g cap' w1 hown1 hgrow hle; have hc4 : w1.cell? ⟨b, k * 15 + 4, none⟩ = some (.slice ao (c.nodes k).log.length cap) := (by rw [hgrow.cell_far _ (by simp; omega) (by simpa using nbW)]; simp [World.cell?_alloc_some, v4]); have hf4 : w1.frozen? ⟨b, k * 15 + 4, none⟩ = false := (by rw [hgrow.frozen_far _ (by simp; omega) (by simpa using nbW)]; simp [frozen?_alloc_cells, f4]); have hm2 : w1.cell? ⟨w.heap.size, 2, none⟩ = some (.int .i64 k) := (by rw [hgrow.cell_far _ (by simp; omega) (by simpa using nm)]; simp [World.cell?_alloc_some, m2])))
  all_goals
    have hbel : Below w.heap.size w w1 := HW1.out.trans (((Below.refl w.heap.size W).drew.alloc (by simp; omega) _).grown hgrow (by simp; omega) (fun _ e => by simp at e; omega))
    have R := H.out.logged (W := w) (Fr.refl _ _) k hk m.recs (.slice (some ⟨g, 0, none⟩) m.recs.length cap') m.recs.length g rfl rfl (ownsRow_base hown1 (Nat.zero_le _)) ⟨hbel.os, hbel.tape, hbel.output, hbel.size, fun q hq _ => hbel.block q hq⟩ (Or.inr (by omega))
    have hbk : (w1.setCell ⟨b, k * 15 + 4, none⟩ (.slice (some ⟨g, 0, none⟩) m.recs.length cap')).heap[w.heap.size]? = W.heap[w.heap.size]? := by
      rw [Below.heap_setCell _ _ _ _ (by show w.heap.size ≠ b; omega), hgrow.block _ (by simp; omega) (by simp; omega)]
      exact Below.heap_alloc _ _ _ hmW
    have q2 := (World.cell?_of_block (a := ⟨w.heap.size, 2, none⟩) hbk).trans m2
    have q3 := (World.cell?_of_block (a := ⟨w.heap.size, 3, none⟩) hbk).trans m3
    have R1 := R.1
    have HR2 := hidP R.2
    clear R hbk hbel hown1 hgrow hle hc4 hf4 hm2 m2 m3 m5 v4 f4
    generalize w1.setCell _ _ = W2 at R1 HR2 q2 q3 ⊢
    generalize upd lv k _ = lv1 at R1
    have g2 := R1.cGiv k hk
    have z2 := R1.free (k * 15 + 2)
    have HS := hidP (R1.drew.setGiv k hk m.epoch)
    clear R1
    go_wp2_with fail
    go_region
    exact bodyPost_end (results_none rfl _ _ _) rfl ⟨rfl, ⟨_, by rw [← giveLog_eq]; exact HS.out.1⟩, HR2.out.trans ((Fr.drew _ _).then HS.out.2)⟩
end
end Go.Proofs.Ythpjcmilfipbaaa
