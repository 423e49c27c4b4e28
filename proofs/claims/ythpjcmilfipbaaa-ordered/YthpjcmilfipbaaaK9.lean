/- My own text: several texts in one. -/
import Derived.Test.YthpjcmilfipbaaaK7
namespace Go.Proofs.Ythpjcmilfipbaaa
set_option linter.unusedVariables false
set_option linter.unusedSimpArgs false
open Go.RowKit
def tellsL (d : Wd) (k : Nat) : List Rec := if rRef d k true = 0 ∧ (d.mem k).role = 3 then (d.mem k).log.take (rDone d k).toNat else []
theorem rDoneTo_le (d : Wd) (k : Nat) : ∀ n, rDoneTo d k n ≤ (d.mem k).log.length
  | 0 => Int.le_refl _
  | n + 1 => by
    have := rDoneTo_le d k n
    unfold rDoneTo
    split <;> omega
theorem tellsL_prefix (d : Wd) (k : Nat) : tellsL d k <+: (d.mem k).log := by
  unfold tellsL; split
  · exact List.take_prefix _ _
  · exact List.nil_prefix
theorem tellsL_len {d : Wd} (hok : ROk d) {k : Nat} (hk : k < 5) : (tellsL d k).length ≤ 60 := Nat.le_trans (prefix_len (tellsL_prefix d k)) (hok.log k hk)
theorem fetch_in {d : Wd} {k n : Nat} {r : Rec} (h : (tellsL d k)[n]? = some r) : rFetch d k n = (r, 0) ∧ (d.mem k).role = 3 ∧ (n : Int) < rDone d k ∧ (d.mem k).log[n]? = some r := by
  unfold tellsL at h
  split at h
  · rename_i c
    have hn := (List.getElem?_eq_some_iff.1 h).1
    rw [List.length_take] at hn
    have hr : (d.mem k).log[n]? = some r := by rw [List.getElem?_take_of_lt (by omega)] at h; exact h
    have hk : ((k : Int)).toNat = k := by simp
    refine ⟨?_, c.2, by omega, hr⟩
    unfold rFetch
    rw [if_neg (by omega), hk, if_neg (by omega), if_neg (by omega), if_neg (by omega)]
    simp only [Int.toNat_natCast]
    rw [List.getD_eq_getElem?_getD, hr]; rfl
  · simp at h
theorem fetch_out {d : Wd} {k n : Nat} (hk5 : k < 5) (h : (tellsL d k).length ≤ n) : ((rFetch d k n).2 == 0) = false := by
  have hk : ((k : Int)).toNat = k := by simp
  unfold rFetch
  split
  · rename_i c; simpa using c
  rename_i c1
  split
  · rfl
  rename_i c2
  split
  · rfl
  split
  · rfl
  rename_i c4
  exfalso
  rw [hk] at c2 c4
  unfold tellsL at h
  rw [if_pos ⟨by omega, by omega⟩, List.length_take] at h
  have := rDoneTo_le d k 5
  have h3 : (d.mem k).role = 3 := by omega
  unfold rDone at h c4
  rw [if_pos h3] at h c4
  omega
theorem tellsL_turn {d : Wd} {g : Gh} (h : Inv d g) {k : Nat} (hk : k < 5) : Turn (tellsL d k) := by
  by_cases c : (d.mem k).role = 3
  · have hn := h.nd k hk
    have h1 := (hn.n3 (by omega)).2
    have hge := hn.n5 (Or.inr c)
    obtain ⟨s1, _, s3, _⟩ := hn.n2 (by omega)
    exact prefix_turn ((tellsL_prefix d k).trans s3) (h.gh.a8 _ s1)
  · unfold tellsL
    rw [if_neg (fun x => c x.2)]
    intro n r hr
    simp at hr
theorem tellsL_same {d : Wd} {g : Gh} (h : Inv d g) {k j : Nat} (hk : k < 5) (hj : j < 5) {n : Nat} {r x : Rec} (hr : (tellsL d k)[n]? = some r) (hx : (tellsL d j)[n]? = some x) : r = x := by
  obtain ⟨_, a1, a2, a3⟩ := fetch_in hr
  obtain ⟨_, b1, b2, b3⟩ := fetch_in hx
  exact told_same h.gh (h.told hk a1 a2 a3) (h.told hj b1 b2 b3)
section
variable {R : World → (Nat → Prop) → Nat → Wd → Prop} {fn : Cl → Nat} {fm fw : Nat} {w w1 : World} {own : Nat → Prop} {cb : Nat} {d : Wd}
/-- The caller turns its own blocks and makes new ones. -/
theorem One.turn (s : Side R fn fm fw) (h : One R w own cb d) (hb : Fr own w w1) (own' : Nat → Prop) (ho : ∀ k, own' k → own k ∨ (w.heap.size ≤ k ∧ k < w1.heap.size)) : One R w1 own' cb d := by
  obtain ⟨S, h1, h2⟩ := h.rep
  refine ⟨⟨fun k => S k ∧ k < w.heap.size, s.same (s.mono h1 fun k hk e => ⟨e, hk⟩) fun k hs hk => hb.block k hk fun e => h2 k e hs.1, fun k hk e => ?_⟩, h.ok, fun k hk => ?_⟩
  · rcases ho k hk with q | q
    · exact h2 k q e.1
    · omega
  · rcases ho k hk with q | q
    · exact Nat.lt_of_lt_of_le (h.lt k q) hb.size
    · exact q.2
theorem infoRec : (Try.prog.info? 36).map (fun i => (i.zero, i.size, i.bytes)) = some (some (.agg #[.int .i64 0, .int .i64 0, .int .i64 0]), 3, 24) := by kernel_rfl
/-- The caller's blocks, the row's among them. -/
def OwnV (own : Nat → Prop) (v : Value) : Nat → Prop := fun k => own k ∨ v.ownBlock = some k
set_option maxHeartbeats 3200000 in
set_option maxRecDepth 100000 in
theorem kread_any (s : Side R fnPrg 41 36) (h : One R w own cb d) (k : Nat) (hk : k < 5) :
    Calls Try.prog 26 #[.pointer (some ⟨cb, 0, none⟩), .int .i64 k] w fun e w' => ∃ v, e = .returned v ∧ w'.ownsRow w.heap.size 36 3 v (tellsL d k).length (recCells (tellsL d k)) ∧
      One R w' (OwnV own v) cb d ∧ Fr (fun k => ¬ own k) w w' := by
  have HS := hidK s
  have H := hidK h
  have hlen := tellsL_len h.ok hk
  have hki0 : (0 : Int) ≤ (k : Int) := by omega
  clear s h
  go_enter Try.func26, Try.ntmps26
  go_wp2_with fail
  obtain ⟨i0, hi0, hz0, hz1, hz2⟩ := info_parts infoRec
  go_loopw [5, 6] (fun t5 t6 wr => ∃ j : Nat, j ≤ (tellsL d k).length ∧ t6 = .int .i64 j ∧ wr.ownsRow w.heap.size 36 3 t5 j (recCells ((tellsL d k).take j)) ∧ One R wr (OwnV own t5) cb d ∧ Fr (fun k => ¬ own k) w wr) (fun _ t6 _ => 60 - (intOf t6).toNat)
  case atStart => exact ⟨0, Nat.zero_le _, rfl, ⟨rfl, Or.inl ⟨rfl, rfl⟩⟩, H.out.sub fun k hk => by rcases hk with hk | hk; exact hk; simp [Value.ownBlock] at hk, Fr.refl _ _⟩
  case round =>
    obtain ⟨j, hj, rfl, hv, hO, hF⟩ := hrel
    obtain ⟨ao, cap, rfl, _⟩ := ownsRow_shape hv
    have HV := hidK hv
    have HO := hidK hO
    have HF := hidK hF
    have hsz := hF.size
    clear hv hO hF
    by_cases hjn : j < (tellsL d k).length
    · obtain ⟨r, hr⟩ : ∃ r, (tellsL d k)[j]? = some r := ⟨_, List.getElem?_eq_getElem hjn⟩
      have HT := hidK (show (tellsL d k).take (j + 1) = (tellsL d k).take j ++ [r] by rw [List.take_add_one, hr]; rfl)
      have HC := hidK (HO.out.call HS.out (.fetch k j) ⟨⟨by omega, by omega⟩, ⟨by omega, by omega⟩⟩)
      have e1 : (Cl.fetch k j).ans d = .tuple #[.agg #[.int .i64 r.p, .int .i64 r.s, .int .i64 r.v], .int .i64 0] := by
        show Value.tuple #[recVal (rFetch d k j).1, .int .i64 (rFetch d k j).2] = _
        rw [(fetch_in hr).1]; rfl
      rw [e1] at HC
      clear e1 hr
      have hj60 : (j : Int) < 60 := by omega
      have hone : ∀ u ∈ ([.int .i64 r.p, .int .i64 r.s, .int .i64 r.v] : List Value), u.oneCell' = true := by
        intro u hu
        simp only [List.mem_cons, List.not_mem_nil, or_false] at hu
        rcases hu with rfl | rfl | rfl <;> rfl
      go_wp2_with (first | (go_at_call 19; refine HC.out.mono ?_; rintro e w2 ⟨rfl, h2, hF2⟩; have H2 : Hid (One R w2 (OwnV own (.slice ao j cap)) cb d) := h2; have HF2 := hidK hF2; have HV2 := hidK (ownsRow_same (w' := w2) HV.out fun g hg hl => hF2.block g hl fun e => e (Or.inr hg)); have hs2 := hF2.size; clear h2 hF2) | (at_builtin; refine wpList_append_lies _ rfl _ _ 53 rfl w.heap.size 36 i0 _ 3 24 Try.underlying53 hi0 hz0 hz1 hz2 rfl (by omega) (.slice ao j cap) j (recCells ((tellsL d k).take j)) rfl (World.ownsRow.alloc (World.ownsRow.alloc HV2.out _) _) ⟨w2.heap.size + 1, 0, none⟩ 1 1 [.int .i64 r.p, .int .i64 r.s, .int .i64 r.v] rfl rfl (World.news_of_block (cs := #[.int .i64 r.p, .int .i64 r.s, .int .i64 r.v]) (t := 36) (fr := (0, 0)) (heap_alloc2_new w2 _ _)) hone (by omega) (by unfold maxLen; omega) (by omega) (by simp; omega) (w2.heap.size + 2) (by simp) ?_; intro gg cap' w3 hown hgrow hat hlt))
      go_roundw
      case rel =>
        have hf4 : Fr (fun q => (Value.slice ao j cap).ownBlock = some q) w2 w3 := ((Fr.alloc _ _ _).then (Fr.alloc _ _ _)).then (Fr.grown hgrow fun k hk => hk)
        have hf3 : Fr (OwnV own (.slice ao j cap)) w2 w3 := hf4.mono fun q hq => Or.inr hq
        refine ⟨j + 1, by omega, by go_num, by rw [HT.out, recCells_append]; exact hown, H2.out.turn HS.out hf3 _ fun q hq => ?_, HF.out.trans ?_⟩
        · rcases hq with hq | hq
          · exact Or.inl (Or.inl hq)
          · simp only [Value.ownBlock, Option.some.injEq] at hq
            subst hq
            rcases hat with e | e
            · exact Or.inl (Or.inr e)
            · exact Or.inr ⟨by omega, hlt⟩
        · have f2 : Fr (Ext (fun k => ¬ own k) w) wr w2 := HF2.out.mono fun q hq => Or.inl fun e => hq (Or.inl e)
          exact f2.then (hf4.mono fun q hq => Or.inr (HV.out.lt q hq).1)
      case measure => simp [intOf]; omega
    · have hje : j = (tellsL d k).length := by omega
      by_cases hj60 : j < 60
      · have HC := hidK (HO.out.call HS.out (.fetch k j) ⟨⟨by omega, by omega⟩, ⟨by omega, by omega⟩⟩)
        have hz : ((rFetch d k j).2 == 0) = false := fetch_out hk (by omega)
        have e1 : (Cl.fetch k j).ans d = .tuple #[.agg #[.int .i64 (rFetch d k j).1.p, .int .i64 (rFetch d k j).1.s, .int .i64 (rFetch d k j).1.v], .int .i64 (rFetch d k j).2] := rfl
        rw [e1] at HC
        clear e1
        generalize (rFetch d k j).2 = z at *
        generalize (rFetch d k j).1.p = p1 at *
        generalize (rFetch d k j).1.s = p2 at *
        generalize (rFetch d k j).1.v = p3 at *
        have hj60i : (j : Int) < 60 := by omega
        have HJ := hidK hje
        clear hje hjn hj
        go_wp2_with (first | (go_at_call 19; refine HC.out.mono ?_; rintro e w2 ⟨rfl, h2, hF2⟩; have H2 : Hid (One R w2 (OwnV own (.slice ao j cap)) cb d) := h2; have HF2 := hidK hF2; have HV2 := hidK (ownsRow_same (w' := w2) HV.out fun g hg hl => hF2.block g hl fun e => e (Or.inr hg)); clear h2 hF2))
        refine bodyPost_ret (v := .slice ao j cap) (by simp [results, Try.results26, go_sem, *]) rfl ⟨_, rfl, ?_, H2.out.quiet HS.out ((Below.refl _ _).alloc (Nat.le_refl _) _), (HF.out.trans (HF2.out.mono fun q hq => Or.inl fun e => hq (Or.inl e))).then (Fr.alloc _ _ _)⟩
        have := HJ.out
        subst this
        have q := World.ownsRow.alloc HV2.out (.cells #[.int .i64 p1, .int .i64 p2, .int .i64 p3] 36)
        rw [List.take_length] at q
        exact q
      · have hj60i : ¬ (j : Int) < 60 := by omega
        have HJ := hidK hje
        clear hje hjn hj
        go_wp2
        refine bodyPost_ret (v := .slice ao j cap) (by simp [results, Try.results26, go_sem, *]) rfl ⟨_, rfl, ?_, HO.out, HF.out⟩
        have := HJ.out
        subst this
        have q := HV.out
        rw [List.take_length] at q
        exact q
end
end Go.Proofs.Ythpjcmilfipbaaa
