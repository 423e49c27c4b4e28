/- My own text. Walks: Drop, Twice, Messages. -/
import Derived.Test.YthpfgmdffendoaaTake
namespace Go.Proofs.Ythpfgmdffendoaa
set_option linter.unusedVariables false
set_option linter.unusedSimpArgs false
open Go.RowKit
section
variable {w : World} {S : Nat → Prop} {b : Nat} {c : Clu} {lv : Nat → Value} {ev uv : Value} {mv : List (Msg × Value)}

theorem underB_at (h : Rep w S b c lv ev uv mv) {i : Int} (hu : underB c i = true) : ∃ n x, i = ((n : Nat) : Int) ∧ mv[n]? = some x ∧ c.ways[n]? = some x.1 := by
  simp [underB] at hu
  obtain ⟨n, rfl⟩ := Int.eq_ofNat_of_zero_le hu.1
  have hl := h.ways_len
  have hn : n < mv.length := by omega
  refine ⟨n, mv[n], rfl, by simp [hn], ?_⟩
  rw [← h.mvs]; simp [hn]

set_option maxHeartbeats 800000 in
theorem drop_any (h : Rep w S b c lv ev uv mv) (hok : Ok c) (i : Int) :
    Calls Try.prog 16 #[.pointer (some ⟨b, 0, none⟩), .int .i64 i] w fun e w' =>
      e = .returned (.int .i64 (drop c i).2) ∧ (∃ uv' mv', Rep w' (Ext S w) b (drop c i).1 lv ev uv' mv') ∧ Fr S w w' := by
  have H : Hid (Rep w S b c lv ev uv mv) := h
  have HO : Hid (Ok c) := hok
  cases hu : underB c i
  · have HF : Hid (drop c i = (c, 13)) := by show drop c i = _; simp [drop, hu]
    clear h hok
    go_enter Try.func16, Try.ntmps16
    go_wp2_with (first | (go_at_call 37; refine (isUnder_any H.out _).mono ?_; rintro e w' ⟨rfl, rfl⟩))
    go_ret
    rw [HF.out]
    exact ⟨rfl, ⟨_, _, H.out.mono fun _ _ e => Or.inl e⟩, Fr.refl _ _⟩
  · obtain ⟨n, x, rfl, hx, _⟩ := underB_at h hu
    have HF : Hid (drop c n = (takeOut c n, 0)) := by show drop c n = _; simp [drop, hu]
    have HX : Hid (mv[n]? = some x) := hx
    clear h hok hx
    go_enter Try.func16, Try.ntmps16
    go_wp2_with (first | (go_at_call 37; refine (isUnder_any H.out _).mono ?_; rintro e w' ⟨rfl, rfl⟩))
    refine (takeOut_any H.out HO.out n x HX.out).mono ?_
    rintro e w2 ⟨rfl, ⟨uv', hR⟩, hFr, _⟩
    have HR : Hid (Rep w2 (Ext S w') b (takeOut c n) lv ev uv' (mv.eraseIdx n)) := hR
    have HFr : Hid (Fr S w' w2) := hFr
    clear hR hFr
    go_wp2
    go_ret
    rw [HF.out]
    exact ⟨rfl, ⟨_, _, HR.out⟩, HFr.out⟩

set_option maxHeartbeats 800000 in
set_option maxRecDepth 100000 in
theorem twice_any (h : Rep w S b c lv ev uv mv) (hok : Ok c) (i : Int) :
    Calls Try.prog 17 #[.pointer (some ⟨b, 0, none⟩), .int .i64 i] w fun e w' =>
      e = .returned (.int .i64 (twice c i).2) ∧ (∃ uv' mv', Rep w' (Ext S w) b (twice c i).1 lv ev uv' mv') ∧ Fr S w w' := by
  have H : Hid (Rep w S b c lv ev uv mv) := h
  have HO : Hid (Ok c) := hok
  cases hu : underB c i
  · have HF : Hid (twice c i = (c, 13)) := by show twice c i = _; simp [twice, hu]
    clear h hok
    go_enter Try.func17, Try.ntmps17
    go_wp2_with (first | (go_at_call 37; refine (isUnder_any H.out _).mono ?_; rintro e w' ⟨rfl, rfl⟩))
    go_ret
    rw [HF.out]
    exact ⟨rfl, ⟨_, _, H.out.mono fun _ _ e => Or.inl e⟩, Fr.refl _ _⟩
  · obtain ⟨n, x, rfl, hx, hxw⟩ := underB_at h hu
    have HF : Hid (twice c n = (send c x.1, 0)) := by show twice c n = _; simp [twice, hu, hxw]
    have hn : n < mv.length := (List.getElem?_eq_some_iff.1 hx).1
    have hw := h.cWay
    have hb := h.lt
    have hway := h.way
    obtain ⟨ao, cap, hu', hcap, hblk, hpos⟩ := ownsRow_shape h.way
    obtain ⟨g, rfl⟩ := hpos (by omega)
    subst hu'
    obtain ⟨c0, c1, c2, c3, c4, c5⟩ := msg_cells hway n x hx
    have hgl := ownsRow_lt hway (g := g) rfl
    have hmem := List.mem_of_getElem? hx
    have HRo : Hid (w.ownsRow 0 36 3 x.2 x.1.recs.length (recCells x.1.recs)) := h.recs x hmem
    have HRS : Hid (∀ g, x.2.ownBlock = some g → S g) := fun g hg => h.recS x g hmem hg
    have HRD : Hid (∀ k g, k < 5 → x.2.ownBlock = some g → (lv k).ownBlock ≠ some g) := fun k g hk hg => h.recD x k g hmem hk hg
    obtain ⟨xr, xc, hxv, _⟩ := ownsRow_shape HRo.out
    rw [hxv] at c5 HRo HRS HRD
    have hni : (n : Int) < (mv.length : Int) := by omega
    clear h hok hx hxw hway hcap hblk hpos hxv hmem
    go_enter Try.func17, Try.ntmps17
    go_wp2_with (first | (go_at_call 37; refine (isUnder_any H.out _).mono ?_; rintro e w' ⟨rfl, rfl⟩))
    refine (send_any (H.out.alloc _) HO.out x.1 _ (HRo.out.alloc _) HRS.out HRD.out).mono ?_
    rintro e w2 ⟨rfl, ⟨uv', mv', hR⟩, hFr⟩
    have HR : Hid (Rep w2 (Ext S w') b (send c x.1) lv ev uv' mv') := hR.mono fun k _ e => orR e fun e => by simp at e; omega
    have HFr : Hid (Fr S w' w2) := (Fr.alloc _ _ _).then hFr
    clear hR hFr
    go_wp2
    go_ret
    rw [HF.out]
    exact ⟨rfl, ⟨_, _, HR.out⟩, HFr.out⟩
end
end Go.Proofs.Ythpfgmdffendoaa
