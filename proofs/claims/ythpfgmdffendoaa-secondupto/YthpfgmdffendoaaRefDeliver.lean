/- My own text. Walks of package ledgerref: takes as a whole, Deliver. -/
import Derived.Test.YthpfgmdffendoaaRefTakesA
import Derived.Test.YthpfgmdffendoaaRefDrop
namespace Go.Proofs.Ythpfgmdffendoaa
set_option linter.unusedVariables false
set_option linter.unusedSimpArgs false
open Go.RowKit
section
variable {w : World} {S : Nat → Prop} {b : Nat} {d : Wd} {ev uv : Value}
theorem rtakes_any (h : RRep w S b d ev uv) (hok : ROk d) (k : Nat) (hk : k < 5) (m : Msg) (hm : MsgOk d.eras.length m) :
    Calls Try.prog 82 #[.pointer (some ⟨b, 0, none⟩), .int .i64 k, letVal m] w fun e w' =>
      e = .returned (.tuple #[]) ∧ (∃ uv', RRep w' (Ext S w) b (rTakes d k m) ev uv') ∧ Fr S w w' := by
  by_cases he : m.epoch < (d.mem k).follows
  · exact rtakes_old h k hk m he
  by_cases h1 : m.kind = 1
  · exact rtakes_start h hok k hk m hm he h1
  by_cases h2 : m.kind = 2
  · exact rtakes_read h hok k hk m hm he h2
  by_cases h4 : m.kind = 4
  · exact rtakes_state h hok k hk m hm he h4
  by_cases h8 : m.kind = 8
  · by_cases hc : (d.mem k).follows = m.epoch ∧ (d.mem k).given = m.epoch ∧ (d.mem k).role = 0
    · exact rtakes_append h hok k hk m hm h8 hc.1 hc.2.1 hc.2.2
    · exact rtakes_not h k hk m he h8 hc
  exact rtakes_rest h hok k hk m hm he h1 h2 h4 h8
theorem ext_ext {W : World} (hs : w.heap.size ≤ W.heap.size) (k : Nat) (e : Ext (Ext S w) W k) : Ext S w k := by
  rcases e with e | e
  · exact e
  · exact Or.inr (Nat.le_trans hs e)
theorem ROk.outOk (hok : ROk d) (n : Nat) : ROk (rOut d n) :=
  { hok with
    way := by have := List.length_eraseIdx_le d.way n; have := hok.way; show (d.way.eraseIdx n).length ≤ 50; omega
    msg := fun m hm => hok.msg m (List.mem_of_mem_eraseIdx hm) }

set_option maxHeartbeats 800000 in
theorem rdeliver_nil (i : Int) (w : World) :
    Calls Try.prog 67 #[.pointer none, .int .i64 i] w fun e w' => e = .returned (.int .i64 1) ∧ Below w.heap.size w w' := by
  go_enter Try.func67, Try.ntmps67
  go_wp2_with fail
  refine (rout_nil i w).mono ?_
  rintro e w2 ⟨rfl, hB⟩
  have HB : Hid (Below w.heap.size w w2) := hB
  have hs := hB.size
  clear hB
  unfold noLet
  go_wp2
  go_ret
  exact ⟨rfl, HB.out.alloc hs _⟩

set_option maxHeartbeats 3200000 in
set_option maxRecDepth 100000 in
theorem rdeliver_any (h : RRep w S b d ev uv) (hok : ROk d) (i : Int) :
    Calls Try.prog 67 #[.pointer (some ⟨b, 0, none⟩), .int .i64 i] w fun e w' =>
      e = .returned (.int .i64 (rDeliver d i).2) ∧ (∃ uv', RRep w' (Ext S w) b (rDeliver d i).1 ev uv') ∧ Fr S w w' := by
  have H : Hid (RRep w S b d ev uv) := h
  have HO : Hid (ROk d) := hok
  cases hu : rUnder d i
  · have HF : Hid (rDeliver d i = (d, 13)) := by show rDeliver d i = _; simp [rDeliver, hu]
    clear h hok
    go_enter Try.func67, Try.ntmps67
    go_wp2_with fail
    refine (rout_bad H.out i hu).mono ?_
    rintro e w2 ⟨rfl, hB⟩
    have HB : Hid (Below w.heap.size w w2) := hB
    clear hB
    unfold noLet
    go_wp2
    go_ret
    rw [HF.out]
    exact ⟨rfl, ⟨_, ((H.out.below HB.out).alloc _).mono fun _ _ e => Or.inl e⟩, (Fr.below HB.out).then (Fr.alloc _ _ _)⟩
  · obtain ⟨n, m, rfl, hx⟩ := rUnder_at hu
    have hm := hok.msg m (List.mem_of_getElem? hx)
    have HF : Hid (rDeliver d n = (rGet (rOut d n) m, 0)) := by show rDeliver d n = _; simp [rDeliver, hu, hx]
    have HX : Hid (d.way[n]? = some m) := hx
    have HM : Hid (MsgOk (rOut d n).eras.length m) := hm
    have HO2 : Hid (ROk (rOut d n)) := hok.outOk n
    have hto := hm.to
    obtain ⟨q, hq⟩ : ∃ q : Nat, m.epoch = (q : Int) + 1 := ⟨(m.epoch - 1).toNat, by have := hm.ep; omega⟩
    have HQ : Hid (m.epoch = (q : Int) + 1 ∧ q < (rOut d n).eras.length) := ⟨hq, by have := hm.ep; show q < d.eras.length; omega⟩
    clear h hx hok hm hq
    by_cases ht : m.to = -1
    · have bt : (m.to == -1) = true := by simp [ht]
      have HG : Hid (rGet (rOut d n) m = rMaster (rOut d n) m.epoch) := by show rGet (rOut d n) m = _; rw [rGet, if_pos ht]
      clear ht hto
      go_enter Try.func67, Try.ntmps67
      go_wp2_with fail
      refine (rout_any H.out HO.out.way n m HX.out).mono ?_
      rintro e w2 ⟨rfl, ⟨uv2, hR⟩, hF⟩
      have HR : Hid (RRep w2 (Ext S w) b (rOut d n) ev uv2) := hR
      have HFr : Hid (Fr S w w2) := hF
      clear hR hF
      unfold letVal
      go_wp2_with fail
      rw [HQ.out.1]
      refine (rmaster_any (HR.out.alloc _) HO2.out q HQ.out.2).mono ?_
      rintro e w3 ⟨rfl, ⟨uv3, hR3⟩, hF3⟩
      have HR3 : Hid _ := hR3
      have HF3 : Hid _ := hF3
      clear hR3 hF3
      go_wp2
      go_ret
      rw [HF.out, HG.out, HQ.out.1]
      exact ⟨rfl, ⟨uv3, HR3.out.mono fun k _ e => ext_ext (by simp; exact Nat.le_succ_of_le HFr.out.size) k e⟩, HFr.out.trans ((Fr.alloc _ _ _).then HF3.out)⟩
    · have bt : (m.to == -1) = false := by simp [ht]
      obtain ⟨t, htt⟩ := Int.eq_ofNat_of_zero_le (show 0 ≤ m.to by omega)
      have ht5 : t < 5 := by omega
      have HG : Hid (rGet (rOut d n) m = if (d.mem t).up then rTakes (rOut d n) t m else rOut d n) := by show rGet (rOut d n) m = _; rw [rGet, if_neg ht, htt]; rfl
      have hti0 : (0 : Int) ≤ (t : Int) := by omega
      have hti5 : (t : Int) < 5 := by omega
      have hs' : Hid (w.heap.size ≤ w.heap.size) := Nat.le_refl _
      clear ht hto
      go_enter Try.func67, Try.ntmps67
      go_wp2_with fail
      refine (rout_any H.out HO.out.way n m HX.out).mono ?_
      rintro e w2 ⟨rfl, ⟨uv2, hR⟩, hF⟩
      have HR : Hid (RRep w2 (Ext S w) b (rOut d n) ev uv2) := hR
      have HFr : Hid (Fr S w w2) := hF
      have cU := hR.cUp t ht5
      have hb2 := hR.lt
      clear hR hF
      unfold letVal
      rw [htt] at bt ⊢
      cases hup : (d.mem t).up
      · have hup2 : ((rOut d n).mem t).up = false := hup
        rw [hup2] at cU
        go_wp2_with fail
        go_quiet (fail)
        go_wp2
        go_ret
        rw [HF.out, HG.out, hup]
        exact ⟨rfl, ⟨uv2, (HR.out.alloc _).drewN _⟩, HFr.out.then ((Fr.alloc _ _ _).then (Fr.drewN _ _ _))⟩
      · have hup2 : ((rOut d n).mem t).up = true := hup
        rw [hup2] at cU
        go_wp2_with fail
        go_quiet (fail)
        go_wp2_with fail
        have HV : Hid (letVal m = .agg #[.int .i64 m.kind, .int .i64 m.frm, .int .i64 t, .int .i64 m.epoch, .int .i64 m.n, .string (encB m.recs)]) := by show letVal m = _; rw [letVal, htt]
        rw [← HV.out]
        refine (rtakes_any ((HR.out.alloc _).drewN _) HO2.out t ht5 m HM.out).mono ?_
        rintro e w3 ⟨rfl, ⟨uv3, hR3⟩, hF3⟩
        have HR3 : Hid _ := hR3
        have HF3 : Hid _ := hF3
        clear hR3 hF3
        go_wp2
        go_ret
        rw [HF.out, HG.out, hup]
        exact ⟨rfl, ⟨uv3, HR3.out.mono fun k _ e => ext_ext (by simp; exact Nat.le_succ_of_le HFr.out.size) k e⟩, HFr.out.trans ((Fr.alloc _ _ _).then ((Fr.drewN _ _ _).then HF3.out))⟩
end
end Go.Proofs.Ythpfgmdffendoaa
