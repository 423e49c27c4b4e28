/- My own text: several texts in one. -/
import Derived.Test.YthpjcmilfipbaaaK4
import Derived.Deep.RegionHeld3
import Derived.Deep.QuietTactic
import Derived.BigQuiet
namespace Go.Proofs.Ythpjcmilfipbaaa
set_option linter.unusedVariables false
set_option linter.unusedSimpArgs false
open Go.RowKit
set_option maxHeartbeats 800000 in
theorem kpick_any (c n : Int) (hc : -9223372036854775808 ≤ c) (hc' : c ≤ 9223372036854775807) (hn : 1 ≤ n) (w : World) :
    Calls Try.prog 17 #[.int .i64 c, .int .i64 n] w fun e w' => e = .returned (.int .i64 (pickN c n)) ∧ w' = w := by
  unfold pickN
  by_cases h0 : c < 0
  · rw [if_pos h0]
    go_enter Try.func17, Try.ntmps17
    go_wp2
    go_ret
    exact ⟨by simp, rfl⟩
  · rw [if_neg h0]
    have e : c.tmod n = c % n := Int.tmod_eq_emod_of_nonneg (by omega)
    go_enter Try.func17, Try.ntmps17
    go_wp2
    go_ret
    exact ⟨by simp [e], rfl⟩
/-- All that the book says may be told. -/
def BookOk (L : List Era) (g : Gh) (tb : Nat → Rec) : Prop :=
  ∀ i, i < 60 → (tb i).p ≠ 0 → ∃ r, Told L g i r ∧ r.p = (tb i).p ∧ r.s = (tb i).s ∧ (0 ≤ (tb i).v → r.v = (tb i).v)
/-- A telling that may be made. -/
def May (L : List Era) (g : Gh) (n : Nat) (x : Rec) : Prop := n < 60 ∧ x.p ≠ 0 ∧ ∃ r, Told L g n r ∧ r.p = x.p ∧ r.s = x.s ∧ (0 ≤ x.v → r.v = x.v)
theorem May.goes {L : List Era} {a : Int} {g : Gh} {tb : Nat → Rec} {n : Nat} {x : Rec} (hg : GInv L a g) (hb : BookOk L g tb) (hm : May L g n x) : Goes tb n x := by
  obtain ⟨h1, h2, r, h3, h4, h5, h6⟩ := hm
  refine ⟨h1, fun i hi hne hc => ?_, fun hp => ?_⟩
  · obtain ⟨r', q1, q2, q3, _⟩ := hb i hi (by rw [hc.1]; exact h2)
    exact hne (told_once hg q1 h3 (by rw [q2, h4]; exact hc.1) (by rw [q3, h5]; exact hc.2))
  · obtain ⟨r', q1, q2, q3, q4⟩ := hb n h1 hp
    have := told_same hg q1 h3
    subst this
    exact ⟨by rw [← q2, h4], by rw [← q3, h5], fun v1 v2 => by rw [← q4 v1, h6 v2]⟩
theorem BookOk.wrote {L : List Era} {a : Int} {g : Gh} {tb : Nat → Rec} {n : Nat} {x : Rec} (hg : GInv L a g) (hb : BookOk L g tb) (hm : May L g n x) : BookOk L g (upd tb n (wrote (tb n) x)) := by
  intro i hi hp
  by_cases e : i = n
  · subst e
    rw [upd_same] at hp ⊢
    obtain ⟨h1, h2, r, h3, h4, h5, h6⟩ := hm
    unfold Go.Proofs.Ythpjcmilfipbaaa.wrote at hp ⊢
    by_cases c : (tb i).p = 0
    · rw [if_pos c] at hp ⊢
      exact ⟨r, h3, h4, h5, h6⟩
    · rw [if_neg c] at hp ⊢
      obtain ⟨r', q1, q2, q3, q4⟩ := hb i hi c
      have := told_same hg q1 h3
      subst this
      split
      · exact ⟨r', q1, q2, q3, h6⟩
      · exact ⟨r', q1, q2, q3, q4⟩
  · rw [upd_other _ _ _ _ e] at hp ⊢
    exact hb i hi hp
def Own (B bb : Nat) : Nat → Prop := fun k => k < B ∨ k = bb
/-- A cluster and its book. -/
structure KpAt (R : World → (Nat → Prop) → Nat → Wd → Prop) (B cb bb : Nat) (w : World) (d : Wd) (g : Gh) (tb : Nat → Rec) : Prop where
  one : One R w (Own B bb) cb d
  book : BRep w bb tb
  inv : Inv d g
  ok : BookOk d.eras g tb
  hB : B ≤ bb
def Kp (R : World → (Nat → Prop) → Nat → Wd → Prop) (B cb bb : Nat) (w : World) : Prop := ∃ d g tb, KpAt R B cb bb w d g tb
section
variable {R : World → (Nat → Prop) → Nat → Wd → Prop} {fn : Cl → Nat} {fm fw : Nat} {w w1 : World} {B cb bb : Nat} {d : Wd} {g : Gh} {tb : Nat → Rec}
theorem KpAt.le (h : KpAt R B cb bb w d g tb) : B ≤ w.heap.size := by have := h.book.lt; have := h.hB; omega
theorem KpAt.quiet (s : Side R fn fm fw) (h : KpAt R B cb bb w d g tb) (hb : Below w.heap.size w w1) : KpAt R B cb bb w1 d g tb :=
  ⟨h.one.quiet s hb, h.book.same (hb.block bb h.book.lt), h.inv, h.ok, h.hB⟩
theorem Kp.quiet (s : Side R fn fm fw) (h : Kp R B cb bb w) (hb : Below w.heap.size w w1) : Kp R B cb bb w1 := by
  obtain ⟨d, g, tb, h⟩ := h
  exact ⟨d, g, tb, h.quiet s hb⟩
theorem own_below (hB : B ≤ w.heap.size) (h : Fr (fun k => ¬ Own B bb k) w w1) : Below B w w1 :=
  ⟨h.os, h.tape, h.output, h.size, fun k hk => h.block k (Nat.lt_of_lt_of_le hk hB) fun e => e (Or.inl hk)⟩
theorem KpAt.call (s : Side R fn fm fw) (h : KpAt R B cb bb w d g tb) (c : Cl) (hc : c.fits) :
    Calls Try.prog (fn c) (c.args (.pointer (some ⟨cb, 0, none⟩))) w fun e w' => e = .returned (c.ans d) ∧ (∃ g', KpAt R B cb bb w' (c.next d) g' tb) ∧ Below B w w' := by
  refine (h.one.call s c hc).mono fun e w' ⟨h1, h2, h3⟩ => ⟨h1, ?_, own_below h.le h3⟩
  obtain ⟨g', q1, q2, _⟩ := h.inv.cl h.one.ok c
  refine ⟨g', h2, h.book.same (h3.block bb h.book.lt fun e => e (Or.inr rfl)), q1, fun i hi hp => ?_, h.hB⟩
  obtain ⟨r, r1, r2⟩ := h.ok i hi hp
  exact ⟨r, q2 i r r1, r2⟩
/-- The telling. -/
theorem KpAt.tells (s : Side R fn fm fw) (h : KpAt R B cb bb w d g tb) (n : Nat) (x : Rec) (hm : May d.eras g n x) :
    Calls Try.prog 24 #[.pointer (some ⟨bb, 0, none⟩), .int .i64 n, recVal x] w fun e w' => e = .returned (.bool true) ∧ Kp R B cb bb w' ∧ Below B w w' := by
  refine (ktells_any h.book n x (hm.goes h.inv.gh h.ok)).mono fun e w' ⟨h1, h2, h3⟩ => ⟨h1, ⟨d, g, _, h.one.mine s (h3.mono fun k e => Or.inr e), h2, h.inv, h.ok.wrote h.inv.gh hm, h.hB⟩, ?_⟩
  exact h3.toBelow h.le fun k e => by have := h.hB; omega
/-- A call whose answer is thrown away. -/
theorem Kp.call (s : Side R fn fm fw) (h : Kp R B cb bb w) (c : Cl) (hc : c.fits) (hz : ∀ d, ∃ z : Int, c.ans d = .int .i64 z) :
    Calls Try.prog (fn c) (c.args (.pointer (some ⟨cb, 0, none⟩))) w fun e w' => (∃ z : Int, e = .returned (.int .i64 z)) ∧ Kp R B cb bb w' ∧ Below B w w' := by
  obtain ⟨d, g, tb, h⟩ := h
  refine (h.call s c hc).mono fun e w' ⟨h1, ⟨g', h2⟩, h3⟩ => ⟨?_, ⟨_, _, _, h2⟩, h3⟩
  obtain ⟨z, hz⟩ := hz d
  exact ⟨z, by rw [h1, hz]⟩
/-- Produce, and what may be told then. -/
theorem Kp.produce (s : Side R fn fm fw) (h : Kp R B cb bb w) (node p sq v : Int) (hc : (Cl.produce node p sq v).fits) (hp : p ≠ 0) :
    Calls Try.prog (fn (.produce node p sq v)) #[.pointer (some ⟨cb, 0, none⟩), .int .i64 node, .int .i64 p, .int .i64 sq, .int .i64 v] w fun e w' => ∃ (k : Int) (t : Bool) (z : Int), e = .returned (.tuple #[.int .i64 k, .bool t, .int .i64 z]) ∧ Kp R B cb bb w' ∧ Below B w w' ∧
      (t = true → ∃ n : Nat, k = n ∧ ∀ w2, Below w'.heap.size w' w2 → Calls Try.prog 24 #[.pointer (some ⟨bb, 0, none⟩), .int .i64 n, recVal ⟨p, sq, -1⟩] w2 fun e w3 => e = .returned (.bool true) ∧ Kp R B cb bb w3 ∧ Below B w2 w3) := by
  obtain ⟨d, g, tb, h⟩ := h
  refine (h.call s (.produce node p sq v) hc).mono fun e w' ⟨h1, ⟨g', h2⟩, h3⟩ => ⟨_, _, _, h1, ⟨_, _, _, h2⟩, h3, fun ht => ?_⟩
  obtain ⟨r, r1, r2, r3, r4, r5⟩ := h.inv.produced h.one.ok node p sq v ht h2.inv
  obtain ⟨n, hn⟩ := Int.eq_ofNat_of_zero_le r4
  rw [hn] at r3 r5 ⊢
  exact ⟨n, rfl, fun w2 hw2 => (h2.quiet s hw2).tells s n ⟨p, sq, -1⟩ ⟨by omega, hp, r, r3, r1, r2, fun x => by simp at x⟩⟩
theorem Kp.fetch (s : Side R fn fm fw) (h : Kp R B cb bb w) (node off : Int) (hc : (Cl.fetch node off).fits) :
    Calls Try.prog (fn (.fetch node off)) #[.pointer (some ⟨cb, 0, none⟩), .int .i64 node, .int .i64 off] w fun e w' => ∃ (r : Rec) (z : Int), e = .returned (.tuple #[.agg #[.int .i64 r.p, .int .i64 r.s, .int .i64 r.v], .int .i64 z]) ∧ Kp R B cb bb w' ∧ Below B w w' ∧
      (z = 0 → 0 < r.p ∧ ∀ w2, Below w'.heap.size w' w2 → Calls Try.prog 24 #[.pointer (some ⟨bb, 0, none⟩), .int .i64 off, .agg #[.int .i64 r.p, .int .i64 r.s, .int .i64 r.v]] w2 fun e w3 => e = .returned (.bool true) ∧ Kp R B cb bb w3 ∧ Below B w2 w3) := by
  obtain ⟨d, g, tb, h⟩ := h
  refine (h.call s (.fetch node off) hc).mono fun e w' ⟨h1, ⟨g', h2⟩, h3⟩ => ⟨(rFetch d node off).1, (rFetch d node off).2, h1, ⟨_, _, _, h2⟩, h3, fun ht => ?_⟩
  have hfe : Told d.eras g' off.toNat (rFetch d node off).1 ∧ 0 ≤ off ∧ off < 60 ∨ ¬ ROk d := h2.inv.fetched node off ht
  rcases hfe with ⟨r1, r2, r3⟩ | r
  · have hpos : 1 ≤ (rFetch d node off).1.p := by
      obtain ⟨e, q1, q2, q3⟩ := r1
      exact (((h2.inv.gh.a8 e (h2.inv.gh.a3 e q1)) _ _ q3).1).1
    refine ⟨by omega, fun w2 hw2 => ?_⟩
    obtain ⟨n, hn⟩ := Int.eq_ofNat_of_zero_le r2
    subst hn
    exact (h2.quiet s hw2).tells s n (rFetch d node n).1 ⟨by omega, by omega, (rFetch d node n).1, r1, rfl, rfl, fun _ => rfl⟩
  · exact absurd h2.one.ok r
end
end Go.Proofs.Ythpjcmilfipbaaa

namespace Go.Proofs.Ythpjcmilfipbaaa
set_option linter.unusedVariables false
set_option linter.unusedSimpArgs false
open Go.RowKit
def kopVal (k a b c d : Int) : Value := .agg #[.int .i64 k, .int .i64 a, .int .i64 b, .int .i64 c, .int .i64 d]
section
variable {R : World → (Nat → Prop) → Nat → Wd → Prop} {w w1 : World} {B cb bb : Nat}
theorem Kp.le (h : Kp R B cb bb w) : B ≤ w.heap.size := by obtain ⟨d, g, tb, h⟩ := h; exact h.le
set_option maxHeartbeats 1600000 in
theorem kwrites_any (s : Side R fnPrg 41 36) (h : Kp R B cb bb w) (k a b c d : Int) (hk : In64 k) (ha : In64 a) (hb : In64 b) (hc : In64 c) (hd : In64 d) :
    Calls Try.prog 53 #[.pointer (some ⟨bb, 0, none⟩), .pointer (some ⟨cb, 0, none⟩), kopVal k a b c d] w fun e w' => e = .returned (.bool true) ∧ Kp R B cb bb w' ∧ Below B w w' := by
  unfold kopVal
  have hle := h.le
  have HBA := hidK ((Below.refl w.heap.size w).alloc (Nat.le_refl _) (.cells #[.int .i64 k, .int .i64 a, .int .i64 b, .int .i64 c, .int .i64 d] 30))
  have HA := hidK (h.quiet s HBA.out)
  have p1 := pickN_bd a 5 (by omega)
  have p2 := pickN_bd b 3 (by omega)
  have p3 := pickN_bd c 99 (by omega)
  have p4 := pickN_bd d 256 (by omega)
  have p5 := pickN_bd b 60 (by omega)
  have w2 : IntKind.i64.wrap (1 + pickN b 3) = 1 + pickN b 3 := by simp only [IntKind.wrap_i64]; omega
  have w3 : IntKind.i64.wrap (1 + pickN c 99) = 1 + pickN c 99 := by simp only [IntKind.wrap_i64]; omega
  have HP := hidK (HA.out.produce s (pickN a 5) (1 + pickN b 3) (1 + pickN c 99) (pickN d 256) ⟨⟨by omega, by omega⟩, ⟨by omega, by omega⟩, ⟨by omega, by omega⟩, ⟨by omega, by omega⟩⟩ (by omega))
  have HF := hidK (HA.out.fetch s (pickN a 5) (pickN b 60) ⟨⟨by omega, by omega⟩, ⟨by omega, by omega⟩⟩)
  have HS := hidK s
  obtain ⟨k0, k1⟩ := hk
  obtain ⟨a0, a1⟩ := ha
  obtain ⟨b0, b1⟩ := hb
  obtain ⟨c0, c1⟩ := hc
  obtain ⟨d0, d1⟩ := hd
  clear h s HA
  cases hk0 : (pickN k 10 == 0)
  · go_enter Try.func53, Try.ntmps53
    go_wp2_with (first | (go_at_call 17; refine (kpick_any _ _ (by omega) (by omega) (by omega) _).mono ?_; rintro e w1 ⟨rfl, hw1⟩; rw [hw1]; clear hw1))
    refine HF.out.mono ?_
    rintro e1 w1 ⟨r, z, rfl, hK, hBl, hT⟩
    have HB1 := hidK (HBA.out.mono hle |>.trans hBl)
    have HK := hidK hK
    have hle1 := hK.le
    cases hz : (z == 0)
    · clear hT hK hBl
      go_wp2
      go_ret
      exact ⟨rfl, HK.out.quiet HS.out ((Below.refl _ _).alloc (Nat.le_refl _) _), HB1.out.trans (((Below.refl _ _).alloc (Nat.le_refl _) _).mono hle1)⟩
    · obtain ⟨hr, hc2⟩ := hT (by simpa using hz)
      have HT := hidK (hc2 _ ((Below.refl _ w1).alloc (Nat.le_refl _) (.cells #[.int .i64 r.p, .int .i64 r.s, .int .i64 r.v] 36)))
      clear hT hK hBl hc2
      go_wp2_with (first | (go_at_call 24; refine HT.out.mono ?_; rintro e2 w2 ⟨rfl, hK2, hB2⟩; have HK2 := hidK hK2; have HB2 := hidK hB2; clear hK2 hB2))
      go_ret
      exact ⟨rfl, HK2.out, (HB1.out.trans (((Below.refl _ _).alloc (Nat.le_refl _) _).mono hle1)).trans HB2.out⟩
  · go_enter Try.func53, Try.ntmps53
    go_wp2_with (first | (go_at_call 17; refine (kpick_any _ _ (by omega) (by omega) (by omega) _).mono ?_; rintro e w1 ⟨rfl, hw1⟩; rw [hw1]; clear hw1))
    refine HP.out.mono ?_
    rintro e1 w1 ⟨kk, t, z, rfl, hK, hBl, hT⟩
    have HB1 := hidK (HBA.out.mono hle |>.trans hBl)
    have HK := hidK hK
    by_cases hz : z = 0
    · subst hz
      cases t
      · clear hT hK hBl
        go_wp2
        go_ret
        exact ⟨rfl, HK.out, HB1.out⟩
      · obtain ⟨n, rfl, hc2⟩ := hT rfl
        have HT := hidK (hc2 w1 (Below.refl _ _))
        unfold recVal at HT
        clear hT hK hBl hc2
        go_wp2_with (first | (go_at_call 24; refine HT.out.mono ?_; rintro e2 w2 ⟨rfl, hK2, hB2⟩; have HK2 := hidK hK2; have HB2 := hidK hB2; clear hK2 hB2))
        go_ret
        exact ⟨rfl, HK2.out, HB1.out.trans HB2.out⟩
    · have hzb : (z == 0) = false := by simp [hz]
      clear hT hK hBl
      go_wp2
      go_ret
      exact ⟨rfl, HK.out, HB1.out⟩
set_option maxHeartbeats 3200000 in
theorem kstep_any (s : Side R fnPrg 41 36) (h : Kp R B cb bb w) (k a b c d : Int) (hk : In64 k) (ha : In64 a) (hb : In64 b) (hc : In64 c) (hd : In64 d) :
    Calls Try.prog 25 #[.pointer (some ⟨bb, 0, none⟩), .pointer (some ⟨cb, 0, none⟩), kopVal k a b c d] w fun e w' => e = .returned (.bool true) ∧ Kp R B cb bb w' ∧ Below B w w' := by
  have hle := h.le
  have HBA := hidK ((Below.refl w.heap.size w).alloc (Nat.le_refl _) (.cells #[.int .i64 k, .int .i64 a, .int .i64 b, .int .i64 c, .int .i64 d] 30))
  have HA := hidK (h.quiet s HBA.out)
  have HW := hidK (kwrites_any s HA.out k a b c d hk ha hb hc hd)
  have HS := hidK s
  have HB1 := hidK (HBA.out.mono hle)
  unfold kopVal at HW ⊢
  have p1 := pickN_bd a 5 (by omega)
  have p2 := pickN_bd a 50 (by omega)
  have p3 := pickN_bd a 31 (by omega)
  have p4 := pickN_bd b 5 (by omega)
  have p5 := pickN_bd k 10 (by omega)
  have w2 : IntKind.i64.wrap (1 + pickN a 31) = 1 + pickN a 31 := by simp only [IntKind.wrap_i64]; omega
  obtain ⟨k0, k1⟩ := hk
  obtain ⟨a0, a1⟩ := ha
  obtain ⟨b0, b1⟩ := hb
  clear h s
  have hq : pickN k 10 = 0 ∨ pickN k 10 = 1 ∨ pickN k 10 = 2 ∨ pickN k 10 = 3 ∨ pickN k 10 = 4 ∨ pickN k 10 = 5 ∨ pickN k 10 = 6 ∨ pickN k 10 = 7 ∨ pickN k 10 = 8 ∨ pickN k 10 = 9 := by omega
  clear p5
  rcases hq with hq | hq | hq | hq | hq | hq | hq | hq | hq | hq
  · go_enter Try.func25, Try.ntmps25
    go_wp2_with (first | (go_at_call 17; refine (kpick_any _ _ (by omega) (by omega) (by omega) _).mono ?_; rintro e w1 ⟨rfl, hw1⟩; rw [hw1]; clear hw1) | (go_at_call 53; refine HW.out.mono ?_; rintro e2 w2 ⟨rfl, hK2, hB2⟩; have HK2 := hidK hK2; have HB2 := hidK hB2; clear hK2 hB2))
    go_ret
    exact ⟨rfl, HK2.out, HB1.out.trans HB2.out⟩
  · go_enter Try.func25, Try.ntmps25
    go_wp2_with (first | (go_at_call 17; refine (kpick_any _ _ (by omega) (by omega) (by omega) _).mono ?_; rintro e w1 ⟨rfl, hw1⟩; rw [hw1]; clear hw1) | (go_at_call 53; refine HW.out.mono ?_; rintro e2 w2 ⟨rfl, hK2, hB2⟩; have HK2 := hidK hK2; have HB2 := hidK hB2; clear hK2 hB2))
    go_ret
    exact ⟨rfl, HK2.out, HB1.out.trans HB2.out⟩
  · have HC := hidK (HA.out.call HS.out (.drop (pickN a 50)) ⟨by omega, by omega⟩ (fun d => ⟨_, rfl⟩))
    go_enter Try.func25, Try.ntmps25
    go_wp2_with (first | (go_at_call 17; refine (kpick_any _ _ (by omega) (by omega) (by omega) _).mono ?_; rintro e w1 ⟨rfl, hw1⟩; rw [hw1]; clear hw1) | (go_at_call 20; refine HC.out.mono ?_; rintro e2 w2 ⟨⟨z, rfl⟩, hK2, hB2⟩; have HK2 := hidK hK2; have HB2 := hidK hB2; clear hK2 hB2))
    go_ret
    exact ⟨rfl, HK2.out, HB1.out.trans HB2.out⟩
  · have HC := hidK (HA.out.call HS.out (.twice (pickN a 50)) ⟨by omega, by omega⟩ (fun d => ⟨_, rfl⟩))
    go_enter Try.func25, Try.ntmps25
    go_wp2_with (first | (go_at_call 17; refine (kpick_any _ _ (by omega) (by omega) (by omega) _).mono ?_; rintro e w1 ⟨rfl, hw1⟩; rw [hw1]; clear hw1) | (go_at_call 21; refine HC.out.mono ?_; rintro e2 w2 ⟨⟨z, rfl⟩, hK2, hB2⟩; have HK2 := hidK hK2; have HB2 := hidK hB2; clear hK2 hB2))
    go_ret
    exact ⟨rfl, HK2.out, HB1.out.trans HB2.out⟩
  · have HC := hidK (HA.out.call HS.out (.crash (pickN a 5)) ⟨by omega, by omega⟩ (fun d => ⟨_, rfl⟩))
    go_enter Try.func25, Try.ntmps25
    go_wp2_with (first | (go_at_call 17; refine (kpick_any _ _ (by omega) (by omega) (by omega) _).mono ?_; rintro e w1 ⟨rfl, hw1⟩; rw [hw1]; clear hw1) | (go_at_call 54; refine HC.out.mono ?_; rintro e2 w2 ⟨⟨z, rfl⟩, hK2, hB2⟩; have HK2 := hidK hK2; have HB2 := hidK hB2; clear hK2 hB2))
    go_ret
    exact ⟨rfl, HK2.out, HB1.out.trans HB2.out⟩
  · have HC := hidK (HA.out.call HS.out (.restart (pickN a 5)) ⟨by omega, by omega⟩ (fun d => ⟨_, rfl⟩))
    go_enter Try.func25, Try.ntmps25
    go_wp2_with (first | (go_at_call 17; refine (kpick_any _ _ (by omega) (by omega) (by omega) _).mono ?_; rintro e w1 ⟨rfl, hw1⟩; rw [hw1]; clear hw1) | (go_at_call 55; refine HC.out.mono ?_; rintro e2 w2 ⟨⟨z, rfl⟩, hK2, hB2⟩; have HK2 := hidK hK2; have HB2 := hidK hB2; clear hK2 hB2))
    go_ret
    exact ⟨rfl, HK2.out, HB1.out.trans HB2.out⟩
  · have HC := hidK (HA.out.call HS.out (.conf (1 + pickN a 31) (pickN b 5)) ⟨⟨by omega, by omega⟩, ⟨by omega, by omega⟩⟩ (fun d => ⟨_, rfl⟩))
    go_enter Try.func25, Try.ntmps25
    go_wp2_with (first | (go_at_call 17; refine (kpick_any _ _ (by omega) (by omega) (by omega) _).mono ?_; rintro e w1 ⟨rfl, hw1⟩; rw [hw1]; clear hw1) | (go_at_call 29; refine HC.out.mono ?_; rintro e2 w2 ⟨⟨z, rfl⟩, hK2, hB2⟩; have HK2 := hidK hK2; have HB2 := hidK hB2; clear hK2 hB2))
    go_ret
    exact ⟨rfl, HK2.out, HB1.out.trans HB2.out⟩
  · have HC := hidK (HA.out.call HS.out (.remind) trivial (fun d => ⟨_, rfl⟩))
    go_enter Try.func25, Try.ntmps25
    go_wp2_with (first | (go_at_call 17; refine (kpick_any _ _ (by omega) (by omega) (by omega) _).mono ?_; rintro e w1 ⟨rfl, hw1⟩; rw [hw1]; clear hw1) | (go_at_call 56; refine HC.out.mono ?_; rintro e2 w2 ⟨⟨z, rfl⟩, hK2, hB2⟩; have HK2 := hidK hK2; have HB2 := hidK hB2; clear hK2 hB2))
    go_ret
    exact ⟨rfl, HK2.out, HB1.out.trans HB2.out⟩
  · have HC := hidK (HA.out.call HS.out (.deliver (pickN a 50)) ⟨by omega, by omega⟩ (fun d => ⟨_, rfl⟩))
    go_enter Try.func25, Try.ntmps25
    go_wp2_with (first | (go_at_call 17; refine (kpick_any _ _ (by omega) (by omega) (by omega) _).mono ?_; rintro e w1 ⟨rfl, hw1⟩; rw [hw1]; clear hw1) | (go_at_call 52; refine HC.out.mono ?_; rintro e2 w2 ⟨⟨z, rfl⟩, hK2, hB2⟩; have HK2 := hidK hK2; have HB2 := hidK hB2; clear hK2 hB2))
    go_ret
    exact ⟨rfl, HK2.out, HB1.out.trans HB2.out⟩
  · have HC := hidK (HA.out.call HS.out (.deliver (pickN a 50)) ⟨by omega, by omega⟩ (fun d => ⟨_, rfl⟩))
    go_enter Try.func25, Try.ntmps25
    go_wp2_with (first | (go_at_call 17; refine (kpick_any _ _ (by omega) (by omega) (by omega) _).mono ?_; rintro e w1 ⟨rfl, hw1⟩; rw [hw1]; clear hw1) | (go_at_call 52; refine HC.out.mono ?_; rintro e2 w2 ⟨⟨z, rfl⟩, hK2, hB2⟩; have HK2 := hidK hK2; have HB2 := hidK hB2; clear hK2 hB2))
    go_ret
    exact ⟨rfl, HK2.out, HB1.out.trans HB2.out⟩
end
end Go.Proofs.Ythpjcmilfipbaaa
