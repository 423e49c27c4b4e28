/- My own text: several texts in one. -/
import Derived.Test.YthpjcmilfipbaaaK6
namespace Go.Proofs.Ythpjcmilfipbaaa
set_option linter.unusedVariables false
set_option linter.unusedSimpArgs false
open Go.RowKit
/-- A cluster and its book; what is the caller's own besides. -/
structure Kg (R : World → (Nat → Prop) → Nat → Wd → Prop) (own : Nat → Prop) (cb bb : Nat) (d : Wd) (tb : Nat → Rec) (w : World) : Prop where
  one : One R w own cb d
  book : BRep w bb tb
  mine : own bb
  inv : ∃ g, Inv d g ∧ BookOk d.eras g tb
/-- What a step may turn. -/
def MayTurn (own : Nat → Prop) (bb : Nat) : Nat → Prop := fun k => ¬ own k ∨ k = bb
def opP (d : Wd) (a b c v : Int) : Wd × Int × Bool × Int := rProduce d (pickN a 5) (1 + pickN b 3) (1 + pickN c 99) (pickN v 256)
def wrT (d : Wd) (tb : Nat → Rec) (k a b c v : Int) : Nat → Rec :=
  if pickN k 10 = 0 then (if (opP d a b c v).2.2.2 = 0 ∧ (opP d a b c v).2.2.1 = true then upd tb (opP d a b c v).2.1.toNat (wrote (tb (opP d a b c v).2.1.toNat) ⟨1 + pickN b 3, 1 + pickN c 99, -1⟩) else tb)
  else (if (rFetch d (pickN a 5) (pickN b 60)).2 = 0 then upd tb (pickN b 60).toNat (wrote (tb (pickN b 60).toNat) (rFetch d (pickN a 5) (pickN b 60)).1) else tb)
def wrD (d : Wd) (k a b c v : Int) : Wd := if pickN k 10 = 0 then (opP d a b c v).1 else d
def opT (d : Wd) (tb : Nat → Rec) (k a b c v : Int) : Nat → Rec := if pickN k 10 = 0 ∨ pickN k 10 = 1 then wrT d tb k a b c v else tb
def opD (d : Wd) (k a b c v : Int) : Wd :=
  if pickN k 10 = 0 ∨ pickN k 10 = 1 then wrD d k a b c v
  else if pickN k 10 = 2 then (rDrop d (pickN a 50)).1
  else if pickN k 10 = 3 then (rTwice d (pickN a 50)).1
  else if pickN k 10 = 4 then (rCrash d (pickN a 5)).1
  else if pickN k 10 = 5 then (rRestart d (pickN a 5)).1
  else if pickN k 10 = 6 then (rReconf d (1 + pickN a 31) (pickN b 5)).1
  else if pickN k 10 = 7 then (rRemind d).1
  else (rDeliver d (pickN a 50)).1
section
variable {R : World → (Nat → Prop) → Nat → Wd → Prop} {fn : Cl → Nat} {fm fw : Nat} {w w1 : World} {own : Nat → Prop} {cb bb : Nat} {d : Wd} {tb : Nat → Rec}
theorem Kg.quiet (s : Side R fn fm fw) (h : Kg R own cb bb d tb w) (hb : Below w.heap.size w w1) : Kg R own cb bb d tb w1 :=
  ⟨h.one.quiet s hb, h.book.same (hb.block bb h.book.lt), h.mine, h.inv⟩
theorem Kg.call (s : Side R fn fm fw) (h : Kg R own cb bb d tb w) (c : Cl) (hc : c.fits) :
    Calls Try.prog (fn c) (c.args (.pointer (some ⟨cb, 0, none⟩))) w fun e w' => e = .returned (c.ans d) ∧ Kg R own cb bb (c.next d) tb w' ∧ Fr (MayTurn own bb) w w' := by
  refine (h.one.call s c hc).mono fun e w' ⟨h1, h2, h3⟩ => ⟨h1, ?_, h3.mono fun k e => Or.inl e⟩
  obtain ⟨g, hi, hb⟩ := h.inv
  obtain ⟨g', q1, q2, _⟩ := hi.cl h.one.ok c
  refine ⟨h2, h.book.same (h3.block bb h.book.lt fun e => e h.mine), h.mine, g', q1, fun i hi hp => ?_⟩
  obtain ⟨r, r1, r2⟩ := hb i hi hp
  exact ⟨r, q2 i r r1, r2⟩
theorem Kg.tells (s : Side R fn fm fw) (h : One R w own cb d) (hB : BRep w bb tb) (hm : own bb) (g : Gh) (hi : Inv d g) (hb : BookOk d.eras g tb) (n : Nat) (x : Rec) (may : May d.eras g n x) :
    Calls Try.prog 24 #[.pointer (some ⟨bb, 0, none⟩), .int .i64 n, recVal x] w fun e w' => e = .returned (.bool true) ∧ Kg R own cb bb d (upd tb n (wrote (tb n) x)) w' ∧ Fr (MayTurn own bb) w w' :=
  (ktells_any hB n x (may.goes hi.gh hb)).mono fun e w' ⟨h1, h2, h3⟩ => ⟨h1, ⟨h.mine s (h3.mono fun k e => by rw [e]; exact hm), h2, hm, g, hi, hb.wrote hi.gh may⟩, h3.mono fun k e => Or.inr e⟩
theorem Kg.produce (s : Side R fn fm fw) (h : Kg R own cb bb d tb w) (node p sq v : Int) (hc : (Cl.produce node p sq v).fits) (hp : p ≠ 0) :
    Calls Try.prog (fn (.produce node p sq v)) #[.pointer (some ⟨cb, 0, none⟩), .int .i64 node, .int .i64 p, .int .i64 sq, .int .i64 v] w fun e w' => ∃ (k : Int) (t : Bool) (z : Int), e = .returned (.tuple #[.int .i64 k, .bool t, .int .i64 z]) ∧ (rProduce d node p sq v).2 = (k, t, z) ∧
      Kg R own cb bb (rProduce d node p sq v).1 tb w' ∧ Fr (MayTurn own bb) w w' ∧
      (t = true → ∃ n : Nat, k = n ∧ ∀ w2, Below w'.heap.size w' w2 → Calls Try.prog 24 #[.pointer (some ⟨bb, 0, none⟩), .int .i64 n, recVal ⟨p, sq, -1⟩] w2 fun e w3 => e = .returned (.bool true) ∧ Kg R own cb bb (rProduce d node p sq v).1 (upd tb n (wrote (tb n) ⟨p, sq, -1⟩)) w3 ∧ Fr (MayTurn own bb) w2 w3) := by
  refine (h.call s (.produce node p sq v) hc).mono fun e w' ⟨h1, h2, h3⟩ => ⟨_, _, _, h1, rfl, h2, h3, fun ht => ?_⟩
  obtain ⟨g', hi', hb'⟩ := h2.inv
  obtain ⟨g, hi, hb⟩ := h.inv
  obtain ⟨r, r1, r2, r3, r4, r5⟩ := hi.produced h.one.ok node p sq v ht hi'
  obtain ⟨n, hn⟩ := Int.eq_ofNat_of_zero_le r4
  rw [hn] at r3 r5 ⊢
  exact ⟨n, rfl, fun w2 hw2 => Kg.tells s (h2.one.quiet s hw2) (h2.book.same (hw2.block bb h2.book.lt)) h2.mine g' hi' hb' n ⟨p, sq, -1⟩ ⟨by omega, hp, r, r3, r1, r2, fun x => by simp at x⟩⟩
theorem Kg.fetch (s : Side R fn fm fw) (h : Kg R own cb bb d tb w) (node off : Int) (hc : (Cl.fetch node off).fits) :
    Calls Try.prog (fn (.fetch node off)) #[.pointer (some ⟨cb, 0, none⟩), .int .i64 node, .int .i64 off] w fun e w' => ∃ (r : Rec) (z : Int), e = .returned (.tuple #[.agg #[.int .i64 r.p, .int .i64 r.s, .int .i64 r.v], .int .i64 z]) ∧ rFetch d node off = (r, z) ∧ Kg R own cb bb d tb w' ∧ Fr (MayTurn own bb) w w' ∧
      (z = 0 → 0 < r.p ∧ ∀ w2, Below w'.heap.size w' w2 → Calls Try.prog 24 #[.pointer (some ⟨bb, 0, none⟩), .int .i64 off, .agg #[.int .i64 r.p, .int .i64 r.s, .int .i64 r.v]] w2 fun e w3 => e = .returned (.bool true) ∧ Kg R own cb bb d (upd tb off.toNat (wrote (tb off.toNat) r)) w3 ∧ Fr (MayTurn own bb) w2 w3) := by
  refine (h.call s (.fetch node off) hc).mono fun e w' ⟨h1, h2, h3⟩ => ⟨(rFetch d node off).1, (rFetch d node off).2, h1, rfl, h2, h3, fun ht => ?_⟩
  obtain ⟨g', hi', hb'⟩ := h2.inv
  have hfe : Told d.eras g' off.toNat (rFetch d node off).1 ∧ 0 ≤ off ∧ off < 60 ∨ ¬ ROk d := hi'.fetched node off ht
  rcases hfe with ⟨r1, r2, r3⟩ | r
  · have hpos : 1 ≤ (rFetch d node off).1.p := by
      obtain ⟨e, q1, q2, q3⟩ := r1
      exact (((hi'.gh.a8 e (hi'.gh.a3 e q1)) _ _ q3).1).1
    refine ⟨by omega, fun w2 hw2 => ?_⟩
    obtain ⟨n, hn⟩ := Int.eq_ofNat_of_zero_le r2
    subst hn
    exact Kg.tells s (h2.one.quiet s hw2) (h2.book.same (hw2.block bb h2.book.lt)) h2.mine g' hi' hb' n (rFetch d node n).1 ⟨by omega, by omega, (rFetch d node n).1, r1, rfl, rfl, fun _ => rfl⟩
  · exact absurd h2.one.ok r
set_option maxHeartbeats 1600000 in
theorem gwrites_any (s : Side R fnPrg 41 36) (h : Kg R own cb bb d tb w) (k a b c v : Int) (hk : In64 k) (ha : In64 a) (hb : In64 b) (hc : In64 c) (hv : In64 v) :
    Calls Try.prog 53 #[.pointer (some ⟨bb, 0, none⟩), .pointer (some ⟨cb, 0, none⟩), kopVal k a b c v] w fun e w' => e = .returned (.bool true) ∧ Kg R own cb bb (wrD d k a b c v) (wrT d tb k a b c v) w' ∧ Fr (MayTurn own bb) w w' := by
  unfold kopVal
  have HBA := hidK ((Below.refl w.heap.size w).alloc (Nat.le_refl _) (.cells #[.int .i64 k, .int .i64 a, .int .i64 b, .int .i64 c, .int .i64 v] 30))
  have HA := hidK (h.quiet s HBA.out)
  have p1 := pickN_bd a 5 (by omega)
  have p2 := pickN_bd b 3 (by omega)
  have p3 := pickN_bd c 99 (by omega)
  have p4 := pickN_bd v 256 (by omega)
  have p5 := pickN_bd b 60 (by omega)
  have w2 : IntKind.i64.wrap (1 + pickN b 3) = 1 + pickN b 3 := by simp only [IntKind.wrap_i64]; omega
  have w3 : IntKind.i64.wrap (1 + pickN c 99) = 1 + pickN c 99 := by simp only [IntKind.wrap_i64]; omega
  have HP := hidK (HA.out.produce s (pickN a 5) (1 + pickN b 3) (1 + pickN c 99) (pickN v 256) ⟨⟨by omega, by omega⟩, ⟨by omega, by omega⟩, ⟨by omega, by omega⟩, ⟨by omega, by omega⟩⟩ (by omega))
  have HF := hidK (HA.out.fetch s (pickN a 5) (pickN b 60) ⟨⟨by omega, by omega⟩, ⟨by omega, by omega⟩⟩)
  have HS := hidK s
  obtain ⟨k0, k1⟩ := hk
  obtain ⟨a0, a1⟩ := ha
  obtain ⟨b0, b1⟩ := hb
  obtain ⟨c0, c1⟩ := hc
  obtain ⟨d0, d1⟩ := hv
  clear h s HA
  cases hk0 : (pickN k 10 == 0)
  · have hk9 : ¬ pickN k 10 = 0 := by simpa using hk0
    have HD := hidK (show wrD d k a b c v = d by unfold wrD; rw [if_neg hk9])
    have HT0 := hidK (show wrT d tb k a b c v = if (rFetch d (pickN a 5) (pickN b 60)).2 = 0 then upd tb (pickN b 60).toNat (wrote (tb (pickN b 60).toNat) (rFetch d (pickN a 5) (pickN b 60)).1) else tb by unfold wrT; rw [if_neg hk9])
    clear hk9
    go_enter Try.func53, Try.ntmps53
    go_wp2_with (first | (go_at_call 17; refine (kpick_any _ _ (by omega) (by omega) (by omega) _).mono ?_; rintro e w1 ⟨rfl, hw1⟩; rw [hw1]; clear hw1))
    refine HF.out.mono ?_
    rintro e1 w1 ⟨r, z, rfl, hrz, hK, hBl, hT⟩
    have HB1 := hidK ((Fr.below (S := MayTurn own bb) HBA.out).then hBl)
    have HK := hidK hK
    rw [hrz] at HT0
    have HT1 := hidK HT0.out
    clear HT0 hrz
    cases hz : (z == 0)
    · have HT2 := hidK (show wrT d tb k a b c v = tb by rw [HT1.out, if_neg (by simpa using hz)])
      clear hT hK hBl
      go_wp2
      go_ret
      exact ⟨rfl, by rw [HD.out, HT2.out]; exact HK.out.quiet HS.out ((Below.refl _ _).alloc (Nat.le_refl _) _), HB1.out.then (Fr.alloc _ _ _)⟩
    · obtain ⟨hr, hc2⟩ := hT (by simpa using hz)
      have HT2 := hidK (show wrT d tb k a b c v = upd tb (pickN b 60).toNat (wrote (tb (pickN b 60).toNat) r) by rw [HT1.out, if_pos (by simpa using hz)])
      have HT := hidK (hc2 _ ((Below.refl _ w1).alloc (Nat.le_refl _) (.cells #[.int .i64 r.p, .int .i64 r.s, .int .i64 r.v] 36)))
      clear hT hK hBl hc2
      go_wp2_with (first | (go_at_call 24; refine HT.out.mono ?_; rintro e2 w2 ⟨rfl, hK2, hB2⟩; have HK2 := hidK hK2; have HB2 := hidK hB2; clear hK2 hB2))
      go_ret
      exact ⟨rfl, by rw [HD.out, HT2.out]; exact HK2.out, (HB1.out.then (Fr.alloc _ _ _)).then HB2.out⟩
  · have hk9 : pickN k 10 = 0 := by simpa using hk0
    have HD := hidK (show wrD d k a b c v = (opP d a b c v).1 by unfold wrD; rw [if_pos hk9])
    have HT0 := hidK (show wrT d tb k a b c v = if (opP d a b c v).2.2.2 = 0 ∧ (opP d a b c v).2.2.1 = true then upd tb (opP d a b c v).2.1.toNat (wrote (tb (opP d a b c v).2.1.toNat) ⟨1 + pickN b 3, 1 + pickN c 99, -1⟩) else tb by unfold wrT; rw [if_pos hk9])
    clear hk9
    go_enter Try.func53, Try.ntmps53
    go_wp2_with (first | (go_at_call 17; refine (kpick_any _ _ (by omega) (by omega) (by omega) _).mono ?_; rintro e w1 ⟨rfl, hw1⟩; rw [hw1]; clear hw1))
    refine HP.out.mono ?_
    rintro e1 w1 ⟨kk, t, z, rfl, hq, hK, hBl, hT⟩
    have hq : (opP d a b c v).2 = (kk, t, z) := hq
    have hK : Kg R own cb bb (opP d a b c v).1 tb w1 := hK
    have HB1 := hidK ((Fr.below (S := MayTurn own bb) HBA.out).then hBl)
    have HK := hidK hK
    rw [hq] at HT0
    have HT1 := hidK HT0.out
    clear HT0 hq
    by_cases hz : z = 0
    · subst hz
      cases t
      · have HT2 := hidK (show wrT d tb k a b c v = tb by rw [HT1.out, if_neg (fun x => by have := x.2; simp at this)])
        clear hT hK hBl
        go_wp2
        go_ret
        exact ⟨rfl, by rw [HD.out, HT2.out]; exact HK.out, HB1.out⟩
      · obtain ⟨n, rfl, hc2⟩ := hT rfl
        have HT2 := hidK (show wrT d tb k a b c v = upd tb n (wrote (tb n) ⟨1 + pickN b 3, 1 + pickN c 99, -1⟩) by rw [HT1.out, if_pos ⟨rfl, rfl⟩]; rfl)
        have HT := hidK (hc2 w1 (Below.refl _ _))
        unfold recVal at HT
        clear hT hK hBl hc2
        go_wp2_with (first | (go_at_call 24; refine HT.out.mono ?_; rintro e2 w2 ⟨rfl, hK2, hB2⟩; have HK2 := hidK hK2; have HB2 := hidK hB2; clear hK2 hB2))
        go_ret
        exact ⟨rfl, by rw [HD.out, HT2.out]; exact HK2.out, HB1.out.then HB2.out⟩
    · have hzb : (z == 0) = false := by simp [hz]
      have HT2 := hidK (show wrT d tb k a b c v = tb by rw [HT1.out, if_neg (fun x => hz x.1)])
      clear hT hK hBl
      go_wp2
      go_ret
      exact ⟨rfl, by rw [HD.out, HT2.out]; exact HK.out, HB1.out⟩
end
end Go.Proofs.Ythpjcmilfipbaaa

namespace Go.Proofs.Ythpjcmilfipbaaa
set_option linter.unusedVariables false
set_option linter.unusedSimpArgs false
open Go.RowKit
section
variable {R : World → (Nat → Prop) → Nat → Wd → Prop} {w w1 : World} {own : Nat → Prop} {cb bb : Nat} {d : Wd} {tb : Nat → Rec}
set_option maxHeartbeats 3200000 in
theorem gstep_any (s : Side R fnPrg 41 36) (h : Kg R own cb bb d tb w) (k a b c v : Int) (hk : In64 k) (ha : In64 a) (hb : In64 b) (hc : In64 c) (hv : In64 v) :
    Calls Try.prog 25 #[.pointer (some ⟨bb, 0, none⟩), .pointer (some ⟨cb, 0, none⟩), kopVal k a b c v] w fun e w' => e = .returned (.bool true) ∧ Kg R own cb bb (opD d k a b c v) (opT d tb k a b c v) w' ∧ Fr (MayTurn own bb) w w' := by
  have HBA := hidK ((Below.refl w.heap.size w).alloc (Nat.le_refl _) (.cells #[.int .i64 k, .int .i64 a, .int .i64 b, .int .i64 c, .int .i64 v] 30))
  have HA := hidK (h.quiet s HBA.out)
  have HW := hidK (gwrites_any s HA.out k a b c v hk ha hb hc hv)
  have HS := hidK s
  have HB1 := hidK (Fr.below (S := MayTurn own bb) HBA.out)
  unfold kopVal at HW ⊢
  have p1 := pickN_bd a 5 (by omega)
  have p2 := pickN_bd a 50 (by omega)
  have p3 := pickN_bd a 31 (by omega)
  have p4 := pickN_bd b 5 (by omega)
  have p5 := pickN_bd k 10 (by omega)
  have w2 : IntKind.i64.wrap (1 + pickN a 31) = 1 + pickN a 31 := by simp only [IntKind.wrap_i64]; omega
  obtain ⟨k0, k1⟩ := hk
  obtain ⟨a0, a1⟩ := ha
  obtain ⟨b0, b1⟩ := hb
  clear h s
  have hq : pickN k 10 = 0 ∨ pickN k 10 = 1 ∨ pickN k 10 = 2 ∨ pickN k 10 = 3 ∨ pickN k 10 = 4 ∨ pickN k 10 = 5 ∨ pickN k 10 = 6 ∨ pickN k 10 = 7 ∨ pickN k 10 = 8 ∨ pickN k 10 = 9 := by omega
  clear p5
  rcases hq with hq | hq | hq | hq | hq | hq | hq | hq | hq | hq
  · have HD := hidK (show opD d k a b c v = wrD d k a b c v by unfold opD; rw [if_pos (by omega)])
    have HT := hidK (show opT d tb k a b c v = wrT d tb k a b c v by unfold opT; rw [if_pos (by omega)])
    go_enter Try.func25, Try.ntmps25
    go_wp2_with (first | (go_at_call 17; refine (kpick_any _ _ (by omega) (by omega) (by omega) _).mono ?_; rintro e w1 ⟨rfl, hw1⟩; rw [hw1]; clear hw1) | (go_at_call 53; refine HW.out.mono ?_; rintro e2 w2 ⟨rfl, hK2, hB2⟩; have HK2 := hidK hK2; have HB2 := hidK hB2; clear hK2 hB2))
    go_ret
    exact ⟨rfl, by rw [HD.out, HT.out]; exact HK2.out, HB1.out.then HB2.out⟩
  · have HD := hidK (show opD d k a b c v = wrD d k a b c v by unfold opD; rw [if_pos (by omega)])
    have HT := hidK (show opT d tb k a b c v = wrT d tb k a b c v by unfold opT; rw [if_pos (by omega)])
    go_enter Try.func25, Try.ntmps25
    go_wp2_with (first | (go_at_call 17; refine (kpick_any _ _ (by omega) (by omega) (by omega) _).mono ?_; rintro e w1 ⟨rfl, hw1⟩; rw [hw1]; clear hw1) | (go_at_call 53; refine HW.out.mono ?_; rintro e2 w2 ⟨rfl, hK2, hB2⟩; have HK2 := hidK hK2; have HB2 := hidK hB2; clear hK2 hB2))
    go_ret
    exact ⟨rfl, by rw [HD.out, HT.out]; exact HK2.out, HB1.out.then HB2.out⟩
  · have HD := hidK (show opD d k a b c v = (Cl.drop (pickN a 50)).next d by unfold opD; rw [if_neg (by omega), if_pos hq]; rfl)
    have HT := hidK (show opT d tb k a b c v = tb by unfold opT; rw [if_neg (by omega)])
    have HC := hidK (HA.out.call HS.out (.drop (pickN a 50)) ⟨by omega, by omega⟩)
    go_enter Try.func25, Try.ntmps25
    go_wp2_with (first | (go_at_call 17; refine (kpick_any _ _ (by omega) (by omega) (by omega) _).mono ?_; rintro e w1 ⟨rfl, hw1⟩; rw [hw1]; clear hw1) | (go_at_call 20; refine HC.out.mono ?_; rintro e2 w2 ⟨rfl, hK2, hB2⟩; have HK2 := hidK hK2; have HB2 := hidK hB2; clear hK2 hB2))
    go_ret
    exact ⟨rfl, by rw [HD.out, HT.out]; exact HK2.out, HB1.out.then HB2.out⟩
  · have HD := hidK (show opD d k a b c v = (Cl.twice (pickN a 50)).next d by unfold opD; rw [if_neg (by omega), if_neg (by omega), if_pos hq]; rfl)
    have HT := hidK (show opT d tb k a b c v = tb by unfold opT; rw [if_neg (by omega)])
    have HC := hidK (HA.out.call HS.out (.twice (pickN a 50)) ⟨by omega, by omega⟩)
    go_enter Try.func25, Try.ntmps25
    go_wp2_with (first | (go_at_call 17; refine (kpick_any _ _ (by omega) (by omega) (by omega) _).mono ?_; rintro e w1 ⟨rfl, hw1⟩; rw [hw1]; clear hw1) | (go_at_call 21; refine HC.out.mono ?_; rintro e2 w2 ⟨rfl, hK2, hB2⟩; have HK2 := hidK hK2; have HB2 := hidK hB2; clear hK2 hB2))
    go_ret
    exact ⟨rfl, by rw [HD.out, HT.out]; exact HK2.out, HB1.out.then HB2.out⟩
  · have HD := hidK (show opD d k a b c v = (Cl.crash (pickN a 5)).next d by unfold opD; rw [if_neg (by omega), if_neg (by omega), if_neg (by omega), if_pos hq]; rfl)
    have HT := hidK (show opT d tb k a b c v = tb by unfold opT; rw [if_neg (by omega)])
    have HC := hidK (HA.out.call HS.out (.crash (pickN a 5)) ⟨by omega, by omega⟩)
    go_enter Try.func25, Try.ntmps25
    go_wp2_with (first | (go_at_call 17; refine (kpick_any _ _ (by omega) (by omega) (by omega) _).mono ?_; rintro e w1 ⟨rfl, hw1⟩; rw [hw1]; clear hw1) | (go_at_call 54; refine HC.out.mono ?_; rintro e2 w2 ⟨rfl, hK2, hB2⟩; have HK2 := hidK hK2; have HB2 := hidK hB2; clear hK2 hB2))
    go_ret
    exact ⟨rfl, by rw [HD.out, HT.out]; exact HK2.out, HB1.out.then HB2.out⟩
  · have HD := hidK (show opD d k a b c v = (Cl.restart (pickN a 5)).next d by unfold opD; rw [if_neg (by omega), if_neg (by omega), if_neg (by omega), if_neg (by omega), if_pos hq]; rfl)
    have HT := hidK (show opT d tb k a b c v = tb by unfold opT; rw [if_neg (by omega)])
    have HC := hidK (HA.out.call HS.out (.restart (pickN a 5)) ⟨by omega, by omega⟩)
    go_enter Try.func25, Try.ntmps25
    go_wp2_with (first | (go_at_call 17; refine (kpick_any _ _ (by omega) (by omega) (by omega) _).mono ?_; rintro e w1 ⟨rfl, hw1⟩; rw [hw1]; clear hw1) | (go_at_call 55; refine HC.out.mono ?_; rintro e2 w2 ⟨rfl, hK2, hB2⟩; have HK2 := hidK hK2; have HB2 := hidK hB2; clear hK2 hB2))
    go_ret
    exact ⟨rfl, by rw [HD.out, HT.out]; exact HK2.out, HB1.out.then HB2.out⟩
  · have HD := hidK (show opD d k a b c v = (Cl.conf (1 + pickN a 31) (pickN b 5)).next d by unfold opD; rw [if_neg (by omega), if_neg (by omega), if_neg (by omega), if_neg (by omega), if_neg (by omega), if_pos hq]; rfl)
    have HT := hidK (show opT d tb k a b c v = tb by unfold opT; rw [if_neg (by omega)])
    have HC := hidK (HA.out.call HS.out (.conf (1 + pickN a 31) (pickN b 5)) ⟨⟨by omega, by omega⟩, ⟨by omega, by omega⟩⟩)
    go_enter Try.func25, Try.ntmps25
    go_wp2_with (first | (go_at_call 17; refine (kpick_any _ _ (by omega) (by omega) (by omega) _).mono ?_; rintro e w1 ⟨rfl, hw1⟩; rw [hw1]; clear hw1) | (go_at_call 29; refine HC.out.mono ?_; rintro e2 w2 ⟨rfl, hK2, hB2⟩; have HK2 := hidK hK2; have HB2 := hidK hB2; clear hK2 hB2))
    go_ret
    exact ⟨rfl, by rw [HD.out, HT.out]; exact HK2.out, HB1.out.then HB2.out⟩
  · have HD := hidK (show opD d k a b c v = (Cl.remind).next d by unfold opD; rw [if_neg (by omega), if_neg (by omega), if_neg (by omega), if_neg (by omega), if_neg (by omega), if_neg (by omega), if_pos hq]; rfl)
    have HT := hidK (show opT d tb k a b c v = tb by unfold opT; rw [if_neg (by omega)])
    have HC := hidK (HA.out.call HS.out (.remind) trivial)
    go_enter Try.func25, Try.ntmps25
    go_wp2_with (first | (go_at_call 17; refine (kpick_any _ _ (by omega) (by omega) (by omega) _).mono ?_; rintro e w1 ⟨rfl, hw1⟩; rw [hw1]; clear hw1) | (go_at_call 56; refine HC.out.mono ?_; rintro e2 w2 ⟨rfl, hK2, hB2⟩; have HK2 := hidK hK2; have HB2 := hidK hB2; clear hK2 hB2))
    go_ret
    exact ⟨rfl, by rw [HD.out, HT.out]; exact HK2.out, HB1.out.then HB2.out⟩
  · have HD := hidK (show opD d k a b c v = (Cl.deliver (pickN a 50)).next d by unfold opD; rw [if_neg (by omega), if_neg (by omega), if_neg (by omega), if_neg (by omega), if_neg (by omega), if_neg (by omega), if_neg (by omega)]; rfl)
    have HT := hidK (show opT d tb k a b c v = tb by unfold opT; rw [if_neg (by omega)])
    have HC := hidK (HA.out.call HS.out (.deliver (pickN a 50)) ⟨by omega, by omega⟩)
    go_enter Try.func25, Try.ntmps25
    go_wp2_with (first | (go_at_call 17; refine (kpick_any _ _ (by omega) (by omega) (by omega) _).mono ?_; rintro e w1 ⟨rfl, hw1⟩; rw [hw1]; clear hw1) | (go_at_call 52; refine HC.out.mono ?_; rintro e2 w2 ⟨rfl, hK2, hB2⟩; have HK2 := hidK hK2; have HB2 := hidK hB2; clear hK2 hB2))
    go_ret
    exact ⟨rfl, by rw [HD.out, HT.out]; exact HK2.out, HB1.out.then HB2.out⟩
  · have HD := hidK (show opD d k a b c v = (Cl.deliver (pickN a 50)).next d by unfold opD; rw [if_neg (by omega), if_neg (by omega), if_neg (by omega), if_neg (by omega), if_neg (by omega), if_neg (by omega), if_neg (by omega)]; rfl)
    have HT := hidK (show opT d tb k a b c v = tb by unfold opT; rw [if_neg (by omega)])
    have HC := hidK (HA.out.call HS.out (.deliver (pickN a 50)) ⟨by omega, by omega⟩)
    go_enter Try.func25, Try.ntmps25
    go_wp2_with (first | (go_at_call 17; refine (kpick_any _ _ (by omega) (by omega) (by omega) _).mono ?_; rintro e w1 ⟨rfl, hw1⟩; rw [hw1]; clear hw1) | (go_at_call 52; refine HC.out.mono ?_; rintro e2 w2 ⟨rfl, hK2, hB2⟩; have HK2 := hidK hK2; have HB2 := hidK hB2; clear hK2 hB2))
    go_ret
    exact ⟨rfl, by rw [HD.out, HT.out]; exact HK2.out, HB1.out.then HB2.out⟩
end
end Go.Proofs.Ythpjcmilfipbaaa
