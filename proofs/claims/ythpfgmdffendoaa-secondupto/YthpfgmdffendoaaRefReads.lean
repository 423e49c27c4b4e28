/- My own text. Walks of package ledgerref that only read: count, find, in, refuses, done. -/
import Derived.Test.YthpfgmdffendoaaRows
import Derived.WalkKit
import Derived.WalkSpells
import Derived.WalkLawsBesides
import Derived.Deep.RegionHeld3
import Derived.Deep.QuietTactic
import Derived.BigQuiet
import Derived.Deep.RegionLaw
import Derived.Deep.AppendLies
import Derived.Test.YthpfgmdffendoaaRefMem
namespace Go.Proofs.Ythpfgmdffendoaa
set_option linter.unusedVariables false
set_option linter.unusedSimpArgs false
open Go.RowKit
theorem ret_boolR {a b : Bool} (h : a = b) : Ending.returned (.bool a) = .returned (.bool b) := by rw [h]
theorem ret_intR {k : IntKind} {a b : Int} (h : a = b) : Ending.returned (.int k a) = .returned (.int k b) := by rw [h]

set_option maxHeartbeats 400000 in
theorem rcount_any (l : List Rec) (hl : l.length ≤ 60) (w : World) :
    Calls Try.prog 60 #[.string (encB l)] w fun e w' => e = .returned (.int .i64 l.length) ∧ w' = w := by
  have hs := encB_size l
  go_enter Try.func60, Try.ntmps60
  go_wp2
  go_ret
  exact ⟨by simp, rfl⟩

/-- The three bytes of a record, as numbers. -/
theorem enc_idx (l : List Rec) (k : Nat) (r : Rec) (hr : l[k]? = some r) (hok : recOk r) (w : World) :
    (Instr.index 9 (.string (encB l)) (.int .i64 (3 * (k : Int)))).run Try.prog w = .ok (.int .u8 r.p) w ∧
    (Instr.index 9 (.string (encB l)) (.int .i64 (3 * (k : Int) + 1))).run Try.prog w = .ok (.int .u8 r.s) w ∧
    (Instr.index 9 (.string (encB l)) (.int .i64 (3 * (k : Int) + 2))).run Try.prog w = .ok (.int .u8 r.v) w := by
  have hk : k < l.length := (List.getElem?_eq_some_iff.1 hr).1
  have hs := encB_size l
  obtain ⟨p0, p1, s0, s1, v0, v1⟩ := hok
  have key : ∀ (j : Nat) (x : Int), j < 3 → 0 ≤ x → x ≤ 255 → [UInt8.ofNat r.p.toNat, UInt8.ofNat r.s.toNat, UInt8.ofNat r.v.toNat][j]? = some (UInt8.ofNat x.toNat) →
      (Instr.index 9 (.string (encB l)) (.int .i64 (3 * (k : Int) + j))).run Try.prog w = .ok (.int .u8 x) w := by
    intro j x hj h0 h1 hx
    rw [run_index_string w 9 (encB l) .i64 _ Try.underlying9]
    have hin : 0 ≤ 3 * (k : Int) + j ∧ 3 * (k : Int) + j < (encB l).size := by rw [hs]; omega
    rw [dif_pos hin]
    have e1 : (3 * (k : Int) + j).toNat = k * 3 + j := by omega
    have hlt : k * 3 + j < (encB l).size := by rw [hs]; omega
    have e2 := encB_at l k j r hr hj hlt
    rw [hx] at e2
    have e3 : (encB l)[k * 3 + j] = UInt8.ofNat x.toNat := by simpa using e2
    have e4 : ((encB l)[(3 * (k : Int) + j).toNat]'(by rw [e1]; exact hlt)) = UInt8.ofNat x.toNat := by
      rw [← e3]; congr 1
    rw [e4, byte_nat h0 h1]
  exact ⟨by simpa using key 0 r.p (by omega) p0 p1 rfl, by simpa using key 1 r.s (by omega) s0 s1 rfl, by simpa using key 2 r.v (by omega) v0 v1 rfl⟩

set_option maxHeartbeats 800000 in
theorem rfind_any (l : List Rec) (hl : l.length ≤ 60) (hok : ∀ r ∈ l, recOk r) (p s : Int) (w : World) :
    Calls Try.prog 59 #[.string (encB l), .int .i64 p, .int .i64 s] w fun e w' => e = .returned (.int .i64 (offsetOf l p s)) ∧ w' = w := by
  have HK : Hid (∀ r ∈ l, recOk r) := hok
  clear hok
  go_enter Try.func59, Try.ntmps59
  go_wp2
  go_loop [7] (fun i => ∃ k : Nat, k ≤ l.length ∧ i = .int .i64 k ∧ (∀ j r, j < k → l[j]? = some r → ¬ (r.p = p ∧ r.s = s))) (fun i => l.length - (intOf i).toNat)
  case atStart => exact ⟨0, Nat.zero_le _, rfl, fun j r hj => by omega⟩
  case round =>
    obtain ⟨k, hk, rfl, hno⟩ := hrel
    have HN : Hid (∀ j r, j < k → l[j]? = some r → ¬ (r.p = p ∧ r.s = s)) := hno
    clear hno
    by_cases hlt : k < l.length
    · have hr : l[k]? = some l[k] := by simp [hlt]
      have hx := HK.out l[k] (List.getElem_mem hlt)
      have hi := fun w' => enc_idx l k l[k] hr hx w'
      obtain ⟨p0, p1, s0, s1, v0, v1⟩ := hx
      generalize l[k] = x at hr hi p0 p1 s0 s1 v0 v1
      have HR : Hid (l[k]? = some x) := hr
      clear hr
      obtain ⟨i0, i1, i2⟩ := hi w
      clear hi i2
      by_cases e1 : x.p = p
      · by_cases e2 : x.s = s
        · have b1 : (x.p == p) = true := by simpa using e1
          have b2 : (x.s == s) = true := by simpa using e2
          have HF : Hid (offsetOf l p s = k) := offsetOf_at l p s k x HN.out HR.out ⟨e1, e2⟩
          clear e1 e2
          go_wp2_with (go_at_call 60; refine (rcount_any l hl _).mono ?_; rintro e w' ⟨rfl, rfl⟩)
          go_ret
          exact ⟨ret_intR HF.out.symm, rfl⟩
        · have b1 : (x.p == p) = true := by simpa using e1
          have b2 : (x.s == s) = false := by simpa using e2
          have HE : Hid (¬ x.s = s) := e2
          clear e1 e2
          go_wp2_with (go_at_call 60; refine (rcount_any l hl _).mono ?_; rintro e w' ⟨rfl, rfl⟩)
          go_round
          case rel =>
            refine ⟨k + 1, by omega, by go_num, fun j r hj hjr => ?_⟩
            by_cases e : j = k
            · subst e; have := HR.out; rw [this] at hjr; simp at hjr; subst hjr; exact fun ⟨_, e⟩ => HE.out e
            · exact HN.out j r (by omega) hjr
          case measure => simp [intOf]; omega
      · have b1 : (x.p == p) = false := by simpa using e1
        have HE : Hid (¬ x.p = p) := e1
        clear e1
        go_wp2_with (go_at_call 60; refine (rcount_any l hl _).mono ?_; rintro e w' ⟨rfl, rfl⟩)
        go_round
        case rel =>
          refine ⟨k + 1, by omega, by go_num, fun j r hj hjr => ?_⟩
          by_cases e : j = k
          · subst e; have := HR.out; rw [this] at hjr; simp at hjr; subst hjr; exact fun ⟨e, _⟩ => HE.out e
          · exact HN.out j r (by omega) hjr
        case measure => simp [intOf]; omega
    · have HF : Hid (offsetOf l p s = -1) := offsetOf_none l p s (fun j r hj => HN.out j r (by omega))
      go_wp2_with (go_at_call 60; refine (rcount_any l hl _).mono ?_; rintro e w' ⟨rfl, rfl⟩)
      go_ret
      exact ⟨ret_intR HF.out.symm, rfl⟩
theorem bits_one (q : Int) (h0 : 0 ≤ q) (h1 : q < 32) : bits BinOp.and IntKind.i64 q 1 = q % 2 := by
  obtain ⟨n, rfl⟩ := Int.eq_ofNat_of_zero_le h0
  have : ∀ n : Fin 32, bits BinOp.and IntKind.i64 ((n : Nat) : Int) 1 = ((n : Nat) : Int) % 2 := by decide
  exact this ⟨n, by omega⟩
section
variable {w : World} {S : Nat → Prop} {b : Nat} {d : Wd} {ev uv : Value}

set_option maxHeartbeats 800000 in
theorem rin_any (h : RRep w S b d ev uv) (hok : ROk d) (m : Nat) (hm : m < d.eras.length) (i : Nat) (hi : i < 5) :
    Calls Try.prog 62 #[.pointer (some ⟨b, 0, none⟩), .int .i64 ((m : Int) + 1), .int .i64 i] w fun e w' => e = .returned (.bool (rIn d ((m : Int) + 1) i)) ∧ w' = w := by
  have he := h.cEras
  have h40 := hok.e40
  obtain ⟨ao, cap, rfl, hcap, _, hpos⟩ := ownsRow_shape h.eras
  obtain ⟨g, rfl⟩ := hpos (by omega)
  obtain ⟨c0, _, _⟩ := era_cells h.eras m d.eras[m] (by simp [hm])
  have hb := hok.era m d.eras[m] (by simp [hm])
  obtain ⟨m1, m32, _⟩ := hb
  have HF : Hid (rIn d ((m : Int) + 1) i = decide (d.eras[m].members / 2 ^ i % 2 = 1)) := by
    show rIn d ((m : Int) + 1) i = _
    have : ((m : Int) + 1 - 1).toNat = m := by omega
    simp [rIn, Wd.era, this, hm]
  generalize d.eras[m].members = q at c0 m1 m32 HF
  clear h hok hpos
  match i, hi with
  | 0, _ | 1, _ | 2, _ | 3, _ | 4, _ =>
    go_enter Try.func62, Try.ntmps62
    go_wp2
    go_ret
    refine ⟨ret_boolR ?_, rfl⟩
    rw [HF.out]
    rw [bits_one _ (by omega) (by omega), Bool.eq_iff_iff]
    simp only [beq_iff_eq, decide_eq_true_eq]
    first
      | exact Iff.rfl
      | (simp; done)
      | (constructor <;> intro h <;> simp at * <;> omega)

set_option maxHeartbeats 800000 in
theorem rref_nil (node : Int) (up : Bool) (w : World) :
    Calls Try.prog 58 #[.pointer none, .int .i64 node, .bool up] w fun e w' => e = .returned (.int .i64 1) ∧ w' = w := by
  go_enter Try.func58, Try.ntmps58
  go_wp2
  go_ret
  exact ⟨rfl, rfl⟩

set_option maxHeartbeats 800000 in
theorem rref_any (h : RRep w S b d ev uv) (node : Int) (up : Bool) :
    Calls Try.prog 58 #[.pointer (some ⟨b, 0, none⟩), .int .i64 node, .bool up] w fun e w' => e = .returned (.int .i64 (rRef d node up)) ∧ w' = w := by
  by_cases hn : 0 ≤ node ∧ node < 5
  · obtain ⟨h0, h5⟩ := hn
    obtain ⟨k, rfl⟩ := Int.eq_ofNat_of_zero_le h0
    have hk : k < 5 := by omega
    have hb : nodeB (k : Int) = true := by simp [nodeB]; omega
    have hc := h.cUp k hk
    clear h
    cases up
    · have HF : Hid (rRef d (k : Int) false = 0) := by show rRef d (k : Int) false = 0; simp [rRef, hb]
      go_enter Try.func58, Try.ntmps58
      go_wp2
      go_ret
      exact ⟨ret_intR HF.out.symm, rfl⟩
    · cases hup : (d.mem k).up <;> rw [hup] at hc
      · have HF : Hid (rRef d (k : Int) true = 3) := by show rRef d (k : Int) true = 3; simp [rRef, hb, hup]
        go_enter Try.func58, Try.ntmps58
        go_wp2
        go_ret
        exact ⟨ret_intR HF.out.symm, rfl⟩
      · have HF : Hid (rRef d (k : Int) true = 0) := by show rRef d (k : Int) true = 0; simp [rRef, hb, hup]
        go_enter Try.func58, Try.ntmps58
        go_wp2
        go_ret
        exact ⟨ret_intR HF.out.symm, rfl⟩
  · have hb : nodeB node = false := by simp [nodeB]; omega
    have HF : Hid (rRef d node up = 2) := by show rRef d node up = 2; simp [rRef, hb]
    clear h hb
    by_cases h0 : node < 0
    · clear hn
      go_enter Try.func58, Try.ntmps58
      go_wp2
      go_ret
      exact ⟨ret_intR HF.out.symm, rfl⟩
    · have h5 : 5 ≤ node := by omega
      clear hn
      go_enter Try.func58, Try.ntmps58
      go_wp2
      go_ret
      exact ⟨ret_intR HF.out.symm, rfl⟩

theorem wp_genR {P : Program} {c : Code} {Q : Exit → Act → World → Prop} {a : Act} {w : World} (F : World → Prop) (hF : F w) (h : ∀ W, F W → c.wp P Q a W) : c.wp P Q a w := h w hF
/-- All cells of a member. -/
theorem RRep.member (h : RRep w S b d ev uv) (k : Nat) (hk : k < 5) :
    w.cell? ⟨b, k * 15, none⟩ = some (.bool (d.mem k).up) ∧ w.cell? ⟨b, k * 15 + 1, none⟩ = some (.int .i64 (d.mem k).follows) ∧ w.cell? ⟨b, k * 15 + 2, none⟩ = some (.int .i64 (d.mem k).given) ∧
    w.cell? ⟨b, k * 15 + 3, none⟩ = some (.int .i64 (d.mem k).role) ∧ w.cell? ⟨b, k * 15 + 4, none⟩ = some (.string (encB (d.mem k).log)) ∧
    w.cell? ⟨b, k * 15 + 5, none⟩ = some (.int .i64 ((d.mem k).knows 0)) ∧ w.cell? ⟨b, k * 15 + 6, none⟩ = some (.int .i64 ((d.mem k).knows 1)) ∧ w.cell? ⟨b, k * 15 + 7, none⟩ = some (.int .i64 ((d.mem k).knows 2)) ∧
    w.cell? ⟨b, k * 15 + 8, none⟩ = some (.int .i64 ((d.mem k).knows 3)) ∧ w.cell? ⟨b, k * 15 + 9, none⟩ = some (.int .i64 ((d.mem k).knows 4)) ∧
    w.cell? ⟨b, k * 15 + 10, none⟩ = some (.bool ((d.mem k).has 0)) ∧ w.cell? ⟨b, k * 15 + 11, none⟩ = some (.bool ((d.mem k).has 1)) ∧ w.cell? ⟨b, k * 15 + 12, none⟩ = some (.bool ((d.mem k).has 2)) ∧
    w.cell? ⟨b, k * 15 + 13, none⟩ = some (.bool ((d.mem k).has 3)) ∧ w.cell? ⟨b, k * 15 + 14, none⟩ = some (.bool ((d.mem k).has 4)) :=
  ⟨h.cUp k hk, h.cFol k hk, h.cGiv k hk, h.cRol k hk, h.cLog k hk, h.cKno k 0 hk (by omega), h.cKno k 1 hk (by omega), h.cKno k 2 hk (by omega), h.cKno k 3 hk (by omega), h.cKno k 4 hk (by omega),
    h.cHas k 0 hk (by omega), h.cHas k 1 hk (by omega), h.cHas k 2 hk (by omega), h.cHas k 3 hk (by omega), h.cHas k 4 hk (by omega)⟩
/-- The copy of a member in a block of its own. -/
def Copy (w : World) (B : Nat) (m : Mem) : Prop :=
  ∃ cs, w.heap[B]? = some (.cells cs 100 (0, 0)) ∧ cs[0]? = some (.bool m.up) ∧ cs[1]? = some (.int .i64 m.follows) ∧ cs[2]? = some (.int .i64 m.given) ∧ cs[3]? = some (.int .i64 m.role) ∧
    cs[4]? = some (.string (encB m.log)) ∧ (∀ j, j < 5 → cs[5 + j]? = some (.int .i64 (m.knows j))) ∧ (∀ j, j < 5 → cs[10 + j]? = some (.bool (m.has j)))
theorem copy_alloc (w : World) (m : Mem) : Copy (w.alloc (.cells #[.bool m.up, .int .i64 m.follows, .int .i64 m.given, .int .i64 m.role, .string (encB m.log), .int .i64 (m.knows 0), .int .i64 (m.knows 1), .int .i64 (m.knows 2), .int .i64 (m.knows 3), .int .i64 (m.knows 4),
    .bool (m.has 0), .bool (m.has 1), .bool (m.has 2), .bool (m.has 3), .bool (m.has 4)] 100)) w.heap.size m := by
  refine ⟨_, heap_alloc_new w _, rfl, rfl, rfl, rfl, rfl, fun j hj => ?_, fun j hj => ?_⟩
  · match j, hj with
    | 0, _ => rfl
    | 1, _ => rfl
    | 2, _ => rfl
    | 3, _ => rfl
    | 4, _ => rfl
  · match j, hj with
    | 0, _ => rfl
    | 1, _ => rfl
    | 2, _ => rfl
    | 3, _ => rfl
    | 4, _ => rfl
theorem Copy.same {w w' : World} {B : Nat} {m : Mem} (h : Copy w B m) (hB : w'.heap[B]? = w.heap[B]?) : Copy w' B m := by
  obtain ⟨cs, h1, r⟩ := h
  exact ⟨cs, hB.trans h1, r⟩
theorem Copy.drewC {w : World} {B : Nat} {m : Mem} (h : Copy w B m) : Copy w.drew B m := h
theorem Copy.lt {w : World} {B : Nat} {m : Mem} (h : Copy w B m) : B < w.heap.size := by
  obtain ⟨cs, h1, _⟩ := h
  exact (Array.getElem?_eq_some_iff.1 h1).1
theorem Copy.cells {w : World} {B : Nat} {m : Mem} (h : Copy w B m) : w.cell? ⟨B, 1, none⟩ = some (.int .i64 m.follows) ∧ w.cell? ⟨B, 2, none⟩ = some (.int .i64 m.given) ∧ w.cell? ⟨B, 3, none⟩ = some (.int .i64 m.role) ∧ w.cell? ⟨B, 4, none⟩ = some (.string (encB m.log)) := by
  obtain ⟨cs, h1, c0, c1, c2, c3, c4, _⟩ := h
  exact ⟨(cell_of_row _ _ _ _ _ _ h1).trans c1, (cell_of_row _ _ _ _ _ _ h1).trans c2, (cell_of_row _ _ _ _ _ _ h1).trans c3, (cell_of_row _ _ _ _ _ _ h1).trans c4⟩
theorem Copy.knows {w : World} {B : Nat} {m : Mem} (h : Copy w B m) (j : Nat) (hj : j < 5) : w.cell? ⟨B, 5 + j, none⟩ = some (.int .i64 (m.knows j)) := by
  obtain ⟨cs, h1, _, _, _, _, _, hk, _⟩ := h
  exact (cell_of_row _ _ _ _ _ _ h1).trans (hk j hj)
theorem Copy.has {w : World} {B : Nat} {m : Mem} (h : Copy w B m) (j : Nat) (hj : j < 5) : w.cell? ⟨B, 10 + j, none⟩ = some (.bool (m.has j)) := by
  obtain ⟨cs, h1, _, _, _, _, _, _, hh⟩ := h
  exact (cell_of_row _ _ _ _ _ _ h1).trans (hh j hj)

set_option maxHeartbeats 1600000 in
set_option maxRecDepth 100000 in
theorem rdone_any (h : RRep w S b d ev uv) (hok : ROk d) (k : Nat) (hk : k < 5) :
    Calls Try.prog 61 #[.pointer (some ⟨b, 0, none⟩), .int .i64 k] w fun e w' => e = .returned (.int .i64 (rDone d k)) ∧ Below w.heap.size w w' := by
  obtain ⟨m0, m1, m2, m3, m4, m5, m6, m7, m8, m9, m10, m11, m12, m13, m14⟩ := h.member k hk
  have hb := h.lt
  have H : Hid (RRep w S b d ev uv) := h
  have HO : Hid (ROk d) := hok
  have hlen := hok.log k hk
  clear h hok
  by_cases hr : (d.mem k).role = 3
  rotate_left
  · have hr' : ((d.mem k).role != 3) = true := by simp [hr]
    have HF : Hid (rDone d k = 0) := by show rDone d k = 0; simp [rDone, hr]
    clear hr
    go_enter Try.func61, Try.ntmps61
    go_wp2_with fail
    go_ret
    exact ⟨ret_intR HF.out.symm, (Below.refl _ _).alloc (Nat.le_refl _) _⟩
  have HF : Hid (rDone d k = rDoneTo d k 5) := by show rDone d k = _; simp [rDone, hr]
  have hfol := HO.out.rol k hk (by omega)
  have hfol2 := (HO.out.fol k hk).2
  have h40 := HO.out.e40
  obtain ⟨q, hq⟩ : ∃ q : Nat, (d.mem k).follows = (q : Int) + 1 := ⟨((d.mem k).follows - 1).toNat, by omega⟩
  have HQ : Hid ((d.mem k).follows = (q : Int) + 1) := hq
  have hql : q < d.eras.length := by omega
  have hr2 : ((d.mem k).role != 3) = false := by simp [hr]
  clear hr hfol hfol2 hq
  go_enter Try.func61, Try.ntmps61
  go_wp2_with (first | (go_at_call 60; refine (rcount_any _ hlen _).mono ?_; rintro e w' ⟨rfl, rfl⟩))
  refine wp_genR (fun W => RRep W S b d ev uv ∧ Below w.heap.size w W ∧ Copy W w.heap.size (d.mem k)) ⟨H.out.alloc _, (Below.refl _ _).alloc (Nat.le_refl _) _, copy_alloc w _⟩ ?_
  rintro W ⟨hWR, hWB, hWC⟩
  obtain ⟨f1, _, _, _⟩ := hWC.cells
  rw [HQ.out] at f1
  have HWR : Hid (RRep W S b d ev uv) := hWR
  have HWB : Hid (Below w.heap.size w W) := hWB
  have HWC : Hid (Copy W w.heap.size (d.mem k)) := hWC
  clear hWR hWB hWC m0 m1 m2 m3 m4 m5 m6 m7 m8 m9 m10 m11 m12 m13 m14
  go_loop [6, 7] (fun t i => ∃ j : Nat, j ≤ 5 ∧ i = .int .i64 j ∧ t = .int .i64 (rDoneTo d k j)) (fun _ i => 5 - (intOf i).toNat)
  case atStart => exact ⟨0, Nat.zero_le _, rfl, rfl⟩
  case round =>
    obtain ⟨j, hj5, rfl, rfl⟩ := hrel
    by_cases hj : j < 5
    · have kj := HWC.out.knows j hj
      have HS : Hid (rDoneTo d k (j + 1) = if j ≠ k ∧ rIn d ((q : Int) + 1) j = true ∧ (d.mem k).knows j < rDoneTo d k j then (d.mem k).knows j else rDoneTo d k j) := by show rDoneTo d k (j + 1) = _; rw [← HQ.out]; rfl
      generalize (d.mem k).knows j = kn at kj HS
      generalize rDoneTo d k j = t at HS
      have hj0 : (0 : Int) ≤ (j : Int) := by omega
      have hj1 : (j : Int) < 5 := by omega
      by_cases ejk : j = k
      · have b1 : ((j : Int) != (k : Int)) = false := by simp [ejk]
        have HS' : Hid (rDoneTo d k (j + 1) = t) := by show rDoneTo d k (j + 1) = t; rw [HS.out]; simp [ejk]
        clear ejk HS
        go_wp2_with (first | (go_at_call 62; refine (rin_any HWR.out HO.out q hql j hj).mono ?_; rintro e w' ⟨rfl, rfl⟩))
        go_round
        case rel => exact ⟨j + 1, by omega, by go_num, congrArg (Value.int .i64) HS'.out.symm⟩
        case measure => simp [intOf]; omega
      · have b1 : ((j : Int) != (k : Int)) = true := by simp; omega
        cases hin : rIn d ((q : Int) + 1) j
        · have HS' : Hid (rDoneTo d k (j + 1) = t) := by show rDoneTo d k (j + 1) = t; rw [HS.out]; simp [hin]
          clear ejk HS
          go_wp2_with (first | (go_at_call 62; refine (rin_any HWR.out HO.out q hql j hj).mono ?_; rintro e w' ⟨rfl, rfl⟩))
          go_round
          case rel => exact ⟨j + 1, by omega, by go_num, congrArg (Value.int .i64) HS'.out.symm⟩
          case measure => simp [intOf]; omega
        · by_cases hlt : kn < t
          · have HS' : Hid (rDoneTo d k (j + 1) = kn) := by show rDoneTo d k (j + 1) = kn; rw [HS.out]; simp [hin, hlt, ejk]
            clear ejk HS
            go_wp2_with (first | (go_at_call 62; refine (rin_any HWR.out HO.out q hql j hj).mono ?_; rintro e w' ⟨rfl, rfl⟩))
            go_round
            case rel => exact ⟨j + 1, by omega, by go_num, congrArg (Value.int .i64) HS'.out.symm⟩
            case measure => simp [intOf]; omega
          · have HS' : Hid (rDoneTo d k (j + 1) = t) := by show rDoneTo d k (j + 1) = t; rw [HS.out]; simp [hlt]
            clear ejk HS
            go_wp2_with (first | (go_at_call 62; refine (rin_any HWR.out HO.out q hql j hj).mono ?_; rintro e w' ⟨rfl, rfl⟩))
            go_round
            case rel => exact ⟨j + 1, by omega, by go_num, congrArg (Value.int .i64) HS'.out.symm⟩
            case measure => simp [intOf]; omega
    · have : j = 5 := by omega
      subst this
      go_wp2_with fail
      go_ret
      exact ⟨ret_intR HF.out.symm, HWB.out⟩
end
end Go.Proofs.Ythpfgmdffendoaa
