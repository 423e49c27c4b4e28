/- My own text. Walks: Fetch, Node. -/
import Derived.Test.YthpfgmdffendoaaCalls1
namespace Go.Proofs.Ythpfgmdffendoaa
set_option linter.unusedVariables false
set_option linter.unusedSimpArgs false
open Go.RowKit
section
variable {w : World} {S : Nat → Prop} {b : Nat} {c : Clu} {lv : Nat → Value} {ev uv : Value} {mv : List (Msg × Value)}

theorem done_bd (c : Clu) (k : Nat) : done c k ≤ (c.nodes k).log.length := by
  have : ∀ j, doneTo c k j ≤ (c.nodes k).log.length := by
    intro j
    induction j with
    | zero => exact Int.le_refl _
    | succ j ih =>
      unfold doneTo
      split
      · rename_i h; omega
      · exact ih
  exact this 5

set_option maxHeartbeats 3200000 in
set_option maxRecDepth 100000 in
theorem fetch_any (h : Rep w S b c lv ev uv mv) (hok : Ok c) (node off : Int) :
    Calls Try.prog 15 #[.pointer (some ⟨b, 0, none⟩), .int .i64 node, .int .i64 off] w fun e w' =>
      e = .returned (.tuple #[.agg #[.int .i64 (fetch c node off).1.p, .int .i64 (fetch c node off).1.s, .int .i64 (fetch c node off).1.v], .int .i64 (fetch c node off).2]) ∧ Below w.heap.size w w' := by
  have H : Hid (Rep w S b c lv ev uv mv) := h
  have HO : Hid (Ok c) := hok
  have hbw := h.lt
  by_cases hr : refNode c node = 0
  rotate_left
  · have HF : Hid (fetch c node off = (⟨0, 0, 0⟩, refNode c node)) := by show fetch c node off = _; simp [fetch, hr]
    have hb : (refNode c node != 0) = true := by simp [hr]
    clear h hok hr
    go_enter Try.func15, Try.ntmps15
    go_wp2_with (first | (go_at_call 36; refine (refNode_any (H.out.alloc _) _).mono ?_; rintro e w' ⟨rfl, rfl⟩))
    exact bodyPost_ret (v := .tuple #[.agg #[.int .i64 0, .int .i64 0, .int .i64 0], .int .i64 (refNode c node)]) (by simp [results, Try.results15, go_sem]) rfl ⟨by rw [HF.out], (Below.refl _ _).alloc (Nat.le_refl _) _⟩
  obtain ⟨k, rfl, hk, hup⟩ := refNode_zero hr
  have hb : (refNode c (k : Int) != 0) = false := by simp [hr]
  have hro := h.cRol k hk
  have hl := h.cLog k hk
  have hlen := hok.log k hk
  have hown := h.logs k hk
  obtain ⟨ao, cap, hlv, hcap, _, hpos⟩ := ownsRow_shape hown
  rw [hlv] at hl hown
  have HW : Hid (refNode c (k : Int) = 0) := hr
  clear h hok hr hlv hup hcap
  by_cases h1 : (c.nodes k).role = 3
  rotate_left
  · have HF : Hid (fetch c k off = (⟨0, 0, 0⟩, 6)) := by show fetch c k off = _; simp [fetch, HW.out, h1]
    have hb1 : ((c.nodes k).role != 3) = true := by simp [h1]
    clear h1 hown
    go_enter Try.func15, Try.ntmps15
    go_wp2_with (first | (go_at_call 36; refine (refNode_any (H.out.alloc _) _).mono ?_; rintro e w' ⟨rfl, rfl⟩))
    exact bodyPost_ret (v := .tuple #[.agg #[.int .i64 0, .int .i64 0, .int .i64 0], .int .i64 6]) (by simp [results, Try.results15, go_sem]) rfl ⟨by rw [HF.out], (Below.refl _ _).alloc (Nat.le_refl _) _⟩
  have HW1 : Hid ((c.nodes k).role = 3) := h1
  rw [h1] at hro
  clear h1
  by_cases h2 : off < 0
  · have HF : Hid (fetch c k off = (⟨0, 0, 0⟩, 5)) := by show fetch c k off = _; simp [fetch, HW.out, HW1.out, h2]
    clear hown
    go_enter Try.func15, Try.ntmps15
    go_wp2_with (first | (go_at_call 36; refine (refNode_any (H.out.alloc _) _).mono ?_; rintro e w' ⟨rfl, rfl⟩))
    exact bodyPost_ret (v := .tuple #[.agg #[.int .i64 0, .int .i64 0, .int .i64 0], .int .i64 5]) (by simp [results, Try.results15, go_sem]) rfl ⟨by rw [HF.out], (Below.refl _ _).alloc (Nat.le_refl _) _⟩
  by_cases h3 : done c k ≤ off
  · have HF : Hid (fetch c k off = (⟨0, 0, 0⟩, 9)) := by show fetch c k off = _; simp [fetch, HW.out, HW1.out, h2, h3]
    clear hown
    go_enter Try.func15, Try.ntmps15
    go_wp2_with (first | (go_at_call 36; refine (refNode_any (H.out.alloc _) _).mono ?_; rintro e w' ⟨rfl, rfl⟩) | (go_at_call 33; refine (done_any (H.out.alloc _) HO.out k hk).mono ?_; rintro e w2 ⟨rfl, rfl⟩))
    exact bodyPost_ret (v := .tuple #[.agg #[.int .i64 0, .int .i64 0, .int .i64 0], .int .i64 9]) (by simp [results, Try.results15, go_sem]) rfl ⟨by rw [HF.out], (Below.refl _ _).alloc (Nat.le_refl _) _⟩
  obtain ⟨a, rfl⟩ := Int.eq_ofNat_of_zero_le (Int.not_lt.1 h2)
  have hd := done_bd c k
  have ha : a < (c.nodes k).log.length := by omega
  obtain ⟨g, rfl⟩ := hpos (by omega)
  have hr : (c.nodes k).log[a]? = some (c.nodes k).log[a] := by simp [ha]
  obtain ⟨c1, c2, c3⟩ := rec_cells hown a _ hr
  have HF : Hid (fetch c k a = ((c.nodes k).log[a], 0)) := by
    show fetch c k a = _
    simp [fetch, HW.out, HW1.out, h3, ha]
  have hgl := ownsRow_lt hown (g := g) rfl
  generalize (c.nodes k).log[a] = x at c1 c2 c3 HF
  clear hown hr hpos
  go_enter Try.func15, Try.ntmps15
  go_wp2_with (first | (go_at_call 36; refine (refNode_any (H.out.alloc _) _).mono ?_; rintro e w' ⟨rfl, rfl⟩) | (go_at_call 33; refine (done_any (H.out.alloc _) HO.out k hk).mono ?_; rintro e w2 ⟨rfl, rfl⟩))
  exact bodyPost_ret (v := .tuple #[.agg #[.int .i64 x.p, .int .i64 x.s, .int .i64 x.v], .int .i64 0]) (by simp [results, Try.results15, go_sem]) rfl ⟨by rw [HF.out], (Below.refl _ _).alloc (Nat.le_refl _) _⟩

/-- What Node shows. -/
structure Show where
  up : Bool
  epoch : Int
  installed : Int
  role : Int
  len : Int
  done : Int
def Show.val (x : Show) : Value := .agg #[.bool x.up, .int .i64 x.epoch, .int .i64 x.installed, .int .i64 x.role, .int .i64 x.len, .int .i64 x.done]
def seen (c : Clu) (node : Int) : Show × Int :=
  if nodeB node then (⟨(c.nodes node.toNat).up, (c.nodes node.toNat).follows, (c.nodes node.toNat).given, (c.nodes node.toNat).role, (c.nodes node.toNat).log.length, if (c.nodes node.toNat).role = 3 then done c node.toNat else 0⟩, 0)
  else (⟨false, 0, 0, 0, 0, 0⟩, 2)

set_option maxHeartbeats 3200000 in
set_option maxRecDepth 100000 in
theorem node_any (h : Rep w S b c lv ev uv mv) (hok : Ok c) (node : Int) :
    Calls Try.prog 18 #[.pointer (some ⟨b, 0, none⟩), .int .i64 node] w fun e w' =>
      e = .returned (.tuple #[(seen c node).1.val, .int .i64 (seen c node).2]) ∧ Below w.heap.size w w' := by
  have H : Hid (Rep w S b c lv ev uv mv) := h
  have HO : Hid (Ok c) := hok
  have hbw := h.lt
  by_cases hn : 0 ≤ node ∧ node < 5
  rotate_left
  · have hb : nodeB node = false := by simp [nodeB]; omega
    have HF : Hid (seen c node = (⟨false, 0, 0, 0, 0, 0⟩, 2)) := by show seen c node = _; simp [seen, hb]
    clear h hok hn
    go_enter Try.func18, Try.ntmps18
    go_wp2_with (first | (go_at_call 40; refine (isNode_any _ _).mono ?_; rintro e w' ⟨rfl, rfl⟩))
    exact bodyPost_ret (v := .tuple #[.agg #[.bool false, .int .i64 0, .int .i64 0, .int .i64 0, .int .i64 0, .int .i64 0], .int .i64 2]) (by simp [results, Try.results18, go_sem]) rfl ⟨by rw [HF.out]; rfl, (Below.refl _ _).alloc (Nat.le_refl _) _⟩
  obtain ⟨h0, h5⟩ := hn
  obtain ⟨k, rfl⟩ := Int.eq_ofNat_of_zero_le h0
  have hk : k < 5 := by omega
  have hb : nodeB (k : Int) = true := by simp [nodeB]; omega
  have cu := h.cUp k hk
  have cf := h.cFol k hk
  have cg := h.cGiv k hk
  have cr := h.cRol k hk
  have cl := h.cLog k hk
  have k0 := h.cKno k 0 hk (by omega)
  have k1 := h.cKno k 1 hk (by omega)
  have k2 := h.cKno k 2 hk (by omega)
  have k3 := h.cKno k 3 hk (by omega)
  have k4 := h.cKno k 4 hk (by omega)
  have hlen := hok.log k hk
  obtain ⟨ao, cap, hlv, hcap, _, hpos⟩ := ownsRow_shape (h.logs k hk)
  rw [hlv] at cl
  clear h hok hlv hpos hcap
  by_cases hr : (c.nodes k).role = 3
  · have HF : Hid (seen c k = (⟨(c.nodes k).up, (c.nodes k).follows, (c.nodes k).given, 3, (c.nodes k).log.length, done c k⟩, 0)) := by show seen c k = _; simp [seen, hb, hr]
    rw [hr] at cr
    clear hr
    go_enter Try.func18, Try.ntmps18
    go_wp2_with (first | (go_at_call 40; refine (isNode_any _ _).mono ?_; rintro e w' ⟨rfl, rfl⟩) | (go_at_call 33; refine (done_any (((H.out.alloc _).alloc _).alloc _) HO.out k hk).mono ?_; rintro e w2 ⟨rfl, rfl⟩))
    exact bodyPost_ret (v := .tuple #[.agg #[.bool (c.nodes k).up, .int .i64 (c.nodes k).follows, .int .i64 (c.nodes k).given, .int .i64 3, .int .i64 (c.nodes k).log.length, .int .i64 (done c k)], .int .i64 0]) (by simp [results, Try.results18, go_sem]) rfl ⟨by rw [HF.out]; rfl, ((((Below.refl _ _).alloc (Nat.le_refl _) _).alloc (by simp) _).alloc (by simp; omega) _)⟩
  · have HF : Hid (seen c k = (⟨(c.nodes k).up, (c.nodes k).follows, (c.nodes k).given, (c.nodes k).role, (c.nodes k).log.length, 0⟩, 0)) := by show seen c k = _; simp [seen, hb, hr]
    have hr' : ((c.nodes k).role == 3) = false := by simp [hr]
    clear hr
    go_enter Try.func18, Try.ntmps18
    go_wp2_with (first | (go_at_call 40; refine (isNode_any _ _).mono ?_; rintro e w' ⟨rfl, rfl⟩))
    exact bodyPost_ret (v := .tuple #[.agg #[.bool (c.nodes k).up, .int .i64 (c.nodes k).follows, .int .i64 (c.nodes k).given, .int .i64 (c.nodes k).role, .int .i64 (c.nodes k).log.length, .int .i64 0], .int .i64 0]) (by simp [results, Try.results18, go_sem]) rfl ⟨by rw [HF.out]; rfl, ((((Below.refl _ _).alloc (Nat.le_refl _) _).alloc (by simp) _).alloc (by simp; omega) _)⟩
end
end Go.Proofs.Ythpfgmdffendoaa
