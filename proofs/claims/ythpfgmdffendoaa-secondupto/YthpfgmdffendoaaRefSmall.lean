/- My own text. Stores into a member's cells; walks of package ledgerref: follows, given, master. -/
import Derived.Test.YthpfgmdffendoaaRefSend
import Derived.Test.YthpfgmdffendoaaRefOk
namespace Go.Proofs.Ythpfgmdffendoaa
set_option linter.unusedVariables false
set_option linter.unusedSimpArgs false
open Go.RowKit
theorem put_mem (d : Wd) (k i : Nat) (m : Mem) : (d.put k m).mem i = if i = k then m else d.mem i := by simp [Wd.put, upd]
theorem RCells.setUp {cs : Array Value} {d : Wd} {ev : Value} {act : Int} {uv : Value} (h : RCells cs d.mem ev act uv) (k : Nat) (hk : k < 5) (x : Bool) :
    RCells (cs.setIfInBounds (k * 15) (.bool x)) (d.put k { d.mem k with up := x }).mem ev act uv := by
  have hm := fun i => put_mem d k i { d.mem k with up := x }
  refine h.set _ _ (by omega) ?_ ?_ ?_ ?_ ?_ ?_ ?_ ?_ ?_ ?_
  · intro i hi
    rw [hm]
    by_cases e : i = k
    · subst e; simp
    · rw [if_neg (by omega), if_neg e]
  · intro i hi; rw [if_neg (by omega), hm]; split <;> simp_all
  · intro i hi; rw [if_neg (by omega), hm]; split <;> simp_all
  · intro i hi; rw [if_neg (by omega), hm]; split <;> simp_all
  · intro i hi; rw [if_neg (by omega), hm]; split <;> simp_all
  · intro i j hi hj; rw [if_neg (by omega), hm]; split <;> simp_all
  · intro i j hi hj; rw [if_neg (by omega), hm]; split <;> simp_all
  · rw [if_neg (by omega)]
  · rw [if_neg (by omega)]
  · rw [if_neg (by omega)]
theorem RCells.setFol {cs : Array Value} {d : Wd} {ev : Value} {act : Int} {uv : Value} (h : RCells cs d.mem ev act uv) (k : Nat) (hk : k < 5) (x : Int) :
    RCells (cs.setIfInBounds (k * 15 + 1) (.int .i64 x)) (d.put k { d.mem k with follows := x }).mem ev act uv := by
  have hm := fun i => put_mem d k i { d.mem k with follows := x }
  refine h.set _ _ (by omega) ?_ ?_ ?_ ?_ ?_ ?_ ?_ ?_ ?_ ?_
  · intro i hi; rw [if_neg (by omega), hm]; split <;> simp_all
  · intro i hi
    rw [hm]
    by_cases e : i = k
    · subst e; simp
    · rw [if_neg (by omega), if_neg e]
  · intro i hi; rw [if_neg (by omega), hm]; split <;> simp_all
  · intro i hi; rw [if_neg (by omega), hm]; split <;> simp_all
  · intro i hi; rw [if_neg (by omega), hm]; split <;> simp_all
  · intro i j hi hj; rw [if_neg (by omega), hm]; split <;> simp_all
  · intro i j hi hj; rw [if_neg (by omega), hm]; split <;> simp_all
  · rw [if_neg (by omega)]
  · rw [if_neg (by omega)]
  · rw [if_neg (by omega)]
theorem RCells.setGiv {cs : Array Value} {d : Wd} {ev : Value} {act : Int} {uv : Value} (h : RCells cs d.mem ev act uv) (k : Nat) (hk : k < 5) (x : Int) :
    RCells (cs.setIfInBounds (k * 15 + 2) (.int .i64 x)) (d.put k { d.mem k with given := x }).mem ev act uv := by
  have hm := fun i => put_mem d k i { d.mem k with given := x }
  refine h.set _ _ (by omega) ?_ ?_ ?_ ?_ ?_ ?_ ?_ ?_ ?_ ?_
  · intro i hi; rw [if_neg (by omega), hm]; split <;> simp_all
  · intro i hi; rw [if_neg (by omega), hm]; split <;> simp_all
  · intro i hi
    rw [hm]
    by_cases e : i = k
    · subst e; simp
    · rw [if_neg (by omega), if_neg e]
  · intro i hi; rw [if_neg (by omega), hm]; split <;> simp_all
  · intro i hi; rw [if_neg (by omega), hm]; split <;> simp_all
  · intro i j hi hj; rw [if_neg (by omega), hm]; split <;> simp_all
  · intro i j hi hj; rw [if_neg (by omega), hm]; split <;> simp_all
  · rw [if_neg (by omega)]
  · rw [if_neg (by omega)]
  · rw [if_neg (by omega)]
theorem RCells.setRol {cs : Array Value} {d : Wd} {ev : Value} {act : Int} {uv : Value} (h : RCells cs d.mem ev act uv) (k : Nat) (hk : k < 5) (x : Int) :
    RCells (cs.setIfInBounds (k * 15 + 3) (.int .i64 x)) (d.put k { d.mem k with role := x }).mem ev act uv := by
  have hm := fun i => put_mem d k i { d.mem k with role := x }
  refine h.set _ _ (by omega) ?_ ?_ ?_ ?_ ?_ ?_ ?_ ?_ ?_ ?_
  · intro i hi; rw [if_neg (by omega), hm]; split <;> simp_all
  · intro i hi; rw [if_neg (by omega), hm]; split <;> simp_all
  · intro i hi; rw [if_neg (by omega), hm]; split <;> simp_all
  · intro i hi
    rw [hm]
    by_cases e : i = k
    · subst e; simp
    · rw [if_neg (by omega), if_neg e]
  · intro i hi; rw [if_neg (by omega), hm]; split <;> simp_all
  · intro i j hi hj; rw [if_neg (by omega), hm]; split <;> simp_all
  · intro i j hi hj; rw [if_neg (by omega), hm]; split <;> simp_all
  · rw [if_neg (by omega)]
  · rw [if_neg (by omega)]
  · rw [if_neg (by omega)]
theorem RCells.setLog2 {cs : Array Value} {d : Wd} {ev : Value} {act : Int} {uv : Value} (h : RCells cs d.mem ev act uv) (k : Nat) (hk : k < 5) (x : List Rec) :
    RCells (cs.setIfInBounds (k * 15 + 4) (.string (encB x))) (d.put k { d.mem k with log := x }).mem ev act uv := by
  have hm := fun i => put_mem d k i { d.mem k with log := x }
  refine h.set _ _ (by omega) ?_ ?_ ?_ ?_ ?_ ?_ ?_ ?_ ?_ ?_
  · intro i hi; rw [if_neg (by omega), hm]; split <;> simp_all
  · intro i hi; rw [if_neg (by omega), hm]; split <;> simp_all
  · intro i hi; rw [if_neg (by omega), hm]; split <;> simp_all
  · intro i hi; rw [if_neg (by omega), hm]; split <;> simp_all
  · intro i hi
    rw [hm]
    by_cases e : i = k
    · subst e; simp
    · rw [if_neg (by omega), if_neg e]
  · intro i j hi hj; rw [if_neg (by omega), hm]; split <;> simp_all
  · intro i j hi hj; rw [if_neg (by omega), hm]; split <;> simp_all
  · rw [if_neg (by omega)]
  · rw [if_neg (by omega)]
  · rw [if_neg (by omega)]
theorem RCells.setKno {cs : Array Value} {d : Wd} {ev : Value} {act : Int} {uv : Value} (h : RCells cs d.mem ev act uv) (k : Nat) (hk : k < 5) (q : Nat) (hq : q < 5) (x : Int) :
    RCells (cs.setIfInBounds (k * 15 + 5 + q) (.int .i64 x)) (d.put k { d.mem k with knows := upd (d.mem k).knows q x }).mem ev act uv := by
  have hm := fun i => put_mem d k i { d.mem k with knows := upd (d.mem k).knows q x }
  refine h.set _ _ (by omega) ?_ ?_ ?_ ?_ ?_ ?_ ?_ ?_ ?_ ?_
  · intro i hi; rw [if_neg (by omega), hm]; split <;> simp_all
  · intro i hi; rw [if_neg (by omega), hm]; split <;> simp_all
  · intro i hi; rw [if_neg (by omega), hm]; split <;> simp_all
  · intro i hi; rw [if_neg (by omega), hm]; split <;> simp_all
  · intro i hi; rw [if_neg (by omega), hm]; split <;> simp_all
  · intro i j hi hj
    rw [hm]
    by_cases e : i = k
    · subst e
      by_cases e2 : j = q
      · subst e2; simp [upd]
      · rw [if_neg (by omega), if_pos rfl]; simp [upd, e2]
    · rw [if_neg (by omega), if_neg e]
  · intro i j hi hj; rw [if_neg (by omega), hm]; split <;> simp_all
  · rw [if_neg (by omega)]
  · rw [if_neg (by omega)]
  · rw [if_neg (by omega)]
theorem RCells.setHas {cs : Array Value} {d : Wd} {ev : Value} {act : Int} {uv : Value} (h : RCells cs d.mem ev act uv) (k : Nat) (hk : k < 5) (q : Nat) (hq : q < 5) (x : Bool) :
    RCells (cs.setIfInBounds (k * 15 + 10 + q) (.bool x)) (d.put k { d.mem k with has := upd (d.mem k).has q x }).mem ev act uv := by
  have hm := fun i => put_mem d k i { d.mem k with has := upd (d.mem k).has q x }
  refine h.set _ _ (by omega) ?_ ?_ ?_ ?_ ?_ ?_ ?_ ?_ ?_ ?_
  · intro i hi; rw [if_neg (by omega), hm]; split <;> simp_all
  · intro i hi; rw [if_neg (by omega), hm]; split <;> simp_all
  · intro i hi; rw [if_neg (by omega), hm]; split <;> simp_all
  · intro i hi; rw [if_neg (by omega), hm]; split <;> simp_all
  · intro i hi; rw [if_neg (by omega), hm]; split <;> simp_all
  · intro i j hi hj; rw [if_neg (by omega), hm]; split <;> simp_all
  · intro i j hi hj
    rw [hm]
    by_cases e : i = k
    · subst e
      by_cases e2 : j = q
      · subst e2; simp [upd]
      · rw [if_neg (by omega), if_pos rfl]; simp [upd, e2]
    · rw [if_neg (by omega), if_neg e]
  · rw [if_neg (by omega)]
  · rw [if_neg (by omega)]
  · rw [if_neg (by omega)]
theorem RCells.setAct {cs : Array Value} {m : Nat → Mem} {ev : Value} {act : Int} {uv : Value} (h : RCells cs m ev act uv) (x : Int) : RCells (cs.setIfInBounds 76 (.int .i64 x)) m ev x uv := by
  refine h.set 76 _ (by omega) ?_ ?_ ?_ ?_ ?_ ?_ ?_ ?_ ?_ ?_
  all_goals first | (intro i j hi hj; rw [if_neg (by omega)]) | (intro i hi; rw [if_neg (by omega)]) | rfl
section
variable {w : World} {S : Nat → Prop} {b : Nat} {d : Wd} {ev uv : Value}

set_option maxHeartbeats 800000 in
theorem rfollows_any (h : RRep w S b d ev uv) (k : Nat) (hk : k < 5) (e role : Int) :
    Calls Try.prog 84 #[.pointer (some ⟨b, 0, none⟩), .int .i64 k, .int .i64 e, .int .i64 role] w fun r w' =>
      r = .returned (.tuple #[]) ∧ RRep w' S b (rFollows d k e role) ev uv ∧ Fr S w w' := by
  have c1 := h.cFol k hk
  have c3 := h.cRol k hk
  have z1 := h.free (k * 15 + 1)
  have z3 := h.free (k * 15 + 3)
  have H : Hid (RRep w S b d ev uv) := h
  clear h
  by_cases hlt : (d.mem k).follows < e
  · have HF : Hid (rFollows d k e role = d.put k { d.mem k with follows := e, role := role }) := by show rFollows d k e role = _; simp [rFollows, hlt]
    go_enter Try.func84, Try.ntmps84
    go_wp2
    have q1 := H.out.setCell (k * 15 + 1) (.int .i64 e) (d.put k { d.mem k with follows := e }) rfl rfl (fun cs hcs => hcs.setFol k hk e)
    have q2 := q1.1.setCell (k * 15 + 3) (.int .i64 role) (d.put k { d.mem k with follows := e, role := role }) rfl rfl (fun cs hcs => by
      have := hcs.setRol k hk role
      have e2 : ((d.put k { d.mem k with follows := e }).put k { (d.put k { d.mem k with follows := e }).mem k with role := role }).mem = (d.put k { d.mem k with follows := e, role := role }).mem := by
        funext i; simp only [put_mem]; split <;> simp_all
      rw [e2] at this; exact this)
    exact bodyPost_end (results_none rfl _ _ _) rfl ⟨rfl, by rw [HF.out]; exact q2.1, q1.2.then q2.2⟩
  · have HF : Hid (rFollows d k e role = d) := by show rFollows d k e role = _; simp [rFollows, hlt]
    go_enter Try.func84, Try.ntmps84
    go_wp2
    exact bodyPost_end (results_none rfl _ _ _) rfl ⟨rfl, by rw [HF.out]; exact H.out, Fr.refl _ _⟩

set_option maxHeartbeats 800000 in
theorem rgiven_any (h : RRep w S b d ev uv) (k : Nat) (hk : k < 5) (e : Int) (l : List Rec) :
    Calls Try.prog 85 #[.pointer (some ⟨b, 0, none⟩), .int .i64 k, .int .i64 e, .string (encB l)] w fun r w' =>
      r = .returned (.tuple #[]) ∧ RRep w' S b (rGiven d k e l) ev uv ∧ Fr S w w' := by
  have c1 := h.cGiv k hk
  have c3 := h.cLog k hk
  have z1 := h.free (k * 15 + 2)
  have z3 := h.free (k * 15 + 4)
  have H : Hid (RRep w S b d ev uv) := h
  clear h
  go_enter Try.func85, Try.ntmps85
  go_wp2
  have q1 := H.out.setCell (k * 15 + 4) (.string (encB l)) (d.put k { d.mem k with log := l }) rfl rfl (fun cs hcs => hcs.setLog2 k hk l)
  have q2 := q1.1.setCell (k * 15 + 2) (.int .i64 e) (rGiven d k e l) rfl rfl (fun cs hcs => by
    have := hcs.setGiv k hk e
    have e2 : ((d.put k { d.mem k with log := l }).put k { (d.put k { d.mem k with log := l }).mem k with given := e }).mem = (rGiven d k e l).mem := by
      funext i; simp only [put_mem, rGiven]; split <;> simp_all
    rw [e2] at this; exact this)
  exact bodyPost_end (results_none rfl _ _ _) rfl ⟨rfl, q2.1, q1.2.then q2.2⟩
end
end Go.Proofs.Ythpfgmdffendoaa
