/- My own text. How a world of the document's answer lies in memory. -/
import Derived.Test.YthpfgmdffendoaaMem
import Derived.Test.YthpfgmdffendoaaRefPure
namespace Go.Proofs.Ythpfgmdffendoaa
set_option linter.unusedVariables false
set_option linter.unusedSimpArgs false
open Go.RowKit
def recBytes (l : List Rec) : List UInt8 := l.flatMap fun r => [UInt8.ofNat r.p.toNat, UInt8.ofNat r.s.toNat, UInt8.ofNat r.v.toNat]
def encB (l : List Rec) : ByteArray := ⟨(recBytes l).toArray⟩
theorem recBytes_len (l : List Rec) : (recBytes l).length = l.length * 3 := flat_len _ 3 (fun _ => rfl) l
theorem encB_size (l : List Rec) : (encB l).size = l.length * 3 := by
  show (recBytes l).toArray.size = _
  simp [recBytes_len]
theorem encB_nil : encB [] = ByteArray.empty := rfl
theorem encB_append (l m : List Rec) : encB (l ++ m) = encB l ++ encB m := by
  have : recBytes (l ++ m) = recBytes l ++ recBytes m := by simp [recBytes]
  unfold encB
  rw [this, ByteArray.mk_append_mk]
theorem byte_nat {x : Int} (h0 : 0 ≤ x) (h1 : x ≤ 255) : ((UInt8.ofNat x.toNat).toNat : Int) = x := by
  have : x.toNat < 256 := by omega
  simp [UInt8.toNat_ofNat']
  omega
theorem encB_at (l : List Rec) (k j : Nat) (r : Rec) (hr : l[k]? = some r) (hj : j < 3) (h : k * 3 + j < (encB l).size) :
    some ((encB l)[k * 3 + j]) = [UInt8.ofNat r.p.toNat, UInt8.ofNat r.s.toNat, UInt8.ofNat r.v.toNat][j]? := by
  have h2 := flat_at (fun r : Rec => [UInt8.ofNat r.p.toNat, UInt8.ofNat r.s.toNat, UInt8.ofNat r.v.toNat]) 3 (fun _ => rfl) l k j r hr hj
  rw [← h2]
  show some ((recBytes l).toArray[k * 3 + j]) = (recBytes l)[k * 3 + j]?
  have : k * 3 + j < (recBytes l).length := by rw [recBytes_len]; rw [encB_size] at h; exact h
  rw [List.getElem?_eq_getElem this]
  rfl

def eraCells (l : List Era) : List Value := l.flatMap fun x => [.int .i64 x.members, .int .i64 x.leader, .int .i64 x.before]
def letRow (m : Msg) : List Value := [.int .i64 m.kind, .int .i64 m.frm, .int .i64 m.to, .int .i64 m.epoch, .int .i64 m.n, .string (encB m.recs)]
def letCells (l : List Msg) : List Value := l.flatMap letRow
theorem eraCells_len (l : List Era) : (eraCells l).length = l.length * 3 := flat_len _ 3 (fun _ => rfl) l
theorem letCells_len (l : List Msg) : (letCells l).length = l.length * 6 := flat_len _ 6 (fun _ => rfl) l
theorem eraCells_append (l m : List Era) : eraCells (l ++ m) = eraCells l ++ eraCells m := by simp [eraCells]
theorem letCells_append (l m : List Msg) : letCells (l ++ m) = letCells l ++ letCells m := by simp [letCells]
theorem letRow_one (m : Msg) : ∀ u ∈ letRow m, u.oneCell' = true := by
  intro u hu
  simp only [letRow, List.mem_cons, List.not_mem_nil, or_false] at hu
  rcases hu with rfl | rfl | rfl | rfl | rfl | rfl <;> rfl
theorem let_cells {w : World} {e g n cap : Nat} {l : List Msg} (h : w.ownsRow 0 e 6 (.slice (some ⟨g, 0, none⟩) n cap) n (letCells l)) (k : Nat) (x : Msg) (hk : l[k]? = some x) :
    w.cell? ⟨g, k * 6, none⟩ = some (.int .i64 x.kind) ∧ w.cell? ⟨g, k * 6 + 1, none⟩ = some (.int .i64 x.frm) ∧ w.cell? ⟨g, k * 6 + 2, none⟩ = some (.int .i64 x.to) ∧
    w.cell? ⟨g, k * 6 + 3, none⟩ = some (.int .i64 x.epoch) ∧ w.cell? ⟨g, k * 6 + 4, none⟩ = some (.int .i64 x.n) ∧ w.cell? ⟨g, k * 6 + 5, none⟩ = some (.string (encB x.recs)) := by
  have hc := h.cells (g := g) rfl
  have key : ∀ j u, j < 6 → (letRow x)[j]? = some u → w.cell? ⟨g, k * 6 + j, none⟩ = some u := by
    intro j u hj hu
    have := hc (k * 6 + j) u (by rw [letCells, flat_at _ 6 (fun _ => rfl) l k j x hk hj]; exact hu)
    rwa [add_at] at this
  exact ⟨by simpa using key 0 _ (by omega) rfl, key 1 _ (by omega) rfl, key 2 _ (by omega) rfl, key 3 _ (by omega) rfl, key 4 _ (by omega) rfl, key 5 _ (by omega) rfl⟩
theorem era_cells {w : World} {e g n cap : Nat} {l : List Era} (h : w.ownsRow 0 e 3 (.slice (some ⟨g, 0, none⟩) n cap) n (eraCells l)) (k : Nat) (x : Era) (hk : l[k]? = some x) :
    w.cell? ⟨g, k * 3, none⟩ = some (.int .i64 x.members) ∧ w.cell? ⟨g, k * 3 + 1, none⟩ = some (.int .i64 x.leader) ∧ w.cell? ⟨g, k * 3 + 2, none⟩ = some (.int .i64 x.before) := by
  have hc := h.cells (g := g) rfl
  have key : ∀ j u, j < 3 → ([Value.int .i64 x.members, .int .i64 x.leader, .int .i64 x.before] : List Value)[j]? = some u → w.cell? ⟨g, k * 3 + j, none⟩ = some u := by
    intro j u hj hu
    have := hc (k * 3 + j) u (by rw [eraCells, flat_at _ 3 (fun _ => rfl) l k j x hk hj]; exact hu)
    rwa [add_at] at this
  exact ⟨by simpa using key 0 _ (by omega) rfl, key 1 _ (by omega) rfl, key 2 _ (by omega) rfl⟩

/-- The world's own block. -/
structure RCells (cs : Array Value) (m : Nat → Mem) (ev : Value) (act : Int) (uv : Value) : Prop where
  size : cs.size = 78
  up : ∀ k, k < 5 → cs[k * 15]? = some (.bool (m k).up)
  fol : ∀ k, k < 5 → cs[k * 15 + 1]? = some (.int .i64 (m k).follows)
  giv : ∀ k, k < 5 → cs[k * 15 + 2]? = some (.int .i64 (m k).given)
  rol : ∀ k, k < 5 → cs[k * 15 + 3]? = some (.int .i64 (m k).role)
  log : ∀ k, k < 5 → cs[k * 15 + 4]? = some (.string (encB (m k).log))
  kno : ∀ k j, k < 5 → j < 5 → cs[k * 15 + 5 + j]? = some (.int .i64 ((m k).knows j))
  has : ∀ k j, k < 5 → j < 5 → cs[k * 15 + 10 + j]? = some (.bool ((m k).has j))
  eras : cs[75]? = some ev
  act : cs[76]? = some (.int .i64 act)
  way : cs[77]? = some uv
/-- A store into the world's block: what each cell reads as then. -/
theorem RCells.set {cs : Array Value} {m m' : Nat → Mem} {ev ev' : Value} {act act' : Int} {uv uv' : Value} (h : RCells cs m ev act uv) (o : Nat) (v : Value) (ho : o < 78)
    (h1 : ∀ i, i < 5 → (if o = i * 15 then v else .bool (m i).up) = .bool (m' i).up)
    (h2 : ∀ i, i < 5 → (if o = i * 15 + 1 then v else .int .i64 (m i).follows) = .int .i64 (m' i).follows)
    (h3 : ∀ i, i < 5 → (if o = i * 15 + 2 then v else .int .i64 (m i).given) = .int .i64 (m' i).given)
    (h4 : ∀ i, i < 5 → (if o = i * 15 + 3 then v else .int .i64 (m i).role) = .int .i64 (m' i).role)
    (h5 : ∀ i, i < 5 → (if o = i * 15 + 4 then v else .string (encB (m i).log)) = .string (encB (m' i).log))
    (h6 : ∀ i j, i < 5 → j < 5 → (if o = i * 15 + 5 + j then v else .int .i64 ((m i).knows j)) = .int .i64 ((m' i).knows j))
    (h7 : ∀ i j, i < 5 → j < 5 → (if o = i * 15 + 10 + j then v else .bool ((m i).has j)) = .bool ((m' i).has j))
    (h8 : (if o = 75 then v else ev) = ev') (h9 : (if o = 76 then v else .int .i64 act) = .int .i64 act') (h10 : (if o = 77 then v else uv) = uv') : RCells (cs.setIfInBounds o v) m' ev' act' uv' := by
  have hs := h.size
  have key : ∀ j u u', j < 78 → cs[j]? = some u → (if o = j then v else u) = u' → (cs.setIfInBounds o v)[j]? = some u' := by
    intro j u u' hj hu he
    rw [Array.getElem?_setIfInBounds]
    by_cases e : o = j
    · rw [if_pos e] at he ⊢; rw [if_pos (by omega), he]
    · rw [if_neg e] at he ⊢; rw [hu, he]
  exact { size := by simp [hs], up := fun i hi => key _ _ _ (by omega) (h.up i hi) (h1 i hi), fol := fun i hi => key _ _ _ (by omega) (h.fol i hi) (h2 i hi)
          giv := fun i hi => key _ _ _ (by omega) (h.giv i hi) (h3 i hi), rol := fun i hi => key _ _ _ (by omega) (h.rol i hi) (h4 i hi)
          log := fun i hi => key _ _ _ (by omega) (h.log i hi) (h5 i hi), kno := fun i j hi hj => key _ _ _ (by omega) (h.kno i j hi hj) (h6 i j hi hj)
          has := fun i j hi hj => key _ _ _ (by omega) (h.has i j hi hj) (h7 i j hi hj)
          eras := key _ _ _ (by omega) h.eras h8, act := key _ _ _ (by omega) h.act h9, way := key _ _ _ (by omega) h.way h10 }
structure RRep (w : World) (S : Nat → Prop) (b : Nat) (d : Wd) (ev uv : Value) : Prop where
  blk : ∃ cs, w.heap[b]? = some (.cells cs 105 (0, 0)) ∧ RCells cs d.mem ev d.active uv
  inb : S b
  eras : w.ownsRow 0 107 3 ev d.eras.length (eraCells d.eras)
  eraS : ∀ g, ev.ownBlock = some g → S g
  way : w.ownsRow 0 129 6 uv d.way.length (letCells d.way)
  wayS : ∀ g, uv.ownBlock = some g → S g
section
variable {w : World} {S : Nat → Prop} {b : Nat} {d : Wd} {ev uv : Value}
theorem RRep.cell (h : RRep w S b d ev uv) : ∃ cs, RCells cs d.mem ev d.active uv ∧ (∀ o, w.cell? ⟨b, o, none⟩ = cs[o]?) ∧ ∀ o, w.frozen? ⟨b, o, none⟩ = false := by
  obtain ⟨cs, hb, hc⟩ := h.blk
  exact ⟨cs, hc, fun o => cell_of_row w b o cs _ _ hb, fun o => by simp [World.frozen?, hb]⟩
theorem RRep.lt (h : RRep w S b d ev uv) : b < w.heap.size := by
  obtain ⟨cs, hb, _⟩ := h.blk
  exact (Array.getElem?_eq_some_iff.1 hb).1
theorem RRep.cUp (h : RRep w S b d ev uv) : ∀ k, k < 5 → w.cell? ⟨b, k * 15, none⟩ = some (.bool (d.mem k).up) := by
  obtain ⟨cs, hc, hk, _⟩ := h.cell; intro k h5; rw [hk]; exact hc.up k h5
theorem RRep.cFol (h : RRep w S b d ev uv) : ∀ k, k < 5 → w.cell? ⟨b, k * 15 + 1, none⟩ = some (.int .i64 (d.mem k).follows) := by
  obtain ⟨cs, hc, hk, _⟩ := h.cell; intro k h5; rw [hk]; exact hc.fol k h5
theorem RRep.cGiv (h : RRep w S b d ev uv) : ∀ k, k < 5 → w.cell? ⟨b, k * 15 + 2, none⟩ = some (.int .i64 (d.mem k).given) := by
  obtain ⟨cs, hc, hk, _⟩ := h.cell; intro k h5; rw [hk]; exact hc.giv k h5
theorem RRep.cRol (h : RRep w S b d ev uv) : ∀ k, k < 5 → w.cell? ⟨b, k * 15 + 3, none⟩ = some (.int .i64 (d.mem k).role) := by
  obtain ⟨cs, hc, hk, _⟩ := h.cell; intro k h5; rw [hk]; exact hc.rol k h5
theorem RRep.cLog (h : RRep w S b d ev uv) : ∀ k, k < 5 → w.cell? ⟨b, k * 15 + 4, none⟩ = some (.string (encB (d.mem k).log)) := by
  obtain ⟨cs, hc, hk, _⟩ := h.cell; intro k h5; rw [hk]; exact hc.log k h5
theorem RRep.cKno (h : RRep w S b d ev uv) : ∀ k j, k < 5 → j < 5 → w.cell? ⟨b, k * 15 + 5 + j, none⟩ = some (.int .i64 ((d.mem k).knows j)) := by
  obtain ⟨cs, hc, hk, _⟩ := h.cell; intro k j h5 hj; rw [hk]; exact hc.kno k j h5 hj
theorem RRep.cHas (h : RRep w S b d ev uv) : ∀ k j, k < 5 → j < 5 → w.cell? ⟨b, k * 15 + 10 + j, none⟩ = some (.bool ((d.mem k).has j)) := by
  obtain ⟨cs, hc, hk, _⟩ := h.cell; intro k j h5 hj; rw [hk]; exact hc.has k j h5 hj
theorem RRep.cEras (h : RRep w S b d ev uv) : w.cell? ⟨b, 75, none⟩ = some ev := by
  obtain ⟨cs, hc, hk, _⟩ := h.cell; rw [hk]; exact hc.eras
theorem RRep.cAct (h : RRep w S b d ev uv) : w.cell? ⟨b, 76, none⟩ = some (.int .i64 d.active) := by
  obtain ⟨cs, hc, hk, _⟩ := h.cell; rw [hk]; exact hc.act
theorem RRep.cWay (h : RRep w S b d ev uv) : w.cell? ⟨b, 77, none⟩ = some uv := by
  obtain ⟨cs, hc, hk, _⟩ := h.cell; rw [hk]; exact hc.way
theorem RRep.free (h : RRep w S b d ev uv) : ∀ o, w.frozen? ⟨b, o, none⟩ = false := by
  obtain ⟨cs, _, _, hf⟩ := h.cell; exact hf
theorem RRep.same {w' : World} (h : RRep w S b d ev uv) (hk : ∀ k, S k → k < w.heap.size → w'.heap[k]? = w.heap[k]?) : RRep w' S b d ev uv := by
  obtain ⟨cs, hb, hc⟩ := h.blk
  exact { blk := ⟨cs, by rw [hk b h.inb h.lt]; exact hb, hc⟩, inb := h.inb
          eras := ownsRow_same h.eras fun g hg hl => hk g (h.eraS g hg) hl, eraS := h.eraS
          way := ownsRow_same h.way fun g hg hl => hk g (h.wayS g hg) hl, wayS := h.wayS }
theorem RRep.mono {S' : Nat → Prop} (h : RRep w S b d ev uv) (hs : ∀ k, k < w.heap.size → S k → S' k) : RRep w S' b d ev uv :=
  { blk := h.blk, inb := hs _ h.lt h.inb, eras := h.eras, eraS := fun g hg => hs g (ownsRow_lt h.eras hg) (h.eraS g hg), way := h.way, wayS := fun g hg => hs g (ownsRow_lt h.way hg) (h.wayS g hg) }
theorem RRep.below {w' : World} (h : RRep w S b d ev uv) (hb : Below w.heap.size w w') : RRep w' S b d ev uv := h.same fun k _ hk => hb.block k hk
theorem RRep.alloc (h : RRep w S b d ev uv) (o : Obj) : RRep (w.alloc o) S b d ev uv := h.same fun k _ hk => Below.heap_alloc _ _ _ hk
theorem RRep.drew (h : RRep w S b d ev uv) : RRep w.drew S b d ev uv := h.same fun k _ hk => rfl
theorem RRep.fr {S' : Nat → Prop} {w' : World} (h : RRep w S b d ev uv) (hf : Fr S' w w') (hd : ∀ k, S k → ¬ S' k) : RRep w' S b d ev uv :=
  h.same fun k hs hk => hf.block k hk (hd k hs)
/-- A store into one of the members' cells (or the number of the active epoch). -/
theorem RRep.setCell (h : RRep w S b d ev uv) (o : Nat) (v : Value) (d' : Wd) (he : d'.eras = d.eras) (hw : d'.way = d.way)
    (hc : ∀ cs, RCells cs d.mem ev d.active uv → RCells (cs.setIfInBounds o v) d'.mem ev d'.active uv) : RRep (w.setCell ⟨b, o, none⟩ v) S b d' ev uv ∧ Fr S w (w.setCell ⟨b, o, none⟩ v) := by
  obtain ⟨cs, hb, hcs⟩ := h.blk
  have keep : ∀ {v' : Value} {n : Nat} {xs : List Value} {e sz : Nat}, w.ownsRow 0 e sz v' n xs → e ≠ 105 → (w.setCell ⟨b, o, none⟩ v).ownsRow 0 e sz v' n xs := by
    intro v' n xs e sz ho hne
    refine ownsRow_same ho fun g hg _ => Below.heap_setCell _ _ _ _ ?_
    obtain ⟨cu, hcu⟩ := ownsRow_block ho hg
    exact ne_of_type hcu hb hne
  exact ⟨{ blk := ⟨_, heap_setCell_at _ _ _ _ _ _ _ hb, hc cs hcs⟩, inb := h.inb, eras := by rw [he]; exact keep h.eras (by decide), eraS := h.eraS
           way := by rw [hw]; exact keep h.way (by decide), wayS := h.wayS }, Fr.setCell _ _ h.inb _⟩
end
end Go.Proofs.Ythpfgmdffendoaa
