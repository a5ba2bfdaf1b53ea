/-
  Layer 11: a map of numbers keyed by numbers: made, put, asked.
-/
import Derived.Test.YtellaeihcignaaaGreatDoorTfX
import Derived.Test.YtellaeihcignaaaGreatDoorPtSet
import Derived.Maps.OwnSet
import Derived.Maps.Views
import Derived.Maps.RangeWalk
set_option linter.unusedVariables false
set_option maxRecDepth 100000
namespace Go.Proofs.YtellaeihcignaaaGreatDoor
namespace Tf
open Go.RowKit Fl Tr Pt Go.Maps
open Lk (Ow T0 zns at9)

/-- Block b is such a map: what is in it is what m tells. -/
def MapI (w : World) (b n : Nat) (m : Int → Option Int) : Prop :=
  ∃ D : DataW Unit, w.ownsMap Tryz.prog 3 (plainElem Tryz.prog 3) b n D ∧ ∀ x : Int, has D (kI x) = (m x).isSome ∧ ∀ v, m x = some v → ∀ z, D.atKey (kI x) z = .lit (.int .i64 v)
theorem MapI.made (w : World) : MapI (w.alloc (.map #[] 0)) w.heap.size 0 (fun _ => none) :=
  ⟨.map [], World.ownsMap_made w _ _ _, fun x => ⟨by simp [has], fun v h => by cases h⟩⟩
theorem MapI.lt {w : World} {b n : Nat} {m : Int → Option Int} (h : MapI w b n m) : b < w.heap.size := by
  obtain ⟨D, h1, h2⟩ := h
  exact h1.lt
theorem MapI.kept {w w' : World} {b n : Nat} {m : Int → Option Int} {row : Option Nat} (h : MapI w b n m) (hg : w.grownBy w' row) (hne : some b ≠ row) : MapI w' b n m := by
  obtain ⟨D, h1, h2⟩ := h
  exact ⟨D, h1.kept hg hne, h2⟩
theorem MapI.later {w w' : World} {b n : Nat} {m : Int → Option Int} (h : MapI w b n m) (hb : Below w.heap.size w w') : MapI w' b n m :=
  h.kept (row := none) ⟨hb.os, hb.tape, hb.output, hb.size, fun i hi _ => hb.block i hi⟩ (by simp)
/-- A number is put at a number, whether one is there or not. -/
theorem MapI.put_run {w : World} {b n : Nat} {m : Int → Option Int} (h : MapI w b n m) (hn : n ≤ 1048576) {X V : Int} (hX : IW X) (hV : IW V) :
    ∃ w', (Instr.mapUpdate 65 (.map (some b)) (.int .i64 X) (.int .i64 V)).run Tryz.prog w = .ok () w' ∧ MapI w' b (n + 1) (fun x => if x = X then some V else m x) ∧ w.grownBy w' (some b) := by
  obtain ⟨D, h1, h2⟩ := h
  have hM := h1.isMap
  obtain ⟨w', hrun, hw', hgr⟩ := h1.update (int_keyed Tryz.underlying3) Tryz.underlying65 (by unfold maxLen; omega) (keyOf_int_mk Tryz.underlying3 (WalkArith.wf_i64 hX)) (plainElem_int (H := Unit) Tryz.underlying3 (WalkArith.wf_i64 hV))
  refine ⟨w', hrun, ⟨D.put (kI X) (.lit (.int .i64 V)), hw', fun x => ?_⟩, hgr⟩
  by_cases e : x = X
  · subst e
    show has _ _ = (if x = x then some V else m x).isSome ∧ _
    simp only
    exact ⟨by rw [has_put_same hM (kI_key x)]; rfl, fun v hv z => by injection hv with hv; subst hv; exact atKey_put_same hM (kI_key x) _ z⟩
  · show has _ _ = (if x = X then some V else m x).isSome ∧ ∀ v, (if x = X then some V else m x) = some v → _
    simp only [if_neg e]
    refine ⟨by rw [has_put_other (fun h => e (kI_inj h))]; exact (h2 x).1, fun v hv z => ?_⟩
    rw [atKey_put_other (fun h => e (kI_inj h))]
    exact (h2 x).2 v hv z
/-- Is one there, and which? -/
theorem MapI.asked {w : World} {b n : Nat} {m : Int → Option Int} (h : MapI w b n m) {X : Int} (hX : IW X) : ∃ c : Int, (Instr.lookup 65 (.map (some b)) (.int .i64 X) true).run Tryz.prog w = .ok (.tuple #[.int .i64 c, .bool (m X).isSome]) w ∧ ∀ v, m X = some v → c = v := by
  obtain ⟨D, h1, h2⟩ := h
  have hz : (zeroValue 3).run Tryz.prog w = .ok (.int .i64 0) w := by kernel_rfl
  obtain ⟨v, ps, hrun, hv⟩ := h1.look_ok (int_keyed Tryz.underlying3) Tryz.underlying65 hz (plainElem_int Tryz.underlying3 (by decide)) (keyOf_int_mk Tryz.underlying3 (WalkArith.wf_i64 hX))
  obtain ⟨c, rfl, hc, hwc⟩ := plainElem_int_inv Tryz.underlying3 hv
  refine ⟨c, by rw [hrun]; rw [show has D (.int .i64 X) = (m X).isSome from (h2 X).1], fun v hv => ?_⟩
  simp only [Prod.mk.injEq] at hc
  have := ((h2 X).2 v hv (.lit (.int .i64 0))).symm.trans hc.1
  simpa using this.symm
section
variable {W H : Int} {s : ByteArray} {R : List Mv} {T : List Ow}
/-- What the law's map of cells may hold ahead of robot r, and at it. -/
def CellsOk (R : List Mv) (m : Int → Option Int) : Prop := ∀ c v, m c = some v → ∃ q : Nat, v = (q : Int) ∧ q < R.length ∧ c ∈ ats (getM R q)
/-- .. and its map of zones. -/
def ZonesOk (s : ByteArray) (R : List Mv) (m : Int → Option Int) : Prop := ∀ z v, m z = some v → ∃ (q : Nat) (c : Int), v = (q : Int) ∧ q < R.length ∧ c ∈ ats (getM R q) ∧ laneB s c = true ∧ z = ((bAt s c - 97 : Nat) : Int)
theorem CellsOk.mine (h : Inv W H s R T) {m : Int → Option Int} (hm : CellsOk R m) {r : Nat} (hr : r < R.length) {c : Int} (hc : c ∈ ats (getM R r)) {v : Int} (hv : m c = some v) : v = (r : Int) := by
  obtain ⟨q, rfl, hq, hcq⟩ := hm c v hv
  by_cases e : q = r
  · rw [e]
  · exact absurd rfl (ats_apart h hq hr e hcq hc).1
theorem ZonesOk.mine (h : Inv W H s R T) {m : Int → Option Int} (hm : ZonesOk s R m) {r : Nat} (hr : r < R.length) {c : Int} (hc : c ∈ ats (getM R r)) (hl : laneB s c = true) {v : Int} (hv : m ((bAt s c - 97 : Nat) : Int) = some v) : v = (r : Int) := by
  obtain ⟨q, c', rfl, hq, hcq, hl', e'⟩ := hm _ v hv
  by_cases e : q = r
  · rw [e]
  · exact absurd (show bAt s c' - 97 = bAt s c - 97 by omega) ((ats_apart h hq hr e hcq hc).2 hl' hl)
theorem CellsOk.put {m : Int → Option Int} (hm : CellsOk R m) {r : Nat} (hr : r < R.length) {c : Int} (hc : c ∈ ats (getM R r)) : CellsOk R (fun x => if x = c then some (r : Int) else m x) := fun x v hv => by
  by_cases e : x = c
  · subst e
    have hv : (if x = x then some (r : Int) else m x) = some v := hv
    rw [if_pos rfl] at hv
    injection hv with hv
    exact ⟨r, hv.symm, hr, hc⟩
  · have hv : (if x = c then some (r : Int) else m x) = some v := hv
    rw [if_neg e] at hv
    exact hm x v hv
theorem ZonesOk.put {m : Int → Option Int} (hm : ZonesOk s R m) {r : Nat} (hr : r < R.length) {c : Int} (hc : c ∈ ats (getM R r)) (hl : laneB s c = true) : ZonesOk s R (fun x => if x = ((bAt s c - 97 : Nat) : Int) then some (r : Int) else m x) := fun x v hv => by
  by_cases e : x = ((bAt s c - 97 : Nat) : Int)
  · have hv : (if x = ((bAt s c - 97 : Nat) : Int) then some (r : Int) else m x) = some v := hv
    rw [if_pos e] at hv
    injection hv with hv
    exact ⟨r, c, hv.symm, hr, hc, hl, e⟩
  · have hv : (if x = ((bAt s c - 97 : Nat) : Int) then some (r : Int) else m x) = some v := hv
    rw [if_neg e] at hv
    exact hm x v hv
end
/-- The law's two maps, made behind a world in which the state lies. -/
def Am (wB : World) (bz bc : Nat) (s : ByteArray) (R : List Mv) (k : Nat) (wr : World) : Prop :=
  ∃ nz nc mz mc, Below wB.heap.size wB wr ∧ MapI wr bz nz mz ∧ MapI wr bc nc mc ∧ (wB.heap.size ≤ bz ∧ wB.heap.size ≤ bc ∧ bz ≠ bc) ∧ ZonesOk s R mz ∧ CellsOk R mc ∧ nz ≤ k ∧ nc ≤ k
theorem below_grown {B : Nat} {w w' : World} {row : Option Nat} (h : w.grownBy w' row) (hr : ∀ b, row = some b → B ≤ b) (hB : B ≤ w.heap.size) : Below B w w' := by
  refine ⟨h.os, h.tape, h.output, h.size, fun i hi => h.block i (by omega) (fun e => ?_)⟩
  have := hr i e.symm
  omega
section
variable {wB w w' : World} {bz bc k : Nat} {s : ByteArray} {R : List Mv}
theorem Am.later (h : Am wB bz bc s R k w) (hb : Below w.heap.size w w') : Am wB bz bc s R k w' := by
  obtain ⟨nz, nc, mz, mc, h1, h2, h3, h4, h5, h6, h7⟩ := h
  exact ⟨nz, nc, mz, mc, h1.trans (hb.mono h1.size), h2.later hb, h3.later hb, h4, h5, h6, h7⟩
/-- Another map, or an iterator, is turned. -/
theorem Am.kept (h : Am wB bz bc s R k w) {x : Nat} (hg : w.grownBy w' (some x)) (hx : wB.heap.size ≤ x) (hz : bz ≠ x) (hc : bc ≠ x) : Am wB bz bc s R k w' := by
  obtain ⟨nz, nc, mz, mc, h1, h2, h3, h4, h5, h6, h7⟩ := h
  exact ⟨nz, nc, mz, mc, h1.trans (below_grown hg (fun b e => by injection e with e; omega) h1.size), h2.kept hg (by simpa using hz), h3.kept hg (by simpa using hc), h4, h5, h6, h7⟩
theorem Am.start (w : World) (s : ByteArray) (R : List Mv) : Am w w.heap.size (w.heap.size + 1) s R 0 ((w.alloc (.map #[] 0)).alloc (.map #[] 0)) := by
  have e : (w.alloc (.map #[] 0)).heap.size = w.heap.size + 1 := by simp
  have b1 : Below w.heap.size w (w.alloc (.map #[] 0)) := (Below.refl _ _).alloc (Nat.le_refl _) _
  have b2 : Below (w.alloc (.map #[] 0)).heap.size (w.alloc (.map #[] 0)) ((w.alloc (.map #[] 0)).alloc (.map #[] 0)) := (Below.refl _ _).alloc (Nat.le_refl _) _
  have m2 := MapI.made (w.alloc (.map #[] 0))
  rw [e] at m2
  have z0 : ZonesOk s R (fun _ => none) := fun z v h => by cases h
  have c0 : CellsOk R (fun _ => none) := fun z v h => by cases h
  exact ⟨0, 0, _, _, b1.trans (b2.mono b1.size), (MapI.made w).later b2, m2, ⟨Nat.le_refl _, by omega, by omega⟩, z0, c0, Nat.le_refl _, Nat.le_refl _⟩
theorem Am.mono {k' : Nat} (h : Am wB bz bc s R k w) (hk : k ≤ k') : Am wB bz bc s R k' w := by
  obtain ⟨nz, nc, mz, mc, h1, h2, h3, h4, h5, h6, h7, h8⟩ := h
  exact ⟨nz, nc, mz, mc, h1, h2, h3, h4, h5, h6, by omega, by omega⟩
theorem Am.below (h : Am wB bz bc s R k w) : Below wB.heap.size wB w := by
  obtain ⟨nz, nc, mz, mc, h1, _⟩ := h
  exact h1
theorem Am.ask (h : Am wB bz bc s R k w) {X : Int} (hX : IW X) : (∃ v b, (Instr.lookup 65 (.map (some bz)) (.int .i64 X) true).run Tryz.prog w = .ok (.tuple #[.int .i64 v, .bool b]) w) := by
  obtain ⟨nz, nc, mz, mc, h1, h2, h3, h4, h5, h6, h7, h8⟩ := h
  obtain ⟨c, hc, _⟩ := h2.asked hX
  exact ⟨c, _, hc⟩
variable {W H : Int} {T : List Ow}
theorem Am.ask_zone (h : Am wB bz bc s R k w) (hI : Inv W H s R T) {r : Nat} (hr : r < R.length) {c : Int} (hc : c ∈ ats (getM R r)) (hl : laneB s c = true) (hX : IW ((bAt s c - 97 : Nat) : Int)) : ∃ v b, (Instr.lookup 65 (.map (some bz)) (.int .i64 ((bAt s c - 97 : Nat) : Int)) true).run Tryz.prog w = .ok (.tuple #[.int .i64 v, .bool b]) w ∧ (b = true → v = (r : Int)) := by
  obtain ⟨nz, nc, mz, mc, h1, h2, h3, h4, h5, h6, h7, h8⟩ := h
  obtain ⟨v, hv, hv2⟩ := h2.asked hX
  refine ⟨v, _, hv, fun hs => ?_⟩
  obtain ⟨u, hu⟩ := Option.isSome_iff_exists.1 hs
  rw [hv2 u hu]
  exact h5.mine hI hr hc hl hu
theorem Am.ask_cell (h : Am wB bz bc s R k w) (hI : Inv W H s R T) {r : Nat} (hr : r < R.length) {c : Int} (hc : c ∈ ats (getM R r)) (hX : IW c) : ∃ v b, (Instr.lookup 65 (.map (some bc)) (.int .i64 c) true).run Tryz.prog w = .ok (.tuple #[.int .i64 v, .bool b]) w ∧ (b = true → v = (r : Int)) := by
  obtain ⟨nz, nc, mz, mc, h1, h2, h3, h4, h5, h6, h7, h8⟩ := h
  obtain ⟨v, hv, hv2⟩ := h3.asked hX
  refine ⟨v, _, hv, fun hs => ?_⟩
  obtain ⟨u, hu⟩ := Option.isSome_iff_exists.1 hs
  rw [hv2 u hu]
  exact h6.mine hI hr hc hu
theorem Am.put_cell (h : Am wB bz bc s R k w) (hk : k ≤ 1000) {r : Nat} (hr : r < R.length) (hr8 : r ≤ 8) {c : Int} (hc : c ∈ ats (getM R r)) (hX : IW c) : ∃ w', (Instr.mapUpdate 65 (.map (some bc)) (.int .i64 c) (.int .i64 (r : Int))).run Tryz.prog w = .ok () w' ∧ Am wB bz bc s R (k + 1) w' ∧ w.grownBy w' (some bc) := by
  obtain ⟨nz, nc, mz, mc, h1, h2, h3, h4, h5, h6, h7, h8⟩ := h
  obtain ⟨w', hrun, hm, hg⟩ := h3.put_run (by omega) hX (V := (r : Int)) (IW_nat (by omega))
  exact ⟨w', hrun, ⟨nz, _, mz, _, h1.trans (below_grown hg (fun b e => by injection e with e; omega) h1.size), h2.kept hg (by simp; omega), hm, h4, h5, h6.put hr hc, by omega, by omega⟩, hg⟩
theorem Am.put_zone (h : Am wB bz bc s R k w) (hk : k ≤ 1000) {r : Nat} (hr : r < R.length) (hr8 : r ≤ 8) {c : Int} (hc : c ∈ ats (getM R r)) (hl : laneB s c = true) (hX : IW ((bAt s c - 97 : Nat) : Int)) : ∃ w', (Instr.mapUpdate 65 (.map (some bz)) (.int .i64 ((bAt s c - 97 : Nat) : Int)) (.int .i64 (r : Int))).run Tryz.prog w = .ok () w' ∧ Am wB bz bc s R (k + 1) w' ∧ w.grownBy w' (some bz) := by
  obtain ⟨nz, nc, mz, mc, h1, h2, h3, h4, h5, h6, h7, h8⟩ := h
  obtain ⟨w', hrun, hm, hg⟩ := h2.put_run (by omega) hX (V := (r : Int)) (IW_nat (by omega))
  exact ⟨w', hrun, ⟨_, nc, _, mc, h1.trans (below_grown hg (fun b e => by injection e with e; omega) h1.size), hm, h3.kept hg (by simp; omega), h4, h5.put hr hc hl, h6, by omega, by omega⟩, hg⟩
theorem Am.lt (h : Am wB bz bc s R k w) : bz < w.heap.size ∧ bc < w.heap.size ∧ wB.heap.size ≤ bz ∧ wB.heap.size ≤ bc := by
  obtain ⟨nz, nc, mz, mc, h1, h2, h3, h4, h5, h6, h7, h8⟩ := h
  exact ⟨h2.lt, h3.lt, h4.1, h4.2.1⟩
theorem ats_iw (h : Inv W H s R T) {r : Nat} (hr : r < R.length) {c : Int} (hc : c ∈ ats (getM R r)) : IW c := by
  rcases ats_is h hr hc with ⟨d, hd, rfl⟩ | ⟨hl, _⟩
  · have := rightLe h.right
    have := hd.1
    exact IW_nat (by omega)
  · have h35 : bAt s c ≠ 35 := by
      intro e
      unfold laneB at hl
      rw [e] at hl; revert hl; decide
    obtain ⟨k, rfl, hk, _⟩ := bAt_in h35
    have := rightLe h.right
    exact IW_nat (by omega)
/-- .. and the map of one robot's cells. -/
structure Im (wB : World) (bz bc bi : Nat) (s : ByteArray) (R : List Mv) (k q ni : Nat) (w : World) : Prop where
  am : Am wB bz bc s R k w
  set : ∃ mi, SetI w bi ni mi ∧ ∀ x, mi x = true → x ∈ ats (getM R q)
  ge : wB.heap.size ≤ bi
  ne : bz ≠ bi ∧ bc ≠ bi
variable {bi q ni : Nat}
theorem Im.later (h : Im wB bz bc bi s R k q ni w) (hb : Below w.heap.size w w') : Im wB bz bc bi s R k q ni w' := by
  obtain ⟨mi, h1, h2⟩ := h.set
  exact ⟨h.am.later hb, ⟨mi, h1.later hb, h2⟩, h.ge, h.ne⟩
theorem Im.start (h : Am wB bz bc s R k w) (q : Nat) : Im wB bz bc w.heap.size s R k q 0 (w.alloc (.map #[] 0)) := by
  have := h.lt
  exact ⟨h.later ((Below.refl _ _).alloc (Nat.le_refl _) _), ⟨_, SetI.made w, fun x h => by cases h⟩, h.below.size, by omega, by omega⟩
theorem Im.put (h : Im wB bz bc bi s R k q ni w) (hn : ni ≤ 100) {x : Int} (hx : x ∈ ats (getM R q)) (hX : IW x) : ∃ w', (Instr.mapUpdate 66 (.map (some bi)) (.int .i64 x) (.bool true)).run Tryz.prog w = .ok () w' ∧ Im wB bz bc bi s R k q (ni + 1) w' := by
  obtain ⟨mi, h1, h2⟩ := h.set
  obtain ⟨w', hrun, hs, hg⟩ := h1.put_run (by omega) hX
  refine ⟨w', hrun, h.am.kept hg h.ge h.ne.1 h.ne.2, ⟨_, hs, fun y hy => ?_⟩, h.ge, h.ne⟩
  have hy : (mi y || (x == y)) = true := hy
  rw [Bool.or_eq_true] at hy
  rcases hy with hy | hy
  · exact h2 y hy
  · have : x = y := by simpa using hy
    rw [← this]
    exact hx
end
theorem has_of_at {D : DataW Unit} {kl : Lit} {d : DataW Unit} (h : ∀ zd, D.atKey kl zd = d) : has D kl = true := by
  cases e : has D kl with
  | true => rfl
  | false =>
    have h1 := (atKey_of_not_has e (.lit (.bool true))).symm.trans (h (.lit (.bool true)))
    have h2 := (atKey_of_not_has e (.lit (.bool false))).symm.trans (h (.lit (.bool false)))
    rw [← h2] at h1
    simp at h1
/-- A step of a range over a map of truths. -/
theorem next_set (w : World) {ops : Array Oper} {rest : List Oper} {o : Oper} {a : Act} {Q : Exit → Act → World → Prop} (hg : o.guard = none) (it : Operand) (hop : o.op = Op.next it false) (b r n : Nat) (D : DataW Unit) (left : Lit → Bool) (cnt : Nat)
    (hit : a.eval it = .pointer (some ⟨r, 0, none⟩)) (h : w.ranges Tryz.prog 3 (plainElem Tryz.prog 4) b r n D left cnt)
    (hDone : cnt = 0 → wpList Tryz.prog ops Q rest (a.put o.dst (.tuple #[.bool false])) w)
    (hMore : ∀ (x : Int) (v : Value) (w' : World) (cnt' : Nat), has D (kI x) = true → w'.ranges Tryz.prog 3 (plainElem Tryz.prog 4) b r n D (fun z => left z && !z.sameKey (kI x)) cnt' → cnt' < cnt →
      w.grownBy w' (some r) → (Instr.entry (.pointer (some ⟨r, 0, none⟩))).run Tryz.prog w' = .ok (.tuple #[.int .i64 x, v]) w' → wpList Tryz.prog ops Q rest (a.put o.dst (.tuple #[.bool true, .int .i64 x, v])) w') :
    wpList Tryz.prog ops Q (o :: rest) a w :=
  wpList_next_ranges w hg it hop 3 (int_keyed Tryz.underlying3) (plainElem Tryz.prog 4) (Value.int .i64) Value.bool (fun key kl hkey => by obtain ⟨x, rfl, _⟩ := Maps.keyOf_int_inv Tryz.underlying3 hkey; exact ⟨x, rfl⟩) (fun v y hv => by obtain ⟨c, rfl, _⟩ := plainElem_bool_inv Tryz.underlying4 hv; exact ⟨c, rfl⟩) b r n D left cnt hit h (fun h0 _ => hDone h0)
    (fun x c kl y w' cnt' hkey hlk hv hat hrg hlt hgr hsz hen => by
      obtain ⟨x', e1, e2, _⟩ := Maps.keyOf_int_inv Tryz.underlying3 hkey
      injection e1 with _ e1
      subst e1 e2
      exact hMore x (.bool c) w' cnt' (has_of_at hat) hrg hlt hgr hen)
end Tf
end Go.Proofs.YtellaeihcignaaaGreatDoor
