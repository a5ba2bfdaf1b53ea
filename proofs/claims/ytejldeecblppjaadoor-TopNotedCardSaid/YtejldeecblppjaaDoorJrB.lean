/-
  Layer 16: a journal in memory; mend, Open, Note, Sync, Len.
-/
import Derived.Test.YtejldeecblppjaaDoorJrA
set_option linter.unusedVariables false
set_option maxRecDepth 100000
namespace Go.Proofs.YtejldeecblppjaaDoor
namespace Jr
open Go.RowKit Go.Maps Bp Ck
open Dk (D DAt DF op kp pwE apE apD syD cuE cuD IW)

/-- A journal in block j, its disk in block g. -/
structure JAt (w : World) (base j g : Nat) (v : Value) (d : D) (n : Nat) : Prop where
  box : w.heap[j]? = some (.cells #[.pointer (some ⟨g, 0, none⟩), .int .i64 (n : Int)] 94 (0, 0))
  disk : DAt w base g v d
  lo : base ≤ j
  few : n ≤ 1048576
def JF (j g : Nat) (v : Value) (k : Nat) : Prop := k = j ∨ DF g v k
section
variable {w w' : World} {base base' j g n : Nat} {v v' : Value} {d d' : D}
theorem JAt.lt (h : JAt w base j g v d n) : j < w.heap.size := lt_of_heap h.box
theorem JAt.cells (h : JAt w base j g v d n) : w.cell? ⟨j, 0, none⟩ = some (.pointer (some ⟨g, 0, none⟩)) ∧ w.cell? ⟨j, 1, none⟩ = some (.int .i64 (n : Int)) :=
  ⟨by rw [cell_of_row w j 0 _ _ _ h.box]; rfl, by rw [cell_of_row w j 1 _ _ _ h.box]; rfl⟩
theorem JAt.free (h : JAt w base j g v d n) (i : Nat) : w.frozen? ⟨j, i, none⟩ = false := frozen_of_row w j i _ _ h.box
/-- The journal's block is none of the disk's. -/
theorem JAt.apart (h : JAt w base j g v d n) : ¬ DF g v j := by
  intro hk
  obtain ⟨c, t, fz, hh, ht⟩ := h.disk.kind j hk
  have := hh.symm.trans h.box
  injection this with this
  injection this with _ this _
  subst this
  revert ht
  decide
theorem JAt.later (h : JAt w base j g v d n) (hb : Below w.heap.size w w') : JAt w' base j g v d n := ⟨(hb.block j h.lt).trans h.box, h.disk.later hb, h.lo, h.few⟩
theorem JAt.lower (h : JAt w base j g v d n) (hb : base' ≤ base) : JAt w base' j g v d n := ⟨h.box, h.disk.lower hb, Nat.le_trans hb h.lo, h.few⟩
/-- Its disk acts. -/
theorem JAt.act (h : JAt w base j g v d n) (hn : DAt w' base g v' d') (ht : Turn (DF g v) (DF g v') w w') : JAt w' base j g v' d' n :=
  ⟨(ht.block j h.lt h.apart).trans h.box, hn, h.lo, h.few⟩
theorem JAt.blocks (h : JAt w base j g v d n) : ∀ k, JF j g v k → base ≤ k ∧ k < w.heap.size := by
  rintro k (rfl | hk)
  · exact ⟨h.lo, h.lt⟩
  · exact h.disk.blocks k hk
theorem JAt.same (h : JAt w base j g v d n) (hb : ∀ k, JF j g v k → w'.heap[k]? = w.heap[k]?) : JAt w' base j g v d n := ⟨(hb j (.inl rfl)).trans h.box, h.disk.same (fun k hk => hb k (.inr hk)), h.lo, h.few⟩
theorem JAt.turn {F F' : Nat → Prop} (h : JAt w base j g v d n) (ht : Turn F F' w w') (hd : ∀ k, JF j g v k → ¬ F k) : JAt w' base j g v d n := h.same fun k hk => ht.block k (h.blocks k hk).2 (hd k hk)
/-- Which types its blocks are of. -/
theorem JAt.kind (h : JAt w base j g v d n) : ∀ k, JF j g v k → ∃ c t fz, w.heap[k]? = some (.cells c t fz) ∧ (t = 94 ∨ t = 88 ∨ t = 5) := by
  rintro k (rfl | hk)
  · exact ⟨_, _, _, h.box, .inl rfl⟩
  · obtain ⟨c, t, fz, h1, h2⟩ := h.disk.kind k hk
    exact ⟨c, t, fz, h1, .inr h2⟩
theorem widen (h : Turn (DF g v) (DF g v') w w') : Turn (JF j g v) (JF j g v') w w' :=
  ⟨h.os, h.tape, h.output, h.size, fun k hk hn => h.block k hk (fun e => hn (.inr e)), fun k hk => hk.elim (fun e => .inl (.inl e)) (fun e => (h.foot k e).imp .inr id)⟩
/-- Its own block is written. -/
theorem JAt.put (h : JAt w base j g v d n) {m : Nat} (hm : m ≤ 1048576) : JAt (w.setCell ⟨j, 1, none⟩ (.int .i64 (m : Int))) base j g v d m :=
  ⟨by rw [heap_setCell_same w j 1 _ _ _ h.box]; simp, h.disk.same (fun k hk => Dk.set_other _ _ _ _ _ (fun e => h.apart (e ▸ hk))), h.lo, hm⟩
end
theorem op_live {d : D} (h1 : d.dead = false) (h2 : d.cut = false) : op d = d := by unfold op; rw [if_neg (by rw [h2]; simp)]
theorem kp_kp (d : D) (n : Nat) (hn : n ≤ d.s.size) : kp (kp d n) (kp d n).s.size = kp d n := by
  show kp (kp d n) (d.s.extract 0 n).size = kp d n
  rw [Dk.size_ext _ _ hn]
  unfold kp
  have e := Dk.ext_all (d.s.extract 0 n)
  rw [Dk.size_ext _ _ hn] at e
  simp only [e]
set_option maxHeartbeats 1000000 in
theorem mend_any {w : World} {base g : Nat} {v : Value} {d : D} (h : DAt w base g v d) (h1 : d.dead = false) (h2 : d.cut = false) (n m : Nat) (hn : n ≤ d.s.size) (hm : m = d.s.size) :
    Calls Tryd.prog 54 #[.pointer (some ⟨g, 0, none⟩), .int .i64 (n : Int), .int .i64 (m : Int)] w (Dk.Told base g v (.int .i64 0) (kp d n) w) := by
  have ho := op_live h1 h2
  by_cases hlt : n < d.s.size
  · have HC := Lib.hid (Dk.Cutoff_any h (n : Int))
    have e1 : cuE d n = 0 := by unfold cuE; rw [ho, if_neg (by rw [h1]; simp), if_pos ⟨by omega, by omega⟩]
    have e2 : cuD d n = kp d n := by unfold cuD; rw [if_pos e1, ho]; rfl
    rw [e1, e2] at HC
    have e3 : pwE (op (kp d n)) = 0 := by rw [op_live (d := kp d n) h1 h2]; exact Dk.pw_on h1
    have e4 : syD (kp d n) = kp d n := by
      unfold syD
      rw [op_live (d := kp d n) h1 h2, if_neg (by show ¬ d.dead = true; rw [h1]; simp)]
      exact kp_kp d n hn
    have HE := Lib.hid (And.intro e3 e4)
    have q : (n : Int) < (m : Int) := by omega
    clear h h1 h2 ho e1 e2 e3 e4
    go_enter Tryd.func54, Tryd.ntmps54
    go_wp2_with fail
    refine HC.out.mono ?_
    rintro e w1 ⟨v1, rfl, hn1, ht1⟩
    have HS := Lib.hid (Dk.Sync_any hn1)
    rw [HE.out.1, HE.out.2] at HS
    have HT1 := Lib.hid ht1
    clear hn1 ht1 HC
    go_wp2_with fail
    refine HS.out.mono ?_
    rintro e w2 ⟨v2, rfl, hn2, ht2⟩
    have HN2 := Lib.hid hn2
    have HT2 := Lib.hid ht2
    clear hn2 ht2
    go_wp2_with fail
    go_ret
    exact ⟨v2, rfl, HN2.out, HT1.out.trans HT2.out⟩
  · obtain rfl : n = d.s.size := by omega
    have HS := Lib.hid (Dk.Sync_any h)
    have e3 : pwE (op d) = 0 := by rw [ho]; exact Dk.pw_on h1
    have e4 : syD d = kp d d.s.size := by unfold syD; rw [ho, if_neg (by rw [h1]; simp)]
    rw [e3, e4] at HS
    have q : ¬ ((d.s.size : Int) < (m : Int)) := by omega
    clear h h1 h2 ho e3 e4 hlt
    generalize d.s.size = z at *
    go_enter Tryd.func54, Tryd.ntmps54
    go_wp2_with fail
    refine HS.out.mono ?_
    rintro e w2 ⟨v2, rfl, hn2, ht2⟩
    have HN2 := Lib.hid hn2
    have HT2 := Lib.hid ht2
    clear hn2 ht2
    go_wp2_with fail
    go_ret
    exact ⟨v2, rfl, HN2.out, HT2.out⟩
/-- What is told of a disk whose power is on, and stays on. -/
def OpenTold (base g : Nat) (v : Value) (d : D) (w : World) (e : Ending) (w' : World) : Prop :=
  ∃ j A c v', e = .returned (.tuple #[.pointer (some ⟨j, 0, none⟩), .slice A (fr d.s).length c, .int .i64 0]) ∧ JAt w' base j g v' (kp d (wl d.s)) (fr d.s).length ∧ Bss w'.heap.size w' A (fr d.s).length c ((fr d.s).map inn) ∧
    Turn (DF g v) (DF g v') w w' ∧ w.heap.size ≤ j ∧ ∃ ws, Below w.heap.size w ws ∧ Turn (DF g v) (DF g v') ws w' ∧ Bss ws.heap.size ws A (fr d.s).length c ((fr d.s).map inn) ∧ Inn w.heap.size ws A (fr d.s).length c ∧ ws.heap.size ≤ j
theorem bss_turn {F F' : Nat → Prop} {w w' : World} {B : Nat} {A : Option Addr} {n c : Nat} {ls : List (List Nat)} (h : Bss w.heap.size w A n c ls) (hi : Inn B w A n c) (ht : Turn F F' w w') (hF : ∀ k, F k → k < B ∨ w.heap.size ≤ k) : Bss w'.heap.size w' A n c ls := by
  refine ⟨h.len, h.le, h.max, fun hn => ?_⟩
  obtain ⟨g, off, hg, hlt, hc⟩ := h.cell hn
  have hgF : ¬ F g := fun hf => by
    have h1 : B ≤ g := hi.2.1 _ hg
    have := hF g hf
    omega
  refine ⟨g, off, hg, Nat.lt_of_lt_of_le hlt ht.size, fun j hj => ?_⟩
  obtain ⟨A', n', c', e1, e2⟩ := hc j hj
  have hi2 := hi.2.2 g off hg j hj A' n' c' e1
  refine ⟨A', n', c', (Dk.cell_block (ht.block g hlt hgF)).trans e1, ⟨e2.len, e2.le, e2.max, e2.nil, e2.byte, fun hn' => ?_⟩⟩
  obtain ⟨g2, off2, hg2, hlt2, hc2⟩ := e2.cell hn'
  have hb : B ≤ g2 := hi2 _ hg2
  refine ⟨g2, off2, hg2, Nat.lt_of_lt_of_le hlt2 ht.size, fun j2 hj2 => (Dk.cell_block (ht.block g2 hlt2 (fun hf => ?_))).trans (hc2 j2 hj2)⟩
  have := hF g2 hf
  omega
end Jr
end Go.Proofs.YtejldeecblppjaaDoor
