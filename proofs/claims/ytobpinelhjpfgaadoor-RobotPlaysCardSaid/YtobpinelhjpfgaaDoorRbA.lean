/-
  Layer 18: a robot in memory; New, busy, Next, Packet, Heard, Cells, Charge, Done; the same of none.
-/
import Derived.Test.YtobpinelhjpfgaaDoorLnArgs
import Derived.Test.YtobpinelhjpfgaaDoorRecordActsW
import Derived.Test.YtobpinelhjpfgaaDoorBkA
set_option linter.unusedVariables false
set_option maxRecDepth 100000
namespace Go.Proofs.YtobpinelhjpfgaaDoor
namespace Rb
open Go.RowKit Bp Ck Ln
open Rc (Aok Shp TakeATold act_uniq)
/-- An act's bytes. -/
def actB (k : Nat) (c p : Int) : List Nat := pack (Rc.kb 2 k [3, 2] (Rc.natN (Rc.five 0 0 p c 0)))
/-- A robot: its dock, what it can go at most, its cell, what it can go, its act (kind, cell, pod), whether it is begun, how many it has heard and told, and the packet that it tells. -/
structure R where
  dock : Int
  full : Int
  cell : Int
  chg : Int
  k : Nat
  c : Int
  p : Int
  on : Bool
  heard : Nat
  told : Nat
  pk : List Nat
def rcl (z : R) (h s : Nat) : Array Value := #[.int .i64 z.dock, .int .i64 z.full, .int .i64 z.cell, .int .i64 z.chg, .int .u8 (z.k : Int), .int .i64 z.c, .int .i64 z.p, .bool z.on, .pointer (some ⟨h, 0, none⟩), .pointer (some ⟨s, 0, none⟩)]
/-- A robot's blocks: its own, its receiver's, its sender's. -/
def RbF (r h s : Nat) (v : Value) : Nat → Prop := fun k => k = r ∨ k = h ∨ SF s v k
structure RbAt (w : World) (base r h s : Nat) (v : Value) (z : R) : Prop where
  box : w.heap[r]? = some (.cells (rcl z h s) 85 (0, 0))
  rat : RAt w h z.heard
  sat : SAt w s v z.told z.pk
  lo : ∀ k, RbF r h s v k → base ≤ k
section
variable {w w' : World} {base r h s : Nat} {v : Value} {z : R}
theorem RbAt.same (g : RbAt w base r h s v z) (hk : ∀ k, RbF r h s v k → w'.heap[k]? = w.heap[k]?) : RbAt w' base r h s v z :=
  ⟨(hk r (.inl rfl)).trans g.box, g.rat.same (hk h (.inr (.inl rfl))), g.sat.same (fun k e => hk k (.inr (.inr e))), g.lo⟩
theorem RbAt.lt (g : RbAt w base r h s v z) : ∀ k, RbF r h s v k → k < w.heap.size := by
  rintro k (rfl | rfl | hk)
  · exact lt_of_heap g.box
  · exact g.rat.lt
  · exact g.sat.lt k hk
theorem RbAt.later (g : RbAt w base r h s v z) (hb : Below w.heap.size w w') : RbAt w' base r h s v z := g.same fun k hk => hb.block k (g.lt k hk)
theorem RbAt.turn {F F' : Nat → Prop} (g : RbAt w base r h s v z) (ht : Turn F F' w w') (hd : ∀ k, RbF r h s v k → ¬ F k) : RbAt w' base r h s v z := g.same fun k hk => ht.block k (g.lt k hk) (hd k hk)
/-- What kind its blocks are of. -/
theorem RbAt.kind (g : RbAt w base r h s v z) : ∀ k, RbF r h s v k → ∃ c t fz, w.heap[k]? = some (.cells c t fz) ∧ (t = 85 ∨ t = 104 ∨ t = 102 ∨ t = 5) := by
  rintro k (rfl | rfl | hk)
  · exact ⟨_, _, _, g.box, .inl rfl⟩
  · exact ⟨_, _, _, g.rat.box, .inr (.inl rfl)⟩
  · obtain ⟨c, t, fz, hh, ht⟩ := g.sat.kind k hk
    exact ⟨c, t, fz, hh, ht.elim (fun e => .inr (.inr (.inl e))) (fun e => .inr (.inr (.inr e)))⟩
theorem RbAt.apart (g : RbAt w base r h s v z) {b : Nat} {c : Array Value} {t : TypeId} {fz : Nat × Nat} (hb : w.heap[b]? = some (.cells c t fz)) (h1 : t ≠ 85) (h2 : t ≠ 104) (h3 : t ≠ 102) (h4 : t ≠ 5) : ¬ RbF r h s v b := by
  intro hk
  obtain ⟨c2, t2, fz2, hh, ht⟩ := g.kind b hk
  rw [hb] at hh
  injection hh with hh
  injection hh with _ e _
  subst e
  rcases ht with x | x | x | x
  · exact h1 x
  · exact h2 x
  · exact h3 x
  · exact h4 x
theorem RbAt.rs (g : RbAt w base r h s v z) : ¬ SF s v r ∧ r ≠ h ∧ ¬ SF s v h := by
  refine ⟨g.sat.apart g.box (by decide) (by decide), ?_, g.rat.free g.sat⟩
  intro e
  have h1 := g.box
  have h2 := g.rat.box
  rw [e] at h1
  rw [h1] at h2
  injection h2 with h2
  injection h2 with _ e2 _
  revert e2
  decide
theorem RbAt.cells (g : RbAt w base r h s v z) : (w.cell? ⟨r, 0, none⟩ = some (.int .i64 z.dock) ∧ w.cell? ⟨r, 1, none⟩ = some (.int .i64 z.full) ∧ w.cell? ⟨r, 2, none⟩ = some (.int .i64 z.cell) ∧ w.cell? ⟨r, 3, none⟩ = some (.int .i64 z.chg) ∧ w.cell? ⟨r, 4, none⟩ = some (.int .u8 (z.k : Int)) ∧ w.cell? ⟨r, 5, none⟩ = some (.int .i64 z.c) ∧ w.cell? ⟨r, 6, none⟩ = some (.int .i64 z.p) ∧ w.cell? ⟨r, 7, none⟩ = some (.bool z.on) ∧ w.cell? ⟨r, 8, none⟩ = some (.pointer (some ⟨h, 0, none⟩)) ∧ w.cell? ⟨r, 9, none⟩ = some (.pointer (some ⟨s, 0, none⟩))) ∧
    ∀ j, w.frozen? ⟨r, j, none⟩ = false := by
  have q := fun j => cell_of_row w r j _ _ _ g.box
  exact ⟨⟨q 0, q 1, q 2, q 3, q 4, q 5, q 6, q 7, q 8, q 9⟩, fun j => frozen_of_row w r j _ _ g.box⟩
/-- Its own block is written. -/
theorem RbAt.set (g : RbAt w base r h s v z) {z' : R} (hk : ∀ k, k ≠ r → w'.heap[k]? = w.heap[k]?) (hb : w'.heap[r]? = some (.cells (rcl z' h s) 85 (0, 0))) (e1 : z'.heard = z.heard) (e2 : z'.told = z.told) (e3 : z'.pk = z.pk) : RbAt w' base r h s v z' := by
  obtain ⟨n1, n2, n3⟩ := g.rs
  refine ⟨hb, ?_, ?_, g.lo⟩
  · rw [e1]
    exact g.rat.same (hk h (fun e => n2 e.symm))
  · rw [e2, e3]
    exact g.sat.same (fun k e => hk k (fun x => n1 (x ▸ e)))
/-- Its sender acts. -/
theorem RbAt.sender (g : RbAt w base r h s v z) (hB : base ≤ w.heap.size) {v' : Value} {told' : Nat} {pk' : List Nat} (hs : SAt w' s v' told' pk') (ht : Turn (One s) (One s) w w') (hv : ∀ k, v'.ownBlock = some k → v.ownBlock = some k ∨ w.heap.size ≤ k) : RbAt w' base r h s v' { z with told := told', pk := pk' } ∧ Turn (RbF r h s v) (RbF r h s v') w w' := by
  obtain ⟨n1, n2, n3⟩ := g.rs
  refine ⟨⟨(ht.block r (lt_of_heap g.box) (fun e => n1 (.inl e))).trans g.box, g.rat.turn ht (g.rat.ne g.sat), hs, ?_⟩, ⟨ht.os, ht.tape, ht.output, ht.size, fun k h1 h2 => ht.block k h1 (fun e => h2 (.inr (.inr (.inl e)))), ?_⟩⟩
  · rintro k (e | e | e | e)
    · exact g.lo k (.inl e)
    · exact g.lo k (.inr (.inl e))
    · exact g.lo k (.inr (.inr (.inl e)))
    · rcases hv k e with x | x
      · exact g.lo k (.inr (.inr (.inr x)))
      · omega
  · rintro k (e | e | e | e)
    · exact .inl (.inl e)
    · exact .inl (.inr (.inl e))
    · exact .inl (.inr (.inr (.inl e)))
    · exact (hv k e).imp (fun x => .inr (.inr (.inr x))) id
/-- Its receiver acts. -/
theorem RbAt.receiver (g : RbAt w base r h s v z) {n : Nat} (hs : RAt w' h n) (ht : Turn (One h) (One h) w w') : RbAt w' base r h s v { z with heard := n } ∧ Turn (RbF r h s v) (RbF r h s v) w w' := by
  obtain ⟨n1, n2, n3⟩ := g.rs
  exact ⟨⟨(ht.block r (lt_of_heap g.box) n2).trans g.box, hs, g.sat.turn ht n3, g.lo⟩, ⟨ht.os, ht.tape, ht.output, ht.size, fun k h1 h2 => ht.block k h1 (fun e => h2 (.inr (.inl e))), fun k hk => .inl hk⟩⟩
theorem turn_lo {F F' : Nat → Prop} (ht : Turn F F' w w') (hB : base ≤ w.heap.size) (hF : ∀ k, F k → base ≤ k) : Below base w w' := ht.below base hB hF
end
/-- A new robot. -/
def z0 (dock chg : Int) : R := ⟨dock, chg, dock, chg, 0, 0, 0, false, 0, 0, []⟩
theorem new_no (dock chg : Int) (hd : dock < 0 ∨ 255 < dock ∨ chg < 0) (w : World) : Calls Tryd.prog 10 #[.int .i64 dock, .int .i64 chg] w fun e w' => e = .returned (.tuple #[.pointer none, .int .i64 1]) ∧ w = w' := by
  by_cases h1 : dock < 0
  · have t1 : decide (dock < 0) = true := decide_eq_true h1
    go_enter Tryd.func10, Tryd.ntmps10
    go_wp2
    go_ret2
    exact ⟨rfl, rfl⟩
  · have t1 : decide (dock < 0) = false := decide_eq_false h1
    by_cases h2 : 255 < dock
    · have t2 : decide (255 < dock) = true := decide_eq_true h2
      go_enter Tryd.func10, Tryd.ntmps10
      go_wp2
      go_ret2
      exact ⟨rfl, rfl⟩
    · have t2 : decide (255 < dock) = false := decide_eq_false h2
      have t3 : decide (chg < 0) = true := decide_eq_true (by omega)
      go_enter Tryd.func10, Tryd.ntmps10
      go_wp2
      go_ret2
      exact ⟨rfl, rfl⟩
theorem new_any (dock chg : Int) (hd : 0 ≤ dock ∧ dock ≤ 255) (hc : 0 ≤ chg) (w : World) : Calls Tryd.prog 10 #[.int .i64 dock, .int .i64 chg] w fun e w' => ∃ r h s, e = .returned (.tuple #[.pointer (some ⟨r, 0, none⟩), .int .i64 0]) ∧ RbAt w' w.heap.size r h s (.slice none 0 0) (z0 dock chg) ∧ Below w.heap.size w w' := by
  have t1 : decide (dock < 0) = false := decide_eq_false (by omega)
  have t2 : decide (255 < dock) = false := decide_eq_false (by omega)
  have t3 : decide (chg < 0) = false := decide_eq_false (by omega)
  go_enter Tryd.func10, Tryd.ntmps10
  go_wp2_with fail
  refine (newReceiver_any 0 _).mono ?_
  rintro e wa ⟨rfl, rfl⟩
  go_wp2_with fail
  refine (newSender_any 0 _).mono ?_
  rintro e wb ⟨rfl, rfl⟩
  go_wp2_with fail
  go_ret2
  have b1 : Below w.heap.size w (w.alloc (.cells #[.int .u64 0] 104)) := (Below.refl _ _).alloc (Nat.le_refl _) _
  have hr := rat_new w 0 (by decide)
  generalize hw1 : w.alloc (.cells #[.int .u64 ((0 : Nat) : Int)] 104) = w1 at *
  have hw1' : w.alloc (.cells #[.int .u64 0] 104) = w1 := hw1
  try rw [hw1']
  try rw [hw1'] at b1
  have e1 : w1.heap.size = w.heap.size + 1 := by rw [← hw1]; simp
  have hs := sat_new w1 0 (by decide)
  rw [e1] at hs
  have b2 : Below w1.heap.size w1 (w1.alloc (.cells #[.int .u64 ((0 : Nat) : Int), .slice none 0 0] 102)) := (Below.refl _ _).alloc (Nat.le_refl _) _
  generalize hw2 : w1.alloc (.cells #[.int .u64 ((0 : Nat) : Int), .slice none 0 0] 102) = w2 at *
  have hw2' : w1.alloc (.cells #[.int .u64 0, .slice none 0 0] 102) = w2 := hw2
  try rw [hw2']
  have e2 : w2.heap.size = w1.heap.size + 1 := by rw [← hw2]; simp
  have b3 := fun o => ((Below.refl w2.heap.size w2).alloc (Nat.le_refl _) o)
  have hr2 := (hr.later b2).later (b3 (.cells (rcl (z0 dock chg) w.heap.size (w.heap.size + 1)) 85))
  have hs2 := hs.later (b3 (.cells (rcl (z0 dock chg) w.heap.size (w.heap.size + 1)) 85))
  have hx := heap_alloc_new w2 (.cells (rcl (z0 dock chg) w.heap.size (w.heap.size + 1)) 85)
  rw [show w2.heap.size = w.heap.size + 1 + 1 by omega] at hx
  refine ⟨w.heap.size + 1 + 1, w.heap.size, w.heap.size + 1, rfl, ⟨hx, hr2, hs2, ?_⟩, b1.trans ((b2.trans ((b3 _).mono (by omega))).mono (by omega))⟩
  rintro k (e | e | e | e)
  · omega
  · omega
  · have : k = w.heap.size + 1 := e
    omega
  · cases e
section
variable {w : World} {base r h s : Nat} {v : Value} {z : R}
theorem busy_any (g : RbAt w base r h s v z) : Calls Tryd.prog 58 #[.pointer (some ⟨r, 0, none⟩)] w fun e w' => e = .returned (.bool (decide (z.k ≠ 0))) ∧ w = w' := by
  obtain ⟨⟨-, -, -, -, c4, -⟩, -⟩ := g.cells
  clear g
  by_cases hk : z.k = 0
  · have e : decide (z.k ≠ 0) = false := decide_eq_false (by simpa using hk)
    rw [e]
    rw [hk] at c4
    go_enter Tryd.func58, Tryd.ntmps58
    go_wp2
    go_ret
    exact ⟨rfl, rfl⟩
  · have e : decide (z.k ≠ 0) = true := decide_eq_true hk
    have hne : ((z.k : Int) != 0) = true := by rw [bne_iff_ne]; omega
    rw [e]
    go_enter Tryd.func58, Tryd.ntmps58
    go_wp2
    go_ret
    exact ⟨rfl, rfl⟩
theorem charge_any (g : RbAt w base r h s v z) : Calls Tryd.prog 28 #[.pointer (some ⟨r, 0, none⟩)] w fun e w' => e = .returned (.int .i64 z.chg) ∧ w = w' := by
  obtain ⟨⟨-, -, -, c3, -⟩, -⟩ := g.cells
  clear g
  go_enter Tryd.func28, Tryd.ntmps28
  go_wp2
  go_ret
  exact ⟨rfl, rfl⟩
theorem packet_any (g : RbAt w base r h s v z) : Calls Tryd.prog 24 #[.pointer (some ⟨r, 0, none⟩)] w (PktTold z.pk w) := by
  obtain ⟨⟨-, -, -, -, -, -, -, -, -, c9⟩, -⟩ := g.cells
  have HP := Lib.hid (Ln.packet_any g.sat)
  clear g
  unfold PktTold at HP ⊢
  generalize z.pk.length = n at *
  generalize decide (z.pk ≠ []) = b at *
  go_enter Tryd.func24, Tryd.ntmps24
  go_wp2_with fail
  refine HP.out.mono ?_
  rintro e w1 ⟨A, c, rfl, ho, hb⟩
  have HO := Lib.hid ho
  have HB := Lib.hid hb
  clear ho hb HP
  go_wp2_with fail
  go_ret2
  exact ⟨A, c, rfl, HO.out, HB.out⟩
/-- What a call comes to that changes the robot. -/
def RTold (base r h s : Nat) (v : Value) (z : R) (x : Value) (w : World) (e : Ending) (w' : World) : Prop := ∃ v', e = .returned x ∧ RbAt w' base r h s v' z ∧ Turn (RbF r h s v) (RbF r h s v') w w'
theorem heard_any {B : Nat} {A : Option Addr} {n c : Nat} {bs : List Nat} (g : RbAt w base r h s v z) (hBb : base ≤ w.heap.size) (hd : By B w A n c bs) (hB : B ≤ w.heap.size) :
    Calls Tryd.prog 19 #[.pointer (some ⟨r, 0, none⟩), .slice A n c] w (RTold base r h s v { z with told := if heB z.told z.pk bs then z.told + 1 else z.told, pk := if heB z.told z.pk bs then [] else z.pk } (.bool (heB z.told z.pk bs)) w) := by
  obtain ⟨⟨-, -, -, -, -, -, -, -, -, c9⟩, -⟩ := g.cells
  have HP := Lib.hid (shear_any g.sat hd hB)
  have HG := Lib.hid g
  clear g hd
  generalize heB z.told z.pk bs = b at *
  cases b
  · go_enter Tryd.func19, Tryd.ntmps19
    go_wp2_with fail
    refine HP.out.mono ?_
    rintro e w1 ⟨v', rfl, hs, ht, hv⟩
    have HS := Lib.hid (HG.out.sender hBb hs ht hv)
    clear hs ht hv HP
    go_wp2_with fail
    go_ret
    exact ⟨v', rfl, HS.out.1, HS.out.2⟩
  · go_enter Tryd.func19, Tryd.ntmps19
    go_wp2_with fail
    refine HP.out.mono ?_
    rintro e w1 ⟨v', rfl, hs, ht, hv⟩
    have HS := Lib.hid (HG.out.sender hBb hs ht hv)
    clear hs ht hv HP
    go_wp2_with fail
    go_ret
    exact ⟨v', rfl, HS.out.1, HS.out.2⟩
/-- How many acts it has done. -/
def dn (z : R) : Nat := z.told + (if z.pk = [] then 0 else 1)
theorem done_any (g : RbAt w base r h s v z) : Calls Tryd.prog 29 #[.pointer (some ⟨r, 0, none⟩)] w fun e w' => e = .returned (.int .u64 (dn z : Int)) ∧ Below w.heap.size w w' := by
  obtain ⟨⟨-, -, -, -, -, -, -, -, -, c9⟩, -⟩ := g.cells
  have HT := Lib.hid (told_any g.sat)
  have HP := Lib.hid (Ln.packet_any g.sat)
  have hgd := g.sat.good
  have hnm := g.sat.num
  clear g
  unfold PktTold at HP
  by_cases hp : z.pk = []
  · have e1 : dn z = z.told := by unfold dn; rw [if_pos hp]; rfl
    have e2 : decide (z.pk ≠ []) = false := decide_eq_false (by simpa using hp)
    rw [e1]
    rw [e2] at HP
    clear e1 e2 hp hgd
    generalize z.pk.length = n at *
    go_enter Tryd.func29, Tryd.ntmps29
    go_wp2_with fail
    refine HT.out.mono ?_
    rintro e w1 ⟨rfl, rfl⟩
    go_wp2_with fail
    refine HP.out.mono ?_
    rintro e w1 ⟨A, c, rfl, ho, hb⟩
    have HB := Lib.hid hb
    clear ho hb HP
    go_wp2_with fail
    go_ret
    exact ⟨rfl, HB.out⟩
  · have e1 : dn z = z.told + 1 := by unfold dn; rw [if_neg hp]
    have e2 : decide (z.pk ≠ []) = true := decide_eq_true hp
    have hn2 := hgd hp
    rw [e1]
    rw [e2] at HP
    clear e1 e2 hp hgd
    generalize z.pk.length = n at *
    go_enter Tryd.func29, Tryd.ntmps29
    go_wp2_with fail
    refine HT.out.mono ?_
    rintro e w1 ⟨rfl, rfl⟩
    go_wp2_with fail
    refine HP.out.mono ?_
    rintro e w1 ⟨A, c, rfl, ho, hb⟩
    have HB := Lib.hid hb
    clear ho hb HP
    go_wp2_with fail
    go_ret
    exact ⟨rfl, HB.out⟩
theorem Tryd.resRbN : Tryd.f23.results = #[.cell 2 33, .tmp 3] := by kernel_rfl
theorem ret_next {w : World} {R : Nat} {x0 x1 x2 : Value} {t : Nat} (tmps : Array Value) (ht : tmps.getD 2 undef = .pointer (some ⟨R, 0, none⟩)) (h : w.heap[R]? = some (.cells #[x0, x1, x2] t (0, 0))) :
    (results Tryd.f23 tmps).run Tryd.prog w = .ok (.tuple #[.agg #[x0, x1, x2], tmps.getD 3 undef]) w := by
  rw [results_cell_tmp Tryd.resRbN, ht]
  simp [asAddr, Result.andThen, run_loadVar_row w R t 33 _ _ _ h Tryd.underlying33 rfl Rc.Tryd.cellsA]
/-- The first cells, as it is in one or in two. -/
def cls (z : R) : List Int := if z.on = true ∧ z.c ≠ z.cell then [z.cell, z.c] else [z.cell]
def CellsTold (z : R) (w : World) (e : Ending) (w' : World) : Prop := ∃ A c, e = .returned (.slice A (cls z).length c) ∧ Bk.Lt w'.heap.size w' A (cls z).length c (cls z) ∧ Below w.heap.size w w' ∧ ∀ a, A = some a → w.heap.size ≤ a.block
theorem lt_two (w : World) (x y : Int) : Bk.Lt (w.alloc (.cells #[.int .i64 x, .int .i64 y] 3)).heap.size (w.alloc (.cells #[.int .i64 x, .int .i64 y] 3)) (some ⟨w.heap.size, 0, none⟩) 2 2 [x, y] := by
  refine ⟨rfl, Nat.le_refl _, by unfold maxLen; omega, fun h => (by cases h), fun _ => ⟨w.heap.size, 0, rfl, by simp, fun j hj => ?_⟩⟩
  rw [World.cell?_alloc_new]
  have : j = 0 ∨ j = 1 := by omega
  rcases this with rfl | rfl <;> simp [Bk.ivs]
end
end Rb
end Go.Proofs.YtobpinelhjpfgaaDoor
