/-
  The writer: one bit is laid.
-/
import Derived.Test.YtifcfoipeocmiaaRows
import Derived.Test.YtifcfoipeocmiaaBitsPlain
import Derived.Test.YtifcfoipeocmiaaFrame
import Derived.WalkKit
import Derived.WalkSpells
import Derived.WalkLawsBesides
import Derived.RegionTactic
import Derived.Maps.AppendAt
import Derived.Laws.BitsAllLaws
import Derived.Lib.Hide
import Derived.ChangeAlike
set_option linter.unusedVariables false
namespace Go.Proofs.Ytifcfoipeocmiaa
open Go.RowKit Bp

theorem Try.infoU8 : (Try.prog.info? 5).map (fun i => (i.zero, i.size, i.bytes)) = some (some (.int .u8 0), 1, 1) := by kernel_rfl

/-- The bytes' cells. -/
def bc (l : List Nat) : List Value := l.map fun n : Nat => Value.int .u8 (n : Int)
theorem bc_length (l : List Nat) : (bc l).length = l.length := by simp [bc]

/-- A writer lies in block b, its bytes at v, and has laid the bits bs. -/
structure Wr (w : World) (b : Nat) (v : Value) (bs : List Bool) : Prop where
  box : w.heap[b]? = some (.cells #[v, .int .i64 (bs.length : Int)] 47 (0, 0))
  row : w.ownsRow (b + 1) 5 1 v (nb bs.length) (bc (pack bs))
  few : bs.length ≤ 1048576
/-- The writer's blocks. -/
def WF (b : Nat) (v : Value) : Nat → Prop := fun k => k = b ∨ v.ownBlock = some k

theorem newWriter_any (w : World) :
    Calls Try.prog 6 #[] w fun e w' => e = .returned (.pointer (some ⟨w.heap.size, 0, none⟩)) ∧ w' = w.alloc (.cells #[.slice none 0 0, .int .i64 0] 47) := by
  go_enter Try.func6, Try.ntmps6
  go_wp2
  go_ret
  exact ⟨rfl, rfl⟩

theorem fitsWord_any (m : Int) (w : World) :
    Calls Try.prog 24 #[.int .i64 m] w fun e w' => e = .returned (.bool (decide (0 ≤ m) && decide (m ≤ 64))) ∧ w = w' := by
  by_cases h1 : 0 ≤ m <;> by_cases h2 : m ≤ 64 <;> go_enter Try.func24, Try.ntmps24 <;> go_wp2 <;> go_ret <;> exact ⟨by simp [h1, h2], rfl⟩

theorem hasRoom_any (b : Nat) (m n : Int) (w : World) (hc : w.cell? ⟨b, 1, none⟩ = some (.int .i64 n)) (h0 : 0 ≤ n) (h1 : n ≤ 1048576) :
    Calls Try.prog 21 #[.pointer (some ⟨b, 0, none⟩), .int .i64 m] w fun e w' => e = .returned (.bool (decide (m ≤ 1048576 - n))) ∧ w = w' := by
  go_enter Try.func21, Try.ntmps21
  go_wp2
  go_ret
  exact ⟨rfl, rfl⟩

theorem Wr.cells {w : World} {b : Nat} {v : Value} {bs : List Bool} (h : Wr w b v bs) :
    w.cell? ⟨b, 0, none⟩ = some v ∧ w.cell? ⟨b, 1, none⟩ = some (.int .i64 (bs.length : Int)) ∧ w.frozen? ⟨b, 0, none⟩ = false ∧ w.frozen? ⟨b, 1, none⟩ = false :=
  ⟨by rw [cell_of_row w b 0 _ _ _ h.box]; rfl, by rw [cell_of_row w b 1 _ _ _ h.box]; rfl, frozen_of_row w b 0 _ _ h.box, frozen_of_row w b 1 _ _ h.box⟩

/-- How a bit is laid at the beginning of a byte. -/
def LaidNew (w : World) (b n x : Nat) (v : Value) (ys : List Value) (w' : World) : Prop :=
  ∃ w1 g cap, w1.ownsRow (b + 1) 5 1 (.slice (some ⟨g, 0, none⟩) (n / 8 + 1) cap) (n / 8 + 1) (ys ++ [.int .u8 0]) ∧ (w.alloc (.cells #[.int .u8 0] 5)).grownBy w1 v.ownBlock ∧ b + 1 ≤ g ∧ (v.ownBlock = some g ∨ w.heap.size ≤ g) ∧
    w' = (((w1.setCell ⟨b, 0, none⟩ (.slice (some ⟨g, 0, none⟩) (n / 8 + 1) cap)).setCell ⟨g, n / 8, none⟩ (.int .u8 ((x * 128 : Nat) : Int))).setCell ⟨b, 1, none⟩ (.int .i64 ((n : Int) + 1))).drew

theorem or_new (x : Nat) (hx : x ≤ 1) : bits BinOp.or IntKind.u8 0 ((x : Int) * 128 % 256) = ((x * 128 : Nat) : Int) := by
  have : x = 0 ∨ x = 1 := by omega
  rcases this with rfl | rfl <;> decide

set_option maxHeartbeats 400000 in
theorem lay_new (b n : Nat) (x : Nat) (hx : x ≤ 1) (v : Value) (ys : List Value) (w : World) (hn : n % 8 = 0) (hlt : n < 1048576)
    (c0 : w.cell? ⟨b, 0, none⟩ = some v) (c1 : w.cell? ⟨b, 1, none⟩ = some (.int .i64 (n : Int))) (f0 : w.frozen? ⟨b, 0, none⟩ = false) (f1 : w.frozen? ⟨b, 1, none⟩ = false)
    (hb : b < w.heap.size) (hown : w.ownsRow (b + 1) 5 1 v (n / 8) ys) :
    Calls Try.prog 23 #[.pointer (some ⟨b, 0, none⟩), .int .u8 (x : Int)] w fun e w' => e = .returned (.tuple #[]) ∧ LaidNew w b n x v ys w' := by
  obtain ⟨i0, hi, hz0, hz1, hz2⟩ := info_parts Try.infoU8
  have ht : (((n : Int) % 8) == 0) = true := by rw [beq_iff_eq]; omega
  go_enter Try.func23, Try.ntmps23
  go_wp2_with (at_builtin; refine wpList_append_own_at _ rfl _ _ 37 rfl (b + 1) 5 i0 (.int .u8 0) 1 1 Try.underlying37 hi hz0 hz1 hz2 rfl (by decide) _ _ _ rfl (hown.alloc _) ⟨w.heap.size, 0, none⟩ 1 1 [.int .u8 0] rfl rfl ?c1 ?c2 ?c3 ?c4 ?c5 ?_)
  case c1 =>
    intro j u hj
    match j, hj with
    | 0, hj => simp at hj; subst hj; simp [Addr.add]
  case c2 => intro u hu; simp at hu; subst hu; rfl
  case c3 => unfold maxLen; omega
  case c4 => omega
  case c5 => simp; omega
  intro v' w1 hown' hgrow hne hat
  have hbr : some b ≠ v.ownBlock := fun e => by have := (hown.lt b e.symm).1; omega
  have hblk := grown_old hgrow hb hbr
  have d0 : w1.cell? ⟨b, 0, none⟩ = some v := (World.cell?_of_block (a := ⟨b, 0, none⟩) hblk).trans c0
  have d1 : w1.cell? ⟨b, 1, none⟩ = some (.int .i64 (n : Int)) := (World.cell?_of_block (a := ⟨b, 1, none⟩) hblk).trans c1
  have e0 : w1.frozen? ⟨b, 0, none⟩ = false := (World.frozen?_of_block (a := ⟨b, 0, none⟩) hblk).trans f0
  have e1 : w1.frozen? ⟨b, 1, none⟩ = false := (World.frozen?_of_block (a := ⟨b, 1, none⟩) hblk).trans f1
  obtain ⟨g, cap, hv', hbg⟩ : ∃ g cap, v' = .slice (some ⟨g, 0, none⟩) (n / 8 + 1) cap ∧ b + 1 ≤ g := by
    rcases hown'.2 with ⟨h, _⟩ | ⟨g, cap, cur, h, hg, _⟩
    · exact absurd h hne
    · exact ⟨g, cap, h, hg⟩
  subst hv'
  have hat' : v.ownBlock = some g ∨ w.heap.size ≤ g := by
    rcases hat with h | h
    · exact .inl h.symm
    · have : g = w.heap.size + 1 := by simpa [Value.ownBlock] using h
      exact .inr (by omega)
  have HAT := Lib.hid hat'
  clear hat hat'
  have d2 : w1.cell? ⟨g, n / 8, none⟩ = some (.int .u8 0) := by rw [hown'.cellAt _ (by omega)]; have := hown.1; simp at this; rw [List.getElem?_append_right (by omega)]; simp [this]
  have e2 : w1.frozen? ⟨g, n / 8, none⟩ = false := hown'.frozenAt _
  have hgb : ¬ g = b := by omega
  have hbg' : ¬ b = g := by omega
  have HO := Lib.hid hown'
  have HG := Lib.hid hgrow
  clear hown' hgrow hne hown hblk hbr c0 c1 f0 f1
  go_wp2
  have q0 : ((n : Int) / 8).toNat = n / 8 := by omega
  have q1 : (0 : Int) ≤ (n : Int) / 8 := by omega
  have q2 : (n : Int) / 8 < ((n / 8 + 1 : Nat) : Int) := by omega
  have q3 : (0 : Int) ≤ (n : Int) % 8 := by omega
  have q4 : (n : Int) % 8 ≤ 7 := by omega
  go_region
  go_wp2
  go_end0
  exact ⟨rfl, w1, g, cap, HO.out, HG.out, hbg, HAT.out, by rw [or_new x hx]⟩

/-- How a bit is laid within a byte. -/
def LaidIn (w : World) (b n x g y : Nat) (w' : World) : Prop :=
  w' = ((w.setCell ⟨g, n / 8, none⟩ (.int .u8 ((y + x * pw (n % 8) : Nat) : Int))).setCell ⟨b, 1, none⟩ (.int .i64 ((n : Int) + 1))).drew

theorem or_in (y x q : Nat) (hx : x ≤ 1) (hq : q ≤ 7) (hy : y % (2 * 2 ^ q) = 0) (hy2 : y ≤ 255) : bits BinOp.or IntKind.u8 (y : Int) ((x : Int) * 2 ^ q % 256) = ((y + x * 2 ^ q : Nat) : Int) := by
  have hp : (2 : Nat) ^ q ≤ 128 := by
    have : (2 : Nat) ^ q ≤ 2 ^ 7 := Nat.pow_le_pow_right (by decide) hq
    simpa using this
  have hxq : x * 2 ^ q ≤ 128 := by
    have := Nat.mul_le_mul_right (2 ^ q) hx
    omega
  have e : ((x : Int) * 2 ^ q % 256) = ((x * 2 ^ q : Nat) : Int) := by
    have : ((x * 2 ^ q : Nat) : Int) = (x : Int) * 2 ^ q := by simp
    rw [← this]; omega
  rw [e, u8_or_nat y (x * 2 ^ q) (by omega) (by omega), ← Nat.shiftLeft_eq, lor_add y q x hy hx, Nat.shiftLeft_eq]

set_option maxHeartbeats 400000 in
theorem lay_in (b n : Nat) (x y g cap : Nat) (hx : x ≤ 1) (w : World) (hn : n % 8 ≠ 0) (hlt : n < 1048576) (hy : y % (2 * pw (n % 8)) = 0) (hy2 : y ≤ 255)
    (c0 : w.cell? ⟨b, 0, none⟩ = some (.slice (some ⟨g, 0, none⟩) (n / 8 + 1) cap)) (c1 : w.cell? ⟨b, 1, none⟩ = some (.int .i64 (n : Int))) (f0 : w.frozen? ⟨b, 0, none⟩ = false) (f1 : w.frozen? ⟨b, 1, none⟩ = false)
    (hbg : b + 1 ≤ g) (d2 : w.cell? ⟨g, n / 8, none⟩ = some (.int .u8 (y : Int))) (e2 : w.frozen? ⟨g, n / 8, none⟩ = false) :
    Calls Try.prog 23 #[.pointer (some ⟨b, 0, none⟩), .int .u8 (x : Int)] w fun e w' => e = .returned (.tuple #[]) ∧ LaidIn w b n x g y w' := by
  have ht : (((n : Int) % 8) == 0) = false := by rw [beq_eq_false_iff_ne]; omega
  have hgb : ¬ g = b := by omega
  have hbg' : ¬ b = g := by omega
  have q0 : ((n : Int) / 8).toNat = n / 8 := by omega
  have q1 : (0 : Int) ≤ (n : Int) / 8 := by omega
  have q2 : (n : Int) / 8 < ((n / 8 + 1 : Nat) : Int) := by omega
  have q3 : (0 : Int) ≤ (n : Int) % 8 := by omega
  have q4 : (n : Int) % 8 ≤ 7 := by omega
  have HY := Lib.hid hy
  clear hy
  go_enter Try.func23, Try.ntmps23
  go_wp2
  go_region
  go_wp2
  go_end0
  exact ⟨rfl, by rw [or_in y x (7 - n % 8) hx (by omega) HY.out hy2]; rfl⟩

theorem bc_set (l : List Nat) (i y : Nat) : (bc l).set i (.int .u8 (y : Int)) = bc (l.set i y) := by simp [bc, List.map_set]
theorem bc_app (l k : List Nat) : bc (l ++ k) = bc l ++ bc k := by simp [bc]
theorem set_last (l : List Value) (a u : Value) (i : Nat) (h : i = l.length) : (l ++ [a]).set i u = l ++ [u] := by subst h; simp

theorem wr_new {w w' : World} {b : Nat} {v : Value} {bs : List Bool} (x : Bool) (h : Wr w b v bs) (hlt : bs.length < 1048576) (hn : bs.length % 8 = 0)
    (hl : LaidNew w b bs.length (bn x) v (bc (pack bs)) w') : ∃ v', Wr w' b v' (bs ++ [x]) ∧ Turn (WF b v) (WF b v') w w' := by
  obtain ⟨w1, g, cap, ho, hg, hbg, hgg, rfl⟩ := hl
  have hb : b < w.heap.size := lt_of_heap h.box
  have hbr : some b ≠ v.ownBlock := fun e => by have := (h.row.lt b e.symm).1; omega
  have hbox : w1.heap[b]? = some (.cells #[v, .int .i64 (bs.length : Int)] 47 (0, 0)) := (grown_old hg hb hbr).trans h.box
  refine ⟨.slice (some ⟨g, 0, none⟩) (bs.length / 8 + 1) cap, ⟨?_, ?_, by simp; omega⟩, ?_⟩
  · have s1 := heap_setCell_same w1 b 0 _ _ (.slice (some ⟨g, 0, none⟩) (bs.length / 8 + 1) cap) hbox
    have s2 := (heap_setCell_other (w1.setCell ⟨b, 0, none⟩ (.slice (some ⟨g, 0, none⟩) (bs.length / 8 + 1) cap)) ⟨g, bs.length / 8, none⟩ b (.int .u8 ((bn x * 128 : Nat) : Int)) (by simp; omega)).trans s1
    have s3 := heap_setCell_same _ b 1 _ _ (.int .i64 ((bs.length : Int) + 1)) s2
    show (((w1.setCell _ _).setCell _ _).setCell _ _).heap[b]? = _
    rw [s3]; simp
  · have r1 := ownsRow_setCell_below ho (a := ⟨b, 0, none⟩) (by simp) (.slice (some ⟨g, 0, none⟩) (bs.length / 8 + 1) cap)
    have r2 := (r1.stored (bs.length / 8) (.int .u8 ((bn x * 128 : Nat) : Int))).1
    have r3 := ownsRow_setCell_below r2 (a := ⟨b, 1, none⟩) (by simp) (.int .i64 ((bs.length : Int) + 1))
    have e1 : nb (bs ++ [x]).length = bs.length / 8 + 1 := by simp [nb]; omega
    rw [e1, pack_snoc_new bs x hn, bc_app]
    rw [set_last _ _ _ _ (by rw [bc_length, pack_length]; simp [nb]; omega)] at r3
    exact r3
  · have t1 : Turn (WF b v) (WF b v) w (w.alloc (.cells #[.int .u8 0] 5)) := Turn.alloc _ _
    have t2 : Turn (WF b v) (WF b v) (w.alloc (.cells #[.int .u8 0] 5)) w1 := Turn.grown hg (fun k hk => .inr hk)
    have t3 : Turn (WF b v) (WF b (.slice (some ⟨g, 0, none⟩) (bs.length / 8 + 1) cap)) w w1 := (t1.trans t2).sub fun k hk => by
      rcases hk with hk | hk
      · exact .inl (.inl hk)
      · have : k = g := by simpa [Value.ownBlock] using hk.symm
        subst this
        rcases hgg with e | e
        · exact .inl (.inr e)
        · exact .inr e
    have p1 : WF b (.slice (some ⟨g, 0, none⟩) (bs.length / 8 + 1) cap) b := .inl rfl
    have p2 : WF b (.slice (some ⟨g, 0, none⟩) (bs.length / 8 + 1) cap) g := .inr rfl
    exact (((t3.put _ p1).put _ p2).put _ p1).drew

theorem wr_in {w w' : World} {b g cap : Nat} {bs : List Bool} (x : Bool) (h : Wr w b (.slice (some ⟨g, 0, none⟩) (bs.length / 8 + 1) cap) bs) (hlt : bs.length < 1048576) (hn : bs.length % 8 ≠ 0) (hbg : b + 1 ≤ g)
    (hl : LaidIn w b bs.length (bn x) g (byteAt bs (bs.length / 8)) w') : Wr w' b (.slice (some ⟨g, 0, none⟩) (bs.length / 8 + 1) cap) (bs ++ [x]) ∧ Turn (WF b (.slice (some ⟨g, 0, none⟩) (bs.length / 8 + 1) cap)) (WF b (.slice (some ⟨g, 0, none⟩) (bs.length / 8 + 1) cap)) w w' := by
  unfold LaidIn at hl
  subst hl
  have e0 : nb bs.length = bs.length / 8 + 1 := by simp [nb]; omega
  have e1 : nb (bs ++ [x]).length = bs.length / 8 + 1 := by simp [nb]; omega
  refine ⟨⟨?_, ?_, by simp; omega⟩, ?_⟩
  · have s2 := (heap_setCell_other w ⟨g, bs.length / 8, none⟩ b (.int .u8 ((byteAt bs (bs.length / 8) + bn x * pw (bs.length % 8) : Nat) : Int)) (by simp; omega)).trans h.box
    have s3 := heap_setCell_same _ b 1 _ _ (.int .i64 ((bs.length : Int) + 1)) s2
    show ((w.setCell _ _).setCell _ _).heap[b]? = _
    rw [s3]; simp
  · have r0 := h.row
    rw [e0] at r0
    have r2 := (r0.stored (bs.length / 8) (.int .u8 ((byteAt bs (bs.length / 8) + bn x * pw (bs.length % 8) : Nat) : Int))).1
    have r3 := ownsRow_setCell_below r2 (a := ⟨b, 1, none⟩) (by simp) (.int .i64 ((bs.length : Int) + 1))
    rw [e1, pack_snoc_in bs x hn, ← bc_set]
    exact r3
  · have p1 : WF b (.slice (some ⟨g, 0, none⟩) (bs.length / 8 + 1) cap) b := .inl rfl
    have p2 : WF b (.slice (some ⟨g, 0, none⟩) (bs.length / 8 + 1) cap) g := .inr rfl
    exact (((Turn.refl _ w).put _ p2).put _ p1).drew

/-- A bit is laid. -/
theorem lay_any (b : Nat) (x : Bool) (v : Value) (bs : List Bool) (w : World) (h : Wr w b v bs) (hlt : bs.length < 1048576) :
    Calls Try.prog 23 #[.pointer (some ⟨b, 0, none⟩), .int .u8 (bn x : Int)] w fun e w' => e = .returned (.tuple #[]) ∧ ∃ v', Wr w' b v' (bs ++ [x]) ∧ Turn (WF b v) (WF b v') w w' := by
  obtain ⟨c0, c1, f0, f1⟩ := h.cells
  by_cases hn : bs.length % 8 = 0
  · have e0 : nb bs.length = bs.length / 8 := by simp [nb]; omega
    have r0 := h.row
    rw [e0] at r0
    refine (lay_new b bs.length (bn x) (bn_le x) v (bc (pack bs)) w hn hlt c0 c1 f0 f1 (lt_of_heap h.box) r0).mono ?_
    rintro e w' ⟨he, hl⟩
    exact ⟨he, wr_new x h hlt hn hl⟩
  · have e0 : nb bs.length = bs.length / 8 + 1 := by simp [nb]; omega
    have r0 := h.row
    rw [e0] at r0
    obtain ⟨g, cap, hv, hbg⟩ : ∃ g cap, v = .slice (some ⟨g, 0, none⟩) (bs.length / 8 + 1) cap ∧ b + 1 ≤ g := by
      rcases r0.2 with ⟨_, h⟩ | ⟨g, cap, cur, h, hg, _⟩
      · omega
      · exact ⟨g, cap, h, hg⟩
    subst hv
    have d2 : w.cell? ⟨g, bs.length / 8, none⟩ = some (.int .u8 (byteAt bs (bs.length / 8) : Int)) := by
      rw [r0.cellAt _ (by omega)]
      simp [bc, pack_get bs _ (show bs.length / 8 < nb bs.length by omega)]
    refine (lay_in b bs.length (bn x) (byteAt bs (bs.length / 8)) g cap (bn_le x) w hn hlt (byteAt_room bs) (byteAt_le _ _) c0 c1 f0 f1 hbg d2 (r0.frozenAt _)).mono ?_
    rintro e w' ⟨he, hl⟩
    exact ⟨he, _, wr_in x h hlt hn hbg hl⟩

end Go.Proofs.Ytifcfoipeocmiaa
