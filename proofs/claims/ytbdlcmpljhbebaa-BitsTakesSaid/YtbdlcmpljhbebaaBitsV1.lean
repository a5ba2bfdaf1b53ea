/-
  The document's reader: its place, its bits; Get.
-/
import Derived.Test.YtbdlcmpljhbebaaBitsLeftW
import Derived.Test.YtbdlcmpljhbebaaBitsF2
import Derived.Deep.QuietTactic
import Derived.BigQuiet
set_option linter.unusedVariables false
namespace Go.Proofs.Ytbdlcmpljhbebaa
open Go.RowKit Bp

/-- The bits of bytes. -/
def bitsZ (zs : List Nat) : List Bool := zs.flatMap fun z => bitsOf z 8
theorem bitsZ_snoc (zs : List Nat) (z : Nat) : bitsZ (zs ++ [z]) = bitsZ zs ++ bitsOf z 8 := by simp [bitsZ]
theorem bitsZ_len (zs : List Nat) : (bitsZ zs).length = 8 * zs.length := by
  unfold bitsZ
  induction zs with
  | nil => rfl
  | cons z zs ih => rw [List.flatMap_cons, List.length_append, ih, bitsOf_length, List.length_cons]; omega
theorem rbit_bits (zs : List Nat) (k : Nat) (h : k < 8 * zs.length) : bitN (bitsZ zs) k = rbit zs k := by
  have key : ∀ n, ∀ ys : List Nat, ys.length = n → k < 8 * n → bitN (bitsZ ys) k = rbit ys k := by
    intro n
    induction n with
    | zero => intro ys _ h; omega
    | succ n ih =>
      intro ys hl hk
      have hne : ys ≠ [] := fun e => by rw [e] at hl; simp at hl
      obtain ⟨xs, x, rfl⟩ : ∃ xs x, ys = xs ++ [x] := ⟨ys.dropLast, ys.getLast hne, (List.dropLast_concat_getLast hne).symm⟩
      have hxl : xs.length = n := by simpa using hl
      rw [bitsZ_snoc]
      by_cases hkn : k < 8 * n
      · rw [bitN_left _ _ _ (by rw [bitsZ_len]; omega), ih xs hxl hkn]
        unfold rbit
        simp [List.getD, List.getElem?_append_left (show k / 8 < xs.length by omega)]
      · obtain ⟨i, rfl⟩ : ∃ i, k = (bitsZ xs).length + i := ⟨k - 8 * n, by rw [bitsZ_len]; omega⟩
        rw [bitN_right, bitN_bitsOf x 8 i (by rw [bitsZ_len] at hk; omega)]
        unfold rbit pw
        rw [bitsZ_len] at hk ⊢
        rw [show (8 * xs.length + i) / 8 = xs.length by omega, show (8 * xs.length + i) % 8 = i by omega]
        simp [List.getD]
  exact key _ zs rfl h
theorem bool_bits (zs : List Nat) (k : Nat) (h : k < 8 * zs.length) : (bitsZ zs).getD k false = (rbit zs k == 1) := by
  have := rbit_bits zs k h
  unfold bitN at this
  rw [← this]
  cases (bitsZ zs).getD k false <;> rfl

/-- The document's reader lies in block b, its bits at v, stands at bit p, its fault is f; all of it lies from block B on. -/
structure Rv (B : Nat) (w : World) (b : Nat) (v : Value) (zs : List Nat) (p : Nat) (f : Int) : Prop where
  box : w.heap[b]? = some (.cells #[v, .int .i64 (p : Int), .int .i64 f] 38 (0, 0))
  row : w.ownsRow B 4 1 v (8 * zs.length) (bb (bitsZ zs))
  ne : v.ownBlock ≠ some b
  base : B ≤ b
  at_le : p ≤ 8 * zs.length
  few : zs.length ≤ 1048576
theorem Rv.frame {B : Nat} {w w' : World} {b : Nat} {v : Value} {zs : List Nat} {p : Nat} {f : Int} (h : Rv B w b v zs p f) (hk : ∀ k, RF b v k → w'.heap[k]? = w.heap[k]?) : Rv B w' b v zs p f :=
  ⟨(hk b (.inl rfl)).trans h.box, ownsRow_same h.row (fun k e => hk k (.inr e)), h.ne, h.base, h.at_le, h.few⟩
theorem Rv.lt {B : Nat} {w : World} {b : Nat} {v : Value} {zs : List Nat} {p : Nat} {f : Int} (h : Rv B w b v zs p f) {k : Nat} (hk : RF b v k) : B ≤ k ∧ k < w.heap.size := by
  rcases hk with rfl | hk
  · exact ⟨h.base, lt_of_heap h.box⟩
  · exact h.row.lt k hk
theorem Rv.drew {B : Nat} {w : World} {b : Nat} {v : Value} {zs : List Nat} {p : Nat} {f : Int} (h : Rv B w b v zs p f) : Rv B w.drew b v zs p f := h.frame fun _ _ => rfl
theorem Rv.drewN {B : Nat} {w : World} {b : Nat} {v : Value} {zs : List Nat} {p : Nat} {f : Int} (h : Rv B w b v zs p f) (n : Nat) : Rv B (w.drewN n) b v zs p f := h.frame fun _ _ => rfl
theorem Rv.cells {B : Nat} {w : World} {b : Nat} {v : Value} {zs : List Nat} {p : Nat} {f : Int} (h : Rv B w b v zs p f) :
    w.cell? ⟨b, 0, none⟩ = some v ∧ w.cell? ⟨b, 1, none⟩ = some (.int .i64 (p : Int)) ∧ w.cell? ⟨b, 2, none⟩ = some (.int .i64 f) ∧ w.frozen? ⟨b, 1, none⟩ = false ∧ w.frozen? ⟨b, 2, none⟩ = false :=
  ⟨by rw [cell_of_row w b 0 _ _ _ h.box]; rfl, by rw [cell_of_row w b 1 _ _ _ h.box]; rfl, by rw [cell_of_row w b 2 _ _ _ h.box]; rfl, frozen_of_row w b 1 _ _ h.box, frozen_of_row w b 2 _ _ h.box⟩
theorem Rv.move {B : Nat} {w : World} {b : Nat} {v : Value} {zs : List Nat} {p : Nat} {f : Int} (h : Rv B w b v zs p f) (q : Nat) (hq : q ≤ 8 * zs.length) : Rv B (w.setCell ⟨b, 1, none⟩ (.int .i64 (q : Int))) b v zs q f := by
  refine ⟨?_, ownsRow_setCell_other h.row (by exact h.ne) _, h.ne, h.base, hq, h.few⟩
  rw [heap_setCell_same w b 1 _ _ _ h.box]; simp
theorem Rv.faulty {B : Nat} {w : World} {b : Nat} {v : Value} {zs : List Nat} {p : Nat} {f : Int} (h : Rv B w b v zs p f) (g : Int) : Rv B (w.setCell ⟨b, 2, none⟩ (.int .i64 g)) b v zs p g := by
  refine ⟨?_, ownsRow_setCell_other h.row (by exact h.ne) _, h.ne, h.base, h.at_le, h.few⟩
  rw [heap_setCell_same w b 2 _ _ _ h.box]; simp
def RvTo (B : Nat) (w : World) (b : Nat) (v : Value) (zs : List Nat) (p : Nat) (f : Int) (w' : World) : Prop := Rv B w' b v zs p f ∧ Turn (RF b v) (RF b v) w w'
theorem Turn.drewN {F F' : Nat → Prop} {w w' : World} (h : Turn F F' w w') (n : Nat) : Turn F F' w (w'.drewN n) := ⟨h.os, h.tape, h.output, h.size, h.block, h.foot⟩
theorem RvTo.drewN {B : Nat} {w w' : World} {b : Nat} {v : Value} {zs : List Nat} {p : Nat} {f : Int} (h : RvTo B w b v zs p f w') (n : Nat) : RvTo B w b v zs p f (w'.drewN n) := ⟨h.1.drewN n, h.2.drewN n⟩
theorem RvTo.faulty {B : Nat} {w w' : World} {b : Nat} {v : Value} {zs : List Nat} {p : Nat} {f : Int} (h : RvTo B w b v zs p f w') (g : Int) : RvTo B w b v zs p g (w'.setCell ⟨b, 2, none⟩ (.int .i64 g)) := ⟨h.1.faulty g, h.2.put _ (.inl rfl)⟩
theorem RvTo.move {B : Nat} {w w' : World} {b : Nat} {v : Value} {zs : List Nat} {p : Nat} {f : Int} (h : RvTo B w b v zs p f w') (q : Nat) (hq : q ≤ 8 * zs.length) : RvTo B w b v zs q f (w'.setCell ⟨b, 1, none⟩ (.int .i64 (q : Int))) := ⟨h.1.move q hq, h.2.put _ (.inl rfl)⟩
theorem RvTo.refl {B : Nat} {w : World} {b : Nat} {v : Value} {zs : List Nat} {p : Nat} {f : Int} (h : Rv B w b v zs p f) : RvTo B w b v zs p f w := ⟨h, Turn.refl _ _⟩

theorem vget_fault (B b : Nat) (v : Value) (zs : List Nat) (p : Nat) (f m : Int) (w : World) (h : Rv B w b v zs p f) (hf : f ≠ 0) :
    Calls Try.prog 18 #[.pointer (some ⟨b, 0, none⟩), .int .i64 m] w fun e w' => e = .returned (.int .u64 0) ∧ RvTo B w b v zs p f w' := by
  have c2 := h.cells.2.2.1
  have t1 : (f != 0) = true := by simpa using hf
  have t2 : (f == 0) = false := by simpa using hf
  have HR := Lib.hid (RvTo.refl h)
  clear h hf
  go_enter Try.func18, Try.ntmps18
  go_wp2
  go_quiet (fail)
  go_wp2
  go_ret
  exact ⟨rfl, HR.out.drewN _⟩

theorem vget_arg (B b : Nat) (v : Value) (zs : List Nat) (p : Nat) (m : Int) (w : World) (h : Rv B w b v zs p 0) (hm : m < 0 ∨ 64 < m) :
    Calls Try.prog 18 #[.pointer (some ⟨b, 0, none⟩), .int .i64 m] w fun e w' => e = .returned (.int .u64 0) ∧ RvTo B w b v zs p 1 w' := by
  have c2 := h.cells.2.2.1
  have f2 := h.cells.2.2.2.2
  have HR := Lib.hid ((RvTo.refl h).faulty 1)
  clear h
  rcases hm with hm | hm
  · go_enter Try.func18, Try.ntmps18
    go_wp2
    go_quiet (fail)
    go_wp2
    go_ret
    exact ⟨rfl, HR.out.drewN _⟩
  · have hm2 : ¬ m < 0 := by omega
    go_enter Try.func18, Try.ntmps18
    go_wp2
    go_quiet (fail)
    go_wp2
    go_ret
    exact ⟨rfl, HR.out.drewN _⟩

theorem vget_short (B b : Nat) (v : Value) (zs : List Nat) (p m : Nat) (w : World) (h : Rv B w b v zs p 0) (hm : m ≤ 64) (hs : 8 * zs.length < p + m) :
    Calls Try.prog 18 #[.pointer (some ⟨b, 0, none⟩), .int .i64 (m : Int)] w fun e w' => e = .returned (.int .u64 0) ∧ RvTo B w b v zs p 10 w' := by
  obtain ⟨va, vc, hv⟩ := ownsRow_shape h.row
  subst hv
  obtain ⟨c0, c1, c2, f1, f2⟩ := h.cells
  have HR := Lib.hid (RvTo.refl h)
  have hle := h.at_le
  have hfew := h.few
  obtain ⟨n, hn⟩ : ∃ n, n = 8 * zs.length := ⟨_, rfl⟩
  rw [← hn] at hs hle c0 HR ⊢
  have hn2 : n ≤ 8388608 := by omega
  clear h hfew hn
  have d1 : decide ((n : Int) - (p : Int) < (m : Int)) = true := by simp; omega
  go_enter Try.func18, Try.ntmps18
  go_wp2
  go_quiet (fail)
  go_wp2
  go_ret
  exact ⟨rfl, (HR.out.drewN _).faulty 10⟩

theorem tk_succ (zs : List Nat) (p i : Nat) : tk zs p (i + 1) = 2 * tk zs p i + rbit zs (p + i) := rfl
set_option maxHeartbeats 1000000 in
theorem vget_ok (B b : Nat) (v : Value) (zs : List Nat) (p m : Nat) (w : World) (h : Rv B w b v zs p 0) (hm : m ≤ 64) (hs : p + m ≤ 8 * zs.length) :
    Calls Try.prog 18 #[.pointer (some ⟨b, 0, none⟩), .int .i64 (m : Int)] w fun e w' => e = .returned (.int .u64 (tk zs p m : Int)) ∧ RvTo B w b v zs (p + m) 0 w' := by
  obtain ⟨va, vc, hv⟩ := ownsRow_shape h.row
  subst hv
  obtain ⟨c0, c1, c2, f1, f2⟩ := h.cells
  have HR := Lib.hid (RvTo.refl h)
  have hle := h.at_le
  have hfew := h.few
  obtain ⟨n, hn⟩ : ∃ n, n = 8 * zs.length := ⟨_, rfl⟩
  rw [← hn] at hs hle c0 HR ⊢
  have hn2 : n ≤ 8388608 := by omega
  have HN := Lib.hid hn
  clear h hfew hn
  have d1 : decide ((n : Int) - (p : Int) < (m : Int)) = false := by simp; omega
  go_enter Try.func18, Try.ntmps18
  go_wp2
  go_quiet (fail)
  have HR2 := Lib.hid (HR.out.drewN nq)
  obtain ⟨wz, hwz⟩ : ∃ wz, wz = w.drewN nq := ⟨_, rfl⟩
  rw [← hwz] at HR2 ⊢
  have cz0 : wz.cell? ⟨b, 0, none⟩ = some (.slice va n vc) := by rw [hwz]; exact c0
  have cz1 : wz.cell? ⟨b, 1, none⟩ = some (.int .i64 (p : Int)) := by rw [hwz]; exact c1
  have cz2 : wz.cell? ⟨b, 2, none⟩ = some (.int .i64 0) := by rw [hwz]; exact c2
  clear hwz d1 HR c0 c1 c2
  go_wp2
  go_loopw [5, 6] (fun nv iv wr => ∃ i : Nat, i ≤ m ∧ iv = .int .i64 (i : Int) ∧ nv = .int .u64 (tk zs p i : Int) ∧ RvTo B w b (.slice va n vc) zs p 0 wr) (fun _ iv _ => m - (intOf iv).toNat)
  case atStart => exact ⟨0, Nat.zero_le _, rfl, rfl, HR2.out⟩
  case round =>
    obtain ⟨i, hi, rfl, rfl, hr⟩ := hrel
    obtain ⟨e0, e1, e2, g1, g2⟩ := hr.1.cells
    have HRr := Lib.hid hr
    clear hr HR2 cz0 cz1 cz2
    by_cases hlt : i < m
    · have hpl : p + i < 8 * zs.length := by rw [← HN.out]; omega
      have HT := Lib.hid (tk_succ zs p i)
      have hb := tk_lt zs p i
      have hb2 : tk zs p i < 9223372036854775808 := Nat.lt_of_lt_of_le hb (by
        have : (2 : Nat) ^ i ≤ 2 ^ 63 := Nat.pow_le_pow_right (by decide) (by omega)
        exact this)
      have HBB := Lib.hid (bool_bits zs (p + i) hpl)
      obtain ⟨gv, cv, hsv⟩ := shape_of HRr.out.1.row (by omega)
      rw [← HN.out] at hsv
      simp only [Value.slice.injEq, true_and] at hsv
      obtain ⟨rfl, rfl⟩ := hsv
      have hcell : wr.cell? ⟨gv, p + i, none⟩ = some (.bool ((bitsZ zs).getD (p + i) false)) := by
        have := HRr.out.1.row
        rw [← HN.out] at this
        rw [this.cellAt _ (by omega)]
        simp [bb, List.getD, List.getElem?_eq_getElem (show p + i < (bitsZ zs).length by rw [bitsZ_len]; exact hpl)]
      have hrl := rbit_le zs (p + i)
      rw [HBB.out] at hcell
      clear hb hpl
      generalize rbit zs (p + i) = x at *
      generalize tk zs p i = t at *
      have hx : x = 0 ∨ x = 1 := by omega
      rcases hx with rfl | rfl
      · go_wp2
        go_region
        go_wp2
        go_roundw
        case rel => exact ⟨i + 1, by omega, by go_num, by rw [HT.out]; go_num, HRr.out.drewN 1⟩
        case measure => simp [intOf]; omega
      · go_wp2
        go_region
        go_wp2
        go_roundw
        case rel => exact ⟨i + 1, by omega, by go_num, by rw [HT.out]; go_num, HRr.out.drewN 1⟩
        case measure => simp [intOf]; omega
    · obtain rfl : i = m := by omega
      have HM := Lib.hid (HRr.out.move (p + i) (by rw [← HN.out]; exact hs))
      go_wp2
      go_ret
      exact ⟨rfl, by simpa using HM.out⟩

end Go.Proofs.Ytbdlcmpljhbebaa
