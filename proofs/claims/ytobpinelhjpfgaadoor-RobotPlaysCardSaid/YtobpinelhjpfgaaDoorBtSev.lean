/-
  The document's reader: its place, its bits; Get.
  The document's reader: Count.
  The document's reader: End, Of.
  The document's reader: Of.
-/
import Derived.Test.YtobpinelhjpfgaaDoorBtFiv
import Derived.Test.YtobpinelhjpfgaaDoorBtSix
import Derived.Deep.QuietTactic
import Derived.BigQuiet
import Derived.Deep.AppendLies
import Derived.Deep.RegionLaw
set_option linter.unusedVariables false
set_option maxRecDepth 100000
section
namespace Go.Proofs.YtobpinelhjpfgaaDoor
open Go.RowKit Bp

/-- The bits of bytes. -/
def bitsZ (zs : List Nat) : List Bool := zs.flatMap fun z => bitsOf z 8
theorem bitsZ_snoc (zs : List Nat) (z : Nat) : bitsZ (zs ++ [z]) = bitsZ zs ++ bitsOf z 8 := by simp [bitsZ]
theorem bitsZ_len (zs : List Nat) : (bitsZ zs).length = 8 * zs.length := by
  unfold bitsZ
  induction zs with
  | nil => rfl
  | cons z zs ih => rw [List.flatMap_cons, List.length_append, ih, bitsOf_length, List.length_cons]; omega
theorem rbit_bits (zs : List Nat) (k : Nat) (h : k < 8 * zs.length) : bitN (bitsZ zs) k = rbit zs k := by
  have key : ∀ n, ∀ ys : List Nat, ys.length = n → k < 8 * n → bitN (bitsZ ys) k = rbit ys k := by
    intro n
    induction n with
    | zero => intro ys _ h; omega
    | succ n ih =>
      intro ys hl hk
      have hne : ys ≠ [] := fun e => by rw [e] at hl; simp at hl
      obtain ⟨xs, x, rfl⟩ : ∃ xs x, ys = xs ++ [x] := ⟨ys.dropLast, ys.getLast hne, (List.dropLast_concat_getLast hne).symm⟩
      have hxl : xs.length = n := by simpa using hl
      rw [bitsZ_snoc]
      by_cases hkn : k < 8 * n
      · rw [bitN_left _ _ _ (by rw [bitsZ_len]; omega), ih xs hxl hkn]
        unfold rbit
        simp [List.getD, List.getElem?_append_left (show k / 8 < xs.length by omega)]
      · obtain ⟨i, rfl⟩ : ∃ i, k = (bitsZ xs).length + i := ⟨k - 8 * n, by rw [bitsZ_len]; omega⟩
        rw [bitN_right, bitN_bitsOf x 8 i (by rw [bitsZ_len] at hk; omega)]
        unfold rbit pw
        rw [bitsZ_len] at hk ⊢
        rw [show (8 * xs.length + i) / 8 = xs.length by omega, show (8 * xs.length + i) % 8 = i by omega]
        simp [List.getD]
  exact key _ zs rfl h
theorem bool_bits (zs : List Nat) (k : Nat) (h : k < 8 * zs.length) : (bitsZ zs).getD k false = (rbit zs k == 1) := by
  have := rbit_bits zs k h
  unfold bitN at this
  rw [← this]
  cases (bitsZ zs).getD k false <;> rfl

/-- The document's reader lies in block b, its bits at v, stands at bit p, its fault is f; all of it lies from block B on. -/
structure Rv (B : Nat) (w : World) (b : Nat) (v : Value) (zs : List Nat) (p : Nat) (f : Int) : Prop where
  box : w.heap[b]? = some (.cells #[v, .int .i64 (p : Int), .int .i64 f] 93 (0, 0))
  row : w.ownsRow B 4 1 v (8 * zs.length) (bb (bitsZ zs))
  ne : v.ownBlock ≠ some b
  base : B ≤ b
  at_le : p ≤ 8 * zs.length
  few : zs.length ≤ 1048576
theorem Rv.frame {B : Nat} {w w' : World} {b : Nat} {v : Value} {zs : List Nat} {p : Nat} {f : Int} (h : Rv B w b v zs p f) (hk : ∀ k, RF b v k → w'.heap[k]? = w.heap[k]?) : Rv B w' b v zs p f :=
  ⟨(hk b (.inl rfl)).trans h.box, ownsRow_same h.row (fun k e => hk k (.inr e)), h.ne, h.base, h.at_le, h.few⟩
theorem Rv.lt {B : Nat} {w : World} {b : Nat} {v : Value} {zs : List Nat} {p : Nat} {f : Int} (h : Rv B w b v zs p f) {k : Nat} (hk : RF b v k) : B ≤ k ∧ k < w.heap.size := by
  rcases hk with rfl | hk
  · exact ⟨h.base, lt_of_heap h.box⟩
  · exact h.row.lt k hk
theorem Rv.drew {B : Nat} {w : World} {b : Nat} {v : Value} {zs : List Nat} {p : Nat} {f : Int} (h : Rv B w b v zs p f) : Rv B w.drew b v zs p f := h.frame fun _ _ => rfl
theorem Rv.drewN {B : Nat} {w : World} {b : Nat} {v : Value} {zs : List Nat} {p : Nat} {f : Int} (h : Rv B w b v zs p f) (n : Nat) : Rv B (w.drewN n) b v zs p f := h.frame fun _ _ => rfl
theorem Rv.cells {B : Nat} {w : World} {b : Nat} {v : Value} {zs : List Nat} {p : Nat} {f : Int} (h : Rv B w b v zs p f) :
    w.cell? ⟨b, 0, none⟩ = some v ∧ w.cell? ⟨b, 1, none⟩ = some (.int .i64 (p : Int)) ∧ w.cell? ⟨b, 2, none⟩ = some (.int .i64 f) ∧ w.frozen? ⟨b, 1, none⟩ = false ∧ w.frozen? ⟨b, 2, none⟩ = false :=
  ⟨by rw [cell_of_row w b 0 _ _ _ h.box]; rfl, by rw [cell_of_row w b 1 _ _ _ h.box]; rfl, by rw [cell_of_row w b 2 _ _ _ h.box]; rfl, frozen_of_row w b 1 _ _ h.box, frozen_of_row w b 2 _ _ h.box⟩
theorem Rv.move {B : Nat} {w : World} {b : Nat} {v : Value} {zs : List Nat} {p : Nat} {f : Int} (h : Rv B w b v zs p f) (q : Nat) (hq : q ≤ 8 * zs.length) : Rv B (w.setCell ⟨b, 1, none⟩ (.int .i64 (q : Int))) b v zs q f := by
  refine ⟨?_, ownsRow_setCell_other h.row (by exact h.ne) _, h.ne, h.base, hq, h.few⟩
  rw [heap_setCell_same w b 1 _ _ _ h.box]; simp
theorem Rv.faulty {B : Nat} {w : World} {b : Nat} {v : Value} {zs : List Nat} {p : Nat} {f : Int} (h : Rv B w b v zs p f) (g : Int) : Rv B (w.setCell ⟨b, 2, none⟩ (.int .i64 g)) b v zs p g := by
  refine ⟨?_, ownsRow_setCell_other h.row (by exact h.ne) _, h.ne, h.base, h.at_le, h.few⟩
  rw [heap_setCell_same w b 2 _ _ _ h.box]; simp
def RvTo (B : Nat) (w : World) (b : Nat) (v : Value) (zs : List Nat) (p : Nat) (f : Int) (w' : World) : Prop := Rv B w' b v zs p f ∧ Turn (RF b v) (RF b v) w w'
theorem Turn.drewN {F F' : Nat → Prop} {w w' : World} (h : Turn F F' w w') (n : Nat) : Turn F F' w (w'.drewN n) := ⟨h.os, h.tape, h.output, h.size, h.block, h.foot⟩
theorem RvTo.drewN {B : Nat} {w w' : World} {b : Nat} {v : Value} {zs : List Nat} {p : Nat} {f : Int} (h : RvTo B w b v zs p f w') (n : Nat) : RvTo B w b v zs p f (w'.drewN n) := ⟨h.1.drewN n, h.2.drewN n⟩
theorem RvTo.faulty {B : Nat} {w w' : World} {b : Nat} {v : Value} {zs : List Nat} {p : Nat} {f : Int} (h : RvTo B w b v zs p f w') (g : Int) : RvTo B w b v zs p g (w'.setCell ⟨b, 2, none⟩ (.int .i64 g)) := ⟨h.1.faulty g, h.2.put _ (.inl rfl)⟩
theorem RvTo.move {B : Nat} {w w' : World} {b : Nat} {v : Value} {zs : List Nat} {p : Nat} {f : Int} (h : RvTo B w b v zs p f w') (q : Nat) (hq : q ≤ 8 * zs.length) : RvTo B w b v zs q f (w'.setCell ⟨b, 1, none⟩ (.int .i64 (q : Int))) := ⟨h.1.move q hq, h.2.put _ (.inl rfl)⟩
theorem RvTo.refl {B : Nat} {w : World} {b : Nat} {v : Value} {zs : List Nat} {p : Nat} {f : Int} (h : Rv B w b v zs p f) : RvTo B w b v zs p f w := ⟨h, Turn.refl _ _⟩

theorem vget_fault (B b : Nat) (v : Value) (zs : List Nat) (p : Nat) (f m : Int) (w : World) (h : Rv B w b v zs p f) (hf : f ≠ 0) :
    Calls Tryd.prog 51 #[.pointer (some ⟨b, 0, none⟩), .int .i64 m] w fun e w' => e = .returned (.int .u64 0) ∧ RvTo B w b v zs p f w' := by
  have c2 := h.cells.2.2.1
  have t1 : (f != 0) = true := by simpa using hf
  have t2 : (f == 0) = false := by simpa using hf
  have HR := Lib.hid (RvTo.refl h)
  clear h hf
  go_enter Tryd.func51, Tryd.ntmps51
  go_wp2
  go_quiet (fail)
  go_wp2
  go_ret
  exact ⟨rfl, HR.out.drewN _⟩

theorem vget_arg (B b : Nat) (v : Value) (zs : List Nat) (p : Nat) (m : Int) (w : World) (h : Rv B w b v zs p 0) (hm : m < 0 ∨ 64 < m) :
    Calls Tryd.prog 51 #[.pointer (some ⟨b, 0, none⟩), .int .i64 m] w fun e w' => e = .returned (.int .u64 0) ∧ RvTo B w b v zs p 1 w' := by
  have c2 := h.cells.2.2.1
  have f2 := h.cells.2.2.2.2
  have HR := Lib.hid ((RvTo.refl h).faulty 1)
  clear h
  rcases hm with hm | hm
  · go_enter Tryd.func51, Tryd.ntmps51
    go_wp2
    go_quiet (fail)
    go_wp2
    go_ret
    exact ⟨rfl, HR.out.drewN _⟩
  · have hm2 : ¬ m < 0 := by omega
    go_enter Tryd.func51, Tryd.ntmps51
    go_wp2
    go_quiet (fail)
    go_wp2
    go_ret
    exact ⟨rfl, HR.out.drewN _⟩

theorem vget_short (B b : Nat) (v : Value) (zs : List Nat) (p m : Nat) (w : World) (h : Rv B w b v zs p 0) (hm : m ≤ 64) (hs : 8 * zs.length < p + m) :
    Calls Tryd.prog 51 #[.pointer (some ⟨b, 0, none⟩), .int .i64 (m : Int)] w fun e w' => e = .returned (.int .u64 0) ∧ RvTo B w b v zs p 10 w' := by
  obtain ⟨va, vc, hv⟩ := ownsRow_shape h.row
  subst hv
  obtain ⟨c0, c1, c2, f1, f2⟩ := h.cells
  have HR := Lib.hid (RvTo.refl h)
  have hle := h.at_le
  have hfew := h.few
  obtain ⟨n, hn⟩ : ∃ n, n = 8 * zs.length := ⟨_, rfl⟩
  rw [← hn] at hs hle c0 HR ⊢
  have hn2 : n ≤ 8388608 := by omega
  clear h hfew hn
  have d1 : decide ((n : Int) - (p : Int) < (m : Int)) = true := by simp; omega
  go_enter Tryd.func51, Tryd.ntmps51
  go_wp2
  go_quiet (fail)
  go_wp2
  go_ret
  exact ⟨rfl, (HR.out.drewN _).faulty 10⟩

theorem tk_succ (zs : List Nat) (p i : Nat) : tk zs p (i + 1) = 2 * tk zs p i + rbit zs (p + i) := rfl
set_option maxHeartbeats 1000000 in
theorem vget_ok (B b : Nat) (v : Value) (zs : List Nat) (p m : Nat) (w : World) (h : Rv B w b v zs p 0) (hm : m ≤ 64) (hs : p + m ≤ 8 * zs.length) :
    Calls Tryd.prog 51 #[.pointer (some ⟨b, 0, none⟩), .int .i64 (m : Int)] w fun e w' => e = .returned (.int .u64 (tk zs p m : Int)) ∧ RvTo B w b v zs (p + m) 0 w' := by
  obtain ⟨va, vc, hv⟩ := ownsRow_shape h.row
  subst hv
  obtain ⟨c0, c1, c2, f1, f2⟩ := h.cells
  have HR := Lib.hid (RvTo.refl h)
  have hle := h.at_le
  have hfew := h.few
  obtain ⟨n, hn⟩ : ∃ n, n = 8 * zs.length := ⟨_, rfl⟩
  rw [← hn] at hs hle c0 HR ⊢
  have hn2 : n ≤ 8388608 := by omega
  have HN := Lib.hid hn
  clear h hfew hn
  have d1 : decide ((n : Int) - (p : Int) < (m : Int)) = false := by simp; omega
  go_enter Tryd.func51, Tryd.ntmps51
  go_wp2
  go_quiet (fail)
  have HR2 := Lib.hid (HR.out.drewN nq)
  obtain ⟨wz, hwz⟩ : ∃ wz, wz = w.drewN nq := ⟨_, rfl⟩
  rw [← hwz] at HR2 ⊢
  have cz0 : wz.cell? ⟨b, 0, none⟩ = some (.slice va n vc) := by rw [hwz]; exact c0
  have cz1 : wz.cell? ⟨b, 1, none⟩ = some (.int .i64 (p : Int)) := by rw [hwz]; exact c1
  have cz2 : wz.cell? ⟨b, 2, none⟩ = some (.int .i64 0) := by rw [hwz]; exact c2
  clear hwz d1 HR c0 c1 c2
  go_wp2
  go_loopw [5, 6] (fun nv iv wr => ∃ i : Nat, i ≤ m ∧ iv = .int .i64 (i : Int) ∧ nv = .int .u64 (tk zs p i : Int) ∧ RvTo B w b (.slice va n vc) zs p 0 wr) (fun _ iv _ => m - (intOf iv).toNat)
  case atStart => exact ⟨0, Nat.zero_le _, rfl, rfl, HR2.out⟩
  case round =>
    obtain ⟨i, hi, rfl, rfl, hr⟩ := hrel
    obtain ⟨e0, e1, e2, g1, g2⟩ := hr.1.cells
    have HRr := Lib.hid hr
    clear hr HR2 cz0 cz1 cz2
    by_cases hlt : i < m
    · have hpl : p + i < 8 * zs.length := by rw [← HN.out]; omega
      have HT := Lib.hid (tk_succ zs p i)
      have hb := tk_lt zs p i
      have hb2 : tk zs p i < 9223372036854775808 := Nat.lt_of_lt_of_le hb (by
        have : (2 : Nat) ^ i ≤ 2 ^ 63 := Nat.pow_le_pow_right (by decide) (by omega)
        exact this)
      have HBB := Lib.hid (bool_bits zs (p + i) hpl)
      obtain ⟨gv, cv, hsv⟩ := shape_of HRr.out.1.row (by omega)
      rw [← HN.out] at hsv
      simp only [Value.slice.injEq, true_and] at hsv
      obtain ⟨rfl, rfl⟩ := hsv
      have hcell : wr.cell? ⟨gv, p + i, none⟩ = some (.bool ((bitsZ zs).getD (p + i) false)) := by
        have := HRr.out.1.row
        rw [← HN.out] at this
        rw [this.cellAt _ (by omega)]
        simp [bb, List.getD, List.getElem?_eq_getElem (show p + i < (bitsZ zs).length by rw [bitsZ_len]; exact hpl)]
      have hrl := rbit_le zs (p + i)
      rw [HBB.out] at hcell
      clear hb hpl
      generalize rbit zs (p + i) = x at *
      generalize tk zs p i = t at *
      have hx : x = 0 ∨ x = 1 := by omega
      rcases hx with rfl | rfl
      · go_wp2
        go_region
        go_wp2
        go_roundw
        case rel => exact ⟨i + 1, by omega, by go_num, by rw [HT.out]; go_num, HRr.out.drewN 1⟩
        case measure => simp [intOf]; omega
      · go_wp2
        go_region
        go_wp2
        go_roundw
        case rel => exact ⟨i + 1, by omega, by go_num, by rw [HT.out]; go_num, HRr.out.drewN 1⟩
        case measure => simp [intOf]; omega
    · obtain rfl : i = m := by omega
      have HM := Lib.hid (HRr.out.move (p + i) (by rw [← HN.out]; exact hs))
      go_wp2
      go_ret
      exact ⟨rfl, by simpa using HM.out⟩

end Go.Proofs.YtobpinelhjpfgaaDoor
end

section
namespace Go.Proofs.YtobpinelhjpfgaaDoor
open Go.RowKit Bp

theorem vcount_fault (B b : Nat) (v : Value) (zs : List Nat) (p : Nat) (f : Int) (w : World) (h : Rv B w b v zs p f) (hf : f ≠ 0) :
    Calls Tryd.prog 52 #[.pointer (some ⟨b, 0, none⟩)] w fun e w' => e = .returned (.int .u64 0) ∧ RvTo B w b v zs p f w' := by
  have c2 := h.cells.2.2.1
  have t1 : (f != 0) = true := by simpa using hf
  have HR := Lib.hid (RvTo.refl h)
  clear h hf
  go_enter Tryd.func52, Tryd.ntmps52
  go_wp2
  go_ret
  exact ⟨rfl, HR.out⟩

set_option maxHeartbeats 1000000 in
theorem vcount_long (B b : Nat) (v : Value) (zs : List Nat) (p : Nat) (w : World) (h : Rv B w b v zs p 0) (hz : Zs zs p 64) :
    Calls Tryd.prog 52 #[.pointer (some ⟨b, 0, none⟩)] w fun e w' => e = .returned (.int .u64 0) ∧ RvTo B w b v zs p 4 w' := by
  obtain ⟨va, vc, hv⟩ := ownsRow_shape h.row
  subst hv
  obtain ⟨c0, c1, c2, f1, f2⟩ := h.cells
  have HR := Lib.hid (RvTo.refl h)
  have hle := h.at_le
  have hfew := h.few
  obtain ⟨n, hn⟩ : ∃ n, n = 8 * zs.length := ⟨_, rfl⟩
  rw [← hn] at hle c0 HR ⊢
  have hn2 : n ≤ 8388608 := by omega
  have HN := Lib.hid hn
  have HZ := Lib.hid hz
  clear h hfew hn hz
  go_enter Tryd.func52, Tryd.ntmps52
  go_wp2
  go_loopw [4] (fun kv wr => ∃ k : Nat, p + k ≤ n ∧ kv = .int .i64 (k : Int) ∧ (∀ i, i < k → rbit zs (p + i) = 0) ∧ RvTo B w b (.slice va n vc) zs p 0 wr) (fun kv _ => n - (intOf kv).toNat)
  case atStart => exact ⟨0, by omega, rfl, fun i hi => by omega, HR.out⟩
  case round =>
    obtain ⟨k, hk, rfl, hz, hr⟩ := hrel
    obtain ⟨e0, e1, e2, g1, g2⟩ := hr.1.cells
    have HRr := Lib.hid hr
    have HZk := Lib.hid hz
    clear hr hz HR c0 c1 c2
    by_cases hin : p + k < n
    · have hpl : p + k < 8 * zs.length := by rw [← HN.out]; omega
      have HBB := Lib.hid (bool_bits zs (p + k) hpl)
      obtain ⟨gv, cv, hsv⟩ := shape_of HRr.out.1.row (by omega)
      rw [← HN.out] at hsv
      simp only [Value.slice.injEq, true_and] at hsv
      obtain ⟨rfl, rfl⟩ := hsv
      have hcell : wr.cell? ⟨gv, p + k, none⟩ = some (.bool ((bitsZ zs).getD (p + k) false)) := by
        have := HRr.out.1.row
        rw [← HN.out] at this
        rw [this.cellAt _ (by omega)]
        simp [bb, List.getD, List.getElem?_eq_getElem (show p + k < (bitsZ zs).length by rw [bitsZ_len]; exact hpl)]
      rw [HBB.out] at hcell
      have hrl := rbit_le zs (p + k)
      have d1 : decide ((p : Int) + (k : Int) < (n : Int)) = true := by simp; omega
      by_cases hx : rbit zs (p + k) = 0
      · rw [hx] at hcell
        have HZ1 : Hid (∀ i, i < k + 1 → rbit zs (p + i) = 0) := Lib.hid (fun i hi => by
          rcases Nat.lt_or_ge i k with h | h
          · exact HZk.out i h
          · have : i = k := by omega
            subst this; exact hx)
        clear hx hpl hrl
        go_wp2
        go_quiet (fail)
        go_wp2
        go_roundw
        case rel => exact ⟨k + 1, by omega, by go_num, HZ1.out, HRr.out.drewN _⟩
        case measure => simp [intOf]; omega
      · have hx1 : rbit zs (p + k) = 1 := by omega
        rw [hx1] at hcell
        have HX1 := Lib.hid hx1
        clear hx hx1 hpl hrl
        have h64 : 64 ≤ k := by
          rcases Nat.lt_or_ge k 64 with h | h
          · exfalso
            have := HZ.out.zero k h
            have := HZ.out.inn
            have := HX1.out
            omega
          · exact h
        go_wp2
        go_quiet (fail)
        go_wp2
        go_ret
        exact ⟨rfl, (HRr.out.drewN _).faulty 4⟩
    · have d1 : decide ((p : Int) + (k : Int) < (n : Int)) = false := by simp; omega
      have h64 : 64 ≤ k := by
        rcases Nat.lt_or_ge k 64 with h | h
        · exfalso
          have := HZ.out.zero k h
          have := HZ.out.inn
          rw [← HN.out] at this
          omega
        · exact h
      go_wp2
      go_quiet (fail)
      go_wp2
      go_ret
      exact ⟨rfl, (HRr.out.drewN _).faulty 4⟩

theorem ret_int1 {k : IntKind} {a b : Int} (h : a = b) : Ending.returned (.int k a) = .returned (.int k b) := by rw [h]
theorem vget_short_int (B b : Nat) (v : Value) (zs : List Nat) (p m : Nat) (M : Int) (w : World) (h : Rv B w b v zs p 0) (hm : m ≤ 64) (hs : 8 * zs.length < p + m) (hM : M = m) :
    Calls Tryd.prog 51 #[.pointer (some ⟨b, 0, none⟩), .int .i64 M] w fun e w' => e = .returned (.int .u64 0) ∧ RvTo B w b v zs p 10 w' := by
  subst hM; exact vget_short B b v zs p m w h hm hs
theorem vget_ok_int (B b : Nat) (v : Value) (zs : List Nat) (p m : Nat) (M : Int) (w : World) (h : Rv B w b v zs p 0) (hm : m ≤ 64) (hs : p + m ≤ 8 * zs.length) (hM : M = m) :
    Calls Tryd.prog 51 #[.pointer (some ⟨b, 0, none⟩), .int .i64 M] w fun e w' => e = .returned (.int .u64 (tk zs p m : Int)) ∧ RvTo B w b v zs (p + m) 0 w' := by
  subst hM; exact vget_ok B b v zs p m w h hm hs
theorem back {B : Nat} {w w1 w2 : World} {b : Nat} {v : Value} {zs : List Nat} {p q : Nat} {f g : Int} (h : RvTo B w b v zs q g w1) (h2 : RvTo B w1 b v zs q f w2) (hp : p ≤ 8 * zs.length) : RvTo B w b v zs p f (w2.setCell ⟨b, 1, none⟩ (.int .i64 (p : Int))) :=
  ⟨h2.1.move p hp, (h.2.trans h2.2).put _ (.inl rfl)⟩

set_option maxHeartbeats 2000000 in
theorem vcount_short (B b : Nat) (v : Value) (zs : List Nat) (p q : Nat) (w : World) (h : Rv B w b v zs p 0) (hz : Zs zs p q) (hq : q ≤ 63) (hs : 8 * zs.length < p + (2 * q + 1)) :
    Calls Tryd.prog 52 #[.pointer (some ⟨b, 0, none⟩)] w fun e w' => e = .returned (.int .u64 0) ∧ RvTo B w b v zs p 10 w' := by
  obtain ⟨va, vc, hv⟩ := ownsRow_shape h.row
  subst hv
  obtain ⟨c0, c1, c2, f1, f2⟩ := h.cells
  have HR := Lib.hid (RvTo.refl h)
  have hle := h.at_le
  have hfew := h.few
  obtain ⟨n, hn⟩ : ∃ n, n = 8 * zs.length := ⟨_, rfl⟩
  rw [← hn] at hle c0 HR hs ⊢
  have hn2 : n ≤ 8388608 := by omega
  have HN := Lib.hid hn
  have HZ := Lib.hid hz
  clear h hfew hn hz
  go_enter Tryd.func52, Tryd.ntmps52
  go_wp2
  go_loopw [4] (fun kv wr => ∃ k : Nat, p + k ≤ n ∧ kv = .int .i64 (k : Int) ∧ (∀ i, i < k → rbit zs (p + i) = 0) ∧ RvTo B w b (.slice va n vc) zs p 0 wr) (fun kv _ => n - (intOf kv).toNat)
  case atStart => exact ⟨0, by omega, rfl, fun i hi => by omega, HR.out⟩
  case round =>
    obtain ⟨k, hk, rfl, hz, hr⟩ := hrel
    obtain ⟨e0, e1, e2, g1, g2⟩ := hr.1.cells
    have HRr := Lib.hid hr
    have HZk := Lib.hid hz
    clear hr hz HR c0 c1 c2
    by_cases hin : p + k < n
    · have hpl : p + k < 8 * zs.length := by rw [← HN.out]; omega
      have HBB := Lib.hid (bool_bits zs (p + k) hpl)
      obtain ⟨gv, cv, hsv⟩ := shape_of HRr.out.1.row (by omega)
      rw [← HN.out] at hsv
      simp only [Value.slice.injEq, true_and] at hsv
      obtain ⟨rfl, rfl⟩ := hsv
      have hcell : wr.cell? ⟨gv, p + k, none⟩ = some (.bool ((bitsZ zs).getD (p + k) false)) := by
        have := HRr.out.1.row
        rw [← HN.out] at this
        rw [this.cellAt _ (by omega)]
        simp [bb, List.getD, List.getElem?_eq_getElem (show p + k < (bitsZ zs).length by rw [bitsZ_len]; exact hpl)]
      rw [HBB.out] at hcell
      have hrl := rbit_le zs (p + k)
      have d1 : decide ((p : Int) + (k : Int) < (n : Int)) = true := by simp; omega
      by_cases hx : rbit zs (p + k) = 0
      · rw [hx] at hcell
        have HZ1 : Hid (∀ i, i < k + 1 → rbit zs (p + i) = 0) := Lib.hid (fun i hi => by
          rcases Nat.lt_or_ge i k with h | h
          · exact HZk.out i h
          · have : i = k := by omega
            subst this; exact hx)
        clear hx hpl hrl
        go_wp2
        go_quiet (fail)
        go_wp2
        go_roundw
        case rel => exact ⟨k + 1, by omega, by go_num, HZ1.out, HRr.out.drewN _⟩
        case measure => simp [intOf]; omega
      · have hx1 : rbit zs (p + k) = 1 := by omega
        rw [hx1] at hcell
        have HX1 := Lib.hid hx1
        clear hx hx1 hpl hrl
        have hkq : k = q := by
          rcases Nat.lt_trichotomy k q with h | h | h
          · have := HZ.out.zero k h
            have := HX1.out
            omega
          · exact h
          · have h0 := HZk.out q h
            rcases HZ.out.stop with x | x | x
            · omega
            · rw [← HN.out] at x; omega
            · omega
        subst hkq
        clear HZk
        go_wp2
        go_quiet (fail)
        have HM := Lib.hid ((HRr.out.drewN nq).move (p + k) (by rw [← HN.out]; exact hk))
        go_wp2_with fail
        refine (vget_short_int B b _ zs (p + k) (k + 1) _ _ (by simpa using HM.out.1) (by omega) (by rw [← HN.out]; omega) (by simp)).mono ?_
        rintro e w5 ⟨rfl, h5⟩
        have H5 := Lib.hid h5
        obtain ⟨i0, i1, i2, j1, j2⟩ := h5.1.cells
        clear h5
        go_wp2
        go_ret
        exact ⟨rfl, back (by simpa using HM.out) H5.out (by rw [← HN.out]; exact hle)⟩
    · have d1 : decide ((p : Int) + (k : Int) < (n : Int)) = false := by simp; omega
      have hkq : k = q := by
        rcases Nat.lt_trichotomy k q with h | h | h
        · have := HZ.out.inn
          rw [← HN.out] at this
          omega
        · exact h
        · have h0 := HZk.out q h
          rcases HZ.out.stop with x | x | x
          · omega
          · rw [← HN.out] at x; omega
          · omega
      subst hkq
      clear HZk
      go_wp2
      go_quiet (fail)
      have HM := Lib.hid ((HRr.out.drewN nq).move (p + k) (by rw [← HN.out]; exact hk))
      go_wp2_with fail
      refine (vget_short_int B b _ zs (p + k) (k + 1) _ _ (by simpa using HM.out.1) (by omega) (by rw [← HN.out]; omega) (by simp)).mono ?_
      rintro e w5 ⟨rfl, h5⟩
      have H5 := Lib.hid h5
      obtain ⟨i0, i1, i2, j1, j2⟩ := h5.1.cells
      clear h5
      go_wp2
      go_ret
      exact ⟨rfl, back (by simpa using HM.out) H5.out (by rw [← HN.out]; exact hle)⟩

set_option maxHeartbeats 2000000 in
theorem vcount_ok (B b : Nat) (v : Value) (zs : List Nat) (p q : Nat) (w : World) (h : Rv B w b v zs p 0) (hz : Zs zs p q) (hq : q ≤ 63) (hs : p + (2 * q + 1) ≤ 8 * zs.length) :
    Calls Tryd.prog 52 #[.pointer (some ⟨b, 0, none⟩)] w fun e w' => e = .returned (.int .u64 ((tk zs (p + q) (q + 1) - 1 : Nat) : Int)) ∧ RvTo B w b v zs (p + (2 * q + 1)) 0 w' := by
  obtain ⟨va, vc, hv⟩ := ownsRow_shape h.row
  subst hv
  obtain ⟨c0, c1, c2, f1, f2⟩ := h.cells
  have HR := Lib.hid (RvTo.refl h)
  have hle := h.at_le
  have hfew := h.few
  obtain ⟨n, hn⟩ : ∃ n, n = 8 * zs.length := ⟨_, rfl⟩
  rw [← hn] at hle c0 HR hs ⊢
  have hn2 : n ≤ 8388608 := by omega
  have HN := Lib.hid hn
  have HZ := Lib.hid hz
  clear h hfew hn hz
  go_enter Tryd.func52, Tryd.ntmps52
  go_wp2
  go_loopw [4] (fun kv wr => ∃ k : Nat, p + k ≤ n ∧ kv = .int .i64 (k : Int) ∧ (∀ i, i < k → rbit zs (p + i) = 0) ∧ RvTo B w b (.slice va n vc) zs p 0 wr) (fun kv _ => n - (intOf kv).toNat)
  case atStart => exact ⟨0, by omega, rfl, fun i hi => by omega, HR.out⟩
  case round =>
    obtain ⟨k, hk, rfl, hz, hr⟩ := hrel
    obtain ⟨e0, e1, e2, g1, g2⟩ := hr.1.cells
    have HRr := Lib.hid hr
    have HZk := Lib.hid hz
    clear hr hz HR c0 c1 c2
    by_cases hin : p + k < n
    · have hpl : p + k < 8 * zs.length := by rw [← HN.out]; omega
      have HBB := Lib.hid (bool_bits zs (p + k) hpl)
      obtain ⟨gv, cv, hsv⟩ := shape_of HRr.out.1.row (by omega)
      rw [← HN.out] at hsv
      simp only [Value.slice.injEq, true_and] at hsv
      obtain ⟨rfl, rfl⟩ := hsv
      have hcell : wr.cell? ⟨gv, p + k, none⟩ = some (.bool ((bitsZ zs).getD (p + k) false)) := by
        have := HRr.out.1.row
        rw [← HN.out] at this
        rw [this.cellAt _ (by omega)]
        simp [bb, List.getD, List.getElem?_eq_getElem (show p + k < (bitsZ zs).length by rw [bitsZ_len]; exact hpl)]
      rw [HBB.out] at hcell
      have hrl := rbit_le zs (p + k)
      have d1 : decide ((p : Int) + (k : Int) < (n : Int)) = true := by simp; omega
      by_cases hx : rbit zs (p + k) = 0
      · rw [hx] at hcell
        have HZ1 : Hid (∀ i, i < k + 1 → rbit zs (p + i) = 0) := Lib.hid (fun i hi => by
          rcases Nat.lt_or_ge i k with h | h
          · exact HZk.out i h
          · have : i = k := by omega
            subst this; exact hx)
        clear hx hpl hrl
        go_wp2
        go_quiet (fail)
        go_wp2
        go_roundw
        case rel => exact ⟨k + 1, by omega, by go_num, HZ1.out, HRr.out.drewN _⟩
        case measure => simp [intOf]; omega
      · have hx1 : rbit zs (p + k) = 1 := by omega
        rw [hx1] at hcell
        have HX1 := Lib.hid hx1
        clear hx hx1 hpl hrl
        have hkq : k = q := by
          rcases Nat.lt_trichotomy k q with h | h | h
          · have := HZ.out.zero k h
            have := HX1.out
            omega
          · exact h
          · have h0 := HZk.out q h
            rcases HZ.out.stop with x | x | x
            · omega
            · rw [← HN.out] at x; omega
            · omega
        subst hkq
        clear HZk
        have ht := tk_top zs (p + k) k HX1.out
        have hp0 : 0 < 2 ^ k := Nat.two_pow_pos k
        have ht2 := tk_lt zs (p + k) (k + 1)
        have ht3 : tk zs (p + k) (k + 1) < 18446744073709551616 := Nat.lt_of_lt_of_le ht2 (by
          have : (2 : Nat) ^ (k + 1) ≤ 2 ^ 64 := Nat.pow_le_pow_right (by decide) (by omega)
          exact this)
        have ht4 : 1 ≤ tk zs (p + k) (k + 1) := by omega
        clear ht ht2 hp0
        go_wp2
        go_quiet (fail)
        have HM := Lib.hid ((HRr.out.drewN nq).move (p + k) (by rw [← HN.out]; omega))
        go_wp2_with fail
        refine (vget_ok_int B b _ zs (p + k) (k + 1) _ _ (by simpa using HM.out.1) (by omega) (by rw [← HN.out]; omega) (by simp)).mono ?_
        rintro e w5 ⟨rfl, h5⟩
        have H5 := Lib.hid h5
        obtain ⟨i0, i1, i2, j1, j2⟩ := h5.1.cells
        clear h5
        obtain ⟨t, htt⟩ : ∃ t, t = tk zs (p + k) (k + 1) := ⟨_, rfl⟩
        rw [← htt] at ht3 ht4 ⊢
        have HTT := Lib.hid htt
        clear htt
        go_wp2
        go_ret
        exact ⟨ret_int1 (by rw [← HTT.out]; omega), by
          have := HM.out
          refine ⟨?_, (show Turn _ _ w _ by simpa using HM.out.2).trans H5.out.2⟩
          rw [show p + (2 * k + 1) = p + k + (k + 1) by omega]
          exact H5.out.1⟩
    · have d1 : decide ((p : Int) + (k : Int) < (n : Int)) = false := by simp; omega
      exfalso
      have hkq : k = q := by
        rcases Nat.lt_trichotomy k q with h | h | h
        · have := HZ.out.inn
          rw [← HN.out] at this
          omega
        · exact h
        · have h0 := HZk.out q h
          rcases HZ.out.stop with x | x | x
          · omega
          · rw [← HN.out] at x; omega
          · omega
      omega

end Go.Proofs.YtobpinelhjpfgaaDoor
end

section
namespace Go.Proofs.YtobpinelhjpfgaaDoor
open Go.RowKit Bp

theorem vend_fault (B b : Nat) (v : Value) (zs : List Nat) (p : Nat) (f : Int) (w : World) (h : Rv B w b v zs p f) (hf : f ≠ 0) :
    Calls Tryd.prog 53 #[.pointer (some ⟨b, 0, none⟩)] w fun e w' => e = .returned (.int .i64 f) ∧ RvTo B w b v zs p f w' := by
  have c2 := h.cells.2.2.1
  have t1 : (f != 0) = true := by simpa using hf
  have HR := Lib.hid (RvTo.refl h)
  clear h hf
  go_enter Tryd.func53, Tryd.ntmps53
  go_wp2
  go_ret
  exact ⟨rfl, HR.out⟩
theorem vend_tail (B b : Nat) (v : Value) (zs : List Nat) (p : Nat) (w : World) (h : Rv B w b v zs p 0) (ht : p + 8 ≤ 8 * zs.length) :
    Calls Tryd.prog 53 #[.pointer (some ⟨b, 0, none⟩)] w fun e w' => e = .returned (.int .i64 11) ∧ RvTo B w b v zs p 0 w' := by
  obtain ⟨va, vc, hv⟩ := ownsRow_shape h.row
  subst hv
  obtain ⟨c0, c1, c2, f1, f2⟩ := h.cells
  have HR := Lib.hid (RvTo.refl h)
  have hfew := h.few
  obtain ⟨n, hn⟩ : ∃ n, n = 8 * zs.length := ⟨_, rfl⟩
  rw [← hn] at ht c0 HR ⊢
  have hn2 : n ≤ 8388608 := by omega
  clear h hfew hn
  have t7 : (7 : Int) < (n : Int) - (p : Int) := by omega
  go_enter Tryd.func53, Tryd.ntmps53
  go_wp2
  go_quiet (fail)
  go_wp2
  go_ret
  exact ⟨rfl, HR.out.drewN _⟩
set_option maxHeartbeats 1000000 in
theorem vend_bit (B b : Nat) (v : Value) (zs : List Nat) (p q : Nat) (w : World) (h : Rv B w b v zs p 0) (hz : Zs zs p q) (ht : 8 * zs.length < p + 8) :
    Calls Tryd.prog 53 #[.pointer (some ⟨b, 0, none⟩)] w fun e w' => e = .returned (.int .i64 (if p + q < 8 * zs.length then 11 else 0)) ∧ RvTo B w b v zs p 0 w' := by
  obtain ⟨va, vc, hv⟩ := ownsRow_shape h.row
  subst hv
  obtain ⟨c0, c1, c2, f1, f2⟩ := h.cells
  have HR := Lib.hid (RvTo.refl h)
  have hfew := h.few
  have hle := h.at_le
  obtain ⟨n, hn⟩ : ∃ n, n = 8 * zs.length := ⟨_, rfl⟩
  obtain ⟨y, hy⟩ : ∃ y : Int, y = if p + q < 8 * zs.length then 11 else 0 := ⟨_, rfl⟩
  rw [← hy]
  have HYY := Lib.hid hy
  rw [← hn] at ht hle c0 HR ⊢
  have hn2 : n ≤ 8388608 := by omega
  have HN := Lib.hid hn
  have HZ := Lib.hid hz
  clear h hfew hn hy hz
  have t7 : ¬ ((7 : Int) < (n : Int) - (p : Int)) := by omega
  go_enter Tryd.func53, Tryd.ntmps53
  go_wp2
  go_quiet (fail)
  have HR2 := Lib.hid (HR.out.drewN nq)
  obtain ⟨wz, hwz⟩ : ∃ wz, wz = w.drewN nq := ⟨_, rfl⟩
  rw [← hwz] at HR2 ⊢
  have cz0 : wz.cell? ⟨b, 0, none⟩ = some (.slice va n vc) := by rw [hwz]; exact c0
  have cz1 : wz.cell? ⟨b, 1, none⟩ = some (.int .i64 (p : Int)) := by rw [hwz]; exact c1
  clear hwz HR c0 c1 c2 t7
  go_wp2
  go_loop [3] (fun iv => ∃ i : Nat, p + i ≤ n ∧ iv = .int .i64 ((p + i : Nat) : Int) ∧ ∀ j, j < i → rbit zs (p + j) = 0) (fun iv => n - (intOf iv).toNat)
  case atStart => exact ⟨0, hle, by simp, fun j hj => by omega⟩
  case round =>
    obtain ⟨i, hi, rfl, hzi⟩ := hrel
    have HZI := Lib.hid hzi
    clear hzi
    by_cases hlt : p + i < n
    · have hpl : p + i < 8 * zs.length := by rw [← HN.out]; omega
      have HBB := Lib.hid (bool_bits zs (p + i) hpl)
      obtain ⟨gv, cv, hsv⟩ := shape_of HR2.out.1.row (by omega)
      rw [← HN.out] at hsv
      simp only [Value.slice.injEq, true_and] at hsv
      obtain ⟨rfl, rfl⟩ := hsv
      have hcell : wz.cell? ⟨gv, p + i, none⟩ = some (.bool ((bitsZ zs).getD (p + i) false)) := by
        have := HR2.out.1.row
        rw [← HN.out] at this
        rw [this.cellAt _ (by omega)]
        simp [bb, List.getD, List.getElem?_eq_getElem (show p + i < (bitsZ zs).length by rw [bitsZ_len]; exact hpl)]
      rw [HBB.out] at hcell
      have hrl := rbit_le zs (p + i)
      by_cases hx : rbit zs (p + i) = 0
      · rw [hx] at hcell
        have HZ1 : Hid (∀ j, j < i + 1 → rbit zs (p + j) = 0) := Lib.hid (fun j hj => by
          rcases Nat.lt_or_ge j i with h | h
          · exact HZI.out j h
          · have : j = i := by omega
            subst this; exact hx)
        clear hx hpl hrl
        go_wp2
        go_round
        case rel => exact ⟨i + 1, by omega, by go_num, HZ1.out⟩
        case measure => simp [intOf]; omega
      · have hx1 : rbit zs (p + i) = 1 := by omega
        rw [hx1] at hcell
        have HX1 := Lib.hid hx1
        clear hx hx1 hpl hrl
        go_wp2
        go_ret
        refine ⟨ret_int1 ?_, HR2.out⟩
        rw [HYY.out, if_pos]
        rw [← HN.out]
        rcases Nat.lt_or_ge i q with h | h
        · have := HZ.out.zero i h
          have := HX1.out
          omega
        · omega
    · go_wp2
      go_ret
      refine ⟨ret_int1 ?_, HR2.out⟩
      rw [HYY.out, if_neg]
      rw [← HN.out]
      intro hh
      rcases HZ.out.stop with x | x | x
      · omega
      · rw [← HN.out] at x; omega
      · have := HZI.out q (by omega)
        omega

end Go.Proofs.YtobpinelhjpfgaaDoor
end

section
namespace Go.Proofs.YtobpinelhjpfgaaDoor
open Go.RowKit Bp

/-- What Of tells. -/
def OfTold (w : World) (zs : List Nat) (e : Ending) (w' : World) : Prop := ∃ b v, e = .returned (.pointer (some ⟨b, 0, none⟩)) ∧ Rv w.heap.size w' b v zs 0 0 ∧ Below w.heap.size w w'

theorem of_step {w wr w5 w6 : World} {la : Option Addr} {k lc g6 c6 z : Nat} {ys : List Nat} {bs : List Bool} (hR : Rv w.heap.size wr w.heap.size (.slice la (8 * k) lc) ys 0 0) (hB : Below w.heap.size w wr)
    (h5 : Below wr.heap.size wr.drew w5) (ho : w6.ownsRow w.heap.size 4 1 (.slice (some ⟨g6, 0, none⟩) (8 * k + 8) c6) (8 * k + 8) (bb bs ++ bb (bitsOf z 8))) (hg : w5.grownBy w6 (Value.slice la (8 * k) lc).ownBlock)
    (hat : (Value.slice la (8 * k) lc).ownBlock = some g6 ∨ g6 = w5.heap.size) (hl : ys.length = k) (hbs : bitsZ ys = bs) (hf : k + 1 ≤ 1048576) :
    Rv w.heap.size (w6.setCell ⟨w.heap.size, 0, none⟩ (.slice (some ⟨g6, 0, none⟩) (8 * k + 8) c6)) w.heap.size (.slice (some ⟨g6, 0, none⟩) (8 * k + 8) c6) (ys ++ [z]) 0 0 ∧
    Below w.heap.size w (w6.setCell ⟨w.heap.size, 0, none⟩ (.slice (some ⟨g6, 0, none⟩) (8 * k + 8) c6)) := by
  have hlt : w.heap.size < wr.heap.size := lt_of_heap hR.box
  have hlt5 : w.heap.size < w5.heap.size := Nat.lt_of_lt_of_le hlt h5.size
  have hgb : g6 ≠ w.heap.size := by
    rcases hat with h | h
    · intro e; exact hR.ne (by rw [h, e])
    · omega
  have hb5 : w5.heap[w.heap.size]? = some (.cells #[.slice la (8 * k) lc, .int .i64 ((0 : Nat) : Int), .int .i64 0] 93 (0, 0)) := (h5.block w.heap.size hlt).trans hR.box
  have hb6 := (hg.block w.heap.size hlt5 (fun e => hR.ne e.symm)).trans hb5
  refine ⟨⟨?_, ?_, by simp only [Value.ownBlock, ne_eq, Option.some.injEq]; exact hgb, Nat.le_refl _, by omega, by simp; omega⟩, ?_⟩
  · rw [heap_setCell_same w6 w.heap.size 0 _ _ _ hb6]; simp
  · have h1 := ownsRow_setCell_other ho (a := ⟨w.heap.size, 0, none⟩) (by simp only [Value.ownBlock, ne_eq, Option.some.injEq]; exact hgb) (.slice (some ⟨g6, 0, none⟩) (8 * k + 8) c6)
    rw [List.length_append, List.length_singleton, hl, bitsZ_snoc, hbs, bb_app, show 8 * (k + 1) = 8 * k + 8 by omega]
    exact h1
  · have h1 : Below w.heap.size w w5 := hB.trans ((⟨h5.os, h5.tape, h5.output, h5.size, h5.block⟩ : Below wr.heap.size wr w5).mono (Nat.le_of_lt hlt))
    exact (Below.grown h1 hg (Nat.le_of_lt hlt5) (fun k hk => (hR.row.lt k hk).1)).setCell (p := ⟨w.heap.size, 0, none⟩) (Nat.le_refl _) _

set_option maxHeartbeats 2000000 in
theorem refOf_any (C : Nat) (v : Value) (zs : List Nat) (w : World) (h : w.ownsRow C 5 1 v zs.length (bc zs)) (hl : zs.length ≤ 1048576) (hz : ∀ z ∈ zs, z ≤ 255) :
    Calls Tryd.prog 50 #[v] w fun e w' => OfTold w zs e w' := by
  obtain ⟨i0, hi, hz0, hz1, hz2⟩ := info_parts Tryd.infoBool
  obtain ⟨va, vc, hv⟩ := ownsRow_shape h
  subst hv
  have HO := Lib.hid h
  have HZ := Lib.hid hz
  obtain ⟨n, hn⟩ : ∃ n, n = zs.length := ⟨_, rfl⟩
  rw [← hn] at hl HO ⊢
  have HN := Lib.hid hn
  clear h hz hn
  have HS : Hid (Rv w.heap.size (w.alloc (.cells #[.slice none 0 0, .int .i64 0, .int .i64 0] 93)) w.heap.size (.slice none 0 0) [] 0 0) := Lib.hid
    ⟨heap_alloc_new w _, World.ownsRow_nil _ _ _ _, by simp [Value.ownBlock], Nat.le_refl _, by simp, by simp⟩
  have HSB : Hid (Below w.heap.size w (w.alloc (.cells #[.slice none 0 0, .int .i64 0, .int .i64 0] 93))) := Lib.hid ((Below.refl _ _).alloc (Nat.le_refl _) _)
  obtain ⟨b, hb⟩ : ∃ b, b = w.heap.size := ⟨_, rfl⟩
  have HBB := Lib.hid hb
  go_enter Tryd.func50, Tryd.ntmps50
  go_wp2
  go_loopw [4] (fun iv wr => ∃ (k : Nat) (lv : Value), k ≤ n ∧ iv = .int .i64 (k : Int) ∧ Rv w.heap.size wr w.heap.size lv (zs.take k) 0 0 ∧ Below w.heap.size w wr) (fun iv _ => n - (intOf iv).toNat)
  case atStart => exact ⟨0, _, Nat.zero_le _, rfl, by rw [List.take_zero]; exact HS.out, HSB.out⟩
  case round =>
    obtain ⟨k, lv, hk, rfl, hR, hBw⟩ := hrel
    clear HS HSB
    by_cases hlt : k < n
    · obtain ⟨g, cc, hsh⟩ := shape_of HO.out (by omega)
      simp only [Value.slice.injEq, true_and] at hsh
      obtain ⟨rfl, rfl⟩ := hsh
      have hgl : g < w.heap.size := (HO.out.lt g rfl).2
      obtain ⟨z, hzk⟩ : ∃ z, z = zs.getD k 0 := ⟨_, rfl⟩
      have hkl : k < zs.length := by rw [← HN.out]; exact hlt
      have cz : wr.cell? ⟨g, k, none⟩ = some (.int .u8 (z : Int)) := by
        rw [hBw.cell (p := ⟨g, k, none⟩) hgl, HO.out.cellAt k (by omega), hzk]
        simp [bc, List.getD, List.getElem?_eq_getElem hkl]
      have hzb : z ≤ 255 := by
        rw [hzk, List.getD, List.getElem?_eq_getElem hkl]
        exact HZ.out _ (List.getElem_mem hkl)
      have HTK : Hid (zs.take (k + 1) = zs.take k ++ [z]) := Lib.hid (by
        rw [List.take_succ_eq_append_getElem hkl, hzk]
        simp [List.getD, List.getElem?_eq_getElem hkl])
      have htl : (zs.take k).length = k := by rw [List.length_take]; omega
      obtain ⟨la, lc, hlv⟩ := ownsRow_shape hR.row
      rw [htl] at hlv
      subst hlv
      have c0 := hR.cells.1
      have f0 : wr.frozen? ⟨w.heap.size, 0, none⟩ = false := frozen_of_row wr w.heap.size 0 _ _ hR.box
      have hbl : w.heap.size < wr.heap.size := lt_of_heap hR.box
      have HL : Hid (wr.ownsRow w.heap.size 4 1 (.slice la (8 * k) lc) (8 * k) (bb (bitsZ (zs.take k)))) := Lib.hid (by have := hR.row; rw [htl] at this; exact this)
      have HR := Lib.hid hR
      have HBw := Lib.hid hBw
      have HNE := Lib.hid hR.ne
      have HTL := Lib.hid htl
      clear hR hBw hzk hkl htl
      generalize hbs : bitsZ (zs.take k) = bs at HL
      have HBS := Lib.hid hbs
      clear hbs
      have hwz : IntKind.u64.wrap (z : Int) = (z : Int) := IntWalk.u64_in _ (by omega)
      have hk1 : (k : Int) < (n : Int) := by omega
      go_wp2
      go_region_law (first | (refine step_append_lies _ (by rfl) _ _ _ (by rfl) w.heap.size 4 i0 _ 1 1 Tryd.underlying91 hi hz0 hz1 hz2 rfl (by omega) (.slice la (8 * k) lc) (8 * k) (bb bs) (by rfl) HL5.out ⟨g5, 0, none⟩ 8 c5 (bb (bitsOf z 8)) (by rfl) (by rfl) HN5.out (bb_one _) (by omega) (by unfold maxLen; omega) (by omega) hsz5 w5.heap.size rfl ?_; intro g6 c6 w6 hown6 hgrow6 hat6 hlt6; have d0 := (World.cell?_of_block (a := ⟨w.heap.size, 0, none⟩) (hgrow6.block w.heap.size hbl5 HNB.out)).trans c05; have d1 := (World.frozen?_of_block (a := ⟨w.heap.size, 0, none⟩) (hgrow6.block w.heap.size hbl5 HNB.out)).trans f05; have HO6 := Lib.hid hown6; have HG6 := Lib.hid hgrow6; clear hown6 hgrow6) | (go_simp; go_at_call 55; refine (refBits_int z 8 _ _ (by omega) (by omega) _ rfl rfl).mono ?_; rintro e w5 ⟨v5, rfl, hS5, hO5, hB5⟩; obtain ⟨g5, c5, hv5⟩ := shape_of hO5 (by omega); subst hv5; have c05 := (hB5.cell (p := ⟨w.heap.size, 0, none⟩) hbl).trans c0; have f05 := (hB5.frozen (p := ⟨w.heap.size, 0, none⟩) hbl).trans f0; have hbl5 := Nat.lt_of_lt_of_le hbl hB5.size; have hsz5 : w.heap.size ≤ w5.heap.size := (by omega); have HL5 := Lib.hid (ownsRow_same HL.out (fun k hk => hB5.block k (HL.out.lt k hk).2)); have HN5 := Lib.hid (hO5.cells (g := g5) rfl); have HNB := Lib.hid (fun e => HNE.out (Eq.symm e)); have HB5 := Lib.hid hB5; clear hS5 hO5 hB5))
      all_goals
        go_wp2
        go_roundw
        case rel =>
          have hst := of_step HR.out HBw.out HB5.out HO6.out HG6.out hat6 HTL.out HBS.out (by omega)
          exact ⟨k + 1, _, by omega, by go_num, by rw [HTK.out]; exact hst.1, hst.2⟩
        case measure => simp [intOf]; omega
    · obtain rfl : k = n := by omega
      have HR := Lib.hid hR
      have HBw := Lib.hid hBw
      clear hR hBw
      go_wp2
      go_ret
      refine ⟨w.heap.size, lv, rfl, ?_, HBw.out⟩
      have := HR.out
      rw [List.take_of_length_le (by rw [← HN.out]; exact Nat.le_refl _)] at this
      exact this

end Go.Proofs.YtobpinelhjpfgaaDoor
end
