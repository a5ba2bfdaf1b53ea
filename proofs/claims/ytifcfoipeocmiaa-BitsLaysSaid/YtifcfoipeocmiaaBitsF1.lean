/-
  The document's answer for layer 1: numbers and counts as lists of bits.
-/
import Derived.Test.YtifcfoipeocmiaaBitsLongW
import Derived.Laws.AppendOwnNone
set_option linter.unusedVariables false
namespace Go.Proofs.Ytifcfoipeocmiaa
open Go.RowKit Bp

theorem Try.infoBool : (Try.prog.info? 4).map (fun i => (i.zero, i.size, i.bytes)) = some (some (.bool false), 1, 1) := by kernel_rfl

/-- Bits as cells. -/
def bb (l : List Bool) : List Value := l.map Value.bool
theorem bb_length (l : List Bool) : (bb l).length = l.length := by simp [bb]
theorem bb_one (l : List Bool) : ∀ u ∈ bb l, u.oneCell' = true := by
  intro u hu
  simp only [bb, List.mem_map] at hu
  obtain ⟨x, _, rfl⟩ := hu
  rfl
theorem bb_app (l k : List Bool) : bb (l ++ k) = bb l ++ bb k := by simp [bb]
theorem bitsOf_cons (n m : Nat) : bitsOf n (m + 1) = (n / 2 ^ m % 2 == 1) :: bitsOf n m := by
  induction m generalizing n with
  | zero => simp [bitsOf]
  | succ m ih => rw [bitsOf_succ, ih (n / 2), bitsOf_succ n m, Nat.div_div_eq_div_mul, ← Nat.pow_succ']; rfl

/-- A list of bits of its own, at v. -/
def BL (B : Nat) (w0 w : World) (v : Value) (l : List Bool) : Prop := w.ownsRow B 4 1 v l.length (bb l) ∧ Below B w0 w
/-- What stands at v: nothing where there is nothing, else a row. -/
def Shape (v : Value) (n : Nat) : Prop := (n = 0 ∧ v = .slice none 0 0) ∨ (0 < n ∧ ∃ g cap, v = .slice (some ⟨g, 0, none⟩) n cap)

theorem odd_bit (y : Nat) : ((y : Int) % 2 == 1) = (y % 2 == 1) := by
  rw [Bool.eq_iff_iff, beq_iff_eq, beq_iff_eq]; omega

set_option maxHeartbeats 1000000 in
theorem refBits_any (n m : Nat) (hn : n < 18446744073709551616) (hm : m ≤ 64) (w : World) :
    Calls Try.prog 11 #[.int .u64 (n : Int), .int .i64 (m : Int)] w fun e w' => ∃ v, e = .returned v ∧ Shape v m ∧ w'.ownsRow w.heap.size 4 1 v m (bb (bitsOf n m)) ∧ Below w.heap.size w w' := by
  obtain ⟨i0, hi, hz0, hz1, hz2⟩ := info_parts Try.infoBool
  go_enter Try.func11, Try.ntmps11
  go_wp2
  go_loopw [0, 5, 6] (fun nv lv iv wr => ∃ i : Nat, i ≤ m ∧ iv = .int .i64 (i : Int) ∧ nv = .int .u64 ((n / 2 ^ i : Nat) : Int) ∧ Shape lv i ∧ wr.ownsRow w.heap.size 4 1 lv i (bb (bitsOf n i)) ∧ Below w.heap.size w wr) (fun _ _ iv _ => m - (intOf iv).toNat)
  case atStart => exact ⟨0, Nat.zero_le _, rfl, by simp, .inl ⟨rfl, rfl⟩, World.ownsRow_nil _ _ _ _, Below.refl _ _⟩
  case round =>
    obtain ⟨i, hik, rfl, rfl, hS, hO, hB⟩ := hrel
    have HO := Lib.hid hO
    have HB := Lib.hid hB
    clear hO hB
    by_cases hlt : i < m
    · have hle : n / 2 ^ i ≤ n := Nat.div_le_self _ _
      have HN : Hid (n / 2 ^ (i + 1) = n / 2 ^ i / 2) := Lib.hid (by rw [Nat.pow_succ, Nat.div_div_eq_div_mul])
      have HC : Hid (bb (bitsOf n (i + 1)) = [Value.bool ((((n / 2 ^ i : Nat) : Int)) % 2 == 1)] ++ bb (bitsOf n i)) := Lib.hid (by rw [bitsOf_cons, odd_bit]; rfl)
      have hsz := HB.out.size
      generalize n / 2 ^ i = y at *
      have HL : Hid ((wr.alloc (.cells #[Value.bool ((y : Int) % 2 == 1)] 4)).ownsRow w.heap.size 4 1 (.slice (some ⟨wr.heap.size, 0, none⟩) 1 1) 1 [Value.bool ((y : Int) % 2 == 1)]) := Lib.hid (World.ownsRow_lit wr #[Value.bool ((y : Int) % 2 == 1)] 1 hsz (by unfold maxLen; omega) rfl)
      have HG : Hid (Below w.heap.size w (wr.alloc (.cells #[Value.bool ((y : Int) % 2 == 1)] 4))) := Lib.hid (HB.out.alloc hsz _)
      rcases hS with ⟨h0, hv⟩ | ⟨h0, g, cap, hv⟩
      · subst hv h0
        go_wp2_with (at_builtin; refine wpList_append_own_none rfl _ _ 26 rfl w.heap.size 4 i0 1 Try.underlying26 hi _ _ _ rfl HL.out rfl ?_)
        go_roundw
        case rel => exact ⟨1, by omega, by go_num, by rw [HN.out]; go_num, .inr ⟨by omega, _, _, rfl⟩, by rw [HC.out]; exact HL.out, HG.out⟩
        case measure => simp [intOf]; omega
      · subst hv
        have HX : Hid (∀ j u, (bb (bitsOf n i))[j]? = some u → (wr.alloc (.cells #[Value.bool ((y : Int) % 2 == 1)] 4)).cell? ((⟨g, 0, none⟩ : Addr).add j) = some u) := Lib.hid fun j u hj => by
          have := HO.out.cells (g := g) rfl j u hj
          rw [World.cell?_alloc_lt _ _ _ (World.block_lt_of_cell? wr _ this)]; exact this
        go_wp2_with (at_builtin; refine wpList_append_own_at _ rfl _ _ 26 rfl w.heap.size 4 i0 (.bool false) 1 1 Try.underlying26 hi hz0 hz1 hz2 rfl (by decide) _ _ _ rfl HL.out ⟨g, 0, none⟩ i cap (bb (bitsOf n i)) rfl (by rw [bb_length, bitsOf_length]; omega) HX.out (bb_one _) (by unfold maxLen; omega) (by omega) (by simp; omega) ?_; intro v' w1 hown' hgrow hne hat)
        have hrow : ∀ k, (Value.slice (some ⟨wr.heap.size, 0, none⟩) 1 1).ownBlock = some k → w.heap.size ≤ k := fun k hk => by
          have : wr.heap.size = k := by simpa [Value.ownBlock] using hk
          omega
        have RB : Hid (Below w.heap.size w w1) := Lib.hid (Below.grown HG.out hgrow (by simp; omega) hrow)
        have RO : Hid (w1.ownsRow w.heap.size 4 1 v' (i + 1) (bb (bitsOf n (i + 1)))) := Lib.hid (by rw [HC.out, Nat.add_comm i 1]; exact hown')
        obtain ⟨g', cap', hv'⟩ : ∃ g' cap', v' = .slice (some ⟨g', 0, none⟩) (i + 1) cap' := by
          rcases RO.out.2 with ⟨_, x⟩ | ⟨g', cap', cur, x, _⟩
          · omega
          · exact ⟨g', cap', x⟩
        subst hv'
        clear hown' hgrow hne hat hrow HX HL HG HO HB
        go_wp2
        go_roundw
        case rel => exact ⟨i + 1, by omega, by go_num, by rw [HN.out]; go_num, .inr ⟨by omega, _, _, rfl⟩, RO.out, RB.out⟩
        case measure => simp [intOf]; omega
    · obtain rfl : i = m := by omega
      go_wp2
      go_ret
      exact ⟨_, rfl, hS, HO.out, HB.out⟩

theorem refBits_int (n m : Nat) (N M : Int) (hn : n < 18446744073709551616) (hm : m ≤ 64) (w : World) (hN : N = n) (hM : M = m) :
    Calls Try.prog 11 #[.int .u64 N, .int .i64 M] w fun e w' => ∃ v, e = .returned v ∧ Shape v m ∧ w'.ownsRow w.heap.size 4 1 v m (bb (bitsOf n m)) ∧ Below w.heap.size w w' := by
  subst hN hM; exact refBits_any n m hn hm w

end Go.Proofs.Ytifcfoipeocmiaa
