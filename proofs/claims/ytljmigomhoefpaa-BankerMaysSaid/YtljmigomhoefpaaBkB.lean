/-
  Layer 8: the program's sets of zones.
-/
import Derived.Test.YtljmigomhoefpaaBkA
set_option linter.unusedVariables false
set_option maxRecDepth 100000
namespace Go.Proofs.Ytljmigomhoefpaa.Bk
open Go.RowKit

/-- A truth is told, and nothing is touched. -/
def ToldE (P : Prop) (w : World) (e : Ending) (w' : World) : Prop := ∃ b : Bool, e = .returned (.bool b) ∧ (b = true ↔ P) ∧ w = w'
theorem isZone_any (z : Int) (w : World) : Calls Try.prog 27 #[.int .i64 z] w (ToldE (Zn z) w) := by
  by_cases h1 : 0 ≤ z
  · by_cases h2 : z < 26
    · have d1 : decide (0 ≤ z) = true := decide_eq_true h1
      have d2 : decide (z < 26) = true := decide_eq_true h2
      have HZ : Hid (Zn z) := Lib.hid ⟨h1, h2⟩
      go_enter Try.func27, Try.ntmps27
      go_wp2
      go_ret
      exact ⟨true, rfl, iff_of_true rfl HZ.out, rfl⟩
    · have d1 : decide (0 ≤ z) = true := decide_eq_true h1
      have d2 : decide (z < 26) = false := decide_eq_false h2
      have HZ : Hid (¬ Zn z) := Lib.hid (fun h => h2 h.2)
      go_enter Try.func27, Try.ntmps27
      go_wp2
      go_ret
      exact ⟨false, rfl, iff_of_false (by decide) HZ.out, rfl⟩
  · have d1 : decide (0 ≤ z) = false := decide_eq_false h1
    have HZ : Hid (¬ Zn z) := Lib.hid (fun h => h1 h.1)
    go_enter Try.func27, Try.ntmps27
    go_wp2
    go_ret
    exact ⟨false, rfl, iff_of_false (by decide) HZ.out, rfl⟩
theorem and_u32 (a b : Nat) (ha : a < 4294967296) (hb : b < 4294967296) : bits .and .u32 (a : Int) (b : Int) = ((a &&& b : Nat) : Int) := by
  have hx : a &&& b < 2 ^ 32 := Nat.and_lt_two_pow _ (by omega)
  have h1 : (BitVec.ofInt 32 (a : Int)).toNat = a := by
    rw [BitVec.ofInt_natCast, BitVec.toNat_ofNat]; exact Nat.mod_eq_of_lt (by omega)
  have h2 : (BitVec.ofInt 32 (b : Int)).toNat = b := by
    rw [BitVec.ofInt_natCast, BitVec.toNat_ofNat]; exact Nat.mod_eq_of_lt (by omega)
  show IntKind.u32.wrap ((BitVec.ofInt 32 (a : Int) &&& BitVec.ofInt 32 (b : Int)).toNat : Int) = _
  rw [BitVec.toNat_and, h1, h2, IntKind.wrap_u32]
  omega
theorem or_u32 (a b : Nat) (ha : a < 4294967296) (hb : b < 4294967296) : bits .or .u32 (a : Int) (b : Int) = ((a ||| b : Nat) : Int) := by
  have hx : a ||| b < 2 ^ 32 := Nat.or_lt_two_pow (by omega) (by omega)
  have h1 : (BitVec.ofInt 32 (a : Int)).toNat = a := by
    rw [BitVec.ofInt_natCast, BitVec.toNat_ofNat]; exact Nat.mod_eq_of_lt (by omega)
  have h2 : (BitVec.ofInt 32 (b : Int)).toNat = b := by
    rw [BitVec.ofInt_natCast, BitVec.toNat_ofNat]; exact Nat.mod_eq_of_lt (by omega)
  show IntKind.u32.wrap ((BitVec.ofInt 32 (a : Int) ||| BitVec.ofInt 32 (b : Int)).toNat : Int) = _
  rw [BitVec.toNat_or, h1, h2, IntKind.wrap_u32]
  omega
theorem has_bit (N z : Nat) (hN : N < 67108864) : (bits BinOp.and IntKind.u32 ((N : Int) / 2 ^ z) 1 == 1) = N.testBit z := by
  have h2 : N / 2 ^ z ≤ N := Nat.div_le_self _ _
  have e : ((N : Int) / 2 ^ z) = ((N / 2 ^ z : Nat) : Int) := by simp
  rw [e, show (1 : Int) = ((1 : Nat) : Int) from rfl, and_u32 _ _ (by omega) (by omega), Nat.and_one_is_mod, Nat.testBit_eq_decide_div_mod_eq]
  generalize N / 2 ^ z % 2 = x
  by_cases h : x = 1
  · subst h; rfl
  · rw [decide_eq_false h, beq_eq_false_iff_ne]; omega
theorem has_any (N z : Nat) (hN : N < 67108864) (hz : z < 26) (w : World) : Calls Try.prog 31 #[.int .u32 (N : Int), .int .i64 (z : Int)] w fun e w' => e = .returned (.bool (N.testBit z)) ∧ w = w' := by
  have HB := Lib.hid (has_bit N z hN)
  go_enter Try.func31, Try.ntmps31
  go_wp2
  go_ret
  exact ⟨ret_bool HB.out, rfl⟩

/-- The set of a list's zones. -/
structure SetIs (N : Nat) (L : List Int) : Prop where
  lt : N < 67108864
  bit : ∀ z : Nat, z < 26 → (N.testBit z = true ↔ (z : Int) ∈ L)
theorem bit_lt {z : Nat} (hz : z < 26) : 2 ^ z < 67108864 := Nat.lt_of_le_of_lt (Nat.pow_le_pow_right (by decide) (by omega : z ≤ 25)) (by decide)
theorem SetIs.nil : SetIs 0 [] := ⟨by decide, fun z hz => by simp⟩
theorem SetIs.snoc {N : Nat} {L : List Int} (h : SetIs N L) {z : Nat} (hz : z < 26) : SetIs (N ||| 2 ^ z) (L ++ [(z : Int)]) := by
  refine ⟨Nat.or_lt_two_pow (n := 26) h.lt (bit_lt hz), fun y hy => ?_⟩
  rw [Nat.testBit_or, Bool.or_eq_true, h.bit y hy, Nat.testBit_two_pow, List.mem_append, List.mem_singleton, decide_eq_true_iff]
  constructor
  · rintro (h | h); exact .inl h; exact .inr (by omega)
  · rintro (h | h); exact .inl h; exact .inr (by omega)
theorem or_set (N z : Nat) (hN : N < 67108864) (hz : z < 26) : bits BinOp.or IntKind.u32 (N : Int) ((2 : Int) ^ z % 4294967296) = ((N ||| 2 ^ z : Nat) : Int) := by
  have := bit_lt hz
  have e : ((2 : Int) ^ z % 4294967296) = ((2 ^ z : Nat) : Int) := by
    have e1 : ((2 : Int) ^ z) = ((2 ^ z : Nat) : Int) := by simp
    rw [e1]; generalize 2 ^ z = p at this ⊢; omega
  rw [e]
  exact or_u32 _ _ (by omega) (by omega)
/-- The set of a list is told, and whether all are zones. -/
def SetTold (L : List Int) (w : World) (e : Ending) (w' : World) : Prop :=
  w = w' ∧ ((e = .returned (.tuple #[.int .u32 0, .bool false]) ∧ ¬ ∀ z ∈ L, Zn z) ∨ ∃ N : Nat, e = .returned (.tuple #[.int .u32 (N : Int), .bool true]) ∧ SetIs N L ∧ ∀ z ∈ L, Zn z)
theorem take_succ_getD {L : List Int} {j : Nat} (h : j < L.length) : L.take (j + 1) = L.take j ++ [L.getD j 0] := by
  rw [List.take_succ_eq_append_getElem h, List.getD, List.getElem?_eq_getElem h]; rfl
set_option maxHeartbeats 1000000 in
theorem setOf_any (A : Option Addr) (n cap B : Nat) (L : List Int) (w : World) (h : Lt B w A n cap L) : Calls Try.prog 29 #[.slice A n cap] w (SetTold L w) := by
  have HL := Lib.hid h
  have hs := Gt.size h
  have hs1 := hs.1
  have hs2 := hs.2
  have HN := Lib.hid h.len
  clear h hs
  go_enter Try.func29, Try.ntmps29
  go_wp2_with fail
  go_loop [9, 4] (fun iv sv => ∃ j N : Nat, j ≤ n ∧ iv = .int .i64 (j : Int) ∧ sv = .int .u32 (N : Int) ∧ N < 67108864 ∧ Hid (SetIs N (L.take j) ∧ ∀ z ∈ L.take j, Zn z)) (fun iv _ => n - (intOf iv).toNat)
  case atStart => exact ⟨0, 0, Nat.zero_le _, rfl, rfl, by decide, Lib.hid ⟨by simpa using SetIs.nil, by simp⟩⟩
  case round =>
    obtain ⟨j, N, hj, rfl, rfl, hN, HI⟩ := hrel
    by_cases hlt : j < n
    · obtain ⟨g, off, rfl, hg, hc⟩ := HL.out.cell hlt
      have HE := Lib.hid (take_succ_getD (L := L) (j := j) (by rw [HN.out]; exact hlt))
      have HM : Hid (L.getD j 0 ∈ L) := Lib.hid (by
        have : j < L.length := by rw [HN.out]; exact hlt
        rw [List.getD, List.getElem?_eq_getElem this]; exact List.getElem_mem _)
      generalize L.getD j 0 = z at *
      by_cases hz : Zn z
      · have HZ := Lib.hid hz
        obtain ⟨y, rfl⟩ := Int.eq_ofNat_of_zero_le hz.1
        have hy : y < 26 := by have := hz.2; omega
        have HS := Lib.hid (HI.out.1.snoc hy)
        have hor := or_set N y hN hy
        have hlt2 := HS.out.lt
        have HOR := Lib.hid hlt2
        clear hz hlt2
        go_wp2_with (go_at_call 27; refine (isZone_any _ _).mono ?_; rintro e w' ⟨b, rfl, hb, rfl⟩; obtain rfl : b = true := hb.2 HZ.out; clear hb)
        go_round
        case rel => exact ⟨j + 1, N ||| 2 ^ y, by omega, by go_num, rfl, HOR.out, Lib.hid ⟨by rw [HE.out]; exact HS.out, by rw [HE.out]; intro z hz; rcases List.mem_append.1 hz with h | h; exact HI.out.2 z h; rw [List.mem_singleton.1 h]; exact HZ.out⟩⟩
        case measure => simp [intOf]; omega
      · have HZ := Lib.hid hz
        clear hz
        go_wp2_with (go_at_call 27; refine (isZone_any _ _).mono ?_; rintro e w' ⟨b, rfl, hb, rfl⟩; obtain rfl : b = false := Bool.eq_false_iff.2 (fun e => HZ.out (hb.1 e)); clear hb)
        go_ret2
        exact ⟨rfl, .inl ⟨rfl, fun h => HZ.out (h z HM.out)⟩⟩
    · obtain rfl : j = n := by omega
      go_wp2_with fail
      go_ret2
      refine ⟨rfl, .inr ⟨N, rfl, ?_, ?_⟩⟩
      · have := HI.out.1; rwa [List.take_of_length_le (by rw [HN.out]; exact Nat.le_refl _)] at this
      · have := HI.out.2; rwa [List.take_of_length_le (by rw [HN.out]; exact Nat.le_refl _)] at this
end Go.Proofs.Ytljmigomhoefpaa.Bk
