/-
  The reader: how many bits 0 stand ahead, and how a number is taken.
-/
import Derived.Test.YtifcfoipeocmiaaBitsR1
set_option linter.unusedVariables false
namespace Go.Proofs.Ytifcfoipeocmiaa
open Go.RowKit Bp

theorem rleft_any (B b : Nat) (v : Value) (zs : List Nat) (p : Nat) (f : Int) (w : World) (h : Rd B w b v zs p f) :
    Calls Try.prog 19 #[.pointer (some ⟨b, 0, none⟩)] w fun e w' => e = .returned (.int .i64 ((zs.length : Int) * 8 - (p : Int))) ∧ w.drew = w' := by
  obtain ⟨a, cap, rfl⟩ := ownsRow_shape h.row
  exact left_core b zs.length cap a p w h.cells.1 h.cells.2.1 h.few (by omega) (by have := h.at_le; omega)

/-- n bits 0 stand from place p on, and that is all that is looked at. -/
structure Zs (zs : List Nat) (p n : Nat) : Prop where
  few : n ≤ 64
  inn : p + n ≤ 8 * zs.length
  zero : ∀ j, j < n → rbit zs (p + j) = 0
  stop : n = 64 ∨ p + n = 8 * zs.length ∨ rbit zs (p + n) = 1

/-- The world has drawn so often, and is as it was. -/
def Drawn (w w' : World) : Prop := ∃ q, w' = w.drewN q

theorem rbit_val (B b : Nat) (v : Value) (zs : List Nat) (p k : Nat) (K X : Int) (f : Int) (w : World) (h : Rd B w b v zs p f) (hk : k < 8 * zs.length) (hK : K = k) (hX : (rbit zs k : Int) = X) :
    Calls Try.prog 29 #[.pointer (some ⟨b, 0, none⟩), .int .i64 K] w fun e w' => e = .returned (.int .u8 X) ∧ w = w' := by
  subst hK hX; exact rbit_any B b v zs p k f w h hk

set_option maxHeartbeats 400000 in
theorem rzeros_any (B b : Nat) (v : Value) (zs : List Nat) (p : Nat) (f : Int) (w : World) (h : Rd B w b v zs p f) :
    Calls Try.prog 26 #[.pointer (some ⟨b, 0, none⟩)] w fun e w' => ∃ n : Nat, e = .returned (.int .i64 (n : Int)) ∧ Zs zs p n ∧ Rd B w' b v zs p f ∧ Below w.heap.size w w' := by
  have hle := h.at_le
  have hfew := h.few
  go_enter Try.func26, Try.ntmps26
  go_wp2
  go_loopw [3] (fun i wr => ∃ k : Nat, k ≤ 64 ∧ p + k ≤ 8 * zs.length ∧ i = .int .i64 (k : Int) ∧ (∀ j, j < k → rbit zs (p + j) = 0) ∧ Rd B wr b v zs p f ∧ Below w.heap.size w wr) (fun i _ => 64 - (intOf i).toNat)
  case atStart => exact ⟨0, by omega, by omega, rfl, fun j hj => by omega, h, Below.refl _ _⟩
  case round =>
    obtain ⟨k, hk, hin, rfl, hz, hR, hB⟩ := hrel
    have HZ := Lib.hid hz
    have HR := Lib.hid hR
    have HB := Lib.hid hB
    have c1 := hR.cells.2.1
    clear hz hR hB h
    by_cases h63 : k ≤ 63
    · have t1 : decide ((k : Int) ≤ 63) = true := by simp; omega
      go_wp2_with fail
      refine (rleft_any B b v zs p f _ HR.out).mono ?_
      rintro e w1 ⟨rfl, rfl⟩
      by_cases hend : p + k < 8 * zs.length
      · have t2 : decide ((k : Int) < (zs.length : Int) * 8 - (p : Int)) = true := by simp; omega
        go_wp2_with fail
        by_cases hb : rbit zs (p + k) = 0
        · refine (rbit_val B b v zs p (p + k) ((p : Int) + (k : Int)) 0 f _ HR.out.drew (by omega) (by simp) (by rw [hb]; rfl)).mono ?_
          rintro e w2 ⟨rfl, rfl⟩
          have HZ2 : Hid (∀ j, j < k + 1 → rbit zs (p + j) = 0) := Lib.hid fun j hj => by
            rcases Nat.lt_or_ge j k with x | x
            · exact HZ.out j x
            · obtain rfl : j = k := by omega
              exact hb
          clear hb HZ
          go_wp2
          go_roundw
          case rel => exact ⟨k + 1, by omega, by omega, by go_num, HZ2.out, HR.out.drew, HB.out.drew⟩
          case measure => simp [intOf]; omega
        · have hb1 : rbit zs (p + k) = 1 := by have := rbit_le zs (p + k); omega
          have HB1 := Lib.hid hb1
          refine (rbit_val B b v zs p (p + k) ((p : Int) + (k : Int)) 1 f _ HR.out.drew (by omega) (by simp) (by rw [hb1]; rfl)).mono ?_
          rintro e w2 ⟨rfl, rfl⟩
          clear hb hb1
          go_wp2
          go_ret
          exact ⟨k, rfl, ⟨hk, hin, HZ.out, .inr (.inr HB1.out)⟩, HR.out.drew, HB.out.drew⟩
      · have t2 : decide ((k : Int) < (zs.length : Int) * 8 - (p : Int)) = false := by simp; omega
        go_wp2
        go_ret
        exact ⟨k, rfl, ⟨hk, hin, HZ.out, .inr (.inl (by omega))⟩, HR.out.drew, HB.out.drew⟩
    · have t1 : decide ((k : Int) ≤ 63) = false := by simp; omega
      go_wp2
      go_ret
      exact ⟨k, rfl, ⟨hk, hin, HZ.out, .inl (by omega)⟩, HR.out, HB.out⟩

/-- The number that the next m bits are. -/
def tk (zs : List Nat) (p : Nat) : Nat → Nat
  | 0 => 0
  | m + 1 => 2 * tk zs p m + rbit zs (p + m)
theorem tk_lt (zs : List Nat) (p m : Nat) : tk zs p m < 2 ^ m := by
  induction m with
  | zero => simp [tk]
  | succ m ih => have := rbit_le zs (p + m); rw [tk, Nat.pow_succ]; omega

theorem take_or (n x : Nat) (h : n < 9223372036854775808) (hx : x ≤ 1) : bits BinOp.or IntKind.u64 (IntKind.u64.wrap ((n : Int) * 2)) (x : Int) = ((2 * n + x : Nat) : Int) := by
  rw [IntWalk.u64_in ((n : Int) * 2) (by omega)]
  have e : ((n : Int) * 2) = ((2 * n : Nat) : Int) := by simp; omega
  rw [e, u64_or_nat (2 * n) x (by omega) (by omega)]
  have := Nat.two_pow_add_eq_or_of_lt (i := 1) (b := x) (by omega) n
  simp at this
  rw [this]

set_option maxHeartbeats 400000 in
theorem rtake_any (B b : Nat) (v : Value) (zs : List Nat) (p m : Nat) (f : Int) (w : World) (h : Rd B w b v zs p f) (hm : m ≤ 64) (hin : p + m ≤ 8 * zs.length) :
    Calls Try.prog 28 #[.pointer (some ⟨b, 0, none⟩), .int .i64 (m : Int)] w fun e w' => e = .returned (.int .u64 (tk zs p m : Int)) ∧ Rd B w' b v zs (p + m) f ∧ Turn (RF b v) (RF b v) w w' := by
  have hle := h.at_le
  have hfew := h.few
  go_enter Try.func28, Try.ntmps28
  go_wp2
  go_loopw [5, 7] (fun n i wr => ∃ k : Nat, k ≤ m ∧ i = .int .i64 (k : Int) ∧ n = .int .u64 (tk zs p k : Int) ∧ Rd B wr b v zs (p + k) f ∧ Turn (RF b v) (RF b v) w wr) (fun _ i _ => m - (intOf i).toNat)
  case atStart => exact ⟨0, by omega, rfl, rfl, h, Turn.refl _ _⟩
  case round =>
    obtain ⟨k, hk, rfl, rfl, hR, hT⟩ := hrel
    have HR := Lib.hid hR
    have HT := Lib.hid hT
    have c1 := hR.cells.2.1
    have f1 := hR.cells.2.2.2.1
    have htk := tk_lt zs p k
    clear hR hT h
    by_cases hlt : k < m
    · have hp : tk zs p k < 9223372036854775808 := by
        have : (2 : Nat) ^ k ≤ 2 ^ 63 := Nat.pow_le_pow_right (by decide) (by omega)
        have e : (2 : Nat) ^ 63 = 9223372036854775808 := by decide
        omega
      have HP := Lib.hid hp
      have HN : Hid (tk zs p (k + 1) = 2 * tk zs p k + rbit zs (p + k)) := Lib.hid rfl
      clear hp htk
      generalize tk zs p k = n at *
      go_wp2_with fail
      refine (rbit_val B b v zs (p + k) (p + k) _ (rbit zs (p + k) : Int) f _ HR.out (by omega) rfl rfl).mono ?_
      rintro e w2 ⟨rfl, rfl⟩
      have hx := rbit_le zs (p + k)
      have HO := Lib.hid (take_or n (rbit zs (p + k)) HP.out hx)
      generalize rbit zs (p + k) = x at *
      have hcast : ((p + (k + 1) : Nat) : Int) = (p : Int) + (k : Int) + 1 := by omega
      have hmv := HR.out.move (p + (k + 1)) (by omega)
      rw [hcast] at hmv
      have HM := Lib.hid hmv
      clear hcast hmv
      go_wp2
      go_roundw
      case rel => exact ⟨k + 1, by omega, by go_num, by rw [HN.out, HO.out], HM.out, HT.out.put _ (.inl rfl)⟩
      case measure => simp [intOf]; omega
    · obtain rfl : k = m := by omega
      go_wp2
      go_ret
      exact ⟨rfl, HR.out, HT.out⟩

end Go.Proofs.Ytifcfoipeocmiaa
