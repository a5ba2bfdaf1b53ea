/-
  The writer: numbers and counts are laid.
-/
import Derived.Test.YtifcfoipeocmiaaBitsW1
import Derived.Test.YtifcfoipeocmiaaBitsPlain2
import Derived.Deep.DeepMust
set_option linter.unusedVariables false
namespace Go.Proofs.Ytifcfoipeocmiaa
open Go.RowKit Bp

/-- The method lay of the writer in block b, as a value. -/
def layOf (b : Nat) : Value := .func (.func 23) #[.pointer (some ⟨b, 0, none⟩)] #[]

theorem lay_bit (b : Nat) (y : Int) (x : Bool) (v : Value) (bs : List Bool) (w : World) (h : Wr w b v bs) (hlt : bs.length < 1048576) (hy : y = bn x) :
    Calls Try.prog 23 #[.pointer (some ⟨b, 0, none⟩), .int .u8 y] w fun e w' => e = .returned (.tuple #[]) ∧ ∃ v', Wr w' b v' (bs ++ [x]) ∧ Turn (WF b v) (WF b v') w w' := by
  subst hy; exact lay_any b x v bs w h hlt

/-- What laying bits comes to: the writer in block b holds them behind what it held. -/
def Lays (w : World) (b : Nat) (v : Value) (bs more : List Bool) (w' : World) : Prop := ∃ v', Wr w' b v' (bs ++ more) ∧ Turn (WF b v) (WF b v') w w'
theorem Lays.refl {w : World} {b : Nat} {v : Value} {bs : List Bool} (h : Wr w b v bs) : Lays w b v bs [] w := ⟨v, by simpa using h, Turn.refl _ _⟩

theorem low_bit (n q : Nat) (hn : n < 18446744073709551616) : bits BinOp.and IntKind.u64 ((n : Int) / 2 ^ q) 1 % 256 = (bn (n / 2 ^ q % 2 == 1) : Int) := by
  have e : ((n : Int) / 2 ^ q) = ((n / 2 ^ q : Nat) : Int) := by simp
  have hle : n / 2 ^ q ≤ n := Nat.div_le_self _ _
  have e2 := u64_and_nat (n / 2 ^ q) 1 (by omega) (by omega)
  rw [e, bn_mod]
  have e3 : ((1 : Nat) : Int) = 1 := rfl
  rw [e3] at e2
  rw [e2, Nat.and_one_is_mod]
  omega

set_option maxHeartbeats 400000 in
theorem spread_any (b n many : Nat) (v : Value) (bs : List Bool) (w : World) (h : Wr w b v bs) (hn : n < 18446744073709551616) (hm : many ≤ 64) (hlt : bs.length + many ≤ 1048576) :
    Calls Try.prog 22 #[.int .u64 (n : Int), .int .i64 (many : Int), .func (.func 23) #[.pointer (some ⟨b, 0, none⟩)] #[]] w fun e w' => e = .returned (.tuple #[]) ∧ Lays w b v bs (bitsOf n many) w' := by
  go_enter Try.func22, Try.ntmps22
  go_wp2
  go_loopw [6] (fun i wr => ∃ k : Nat, k ≤ many ∧ i = .int .i64 ((many : Int) - 1 - (k : Int)) ∧ Lays w b v bs (bitsOf (n / 2 ^ (many - k)) k) wr) (fun i _ => (intOf i + 1).toNat)
  case atStart => exact ⟨0, Nat.zero_le _, by simp, Lays.refl h⟩
  case round =>
    obtain ⟨k, hk, rfl, v1, hw1, ht1⟩ := hrel
    have hl1 : (bs ++ bitsOf (n / 2 ^ (many - k)) k).length = bs.length + k := by simp [bitsOf_length]
    have HL := Lib.hid hl1
    clear hl1
    by_cases hlt' : k < many
    · have hy := low_bit n (many - 1 - k) hn
      have HY := Lib.hid hy
      clear hy
      go_wp2_with fail
      refine (lay_bit b _ (n / 2 ^ (many - 1 - k) % 2 == 1) v1 _ wr hw1 (by rw [HL.out]; omega) HY.out).mono ?_
      rintro e w' ⟨rfl, v2, hw2, ht2⟩
      have R : Lays w b v bs (bitsOf (n / 2 ^ (many - (k + 1))) (k + 1)) w' := by
        refine ⟨v2, ?_, ht1.trans ht2⟩
        rw [bitsOf_next n many k hlt', ← List.append_assoc]
        exact hw2
      clear hw1 ht1 hw2 ht2 HY HL
      go_wp2
      go_roundw
      case rel => exact ⟨k + 1, by omega, by go_num, R⟩
      case measure => simp [intOf]; omega
    · have hkm : k = many := by omega
      subst hkm
      go_wp2
      go_end0
      refine ⟨rfl, v1, ?_, ht1⟩
      simpa using hw1

end Go.Proofs.Ytifcfoipeocmiaa
