/-
  Library functions: the index of a byte, a suffix trimmed, a text split at a byte 10.
-/
import Derived.Test.YtokjnmgbgflgnaaGreatDoorFlLay
import Derived.Test.YtokjnmgbgflgnaaGreatDoorFlB
set_option linter.unusedVariables false
set_option maxRecDepth 100000
namespace Go.Proofs.YtokjnmgbgflgnaaGreatDoor
open Go.RowKit Fl Go.Shelf

theorem indexByte_any (s : ByteArray) (c : Int) (w : World) :
    Calls Tryz.prog 45 #[.string s, .int .u8 c] w fun e w' => e = .returned (.int .i64 (Lib.indexByte s.data.toList c.toNat.toUInt8)) ∧ w = w' :=
  (Any.strings_IndexByte Tryz.lays137 s c w).mono fun e w' ⟨h1, h2⟩ => ⟨h1, h2.symm⟩
def nl : ByteArray := ⟨#[10]⟩
theorem trim_any (s : ByteArray) (w : World) (hs : s.size ≤ 9223372036854775807) :
    Calls Tryz.prog 65 #[.string s, .string nl] w fun e w' => e = .returned (.string ⟨(Lib.trimSuffix s.data.toList [10]).toArray⟩) ∧ w = w' :=
  (Any.strings_TrimSuffix Tryz.lays102 s nl w hs).mono fun e w' ⟨h1, h2⟩ => ⟨h1, h2.symm⟩

theorem index_one (c : UInt8) : ∀ s : List UInt8, Lib.index s [c] = Lib.indexByte s c
  | [] => rfl
  | b :: l => by
    rw [Lib.index, Lib.indexByte, index_one c l]
    have e : [c].isPrefixOf (b :: l) = (b == c) := by
      simp only [List.isPrefixOf, Bool.and_true]
      rw [Bool.eq_iff_iff, beq_iff_eq, beq_iff_eq]
      exact ⟨Eq.symm, Eq.symm⟩
    rw [e]
/-- How many pieces a split into at most n of a text has room for. -/
def room (n : Nat) (s : ByteArray) : Nat := min n (s.size + 1)
def pieces (n : Nat) (s : ByteArray) : List ByteArray := Lib.splitB nl 0 (room n s - 1) s
theorem genSplit_any (s : ByteArray) (n : Nat) (hn : 1 ≤ n) (hn2 : n ≤ 1000) (w : World) (hs : s.size < 4294967281) :
    Calls Tryz.prog 94 #[.string s, .string nl, .int .i64 0, .int .i64 (n : Int)] w fun e w' =>
      e = .returned (.slice (some ⟨w.heap.size, 0, none⟩) (pieces n s).length (room n s)) ∧ w' = w.alloc (.cells (Lib.cellsOf (pieces n s) (room n s)) 9) :=
  Any.strings_genSplit_core Tryz.lays221 (by kernel_rfl) s nl 0 (n : Int) (room n s) w hs (by decide) (by decide)
    (fun x c hx => by
      refine (Any.strings_Index_one { Tryz.lays221 with } x 10 _).mono fun e w' ⟨h1, h2⟩ => ⟨?_, h2⟩
      rw [h1]
      show _ = Ending.returned (Value.int .i64 (Lib.index x.data.toList [10]))
      rw [index_one])
    (by
      refine (Any.strings_Count_one { Tryz.lays221 with } s 10 w).mono fun e w' ⟨h1, h2⟩ => ⟨?_, h2⟩
      rw [h1]
      show _ = Ending.returned (Value.int .i64 ((Lib.count s.data.toList [10] : Nat) : Int))
      rw [Lib.count_one]
      rfl)
    (by omega) (by omega) (by unfold room; rw [if_neg (by omega)]; omega)
theorem splitN_any (s : ByteArray) (w : World) (hs : s.size < 4294967281) :
    Calls Tryz.prog 64 #[.string s, .string nl, .int .i64 17] w fun e w' =>
      e = .returned (.slice (some ⟨w.heap.size, 0, none⟩) (pieces 17 s).length (room 17 s)) ∧ w' = w.alloc (.cells (Lib.cellsOf (pieces 17 s) (room 17 s)) 9) := by
  have HG := Lib.hid (genSplit_any s 17 (by omega) (by omega) w hs)
  generalize nl = sep at *
  go_enter Tryz.func64, Tryz.ntmps64
  go_wp2_with fail
  refine HG.out.mono ?_
  rintro e w1 ⟨rfl, h1⟩
  have H1 := Lib.hid h1
  clear h1
  go_wp2_with fail
  go_ret
  exact ⟨rfl, H1.out⟩

end Go.Proofs.YtokjnmgbgflgnaaGreatDoor
