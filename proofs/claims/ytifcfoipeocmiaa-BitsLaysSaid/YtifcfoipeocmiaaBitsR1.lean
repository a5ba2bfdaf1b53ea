/-
  The reader: what it holds, and its small steps.
-/
import Derived.Test.YtifcfoipeocmiaaBitsW6
import Derived.Deep.QuietTactic
import Derived.BigQuiet
set_option linter.unusedVariables false
namespace Go.Proofs.Ytifcfoipeocmiaa
open Go.RowKit Bp

/-- A bit of bytes. -/
def rbit (zs : List Nat) (k : Nat) : Nat := zs.getD (k / 8) 0 / pw (k % 8) % 2
theorem rbit_le (zs : List Nat) (k : Nat) : rbit zs k ≤ 1 := by unfold rbit; omega

/-- A reader lies in block b, its bytes zs at v, stands at bit p, its fault is f; all of it lies from block B on. -/
structure Rd (B : Nat) (w : World) (b : Nat) (v : Value) (zs : List Nat) (p : Nat) (f : Int) : Prop where
  box : w.heap[b]? = some (.cells #[v, .int .i64 (p : Int), .int .i64 f] 54 (0, 0))
  row : w.ownsRow B 5 1 v zs.length (bc zs)
  ne : v.ownBlock ≠ some b
  base : B ≤ b
  at_le : p ≤ 8 * zs.length
  few : zs.length ≤ 1048576
  byte : ∀ z ∈ zs, z ≤ 255
/-- The reader's blocks. -/
def RF (b : Nat) (v : Value) : Nat → Prop := fun k => k = b ∨ v.ownBlock = some k

theorem Rd.frame {B : Nat} {w w' : World} {b : Nat} {v : Value} {zs : List Nat} {p : Nat} {f : Int} (h : Rd B w b v zs p f) (hk : ∀ k, RF b v k → w'.heap[k]? = w.heap[k]?) : Rd B w' b v zs p f :=
  ⟨(hk b (.inl rfl)).trans h.box, ownsRow_same h.row (fun k e => hk k (.inr e)), h.ne, h.base, h.at_le, h.few, h.byte⟩
theorem Rd.lt {B : Nat} {w : World} {b : Nat} {v : Value} {zs : List Nat} {p : Nat} {f : Int} (h : Rd B w b v zs p f) {k : Nat} (hk : RF b v k) : B ≤ k ∧ k < w.heap.size := by
  rcases hk with rfl | hk
  · exact ⟨h.base, lt_of_heap h.box⟩
  · exact h.row.lt k hk
theorem Rd.drew {B : Nat} {w : World} {b : Nat} {v : Value} {zs : List Nat} {p : Nat} {f : Int} (h : Rd B w b v zs p f) : Rd B w.drew b v zs p f := h.frame fun _ _ => rfl
theorem Rd.cells {B : Nat} {w : World} {b : Nat} {v : Value} {zs : List Nat} {p : Nat} {f : Int} (h : Rd B w b v zs p f) :
    w.cell? ⟨b, 0, none⟩ = some v ∧ w.cell? ⟨b, 1, none⟩ = some (.int .i64 (p : Int)) ∧ w.cell? ⟨b, 2, none⟩ = some (.int .i64 f) ∧ w.frozen? ⟨b, 1, none⟩ = false ∧ w.frozen? ⟨b, 2, none⟩ = false :=
  ⟨by rw [cell_of_row w b 0 _ _ _ h.box]; rfl, by rw [cell_of_row w b 1 _ _ _ h.box]; rfl, by rw [cell_of_row w b 2 _ _ _ h.box]; rfl, frozen_of_row w b 1 _ _ h.box, frozen_of_row w b 2 _ _ h.box⟩
/-- The reader goes on: the place is stored anew. -/
theorem Rd.move {B : Nat} {w : World} {b : Nat} {v : Value} {zs : List Nat} {p : Nat} {f : Int} (h : Rd B w b v zs p f) (q : Nat) (hq : q ≤ 8 * zs.length) : Rd B (w.setCell ⟨b, 1, none⟩ (.int .i64 (q : Int))) b v zs q f := by
  refine ⟨?_, ownsRow_same h.row (fun k e => Below.heap_setCell _ _ _ _ (fun x => h.ne (by rw [e, x]))), h.ne, h.base, hq, h.few, h.byte⟩
  rw [heap_setCell_same w b 1 _ _ _ h.box]; simp
theorem Rd.faulty {B : Nat} {w : World} {b : Nat} {v : Value} {zs : List Nat} {p : Nat} {f : Int} (h : Rd B w b v zs p f) (g : Int) : Rd B (w.setCell ⟨b, 2, none⟩ (.int .i64 g)) b v zs p g := by
  refine ⟨?_, ownsRow_same h.row (fun k e => Below.heap_setCell _ _ _ _ (fun x => h.ne (by rw [e, x]))), h.ne, h.base, h.at_le, h.few, h.byte⟩
  rw [heap_setCell_same w b 2 _ _ _ h.box]; simp

theorem bit_and (z q : Nat) (hz : z ≤ 255) : bits BinOp.and IntKind.u8 ((z : Int) / 2 ^ q) 1 = ((z / 2 ^ q % 2 : Nat) : Int) := by
  have e : ((z : Int) / 2 ^ q) = ((z / 2 ^ q : Nat) : Int) := by simp
  have hle : z / 2 ^ q ≤ z := Nat.div_le_self _ _
  have e2 := u8_and_nat (z / 2 ^ q) 1 (by omega) (by omega)
  have e3 : ((1 : Nat) : Int) = 1 := rfl
  rw [e3] at e2
  rw [e, e2, Nat.and_one_is_mod]

theorem bit_core (b g n cap k z : Nat) (w : World) (c0 : w.cell? ⟨b, 0, none⟩ = some (.slice (some ⟨g, 0, none⟩) n cap)) (c1 : w.cell? ⟨g, k / 8, none⟩ = some (.int .u8 (z : Int))) (hz : z ≤ 255) (hk : k / 8 < n) (hn : n ≤ 1048576) :
    Calls Try.prog 29 #[.pointer (some ⟨b, 0, none⟩), .int .i64 (k : Int)] w fun e w' => e = .returned (.int .u8 ((z / 2 ^ (7 - k % 8) % 2 : Nat) : Int)) ∧ w = w' := by
  have q0 : ((k : Int) / 8).toNat = k / 8 := by omega
  have q1 : (0 : Int) ≤ (k : Int) / 8 := by omega
  have q2 : (k : Int) / 8 < (n : Int) := by omega
  have q3 : (0 : Int) ≤ (k : Int) % 8 := by omega
  have q4 : (k : Int) % 8 ≤ 7 := by omega
  go_enter Try.func29, Try.ntmps29
  go_wp2
  go_ret
  refine ⟨?_, rfl⟩
  rw [bit_and z (7 - k % 8) hz]
  rfl

theorem rbit_any (B b : Nat) (v : Value) (zs : List Nat) (p k : Nat) (f : Int) (w : World) (h : Rd B w b v zs p f) (hk : k < 8 * zs.length) :
    Calls Try.prog 29 #[.pointer (some ⟨b, 0, none⟩), .int .i64 (k : Int)] w fun e w' => e = .returned (.int .u8 (rbit zs k : Int)) ∧ w = w' := by
  rcases h.row.2 with ⟨_, hz⟩ | ⟨g, cap, cur, rfl, hg, hh, hnc, hcm, hcs, htake⟩
  · omega
  · have c1 : w.cell? ⟨g, k / 8, none⟩ = some (.int .u8 ((zs.getD (k / 8) 0 : Nat) : Int)) := by
      rw [h.row.cellAt _ (by omega)]
      simp [bc, List.getD, List.getElem?_eq_getElem (show k / 8 < zs.length by omega)]
    have hz : zs.getD (k / 8) 0 ≤ 255 := by
      rw [List.getD, List.getElem?_eq_getElem (show k / 8 < zs.length by omega)]
      exact h.byte _ (List.getElem_mem _)
    exact bit_core b g zs.length cap k _ w h.cells.1 c1 hz (by omega) h.few

theorem left_core (b n cap : Nat) (a : Option Addr) (p : Int) (w : World) (c0 : w.cell? ⟨b, 0, none⟩ = some (.slice a n cap)) (c1 : w.cell? ⟨b, 1, none⟩ = some (.int .i64 p)) (hn : n ≤ 1048576) (h0 : 0 ≤ p) (h1 : p ≤ 8 * n) :
    Calls Try.prog 19 #[.pointer (some ⟨b, 0, none⟩)] w fun e w' => e = .returned (.int .i64 ((n : Int) * 8 - p)) ∧ w.drew = w' := by
  go_enter Try.func19, Try.ntmps19
  go_wp2
  go_region
  go_wp2
  go_ret
  exact ⟨rfl, rfl⟩

theorem fail_core (b : Nat) (g : Int) (f : Int) (w : World) (c2 : w.cell? ⟨b, 2, none⟩ = some (.int .i64 f)) (f2 : w.frozen? ⟨b, 2, none⟩ = false) :
    Calls Try.prog 27 #[.pointer (some ⟨b, 0, none⟩), .int .i64 g] w fun e w' => e = .returned (.int .u64 0) ∧ w.setCell ⟨b, 2, none⟩ (.int .i64 g) = w' := by
  go_enter Try.func27, Try.ntmps27
  go_wp2
  go_ret
  exact ⟨rfl, rfl⟩

end Go.Proofs.Ytifcfoipeocmiaa
