/-
  Layer 14: the sender.
-/
import Derived.Test.YtobpinelhjpfgaaDoorLnD
import Derived.Test.YtobpinelhjpfgaaDoorCkThr
import Derived.OwnWalk
set_option linter.unusedVariables false
set_option maxRecDepth 100000
namespace Go.Proofs.YtobpinelhjpfgaaDoor
namespace Ln
open Go.RowKit Bp Ck
/-- A sender lies in block s, its packet's bytes at v. -/
structure SAt (w : World) (s : Nat) (v : Value) (told : Nat) (pk : List Nat) : Prop where
  box : w.heap[s]? = some (.cells #[.int .u64 (told : Int), v] 102 (0, 0))
  row : w.ownsRow 0 5 1 v pk.length (bc pk)
  ne : v.ownBlock ≠ some s
  num : told < 18446744073709551616
  good : pk ≠ [] → told + 2 < 18446744073709551616
  byte : ∀ z ∈ pk, z ≤ 255
  few : pk.length ≤ 300
def SF (s : Nat) (v : Value) : Nat → Prop := fun k => k = s ∨ v.ownBlock = some k
/-- Just that block is written. -/
def One (s : Nat) : Nat → Prop := fun k => k = s
section
variable {w w' : World} {s told : Nat} {v : Value} {pk : List Nat}
theorem SAt.same (h : SAt w s v told pk) (hk : ∀ k, SF s v k → w'.heap[k]? = w.heap[k]?) : SAt w' s v told pk :=
  ⟨(hk s (.inl rfl)).trans h.box, ownsRow_same h.row (fun k e => hk k (.inr e)), h.ne, h.num, h.good, h.byte, h.few⟩
theorem SAt.lt (h : SAt w s v told pk) : ∀ k, SF s v k → k < w.heap.size := by
  rintro k (rfl | hk)
  · exact lt_of_heap h.box
  · exact (h.row.lt k hk).2
theorem SAt.later (h : SAt w s v told pk) (hb : Below w.heap.size w w') : SAt w' s v told pk := h.same fun k hk => hb.block k (h.lt k hk)
theorem SAt.cells (h : SAt w s v told pk) : w.cell? ⟨s, 0, none⟩ = some (.int .u64 (told : Int)) ∧ w.cell? ⟨s, 1, none⟩ = some v ∧ w.frozen? ⟨s, 0, none⟩ = false ∧ w.frozen? ⟨s, 1, none⟩ = false :=
  ⟨by rw [cell_of_row _ s 0 _ _ _ h.box]; rfl, by rw [cell_of_row _ s 1 _ _ _ h.box]; rfl, frozen_of_row _ s 0 _ _ h.box, frozen_of_row _ s 1 _ _ h.box⟩
theorem SAt.form (h : SAt w s v told pk) : ∃ A c, v = .slice A pk.length c := ownsRow_shape h.row
theorem SAt.by_ (h : SAt w s v told pk) {A : Option Addr} {c : Nat} (hv : v = .slice A pk.length c) : By w.heap.size w A pk.length c pk := by subst hv; exact By.own h.row h.byte
theorem row_kind {base n : Nat} {xs : List Value} {e : TypeId} (h : w.ownsRow base e 1 v n xs) : ∀ g, v.ownBlock = some g → g < w.heap.size ∧ base ≤ g ∧ ∃ c fz, w.heap[g]? = some (.cells c e fz) := by
  intro g hg
  refine ⟨(h.lt g hg).2, (h.lt g hg).1, ?_⟩
  rcases h.2 with ⟨q, _⟩ | ⟨g0, c0, cur, q, _, hh, _⟩
  · rw [q] at hg; cases hg
  · have : g = g0 := by rw [q] at hg; simpa [Value.ownBlock] using hg.symm
    subst this; exact ⟨cur, _, hh⟩
theorem SAt.kind (h : SAt w s v told pk) : ∀ k, SF s v k → ∃ c t fz, w.heap[k]? = some (.cells c t fz) ∧ (t = 102 ∨ t = 5) := by
  rintro k (rfl | hk)
  · exact ⟨_, _, _, h.box, .inl rfl⟩
  · obtain ⟨_, _, c, fz, hh⟩ := row_kind h.row k hk
    exact ⟨_, _, _, hh, .inr rfl⟩
/-- A block of another make is none of a sender's. -/
theorem SAt.apart (h : SAt w s v told pk) {b : Nat} {c : Array Value} {t : TypeId} {fz : Nat × Nat} (hb : w.heap[b]? = some (.cells c t fz)) (h1 : t ≠ 102) (h2 : t ≠ 5) : ¬ SF s v b := by
  intro hk
  obtain ⟨c2, t2, fz2, hh, ht⟩ := h.kind b hk
  rw [hb] at hh
  injection hh with hh
  injection hh with _ e _
  subst e
  rcases ht with x | x
  · exact h1 x
  · exact h2 x
end
theorem newSender_any (n : Int) (w : World) : Calls Tryd.prog 30 #[.int .u64 n] w fun e w' => e = .returned (.pointer (some ⟨w.heap.size, 0, none⟩)) ∧ w' = w.alloc (.cells #[.int .u64 n, .slice none 0 0] 102) := by
  go_enter Tryd.func30, Tryd.ntmps30
  go_wp2
  go_ret
  exact ⟨rfl, rfl⟩
theorem sat_new (w : World) (n : Nat) (hn : n < 18446744073709551616) : SAt (w.alloc (.cells #[.int .u64 (n : Int), .slice none 0 0] 102)) w.heap.size (.slice none 0 0) n [] :=
  ⟨heap_alloc_new w _, by exact World.ownsRow_nil _ _ _ _, by simp [Value.ownBlock], hn, fun h => absurd rfl h, by simp, by simp⟩
theorem tells_any {w : World} {s told : Nat} {v : Value} {pk : List Nat} (h : SAt w s v told pk) :
    Calls Tryd.prog 67 #[.pointer (some ⟨s, 0, none⟩)] w fun e w' => e = .returned (.bool (decide (0 < pk.length))) ∧ w = w' := by
  obtain ⟨A, c, rfl⟩ := h.form
  obtain ⟨c0, c1, _⟩ := h.cells
  have hf := h.few
  clear h
  generalize pk.length = n at *
  go_enter Tryd.func67, Tryd.ntmps67
  go_wp2
  go_ret
  exact ⟨rfl, rfl⟩
theorem tells_no {w : World} {s told : Nat} {v : Value} (h : SAt w s v told []) : Calls Tryd.prog 67 #[.pointer (some ⟨s, 0, none⟩)] w fun e w' => e = .returned (.bool false) ∧ w = w' := by simpa using tells_any h
theorem tells_yes {w : World} {s told : Nat} {v : Value} {pk : List Nat} (h : SAt w s v told pk) (hp : pk ≠ []) : Calls Tryd.prog 67 #[.pointer (some ⟨s, 0, none⟩)] w fun e w' => e = .returned (.bool true) ∧ w = w' := by
  have e : decide (0 < pk.length) = true := decide_eq_true (List.length_pos_iff.2 hp)
  have := tells_any h
  rw [e] at this
  exact this
theorem told_any {w : World} {s told : Nat} {v : Value} {pk : List Nat} (h : SAt w s v told pk) : Calls Tryd.prog 36 #[.pointer (some ⟨s, 0, none⟩)] w fun e w' => e = .returned (.int .u64 (told : Int)) ∧ w = w' := by
  obtain ⟨c0, c1, _⟩ := h.cells
  clear h
  go_enter Tryd.func36, Tryd.ntmps36
  go_wp2
  go_ret
  exact ⟨rfl, rfl⟩
theorem equal_any {w : World} {B B2 : Nat} {A A2 : Option Addr} {n m c c2 : Nat} {xs ys : List Nat} (h1 : By B w A n c xs) (h2 : By B2 w A2 m c2 ys) :
    Calls Tryd.prog 69 #[.slice A n c, .slice A2 m c2] w fun e w' => e = .returned (.bool (decide (xs = ys))) ∧ w = w' := by
  have k1 := h1.conv
  have k2 := h2.conv
  by_cases he : xs = ys
  · subst he
    have e : decide (xs = xs) = true := decide_eq_true rfl
    rw [e]
    clear h1 h2 e
    go_enter Tryd.func69, Tryd.ntmps69
    go_wp2
    go_ret
    exact ⟨rfl, rfl⟩
  · have e : decide (xs = ys) = false := decide_eq_false he
    rw [e]
    have hq := strOf_ne xs ys h1.byte h2.byte he
    clear h1 h2 e he
    go_enter Tryd.func69, Tryd.ntmps69
    go_wp2
    go_ret
    exact ⟨rfl, rfl⟩
theorem layHeard_any {w : World} {n : Nat} (hn : n + 1 < 18446744073709551616) :
    Calls Tryd.prog 70 #[.int .u64 (n : Int)] w fun e w' => ∃ g c, e = .returned (.slice (some ⟨g, 0, none⟩) (play true n []).length c) ∧ w'.ownsRow w.heap.size 5 1 (.slice (some ⟨g, 0, none⟩) (play true n []).length c) (play true n []).length (bc (play true n [])) ∧ Below w.heap.size w w' := by
  have hok : Ok true n [] := ⟨hn, by simp, fun _ => rfl, by simp⟩
  have HL := Lib.hid (lay_ok (w := w) hok (By.none_ 0 w) (Nat.zero_le _))
  generalize play true n [] = zs at *
  go_enter Tryd.func70, Tryd.ntmps70
  go_wp2_with fail
  refine HL.out.mono ?_
  rintro e w1 ⟨g, c, rfl, ho, hb⟩
  have HO := Lib.hid ho
  have HB := Lib.hid hb
  clear ho hb
  go_wp2_with fail
  go_ret
  exact ⟨g, c, rfl, HO.out, HB.out⟩
end Ln
end Go.Proofs.YtobpinelhjpfgaaDoor
