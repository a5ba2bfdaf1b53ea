/-
  Layer 12: what the laws over acts stand on: a queue behind some acts; who is dropped.
-/
import Derived.Test.YtgeahckblgpnmaaAgF
set_option linter.unusedVariables false
set_option maxRecDepth 100000
namespace Go.Proofs.Ytgeahckblgpnmaa
namespace Ag
open Go.RowKit Bk

theorem new_ok (k : Nat) (hk : k ≤ 1000) (w : World) : Calls Try.prog 10 #[.int .i64 (k : Int)] w fun e w' => e = .returned (.tuple #[.pointer (some ⟨w.heap.size, 0, none⟩), .int .i64 0]) ∧ QAt w' w.heap.size w.heap.size (.slice none 0 0) k 0 [] ∧ Below w.heap.size w w' := by
  refine (new_any (k : Int) w).mono ?_
  intro e w' h
  unfold NewTold at h
  rw [if_pos (by omega)] at h
  obtain ⟨rfl, rfl⟩ := h
  exact ⟨rfl, QAt.new w _ (Nat.le_refl _) (by omega) (by omega), (Below.refl _ _).alloc (Nat.le_refl _) _⟩
/-- A queue behind so many acts. -/
def St (wr : World) (g k j : Nat) : Prop := ∃ v d L, QAt wr g g v k d L ∧ d ≤ j
theorem St.more {wr : World} {g k j i : Nat} (h : St wr g k j) (hi : j ≤ i) : St wr g k i := by obtain ⟨v, d, L, h1, h2⟩ := h; exact ⟨v, d, L, h1, by omega⟩
theorem ActTold.st {a : Value} {g k j : Nat} {v : Value} {d : Nat} {L : List Wr} {w w4 : World} {e : Ending} (h : ActTold a g g v k d L w e w4) (hd : d ≤ j) : St w4 g k j := by
  obtain ⟨v', _, h4, _⟩ := h
  exact ⟨v', _, _, h4, hd⟩
/-- What is below the queue is not written. -/
theorem ActTold.below {a : Value} {g : Nat} {v : Value} {d d0 : Nat} {L L0 : List Wr} {w0 w w4 : World} {e : Ending} {s : Int} {B : Nat} (h : ActTold a g g v s d L w e w4) (hq : QAt w g g v s d0 L0) (hb : Below B w0 w) (hB : B ≤ w0.heap.size) (hg : B ≤ g) : Below B w0 w4 := by
  obtain ⟨v', _, _, h5⟩ := h
  exact hb.trans (h5.below B (Nat.le_trans hB hb.size) (fun k hk => Nat.le_trans hg (hq.blocks k hk).1))
theorem ActTold.ret {a : Value} {base g : Nat} {v : Value} {d : Nat} {L : List Wr} {w w4 : World} {e : Ending} {s : Int} (h : ActTold a base g v s d L w e w4) : e = .returned a := by
  obtain ⟨v', h1, _, _⟩ := h; exact h1
/-- A list of one's own that is newer than the queue. -/
theorem Ww.turn {w w' : World} {B : Nat} {v : Value} {L : List Wr} {F F' : Nat → Prop} (h : Ww w B v L) (ht : Turn F F' w w') (hF : ∀ k, F k → k < B) : Ww w' B v L :=
  h.same fun k hk => ht.block k (h.kind k hk).1 (fun e => by have := hF k e; have := (h.kind k hk).2.1; omega)
/-- An act's box. -/
theorem act_cells (w : World) (q : Nat) (x : Int) : (w.alloc (.cells #[.int .u8 (q : Int), .int .i64 x] 34)).cell? ⟨w.heap.size, 0, none⟩ = some (.int .u8 (q : Int)) ∧ (w.alloc (.cells #[.int .u8 (q : Int), .int .i64 x] 34)).cell? ⟨w.heap.size, 1, none⟩ = some (.int .i64 x) := by
  refine ⟨?_, ?_⟩ <;> simp [World.cell?_alloc_new]

/-! ### Who is dropped -/
def any1 (n : Int) (L : List Wr) : Bool := L.any fun x => x.1 == n
def but (n : Int) (L : List Wr) : List Wr := L.filter fun x => !(x.1 == n)
theorem any1_iff {n : Int} {L : List Wr} : any1 n L = true ↔ ∃ j, j < L.length ∧ (wat L j).1 = n := by
  unfold any1
  rw [List.any_eq_true]
  constructor
  · rintro ⟨x, hx, h⟩
    obtain ⟨j, hj, rfl⟩ := List.getElem_of_mem hx
    exact ⟨j, hj, by rw [wat_get hj]; simpa using h⟩
  · rintro ⟨j, hj, h⟩
    exact ⟨_, wat_mem hj, by simpa using h⟩
theorem drB_any (n : Int) (L : List Wr) : drB n L = any1 n L := by
  rw [Bool.eq_iff_iff, any1_iff]
  unfold drB
  rcases pl_cases n L with ⟨k, h1, h2, h3, _⟩ | ⟨h1, h2⟩
  · rw [h1]
    constructor
    · intro _; exact ⟨k, h2, h3⟩
    · intro _; simp
  · rw [h2]
    constructor
    · intro h; simp at h
    · rintro ⟨j, hj, h⟩; exact absurd h (h1 j hj)
theorem but_all {n : Int} {L : List Wr} (h : ∀ j, j < L.length → (wat L j).1 ≠ n) : but n L = L := by
  unfold but
  rw [List.filter_eq_self]
  intro x hx
  obtain ⟨j, hj, rfl⟩ := List.getElem_of_mem hx
  have := h j hj
  rw [wat_get hj] at this
  simpa using this
theorem drL_but {n : Int} {L : List Wr} (hL : L.Pairwise fun x y => x.1 < y.1) : drL n L = but n L := by
  unfold drL
  rcases pl_cases n L with ⟨k, h1, h2, h3, h4⟩ | ⟨h1, h2⟩
  · rw [h1, if_neg (by omega), Int.toNat_natCast]
    have e := List.take_append_drop k L
    have e2 := List.drop_eq_getElem_cons h2
    rw [wat_get h2] at h3
    have hp := List.pairwise_iff_getElem.1 hL
    unfold out but
    conv => rhs; rw [← e, e2]
    rw [List.filter_append, List.filter_cons, if_neg (by simp [h3])]
    congr 1
    · symm
      rw [List.filter_eq_self]
      intro x hx
      obtain ⟨j, hj, rfl⟩ := List.getElem_of_mem hx
      rw [List.length_take] at hj
      have := h4 j (by omega)
      rw [wat_get (by omega)] at this
      rw [List.getElem_take]
      simpa using this
    · symm
      rw [List.filter_eq_self]
      intro x hx
      obtain ⟨j, hj, rfl⟩ := List.getElem_of_mem hx
      rw [List.length_drop] at hj
      rw [List.getElem_drop]
      have := hp k (k + 1 + j) h2 (by omega) (by omega)
      rw [h3] at this
      simp
      omega
  · rw [h2, if_pos (by omega)]
    exact (but_all h1).symm
theorem drB_but (n : Int) (L : List Wr) : drB n (but n L) = false := by
  rw [drB_any]
  unfold any1 but
  rw [List.any_eq_false]
  intro x hx
  have := (List.mem_filter.1 hx).2
  simpa using this
theorem any1_succ {n : Int} {L : List Wr} {i : Nat} (h : i < L.length) : any1 n (L.take (i + 1)) = (any1 n (L.take i) || (wat L i).1 == n) := by
  unfold any1
  rw [List.take_succ_eq_append_getElem h, List.any_append, wat_get h]
  simp
theorem but_succ {n : Int} {L : List Wr} {i : Nat} (h : i < L.length) : but n (L.take (i + 1)) = if (wat L i).1 == n then but n (L.take i) else but n (L.take i) ++ [wat L i] := by
  unfold but
  rw [List.take_succ_eq_append_getElem h, List.filter_append, wat_get h]
  by_cases q : (L[i].1 == n) = true
  · rw [if_pos q]; simp [q]
  · rw [if_neg q]; simp [q]
end Ag
end Go.Proofs.Ytgeahckblgpnmaa
