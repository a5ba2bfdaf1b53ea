/-
  A heap and the document's heap beside each other, in one memory.
-/
import Derived.Test.YtbpcigcfdkamaaaHpW8
import Derived.Test.YtbpcigcfdkamaaaHpR4
import Derived.Test.YtbpcigcfdkamaaaHpArgs
set_option linter.unusedVariables false
namespace Go.Proofs.Ytbpcigcfdkamaaa
open Go.RowKit E

/-- An object of a heap's memory: what its calls write lies in such objects, or is new. -/
def IsHp (o : Obj) : Prop := ∃ cs fz, o = .cells cs 52 fz ∨ o = .cells cs 54 fz ∨ o = .cells cs 29 fz
/-- All other objects are as they were. -/
def KeptT (W w : World) : Prop := ∀ (k : Nat) (o : Obj), W.heap[k]? = some o → ¬ IsHp o → w.heap[k]? = some o
theorem KeptT.trans {a b c : World} (h : KeptT a b) (k : KeptT b c) : KeptT a c := fun i o hi ho => k i o (h i o hi ho) ho
theorem KeptT.below {W w : World} (h : Below W.heap.size W w) : KeptT W w := fun k o hk _ => by rw [h.block k (lt_of_heap hk)]; exact hk
theorem KeptT.ofTurn {F F' : Nat → Prop} {W w : World} (h : Turn F F' W w) (hF : ∀ (k : Nat) (o : Obj), W.heap[k]? = some o → F k → IsHp o) : KeptT W w := fun k o hk ho => by
  rw [h.block k (lt_of_heap hk) (fun e => ho (hF k o hk e))]; exact hk
theorem notHp_cells {cs : Array Value} {t : TypeId} {fz : Nat × Nat} (h1 : t ≠ 52) (h2 : t ≠ 54) (h3 : t ≠ 29) : ¬ IsHp (.cells cs t fz) := by
  rintro ⟨cs', fz', h | h | h⟩ <;> (injection h with _ h _; first | exact h1 h | exact h2 h | exact h3 h)

theorem HAt.isHp {w : World} {b : Nat} {v : Value} {M : List E} {n : Nat} (h : HAt w b v M n) : ∀ (k : Nat) (o : Obj), w.heap[k]? = some o → HF b v k → IsHp o := by
  obtain ⟨es, _, hr⟩ := h.row
  intro k o hk hf
  rcases hf with rfl | hf
  · have := h.box; rw [hk] at this; injection this with this; exact ⟨_, _, .inl this⟩
  · obtain ⟨c, fz, hc⟩ := row_kind hr k hf
    rw [hk] at hc; injection hc with hc; exact ⟨_, _, .inr (.inl hc)⟩
theorem HAt.notR {w : World} {b : Nat} {v : Value} {M : List E} {n : Nat} (h : HAt w b v M n) {k : Nat} {cs : Array Value} {fz : Nat × Nat} (hk : w.heap[k]? = some (.cells cs 29 fz)) : ¬ HF b v k := by
  obtain ⟨es, _, hr⟩ := h.row
  intro hf
  rcases hf with rfl | hf
  · have := h.box; rw [hk] at this; simp at this
  · obtain ⟨c, fz', hc⟩ := row_kind hr k hf
    rw [hk] at hc; simp at hc
theorem RAt.isHp {w : World} {rb n cap : Nat} {A : Option Addr} {l : List (Int × Int)} (h : RAt w rb A n cap l) : ∀ (k : Nat) (o : Obj), w.heap[k]? = some o → OnlyB rb k → IsHp o := by
  intro k o hk hf
  have : k = rb := hf
  subst this
  have := h.box; rw [hk] at this; injection this with this; exact ⟨_, _, .inr (.inr this)⟩

/-- A heap in block b with the entries M, the document's in block rb with the items l; both made since w. -/
structure Both (w : World) (b rb : Nat) (M : List E) (n : Nat) (l : List (Int × Int)) (W : World) : Prop where
  heap : ∃ v, HAt W b v M n
  ref : ∃ A m c, RAt W rb A m c l
  lo : w.heap.size ≤ b ∧ w.heap.size ≤ rb
  below : Below w.heap.size w W
theorem Both.later {w W W' : World} {b rb n : Nat} {M : List E} {l : List (Int × Int)} (h : Both w b rb M n l W) (hb : Below W.heap.size W W') : Both w b rb M n l W' := by
  obtain ⟨v, hv⟩ := h.heap
  obtain ⟨A, m, c, hr⟩ := h.ref
  exact ⟨⟨v, hv.below hb⟩, ⟨A, m, c, hr.below hb⟩, h.lo, h.below.trans (hb.mono h.below.size)⟩
theorem Both.more {w W : World} {b rb n : Nat} {M : List E} {l : List (Int × Int)} (h : Both w b rb M n l W) (o : Obj) : Both w b rb M n l (W.alloc o) := h.later ((Below.refl _ W).alloc (Nat.le_refl _) o)

theorem Both.heapStep {w W w' : World} {b rb n n' : Nat} {M M' : List E} {l : List (Int × Int)} {v v' : Value} (h : Both w b rb M n l W) (hv : HAt W b v M n) (h' : HAt w' b v' M' n') (ht : Turn (HF b v) (HF b v') W w') : Both w b rb M' n' l w' ∧ KeptT W w' := by
  obtain ⟨A, m, c, hr⟩ := h.ref
  refine ⟨⟨⟨v', h'⟩, ⟨A, m, c, hr.turn ht (hv.notR hr.box) (fun a e => ?_)⟩, h.lo, h.below.trans (ht.below _ h.below.size (fun k hk => by have := (hv.owned k hk).1; have := h.lo.1; omega))⟩, KeptT.ofTurn ht hv.isHp⟩
  obtain ⟨cs, fz, hk⟩ := hr.kind a e
  exact hv.notItem hk
theorem Both.refStep {w W w' : World} {b rb n m m' c c' : Nat} {M : List E} {l l' : List (Int × Int)} {A A' : Option Addr} (h : Both w b rb M n l W) (hr : RAt W rb A m c l) (h' : RAt w' rb A' m' c' l') (ht : Turn (OnlyB rb) (OnlyB rb) W w') : Both w b rb M n l' w' ∧ KeptT W w' := by
  obtain ⟨v, hv⟩ := h.heap
  refine ⟨⟨⟨v, hv.same fun k hk => ht.block k (hv.owned k hk).2 (fun e => ?_)⟩, ⟨A', m', c', h'⟩, h.lo, h.below.trans (ht.below _ h.below.size (fun k hk => by rw [show k = rb from hk]; exact h.lo.2))⟩, KeptT.ofTurn ht hr.isHp⟩
  have : k = rb := e
  subst this
  exact hv.notR hr.box hk

theorem push_both {w W : World} {b rb n : Nat} {M : List E} {l : List (Int × Int)} (x y : Int) (h : Both w b rb M n l W) (hn : n < 1000000) :
    Calls Try.prog 15 #[.pointer (some ⟨b, 0, none⟩), .agg #[.int .i64 x, .int .i64 y]] W fun e w' => e = .returned (.tuple #[]) ∧ Both w b rb (ins ⟨x, y, n⟩ M) (n + 1) l w' ∧ KeptT W w' := by
  obtain ⟨v, hv⟩ := h.heap
  refine (push_any b v M n x y W hv hn).mono ?_
  rintro e w' ⟨rfl, v', h1, h2⟩
  exact ⟨rfl, h.heapStep hv h1 h2⟩
theorem pop_both {w W : World} {b rb n : Nat} {M : List E} {l : List (Int × Int)} (h : Both w b rb M n l W) :
    Calls Try.prog 13 #[.pointer (some ⟨b, 0, none⟩)] W fun e w' => e = .returned (Item? M) ∧ Both w b rb M.tail n l w' ∧ KeptT W w' := by
  obtain ⟨v, hv⟩ := h.heap
  refine (pop_any b v M n W hv).mono ?_
  rintro e w' ⟨rfl, v', h1, h2⟩
  exact ⟨rfl, h.heapStep hv h1 h2⟩
theorem peek_both {w W : World} {b rb n : Nat} {M : List E} {l : List (Int × Int)} (h : Both w b rb M n l W) :
    Calls Try.prog 17 #[.pointer (some ⟨b, 0, none⟩)] W fun e w' => e = .returned (Item? M) ∧ Both w b rb M n l w' ∧ KeptT W w' := by
  obtain ⟨v, hv⟩ := h.heap
  refine (peek_any b v M n W hv).mono ?_
  rintro e w' ⟨rfl, hb⟩
  exact ⟨rfl, h.later hb, KeptT.below hb⟩
theorem rpush_both {w W : World} {b rb n : Nat} {M : List E} {l : List (Int × Int)} (x y : Int) (h : Both w b rb M n l W) (hl : l.length ≤ 100000) :
    Calls Try.prog 16 #[.pointer (some ⟨rb, 0, none⟩), .agg #[.int .i64 x, .int .i64 y]] W fun e w' => e = .returned (.tuple #[]) ∧ Both w b rb M n (insI (x, y) l) w' ∧ KeptT W w' := by
  obtain ⟨A, m, c, hr⟩ := h.ref
  refine (r4push_any rb A m c l x y W hr (by rw [← hr.len]; exact hl)).mono ?_
  rintro e w' ⟨rfl, A', c', h1, h2, _⟩
  exact ⟨rfl, h.refStep hr h1 h2⟩
theorem rpop_both {w W : World} {b rb n : Nat} {M : List E} {l : List (Int × Int)} (h : Both w b rb M n l W) :
    Calls Try.prog 14 #[.pointer (some ⟨rb, 0, none⟩)] W fun e w' => e = .returned (It? l) ∧ Both w b rb M n l.tail w' ∧ KeptT W w' := by
  obtain ⟨A, m, c, hr⟩ := h.ref
  refine (r4pop_any rb A m c l W hr).mono ?_
  rintro e w' ⟨rfl, A', n', c', h1, h2⟩
  exact ⟨rfl, h.refStep hr h1 h2⟩
theorem rpeek_both {w W : World} {b rb n : Nat} {M : List E} {l : List (Int × Int)} (h : Both w b rb M n l W) :
    Calls Try.prog 18 #[.pointer (some ⟨rb, 0, none⟩)] W fun e w' => e = .returned (It? l) ∧ Both w b rb M n l w' ∧ KeptT W w' := by
  obtain ⟨A, m, c, hr⟩ := h.ref
  refine (r4peek_any rb A m c l W hr).mono ?_
  rintro e w' ⟨rfl, hb⟩
  exact ⟨rfl, h.later hb, KeptT.below hb⟩
theorem len_both {w W : World} {b rb n : Nat} {M : List E} {l : List (Int × Int)} (h : Both w b rb M n l W) :
    Calls Try.prog 19 #[.pointer (some ⟨b, 0, none⟩)] W fun e w' => e = .returned (.int .i64 (M.length : Int)) ∧ W = w' := by
  obtain ⟨v, hv⟩ := h.heap
  exact len_any b v M n W hv

/-- The items of entries. -/
def its (M : List E) : List (Int × Int) := M.map fun e => (e.k, e.v)
theorem its_length (M : List E) : (its M).length = M.length := by simp [its]
theorem its_ins (x : E) (M : List E) : its (ins x M) = insI (x.k, x.v) (its M) := insI_map x M
theorem its_tail (M : List E) : its M.tail = (its M).tail := by cases M <;> rfl
theorem It?_its (M : List E) : It? (its M) = Item? M := by cases M <;> simp [It?, Item?, its, hd]

/-- The first acts. -/
theorem few4_any (A : Option Addr) (n cap : Nat) (f : Nat → Bool × Int × Int) (w : World) (h : Acts w A n cap f) :
    Calls Try.prog 12 #[.slice A n cap] w fun e w' => w = w' ∧ ∃ m, m ≤ n ∧ m ≤ 300 ∧ e = .returned (.slice A m cap) := by
  have hle := h.le
  have hmax := h.max
  unfold maxLen at hmax
  cases A with
  | none =>
    obtain rfl : cap = 0 := h.nil rfl
    obtain rfl : n = 0 := by omega
    clear h
    go_enter Try.func12, Try.ntmps12
    go_wp2
    go_ret
    exact ⟨rfl, 0, by omega, by omega, rfl⟩
  | some ad =>
    clear h
    by_cases hl : (n : Int) ≤ 300
    · go_enter Try.func12, Try.ntmps12
      go_wp2
      go_ret
      exact ⟨rfl, n, by omega, by omega, rfl⟩
    · have hl3 : (300 : Int) ≤ (cap : Int) := by omega
      go_enter Try.func12, Try.ntmps12
      go_wp2
      go_ret
      exact ⟨rfl, 300, by omega, by omega, rfl⟩

end Go.Proofs.Ytbpcigcfdkamaaa
