/-
  The heap: made, asked how many there are, asked for the least.
-/
import Derived.Test.YtbpcigcfdkamaaaHpW2
import Derived.Test.YtbpcigcfdkamaaaHpPlain
import Derived.Deep.AppendLies
import Derived.Deep.RegionLaw
set_option linter.unusedVariables false
set_option maxRecDepth 100000
namespace Go.Proofs.Ytbpcigcfdkamaaa
open Go.RowKit E

/-- A heap lies in block b, its tree at v; in order it has the entries M, and n were pushed. -/
structure HAt (w : World) (b : Nat) (v : Value) (M : List E) (n : Nat) : Prop where
  box : w.heap[b]? = some (.cells #[v, .int .i64 (n : Int)] 52 (0, 0))
  row : ∃ es, Abs es M n ∧ w.ownsRow (b + 1) 54 3 v es.length (ec es)
  few : M.length ≤ n ∧ n ≤ 1000000
/-- The heap's blocks. -/
def HF (b : Nat) (v : Value) : Nat → Prop := fun k => k = b ∨ v.ownBlock = some k

theorem HAt.lt {w : World} {b : Nat} {v : Value} {M : List E} {n : Nat} (h : HAt w b v M n) : b < w.heap.size := lt_of_heap h.box
theorem HAt.cells {w : World} {b : Nat} {v : Value} {M : List E} {n : Nat} (h : HAt w b v M n) :
    w.cell? ⟨b, 0, none⟩ = some v ∧ w.cell? ⟨b, 1, none⟩ = some (.int .i64 (n : Int)) ∧ w.frozen? ⟨b, 0, none⟩ = false ∧ w.frozen? ⟨b, 1, none⟩ = false :=
  ⟨by rw [cell_of_row w b 0 _ _ _ h.box]; rfl, by rw [cell_of_row w b 1 _ _ _ h.box]; rfl, frozen_of_row w b 0 _ _ h.box, frozen_of_row w b 1 _ _ h.box⟩
theorem HAt.owned {w : World} {b : Nat} {v : Value} {M : List E} {n : Nat} (h : HAt w b v M n) : ∀ k, HF b v k → b ≤ k ∧ k < w.heap.size := by
  obtain ⟨es, _, hr⟩ := h.row
  intro k hk
  rcases hk with rfl | hk
  · exact ⟨Nat.le_refl _, h.lt⟩
  · have := hr.lt k hk; omega
theorem HAt.same {w w' : World} {b : Nat} {v : Value} {M : List E} {n : Nat} (h : HAt w b v M n) (hb : ∀ k, HF b v k → w'.heap[k]? = w.heap[k]?) : HAt w' b v M n := by
  obtain ⟨es, ha, hr⟩ := h.row
  exact ⟨by rw [hb b (.inl rfl)]; exact h.box, ⟨es, ha, ownsRow_same hr (fun k hk => hb k (.inr hk))⟩, h.few⟩
theorem HAt.below {w w' : World} {b : Nat} {v : Value} {M : List E} {n : Nat} (h : HAt w b v M n) (hb : Below w.heap.size w w') : HAt w' b v M n :=
  h.same fun k hk => hb.block k (h.owned k hk).2
/-- The tree's value. -/
theorem HAt.tree {w : World} {b : Nat} {v : Value} {M : List E} {n : Nat} (h : HAt w b v M n) :
    (v = .slice none 0 0 ∧ M = []) ∨ ∃ g cap es, v = .slice (some ⟨g, 0, none⟩) M.length cap ∧ b < g ∧ Abs es M n ∧ Tree w g M.length cap es := by
  obtain ⟨es, ha, hr⟩ := h.row
  have hl := ha.length
  rcases hr.2 with ⟨h1, h2⟩ | ⟨g, cap, cur, h1, hg, hrest⟩
  · left
    refine ⟨h1, ?_⟩
    cases M with
    | nil => rfl
    | cons a t => simp at hl; omega
  · right
    subst h1
    rw [hl] at hr
    refine ⟨g, cap, es, by rw [hl], by omega, ha, ⟨?_, hl⟩⟩
    obtain ⟨q1, q2⟩ := hr
    rcases q2 with ⟨q, _⟩ | ⟨g', cap', cur', q, hg', r⟩
    · cases q
    · exact ⟨q1, .inr ⟨g', cap', cur', q, Nat.zero_le _, r⟩⟩

theorem new_any (w : World) : Calls Try.prog 11 #[] w fun e w' => e = .returned (.pointer (some ⟨w.heap.size, 0, none⟩)) ∧ HAt w' w.heap.size (.slice none 0 0) [] 0 ∧ Below w.heap.size w w' ∧ w.heap.size < w'.heap.size := by
  go_enter Try.func11, Try.ntmps11
  go_wp2
  go_ret
  refine ⟨rfl, ⟨?_, ⟨[], Abs.nil, World.ownsRow_nil _ _ _ _⟩, by simp⟩, (Below.refl _ w).alloc (Nat.le_refl _) _, by simp⟩
  exact heap_alloc_new w _

theorem len_any (b : Nat) (v : Value) (M : List E) (n : Nat) (w : World) (h : HAt w b v M n) :
    Calls Try.prog 19 #[.pointer (some ⟨b, 0, none⟩)] w fun e w' => e = .returned (.int .i64 (M.length : Int)) ∧ w = w' := by
  obtain ⟨c0, c1, f0, f1⟩ := h.cells
  rcases h.tree with ⟨rfl, rfl⟩ | ⟨g, cap, es, rfl, hbg, ha, hT⟩
  · clear h
    go_enter Try.func19, Try.ntmps19
    go_wp2
    go_ret
    exact ⟨rfl, rfl⟩
  · clear h ha hT
    go_enter Try.func19, Try.ntmps19
    go_wp2
    go_ret
    exact ⟨rfl, rfl⟩
theorem len_nil (w : World) : Calls Try.prog 19 #[.pointer none] w fun e w' => e = .returned (.int .i64 0) ∧ w = w' := by
  go_enter Try.func19, Try.ntmps19
  go_wp2
  go_ret
  exact ⟨rfl, rfl⟩

/-- An item and whether there is one. -/
def Item? (M : List E) : Value := match M with
  | [] => .tuple #[.agg #[.int .i64 0, .int .i64 0], .bool false]
  | m :: _ => .tuple #[.agg #[.int .i64 m.k, .int .i64 m.v], .bool true]

theorem peek_nil (w : World) : Calls Try.prog 17 #[.pointer none] w fun e w' => e = .returned (Item? []) ∧ Below w.heap.size w w' := by
  have HB : Hid (∀ x : Obj, Below w.heap.size w (w.alloc x)) := Lib.hid fun x => (Below.refl _ w).alloc (Nat.le_refl _) _
  go_enter Try.func17, Try.ntmps17
  go_wp2_with (go_at_call 19; refine (len_nil _).mono ?_; rintro e w' ⟨rfl, rfl⟩)
  exact bodyPost_ret (v := Item? []) (by simp [results, Try.results17, go_sem, Item?]) rfl ⟨rfl, HB.out _⟩

theorem peek_any (b : Nat) (v : Value) (M : List E) (n : Nat) (w : World) (h : HAt w b v M n) :
    Calls Try.prog 17 #[.pointer (some ⟨b, 0, none⟩)] w fun e w' => e = .returned (Item? M) ∧ Below w.heap.size w w' := by
  have HB : Hid (∀ x : Obj, Below w.heap.size w (w.alloc x)) := Lib.hid fun x => (Below.refl _ w).alloc (Nat.le_refl _) _
  have HH : Hid (∀ x : Obj, HAt (w.alloc x) b v M n) := Lib.hid fun x => h.below (HB.out x)
  obtain ⟨c0, c1, f0, f1⟩ := h.cells
  have hlt := h.lt
  cases M with
  | nil =>
    clear h c0 c1
    go_enter Try.func17, Try.ntmps17
    go_wp2_with (go_at_call 19; refine (len_any b v [] n _ (HH.out _)).mono ?_; rintro e w' ⟨rfl, rfl⟩)
    exact bodyPost_ret (v := Item? []) (by simp [results, Try.results17, go_sem, Item?]) rfl ⟨rfl, HB.out _⟩
  | cons m M =>
    obtain ⟨g, cap, es, rfl, hbg, ha, hT⟩ : ∃ g cap es, v = .slice (some ⟨g, 0, none⟩) (M.length + 1) cap ∧ b < g ∧ Abs es (m :: M) n ∧ Tree w g (M.length + 1) cap es := by
      rcases h.tree with ⟨_, h2⟩ | h2
      · cases h2
      · exact h2
    obtain ⟨d0, d1, d2⟩ := hT.cells 0 (by omega)
    rw [ha.root] at d0 d1 d2
    have hg := (hT.row.lt g rfl).2
    have hmax := hT.max
    clear h ha hT
    go_enter Try.func17, Try.ntmps17
    go_wp2_with (go_at_call 19; refine (len_any b _ (m :: M) n _ (HH.out _)).mono ?_; rintro e w' ⟨rfl, rfl⟩)
    exact bodyPost_ret (v := Item? (m :: M)) (by simp [results, Try.results17, go_sem, Item?]) rfl ⟨rfl, HB.out _⟩

end Go.Proofs.Ytbpcigcfdkamaaa
