/-
  Layer 6: a table; New, Taken, Is.
-/
import Derived.Test.YtcdclghmebgpnaaGreatDoorWnB
import Derived.Maps.OwnSet
import Derived.Maps.Views
import Derived.Lib.SliceRun
set_option linter.unusedVariables false
set_option maxRecDepth 100000
namespace Go.Proofs.YtcdclghmebgpnaaGreatDoor.Wn
open Go.RowKit Go.Maps

set_option maxHeartbeats 1000000 in
theorem clone_any (A : Option Addr) (n cap : Nat) (L : List (Int × Int)) (w : World) (h : Wt w.heap.size w A n cap L) (hn : n ≤ 1000000) :
    Calls Tryz.prog 35 #[.slice A n cap] w fun e w' => ∃ A' c', e = .returned (.slice A' n c') ∧ Wow w' w.heap.size (.slice A' n c') L ∧ Below w.heap.size w w' := by
  have HL := Lib.hid h
  have q22 : ∀ (w : World) (a : Option Addr) (n c n' c' : Nat), (binOp .eql 49 (.slice a n c) (.slice none n' c')).run Tryz.prog w = .ok (.bool a.isNone) w := fun w a n c n' c' => Lib.run_eql_slice_nil w _ _ a n c n' c' Tryz.underlying49
  cases A with
  | none =>
    have hc0 := h.nil rfl
    have hm0 : n = 0 := by have := h.le; omega
    subst hm0 hc0
    obtain rfl : L = [] := List.eq_nil_of_length_eq_zero h.len.symm
    clear h
    go_enter Tryz.func35, Tryz.ntmps35
    go_wp2_with fail
    go_ret
    exact ⟨none, 0, rfl, Wow.nil _ _, Below.refl _ _⟩
  | some ad =>
    have hs := h.size
    have hs1 := hs.1
    have hs2 := hs.2
    have HLN := Lib.hid h.len
    have HE : Hid (Wow (w.alloc (.cells #[] 52)) w.heap.size (.slice (some ⟨w.heap.size, 0, none⟩) 0 0) []) := Lib.hid (by
      have := World.ownsRow_lit (base := w.heap.size) (e := 52) (size := 2) w #[] 0 (Nat.le_refl _) (by unfold maxLen; omega) rfl
      simpa [Wow, wcl] using this)
    have HA := Lib.hid ((Below.refl w.heap.size w).alloc (Nat.le_refl _) (.cells #[] 52))
    clear h hs
    go_enter Tryz.func35, Tryz.ntmps35
    go_wp2_with (at_builtin; refine app_wins rfl _ _ rfl w.heap.size _ [] rfl HE.out (some ad) n cap L rfl (HL.out.later HA.out) (by simp; omega) (by simp) ?_; intro A' c' w3 ho3 hb3 _ _; have HO3 := Lib.hid ho3; have HB3 := Lib.hid (HA.out.trans hb3); clear ho3 hb3)
    go_ret
    refine ⟨A', c', by rw [HLN.out]; rfl, ?_, HB3.out⟩
    have := HO3.out
    rw [List.nil_append] at this
    rw [HLN.out]
    exact this

theorem owns_same {H : Type} {w w' : World} {P : Program} {k : TypeId} {R : Value → Option (DataW H × List MemPlace)} {b n : Nat} {D : DataW H} (h : w.ownsMap P k R b n D) (he : w'.heap[b]? = w.heap[b]?) : w'.ownsMap P k R b n D := by
  obtain ⟨es, clock, hb, hr⟩ := h
  exact ⟨es, clock, by rw [he]; exact hb, hr⟩
def IW (x : Int) : Prop := -9223372036854775808 ≤ x ∧ x ≤ 9223372036854775807
def kI (x : Int) : Lit := .int .i64 x
theorem kI_inj {x y : Int} (h : kI x = kI y) : x = y := by simpa [kI] using h
theorem kI_key (x : Int) : WideAt.IsKeyLit (kI x) := trivial
/-- A slice as a datum: its block, its length, its capacity. -/
def slD (g n c : Nat) : DataW Unit := .agg [.lit (.int .i64 (g : Int)), .lit (.int .i64 (n : Int)), .lit (.int .i64 (c : Int))]
def slR : Value → Option (DataW Unit × List MemPlace)
  | .slice none 0 0 => some (.nil, [])
  | .slice (some ⟨g, 0, none⟩) n c => some (slD g n c, [])
  | _ => none
theorem slR_inv {v : Value} {g n c : Nat} {ps : List MemPlace} (h : slR v = some (slD g n c, ps)) : v = .slice (some ⟨g, 0, none⟩) n c := by
  unfold slR at h
  split at h
  · simp [slD] at h
  · simp only [Option.some.injEq, Prod.mk.injEq, slD, DataW.agg.injEq, List.cons.injEq, DataW.lit.injEq, Lit.int.injEq, true_and, and_true] at h
    rename_i g' n' c'
    obtain ⟨⟨h1, h2, h3⟩, _⟩ := h
    obtain rfl : g' = g := by omega
    obtain rfl : n' = n := by omega
    obtain rfl : c' = c := by omega
    rfl
  · cases h
theorem slR_nil {v : Value} {ps : List MemPlace} (h : slR v = some (.nil, ps)) : v = .slice none 0 0 := by
  unfold slR at h
  split at h
  · rfl
  · simp [slD] at h
  · cases h
/-- A table of windows in a block of the call's own. -/
structure Tab (w : World) (base tb N : Nat) (mv : Option Nat) (T : Int → List (Int × Int)) (gb : Int → Nat) : Prop where
  box : w.heap[tb]? = some (.cells #[.map mv] 88 (0, 0))
  lo : base ≤ tb
  few : N ≤ 100000
  nomap : mv = none → ∀ x, T x = []
  map : ∀ mb, mv = some mb → base ≤ mb ∧ ∃ D : DataW Unit, w.ownsMap Tryz.prog 3 slR mb N D ∧ ∀ x, IW x → has D (kI x) = decide (T x ≠ []) ∧ (T x ≠ [] → ∃ c, (∀ z, D.atKey (kI x) z = slD (gb x) (T x).length c) ∧ Wow w base (.slice (some ⟨gb x, 0, none⟩) (T x).length c) (T x))
  apart : ∀ x y, IW x → IW y → x ≠ y → T x ≠ [] → T y ≠ [] → gb x ≠ gb y
  rise : ∀ x, Rising (T x)
  small : ∀ x, (T x).length ≤ N
theorem Tab.lookup {w : World} {base tb N : Nat} {mv : Option Nat} {T : Int → List (Int × Int)} {gb : Int → Nat} (h : Tab w base tb N mv T gb) {x : Int} (hx : IW x) :
    ∃ A c, (Instr.lookup 86 (.map mv) (.int .i64 x) false).run Tryz.prog w = .ok (.slice A (T x).length c) w ∧ Wt w.heap.size w A (T x).length c (T x) := by
  have hz : (zeroValue 49).run Tryz.prog w = .ok (.slice none 0 0) w := by kernel_rfl
  cases mv with
  | none =>
    rw [h.nomap rfl x]
    refine ⟨none, 0, ?_, Wt.nothing _ _⟩
    have K := int_keyed Tryz.underlying3
    have hkey := keyOf_int_mk Tryz.underlying3 (WalkArith.wf_i64 hx)
    have hck := K.check w true hkey
    have hfd : (Instr.findKey 3 (.int .i64 x) []).run Tryz.prog w = .ok Option.none w := by
      rcases K.find w hkey [] (fun e he => by cases he) with ⟨h1, _⟩ | ⟨j, e, _, h2, _⟩
      · exact h1
      · simp at h2
    simp [Instr.lookup, run_underlying Tryz.underlying86, Result.andThen, hck, hfd, hz]
  | some mb =>
    obtain ⟨_, D, h1, h2⟩ := h.map mb rfl
    obtain ⟨hh, hr⟩ := h2 x hx
    obtain ⟨v, ps, hrun, hv⟩ := h1.lookup (int_keyed Tryz.underlying3) Tryz.underlying86 hz (show slR (.slice none 0 0) = some (.nil, []) from rfl) (keyOf_int_mk Tryz.underlying3 (WalkArith.wf_i64 hx))
    by_cases ht : T x = []
    · have hn : has D (kI x) = false := by rw [hh]; simp [ht]
      rw [show (Lit.int IntKind.i64 x) = kI x from rfl, atKey_of_not_has hn] at hv
      rw [hrun, ht, slR_nil hv]
      exact ⟨none, 0, rfl, Wt.nothing _ _⟩
    · obtain ⟨c, hat, ho⟩ := hr ht
      rw [show (Lit.int IntKind.i64 x) = kI x from rfl, hat] at hv
      rw [hrun, slR_inv hv]
      exact ⟨_, c, rfl, ho.wt⟩
theorem Tab.cells {w : World} {base tb N : Nat} {mv : Option Nat} {T : Int → List (Int × Int)} {gb : Int → Nat} (h : Tab w base tb N mv T gb) : w.cell? ⟨tb, 0, none⟩ = some (.map mv) ∧ w.frozen? ⟨tb, 0, none⟩ = false ∧ tb < w.heap.size :=
  ⟨by rw [cell_of_row w tb 0 _ _ _ h.box]; rfl, frozen_of_row w tb 0 _ _ h.box, lt_of_heap h.box⟩
/-- The table's blocks. -/
def TF (tb : Nat) (mv : Option Nat) (T : Int → List (Int × Int)) (gb : Int → Nat) : Nat → Prop := fun k => k = tb ∨ mv = some k ∨ ∃ x, IW x ∧ T x ≠ [] ∧ gb x = k
theorem Tab.foot {w : World} {base tb N : Nat} {mv : Option Nat} {T : Int → List (Int × Int)} {gb : Int → Nat} (h : Tab w base tb N mv T gb) : ∀ k, TF tb mv T gb k → base ≤ k ∧ k < w.heap.size := by
  rintro k (rfl | e | ⟨x, hx, ht, rfl⟩)
  · exact ⟨h.lo, lt_of_heap h.box⟩
  · obtain ⟨h1, D, h2, _⟩ := h.map k e
    exact ⟨h1, h2.lt⟩
  · cases mv with
    | none => exact absurd (h.nomap rfl x) ht
    | some mb =>
      obtain ⟨_, D, _, h3⟩ := h.map mb rfl
      obtain ⟨c, _, ho⟩ := (h3 x hx).2 ht
      exact World.ownsRow.lt ho _ rfl
theorem Tab.turn {w w' : World} {base tb N : Nat} {mv : Option Nat} {T : Int → List (Int × Int)} {gb : Int → Nat} {F F' : Nat → Prop} (h : Tab w base tb N mv T gb) (ht : Turn F F' w w') (hF : ∀ k, TF tb mv T gb k → ¬ F k) : Tab w' base tb N mv T gb := by
  refine ⟨(ht.block tb (lt_of_heap h.box) (hF tb (.inl rfl))).trans h.box, h.lo, h.few, h.nomap, fun mb e => ?_, h.apart, h.rise, h.small⟩
  obtain ⟨h1, D, h2, h3⟩ := h.map mb e
  refine ⟨h1, D, owns_same h2 (ht.block mb h2.lt (hF mb (.inr (.inl e)))), fun x hx => ⟨(h3 x hx).1, fun hne => ?_⟩⟩
  obtain ⟨c, k1, k2⟩ := (h3 x hx).2 hne
  refine ⟨c, k1, ownsRow_same k2 (fun k hk => ?_)⟩
  obtain rfl : gb x = k := by simpa [Value.ownBlock] using hk
  exact ht.block _ (World.ownsRow.lt k2 _ rfl).2 (hF _ (.inr (.inr ⟨x, hx, hne, rfl⟩)))
theorem Tab.later {w w' : World} {base tb N : Nat} {mv : Option Nat} {T : Int → List (Int × Int)} {gb : Int → Nat} (h : Tab w base tb N mv T gb) (hb : Below w.heap.size w w') : Tab w' base tb N mv T gb :=
  h.turn (Turn.ofBelow hb (fun _ => False)) (fun _ _ h => h)
theorem new_any (w : World) : Calls Tryz.prog 20 #[] w fun e w' => e = .returned (.pointer (some ⟨w.heap.size, 0, none⟩)) ∧ w' = w.alloc (.cells #[.map none] 88) := by
  go_enter Tryz.func20, Tryz.ntmps20
  go_wp2_with fail
  go_ret
  exact ⟨rfl, rfl⟩
theorem Tab.new (w : World) (base : Nat) (hb : base ≤ w.heap.size) : Tab (w.alloc (.cells #[.map none] 88)) base w.heap.size 0 none (fun _ => []) (fun _ => 0) :=
  ⟨heap_alloc_new w _, hb, Nat.zero_le _, fun _ _ => rfl, (fun mb e => by cases e), (fun x y _ _ _ h => absurd rfl h), (fun x a b hab hbn => by simp at hbn), fun x => Nat.le_refl _⟩
/-- The windows for which a cell is taken are told. -/
theorem taken_any (base tb N : Nat) (mv : Option Nat) (T : Int → List (Int × Int)) (gb : Int → Nat) (x : Int) (w : World) (h : Tab w base tb N mv T gb) (hx : IW x) :
    Calls Tryz.prog 17 #[.pointer (some ⟨tb, 0, none⟩), .int .i64 x] w fun e w' => ∃ A c, e = .returned (.slice A (T x).length c) ∧ Wow w' w.heap.size (.slice A (T x).length c) (T x) ∧ Below w.heap.size w w' := by
  obtain ⟨c0, _, hlt⟩ := h.cells
  obtain ⟨A, c, hlk, hwt⟩ := h.lookup hx
  have HC := Lib.hid (clone_any A (T x).length c (T x) w hwt (Nat.le_trans (Nat.le_trans (h.small x) h.few) (by decide)))
  clear h hwt
  generalize hL : T x = L at *
  go_enter Tryz.func17, Tryz.ntmps17
  go_wp2_with fail
  refine HC.out.mono ?_
  rintro e w3 ⟨A', c', rfl, ho, hb⟩
  have HO := Lib.hid ho
  have HB := Lib.hid hb
  clear ho hb
  go_wp2_with fail
  go_ret
  exact ⟨A', c', rfl, HO.out, HB.out⟩
end Go.Proofs.YtcdclghmebgpnaaGreatDoor.Wn
