/-
  Layer 12: the queue in memory; New, waiting, due, next, Next, Len, All.
-/
import Derived.Test.YtgeahckblgpnmaaAgA
import Derived.Deep.RegionHeld3
import Derived.StillTailTactics
import Derived.Lib.SliceRun
set_option linter.unusedVariables false
set_option maxRecDepth 100000
namespace Go.Proofs.Ytgeahckblgpnmaa
namespace Ag
open Go.RowKit Go.Maps Bk

/-- A queue lies in block g; those that wait are the call's own. -/
structure QAt (w : World) (base g : Nat) (v : Value) (s : Int) (d : Nat) (L : List Wr) : Prop where
  box : w.heap[g]? = some (.cells #[.int .i64 s, .int .i64 (d : Int), v] 52 (0, 0))
  own : Ww w base v L
  lo : base ≤ g
  ok : Qi s d L
/-- Its blocks. -/
def QF (g : Nat) (v : Value) (k : Nat) : Prop := k = g ∨ v.ownBlock = some k
section
variable {w w' : World} {base g : Nat} {v : Value} {s : Int} {d : Nat} {L : List Wr}
theorem QAt.lt (h : QAt w base g v s d L) : g < w.heap.size := lt_of_heap h.box
theorem QAt.blocks (h : QAt w base g v s d L) : ∀ k, QF g v k → base ≤ k ∧ k < w.heap.size := by
  rintro k (rfl | hk)
  · exact ⟨h.lo, h.lt⟩
  · exact ⟨(h.own.kind k hk).2.1, (h.own.kind k hk).1⟩
theorem QAt.same (h : QAt w base g v s d L) (hb : ∀ k, QF g v k → w'.heap[k]? = w.heap[k]?) : QAt w' base g v s d L :=
  ⟨(hb g (.inl rfl)).trans h.box, h.own.same (fun k hk => hb k (.inr hk)), h.lo, h.ok⟩
theorem QAt.later (h : QAt w base g v s d L) (hb : Below w.heap.size w w') : QAt w' base g v s d L := h.same fun k hk => hb.block k (h.blocks k hk).2
/-- Where others are written. -/
theorem QAt.turn {F F' : Nat → Prop} (h : QAt w base g v s d L) (ht : Turn F F' w w') (hd : ∀ k, QF g v k → ¬ F k) : QAt w' base g v s d L := h.same fun k hk => ht.block k (h.blocks k hk).2 (hd k hk)
theorem QAt.cells (h : QAt w base g v s d L) : w.cell? ⟨g, 0, none⟩ = some (.int .i64 s) ∧ w.cell? ⟨g, 1, none⟩ = some (.int .i64 (d : Int)) ∧ w.cell? ⟨g, 2, none⟩ = some v ∧ w.frozen? ⟨g, 1, none⟩ = false ∧ w.frozen? ⟨g, 2, none⟩ = false :=
  ⟨by rw [cell_of_row w g 0 _ _ _ h.box]; rfl, by rw [cell_of_row w g 1 _ _ _ h.box]; rfl, by rw [cell_of_row w g 2 _ _ _ h.box]; rfl, frozen_of_row w g 1 _ _ h.box, frozen_of_row w g 2 _ _ h.box⟩
theorem QAt.form (h : QAt w base g v s d L) : ∃ A n c, v = .slice A n c ∧ n = L.length := h.own.form
theorem QAt.new (w : World) (base : Nat) (hb : base ≤ w.heap.size) (h0 : 0 ≤ s) (h1 : s ≤ 1000) : QAt (w.alloc (.cells #[.int .i64 s, .int .i64 0, .slice none 0 0] 52)) base w.heap.size (.slice none 0 0) s 0 [] :=
  ⟨heap_alloc_new w _, Ww.nil _ _, hb, Qi.nil h0 h1⟩
end
def NewTold (s : Int) (w : World) (e : Ending) (w' : World) : Prop := if 0 ≤ s ∧ s ≤ 1000 then e = .returned (.tuple #[.pointer (some ⟨w.heap.size, 0, none⟩), .int .i64 0]) ∧ w' = w.alloc (.cells #[.int .i64 s, .int .i64 0, .slice none 0 0] 52) else e = .returned (.tuple #[.pointer none, .int .i64 1]) ∧ w' = w
theorem new_any (s : Int) (w : World) : Calls Try.prog 10 #[.int .i64 s] w (NewTold s w) := by
  by_cases h0 : s < 0
  · have HN : Hid (∀ e w', (e = .returned (.tuple #[.pointer none, .int .i64 1]) ∧ w' = w) → NewTold s w e w') := Lib.hid (fun e w' h => by unfold NewTold; rw [if_neg (by omega)]; exact h)
    have d0 : decide (s < 0) = true := decide_eq_true h0
    go_enter Try.func10, Try.ntmps10
    go_wp2_with fail
    go_ret2
    exact HN.out _ _ ⟨rfl, rfl⟩
  · have d0 : decide (s < 0) = false := decide_eq_false h0
    by_cases h1 : 1000 < s
    · have HN : Hid (∀ e w', (e = .returned (.tuple #[.pointer none, .int .i64 1]) ∧ w' = w) → NewTold s w e w') := Lib.hid (fun e w' h => by unfold NewTold; rw [if_neg (by omega)]; exact h)
      have d1 : decide (1000 < s) = true := decide_eq_true h1
      go_enter Try.func10, Try.ntmps10
      go_wp2_with fail
      go_ret2
      exact HN.out _ _ ⟨rfl, rfl⟩
    · have HN : Hid (∀ e w', (e = .returned (.tuple #[.pointer (some ⟨w.heap.size, 0, none⟩), .int .i64 0]) ∧ w' = w.alloc (.cells #[.int .i64 s, .int .i64 0, .slice none 0 0] 52)) → NewTold s w e w') := Lib.hid (fun e w' h => by unfold NewTold; rw [if_pos (by omega)]; exact h)
      have d1 : decide (1000 < s) = false := decide_eq_false h1
      go_enter Try.func10, Try.ntmps10
      go_wp2_with fail
      go_ret2
      exact HN.out _ _ ⟨rfl, rfl⟩
theorem waiting_any {w : World} {g : Nat} {v : Value} (h : w.cell? ⟨g, 2, none⟩ = some v) : Calls Try.prog 28 #[.pointer (some ⟨g, 0, none⟩)] w fun e w' => e = .returned v ∧ w = w' := by
  go_enter Try.func28, Try.ntmps28
  go_wp2_with fail
  go_ret
  exact ⟨rfl, rfl⟩
theorem box3_cells (w : World) (x y z : Int) : (w.alloc (.cells #[.int .i64 x, .int .i64 y, .int .i64 z] 46)).cell? ⟨w.heap.size, 0, none⟩ = some (.int .i64 x) ∧ (w.alloc (.cells #[.int .i64 x, .int .i64 y, .int .i64 z] 46)).cell? ⟨w.heap.size, 1, none⟩ = some (.int .i64 y) ∧ (w.alloc (.cells #[.int .i64 x, .int .i64 y, .int .i64 z] 46)).cell? ⟨w.heap.size, 2, none⟩ = some (.int .i64 z) := by
  refine ⟨?_, ?_, ?_⟩ <;> simp [World.cell?_alloc_new]
set_option maxHeartbeats 2000000 in
theorem due_any {w : World} {g : Nat} {s : Int} (hc : w.cell? ⟨g, 0, none⟩ = some (.int .i64 s)) (hg : g < w.heap.size) (x : Wr) (h0 : 0 ≤ x.2.1 ∧ x.2.1 ≤ 5) (h1 : 0 ≤ s * (5 - x.2.1) ∧ s * (5 - x.2.1) ≤ 5000) :
    Calls Try.prog 31 #[.pointer (some ⟨g, 0, none⟩), .agg #[.int .i64 x.1, .int .i64 x.2.1, .int .i64 x.2.2]] w fun e w' => e = .returned (.bool (decide (due s x))) ∧ Below w.heap.size w w' := by
  obtain ⟨i, p, b⟩ := x
  have HB := Lib.hid ((Below.refl w.heap.size w).alloc (Nat.le_refl _) (.cells #[.int .i64 i, .int .i64 p, .int .i64 b] 46))
  have k0 := (HB.out.cell (p := ⟨g, 0, none⟩) hg).trans hc
  obtain ⟨c0, c1, c2⟩ := box3_cells w i p b
  have hd : decide (due s (i, p, b)) = decide (s * (5 - p) ≤ b) := rfl
  rw [hd]
  have hp0 : 0 ≤ p := h0.1
  have hp1 : p ≤ 5 := h0.2
  have hm0 : 0 ≤ s * (5 - p) := h1.1
  have hm1 : s * (5 - p) ≤ 5000 := h1.2
  clear h0 h1 hd hc
  obtain ⟨n, hn⟩ : ∃ n : Int, n = w.heap.size := ⟨_, rfl⟩
  go_enter Try.func31, Try.ntmps31
  go_wp2_with fail
  generalize w.alloc (.cells #[.int .i64 i, .int .i64 p, .int .i64 b] 46) = w1 at *
  go_big_quiet (fail)
  go_wp2_with fail
  go_ret
  exact ⟨by first | rfl | simp, HB.out.trans (Bk.below_drewN _ _ _)⟩
theorem is_any {w : World} {b : Nat} {n : Int} (hc : w.cell? ⟨b, 0, none⟩ = some (.int .i64 n)) (hg : b < w.heap.size) (x : Wr) :
    Calls Try.prog 29 #[.agg #[.int .i64 x.1, .int .i64 x.2.1, .int .i64 x.2.2], .pointer (some ⟨b, 0, none⟩)] w fun e w' => e = .returned (.bool (x.1 == n)) ∧ Below w.heap.size w w' := by
  obtain ⟨i, p, y⟩ := x
  have HB := Lib.hid ((Below.refl w.heap.size w).alloc (Nat.le_refl _) (.cells #[.int .i64 i, .int .i64 p, .int .i64 y] 46))
  have k0 := (HB.out.cell (p := ⟨b, 0, none⟩) hg).trans hc
  obtain ⟨c0, c1, c2⟩ := box3_cells w i p y
  clear hc
  go_enter Try.func29, Try.ntmps29
  go_wp2_with fail
  go_ret
  exact ⟨by first | rfl | simp, HB.out⟩
/-- The first of which something is true. -/
def FirstIs (n : Nat) (p : Nat → Bool) (r : Int) : Prop := (∃ k : Nat, r = k ∧ k < n ∧ p k = true ∧ ∀ j, j < k → p j = false) ∨ (r = -1 ∧ ∀ j, j < n → p j = false)
def FirstTold (n : Nat) (p : Nat → Bool) (w : World) (e : Ending) (w' : World) : Prop := ∃ r : Int, e = .returned (.int .i64 r) ∧ FirstIs n p r ∧ Below w.heap.size w w'
set_option maxHeartbeats 2000000 in
theorem index_due (g : Nat) (A : Option Addr) (n cap : Nat) (L : List Wr) (p : Nat → Bool) (w : World) (hL : Wg w.heap.size w A n cap L) (hn : n ≤ 1000000)
    (hf : ∀ wx i, Below w.heap.size w wx → i < n → Calls Try.prog 31 #[.pointer (some ⟨g, 0, none⟩), .agg #[.int .i64 (wat L i).1, .int .i64 (wat L i).2.1, .int .i64 (wat L i).2.2]] wx fun e w' => e = .returned (.bool (p i)) ∧ Below wx.heap.size wx w') :
    Calls Try.prog 27 #[.slice A n cap, .func (.func 31) #[.pointer (some ⟨g, 0, none⟩)] #[]] w (FirstTold n p w) := by
  have HF := Lib.hid hf
  have HL := Lib.hid hL
  have hs := Gt.size hL
  have hs1 := hs.1
  have hs2 := hs.2
  clear hf hL hs
  go_enter Try.func27, Try.ntmps27
  go_wp2_with fail
  go_loopw [8] (fun iv wr => ∃ j : Nat, iv = .int .i64 (j : Int) ∧ j ≤ n ∧ Below w.heap.size w wr ∧ Hid (∀ t, t < j → p t = false)) (fun iv _ => n - (intOf iv).toNat)
  case atStart => exact ⟨0, rfl, Nat.zero_le _, Below.refl _ _, Lib.hid (fun t ht => by omega)⟩
  case round =>
    rename World => wr
    obtain ⟨j, rfl, hj, hb, HI⟩ := hrel
    have HB := Lib.hid hb
    clear hb
    by_cases hlj : j < n
    · have k1' : Wg wr.heap.size wr A n cap L := Gt.later HL.out HB.out
      obtain ⟨g1, o1, rfl, _, k1, k2, k3⟩ := k1'.cell hlj
      have hjI : (j : Int) < (n : Int) := by omega
      have HC := Lib.hid (HF.out wr j HB.out hlj)
      clear k1' HF
      generalize (wat L j).1 = x1 at *
      generalize (wat L j).2.1 = x2 at *
      generalize (wat L j).2.2 = x3 at *
      cases hp : p j with
      | false =>
        have HP := Lib.hid hp
        rw [hp] at HC
        clear hp
        go_wp2_with fail
        refine HC.out.mono ?_
        rintro e w3 ⟨rfl, hb3⟩
        have HB3 := Lib.hid (HB.out.trans (hb3.mono HB.out.size))
        clear hb3
        go_wp2_with fail
        go_roundw
        case rel => exact ⟨j + 1, by go_num, by omega, HB3.out, Lib.hid (fun t ht => by
          rcases Nat.lt_or_ge t j with q | q
          · exact HI.out t q
          · obtain rfl : t = j := by omega
            exact HP.out)⟩
        case measure => simp [intOf]; omega
      | true =>
        have HP := Lib.hid hp
        rw [hp] at HC
        clear hp
        go_wp2_with fail
        refine HC.out.mono ?_
        rintro e w3 ⟨rfl, hb3⟩
        have HB3 := Lib.hid (HB.out.trans (hb3.mono HB.out.size))
        clear hb3
        go_wp2_with fail
        go_ret
        exact ⟨_, rfl, .inl ⟨j, rfl, hlj, HP.out, HI.out⟩, HB3.out⟩
    · obtain rfl : j = n := by omega
      go_wp2_with fail
      go_ret
      exact ⟨_, rfl, .inr ⟨rfl, HI.out⟩, HB.out⟩
set_option maxHeartbeats 2000000 in
theorem index_id (g : Nat) (A : Option Addr) (n cap : Nat) (L : List Wr) (p : Nat → Bool) (w : World) (hL : Wg w.heap.size w A n cap L) (hn : n ≤ 1000000)
    (hf : ∀ wx i, Below w.heap.size w wx → i < n → Calls Try.prog 29 #[.agg #[.int .i64 (wat L i).1, .int .i64 (wat L i).2.1, .int .i64 (wat L i).2.2], .pointer (some ⟨g, 0, none⟩)] wx fun e w' => e = .returned (.bool (p i)) ∧ Below wx.heap.size wx w') :
    Calls Try.prog 27 #[.slice A n cap, .func (.func 29) #[] #[.pointer (some ⟨g, 0, none⟩)]] w (FirstTold n p w) := by
  have HF := Lib.hid hf
  have HL := Lib.hid hL
  have hs := Gt.size hL
  have hs1 := hs.1
  have hs2 := hs.2
  clear hf hL hs
  go_enter Try.func27, Try.ntmps27
  go_wp2_with fail
  go_loopw [8] (fun iv wr => ∃ j : Nat, iv = .int .i64 (j : Int) ∧ j ≤ n ∧ Below w.heap.size w wr ∧ Hid (∀ t, t < j → p t = false)) (fun iv _ => n - (intOf iv).toNat)
  case atStart => exact ⟨0, rfl, Nat.zero_le _, Below.refl _ _, Lib.hid (fun t ht => by omega)⟩
  case round =>
    rename World => wr
    obtain ⟨j, rfl, hj, hb, HI⟩ := hrel
    have HB := Lib.hid hb
    clear hb
    by_cases hlj : j < n
    · have k1' : Wg wr.heap.size wr A n cap L := Gt.later HL.out HB.out
      obtain ⟨g1, o1, rfl, _, k1, k2, k3⟩ := k1'.cell hlj
      have hjI : (j : Int) < (n : Int) := by omega
      have HC := Lib.hid (HF.out wr j HB.out hlj)
      clear k1' HF
      generalize (wat L j).1 = x1 at *
      generalize (wat L j).2.1 = x2 at *
      generalize (wat L j).2.2 = x3 at *
      cases hp : p j with
      | false =>
        have HP := Lib.hid hp
        rw [hp] at HC
        clear hp
        go_wp2_with fail
        refine HC.out.mono ?_
        rintro e w3 ⟨rfl, hb3⟩
        have HB3 := Lib.hid (HB.out.trans (hb3.mono HB.out.size))
        clear hb3
        go_wp2_with fail
        go_roundw
        case rel => exact ⟨j + 1, by go_num, by omega, HB3.out, Lib.hid (fun t ht => by
          rcases Nat.lt_or_ge t j with q | q
          · exact HI.out t q
          · obtain rfl : t = j := by omega
            exact HP.out)⟩
        case measure => simp [intOf]; omega
      | true =>
        have HP := Lib.hid hp
        rw [hp] at HC
        clear hp
        go_wp2_with fail
        refine HC.out.mono ?_
        rintro e w3 ⟨rfl, hb3⟩
        have HB3 := Lib.hid (HB.out.trans (hb3.mono HB.out.size))
        clear hb3
        go_wp2_with fail
        go_ret
        exact ⟨_, rfl, .inl ⟨j, rfl, hlj, HP.out, HI.out⟩, HB3.out⟩
    · obtain rfl : j = n := by omega
      go_wp2_with fail
      go_ret
      exact ⟨_, rfl, .inr ⟨rfl, HI.out⟩, HB.out⟩

end Ag
end Go.Proofs.Ytgeahckblgpnmaa
