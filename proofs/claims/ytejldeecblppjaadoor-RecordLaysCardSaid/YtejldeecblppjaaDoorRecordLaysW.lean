/-
  Layer 17: which records may be, and their bytes, are the document's: the law's walk.
-/
import Derived.Test.YtejldeecblppjaaDoorRcS
import Derived.Deep.RegionHeld3
set_option linter.unusedVariables false
set_option maxRecDepth 100000
namespace Go.Proofs.YtejldeecblppjaaDoor
namespace Rc
open Go.RowKit Bp Ck
/-- What Lay comes to. -/
noncomputable def layZ (k : Nat) (i r p c q : Int) : List Nat := if Rok k (five i r p c q) then pack (kb 3 k (fl k) (natN (five i r p c q))) else []
def layE (k : Nat) (i r p c q : Int) : Int := if Rok k (five i r p c q) then 0 else 1
def LayAll (zs : List Nat) (E : Int) (w : World) (e : Ending) (w' : World) : Prop := ∃ A c, e = .returned (.tuple #[.slice A zs.length c, .int .i64 E]) ∧ By w'.heap.size w' A zs.length c zs ∧ Below w.heap.size w w'
theorem lay_all (k : Nat) (i r p c q : Int) (w : World) (hS : Shp w) : Calls Tryd.prog 10 #[.agg #[.int .u8 (k : Int), .int .i64 i, .int .i64 r, .int .i64 p, .int .i64 c, .int .i64 q]] w (LayAll (layZ k i r p c q) (layE k i r p c q) w) := by
  unfold layZ layE
  by_cases h : Rok k (five i r p c q)
  · rw [if_pos h, if_pos h]
    refine (lay_ok k i r p c q w h hS).mono ?_
    intro e w' ht
    exact ht.own (pack_byte _)
  · rw [if_neg h, if_neg h]
    refine (lay_no k i r p c q w h hS).mono ?_
    rintro e w' ⟨rfl, hb⟩
    exact ⟨none, 0, rfl, By.none_ _ _, hb⟩
theorem rlay_all (k : Nat) (i r p c q : Int) (w : World) : Calls Tryd.prog 11 #[.agg #[.int .u8 (k : Int), .int .i64 i, .int .i64 r, .int .i64 p, .int .i64 c, .int .i64 q]] w (LayAll (layZ k i r p c q) (layE k i r p c q) w) := by
  unfold layZ layE
  by_cases h : Rok k (five i r p c q)
  · rw [if_pos h, if_pos h]
    refine (rlay_ok k i r p c q w h).mono ?_
    intro e w' ht
    exact ht.own (pack_byte _)
  · rw [if_neg h, if_neg h]
    refine (rlay_no k i r p c q w h).mono ?_
    rintro e w' ⟨rfl, hb⟩
    exact ⟨none, 0, rfl, By.none_ _ _, hb⟩
set_option maxHeartbeats 4000000 in
theorem recordLays_walk (k : Nat) (hk : k ≤ 255) (i r p c q : Int) (w : World) (hS : Shp w) :
    Calls Tryd.prog 3 #[.agg #[.int .u8 (k : Int), .int .i64 i, .int .i64 r, .int .i64 p, .int .i64 c, .int .i64 q]] w fun e w' => e = .returned (.bool true) ∧ Below w.heap.size w w' := by
  have h0 := Hr.start (k := k) (i := i) (r := r) (p := p) (c := c) (q := q) hS
  have HL := Lib.hid (lay_all k i r p c q _ h0.2.1)
  have HRL := Lib.hid (fun W => rlay_all k i r p c q W)
  have HRT := Lib.hid (fun W (h : Shp W) => right_any k i r p c q W h)
  have HRR := Lib.hid (fun W => rright_any k i r p c q W)
  unfold RightTold at HRT
  have H0 := Lib.hid h0
  generalize layZ k i r p c q = zs at *
  generalize layE k i r p c q = E at *
  generalize decide (Rok k (five i r p c q)) = y at *
  clear h0 hS
  go_enter Tryd.func3, Tryd.ntmps3
  go_wp2_with fail
  refine HL.out.mono ?_
  rintro e w1 ⟨A1, c1, rfl, hy1, hb⟩
  have h1 := H0.out.later hb
  obtain ⟨y0, y1, y2, y3, y4, y5⟩ := h1.cells
  obtain ⟨L, hL⟩ : ∃ L, zs.length = L := ⟨_, rfl⟩
  rw [hL] at hy1 ⊢
  have HLN := Lib.hid hL
  have HY1 := Lib.hid hy1
  have H1 := Lib.hid h1
  clear hb h1 hy1 hL HL H0
  go_wp2_with fail
  refine (HRL.out _).mono ?_
  rintro e w2 ⟨A2, c2, rfl, hy2, hb⟩
  have h2 := H1.out.later hb
  rw [HLN.out] at hy2 ⊢
  clear y0 y1 y2 y3 y4 y5
  have HY1 := Lib.hid ((by_later HY1.out (Nat.le_refl _) hb).mono hb.size)
  have HY2 := Lib.hid hy2
  have H2 := Lib.hid h2
  obtain ⟨S, hSt⟩ : ∃ S, strOf zs = S := ⟨_, rfl⟩
  have HCV : Hid (∀ W, Below w2.heap.size w2 W → _) := Lib.hid (fun W (hW : Below w2.heap.size w2 W) => (⟨((H2.out.later hW).cells), (by have := (HY1.out.below hW).conv; rw [hSt] at this; exact this : (convert 24 9 (.slice A1 L c1)).run Tryd.prog W = .ok (.string S) W), (by have := (HY2.out.below hW).conv; rw [hSt] at this; exact this : (convert 24 9 (.slice A2 L c2)).run Tryd.prog W = .ok (.string S) W)⟩ : _ ∧ _ ∧ _))
  obtain ⟨⟨y0, y1, y2, y3, y4, y5⟩, q1, q2⟩ := HCV.out w2 (Below.refl _ _)
  have HBc := Lib.hid ((Below.refl w2.heap.size w2).drew)
  have HSW := Lib.hid (fun W (hW : Below w2.heap.size w2 W) => shown_any W (H2.out.later hW).2.1)
  have HR1 := Lib.hid (fun W (hW : Below w2.heap.size w2 W) => HRT.out W (H2.out.later hW).2.1)
  clear hb h2 hy2 hSt HRL HRT
  go_wp2_with fail
  go_region_held3 (fun w' => (w'.cell? ⟨w.heap.size, 0, none⟩ = some (.int .u8 (k : Int)) ∧ w'.cell? ⟨w.heap.size, 1, none⟩ = some (.int .i64 i) ∧ w'.cell? ⟨w.heap.size, 2, none⟩ = some (.int .i64 r) ∧ w'.cell? ⟨w.heap.size, 3, none⟩ = some (.int .i64 p) ∧ w'.cell? ⟨w.heap.size, 4, none⟩ = some (.int .i64 c) ∧ w'.cell? ⟨w.heap.size, 5, none⟩ = some (.int .i64 q)) ∧ (convert 24 9 (.slice A1 L c1)).run Tryd.prog w' = .ok (.string S) w' ∧ (convert 24 9 (.slice A2 L c2)).run Tryd.prog w' = .ok (.string S) w')
    (first | (with_reducible exact HCV.out _ HBc.out) | assumption | go_keep)
    ((first
      | (go_at_call 12; refine (HSW.out _ HBc.out).mono ?_; rintro e wa ⟨rfl, hb⟩; have HBc := Lib.hid (below_two HBc.out hb); clear hb)
      | (go_at_call 13; refine (HR1.out _ HBc.out).mono ?_; rintro e wa ⟨rfl, hb⟩; have HBc := Lib.hid (below_two HBc.out hb); clear hb)
      | (go_at_call 14; refine (HRR.out _).mono ?_; rintro e wa ⟨rfl, hb⟩; have HBc := Lib.hid (below_two HBc.out hb); clear hb)
      | fail))
  all_goals
    go_wp2
    go_ret
    exact ⟨rfl, (H2.out.later HBc.out).2.2⟩
end Rc
end Go.Proofs.YtejldeecblppjaaDoor
