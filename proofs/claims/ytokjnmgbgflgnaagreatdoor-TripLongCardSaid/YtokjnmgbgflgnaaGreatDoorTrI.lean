/-
  Layer 10: slices.Grow of nothing and slices.Concat, at acts.
-/
import Derived.Test.YtokjnmgbgflgnaaGreatDoorTrH
import Derived.Lib.AppendZeros
set_option linter.unusedVariables false
set_option maxRecDepth 100000
namespace Go.Proofs.YtokjnmgbgflgnaaGreatDoor
namespace Tr
open Go.RowKit Fl Pt
open Bk (Gt)

set_option maxHeartbeats 1000000 in
/-- Room for so many acts. -/
theorem grow_any (n : Nat) (h0 : 0 < n) (hn : n ≤ 1000000) (w : World) :
    Calls Tryz.prog 51 #[.slice none 0 0, .int .i64 (n : Int)] w fun e w' => ∃ cap, e = .returned (.slice (some ⟨w.heap.size, 0, none⟩) 0 cap) ∧ Aw w' w.heap.size (.slice (some ⟨w.heap.size, 0, none⟩) 0 cap) [] ∧ Below w.heap.size w w' := by
  obtain ⟨i0, hi, hz0, hz1, hz2⟩ := info_parts Tryz.infoAct
  have hrun := fun wx ty => Lib.run_append_nil_zeros (P := Tryz.prog) wx 29 3 ty 44 i0 (.agg #[.int .u8 0, .int .i64 0, .int .i64 0]) .i64 .i64 Tryz.underlying29 Tryz.underlying3 hi hz0 n h0 (by rw [hz1]; decide) (by omega) (by rw [hz2]; omega)
  have hge := grownCap_ge w n 0 44
  have hle := grownCap_le_maxLen w n 0 44 (by unfold maxLen; omega)
  have hle2 : grownCap w n 0 44 ≤ 9223372036854775807 := by unfold maxLen at hle; omega
  have hown : Hid (Aw (w.drew.alloc (.cells (Builtin.zeroCells (Value.agg #[.int .u8 0, .int .i64 0, .int .i64 0]).cells n ++ Builtin.zeroCells (Value.agg #[.int .u8 0, .int .i64 0, .int .i64 0]).cells (grownCap w n 0 44 - n)) 44)) w.heap.size (.slice (some ⟨w.heap.size, 0, none⟩) 0 (grownCap w n 0 44)) []) := Lib.hid (by
    refine ⟨rfl, .inr ⟨w.heap.size, _, _, rfl, Nat.le_refl _, heap_alloc_new w.drew _, Nat.zero_le _, hle, ?_, by simp [acv]⟩⟩
    simp only [Array.size_append, size_zeroCells]
    have e : (Value.agg #[.int .u8 0, .int .i64 0, .int .i64 0]).cells.size = 3 := rfl
    rw [e]; omega)
  have hbel : Hid (Below w.heap.size w (w.drew.alloc (.cells (Builtin.zeroCells (Value.agg #[.int .u8 0, .int .i64 0, .int .i64 0]).cells n ++ Builtin.zeroCells (Value.agg #[.int .u8 0, .int .i64 0, .int .i64 0]).cells (grownCap w n 0 44 - n)) 44))) := Lib.hid (((Below.refl _ _).drew).alloc (Nat.le_refl _) _)
  have hnI : (0 : Int) < (n : Int) := by omega
  clear hi hz0 hz1 hz2
  go_enter Tryz.func51, Tryz.ntmps51
  go_wp2_with (at_builtin; refine Lib.wpList_append_run _ rfl _ _ _ _ rfl _ _ rfl rfl _ _ (hrun _ _) ?_)
  go_ret
  exact ⟨_, rfl, hown.out, hbel.out⟩

/-- Lists of acts at a slice. -/
structure All (B : Nat) (w : World) (A : Option Addr) (n cap : Nat) (Ls : List (List Ac)) : Prop where
  len : Ls.length = n
  le : n ≤ cap ∧ cap ≤ 9223372036854775807
  cell : ∀ j, j < n → ∃ g off A' n' c', A = some ⟨g, off, none⟩ ∧ g < B ∧ w.cell? ⟨g, off + j, none⟩ = some (.slice A' n' c') ∧ Al B w A' n' c' (Ls.getD j [])
theorem All.below {B : Nat} {w w' : World} {A : Option Addr} {n cap : Nat} {Ls : List (List Ac)} (h : All B w A n cap Ls) (hb : Below B w w') : All B w' A n cap Ls :=
  ⟨h.len, h.le, fun j hj => by
    obtain ⟨g, off, A', n', c', h1, h2, h3, h4⟩ := h.cell j hj
    exact ⟨g, off, A', n', c', h1, h2, (hb.cell (p := ⟨g, off + j, none⟩) h2).trans h3, h4.below hb⟩⟩
theorem flat_take (Ls : List (List Ac)) (i : Nat) (h : i < Ls.length) : (Ls.take (i + 1)).flatten = (Ls.take i).flatten ++ Ls.getD i [] := by
  rw [take_snoc Ls i [] h, List.flatten_append]
  simp
theorem flat_le (Ls : List (List Ac)) (i : Nat) : ((Ls.take i).flatten).length ≤ Ls.flatten.length := by
  conv => rhs; rw [← List.take_append_drop i Ls, List.flatten_append, List.length_append]
  omega
set_option maxHeartbeats 4000000 in
theorem concat_any (A : Option Addr) (n cap : Nat) (Ls : List (List Ac)) (w : World) (h : All w.heap.size w A n cap Ls) (h0 : 0 < Ls.flatten.length) (hmax : Ls.flatten.length ≤ 1000000) :
    Calls Tryz.prog 29 #[.slice A n cap] w fun e w' => ∃ A' n' c', e = .returned (.slice A' n' c') ∧ n' = Ls.flatten.length ∧ Aw w' w.heap.size (.slice A' n' c') Ls.flatten ∧ Below w.heap.size w w' := by
  have HL := Lib.hid h
  have hlen := h.len
  obtain ⟨hc1, hc2⟩ := h.le
  have HMAX := Lib.hid hmax
  have H0 := Lib.hid h0
  clear h h0 hmax
  go_enter Tryz.func29, Tryz.ntmps29
  go_wp2_with fail
  go_loopw [3, 11] (fun sv iv wr => ∃ i q : Nat, i ≤ n ∧ sv = .int .i64 (q : Int) ∧ iv = .int .i64 (i : Int) ∧ q ≤ 1000000 ∧ Hid (q = ((Ls.take i).flatten).length) ∧ Hid (Below w.heap.size w wr)) (fun _ iv _ => n - (intOf iv).toNat)
  case atStart => exact ⟨0, 0, Nat.zero_le _, rfl, rfl, by omega, Lib.hid (by simp), Lib.hid (Below.refl _ _)⟩
  case round =>
    rename World => wr
    obtain ⟨i, q, hi, rfl, rfl, hq, HQ, HB⟩ := hrel
    by_cases hlt : i < n
    · obtain ⟨g, off, A1, n1, c1, rfl, hg, hcell, hal⟩ := (HL.out.below HB.out).cell i hlt
      have hiI : (i : Int) < (n : Int) := by omega
      have HF := Lib.hid (flat_take Ls i (by omega))
      have HFL := Lib.hid (flat_le Ls (i + 1))
      have hn1 := hal.len
      have HQ2 : Hid (q + n1 = ((Ls.take (i + 1)).flatten).length) := Lib.hid (by rw [HF.out, List.length_append, hn1, HQ.out])
      have hq2 : q + n1 ≤ 1000000 := by have h1 := HQ2.out; have h2 := HFL.out; have h3 := HMAX.out; omega
      have hg2 : g < wr.heap.size := Nat.lt_of_lt_of_le hg HB.out.size
      have hng : ¬ ((q : Int) + (n1 : Int) < 0) := by omega
      clear hal hn1
      go_wp2_with fail
      go_roundw
      case rel => exact ⟨i + 1, q + n1, by omega, by go_num, by go_num, hq2, HQ2, HB⟩
      case measure => simp [intOf]; omega
    · obtain rfl : i = n := by omega
      have HQA : Hid (q = Ls.flatten.length) := Lib.hid (by rw [HQ.out, List.take_of_length_le (by omega)])
      have hq0 : 0 < q := by have h1 := HQA.out; have h2 := H0.out; omega
      go_wp2_with fail
      refine (grow_any q hq0 hq _).mono ?_
      rintro e w1 ⟨k1, rfl, ho1, hb1⟩
      have HB1 := Lib.hid (HB.out.trans (hb1.mono HB.out.size))
      have HO1 : Hid (Aw w1 w.heap.size (.slice (some ⟨wr.heap.size, 0, none⟩) 0 k1) []) := Lib.hid (Bk.own_lower ho1 HB.out.size)
      clear ho1 hb1 hq0 hq
      go_wp2_with fail
      go_loopw [6, 27] (fun zv iv wz => ∃ (j : Nat) (A3 : Option Addr) (n3 k3 : Nat), j ≤ i ∧ zv = .slice A3 n3 k3 ∧ iv = .int .i64 (j : Int) ∧ Hid (n3 = ((Ls.take j).flatten).length ∧ Aw wz w.heap.size (.slice A3 n3 k3) ((Ls.take j).flatten)) ∧ Hid (Below w.heap.size w wz)) (fun _ iv _ => i - (intOf iv).toNat)
      case atStart => exact ⟨0, _, 0, k1, Nat.zero_le _, rfl, rfl, Lib.hid ⟨by simp, by simpa using HO1.out⟩, HB1⟩
      case round =>
        rename World => wz
        obtain ⟨j, A3, n3, k3, hj, rfl, rfl, HO, HB⟩ := hrel
        by_cases hlt : j < i
        · obtain ⟨g, off, A1, n1, c1, rfl, hg, hcell, hal⟩ := (HL.out.below HB.out).cell j hlt
          have hjI : (j : Int) < (i : Int) := by omega
          have HF := Lib.hid (flat_take Ls j (by omega))
          have HFL := Lib.hid (flat_le Ls (j + 1))
          have HAL := Lib.hid (hal.raise HB.out.size)
          have HSZ : Hid (((Ls.take j).flatten).length + n1 ≤ 1000000) := Lib.hid (by have h1 := HFL.out; rw [HF.out, List.length_append, hal.len] at h1; have h3 := HMAX.out; omega)
          have hg2 : g < wz.heap.size := Nat.lt_of_lt_of_le hg HB.out.size
          clear hal
          go_wp2_with (at_builtin; refine app_acts rfl _ _ rfl w.heap.size _ ((Ls.take j).flatten) rfl HO.out.2 A1 n1 c1 (Ls.getD j []) rfl HAL.out HSZ.out HB.out.size ?_; intro A' n' c' w6 hn6 ho6 hb6 hg6 _; have HN6 := Lib.hid hn6; have HO6 := Lib.hid ho6; have HB6 := Lib.hid hb6; clear hn6 ho6 hb6 hg6)
          go_roundw
          case rel => exact ⟨j + 1, A', n', c', by omega, rfl, by go_num, Lib.hid (by rw [HF.out]; exact ⟨HN6.out, HO6.out⟩), Lib.hid (HB.out.trans HB6.out)⟩
          case measure => simp [intOf]; omega
        · obtain rfl : j = i := by omega
          have HFIN : Hid (n3 = Ls.flatten.length ∧ Aw wz w.heap.size (.slice A3 n3 k3) Ls.flatten) := Lib.hid (by have h1 := HO.out; rw [List.take_of_length_le (by omega)] at h1; exact h1)
          go_wp2_with fail
          go_ret
          exact ⟨A3, n3, k3, rfl, HFIN.out.1, HFIN.out.2, HB.out⟩
end Tr
end Go.Proofs.YtokjnmgbgflgnaaGreatDoor
