/-
  The document's reader: Of.
-/
import Derived.Test.YtbdlcmpljhbebaaBitsV3
import Derived.Deep.AppendLies
import Derived.Deep.RegionLaw
set_option linter.unusedVariables false
namespace Go.Proofs.Ytbdlcmpljhbebaa
open Go.RowKit Bp

/-- What Of tells. -/
def OfTold (w : World) (zs : List Nat) (e : Ending) (w' : World) : Prop := ∃ b v, e = .returned (.pointer (some ⟨b, 0, none⟩)) ∧ Rv w.heap.size w' b v zs 0 0 ∧ Below w.heap.size w w'

theorem of_step {w wr w5 w6 : World} {la : Option Addr} {k lc g6 c6 z : Nat} {ys : List Nat} {bs : List Bool} (hR : Rv w.heap.size wr w.heap.size (.slice la (8 * k) lc) ys 0 0) (hB : Below w.heap.size w wr)
    (h5 : Below wr.heap.size wr.drew w5) (ho : w6.ownsRow w.heap.size 4 1 (.slice (some ⟨g6, 0, none⟩) (8 * k + 8) c6) (8 * k + 8) (bb bs ++ bb (bitsOf z 8))) (hg : w5.grownBy w6 (Value.slice la (8 * k) lc).ownBlock)
    (hat : (Value.slice la (8 * k) lc).ownBlock = some g6 ∨ g6 = w5.heap.size) (hl : ys.length = k) (hbs : bitsZ ys = bs) (hf : k + 1 ≤ 1048576) :
    Rv w.heap.size (w6.setCell ⟨w.heap.size, 0, none⟩ (.slice (some ⟨g6, 0, none⟩) (8 * k + 8) c6)) w.heap.size (.slice (some ⟨g6, 0, none⟩) (8 * k + 8) c6) (ys ++ [z]) 0 0 ∧
    Below w.heap.size w (w6.setCell ⟨w.heap.size, 0, none⟩ (.slice (some ⟨g6, 0, none⟩) (8 * k + 8) c6)) := by
  have hlt : w.heap.size < wr.heap.size := lt_of_heap hR.box
  have hlt5 : w.heap.size < w5.heap.size := Nat.lt_of_lt_of_le hlt h5.size
  have hgb : g6 ≠ w.heap.size := by
    rcases hat with h | h
    · intro e; exact hR.ne (by rw [h, e])
    · omega
  have hb5 : w5.heap[w.heap.size]? = some (.cells #[.slice la (8 * k) lc, .int .i64 ((0 : Nat) : Int), .int .i64 0] 38 (0, 0)) := (h5.block w.heap.size hlt).trans hR.box
  have hb6 := (hg.block w.heap.size hlt5 (fun e => hR.ne e.symm)).trans hb5
  refine ⟨⟨?_, ?_, by simp only [Value.ownBlock, ne_eq, Option.some.injEq]; exact hgb, Nat.le_refl _, by omega, by simp; omega⟩, ?_⟩
  · rw [heap_setCell_same w6 w.heap.size 0 _ _ _ hb6]; simp
  · have h1 := ownsRow_setCell_other ho (a := ⟨w.heap.size, 0, none⟩) (by simp only [Value.ownBlock, ne_eq, Option.some.injEq]; exact hgb) (.slice (some ⟨g6, 0, none⟩) (8 * k + 8) c6)
    rw [List.length_append, List.length_singleton, hl, bitsZ_snoc, hbs, bb_app, show 8 * (k + 1) = 8 * k + 8 by omega]
    exact h1
  · have h1 : Below w.heap.size w w5 := hB.trans ((⟨h5.os, h5.tape, h5.output, h5.size, h5.block⟩ : Below wr.heap.size wr w5).mono (Nat.le_of_lt hlt))
    exact (Below.grown h1 hg (Nat.le_of_lt hlt5) (fun k hk => (hR.row.lt k hk).1)).setCell (p := ⟨w.heap.size, 0, none⟩) (Nat.le_refl _) _

set_option maxHeartbeats 2000000 in
theorem refOf_any (C : Nat) (v : Value) (zs : List Nat) (w : World) (h : w.ownsRow C 5 1 v zs.length (bc zs)) (hl : zs.length ≤ 1048576) (hz : ∀ z ∈ zs, z ≤ 255) :
    Calls Try.prog 14 #[v] w fun e w' => OfTold w zs e w' := by
  obtain ⟨i0, hi, hz0, hz1, hz2⟩ := info_parts Try.infoBool
  obtain ⟨va, vc, hv⟩ := ownsRow_shape h
  subst hv
  have HO := Lib.hid h
  have HZ := Lib.hid hz
  obtain ⟨n, hn⟩ : ∃ n, n = zs.length := ⟨_, rfl⟩
  rw [← hn] at hl HO ⊢
  have HN := Lib.hid hn
  clear h hz hn
  have HS : Hid (Rv w.heap.size (w.alloc (.cells #[.slice none 0 0, .int .i64 0, .int .i64 0] 38)) w.heap.size (.slice none 0 0) [] 0 0) := Lib.hid
    ⟨heap_alloc_new w _, World.ownsRow_nil _ _ _ _, by simp [Value.ownBlock], Nat.le_refl _, by simp, by simp⟩
  have HSB : Hid (Below w.heap.size w (w.alloc (.cells #[.slice none 0 0, .int .i64 0, .int .i64 0] 38))) := Lib.hid ((Below.refl _ _).alloc (Nat.le_refl _) _)
  obtain ⟨b, hb⟩ : ∃ b, b = w.heap.size := ⟨_, rfl⟩
  have HBB := Lib.hid hb
  go_enter Try.func14, Try.ntmps14
  go_wp2
  go_loopw [4] (fun iv wr => ∃ (k : Nat) (lv : Value), k ≤ n ∧ iv = .int .i64 (k : Int) ∧ Rv w.heap.size wr w.heap.size lv (zs.take k) 0 0 ∧ Below w.heap.size w wr) (fun iv _ => n - (intOf iv).toNat)
  case atStart => exact ⟨0, _, Nat.zero_le _, rfl, by rw [List.take_zero]; exact HS.out, HSB.out⟩
  case round =>
    obtain ⟨k, lv, hk, rfl, hR, hBw⟩ := hrel
    clear HS HSB
    by_cases hlt : k < n
    · obtain ⟨g, cc, hsh⟩ := shape_of HO.out (by omega)
      simp only [Value.slice.injEq, true_and] at hsh
      obtain ⟨rfl, rfl⟩ := hsh
      have hgl : g < w.heap.size := (HO.out.lt g rfl).2
      obtain ⟨z, hzk⟩ : ∃ z, z = zs.getD k 0 := ⟨_, rfl⟩
      have hkl : k < zs.length := by rw [← HN.out]; exact hlt
      have cz : wr.cell? ⟨g, k, none⟩ = some (.int .u8 (z : Int)) := by
        rw [hBw.cell (p := ⟨g, k, none⟩) hgl, HO.out.cellAt k (by omega), hzk]
        simp [bc, List.getD, List.getElem?_eq_getElem hkl]
      have hzb : z ≤ 255 := by
        rw [hzk, List.getD, List.getElem?_eq_getElem hkl]
        exact HZ.out _ (List.getElem_mem hkl)
      have HTK : Hid (zs.take (k + 1) = zs.take k ++ [z]) := Lib.hid (by
        rw [List.take_succ_eq_append_getElem hkl, hzk]
        simp [List.getD, List.getElem?_eq_getElem hkl])
      have htl : (zs.take k).length = k := by rw [List.length_take]; omega
      obtain ⟨la, lc, hlv⟩ := ownsRow_shape hR.row
      rw [htl] at hlv
      subst hlv
      have c0 := hR.cells.1
      have f0 : wr.frozen? ⟨w.heap.size, 0, none⟩ = false := frozen_of_row wr w.heap.size 0 _ _ hR.box
      have hbl : w.heap.size < wr.heap.size := lt_of_heap hR.box
      have HL : Hid (wr.ownsRow w.heap.size 4 1 (.slice la (8 * k) lc) (8 * k) (bb (bitsZ (zs.take k)))) := Lib.hid (by have := hR.row; rw [htl] at this; exact this)
      have HR := Lib.hid hR
      have HBw := Lib.hid hBw
      have HNE := Lib.hid hR.ne
      have HTL := Lib.hid htl
      clear hR hBw hzk hkl htl
      generalize hbs : bitsZ (zs.take k) = bs at HL
      have HBS := Lib.hid hbs
      clear hbs
      have hwz : IntKind.u64.wrap (z : Int) = (z : Int) := IntWalk.u64_in _ (by omega)
      have hk1 : (k : Int) < (n : Int) := by omega
      go_wp2
      go_region_law (first | (refine step_append_lies _ (by rfl) _ _ _ (by rfl) w.heap.size 4 i0 _ 1 1 Try.underlying35 hi hz0 hz1 hz2 rfl (by omega) (.slice la (8 * k) lc) (8 * k) (bb bs) (by rfl) HL5.out ⟨g5, 0, none⟩ 8 c5 (bb (bitsOf z 8)) (by rfl) (by rfl) HN5.out (bb_one _) (by omega) (by unfold maxLen; omega) (by omega) hsz5 w5.heap.size rfl ?_; intro g6 c6 w6 hown6 hgrow6 hat6 hlt6; have d0 := (World.cell?_of_block (a := ⟨w.heap.size, 0, none⟩) (hgrow6.block w.heap.size hbl5 HNB.out)).trans c05; have d1 := (World.frozen?_of_block (a := ⟨w.heap.size, 0, none⟩) (hgrow6.block w.heap.size hbl5 HNB.out)).trans f05; have HO6 := Lib.hid hown6; have HG6 := Lib.hid hgrow6; clear hown6 hgrow6) | (go_simp; go_at_call 39; refine (refBits_int z 8 _ _ (by omega) (by omega) _ rfl rfl).mono ?_; rintro e w5 ⟨v5, rfl, hS5, hO5, hB5⟩; obtain ⟨g5, c5, hv5⟩ := shape_of hO5 (by omega); subst hv5; have c05 := (hB5.cell (p := ⟨w.heap.size, 0, none⟩) hbl).trans c0; have f05 := (hB5.frozen (p := ⟨w.heap.size, 0, none⟩) hbl).trans f0; have hbl5 := Nat.lt_of_lt_of_le hbl hB5.size; have hsz5 : w.heap.size ≤ w5.heap.size := (by omega); have HL5 := Lib.hid (ownsRow_same HL.out (fun k hk => hB5.block k (HL.out.lt k hk).2)); have HN5 := Lib.hid (hO5.cells (g := g5) rfl); have HNB := Lib.hid (fun e => HNE.out (Eq.symm e)); have HB5 := Lib.hid hB5; clear hS5 hO5 hB5))
      all_goals
        go_wp2
        go_roundw
        case rel =>
          have hst := of_step HR.out HBw.out HB5.out HO6.out HG6.out hat6 HTL.out HBS.out (by omega)
          exact ⟨k + 1, _, by omega, by go_num, by rw [HTK.out]; exact hst.1, hst.2⟩
        case measure => simp [intOf]; omega
    · obtain rfl : k = n := by omega
      have HR := Lib.hid hR
      have HBw := Lib.hid hBw
      clear hR hBw
      go_wp2
      go_ret
      refine ⟨w.heap.size, lv, rfl, ?_, HBw.out⟩
      have := HR.out
      rw [List.take_of_length_le (by rw [← HN.out]; exact Nat.le_refl _)] at this
      exact this

end Go.Proofs.Ytbdlcmpljhbebaa
