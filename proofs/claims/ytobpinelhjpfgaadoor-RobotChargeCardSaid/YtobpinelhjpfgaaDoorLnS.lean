/-
  Layer 14: the document's Take: its reader, its steps.
-/
import Derived.Test.YtobpinelhjpfgaaDoorLnR
import Derived.Test.YtobpinelhjpfgaaDoorBtSev
import Derived.Deep.LoopGhost
import Derived.Laws.ResultCell
import Derived.Deep.QuietTactic
import Derived.BigQuiet
set_option linter.unusedVariables false
set_option maxRecDepth 100000
namespace Go.Proofs.YtobpinelhjpfgaaDoor
namespace Ln
open Go.RowKit Bp Ck
theorem rv_get1 {B b : Nat} {v : Value} {w : World} {zs : List Nat} (h : Rv B w b v zs 0 0) :
    Calls Tryd.prog 51 #[.pointer (some ⟨b, 0, none⟩), .int .i64 1] w fun e w' => ∃ (N p' : Nat) (f' : Int), e = .returned (.int .u64 (N : Int)) ∧ RvTo B w b v zs p' f' w' ∧ ((1 ≤ 8 * zs.length ∧ N = tk zs 0 1 ∧ p' = 1 ∧ f' = 0) ∨ (zs.length = 0 ∧ N = 0 ∧ p' = 0 ∧ f' ≠ 0)) := by
  by_cases hs : 0 + 1 ≤ 8 * zs.length
  · refine (vget_ok B b v zs 0 1 w h (by omega) hs).mono ?_
    rintro e w' ⟨rfl, ht⟩
    exact ⟨_, _, _, rfl, ht, .inl ⟨by omega, rfl, rfl, rfl⟩⟩
  · refine (vget_short B b v zs 0 1 w h (by omega) (by omega)).mono ?_
    rintro e w' ⟨rfl, ht⟩
    exact ⟨0, _, _, rfl, ht, .inr ⟨by omega, rfl, rfl, by decide⟩⟩
theorem rv_count1 {B b : Nat} {v : Value} {w : World} {zs : List Nat} {p : Nat} {f : Int} (h : Rv B w b v zs p f) :
    Calls Tryd.prog 52 #[.pointer (some ⟨b, 0, none⟩)] w fun e w' => ∃ (N p' : Nat) (f' : Int), e = .returned (.int .u64 (N : Int)) ∧ N < 18446744073709551616 ∧ RvTo B w b v zs p' f' w' ∧ Cq zs p f N p' f' := by
  by_cases hf : f = 0
  · subst hf
    obtain ⟨n, hz⟩ := zs_exists zs p h.at_le
    by_cases h64 : n = 64
    · subst h64
      refine (vcount_long B b v zs p w h hz).mono ?_
      rintro e w' ⟨rfl, ht⟩
      exact ⟨0, p, 4, rfl, by decide, ht, .inl ⟨by decide, fun _ q hq hq2 => by have := hz.unique hq; omega⟩⟩
    · have hn : n ≤ 63 := by have := hz.few; omega
      by_cases hs : p + (2 * n + 1) ≤ 8 * zs.length
      · refine (vcount_ok B b v zs p n w h hz hn hs).mono ?_
        rintro e w' ⟨rfl, ht⟩
        have hhi := tk_lt zs (p + n) (n + 1)
        have h3' : (2 : Nat) ^ (n + 1) ≤ 2 ^ 64 := Nat.pow_le_pow_right (by decide) (by omega)
        have e64 : (2 : Nat) ^ 64 = 18446744073709551616 := by decide
        exact ⟨_, _, 0, rfl, by omega, ht, .inr ⟨rfl, rfl, n, hz, hn, hs, rfl, rfl⟩⟩
      · refine (vcount_short B b v zs p n w h hz hn (by omega)).mono ?_
        rintro e w' ⟨rfl, ht⟩
        exact ⟨0, p, 10, rfl, by decide, ht, .inl ⟨by decide, fun _ q hq hq2 => by have := hz.unique hq; omega⟩⟩
  · refine (vcount_fault B b v zs p f w h hf).mono ?_
    rintro e w' ⟨rfl, ht⟩
    exact ⟨0, p, f, rfl, by decide, ht, .inl ⟨hf, fun x => absurd x hf⟩⟩
theorem rv_end1 {B b : Nat} {v : Value} {w : World} {zs : List Nat} {p : Nat} {f : Int} (h1 : Rv B w b v zs p f) :
    Calls Tryd.prog 53 #[.pointer (some ⟨b, 0, none⟩)] w fun e w' => ∃ E : Int, e = .returned (.int .i64 E) ∧ RvTo B w b v zs p f w' ∧ Eq zs p f E := by
  by_cases hf : f = 0
  · subst hf
    by_cases ht : p + 8 ≤ 8 * zs.length
    · refine (vend_tail B b v zs p w h1 ht).mono ?_
      rintro e w' ⟨rfl, hr⟩
      exact ⟨11, rfl, hr, fun x => absurd rfl x, fun _ => ⟨fun x => by omega, fun x => by omega⟩⟩
    · obtain ⟨n, hz⟩ := zs_exists zs p h1.at_le
      refine (vend_bit B b v zs p n w h1 hz (by omega)).mono ?_
      rintro e w' ⟨rfl, hr⟩
      refine ⟨_, rfl, hr, fun x => absurd rfl x, fun _ => ?_⟩
      have hi := hz.inn
      by_cases hlt : p + n < 8 * zs.length
      · rw [if_pos hlt]
        refine ⟨fun x => by omega, fun x => ?_⟩
        have h1 := x.2 (p + n) (by omega) hlt
        rcases hz.stop with y | y | y <;> omega
      · rw [if_neg hlt]
        exact ⟨fun _ => ⟨by omega, fun k k1 k2 => by
          have := hz.zero (k - p) (by omega)
          rwa [show p + (k - p) = k by omega] at this⟩, fun _ => rfl⟩
  · refine (vend_fault B b v zs p f w h1 hf).mono ?_
    rintro e w' ⟨rfl, ht⟩
    exact ⟨f, rfl, ht, fun x => x, fun x => absurd x hf⟩
set_option maxHeartbeats 2000000 in
theorem refOf_by {BB : Nat} {va : Option Addr} {vn vc : Nat} {zs : List Nat} {w : World} (h : By BB w va vn vc zs) (hBB : BB ≤ w.heap.size) (hl : zs.length ≤ 1048576) :
    Calls Tryd.prog 50 #[.slice va vn vc] w fun e w' => OfTold w zs e w' := by
  obtain ⟨i0, hi, hz0, hz1, hz2⟩ := info_parts Tryd.infoBool
  obtain rfl : vn = zs.length := h.len.symm
  have hz := h.byte
  have hle := h.le
  have HO := Lib.hid h
  have HZ := Lib.hid hz
  obtain ⟨n, hn⟩ : ∃ n, n = zs.length := ⟨_, rfl⟩
  rw [← hn] at hl HO hle ⊢
  have HN := Lib.hid hn
  clear h hz hn
  have HS : Hid (Rv w.heap.size (w.alloc (.cells #[.slice none 0 0, .int .i64 0, .int .i64 0] 93)) w.heap.size (.slice none 0 0) [] 0 0) := Lib.hid
    ⟨heap_alloc_new w _, World.ownsRow_nil _ _ _ _, by simp [Value.ownBlock], Nat.le_refl _, by simp, by simp⟩
  have HSB : Hid (Below w.heap.size w (w.alloc (.cells #[.slice none 0 0, .int .i64 0, .int .i64 0] 93))) := Lib.hid ((Below.refl _ _).alloc (Nat.le_refl _) _)
  obtain ⟨b, hb⟩ : ∃ b, b = w.heap.size := ⟨_, rfl⟩
  have HBB := Lib.hid hb
  go_enter Tryd.func50, Tryd.ntmps50
  go_wp2
  go_loopw [4] (fun iv wr => ∃ (k : Nat) (lv : Value), k ≤ n ∧ iv = .int .i64 (k : Int) ∧ Rv w.heap.size wr w.heap.size lv (zs.take k) 0 0 ∧ Below w.heap.size w wr) (fun iv _ => n - (intOf iv).toNat)
  case atStart => exact ⟨0, _, Nat.zero_le _, rfl, by rw [List.take_zero]; exact HS.out, HSB.out⟩
  case round =>
    obtain ⟨k, lv, hk, rfl, hR, hBw⟩ := hrel
    clear HS HSB
    by_cases hlt : k < n
    · obtain ⟨g, off, rfl, hgB, hcc⟩ := HO.out.cell (by omega)
      have hgl : g < w.heap.size := by omega
      obtain ⟨z, hzk⟩ : ∃ z, z = zs.getD k 0 := ⟨_, rfl⟩
      have hkl : k < zs.length := by rw [← HN.out]; exact hlt
      have cz : wr.cell? ⟨g, off + k, none⟩ = some (.int .u8 (z : Int)) := by
        rw [hBw.cell (p := ⟨g, off + k, none⟩) hgl, hcc k hlt, hzk]
      clear hcc
      have hzb : z ≤ 255 := by
        rw [hzk, List.getD, List.getElem?_eq_getElem hkl]
        exact HZ.out _ (List.getElem_mem hkl)
      have HTK : Hid (zs.take (k + 1) = zs.take k ++ [z]) := Lib.hid (by
        rw [List.take_succ_eq_append_getElem hkl, hzk]
        simp [List.getD, List.getElem?_eq_getElem hkl])
      have htl : (zs.take k).length = k := by rw [List.length_take]; omega
      obtain ⟨la, lc, hlv⟩ := ownsRow_shape hR.row
      rw [htl] at hlv
      subst hlv
      have c0 := hR.cells.1
      have f0 : wr.frozen? ⟨w.heap.size, 0, none⟩ = false := frozen_of_row wr w.heap.size 0 _ _ hR.box
      have hbl : w.heap.size < wr.heap.size := lt_of_heap hR.box
      have HL : Hid (wr.ownsRow w.heap.size 4 1 (.slice la (8 * k) lc) (8 * k) (bb (bitsZ (zs.take k)))) := Lib.hid (by have := hR.row; rw [htl] at this; exact this)
      have HR := Lib.hid hR
      have HBw := Lib.hid hBw
      have HNE := Lib.hid hR.ne
      have HTL := Lib.hid htl
      clear hR hBw hzk hkl htl
      generalize hbs : bitsZ (zs.take k) = bs at HL
      have HBS := Lib.hid hbs
      clear hbs
      have hwz : IntKind.u64.wrap (z : Int) = (z : Int) := IntWalk.u64_in _ (by omega)
      have hk1 : (k : Int) < (n : Int) := by omega
      go_wp2
      go_region_law (first | (refine step_append_lies _ (by rfl) _ _ _ (by rfl) w.heap.size 4 i0 _ 1 1 Tryd.underlying91 hi hz0 hz1 hz2 rfl (by omega) (.slice la (8 * k) lc) (8 * k) (bb bs) (by rfl) HL5.out ⟨g5, 0, none⟩ 8 c5 (bb (bitsOf z 8)) (by rfl) (by rfl) HN5.out (bb_one _) (by omega) (by unfold maxLen; omega) (by omega) hsz5 w5.heap.size rfl ?_; intro g6 c6 w6 hown6 hgrow6 hat6 hlt6; have d0 := (World.cell?_of_block (a := ⟨w.heap.size, 0, none⟩) (hgrow6.block w.heap.size hbl5 HNB.out)).trans c05; have d1 := (World.frozen?_of_block (a := ⟨w.heap.size, 0, none⟩) (hgrow6.block w.heap.size hbl5 HNB.out)).trans f05; have HO6 := Lib.hid hown6; have HG6 := Lib.hid hgrow6; clear hown6 hgrow6) | (go_simp; go_at_call 55; refine (refBits_int z 8 _ _ (by omega) (by omega) _ rfl rfl).mono ?_; rintro e w5 ⟨v5, rfl, hS5, hO5, hB5⟩; obtain ⟨g5, c5, hv5⟩ := shape_of hO5 (by omega); subst hv5; have c05 := (hB5.cell (p := ⟨w.heap.size, 0, none⟩) hbl).trans c0; have f05 := (hB5.frozen (p := ⟨w.heap.size, 0, none⟩) hbl).trans f0; have hbl5 := Nat.lt_of_lt_of_le hbl hB5.size; have hsz5 : w.heap.size ≤ w5.heap.size := (by omega); have HL5 := Lib.hid (ownsRow_same HL.out (fun k hk => hB5.block k (HL.out.lt k hk).2)); have HN5 := Lib.hid (hO5.cells (g := g5) rfl); have HNB := Lib.hid (fun e => HNE.out (Eq.symm e)); have HB5 := Lib.hid hB5; clear hS5 hO5 hB5))
      all_goals
        go_wp2
        go_roundw
        case rel =>
          have hst := of_step HR.out HBw.out HB5.out HO6.out HG6.out hat6 HTL.out HBS.out (by omega)
          exact ⟨k + 1, _, by omega, by go_num, by rw [HTK.out]; exact hst.1, hst.2⟩
        case measure => simp [intOf]; omega
    · obtain rfl : k = n := by omega
      have HR := Lib.hid hR
      have HBw := Lib.hid hBw
      clear hR hBw
      go_wp2
      go_ret
      refine ⟨w.heap.size, lv, rfl, ?_, HBw.out⟩
      have := HR.out
      rw [List.take_of_length_le (by rw [← HN.out]; exact Nat.le_refl _)] at this
      exact this
end Ln
end Go.Proofs.YtobpinelhjpfgaaDoor
