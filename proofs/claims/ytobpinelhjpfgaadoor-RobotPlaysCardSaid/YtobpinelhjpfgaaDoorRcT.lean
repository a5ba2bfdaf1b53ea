/-
  Layer 17: the document's reader, as the program's is told.
-/
import Derived.Test.YtobpinelhjpfgaaDoorRcS
import Derived.Test.YtobpinelhjpfgaaDoorBtSev
import Derived.Deep.LoopGhost
import Derived.Deep.QuietTactic
import Derived.BigQuiet
set_option linter.unusedVariables false
set_option maxRecDepth 100000
namespace Go.Proofs.YtobpinelhjpfgaaDoor
namespace Rc
open Go.RowKit Bp Ck
theorem vget_gr {C b : Nat} {v : Value} {zs : List Nat} {p : Nat} {e : Int} {w : World} (h : Rv C w b v zs p e) (m : Nat) (M : Int) (hM : M = m) (hm : m ≤ 8) :
    Calls Tryd.prog 51 #[.pointer (some ⟨b, 0, none⟩), .int .i64 M] w fun r w' => ∃ n p' e', r = .returned (.int .u64 ((n : Nat) : Int)) ∧ Gr zs m p e n p' e' ∧ RvTo C w b v zs p' e' w' := by
  subst hM
  by_cases he : e = 0
  · subst he
    by_cases hs : p + m ≤ 8 * zs.length
    · refine (vget_ok C b v zs p m w h (by omega) hs).mono ?_
      rintro r w' ⟨rfl, ht⟩
      exact ⟨_, _, _, rfl, .inr (.inl ⟨rfl, rfl, tk_lt _ _ _, has_tk zs p m hs, rfl⟩), ht⟩
    · refine (vget_short C b v zs p m w h (by omega) (by omega)).mono ?_
      rintro r w' ⟨rfl, ht⟩
      exact ⟨0, p, 10, rfl, .inr (.inr ⟨rfl, by decide, rfl, rfl, by omega⟩), ht⟩
  · refine (vget_fault C b v zs p e m w h he).mono ?_
    rintro r w' ⟨rfl, ht⟩
    exact ⟨0, p, e, rfl, .inl ⟨he, rfl, rfl, rfl⟩, ht⟩
theorem vcount_fr {C b : Nat} {v : Value} {zs : List Nat} {p : Nat} {e : Int} {w : World} (h : Rv C w b v zs p e) :
    Calls Tryd.prog 52 #[.pointer (some ⟨b, 0, none⟩)] w fun r w' => ∃ n p' e', r = .returned (.int .u64 ((n : Nat) : Int)) ∧ n + 1 < 18446744073709551616 ∧ Fr zs 0 p e n p' e' ∧ RvTo C w b v zs p' e' w' := by
  by_cases he : e = 0
  · subst he
    obtain ⟨q, hz⟩ := zs_exists zs p h.at_le
    by_cases h64 : q = 64
    · subst h64
      refine (vcount_long C b v zs p w h hz).mono ?_
      rintro r w' ⟨rfl, ht⟩
      refine ⟨0, p, 4, rfl, by decide, .inr (.inr ⟨rfl, by decide, rfl, rfl, fun m hm hh => ?_⟩), ht⟩
      rw [fld_zero] at hh
      obtain ⟨a1, a2, _⟩ := hh.count hm
      have := a1.unique hz
      omega
    · have hq : q ≤ 63 := by have := hz.few; omega
      by_cases hs : p + (2 * q + 1) ≤ 8 * zs.length
      · obtain ⟨e1, e2, e3⟩ := cnt_top hz hq hs
        refine (vcount_ok C b v zs p q w h hz hq hs).mono ?_
        rintro r w' ⟨rfl, ht⟩
        refine ⟨_, _, _, rfl, by omega, .inr (.inl ⟨rfl, rfl, _, ?_, by rw [fld_zero]; exact has_cnt hz hq hs, ?_, rfl⟩), ht⟩
        · show rg 0 _
          unfold rg; rw [if_pos rfl]; omega
        · rw [fld_zero, countBits_length, e2]
      · refine (vcount_short C b v zs p q w h hz hq (by omega)).mono ?_
        rintro r w' ⟨rfl, ht⟩
        refine ⟨0, p, 10, rfl, by decide, .inr (.inr ⟨rfl, by decide, rfl, rfl, fun m hm hh => ?_⟩), ht⟩
        rw [fld_zero] at hh
        obtain ⟨a1, a2, a3, _⟩ := hh.count hm
        have := a1.unique hz
        omega
  · refine (vcount_fault C b v zs p e w h he).mono ?_
    rintro r w' ⟨rfl, ht⟩
    exact ⟨0, p, e, rfl, by decide, .inl ⟨he, rfl, rfl, rfl⟩, ht⟩
theorem vend_fin {C b : Nat} {v : Value} {zs : List Nat} {p : Nat} {e : Int} {w : World} (h : Rv C w b v zs p e) :
    Calls Tryd.prog 53 #[.pointer (some ⟨b, 0, none⟩)] w fun r w' => ∃ E : Int, r = .returned (.int .i64 E) ∧ (E = 0 ↔ Fin zs p e) ∧ RvTo C w b v zs p e w' := by
  by_cases he : e = 0
  · subst he
    by_cases ht : p + 8 ≤ 8 * zs.length
    · refine (vend_tail C b v zs p w h ht).mono ?_
      rintro r w' ⟨rfl, hr⟩
      exact ⟨11, rfl, ⟨fun x => by omega, fun x => by have := x.2.1; omega⟩, hr⟩
    · obtain ⟨q, hz⟩ := zs_exists zs p h.at_le
      refine (vend_bit C b v zs p q w h hz (by omega)).mono ?_
      rintro r w' ⟨rfl, hr⟩
      refine ⟨_, rfl, ?_, hr⟩
      have hi := hz.inn
      split
      · rename_i hlt
        refine ⟨fun x => by omega, fun x => ?_⟩
        rcases hz.stop with y | y | y
        · omega
        · omega
        · have := x.2.2 (p + q) (by omega) (by omega)
          omega
      · rename_i hlt
        refine ⟨fun _ => ⟨rfl, by omega, fun j h1 h2 => ?_⟩, fun _ => rfl⟩
        have := hz.zero (j - p) (by omega)
        rwa [show p + (j - p) = j by omega] at this
  · refine (vend_fault C b v zs p e w h he).mono ?_
    rintro r w' ⟨rfl, ht⟩
    exact ⟨e, rfl, ⟨fun x => absurd x he, fun x => absurd x.1 he⟩, ht⟩
set_option maxHeartbeats 2000000 in
theorem refOf_by {BB : Nat} {va : Option Addr} {vn vc : Nat} {zs : List Nat} {w : World} (h : By BB w va vn vc zs) (hBB : BB ≤ w.heap.size) (hl : zs.length ≤ 1048576) :
    Calls Tryd.prog 50 #[.slice va vn vc] w fun e w' => OfTold w zs e w' := by
  obtain ⟨i0, hi, hz0, hz1, hz2⟩ := info_parts Tryd.infoBool
  obtain rfl : vn = zs.length := h.len.symm
  have hz := h.byte
  have hle := h.le
  have HO := Lib.hid h
  have HZ := Lib.hid hz
  obtain ⟨n, hn⟩ : ∃ n, n = zs.length := ⟨_, rfl⟩
  rw [← hn] at hl HO hle ⊢
  have HN := Lib.hid hn
  clear h hz hn
  have HS : Hid (Rv w.heap.size (w.alloc (.cells #[.slice none 0 0, .int .i64 0, .int .i64 0] 93)) w.heap.size (.slice none 0 0) [] 0 0) := Lib.hid
    ⟨heap_alloc_new w _, World.ownsRow_nil _ _ _ _, by simp [Value.ownBlock], Nat.le_refl _, by simp, by simp⟩
  have HSB : Hid (Below w.heap.size w (w.alloc (.cells #[.slice none 0 0, .int .i64 0, .int .i64 0] 93))) := Lib.hid ((Below.refl _ _).alloc (Nat.le_refl _) _)
  obtain ⟨b, hb⟩ : ∃ b, b = w.heap.size := ⟨_, rfl⟩
  have HBB := Lib.hid hb
  go_enter Tryd.func50, Tryd.ntmps50
  go_wp2
  go_loopw [4] (fun iv wr => ∃ (k : Nat) (lv : Value), k ≤ n ∧ iv = .int .i64 (k : Int) ∧ Rv w.heap.size wr w.heap.size lv (zs.take k) 0 0 ∧ Below w.heap.size w wr) (fun iv _ => n - (intOf iv).toNat)
  case atStart => exact ⟨0, _, Nat.zero_le _, rfl, by rw [List.take_zero]; exact HS.out, HSB.out⟩
  case round =>
    obtain ⟨k, lv, hk, rfl, hR, hBw⟩ := hrel
    clear HS HSB
    by_cases hlt : k < n
    · obtain ⟨g, off, rfl, hgB, hcc⟩ := HO.out.cell (by omega)
      have hgl : g < w.heap.size := by omega
      obtain ⟨z, hzk⟩ : ∃ z, z = zs.getD k 0 := ⟨_, rfl⟩
      have hkl : k < zs.length := by rw [← HN.out]; exact hlt
      have cz : wr.cell? ⟨g, off + k, none⟩ = some (.int .u8 (z : Int)) := by
        rw [hBw.cell (p := ⟨g, off + k, none⟩) hgl, hcc k hlt, hzk]
      clear hcc
      have hzb : z ≤ 255 := by
        rw [hzk, List.getD, List.getElem?_eq_getElem hkl]
        exact HZ.out _ (List.getElem_mem hkl)
      have HTK : Hid (zs.take (k + 1) = zs.take k ++ [z]) := Lib.hid (by
        rw [List.take_succ_eq_append_getElem hkl, hzk]
        simp [List.getD, List.getElem?_eq_getElem hkl])
      have htl : (zs.take k).length = k := by rw [List.length_take]; omega
      obtain ⟨la, lc, hlv⟩ := ownsRow_shape hR.row
      rw [htl] at hlv
      subst hlv
      have c0 := hR.cells.1
      have f0 : wr.frozen? ⟨w.heap.size, 0, none⟩ = false := frozen_of_row wr w.heap.size 0 _ _ hR.box
      have hbl : w.heap.size < wr.heap.size := lt_of_heap hR.box
      have HL : Hid (wr.ownsRow w.heap.size 4 1 (.slice la (8 * k) lc) (8 * k) (bb (bitsZ (zs.take k)))) := Lib.hid (by have := hR.row; rw [htl] at this; exact this)
      have HR := Lib.hid hR
      have HBw := Lib.hid hBw
      have HNE := Lib.hid hR.ne
      have HTL := Lib.hid htl
      clear hR hBw hzk hkl htl
      generalize hbs : bitsZ (zs.take k) = bs at HL
      have HBS := Lib.hid hbs
      clear hbs
      have hwz : IntKind.u64.wrap (z : Int) = (z : Int) := IntWalk.u64_in _ (by omega)
      have hk1 : (k : Int) < (n : Int) := by omega
      go_wp2
      go_region_law (first | (refine step_append_lies _ (by rfl) _ _ _ (by rfl) w.heap.size 4 i0 _ 1 1 Tryd.underlying91 hi hz0 hz1 hz2 rfl (by omega) (.slice la (8 * k) lc) (8 * k) (bb bs) (by rfl) HL5.out ⟨g5, 0, none⟩ 8 c5 (bb (bitsOf z 8)) (by rfl) (by rfl) HN5.out (bb_one _) (by omega) (by unfold maxLen; omega) (by omega) hsz5 w5.heap.size rfl ?_; intro g6 c6 w6 hown6 hgrow6 hat6 hlt6; have d0 := (World.cell?_of_block (a := ⟨w.heap.size, 0, none⟩) (hgrow6.block w.heap.size hbl5 HNB.out)).trans c05; have d1 := (World.frozen?_of_block (a := ⟨w.heap.size, 0, none⟩) (hgrow6.block w.heap.size hbl5 HNB.out)).trans f05; have HO6 := Lib.hid hown6; have HG6 := Lib.hid hgrow6; clear hown6 hgrow6) | (go_simp; go_at_call 55; refine (refBits_int z 8 _ _ (by omega) (by omega) _ rfl rfl).mono ?_; rintro e w5 ⟨v5, rfl, hS5, hO5, hB5⟩; obtain ⟨g5, c5, hv5⟩ := shape_of hO5 (by omega); subst hv5; have c05 := (hB5.cell (p := ⟨w.heap.size, 0, none⟩) hbl).trans c0; have f05 := (hB5.frozen (p := ⟨w.heap.size, 0, none⟩) hbl).trans f0; have hbl5 := Nat.lt_of_lt_of_le hbl hB5.size; have hsz5 : w.heap.size ≤ w5.heap.size := (by omega); have HL5 := Lib.hid (ownsRow_same HL.out (fun k hk => hB5.block k (HL.out.lt k hk).2)); have HN5 := Lib.hid (hO5.cells (g := g5) rfl); have HNB := Lib.hid (fun e => HNE.out (Eq.symm e)); have HB5 := Lib.hid hB5; clear hS5 hO5 hB5))
      all_goals
        go_wp2
        go_roundw
        case rel =>
          have hst := of_step HR.out HBw.out HB5.out HO6.out HG6.out hat6 HTL.out HBS.out (by omega)
          exact ⟨k + 1, _, by omega, by go_num, by rw [HTK.out]; exact hst.1, hst.2⟩
        case measure => simp [intOf]; omega
    · obtain rfl : k = n := by omega
      have HR := Lib.hid hR
      have HBw := Lib.hid hBw
      clear hR hBw
      go_wp2
      go_ret
      refine ⟨w.heap.size, lv, rfl, ?_, HBw.out⟩
      have := HR.out
      rw [List.take_of_length_le (by rw [← HN.out]; exact Nat.le_refl _)] at this
      exact this
/-- In the middle of the document's taking: its reader, the result's row, the record under way. -/
structure Sx (w : World) (t : TypeId) (zero : Array Value) (C b : Nat) (v : Value) (X : Nat) (zs : List Nat) (p : Nat) (e : Int) (cs : Array Value) (W : World) : Prop where
  rd : Rv C W b v zs p e
  res : W.heap[w.heap.size]? = some (.cells zero t (0, 0))
  row : W.heap[X]? = some (.cells cs t (0, 0))
  below : Below w.heap.size w W
  apart : ∀ j, RF b v j → w.heap.size + 1 ≤ j ∧ j < X
theorem Sx.read {w : World} {t : TypeId} {zero : Array Value} {C b : Nat} {v : Value} {X : Nat} {zs : List Nat} {p p' : Nat} {e e' : Int} {cs : Array Value} {W W' : World} (h : Sx w t zero C b v X zs p e cs W) (ht : RvTo C W b v zs p' e' W') : Sx w t zero C b v X zs p' e' cs W' :=
  ⟨ht.1, (ht.2.block _ (lt_of_heap h.res) (fun y => by have := (h.apart _ y).1; omega)).trans h.res, (ht.2.block _ (lt_of_heap h.row) (fun y => by have := (h.apart _ y).2; omega)).trans h.row,
   h.below.trans (ht.2.below w.heap.size (Nat.le_of_lt (lt_of_heap h.res)) (fun y hy => by have := (h.apart _ hy).1; omega)), h.apart⟩
theorem Sx.put {w : World} {t : TypeId} {zero : Array Value} {C b : Nat} {v : Value} {X : Nat} {zs : List Nat} {p : Nat} {e : Int} {cs : Array Value} {W : World} (h : Sx w t zero C b v X zs p e cs W) (j : Nat) (u : Value) (cs' : Array Value) (hc : cs.setIfInBounds j u = cs') : Sx w t zero C b v X zs p e cs' (W.setCell ⟨X, j, none⟩ u) := by
  have hX : w.heap.size < X := by
    have hb : RF b v b := .inl rfl
    have := h.apart b hb
    omega
  refine ⟨h.rd.frame (fun k hk => Below.heap_setCell _ _ _ _ (by have := (h.apart k hk).2; show k ≠ X; omega)), (Below.heap_setCell _ _ _ _ (by show w.heap.size ≠ X; omega)).trans h.res, ?_, h.below.setCell (p := ⟨X, j, none⟩) (by show w.heap.size ≤ X; omega) u, h.apart⟩
  rw [heap_setCell_same W X j _ _ u h.row, hc]
theorem Sx.later {w : World} {t : TypeId} {zero : Array Value} {C b : Nat} {v : Value} {X : Nat} {zs : List Nat} {p : Nat} {e : Int} {cs : Array Value} {W W' : World} (h : Sx w t zero C b v X zs p e cs W) (hb : Below W.heap.size W W') : Sx w t zero C b v X zs p e cs W' :=
  ⟨h.rd.frame (fun k hk => hb.block k (h.rd.lt hk).2), (hb.block _ (lt_of_heap h.res)).trans h.res, (hb.block _ (lt_of_heap h.row)).trans h.row, h.below.trans (hb.mono h.below.size), h.apart⟩
theorem Sx.cell {w : World} {t : TypeId} {zero : Array Value} {C b : Nat} {v : Value} {X : Nat} {zs : List Nat} {p : Nat} {e : Int} {cs : Array Value} {W : World} (h : Sx w t zero C b v X zs p e cs W) (j : Nat) : W.cell? ⟨X, j, none⟩ = cs[j]? := cell_of_row _ _ _ _ _ _ h.row
theorem Sx.free {w : World} {t : TypeId} {zero : Array Value} {C b : Nat} {v : Value} {X : Nat} {zs : List Nat} {p : Nat} {e : Int} {cs : Array Value} {W : World} (h : Sx w t zero C b v X zs p e cs W) (j : Nat) : W.frozen? ⟨X, j, none⟩ = false := frozen_of_row _ _ _ _ _ h.row
theorem rec_kind {zs : List Nat} {k k' p1 : Nat} {e1 : Int} {M : Nat → Int} (hg : Gr zs 3 0 0 k p1 e1) (hM : Rok k' M) (hz : zs = pack (kb 3 k' (fl k') (natN M))) : k = k' ∧ p1 = 3 ∧ e1 = 0 := by
  subst hz
  have hh := (pack_fin (kb 3 k' (fl k') (natN M))).1
  have hl := (has_left hh).1
  rw [bitsOf_length, Nat.zero_add] at hl
  have he1 := gr_read hg hl
  obtain ⟨hp, hk8, hk⟩ := gr_has hg he1
  exact ⟨pack_read (fs := fl k') (M := natN M) hk8 (rok_k8 hM) hk, hp, he1⟩
theorem rec_first {zs : List Nat} {k k' p1 n p : Nat} {e1 e : Int} {M : Nat → Int} (h23 : k = 2 ∨ k = 3) (hg : Gr zs 3 0 0 k p1 e1) (hf : Fr zs 0 p1 e1 n p e) (hM : Rok k' M) (hz : zs = pack (kb 3 k' (fl k') (natN M))) : n ≤ 1073741824 := by
  obtain ⟨rfl, rfl, rfl⟩ := rec_kind hg hM hz
  have hh : Has zs 3 (fbits (fl k) (natN M)) := by
    rw [hz]
    have := has_right (pack_fin (kb 3 k (fl k) (natN M))).1
    rwa [bitsOf_length, Nat.zero_add] at this
  have h0 : Has zs 3 (fld 0 (natN M 0)) := by
    rcases h23 with rfl | rfl
    · exact has_left (b := fbits [] (natN M)) (by rw [← fbits_cons]; exact hh)
    · exact has_left (b := fbits [1] (natN M)) (by rw [← fbits_cons]; exact hh)
  have hr : rg 0 (natN M 0) := rg_le 0 _ (by decide) (by have := (hM.2 0 (by decide)).1.2; unfold natN; omega)
  have hle := (hM.2 0 (by decide)).1
  rcases hf with ⟨a, _⟩ | ⟨_, _, m, hm, hm2, _, rfl⟩ | ⟨_, _, _, _, hno⟩
  · exact absurd rfl a
  · have e1 := fld_uniq hm hr hm2 h0
    rw [e1]
    unfold natN
    simp only [fmx] at hle
    omega
  · exact absurd h0 (hno _ hr)
end Rc
end Go.Proofs.YtobpinelhjpfgaaDoor
