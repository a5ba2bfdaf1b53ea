/-
  Layer 5: the document's open, in, Steps.
-/
import Derived.Test.YtaioiobimenkfaaDoorPtR1
import Derived.Deep.RegionHeld3
import Derived.BigQuiet
set_option linter.unusedVariables false
set_option maxRecDepth 100000
namespace Go.Proofs.YtaioiobimenkfaaDoor
open Go.RowKit Fl Pt

theorem mI_true {f : Nat → Int} {j n : Nat} {x : Int} (h : j < n) (e : f j = x) : mI f n x = true := by
  unfold mI
  rw [List.any_eq_true]
  exact ⟨j, List.mem_range.2 h, by simp [e]⟩
/-- Is a number in a list? -/
theorem rin_any (B : Nat) (A : Option Addr) (n cap : Nat) (f : Nat → Int) (x : Int) (w : World) (h : Il B w A n cap f) :
    Calls Tryd.prog 31 #[.int .i64 x, .slice A n cap] w fun e w' => e = .returned (.bool (mI f n x)) ∧ w = w' := by
  have HI := Lib.hid h
  have hsz := h.size
  have hle := h.le
  clear h
  go_enter Tryd.func31, Tryd.ntmps31
  go_wp2_with fail
  go_loop [5] (fun iv => ∃ j : Nat, j ≤ n ∧ iv = .int .i64 (j : Int) ∧ Hid (mI f j x = false)) (fun iv => n - (intOf iv).toNat)
  case atStart => exact ⟨0, Nat.zero_le _, rfl, Lib.hid rfl⟩
  case round =>
    obtain ⟨j, hj, rfl, HM⟩ := hrel
    by_cases hlt : j < n
    · obtain ⟨g, off, rfl, _, hc⟩ := HI.out.cell (by omega)
      have hcj := hc j hlt
      have HS := Lib.hid (mI_succ f j x)
      have HT := Lib.hid (mI_true (f := f) (n := n) (x := x) hlt)
      have hji : (j : Int) < (n : Int) := by omega
      clear hc
      generalize f j = y at *
      cases hyx : (y == x) with
      | true =>
        have HY := Lib.hid hyx
        go_wp2_with fail
        go_ret
        exact ⟨by rw [HT.out (beq_iff_eq.1 HY.out)]; rfl, rfl⟩
      | false =>
        have HY := Lib.hid hyx
        go_wp2_with fail
        go_round
        case rel => exact ⟨j + 1, by omega, by go_num, Lib.hid (by rw [HS.out, HM.out, HY.out]; rfl)⟩
        case measure => simp [intOf]; omega
    · obtain rfl : j = n := by omega
      go_wp2_with fail
      go_ret
      exact ⟨by rw [HM.out]; rfl, rfl⟩
/-- A map lies boxed in the first new block. -/
theorem map_box (w : World) (a b c : Value) : (w.alloc (.cells #[a, b, c] 48)).cell? ⟨w.heap.size, 0, none⟩ = some a ∧ (w.alloc (.cells #[a, b, c] 48)).cell? ⟨w.heap.size, 1, none⟩ = some b ∧ (w.alloc (.cells #[a, b, c] 48)).cell? ⟨w.heap.size, 2, none⟩ = some c ∧ Below w.heap.size w (w.alloc (.cells #[a, b, c] 48)) :=
  ⟨by simp [World.cell?_alloc_new], by simp [World.cell?_alloc_new], by simp [World.cell?_alloc_new], (Below.refl _ _).alloc (Nat.le_refl _) _⟩
theorem ropen_none (c : Int) (w : World) : Calls Tryd.prog 30 #[.agg #[.slice none 0 0, .slice none 0 0, .slice none 0 0], .int .i64 c] w fun e w' => e = .returned (.bool false) ∧ Below w.heap.size w w' := by
  obtain ⟨b0, b1, b2, hb⟩ := map_box w (.slice none 0 0) (.slice none 0 0) (.slice none 0 0)
  have HB := Lib.hid hb
  clear hb
  by_cases h0 : 0 ≤ c
  · have d0 : decide (0 ≤ c) = true := decide_eq_true h0
    have d1 : decide (c < 0) = false := decide_eq_false (by omega)
    go_enter Tryd.func30, Tryd.ntmps30
    go_wp2_with fail
    go_ret
    exact ⟨rfl, HB.out⟩
  · have d0 : decide (0 ≤ c) = false := decide_eq_false h0
    go_enter Tryd.func30, Tryd.ntmps30
    go_wp2_with fail
    go_ret
    exact ⟨rfl, HB.out⟩
theorem ropen_map {W H : Nat} {s : ByteArray} {AN AL AO : Option Addr} {n cN cL cO : Nat} (c : Int) (w : World) (h : MapAt w W H s AN AL AO n cN cL cO) (h256 : s.size ≤ 256) :
    Calls Tryd.prog 30 #[.agg #[.slice AN n cN, .slice AL n cL, .slice AO n cO], .int .i64 c] w (Told (bAt s c ≠ 35) w) := by
  obtain ⟨b0, b1, b2, hb⟩ := map_box w (.slice AN n cN) (.slice AL n cL) (.slice AO n cO)
  have HB := Lib.hid hb
  have hn := h.sz
  obtain ⟨g, rfl, hg, hc⟩ := h.opn
  have hcap := h.caps.2.2
  have hcap2 := hcap.2
  unfold maxLen at hcap2
  by_cases h0 : 0 ≤ c
  · obtain ⟨k, rfl⟩ := Int.eq_ofNat_of_zero_le h0
    have d0 : decide (0 ≤ (k : Int)) = true := decide_eq_true h0
    by_cases hk : k < n
    · have r := (hb.cell (p := ⟨g, k, none⟩) hg).trans (hc k hk)
      have HZ : Hid (bAt s (k : Int) = at_ s k) := Lib.hid (bAt_in5 s k (by omega))
      have hkI : (k : Int) < (n : Int) := by omega
      have d1 : decide ((k : Int) < (n : Int)) = true := decide_eq_true hkI
      clear hb hc h hn
      generalize hq : (at_ s k != 35) = q at r
      have HQ := Lib.hid hq
      clear hq
      go_enter Tryd.func30, Tryd.ntmps30
      go_wp2_with fail
      go_ret
      refine ⟨q, by first | rfl | simp, ?_, HB.out⟩
      rw [← HQ.out, HZ.out, bne_iff_ne]
    · have d1 : decide ((k : Int) < (n : Int)) = false := decide_eq_false (by omega)
      have HZ : Hid (bAt s (k : Int) = 35) := Lib.hid (by unfold bAt; rw [if_neg (by omega)])
      clear hb hc h hn
      go_enter Tryd.func30, Tryd.ntmps30
      go_wp2_with fail
      go_ret
      exact ⟨false, rfl, ⟨(fun e => by cases e), (fun e => absurd HZ.out e)⟩, HB.out⟩
  · have d0 : decide (0 ≤ c) = false := decide_eq_false h0
    have HZ : Hid (bAt s c = 35) := Lib.hid (by unfold bAt; rw [if_neg (by omega)])
    clear hb hc h hn
    go_enter Tryd.func30, Tryd.ntmps30
    go_wp2_with fail
    go_ret
    exact ⟨false, rfl, ⟨(fun e => by cases e), (fun e => absurd HZ.out e)⟩, HB.out⟩
/-- The steps out of a cell, as far as they were looked at. -/
def stp (W H : Nat) (z : Nat → Nat) (B : Nat → Bool) (c k : Nat) : List Nat := ((nr W H z c).take k).filter fun b => !B b
theorem stp_succ (W H : Nat) (z : Nat → Nat) (B : Nat → Bool) (c k : Nat) (h : k < (nr W H z c).length) : stp W H z B c (k + 1) = stp W H z B c k ++ if B ((nr W H z c).getD k 0) = true then [] else [(nr W H z c).getD k 0] := by
  unfold stp
  rw [List.take_succ_eq_append_getElem h, List.filter_append, List.getD, List.getElem?_eq_getElem h]
  cases e : B ((nr W H z c)[k]) <;> simp [e]
theorem stp_all (W H : Nat) (z : Nat → Nat) (B : Nat → Bool) (a c : Nat) (h : outB z a c = true) : stp W H z B c (nr W H z c).length = nx5 W H z a B c := by
  rw [nx5_yes h]; unfold stp; rw [List.take_length]
theorem stp_len (W H : Nat) (z : Nat → Nat) (B : Nat → Bool) (c k : Nat) : (stp W H z B c k).length ≤ 4 := by
  unfold stp
  refine Nat.le_trans (List.length_filter_le _ _) ?_
  rw [List.length_take]
  exact Nat.le_trans (Nat.min_le_right _ _) (nr_len W H c z)
/-- Of a boxed map what is near. -/
structure MB (w : World) (gN n cN : Nat) (wr : World) : Prop where
  c0 : wr.cell? ⟨w.heap.size, 0, none⟩ = some (.slice (some ⟨gN, 0, none⟩) n cN)
  lt : w.heap.size + 1 ≤ wr.heap.size
theorem MB.below1 {w : World} {gN n cN : Nat} {wr wx : World} (h : MB w gN n cN wr) (hb : Below (w.heap.size + 1) wr wx) : MB w gN n cN wx :=
  ⟨(hb.cell (p := ⟨w.heap.size, 0, none⟩) (Nat.lt_succ_self _)).trans h.c0, Nat.le_trans h.lt hb.size⟩
set_option maxHeartbeats 4000000 in
theorem rsteps_any {W H : Nat} {s : ByteArray} {AN AL AO : Option Addr} {n cN cL cO : Nat} (c a : Nat) (A : Option Addr) (m cap : Nat) (f : Nat → Int) (w : World) (h : MapAt w W H s AN AL AO n cN cL cO) (h256 : s.size ≤ 256) (hc : c < n) (ha : a < n) (hz : at_ s c ≠ 35) (hf : Il w.heap.size w A m cap f) :
    Calls Tryd.prog 32 #[.agg #[.slice AN n cN, .slice AL n cL, .slice AO n cO], .int .i64 (c : Int), .int .i64 (a : Int), .slice A m cap] w (Ints (nx5 W H (at_ s) a (mk f m) c) w) := by
  obtain ⟨b0, b1, b2, hb⟩ := map_box w (.slice AN n cN) (.slice AL n cL) (.slice AO n cO)
  have HB := Lib.hid hb
  have hn := h.sz
  obtain ⟨gL, rfl, hgL, hcL⟩ := h.lane
  obtain ⟨gN, rfl, hgN, hcN⟩ := h.near
  obtain ⟨A1, k1, hr1, hi1⟩ := hcN c hc
  rw [show nrw W H (at_ s) c = nr W H (at_ s) c by unfold nrw; rw [if_pos hz]] at hr1 hi1
  have hcap := h.caps.2.1
  have hcap2 := hcap.2
  have hcapN := h.caps.1
  have hcapN2 := hcapN.2
  unfold maxLen at hcap2 hcapN2
  have rL := (hb.cell (p := ⟨gL, c, none⟩) hgL).trans (hcL c hc)
  have rN := (hb.cell (p := ⟨gN, c, none⟩) hgN).trans hr1
  have HI1 := Lib.hid hi1
  have HF := Lib.hid hf
  have HRN := Lib.hid hr1
  have HMB : Hid (MB w gN n cN (w.alloc (.cells #[.slice (some ⟨gN, 0, none⟩) n cN, .slice (some ⟨gL, 0, none⟩) n cL, .slice AO n cO] 48))) := Lib.hid ⟨b0, by rw [alloc_size]; exact Nat.le_refl _⟩
  have hcI : (c : Int) < (n : Int) := by omega
  have HZ0 : Hid (w.heap.size < (w.alloc (.cells #[.slice (some ⟨gN, 0, none⟩) n cN, .slice (some ⟨gL, 0, none⟩) n cL, .slice AO n cO] 48)).heap.size) := Lib.hid (by rw [alloc_size]; exact Nat.lt_succ_self _)
  clear hb hcL hcN hr1 hi1 hf h hn
  obtain ⟨ln, hln⟩ : ∃ ln, ln = (nr W H (at_ s) c).length := ⟨_, rfl⟩
  rw [← hln] at rN HI1 HRN
  have hln4 : ln ≤ 4 := by rw [hln]; exact nr_len W H c (at_ s)
  have HLN := Lib.hid hln
  clear hln
  cases hl : isL (at_ s c) with
  | false =>
    rw [hl] at rL
    by_cases hca : c = a
    · subst hca
      have HO : Hid (outB (at_ s) c c = true) := Lib.hid (outB_iff.2 (.inl rfl))
      clear hl rN
      go_enter Tryd.func32, Tryd.ntmps32
      go_wp2_with fail
      go_loopw [9, 10] (fun v iv wr => ∃ (k : Nat) (xs : List Nat) (A' : Option Addr) (m' c' : Nat), v = .slice A' m' c' ∧ m' = xs.length ∧ k ≤ ln ∧ iv = .int .i64 (k : Int) ∧ Hid (xs = stp W H (at_ s) (mk f m) c k) ∧ Own wr (w.heap.size + 1) v xs ∧ Below w.heap.size w wr ∧ MB w gN n cN wr) (fun _ iv _ => ln - (intOf iv).toNat)
      case atStart => exact ⟨0, [], none, 0, 0, rfl, rfl, Nat.zero_le _, rfl, Lib.hid (by simp [stp]), Own.nil _ _, HB.out, HMB.out⟩
      case round =>
        rename World => wr
        obtain ⟨k, xs, A', m', c', rfl, hm', hk, rfl, HXS, ho, hb, hmb⟩ := hrel
        have HO1 := Lib.hid ho
        have HBw := Lib.hid hb
        have HMb := Lib.hid hmb
        have HM' := Lib.hid hm'
        have b0 := hmb.c0
        have rN := (hb.cell (p := ⟨gN, c, none⟩) hgN).trans HRN.out
        have hlt1 := hmb.lt
        have hcapx := ho.cap hm'
        have hx4 : xs.length ≤ 4 := by rw [HXS.out]; exact stp_len _ _ _ _ _ _
        clear ho hb hmb hm' HMB
        by_cases hkl : k < ln
        · obtain ⟨g, off, rfl, _, hcell⟩ := (args_il HI1.out HBw.out).cell (by omega)
          have hcy := hcell k hkl
          obtain ⟨y, hy⟩ : ∃ y, y = (nr W H (at_ s) c).getD k 0 := ⟨_, rfl⟩
          rw [← hy] at hcy
          have HSU := Lib.hid (stp_succ W H (at_ s) (mk f m) c k (by rw [← HLN.out]; exact hkl))
          have HY := Lib.hid hy
          have hkI : (k : Int) < (ln : Int) := by omega
          clear hcell hy
          go_wp2_with fail
          refine (rin_any _ A m cap f (y : Int) _ (args_il HF.out HBw.out)).mono ?_
          rintro e w' ⟨rfl, rfl⟩
          cases hbl : mI f m (y : Int) with
          | true =>
            have HBL := Lib.hid hbl
            go_wp2_with fail
            go_roundw
            case rel => exact ⟨k + 1, xs, A', m', c', rfl, HM'.out, by omega, by go_num, Lib.hid (by rw [HSU.out, ← HY.out, if_pos ((mI_mk f m y).symm.trans HBL.out), List.append_nil]; exact HXS.out), HO1.out, HBw.out, HMb.out⟩
            case measure => simp [intOf]; omega
          | false =>
            have HBL := Lib.hid hbl
            go_wp2_with (at_builtin; refine app_int rfl _ _ rfl (w.heap.size + 1) (.slice A' m' c') xs rfl y _ rfl wr rfl HO1.out rfl (by omega) hlt1 ?_; intro A8 c8 n8 w8 hn8 ho8 hb8 hg8; have HN8 := Lib.hid hn8; have HO8 := Lib.hid ho8; have HB8 := Lib.hid (HBw.out.trans (hb8.mono (Nat.le_succ _))); have HM8 := Lib.hid (HMb.out.below1 hb8); clear hn8 ho8 hb8 hg8)
            go_roundw
            case rel => exact ⟨k + 1, xs ++ [y], A8, n8, c8, rfl, HN8.out, by omega, by go_num, Lib.hid (by rw [HSU.out, ← HY.out, if_neg (by rw [← mI_mk, HBL.out]; decide), ← HXS.out]), HO8.out, HB8.out, HM8.out⟩
            case measure => simp [intOf]; omega
        · obtain rfl : k = ln := by omega
          go_wp2_with fail
          go_ret
          refine ⟨A', m', c', rfl, ?_, ?_, HBw.out⟩
          · rw [HM'.out, HXS.out, HLN.out, stp_all _ _ _ _ _ _ HO.out]
          · have := HO1.out
            rw [HXS.out, HLN.out, stp_all _ _ _ _ _ _ HO.out] at this
            exact this.lower (Nat.le_succ _)
    · have dca : ((c : Int) == (a : Int)) = false := by rw [beq_eq_false_iff_ne]; omega
      have HO : Hid (nx5 W H (at_ s) a (mk f m) c = []) := Lib.hid (nx5_no (by
        cases e : outB (at_ s) a c with
        | false => rfl
        | true => rcases outB_iff.1 e with e | e
                  · exact absurd e hca
                  · rw [hl] at e; cases e))
      clear hl
      go_enter Tryd.func32, Tryd.ntmps32
      go_wp2_with fail
      go_ret
      exact ⟨none, 0, 0, rfl, by rw [HO.out]; rfl, by rw [HO.out]; exact Own.nil _ _, HB.out⟩
  | true =>
    rw [hl] at rL
    have HO : Hid (outB (at_ s) a c = true) := Lib.hid (outB_iff.2 (.inr hl))
    by_cases hca : c = a
    · subst hca
      clear hl rN
      go_enter Tryd.func32, Tryd.ntmps32
      go_wp2_with fail
      go_loopw [9, 10] (fun v iv wr => ∃ (k : Nat) (xs : List Nat) (A' : Option Addr) (m' c' : Nat), v = .slice A' m' c' ∧ m' = xs.length ∧ k ≤ ln ∧ iv = .int .i64 (k : Int) ∧ Hid (xs = stp W H (at_ s) (mk f m) c k) ∧ Own wr (w.heap.size + 1) v xs ∧ Below w.heap.size w wr ∧ MB w gN n cN wr) (fun _ iv _ => ln - (intOf iv).toNat)
      case atStart => exact ⟨0, [], none, 0, 0, rfl, rfl, Nat.zero_le _, rfl, Lib.hid (by simp [stp]), Own.nil _ _, HB.out, HMB.out⟩
      case round =>
        rename World => wr
        obtain ⟨k, xs, A', m', c', rfl, hm', hk, rfl, HXS, ho, hb, hmb⟩ := hrel
        have HO1 := Lib.hid ho
        have HBw := Lib.hid hb
        have HMb := Lib.hid hmb
        have HM' := Lib.hid hm'
        have b0 := hmb.c0
        have rN := (hb.cell (p := ⟨gN, c, none⟩) hgN).trans HRN.out
        have hlt1 := hmb.lt
        have hcapx := ho.cap hm'
        have hx4 : xs.length ≤ 4 := by rw [HXS.out]; exact stp_len _ _ _ _ _ _
        clear ho hb hmb hm' HMB
        by_cases hkl : k < ln
        · obtain ⟨g, off, rfl, _, hcell⟩ := (args_il HI1.out HBw.out).cell (by omega)
          have hcy := hcell k hkl
          obtain ⟨y, hy⟩ : ∃ y, y = (nr W H (at_ s) c).getD k 0 := ⟨_, rfl⟩
          rw [← hy] at hcy
          have HSU := Lib.hid (stp_succ W H (at_ s) (mk f m) c k (by rw [← HLN.out]; exact hkl))
          have HY := Lib.hid hy
          have hkI : (k : Int) < (ln : Int) := by omega
          clear hcell hy
          go_wp2_with fail
          refine (rin_any _ A m cap f (y : Int) _ (args_il HF.out HBw.out)).mono ?_
          rintro e w' ⟨rfl, rfl⟩
          cases hbl : mI f m (y : Int) with
          | true =>
            have HBL := Lib.hid hbl
            go_wp2_with fail
            go_roundw
            case rel => exact ⟨k + 1, xs, A', m', c', rfl, HM'.out, by omega, by go_num, Lib.hid (by rw [HSU.out, ← HY.out, if_pos ((mI_mk f m y).symm.trans HBL.out), List.append_nil]; exact HXS.out), HO1.out, HBw.out, HMb.out⟩
            case measure => simp [intOf]; omega
          | false =>
            have HBL := Lib.hid hbl
            go_wp2_with (at_builtin; refine app_int rfl _ _ rfl (w.heap.size + 1) (.slice A' m' c') xs rfl y _ rfl wr rfl HO1.out rfl (by omega) hlt1 ?_; intro A8 c8 n8 w8 hn8 ho8 hb8 hg8; have HN8 := Lib.hid hn8; have HO8 := Lib.hid ho8; have HB8 := Lib.hid (HBw.out.trans (hb8.mono (Nat.le_succ _))); have HM8 := Lib.hid (HMb.out.below1 hb8); clear hn8 ho8 hb8 hg8)
            go_roundw
            case rel => exact ⟨k + 1, xs ++ [y], A8, n8, c8, rfl, HN8.out, by omega, by go_num, Lib.hid (by rw [HSU.out, ← HY.out, if_neg (by rw [← mI_mk, HBL.out]; decide), ← HXS.out]), HO8.out, HB8.out, HM8.out⟩
            case measure => simp [intOf]; omega
        · obtain rfl : k = ln := by omega
          go_wp2_with fail
          go_ret
          refine ⟨A', m', c', rfl, ?_, ?_, HBw.out⟩
          · rw [HM'.out, HXS.out, HLN.out, stp_all _ _ _ _ _ _ HO.out]
          · have := HO1.out
            rw [HXS.out, HLN.out, stp_all _ _ _ _ _ _ HO.out] at this
            exact this.lower (Nat.le_succ _)
    · have dca : ((c : Int) == (a : Int)) = false := by rw [beq_eq_false_iff_ne]; omega
      clear hl rN
      go_enter Tryd.func32, Tryd.ntmps32
      go_wp2_with fail
      go_loopw [9, 10] (fun v iv wr => ∃ (k : Nat) (xs : List Nat) (A' : Option Addr) (m' c' : Nat), v = .slice A' m' c' ∧ m' = xs.length ∧ k ≤ ln ∧ iv = .int .i64 (k : Int) ∧ Hid (xs = stp W H (at_ s) (mk f m) c k) ∧ Own wr (w.heap.size + 1) v xs ∧ Below w.heap.size w wr ∧ MB w gN n cN wr) (fun _ iv _ => ln - (intOf iv).toNat)
      case atStart => exact ⟨0, [], none, 0, 0, rfl, rfl, Nat.zero_le _, rfl, Lib.hid (by simp [stp]), Own.nil _ _, HB.out, HMB.out⟩
      case round =>
        rename World => wr
        obtain ⟨k, xs, A', m', c', rfl, hm', hk, rfl, HXS, ho, hb, hmb⟩ := hrel
        have HO1 := Lib.hid ho
        have HBw := Lib.hid hb
        have HMb := Lib.hid hmb
        have HM' := Lib.hid hm'
        have b0 := hmb.c0
        have rN := (hb.cell (p := ⟨gN, c, none⟩) hgN).trans HRN.out
        have hlt1 := hmb.lt
        have hcapx := ho.cap hm'
        have hx4 : xs.length ≤ 4 := by rw [HXS.out]; exact stp_len _ _ _ _ _ _
        clear ho hb hmb hm' HMB
        by_cases hkl : k < ln
        · obtain ⟨g, off, rfl, _, hcell⟩ := (args_il HI1.out HBw.out).cell (by omega)
          have hcy := hcell k hkl
          obtain ⟨y, hy⟩ : ∃ y, y = (nr W H (at_ s) c).getD k 0 := ⟨_, rfl⟩
          rw [← hy] at hcy
          have HSU := Lib.hid (stp_succ W H (at_ s) (mk f m) c k (by rw [← HLN.out]; exact hkl))
          have HY := Lib.hid hy
          have hkI : (k : Int) < (ln : Int) := by omega
          clear hcell hy
          go_wp2_with fail
          refine (rin_any _ A m cap f (y : Int) _ (args_il HF.out HBw.out)).mono ?_
          rintro e w' ⟨rfl, rfl⟩
          cases hbl : mI f m (y : Int) with
          | true =>
            have HBL := Lib.hid hbl
            go_wp2_with fail
            go_roundw
            case rel => exact ⟨k + 1, xs, A', m', c', rfl, HM'.out, by omega, by go_num, Lib.hid (by rw [HSU.out, ← HY.out, if_pos ((mI_mk f m y).symm.trans HBL.out), List.append_nil]; exact HXS.out), HO1.out, HBw.out, HMb.out⟩
            case measure => simp [intOf]; omega
          | false =>
            have HBL := Lib.hid hbl
            go_wp2_with (at_builtin; refine app_int rfl _ _ rfl (w.heap.size + 1) (.slice A' m' c') xs rfl y _ rfl wr rfl HO1.out rfl (by omega) hlt1 ?_; intro A8 c8 n8 w8 hn8 ho8 hb8 hg8; have HN8 := Lib.hid hn8; have HO8 := Lib.hid ho8; have HB8 := Lib.hid (HBw.out.trans (hb8.mono (Nat.le_succ _))); have HM8 := Lib.hid (HMb.out.below1 hb8); clear hn8 ho8 hb8 hg8)
            go_roundw
            case rel => exact ⟨k + 1, xs ++ [y], A8, n8, c8, rfl, HN8.out, by omega, by go_num, Lib.hid (by rw [HSU.out, ← HY.out, if_neg (by rw [← mI_mk, HBL.out]; decide), ← HXS.out]), HO8.out, HB8.out, HM8.out⟩
            case measure => simp [intOf]; omega
        · obtain rfl : k = ln := by omega
          go_wp2_with fail
          go_ret
          refine ⟨A', m', c', rfl, ?_, ?_, HBw.out⟩
          · rw [HM'.out, HXS.out, HLN.out, stp_all _ _ _ _ _ _ HO.out]
          · have := HO1.out
            rw [HXS.out, HLN.out, stp_all _ _ _ _ _ _ HO.out] at this
            exact this.lower (Nat.le_succ _)
end Go.Proofs.YtaioiobimenkfaaDoor
