/-
  Frames, one behind the other: Scan.
  Plain facts on frames: what a frame is, that it is opened, that what is opened was framed so; frames one behind the other.
  The document's sum; the examples; few.
  The document's answers for layer 2: two, Frame, Open.
  The document's answers for layer 2: Open, Scan, Same.
-/
import Derived.Test.YtobpinelhjpfgaaDoorCkTwo
import Derived.Lib.SlBytesConst
import Derived.Lib.Bytes
set_option linter.unusedVariables false
set_option maxRecDepth 100000
section
namespace Go.Proofs.YtobpinelhjpfgaaDoor
open Go.RowKit Bp Ck

/-- The frames fs stand at the beginning of b, and behind them stands none. -/
structure Scn (b : List Nat) (fs : List (List Nat)) : Prop where
  each : ∀ f ∈ fs, isFrm f = true
  rest : ∃ r, b = fs.flatten ++ r ∧ isFrm (ahd r) = false

/-- What Scan tells. -/
def ScanTold (w : World) (zs : List Nat) (e : Ending) (w' : World) : Prop :=
  ∃ fs A' c', e = .returned (.tuple #[.slice A' fs.length c', .int .i64 (fs.flatten.length : Int)]) ∧ Scn zs fs ∧ Bss w'.heap.size w' A' fs.length c' (fs.map inn) ∧ Below w.heap.size w w'
theorem ahd_pre (b : List Nat) : b.take (ahd b).length = ahd b := by
  unfold ahd
  split
  · simp
  · rw [List.length_take]
    rcases Nat.le_total (256 * b.getD 0 0 + b.getD 1 0 + 4) b.length with h | h
    · rw [Nat.min_eq_left h]
    · rw [Nat.min_eq_right h, List.take_length, List.take_of_length_le h]
theorem sum_snoc (fs : List (List Nat)) (f : List Nat) : (fs ++ [f]).flatten.length = fs.flatten.length + f.length := by simp


end Go.Proofs.YtobpinelhjpfgaaDoor
end

section
namespace Go.Proofs.YtobpinelhjpfgaaDoor
open Go.RowKit Bp Ck

theorem take_two (f : List Nat) (h : 2 ≤ f.length) : f.take 2 = [f.getD 0 0, f.getD 1 0] := by
  match f, h with
  | [], h => simp at h
  | [a], h => simp at h
  | a :: b :: r, _ => simp [List.getD]
theorem cut_head (f : List Nat) (h : 4 ≤ f.length) : f.take (f.length - 2) = [f.getD 0 0, f.getD 1 0] ++ inn f := by
  rw [← take_two f (by omega)]
  unfold inn
  rw [show f.length - 2 = 2 + (f.length - 4) by omega, List.take_add]
theorem cut_tail (f : List Nat) (h : 4 ≤ f.length) : f.drop (f.length - 2) = [f.getD (f.length - 2) 0, f.getD (f.length - 1) 0] := by
  have := drop_two f (by omega)
  rw [List.take_of_length_le (by rw [List.length_drop]; exact Nat.le_refl _)] at this
  exact this
theorem inn_len (f : List Nat) (h : 4 ≤ f.length) : (inn f).length = f.length - 4 := by
  unfold inn; rw [List.length_take, List.length_drop]; omega
theorem isFrm_iff (f : List Nat) : isFrm f = true ↔ 4 ≤ f.length ∧ f.length ≤ 1004 ∧ f.length = 256 * f.getD 0 0 + f.getD 1 0 + 4 ∧ crc (f.take (f.length - 2)) = 256 * f.getD (f.length - 2) 0 + f.getD (f.length - 1) 0 := by
  unfold isFrm
  simp only [Bool.and_eq_true, decide_eq_true_eq, beq_iff_eq, and_assoc]
/-- What is opened was framed so. -/
theorem frm_inn (f : List Nat) (hb : ∀ z ∈ f, z ≤ 255) (h : isFrm f = true) : frm (inn f) = f := by
  obtain ⟨h1, h2, h3, h4⟩ := (isFrm_iff f).1 h
  have b0 := getD_byte f 0 hb
  have b1 := getD_byte f 1 hb
  have b2 := getD_byte f (f.length - 2) hb
  have b3 := getD_byte f (f.length - 1) hb
  have e1 : tw (inn f).length = [f.getD 0 0, f.getD 1 0] := by
    rw [inn_len f h1, h3]
    unfold tw
    congr 1
    · omega
    · congr 1; omega
  have e2 : hd (inn f) = f.take (f.length - 2) := by
    unfold hd; rw [e1, cut_head f h1]
  unfold frm
  rw [e2, h4]
  have e3 : tw (256 * f.getD (f.length - 2) 0 + f.getD (f.length - 1) 0) = [f.getD (f.length - 2) 0, f.getD (f.length - 1) 0] := by
    unfold tw
    congr 1
    · omega
    · congr 1; omega
  rw [e3, ← cut_tail f h1, List.take_append_drop]
theorem frm_cons (zs : List Nat) : frm zs = zs.length / 256 :: zs.length % 256 :: (zs ++ tw (crc (hd zs))) := by
  simp [frm, hd, tw]
theorem inn_frm (zs : List Nat) : inn (frm zs) = zs := by
  unfold inn
  rw [frm_len, frm_cons]
  simp
/-- What was framed is a frame. -/
theorem isFrm_frm (zs : List Nat) (h : zs.length ≤ 1000) : isFrm (frm zs) = true := by
  rw [isFrm_iff, frm_len]
  refine ⟨by omega, by omega, ?_, ?_⟩
  · rw [frm_cons]; simp [List.getD]; omega
  · have e1 : (frm zs).take (zs.length + 4 - 2) = hd zs := by
      unfold frm
      rw [List.take_left' (by rw [hd_len]; omega)]
    have g : ∀ i, i < 2 → (frm zs).getD (zs.length + 2 + i) 0 = (tw (crc (hd zs))).getD i 0 := fun i hi => by
      unfold frm
      rw [List.getD, List.getElem?_append_right (by rw [hd_len]; omega), hd_len, List.getD, show zs.length + 2 + i - (zs.length + 2) = i by omega]
    rw [e1, show zs.length + 4 - 2 = zs.length + 2 + 0 by omega, show zs.length + 4 - 1 = zs.length + 2 + 1 by omega, g 0 (by omega), g 1 (by omega)]
    simp [tw, List.getD]
    omega
/-- Frames ahead. -/
theorem ahd_frm (f r : List Nat) (h : isFrm f = true) : ahd (f ++ r) = f := by
  obtain ⟨h1, h2, h3, _⟩ := (isFrm_iff f).1 h
  have g : ∀ i, i < f.length → (f ++ r).getD i 0 = f.getD i 0 := fun i hi => by simp [List.getD, List.getElem?_append_left hi]
  unfold ahd
  rw [if_neg (by simp; omega), g 0 (by omega), g 1 (by omega), ← h3, List.take_left]
theorem Scn.unique {b : List Nat} {fs gs : List (List Nat)} (hf : Scn b fs) (hg : Scn b gs) : fs = gs := by
  induction fs generalizing b gs with
  | nil =>
    cases gs with
    | nil => rfl
    | cons g gs =>
      obtain ⟨r, e, h⟩ := hf.rest
      obtain ⟨r', e', _⟩ := hg.rest
      have hgf := hg.each g (by simp)
      simp only [List.flatten_nil, List.nil_append] at e
      rw [← e, e', List.flatten_cons, List.append_assoc, ahd_frm g _ hgf, hgf] at h
      cases h
  | cons f fs ih =>
    have hff := hf.each f (by simp)
    obtain ⟨r, e, h⟩ := hf.rest
    cases gs with
    | nil =>
      obtain ⟨r', e', h'⟩ := hg.rest
      simp only [List.flatten_nil, List.nil_append] at e'
      rw [← e', e, List.flatten_cons, List.append_assoc, ahd_frm f _ hff, hff] at h'
      cases h'
    | cons g gs =>
      have hgf := hg.each g (by simp)
      obtain ⟨r', e', h'⟩ := hg.rest
      have a1 : ahd b = f := by rw [e, List.flatten_cons, List.append_assoc, ahd_frm f _ hff]
      have a2 : ahd b = g := by rw [e', List.flatten_cons, List.append_assoc, ahd_frm g _ hgf]
      have efg : f = g := a1.symm.trans a2
      subst efg
      congr 1
      rw [List.flatten_cons, List.append_assoc] at e e'
      have e2 : fs.flatten ++ r = gs.flatten ++ r' := by rw [e] at e'; exact List.append_cancel_left e'
      exact ih (b := fs.flatten ++ r) ⟨fun x hx => hf.each x (by simp [hx]), r, rfl, h⟩ ⟨fun x hx => hg.each x (by simp [hx]), r', e2, h'⟩
theorem Scn.flat_le {b : List Nat} {fs : List (List Nat)} (h : Scn b fs) : fs.flatten.length ≤ b.length := by
  obtain ⟨r, e, _⟩ := h.rest
  rw [e]; simp
theorem Scn.take {b : List Nat} {fs : List (List Nat)} (h : Scn b fs) : b.take fs.flatten.length = fs.flatten := by
  obtain ⟨r, e, _⟩ := h.rest
  rw [e, List.take_left]
theorem Scn.nil_of {b : List Nat} (h : isFrm (ahd b) = false) : Scn b [] := ⟨by simp, b, by simp, h⟩
/-- Frames ahead of bytes. -/
theorem Scn.ahead {b : List Nat} {fs gs : List (List Nat)} (hg : ∀ f ∈ gs, isFrm f = true) (h : Scn b fs) : Scn (gs.flatten ++ b) (gs ++ fs) := by
  obtain ⟨r, e, hr⟩ := h.rest
  refine ⟨fun f hf => ?_, r, by rw [e]; simp, hr⟩
  rcases List.mem_append.1 hf with x | x
  · exact hg f x
  · exact h.each f x

end Go.Proofs.YtobpinelhjpfgaaDoor
end

section
namespace Go.Proofs.YtobpinelhjpfgaaDoor
open Go.RowKit Bp Ck

set_option maxHeartbeats 1000000 in
theorem refSum_any {B : Nat} {w : World} {A : Option Addr} {n cap : Nat} {zs : List Nat} (h : By B w A n cap zs) :
    Calls Tryd.prog 95 #[.slice A n cap] w fun e w' => e = .returned (.int .u16 ((crc zs : Nat) : Int)) ∧ w = w' := by
  have hl := Lib.hid h.len
  have hle := h.le
  have hmx := h.max
  unfold maxLen at hmx
  have HB := Lib.hid h.byte
  have HC := Lib.hid h.cell
  clear h
  go_enter Tryd.func95, Tryd.ntmps95
  go_wp2
  go_loop [3, 4] (fun r i => ∃ k : Nat, k ≤ n ∧ i = .int .i64 (k : Int) ∧ r = .int .u16 ((crc (zs.take k) : Nat) : Int)) (fun _ i => n - (intOf i).toNat)
  case atStart => exact ⟨0, Nat.zero_le _, rfl, rfl⟩
  case round =>
    obtain ⟨k, hk, rfl, rfl⟩ := hrel
    by_cases hlt : k < n
    · have HS : Hid (crc (zs.take (k + 1)) = cb (crc (zs.take k)) (zs.getD k 0)) := Lib.hid (crc_take zs k (by rw [hl.out]; exact hlt))
      have hc := crc_lt (zs.take k) (take_byte zs k HB.out)
      have hz := getD_byte zs k HB.out
      obtain ⟨g, off, rfl, hg, hcell⟩ := HC.out (by omega)
      have hck := hcell k hlt
      clear hcell
      generalize zs.getD k 0 = z at *
      generalize crc (zs.take k) = c at *
      have HX := Lib.hid (xor_in c z hc hz)
      have hlt0 := Nat.xor_lt_two_pow (n := 16) hc (byte_lt z hz)
      go_wp2
      rw [HX.out]
      go_loop [3, 5] (fun r j => ∃ m : Nat, m ≤ 8 ∧ j = .int .i64 (m : Int) ∧ r = .int .u16 ((it m (c ^^^ z * 256) : Nat) : Int)) (fun _ j => 8 - (intOf j).toNat)
      case atStart => exact ⟨0, Nat.zero_le _, rfl, rfl⟩
      case round =>
        obtain ⟨m, hm, rfl, rfl⟩ := hrel
        by_cases hm8 : m < 8
        · have hi := it_lt m _ hlt0
          have HI := Lib.hid (it_succ m (c ^^^ z * 256))
          generalize it m (c ^^^ z * 256) = q at *
          by_cases h2 : 32768 ≤ q
          · have ht : (((q : Int) / 32768) == 1) = true := by rw [beq_iff_eq]; omega
            have HQ := Lib.hid (shN_hi q hi h2)
            have HX2 := Lib.hid (u16_xor_nat (2 * q % 65536) 4129 (by omega) (by omega))
            go_wp2
            go_round
            case rel => exact ⟨m + 1, by omega, by go_num, by rw [HI.out, HQ.out, shl1]; exact congrArg _ HX2.out⟩
            case measure => simp [intOf]; omega
          · have ht : (((q : Int) / 32768) == 1) = false := by rw [beq_eq_false_iff_ne]; omega
            have HQ := Lib.hid (shN_small q (by omega))
            go_wp2
            go_round
            case rel => exact ⟨m + 1, by omega, by go_num, by rw [HI.out, HQ.out]; go_num⟩
            case measure => simp [intOf]; omega
        · obtain rfl : m = 8 := by omega
          have HI : Hid (crc (zs.take (k + 1)) = it 8 (c ^^^ z * 256)) := Lib.hid HS.out
          generalize it 8 (c ^^^ z * 256) = q at *
          go_wp2
          go_round
          case rel => exact ⟨k + 1, by omega, by go_num, by rw [HI.out]⟩
          case measure => simp [intOf]; omega
    · obtain rfl : k = n := by omega
      go_wp2
      go_ret
      exact ⟨ret_int (by rw [List.take_of_length_le (by rw [hl.out]; exact Nat.le_refl _)]), rfl⟩


theorem ex_frm : frm [] = [0, 0, 29, 15] := by decide +kernel
theorem ex_scn : Scn [0, 0, 29, 15, 0] [[0, 0, 29, 15]] := ⟨by decide +kernel, [0], by decide +kernel, by decide +kernel⟩
theorem ex_crc : crc [49, 50, 51, 52, 53, 54, 55, 56, 57] = 10673 := by decide +kernel
theorem lit_by (w : World) (l : List Nat) (fz : Nat × Nat) (hl : l.length ≤ 1048576) (hz : ∀ z ∈ l, z ≤ 255) : By (w.heap.size + 1) (w.alloc (.cells (bc l).toArray 5 fz)) (some ⟨w.heap.size, 0, none⟩) l.length l.length l := by
  refine ⟨rfl, Nat.le_refl _, by unfold maxLen; omega, fun e => (by cases e), hz, fun hn => ⟨w.heap.size, 0, rfl, by omega, fun j hj => ?_⟩⟩
  rw [Nat.zero_add, cell_of_row _ w.heap.size j _ _ _ (heap_alloc_new w _)]
  simp [bc, List.getD, List.getElem?_eq_getElem hj]


end Go.Proofs.YtobpinelhjpfgaaDoor
end

section
namespace Go.Proofs.YtobpinelhjpfgaaDoor
open Go.RowKit Bp Ck

theorem refTwo_any (n : Nat) (h : n < 65536) (w : World) :
    Calls Tryd.prog 94 #[.int .i64 (n : Int)] w fun e w' => ∃ g cap, e = .returned (.slice (some ⟨g, 0, none⟩) 2 cap) ∧ w'.ownsRow w.heap.size 5 1 (.slice (some ⟨g, 0, none⟩) 2 cap) 2 (bc (tw n)) ∧ Below w.heap.size w w' := by
  go_enter Tryd.func94, Tryd.ntmps94
  go_wp2_with fail
  refine (refBits_int n 16 _ _ (by omega) (by omega) w rfl rfl).mono ?_
  rintro e w1 ⟨v, rfl, hsh, ho, hb⟩
  have HO : Hid (w1.ownsRow w.heap.size 4 1 v (bitsOf n 16).length (bb (bitsOf n 16))) := Lib.hid (by rw [bitsOf_length]; exact ho)
  have HB := Lib.hid hb
  have hs := hb.size
  obtain ⟨va, vc, hv⟩ := ownsRow_shape ho
  rw [hv] at HO ⊢
  clear hsh ho hb hv
  go_wp2_with fail
  refine (refBytes_any _ (bitsOf n 16) _ w.heap.size HO.out (by rw [bitsOf_length]; omega)).mono ?_
  rintro e w2 ⟨v2, rfl, ho2, hb2⟩
  rw [bitsOf_length, pack_tw n h] at ho2
  obtain ⟨g, cap, hv2⟩ := shape_of ho2 (by decide)
  rw [hv2] at ho2 ⊢
  have HO2 := Lib.hid (ownsRow_lower ho2 hs)
  have HB2 := Lib.hid (HB.out.trans (hb2.mono hs))
  clear ho2 hb2 hv2
  go_wp2
  go_ret
  exact ⟨g, cap, rfl, HO2.out, HB2.out⟩

theorem refFrame_long {B : Nat} {w : World} {A : Option Addr} {n cap : Nat} {zs : List Nat} (h : By B w A n cap zs) (hn : 1000 < n) :
    Calls Tryd.prog 56 #[.slice A n cap] w fun e w' => e = .returned (.tuple #[.slice none 0 0, .int .i64 4]) ∧ w = w' := by
  have hle := h.le
  have hmx := h.max
  unfold maxLen at hmx
  clear h
  go_enter Tryd.func56, Tryd.ntmps56
  go_wp2
  go_ret2
  exact ⟨rfl, rfl⟩

set_option maxHeartbeats 1000000 in
theorem refFrame_ok {B : Nat} {w : World} {A : Option Addr} {n cap : Nat} {zs : List Nat} (h : By B w A n cap zs) (hB : B ≤ w.heap.size) (hn : n ≤ 1000) :
    Calls Tryd.prog 56 #[.slice A n cap] w fun e w' => ∃ g c, e = .returned (.tuple #[.slice (some ⟨g, 0, none⟩) (n + 4) c, .int .i64 0]) ∧ w'.ownsRow w.heap.size 5 1 (.slice (some ⟨g, 0, none⟩) (n + 4) c) (n + 4) (bc (frm zs)) ∧ Below w.heap.size w w' := by
  have HL := Lib.hid h.len
  have HBy := Lib.hid h.byte
  have HH := Lib.hid h
  clear h
  go_enter Tryd.func56, Tryd.ntmps56
  go_wp2_with fail
  refine (refTwo_any n (by omega) _).mono ?_
  rintro e w1 ⟨g1, c1, rfl, ho1, hb1⟩
  have HO1 := Lib.hid ho1
  have HB1 := Lib.hid hb1
  have hs1 := hb1.size
  have HH1 := Lib.hid (HH.out.below (hb1.mono hB))
  clear ho1 hb1 HH
  go_wp2_with (at_builtin; refine app_by rfl _ _ rfl w.heap.size _ 2 (tw n) rfl HO1.out B _ _ _ zs rfl HH1.out (by omega) hs1 ?_)
  intro v2 w2 ho2 hb2
  obtain ⟨g2, c2, hv2⟩ := shape_of ho2 (by omega)
  rw [hv2] at ho2 ⊢
  rw [show tw n ++ zs = hd zs by unfold hd; rw [HL.out]] at ho2
  have hs2 := Nat.le_trans hs1 hb2.size
  have HB2 := Lib.hid (HB1.out.trans hb2)
  have HO2 := Lib.hid ho2
  have hby : ∀ z ∈ hd zs, z ≤ 255 := hd_byte zs HBy.out (by rw [HL.out]; omega)
  have HBY := Lib.hid (By.own ho2 hby)
  have hc := crc_lt _ hby
  clear ho2 hb2 hv2 HO1 HB1 HH1 hby
  go_wp2_with fail
  refine (refSum_any HBY.out).mono ?_
  rintro e w3 ⟨rfl, rfl⟩
  obtain ⟨cr, hcr⟩ : ∃ cr, cr = crc (hd zs) := ⟨_, rfl⟩
  rw [← hcr] at hc ⊢
  have HCR := Lib.hid hcr
  clear hcr
  go_wp2_with fail
  refine (refTwo_any _ hc _).mono ?_
  rintro e w4 ⟨g4, c4, rfl, ho4, hb4⟩
  have HB4 := Lib.hid (HB2.out.trans (hb4.mono hs2))
  have hs4 := Nat.le_trans hs2 hb4.size
  have HO4 : Hid (w4.ownsRow w.heap.size 5 1 (.slice (some ⟨g2, 0, none⟩) (2 + n) c2) (2 + n) (bc (hd zs))) := Lib.hid (ownsRow_same HO2.out (fun k hk => hb4.block k (HO2.out.lt k hk).2))
  have HY4 := Lib.hid (By.own ho4 (tw_byte _ hc))
  clear ho4 hb4 HO2 HB2 HBY
  go_wp2_with (at_builtin; refine app_by rfl _ _ rfl w.heap.size _ (2 + n) (hd zs) rfl HO4.out w4.heap.size _ _ _ (tw cr) rfl HY4.out (by omega) hs4 ?_)
  intro v5 w5 ho5 hb5
  obtain ⟨g5, c5, hv5⟩ := shape_of ho5 (by omega)
  rw [hv5] at ho5 ⊢
  rw [show 2 + n + 2 = n + 4 by omega] at ho5 ⊢
  rw [HCR.out] at ho5
  have HO5 := Lib.hid ho5
  have HB5 := Lib.hid (HB4.out.trans hb5)
  clear ho5 hb5 hv5 HO4 HY4 HB4
  go_wp2
  go_ret2
  exact ⟨g5, c5, rfl, HO5.out, HB5.out⟩

theorem nums_back (l : List Nat) (hl : ∀ z ∈ l, z ≤ 255) : (Lib.bytesOf (l.map fun n : Nat => (n : Int))).map (fun u : UInt8 => u.toNat) = l := by
  unfold Lib.bytesOf
  rw [List.map_map, List.map_map]
  conv => rhs; rw [← List.map_id l]
  apply List.map_congr_left
  intro z hz
  have := hl z hz
  simp only [Function.comp, Int.toNat_natCast, id]
  exact Nat.mod_eq_of_lt (by omega)
/-- Strings of other bytes are others. -/
theorem strOf_ne (a b : List Nat) (ha : ∀ z ∈ a, z ≤ 255) (hb : ∀ z ∈ b, z ≤ 255) (h : a ≠ b) : ((strOf a).toList == (strOf b).toList) = false := by
  rw [beq_eq_false_iff_ne]
  intro e
  unfold strOf at e
  rw [Lib.strOfNums_toList, Lib.strOfNums_toList] at e
  exact h (by rw [← nums_back a ha, ← nums_back b hb, e])

/-- A frame, as the document says it. -/
theorem isFrm_ref (zs : List Nat) (hb : ∀ z ∈ zs, z ≤ 255) (h4 : 4 ≤ zs.length) : isFrm zs = true ↔ (inn zs).length ≤ 1000 ∧ frm (inn zs) = zs := by
  constructor
  · intro h
    have := isFrm_len h
    exact ⟨by rw [inn_len zs h4]; omega, frm_inn zs hb h⟩
  · rintro ⟨h1, h2⟩
    rw [← h2]
    exact isFrm_frm _ h1

end Go.Proofs.YtobpinelhjpfgaaDoor
end

section
namespace Go.Proofs.YtobpinelhjpfgaaDoor
open Go.RowKit Bp Ck

theorem refOpen_short {B : Nat} {w : World} {A : Option Addr} {n cap : Nat} {zs : List Nat} (h : By B w A n cap zs) (hn : n < 4) :
    Calls Tryd.prog 49 #[.slice A n cap] w fun e w' => e = .returned (.tuple #[.slice none 0 0, .bool false]) ∧ w = w' := by
  clear h
  go_enter Tryd.func49, Tryd.ntmps49
  go_wp2
  go_ret2
  exact ⟨rfl, rfl⟩

theorem refOpen_cut {n cap : Nat} (A : Option Addr) (h4 : 4 ≤ n) (hle : n ≤ cap) :
    ∀ wx, (Instr.slice 35 (.slice A n cap) (some (.int .i64 2)) (some (.int .i64 ((n : Int) - 2))) none).run Tryd.prog wx = .ok (.slice (cutA A 2 cap) (n - 4) (cap - 2)) wx := fun wx => by
  have := slice_lh A n cap 2 (n - 2) wx (by omega) (by omega)
  rw [show ((n - 2 : Nat) : Int) = (n : Int) - 2 by omega, show n - 2 - 2 = n - 4 by omega] at this
  exact this
theorem By.inner {B : Nat} {w : World} {A : Option Addr} {n cap : Nat} {zs : List Nat} (h : By B w A n cap zs) (h4 : 4 ≤ n) : By B w (cutA A 2 cap) (n - 4) (cap - 2) (inn zs) := by
  have := h.cut 2 (n - 2) cap (by omega) (by omega) (by have := h.le; omega) (Nat.le_refl _)
  rw [show n - 2 - 2 = n - 4 by omega] at this
  unfold inn
  rw [h.len]
  exact this

theorem refOpen_long {B : Nat} {w : World} {A : Option Addr} {n cap : Nat} {zs : List Nat} (h : By B w A n cap zs) (hn : 1004 < n) :
    Calls Tryd.prog 49 #[.slice A n cap] w fun e w' => e = .returned (.tuple #[.slice none 0 0, .bool false]) ∧ w = w' := by
  have hle := h.le
  have hmx := h.max
  unfold maxLen at hmx
  have hs := refOpen_cut A (by omega : 4 ≤ n) hle
  have HF := Lib.hid (refFrame_long (h.inner (by omega)) (by omega))
  clear h
  have h4 : ¬ n < 4 := by omega
  go_enter Tryd.func49, Tryd.ntmps49
  go_wp2_with fail
  refine HF.out.mono ?_
  rintro e w1 ⟨rfl, rfl⟩
  go_wp2
  go_ret2
  exact ⟨rfl, rfl⟩

set_option maxHeartbeats 1000000 in
theorem refOpen_no {B : Nat} {w : World} {A : Option Addr} {n cap : Nat} {zs : List Nat} (h : By B w A n cap zs) (hB : B ≤ w.heap.size) (h4 : 4 ≤ n) (hn : n ≤ 1004) (hf : isFrm zs = false) :
    Calls Tryd.prog 49 #[.slice A n cap] w fun e w' => e = .returned (.tuple #[.slice none 0 0, .bool false]) ∧ Below w.heap.size w w' := by
  have hle := h.le
  have hmx := h.max
  have hl := h.len
  unfold maxLen at hmx
  have hs := refOpen_cut A h4 hle
  have HF := Lib.hid (refFrame_ok (h.inner h4) hB (by omega))
  have hil : (inn zs).length = n - 4 := by rw [inn_len zs (by omega), hl]
  have t1 := strOf_ne (frm (inn zs)) zs (frm_byte _ (h.inner h4).byte (by omega)) h.byte (fun e2 => by
    have := (isFrm_ref zs h.byte (by omega)).2 ⟨by omega, e2⟩
    rw [hf] at this
    cases this)
  have HH := Lib.hid h
  have HBy := Lib.hid (frm_byte _ (h.inner h4).byte (by omega : (inn zs).length < 65536))
  clear h hf hil hl
  go_enter Tryd.func49, Tryd.ntmps49
  go_wp2_with fail
  refine HF.out.mono ?_
  rintro e w1 ⟨g, c, rfl, ho, hb⟩
  have cv1 := (By.own ho HBy.out).conv
  have cv2 := (HH.out.below (hb.mono hB)).conv
  have HB := Lib.hid hb
  clear ho hb
  rw [show n - 4 + 4 = n by omega] at cv1 ⊢
  generalize strOf (frm (inn zs)) = s1 at *
  generalize strOf zs = s2 at *
  go_wp2
  go_ret2
  exact ⟨rfl, HB.out⟩

set_option maxHeartbeats 1000000 in
theorem refOpen_yes {B : Nat} {w : World} {A : Option Addr} {n cap : Nat} {zs : List Nat} (h : By B w A n cap zs) (hB : B ≤ w.heap.size) (hf : isFrm zs = true) :
    Calls Tryd.prog 49 #[.slice A n cap] w fun e w' => e = .returned (.tuple #[.slice (cutA A 2 cap) (n - 4) (cap - 2), .bool true]) ∧ Below w.heap.size w w' := by
  have hle := h.le
  have hmx := h.max
  have hl := h.len
  obtain ⟨f1, f2⟩ := isFrm_len hf
  unfold maxLen at hmx
  have h4 : 4 ≤ n := by omega
  have hn : n ≤ 1004 := by omega
  have hs := refOpen_cut A h4 hle
  have hF := refFrame_ok (h.inner h4) hB (by omega)
  rw [frm_inn zs h.byte hf, show n - 4 + 4 = n by omega] at hF
  have HF := Lib.hid hF
  have HH := Lib.hid h
  clear h hf hl f1 f2 hF
  go_enter Tryd.func49, Tryd.ntmps49
  go_wp2_with fail
  refine HF.out.mono ?_
  rintro e w1 ⟨g, c, rfl, ho, hb⟩
  have cv1 := (By.own ho HH.out.byte).conv
  have cv2 := (HH.out.below (hb.mono hB)).conv
  have HB := Lib.hid hb
  clear ho hb
  generalize strOf zs = s2 at *
  go_wp2
  go_ret2
  exact ⟨rfl, HB.out⟩
theorem refOpen_none {B : Nat} {w : World} {A : Option Addr} {n cap : Nat} {zs : List Nat} (h : By B w A n cap zs) (hB : B ≤ w.heap.size) (hf : isFrm zs = false) :
    Calls Tryd.prog 49 #[.slice A n cap] w fun e w' => e = .returned (.tuple #[.slice none 0 0, .bool false]) ∧ Below w.heap.size w w' := by
  by_cases h4 : n < 4
  · refine (refOpen_short h h4).mono ?_
    rintro e w' ⟨rfl, rfl⟩
    exact ⟨rfl, Below.refl _ _⟩
  by_cases h5 : 1004 < n
  · refine (refOpen_long h h5).mono ?_
    rintro e w' ⟨rfl, rfl⟩
    exact ⟨rfl, Below.refl _ _⟩
  exact refOpen_no h hB (by omega) (by omega) hf

end Go.Proofs.YtobpinelhjpfgaaDoor
end
