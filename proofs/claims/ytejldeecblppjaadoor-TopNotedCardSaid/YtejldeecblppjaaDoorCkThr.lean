/-
  Frames, one behind the other: Scan.
  Plain facts on frames: what a frame is, that it is opened, that what is opened was framed so; frames one behind the other.
  The document's sum; the examples; few.
  The document's answers for layer 2: two, Frame, Open.
  The document's answers for layer 2: Open, Scan, Same.
-/
import Derived.Test.YtejldeecblppjaaDoorCkTwo
import Derived.Lib.SlBytesConst
import Derived.Lib.Bytes
set_option linter.unusedVariables false
set_option maxRecDepth 100000
section
namespace Go.Proofs.YtejldeecblppjaaDoor
open Go.RowKit Bp Ck

/-- The frames fs stand at the beginning of b, and behind them stands none. -/
structure Scn (b : List Nat) (fs : List (List Nat)) : Prop where
  each : ∀ f ∈ fs, isFrm f = true
  rest : ∃ r, b = fs.flatten ++ r ∧ isFrm (ahd r) = false

/-- What Scan tells. -/
def ScanTold (w : World) (zs : List Nat) (e : Ending) (w' : World) : Prop :=
  ∃ fs A' c', e = .returned (.tuple #[.slice A' fs.length c', .int .i64 (fs.flatten.length : Int)]) ∧ Scn zs fs ∧ Bss w'.heap.size w' A' fs.length c' (fs.map inn) ∧ Below w.heap.size w w'
theorem ahd_pre (b : List Nat) : b.take (ahd b).length = ahd b := by
  unfold ahd
  split
  · simp
  · rw [List.length_take]
    rcases Nat.le_total (256 * b.getD 0 0 + b.getD 1 0 + 4) b.length with h | h
    · rw [Nat.min_eq_left h]
    · rw [Nat.min_eq_right h, List.take_length, List.take_of_length_le h]
theorem sum_snoc (fs : List (List Nat)) (f : List Nat) : (fs ++ [f]).flatten.length = fs.flatten.length + f.length := by simp

set_option maxHeartbeats 1000000 in
theorem scan_any {B : Nat} {w : World} {A : Option Addr} {n cap : Nat} {zs : List Nat} (h : By B w A n cap zs) (hB : B ≤ w.heap.size) (hn : n ≤ 1048576) :
    Calls Tryd.prog 53 #[.slice A n cap] w fun e w' => ScanTold w zs e w' := by
  have hle := h.le
  have hmx := h.max
  unfold maxLen at hmx
  have HL := Lib.hid h.len
  have HH := Lib.hid h
  clear h
  go_enter Tryd.func53, Tryd.ntmps53
  go_wp2
  go_loopw [4, 5] (fun v i wr => ∃ fs : List (List Nat), i = .int .i64 (fs.flatten.length : Int) ∧ fs.flatten.length ≤ n ∧ fs.length ≤ fs.flatten.length ∧ (∀ f ∈ fs, isFrm f = true) ∧ zs.take fs.flatten.length = fs.flatten ∧ Lst w.heap.size wr v (fs.map inn) ∧ Below w.heap.size w wr) (fun _ i _ => n - (intOf i).toNat)
  case atStart => exact ⟨[], rfl, Nat.zero_le _, Nat.le_refl _, by simp, by simp, Lst.none_ _ _, Below.refl _ _⟩
  case round =>
    obtain ⟨fs, rfl, h1, h2, h3, h4, h5, h6⟩ := hrel
    obtain ⟨vA, vc, hv, hbss⟩ := h5.bss
    rw [List.length_map] at hv hbss
    subst hv
    obtain ⟨at_, hat⟩ : ∃ k, k = fs.flatten.length := ⟨_, rfl⟩
    rw [← hat] at h1 h2 h4 ⊢
    have HAt := Lib.hid hat
    have H3 := Lib.hid h3
    have H4 := Lib.hid h4
    have H5 := Lib.hid h5
    have H6 := Lib.hid h6
    have HS := Lib.hid hbss
    have hsz := h6.size
    have hs := fun wx => slice_l A n cap at_ wx h1
    have HR := Lib.hid ((HH.out.cut at_ n cap h1 (Nat.le_refl _) hle (Nat.le_refl _)).below (h6.mono hB))
    have HD : Hid ((zs.drop at_).take (n - at_) = zs.drop at_) := Lib.hid (List.take_of_length_le (by rw [List.length_drop, HL.out]; exact Nat.le_refl _))
    rw [HD.out] at HR
    clear hat h3 h4 h5 h6 hbss
    obtain ⟨r, hr⟩ : ∃ r, r = zs.drop at_ := ⟨_, rfl⟩
    rw [← hr] at HR
    have HRr : Hid (zs = fs.flatten ++ r) := Lib.hid (by rw [hr, ← H4.out, List.take_append_drop])
    have hrl : r.length = n - at_ := by rw [hr, List.length_drop, HL.out]
    have hal := ahd_len r
    clear hr HD
    go_wp2_with fail
    refine (ahead_any HR.out).mono ?_
    rintro e w1 ⟨A1, rfl, hy1, hb1⟩
    have HY1 := Lib.hid (hy1.below (hb1.mono (Nat.le_trans hB hsz)))
    have HB1 := Lib.hid (H6.out.trans (hb1.mono hsz))
    have HLst1 := Lib.hid (H5.out.later hb1)
    have hsz1 := Nat.le_trans hsz hb1.size
    have hsz1' := hb1.size
    clear hy1 hb1 HR hs
    by_cases hf : isFrm (ahd r) = true
    · obtain ⟨q1, q2⟩ := isFrm_len hf
      go_wp2_with fail
      refine (open_yes HY1.out (by omega) hf).mono ?_
      rintro e w2 ⟨A2, rfl, hy2, hap, hb2⟩
      have HY2 := Lib.hid hy2
      have HLst2 := Lib.hid (HLst1.out.later hb2)
      have HB2 := Lib.hid (HB1.out.trans (hb2.mono hsz1))
      have hsz2 := Nat.le_trans hsz1 hb2.size
      have HAP : Hid (Apart (.slice vA fs.length vc) A2 ((ahd r).length - 4)) := Lib.hid (fun _ x hx e => by
        have e1 := hap x hx
        obtain ⟨cs, ho, _⟩ := HLst1.out.row
        have := (ho.lt _ e).2
        omega)
      have HF := Lib.hid hf
      clear hy2 hap hb2 HLst1 hf HB1 HY1
      go_wp2_with (at_builtin; refine app_one rfl _ _ rfl w.heap.size _ (fs.map inn) rfl A2 _ _ (inn (ahd r)) w2 rfl HLst2.out rfl HY2.out HAP.out (by rw [List.length_map]; omega) hsz2 ?_)
      intro A3 c3 w3 hl3 hb3
      have HL3 := Lib.hid hl3
      have HB3 := Lib.hid (HB2.out.trans hb3)
      clear hl3 hb3 HLst2 HY2 HAP HB2
      go_wp2
      go_roundw
      case rel =>
        have e1 : (fs ++ [ahd r]).flatten.length = at_ + (ahd r).length := by rw [sum_snoc, ← HAt.out]
        refine ⟨fs ++ [ahd r], by rw [e1]; go_num, by omega, by rw [e1, List.length_append, List.length_singleton]; omega, ?_, ?_, ?_, HB3.out⟩
        · intro f hf
          rcases List.mem_append.1 hf with x | x
          · exact H3.out f x
          · rw [List.mem_singleton.1 x]; exact HF.out
        · rw [e1, HAt.out, HRr.out, List.flatten_append, List.take_length_add_append, ahd_pre]
          simp
        · rw [List.map_append]
          exact HL3.out
      case measure => simp [intOf]; omega
    · have hf' : isFrm (ahd r) = false := by simpa using hf
      go_wp2_with fail
      refine (open_no HY1.out (by omega) hf').mono ?_
      rintro e w2 ⟨rfl, hb2⟩
      have HB2 := Lib.hid (HB1.out.trans (hb2.mono hsz1))
      have HS2 := Lib.hid ((HLst1.out.later hb2).bss)
      have HF := Lib.hid hf'
      clear hb2 hf hf'
      go_wp2
      go_ret2
      refine ⟨fs, vA, vc, by rw [← HAt.out]; rfl, ⟨H3.out, r, HRr.out, HF.out⟩, ?_, HB2.out⟩
      obtain ⟨a, c, e1, e2⟩ := HS2.out
      rw [List.length_map] at e1 e2
      simp only [Value.slice.injEq, true_and] at e1
      obtain ⟨rfl, rfl⟩ := e1
      exact e2

end Go.Proofs.YtejldeecblppjaaDoor
end

section
namespace Go.Proofs.YtejldeecblppjaaDoor
open Go.RowKit Bp Ck

theorem take_two (f : List Nat) (h : 2 ≤ f.length) : f.take 2 = [f.getD 0 0, f.getD 1 0] := by
  match f, h with
  | [], h => simp at h
  | [a], h => simp at h
  | a :: b :: r, _ => simp [List.getD]
theorem cut_head (f : List Nat) (h : 4 ≤ f.length) : f.take (f.length - 2) = [f.getD 0 0, f.getD 1 0] ++ inn f := by
  rw [← take_two f (by omega)]
  unfold inn
  rw [show f.length - 2 = 2 + (f.length - 4) by omega, List.take_add]
theorem cut_tail (f : List Nat) (h : 4 ≤ f.length) : f.drop (f.length - 2) = [f.getD (f.length - 2) 0, f.getD (f.length - 1) 0] := by
  have := drop_two f (by omega)
  rw [List.take_of_length_le (by rw [List.length_drop]; exact Nat.le_refl _)] at this
  exact this
theorem inn_len (f : List Nat) (h : 4 ≤ f.length) : (inn f).length = f.length - 4 := by
  unfold inn; rw [List.length_take, List.length_drop]; omega
theorem isFrm_iff (f : List Nat) : isFrm f = true ↔ 4 ≤ f.length ∧ f.length ≤ 1004 ∧ f.length = 256 * f.getD 0 0 + f.getD 1 0 + 4 ∧ crc (f.take (f.length - 2)) = 256 * f.getD (f.length - 2) 0 + f.getD (f.length - 1) 0 := by
  unfold isFrm
  simp only [Bool.and_eq_true, decide_eq_true_eq, beq_iff_eq, and_assoc]
/-- What is opened was framed so. -/
theorem frm_inn (f : List Nat) (hb : ∀ z ∈ f, z ≤ 255) (h : isFrm f = true) : frm (inn f) = f := by
  obtain ⟨h1, h2, h3, h4⟩ := (isFrm_iff f).1 h
  have b0 := getD_byte f 0 hb
  have b1 := getD_byte f 1 hb
  have b2 := getD_byte f (f.length - 2) hb
  have b3 := getD_byte f (f.length - 1) hb
  have e1 : tw (inn f).length = [f.getD 0 0, f.getD 1 0] := by
    rw [inn_len f h1, h3]
    unfold tw
    congr 1
    · omega
    · congr 1; omega
  have e2 : hd (inn f) = f.take (f.length - 2) := by
    unfold hd; rw [e1, cut_head f h1]
  unfold frm
  rw [e2, h4]
  have e3 : tw (256 * f.getD (f.length - 2) 0 + f.getD (f.length - 1) 0) = [f.getD (f.length - 2) 0, f.getD (f.length - 1) 0] := by
    unfold tw
    congr 1
    · omega
    · congr 1; omega
  rw [e3, ← cut_tail f h1, List.take_append_drop]
theorem frm_cons (zs : List Nat) : frm zs = zs.length / 256 :: zs.length % 256 :: (zs ++ tw (crc (hd zs))) := by
  simp [frm, hd, tw]
theorem inn_frm (zs : List Nat) : inn (frm zs) = zs := by
  unfold inn
  rw [frm_len, frm_cons]
  simp
/-- What was framed is a frame. -/
theorem isFrm_frm (zs : List Nat) (h : zs.length ≤ 1000) : isFrm (frm zs) = true := by
  rw [isFrm_iff, frm_len]
  refine ⟨by omega, by omega, ?_, ?_⟩
  · rw [frm_cons]; simp [List.getD]; omega
  · have e1 : (frm zs).take (zs.length + 4 - 2) = hd zs := by
      unfold frm
      rw [List.take_left' (by rw [hd_len]; omega)]
    have g : ∀ i, i < 2 → (frm zs).getD (zs.length + 2 + i) 0 = (tw (crc (hd zs))).getD i 0 := fun i hi => by
      unfold frm
      rw [List.getD, List.getElem?_append_right (by rw [hd_len]; omega), hd_len, List.getD, show zs.length + 2 + i - (zs.length + 2) = i by omega]
    rw [e1, show zs.length + 4 - 2 = zs.length + 2 + 0 by omega, show zs.length + 4 - 1 = zs.length + 2 + 1 by omega, g 0 (by omega), g 1 (by omega)]
    simp [tw, List.getD]
    omega
/-- Frames ahead. -/
theorem ahd_frm (f r : List Nat) (h : isFrm f = true) : ahd (f ++ r) = f := by
  obtain ⟨h1, h2, h3, _⟩ := (isFrm_iff f).1 h
  have g : ∀ i, i < f.length → (f ++ r).getD i 0 = f.getD i 0 := fun i hi => by simp [List.getD, List.getElem?_append_left hi]
  unfold ahd
  rw [if_neg (by simp; omega), g 0 (by omega), g 1 (by omega), ← h3, List.take_left]
theorem Scn.unique {b : List Nat} {fs gs : List (List Nat)} (hf : Scn b fs) (hg : Scn b gs) : fs = gs := by
  induction fs generalizing b gs with
  | nil =>
    cases gs with
    | nil => rfl
    | cons g gs =>
      obtain ⟨r, e, h⟩ := hf.rest
      obtain ⟨r', e', _⟩ := hg.rest
      have hgf := hg.each g (by simp)
      simp only [List.flatten_nil, List.nil_append] at e
      rw [← e, e', List.flatten_cons, List.append_assoc, ahd_frm g _ hgf, hgf] at h
      cases h
  | cons f fs ih =>
    have hff := hf.each f (by simp)
    obtain ⟨r, e, h⟩ := hf.rest
    cases gs with
    | nil =>
      obtain ⟨r', e', h'⟩ := hg.rest
      simp only [List.flatten_nil, List.nil_append] at e'
      rw [← e', e, List.flatten_cons, List.append_assoc, ahd_frm f _ hff, hff] at h'
      cases h'
    | cons g gs =>
      have hgf := hg.each g (by simp)
      obtain ⟨r', e', h'⟩ := hg.rest
      have a1 : ahd b = f := by rw [e, List.flatten_cons, List.append_assoc, ahd_frm f _ hff]
      have a2 : ahd b = g := by rw [e', List.flatten_cons, List.append_assoc, ahd_frm g _ hgf]
      have efg : f = g := a1.symm.trans a2
      subst efg
      congr 1
      rw [List.flatten_cons, List.append_assoc] at e e'
      have e2 : fs.flatten ++ r = gs.flatten ++ r' := by rw [e] at e'; exact List.append_cancel_left e'
      exact ih (b := fs.flatten ++ r) ⟨fun x hx => hf.each x (by simp [hx]), r, rfl, h⟩ ⟨fun x hx => hg.each x (by simp [hx]), r', e2, h'⟩
theorem Scn.flat_le {b : List Nat} {fs : List (List Nat)} (h : Scn b fs) : fs.flatten.length ≤ b.length := by
  obtain ⟨r, e, _⟩ := h.rest
  rw [e]; simp
theorem Scn.take {b : List Nat} {fs : List (List Nat)} (h : Scn b fs) : b.take fs.flatten.length = fs.flatten := by
  obtain ⟨r, e, _⟩ := h.rest
  rw [e, List.take_left]
theorem Scn.nil_of {b : List Nat} (h : isFrm (ahd b) = false) : Scn b [] := ⟨by simp, b, by simp, h⟩
/-- Frames ahead of bytes. -/
theorem Scn.ahead {b : List Nat} {fs gs : List (List Nat)} (hg : ∀ f ∈ gs, isFrm f = true) (h : Scn b fs) : Scn (gs.flatten ++ b) (gs ++ fs) := by
  obtain ⟨r, e, hr⟩ := h.rest
  refine ⟨fun f hf => ?_, r, by rw [e]; simp, hr⟩
  rcases List.mem_append.1 hf with x | x
  · exact hg f x
  · exact h.each f x

end Go.Proofs.YtejldeecblppjaaDoor
end

section
namespace Go.Proofs.YtejldeecblppjaaDoor
open Go.RowKit Bp Ck



theorem ex_frm : frm [] = [0, 0, 29, 15] := by decide +kernel
theorem ex_scn : Scn [0, 0, 29, 15, 0] [[0, 0, 29, 15]] := ⟨by decide +kernel, [0], by decide +kernel, by decide +kernel⟩
theorem ex_crc : crc [49, 50, 51, 52, 53, 54, 55, 56, 57] = 10673 := by decide +kernel
theorem lit_by (w : World) (l : List Nat) (fz : Nat × Nat) (hl : l.length ≤ 1048576) (hz : ∀ z ∈ l, z ≤ 255) : By (w.heap.size + 1) (w.alloc (.cells (bc l).toArray 5 fz)) (some ⟨w.heap.size, 0, none⟩) l.length l.length l := by
  refine ⟨rfl, Nat.le_refl _, by unfold maxLen; omega, fun e => (by cases e), hz, fun hn => ⟨w.heap.size, 0, rfl, by omega, fun j hj => ?_⟩⟩
  rw [Nat.zero_add, cell_of_row _ w.heap.size j _ _ _ (heap_alloc_new w _)]
  simp [bc, List.getD, List.getElem?_eq_getElem hj]


end Go.Proofs.YtejldeecblppjaaDoor
end

section
namespace Go.Proofs.YtejldeecblppjaaDoor
open Go.RowKit Bp Ck




theorem nums_back (l : List Nat) (hl : ∀ z ∈ l, z ≤ 255) : (Lib.bytesOf (l.map fun n : Nat => (n : Int))).map (fun u : UInt8 => u.toNat) = l := by
  unfold Lib.bytesOf
  rw [List.map_map, List.map_map]
  conv => rhs; rw [← List.map_id l]
  apply List.map_congr_left
  intro z hz
  have := hl z hz
  simp only [Function.comp, Int.toNat_natCast, id]
  exact Nat.mod_eq_of_lt (by omega)
/-- Strings of other bytes are others. -/
theorem strOf_ne (a b : List Nat) (ha : ∀ z ∈ a, z ≤ 255) (hb : ∀ z ∈ b, z ≤ 255) (h : a ≠ b) : ((strOf a).toList == (strOf b).toList) = false := by
  rw [beq_eq_false_iff_ne]
  intro e
  unfold strOf at e
  rw [Lib.strOfNums_toList, Lib.strOfNums_toList] at e
  exact h (by rw [← nums_back a ha, ← nums_back b hb, e])

/-- A frame, as the document says it. -/
theorem isFrm_ref (zs : List Nat) (hb : ∀ z ∈ zs, z ≤ 255) (h4 : 4 ≤ zs.length) : isFrm zs = true ↔ (inn zs).length ≤ 1000 ∧ frm (inn zs) = zs := by
  constructor
  · intro h
    have := isFrm_len h
    exact ⟨by rw [inn_len zs h4]; omega, frm_inn zs hb h⟩
  · rintro ⟨h1, h2⟩
    rw [← h2]
    exact isFrm_frm _ h1

end Go.Proofs.YtejldeecblppjaaDoor
end

section
namespace Go.Proofs.YtejldeecblppjaaDoor
open Go.RowKit Bp Ck


theorem refOpen_cut {n cap : Nat} (A : Option Addr) (h4 : 4 ≤ n) (hle : n ≤ cap) :
    ∀ wx, (Instr.slice 24 (.slice A n cap) (some (.int .i64 2)) (some (.int .i64 ((n : Int) - 2))) none).run Tryd.prog wx = .ok (.slice (cutA A 2 cap) (n - 4) (cap - 2)) wx := fun wx => by
  have := slice_lh A n cap 2 (n - 2) wx (by omega) (by omega)
  rw [show ((n - 2 : Nat) : Int) = (n : Int) - 2 by omega, show n - 2 - 2 = n - 4 by omega] at this
  exact this
theorem By.inner {B : Nat} {w : World} {A : Option Addr} {n cap : Nat} {zs : List Nat} (h : By B w A n cap zs) (h4 : 4 ≤ n) : By B w (cutA A 2 cap) (n - 4) (cap - 2) (inn zs) := by
  have := h.cut 2 (n - 2) cap (by omega) (by omega) (by have := h.le; omega) (Nat.le_refl _)
  rw [show n - 2 - 2 = n - 4 by omega] at this
  unfold inn
  rw [h.len]
  exact this




end Go.Proofs.YtejldeecblppjaaDoor
end
