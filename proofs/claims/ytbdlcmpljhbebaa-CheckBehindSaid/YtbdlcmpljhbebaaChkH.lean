/-
  Plain facts on frames: what a frame is, that it is opened, that what is opened was framed so; frames one behind the other.
-/
import Derived.Test.YtbdlcmpljhbebaaChkG
set_option linter.unusedVariables false
namespace Go.Proofs.Ytbdlcmpljhbebaa
open Go.RowKit Bp Ck

theorem take_two (f : List Nat) (h : 2 ≤ f.length) : f.take 2 = [f.getD 0 0, f.getD 1 0] := by
  match f, h with
  | [], h => simp at h
  | [a], h => simp at h
  | a :: b :: r, _ => simp [List.getD]
theorem cut_head (f : List Nat) (h : 4 ≤ f.length) : f.take (f.length - 2) = [f.getD 0 0, f.getD 1 0] ++ inn f := by
  rw [← take_two f (by omega)]
  unfold inn
  rw [show f.length - 2 = 2 + (f.length - 4) by omega, List.take_add]
theorem cut_tail (f : List Nat) (h : 4 ≤ f.length) : f.drop (f.length - 2) = [f.getD (f.length - 2) 0, f.getD (f.length - 1) 0] := by
  have := drop_two f (by omega)
  rw [List.take_of_length_le (by rw [List.length_drop]; exact Nat.le_refl _)] at this
  exact this
theorem inn_len (f : List Nat) (h : 4 ≤ f.length) : (inn f).length = f.length - 4 := by
  unfold inn; rw [List.length_take, List.length_drop]; omega
theorem isFrm_iff (f : List Nat) : isFrm f = true ↔ 4 ≤ f.length ∧ f.length ≤ 1004 ∧ f.length = 256 * f.getD 0 0 + f.getD 1 0 + 4 ∧ crc (f.take (f.length - 2)) = 256 * f.getD (f.length - 2) 0 + f.getD (f.length - 1) 0 := by
  unfold isFrm
  simp only [Bool.and_eq_true, decide_eq_true_eq, beq_iff_eq, and_assoc]
/-- What is opened was framed so. -/
theorem frm_inn (f : List Nat) (hb : ∀ z ∈ f, z ≤ 255) (h : isFrm f = true) : frm (inn f) = f := by
  obtain ⟨h1, h2, h3, h4⟩ := (isFrm_iff f).1 h
  have b0 := getD_byte f 0 hb
  have b1 := getD_byte f 1 hb
  have b2 := getD_byte f (f.length - 2) hb
  have b3 := getD_byte f (f.length - 1) hb
  have e1 : tw (inn f).length = [f.getD 0 0, f.getD 1 0] := by
    rw [inn_len f h1, h3]
    unfold tw
    congr 1
    · omega
    · congr 1; omega
  have e2 : hd (inn f) = f.take (f.length - 2) := by
    unfold hd; rw [e1, cut_head f h1]
  unfold frm
  rw [e2, h4]
  have e3 : tw (256 * f.getD (f.length - 2) 0 + f.getD (f.length - 1) 0) = [f.getD (f.length - 2) 0, f.getD (f.length - 1) 0] := by
    unfold tw
    congr 1
    · omega
    · congr 1; omega
  rw [e3, ← cut_tail f h1, List.take_append_drop]
theorem frm_cons (zs : List Nat) : frm zs = zs.length / 256 :: zs.length % 256 :: (zs ++ tw (crc (hd zs))) := by
  simp [frm, hd, tw]
theorem inn_frm (zs : List Nat) : inn (frm zs) = zs := by
  unfold inn
  rw [frm_len, frm_cons]
  simp
/-- What was framed is a frame. -/
theorem isFrm_frm (zs : List Nat) (h : zs.length ≤ 1000) : isFrm (frm zs) = true := by
  rw [isFrm_iff, frm_len]
  refine ⟨by omega, by omega, ?_, ?_⟩
  · rw [frm_cons]; simp [List.getD]; omega
  · have e1 : (frm zs).take (zs.length + 4 - 2) = hd zs := by
      unfold frm
      rw [List.take_left' (by rw [hd_len]; omega)]
    have g : ∀ i, i < 2 → (frm zs).getD (zs.length + 2 + i) 0 = (tw (crc (hd zs))).getD i 0 := fun i hi => by
      unfold frm
      rw [List.getD, List.getElem?_append_right (by rw [hd_len]; omega), hd_len, List.getD, show zs.length + 2 + i - (zs.length + 2) = i by omega]
    rw [e1, show zs.length + 4 - 2 = zs.length + 2 + 0 by omega, show zs.length + 4 - 1 = zs.length + 2 + 1 by omega, g 0 (by omega), g 1 (by omega)]
    simp [tw, List.getD]
    omega
/-- Frames ahead. -/
theorem ahd_frm (f r : List Nat) (h : isFrm f = true) : ahd (f ++ r) = f := by
  obtain ⟨h1, h2, h3, _⟩ := (isFrm_iff f).1 h
  have g : ∀ i, i < f.length → (f ++ r).getD i 0 = f.getD i 0 := fun i hi => by simp [List.getD, List.getElem?_append_left hi]
  unfold ahd
  rw [if_neg (by simp; omega), g 0 (by omega), g 1 (by omega), ← h3, List.take_left]
theorem Scn.unique {b : List Nat} {fs gs : List (List Nat)} (hf : Scn b fs) (hg : Scn b gs) : fs = gs := by
  induction fs generalizing b gs with
  | nil =>
    cases gs with
    | nil => rfl
    | cons g gs =>
      obtain ⟨r, e, h⟩ := hf.rest
      obtain ⟨r', e', _⟩ := hg.rest
      have hgf := hg.each g (by simp)
      simp only [List.flatten_nil, List.nil_append] at e
      rw [← e, e', List.flatten_cons, List.append_assoc, ahd_frm g _ hgf, hgf] at h
      cases h
  | cons f fs ih =>
    have hff := hf.each f (by simp)
    obtain ⟨r, e, h⟩ := hf.rest
    cases gs with
    | nil =>
      obtain ⟨r', e', h'⟩ := hg.rest
      simp only [List.flatten_nil, List.nil_append] at e'
      rw [← e', e, List.flatten_cons, List.append_assoc, ahd_frm f _ hff, hff] at h'
      cases h'
    | cons g gs =>
      have hgf := hg.each g (by simp)
      obtain ⟨r', e', h'⟩ := hg.rest
      have a1 : ahd b = f := by rw [e, List.flatten_cons, List.append_assoc, ahd_frm f _ hff]
      have a2 : ahd b = g := by rw [e', List.flatten_cons, List.append_assoc, ahd_frm g _ hgf]
      have efg : f = g := a1.symm.trans a2
      subst efg
      congr 1
      rw [List.flatten_cons, List.append_assoc] at e e'
      have e2 : fs.flatten ++ r = gs.flatten ++ r' := by rw [e] at e'; exact List.append_cancel_left e'
      exact ih (b := fs.flatten ++ r) ⟨fun x hx => hf.each x (by simp [hx]), r, rfl, h⟩ ⟨fun x hx => hg.each x (by simp [hx]), r', e2, h'⟩
theorem Scn.flat_le {b : List Nat} {fs : List (List Nat)} (h : Scn b fs) : fs.flatten.length ≤ b.length := by
  obtain ⟨r, e, _⟩ := h.rest
  rw [e]; simp
theorem Scn.take {b : List Nat} {fs : List (List Nat)} (h : Scn b fs) : b.take fs.flatten.length = fs.flatten := by
  obtain ⟨r, e, _⟩ := h.rest
  rw [e, List.take_left]
theorem Scn.nil_of {b : List Nat} (h : isFrm (ahd b) = false) : Scn b [] := ⟨by simp, b, by simp, h⟩
/-- Frames ahead of bytes. -/
theorem Scn.ahead {b : List Nat} {fs gs : List (List Nat)} (hg : ∀ f ∈ gs, isFrm f = true) (h : Scn b fs) : Scn (gs.flatten ++ b) (gs ++ fs) := by
  obtain ⟨r, e, hr⟩ := h.rest
  refine ⟨fun f hf => ?_, r, by rw [e]; simp, hr⟩
  rcases List.mem_append.1 hf with x | x
  · exact hg f x
  · exact h.each f x

end Go.Proofs.Ytbdlcmpljhbebaa
