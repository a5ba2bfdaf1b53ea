/-
  Layer 16: plain facts: a disk on which frames stand; what is noted, made safe, and left behind a crash.
-/
import Derived.Test.YtejldeecblppjaaDoorJrC
import Derived.Test.YtejldeecblppjaaDoorChkR
set_option linter.unusedVariables false
set_option maxRecDepth 100000
namespace Go.Proofs.YtejldeecblppjaaDoor
namespace Jr
open Go.RowKit Go.Maps Bp Ck
open Dk (D DAt DF op kp pwE apE apD syD cuE cuD IW crN crD)

theorem strOf_nums (s : ByteArray) : strOf (nums s) = s := by
  apply ByteArray.ext
  apply Array.toList_inj.1
  unfold strOf nums
  rw [strOfNums_data, List.map_map, List.map_map]
  conv => rhs; rw [← List.map_id s.data.toList]
  apply List.map_congr_left
  intro u _
  simp
theorem strOf_app (a b : List Nat) : strOf (a ++ b) = strOf a ++ strOf b := by
  unfold strOf
  rw [List.map_append, Nw.strOfNums_app]
theorem fr_text (s : ByteArray) : s.extract 0 (wl s) = strOf (fr s).flatten := by
  rw [← strOf_nums (s.extract 0 (wl s)), nums_ext]
  unfold wl
  rw [(fr_scn s).take]
/-- The power is on, and stays on. -/
def Live (d : D) : Prop := d.dead = false ∧ d.cut = false
theorem live_op {d : D} (h : Live d) : op d = d := op_live h.1 h.2
theorem live_pw {d : D} (h : Live d) : pwE (op d) = 0 := by rw [live_op h]; exact Dk.pw_on h.1
theorem live_kp {d : D} (h : Live d) (n : Nat) : Live (kp d n) := h
theorem live_cr (d : D) (x : Int) : Live (crD d x) := ⟨rfl, rfl⟩
theorem live_sy {d : D} (h : Live d) : Live (syD d) := by
  unfold syD
  rw [live_op h, if_neg (by rw [h.1]; simp)]
  exact h
theorem live_ap {d : D} (h : Live d) (t : ByteArray) : Live (apD d t) := by
  unfold apD
  rw [live_op h]
  split <;> exact h
theorem live_no {d : D} (h : Live d) (zs : List Nat) : Live (noD d zs) := by
  unfold noD
  split
  · exact h
  · exact live_ap h _
theorem live_new : Live Dk.d0 := ⟨rfl, rfl⟩
/-- The lists, framed, are the disk's bytes, and the first k of them are safe. -/
structure Hs (d : D) (ls : List (List Nat)) (k : Nat) : Prop where
  txt : d.s = strOf (frs ls ls.length).flatten
  safe : d.safe = fln ls k
  each : ∀ i, i < ls.length → (ls.getD i []).length ≤ 1000
  byte : ∀ i, i < ls.length → ∀ z ∈ ls.getD i [], z ≤ 255
  le : k ≤ ls.length
theorem frs_app (ls ms : List (List Nat)) (k : Nat) (h : k ≤ ls.length) : frs (ls ++ ms) k = frs ls k := by
  unfold frs
  rw [List.take_append_of_le_length h]
theorem fln_app (ls ms : List (List Nat)) (k : Nat) (h : k ≤ ls.length) : fln (ls ++ ms) k = fln ls k := by unfold fln; rw [frs_app ls ms k h]
theorem frs_snoc (ls : List (List Nat)) (zs : List Nat) : frs (ls ++ [zs]) (ls ++ [zs]).length = frs ls ls.length ++ [frm zs] := by
  have e : (ls ++ [zs]).length = ls.length + 1 := by simp
  rw [e, frs_succ _ _ (by omega), frs_app ls [zs] ls.length (Nat.le_refl _)]
  simp [List.getD]
theorem getD_snoc_lt {ls : List (List Nat)} {zs : List Nat} {i : Nat} (h : i < ls.length) : (ls ++ [zs]).getD i [] = ls.getD i [] := by simp [List.getD, List.getElem?_append_left h]
theorem getD_snoc_eq (ls : List (List Nat)) (zs : List Nat) : (ls ++ [zs]).getD ls.length [] = zs := by simp [List.getD]
theorem getD_take {ls : List (List Nat)} {i j : Nat} (h : i < j) : (ls.take j).getD i [] = ls.getD i [] := by simp [List.getD, h]
section
variable {d : D} {ls : List (List Nat)} {k : Nat}
theorem Hs.size (h : Hs d ls k) : d.s.size = fln ls ls.length := by rw [h.txt, strOf_size]; rfl
theorem Hs.few (h : Hs d ls k) : fln ls ls.length ≤ 1004 * ls.length := fln_le ls _ (Nat.le_refl _) h.each
theorem Hs.like {d' : D} (h : Hs d ls k) (h1 : d'.s = d.s) (h2 : d'.safe = d.safe) : Hs d' ls k := ⟨h1.trans h.txt, h2.trans h.safe, h.each, h.byte, h.le⟩
theorem hs_new : Hs Dk.d0 [] 0 := ⟨by show ByteArray.empty = _; kernel_rfl, rfl, fun i hi => by simp at hi, fun i hi => by simp at hi, Nat.le_refl _⟩
/-- Note's error. -/
theorem Hs.noE_room (h : Hs d ls k) (hl : fln ls ls.length + 1004 ≤ 1048576) (zs : List Nat) : Jr.noE d zs = if 1000 < zs.length then 4 else if (op d).dead = true then 5 else 0 := by
  unfold Jr.noE
  by_cases hz : 1000 < zs.length
  · rw [if_pos hz, if_pos hz]
  · rw [if_neg hz, if_neg hz]
    unfold apE
    have h1 := h.size
    have h3 : (strOf (frm zs)).size = zs.length + 4 := by rw [strOf_size, frm_len]
    by_cases hd : (op d).dead = true
    · rw [if_pos hd, if_pos hd]
    · rw [if_neg hd, if_neg hd, if_neg (by omega)]
theorem Hs.noE (h : Hs d ls k) (hl : ls.length < 1000) (zs : List Nat) : Jr.noE d zs = if 1000 < zs.length then 4 else if (op d).dead = true then 5 else 0 := h.noE_room (by have := h.few; omega) zs
theorem Hs.note (h : Hs d ls k) {zs : List Nat} (hb : ∀ z ∈ zs, z ≤ 255) (h0 : Jr.noE d zs = 0) : Hs (noD d zs) (ls ++ [zs]) k := by
  have hz : ¬ 1000 < zs.length := fun hz => by unfold Jr.noE at h0; rw [if_pos hz] at h0; cases h0
  have ha : apE d (strOf (frm zs)) = 0 := by unfold Jr.noE at h0; rwa [if_neg hz] at h0
  have e : noD d zs = ⟨d.s ++ strOf (frm zs), d.safe, (op d).dead, (op d).cut, (op d).after⟩ := by unfold noD; rw [if_neg hz]; unfold apD; rw [if_pos ha]
  rw [e]
  refine ⟨?_, ?_, fun i hi => ?_, fun i hi => ?_, by have := h.le; simp; omega⟩
  · show d.s ++ strOf (frm zs) = _
    rw [frs_snoc, List.flatten_append, strOf_app, h.txt]
    simp
  · show d.safe = _
    rw [fln_app ls [zs] k h.le, h.safe]
  · rw [List.length_append, List.length_singleton] at hi
    rcases Nat.lt_or_ge i ls.length with q | q
    · rw [getD_snoc_lt q]; exact h.each i q
    · obtain rfl : i = ls.length := by omega
      rw [getD_snoc_eq]; omega
  · rw [List.length_append, List.length_singleton] at hi
    rcases Nat.lt_or_ge i ls.length with q | q
    · rw [getD_snoc_lt q]; exact h.byte i q
    · obtain rfl : i = ls.length := by omega
      rw [getD_snoc_eq]; exact hb
theorem Hs.noted (h : Hs d ls k) {zs : List Nat} (h0 : Jr.noE d zs ≠ 0) : Hs (noD d zs) ls k := by
  refine h.like ?_ ?_
  · unfold noD
    split
    · rfl
    · have ha : apE d (strOf (frm zs)) ≠ 0 := by unfold Jr.noE at h0; rwa [if_neg (by assumption)] at h0
      unfold apD
      rw [if_neg ha]
      exact Dk.op_s d
  · unfold noD
    split
    · rfl
    · have ha : apE d (strOf (frm zs)) ≠ 0 := by unfold Jr.noE at h0; rwa [if_neg (by assumption)] at h0
      unfold apD
      rw [if_neg ha]
      exact Dk.op_safe d
theorem noD_dead {zs : List Nat} (h5 : Jr.noE d zs = 5) : (noD d zs).dead = true := by
  have hz : ¬ 1000 < zs.length := fun hz => by unfold Jr.noE at h5; rw [if_pos hz] at h5; cases h5
  have ha : apE d (strOf (frm zs)) = 5 := by unfold Jr.noE at h5; rwa [if_neg hz] at h5
  have e : noD d zs = op d := by unfold noD; rw [if_neg hz]; unfold apD; rw [ha]; rfl
  rw [e]
  unfold apE at ha
  by_cases hd : (op d).dead = true
  · exact hd
  · rw [if_neg hd] at ha
    split at ha <;> cases ha
theorem Hs.sync (h : Hs d ls k) (h0 : (op d).dead = false) : Hs (syD d) ls ls.length := by
  have e : syD d = kp (op d) d.s.size := by unfold syD; rw [if_neg (by rw [h0]; simp)]
  rw [e]
  refine ⟨?_, ?_, h.each, h.byte, Nat.le_refl _⟩
  · show (op d).s.extract 0 d.s.size = _
    rw [Dk.op_s, Dk.ext_all, ← h.txt]
  · exact h.size
theorem Hs.synced (h : Hs d ls k) (h0 : (op d).dead = true) : Hs (syD d) ls k := by
  have e : syD d = op d := by unfold syD; rw [if_pos h0]
  rw [e]
  exact h.like (Dk.op_s d) (Dk.op_safe d)
theorem pick (ls : List (List Nat)) (k m : Nat) : ∀ K, k ≤ K → fln ls k ≤ m → ∃ j, k ≤ j ∧ j ≤ K ∧ fln ls j ≤ m ∧ (j < K → m < fln ls (j + 1)) := by
  intro K
  induction K with
  | zero => intro hk hm; exact ⟨k, Nat.le_refl _, hk, hm, fun h => by omega⟩
  | succ K ih =>
    intro hk hm
    rcases Nat.lt_or_ge K k with q | q
    · obtain rfl : k = K + 1 := by omega
      exact ⟨K + 1, Nat.le_refl _, Nat.le_refl _, hm, fun h => by omega⟩
    · obtain ⟨j, h1, h2, h3, h4⟩ := ih q hm
      by_cases hK : fln ls (K + 1) ≤ m
      · exact ⟨K + 1, by omega, Nat.le_refl _, hK, fun h => by omega⟩
      · refine ⟨j, h1, by omega, h3, fun hj => ?_⟩
        rcases Nat.lt_or_ge j K with z | z
        · exact h4 z
        · obtain rfl : j = K := by omega
          omega
/-- What is opened of a disk on which frames stand, the last of them cut off. -/
theorem Hs.cut (h : Hs d ls k) {d' : D} {m : Nat} (hs : d'.s = d.s.extract 0 m) (hm : m ≤ d.s.size) (hk : d.safe ≤ m) : ∃ j, k ≤ j ∧ j ≤ ls.length ∧ fr d'.s = frs ls j ∧ Hs (kp d' (wl d'.s)) (ls.take j) j ∧ fln ls j ≤ m := by
  have hle := h.le
  obtain ⟨j, j1, j2, j3, j4⟩ := pick ls k m ls.length hle (by rw [← h.safe]; exact hk)
  have hn : nums d'.s = (frs ls ls.length).flatten.take m := by
    rw [hs, nums_ext, h.txt, nums_strOf (frs_byte ls _ h.each h.byte (Nat.le_refl _))]
  have hsc := scn_cut ls ls.length j m (Nat.le_refl _) h.each j2 j3 (by rw [← h.size]; exact hm) j4
  rw [← hn] at hsc
  have hf := fr_eq hsc
  refine ⟨j, j1, j2, hf, ?_, j3⟩
  have hl : (ls.take j).length = j := by rw [List.length_take]; omega
  have e : frs (ls.take j) (ls.take j).length = frs ls j := by
    unfold frs
    rw [hl, List.take_take, Nat.min_self]
  refine ⟨?_, ?_, fun i hi => ?_, fun i hi => ?_, by omega⟩
  · show d'.s.extract 0 (wl d'.s) = _
    rw [fr_text, hf, e]
  · show wl d'.s = _
    have e2 : frs (ls.take j) j = frs ls j := by unfold frs; rw [List.take_take, Nat.min_self]
    unfold wl fln
    rw [hf, e2]
  · rw [getD_take (by omega)]; exact h.each i (by omega)
  · rw [getD_take (by omega)]; exact h.byte i (by omega)
theorem Hs.crash (h : Hs d ls k) (hle : d.safe ≤ d.s.size) (x : Int) : ∃ j, k ≤ j ∧ j ≤ ls.length ∧ fr (crD d x).s = frs ls j ∧ Hs (kp (crD d x) (wl (crD d x).s)) (ls.take j) j ∧ fln ls j ≤ crN d x :=
  h.cut (m := crN d x) rfl (Dk.crN_le hle x) (by unfold crN; omega)
/-- What is opened of a disk on which frames stand. -/
theorem Hs.opened (h : Hs d ls k) : fr d.s = frs ls ls.length ∧ Hs (kp d (wl d.s)) ls ls.length := by
  have hn : nums d.s = (frs ls ls.length).flatten := by rw [h.txt, nums_strOf (frs_byte ls _ h.each h.byte (Nat.le_refl _))]
  have hsc : Scn (nums d.s) (frs ls ls.length) := ⟨frs_each ls _ h.each (Nat.le_refl _), [], by rw [hn]; simp, by decide⟩
  have hf := fr_eq hsc
  refine ⟨hf, ?_, ?_, h.each, h.byte, Nat.le_refl _⟩
  · show d.s.extract 0 (wl d.s) = _
    rw [fr_text, hf]
  · show wl d.s = _
    unfold wl fln
    rw [hf]
theorem inn_frs (ls : List (List Nat)) : (frs ls ls.length).map inn = ls := by rw [frs_inn, List.take_length]
/-- What is opened of any disk. -/
theorem hs_any (d : D) : Hs (kp d (wl d.s)) ((fr d.s).map inn) (fr d.s).length := by
  have h := fr_scn d.s
  have hb : ∀ f ∈ fr d.s, ∀ z ∈ f, z ≤ 255 := fun f hf z hz => nums_byte d.s z (by
    obtain ⟨r, e, _⟩ := h.rest
    rw [e]
    exact List.mem_append_left _ (List.mem_flatten.2 ⟨f, hf, hz⟩))
  have e : frs ((fr d.s).map inn) ((fr d.s).map inn).length = fr d.s := by
    unfold frs
    rw [List.take_length, List.map_map]
    conv => rhs; rw [← List.map_id (fr d.s)]
    apply List.map_congr_left
    intro f hf
    exact frm_inn f (hb f hf) (h.each f hf)
  have hl : ((fr d.s).map inn).length = (fr d.s).length := by simp
  have hg : ∀ i, i < ((fr d.s).map inn).length → ∃ f ∈ fr d.s, ((fr d.s).map inn).getD i [] = inn f := fun i hi => by
    rw [hl] at hi
    exact ⟨(fr d.s)[i], List.getElem_mem hi, by simp [List.getD, List.getElem?_eq_getElem hi]⟩
  refine ⟨?_, ?_, fun i hi => ?_, fun i hi => ?_, by rw [hl]; exact Nat.le_refl _⟩
  · show d.s.extract 0 (wl d.s) = _
    rw [fr_text, e]
  · show wl d.s = fln _ _
    unfold wl fln
    rw [hl] at e
    rw [e]
  · obtain ⟨f, hf, e1⟩ := hg i hi
    have := isFrm_len (h.each f hf)
    rw [e1, inn_len f this.1]
    omega
  · obtain ⟨f, hf, e1⟩ := hg i hi
    rw [e1]
    intro z hz
    unfold inn at hz
    exact hb f hf z (List.mem_of_mem_drop (List.mem_of_mem_take hz))
end
end Jr
end Go.Proofs.YtejldeecblppjaaDoor
