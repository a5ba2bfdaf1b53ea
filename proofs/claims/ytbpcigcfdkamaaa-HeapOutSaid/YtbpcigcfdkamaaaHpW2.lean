/-
  The heap: an entry settles, up or down.
-/
import Derived.Test.YtbpcigcfdkamaaaHpW1
set_option linter.unusedVariables false
set_option maxRecDepth 100000
namespace Go.Proofs.Ytbpcigcfdkamaaa
open Go.RowKit E

theorem least_int (g n cap a f m : Nat) (l : List E) (w : World) (h : Tree w g n cap l) (ha : a < n ∨ m ≤ f) (hf : m ≤ n) (F M : Int) (hF : F = f) (hM : M = m) :
    Calls Try.prog 26 #[.int .i64 (a : Int), .int .i64 F, .int .i64 M, .func (.func 27) #[.slice (some ⟨g, 0, none⟩) n cap] #[]] w (TellsN (lst l a f (m - f)) w) := by
  subst hF hM; exact least_any g n cap a f m l w h ha hf

theorem below_any (g n cap i : Nat) (l : List E) (w : World) (h : Tree w g n cap l) (hi : i < n ∨ i = 0) (hs : n ≤ 1000000) :
    Calls Try.prog 24 #[.slice (some ⟨g, 0, none⟩) n cap, .int .i64 (i : Int)] w (TellsN (dn l i) w) := by
  have HT := Lib.hid h
  have HD : Hid (dn l i = lst l i (2 * i + 1) (min (2 * i + 3) n - (2 * i + 1))) := Lib.hid (by unfold dn; rw [h.len])
  clear h
  obtain ⟨r, hr⟩ : ∃ r, r = dn l i := ⟨_, rfl⟩
  rw [← hr] at HD ⊢
  have HA : Hid (i < n ∨ min (2 * i + 3) n ≤ 2 * i + 1) := Lib.hid (by omega)
  have hi2 : (i : Int) ≤ 1000000 := by omega
  clear hr hi
  by_cases h : 2 * (i : Int) + 1 + 2 ≤ (n : Int)
  · go_enter Try.func24, Try.ntmps24
    go_wp2_with (go_at_call 26; refine (least_int g n cap i (2 * i + 1) (min (2 * i + 3) n) l w HT.out HA.out (by omega) _ _ (by omega) (by omega)).mono ?_; rintro e w3 ⟨rfl, hb⟩; rw [← HD.out]; have HB := Lib.hid hb; clear hb HD)
    go_ret
    exact ⟨rfl, HB.out⟩
  · go_enter Try.func24, Try.ntmps24
    go_wp2_with (go_at_call 26; refine (least_int g n cap i (2 * i + 1) (min (2 * i + 3) n) l w HT.out HA.out (by omega) _ _ (by omega) (by omega)).mono ?_; rintro e w3 ⟨rfl, hb⟩; rw [← HD.out]; have HB := Lib.hid hb; clear hb HD)
    go_ret
    exact ⟨rfl, HB.out⟩

theorem ec_set : ∀ (l : List E) (i : Nat) (x : E), ec (l.set i x) = (((ec l).set (i * 3) (.int .i64 x.k)).set (i * 3 + 1) (.int .i64 x.v)).set (i * 3 + 2) (.int .i64 x.t)
  | [], i, x => by simp [ec]
  | a :: l, 0, x => by simp [ec, e3]
  | a :: l, i + 1, x => by
    have e1 : (i + 1) * 3 = i * 3 + 1 + 1 + 1 := by omega
    rw [List.set_cons_succ, ec, ec_set l i x, e1]
    simp [ec, e3]

theorem Tree.put {w : World} {g n cap : Nat} {l : List E} (h : Tree w g n cap l) (i : Nat) (x : E) :
    Tree (((w.setCell ⟨g, i * 3, none⟩ (.int .i64 x.k)).setCell ⟨g, i * 3 + 1, none⟩ (.int .i64 x.v)).setCell ⟨g, i * 3 + 2, none⟩ (.int .i64 x.t)) g n cap (l.set i x) := by
  refine ⟨?_, by simp [h.len]⟩
  have r1 := (h.row.stored (i * 3) (.int .i64 x.k)).1
  have r2 := (r1.stored (i * 3 + 1) (.int .i64 x.v)).1
  have r3 := (r2.stored (i * 3 + 2) (.int .i64 x.t)).1
  rw [ec_set]
  exact r3

/-- Only the block of the tree is written. -/
def OnlyB (g : Nat) : Nat → Prop := fun k => k = g
theorem Turn.three {F F' : Nat → Prop} {w w' : World} (h : Turn F F' w w') {g : Nat} (o1 o2 o3 : Nat) (u1 u2 u3 : Value) (hg : F' g) : Turn F F' w (((w'.setCell ⟨g, o1, none⟩ u1).setCell ⟨g, o2, none⟩ u2).setCell ⟨g, o3, none⟩ u3) :=
  ((h.put u1 hg).put u2 hg).put u3 hg

theorem settle_up (nx : List E → Nat → Nat) (m : Nat → Nat) (g n cap i : Nat) (l : List E) (w : World) (h : Tree w g n cap l) (hi : i < n ∨ i = 0)
    (hN : ∀ (l : List E) (w : World) (i : Nat), Tree w g n cap l → i < n ∨ i = 0 → Calls Try.prog 25 #[.slice (some ⟨g, 0, none⟩) n cap, .int .i64 (i : Int)] w (TellsN (nx l i) w))
    (hb : ∀ (l : List E) (i : Nat), l.length = n → i < n ∨ i = 0 → nx l i ≠ i → nx l i < n ∧ i < n ∧ m (nx l i) < m i) :
    Calls Try.prog 23 #[.slice (some ⟨g, 0, none⟩) n cap, .int .i64 (i : Int), .func (.func 25) #[] #[]] w fun e w' => e = .returned (.tuple #[]) ∧ ∃ l', Stl nx l i l' ∧ Tree w' g n cap l' ∧ Turn (OnlyB g) (OnlyB g) w w' := by
  have hmax := h.max
  have HT := Lib.hid h
  have HN := Lib.hid hN
  have HB := Lib.hid hb
  clear h hN hb
  go_enter Try.func23, Try.ntmps23
  go_wp2_with fail
  refine (HN.out l w i HT.out hi).mono ?_
  rintro e w1 ⟨rfl, hb⟩
  have HT1 := Lib.hid (HT.out.below hb)
  have HW1 := Lib.hid (Turn.ofBelow hb (OnlyB g))
  clear hb
  obtain ⟨t0, ht0⟩ : ∃ t, t = nx l i := ⟨_, rfl⟩
  rw [← ht0]
  have HT0 := Lib.hid ht0
  clear ht0
  go_wp2
  go_loopw [1, 6] (fun av tv wr => ∃ (i1 t : Nat) (l1 : List E), (i1 < n ∨ i1 = 0) ∧ av = .int .i64 (i1 : Int) ∧ tv = .int .i64 (t : Int) ∧ t = nx l1 i1 ∧ Tree wr g n cap l1 ∧ (∀ l', Stl nx l1 i1 l' → Stl nx l i l') ∧ Turn (OnlyB g) (OnlyB g) w wr) (fun av _ _ => m (intOf av).toNat)
  case atStart => exact ⟨i, t0, l, hi, rfl, rfl, HT0.out, HT1.out, fun _ h => h, HW1.out⟩
  case round =>
    obtain ⟨i1, t, l1, hi1, rfl, rfl, ht, hT, hS, hW⟩ := hrel
    by_cases hne : t = i1
    · have HF := Lib.hid (hS l1 (.stop _ _ (ht.symm.trans hne)))
      have HT2 := Lib.hid hT
      have HW2 := Lib.hid hW
      clear hT hS hW ht HT1 HW1
      have hq : ((t : Int) != (i1 : Int)) = false := by simp [hne]
      clear hne
      go_wp2
      go_end0
      exact ⟨rfl, l1, HF.out, HT2.out, HW2.out⟩
    · obtain ⟨htn, hin, hmm⟩ := HB.out l1 i1 hT.len hi1 (by rw [← ht]; exact hne)
      rw [← ht] at htn
      have hne' : ¬ ((t : Int) = (i1 : Int)) := by omega
      obtain ⟨c0, c1, c2⟩ := hT.cells t htn
      obtain ⟨d0, d1, d2⟩ := hT.cells i1 hin
      have f0 : ∀ j, wr.frozen? ⟨g, j, none⟩ = false := fun j => hT.row.frozenAt j
      have fa := f0 (t * 3)
      have fb := f0 (t * 3 + 1)
      have fc := f0 (t * 3 + 2)
      have fd := f0 (i1 * 3)
      have fe := f0 (i1 * 3 + 1)
      have ff := f0 (i1 * 3 + 2)
      have HST := Lib.hid hS
      have HT2 := Lib.hid hT
      have HW2 := Lib.hid hW
      have HTT := Lib.hid ht
      clear f0 hT hS hW ht HT1 HW1
      have hq : ((t : Int) != (i1 : Int)) = true := by simpa using hne'
      have HNE := Lib.hid hne
      clear hne
      go_wp2
      go_region
      have HT3 := Lib.hid ((HT2.out.put i1 (gt l1 t)).put t (gt l1 i1))
      have HW3 : Hid (Turn (OnlyB g) (OnlyB g) w _) := Lib.hid (((HW2.out.three (i1 * 3) (i1 * 3 + 1) (i1 * 3 + 2) (.int .i64 (gt l1 t).k) (.int .i64 (gt l1 t).v) (.int .i64 (gt l1 t).t) rfl).three (t * 3) (t * 3 + 1) (t * 3 + 2) (.int .i64 (gt l1 i1).k) (.int .i64 (gt l1 i1).v) (.int .i64 (gt l1 i1).t) rfl).drew)
      have HS3 : Hid (∀ l', Stl nx (swp l1 i1 t) t l' → Stl nx l i l') := Lib.hid (fun l' hl => HST.out l' (.step _ _ _ (by rw [← HTT.out]; exact HNE.out) (by rw [← HTT.out]; exact hl)))
      have hls : (swp l1 i1 t).length = n := by rw [swp_length]; exact HT2.out.len
      have HLS := Lib.hid hls
      obtain ⟨w5, hw5⟩ : ∃ w5, w5 = ((((((wr.setCell ⟨g, i1 * 3, none⟩ (.int .i64 (gt l1 t).k)).setCell ⟨g, i1 * 3 + 1, none⟩ (.int .i64 (gt l1 t).v)).setCell ⟨g, i1 * 3 + 2, none⟩ (.int .i64 (gt l1 t).t)).setCell ⟨g, t * 3, none⟩ (.int .i64 (gt l1 i1).k)).setCell ⟨g, t * 3 + 1, none⟩ (.int .i64 (gt l1 i1).v)).setCell ⟨g, t * 3 + 2, none⟩ (.int .i64 (gt l1 i1).t)).drew := ⟨_, rfl⟩
      have HT4 : Hid (Tree w5 g n cap (swp l1 i1 t)) := Lib.hid (by rw [hw5]; exact ⟨HT3.out.row.drew, HT3.out.len⟩)
      have HW4 : Hid (Turn (OnlyB g) (OnlyB g) w w5) := Lib.hid (by rw [hw5]; exact HW3.out)
      rw [← hw5]
      clear hw5 HT3 HW3 c0 c1 c2 d0 d1 d2 fa fb fc fd fe ff hls
      go_wp2_with fail
      refine (HN.out _ _ t HT4.out (.inl htn)).mono ?_
      rintro e w6 ⟨rfl, hb⟩
      have HT6 := Lib.hid (HT4.out.below hb)
      have HW6 := Lib.hid (HW4.out.trans (Turn.ofBelow hb (OnlyB g)))
      clear hb
      obtain ⟨t2, ht2⟩ : ∃ t2, t2 = nx (swp l1 i1 t) t := ⟨_, rfl⟩
      rw [← ht2]
      have HT2' := Lib.hid ht2
      have hmm' : m t < m i1 := by rw [HTT.out]; exact hmm
      clear ht2 hmm
      go_wp2
      go_roundw
      case rel => exact ⟨t, t2, _, .inl htn, rfl, rfl, HT2'.out, HT6.out, HS3.out, HW6.out⟩
      case measure => simp [intOf]; exact hmm'

theorem settle_dn (nx : List E → Nat → Nat) (m : Nat → Nat) (g n cap i : Nat) (l : List E) (w : World) (h : Tree w g n cap l) (hi : i < n ∨ i = 0)
    (hN : ∀ (l : List E) (w : World) (i : Nat), Tree w g n cap l → i < n ∨ i = 0 → Calls Try.prog 24 #[.slice (some ⟨g, 0, none⟩) n cap, .int .i64 (i : Int)] w (TellsN (nx l i) w))
    (hb : ∀ (l : List E) (i : Nat), l.length = n → i < n ∨ i = 0 → nx l i ≠ i → nx l i < n ∧ i < n ∧ m (nx l i) < m i) :
    Calls Try.prog 23 #[.slice (some ⟨g, 0, none⟩) n cap, .int .i64 (i : Int), .func (.func 24) #[] #[]] w fun e w' => e = .returned (.tuple #[]) ∧ ∃ l', Stl nx l i l' ∧ Tree w' g n cap l' ∧ Turn (OnlyB g) (OnlyB g) w w' := by
  have hmax := h.max
  have HT := Lib.hid h
  have HN := Lib.hid hN
  have HB := Lib.hid hb
  clear h hN hb
  go_enter Try.func23, Try.ntmps23
  go_wp2_with fail
  refine (HN.out l w i HT.out hi).mono ?_
  rintro e w1 ⟨rfl, hb⟩
  have HT1 := Lib.hid (HT.out.below hb)
  have HW1 := Lib.hid (Turn.ofBelow hb (OnlyB g))
  clear hb
  obtain ⟨t0, ht0⟩ : ∃ t, t = nx l i := ⟨_, rfl⟩
  rw [← ht0]
  have HT0 := Lib.hid ht0
  clear ht0
  go_wp2
  go_loopw [1, 6] (fun av tv wr => ∃ (i1 t : Nat) (l1 : List E), (i1 < n ∨ i1 = 0) ∧ av = .int .i64 (i1 : Int) ∧ tv = .int .i64 (t : Int) ∧ t = nx l1 i1 ∧ Tree wr g n cap l1 ∧ (∀ l', Stl nx l1 i1 l' → Stl nx l i l') ∧ Turn (OnlyB g) (OnlyB g) w wr) (fun av _ _ => m (intOf av).toNat)
  case atStart => exact ⟨i, t0, l, hi, rfl, rfl, HT0.out, HT1.out, fun _ h => h, HW1.out⟩
  case round =>
    obtain ⟨i1, t, l1, hi1, rfl, rfl, ht, hT, hS, hW⟩ := hrel
    by_cases hne : t = i1
    · have HF := Lib.hid (hS l1 (.stop _ _ (ht.symm.trans hne)))
      have HT2 := Lib.hid hT
      have HW2 := Lib.hid hW
      clear hT hS hW ht HT1 HW1
      have hq : ((t : Int) != (i1 : Int)) = false := by simp [hne]
      clear hne
      go_wp2
      go_end0
      exact ⟨rfl, l1, HF.out, HT2.out, HW2.out⟩
    · obtain ⟨htn, hin, hmm⟩ := HB.out l1 i1 hT.len hi1 (by rw [← ht]; exact hne)
      rw [← ht] at htn
      have hne' : ¬ ((t : Int) = (i1 : Int)) := by omega
      obtain ⟨c0, c1, c2⟩ := hT.cells t htn
      obtain ⟨d0, d1, d2⟩ := hT.cells i1 hin
      have f0 : ∀ j, wr.frozen? ⟨g, j, none⟩ = false := fun j => hT.row.frozenAt j
      have fa := f0 (t * 3)
      have fb := f0 (t * 3 + 1)
      have fc := f0 (t * 3 + 2)
      have fd := f0 (i1 * 3)
      have fe := f0 (i1 * 3 + 1)
      have ff := f0 (i1 * 3 + 2)
      have HST := Lib.hid hS
      have HT2 := Lib.hid hT
      have HW2 := Lib.hid hW
      have HTT := Lib.hid ht
      clear f0 hT hS hW ht HT1 HW1
      have hq : ((t : Int) != (i1 : Int)) = true := by simpa using hne'
      have HNE := Lib.hid hne
      clear hne
      go_wp2
      go_region
      have HT3 := Lib.hid ((HT2.out.put i1 (gt l1 t)).put t (gt l1 i1))
      have HW3 : Hid (Turn (OnlyB g) (OnlyB g) w _) := Lib.hid (((HW2.out.three (i1 * 3) (i1 * 3 + 1) (i1 * 3 + 2) (.int .i64 (gt l1 t).k) (.int .i64 (gt l1 t).v) (.int .i64 (gt l1 t).t) rfl).three (t * 3) (t * 3 + 1) (t * 3 + 2) (.int .i64 (gt l1 i1).k) (.int .i64 (gt l1 i1).v) (.int .i64 (gt l1 i1).t) rfl).drew)
      have HS3 : Hid (∀ l', Stl nx (swp l1 i1 t) t l' → Stl nx l i l') := Lib.hid (fun l' hl => HST.out l' (.step _ _ _ (by rw [← HTT.out]; exact HNE.out) (by rw [← HTT.out]; exact hl)))
      have hls : (swp l1 i1 t).length = n := by rw [swp_length]; exact HT2.out.len
      have HLS := Lib.hid hls
      obtain ⟨w5, hw5⟩ : ∃ w5, w5 = ((((((wr.setCell ⟨g, i1 * 3, none⟩ (.int .i64 (gt l1 t).k)).setCell ⟨g, i1 * 3 + 1, none⟩ (.int .i64 (gt l1 t).v)).setCell ⟨g, i1 * 3 + 2, none⟩ (.int .i64 (gt l1 t).t)).setCell ⟨g, t * 3, none⟩ (.int .i64 (gt l1 i1).k)).setCell ⟨g, t * 3 + 1, none⟩ (.int .i64 (gt l1 i1).v)).setCell ⟨g, t * 3 + 2, none⟩ (.int .i64 (gt l1 i1).t)).drew := ⟨_, rfl⟩
      have HT4 : Hid (Tree w5 g n cap (swp l1 i1 t)) := Lib.hid (by rw [hw5]; exact ⟨HT3.out.row.drew, HT3.out.len⟩)
      have HW4 : Hid (Turn (OnlyB g) (OnlyB g) w w5) := Lib.hid (by rw [hw5]; exact HW3.out)
      rw [← hw5]
      clear hw5 HT3 HW3 c0 c1 c2 d0 d1 d2 fa fb fc fd fe ff hls
      go_wp2_with fail
      refine (HN.out _ _ t HT4.out (.inl htn)).mono ?_
      rintro e w6 ⟨rfl, hb⟩
      have HT6 := Lib.hid (HT4.out.below hb)
      have HW6 := Lib.hid (HW4.out.trans (Turn.ofBelow hb (OnlyB g)))
      clear hb
      obtain ⟨t2, ht2⟩ : ∃ t2, t2 = nx (swp l1 i1 t) t := ⟨_, rfl⟩
      rw [← ht2]
      have HT2' := Lib.hid ht2
      have hmm' : m t < m i1 := by rw [HTT.out]; exact hmm
      clear ht2 hmm
      go_wp2
      go_roundw
      case rel => exact ⟨t, t2, _, .inl htn, rfl, rfl, HT2'.out, HT6.out, HS3.out, HW6.out⟩
      case measure => simp [intOf]; exact hmm'

end Go.Proofs.Ytbpcigcfdkamaaa
