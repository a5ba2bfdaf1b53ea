/-
  Layer 11, in plain words: robots on a floor, who holds which zone; what is started, granted and done keeps all safe.
  Layer 11: a state in memory: tasks, robots, the table.
  Layer 11: of, Cell, Now.
  Layer 11: Left.
-/
import Derived.Test.YtakgkocdkondhaaGreatDoorTrE
import Derived.Test.YtakgkocdkondhaaGreatDoorTrFg
import Derived.Test.YtakgkocdkondhaaGreatDoorLkOne
import Derived.Test.YtakgkocdkondhaaGreatDoorBkTwo
import Derived.Deep.RegionHeld3
import Derived.StillTailTactics
set_option linter.unusedVariables false
set_option maxRecDepth 100000
section
namespace Go.Proofs.YtakgkocdkondhaaGreatDoor
namespace Tf
open Go.RowKit Fl Tr
open Bk (Cm hold need hb Zn Rg SafC Saf Okp MayP Goes can can_iff gv)
open Lk (Ow Rb Zo at9 zns Tb T0 at9_set mem_zns)

/-- A robot: its cell, what it has to do, whether it was let do the first of that. -/
abbrev Mv := Int × List Ac × Bool
def getM (R : List Mv) (r : Nat) : Mv := R.getD r (0, [], false)
theorem getM_set (R : List Mv) (r j : Nat) (m : Mv) (hr : r < R.length) : getM (R.set r m) j = if j = r then m else getM R j := by
  unfold getM
  simp only [List.getD, List.getElem?_set]
  by_cases h : r = j
  · subst h; simp [hr]
  · rw [if_neg h, if_neg (fun e => h e.symm)]
/-- The zone of a cell, if it is a lane. -/
def zc (s : ByteArray) (c : Int) : List Int := if isL (bAt s c) = true then [((bAt s c - 97 : Nat) : Int)] else []
/-- The zone that an act goes through. -/
def az (s : ByteArray) (a : Ac) : List Int := if a.1 = 1 then zc s a.2.1 else []
/-- The zones of acts. -/
def zl (s : ByteArray) (L : List Ac) : List Int := toI (zonL s L)
/-- The zones where a robot is and goes to. -/
def hs (s : ByteArray) (m : Mv) : List Int := zc s m.1 ++ (if m.2.2 = true then (match m.2.1 with | [] => [] | a :: _ => az s a) else [])
def clm (s : ByteArray) (R : List Mv) (T : List Ow) : Cm := (List.range R.length).map fun (r : Nat) => (zns T ((r : Int), true) 26, zl s (getM R r).2.1)

theorem isL_lt {c : Nat} (h : isL c = true) : 97 ≤ c ∧ c < 123 := by unfold isL at h; simpa using h
theorem zc_zn {s : ByteArray} {c z : Int} (h : z ∈ zc s c) : Zn z ∧ laneB s c = true := by
  unfold zc at h
  split at h
  · rename_i q
    have := isL_lt q
    obtain rfl := List.mem_singleton.1 h
    exact ⟨⟨by omega, by omega⟩, q⟩
  · cases h
theorem az_zn {s : ByteArray} {a : Ac} {z : Int} (h : z ∈ az s a) : Zn z := by
  unfold az at h
  split at h
  · exact (zc_zn h).1
  · cases h
theorem zc_len (s : ByteArray) (c : Int) : (zc s c).length ≤ 1 := by unfold zc; split <;> simp
theorem az_len (s : ByteArray) (a : Ac) : (az s a).length ≤ 1 := by unfold az; split; exact zc_len s _; simp
theorem zc_wall {s : ByteArray} {c : Int} (h : laneB s c = false) : zc s c = [] := by unfold zc; rw [if_neg (by unfold laneB at h; rw [h]; decide)]
theorem mem_zl {s : ByteArray} {L : List Ac} {z : Int} : z ∈ zl s L ↔ ∃ a, a ∈ L ∧ z ∈ az s a := by
  unfold zl toI
  simp only [List.mem_map, mem_zonL]
  constructor
  · rintro ⟨n, ⟨a, h1, h2, h3, h4⟩, rfl⟩
    refine ⟨a, h1, ?_⟩
    unfold az zc
    rw [if_pos h2, if_pos h3, h4]
    simp
  · rintro ⟨a, h1, h2⟩
    unfold az zc at h2
    split at h2
    · rename_i q
      split at h2
      · rename_i q2
        obtain rfl := List.mem_singleton.1 h2
        exact ⟨_, ⟨a, h1, q, q2, rfl⟩, rfl⟩
      · cases h2
    · cases h2
theorem zl_zn {s : ByteArray} {L : List Ac} {z : Int} (h : z ∈ zl s L) : Zn z := by
  obtain ⟨a, _, h⟩ := mem_zl.1 h
  exact az_zn h
theorem toI_strict {l : List Nat} (h : l.Pairwise (· < ·)) : (toI l).Pairwise (· < ·) := by
  unfold toI
  rw [List.pairwise_map]
  exact h.imp (by omega)
theorem zl_strict (s : ByteArray) (L : List Ac) : (zl s L).Pairwise (· < ·) := toI_strict (List.pairwise_lt_range.sublist List.filter_sublist)
theorem zl_one (s : ByteArray) (a : Ac) : zl s [a] = az s a := by
  refine strict_ext _ _ (zl_strict s _) ?_ (fun z => ?_)
  · have := az_len s a
    match h : az s a with
    | [] => simp
    | [x] => simp
    | x :: y :: l => rw [h] at this; simp at this
  · rw [mem_zl]
    constructor
    · rintro ⟨b, h1, h2⟩
      obtain rfl := List.mem_singleton.1 h1
      exact h2
    · intro h
      exact ⟨a, by simp, h⟩
/-! ### Claims -/
theorem clm_len (s : ByteArray) (R : List Mv) (T : List Ow) : (clm s R T).length = R.length := by simp [clm]
theorem clm_get (s : ByteArray) (R : List Mv) (T : List Ow) {r : Nat} (h : r < R.length) : hold (clm s R T) r = zns T ((r : Int), true) 26 ∧ need (clm s R T) r = zl s (getM R r).2.1 := by
  unfold hold need clm
  simp [List.getD, h]
theorem at9_mem {T : List Ow} {p z : Int} : z ∈ zns T (p, true) 26 ↔ at9 T z = (p, true) := by
  rw [mem_zns]
  unfold at9
  constructor
  · rintro ⟨h1, h2, h3⟩
    rw [if_pos ⟨h1, by omega⟩]; exact h3
  · intro h
    split at h
    · rename_i q
      exact ⟨q.1, by have := q.2; omega, h⟩
    · cases h
theorem clm_hold {s : ByteArray} {R : List Mv} {T : List Ow} {r : Nat} (h : r < R.length) {z : Int} : z ∈ hold (clm s R T) r ↔ at9 T z = ((r : Int), true) := by
  rw [(clm_get s R T h).1, at9_mem]
theorem clm_hb {s : ByteArray} {R : List Mv} {T : List Ow} {r : Nat} (h : r < R.length) {z : Int} : hb (clm s R T) r z = true ↔ at9 T z = ((r : Int), true) := by
  unfold hb
  rw [decide_eq_true_iff, clm_hold h]
theorem at9_zn {T : List Ow} {z p : Int} (h : at9 T z = (p, true)) : Zn z := by
  unfold at9 at h
  split at h
  · rename_i q; exact q
  · cases h
theorem Saf.last {nd nd' : Nat → List Int} {hd : Nat → Int → Bool} {S : List Nat} {a : Nat} (ha : a ∈ S) (hh : ∀ z, hd a z = false) (hn : ∀ b, b ∈ S → b ≠ a → nd' b = nd b) (h : Saf nd hd S) : Saf nd' hd S := by
  obtain ⟨p, h1, h2, h3⟩ := h
  refine ⟨p.erase a ++ [a], ?_, fun b => ?_, ?_⟩
  · rw [List.nodup_append]
    refine ⟨h1.erase a, by simp, fun x hx y hy => ?_⟩
    obtain rfl := List.mem_singleton.1 hy
    exact ((List.Nodup.mem_erase_iff h1).1 hx).1
  · rw [List.mem_append, List.mem_singleton, List.Nodup.mem_erase_iff h1, h2]
    constructor
    · rintro (⟨_, h⟩ | rfl)
      · exact h
      · exact ha
    · intro h
      by_cases e : b = a
      · exact .inr e
      · exact .inl ⟨e, h⟩
  · unfold Okp
    rw [List.pairwise_append]
    refine ⟨?_, List.pairwise_singleton _ _, fun b hb c hc z hz => ?_⟩
    · refine List.Pairwise.imp_of_mem (fun {x y} hx hy h => ?_) (List.Pairwise.sublist List.erase_sublist h3)
      have := (List.Nodup.mem_erase_iff h1).1 hx
      rw [hn x ((h2 x).1 this.2) this.1]
      exact h
    · obtain rfl := List.mem_singleton.1 hc
      exact hh z

/-! ### What is always so -/
structure Inv (W H : Int) (s : ByteArray) (R : List Mv) (T : List Ow) : Prop where
  n : R.length = (pick isD (at_ s) s.size).length
  right : Right W H s
  each : ∀ r, r < R.length → RightIs W H s (r : Int) (getM R r).1 (getM R r).2.1
  busy : ∀ r, r < R.length → (getM R r).2.2 = true → (getM R r).2.1 ≠ []
  tb : Tb T
  own : ∀ r, r < R.length → ∀ z, at9 T z = ((r : Int), true) ↔ z ∈ hs s (getM R r)
  low : ∀ z p, at9 T z = (p, true) → 0 ≤ p ∧ p < R.length
  safe : SafC (clm s R T)
section
variable {W H : Int} {s : ByteArray} {R : List Mv} {T : List Ow}
theorem Inv.few (h : Inv W H s R T) : R.length ≤ 8 := by
  rw [h.n]
  rcases Nat.lt_or_ge 8 (pick isD (at_ s) s.size).length with q | q
  · have := (right_first h.right 8 q).1
    omega
  · exact q
theorem Inv.rg (h : Inv W H s R T) : Rg (clm s R T) := by
  refine ⟨by rw [clm_len]; exact h.few, fun i hi => ?_, fun i j hi hj hne z h1 h2 => ?_⟩
  · rw [clm_len] at hi
    refine ⟨fun z hz => at9_zn ((clm_hold hi).1 hz), fun z hz => ?_⟩
    rw [(clm_get s R T hi).2] at hz
    exact zl_zn hz
  · rw [clm_len] at hi hj
    rw [clm_hold hi] at h1
    rw [clm_hold hj, h1] at h2
    injection h2 with h2
    exact hne (by omega)
/-- Who has nothing to do is in its dock, and holds nothing. -/
theorem Inv.idle (h : Inv W H s R T) {r : Nat} (hr : r < R.length) (hl : (getM R r).2.1 = []) : (getM R r).2.2 = false ∧ IsFirst s (48 + r) (getM R r).1.toNat ∧ (((getM R r).1.toNat : Nat) : Int) = (getM R r).1 ∧ laneB s (getM R r).1 = false ∧ ∀ z, at9 T z ≠ ((r : Int), true) := by
  have hb : (getM R r).2.2 = false := by
    cases e : (getM R r).2.2 with
    | false => rfl
    | true => exact absurd hl (h.busy r hr e)
  obtain ⟨d, h1, h2, h3, h4, h5⟩ := h.each r hr
  rw [hl] at h5
  have h5 : some ((getM R r).1, carr []) = some ((d : Int), -1) := h5
  injection h5 with h5
  injection h5 with h5 _
  have hw : laneB s (getM R r).1 = false := by
    rw [h5]
    rw [Int.toNat_natCast] at h2
    unfold laneB
    rw [bAt_in5 s d h2.1, h2.2.1]
    have h8 := (right_first h.right r (by rw [← h.n]; exact hr)).1
    unfold isL
    simp
    omega
  rw [Int.toNat_natCast] at h2
  refine ⟨hb, by rw [h5, Int.toNat_natCast]; exact h2, by rw [h5, Int.toNat_natCast], hw, fun z hz => ?_⟩
  rw [h.own r hr] at hz
  unfold hs at hz
  rw [hb, if_neg (by decide), List.append_nil, zc_wall hw] at hz
  cases hz
/-- Something is started. -/
theorem Inv.starts (h : Inv W H s R T) {r : Nat} (hr : r < R.length) (hl : (getM R r).2.1 = []) {L : List Ac} (hL : RightIs W H s (r : Int) (getM R r).1 L) : Inv W H s (R.set r ((getM R r).1, L, (getM R r).2.2)) T := by
  obtain ⟨i1, i2, i3, i4, i5⟩ := h.idle hr hl
  have hg := fun j => getM_set R r j ((getM R r).1, L, (getM R r).2.2) hr
  refine ⟨by rw [List.length_set]; exact h.n, h.right, fun j hj => ?_, fun j hj hq => ?_, h.tb, fun j hj z => ?_, fun z p q => by rw [List.length_set]; exact h.low z p q, ?_⟩
  · rw [List.length_set] at hj
    rw [hg]
    split
    · rename_i e; subst e; exact hL
    · exact h.each j hj
  · rw [List.length_set] at hj
    rw [hg] at hq ⊢
    split at hq
    · rw [i1] at hq; cases hq
    · rename_i e; rw [if_neg e]; exact h.busy j hj hq
  · rw [List.length_set] at hj
    rw [hg, h.own j hj]
    split
    · rename_i e; subst e
      unfold hs
      rw [i1]
      simp
    · exact Iff.rfl
  · unfold SafC
    rw [clm_len, List.length_set]
    have hs0 := h.safe
    unfold SafC at hs0
    rw [clm_len] at hs0
    have hlt : ∀ j, j < R.length → j < (R.set r ((getM R r).1, L, (getM R r).2.2)).length := fun j hj => by rw [List.length_set]; exact hj
    refine Saf.last (List.mem_range.2 hr) (fun z => ?_) (fun b hb hne => ?_) (Bk.Saf.sim (hd' := hb (clm s (R.set r ((getM R r).1, L, (getM R r).2.2)) T)) id List.nodup_range (fun a ha => ha) (fun _ _ _ _ e => e) (fun a _ z hz => hz) (fun a ha b hb' hne z hz q => ?_) hs0)
    · cases e : hb (clm s (R.set r ((getM R r).1, L, (getM R r).2.2)) T) r z with
      | false => rfl
      | true => exact absurd ((clm_hb (hlt r hr)).1 e) (i5 z)
    · have hb := List.mem_range.1 hb
      rw [(clm_get s _ T (hlt b hb)).2, (clm_get s _ T hb).2, hg, if_neg hne]
    · have hb' := List.mem_range.1 hb'
      rw [clm_hb (hlt b hb')] at q
      exact (clm_hb hb').2 q
/-- A next act is let be done. -/
theorem Inv.grants (h : Inv W H s R T) {r : Nat} (hr : r < R.length) {c : Int} {a : Ac} {l : List Ac} (hm : getM R r = (c, a :: l, false)) (hz : ∀ z ∈ az s a, at9 T z = ((r : Int), true)) : Inv W H s (R.set r (c, a :: l, true)) T := by
  have hg := fun j => getM_set R r j (c, a :: l, true) hr
  have hlt : ∀ j, j < R.length → j < (R.set r (c, a :: l, true)).length := fun j hj => by rw [List.length_set]; exact hj
  refine ⟨by rw [List.length_set]; exact h.n, h.right, fun j hj => ?_, fun j hj hq => ?_, h.tb, fun j hj z => ?_, fun z p q => by rw [List.length_set]; exact h.low z p q, ?_⟩
  · rw [List.length_set] at hj
    have := h.each j hj
    rw [hg]
    split
    · rename_i e; subst e; rw [hm] at this; exact this
    · exact this
  · rw [List.length_set] at hj
    rw [hg] at hq ⊢
    split
    · intro e; cases e
    · rename_i e; rw [if_neg e] at hq; exact h.busy j hj hq
  · rw [List.length_set] at hj
    rw [hg, h.own j hj]
    split
    · rename_i e; subst e
      rw [hm]
      unfold hs
      simp only [if_true, List.mem_append, Bool.false_eq_true, if_false, List.append_nil]
      constructor
      · exact .inl
      · rintro (q | q)
        · exact q
        · have := (h.own j hj z).1 (hz z q)
          rw [hm] at this
          unfold hs at this
          simpa using this
    · exact Iff.rfl
  · have hs0 := h.safe
    unfold SafC at hs0 ⊢
    rw [clm_len] at hs0 ⊢
    rw [List.length_set]
    refine Bk.Saf.sim id List.nodup_range (fun a ha => ha) (fun _ _ _ _ e => e) (fun a' ha z hy => ?_) (fun a' ha b hb' hne z hy q => ?_) hs0
    · have ha := List.mem_range.1 ha
      rw [(clm_get s _ T (hlt _ ha)).2, hg] at hy
      rw [id, (clm_get s _ T ha).2]
      split at hy
      · rename_i e; subst e; rw [hm]; exact hy
      · exact hy
    · have hb' := List.mem_range.1 hb'
      rw [clm_hb (hlt _ hb')] at q
      exact (clm_hb hb').2 q
theorem Inv.gives (h : Inv W H s R T) {r : Nat} (hr : r < R.length) {c : Int} {a : Ac} {l : List Ac} (hm : getM R r = (c, a :: l, false)) {z : Int} (hz : az s a = [z]) (hmay : MayP (clm s R T) (r : Int) z) : Inv W H s (R.set r (c, a :: l, true)) (T.set z.toNat ((r : Int), true)) := by
  have hg := fun j => getM_set R r j (c, a :: l, true) hr
  have hlt : ∀ j, j < R.length → j < (R.set r (c, a :: l, true)).length := fun j hj => by rw [List.length_set]; exact hj
  obtain ⟨_, _, _, m4, m5, m6⟩ := hmay
  rw [clm_len] at m5 m6
  have hzo : Zo z := m4
  have h8 := h.few
  have hat := fun y => at9_set h.tb (y := y) hzo ((r : Int), true)
  have hno : ∀ j, j < R.length → at9 T z ≠ ((j : Int), true) := fun j hj q => m5 j hj ((clm_hold hj).2 q)
  refine ⟨by rw [List.length_set]; exact h.n, h.right, fun j hj => ?_, fun j hj hq => ?_, h.tb.set (by have := m4.1; have := m4.2; omega) (fun e => by cases e) (fun _ => ⟨by omega, by omega⟩), fun j hj y => ?_, fun y p q => ?_, ?_⟩
  · rw [List.length_set] at hj
    have := h.each j hj
    rw [hg]
    split
    · rename_i e; subst e; rw [hm] at this; exact this
    · exact this
  · rw [List.length_set] at hj
    rw [hg] at hq ⊢
    split
    · intro e; cases e
    · rename_i e; rw [if_neg e] at hq; exact h.busy j hj hq
  · rw [List.length_set] at hj
    rw [hg, hat]
    have ho := h.own j hj y
    split
    · rename_i e
      subst e
      split
      · rename_i e; subst e
        unfold hs
        simp [hz]
      · rename_i e
        constructor
        · intro q
          injection q with q
          exact absurd (by omega) e
        · intro q
          exact absurd (ho.2 q) (hno j hj)
    · rename_i e
      rw [ho]
      split
      · rename_i e; subst e
        rw [hm]
        unfold hs
        simp [hz, e]
      · exact Iff.rfl
  · rw [List.length_set]
    rw [hat] at q
    split at q
    · injection q with q _
      omega
    · exact h.low y p q
  · unfold SafC
    rw [clm_len, List.length_set]
    rw [Int.toNat_natCast] at m6
    refine Bk.Saf.sim id List.nodup_range (fun a ha => ha) (fun _ _ _ _ e => e) (fun a' ha y hy => ?_) (fun a' ha b hb' hne y hy q => ?_) m6
    · have ha := List.mem_range.1 ha
      rw [(clm_get s _ _ (hlt _ ha)).2, hg] at hy
      rw [id, (clm_get s _ T ha).2]
      split at hy
      · rename_i e; subst e; rw [hm]; exact hy
      · exact hy
    · have hb' := List.mem_range.1 hb'
      rw [clm_hb (hlt _ hb'), hat] at q
      show ((b == r && y == z) || hb (clm s R T) b y) = true
      rw [Bool.or_eq_true]
      split at q
      · rename_i e
        injection q with q _
        left
        rw [Bool.and_eq_true, beq_iff_eq, beq_iff_eq]
        exact ⟨by omega, e⟩
      · right
        exact (clm_hb hb').2 q
/-- What a robot still holds, where it has come to. -/
def relF (T : List Ow) (r : Int) (here : List Int) : List Ow := (List.range 26).map fun z => if T.getD z (0, false) = (r, true) ∧ (z : Int) ∉ here then (0, false) else T.getD z (0, false)
theorem relF_get (T : List Ow) (r : Int) (here : List Int) {z : Nat} (hz : z < 26) : (relF T r here).getD z (0, false) = if T.getD z (0, false) = (r, true) ∧ (z : Int) ∉ here then (0, false) else T.getD z (0, false) := by
  unfold relF
  rw [List.getD_eq_getElem?_getD, List.getElem?_map, List.getElem?_range hz]
  rfl
theorem relF_tb (h : Tb T) (r : Int) (here : List Int) : Tb (relF T r here) := by
  refine ⟨by simp [relF], fun z hz => ?_⟩
  rw [relF_get T r here hz]
  split
  · exact ⟨fun _ => rfl, fun e => by cases e⟩
  · exact h.ok z hz
theorem relF_at (T : List Ow) (r : Int) (here : List Int) (y : Int) : at9 (relF T r here) y = if at9 T y = (r, true) ∧ y ∉ here then (0, false) else at9 T y := by
  unfold at9
  by_cases hy : Zo y
  · rw [if_pos hy, if_pos hy, relF_get T r here (by have := hy.1; have := hy.2; omega)]
    rw [Int.toNat_of_nonneg hy.1]
  · rw [if_neg hy, if_neg hy]
    split <;> rfl
/-- What was let be done is done. -/
theorem Inv.done (h : Inv W H s R T) {r : Nat} (hr : r < R.length) {c : Int} {a : Ac} {l : List Ac} (hm : getM R r = (c, a :: l, true)) :
    Inv W H s (R.set r (if a.1 = 1 then a.2.1 else c, l, false)) (if a.1 = 1 then relF T r (az s a) else T) := by
  have hg := fun j => getM_set R r j (if a.1 = 1 then a.2.1 else c, l, false) hr
  have hlt : ∀ j, j < R.length → j < (R.set r ((if a.1 = 1 then a.2.1 else c, l, false) : Mv)).length := fun j hj => by rw [List.length_set]; exact hj
  have hat : ∀ y, at9 (if a.1 = 1 then relF T r (az s a) else T) y = if a.1 = 1 ∧ at9 T y = ((r : Int), true) ∧ y ∉ az s a then (0, false) else at9 T y := fun y => by
    by_cases e : a.1 = 1
    · rw [if_pos e, relF_at]
      by_cases q : at9 T y = ((r : Int), true) ∧ y ∉ az s a
      · rw [if_pos q, if_pos ⟨e, q⟩]
      · rw [if_neg q, if_neg (fun k => q k.2)]
    · rw [if_neg e, if_neg (fun k => e k.1)]
  have hle : ∀ y p, at9 (if a.1 = 1 then relF T r (az s a) else T) y = (p, true) → at9 T y = (p, true) := fun y p q => by
    rw [hat] at q
    split at q
    · cases q
    · exact q
  refine ⟨by rw [List.length_set]; exact h.n, h.right, fun j hj => ?_, fun j hj hq => ?_, by split; exact relF_tb h.tb _ _; exact h.tb, fun j hj y => ?_, fun y p q => by rw [List.length_set]; exact h.low y p (hle y p q), ?_⟩
  · rw [List.length_set] at hj
    have := h.each j hj
    rw [hg]
    split
    · rename_i e; subst e; rw [hm] at this
      obtain ⟨d, h1, h2, h3, h4, h5⟩ := this
      obtain ⟨q1, q2⟩ := run_left h5 1
      exact ⟨d, h1, h2, q2 h3, by simp at h4 ⊢; omega, q1⟩
    · exact this
  · rw [List.length_set] at hj
    rw [hg] at hq ⊢
    split
    · rename_i e; rw [if_pos e] at hq; cases hq
    · rename_i e; rw [if_neg e] at hq; exact h.busy j hj hq
  · rw [List.length_set] at hj
    rw [hg, hat]
    have ho := h.own j hj y
    by_cases e : j = r
    · subst e
      rw [hm] at ho
      rw [if_pos rfl]
      unfold hs at ho ⊢
      simp only [if_true, List.mem_append, Bool.false_eq_true, if_false, List.append_nil] at ho ⊢
      by_cases e1 : a.1 = 1
      · rw [if_pos e1]
        have eaz : az s a = zc s a.2.1 := by unfold az; rw [if_pos e1]
        rw [← eaz]
        by_cases k : y ∈ az s a
        · rw [if_neg (fun q => q.2.2 k)]
          exact ⟨fun _ => k, fun _ => ho.2 (.inr k)⟩
        · constructor
          · intro q
            split at q
            · cases q
            · rename_i q2; exact absurd ⟨e1, q, k⟩ q2
          · intro q; exact absurd q k
      · rw [if_neg e1, if_neg (fun q => e1 q.1)]
        have eaz : az s a = [] := by unfold az; rw [if_neg e1]
        rw [eaz] at ho
        simpa using ho
    · rw [if_neg e]
      constructor
      · intro q
        split at q
        · cases q
        · exact ho.1 q
      · intro q
        have q2 := ho.2 q
        rw [if_neg]
        · exact q2
        · rintro ⟨_, q3, _⟩
          rw [q2] at q3
          injection q3 with q3
          exact e (by omega)
  · have hs0 := h.safe
    unfold SafC at hs0 ⊢
    rw [clm_len] at hs0 ⊢
    rw [List.length_set]
    refine Bk.Saf.sim id List.nodup_range (fun a ha => ha) (fun _ _ _ _ e => e) (fun a' ha z hz => ?_) (fun a' ha b hb' hne z hz q => ?_) hs0
    · have ha := List.mem_range.1 ha
      rw [(clm_get s _ _ (hlt _ ha)).2, hg] at hz
      rw [id, (clm_get s _ T ha).2]
      split at hz
      · rename_i e; subst e; rw [hm]
        obtain ⟨b, h1, h2⟩ := mem_zl.1 hz
        exact mem_zl.2 ⟨b, by simp [h1], h2⟩
      · exact hz
    · have hb' := List.mem_range.1 hb'
      rw [clm_hb (hlt _ hb')] at q
      exact (clm_hb hb').2 (hle _ _ q)

/-! ### Who can go on -/
theorem Inv.goes_may (h : Inv W H s R T) {r : Nat} (hr : r < R.length) (hgo : Goes (clm s R T) r) {a : Ac} {l : List Ac} (hl : (getM R r).2.1 = a :: l) : ∀ z ∈ az s a, at9 T z = ((r : Int), true) ∨ MayP (clm s R T) (r : Int) z := by
  intro z hz
  by_cases q : at9 T z = ((r : Int), true)
  · exact .inl q
  · refine .inr (hgo.may ?_ (fun k => q ((clm_hold hr).1 k))).1
    rw [(clm_get s R T hr).2, hl]
    exact mem_zl.2 ⟨a, by simp, hz⟩
/-- One with all others that have something to do behind it in an order can go on. -/
theorem Inv.goes (h : Inv W H s R T) {r : Nat} (hr : r < R.length) (hc : ∀ b, b < R.length → b ≠ r → (getM R b).2.1 ≠ [] → ∀ z ∈ zl s (getM R r).2.1, at9 T z ≠ ((b : Int), true)) : Goes (clm s R T) r := by
  refine ⟨by rw [clm_len]; exact hr, h.rg, h.safe, can_iff.2 fun z hz b hb' hne => ?_⟩
  rw [clm_len] at hb'
  have hb' := List.mem_range.1 hb'
  rw [(clm_get s R T hr).2] at hz
  cases e : hb (clm s R T) b z with
  | false => rfl
  | true =>
    have e := (clm_hb hb').1 e
    by_cases k : (getM R b).2.1 = []
    · exact absurd e ((h.idle hb' k).2.2.2.2 z)
    · exact absurd e (hc b hb' hne k z hz)
/-- Robots in their docks. -/
theorem Inv.start (hR : Right W H s) (hn : R.length = (pick isD (at_ s) s.size).length) (hd : ∀ r, r < R.length → ∃ d : Nat, IsFirst s (48 + r) d ∧ getM R r = ((d : Int), [], false)) : Inv W H s R T0 := by
  have h0 : ∀ z p, at9 T0 z ≠ (p, true) := fun z p e => by
    unfold at9 at e
    rw [Lk.getD_rep] at e
    split at e <;> cases e
  have hrob : ∀ r, r < R.length → IsRobot W H s (r : Int) := fun r hr => ⟨hR, by omega, by omega⟩
  refine ⟨hn, hR, fun r hr => ?_, fun r hr q => ?_, Tb.start, fun r hr z => ?_, fun z p e => absurd e (h0 z p), ?_⟩
  · obtain ⟨d, h1, h2⟩ := hd r hr
    rw [h2]
    exact ⟨d, hrob r hr, by rw [Int.toNat_natCast]; exact h1, .inl rfl, by simp, rfl⟩
  · obtain ⟨d, h1, h2⟩ := hd r hr
    rw [h2] at q; cases q
  · obtain ⟨d, h1, h2⟩ := hd r hr
    refine iff_of_false (h0 z _) ?_
    rw [h2]
    unfold hs
    rw [if_neg (show ¬ (false = true) by decide), List.append_nil, zc_wall ?_]
    · simp
    · unfold laneB
      rw [bAt_in5 s d h1.1, h1.2.1]
      have h8 := (right_first hR r (by rw [← hn]; exact hr)).1
      unfold isL
      simp
      omega
  · unfold SafC
    rw [clm_len]
    refine ⟨List.range R.length, List.nodup_range, fun _ => Iff.rfl, ?_⟩
    refine List.Pairwise.imp_of_mem (R := fun _ _ => True) (fun {x y} hx hy _ z hz => ?_) (List.pairwise_of_forall fun _ _ => trivial)
    cases e : hb (clm s R T0) y z with
    | false => rfl
    | true => exact absurd ((clm_hb (List.mem_range.1 hy)).1 e) (h0 z _)
end
end Tf
end Go.Proofs.YtakgkocdkondhaaGreatDoor
end

section
namespace Go.Proofs.YtakgkocdkondhaaGreatDoor
namespace Tf
open Go.RowKit Fl Tr
open Bk (Gt Lt Iw ivs Cm hold need Rg SafC MayP Goes)
open Lk (Ow Rb Zo at9 zns Tb T0 LkAt Only)

theorem Tryz.infoTask : (Tryz.prog.info? 99).map (fun i => (i.zero, i.size, i.bytes)) = some (some (.agg #[.int .u8 0, .int .i64 0, .int .i64 0, .slice none 0 0]), 4, 48) := by kernel_rfl
theorem Tryz.infoMover : (Tryz.prog.info? 90).map (fun i => (i.zero, i.size, i.bytes)) = some (some (.agg #[.int .i64 0, .slice none 0 0, .bool false]), 3, 40) := by kernel_rfl

/-! ### Blocks from a place on stay as they are -/
def KeepT (top : Nat) (w w' : World) : Prop := w.heap.size ≤ w'.heap.size ∧ ∀ k, top ≤ k → k < w.heap.size → w'.heap[k]? = w.heap[k]?
theorem KeepT.of {top : Nat} {w w' : World} (h : Below w.heap.size w w') : KeepT top w w' := ⟨h.size, fun k _ hk => h.block k hk⟩
theorem KeepT.trans {top : Nat} {a b c : World} (h : KeepT top a b) (k : KeepT top b c) : KeepT top a c := ⟨Nat.le_trans h.1 k.1, fun q h1 h2 => (k.2 q h1 (Nat.lt_of_lt_of_le h2 h.1)).trans (h.2 q h1 h2)⟩
theorem KeepT.turn {top : Nat} {w w' : World} {F F' : Nat → Prop} (h : Turn F F' w w') (hF : ∀ k, F k → k < top) : KeepT top w w' :=
  ⟨h.size, fun k h1 h2 => h.block k h2 (fun q => by have := hF k q; omega)⟩
theorem KeepT.put {top b x : Nat} (w : World) (v : Value) (hb : b < top) : KeepT top w (w.setCell ⟨b, x, none⟩ v) :=
  ⟨by simp [World.setCell], fun k h1 h2 => heap_setCell_other w ⟨b, x, none⟩ k v (fun q => by dsimp only at q; omega)⟩
/-- Elements at a slice, in blocks from a place on. -/
structure Gh (top k : Nat) (w : World) (A : Option Addr) (n cap : Nat) (xs : List Value) : Prop where
  gt : Gt k w.heap.size w A n cap xs
  up : ∀ ad, A = some ad → top ≤ ad.block
theorem Gh.keep {top k : Nat} {w w' : World} {A : Option Addr} {n cap : Nat} {xs : List Value} (h : Gh top k w A n cap xs) (hk : KeepT top w w') : Gh top k w' A n cap xs :=
  ⟨⟨h.gt.len, h.gt.le, h.gt.max, h.gt.nil, fun hn => by
    obtain ⟨g, off, e, hg, hc⟩ := h.gt.cell hn
    refine ⟨g, off, e, Nat.lt_of_lt_of_le hg hk.1, fun j hj => ?_⟩
    rw [← hc j hj]
    exact World.cell?_of_block (a := ⟨g, off + j, none⟩) (hk.2 g (h.up _ e) hg)⟩, h.up⟩
/-- A value is a slice with these numbers. -/
def Zs (top : Nat) (w : World) (v : Value) (L : List Int) : Prop := ∃ A n c, v = .slice A n c ∧ Gh top 1 w A n c (ivs L)
theorem Zs.keep {top : Nat} {w w' : World} {v : Value} {L : List Int} (h : Zs top w v L) (hk : KeepT top w w') : Zs top w' v L := by
  obtain ⟨A, n, c, e, h⟩ := h
  exact ⟨A, n, c, e, h.keep hk⟩
theorem Zs.own {top base : Nat} {w : World} {A : Option Addr} {n c : Nat} {L : List Int} (h : Iw w base (.slice A n c) L) (hb : top ≤ base) : Zs top w (.slice A n c) L := by
  obtain ⟨rfl, h2⟩ := h.lt
  refine ⟨A, _, c, rfl, h2, fun ad e => ?_⟩
  subst e
  rcases h.2 with ⟨q, _⟩ | ⟨g, cap, cur, q, hg, _⟩
  · injection q with q; cases q
  · injection q with q
    injection q with q
    rw [q]
    exact Nat.le_trans hb hg

/-! ### Tasks -/
def tcl : List (Ac × Value) → List Value
  | [] => []
  | t :: l => .int .u8 (t.1.1 : Int) :: .int .i64 t.1.2.1 :: .int .i64 t.1.2.2 :: t.2 :: tcl l
theorem tcl_length : ∀ l, (tcl l).length = l.length * 4
  | [] => rfl
  | a :: l => by simp [tcl, tcl_length l]; omega
theorem tcl_drop : ∀ (l : List (Ac × Value)) (i : Nat), tcl (l.drop i) = (tcl l).drop (i * 4)
  | [], i => by simp [tcl]
  | x :: l, 0 => by simp
  | x :: l, i + 1 => by
    rw [show (i + 1) * 4 = i * 4 + 1 + 1 + 1 + 1 by omega]
    simp [tcl, tcl_drop l i]
theorem tcl_get : ∀ (l : List (Ac × Value)) (i : Nat) (t : Ac × Value), l[i]? = some t → (tcl l)[i * 4]? = some (.int .u8 (t.1.1 : Int)) ∧ (tcl l)[i * 4 + 1]? = some (.int .i64 t.1.2.1) ∧ (tcl l)[i * 4 + 2]? = some (.int .i64 t.1.2.2) ∧ (tcl l)[i * 4 + 3]? = some t.2
  | [], i, t, h => by simp at h
  | x :: l, 0, t, h => by simp at h; subst h; simp [tcl]
  | x :: l, i + 1, t, h => by
    have ih := tcl_get l i t (by simpa using h)
    have e1 : (i + 1) * 4 = i * 4 + 4 := by omega
    have e2 : (i + 1) * 4 + 1 = i * 4 + 1 + 4 := by omega
    have e3 : (i + 1) * 4 + 2 = i * 4 + 2 + 4 := by omega
    have e4 : (i + 1) * 4 + 3 = i * 4 + 3 + 4 := by omega
    rw [e4, e3, e2, e1]
    simpa [tcl] using ih
/-- A value is a slice of tasks: these acts, each with its zones. -/
def Lf (top : Nat) (w : World) (s : ByteArray) (v : Value) (L : List Ac) : Prop := ∃ A n c Z, v = .slice A n c ∧ Z.map Prod.fst = L ∧ Gh top 4 w A n c (tcl Z) ∧ ∀ t ∈ Z, Zs top w t.2 (az s t.1)
theorem Lf.keep {top : Nat} {w w' : World} {s : ByteArray} {v : Value} {L : List Ac} (h : Lf top w s v L) (hk : KeepT top w w') : Lf top w' s v L := by
  obtain ⟨A, n, c, Z, e, h1, h2, h3⟩ := h
  exact ⟨A, n, c, Z, e, h1, h2.keep hk, fun t ht => (h3 t ht).keep hk⟩
theorem Lf.nil (top : Nat) (w : World) (s : ByteArray) : Lf top w s (.slice none 0 0) [] := ⟨none, 0, 0, [], rfl, rfl, ⟨Gt.nothing _ _ _, fun ad e => by cases e⟩, fun t ht => by cases ht⟩
theorem Lf.len {top : Nat} {w : World} {s : ByteArray} {A : Option Addr} {n c : Nat} {L : List Ac} (h : Lf top w s (.slice A n c) L) : n = L.length ∧ n ≤ c ∧ c ≤ 9223372036854775807 := by
  obtain ⟨A', n', c', Z, e, h1, h2, h3⟩ := h
  injection e with e1 e2 e3
  subst e1 e2 e3
  have := h2.gt.len
  rw [tcl_length] at this
  have hz := h2.gt.size
  refine ⟨?_, hz.1, hz.2⟩
  rw [← h1, List.length_map]; omega
theorem Lf.form {top : Nat} {w : World} {s : ByteArray} {v : Value} {L : List Ac} (h : Lf top w s v L) : ∃ A n c, v = .slice A n c := by obtain ⟨A, n, c, Z, rfl, _⟩ := h; exact ⟨A, n, c, rfl⟩
/-- One of the tasks. -/
theorem Lf.cell {top : Nat} {w : World} {s : ByteArray} {A : Option Addr} {n c : Nat} {L : List Ac} (h : Lf top w s (.slice A n c) L) {j : Nat} (hj : j < n) :
    ∃ g off a2 n2 c2, A = some ⟨g, off, none⟩ ∧ g < w.heap.size ∧ w.cell? ⟨g, off + j * 4, none⟩ = some (.int .u8 ((L.getD j (0, 0, 0)).1 : Int)) ∧ w.cell? ⟨g, off + j * 4 + 1, none⟩ = some (.int .i64 (L.getD j (0, 0, 0)).2.1) ∧ w.cell? ⟨g, off + j * 4 + 2, none⟩ = some (.int .i64 (L.getD j (0, 0, 0)).2.2) ∧ w.cell? ⟨g, off + j * 4 + 3, none⟩ = some (.slice a2 n2 c2) ∧ Gh top 1 w a2 n2 c2 (ivs (az s (L.getD j (0, 0, 0)))) ∧ top ≤ g := by
  obtain ⟨A', n', c', Z, e, h1, h2, h3⟩ := h
  injection e with e1 e2 e3
  subst e1 e2 e3
  obtain ⟨g, off, e, hg, hc⟩ := h2.gt.cell (by omega)
  have hl := h2.gt.len
  rw [tcl_length] at hl
  obtain ⟨t, ht⟩ : ∃ t, Z[j]? = some t := ⟨_, List.getElem?_eq_getElem (by omega)⟩
  have hL : L.getD j (0, 0, 0) = t.1 := by rw [← h1]; simp [List.getD, ht]
  obtain ⟨q0, q1, q2, q3⟩ := tcl_get Z j t ht
  obtain ⟨a2, n2, c2, e4, h4⟩ := h3 t (List.mem_of_getElem? ht)
  rw [hL]
  refine ⟨g, off, a2, n2, c2, e, hg, ?_, ?_, ?_, ?_, h4, h2.up _ e⟩
  · rw [hc (j * 4) (by omega), q0]
  · rw [Nat.add_assoc, hc (j * 4 + 1) (by omega), q1]
  · rw [Nat.add_assoc, hc (j * 4 + 2) (by omega), q2]
  · rw [Nat.add_assoc, hc (j * 4 + 3) (by omega), q3, e4]
/-- All but the first so many. -/
theorem Lf.tail {top : Nat} {w : World} {s : ByteArray} {g off n c : Nat} {L : List Ac} (h : Lf top w s (.slice (some ⟨g, off, none⟩) n c) L) {m : Nat} (hm : m ≤ n) (A' : Option Addr) (hA : A' ≠ none) (hA' : m < n → A' = some ⟨g, off + m * 4, none⟩) (hg : ∀ ad, A' = some ad → ad.block = g) : Lf top w s (.slice A' (n - m) (c - m)) (L.drop m) := by
  obtain ⟨A, n', c', Z, e, h1, h2, h3⟩ := h
  injection e with e1 e2 e3
  subst e1 e2 e3
  refine ⟨A', _, _, Z.drop m, rfl, by rw [List.map_drop, h1], ⟨?_, fun ad e => ?_⟩, fun t ht => h3 t (List.mem_of_mem_drop ht)⟩
  · rw [tcl_drop]
    exact h2.gt.tail hm A' hA hA'
  · rw [hg ad e]
    exact h2.up _ rfl

/-! ### Robots -/
abbrev Mp := Int × Value × Bool
def mcl : List Mp → List Value
  | [] => []
  | m :: l => .int .i64 m.1 :: m.2.1 :: .bool m.2.2 :: mcl l
theorem mcl_length : ∀ l, (mcl l).length = l.length * 3
  | [] => rfl
  | a :: l => by simp [mcl, mcl_length l]; omega
theorem mcl_app : ∀ l m, mcl (l ++ m) = mcl l ++ mcl m
  | [], m => rfl
  | a :: l, m => by simp [mcl, mcl_app l m]
theorem mcl_get : ∀ (l : List Mp) (i : Nat) (m : Mp), l[i]? = some m → (mcl l)[i * 3]? = some (.int .i64 m.1) ∧ (mcl l)[i * 3 + 1]? = some m.2.1 ∧ (mcl l)[i * 3 + 2]? = some (.bool m.2.2)
  | [], i, t, h => by simp at h
  | x :: l, 0, t, h => by simp at h; subst h; simp [mcl]
  | x :: l, i + 1, t, h => by
    have ih := mcl_get l i t (by simpa using h)
    have e1 : (i + 1) * 3 = i * 3 + 3 := by omega
    have e2 : (i + 1) * 3 + 1 = i * 3 + 1 + 3 := by omega
    have e3 : (i + 1) * 3 + 2 = i * 3 + 2 + 3 := by omega
    rw [e3, e2, e1]
    simpa [mcl] using ih
theorem mcl_set0 : ∀ (P : List Mp) (i : Nat) (m : Mp) (v : Int), P[i]? = some m → (mcl P).set (i * 3) (.int .i64 v) = mcl (P.set i (v, m.2))
  | [], i, m, v, h => by simp at h
  | x :: l, 0, m, v, h => by simp at h; subst h; simp [mcl]
  | x :: l, i + 1, m, v, h => by
    rw [show (i + 1) * 3 = i * 3 + 1 + 1 + 1 by omega]
    simp only [mcl, List.set_cons_succ]
    rw [mcl_set0 l i m v (by simpa using h)]
theorem mcl_set1 : ∀ (P : List Mp) (i : Nat) (m : Mp) (v : Value), P[i]? = some m → (mcl P).set (i * 3 + 1) v = mcl (P.set i (m.1, v, m.2.2))
  | [], i, m, v, h => by simp at h
  | x :: l, 0, m, v, h => by simp at h; subst h; simp [mcl]
  | x :: l, i + 1, m, v, h => by
    rw [show (i + 1) * 3 + 1 = i * 3 + 1 + 1 + 1 + 1 by omega]
    simp only [mcl, List.set_cons_succ]
    rw [mcl_set1 l i m v (by simpa using h)]
theorem mcl_set2 : ∀ (P : List Mp) (i : Nat) (m : Mp) (v : Bool), P[i]? = some m → (mcl P).set (i * 3 + 2) (.bool v) = mcl (P.set i (m.1, m.2.1, v))
  | [], i, m, v, h => by simp at h
  | x :: l, 0, m, v, h => by simp at h; subst h; simp [mcl]
  | x :: l, i + 1, m, v, h => by
    rw [show (i + 1) * 3 + 2 = i * 3 + 2 + 1 + 1 + 1 by omega]
    simp only [mcl, List.set_cons_succ]
    rw [mcl_set2 l i m v (by simpa using h)]
/-- Robots as pairs: what lies there, and what it reads. -/
structure Ro (top : Nat) (w : World) (s : ByteArray) (P : List Mp) (R : List Mv) : Prop where
  len : P.length = R.length
  at_ : ∀ r p, P[r]? = some p → p.1 = (getM R r).1 ∧ p.2.2 = (getM R r).2.2 ∧ Lf top w s p.2.1 (getM R r).2.1
theorem Ro.keep {top : Nat} {w w' : World} {s : ByteArray} {P : List Mp} {R : List Mv} (h : Ro top w s P R) (hk : KeepT top w w') : Ro top w' s P R :=
  ⟨h.len, fun r p e => ⟨(h.at_ r p e).1, (h.at_ r p e).2.1, (h.at_ r p e).2.2.keep hk⟩⟩
theorem Ro.set {top : Nat} {w : World} {s : ByteArray} {P : List Mp} {R : List Mv} (h : Ro top w s P R) {r : Nat} (hr : r < R.length) (p : Mp) (m : Mv) (h1 : p.1 = m.1) (h2 : p.2.2 = m.2.2) (h3 : Lf top w s p.2.1 m.2.1) : Ro top w s (P.set r p) (R.set r m) := by
  refine ⟨by rw [List.length_set, List.length_set, h.len], fun j q e => ?_⟩
  rw [List.getElem?_set] at e
  rw [getM_set R r j m hr]
  by_cases hj : r = j
  · subst hj
    rw [if_pos rfl, if_pos (by rw [h.len]; exact hr)] at e
    injection e with e
    subst e
    rw [if_pos rfl]
    exact ⟨h1, h2, h3⟩
  · rw [if_neg hj] at e
    rw [if_neg (fun e => hj e.symm)]
    exact h.at_ j q e
/-- A state lies in block S; its table in block g, its robots in block M; its tasks in blocks from top on. -/
structure St (w : World) (S g M cap top : Nat) (W H : Int) (s : ByteArray) (R : List Mv) (T : List Ow) : Prop where
  box : w.heap[S]? = some (.cells #[.int .i64 W, .int .i64 H, .string s, .pointer (some ⟨g, 0, none⟩), .slice (some ⟨M, 0, none⟩) R.length cap] 87 (0, 0))
  lk : LkAt w g T
  mv : ∃ P : List Mp, w.ownsRow 0 90 3 (.slice (some ⟨M, 0, none⟩) R.length cap) R.length (mcl P) ∧ Ro top w s P R
  tops : S < top ∧ g < top ∧ M < top ∧ top ≤ w.heap.size
  diff : S ≠ g ∧ S ≠ M ∧ g ≠ M
section
variable {w w' : World} {S g M cap top : Nat} {W H : Int} {s : ByteArray} {R : List Mv} {T : List Ow}
theorem St.cells (h : St w S g M cap top W H s R T) : w.cell? ⟨S, 0, none⟩ = some (.int .i64 W) ∧ w.cell? ⟨S, 1, none⟩ = some (.int .i64 H) ∧ w.cell? ⟨S, 2, none⟩ = some (.string s) ∧ w.cell? ⟨S, 3, none⟩ = some (.pointer (some ⟨g, 0, none⟩)) ∧ w.cell? ⟨S, 4, none⟩ = some (.slice (some ⟨M, 0, none⟩) R.length cap) ∧ S < w.heap.size :=
  ⟨by rw [cell_of_row w S 0 _ _ _ h.box]; rfl, by rw [cell_of_row w S 1 _ _ _ h.box]; rfl, by rw [cell_of_row w S 2 _ _ _ h.box]; rfl, by rw [cell_of_row w S 3 _ _ _ h.box]; rfl, by rw [cell_of_row w S 4 _ _ _ h.box]; rfl, lt_of_heap h.box⟩
theorem St.size (h : St w S g M cap top W H s R T) : R.length ≤ cap ∧ cap ≤ 9223372036854775807 := by
  obtain ⟨P, h1, h2⟩ := h.mv
  exact (Bk.gt_own h1).2.size
theorem St.later (h : St w S g M cap top W H s R T) (hb : Below w.heap.size w w') : St w' S g M cap top W H s R T := by
  obtain ⟨P, h1, h2⟩ := h.mv
  exact ⟨(hb.block S (lt_of_heap h.box)).trans h.box, h.lk.later hb, ⟨P, Bk.own_later h1 hb, h2.keep (KeepT.of hb)⟩, ⟨h.tops.1, h.tops.2.1, h.tops.2.2.1, Nat.le_trans h.tops.2.2.2 hb.size⟩, h.diff⟩
/-- One of the robots. -/
theorem St.mover (h : St w S g M cap top W H s R T) {r : Nat} (hr : r < R.length) : ∃ A n c, w.cell? ⟨M, r * 3, none⟩ = some (.int .i64 (getM R r).1) ∧ w.cell? ⟨M, r * 3 + 1, none⟩ = some (.slice A n c) ∧ w.cell? ⟨M, r * 3 + 2, none⟩ = some (.bool (getM R r).2.2) ∧ Lf top w s (.slice A n c) (getM R r).2.1 ∧
    (w.frozen? ⟨M, r * 3, none⟩ = false ∧ w.frozen? ⟨M, r * 3 + 1, none⟩ = false ∧ w.frozen? ⟨M, r * 3 + 2, none⟩ = false) ∧ M < w.heap.size := by
  obtain ⟨P, h1, h2⟩ := h.mv
  obtain ⟨p, hp⟩ : ∃ p, P[r]? = some p := ⟨_, List.getElem?_eq_getElem (by rw [h2.len]; exact hr)⟩
  obtain ⟨e1, e2, e3⟩ := h2.at_ r p hp
  obtain ⟨A, n, c, ev⟩ := e3.form
  obtain ⟨q0, q1, q2⟩ := mcl_get P r p hp
  obtain ⟨_, hgt⟩ := Bk.gt_own h1
  obtain ⟨g', off, e, hg, hc⟩ := hgt.cell (by omega)
  injection e with e
  injection e with e e'
  subst e e'
  have hfz : ∀ j, w.frozen? ⟨M, j, none⟩ = false := fun j => by
    rcases h1.2 with ⟨q, _⟩ | ⟨g2, cp, cur, q, hg2, hh, _⟩
    · cases q
    · injection q with q
      injection q with q
      injection q with q
      subst q
      exact frozen_of_row w M j _ _ hh
  refine ⟨A, n, c, ?_, ?_, ?_, by rw [← ev]; exact e3, ⟨hfz _, hfz _, hfz _⟩, hg⟩
  · have := hc (r * 3) (by omega)
    rw [Nat.zero_add] at this
    rw [this, q0, e1]
  · have := hc (r * 3 + 1) (by omega)
    rw [Nat.zero_add] at this
    rw [this, q1, ev]
  · have := hc (r * 3 + 2) (by omega)
    rw [Nat.zero_add] at this
    rw [this, q2, e2]
/-- What may be written: the table and the robots. -/
def Fr (g M : Nat) (w w' : World) : Prop := Turn (fun k => k = g ∨ k = M) (fun k => k = g ∨ k = M) w w'
theorem Fr.refl (g M : Nat) (w : World) : Fr g M w w := Turn.refl _ _
theorem Fr.trans {g M : Nat} {a b c : World} (h : Fr g M a b) (k : Fr g M b c) : Fr g M a c := Turn.trans h k
theorem Fr.of {g M : Nat} {w w' : World} (h : Below w.heap.size w w') : Fr g M w w' := Turn.ofBelow h _
theorem Fr.put {g M : Nat} {w w' : World} (h : Fr g M w w') (x : Nat) (v : Value) : Fr g M w (w'.setCell ⟨M, x, none⟩ v) := Turn.put h v (.inr rfl)
theorem Fr.below {g M B : Nat} {w w' : World} (h : Fr g M w w') (hB : B ≤ w.heap.size) (hg : B ≤ g) (hM : B ≤ M) : Below B w w' := Turn.below h B hB (fun k hk => by rcases hk with rfl | rfl <;> assumption)
theorem St.put (h : St w S g M cap top W H s R T) {r x : Nat} (hr : r < R.length) (v : Value) (m : Mv) (hx : x < R.length * 3) (hp : ∀ P p, Ro top w s P R → P[r]? = some p → ∃ p', (mcl P).set x v = mcl (P.set r p') ∧ p'.1 = m.1 ∧ p'.2.2 = m.2.2 ∧ Lf top w s p'.2.1 m.2.1) :
    St (w.setCell ⟨M, x, none⟩ v) S g M cap top W H s (R.set r m) T := by
  obtain ⟨t1, t2, t3, t4⟩ := h.tops
  obtain ⟨d1, d2, d3⟩ := h.diff
  obtain ⟨P, h1, h2⟩ := h.mv
  obtain ⟨p, hpr⟩ : ∃ p, P[r]? = some p := ⟨_, List.getElem?_eq_getElem (by rw [h2.len]; exact hr)⟩
  obtain ⟨p', e, k1, k2, k3⟩ := hp P p h2 hpr
  refine ⟨?_, ?_, ⟨P.set r p', ?_, ?_⟩, ⟨t1, t2, t3, by simp [World.setCell]; exact t4⟩, ⟨d1, d2, d3⟩⟩
  · rw [List.length_set, heap_setCell_other w ⟨M, x, none⟩ S v d2]
    exact h.box
  · exact h.lk.same (heap_setCell_other w ⟨M, x, none⟩ g v d3)
  · have := Bk.own_put h1 (x := x) (by rw [mcl_length, h2.len]; exact hx) v
    rw [e] at this
    rw [List.length_set]
    exact this
  · exact (h2.keep (KeepT.put w v t3)).set hr p' m k1 k2 (k3.keep (KeepT.put w v t3))
theorem St.putCell (h : St w S g M cap top W H s R T) {r : Nat} (hr : r < R.length) (c : Int) : St (w.setCell ⟨M, r * 3, none⟩ (.int .i64 c)) S g M cap top W H s (R.set r (c, (getM R r).2)) T := by
  refine h.put hr _ _ (by omega) (fun P p hR hp => ?_)
  obtain ⟨e1, e2, e3⟩ := hR.at_ r p hp
  exact ⟨(c, p.2), mcl_set0 P r p c hp, rfl, e2, e3⟩
theorem St.putLeft (h : St w S g M cap top W H s R T) {r : Nat} (hr : r < R.length) {v : Value} {L : List Ac} (hL : Lf top w s v L) : St (w.setCell ⟨M, r * 3 + 1, none⟩ v) S g M cap top W H s (R.set r ((getM R r).1, L, (getM R r).2.2)) T := by
  refine h.put hr _ _ (by omega) (fun P p hR hp => ?_)
  obtain ⟨e1, e2, e3⟩ := hR.at_ r p hp
  exact ⟨(p.1, v, p.2.2), mcl_set1 P r p v hp, e1, e2, hL⟩
theorem St.putLet (h : St w S g M cap top W H s R T) {r : Nat} (hr : r < R.length) (b : Bool) : St (w.setCell ⟨M, r * 3 + 2, none⟩ (.bool b)) S g M cap top W H s (R.set r ((getM R r).1, (getM R r).2.1, b)) T := by
  refine h.put hr _ _ (by omega) (fun P p hR hp => ?_)
  obtain ⟨e1, e2, e3⟩ := hR.at_ r p hp
  exact ⟨(p.1, p.2.1, b), mcl_set2 P r p b hp, e1, rfl, e3⟩
/-- Only the table is written. -/
theorem St.table {T' : List Ow} (h : St w S g M cap top W H s R T) (ho : Only g w w') (hl : LkAt w' g T') : St w' S g M cap top W H s R T' := by
  obtain ⟨t1, t2, t3, t4⟩ := h.tops
  obtain ⟨d1, d2, d3⟩ := h.diff
  obtain ⟨P, h1, h2⟩ := h.mv
  refine ⟨(ho.block S (lt_of_heap h.box) d1).trans h.box, hl, ⟨P, ?_, h2.keep (KeepT.turn ho (fun k hk => by obtain rfl : k = g := hk; exact t2))⟩, ⟨t1, t2, t3, Nat.le_trans t4 ho.size⟩, h.diff⟩
  refine ownsRow_same h1 (fun k hk => ?_)
  have := h1.lt k hk
  refine ho.block k this.2 (fun q => ?_)
  have hk : some M = some k := hk
  injection hk with hk
  obtain rfl : k = g := q
  exact d3 hk.symm
theorem Fr.only (h : Only g w w') (M : Nat) : Fr g M w w' := ⟨h.os, h.tape, h.output, h.size, fun k hk hF => h.block k hk (fun q => hF (.inl q)), fun k hk => .inl hk⟩
end
end Tf
end Go.Proofs.YtakgkocdkondhaaGreatDoor
end

section
namespace Go.Proofs.YtakgkocdkondhaaGreatDoor
namespace Tf
open Go.RowKit Fl Tr
open Bk (Gt Lt Iw ivs Cm hold need Rg SafC MayP Goes)
open Lk (Ow Rb Zo at9 zns Tb T0 LkAt Only)

section
variable {w : World} {S g M cap top : Nat} {W H : Int} {s : ByteArray} {R : List Mv} {T : List Ow}
theorem of_out (h : St w S g M cap top W H s R T) (r : Int) (hr : ¬ (0 ≤ r ∧ r < R.length)) (fv : Value) : Calls Tryz.prog 53 #[.pointer (some ⟨S, 0, none⟩), .int .i64 r, fv] w fun e w' => e = .returned (.int .i64 1) ∧ w = w' := by
  obtain ⟨_, _, _, _, c4, hS⟩ := h.cells
  clear h
  generalize R.length = n at *
  by_cases h1 : r < 0
  · have d1 : decide (r < 0) = true := decide_eq_true h1
    go_enter Tryz.func53, Tryz.ntmps53
    go_wp2_with fail
    go_ret
    exact ⟨rfl, rfl⟩
  · have d1 : decide (r < 0) = false := decide_eq_false h1
    have d2 : decide ((n : Int) ≤ r) = true := decide_eq_true (by omega)
    go_enter Tryz.func53, Tryz.ntmps53
    go_wp2_with fail
    go_ret
    exact ⟨rfl, rfl⟩
theorem of_inCell (h : St w S g M cap top W H s R T) {k : Nat} (hk : k < R.length) {p1 : Value} {Q : Int → World → Prop} (hf : Calls Tryz.prog 54 #[.pointer (some ⟨M, k * 3, none⟩), p1] w fun e w' => ∃ n : Int, e = .returned (.int .i64 n) ∧ Q n w') :
    Calls Tryz.prog 53 #[.pointer (some ⟨S, 0, none⟩), .int .i64 (k : Int), .func (.func 54) #[] #[p1]] w fun e w' => ∃ n : Int, e = .returned (.int .i64 n) ∧ Q n w' := by
  obtain ⟨_, _, _, _, c4, hS⟩ := h.cells
  have HF := Lib.hid hf
  clear h hf
  generalize R.length = n at *
  have hk0 : (0 : Int) ≤ (k : Int) := by omega
  have hk1 : (k : Int) < (n : Int) := by omega
  have d1 : decide ((k : Int) < 0) = false := decide_eq_false (by omega)
  have d2 : decide ((n : Int) ≤ (k : Int)) = false := decide_eq_false (by omega)
  go_enter Tryz.func53, Tryz.ntmps53
  go_wp2_with fail
  refine HF.out.mono ?_
  rintro e w1 ⟨m, rfl, hq⟩
  have HQ := Lib.hid hq
  clear hq
  go_wp2_with fail
  go_ret
  exact ⟨m, rfl, HQ.out⟩
theorem of_inNow (h : St w S g M cap top W H s R T) {k : Nat} (hk : k < R.length) {p1 : Value} {Q : Int → World → Prop} (hf : Calls Tryz.prog 55 #[.pointer (some ⟨M, k * 3, none⟩), p1] w fun e w' => ∃ n : Int, e = .returned (.int .i64 n) ∧ Q n w') :
    Calls Tryz.prog 53 #[.pointer (some ⟨S, 0, none⟩), .int .i64 (k : Int), .func (.func 55) #[] #[p1]] w fun e w' => ∃ n : Int, e = .returned (.int .i64 n) ∧ Q n w' := by
  obtain ⟨_, _, _, _, c4, hS⟩ := h.cells
  have HF := Lib.hid hf
  clear h hf
  generalize R.length = n at *
  have hk0 : (0 : Int) ≤ (k : Int) := by omega
  have hk1 : (k : Int) < (n : Int) := by omega
  have d1 : decide ((k : Int) < 0) = false := decide_eq_false (by omega)
  have d2 : decide ((n : Int) ≤ (k : Int)) = false := decide_eq_false (by omega)
  go_enter Tryz.func53, Tryz.ntmps53
  go_wp2_with fail
  refine HF.out.mono ?_
  rintro e w1 ⟨m, rfl, hq⟩
  have HQ := Lib.hid hq
  clear hq
  go_wp2_with fail
  go_ret
  exact ⟨m, rfl, HQ.out⟩
theorem of_inLeft (h : St w S g M cap top W H s R T) {k : Nat} (hk : k < R.length) {p1 : Value} {Q : Int → World → Prop} (hf : Calls Tryz.prog 56 #[.pointer (some ⟨M, k * 3, none⟩), p1] w fun e w' => ∃ n : Int, e = .returned (.int .i64 n) ∧ Q n w') :
    Calls Tryz.prog 53 #[.pointer (some ⟨S, 0, none⟩), .int .i64 (k : Int), .func (.func 56) #[] #[p1]] w fun e w' => ∃ n : Int, e = .returned (.int .i64 n) ∧ Q n w' := by
  obtain ⟨_, _, _, _, c4, hS⟩ := h.cells
  have HF := Lib.hid hf
  clear h hf
  generalize R.length = n at *
  have hk0 : (0 : Int) ≤ (k : Int) := by omega
  have hk1 : (k : Int) < (n : Int) := by omega
  have d1 : decide ((k : Int) < 0) = false := decide_eq_false (by omega)
  have d2 : decide ((n : Int) ≤ (k : Int)) = false := decide_eq_false (by omega)
  go_enter Tryz.func53, Tryz.ntmps53
  go_wp2_with fail
  refine HF.out.mono ?_
  rintro e w1 ⟨m, rfl, hq⟩
  have HQ := Lib.hid hq
  clear hq
  go_wp2_with fail
  go_ret
  exact ⟨m, rfl, HQ.out⟩
theorem of_inDone (h : St w S g M cap top W H s R T) {k : Nat} (hk : k < R.length) {p1 p2 : Value} {Q : Int → World → Prop} (hf : Calls Tryz.prog 68 #[.pointer (some ⟨M, k * 3, none⟩), p1, p2] w fun e w' => ∃ n : Int, e = .returned (.int .i64 n) ∧ Q n w') :
    Calls Tryz.prog 53 #[.pointer (some ⟨S, 0, none⟩), .int .i64 (k : Int), .func (.func 68) #[] #[p1, p2]] w fun e w' => ∃ n : Int, e = .returned (.int .i64 n) ∧ Q n w' := by
  obtain ⟨_, _, _, _, c4, hS⟩ := h.cells
  have HF := Lib.hid hf
  clear h hf
  generalize R.length = n at *
  have hk0 : (0 : Int) ≤ (k : Int) := by omega
  have hk1 : (k : Int) < (n : Int) := by omega
  have d1 : decide ((k : Int) < 0) = false := decide_eq_false (by omega)
  have d2 : decide ((n : Int) ≤ (k : Int)) = false := decide_eq_false (by omega)
  go_enter Tryz.func53, Tryz.ntmps53
  go_wp2_with fail
  refine HF.out.mono ?_
  rintro e w1 ⟨m, rfl, hq⟩
  have HQ := Lib.hid hq
  clear hq
  go_wp2_with fail
  go_ret
  exact ⟨m, rfl, HQ.out⟩
theorem of_inStart (h : St w S g M cap top W H s R T) {k : Nat} (hk : k < R.length) {p1 p2 p3 : Value} {Q : Int → World → Prop} (hf : Calls Tryz.prog 64 #[.pointer (some ⟨M, k * 3, none⟩), p1, p2, p3] w fun e w' => ∃ n : Int, e = .returned (.int .i64 n) ∧ Q n w') :
    Calls Tryz.prog 53 #[.pointer (some ⟨S, 0, none⟩), .int .i64 (k : Int), .func (.func 64) #[] #[p1, p2, p3]] w fun e w' => ∃ n : Int, e = .returned (.int .i64 n) ∧ Q n w' := by
  obtain ⟨_, _, _, _, c4, hS⟩ := h.cells
  have HF := Lib.hid hf
  clear h hf
  generalize R.length = n at *
  have hk0 : (0 : Int) ≤ (k : Int) := by omega
  have hk1 : (k : Int) < (n : Int) := by omega
  have d1 : decide ((k : Int) < 0) = false := decide_eq_false (by omega)
  have d2 : decide ((n : Int) ≤ (k : Int)) = false := decide_eq_false (by omega)
  go_enter Tryz.func53, Tryz.ntmps53
  go_wp2_with fail
  refine HF.out.mono ?_
  rintro e w1 ⟨m, rfl, hq⟩
  have HQ := Lib.hid hq
  clear hq
  go_wp2_with fail
  go_ret
  exact ⟨m, rfl, HQ.out⟩
theorem of_inGrant (h : St w S g M cap top W H s R T) {k : Nat} (hk : k < R.length) {p1 p2 p3 : Value} {Q : Int → World → Prop} (hf : Calls Tryz.prog 66 #[.pointer (some ⟨M, k * 3, none⟩), p1, p2, p3] w fun e w' => ∃ n : Int, e = .returned (.int .i64 n) ∧ Q n w') :
    Calls Tryz.prog 53 #[.pointer (some ⟨S, 0, none⟩), .int .i64 (k : Int), .func (.func 66) #[] #[p1, p2, p3]] w fun e w' => ∃ n : Int, e = .returned (.int .i64 n) ∧ Q n w' := by
  obtain ⟨_, _, _, _, c4, hS⟩ := h.cells
  have HF := Lib.hid hf
  clear h hf
  generalize R.length = n at *
  have hk0 : (0 : Int) ≤ (k : Int) := by omega
  have hk1 : (k : Int) < (n : Int) := by omega
  have d1 : decide ((k : Int) < 0) = false := decide_eq_false (by omega)
  have d2 : decide ((n : Int) ≤ (k : Int)) = false := decide_eq_false (by omega)
  go_enter Tryz.func53, Tryz.ntmps53
  go_wp2_with fail
  refine HF.out.mono ?_
  rintro e w1 ⟨m, rfl, hq⟩
  have HQ := Lib.hid hq
  clear hq
  go_wp2_with fail
  go_ret
  exact ⟨m, rfl, HQ.out⟩
/-! ### Cell -/
theorem cell1_any (h : St w S g M cap top W H s R T) {k : Nat} (hk : k < R.length) (b : Nat) (hb : b < w.heap.size) (hfz : w.frozen? ⟨b, 0, none⟩ = false) {u : Value} (hu : w.cell? ⟨b, 0, none⟩ = some u) :
    Calls Tryz.prog 54 #[.pointer (some ⟨M, k * 3, none⟩), .pointer (some ⟨b, 0, none⟩)] w fun e w' => e = .returned (.int .i64 0) ∧ w' = w.setCell ⟨b, 0, none⟩ (.int .i64 (getM R k).1) := by
  obtain ⟨A, n, c, q0, _, _, _, _, hM⟩ := h.mover hk
  clear h
  generalize (getM R k).1 = x at *
  go_enter Tryz.func54, Tryz.ntmps54
  go_wp2_with fail
  go_ret
  exact ⟨rfl, rfl⟩
/-- Where a robot is. -/
def cellF (R : List Mv) (r : Int) : Int × Bool := if 0 ≤ r ∧ r < R.length then ((getM R r.toNat).1, true) else (0, false)
def CellTold (R : List Mv) (r : Int) (w : World) (e : Ending) (w' : World) : Prop := e = .returned (.tuple #[.int .i64 (cellF R r).1, .bool (cellF R r).2]) ∧ Below w.heap.size w w'
theorem cell_any (h : St w S g M cap top W H s R T) (r : Int) : Calls Tryz.prog 20 #[.pointer (some ⟨S, 0, none⟩), .int .i64 r] w (CellTold R r w) := by
  have hB := (Below.refl w.heap.size w).alloc (Nat.le_refl _) (.cells #[.int .i64 0] 3)
  have hS := h.later hB
  have hc : (w.alloc (.cells #[.int .i64 0] 3)).cell? ⟨w.heap.size, 0, none⟩ = some (.int .i64 0) := by simp [World.cell?_alloc_new]
  have hsz : w.heap.size < (w.alloc (.cells #[.int .i64 0] 3)).heap.size := by simp
  unfold CellTold cellF
  by_cases hr : 0 ≤ r ∧ r < R.length
  · obtain ⟨k, rfl⟩ := Int.eq_ofNat_of_zero_le hr.1
    have hk : k < R.length := by omega
    rw [if_pos hr, Int.toNat_natCast]
    have hx := frozen_of_row _ _ 0 _ _ (heap_alloc_new w (.cells #[.int .i64 0] 3))
    have HF := Lib.hid (of_inCell hS hk (Q := fun n w' => n = 0 ∧ w' = (w.alloc (.cells #[.int .i64 0] 3)).setCell ⟨w.heap.size, 0, none⟩ (.int .i64 (getM R k).1)) ((cell1_any hS hk w.heap.size hsz hx hc).mono (fun e w' q => ⟨0, q.1, rfl, q.2⟩)))
    have HB := Lib.hid (hB.setCell (p := ⟨w.heap.size, 0, none⟩) (Nat.le_refl w.heap.size) (.int .i64 (getM R k).1))
    have hc2 := World.cell?_setCell_same (w.alloc (.cells #[.int .i64 0] 3)) ⟨w.heap.size, 0, none⟩ (.int .i64 (getM R k).1) (by rw [hc])
    clear h hB hS hc hx
    generalize (getM R k).1 = x at *
    generalize R.length = n at *
    generalize (w.alloc (.cells #[.int .i64 0] 3)).setCell ⟨w.heap.size, 0, none⟩ (.int .i64 x) = w2 at *
    go_enter Tryz.func20, Tryz.ntmps20
    go_wp2_with fail
    refine HF.out.mono ?_
    rintro e w1 ⟨m, rfl, rfl, rfl⟩
    go_wp2_with fail
    go_ret2
    exact ⟨rfl, HB.out⟩
  · rw [if_neg hr]
    have HF := Lib.hid (of_out hS r hr (.func (.func 54) #[] #[.pointer (some ⟨w.heap.size, 0, none⟩)]))
    have HB := Lib.hid hB
    clear h hB hS
    generalize R.length = n at *
    go_enter Tryz.func20, Tryz.ntmps20
    go_wp2_with fail
    refine HF.out.mono ?_
    rintro e w1 ⟨rfl, rfl⟩
    go_wp2_with fail
    go_ret2
    exact ⟨rfl, HB.out⟩

/-! ### Now -/
/-- What a robot was let do. -/
def nowF (R : List Mv) (r : Int) : Ac × Bool := if 0 ≤ r ∧ r < R.length then (match getM R r.toNat with | (_, a :: _, true) => (a, true) | _ => ((0, 0, 0), false)) else ((0, 0, 0), false)
def actV (a : Ac) : Value := .agg #[.int .u8 (a.1 : Int), .int .i64 a.2.1, .int .i64 a.2.2]
def NowTold (R : List Mv) (r : Int) (w : World) (e : Ending) (w' : World) : Prop := e = .returned (.tuple #[actV (nowF R r).1, .bool (nowF R r).2]) ∧ Below w.heap.size w w'
/-- An act's box. -/
def Ab (b : Nat) (a : Ac) (w : World) : Prop := w.heap[b]? = some (.cells #[.int .u8 (a.1 : Int), .int .i64 a.2.1, .int .i64 a.2.2] 39 (0, 0))
theorem Ab.cells {b : Nat} {a : Ac} {w : World} (h : Ab b a w) : w.cell? ⟨b, 0, none⟩ = some (.int .u8 (a.1 : Int)) ∧ w.cell? ⟨b, 1, none⟩ = some (.int .i64 a.2.1) ∧ w.cell? ⟨b, 2, none⟩ = some (.int .i64 a.2.2) ∧ b < w.heap.size ∧ w.frozen? ⟨b, 0, none⟩ = false ∧ w.frozen? ⟨b, 1, none⟩ = false ∧ w.frozen? ⟨b, 2, none⟩ = false :=
  ⟨by rw [cell_of_row w b 0 _ _ _ h]; rfl, by rw [cell_of_row w b 1 _ _ _ h]; rfl, by rw [cell_of_row w b 2 _ _ _ h]; rfl, lt_of_heap h, frozen_of_row w b 0 _ _ h, frozen_of_row w b 1 _ _ h, frozen_of_row w b 2 _ _ h⟩
theorem Ab.put {b : Nat} {a : Ac} {w : World} (h : Ab b a w) (k : Nat) (c p : Int) : Ab b (k, c, p) (((w.setCell ⟨b, 0, none⟩ (.int .u8 (k : Int))).setCell ⟨b, 1, none⟩ (.int .i64 c)).setCell ⟨b, 2, none⟩ (.int .i64 p)) := by
  have k1 := heap_setCell_same w b 0 _ _ (.int .u8 (k : Int)) h
  have k2 := heap_setCell_same _ b 1 _ _ (.int .i64 c) k1
  have k3 := heap_setCell_same _ b 2 _ _ (.int .i64 p) k2
  exact k3
theorem Ab.new (w : World) : Ab w.heap.size (0, 0, 0) (w.alloc (.cells #[.int .u8 0, .int .i64 0, .int .i64 0] 39)) := heap_alloc_new w _
theorem Ab.later {b : Nat} {a : Ac} {w w' : World} (h : Ab b a w) (hb : Below w.heap.size w w') : Ab b a w' := (hb.block b (lt_of_heap h)).trans h
theorem now1_no (h : St w S g M cap top W H s R T) {k : Nat} (hk : k < R.length) (hl : (getM R k).2.2 = false) (v : Value) :
    Calls Tryz.prog 55 #[.pointer (some ⟨M, k * 3, none⟩), v] w fun e w' => e = .returned (.int .i64 2) ∧ w' = w := by
  obtain ⟨A, n, c, _, _, q2, _, _, hM⟩ := h.mover hk
  rw [hl] at q2
  clear h
  go_enter Tryz.func55, Tryz.ntmps55
  go_wp2_with fail
  go_ret
  exact ⟨rfl, rfl⟩
theorem now1_any (h : St w S g M cap top W H s R T) {k : Nat} (hk : k < R.length) (hl : (getM R k).2.2 = true) {a : Ac} {l : List Ac} (ha : (getM R k).2.1 = a :: l) (b : Nat) (hb : Ab b (0, 0, 0) w) :
    Calls Tryz.prog 55 #[.pointer (some ⟨M, k * 3, none⟩), .pointer (some ⟨b, 0, none⟩)] w fun e w' => e = .returned (.int .i64 0) ∧ w' = ((w.setCell ⟨b, 0, none⟩ (.int .u8 (a.1 : Int))).setCell ⟨b, 1, none⟩ (.int .i64 a.2.1)).setCell ⟨b, 2, none⟩ (.int .i64 a.2.2) := by
  obtain ⟨A, n, c, _, q1, q2, hL, _, hM⟩ := h.mover hk
  rw [hl] at q2
  rw [ha] at hL
  obtain ⟨hn, hc1, hc2⟩ := hL.len
  have hn0 : 0 < n := by rw [hn]; simp
  obtain ⟨g', off, a2, n2, c2, rfl, hg, k0, k1, k2, _, _, _⟩ := hL.cell hn0
  obtain ⟨b0, b1, b2, bl, f0, f1, f2⟩ := hb.cells
  clear h hL hb hl ha hn
  obtain ⟨x, y, z⟩ := a
  have k0 : w.cell? ⟨g', off + 0 * 4, none⟩ = some (.int .u8 (x : Int)) := k0
  have k1 : w.cell? ⟨g', off + 0 * 4 + 1, none⟩ = some (.int .i64 y) := k1
  have k2 : w.cell? ⟨g', off + 0 * 4 + 2, none⟩ = some (.int .i64 z) := k2
  rw [Nat.zero_mul, Nat.add_zero] at k0 k1 k2
  have hnI : (0 : Int) < (n : Int) := by omega
  go_enter Tryz.func55, Tryz.ntmps55
  go_wp2_with fail
  go_ret
  exact ⟨rfl, rfl⟩
/-- Two boxes of acts. -/
theorem two_acts (w : World) : Ab w.heap.size (0, 0, 0) ((w.alloc (.cells #[.int .u8 0, .int .i64 0, .int .i64 0] 39)).alloc (.cells #[.int .u8 0, .int .i64 0, .int .i64 0] 39)) ∧ Ab (w.heap.size + 1) (0, 0, 0) ((w.alloc (.cells #[.int .u8 0, .int .i64 0, .int .i64 0] 39)).alloc (.cells #[.int .u8 0, .int .i64 0, .int .i64 0] 39)) ∧ Below w.heap.size w ((w.alloc (.cells #[.int .u8 0, .int .i64 0, .int .i64 0] 39)).alloc (.cells #[.int .u8 0, .int .i64 0, .int .i64 0] 39)) := by
  have h1 := Ab.new w
  have hs : (w.alloc (.cells #[.int .u8 0, .int .i64 0, .int .i64 0] 39)).heap.size = w.heap.size + 1 := by simp
  have h2 := Ab.new (w.alloc (.cells #[.int .u8 0, .int .i64 0, .int .i64 0] 39))
  rw [hs] at h2
  exact ⟨h1.later ((Below.refl _ _).alloc (Nat.le_refl _) _), h2, ((Below.refl w.heap.size w).alloc (Nat.le_refl _) _).alloc (by simp) _⟩
theorem now_any (h : St w S g M cap top W H s R T) (hbz : ∀ r, r < R.length → (getM R r).2.2 = true → (getM R r).2.1 ≠ []) (r : Int) : Calls Tryz.prog 21 #[.pointer (some ⟨S, 0, none⟩), .int .i64 r] w (NowTold R r w) := by
  obtain ⟨hA, hA2, hB⟩ := two_acts w
  obtain ⟨b0, hb0⟩ : ∃ b0, b0 = w.heap.size := ⟨_, rfl⟩
  obtain ⟨b1, hb1⟩ : ∃ b1, b1 = w.heap.size + 1 := ⟨_, rfl⟩
  have hS := h.later hB
  have HB := Lib.hid hB
  have HA := Lib.hid hA
  have hle0 : w.heap.size ≤ b0 := by omega
  have hle1 : w.heap.size ≤ b1 := by omega
  have hne : b0 ≠ b1 := by omega
  rw [← hb0] at HA
  rw [← hb1] at hA2
  have HLE := Lib.hid (And.intro hle0 (And.intro hle1 hne))
  have HE0 := Lib.hid hb0
  have HE1 := Lib.hid hb1
  obtain ⟨w1, hw1⟩ : ∃ w1, w1 = ((w.alloc (.cells #[.int .u8 0, .int .i64 0, .int .i64 0] 39)).alloc (.cells #[.int .u8 0, .int .i64 0, .int .i64 0] 39)) := ⟨_, rfl⟩
  rw [← hw1] at HB HA hA2 hS
  have HW := Lib.hid hw1
  clear hA hB hle0 hle1 hne hw1 hb0 hb1
  unfold NowTold nowF
  by_cases hr : 0 ≤ r ∧ r < R.length
  · obtain ⟨k, rfl⟩ := Int.eq_ofNat_of_zero_le hr.1
    have hk : k < R.length := by omega
    rw [if_pos hr, Int.toNat_natCast]
    cases hl : (getM R k).2.2 with
    | false =>
      have HF := Lib.hid (of_inNow hS hk (Q := fun n w' => n = 2 ∧ w' = w1) ((now1_no hS hk hl (.pointer (some ⟨b1, 0, none⟩))).mono (fun e w' q => ⟨2, q.1, rfl, q.2⟩)))
      have HV : Hid ((match getM R k with | (_, a :: _, true) => (a, true) | _ => ((0, 0, 0), false) : Ac × Bool) = ((0, 0, 0), false)) := Lib.hid (by
        revert hl
        generalize getM R k = m
        obtain ⟨m1, m2, m3⟩ := m
        rintro rfl
        cases m2 <;> rfl)
      rw [HV.out]
      have HA2 := Lib.hid hA2
      clear hr hk hl hS h HV hA2
      obtain ⟨z0, z1, z2, z3, z4, z5, z6⟩ := HA.out.cells
      go_enter Tryz.func21, Tryz.ntmps21
      go_wp2_with fail
      rw [← HW.out, ← HE1.out, ← HE0.out]
      refine HF.out.mono ?_
      rintro e w2 ⟨m, rfl, rfl, rfl⟩
      obtain ⟨y0, y1, y2, y3, _⟩ := HA2.out.cells
      go_wp2_with fail
      exact bodyPost_ret (v := .tuple #[.agg #[.int .u8 0, .int .i64 0, .int .i64 0], .bool false]) (by simp [results, Tryz.results21, go_sem, z0, z1, z2]) rfl ⟨rfl, by first | exact HB.out | exact ((HB.out.setCell (p := ⟨b0, 0, none⟩) HLE.out.1 _).setCell (p := ⟨b0, 1, none⟩) HLE.out.1 _).setCell (p := ⟨b0, 2, none⟩) HLE.out.1 _⟩
    | true =>
      obtain ⟨a, l, ha⟩ : ∃ a l, (getM R k).2.1 = a :: l := by
        cases e : (getM R k).2.1 with
        | nil => exact absurd e (hbz k hk hl)
        | cons a l => exact ⟨a, l, rfl⟩
      have HF := Lib.hid (of_inNow hS hk (Q := fun n w' => n = 0 ∧ w' = _) ((now1_any hS hk hl ha b1 hA2).mono (fun e w' q => ⟨0, q.1, rfl, q.2⟩)))
      have HV : Hid ((match getM R k with | (_, a :: _, true) => (a, true) | _ => ((0, 0, 0), false) : Ac × Bool) = (a, true)) := Lib.hid (by
        revert hl ha
        generalize getM R k = m
        obtain ⟨m1, m2, m3⟩ := m
        rintro rfl rfl
        rfl)
      rw [HV.out]
      obtain ⟨x, y, z⟩ := a
      have hP := hA2.put x y z
      have hA3 : Ab b0 (0, 0, 0) (((w1.setCell ⟨b1, 0, none⟩ (.int .u8 (x : Int))).setCell ⟨b1, 1, none⟩ (.int .i64 y)).setCell ⟨b1, 2, none⟩ (.int .i64 z)) := by
        have hq := HLE.out.2.2
        unfold Ab
        rw [heap_setCell_other _ ⟨b1, 2, none⟩ b0 _ hq, heap_setCell_other _ ⟨b1, 1, none⟩ b0 _ hq, heap_setCell_other _ ⟨b1, 0, none⟩ b0 _ hq]
        exact HA.out
      have hB2 : Below w.heap.size w (((w1.setCell ⟨b1, 0, none⟩ (.int .u8 (x : Int))).setCell ⟨b1, 1, none⟩ (.int .i64 y)).setCell ⟨b1, 2, none⟩ (.int .i64 z)) := ((HB.out.setCell (p := ⟨b1, 0, none⟩) HLE.out.2.1 _).setCell (p := ⟨b1, 1, none⟩) HLE.out.2.1 _).setCell (p := ⟨b1, 2, none⟩) HLE.out.2.1 _
      simp only at HF
      clear hr hk hl hS h HV ha hA2 HA
      generalize ((w1.setCell ⟨b1, 0, none⟩ (.int .u8 (x : Int))).setCell ⟨b1, 1, none⟩ (.int .i64 y)).setCell ⟨b1, 2, none⟩ (.int .i64 z) = w3 at *
      obtain ⟨z0, z1, z2, z3, z4, z5, z6⟩ := hA3.cells
      obtain ⟨y0, y1, y2, y3, _⟩ := hP.cells
      have HR := Lib.hid (hA3.put x y z)
      have HB4 := Lib.hid (((hB2.setCell (p := ⟨b0, 0, none⟩) HLE.out.1 (.int .u8 (x : Int))).setCell (p := ⟨b0, 1, none⟩) HLE.out.1 (.int .i64 y)).setCell (p := ⟨b0, 2, none⟩) HLE.out.1 (.int .i64 z))
      clear hA3 hP hB2
      go_enter Tryz.func21, Tryz.ntmps21
      go_wp2_with fail
      rw [← HW.out, ← HE1.out, ← HE0.out]
      refine HF.out.mono ?_
      rintro e w2 ⟨m, rfl, rfl, rfl⟩
      go_wp2_with fail
      obtain ⟨r0, r1, r2, _⟩ := HR.out.cells
      exact bodyPost_ret (v := .tuple #[.agg #[.int .u8 (x : Int), .int .i64 y, .int .i64 z], .bool true]) (by simp [results, Tryz.results21, go_sem, r0, r1, r2]) rfl ⟨rfl, HB4.out⟩
  · rw [if_neg hr]
    have HF := Lib.hid (of_out hS r hr (.func (.func 55) #[] #[.pointer (some ⟨b1, 0, none⟩)]))
    have HA2 := Lib.hid hA2
    clear h hS hA2
    obtain ⟨z0, z1, z2, z3, z4, z5, z6⟩ := HA.out.cells
    obtain ⟨y0, y1, y2, y3, _⟩ := HA2.out.cells
    go_enter Tryz.func21, Tryz.ntmps21
    go_wp2_with fail
    rw [← HW.out, ← HE1.out, ← HE0.out]
    refine HF.out.mono ?_
    rintro e w2 ⟨rfl, rfl⟩
    go_wp2_with fail
    exact bodyPost_ret (v := .tuple #[.agg #[.int .u8 0, .int .i64 0, .int .i64 0], .bool false]) (by simp [results, Tryz.results21, go_sem, z0, z1, z2]) rfl ⟨rfl, by first | exact HB.out | exact ((HB.out.setCell (p := ⟨b0, 0, none⟩) HLE.out.1 _).setCell (p := ⟨b0, 1, none⟩) HLE.out.1 _).setCell (p := ⟨b0, 2, none⟩) HLE.out.1 _⟩
end
end Tf
end Go.Proofs.YtakgkocdkondhaaGreatDoor
end

section
namespace Go.Proofs.YtakgkocdkondhaaGreatDoor
namespace Tf
open Go.RowKit Fl Tr
open Bk (Gt Lt Iw ivs Cm hold need Rg SafC MayP Goes)
open Lk (Ow Rb Zo at9 zns Tb T0 LkAt Only)
section
variable {w : World} {S g M cap top : Nat} {W H : Int} {s : ByteArray} {R : List Mv} {T : List Ow}
/-! ### Left -/
/-- What a robot has to do. -/
def leftF (R : List Mv) (r : Int) : List Ac := if 0 ≤ r ∧ r < R.length then (getM R r.toNat).2.1 else []
def LeftTold (R : List Mv) (r : Int) (w : World) (e : Ending) (w' : World) : Prop := ∃ A n c, e = .returned (.slice A n c) ∧ n = (leftF R r).length ∧ Aw w' w.heap.size (.slice A n c) (leftF R r) ∧ Below w.heap.size w w'
theorem aw_else {w : World} {base b x : Nat} {v u : Value} {L : List Ac} (h : Aw w base v L) (hb : b < base) : Aw (w.setCell ⟨b, x, none⟩ u) base v L :=
  ownsRow_same h (fun k hk => heap_setCell_other w ⟨b, x, none⟩ k u (fun e => by have := (h.lt k hk).1; dsimp only at e; omega))
theorem aw_form {w : World} {base : Nat} {v : Value} {L : List Ac} (h : Aw w base v L) : ∃ A n c, v = .slice A n c ∧ n = L.length := by
  obtain ⟨A, c, e⟩ := Bk.own_form h
  exact ⟨A, _, c, e, rfl⟩
/-- The box of acts under way. -/
structure Lb (w0 : World) (b : Nat) (L : List Ac) (wr : World) : Prop where
  below : Below w0.heap.size w0 wr
  le : w0.heap.size ≤ b
  ex : ∃ v, wr.heap[b]? = some (.cells #[v] 35 (0, 0)) ∧ Aw wr (b + 1) v L
set_option maxHeartbeats 1000000 in
theorem left1_any {w0 : World} (h : St w0 S g M cap top W H s R T) {k : Nat} (hk : k < R.length) (hlen : (getM R k).2.1.length ≤ 1024) (b : Nat) (hb : Lb w0 b [] w) :
    Calls Tryz.prog 56 #[.pointer (some ⟨M, k * 3, none⟩), .pointer (some ⟨b, 0, none⟩)] w fun e w' => e = .returned (.int .i64 0) ∧ Lb w0 b (getM R k).2.1 w' := by
  have hS := h.later hb.below
  obtain ⟨A, n, c, _, q1, _, hL, _, hM⟩ := h.mover hk
  have q1 := (hb.below.cell (p := ⟨M, k * 3 + 1, none⟩) hM).trans q1
  have hM := Nat.lt_of_lt_of_le hM hb.below.size
  generalize (getM R k).2.1 = L at *
  obtain ⟨hn, hc1, hc2⟩ := hL.len
  have HL := Lib.hid hL
  have HN := Lib.hid hn
  have HLB := Lib.hid hb
  have HLN := Lib.hid hlen
  clear h hS hL hn hb hlen
  go_enter Tryz.func56, Tryz.ntmps56
  go_wp2_with fail
  go_loopw [11] (fun iv wr => ∃ (j : Nat), j ≤ n ∧ iv = .int .i64 (j : Int) ∧ Hid (Lb w0 b (L.take j) wr)) (fun iv _ => n - (intOf iv).toNat)
  case atStart => exact ⟨0, by omega, rfl, Lib.hid HLB.out⟩
  case round =>
    rename World => wr
    obtain ⟨j, hj, rfl, HI⟩ := hrel
    by_cases hlt : j < n
    · have HLr := Lib.hid (HL.out.keep (KeepT.of HI.out.below))
      obtain ⟨g', off, a3, n3, c3, rfl, hg, k0, k1, k2, k3, _, _⟩ := HLr.out.cell hlt
      have hjI : (j : Int) < (n : Int) := by omega
      have HTK := Lib.hid (take_snoc L j (0, 0, 0) (by rw [← HN.out]; exact hlt))
      have HTL : Hid ((L.take j).length ≤ 1024) := Lib.hid (by have := HLN.out; rw [List.length_take]; omega)
      generalize L.getD j (0, 0, 0) = a at *
      obtain ⟨x, y, z⟩ := a
      have k0 : wr.cell? ⟨g', off + j * 4, none⟩ = some (.int .u8 (x : Int)) := k0
      have k1 : wr.cell? ⟨g', off + j * 4 + 1, none⟩ = some (.int .i64 y) := k1
      have k2 : wr.cell? ⟨g', off + j * 4 + 2, none⟩ = some (.int .i64 z) := k2
      obtain ⟨v, hbx, how⟩ := HI.out.ex
      obtain ⟨A2, n2, c2, rfl, hn2⟩ := aw_form how
      clear hn2
      have hB1 := (Below.refl wr.heap.size wr).alloc (Nat.le_refl _) (.cells #[.int .u8 (x : Int), .int .i64 y, .int .i64 z, .slice a3 n3 c3] 99)
      have hbl := lt_of_heap hbx
      have hx1 := (hB1.block b hbl).trans hbx
      have hc0 : (wr.alloc (.cells #[.int .u8 (x : Int), .int .i64 y, .int .i64 z, .slice a3 n3 c3] 99)).cell? ⟨b, 0, none⟩ = some (.slice A2 n2 c2) := by rw [cell_of_row _ b 0 _ _ _ hx1]; rfl
      have e0 : (wr.alloc (.cells #[.int .u8 (x : Int), .int .i64 y, .int .i64 z, .slice a3 n3 c3] 99)).cell? ⟨wr.heap.size, 0, none⟩ = some (.int .u8 (x : Int)) := by simp [World.cell?_alloc_new]
      have e1 : (wr.alloc (.cells #[.int .u8 (x : Int), .int .i64 y, .int .i64 z, .slice a3 n3 c3] 99)).cell? ⟨wr.heap.size, 1, none⟩ = some (.int .i64 y) := by simp [World.cell?_alloc_new]
      have e2 : (wr.alloc (.cells #[.int .u8 (x : Int), .int .i64 y, .int .i64 z, .slice a3 n3 c3] 99)).cell? ⟨wr.heap.size, 2, none⟩ = some (.int .i64 z) := by simp [World.cell?_alloc_new]
      have hsz : wr.heap.size < (wr.alloc (.cells #[.int .u8 (x : Int), .int .i64 y, .int .i64 z, .slice a3 n3 c3] 99)).heap.size := by simp
      have HO1 := Lib.hid (how.later hB1)
      have HBB := Lib.hid (HI.out.below.trans (hB1.mono HI.out.below.size))
      have hbl1 := Nat.lt_trans hbl hsz
      have HX1 := Lib.hid hx1
      have HLE := Lib.hid HI.out.le
      clear hB1 hbx hbl hx1 how
      have HSZ := Lib.hid hsz
      go_upto_region 4 with (fail)
      clear k0 k1 k2 k3
      generalize wr.alloc (.cells #[.int .u8 (x : Int), .int .i64 y, .int .i64 z, .slice a3 n3 c3] 99) = wt at *
      generalize wr.heap.size = tb at *
      have hB2 := (Below.refl wt.heap.size wt).alloc (Nat.le_refl _) (.cells #[.int .u8 (x : Int), .int .i64 y, .int .i64 z] 39)
      have HO2 := Lib.hid (HO1.out.later hB2)
      have HA2 := Lib.hid (Al.one wt (x, y, z))
      have HB2 := Lib.hid (HBB.out.trans (hB2.mono HBB.out.size))
      have hx2 := (hB2.block b (by first | assumption | exact hbl1)).trans HX1.out
      have HX2 := Lib.hid hx2
      have hb2l : b + 1 ≤ (wt.alloc (.cells #[.int .u8 (x : Int), .int .i64 y, .int .i64 z] 39)).heap.size := Nat.lt_of_lt_of_le hbl1 hB2.size
      have HB2L := Lib.hid hb2l
      clear hB2 hx2 hb2l
      go_wp2_with (at_builtin; refine app_acts rfl _ _ rfl (b + 1) _ _ rfl HO2.out (some ⟨wt.heap.size, 0, none⟩) 1 1 [(x, y, z)] rfl HA2.out (by have := HTL.out; omega) HB2L.out ?_; intro A5 n5 c5 w5 hn5 ho5 hb5 _ _; have HN5 := Lib.hid hn5; have HO5 := Lib.hid ho5; have hx5 := (hb5.block b (Nat.lt_succ_self b)).trans HX2.out; have HX5 := Lib.hid hx5; have hc5 : w5.cell? ⟨b, 0, none⟩ = some (.slice A2 n2 c2) := (by rw [cell_of_row _ b 0 _ _ _ hx5]; rfl); have hf5 := frozen_of_row _ b 0 _ _ hx5; have hl5 := lt_of_heap hx5; have HB5 := Lib.hid (HB2.out.trans (hb5.mono (Nat.le_succ_of_le HLE.out))); clear hn5 ho5 hb5 hx5)
      go_roundw
      case rel =>
        refine ⟨j + 1, by omega, by go_num, Lib.hid ⟨HB5.out.setCell (p := ⟨b, 0, none⟩) HLE.out _, HLE.out, .slice A5 n5 c5, ?_, ?_⟩⟩
        · exact heap_setCell_same w5 b 0 _ _ _ HX5.out
        · rw [HTK.out]; exact aw_else HO5.out (Nat.lt_succ_self b)
      case measure => simp [intOf]; omega
    · obtain rfl : j = n := by omega
      have hT : L.take j = L := List.take_of_length_le (by rw [HN.out]; exact Nat.le_refl _)
      rw [hT] at HI
      go_wp2_with fail
      go_ret
      exact ⟨rfl, HI.out⟩
theorem left_any (h : St w S g M cap top W H s R T) (hlen : ∀ r, r < R.length → (getM R r).2.1.length ≤ 1024) (r : Int) : Calls Tryz.prog 23 #[.pointer (some ⟨S, 0, none⟩), .int .i64 r] w (LeftTold R r w) := by
  have hB := (Below.refl w.heap.size w).alloc (Nat.le_refl _) (.cells #[.slice none 0 0] 35)
  have hS := h.later hB
  have hx := heap_alloc_new w (.cells #[.slice none 0 0] 35)
  unfold LeftTold leftF
  by_cases hr : 0 ≤ r ∧ r < R.length
  · obtain ⟨k, rfl⟩ := Int.eq_ofNat_of_zero_le hr.1
    have hk : k < R.length := by omega
    rw [if_pos hr, Int.toNat_natCast]
    have hLb : Lb w w.heap.size [] (w.alloc (.cells #[.slice none 0 0] 35)) := ⟨hB, Nat.le_refl _, .slice none 0 0, hx, Aw.nil _ _⟩
    have HF := Lib.hid (of_inLeft hS hk (Q := fun n w' => n = 0 ∧ Lb w w.heap.size (getM R k).2.1 w') ((left1_any h hk (hlen k hk) w.heap.size hLb).mono (fun e w' q => ⟨0, q.1, rfl, q.2⟩)))
    clear h hB hS hx hLb hr hlen hk
    go_enter Tryz.func23, Tryz.ntmps23
    go_wp2_with fail
    refine HF.out.mono ?_
    rintro e w1 ⟨m, rfl, rfl, hq⟩
    obtain ⟨v, hv, how⟩ := hq.ex
    obtain ⟨A, n, c, rfl, hn⟩ := aw_form how
    have hc0 : w1.cell? ⟨w.heap.size, 0, none⟩ = some (.slice A n c) := by rw [cell_of_row _ _ 0 _ _ _ hv]; rfl
    have hl1 := lt_of_heap hv
    have HN := Lib.hid hn
    have HO := Lib.hid how
    have HB := Lib.hid hq.below
    clear hq hv hn how
    go_wp2_with fail
    go_ret
    exact ⟨A, n, c, rfl, HN.out, Bk.own_lower HO.out (Nat.le_succ _), HB.out⟩
  · rw [if_neg hr]
    have HF := Lib.hid (of_out hS r hr (.func (.func 56) #[] #[.pointer (some ⟨w.heap.size, 0, none⟩)]))
    have HB := Lib.hid hB
    have hc0 : (w.alloc (.cells #[.slice none 0 0] 35)).cell? ⟨w.heap.size, 0, none⟩ = some (.slice none 0 0) := by simp [World.cell?_alloc_new]
    clear h hB hS hx
    go_enter Tryz.func23, Tryz.ntmps23
    go_wp2_with fail
    refine HF.out.mono ?_
    rintro e w1 ⟨rfl, rfl⟩
    go_wp2_with fail
    go_ret
    exact ⟨none, 0, 0, rfl, rfl, Aw.nil _ _, HB.out⟩
end
end Tf
end Go.Proofs.YtakgkocdkondhaaGreatDoor
end
