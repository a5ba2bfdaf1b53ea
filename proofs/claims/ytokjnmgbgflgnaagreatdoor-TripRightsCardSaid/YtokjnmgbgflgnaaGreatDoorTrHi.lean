/-
  Layer 10: acts laid into a block; a way as acts.
  Layer 10: slices.Grow of nothing and slices.Concat, at acts.
-/
import Derived.Test.YtokjnmgbgflgnaaGreatDoorTrA
import Derived.Test.YtokjnmgbgflgnaaGreatDoorPtFind
import Derived.Lib.AppendZeros
set_option linter.unusedVariables false
set_option maxRecDepth 100000
section
namespace Go.Proofs.YtokjnmgbgflgnaaGreatDoor
namespace Tr
open Go.RowKit Fl Pt
open Bk (Gt)

theorem acv_getD (l : List Ac) (x : Nat) (h : x < l.length) : (acv l).getD (x * 3) undef = .int .u8 ((l.getD x (0, 0, 0)).1 : Int) ∧ (acv l).getD (x * 3 + 1) undef = .int .i64 (l.getD x (0, 0, 0)).2.1 ∧ (acv l).getD (x * 3 + 2) undef = .int .i64 (l.getD x (0, 0, 0)).2.2 := by
  obtain ⟨q0, q1, q2⟩ := acv_get l x h
  exact ⟨by rw [List.getD, q0]; rfl, by rw [List.getD, q1]; rfl, by rw [List.getD, q2]; rfl⟩
theorem getD_setA (l : List Ac) (i x : Nat) (a : Ac) (h : i < l.length) : (l.set i a).getD x (0, 0, 0) = if x = i then a else l.getD x (0, 0, 0) := by
  rw [List.getD, List.getElem?_set]
  by_cases e : i = x
  · subst e; rw [if_pos rfl, if_pos h, if_pos rfl]; rfl
  · rw [if_neg e, if_neg (fun q => e q.symm)]; rfl
theorem acv_set (l : List Ac) (i : Nat) (a : Ac) (h : i < l.length) (x : Nat) (hx : x < l.length * 3) : (acv (l.set i a)).getD x undef = if x = i * 3 + 2 then .int .i64 a.2.2 else if x = i * 3 + 1 then .int .i64 a.2.1 else if x = i * 3 then .int .u8 (a.1 : Int) else (acv l).getD x undef := by
  obtain ⟨y, r, hr, rfl⟩ : ∃ y r, r < 3 ∧ x = y * 3 + r := ⟨x / 3, x % 3, Nat.mod_lt _ (by decide), by omega⟩
  have hy : y < l.length := by omega
  obtain ⟨p0, p1, p2⟩ := acv_getD (l.set i a) y (by rw [List.length_set]; exact hy)
  obtain ⟨q0, q1, q2⟩ := acv_getD l y hy
  rw [getD_setA l i y a h] at p0 p1 p2
  rcases (by omega : r = 0 ∨ r = 1 ∨ r = 2) with rfl | rfl | rfl
  · rw [if_neg (by omega), if_neg (by omega), Nat.add_zero]
    by_cases e : y = i
    · subst e; rw [if_pos rfl, p0, if_pos rfl]
    · rw [if_neg (by omega), p0, if_neg e, q0]
  · rw [if_neg (by omega)]
    by_cases e : y = i
    · subst e; rw [if_pos rfl, p1, if_pos rfl]
    · rw [if_neg (by omega), if_neg (by omega), p1, if_neg e, q1]
  · by_cases e : y = i
    · subst e; rw [if_pos rfl, p2, if_pos rfl]
    · rw [if_neg (by omega), if_neg (by omega), if_neg (by omega), p2, if_neg e, q2]
/-- A block holds acts. -/
def AcB (g n : Nat) (M : List Ac) (w : World) : Prop := M.length = n ∧ Cells g (n * 3) (fun x => (acv M).getD x undef) w
theorem AcB.later {g n : Nat} {M : List Ac} {w w' : World} (h : AcB g n M w) (hb : Below w.heap.size w w') : AcB g n M w' := ⟨h.1, h.2.later hb⟩
theorem AcB.put {g n : Nat} {M : List Ac} {w : World} (h : AcB g n M w) (i : Nat) (hi : i < n) (a : Ac) : AcB g n (M.set i a) (((w.setCell ⟨g, i * 3, none⟩ (.int .u8 (a.1 : Int))).setCell ⟨g, i * 3 + 1, none⟩ (.int .i64 a.2.1)).setCell ⟨g, i * 3 + 2, none⟩ (.int .i64 a.2.2)) := by
  obtain ⟨rfl, hc⟩ := h
  refine ⟨List.length_set, ?_⟩
  have h0 := hc.put (i * 3) (.int .u8 (a.1 : Int)) (by omega) (g := fun x => if x = i * 3 then .int .u8 (a.1 : Int) else (acv M).getD x undef) (fun x hx => rfl)
  have h1 := h0.put (i * 3 + 1) (.int .i64 a.2.1) (by omega) (g := fun x => if x = i * 3 + 1 then .int .i64 a.2.1 else if x = i * 3 then .int .u8 (a.1 : Int) else (acv M).getD x undef) (fun x hx => rfl)
  have h2 := h1.put (i * 3 + 2) (.int .i64 a.2.2) (by omega) (g := fun x => if x = i * 3 + 2 then .int .i64 a.2.2 else if x = i * 3 + 1 then .int .i64 a.2.1 else if x = i * 3 then .int .u8 (a.1 : Int) else (acv M).getD x undef) (fun x hx => rfl)
  exact h2.congr (fun x hx => (acv_set M i a hi x hx).symm)
theorem AcB.al {g n : Nat} {M : List Ac} {w : World} (h : AcB g n M w) (hn : n ≤ 1000000) : Al w.heap.size w (some ⟨g, 0, none⟩) n n M := by
  obtain ⟨rfl, hc⟩ := h
  refine ⟨acv_length M, Nat.le_refl _, by unfold maxLen; omega, (fun e => by cases e), fun _ => ⟨g, 0, rfl, hc.1, fun j hj => ?_⟩⟩
  rw [Nat.zero_add, (hc.2 j hj).1]
  show some ((acv M).getD j undef) = _
  rw [List.getD, List.getElem?_eq_getElem (by rw [acv_length]; exact hj)]; rfl
theorem made_acv (n : Nat) : (madeCells (Value.agg #[.int .u8 0, .int .i64 0, .int .i64 0]).cells (n * 3)).toList = acv (List.replicate n (0, 0, 0)) := by
  cases n with
  | zero => simp [madeCells, acv]
  | succ n =>
    have hsz : (Value.agg #[.int .u8 0, .int .i64 0, .int .i64 0]).cells = #[.int .u8 0, .int .i64 0, .int .i64 0] := rfl
    apply List.ext_getElem?
    intro j
    rw [hsz]
    by_cases hj : j < (n + 1) * 3
    · have h1 : (acv (List.replicate (n + 1) ((0, 0, 0) : Ac))).getD j undef = (#[.int .u8 0, .int .i64 0, .int .i64 0] : Array Value)[j % 3]! := by
        obtain ⟨y, r, hr, rfl⟩ : ∃ y r, r < 3 ∧ j = y * 3 + r := ⟨j / 3, j % 3, Nat.mod_lt _ (by decide), by omega⟩
        obtain ⟨q0, q1, q2⟩ := acv_getD (List.replicate (n + 1) ((0, 0, 0) : Ac)) y (by rw [List.length_replicate]; omega)
        have e : (List.replicate (n + 1) ((0, 0, 0) : Ac)).getD y (0, 0, 0) = (0, 0, 0) := by
          rw [List.getD, List.getElem?_replicate]
          split <;> rfl
        rw [e] at q0 q1 q2
        rcases (by omega : r = 0 ∨ r = 1 ∨ r = 2) with rfl | rfl | rfl
        · rw [show (y * 3 + 0) % 3 = 0 by omega]; exact q0
        · rw [show (y * 3 + 1) % 3 = 1 by omega]; exact q1
        · rw [show (y * 3 + 2) % 3 = 2 by omega]; exact q2
      have hl : j < (acv (List.replicate (n + 1) ((0, 0, 0) : Ac))).length := by rw [acv_length, List.length_replicate]; exact hj
      rw [List.getD, List.getElem?_eq_getElem hl] at h1
      rw [List.getElem?_eq_getElem hl, show (acv (List.replicate (n + 1) ((0, 0, 0) : Ac)))[j] = _ from h1]
      simp [madeCells, hj]
    · rw [List.getElem?_eq_none (by simp [madeCells]; omega), List.getElem?_eq_none (by rw [acv_length, List.length_replicate]; omega)]
theorem AcB.made {w1 : World} {base g n : Nat} {e : TypeId} (h : w1.ownsRow base e 3 (.slice (some ⟨g, 0, none⟩) n n) n (madeCells (Value.agg #[.int .u8 0, .int .i64 0, .int .i64 0]).cells (n * 3)).toList) : AcB g n (List.replicate n (0, 0, 0)) w1 := by
  rw [made_acv] at h
  refine ⟨List.length_replicate, (h.lt g rfl).2, fun x hx => ⟨?_, h.frozenAt x⟩⟩
  have hl : x < (acv (List.replicate n ((0, 0, 0) : Ac))).length := by rw [acv_length, List.length_replicate]; exact hx
  rw [h.cellAt x hx, List.getElem?_eq_getElem hl]
  show _ = some ((acv (List.replicate n ((0, 0, 0) : Ac))).getD x undef)
  rw [List.getD, List.getElem?_eq_getElem hl]; rfl
/-- So much of a way is laid. -/
def laid (P : List Nat) (i : Nat) : List Ac := gos (P.take i) ++ List.replicate (P.length - i) (0, 0, 0)
theorem laid_zero (P : List Nat) : laid P 0 = List.replicate P.length (0, 0, 0) := by simp [laid, gos]
theorem laid_all (P : List Nat) : laid P P.length = gos P := by simp [laid]
theorem laid_succ (P : List Nat) (i : Nat) (h : i < P.length) : (laid P i).set i (1, ((P.getD i 0 : Nat) : Int), 0) = laid P (i + 1) := by
  unfold laid
  have e : P.length - i = (P.length - (i + 1)) + 1 := by omega
  rw [e, List.replicate_succ, take_snoc P i 0 h]
  have hl : (gos (P.take i)).length = i := by rw [gos_length, List.length_take]; omega
  rw [List.set_append_right _ _ (by rw [hl]; exact Nat.le_refl _), hl, Nat.sub_self]
  simp [gos, List.append_assoc]
/-- A way is told as acts. -/
def GoesTold (W H : Int) (s : ByteArray) (c t : Int) (B : Nat → Bool) (w : World) (e : Ending) (w' : World) : Prop :=
  ∃ A n cap P er, e = .returned (.tuple #[.slice A n cap, .int .i64 er]) ∧ n = P.length ∧ (P.length ≤ 256 ∧ (er = 0 ∨ er = 1 ∨ er = 2)) ∧ Al w'.heap.size w' A n cap (gos P) ∧ Below w.heap.size w w' ∧ WayIs W H s c t B P er
set_option maxHeartbeats 4000000 in
theorem goes_any (W H : Int) (s : ByteArray) (hs : s.size ≤ maxLen) (c t : Int) (A : Option Addr) (n cap : Nat) (f : Nat → Int) (w : World) (h : Il w.heap.size w A n cap f) :
    Calls Tryz.prog 28 #[.agg #[.int .i64 W, .int .i64 H, .string s], .int .i64 c, .int .i64 t, .slice A n cap] w (GoesTold W H s c t (mk f n) w) := by
  have HF := Lib.hid (fun wx (hb : Below w.heap.size w wx) => find_any W H s hs c t A n cap f wx (args_il h hb))
  clear h
  obtain ⟨i0, hi, hz0, hz1, hz2⟩ := info_parts Tryz.infoAct
  go_enter Tryz.func28, Tryz.ntmps28
  go_wp2_with fail
  refine (HF.out _ (Box.start w W H s 23).below).mono ?_
  rintro e w1 ⟨A1, n1, k1, P, er, rfl, hn1, hp, hil, hb1, hw⟩
  have HX1 := Lib.hid ((Box.start w W H s 23).after hb1)
  have HIL := Lib.hid hil
  have HP := Lib.hid hp
  have HW := Lib.hid hw
  have HN1 := Lib.hid hn1
  have hn256 : n1 ≤ 256 := by rw [hn1]; exact hp.1
  have hcap1 := hil.le
  have hcap2 : k1 ≤ 9223372036854775807 := by have := hil.max; unfold maxLen at this; omega
  clear hn1 hp hil hb1 hw
  go_wp2_with (at_make; refine wpList_make_full _ rfl _ _ 29 rfl w1.heap.size 44 i0 (.agg #[.int .u8 0, .int .i64 0, .int .i64 0]) 3 Tryz.underlying29 hi hz0 hz1 .i64 .i64 _ _ n1 rfl rfl rfl rfl (by rw [hz2]; omega) (by unfold maxLen; omega) (Nat.le_refl _) ?_; intro w2 ho2 hg2; have HA2 := Lib.hid (AcB.made ho2); have HB2 := Lib.hid (Below.grown (Below.refl w1.heap.size w1) hg2 (Nat.le_refl _) (fun k hk => by cases hk)); clear ho2 hg2)
  clear hi hz0 hz1 hz2
  go_loopw [28] (fun iv wr => ∃ i : Nat, i ≤ n1 ∧ iv = .int .i64 (i : Int) ∧ Hid (AcB w1.heap.size n1 (laid P i) wr) ∧ Hid (Below w1.heap.size w1 wr)) (fun iv _ => n1 - (intOf iv).toNat)
  case atStart => exact ⟨0, Nat.zero_le _, rfl, Lib.hid (by rw [laid_zero, ← HN1.out]; exact HA2.out), HB2⟩
  case round =>
    rename World => wr
    obtain ⟨i, hin, rfl, HA, HB⟩ := hrel
    by_cases hlt : i < n1
    · obtain ⟨g, off, rfl, hg, hc⟩ := (HIL.out.below HB.out).cell (by omega)
      have hci := hc i hlt
      have hiI : (i : Int) < (n1 : Int) := by omega
      have hLS := Lib.hid (laid_succ P i (by rw [← HN1.out]; exact hlt))
      clear hc
      generalize P.getD i 0 = c at *
      have hput := HA.out.put i hlt (1, (c : Int), 0)
      have f0 := (HA.out.2.2 (i * 3) (by omega))
      have f1 := (HA.out.2.2 (i * 3 + 1) (by omega))
      have f2 := (HA.out.2.2 (i * 3 + 2) (by omega))
      obtain ⟨f0a, f0b⟩ := f0
      obtain ⟨f1a, f1b⟩ := f1
      obtain ⟨f2a, f2b⟩ := f2
      have hlt1 : w1.heap.size < wr.heap.size := HA.out.2.1
      have HPUT := Lib.hid hput
      clear hput
      go_wp2_with fail
      go_roundw
      case rel =>
        refine ⟨i + 1, by omega, by go_num, Lib.hid (by rw [← hLS.out]; exact HPUT.out), Lib.hid ?_⟩
        exact ((HB.out.setCell (p := ⟨w1.heap.size, i * 3, none⟩) (Nat.le_refl _) _).setCell (p := ⟨w1.heap.size, i * 3 + 1, none⟩) (Nat.le_refl _) _).setCell (p := ⟨w1.heap.size, i * 3 + 2, none⟩) (Nat.le_refl _) _
      case measure => simp [intOf]; omega
    · obtain rfl : i = n1 := by omega
      go_wp2_with fail
      go_ret2
      refine ⟨_, i, i, P, er, rfl, HN1.out, HP.out, ?_, HX1.out.below.trans (HB.out.mono HX1.out.below.size), HW.out⟩
      have h1 := HA.out.al (by omega)
      have e : laid P i = gos P := by rw [HN1.out]; exact laid_all P
      rw [e] at h1
      exact h1
end Tr
end Go.Proofs.YtokjnmgbgflgnaaGreatDoor
end

section
namespace Go.Proofs.YtokjnmgbgflgnaaGreatDoor
namespace Tr
open Go.RowKit Fl Pt
open Bk (Gt)

set_option maxHeartbeats 1000000 in
/-- Room for so many acts. -/
theorem grow_any (n : Nat) (h0 : 0 < n) (hn : n ≤ 1000000) (w : World) :
    Calls Tryz.prog 51 #[.slice none 0 0, .int .i64 (n : Int)] w fun e w' => ∃ cap, e = .returned (.slice (some ⟨w.heap.size, 0, none⟩) 0 cap) ∧ Aw w' w.heap.size (.slice (some ⟨w.heap.size, 0, none⟩) 0 cap) [] ∧ Below w.heap.size w w' := by
  obtain ⟨i0, hi, hz0, hz1, hz2⟩ := info_parts Tryz.infoAct
  have hrun := fun wx ty => Lib.run_append_nil_zeros (P := Tryz.prog) wx 29 3 ty 44 i0 (.agg #[.int .u8 0, .int .i64 0, .int .i64 0]) .i64 .i64 Tryz.underlying29 Tryz.underlying3 hi hz0 n h0 (by rw [hz1]; decide) (by omega) (by rw [hz2]; omega)
  have hge := grownCap_ge w n 0 44
  have hle := grownCap_le_maxLen w n 0 44 (by unfold maxLen; omega)
  have hle2 : grownCap w n 0 44 ≤ 9223372036854775807 := by unfold maxLen at hle; omega
  have hown : Hid (Aw (w.drew.alloc (.cells (Builtin.zeroCells (Value.agg #[.int .u8 0, .int .i64 0, .int .i64 0]).cells n ++ Builtin.zeroCells (Value.agg #[.int .u8 0, .int .i64 0, .int .i64 0]).cells (grownCap w n 0 44 - n)) 44)) w.heap.size (.slice (some ⟨w.heap.size, 0, none⟩) 0 (grownCap w n 0 44)) []) := Lib.hid (by
    refine ⟨rfl, .inr ⟨w.heap.size, _, _, rfl, Nat.le_refl _, heap_alloc_new w.drew _, Nat.zero_le _, hle, ?_, by simp [acv]⟩⟩
    simp only [Array.size_append, size_zeroCells]
    have e : (Value.agg #[.int .u8 0, .int .i64 0, .int .i64 0]).cells.size = 3 := rfl
    rw [e]; omega)
  have hbel : Hid (Below w.heap.size w (w.drew.alloc (.cells (Builtin.zeroCells (Value.agg #[.int .u8 0, .int .i64 0, .int .i64 0]).cells n ++ Builtin.zeroCells (Value.agg #[.int .u8 0, .int .i64 0, .int .i64 0]).cells (grownCap w n 0 44 - n)) 44))) := Lib.hid (((Below.refl _ _).drew).alloc (Nat.le_refl _) _)
  have hnI : (0 : Int) < (n : Int) := by omega
  clear hi hz0 hz1 hz2
  go_enter Tryz.func51, Tryz.ntmps51
  go_wp2_with (at_builtin; refine Lib.wpList_append_run _ rfl _ _ _ _ rfl _ _ rfl rfl _ _ (hrun _ _) ?_)
  go_ret
  exact ⟨_, rfl, hown.out, hbel.out⟩

/-- Lists of acts at a slice. -/
structure All (B : Nat) (w : World) (A : Option Addr) (n cap : Nat) (Ls : List (List Ac)) : Prop where
  len : Ls.length = n
  le : n ≤ cap ∧ cap ≤ 9223372036854775807
  cell : ∀ j, j < n → ∃ g off A' n' c', A = some ⟨g, off, none⟩ ∧ g < B ∧ w.cell? ⟨g, off + j, none⟩ = some (.slice A' n' c') ∧ Al B w A' n' c' (Ls.getD j [])
theorem All.below {B : Nat} {w w' : World} {A : Option Addr} {n cap : Nat} {Ls : List (List Ac)} (h : All B w A n cap Ls) (hb : Below B w w') : All B w' A n cap Ls :=
  ⟨h.len, h.le, fun j hj => by
    obtain ⟨g, off, A', n', c', h1, h2, h3, h4⟩ := h.cell j hj
    exact ⟨g, off, A', n', c', h1, h2, (hb.cell (p := ⟨g, off + j, none⟩) h2).trans h3, h4.below hb⟩⟩
theorem flat_take (Ls : List (List Ac)) (i : Nat) (h : i < Ls.length) : (Ls.take (i + 1)).flatten = (Ls.take i).flatten ++ Ls.getD i [] := by
  rw [take_snoc Ls i [] h, List.flatten_append]
  simp
theorem flat_le (Ls : List (List Ac)) (i : Nat) : ((Ls.take i).flatten).length ≤ Ls.flatten.length := by
  conv => rhs; rw [← List.take_append_drop i Ls, List.flatten_append, List.length_append]
  omega
set_option maxHeartbeats 4000000 in
theorem concat_any (A : Option Addr) (n cap : Nat) (Ls : List (List Ac)) (w : World) (h : All w.heap.size w A n cap Ls) (h0 : 0 < Ls.flatten.length) (hmax : Ls.flatten.length ≤ 1000000) :
    Calls Tryz.prog 29 #[.slice A n cap] w fun e w' => ∃ A' n' c', e = .returned (.slice A' n' c') ∧ n' = Ls.flatten.length ∧ Aw w' w.heap.size (.slice A' n' c') Ls.flatten ∧ Below w.heap.size w w' := by
  have HL := Lib.hid h
  have hlen := h.len
  obtain ⟨hc1, hc2⟩ := h.le
  have HMAX := Lib.hid hmax
  have H0 := Lib.hid h0
  clear h h0 hmax
  go_enter Tryz.func29, Tryz.ntmps29
  go_wp2_with fail
  go_loopw [3, 11] (fun sv iv wr => ∃ i q : Nat, i ≤ n ∧ sv = .int .i64 (q : Int) ∧ iv = .int .i64 (i : Int) ∧ q ≤ 1000000 ∧ Hid (q = ((Ls.take i).flatten).length) ∧ Hid (Below w.heap.size w wr)) (fun _ iv _ => n - (intOf iv).toNat)
  case atStart => exact ⟨0, 0, Nat.zero_le _, rfl, rfl, by omega, Lib.hid (by simp), Lib.hid (Below.refl _ _)⟩
  case round =>
    rename World => wr
    obtain ⟨i, q, hi, rfl, rfl, hq, HQ, HB⟩ := hrel
    by_cases hlt : i < n
    · obtain ⟨g, off, A1, n1, c1, rfl, hg, hcell, hal⟩ := (HL.out.below HB.out).cell i hlt
      have hiI : (i : Int) < (n : Int) := by omega
      have HF := Lib.hid (flat_take Ls i (by omega))
      have HFL := Lib.hid (flat_le Ls (i + 1))
      have hn1 := hal.len
      have HQ2 : Hid (q + n1 = ((Ls.take (i + 1)).flatten).length) := Lib.hid (by rw [HF.out, List.length_append, hn1, HQ.out])
      have hq2 : q + n1 ≤ 1000000 := by have h1 := HQ2.out; have h2 := HFL.out; have h3 := HMAX.out; omega
      have hg2 : g < wr.heap.size := Nat.lt_of_lt_of_le hg HB.out.size
      have hng : ¬ ((q : Int) + (n1 : Int) < 0) := by omega
      clear hal hn1
      go_wp2_with fail
      go_roundw
      case rel => exact ⟨i + 1, q + n1, by omega, by go_num, by go_num, hq2, HQ2, HB⟩
      case measure => simp [intOf]; omega
    · obtain rfl : i = n := by omega
      have HQA : Hid (q = Ls.flatten.length) := Lib.hid (by rw [HQ.out, List.take_of_length_le (by omega)])
      have hq0 : 0 < q := by have h1 := HQA.out; have h2 := H0.out; omega
      go_wp2_with fail
      refine (grow_any q hq0 hq _).mono ?_
      rintro e w1 ⟨k1, rfl, ho1, hb1⟩
      have HB1 := Lib.hid (HB.out.trans (hb1.mono HB.out.size))
      have HO1 : Hid (Aw w1 w.heap.size (.slice (some ⟨wr.heap.size, 0, none⟩) 0 k1) []) := Lib.hid (Bk.own_lower ho1 HB.out.size)
      clear ho1 hb1 hq0 hq
      go_wp2_with fail
      go_loopw [6, 27] (fun zv iv wz => ∃ (j : Nat) (A3 : Option Addr) (n3 k3 : Nat), j ≤ i ∧ zv = .slice A3 n3 k3 ∧ iv = .int .i64 (j : Int) ∧ Hid (n3 = ((Ls.take j).flatten).length ∧ Aw wz w.heap.size (.slice A3 n3 k3) ((Ls.take j).flatten)) ∧ Hid (Below w.heap.size w wz)) (fun _ iv _ => i - (intOf iv).toNat)
      case atStart => exact ⟨0, _, 0, k1, Nat.zero_le _, rfl, rfl, Lib.hid ⟨by simp, by simpa using HO1.out⟩, HB1⟩
      case round =>
        rename World => wz
        obtain ⟨j, A3, n3, k3, hj, rfl, rfl, HO, HB⟩ := hrel
        by_cases hlt : j < i
        · obtain ⟨g, off, A1, n1, c1, rfl, hg, hcell, hal⟩ := (HL.out.below HB.out).cell j hlt
          have hjI : (j : Int) < (i : Int) := by omega
          have HF := Lib.hid (flat_take Ls j (by omega))
          have HFL := Lib.hid (flat_le Ls (j + 1))
          have HAL := Lib.hid (hal.raise HB.out.size)
          have HSZ : Hid (((Ls.take j).flatten).length + n1 ≤ 1000000) := Lib.hid (by have h1 := HFL.out; rw [HF.out, List.length_append, hal.len] at h1; have h3 := HMAX.out; omega)
          have hg2 : g < wz.heap.size := Nat.lt_of_lt_of_le hg HB.out.size
          clear hal
          go_wp2_with (at_builtin; refine app_acts rfl _ _ rfl w.heap.size _ ((Ls.take j).flatten) rfl HO.out.2 A1 n1 c1 (Ls.getD j []) rfl HAL.out HSZ.out HB.out.size ?_; intro A' n' c' w6 hn6 ho6 hb6 hg6 _; have HN6 := Lib.hid hn6; have HO6 := Lib.hid ho6; have HB6 := Lib.hid hb6; clear hn6 ho6 hb6 hg6)
          go_roundw
          case rel => exact ⟨j + 1, A', n', c', by omega, rfl, by go_num, Lib.hid (by rw [HF.out]; exact ⟨HN6.out, HO6.out⟩), Lib.hid (HB.out.trans HB6.out)⟩
          case measure => simp [intOf]; omega
        · obtain rfl : j = i := by omega
          have HFIN : Hid (n3 = Ls.flatten.length ∧ Aw wz w.heap.size (.slice A3 n3 k3) Ls.flatten) := Lib.hid (by have h1 := HO.out; rw [List.take_of_length_le (by omega)] at h1; exact h1)
          go_wp2_with fail
          go_ret
          exact ⟨A3, n3, k3, rfl, HFIN.out.1, HFIN.out.2, HB.out⟩
end Tr
end Go.Proofs.YtokjnmgbgflgnaaGreatDoor
end
