/-
  Layer 11: zonesOf, Claims.
  Layer 11: Claims: the walk.
  Layer 11: tasks, Start.
  Layer 11: tasks, Start: the walks.
  Layer 11: Start: the walk.
-/
import Derived.Test.YtakgkocdkondhaaGreatDoorTfOne
import Derived.Test.YtakgkocdkondhaaGreatDoorBkOne
set_option linter.unusedVariables false
set_option maxRecDepth 100000
section
namespace Go.Proofs.YtakgkocdkondhaaGreatDoor
namespace Tf
open Go.RowKit Fl Tr
open Bk (Gt Lt Iw ivs Cm hold need Rg SafC MayP Goes Cl Cw pcl Rd Sl app_ints own_lower own_later)
open Lk (Ow Rb Zo at9 zns Tb T0 LkAt Only ToldI of9_any)

/-! ### zonesOf -/
def raw11 (s : ByteArray) (L : List Ac) : List Int := (L.map (az s)).flatten
theorem raw11_take (s : ByteArray) (L : List Ac) (i : Nat) (h : i < L.length) : raw11 s (L.take (i + 1)) = raw11 s (L.take i) ++ az s (L.getD i (0, 0, 0)) := by
  unfold raw11
  rw [take_snoc L i (0, 0, 0) h, List.map_append, List.flatten_append]
  simp
theorem raw11_len (s : ByteArray) (L : List Ac) : (raw11 s L).length ≤ L.length := by
  unfold raw11
  induction L with
  | nil => simp
  | cons a l ih =>
    have := az_len s a
    simp only [List.map_cons, List.flatten_cons, List.length_append, List.length_cons]
    omega
theorem mem_raw11 {s : ByteArray} {L : List Ac} {z : Int} : z ∈ raw11 s L ↔ z ∈ zl s L := by
  rw [mem_zl]
  unfold raw11
  simp only [List.mem_flatten, List.mem_map]
  constructor
  · rintro ⟨l, ⟨a, h1, rfl⟩, h2⟩; exact ⟨a, h1, h2⟩
  · rintro ⟨a, h1, h2⟩; exact ⟨_, ⟨a, h1, rfl⟩, h2⟩
theorem zones11_eq (s : ByteArray) (L : List Ac) : Lib.compact ((raw11 s L).mergeSort fun x y => decide (x ≤ y)) = zl s L := by
  have hs : ((raw11 s L).mergeSort fun x y => decide (x ≤ y)).Pairwise (· ≤ ·) := by
    have := List.pairwise_mergeSort (le := fun x y : Int => decide (x ≤ y)) (fun a b c h1 h2 => by simp only [decide_eq_true_eq] at *; omega) (fun a b => by simp only [Bool.or_eq_true, decide_eq_true_eq]; omega) (raw11 s L)
    simpa using this
  obtain ⟨h1, h2⟩ := compact_strict _ hs
  refine strict_ext _ _ h1 (zl_strict s L) (fun z => ?_)
  rw [h2, List.mem_mergeSort, mem_raw11]
/-- A task's box. -/
theorem tk_cells (w : World) (k c p : Int) (v : Value) : (w.alloc (.cells #[.int .u8 k, .int .i64 c, .int .i64 p, v] 99)).cell? ⟨w.heap.size, 3, none⟩ = some v := by simp [World.cell?_alloc_new]
set_option maxHeartbeats 2000000 in
theorem zonesOf_any (top : Nat) (s : ByteArray) (A : Option Addr) (n c : Nat) (L : List Ac) (w : World) (h : Lf top w s (.slice A n c) L) (hn : n ≤ 1024) : Calls Tryz.prog 51 #[.slice A n c] w (ToldI (zl s L) w) := by
  obtain ⟨hl, hc1, hc2⟩ := h.len
  have HL := Lib.hid h
  have HN := Lib.hid hl
  clear h hl
  go_enter Tryz.func51, Tryz.ntmps51
  go_wp2_with fail
  go_loopw [3, 8] (fun v iv wr => ∃ (j : Nat) (A2 : Option Addr) (n2 c2 : Nat), j ≤ n ∧ v = .slice A2 n2 c2 ∧ iv = .int .i64 (j : Int) ∧ Hid (Iw wr w.heap.size (.slice A2 n2 c2) (raw11 s (L.take j)) ∧ Below w.heap.size w wr)) (fun _ iv _ => n - (intOf iv).toNat)
  case atStart => exact ⟨0, none, 0, 0, by omega, rfl, rfl, Lib.hid ⟨by simpa [raw11] using Iw.nil w w.heap.size, Below.refl _ _⟩⟩
  case round =>
    rename World => wr
    obtain ⟨j, A2, n2, c2, hj, rfl, rfl, HI⟩ := hrel
    have HLr := Lib.hid (HL.out.keep (KeepT.of HI.out.2))
    by_cases hlt : j < n
    · obtain ⟨g, off, a3, n3, c3, rfl, hg, k0, k1, k2, k3, hz, _⟩ := HLr.out.cell hlt
      have hjI : (j : Int) < (n : Int) := by omega
      have HS := Lib.hid (raw11_take s L j (by rw [← HN.out]; exact hlt))
      have HLE := Lib.hid (raw11_len s (L.take j))
      have HLT : Hid ((L.take j).length ≤ j) := Lib.hid (List.length_take_le _ _)
      have HAZ := Lib.hid (az_len s (L.getD j (0, 0, 0)))
      generalize L.getD j (0, 0, 0) = a at *
      obtain ⟨x, y, z⟩ := a
      have k0 : wr.cell? ⟨g, off + j * 4, none⟩ = some (.int .u8 (x : Int)) := k0
      have k1 : wr.cell? ⟨g, off + j * 4 + 1, none⟩ = some (.int .i64 y) := k1
      have k2 : wr.cell? ⟨g, off + j * 4 + 2, none⟩ = some (.int .i64 z) := k2
      have hB := (Below.refl wr.heap.size wr).alloc (Nat.le_refl _) (.cells #[.int .u8 (x : Int), .int .i64 y, .int .i64 z, .slice a3 n3 c3] 99)
      have HB := Lib.hid hB
      have HZ := Lib.hid ((hz.keep (KeepT.of hB)).gt)
      have HO := Lib.hid (Iw.later HI.out.1 hB)
      have hz1 := hz.gt.size
      have hz11 := hz1.1
      have hz12 := hz1.2
      have hn3 : n3 = (az s (x, y, z)).length := by have := hz.gt.len; simpa [ivs] using this.symm
      have HN3 := Lib.hid hn3
      have e3 := tk_cells wr (x : Int) y z (.slice a3 n3 c3)
      have hB5 : w.heap.size ≤ (wr.alloc (.cells #[.int .u8 (x : Int), .int .i64 y, .int .i64 z, .slice a3 n3 c3] 99)).heap.size := Nat.le_trans HI.out.2.size hB.size
      have HB5 := Lib.hid hB5
      clear hz hz1 hB hn3 hB5
      go_wp2_with (at_builtin; refine app_ints rfl _ _ rfl w.heap.size _ _ rfl HO.out a3 n3 c3 (az s (x, y, z)) rfl HZ.out (by have := HLE.out; have := HLT.out; have := HAZ.out; have := HN3.out; omega) HB5.out ?_; intro A5 n5 c5 w5 hn5 ho5 hb5 _ _; have HN5 := Lib.hid hn5; have HK5 := Lib.hid (And.intro ho5 ((HI.out.2.trans (HB.out.mono HI.out.2.size)).trans hb5)); clear hn5 ho5 hb5)
      go_roundw
      case rel => exact ⟨j + 1, A5, n5, c5, by omega, rfl, by go_num, by rw [HS.out]; exact HK5⟩
      case measure => simp [intOf]; omega
    · obtain rfl : j = n := by omega
      have hT : L.take j = L := List.take_of_length_le (by rw [HN.out]; exact Nat.le_refl _)
      rw [hT] at HI
      have HLEN : Hid ((raw11 s L).length ≤ 1000000) := Lib.hid (by have := raw11_len s L; have := HN.out; omega)
      have HN2 : Hid (n2 = (raw11 s L).length) := Lib.hid HI.out.1.lt.1
      have HSORT := Lib.hid (sort_any (base := w.heap.size) (A := A2) (n := n2) (c := c2) (zs := raw11 s L) HI.out.1 HLEN.out HI.out.2.size)
      go_wp2_with fail
      refine HSORT.out.mono ?_
      rintro e w7 ⟨rfl, ho7, hb7⟩
      have HB7 := Lib.hid (HI.out.2.trans hb7)
      have HCOMP := Lib.hid (compact_any (base := w.heap.size) ho7 (by rw [List.length_mergeSort]; exact HLEN.out) HB7.out.size)
      rw [zones11_eq] at HCOMP
      clear ho7 hb7
      go_wp2_with fail
      refine HCOMP.out.mono ?_
      rintro e w8 ⟨rfl, ho8, hb8⟩
      have HB8 := Lib.hid (HB7.out.trans hb8)
      have HO8 := Lib.hid ho8
      clear ho8 hb8
      go_wp2_with fail
      go_ret
      exact ⟨A2, _, c2, rfl, rfl, HO8.out, HB8.out⟩

/-! ### Claims -/
/-- Claims at a slice, in blocks from a place on. -/
def Ch (top : Nat) (w : World) (A : Option Addr) (n cap : Nat) (C : Cm) : Prop := ∃ P, Gh top 2 w A n cap (pcl P) ∧ P.length = C.length ∧ ∀ j p, P[j]? = some p → Zs top w p.1 (hold C j) ∧ Zs top w p.2 (need C j)
theorem Zs.sl {top : Nat} {w : World} {v : Value} {L : List Int} (h : Zs top w v L) : Sl w.heap.size w v L := by
  obtain ⟨A, n, c, e, h⟩ := h
  exact ⟨A, n, c, e, h.gt⟩
theorem Ch.cl {top : Nat} {w : World} {A : Option Addr} {n cap : Nat} {C : Cm} (h : Ch top w A n cap C) : Cl w.heap.size w A n cap C := by
  obtain ⟨P, h1, h2, h3⟩ := h
  exact ⟨P, h1.gt, h2, fun j p e => ⟨(h3 j p e).1.sl, (h3 j p e).2.sl⟩⟩
def ClmTold (C : Cm) (w : World) (e : Ending) (w' : World) : Prop := ∃ A n c, e = .returned (.slice A n c) ∧ Ch w.heap.size w' A n c C ∧ Below w.heap.size w w'
/-- The claims under way. -/
structure Cm9 (w0 : World) (g n : Nat) (s : ByteArray) (R : List Mv) (T : List Ow) (j : Nat) (wr : World) : Prop where
  below : Below w0.heap.size w0 wr
  lt : w0.heap.size ≤ g ∧ g < wr.heap.size
  ex : ∃ P : List (Value × Value), P.length = n ∧ wr.ownsRow w0.heap.size 64 2 (.slice (some ⟨g, 0, none⟩) n n) n (pcl P) ∧ ∀ r p, r < j → P[r]? = some p → Zs (g + 1) wr p.1 (zns T ((r : Int), true) 26) ∧ Zs (g + 1) wr p.2 (zl s (getM R r).2.1)
theorem pcl_set2 : ∀ (P : List (Value × Value)) (i : Nat) (u v : Value), i < P.length → ((pcl P).set (i * 2) u).set (i * 2 + 1) v = pcl (P.set i (u, v))
  | [], i, u, v, h => by simp at h
  | x :: l, 0, u, v, h => by simp [pcl]
  | x :: l, i + 1, u, v, h => by
    have e1 : (i + 1) * 2 = i * 2 + 1 + 1 := by omega
    rw [e1]
    simp only [pcl, List.set_cons_succ]
    rw [pcl_set2 l i u v (by simpa using h)]
theorem Cm9.later {w0 wr w' : World} {g n : Nat} {s : ByteArray} {R : List Mv} {T : List Ow} {j : Nat} (h : Cm9 w0 g n s R T j wr) (hb : Below wr.heap.size wr w') : Cm9 w0 g n s R T j w' := by
  obtain ⟨h1, ⟨l1, l2⟩, P, h2, h3, h4⟩ := h
  exact ⟨h1.trans (hb.mono h1.size), ⟨l1, Nat.lt_of_lt_of_le l2 hb.size⟩, P, h2, own_later h3 hb, fun r p hr e => ⟨(h4 r p hr e).1.keep (KeepT.of hb), (h4 r p hr e).2.keep (KeepT.of hb)⟩⟩
theorem Cm9.cells {w0 wr : World} {g n : Nat} {s : ByteArray} {R : List Mv} {T : List Ow} {j : Nat} (h : Cm9 w0 g n s R T j wr) : (∀ x, x < n * 2 → ∃ u, wr.cell? ⟨g, x, none⟩ = some u) ∧ ∀ x, wr.frozen? ⟨g, x, none⟩ = false := by
  obtain ⟨h1, _, P, h2, h3, h4⟩ := h
  rcases h3.2 with ⟨q, _⟩ | ⟨g2, cp, cur, q, hg2, hh, k1, k2, k3, k4⟩
  · cases q
  · injection q with q
    injection q with q
    injection q with q
    subst q
    have hgt := (Bk.gt_own h3).2
    have hlen := hgt.len
    refine ⟨fun x hx => ?_, fun x => frozen_of_row wr g x _ _ hh⟩
    obtain ⟨g', off, e, hg, hc⟩ := hgt.cell (by omega)
    injection e with e
    injection e with e e'
    subst e e'
    have := hc x hx
    rw [Nat.zero_add] at this
    exact ⟨_, this.trans (List.getElem?_eq_getElem (by rw [hlen]; exact hx))⟩
theorem Cm9.put {w0 wr : World} {g n : Nat} {s : ByteArray} {R : List Mv} {T : List Ow} {j : Nat} (h : Cm9 w0 g n s R T j wr) (hj : j < n) {u v : Value} (hu : Zs (g + 1) wr u (zns T ((j : Int), true) 26)) (hv : Zs (g + 1) wr v (zl s (getM R j).2.1)) :
    Cm9 w0 g n s R T (j + 1) ((wr.setCell ⟨g, j * 2, none⟩ u).setCell ⟨g, j * 2 + 1, none⟩ v) := by
  obtain ⟨h1, ⟨l1, l2⟩, P, h2, h3, h4⟩ := h
  have hk : KeepT (g + 1) wr ((wr.setCell ⟨g, j * 2, none⟩ u).setCell ⟨g, j * 2 + 1, none⟩ v) := (KeepT.put wr u (by omega)).trans (KeepT.put _ v (by omega))
  have hl := Bk.pcl_length P
  have o1 := Bk.own_put h3 (x := j * 2) (by omega) u
  have o2 := Bk.own_put o1 (x := j * 2 + 1) (by rw [List.length_set]; omega) v
  rw [pcl_set2 P j u v (by omega)] at o2
  refine ⟨(h1.setCell l1 u).setCell l1 v, ⟨l1, Nat.lt_of_lt_of_le l2 hk.1⟩, P.set j (u, v), by rw [List.length_set]; exact h2, o2, fun r p hr e => ?_⟩
  rw [List.getElem?_set] at e
  by_cases q : j = r
  · subst q
    rw [if_pos rfl, if_pos (by omega)] at e
    injection e with e
    subst e
    exact ⟨hu.keep hk, hv.keep hk⟩
  · rw [if_neg q] at e
    have := h4 r p (by omega) e
    exact ⟨this.1.keep hk, this.2.keep hk⟩
theorem Cm9.ch {w0 wr : World} {g n : Nat} {s : ByteArray} {R : List Mv} {T : List Ow} (h : Cm9 w0 g n s R T n wr) (hn : n = R.length) : Ch w0.heap.size wr (some ⟨g, 0, none⟩) n n (clm s R T) := by
  obtain ⟨h1, ⟨l1, l2⟩, P, h2, h3, h4⟩ := h
  have hz : ∀ v L, Zs (g + 1) wr v L → Zs w0.heap.size wr v L := fun v L ⟨A, n, c, e, h⟩ => ⟨A, n, c, e, h.gt, fun ad e => Nat.le_trans (by omega) (h.up ad e)⟩
  refine ⟨P, ⟨(Bk.gt_own h3).2, fun ad e => ?_⟩, by rw [clm_len]; omega, fun j p e => ?_⟩
  · injection e with e
    rw [← e]
    exact l1
  · have hj : j < n := by rw [← h2]; exact (List.getElem?_eq_some_iff.1 e).1
    obtain ⟨q1, q2⟩ := clm_get s R T (r := j) (by omega)
    rw [q1, q2]
    exact ⟨hz _ _ (h4 j p hj e).1, hz _ _ (h4 j p hj e).2⟩
theorem Zs.iw {top : Nat} {w w' : World} {A : Option Addr} {n c base : Nat} {L : List Int} (h : Iw w base (.slice A n c) L) (hb : top ≤ base) (hk : KeepT top w w') : Zs top w' (.slice A n c) L := (Zs.own h hb).keep hk
end Tf
end Go.Proofs.YtakgkocdkondhaaGreatDoor
end

section
namespace Go.Proofs.YtakgkocdkondhaaGreatDoor
namespace Tf
open Go.RowKit Fl Tr
open Bk (Gt Lt Iw ivs Cm hold need Rg SafC MayP Goes Cl Cw pcl Rd Sl app_ints own_lower own_later)
open Lk (Ow Rb Zo at9 zns Tb T0 LkAt Only ToldI of9_any)

theorem made_pcl (n : Nat) : (madeCells (Value.agg #[.slice none 0 0, .slice none 0 0]).cells (n * 2)).toList = pcl (List.replicate n (.slice none 0 0, .slice none 0 0)) := by
  have hc : (Value.agg #[.slice none 0 0, .slice none 0 0]).cells = #[.slice none 0 0, .slice none 0 0] := by rfl
  have hp : ∀ n, pcl (List.replicate n (Value.slice none 0 0, Value.slice none 0 0)) = List.replicate (n * 2) (.slice none 0 0) := fun n => by
    induction n with
    | zero => rfl
    | succ n ih =>
      rw [List.replicate_succ, show (n + 1) * 2 = n * 2 + 1 + 1 by omega, List.replicate_succ, List.replicate_succ, ← ih]
      rfl
  rw [hp]
  apply List.ext_getElem
  · simp [madeCells]
  · intro i h1 h2
    have : i % 2 = 0 ∨ i % 2 = 1 := by omega
    rcases this with e | e <;> simp [madeCells, hc, e]
theorem two_put {w : World} {g x y : Nat} {u v : Value} {p : Addr} (h : p.block ≠ g) : ((w.setCell ⟨g, x, none⟩ u).setCell ⟨g, y, none⟩ v).cell? p = w.cell? p :=
  World.cell?_of_block (a := p) ((heap_setCell_other _ ⟨g, y, none⟩ p.block v h).trans (heap_setCell_other _ ⟨g, x, none⟩ p.block u h))
set_option maxHeartbeats 4000000 in
theorem claims_any {w : World} {S g M cap top : Nat} {W H : Int} {s : ByteArray} {R : List Mv} {T : List Ow} (h : St w S g M cap top W H s R T) (h8 : R.length ≤ 8) (hlen : ∀ r, r < R.length → (getM R r).2.1.length ≤ 1024) :
    Calls Tryz.prog 18 #[.pointer (some ⟨S, 0, none⟩)] w (ClmTold (clm s R T) w) := by
  have HST := Lib.hid h
  have HLEN := Lib.hid hlen
  obtain ⟨_, _, _, s3, s4, hS⟩ := h.cells
  obtain ⟨n, hn⟩ : ∃ n, n = R.length := ⟨_, rfl⟩
  rw [← hn] at s4 h8
  have HN := Lib.hid hn
  obtain ⟨hc1, hc2⟩ := h.size
  rw [← hn] at hc1
  obtain ⟨i0, hi, hz0, hz1, hz2⟩ := info_parts Bk.Tryz.infoClaim
  clear h hlen hn
  go_enter Tryz.func18, Tryz.ntmps18
  go_wp2_with (at_make; go_must (refine wpList_make_full _ rfl _ _ 44 rfl w.heap.size 64 i0 (.agg #[.slice none 0 0, .slice none 0 0]) 2 Tryz.underlying44 hi hz0 hz1 .i64 .i64 _ _ n rfl rfl rfl rfl (by rw [hz2]; omega) (by unfold maxLen; omega) (by simp) ?_); intro w1 ho1 hg1; have hB1 : Below w.heap.size w w1 := (Below.grown (Below.refl _ w) hg1 (by simp) (fun k hk => by cases hk)); have HO1 := Lib.hid ho1; have HB1 := Lib.hid hB1; have HG1 : Hid (w.heap.size < w1.heap.size) := Lib.hid (by
      rcases ho1.2 with ⟨q, _⟩ | ⟨g2, cp, cur, q, hg2, hh, _⟩
      · cases q
      · injection q with q
        injection q with q
        injection q with q
        subst q
        exact lt_of_heap hh); have t3 : w1.cell? ⟨S, 3, none⟩ = some (.pointer (some ⟨g, 0, none⟩)) := (hB1.cell (p := ⟨S, 3, none⟩) hS).trans s3; have t4 : w1.cell? ⟨S, 4, none⟩ = some (.slice (some ⟨M, 0, none⟩) n cap) := (hB1.cell (p := ⟨S, 4, none⟩) hS).trans s4; have hS1 := Nat.lt_of_lt_of_le hS hB1.size; clear ho1 hg1 hB1)
  have HCM : Hid (Cm9 w w.heap.size n s R T 0 w1) := Lib.hid ⟨HB1.out, ⟨Nat.le_refl _, HG1.out⟩, List.replicate n (.slice none 0 0, .slice none 0 0), by simp, by rw [← made_pcl]; exact HO1.out, fun r p hr => by omega⟩
  clear hi hz0 hz1 hz2
  have hSg : S ≠ w.heap.size := Nat.ne_of_lt hS
  have HSG := Lib.hid hSg
  clear hSg
  generalize w.heap.size = gc at *
  go_loopw [19] (fun iv wr => ∃ (j : Nat), j ≤ n ∧ iv = .int .i64 (j : Int) ∧ Hid (Cm9 w gc n s R T j wr)) (fun iv _ => n - (intOf iv).toNat)
  case atStart => exact ⟨0, by omega, rfl, HCM⟩
  case round =>
    rename World => wr
    obtain ⟨j, hj, rfl, HI⟩ := hrel
    by_cases hlt : j < n
    · have HSr := Lib.hid (HST.out.later HI.out.below)
      obtain ⟨A1, n1, c1, q0, q1, q2, hL, _, hM⟩ := HSr.out.mover (r := j) (by rw [← HN.out]; exact hlt)
      obtain ⟨_, _, _, u3, u4, hSr⟩ := HSr.out.cells
      rw [← HN.out] at u4
      have hjI : (j : Int) < (n : Int) := by omega
      have HLL := Lib.hid (HLEN.out j (by rw [← HN.out]; exact hlt))
      obtain ⟨hn1, hd1, hd2⟩ := hL.len
      have HN1 : Hid (n1 ≤ 1024) := Lib.hid (by rw [hn1]; exact HLL.out)
      have hB := (Below.refl wr.heap.size wr).alloc (Nat.le_refl _) (.cells #[.int .i64 (getM R j).1, .slice A1 n1 c1, .bool (getM R j).2.2] 90)
      have HL2 := Lib.hid (hL.keep (KeepT.of hB))
      have HC2 := Lib.hid (HI.out.later hB)
      have HK2 := Lib.hid (HSr.out.later hB).lk
      have HBG : Hid (wr.heap.size ≠ gc) := Lib.hid (Nat.ne_of_gt HI.out.lt.2)
      have e1 : (wr.alloc (.cells #[.int .i64 (getM R j).1, .slice A1 n1 c1, .bool (getM R j).2.2] 90)).cell? ⟨wr.heap.size, 1, none⟩ = some (.slice A1 n1 c1) := by simp [World.cell?_alloc_new]
      have e0 : (wr.alloc (.cells #[.int .i64 (getM R j).1, .slice A1 n1 c1, .bool (getM R j).2.2] 90)).cell? ⟨S, 3, none⟩ = some (.pointer (some ⟨g, 0, none⟩)) := (hB.cell (p := ⟨S, 3, none⟩) hSr).trans u3
      have hS2 := Nat.lt_of_lt_of_le hSr hB.size
      have hbx : wr.heap.size < (wr.alloc (.cells #[.int .i64 (getM R j).1, .slice A1 n1 c1, .bool (getM R j).2.2] 90)).heap.size := by simp
      clear hL hB hn1
      generalize (getM R j).1 = cl at *
      generalize (getM R j).2.2 = bl at *
      generalize hLL : (getM R j).2.1 = L at *
      have HLE := Lib.hid hLL
      clear hLL
      go_upto_region 7 with (fail)
      generalize wr.alloc (.cells #[.int .i64 cl, .slice A1 n1 c1, .bool bl] 90) = wm at *
      generalize wr.heap.size = bx at *
      clear q0 q1 q2 u3 u4 hSr hM
      go_region_held3 (fun w' => w'.cell? ⟨S, 3, none⟩ = some (.pointer (some ⟨g, 0, none⟩)) ∧ w'.cell? ⟨bx, 1, none⟩ = some (.slice A1 n1 c1)) (first | go_keep | exact ⟨by rw [two_put (p := ⟨S, 3, none⟩) HSG.out]; assumption, by rw [two_put (p := ⟨bx, 1, none⟩) HBG.out]; assumption⟩)
        ((first
          | (go_at_call 50; refine (of9_any (HK2.out.later (by first | exact (Below.refl _ _).drew | exact Below.refl _ _)) (j : Int)).mono ?_; rintro e w3 ⟨A3, n3, c3, rfl, hn3, ho3, hb3⟩; have HO3 := Lib.hid ho3; have HB3 : Hid (Below wm.heap.size wm w3) := Lib.hid (by first | exact (Below.refl _ wm).drew.trans hb3 | exact hb3); have f0 : w3.cell? ⟨S, 3, none⟩ = some (.pointer (some ⟨g, 0, none⟩)) := (HB3.out.cell (p := ⟨S, 3, none⟩) hS2).trans e0; have f1 : w3.cell? ⟨bx, 1, none⟩ = some (.slice A1 n1 c1) := (HB3.out.cell (p := ⟨bx, 1, none⟩) hbx).trans e1; clear hn3 ho3 hb3)
          | (go_at_call 51; refine (zonesOf_any top s A1 n1 c1 L _ (HL2.out.keep (KeepT.of HB3.out)) HN1.out).mono ?_; rintro e w4 ⟨A4, n4, c4, rfl, hn4, ho4, hb4⟩; have HO4 := Lib.hid ho4; have HB4 := Lib.hid hb4; have f2 : w4.cell? ⟨S, 3, none⟩ = some (.pointer (some ⟨g, 0, none⟩)) := (hb4.cell (p := ⟨S, 3, none⟩) (Nat.lt_of_lt_of_le hS2 HB3.out.size)).trans f0; have f3 : w4.cell? ⟨bx, 1, none⟩ = some (.slice A1 n1 c1) := (hb4.cell (p := ⟨bx, 1, none⟩) (Nat.lt_of_lt_of_le hbx HB3.out.size)).trans f1; have HC4 := Lib.hid ((HC2.out.later HB3.out).later hb4); obtain ⟨x0, hx0⟩ := HC4.out.cells.1 (j * 2) (by omega); obtain ⟨x1, hx1⟩ := HC4.out.cells.1 (j * 2 + 1) (by omega); have hfz := HC4.out.cells.2; have hf0 := hfz (j * 2); have hf1 := hfz (j * 2 + 1); have hgl := HC4.out.lt.2; clear hn4 ho4 hb4 hfz)))
      all_goals
        go_wp2_with fail
        go_roundw
        case rel =>
          refine ⟨j + 1, by omega, by go_num, Lib.hid (HC4.out.put hlt (Zs.iw HO3.out ?_ (KeepT.of HB4.out)) (Zs.own (by rw [HLE.out]; exact HO4.out) ?_))⟩
          · have := HC2.out.lt.2; first | exact this | (simp; exact this)
          · exact Nat.le_trans HC2.out.lt.2 HB3.out.size
        case measure => simp [intOf]; omega
    · obtain rfl : j = n := by omega
      go_wp2_with fail
      go_ret
      exact ⟨some ⟨gc, 0, none⟩, j, j, rfl, HI.out.ch HN.out, HI.out.below⟩
end Tf
end Go.Proofs.YtakgkocdkondhaaGreatDoor
end

section
namespace Go.Proofs.YtakgkocdkondhaaGreatDoor
namespace Tf
open Go.RowKit Fl Tr Pt
open Bk (Gt Lt Iw ivs Cm hold need Rg SafC MayP Goes own_lower own_later)
open Lk (Ow Rb Zo at9 zns Tb T0 LkAt Only)

/-! ### What a right list of acts has -/
theorem run_cells {near : Int → Int → Bool} {lane : Int → Bool} {dock : Int} : ∀ (l : List Ac) {s t : Int × Int}, runA near lane dock l s = some t → (s.1 = dock ∨ lane s.1 = true) → ∀ a, a ∈ l → a.2.1 = dock ∨ lane a.2.1 = true
  | [], s, t, h, hs, a, ha => by cases ha
  | b :: l, s, t, h, hs, a, ha => by
    have h : (doA near lane dock s b).bind (runA near lane dock l) = some t := h
    cases e : doA near lane dock s b with
    | none => rw [e] at h; cases h
    | some u =>
      rw [e] at h
      have h1 := (doA_place e).2 hs
      rcases List.mem_cons.1 ha with rfl | ha
      · unfold doA at e
        split at e
        · split at e
          · rename_i q; exact q.2.1
          · cases e
        · split at e
          · split at e
            · rename_i q; exact .inr q.2.2.2
            · cases e
          · split at e
            · split at e
              · rename_i q; exact .inr q.2.2.2
              · cases e
            · cases e
      · exact run_cells l h h1 a ha
theorem right_cells {W H : Int} {s : ByteArray} {r c : Int} {L : List Ac} (h : RightIs W H s r c L) : ∀ a, a ∈ L → IW a.2.1 ∧ OnFloor W H s a.2.1 := by
  obtain ⟨d, h1, h2, h3, h4, h5⟩ := h
  intro a ha
  exact on_dock h1.1 h2 (rob_lt h1) (run_cells L h5 h3 a ha)
theorem right_len {W H : Int} {s : ByteArray} {r c : Int} {L : List Ac} (h : RightIs W H s r c L) : L.length ≤ 1024 := by
  obtain ⟨d, h1, h2, h3, h4, h5⟩ := h
  exact h4
theorem Inv.lens {W H : Int} {s : ByteArray} {R : List Mv} {T : List Ow} (h : Inv W H s R T) : ∀ r, r < R.length → (getM R r).2.1.length ≤ 1024 := fun r hr => right_len (h.each r hr)
/-- A robot's dock. -/
def dk (s : ByteArray) (r : Int) : Int := (((List.range s.size).find? fun i => at_ s i == 48 + r.toNat).getD 0 : Nat)
theorem dk_is {s : ByteArray} {r : Int} {d : Nat} (h : IsFirst s (48 + r.toNat) d) : dk s r = (d : Int) := by
  unfold dk
  congr 1
  have : (List.range s.size).find? (fun i => at_ s i == 48 + r.toNat) = some d := by
    rw [List.find?_range_eq_some]
    refine ⟨by simpa using h.2.1, by simpa using h.1, fun j hj => ?_⟩
    simpa using h.2.2 j hj
  rw [this]; rfl

/-! ### tasks -/
theorem tcl_set : ∀ (Z : List (Ac × Value)) (i k : Nat) (c p : Int) (v : Value), i < Z.length → ((((tcl Z).set (i * 4) (.int .u8 (k : Int))).set (i * 4 + 1) (.int .i64 c)).set (i * 4 + 2) (.int .i64 p)).set (i * 4 + 3) v = tcl (Z.set i ((k, c, p), v))
  | [], i, k, c, p, v, h => by simp at h
  | x :: l, 0, k, c, p, v, h => by simp [tcl]
  | x :: l, i + 1, k, c, p, v, h => by
    have e1 : (i + 1) * 4 = i * 4 + 1 + 1 + 1 + 1 := by omega
    rw [e1]
    simp only [tcl, List.set_cons_succ]
    rw [tcl_set l i k c p v (by simpa using h)]
theorem made_tcl (n : Nat) : (madeCells (Value.agg #[.int .u8 0, .int .i64 0, .int .i64 0, .slice none 0 0]).cells (n * 4)).toList = tcl (List.replicate n ((0, 0, 0), .slice none 0 0)) := by
  have hc : (Value.agg #[.int .u8 0, .int .i64 0, .int .i64 0, .slice none 0 0]).cells = #[.int .u8 0, .int .i64 0, .int .i64 0, .slice none 0 0] := by rfl
  have hg : ∀ i, i < n → (tcl (List.replicate n (((0, 0, 0) : Ac), Value.slice none 0 0)))[i * 4]? = some (.int .u8 0) ∧ (tcl (List.replicate n (((0, 0, 0) : Ac), Value.slice none 0 0)))[i * 4 + 1]? = some (.int .i64 0) ∧ (tcl (List.replicate n (((0, 0, 0) : Ac), Value.slice none 0 0)))[i * 4 + 2]? = some (.int .i64 0) ∧ (tcl (List.replicate n (((0, 0, 0) : Ac), Value.slice none 0 0)))[i * 4 + 3]? = some (.slice none 0 0) := fun i hi => by
    have := tcl_get (List.replicate n (((0, 0, 0) : Ac), Value.slice none 0 0)) i ((0, 0, 0), .slice none 0 0) (by rw [List.getElem?_replicate, if_pos hi])
    exact this
  have hl := tcl_length (List.replicate n (((0, 0, 0) : Ac), Value.slice none 0 0))
  rw [List.length_replicate] at hl
  apply List.ext_getElem
  · rw [hl]; simp [madeCells]
  · intro i h1 h2
    have hi : i < n * 4 := by rw [hl] at h2; exact h2
    obtain ⟨q0, q1, q2, q3⟩ := hg (i / 4) (by omega)
    have : i % 4 = 0 ∨ i % 4 = 1 ∨ i % 4 = 2 ∨ i % 4 = 3 := by omega
    have hx : ∀ v, (tcl (List.replicate n (((0, 0, 0) : Ac), Value.slice none 0 0)))[i]? = some v → (tcl (List.replicate n (((0, 0, 0) : Ac), Value.slice none 0 0)))[i] = v := fun v e => by
      rw [List.getElem?_eq_getElem h2] at e; injection e
    rcases this with e | e | e | e
    · rw [hx _ (by rw [show i = i / 4 * 4 by omega]; exact q0)]; simp [madeCells, hc, e]
    · rw [hx _ (by rw [show i = i / 4 * 4 + 1 by omega]; exact q1)]; simp [madeCells, hc, e]
    · rw [hx _ (by rw [show i = i / 4 * 4 + 2 by omega]; exact q2)]; simp [madeCells, hc, e]
    · rw [hx _ (by rw [show i = i / 4 * 4 + 3 by omega]; exact q3)]; simp [madeCells, hc, e]
/-- Tasks under way. -/
structure Tw (w0 : World) (g n : Nat) (s : ByteArray) (L : List Ac) (j : Nat) (wr : World) : Prop where
  below : Below w0.heap.size w0 wr
  lt : w0.heap.size ≤ g ∧ g < wr.heap.size
  ex : ∃ Z : List (Ac × Value), Z.length = n ∧ wr.ownsRow w0.heap.size 99 4 (.slice (some ⟨g, 0, none⟩) n n) n (tcl Z) ∧ ∀ r t, r < j → Z[r]? = some t → t.1 = L.getD r (0, 0, 0) ∧ Zs (g + 1) wr t.2 (az s t.1)
theorem Tw.later {w0 wr w' : World} {g n : Nat} {s : ByteArray} {L : List Ac} {j : Nat} (h : Tw w0 g n s L j wr) (hb : Below wr.heap.size wr w') : Tw w0 g n s L j w' := by
  obtain ⟨h1, ⟨l1, l2⟩, Z, h2, h3, h4⟩ := h
  exact ⟨h1.trans (hb.mono h1.size), ⟨l1, Nat.lt_of_lt_of_le l2 hb.size⟩, Z, h2, own_later h3 hb, fun r t hr e => ⟨(h4 r t hr e).1, (h4 r t hr e).2.keep (KeepT.of hb)⟩⟩
theorem Tw.cells {w0 wr : World} {g n : Nat} {s : ByteArray} {L : List Ac} {j : Nat} (h : Tw w0 g n s L j wr) : (∀ x, x < n * 4 → ∃ u, wr.cell? ⟨g, x, none⟩ = some u) ∧ ∀ x, wr.frozen? ⟨g, x, none⟩ = false := by
  obtain ⟨h1, _, Z, h2, h3, h4⟩ := h
  rcases h3.2 with ⟨q, _⟩ | ⟨g2, cp, cur, q, hg2, hh, k1, k2, k3, k4⟩
  · cases q
  · injection q with q
    injection q with q
    injection q with q
    subst q
    have hgt := (Bk.gt_own h3).2
    have hlen := hgt.len
    refine ⟨fun x hx => ?_, fun x => frozen_of_row wr g x _ _ hh⟩
    obtain ⟨g', off, e, hg, hc⟩ := hgt.cell (by omega)
    injection e with e
    injection e with e e'
    subst e e'
    have := hc x hx
    rw [Nat.zero_add] at this
    exact ⟨_, this.trans (List.getElem?_eq_getElem (by rw [hlen]; exact hx))⟩
theorem Tw.put {w0 wr : World} {g n : Nat} {s : ByteArray} {L : List Ac} {j : Nat} (h : Tw w0 g n s L j wr) (hj : j < n) {k : Nat} {c p : Int} {v : Value} (ha : L.getD j (0, 0, 0) = (k, c, p)) (hv : Zs (g + 1) wr v (az s (k, c, p))) :
    Tw w0 g n s L (j + 1) ((((wr.setCell ⟨g, j * 4, none⟩ (.int .u8 (k : Int))).setCell ⟨g, j * 4 + 1, none⟩ (.int .i64 c)).setCell ⟨g, j * 4 + 2, none⟩ (.int .i64 p)).setCell ⟨g, j * 4 + 3, none⟩ v) := by
  obtain ⟨h1, ⟨l1, l2⟩, Z, h2, h3, h4⟩ := h
  have hk : KeepT (g + 1) wr ((((wr.setCell ⟨g, j * 4, none⟩ (.int .u8 (k : Int))).setCell ⟨g, j * 4 + 1, none⟩ (.int .i64 c)).setCell ⟨g, j * 4 + 2, none⟩ (.int .i64 p)).setCell ⟨g, j * 4 + 3, none⟩ v) :=
    (((KeepT.put wr _ (by omega)).trans (KeepT.put _ _ (by omega))).trans (KeepT.put _ _ (by omega))).trans (KeepT.put _ _ (by omega))
  have hl := tcl_length Z
  have o1 := Bk.own_put h3 (x := j * 4) (by omega) (.int .u8 (k : Int))
  have o2 := Bk.own_put o1 (x := j * 4 + 1) (by rw [List.length_set]; omega) (.int .i64 c)
  have o3 := Bk.own_put o2 (x := j * 4 + 2) (by rw [List.length_set, List.length_set]; omega) (.int .i64 p)
  have o4 := Bk.own_put o3 (x := j * 4 + 3) (by rw [List.length_set, List.length_set, List.length_set]; omega) v
  rw [tcl_set Z j k c p v (by omega)] at o4
  refine ⟨(((h1.setCell l1 _).setCell l1 _).setCell l1 _).setCell l1 _, ⟨l1, Nat.lt_of_lt_of_le l2 hk.1⟩, Z.set j ((k, c, p), v), by rw [List.length_set]; exact h2, o4, fun r t hr e => ?_⟩
  rw [List.getElem?_set] at e
  by_cases q : j = r
  · subst q
    rw [if_pos rfl, if_pos (by omega)] at e
    injection e with e
    subst e
    exact ⟨ha.symm, hv.keep hk⟩
  · rw [if_neg q] at e
    have := h4 r t (by omega) e
    exact ⟨this.1, this.2.keep hk⟩
theorem Tw.lf {w0 wr : World} {g n : Nat} {s : ByteArray} {L : List Ac} (h : Tw w0 g n s L n wr) (hn : n = L.length) : Lf w0.heap.size wr s (.slice (some ⟨g, 0, none⟩) n n) L := by
  obtain ⟨h1, ⟨l1, l2⟩, Z, h2, h3, h4⟩ := h
  have hz : ∀ v L, Zs (g + 1) wr v L → Zs w0.heap.size wr v L := fun v L ⟨A, n, c, e, h⟩ => ⟨A, n, c, e, h.gt, fun ad e => Nat.le_trans (by omega) (h.up ad e)⟩
  refine ⟨_, _, _, Z, rfl, ?_, ⟨(Bk.gt_own h3).2, fun ad e => ?_⟩, fun t ht => ?_⟩
  · refine List.ext_getElem? (fun r => ?_)
    rw [List.getElem?_map]
    by_cases hr : r < n
    · rw [List.getElem?_eq_getElem (by omega : r < Z.length), List.getElem?_eq_getElem (by omega : r < L.length)]
      have := (h4 r _ hr (List.getElem?_eq_getElem (by omega : r < Z.length))).1
      simp only [Option.map_some, this, List.getD, List.getElem?_eq_getElem (by omega : r < L.length), Option.getD_some]
    · rw [List.getElem?_eq_none (by omega : Z.length ≤ r), List.getElem?_eq_none (by omega : L.length ≤ r)]; rfl
  · injection e with e
    rw [← e]
    exact l1
  · obtain ⟨r, hr, e⟩ := List.getElem_of_mem ht
    exact hz _ _ (h4 r t (by omega) (by rw [← e]; exact List.getElem?_eq_getElem hr)).2
theorem Lf.low {top top' : Nat} {w : World} {s : ByteArray} {v : Value} {L : List Ac} (h : Lf top w s v L) (ht : top' ≤ top) : Lf top' w s v L := by
  obtain ⟨A, n, c, Z, e, h1, h2, h3⟩ := h
  have hz : ∀ v L, Zs top w v L → Zs top' w v L := fun v L ⟨A, n, c, e, h⟩ => ⟨A, n, c, e, h.gt, fun ad e => Nat.le_trans ht (h.up ad e)⟩
  exact ⟨A, n, c, Z, e, h1, ⟨h2.gt, fun ad e => Nat.le_trans ht (h2.up ad e)⟩, fun t ht => hz _ _ (h3 t ht)⟩
end Tf
end Go.Proofs.YtakgkocdkondhaaGreatDoor
end

section
namespace Go.Proofs.YtakgkocdkondhaaGreatDoor
namespace Tf
open Go.RowKit Fl Tr Pt
open Bk (Gt Lt Iw ivs Cm hold need Rg SafC MayP Goes own_lower own_later)
open Lk (Ow Rb Zo at9 zns Tb T0 LkAt Only)

theorem put4 {w : World} {g x0 x1 x2 x3 : Nat} {u0 u1 u2 u3 : Value} {p : Addr} (h : p.block ≠ g) : ((((w.setCell ⟨g, x0, none⟩ u0).setCell ⟨g, x1, none⟩ u1).setCell ⟨g, x2, none⟩ u2).setCell ⟨g, x3, none⟩ u3).cell? p = w.cell? p :=
  (two_put h).trans (two_put h)
def TskTold (s : ByteArray) (L : List Ac) (w : World) (e : Ending) (w' : World) : Prop := ∃ v, e = .returned v ∧ Lf w.heap.size w' s v L ∧ Below w.heap.size w w'
set_option maxHeartbeats 4000000 in
theorem tasks_any {w : World} {S g M cap top : Nat} {W H : Int} {s : ByteArray} {R : List Mv} {T : List Ow} (h : St w S g M cap top W H s R T) (hs : s.size ≤ maxLen) (hR : Right W H s) (A : Option Addr) (n c : Nat) (L : List Ac) (hA : Al w.heap.size w A n c L) (hn : n ≤ 1024) (hIW : ∀ a, a ∈ L → IW a.2.1) :
    Calls Tryz.prog 65 #[.pointer (some ⟨S, 0, none⟩), .slice A n c] w (TskTold s L w) := by
  obtain ⟨s0, s1, s2, _, _, hS⟩ := h.cells
  have HA := Lib.hid hA
  have HN : Hid (n = L.length) := Lib.hid hA.len.symm
  obtain ⟨hc1, hc2⟩ := hA.size
  have HZ := Lib.hid (fun A n cap L wx h hn hIW => zones_own W H s hs A n cap L wx h hn hIW)
  have HR := Lib.hid hR
  have HIW := Lib.hid hIW
  have HST := Lib.hid h
  obtain ⟨i0, hi, hz0, hz1, hz2⟩ := info_parts Tryz.infoTask
  clear h hA hIW hR
  go_enter Tryz.func65, Tryz.ntmps65
  go_wp2_with (at_make; go_must (refine wpList_make_full _ rfl _ _ 88 rfl w.heap.size 99 i0 (.agg #[.int .u8 0, .int .i64 0, .int .i64 0, .slice none 0 0]) 4 Tryz.underlying88 hi hz0 hz1 .i64 .i64 _ _ n rfl rfl rfl rfl (by rw [hz2]; omega) (by unfold maxLen; omega) (by simp) ?_); intro w1 ho1 hg1; have hB1 : Below w.heap.size w w1 := (Below.grown (Below.refl _ w) hg1 (by simp) (fun k hk => by cases hk)); have HO1 := Lib.hid ho1; have HB1 := Lib.hid hB1; have HG1 : Hid (w.heap.size < w1.heap.size) := Lib.hid (by
      rcases ho1.2 with ⟨q, _⟩ | ⟨g2, cp, cur, q, hg2, hh, _⟩
      · cases q
      · injection q with q
        injection q with q
        injection q with q
        subst q
        exact lt_of_heap hh); clear ho1 hg1 hB1)
  have HCM : Hid (Tw w w.heap.size n s L 0 w1) := Lib.hid ⟨HB1.out, ⟨Nat.le_refl _, HG1.out⟩, List.replicate n ((0, 0, 0), .slice none 0 0), by simp, by rw [← made_tcl]; exact HO1.out, fun r p hr => by omega⟩
  clear hi hz0 hz1 hz2
  have HSG : Hid (S ≠ w.heap.size) := Lib.hid (Nat.ne_of_lt hS)
  clear s0 s1 s2 hS
  obtain ⟨gc, hgc⟩ : ∃ gc, gc = w.heap.size := ⟨_, rfl⟩
  rw [← hgc] at HCM HSG ⊢
  have HGC := Lib.hid hgc
  clear hgc
  go_loopw [13] (fun iv wr => ∃ (j : Nat), j ≤ n ∧ iv = .int .i64 (j : Int) ∧ Hid (Tw w gc n s L j wr)) (fun iv _ => n - (intOf iv).toNat)
  case atStart => exact ⟨0, by omega, rfl, HCM⟩
  case round =>
    rename World => wr
    obtain ⟨j, hj, rfl, HI⟩ := hrel
    by_cases hlt : j < n
    · have HSr := Lib.hid (HST.out.later HI.out.below)
      obtain ⟨s0, s1, s2, _, _, hSr⟩ := HSr.out.cells
      obtain ⟨g', off, rfl, hg, k0, k1, k2⟩ := (HA.out.below HI.out.below).cell hlt
      have hjI : (j : Int) < (n : Int) := by omega
      have HAI := Lib.hid (HIW.out (L.getD j (0, 0, 0)) (by rw [List.getD, List.getElem?_eq_getElem (by rw [← HN.out]; exact hlt)]; exact List.getElem_mem _))
      have hg2 : g' < wr.heap.size := Nat.lt_of_lt_of_le hg HI.out.below.size
      generalize hae : L.getD j (0, 0, 0) = a at *
      obtain ⟨x, y, z⟩ := a
      have HAE := Lib.hid hae
      clear hae
      have k0 : wr.cell? ⟨g', off + j * 3, none⟩ = some (.int .u8 (x : Int)) := k0
      have k1 : wr.cell? ⟨g', off + j * 3 + 1, none⟩ = some (.int .i64 y) := k1
      have k2 : wr.cell? ⟨g', off + j * 3 + 2, none⟩ = some (.int .i64 z) := k2
      have hB := (Below.refl wr.heap.size wr).alloc (Nat.le_refl _) (.cells #[.int .u8 (x : Int), .int .i64 y, .int .i64 z] 39)
      have HC2 := Lib.hid (HI.out.later hB)
      have HBX : Hid (wr.heap.size ≠ gc) := Lib.hid (Nat.ne_of_gt HI.out.lt.2)
      have e0 : (wr.alloc (.cells #[.int .u8 (x : Int), .int .i64 y, .int .i64 z] 39)).cell? ⟨wr.heap.size, 0, none⟩ = some (.int .u8 (x : Int)) := by simp [World.cell?_alloc_new]
      have e1 : (wr.alloc (.cells #[.int .u8 (x : Int), .int .i64 y, .int .i64 z] 39)).cell? ⟨wr.heap.size, 1, none⟩ = some (.int .i64 y) := by simp [World.cell?_alloc_new]
      have e2 : (wr.alloc (.cells #[.int .u8 (x : Int), .int .i64 y, .int .i64 z] 39)).cell? ⟨wr.heap.size, 2, none⟩ = some (.int .i64 z) := by simp [World.cell?_alloc_new]
      have d0 := (hB.cell (p := ⟨S, 0, none⟩) hSr).trans s0
      have d1 := (hB.cell (p := ⟨S, 1, none⟩) hSr).trans s1
      have d2 := (hB.cell (p := ⟨S, 2, none⟩) hSr).trans s2
      have hS2 := Nat.lt_of_lt_of_le hSr hB.size
      have hbx : wr.heap.size < (wr.alloc (.cells #[.int .u8 (x : Int), .int .i64 y, .int .i64 z] 39)).heap.size := by simp
      clear hB
      go_upto_region 5 with (fail)
      generalize wr.alloc (.cells #[.int .u8 (x : Int), .int .i64 y, .int .i64 z] 39) = wm at *
      generalize wr.heap.size = bx at *
      clear k0 k1 k2 s0 s1 s2 hSr hg hg2
      go_region_held3 (fun w' => (w'.cell? ⟨S, 0, none⟩ = some (.int .i64 W) ∧ w'.cell? ⟨S, 1, none⟩ = some (.int .i64 H) ∧ w'.cell? ⟨S, 2, none⟩ = some (.string s)) ∧ w'.cell? ⟨bx, 0, none⟩ = some (.int .u8 (x : Int)) ∧ w'.cell? ⟨bx, 1, none⟩ = some (.int .i64 y) ∧ w'.cell? ⟨bx, 2, none⟩ = some (.int .i64 z)) (first | go_keep | exact ⟨⟨by rw [put4 (p := ⟨S, 0, none⟩) HSG.out]; assumption, by rw [put4 (p := ⟨S, 1, none⟩) HSG.out]; assumption, by rw [put4 (p := ⟨S, 2, none⟩) HSG.out]; assumption⟩, by rw [put4 (p := ⟨bx, 0, none⟩) HBX.out]; assumption, by rw [put4 (p := ⟨bx, 1, none⟩) HBX.out]; assumption, by rw [put4 (p := ⟨bx, 2, none⟩) HBX.out]; assumption⟩)
        ((go_at_call 99; refine (HZ.out (some ⟨_, 0, none⟩) 1 1 [(x, y, z)] _ (by first | exact Al.one _ (x, y, z) | exact (Al.one _ (x, y, z)).later (Below.refl _ _).drew) (by omega) (fun i hi => by have h0 : i = 0 := (by omega); subst h0; exact HAI.out)).mono ?_; rintro e w4 ⟨A4, n4, c4, zs, rfl, hn4, _, hz4, _, ho4, hb4⟩; have HO4 := Lib.hid ho4; have HZ4 := Lib.hid (hz4 HR.out); have HB4 : Hid (Below wm.heap.size wm w4) := Lib.hid (by first | exact ((Below.refl _ wm).drew.alloc (Nat.le_refl _) _).trans (hb4.mono (by simp)) | exact ((Below.refl _ wm).alloc (Nat.le_refl _) _).trans (hb4.mono (by simp)) | exact (((Below.refl _ wm).alloc (Nat.le_refl _) _).drew).trans (hb4.mono (by simp))); have HBS : Hid (wm.heap.size ≤ w4.heap.size) := Lib.hid HB4.out.size; have f0 := (HB4.out.cell (p := ⟨S, 0, none⟩) hS2).trans d0; have f1 := (HB4.out.cell (p := ⟨S, 1, none⟩) hS2).trans d1; have f2 := (HB4.out.cell (p := ⟨S, 2, none⟩) hS2).trans d2; have f3 := (HB4.out.cell (p := ⟨bx, 0, none⟩) hbx).trans e0; have f4 := (HB4.out.cell (p := ⟨bx, 1, none⟩) hbx).trans e1; have f5 := (HB4.out.cell (p := ⟨bx, 2, none⟩) hbx).trans e2; have HC4 := Lib.hid (HC2.out.later HB4.out); obtain ⟨x0, hx0⟩ := HC4.out.cells.1 (j * 4) (by omega); obtain ⟨x1, hx1⟩ := HC4.out.cells.1 (j * 4 + 1) (by omega); obtain ⟨x2, hx2⟩ := HC4.out.cells.1 (j * 4 + 2) (by omega); obtain ⟨x3, hx3⟩ := HC4.out.cells.1 (j * 4 + 3) (by omega); have hfz := HC4.out.cells.2; have hf0 := hfz (j * 4); have hf1 := hfz (j * 4 + 1); have hf2 := hfz (j * 4 + 2); have hf3 := hfz (j * 4 + 3); have hgl := HC4.out.lt.2; clear hn4 ho4 hb4 hfz hz4))
      all_goals
        go_wp2_with fail
        go_roundw
        case rel =>
          refine ⟨j + 1, by omega, by go_num, Lib.hid (HC4.out.put hlt HAE.out (Zs.own (base := wm.heap.size) ?_ ?_))⟩
          · rw [← zl_one]
            unfold zl
            rw [← HZ4.out]
            exact OwI.low HO4.out (by simp)
          · exact HC2.out.lt.2
        case measure => simp [intOf]; omega
    · obtain rfl : j = n := by omega
      go_wp2_with fail
      go_ret
      exact ⟨_, rfl, HI.out.lf HN.out, HI.out.below⟩

/-! ### Start -/
open Classical in
noncomputable def startF (W H : Int) (s : ByteArray) (R : List Mv) (r : Int) (L : List Ac) : Int × List Mv :=
  if 0 ≤ r ∧ r < R.length then (if RightIs W H s r (dk s r) L then (if (getM R r.toNat).2.1 ≠ [] then (3, R) else (0, R.set r.toNat ((getM R r.toNat).1, L, (getM R r.toNat).2.2))) else (1, R)) else (1, R)
def StartTold (S g M cap top : Nat) (W H : Int) (s : ByteArray) (R : List Mv) (T : List Ow) (r : Int) (L : List Ac) (w : World) (e : Ending) (w' : World) : Prop :=
  e = .returned (.int .i64 (startF W H s R r L).1) ∧ St w' S g M cap top W H s (startF W H s R r L).2 T ∧ Fr g M w w'
theorem Inv.startF {W H : Int} {s : ByteArray} {R : List Mv} {T : List Ow} (h : Inv W H s R T) (r : Int) (L : List Ac) : Inv W H s (startF W H s R r L).2 T := by
  unfold Tf.startF
  by_cases hr : 0 ≤ r ∧ r < R.length
  · rw [if_pos hr]
    obtain ⟨k, rfl⟩ := Int.eq_ofNat_of_zero_le hr.1
    have hk : k < R.length := by omega
    rw [Int.toNat_natCast]
    split
    · rename_i q
      split
      · exact h
      · rename_i q2
        have hl : (getM R k).2.1 = [] := Classical.byContradiction q2
        obtain ⟨i1, i2, i3, i4, i5⟩ := h.idle hk hl
        have hd := dk_is (r := (k : Int)) (by rw [Int.toNat_natCast]; exact i2)
        rw [i3] at hd
        rw [hd] at q
        exact h.starts hk hl q
    · exact h
  · rw [if_neg hr]; exact h
/-- The boxes of a call: the state, a robot, acts. -/
structure Bx3 (w0 : World) (b1 b2 b3 S : Nat) (r : Int) (v : Value) (w : World) : Prop where
  below : Below w0.heap.size w0 w
  c1 : w.cell? ⟨b1, 0, none⟩ = some (.pointer (some ⟨S, 0, none⟩))
  c2 : w.cell? ⟨b2, 0, none⟩ = some (.int .i64 r)
  c3 : w.cell? ⟨b3, 0, none⟩ = some v
  lt : b1 < w.heap.size ∧ b2 < w.heap.size ∧ b3 < w.heap.size
  ge : w0.heap.size ≤ b1 ∧ w0.heap.size ≤ b2 ∧ w0.heap.size ≤ b3
theorem Bx3.later {w0 w w' : World} {b1 b2 b3 S : Nat} {r : Int} {v : Value} (h : Bx3 w0 b1 b2 b3 S r v w) (hb : Below w.heap.size w w') : Bx3 w0 b1 b2 b3 S r v w' :=
  ⟨h.below.trans (hb.mono h.below.size), (hb.cell (p := ⟨b1, 0, none⟩) h.lt.1).trans h.c1, (hb.cell (p := ⟨b2, 0, none⟩) h.lt.2.1).trans h.c2, (hb.cell (p := ⟨b3, 0, none⟩) h.lt.2.2).trans h.c3, ⟨Nat.lt_of_lt_of_le h.lt.1 hb.size, Nat.lt_of_lt_of_le h.lt.2.1 hb.size, Nat.lt_of_lt_of_le h.lt.2.2 hb.size⟩, h.ge⟩
theorem Bx3.start (w : World) (S : Nat) (r : Int) (v : Value) : Bx3 w w.heap.size (w.heap.size + 1) (w.heap.size + 1 + 1) S r v (((w.alloc (.cells #[.pointer (some ⟨S, 0, none⟩)] 27)).alloc (.cells #[.int .i64 r] 3)).alloc (.cells #[v] 35)) := by
  have h1 : (w.alloc (.cells #[.pointer (some ⟨S, 0, none⟩)] 27)).cell? ⟨w.heap.size, 0, none⟩ = some (.pointer (some ⟨S, 0, none⟩)) := by simp [World.cell?_alloc_new]
  generalize hx1 : w.alloc (.cells #[.pointer (some ⟨S, 0, none⟩)] 27) = x1 at *
  have s1 : x1.heap.size = w.heap.size + 1 := by rw [← hx1]; simp
  have b1 : Below w.heap.size w x1 := by rw [← hx1]; exact (Below.refl _ _).alloc (Nat.le_refl _) _
  have h2 : (x1.alloc (.cells #[.int .i64 r] 3)).cell? ⟨w.heap.size + 1, 0, none⟩ = some (.int .i64 r) := by rw [← s1]; simp [World.cell?_alloc_new]
  have b2 : Below x1.heap.size x1 (x1.alloc (.cells #[.int .i64 r] 3)) := (Below.refl _ _).alloc (Nat.le_refl _) _
  generalize hx2 : x1.alloc (.cells #[.int .i64 r] 3) = x2 at *
  have s2 : x2.heap.size = w.heap.size + 1 + 1 := by rw [← hx2]; simp [s1]
  have h3 : (x2.alloc (.cells #[v] 35)).cell? ⟨w.heap.size + 1 + 1, 0, none⟩ = some v := by rw [← s2]; simp [World.cell?_alloc_new]
  have b3 : Below x2.heap.size x2 (x2.alloc (.cells #[v] 35)) := (Below.refl _ _).alloc (Nat.le_refl _) _
  have s3 : (x2.alloc (.cells #[v] 35)).heap.size = w.heap.size + 1 + 1 + 1 := by simp [s2]
  refine ⟨(b1.trans (b2.mono b1.size)).trans (b3.mono (Nat.le_trans b1.size b2.size)), ?_, ?_, h3, ⟨by omega, by omega, by omega⟩, ⟨by omega, by omega, by omega⟩⟩
  · exact (b3.cell (p := ⟨w.heap.size, 0, none⟩) (by show w.heap.size < _; omega)).trans ((b2.cell (p := ⟨w.heap.size, 0, none⟩) (by show w.heap.size < _; omega)).trans h1)
  · exact (b3.cell (p := ⟨w.heap.size + 1, 0, none⟩) (by show w.heap.size + 1 < _; omega)).trans h2
end Tf
end Go.Proofs.YtakgkocdkondhaaGreatDoor
end

section
namespace Go.Proofs.YtakgkocdkondhaaGreatDoor
namespace Tf
open Go.RowKit Fl Tr Pt
open Bk (Gt Lt Iw ivs Cm hold need Rg SafC MayP Goes own_lower own_later)
open Lk (Ow Rb Zo at9 zns Tb T0 LkAt Only)

section
variable {w : World} {S g M cap top : Nat} {W H : Int} {s : ByteArray} {R : List Mv} {T : List Ow}
/-- A state, and the boxes of a call. -/
structure Sb (w0 : World) (b1 b2 b3 S g M cap top : Nat) (W H : Int) (s : ByteArray) (R : List Mv) (T : List Ow) (r : Int) (A : Option Addr) (n c : Nat) (L : List Ac) (w : World) : Prop where
  st : St w S g M cap top W H s R T
  bx : Bx3 w0 b1 b2 b3 S r (.slice A n c) w
  al : Al w.heap.size w A n c L
theorem Sb.later {w0 w' : World} {b1 b2 b3 : Nat} {r : Int} {A : Option Addr} {n c : Nat} {L : List Ac} (h : Sb w0 b1 b2 b3 S g M cap top W H s R T r A n c L w) (hb : Below w.heap.size w w') : Sb w0 b1 b2 b3 S g M cap top W H s R T r A n c L w' :=
  ⟨h.st.later hb, h.bx.later hb, h.al.later hb⟩
def SbC (b1 b2 b3 S : Nat) (W H : Int) (s : ByteArray) (r : Int) (v : Value) (w : World) : Prop :=
  (w.cell? ⟨b1, 0, none⟩ = some (.pointer (some ⟨S, 0, none⟩)) ∧ w.cell? ⟨b2, 0, none⟩ = some (.int .i64 r) ∧ w.cell? ⟨b3, 0, none⟩ = some v) ∧ w.cell? ⟨S, 0, none⟩ = some (.int .i64 W) ∧ w.cell? ⟨S, 1, none⟩ = some (.int .i64 H) ∧ w.cell? ⟨S, 2, none⟩ = some (.string s)
theorem Sb.c {w0 : World} {b1 b2 b3 : Nat} {r : Int} {A : Option Addr} {n c : Nat} {L : List Ac} (h : Sb w0 b1 b2 b3 S g M cap top W H s R T r A n c L w) : SbC b1 b2 b3 S W H s r (.slice A n c) w :=
  ⟨⟨h.bx.c1, h.bx.c2, h.bx.c3⟩, h.st.cells.1, h.st.cells.2.1, h.st.cells.2.2.1⟩
def StartQ (g M S cap top : Nat) (W H : Int) (s : ByteArray) (R R' : List Mv) (T : List Ow) (x : Int) (w : World) (m : Int) (w' : World) : Prop := m = x ∧ St w' S g M cap top W H s R' T ∧ Fr g M w w'
set_option maxHeartbeats 4000000 in
theorem start1_any (hs : s.size ≤ maxLen) {w0 : World} {b1 b2 b3 : Nat} {k : Nat} {A : Option Addr} {n c : Nat} {L : List Ac} (h : Sb w0 b1 b2 b3 S g M cap top W H s R T (k : Int) A n c L w) (hk : k < R.length) (hrob : IsRobot W H s (k : Int)) :
    Calls Tryz.prog 64 #[.pointer (some ⟨M, k * 3, none⟩), .pointer (some ⟨b1, 0, none⟩), .pointer (some ⟨b2, 0, none⟩), .pointer (some ⟨b3, 0, none⟩)] w fun e w' => ∃ m : Int, e = .returned (.int .i64 m) ∧ StartQ g M S cap top W H s R (startF W H s R (k : Int) L).2 T (startF W H s R (k : Int) L).1 w m w' := by
  have HH := Lib.hid h
  have HDK := Lib.hid (fun wx => dock_any W H s hs (k : Int) wx)
  have HRT := Lib.hid (fun a A n c L wx h => Tr.right_any W H s hs (k : Int) a A n c L wx h)
  have HROB := Lib.hid hrob
  obtain ⟨⟨c1, c2, c3⟩, s0, s1, s2⟩ := h.c
  obtain ⟨_, _, _, _, _, hS⟩ := h.st.cells
  obtain ⟨l1, l2, l3⟩ := h.bx.lt
  clear h hrob
  go_enter Tryz.func64, Tryz.ntmps64
  go_upto_region 1 with (fail)
  go_region_held3 (fun w' => (w'.cell? ⟨b1, 0, none⟩ = some (.pointer (some ⟨S, 0, none⟩)) ∧ w'.cell? ⟨b2, 0, none⟩ = some (.int .i64 (k : Int)) ∧ w'.cell? ⟨b3, 0, none⟩ = some (.slice A n c)) ∧ w'.cell? ⟨S, 0, none⟩ = some (.int .i64 W) ∧ w'.cell? ⟨S, 1, none⟩ = some (.int .i64 H) ∧ w'.cell? ⟨S, 2, none⟩ = some (.string s)) (go_keep)
    ((go_at_call 30; refine (HDK.out _).mono ?_; rintro e w1 ⟨d, b, rfl, h1, _, hb1⟩; have HB1 : Hid (Below w.heap.size w w1) := Lib.hid (by first | exact (Below.refl _ w).drew.trans hb1 | exact hb1); obtain ⟨hf1, hbt⟩ := h1 HROB.out; subst hbt; have HD1 := Lib.hid (dk_is hf1); have HH1 := Lib.hid (HH.out.later HB1.out); obtain ⟨⟨y1, y2, y3⟩, t0, t1, t2⟩ := HH1.out.c; clear h1 hb1 hf1))
  all_goals
    have hS1 := Nat.lt_of_lt_of_le hS HB1.out.size
    have l11 := Nat.lt_of_lt_of_le l1 HB1.out.size
    have l21 := Nat.lt_of_lt_of_le l2 HB1.out.size
    have l31 := Nat.lt_of_lt_of_le l3 HB1.out.size
    clear c1 c2 c3 s0 s1 s2 hS l1 l2 l3
    go_upto_region 2 with (fail)
    go_region_held3 (fun w' => (w'.cell? ⟨b1, 0, none⟩ = some (.pointer (some ⟨S, 0, none⟩)) ∧ w'.cell? ⟨b2, 0, none⟩ = some (.int .i64 (k : Int)) ∧ w'.cell? ⟨b3, 0, none⟩ = some (.slice A n c)) ∧ w'.cell? ⟨S, 0, none⟩ = some (.int .i64 W) ∧ w'.cell? ⟨S, 1, none⟩ = some (.int .i64 H) ∧ w'.cell? ⟨S, 2, none⟩ = some (.string s)) (go_keep)
      ((go_at_call 35; refine (HRT.out (d : Int) A n c L _ (by first | exact HH1.out.al | exact HH1.out.al.later (Below.refl _ _).drew)).mono ?_; rintro e w2 ⟨b, rfl, hbr, hb2⟩; have HB2 : Hid (Below w1.heap.size w1 w2) := Lib.hid (by first | exact (Below.refl _ w1).drew.trans hb2 | exact hb2); have HBR := Lib.hid hbr; have HH2 := Lib.hid (HH1.out.later HB2.out); obtain ⟨⟨z1, z2, z3⟩, u0, u1, u2⟩ := HH2.out.c; clear hb2 hbr))
    all_goals
      have hS2 := Nat.lt_of_lt_of_le hS1 HB2.out.size
      have l12 := Nat.lt_of_lt_of_le l11 HB2.out.size
      have l22 := Nat.lt_of_lt_of_le l21 HB2.out.size
      have l32 := Nat.lt_of_lt_of_le l31 HB2.out.size
      have HB12 := Lib.hid (HB1.out.trans (HB2.out.mono HB1.out.size))
      clear y1 y2 y3 t0 t1 t2 hS1 l11 l21 l31
      cases b with
      | false =>
        have HF : Hid (startF W H s R (k : Int) L = (1, R)) := Lib.hid (by
          unfold startF
          rw [if_pos ⟨by omega, by omega⟩, if_neg]
          rw [HD1.out]
          intro q
          have := HBR.out.2 q
          cases this)
        go_wp2_with fail
        go_ret
        rw [HF.out]
        exact ⟨1, rfl, rfl, HH2.out.st, Fr.of HB12.out⟩
      | true =>
        have HRI := Lib.hid (HBR.out.1 rfl)
        obtain ⟨A5, n5, c5, q0, q1, q2, hL5, hfz, hM⟩ := HH2.out.st.mover hk
        obtain ⟨f0, f1, f2⟩ := hfz
        obtain ⟨hn5, hd1, hd2⟩ := hL5.len
        have HN5 := Lib.hid hn5
        clear hn5 f0 f2 q0 q2 hL5
        by_cases h0 : n5 = 0
        · subst h0
          have HE : Hid ((getM R k).2.1 = []) := Lib.hid (List.eq_nil_of_length_eq_zero HN5.out.symm)
          have HF : Hid (startF W H s R (k : Int) L = (0, R.set k ((getM R k).1, L, (getM R k).2.2))) := Lib.hid (by
            unfold startF
            rw [if_pos ⟨by omega, by omega⟩, if_pos (by rw [HD1.out]; exact HRI.out), Int.toNat_natCast, if_neg (by rw [HE.out]; simp)])
          have HTK := Lib.hid (tasks_any HH2.out.st hs HROB.out.1 A n c L HH2.out.al (by rw [← HH2.out.al.len]; exact right_len HRI.out) (fun a ha => (right_cells HRI.out a ha).1))
          go_wp2_with fail
          refine HTK.out.mono ?_
          rintro e w3 ⟨v, rfl, hv, hb3⟩
          have HV := Lib.hid hv
          have HH3 := Lib.hid (HH2.out.later hb3)
          have HB3 := Lib.hid (HB12.out.trans (hb3.mono HB12.out.size))
          have q13 := (hb3.cell (p := ⟨M, k * 3 + 1, none⟩) hM).trans q1
          have f13 : w3.frozen? ⟨M, k * 3 + 1, none⟩ = false := by
            obtain ⟨_, _, _, _, _, _, _, hfz, _⟩ := HH3.out.st.mover hk
            exact hfz.2.1
          have hM3 := Nat.lt_of_lt_of_le hM hb3.size
          have HVT := Lib.hid (hv.low (Nat.le_trans HH2.out.st.tops.2.2.2 (Nat.le_refl _)))
          obtain ⟨A6, n6, c6, rfl⟩ := hv.form
          clear hv hb3 q1 f1 hM
          go_wp2_with fail
          go_ret
          rw [HF.out]
          exact ⟨0, rfl, rfl, HH3.out.st.putLeft hk HVT.out, (Fr.of HB3.out).put _ _⟩
        · have HNE : Hid ((getM R k).2.1 ≠ []) := Lib.hid (fun q => h0 (by rw [HN5.out, q]; rfl))
          have HF : Hid (startF W H s R (k : Int) L = (3, R)) := Lib.hid (by
            unfold startF
            rw [if_pos ⟨by omega, by omega⟩, if_pos (by rw [HD1.out]; exact HRI.out), Int.toNat_natCast, if_pos HNE.out])
          have hnI : (0 : Int) < (n5 : Int) := by omega
          go_wp2_with fail
          go_ret
          rw [HF.out]
          exact ⟨3, rfl, rfl, HH2.out.st, Fr.of HB12.out⟩
theorem start_any (h : St w S g M cap top W H s R T) (hs : s.size ≤ maxLen) (hR : Right W H s) (hn : R.length = (pick isD (at_ s) s.size).length) (r : Int) (A : Option Addr) (n c : Nat) (L : List Ac) (hA : Al w.heap.size w A n c L) :
    Calls Tryz.prog 32 #[.pointer (some ⟨S, 0, none⟩), .int .i64 r, .slice A n c] w (StartTold S g M cap top W H s R T r L w) := by
  have hX := Bx3.start w S r (.slice A n c)
  have hSb : Sb w w.heap.size (w.heap.size + 1) (w.heap.size + 1 + 1) S g M cap top W H s R T r A n c L (((w.alloc (.cells #[.pointer (some ⟨S, 0, none⟩)] 27)).alloc (.cells #[.int .i64 r] 3)).alloc (.cells #[.slice A n c] 35)) := ⟨h.later hX.below, hX, hA.later hX.below⟩
  obtain ⟨x1, x2, x3⟩ := hSb.bx.lt
  have c1 := hSb.bx.c1
  have c2 := hSb.bx.c2
  have HBX := Lib.hid hX.below
  have HW := Lib.hid (rfl : (((w.alloc (.cells #[.pointer (some ⟨S, 0, none⟩)] 27)).alloc (.cells #[.int .i64 r] 3)).alloc (.cells #[.slice A n c] 35)) = (((w.alloc (.cells #[.pointer (some ⟨S, 0, none⟩)] 27)).alloc (.cells #[.int .i64 r] 3)).alloc (.cells #[.slice A n c] 35)))
  clear hX
  unfold StartTold
  by_cases hr : 0 ≤ r ∧ r < R.length
  · obtain ⟨k, rfl⟩ := Int.eq_ofNat_of_zero_le hr.1
    have hk : k < R.length := by omega
    have HF := Lib.hid (of_inStart hSb.st hk (start1_any hs hSb hk ⟨hR, by omega, by omega⟩))
    clear hSb h hA hr hk hn
    go_enter Tryz.func32, Tryz.ntmps32
    go_wp2_with fail
    refine HF.out.mono ?_
    rintro e w1 ⟨m, rfl, rfl, q1, q2⟩
    have HQ := Lib.hid (And.intro q1 ((Fr.of HBX.out).trans q2))
    clear q1 q2
    go_wp2_with fail
    go_ret
    exact ⟨rfl, HQ.out.1, HQ.out.2⟩
  · have HF := Lib.hid (of_out hSb.st r hr (.func (.func 64) #[] #[.pointer (some ⟨w.heap.size, 0, none⟩), .pointer (some ⟨w.heap.size + 1, 0, none⟩), .pointer (some ⟨w.heap.size + 1 + 1, 0, none⟩)]))
    have HE : Hid (startF W H s R r L = (1, R)) := Lib.hid (by unfold startF; rw [if_neg hr])
    have HS := Lib.hid hSb.st
    clear hSb h hA hn
    go_enter Tryz.func32, Tryz.ntmps32
    go_wp2_with fail
    refine HF.out.mono ?_
    rintro e w1 ⟨rfl, rfl⟩
    go_wp2_with fail
    go_ret
    rw [HE.out]
    exact ⟨rfl, HS.out, Fr.of HBX.out⟩
end
end Tf
end Go.Proofs.YtakgkocdkondhaaGreatDoor
end
