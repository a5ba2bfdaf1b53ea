/-
  The floor of the statements of the whole.
  TopFree: what is planned, taken and given up leaves all as it was; the walk.
-/
import Derived.Test.YtinkpeliinofoaaDoorSpLaw
import Derived.Deep.RegionHeld3
import Derived.BigQuiet
set_option linter.unusedVariables false
set_option maxRecDepth 100000
section
namespace Go.Proofs.YtinkpeliinofoaaDoor
namespace Sp
open Go.RowKit Fl Pt

def f3t : ByteArray := ⟨#[48, 97, 97, 98, 49, 10, 35, 99, 35, 100, 35, 10, 50, 101, 101, 102, 102, 10]⟩
def f3 : ByteArray := ⟨#[48, 97, 97, 98, 49, 35, 99, 35, 100, 35, 50, 101, 101, 102, 102]⟩
theorem rows3 : rowsL f3t.data.toList = [[48, 97, 97, 98, 49], [35, 99, 35, 100, 35], [50, 101, 101, 102, 102]] := by decide
theorem right3 : Right 5 3 f3 := by
  refine ⟨5, 3, rfl, rfl, ⟨by decide, by decide, by decide, by decide, rfl⟩, ⟨by decide, ⟨by decide, by decide, ?_, ?_⟩, ⟨1, [2, 3, 6, 8, 11, 12, 13, 14], by decide, ?_⟩⟩⟩
  · intro r hr
    have h1 : (docks 5 3 (at_ f3)).length = 3 := by decide
    have : r = 0 ∨ r = 1 ∨ r = 2 := by omega
    rcases this with rfl | rfl | rfl <;> decide
  · intro d hd
    have h1 : docks 5 3 (at_ f3) = [0, 4, 10] := by decide
    rw [h1] at hd
    simp only [List.mem_cons, List.not_mem_nil, or_false] at hd
    rcases hd with rfl | rfl | rfl
    · exact ⟨1, by decide, by decide⟩
    · exact ⟨3, by decide, by decide⟩
    · exact ⟨11, by decide, by decide⟩
  · have r1 : Rch 5 3 (at_ f3) 1 1 := Rch.refl _ _ _ 1
    have r2 := r1.step (c := 2) (by decide) (by decide)
    have r3 := r2.step (c := 3) (by decide) (by decide)
    have r6 := r1.step (c := 6) (by decide) (by decide)
    have r8 := r3.step (c := 8) (by decide) (by decide)
    have r11 := r6.step (c := 11) (by decide) (by decide)
    have r12 := r11.step (c := 12) (by decide) (by decide)
    have r13 := r12.step (c := 13) (by decide) (by decide)
    have r14 := r13.step (c := 14) (by decide) (by decide)
    intro l hl
    simp only [List.mem_cons, List.not_mem_nil, or_false] at hl
    rcases hl with rfl | rfl | rfl | rfl | rfl | rfl | rfl | rfl | rfl <;> assumption
theorem out3 {W H : Int} {c : ByteArray} {row : Nat} {err : Int} (h : POut (rowsL f3t.data.toList) W H c row err) : W = 5 ∧ H = 3 ∧ c = f3 ∧ row = 0 ∧ err = 0 := by
  rw [rows3] at h
  refine POut.one h (.inr (.inl ⟨?_, right3, rfl, rfl, rfl, rfl, rfl⟩))
  intro j hj
  have : j = 0 ∨ j = 1 ∨ j = 2 := by simp at hj; omega
  rcases this with rfl | rfl | rfl <;> decide
theorem out_yes {R : List (List UInt8)} {W H : Int} {c : ByteArray} {row : Nat} {err : Int} (h : POut R W H c row err) : (err = 0 ∧ 0 < c.size ∧ c.size ≤ 256) ∨ err = 30 := by
  rcases h with ⟨_, _, _, _, _, _, e⟩ | ⟨_, ⟨a, b, _, _, hS, _⟩, _, _, rfl, _, e⟩ | ⟨_, _, _, _, _, _, e⟩
  · exact .inr e
  · exact .inl ⟨e, by rw [hS.sz]; exact hS.pos, hS.le⟩
  · exact .inr e
/-- A floor's box. -/
def Bf (D : Nat) (W H : Int) (c : ByteArray) (w : World) : Prop := w.heap[D]? = some (.cells #[.int .i64 W, .int .i64 H, .string c] 23 (0, 0))
theorem Bf.cells {D : Nat} {W H : Int} {c : ByteArray} {w : World} (h : Bf D W H c w) : w.cell? ⟨D, 0, none⟩ = some (.int .i64 W) ∧ w.cell? ⟨D, 1, none⟩ = some (.int .i64 H) ∧ w.cell? ⟨D, 2, none⟩ = some (.string c) ∧ w.frozen? ⟨D, 0, none⟩ = false ∧ w.frozen? ⟨D, 1, none⟩ = false ∧ w.frozen? ⟨D, 2, none⟩ = false ∧ D < w.heap.size :=
  ⟨by rw [cell_of_row w D 0 _ _ _ h]; rfl, by rw [cell_of_row w D 1 _ _ _ h]; rfl, by rw [cell_of_row w D 2 _ _ _ h]; rfl, frozen_of_row w D 0 _ _ h, frozen_of_row w D 1 _ _ h, frozen_of_row w D 2 _ _ h, lt_of_heap h⟩
theorem Bf.new (w : World) (W H : Int) (c : ByteArray) : Bf w.heap.size W H c (w.alloc (.cells #[.int .i64 W, .int .i64 H, .string c] 23)) := heap_alloc_new w _
theorem Bf.later {D : Nat} {W H : Int} {c : ByteArray} {w w' : World} (h : Bf D W H c w) (hb : Below w.heap.size w w') : Bf D W H c w' := (hb.block D (lt_of_heap h)).trans h
def putF (D : Nat) (W H : Int) (c : ByteArray) (w : World) : World := ((w.setCell ⟨D, 0, none⟩ (.int .i64 W)).setCell ⟨D, 1, none⟩ (.int .i64 H)).setCell ⟨D, 2, none⟩ (.string c)
theorem Bf.put {D : Nat} {W H : Int} {c : ByteArray} {w : World} (h : Bf D W H c w) (W' H' : Int) (c' : ByteArray) : Bf D W' H' c' (putF D W' H' c' w) := by
  have h1 := heap_setCell_same w D 0 _ _ (.int .i64 W') h
  have h2 := heap_setCell_same _ D 1 _ _ (.int .i64 H') h1
  have h3 := heap_setCell_same _ D 2 _ _ (.string c') h2
  unfold Bf putF
  rw [h3]
  simp
theorem below_putF {B D : Nat} {w w' : World} (h : Below B w w') (hD : B ≤ D) (W H : Int) (c : ByteArray) : Below B w (putF D W H c w') := ((h.setCell (p := ⟨D, 0, none⟩) hD _).setCell (p := ⟨D, 1, none⟩) hD _).setCell (p := ⟨D, 2, none⟩) hD _
theorem Bf.aside {D E : Nat} {W H : Int} {c : ByteArray} {w : World} (h : Bf D W H c w) (hne : D ≠ E) (W' H' : Int) (c' : ByteArray) : Bf D W H c (putF E W' H' c' w) := by
  unfold Bf putF at *
  rw [Below.heap_setCell _ _ _ _ (by exact hne), Below.heap_setCell _ _ _ _ (by exact hne), Below.heap_setCell _ _ _ _ (by exact hne)]
  exact h
set_option maxRecDepth 100000 in
set_option maxHeartbeats 2000000 in
theorem floors_any (s : ByteArray) (hs : s.size ≤ maxLen) (w : World) : Calls Tryd.prog 13 #[.string s] w fun e w' => ∃ W H c, e = .returned (.tuple #[.agg #[.int .i64 W, .int .i64 H, .string c], .bool true]) ∧ c.size ≤ 256 ∧ Below w.heap.size w w' := by
  have HP3 : Hid (∀ wx, Calls Tryd.prog 16 #[.string ⟨#[48, 97, 97, 98, 49, 10, 35, 99, 35, 100, 35, 10, 50, 101, 101, 102, 102, 10]⟩] wx (PTold (rowsL f3t.data.toList) wx)) := Lib.hid (fun wx => parse_any f3t (by decide) wx)
  have HP1 := Lib.hid (fun wx => parse_any (s.extract 0 (min (s.size : Int) 60).toNat) (by rw [ByteArray.size_extract]; omega) wx)
  have HB0 := Lib.hid (Bf.new w 0 0 ⟨#[]⟩)
  have HA0 := Lib.hid ((Below.refl w.heap.size w).alloc (Nat.le_refl _) (.cells #[.int .i64 0, .int .i64 0, .string ⟨#[]⟩] 23))
  go_enter Tryd.func13, Tryd.ntmps13
  go_wp2_with fail
  refine (HP1.out _).mono ?_
  rintro e w1 ⟨W, H, c, row, err, rfl, ho, hb⟩
  have HB1 := Lib.hid (HB0.out.later hb)
  have HA1 := Lib.hid (HA0.out.trans (hb.mono HA0.out.size))
  have HC1 := Lib.hid (Bf.new w1 W H c)
  have hba := (Below.refl w1.heap.size w1).alloc (Nat.le_refl _) (.cells #[.int .i64 W, .int .i64 H, .string c] 23)
  have HB2 := Lib.hid (HB1.out.later hba)
  have HA2 := Lib.hid (HA1.out.trans (hba.mono HA1.out.size))
  have HNE : Hid (w.heap.size ≠ w1.heap.size) := Lib.hid (by have := lt_of_heap HB1.out; omega)
  have HLE := Lib.hid HA1.out.size
  rcases out_yes ho with ⟨rfl, hc0, hc1⟩ | rfl
  · clear ho hb hba
    have hcI : decide ((0 : Int) < (c.size : Int)) = true := decide_eq_true (by omega)
    have hcN : decide (0 < c.size) = true := decide_eq_true hc0
    go_upto_if 18 with (fail)
    generalize w1.alloc (.cells #[.int .i64 W, .int .i64 H, .string c] 23) = w2 at *
    obtain ⟨b0, b1, b2, bf0, bf1, bf2, _⟩ := HB2.out.cells
    obtain ⟨d0, d1, d2, _, _, _, _⟩ := HC1.out.cells
    go_wp2_with fail
    have hne := HNE.out
    have hne2 := hne.symm
    go_region_held3 (fun w' => w'.cell? ⟨w1.heap.size, 0, none⟩ = some (.int .i64 W) ∧ w'.cell? ⟨w1.heap.size, 1, none⟩ = some (.int .i64 H) ∧ w'.cell? ⟨w1.heap.size, 2, none⟩ = some (.string c)) (go_keep) (fail)
    have HBF : Hid (Bf w.heap.size W H c (putF w.heap.size W H c w2)) := Lib.hid (HB2.out.put W H c)
    have HAF : Hid (Below w.heap.size w (putF w.heap.size W H c w2).drew) := Lib.hid (below_putF HA2.out (Nat.le_refl _) W H c).drew
    change Exit.then _ _ _ _ (putF w.heap.size W H c w2).drew
    have HBD : Hid (Bf w.heap.size W H c (putF w.heap.size W H c w2).drew) := Lib.hid HBF.out
    clear HBF b0 b1 b2 bf0 bf1 bf2
    generalize (putF w.heap.size W H c w2).drew = wz at *
    obtain ⟨z0, z1, z2, _⟩ := HBD.out.cells
    go_wp2_with fail
    exact bodyPost_ret (v := .tuple #[.agg #[.int .i64 W, .int .i64 H, .string c], .bool true]) (by simp [results, Tryd.results13, go_sem, z0, z1, z2]) rfl ⟨W, H, c, rfl, hc1, HAF.out⟩
  · clear ho hb hba
    go_upto_if 18 with (fail)
    generalize w1.alloc (.cells #[.int .i64 W, .int .i64 H, .string c] 23) = w2 at *
    go_wp2_with fail
    refine (HP3.out _).mono ?_
    rintro e w3 ⟨W3, H3, c3, row3, err3, rfl, ho3, hb3⟩
    obtain ⟨rfl, rfl, rfl, rfl, rfl⟩ := out3 ho3
    have HB3 := Lib.hid (HB2.out.later hb3)
    have HC3 := Lib.hid (HC1.out.later hb3)
    have HA3 := Lib.hid (HA2.out.trans (hb3.mono HA2.out.size))
    clear ho3 hb3
    obtain ⟨p0, p1, p2, pf0, pf1, pf2, _⟩ := HC3.out.cells
    have HC4 := Lib.hid (HC3.out.put 5 3 f3)
    have HB4 := Lib.hid (HB3.out.aside HNE.out 5 3 f3)
    have HA4 := Lib.hid (below_putF HA3.out HLE.out 5 3 f3)
    have hcI : decide ((0 : Int) < (f3.size : Int)) = true := by decide
    have hcN : decide (0 < f3.size) = true := by decide
    have hcL : f3.size ≤ 256 := by decide
    generalize f3 = ff at *
    go_wp2_with fail
    rw [show (((w3.setCell ⟨w1.heap.size, 0, none⟩ (.int .i64 5)).setCell ⟨w1.heap.size, 1, none⟩ (.int .i64 3)).setCell ⟨w1.heap.size, 2, none⟩ (.string ff)) = putF w1.heap.size 5 3 ff w3 from rfl]
    clear p0 p1 p2 pf0 pf1 pf2
    generalize putF w1.heap.size 5 3 ff w3 = w4 at *
    obtain ⟨b0, b1, b2, bf0, bf1, bf2, _⟩ := HB4.out.cells
    obtain ⟨d0, d1, d2, _, _, _, _⟩ := HC4.out.cells
    have hne := HNE.out
    have hne2 := hne.symm
    go_region_held3 (fun w' => w'.cell? ⟨w1.heap.size, 0, none⟩ = some (.int .i64 5) ∧ w'.cell? ⟨w1.heap.size, 1, none⟩ = some (.int .i64 3) ∧ w'.cell? ⟨w1.heap.size, 2, none⟩ = some (.string ff)) (go_keep) (fail)
    have HBF : Hid (Bf w.heap.size 5 3 ff (putF w.heap.size 5 3 ff w4)) := Lib.hid (HB4.out.put 5 3 ff)
    have HAF : Hid (Below w.heap.size w (putF w.heap.size 5 3 ff w4).drew) := Lib.hid (below_putF HA4.out (Nat.le_refl _) 5 3 ff).drew
    change Exit.then _ _ _ _ (putF w.heap.size 5 3 ff w4).drew
    have HBD : Hid (Bf w.heap.size 5 3 ff (putF w.heap.size 5 3 ff w4).drew) := Lib.hid HBF.out
    clear HBF b0 b1 b2 bf0 bf1 bf2
    generalize (putF w.heap.size 5 3 ff w4).drew = wz at *
    obtain ⟨z0, z1, z2, _⟩ := HBD.out.cells
    go_wp2_with fail
    exact bodyPost_ret (v := .tuple #[.agg #[.int .i64 5, .int .i64 3, .string ff], .bool true]) (by simp [results, Tryd.results13, go_sem, z0, z1, z2]) rfl ⟨5, 3, ff, rfl, hcL, HAF.out⟩
end Sp
end Go.Proofs.YtinkpeliinofoaaDoor
end

section
namespace Go.Proofs.YtinkpeliinofoaaDoor
namespace Sp
open Go.RowKit Fl Pt
open Wn (Tab TF frees isT Ordw IW Wt wcl plc Rising upd tk dr insAt)

theorem WyT.here {e : Env} {c : Nat} {m : Int} : ∀ {L : List (Int × Int)}, WyT e c m L → In (e.O c) m
  | [], h => h
  | _ :: _, ⟨k, h, _⟩ => ⟨k, h⟩
theorem WyT.pw {e : Env} (hE : e.Ok) : ∀ {L : List (Int × Int)} {c : Nat} {m : Int}, c < e.N → WyT e c m L → (∀ q ∈ L, m < q.2 ∧ ∃ d : Nat, d < e.N ∧ q.1 = (d : Int) ∧ In (e.O d) q.2) ∧ L.Pairwise fun p q => p.2 < q.2
  | [], _, _, _, _ => ⟨fun q hq => (by cases hq), .nil⟩
  | q :: r, c, m, hc, ⟨k, h1, h2, h3, h4, d, h5, h6, h7⟩ => by
    have hd := hE.nrlt c hc d h6
    obtain ⟨i1, i2⟩ := h7.pw hE hd
    refine ⟨fun x hx => ?_, .cons (fun x hx => (i1 x hx).1) i2⟩
    rcases List.mem_cons.1 hx with rfl | hx
    · exact ⟨h2, d, hd, h5, h7.here⟩
    · obtain ⟨j1, j2⟩ := i1 x hx
      exact ⟨by omega, j2⟩
theorem bk_len (e : Env) (cn : Int → Nat → Bool) : ∀ n c, (e.bk cn n c).length ≤ n
  | 0, c => Nat.le_refl _
  | n + 1, c => by
    rw [Env.bk]
    split
    · exact Nat.zero_le _
    · split
      · rw [List.length_append]
        exact Nat.succ_le_succ (bk_len e cn n _)
      · exact Nat.le_succ_of_le (bk_len e cn n _)
theorem getDp_mem {L : List (Int × Int)} {i : Nat} (h : i < L.length) : L.getD i (0, 0) ∈ L := by
  rw [List.getD, List.getElem?_eq_getElem h]
  exact List.getElem_mem h
/-- What is asked of steps that are taken. -/
structure Pf (P : List (Int × Int)) : Prop where
  few : P.length ≤ 40
  ok : ∀ q ∈ P, IW q.1 ∧ 0 ≤ q.2 ∧ q.2 + 1 ≤ 1048576
  pw : P.Pairwise fun p q => p.2 < q.2
theorem Pf.nil : Pf [] := ⟨by simp, fun q hq => (by cases hq), .nil⟩
theorem pf_of {W H : Int} {s : ByteArray} (hz : s.size ≤ 256) {fr st tz : Int} {T : Int → List (Int × Int)} {P : List (Int × Int)} {er : Int} (ho : ∀ y, Ordw 0 (T y)) (hs : ∀ y, (T y).length ≤ 2000) (hP : PlanIs W H s fr st tz 40 T P er) : Pf P := by
  rcases hP with ⟨_, rfl, _⟩ | ⟨h1, h2, ⟨rfl, _, _⟩ | ⟨_, N, cn, h3, h4, h5, h6⟩⟩
  · exact .nil
  · exact .nil
  · have hE := envOk h1.1 ho hs
    have h0 := h1.1.2.1
    have hr : (envOf W.toNat H.toNat fr.toNat s st T).R (st + N) tz.toNat := by
      rcases h4 with ⟨r, _, h⟩ | ⟨h, _⟩
      · exact r
      · omega
    obtain ⟨m, w, hm, j, j1, _⟩ := h5.way N tz.toNat (by show st + (N : Int) ≤ _; omega) hr
    have hw := w.wyT ⟨j, j1⟩
    rw [← h6] at hw
    obtain ⟨k1, k2⟩ := hw.pw hE hE.alt
    refine ⟨?_, fun q hq => ?_, k2⟩
    · rw [h6]
      have := bk_len (envOf W.toNat H.toNat fr.toNat s st T) cn N tz.toNat
      simp only [castS, List.length_map]
      omega
    · obtain ⟨g1, d, g2, g3, g4⟩ := k1 q hq
      have g1 : st < q.2 := g1
      have g2 : d < s.size := g2
      have g4 : In (opn (d == fr.toNat) st (frees (T (d : Int)))) q.2 := g4
      rw [opn_in g1, in_frees (ho _), Wn.isT_in (ho _)] at g4
      simp only [Bool.and_eq_true, decide_eq_true_eq] at g4
      refine ⟨?_, by omega, by omega⟩
      rw [g3]
      unfold IW
      omega
theorem plan_uniq {W H : Int} {s : ByteArray} {c t0 tz ah : Int} {T : Int → List (Int × Int)} {P P' : List (Int × Int)} {er er' : Int} (h : PlanIs W H s c t0 tz ah T P er) (k : PlanIs W H s c t0 tz ah T P' er') : er = er' ∧ P = P' := by
  rcases h with ⟨hn, rfl, rfl⟩ | ⟨h1, h2, h3⟩
  · rcases k with ⟨_, rfl, rfl⟩ | ⟨k1, k2, _⟩
    · exact ⟨rfl, rfl⟩
    · exact absurd ⟨k1, k2⟩ hn
  · rcases k with ⟨hn, _, _⟩ | ⟨_, _, k3⟩
    · exact absurd ⟨h1, h2⟩ hn
    · have h0 : (0 : Int) ≤ (envOf W.toNat H.toNat c.toNat s t0 T).t0 := h1.1.2.1
      have h00 := h1.1.2.1
      rcases h3 with ⟨rfl, rfl, a3⟩ | ⟨rfl, N, cn, a3, a4, a5, a6⟩
      · rcases k3 with ⟨rfl, rfl, _⟩ | ⟨rfl, N', cn', b3, b4, b5, b6⟩
        · exact ⟨rfl, rfl⟩
        · have := a3.uniq h0 b4
          omega
      · rcases k3 with ⟨rfl, rfl, b3⟩ | ⟨rfl, N', cn', b3, b4, b5, b6⟩
        · have := a4.uniq h0 b3
          omega
        · have hN := a4.uniq h0 b4
          obtain rfl : N = N' := by omega
          obtain ⟨_, _, k, _, _, e, hk, _⟩ := onFloor_some h2
          subst e
          rw [Int.toNat_natCast] at a6 b6
          rw [a5.bk_ly (c := k) hk (by show t0 + (N : Int) ≤ _; omega)] at a6
          rw [b5.bk_ly (c := k) hk (by show t0 + (N : Int) ≤ _; omega)] at b6
          exact ⟨rfl, by rw [a6, b6]⟩
/-- What is taken: the windows of so many steps. -/
def Tof (P : List (Int × Int)) : Int → List (Int × Int) := fun y => P.filterMap fun q => if q.1 = y then some (q.2, q.2 + 1) else none
theorem tof_nil : Tof [] = T0 := rfl
theorem tof_mem {P : List (Int × Int)} {y : Int} {p : Int × Int} (h : p ∈ Tof P y) : ∃ q ∈ P, q.1 = y ∧ p = (q.2, q.2 + 1) := by
  unfold Tof at h
  rw [List.mem_filterMap] at h
  obtain ⟨q, hq, e⟩ := h
  split at e
  · rename_i hy
    injection e with e
    exact ⟨q, hq, hy, e.symm⟩
  · cases e
theorem tof_len (P : List (Int × Int)) (y : Int) : (Tof P y).length ≤ P.length := List.length_filterMap_le _ _
theorem tk_end {L : List (Int × Int)} {t : Int} (h0 : 0 ≤ t) (h1 : t + 1 ≤ 1048576) (hl : L.length < 4096) (h : ∀ p ∈ L, p.2 ≤ t) : tk L t (t + 1) = (0, L ++ [(t, t + 1)]) := by
  have hp : plc L t = L.length := Wn.plc_eq L t _ (Nat.le_refl _) (fun i hi => h _ (getDp_mem hi)) (fun hk => absurd hk (Nat.lt_irrefl _))
  have hr : Wn.rgt t (t + 1) = true := by unfold Wn.rgt; simp [h0, h1]; omega
  unfold tk
  rw [if_neg (by rw [hr]; decide), if_neg (by rw [hp]; exact fun hh => absurd hh.1 (Nat.lt_irrefl _)), if_neg (by omega), hp]
  unfold insAt
  rw [List.take_length, List.drop_length, List.append_nil]
theorem dr_head (r : List (Int × Int)) (t : Int) : dr ((t, t + 1) :: r) t (t + 1) = (0, r) := by
  have hp : plc ((t, t + 1) :: r) t = 0 := Wn.plc_eq _ t 0 (Nat.zero_le _) (fun i hi => by omega) (fun _ => by show t < t + 1; omega)
  unfold dr
  rw [hp, if_pos ⟨by simp, rfl⟩]
  rfl
theorem Pf.take {P : List (Int × Int)} (h : Pf P) {j : Nat} (hj : j < P.length) : tk (Tof (P.take j) (P.getD j (0, 0)).1) (P.getD j (0, 0)).2 ((P.getD j (0, 0)).2 + 1) = (0, Tof (P.take j) (P.getD j (0, 0)).1 ++ [((P.getD j (0, 0)).2, (P.getD j (0, 0)).2 + 1)]) ∧
    upd (Tof (P.take j)) (P.getD j (0, 0)).1 (Tof (P.take j) (P.getD j (0, 0)).1 ++ [((P.getD j (0, 0)).2, (P.getD j (0, 0)).2 + 1)]) = Tof (P.take (j + 1)) := by
  have hq := h.ok _ (getDp_mem hj)
  refine ⟨tk_end hq.2.1 hq.2.2 ?_ fun p hp => ?_, ?_⟩
  · have := tof_len (P.take j) (P.getD j (0, 0)).1
    have := h.few
    rw [List.length_take] at *
    omega
  · obtain ⟨q, hq, _, rfl⟩ := tof_mem hp
    have hs : P = P.take j ++ P.drop j := (List.take_append_drop j P).symm
    have hpw := h.pw
    rw [hs, List.pairwise_append] at hpw
    have := hpw.2.2 q hq (P.getD j (0, 0)) (by rw [drop_get hj]; exact List.mem_cons_self)
    show q.2 + 1 ≤ _
    omega
  · have hs : P.take (j + 1) = P.take j ++ [P.getD j (0, 0)] := Wn.take_snoc P j hj
    rw [hs]
    funext y
    unfold Tof
    rw [List.filterMap_append]
    by_cases e : y = (P.getD j (0, 0)).1
    · subst e
      rw [Wn.upd_same]
      simp
    · rw [Wn.upd_other _ _ e, List.filterMap_cons, if_neg (Ne.symm e)]
      simp
theorem Pf.drop {P : List (Int × Int)} (h : Pf P) {j : Nat} (hj : j < P.length) : (dr (Tof (P.drop j) (P.getD j (0, 0)).1) (P.getD j (0, 0)).2 ((P.getD j (0, 0)).2 + 1)).1 = 0 ∧
    upd (Tof (P.drop j)) (P.getD j (0, 0)).1 (dr (Tof (P.drop j) (P.getD j (0, 0)).1) (P.getD j (0, 0)).2 ((P.getD j (0, 0)).2 + 1)).2 = Tof (P.drop (j + 1)) := by
  rw [drop_get hj]
  have e : Tof (P.getD j (0, 0) :: P.drop (j + 1)) (P.getD j (0, 0)).1 = ((P.getD j (0, 0)).2, (P.getD j (0, 0)).2 + 1) :: Tof (P.drop (j + 1)) (P.getD j (0, 0)).1 := by
    unfold Tof
    rw [List.filterMap_cons]
    simp
  rw [e, dr_head]
  refine ⟨rfl, ?_⟩
  funext y
  by_cases hy : y = (P.getD j (0, 0)).1
  · subst hy
    rw [Wn.upd_same]
  · rw [Wn.upd_other _ _ hy]
    unfold Tof
    rw [List.filterMap_cons, if_neg (Ne.symm hy)]
theorem first_take : tk (T0 0) 5 6 = (0, [(5, 6)]) := by decide
theorem first_drop : (dr (upd T0 0 [(5, 6)] 0) 5 6).1 = 0 ∧ upd (upd T0 0 [(5, 6)]) 0 (dr (upd T0 0 [(5, 6)] 0) 5 6).2 = T0 := by
  have e : dr (upd T0 0 [(5, 6)] 0) 5 6 = (0, []) := by decide
  rw [e]
  refine ⟨rfl, ?_⟩
  funext y
  by_cases hy : y = 0
  · subst hy; rfl
  · rw [Wn.upd_other _ _ hy, Wn.upd_other _ _ hy]
/-- A want's box. -/
def Bw7 (D : Nat) (x y z : Int) (w : World) : Prop := w.heap[D]? = some (.cells #[.int .i64 x, .int .i64 y, .int .i64 z] 47 (0, 0))
theorem Bw7.cells {D : Nat} {x y z : Int} {w : World} (h : Bw7 D x y z w) : w.cell? ⟨D, 0, none⟩ = some (.int .i64 x) ∧ w.cell? ⟨D, 1, none⟩ = some (.int .i64 y) ∧ w.cell? ⟨D, 2, none⟩ = some (.int .i64 z) ∧ D < w.heap.size :=
  ⟨by rw [cell_of_row w D 0 _ _ _ h]; rfl, by rw [cell_of_row w D 1 _ _ _ h]; rfl, by rw [cell_of_row w D 2 _ _ _ h]; rfl, lt_of_heap h⟩
theorem Bw7.new (w : World) (x y z : Int) : Bw7 w.heap.size x y z (w.alloc (.cells #[.int .i64 x, .int .i64 y, .int .i64 z] 47)) := heap_alloc_new w _
theorem Bw7.later {D : Nat} {x y z : Int} {w w' : World} (h : Bw7 D x y z w) (hb : Below w.heap.size w w') : Bw7 D x y z w' := (hb.block D (lt_of_heap h)).trans h
theorem Bw7.kept {D : Nat} {x y z : Int} {w w' : World} (h : Bw7 D x y z w) (hk : KeptTb w w') : Bw7 D x y z w' := hk D _ h (notT_cells (by decide) (by decide))
theorem Bf.kept {D : Nat} {W H : Int} {c : ByteArray} {w w' : World} (h : Bf D W H c w) (hk : KeptTb w w') : Bf D W H c w' := hk D _ h (notT_cells (by decide) (by decide))
theorem Sow.kept {w w' : World} {base : Nat} {v : Value} {L : List (Int × Int)} (h : Sow w base v L) (hk : KeptTb w w') : Sow w' base v L := by
  refine ownsRow_same h (fun k hk2 => ?_)
  obtain ⟨c, fz, hc⟩ := row_kind h k hk2
  rw [hc]
  exact hk k _ hc (notT_cells (by decide) (by decide))
/-- The boxes, and all that was there before. -/
structure Tp (w : World) (Da Db : Nat) (a0 a1 a2 b0 b1 b2 : Int) (w' : World) : Prop where
  ba : Bw7 Da a0 a1 a2 w'
  bb : Bw7 Db b0 b1 b2 w'
  below : Below w.heap.size w w'
theorem Tp.after {w w1 w2 : World} {Da Db : Nat} {a0 a1 a2 b0 b1 b2 : Int} (h : Tp w Da Db a0 a1 a2 b0 b1 b2 w1) (hb : Below w1.heap.size w1 w2) : Tp w Da Db a0 a1 a2 b0 b1 b2 w2 :=
  ⟨h.ba.later hb, h.bb.later hb, h.below.trans (hb.mono h.below.size)⟩
theorem Tp.start (w : World) (a0 a1 a2 b0 b1 b2 : Int) : Tp w w.heap.size (w.heap.size + 1) a0 a1 a2 b0 b1 b2 ((w.alloc (.cells #[.int .i64 a0, .int .i64 a1, .int .i64 a2] 47)).alloc (.cells #[.int .i64 b0, .int .i64 b1, .int .i64 b2] 47)) := by
  have h1 := (Below.refl w.heap.size w).alloc (Nat.le_refl _) (.cells #[.int .i64 a0, .int .i64 a1, .int .i64 a2] 47)
  have h2 := (Below.refl _ (w.alloc (.cells #[.int .i64 a0, .int .i64 a1, .int .i64 a2] 47))).alloc (Nat.le_refl _) (.cells #[.int .i64 b0, .int .i64 b1, .int .i64 b2] 47)
  have hn := Bw7.new (w.alloc (.cells #[.int .i64 a0, .int .i64 a1, .int .i64 a2] 47)) b0 b1 b2
  rw [alloc_size] at hn
  exact ⟨(Bw7.new w a0 a1 a2).later h2, hn, h1.trans (h2.mono h1.size)⟩
structure Zt (w : World) (Da Db : Nat) (a0 a1 a2 b0 b1 b2 : Int) (D : Nat) (W H : Int) (s : ByteArray) (tb N : Nat) (T : Int → List (Int × Int)) (w' : World) : Prop where
  tp : Tp w Da Db a0 a1 a2 b0 b1 b2 w'
  bf : Bf D W H s w'
  tk : ∃ tN mv tg, Tk w' tb tb tN mv T tg ∧ tN ≤ N
  lo : w.heap.size ≤ tb
theorem Zt.later {w w1 w2 : World} {Da Db : Nat} {a0 a1 a2 b0 b1 b2 : Int} {D : Nat} {W H : Int} {s : ByteArray} {tb N : Nat} {T : Int → List (Int × Int)} (h : Zt w Da Db a0 a1 a2 b0 b1 b2 D W H s tb N T w1) (hb : Below w1.heap.size w1 w2) : Zt w Da Db a0 a1 a2 b0 b1 b2 D W H s tb N T w2 := by
  obtain ⟨tN, mv, tg, h1, h2⟩ := h.tk
  exact ⟨h.tp.after hb, h.bf.later hb, ⟨tN, mv, tg, h1.later hb, h2⟩, h.lo⟩
theorem Zt.acted {w w1 w2 : World} {Da Db : Nat} {a0 a1 a2 b0 b1 b2 : Int} {D : Nat} {W H : Int} {s : ByteArray} {tb N tN : Nat} {mv : Option Nat} {tg : Int → Nat} {T T' : Int → List (Int × Int)} (h : Zt w Da Db a0 a1 a2 b0 b1 b2 D W H s tb N T w1) (hN : N < 1990) (h1 : Tk w1 tb tb tN mv T tg) (h2 : tN ≤ N) (ho : ∀ y, Ordw 0 (T' y)) (ha : Wn.Acted tb tb tN mv T tg T' w1 w2) : Zt w Da Db a0 a1 a2 b0 b1 b2 D W H s tb (N + 1) T' w2 ∧ KeptTb w1 w2 := by
  obtain ⟨mv', gb', ht, hu⟩ := ha
  have hk := Tab.kept h1.tab hu
  have hlo := h.lo
  have hB : Below w.heap.size w1 w2 := hu.below _ h.tp.below.size (fun k hk => Nat.le_trans hlo (h1.tab.foot k hk).1)
  exact ⟨⟨⟨h.tp.ba.kept hk, h.tp.bb.kept hk, h.tp.below.trans hB⟩, h.bf.kept hk, ⟨tN + 1, mv', gb', ⟨ht, ho, by omega⟩, by omega⟩, hlo⟩, hk⟩
theorem Zt.take {w w1 : World} {Da Db : Nat} {a0 a1 a2 b0 b1 b2 : Int} {D : Nat} {W H : Int} {s : ByteArray} {tb N : Nat} {T T' : Int → List (Int × Int)} (h : Zt w Da Db a0 a1 a2 b0 b1 b2 D W H s tb N T w1) (hN : N < 1990) {x a b : Int} (hx : IW x) {L : List (Int × Int)} (e1 : Wn.tk (T x) a b = (0, L)) (e2 : upd T x L = T') :
    Calls Tryd.prog 10 #[.pointer (some ⟨tb, 0, none⟩), .int .i64 x, .agg #[.int .i64 a, .int .i64 b]] w1 fun e w2 => e = .returned (.int .i64 0) ∧ Zt w Da Db a0 a1 a2 b0 b1 b2 D W H s tb (N + 1) T' w2 ∧ KeptTb w1 w2 := by
  obtain ⟨tN, mv, tg, h1, h2⟩ := h.tk
  refine (Wn.take_any tb tb tN mv T tg x a b w1 h1.tab hx (by omega) (h1.ord x)).mono ?_
  rintro e w2 ⟨rfl, ha⟩
  have ho : ∀ y, Ordw 0 (upd T x (Wn.tk (T x) a b).2 y) := fun y => Wn.upd_ord h1.ord (Wn.tk_ord (a := a) (b := b) (h1.ord x)) y
  rw [e1, e2] at ha ho
  rw [e1]
  exact ⟨rfl, h.acted hN h1 h2 ho ha⟩
theorem Zt.drop {w w1 : World} {Da Db : Nat} {a0 a1 a2 b0 b1 b2 : Int} {D : Nat} {W H : Int} {s : ByteArray} {tb N : Nat} {T T' : Int → List (Int × Int)} (h : Zt w Da Db a0 a1 a2 b0 b1 b2 D W H s tb N T w1) (hN : N < 1990) {x a b : Int} (hx : IW x) (e1 : (dr (T x) a b).1 = 0) (e2 : upd T x (dr (T x) a b).2 = T') :
    Calls Tryd.prog 15 #[.pointer (some ⟨tb, 0, none⟩), .int .i64 x, .agg #[.int .i64 a, .int .i64 b]] w1 fun e w2 => e = .returned (.int .i64 0) ∧ Zt w Da Db a0 a1 a2 b0 b1 b2 D W H s tb (N + 1) T' w2 ∧ KeptTb w1 w2 := by
  obtain ⟨tN, mv, tg, h1, h2⟩ := h.tk
  refine (Wn.drop_any tb tb tN mv T tg x a b w1 h1.tab hx (by omega) (h1.ord x)).mono ?_
  rintro e w2 ⟨rfl, ha⟩
  have ho : ∀ y, Ordw 0 (upd T x (dr (T x) a b).2 y) := fun y => Wn.upd_ord h1.ord (Wn.dr_ord (a := a) (b := b) (h1.ord x)) y
  rw [e2] at ha ho
  rw [e1]
  exact ⟨rfl, h.acted hN h1 h2 ho ha⟩
end Sp
end Go.Proofs.YtinkpeliinofoaaDoor
namespace Go.Proofs.YtinkpeliinofoaaDoor
open Go.RowKit Fl Pt
open Sp
open Wn (Tab TF frees isT Ordw IW Wt wcl plc Rising RT Rt R3 tkn rtk upd)

theorem wt_at {B : Nat} {w : World} {A : Option Addr} {n cap : Nat} {L : List (Int × Int)} (h : Wt B w A n cap L) {k : Nat} (hk : k < n) : ∃ g off, A = some ⟨g, off, none⟩ ∧ w.cell? ⟨g, off + k * 2, none⟩ = some (.int .i64 (L.getD k (0, 0)).1) ∧ w.cell? ⟨g, off + k * 2 + 1, none⟩ = some (.int .i64 (L.getD k (0, 0)).2) := by
  obtain ⟨g, off, e, hg, hc⟩ := h.cell (by omega)
  exact ⟨g, off, e, hc k hk⟩
set_option maxHeartbeats 8000000 in
theorem topFree_walk (t : ByteArray) (ht : t.size ≤ maxLen) (a0 a1 a2 b0 b1 b2 : Int) (w : World) :
    Calls Tryd.prog 5 #[.string t, .agg #[.int .i64 a0, .int .i64 a1, .int .i64 a2], .agg #[.int .i64 b0, .int .i64 b1, .int .i64 b2]] w fun e w' => e = .returned (.bool true) ∧ Below w.heap.size w w' := by
  have HFL := Lib.hid (fun wx => floors_any t ht wx)
  have HT0 := Lib.hid (Tp.start w a0 a1 a2 b0 b1 b2)
  clear ht
  go_enter Tryd.func5, Tryd.ntmps5
  go_wp2_with fail
  refine (HFL.out _).mono ?_
  rintro e w1 ⟨W, H, c, rfl, hc, hb1⟩
  have HT1 := Lib.hid (HT0.out.after hb1)
  have HCZ := Lib.hid hc
  have hba := (Below.refl w1.heap.size w1).alloc (Nat.le_refl _) (.cells #[.int .i64 W, .int .i64 H, .string c] 23)
  have HT2 := Lib.hid (HT1.out.after hba)
  have HF2 := Lib.hid (Bf.new w1 W H c)
  have HPL := Lib.hid (fun fr st tz tb tN mv T tg wx hT => plan_any W H c (by have := HCZ.out; unfold maxLen; omega) fr st tz 40 tb tb tN mv T tg wx hT)
  clear hb1 hc hba HFL
  go_wp2_with fail
  refine (Wn.new_any _).mono ?_
  rintro e w3 ⟨rfl, rfl⟩
  generalize w1.alloc (.cells #[.int .i64 W, .int .i64 H, .string c] 23) = w2 at *
  have hba := (Below.refl w2.heap.size w2).alloc (Nat.le_refl _) (.cells #[.map none] 67)
  have HZ3 : Hid (Zt w w.heap.size (w.heap.size + 1) a0 a1 a2 b0 b1 b2 w1.heap.size W H c w2.heap.size 0 T0 (w2.alloc (.cells #[.map none] 67))) := Lib.hid ⟨HT2.out.after hba, HF2.out.later hba, ⟨0, none, _, tab0 w2, Nat.le_refl _⟩, HT2.out.below.size⟩
  obtain ⟨tb, htb⟩ : ∃ tb, tb = w2.heap.size := ⟨_, rfl⟩
  rw [← htb] at HZ3 ⊢
  clear hba htb HT0 HT1 HT2 HF2
  generalize w2.alloc (.cells #[.map none] 67) = w3 at *
  obtain ⟨D, hD⟩ : ∃ D, D = w1.heap.size := ⟨_, rfl⟩
  rw [← hD] at HZ3 ⊢
  clear hD
  go_wp2_with fail
  refine (HZ3.out.take (by omega) (x := 0) (a := 5) (b := 6) (by unfold IW; omega) first_take rfl).mono ?_
  rintro e w4 ⟨rfl, hz4, _⟩
  have HZ4 := Lib.hid hz4
  clear hz4
  go_wp2_with fail
  refine (HZ4.out.drop (by omega) (x := 0) (a := 5) (b := 6) (by unfold IW; omega) first_drop.1 first_drop.2).mono ?_
  rintro e w5 ⟨rfl, hz5, _⟩
  have HZ5 := Lib.hid hz5
  clear hz5 HZ3 HZ4
  have c2 := HZ5.out.tp.ba.cells.2.2.1
  have d2 := HZ5.out.tp.bb.cells.2.2.1
  by_cases hq : 0 ≤ a2 ∧ a2 ≤ 1000 ∧ 0 ≤ b2 ∧ b2 ≤ 1000
  · obtain ⟨h1, h2, h3, h4⟩ := hq
    have hd1 : decide (a2 < 0) = false := decide_eq_false (by omega)
    have hd2 : decide (1000 < a2) = false := decide_eq_false (by omega)
    have hd3 : decide (b2 < 0) = false := decide_eq_false (by omega)
    have hd4 : decide (1000 < b2) = false := decide_eq_false (by omega)
    have d0 := HZ5.out.tp.bb.cells.1
    have d1 := HZ5.out.tp.bb.cells.2.1
    obtain ⟨f0, f1, f2, _⟩ := HZ5.out.bf.cells
    clear h1 h2 h3 h4
    go_wp2_with fail
    clear hd1 hd2 hd3 hd4 c2 d0 d1 d2 f0 f1 f2
    obtain ⟨tN5, mv5, tg5, hk5, hn5⟩ := HZ5.out.tk
    refine (HPL.out b0 b2 b1 _ _ _ _ _ _ hk5).mono ?_
    rintro e w6 ⟨A6, n6, k6, P6, er6, rfl, hn6, hs6, hb6, hp6, hl6, her6⟩
    have HZ6 := Lib.hid (HZ5.out.later hb6)
    have HS6 := Lib.hid hs6
    have HP6 := Lib.hid hp6
    have HN6 := Lib.hid hn6
    clear hk5 hn5 hn6 hs6 hb6 hp6
    have c0 := HZ6.out.tp.ba.cells.1
    have c1 := HZ6.out.tp.ba.cells.2.1
    have c2 := HZ6.out.tp.ba.cells.2.2.1
    obtain ⟨f0, f1, f2, _⟩ := HZ6.out.bf.cells
    go_wp2_with fail
    clear c0 c1 c2 f0 f1 f2
    obtain ⟨tN7, mv7, tg7, hk7, hn7⟩ := HZ6.out.tk
    refine (HPL.out a0 a2 a1 _ _ _ _ _ _ hk7).mono ?_
    rintro e w7 ⟨A7, n7, k7, P, er7, rfl, hp7n, hs7, hb7, hp7, _, _⟩
    have HZ7 := Lib.hid (HZ6.out.later hb7)
    have HS7 := Lib.hid hs7
    have HS67 := Lib.hid (HS6.out.later hb7)
    have HPF := Lib.hid (pf_of HCZ.out ord0 few0 hp7)
    have HN7 := Lib.hid hp7n
    have hf40 := HPF.out.few
    rw [← hp7n] at hf40
    have HST : Hid (Zt w w.heap.size (w.heap.size + 1) a0 a1 a2 b0 b1 b2 D W H c tb (2 + 0) (Tof (P.take 0)) w7 ∧ Sow w7 w5.heap.size (.slice A6 n6 k6) P6 ∧ Sow w7 w6.heap.size (.slice A7 n7 k7) P) := Lib.hid ⟨HZ7.out, HS67.out, HS7.out⟩
    have hz71 := hs7.wt.le
    have hz72 := hs7.wt.max
    have hz61 := HS6.out.wt.le
    have hz62 := HS6.out.wt.max
    clear hk7 hn7 hs7 hb7 hp7 hp7n HZ5 HZ6 HZ7 HS6 HS7 HS67
    go_wp2_with fail
    go_loopw [89] (fun iv wr => ∃ j : Nat, j ≤ n7 ∧ iv = .int .i64 (j : Int) ∧ Hid (Zt w w.heap.size (w.heap.size + 1) a0 a1 a2 b0 b1 b2 D W H c tb (2 + j) (Tof (P.take j)) wr ∧ Sow wr w5.heap.size (.slice A6 n6 k6) P6 ∧ Sow wr w6.heap.size (.slice A7 n7 k7) P)) (fun iv _ => n7 - (intOf iv).toNat)
    case atStart => exact ⟨0, Nat.zero_le _, rfl, HST⟩
    case round =>
      rename World => wr
      obtain ⟨j, hj, rfl, HR⟩ := hrel
      by_cases hlt : j < n7
      · obtain ⟨g, off, rfl, q1, q2⟩ := wt_at HR.out.2.2.wt hlt
        have hjP : j < P.length := by rw [← HN7.out]; exact hlt
        obtain ⟨t1, t2⟩ := HPF.out.take hjP
        have hok := HPF.out.ok _ (getDp_mem hjP)
        generalize P.getD j (0, 0) = q at *
        obtain ⟨x, m⟩ := q
        have hwm : IntKind.i64.wrap (m + 1) = m + 1 := IntWalk.i64_in _ (by have := hok.2; omega)
        have hA := (Below.refl wr.heap.size wr).alloc (Nat.le_refl _) (.cells #[.int .i64 x, .int .i64 m] 52)
        have HBQ := Lib.hid (Bs.new wr x m)
        have HZQ := Lib.hid (HR.out.1.later hA)
        have HS1 := Lib.hid (HR.out.2.1.later hA)
        have HS2 := Lib.hid (HR.out.2.2.later hA)
        have HTK := Lib.hid (HZQ.out.take (by omega) hok.1 t1 t2)
        obtain ⟨z1, z2, _⟩ := HBQ.out.cells
        have hy0 : (0 : Int) ≤ (j : Int) := by omega
        have hy1 : (j : Int) < (n7 : Int) := by omega
        clear t1 t2 hok hA hjP
        go_wp2_with fail
        generalize wr.alloc (.cells #[.int .i64 x, .int .i64 m] 52) = wq at *
        refine HTK.out.mono ?_
        rintro e w8 ⟨rfl, hz8, hk8⟩
        have HE : Hid (Zt w w.heap.size (w.heap.size + 1) a0 a1 a2 b0 b1 b2 D W H c tb (2 + (j + 1)) (Tof (P.take (j + 1))) w8 ∧ Sow w8 w5.heap.size (.slice A6 n6 k6) P6 ∧ Sow w8 w6.heap.size (.slice (some ⟨g, off, none⟩) n7 k7) P) := Lib.hid ⟨hz8, HS1.out.kept hk8, HS2.out.kept hk8⟩
        clear hz8 hk8
        go_wp2_with fail
        go_roundw
        case rel =>
          first
          | exact ⟨j + 1, by omega, by go_num, HE⟩
          | ((repeat apply Exists.intro); exact ⟨⟨j + 1, by omega, by go_num, HE⟩, rfl⟩)
        case measure => simp [intOf]; omega
      · obtain rfl : j = n7 := by omega
        have HST2 : Hid (Zt w w.heap.size (w.heap.size + 1) a0 a1 a2 b0 b1 b2 D W H c tb (2 + j + 0) (Tof (P.drop 0)) wr ∧ Sow wr w5.heap.size (.slice A6 n6 k6) P6 ∧ Sow wr w6.heap.size (.slice A7 j k7) P) := Lib.hid (by
          have h := HR.out
          rw [HN7.out, List.take_length] at h
          rw [HN7.out]
          exact h)
        clear HR HST
        go_wp2_with fail
        go_loopw [107] (fun iv wr => ∃ i : Nat, i ≤ j ∧ iv = .int .i64 (i : Int) ∧ Hid (Zt w w.heap.size (w.heap.size + 1) a0 a1 a2 b0 b1 b2 D W H c tb (2 + j + i) (Tof (P.drop i)) wr ∧ Sow wr w5.heap.size (.slice A6 n6 k6) P6 ∧ Sow wr w6.heap.size (.slice A7 j k7) P)) (fun iv _ => j - (intOf iv).toNat)
        case atStart => exact ⟨0, Nat.zero_le _, rfl, HST2⟩
        case round =>
          rename World => wy
          obtain ⟨i, hi, rfl, HR⟩ := hrel
          by_cases hlt : i < j
          · obtain ⟨g, off, rfl, q1, q2⟩ := wt_at HR.out.2.2.wt hlt
            have hjP : i < P.length := by rw [← HN7.out]; exact hlt
            obtain ⟨t1, t2⟩ := HPF.out.drop hjP
            have hok := HPF.out.ok _ (getDp_mem hjP)
            generalize P.getD i (0, 0) = q at *
            obtain ⟨x, m⟩ := q
            have hwm : IntKind.i64.wrap (m + 1) = m + 1 := IntWalk.i64_in _ (by have := hok.2; omega)
            have hA := (Below.refl wy.heap.size wy).alloc (Nat.le_refl _) (.cells #[.int .i64 x, .int .i64 m] 52)
            have HBQ := Lib.hid (Bs.new wy x m)
            have HZQ := Lib.hid (HR.out.1.later hA)
            have HS1 := Lib.hid (HR.out.2.1.later hA)
            have HS2 := Lib.hid (HR.out.2.2.later hA)
            have HTK := Lib.hid (HZQ.out.drop (by omega) hok.1 t1 t2)
            obtain ⟨z1, z2, _⟩ := HBQ.out.cells
            have hy0 : (0 : Int) ≤ (i : Int) := by omega
            have hy1 : (i : Int) < (j : Int) := by omega
            clear t1 t2 hok hA hjP
            go_wp2_with fail
            generalize wy.alloc (.cells #[.int .i64 x, .int .i64 m] 52) = wq at *
            refine HTK.out.mono ?_
            rintro e w8 ⟨rfl, hz8, hk8⟩
            have HE : Hid (Zt w w.heap.size (w.heap.size + 1) a0 a1 a2 b0 b1 b2 D W H c tb (2 + j + (i + 1)) (Tof (P.drop (i + 1))) w8 ∧ Sow w8 w5.heap.size (.slice A6 n6 k6) P6 ∧ Sow w8 w6.heap.size (.slice (some ⟨g, off, none⟩) j k7) P) := Lib.hid ⟨hz8, HS1.out.kept hk8, HS2.out.kept hk8⟩
            clear hz8 hk8
            go_wp2_with fail
            go_roundw
            case rel =>
              first
              | exact ⟨i + 1, by omega, by go_num, HE⟩
              | ((repeat apply Exists.intro); exact ⟨⟨i + 1, by omega, by go_num, HE⟩, rfl⟩)
            case measure => simp [intOf]; omega
          · obtain rfl : i = j := by omega
            have HZ9 : Hid (Zt w w.heap.size (w.heap.size + 1) a0 a1 a2 b0 b1 b2 D W H c tb (2 + i + i) T0 wy) := Lib.hid (by
              have h := HR.out.1
              rw [show P.drop i = [] by rw [HN7.out]; exact List.drop_length] at h
              exact h)
            have HS9 := Lib.hid HR.out.2.1
            clear HR HST2
            have d0 := HZ9.out.tp.bb.cells.1
            have d1 := HZ9.out.tp.bb.cells.2.1
            have d2 := HZ9.out.tp.bb.cells.2.2.1
            obtain ⟨f0, f1, f2, _⟩ := HZ9.out.bf.cells
            go_wp2_with fail
            clear d0 d1 d2 f0 f1 f2
            obtain ⟨tN9, mv9, tg9, hk9, hn9⟩ := HZ9.out.tk
            refine (HPL.out b0 b2 b1 _ _ _ _ _ _ hk9).mono ?_
            rintro e w9 ⟨A9, n9, k9, P9, er9, rfl, hn99, hs9, hb9, hp9, hl9, her9⟩
            obtain ⟨rfl, rfl⟩ := plan_uniq HP6.out hp9
            obtain rfl : n9 = n6 := by rw [hn99, HN6.out]
            have HB9 := Lib.hid (HZ9.out.tp.below.trans (hb9.mono HZ9.out.tp.below.size))
            have HW9 := Lib.hid hs9.wt
            have HW6 := Lib.hid ((HS9.out.later hb9).wt)
            have hz91 := hs9.wt.le
            have hee : (er6 == er6) = true := by simp
            clear hk9 hn9 hn99 hs9 hb9 hp9 HZ9 HS9
            go_wp2_with fail
            go_loopw [147] (fun iv wr => ∃ u : Nat, u ≤ n9 ∧ iv = .int .i64 (u : Int) ∧ Hid (Below w9.heap.size w9 wr)) (fun iv _ => n9 - (intOf iv).toNat)
            case atStart => exact ⟨0, Nat.zero_le _, rfl, Lib.hid (Below.refl _ _)⟩
            case round =>
              rename World => wz
              obtain ⟨u, hu, rfl, HB⟩ := hrel
              by_cases hlt2 : u < n9
              · obtain ⟨g9, o9, rfl, r1, r2⟩ := wt_at (HW9.out.below HB.out) hlt2
                obtain ⟨g6, o6, rfl, r3, r4⟩ := wt_at (HW6.out.below HB.out) hlt2
                generalize P6.getD u (0, 0) = q at *
                obtain ⟨x, m⟩ := q
                have hy0 : (0 : Int) ≤ (u : Int) := by omega
                have hy1 : (u : Int) < (n9 : Int) := by omega
                go_wp2_with fail
                go_big_quiet (fail)
                go_wp2_with fail
                go_roundw
                case rel =>
                  first
                  | exact ⟨u + 1, by omega, by go_num, Lib.hid (HB.out.trans ((below_drewN _ _ _)))⟩
                  | ((repeat apply Exists.intro); exact ⟨⟨u + 1, by omega, by go_num, Lib.hid (HB.out.trans ((below_drewN _ _ _)))⟩, rfl⟩)
                case measure => simp [intOf]; omega
              · obtain rfl : u = n9 := by omega
                have HEND := Lib.hid (HB9.out.trans (HB.out.mono HB9.out.size))
                go_wp2_with fail
                go_ret
                exact ⟨rfl, HEND.out⟩
  · by_cases h1 : a2 < 0
    · have hd1 : decide (a2 < 0) = true := decide_eq_true h1
      go_wp2_with fail
      go_ret
      exact ⟨rfl, HZ5.out.tp.below⟩
    · have hd1 : decide (a2 < 0) = false := decide_eq_false h1
      by_cases h2 : 1000 < a2
      · have hd2 : decide (1000 < a2) = true := decide_eq_true h2
        go_wp2_with fail
        go_ret
        exact ⟨rfl, HZ5.out.tp.below⟩
      · have hd2 : decide (1000 < a2) = false := decide_eq_false h2
        by_cases h3 : b2 < 0
        · have hd3 : decide (b2 < 0) = true := decide_eq_true h3
          go_wp2_with fail
          go_ret
          exact ⟨rfl, HZ5.out.tp.below⟩
        · have hd3 : decide (b2 < 0) = false := decide_eq_false h3
          have hd4 : decide (1000 < b2) = true := decide_eq_true (Classical.byContradiction fun h => hq ⟨by omega, by omega, by omega, by omega⟩)
          go_wp2_with fail
          go_ret
          exact ⟨rfl, HZ5.out.tp.below⟩
end Go.Proofs.YtinkpeliinofoaaDoor
end
