/-
  The floor of the statements of the whole.
-/
import Derived.Test.YtcdclghmebgpnaaGreatDoorSpLaw
import Derived.Deep.RegionHeld3
set_option linter.unusedVariables false
namespace Go.Proofs.YtcdclghmebgpnaaGreatDoor
namespace Sp
open Go.RowKit Fl Pt

def f3t : ByteArray := ⟨#[48, 97, 97, 98, 49, 10, 35, 99, 35, 100, 35, 10, 50, 101, 101, 102, 102, 10]⟩
def f3 : ByteArray := ⟨#[48, 97, 97, 98, 49, 35, 99, 35, 100, 35, 50, 101, 101, 102, 102]⟩
theorem rows3 : rowsL f3t.data.toList = [[48, 97, 97, 98, 49], [35, 99, 35, 100, 35], [50, 101, 101, 102, 102]] := by decide
theorem right3 : Right 5 3 f3 := by
  refine ⟨5, 3, rfl, rfl, ⟨by decide, by decide, by decide, by decide, rfl⟩, ⟨by decide, ⟨by decide, by decide, ?_, ?_⟩, ⟨1, [2, 3, 6, 8, 11, 12, 13, 14], by decide, ?_⟩⟩⟩
  · intro r hr
    have h1 : (docks 5 3 (at_ f3)).length = 3 := by decide
    have : r = 0 ∨ r = 1 ∨ r = 2 := by omega
    rcases this with rfl | rfl | rfl <;> decide
  · intro d hd
    have h1 : docks 5 3 (at_ f3) = [0, 4, 10] := by decide
    rw [h1] at hd
    simp only [List.mem_cons, List.not_mem_nil, or_false] at hd
    rcases hd with rfl | rfl | rfl
    · exact ⟨1, by decide, by decide⟩
    · exact ⟨3, by decide, by decide⟩
    · exact ⟨11, by decide, by decide⟩
  · have r1 : Rch 5 3 (at_ f3) 1 1 := Rch.refl _ _ _ 1
    have r2 := r1.step (c := 2) (by decide) (by decide)
    have r3 := r2.step (c := 3) (by decide) (by decide)
    have r6 := r1.step (c := 6) (by decide) (by decide)
    have r8 := r3.step (c := 8) (by decide) (by decide)
    have r11 := r6.step (c := 11) (by decide) (by decide)
    have r12 := r11.step (c := 12) (by decide) (by decide)
    have r13 := r12.step (c := 13) (by decide) (by decide)
    have r14 := r13.step (c := 14) (by decide) (by decide)
    intro l hl
    simp only [List.mem_cons, List.not_mem_nil, or_false] at hl
    rcases hl with rfl | rfl | rfl | rfl | rfl | rfl | rfl | rfl | rfl <;> assumption
theorem out3 {W H : Int} {c : ByteArray} {row : Nat} {err : Int} (h : POut (rowsL f3t.data.toList) W H c row err) : W = 5 ∧ H = 3 ∧ c = f3 ∧ row = 0 ∧ err = 0 := by
  rw [rows3] at h
  refine POut.one h (.inr (.inl ⟨?_, right3, rfl, rfl, rfl, rfl, rfl⟩))
  intro j hj
  have : j = 0 ∨ j = 1 ∨ j = 2 := by simp at hj; omega
  rcases this with rfl | rfl | rfl <;> decide
theorem out_yes {R : List (List UInt8)} {W H : Int} {c : ByteArray} {row : Nat} {err : Int} (h : POut R W H c row err) : (err = 0 ∧ 0 < c.size ∧ c.size ≤ 256) ∨ err = 30 := by
  rcases h with ⟨_, _, _, _, _, _, e⟩ | ⟨_, ⟨a, b, _, _, hS, _⟩, _, _, rfl, _, e⟩ | ⟨_, _, _, _, _, _, e⟩
  · exact .inr e
  · exact .inl ⟨e, by rw [hS.sz]; exact hS.pos, hS.le⟩
  · exact .inr e
/-- A floor's box. -/
def Bf (D : Nat) (W H : Int) (c : ByteArray) (w : World) : Prop := w.heap[D]? = some (.cells #[.int .i64 W, .int .i64 H, .string c] 23 (0, 0))
theorem Bf.cells {D : Nat} {W H : Int} {c : ByteArray} {w : World} (h : Bf D W H c w) : w.cell? ⟨D, 0, none⟩ = some (.int .i64 W) ∧ w.cell? ⟨D, 1, none⟩ = some (.int .i64 H) ∧ w.cell? ⟨D, 2, none⟩ = some (.string c) ∧ w.frozen? ⟨D, 0, none⟩ = false ∧ w.frozen? ⟨D, 1, none⟩ = false ∧ w.frozen? ⟨D, 2, none⟩ = false ∧ D < w.heap.size :=
  ⟨by rw [cell_of_row w D 0 _ _ _ h]; rfl, by rw [cell_of_row w D 1 _ _ _ h]; rfl, by rw [cell_of_row w D 2 _ _ _ h]; rfl, frozen_of_row w D 0 _ _ h, frozen_of_row w D 1 _ _ h, frozen_of_row w D 2 _ _ h, lt_of_heap h⟩
theorem Bf.new (w : World) (W H : Int) (c : ByteArray) : Bf w.heap.size W H c (w.alloc (.cells #[.int .i64 W, .int .i64 H, .string c] 23)) := heap_alloc_new w _
theorem Bf.later {D : Nat} {W H : Int} {c : ByteArray} {w w' : World} (h : Bf D W H c w) (hb : Below w.heap.size w w') : Bf D W H c w' := (hb.block D (lt_of_heap h)).trans h
def putF (D : Nat) (W H : Int) (c : ByteArray) (w : World) : World := ((w.setCell ⟨D, 0, none⟩ (.int .i64 W)).setCell ⟨D, 1, none⟩ (.int .i64 H)).setCell ⟨D, 2, none⟩ (.string c)
theorem Bf.put {D : Nat} {W H : Int} {c : ByteArray} {w : World} (h : Bf D W H c w) (W' H' : Int) (c' : ByteArray) : Bf D W' H' c' (putF D W' H' c' w) := by
  have h1 := heap_setCell_same w D 0 _ _ (.int .i64 W') h
  have h2 := heap_setCell_same _ D 1 _ _ (.int .i64 H') h1
  have h3 := heap_setCell_same _ D 2 _ _ (.string c') h2
  unfold Bf putF
  rw [h3]
  simp
theorem below_putF {B D : Nat} {w w' : World} (h : Below B w w') (hD : B ≤ D) (W H : Int) (c : ByteArray) : Below B w (putF D W H c w') := ((h.setCell (p := ⟨D, 0, none⟩) hD _).setCell (p := ⟨D, 1, none⟩) hD _).setCell (p := ⟨D, 2, none⟩) hD _
theorem Bf.aside {D E : Nat} {W H : Int} {c : ByteArray} {w : World} (h : Bf D W H c w) (hne : D ≠ E) (W' H' : Int) (c' : ByteArray) : Bf D W H c (putF E W' H' c' w) := by
  unfold Bf putF at *
  rw [Below.heap_setCell _ _ _ _ (by exact hne), Below.heap_setCell _ _ _ _ (by exact hne), Below.heap_setCell _ _ _ _ (by exact hne)]
  exact h
set_option maxRecDepth 100000 in
set_option maxHeartbeats 2000000 in
theorem floors_any (s : ByteArray) (hs : s.size ≤ maxLen) (w : World) : Calls Tryz.prog 19 #[.string s] w fun e w' => ∃ W H c, e = .returned (.tuple #[.agg #[.int .i64 W, .int .i64 H, .string c], .bool true]) ∧ c.size ≤ 256 ∧ Below w.heap.size w w' := by
  have HP3 : Hid (∀ wx, Calls Tryz.prog 24 #[.string ⟨#[48, 97, 97, 98, 49, 10, 35, 99, 35, 100, 35, 10, 50, 101, 101, 102, 102, 10]⟩] wx (PTold (rowsL f3t.data.toList) wx)) := Lib.hid (fun wx => parse_any f3t (by decide) wx)
  have HP1 := Lib.hid (fun wx => parse_any (s.extract 0 (min (s.size : Int) 60).toNat) (by rw [ByteArray.size_extract]; omega) wx)
  have HB0 := Lib.hid (Bf.new w 0 0 ⟨#[]⟩)
  have HA0 := Lib.hid ((Below.refl w.heap.size w).alloc (Nat.le_refl _) (.cells #[.int .i64 0, .int .i64 0, .string ⟨#[]⟩] 23))
  go_enter Tryz.func19, Tryz.ntmps19
  go_wp2_with fail
  refine (HP1.out _).mono ?_
  rintro e w1 ⟨W, H, c, row, err, rfl, ho, hb⟩
  have HB1 := Lib.hid (HB0.out.later hb)
  have HA1 := Lib.hid (HA0.out.trans (hb.mono HA0.out.size))
  have HC1 := Lib.hid (Bf.new w1 W H c)
  have hba := (Below.refl w1.heap.size w1).alloc (Nat.le_refl _) (.cells #[.int .i64 W, .int .i64 H, .string c] 23)
  have HB2 := Lib.hid (HB1.out.later hba)
  have HA2 := Lib.hid (HA1.out.trans (hba.mono HA1.out.size))
  have HNE : Hid (w.heap.size ≠ w1.heap.size) := Lib.hid (by have := lt_of_heap HB1.out; omega)
  have HLE := Lib.hid HA1.out.size
  rcases out_yes ho with ⟨rfl, hc0, hc1⟩ | rfl
  · clear ho hb hba
    have hcI : decide ((0 : Int) < (c.size : Int)) = true := decide_eq_true (by omega)
    have hcN : decide (0 < c.size) = true := decide_eq_true hc0
    go_upto_if 18 with (fail)
    generalize w1.alloc (.cells #[.int .i64 W, .int .i64 H, .string c] 23) = w2 at *
    obtain ⟨b0, b1, b2, bf0, bf1, bf2, _⟩ := HB2.out.cells
    obtain ⟨d0, d1, d2, _, _, _, _⟩ := HC1.out.cells
    go_wp2_with fail
    have hne := HNE.out
    have hne2 := hne.symm
    go_region_held3 (fun w' => w'.cell? ⟨w1.heap.size, 0, none⟩ = some (.int .i64 W) ∧ w'.cell? ⟨w1.heap.size, 1, none⟩ = some (.int .i64 H) ∧ w'.cell? ⟨w1.heap.size, 2, none⟩ = some (.string c)) (go_keep) (fail)
    have HBF : Hid (Bf w.heap.size W H c (putF w.heap.size W H c w2)) := Lib.hid (HB2.out.put W H c)
    have HAF : Hid (Below w.heap.size w (putF w.heap.size W H c w2).drew) := Lib.hid (below_putF HA2.out (Nat.le_refl _) W H c).drew
    change Exit.then _ _ _ _ (putF w.heap.size W H c w2).drew
    have HBD : Hid (Bf w.heap.size W H c (putF w.heap.size W H c w2).drew) := Lib.hid HBF.out
    clear HBF b0 b1 b2 bf0 bf1 bf2
    generalize (putF w.heap.size W H c w2).drew = wz at *
    obtain ⟨z0, z1, z2, _⟩ := HBD.out.cells
    go_wp2_with fail
    exact bodyPost_ret (v := .tuple #[.agg #[.int .i64 W, .int .i64 H, .string c], .bool true]) (by simp [results, Tryz.results19, go_sem, z0, z1, z2]) rfl ⟨W, H, c, rfl, hc1, HAF.out⟩
  · clear ho hb hba
    go_upto_if 18 with (fail)
    generalize w1.alloc (.cells #[.int .i64 W, .int .i64 H, .string c] 23) = w2 at *
    go_wp2_with fail
    refine (HP3.out _).mono ?_
    rintro e w3 ⟨W3, H3, c3, row3, err3, rfl, ho3, hb3⟩
    obtain ⟨rfl, rfl, rfl, rfl, rfl⟩ := out3 ho3
    have HB3 := Lib.hid (HB2.out.later hb3)
    have HC3 := Lib.hid (HC1.out.later hb3)
    have HA3 := Lib.hid (HA2.out.trans (hb3.mono HA2.out.size))
    clear ho3 hb3
    obtain ⟨p0, p1, p2, pf0, pf1, pf2, _⟩ := HC3.out.cells
    have HC4 := Lib.hid (HC3.out.put 5 3 f3)
    have HB4 := Lib.hid (HB3.out.aside HNE.out 5 3 f3)
    have HA4 := Lib.hid (below_putF HA3.out HLE.out 5 3 f3)
    have hcI : decide ((0 : Int) < (f3.size : Int)) = true := by decide
    have hcN : decide (0 < f3.size) = true := by decide
    have hcL : f3.size ≤ 256 := by decide
    generalize f3 = ff at *
    go_wp2_with fail
    rw [show (((w3.setCell ⟨w1.heap.size, 0, none⟩ (.int .i64 5)).setCell ⟨w1.heap.size, 1, none⟩ (.int .i64 3)).setCell ⟨w1.heap.size, 2, none⟩ (.string ff)) = putF w1.heap.size 5 3 ff w3 from rfl]
    clear p0 p1 p2 pf0 pf1 pf2
    generalize putF w1.heap.size 5 3 ff w3 = w4 at *
    obtain ⟨b0, b1, b2, bf0, bf1, bf2, _⟩ := HB4.out.cells
    obtain ⟨d0, d1, d2, _, _, _, _⟩ := HC4.out.cells
    have hne := HNE.out
    have hne2 := hne.symm
    go_region_held3 (fun w' => w'.cell? ⟨w1.heap.size, 0, none⟩ = some (.int .i64 5) ∧ w'.cell? ⟨w1.heap.size, 1, none⟩ = some (.int .i64 3) ∧ w'.cell? ⟨w1.heap.size, 2, none⟩ = some (.string ff)) (go_keep) (fail)
    have HBF : Hid (Bf w.heap.size 5 3 ff (putF w.heap.size 5 3 ff w4)) := Lib.hid (HB4.out.put 5 3 ff)
    have HAF : Hid (Below w.heap.size w (putF w.heap.size 5 3 ff w4).drew) := Lib.hid (below_putF HA4.out (Nat.le_refl _) 5 3 ff).drew
    change Exit.then _ _ _ _ (putF w.heap.size 5 3 ff w4).drew
    have HBD : Hid (Bf w.heap.size 5 3 ff (putF w.heap.size 5 3 ff w4).drew) := Lib.hid HBF.out
    clear HBF b0 b1 b2 bf0 bf1 bf2
    generalize (putF w.heap.size 5 3 ff w4).drew = wz at *
    obtain ⟨z0, z1, z2, _⟩ := HBD.out.cells
    go_wp2_with fail
    exact bodyPost_ret (v := .tuple #[.agg #[.int .i64 5, .int .i64 3, .string ff], .bool true]) (by simp [results, Tryz.results19, go_sem, z0, z1, z2]) rfl ⟨5, 3, ff, rfl, hcL, HAF.out⟩
end Sp
end Go.Proofs.YtcdclghmebgpnaaGreatDoor
