/-
  The document's examples of layer 3.
-/
import Derived.Test.YtcbhjopmafhanaaDoorFlI
import Derived.Test.YtcbhjopmafhanaaDoorFlR5
set_option linter.unusedVariables false
namespace Go.Proofs.YtcbhjopmafhanaaDoor
open Go.RowKit Fl

def sA : ByteArray := ⟨#[48, 97, 10, 35, 98, 10]⟩
def sB : ByteArray := ⟨#[48, 97, 10, 98, 49, 10]⟩
def cA : ByteArray := ⟨#[48, 97, 35, 98]⟩
theorem rowsA : rowsL sA.data.toList = [[48, 97], [35, 98]] := by decide
theorem rowsB : rowsL sB.data.toList = [[48, 97], [98, 49]] := by decide
theorem rightA : Right 2 2 cA := by
  refine ⟨2, 2, rfl, rfl, ⟨by decide, by decide, by decide, by decide, rfl⟩, ⟨?_, ⟨by decide, by decide, ?_, ?_⟩, ⟨1, [3], by decide, ?_⟩⟩⟩
  · intro i hi
    have : i = 0 ∨ i = 1 ∨ i = 2 ∨ i = 3 := by omega
    rcases this with rfl | rfl | rfl | rfl <;> decide
  · intro r hr
    have h1 : (docks 2 2 (at_ cA)).length = 1 := by decide
    have : r = 0 := by omega
    subst this
    decide
  · intro d hd
    have h1 : docks 2 2 (at_ cA) = [0] := by decide
    rw [h1] at hd
    obtain rfl := List.mem_singleton.1 hd
    exact ⟨1, by decide, by decide⟩
  · intro l hl
    rcases List.mem_cons.1 hl with rfl | h
    · exact Rch.refl _ _ _ _
    · obtain rfl := List.mem_singleton.1 h
      exact (Rch.refl _ _ _ 1).step (by decide) (by decide)
theorem outA {W H : Int} {c : ByteArray} {row : Nat} {err : Int} (h : POut (rowsL sA.data.toList) W H c row err) : W = 2 ∧ H = 2 ∧ c = cA ∧ row = 0 ∧ err = 0 := by
  rw [rowsA] at h
  refine POut.one h (.inr (.inl ⟨?_, rightA, rfl, rfl, rfl, rfl, rfl⟩))
  intro j hj
  have : j = 0 ∨ j = 1 := by simp at hj; omega
  rcases this with rfl | rfl <;> decide
theorem outB {W H : Int} {c : ByteArray} {row : Nat} {err : Int} (h : POut (rowsL sB.data.toList) W H c row err) : W = 0 ∧ H = 0 ∧ c = ⟨#[]⟩ ∧ row = 2 ∧ err = 30 := by
  rw [rowsB] at h
  refine POut.one h (.inr (.inr ⟨?_, ?_, rfl, rfl, rfl, rfl, rfl⟩))
  · intro j hj
    have : j = 0 ∨ j = 1 := by simp at hj; omega
    rcases this with rfl | rfl <;> decide
  · rintro ⟨a, b, e1, e2, h1, h2⟩
    have e1' : (2 : Int) = a := e1
    have e2' : (2 : Int) = b := e2
    obtain rfl : a = 2 := by omega
    obtain rfl : b = 2 := by omega
    obtain ⟨x, r, hp, hj⟩ := h2.lanes
    have h3 : pick isL (at_ (cells [[48, 97], [98, 49]])) (2 * 2) = [1, 2] := by decide
    rw [h3] at hp
    injection hp with e3 e4
    subst e3 e4
    have := hj 2 (by simp) (fun v => v = 1) rfl (fun u v hu hv hl => by
      subst hu
      have h4 : side 2 2 1 = [3, 0] := by decide
      rw [h4] at hv
      simp only [List.mem_cons, List.not_mem_nil, or_false] at hv
      rcases hv with rfl | rfl
      · have h5 : isL (at_ (cells [[48, 97], [98, 49]]) 3) = false := by decide
        rw [h5] at hl; cases hl
      · have h5 : isL (at_ (cells [[48, 97], [98, 49]]) 0) = false := by decide
        rw [h5] at hl; cases hl)
    cases this
theorem own_two (w : World) (base : Nat) (x y : Nat) (X Y : Int) (hX : X = x) (hY : Y = y) (hb : base ≤ w.heap.size) : Own (w.alloc (.cells #[.int .i64 X, .int .i64 Y] 3)) base (.slice (some ⟨w.heap.size, 0, none⟩) 2 2) [x, y] := by
  subst hX hY
  exact ⟨rfl, .inr ⟨w.heap.size, 2, _, rfl, hb, heap_alloc_new w _, Nat.le_refl _, by unfold maxLen; omega, rfl, rfl⟩⟩

theorem firstA : IsFirst cA (48 + (0 : Int).toNat) 0 := ⟨by decide, by decide, fun j hj => by omega⟩
theorem robotA : IsRobot 2 2 cA 0 := ⟨rightA, by decide, by decide⟩
theorem nearA : nears 2 2 cA 1 = [3, 0] := by decide

set_option maxHeartbeats 4000000 in
theorem shown_any (w : World) : Calls Tryd.prog 10 #[] w fun e w' => e = .returned (.bool true) ∧ Below w.heap.size w w' := by
  have HPA := Lib.hid (fun wx => parse_any sA (by decide) wx)
  have HPB := Lib.hid (fun wx => parse_any sB (by decide) wx)
  rw [show sA = ⟨#[48, 97, 10, 35, 98, 10]⟩ from rfl] at HPA
  rw [show sB = ⟨#[48, 97, 10, 98, 49, 10]⟩ from rfl] at HPB
  go_enter Tryd.func10, Tryd.ntmps10
  go_wp2_with fail
  refine (HPA.out _).mono ?_
  rintro e w1 ⟨W, H, c, row, err, rfl, ho, hb1⟩
  obtain ⟨rfl, rfl, rfl, rfl, rfl⟩ := outA ho
  have HB1 := Lib.hid hb1
  clear ho hb1
  go_wp2_with fail
  refine (HPB.out _).mono ?_
  rintro e w2 ⟨W, H, c, row, err, rfl, ho, hb2⟩
  obtain ⟨rfl, rfl, rfl, rfl, rfl⟩ := outB ho
  have HX2 := Lib.hid (((Box.start w1 2 2 cA 24).after hb2).after ((Below.refl w2.heap.size w2).alloc (Nat.le_refl _) (.cells #[.int .i64 0, .int .i64 0, .string ⟨#[]⟩] 24)))
  have k0 := (((Box.start w1 2 2 cA 24).after hb2)).c0
  have k1 := (((Box.start w1 2 2 cA 24).after hb2)).c1
  have k2 := (((Box.start w1 2 2 cA 24).after hb2)).c2
  have hz2 : w1.heap.size < w2.heap.size := (((Box.start w1 2 2 cA 24).after hb2)).lt
  have j0 := HX2.out.c0
  have j1 := HX2.out.c1
  have j2 := HX2.out.c2
  clear ho hb2 HPA HPB
  go_wp2_with fail
  refine (dock_any 2 2 cA (by decide) 0 _).mono ?_
  rintro e w3 ⟨n, b, rfl, h1, h2, hb3⟩
  obtain ⟨hf, rfl⟩ := h1 robotA
  obtain rfl : n = 0 := IsFirst.one hf firstA
  have HX3 := Lib.hid (HX2.out.after hb3)
  clear h1 h2 hb3 hf k0 k1 k2 j0 j1 j2
  have k0 := HX3.out.c0
  have k1 := HX3.out.c1
  have k2 := HX3.out.c2
  go_wp2_with fail
  refine (robots_any 2 2 cA (by decide) _).mono ?_
  rintro e w4 ⟨n, rfl, h1, h2, hb4⟩
  obtain rfl : n = 1 := h1 rightA
  have HX4 := Lib.hid (HX3.out.after hb4)
  clear h1 h2 hb4 k0 k1 k2
  have k0 := HX4.out.c0
  have k1 := HX4.out.c1
  have k2 := HX4.out.c2
  go_wp2_with fail
  refine (lanes_any 2 2 cA (by decide) _).mono ?_
  rintro e w5 ⟨a, n, cap, xs, rfl, hn, h1, h2, ho, hb5⟩
  obtain rfl : xs = [1, 3] := h1 rightA
  obtain rfl : n = 2 := hn
  have HX5 := Lib.hid ((HX4.out.after hb5).after ((Below.refl w5.heap.size w5).alloc (Nat.le_refl _) (.cells #[.int .i64 1, .int .i64 3] 3)))
  have HO5 := Lib.hid (ho.later ((Below.refl w5.heap.size w5).alloc (Nat.le_refl _) (.cells #[.int .i64 1, .int .i64 3] 3)))
  have HT5 := Lib.hid (own_two w5 w5.heap.size 1 3 1 3 rfl rfl (Nat.le_refl _))
  clear h1 h2 ho hb5 k0 k1 k2
  go_wp2_with fail
  refine (sameInts_any _ _ 2 2 _ _ _ _ [1, 3] [1, 3] _ rfl rfl HO5.out HT5.out (by decide) (by decide) (by decide) (by decide)).mono ?_
  rintro e w6 ⟨b, rfl, hb, hb6⟩
  obtain rfl : b = true := hb.2 rfl
  have HX6 := Lib.hid (HX5.out.after hb6)
  clear hb hb6
  have k0 := HX6.out.c0
  have k1 := HX6.out.c1
  have k2 := HX6.out.c2
  go_wp2_with fail
  refine (near_any 2 2 cA (by decide) 1 _).mono ?_
  rintro e w7 ⟨a, n, cap, xs, rfl, hn, h1, h2, ho, hb7⟩
  obtain rfl : xs = [3, 0] := (h1 ⟨rightA, by decide⟩).trans nearA
  obtain rfl : n = 2 := hn
  have HX7 := Lib.hid ((HX6.out.after hb7).after ((Below.refl w7.heap.size w7).alloc (Nat.le_refl _) (.cells #[.int .i64 3, .int .i64 0] 3)))
  have HO7 := Lib.hid (ho.later ((Below.refl w7.heap.size w7).alloc (Nat.le_refl _) (.cells #[.int .i64 3, .int .i64 0] 3)))
  have HT7 := Lib.hid (own_two w7 w7.heap.size 3 0 3 0 rfl rfl (Nat.le_refl _))
  clear h1 h2 ho hb7 k0 k1 k2
  go_wp2_with fail
  refine (sameInts_any _ _ 2 2 _ _ _ _ [3, 0] [3, 0] _ rfl rfl HO7.out HT7.out (by decide) (by decide) (by decide) (by decide)).mono ?_
  rintro e w8 ⟨b, rfl, hb, hb8⟩
  obtain rfl : b = true := hb.2 rfl
  have HX8 := Lib.hid (HB1.out.trans ((HX7.out.after hb8).below.mono HB1.out.size))
  clear hb hb8
  go_wp2_with fail
  go_ret
  exact ⟨rfl, HX8.out⟩

end Go.Proofs.YtcbhjopmafhanaaDoor
