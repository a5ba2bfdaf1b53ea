/-
  Layer 10: Same, the document's examples, small.
-/
import Derived.Test.YtokjnmgbgflgnaaGreatDoorTrJ
import Derived.Test.YtokjnmgbgflgnaaGreatDoorTrFg
import Derived.Test.YtokjnmgbgflgnaaGreatDoorPtShown
import Derived.Test.YtokjnmgbgflgnaaGreatDoorFlI
set_option linter.unusedVariables false
set_option maxRecDepth 100000
namespace Go.Proofs.YtokjnmgbgflgnaaGreatDoor
namespace Tr
open Go.RowKit Fl Pt
open Bk (Gt)

theorem ext_ac {L M : List Ac} (hl : L.length = M.length) (h : ∀ t, t < L.length → L.getD t (0, 0, 0) = M.getD t (0, 0, 0)) : L = M :=
  List.ext_getElem hl fun i h1 h2 => by
    have := h i h1
    rw [List.getD_eq_getElem?_getD, List.getD_eq_getElem?_getD, List.getElem?_eq_getElem h1, List.getElem?_eq_getElem h2] at this
    simpa using this
set_option maxHeartbeats 4000000 in
theorem same_any (A A' : Option Addr) (n n' c c' : Nat) (L M : List Ac) (w : World) (h1 : Al w.heap.size w A n c L) (h2 : Al w.heap.size w A' n' c' M) :
    Calls Tryz.prog 13 #[.slice A n c, .slice A' n' c'] w fun e w' => e = .returned (.bool (decide (L = M))) ∧ Below w.heap.size w w' := by
  have H1 := Lib.hid h1
  have H2 := Lib.hid h2
  have HL1 := Lib.hid h1.len
  have HL2 := Lib.hid h2.len
  have hs := h1.size
  have hs1 := hs.1
  have hs2 := hs.2
  have hs' := h2.size
  have hs3 := hs'.1
  have hs4 := hs'.2
  clear h1 h2 hs hs'
  by_cases hnn : n = n'
  · subst hnn
    go_enter Tryz.func13, Tryz.ntmps13
    go_wp2_with fail
    go_loopw [5] (fun iv wr => ∃ (j : Nat), iv = .int .i64 (j : Int) ∧ j ≤ n ∧ Hid (∀ t, t < j → L.getD t (0, 0, 0) = M.getD t (0, 0, 0)) ∧ Below w.heap.size w wr) (fun iv _ => n - (intOf iv).toNat)
    case atStart => exact ⟨0, rfl, Nat.zero_le _, Lib.hid (fun t ht => by omega), Below.refl _ _⟩
    case round =>
      rename World => wr
      obtain ⟨j, rfl, hj, HI, hb⟩ := hrel
      have HB := Lib.hid hb
      clear hb
      by_cases hlj : j < n
      · obtain ⟨g1, o1, rfl, _, k1, k2, k3⟩ := (H1.out.later HB.out).cell hlj
        obtain ⟨g2, o2, rfl, _, k4, k5, k6⟩ := (H2.out.later HB.out).cell hlj
        have hjI : (j : Int) < (n : Int) := by omega
        by_cases he : L.getD j (0, 0, 0) = M.getD j (0, 0, 0)
        · have HI2 : Hid (∀ t, t < j + 1 → L.getD t (0, 0, 0) = M.getD t (0, 0, 0)) := Lib.hid (fun t ht => by
            rcases (by omega : t < j ∨ t = j) with q | q
            · exact HI.out t q
            · rw [q]; exact he)
          rw [← he] at k4 k5 k6
          clear he
          generalize L.getD j (0, 0, 0) = p at *
          obtain ⟨p1, p2, p3⟩ := p
          generalize hkk : (((p1, p2, p3) : Ac).1 : Int) = kk at *
          clear hkk
          go_wp2_with fail
          go_big_quiet (fail)
          go_wp2_with fail
          go_roundw
          case rel => exact ⟨j + 1, by go_num, by omega, HI2, HB.out.trans (below_drewN _ _ _)⟩
          case measure => simp [intOf]; omega
        · have HD : Hid (decide (L = M) = false) := Lib.hid (decide_eq_false (fun e => he (by rw [e])))
          obtain ⟨p1, hp1⟩ : ∃ p1 : Int, p1 = ((L.getD j (0, 0, 0)).1 : Int) := ⟨_, rfl⟩
          obtain ⟨p2, hp2⟩ : ∃ p2, p2 = (L.getD j (0, 0, 0)).2.1 := ⟨_, rfl⟩
          obtain ⟨p3, hp3⟩ : ∃ p3, p3 = (L.getD j (0, 0, 0)).2.2 := ⟨_, rfl⟩
          obtain ⟨q1, hq1⟩ : ∃ q1 : Int, q1 = ((M.getD j (0, 0, 0)).1 : Int) := ⟨_, rfl⟩
          obtain ⟨q2, hq2⟩ : ∃ q2, q2 = (M.getD j (0, 0, 0)).2.1 := ⟨_, rfl⟩
          obtain ⟨q3, hq3⟩ : ∃ q3, q3 = (M.getD j (0, 0, 0)).2.2 := ⟨_, rfl⟩
          have hcs : p1 ≠ q1 ∨ (p1 = q1 ∧ (p2 ≠ q2 ∨ (p2 = q2 ∧ p3 ≠ q3))) := by
            by_cases e1 : p1 = q1
            · refine .inr ⟨e1, ?_⟩
              by_cases e2 : p2 = q2
              · refine .inr ⟨e2, fun e3 => he (Prod.ext ?_ (Prod.ext (by rw [← hp2, ← hq2, e2]) (by rw [← hp3, ← hq3, e3])))⟩
                have : ((L.getD j (0, 0, 0)).1 : Int) = ((M.getD j (0, 0, 0)).1 : Int) := by rw [← hp1, ← hq1, e1]
                omega
              · exact .inl e2
            · exact .inl e1
          rw [← hp1] at k1
          rw [← hp2] at k2
          rw [← hp3] at k3
          rw [← hq1] at k4
          rw [← hq2] at k5
          rw [← hq3] at k6
          clear hp1 hp2 hp3 hq1 hq2 hq3 he
          rcases hcs with e1 | ⟨rfl, e1 | ⟨rfl, e1⟩⟩
          · have d1 : (p1 == q1) = false := by rw [beq_eq_false_iff_ne]; exact e1
            go_wp2_with fail
            go_big_quiet (fail)
            go_wp2_with fail
            go_ret
            exact ⟨by rw [HD.out]; rfl, HB.out.trans (below_drewN _ _ _)⟩
          · have d1 : (p2 == q2) = false := by rw [beq_eq_false_iff_ne]; exact e1
            go_wp2_with fail
            go_big_quiet (fail)
            go_wp2_with fail
            go_ret
            exact ⟨by rw [HD.out]; rfl, HB.out.trans (below_drewN _ _ _)⟩
          · have d1 : (p3 == q3) = false := by rw [beq_eq_false_iff_ne]; exact e1
            go_wp2_with fail
            go_big_quiet (fail)
            go_wp2_with fail
            go_ret
            exact ⟨by rw [HD.out]; rfl, HB.out.trans (below_drewN _ _ _)⟩
      · obtain rfl : j = n := by omega
        have HD : Hid (decide (L = M) = true) := Lib.hid (decide_eq_true (ext_ac (by rw [HL1.out, HL2.out]) (fun t ht => HI.out t (by rw [← HL1.out]; exact ht))))
        go_wp2_with fail
        go_ret
        exact ⟨by rw [HD.out]; rfl, HB.out⟩
  · have HD : Hid (decide (L = M) = false) := Lib.hid (decide_eq_false (fun e => hnn (by rw [← HL1.out, ← HL2.out, e])))
    have hd : ((n : Int) == (n' : Int)) = false := by rw [beq_eq_false_iff_ne]; omega
    rw [HD.out]
    go_enter Tryz.func13, Tryz.ntmps13
    go_wp2_with fail
    go_ret
    exact ⟨rfl, Below.refl _ _⟩

/-! ### The examples -/
def s10 : ByteArray := ⟨#[48, 97, 97, 98, 49, 10]⟩
def c10 : ByteArray := ⟨#[48, 97, 97, 98, 49]⟩
theorem rows10 : rowsL s10.data.toList = [[48, 97, 97, 98, 49]] := by decide
theorem right10 : Right 5 1 c10 := by
  refine ⟨5, 1, rfl, rfl, ⟨by decide, by decide, by decide, by decide, rfl⟩, ⟨by decide, ⟨by decide, by decide, ?_, ?_⟩, ⟨1, [2, 3], by decide, ?_⟩⟩⟩
  · intro r hr
    have h1 : (docks 5 1 (at_ c10)).length = 2 := by decide
    have : r = 0 ∨ r = 1 := by omega
    rcases this with rfl | rfl <;> decide
  · intro d hd
    have h1 : docks 5 1 (at_ c10) = [0, 4] := by decide
    rw [h1] at hd
    simp only [List.mem_cons, List.not_mem_nil, or_false] at hd
    rcases hd with rfl | rfl
    · exact ⟨1, by decide, by decide⟩
    · exact ⟨3, by decide, by decide⟩
  · have r1 : Rch 5 1 (at_ c10) 1 1 := Rch.refl _ _ _ 1
    have r2 := r1.step (c := 2) (by decide) (by decide)
    have r3 := r2.step (c := 3) (by decide) (by decide)
    intro l hl
    simp only [List.mem_cons, List.not_mem_nil, or_false] at hl
    rcases hl with rfl | rfl | rfl <;> assumption
theorem out10 {W H : Int} {c : ByteArray} {row : Nat} {err : Int} (h : POut (rowsL s10.data.toList) W H c row err) : W = 5 ∧ H = 1 ∧ c = c10 ∧ row = 0 ∧ err = 0 := by
  rw [rows10] at h
  refine POut.one h (.inr (.inl ⟨?_, right10, rfl, rfl, rfl, rfl, rfl⟩))
  intro j hj
  have : j = 0 := by simp at hj; omega
  subst this; decide
def Bn : Nat → Bool := mk (fun _ => 0) 0
def Ea (x : Nat) : Nat := [2, 1, 0, 1, 2].getD x 50
def Eb (x : Nat) : Nat := [3, 2, 1, 0, 1].getD x 50
def Ec (x : Nat) : Nat := [0, 1, 2, 3, 4].getD x 50
theorem in10 (a : Nat) : ∀ x y, x < 5 → y ∈ nx5 5 1 (at_ c10) a Bn x → y < 5 := fun x y hx hy => nx5_lt (H := 1) (by decide) x y hx hy
theorem pa : ∀ x, x < 5 → ∀ y, y ∈ nx5 5 1 (at_ c10) 0 Bn x → Ea x ≤ Ea y + 1 := by decide +kernel
theorem pb : ∀ x, x < 5 → ∀ y, y ∈ nx5 5 1 (at_ c10) 2 Bn x → Eb x ≤ Eb y + 1 := by decide +kernel
theorem pc : ∀ x, x < 5 → ∀ y, y ∈ nx5 5 1 (at_ c10) 3 Bn x → Ec x ≤ Ec y + 1 := by decide +kernel
theorem ga : Gr (nx5 5 1 (at_ c10) 0 Bn) 2 0 [1, 2] := ⟨⟨[], [], by decide +kernel, by simp⟩, ⟨[], [0], by decide +kernel, by simp⟩, rfl⟩
theorem gb : Gr (nx5 5 1 (at_ c10) 2 Bn) 3 2 [3] := ⟨⟨[], [1], by decide +kernel, by simp⟩, rfl⟩
theorem gc : Gr (nx5 5 1 (at_ c10) 3 Bn) 0 3 [2, 1, 0] := by
  have hp := pot_back (z := 0) (in10 3) pc rfl
  refine ⟨⟨[4], [], by decide +kernel, ?_⟩, ⟨[3], [], by decide +kernel, ?_⟩, ⟨[2], [], by decide +kernel, ?_⟩, rfl⟩
  · intro y hy hw
    obtain rfl := List.mem_singleton.1 hy
    have := hp _ 4 (by decide) hw
    revert this; decide
  · intro y hy hw
    obtain rfl := List.mem_singleton.1 hy
    have := hp _ 3 (by decide) hw
    revert this; decide
  · intro y hy hw
    obtain rfl := List.mem_singleton.1 hy
    have := hp _ 2 (by decide) hw
    revert this; decide
theorem on10 (c : Int) (h : bAt c10 c ≠ 35) : OnFloor 5 1 c10 c := ⟨right10, h⟩
theorem wa : WayIs 5 1 c10 ((0 : Nat) : Int) 2 Bn [1, 2] 0 := .inl ⟨on10 _ (by decide), on10 2 (by decide), rfl, ga, ga.wk, fun m hm => pot_back (z := 2) (in10 0) pa rfl m 0 (by decide) hm⟩
theorem wb : WayIs 5 1 c10 2 3 Bn [3] 0 := .inl ⟨on10 2 (by decide), on10 3 (by decide), rfl, gb, gb.wk, fun m hm => pot_back (z := 3) (in10 2) pb rfl m 2 (by decide) hm⟩
theorem wc : WayIs 5 1 c10 3 ((0 : Nat) : Int) Bn [2, 1, 0] 0 := .inl ⟨on10 3 (by decide), on10 _ (by decide), rfl, gc, gc.wk, fun m hm => pot_back (z := 0) (in10 3) pc rfl m 3 (by decide) hm⟩
def L10 : List Ac := [(1, 1, 0), (1, 2, 0), (2, 2, 5), (1, 3, 0), (3, 3, 5), (1, 2, 0), (1, 1, 0), (1, 0, 0)]
theorem trip10 : MakeIs 5 1 c10 0 5 2 3 Bn L10 0 := .inr (.inl ⟨⟨⟨right10, by decide, by decide⟩, by decide, by decide, by decide⟩, 0, [1, 2], [3], [2, 1, 0], ⟨by decide, by decide, fun j hj => by omega⟩, wa, wb, wc, rfl, rfl⟩)
theorem zon10 : zonL c10 L10 = [0, 1] := by decide
theorem al_lit {w : World} (L : List Ac) {cs : Array Value} (hc : cs = (acv L).toArray) (hl : L.length ≤ 1000000) : Al (w.alloc (.cells cs 44)).heap.size (w.alloc (.cells cs 44)) (some ⟨w.heap.size, 0, none⟩) L.length L.length L := by
  subst hc
  refine ⟨acv_length L, Nat.le_refl _, by unfold maxLen; omega, (fun e => by cases e), fun _ => ⟨w.heap.size, 0, rfl, by simp, fun j hj => ?_⟩⟩
  have h := heap_alloc_new w (.cells (acv L).toArray 44)
  rw [cell_of_row _ _ _ _ _ _ h, Nat.zero_add]
  simp
theorem il_two01 (w : World) : Il (w.alloc (.cells #[.int .i64 0, .int .i64 1] 3)).heap.size (w.alloc (.cells #[.int .i64 0, .int .i64 1] 3)) (some ⟨w.heap.size, 0, none⟩) 2 2 (fun j => [0, 1].getD j 0) := il_lit (l := [0, 1]) (by decide) rfl
set_option maxHeartbeats 4000000 in
theorem shown10_any (w : World) : Calls Tryz.prog 9 #[] w fun e w' => e = .returned (.bool true) ∧ Below w.heap.size w w' := by
  have HPA := Lib.hid (fun wx => parse_any s10 (by decide) wx)
  rw [show s10 = ⟨#[48, 97, 97, 98, 49, 10]⟩ from rfl] at HPA
  have HMA := Lib.hid (fun wx => make_any 5 1 c10 (by decide) 0 5 2 3 none 0 0 (fun _ => 0) wx (Il.empty _ _ _))
  have HLIT := Lib.hid (fun w : World => al_lit (w := w) L10 (cs := #[.int .u8 1, .int .i64 1, .int .i64 0, .int .u8 1, .int .i64 2, .int .i64 0, .int .u8 2, .int .i64 2, .int .i64 5, .int .u8 1, .int .i64 3, .int .i64 0, .int .u8 3, .int .i64 3, .int .i64 5, .int .u8 1, .int .i64 2, .int .i64 0, .int .u8 1, .int .i64 1, .int .i64 0, .int .u8 1, .int .i64 0, .int .i64 0]) rfl (by decide))
  go_enter Tryz.func9, Tryz.ntmps9
  go_wp2_with fail
  refine (HPA.out _).mono ?_
  rintro e w1 ⟨W, H, c, row, err, rfl, ho, hb1⟩
  obtain ⟨rfl, rfl, rfl, rfl, rfl⟩ := out10 ho
  have HB1 := Lib.hid hb1
  have HX1 := Lib.hid (Box.start w1 5 1 c10 23)
  clear ho hb1 HPA
  go_wp2_with fail
  refine (HMA.out _).mono ?_
  rintro e w2 ⟨A2, n2, k2, L, er, rfl, hm, _, _, hal, hb2⟩
  obtain ⟨rfl, rfl⟩ := hm.uniq trip10
  have hlen2 := hal.len
  obtain rfl : n2 = 8 := hlen2.symm
  have HX2 := Lib.hid (HX1.out.after hb2)
  have HA2 := Lib.hid hal
  have HB2 := Lib.hid hb2
  clear hm hal hb2 HMA hlen2
  have c0 := HX2.out.c0
  have c1 := HX2.out.c1
  have c2 := HX2.out.c2
  have hz := HX2.out.lt
  have hal3 := (Below.refl w2.heap.size w2).alloc (Nat.le_refl _) (.cells #[.int .u8 1, .int .i64 1, .int .i64 0, .int .u8 1, .int .i64 2, .int .i64 0, .int .u8 2, .int .i64 2, .int .i64 5, .int .u8 1, .int .i64 3, .int .i64 0, .int .u8 3, .int .i64 3, .int .i64 5, .int .u8 1, .int .i64 2, .int .i64 0, .int .u8 1, .int .i64 1, .int .i64 0, .int .u8 1, .int .i64 0, .int .i64 0] 44)
  have hlit := HLIT.out w2
  have hsame := same_any A2 _ 8 8 k2 8 L10 L10 _ (HA2.out.later hal3) hlit
  rw [show decide (L10 = L10) = true from decide_eq_true rfl] at hsame
  have HSAME := Lib.hid hsame
  have HB3 := Lib.hid hal3
  clear hal3 hlit hsame HLIT
  go_wp2_with fail
  refine HSAME.out.mono ?_
  rintro e w3 ⟨rfl, hb3⟩
  have HBX3 := Lib.hid (HB3.out.trans (hb3.mono HB3.out.size))
  have HA3 := Lib.hid (HA2.out.later HBX3.out)
  have HX3 := Lib.hid (HX2.out.after HBX3.out)
  clear hb3 c0 c1 c2 hz
  have hcost := cost_any A2 8 k2 L10 w3 HA3.out
  rw [show costL L10 = 6 from by decide] at hcost
  have HCOST := Lib.hid hcost
  have HZON := Lib.hid (fun wx (hb : Below w3.heap.size w3 wx) => zones_any 5 1 c10 (by decide) A2 8 k2 L10 wx (HA3.out.later hb) (by decide) (fun i hi => by
    have : i = 0 ∨ i = 1 ∨ i = 2 ∨ i = 3 ∨ i = 4 ∨ i = 5 ∨ i = 6 ∨ i = 7 := by omega
    rcases this with rfl | rfl | rfl | rfl | rfl | rfl | rfl | rfl <;> (unfold IW L10; simp)))
  clear hcost
  have c0 := HX3.out.c0
  have c1 := HX3.out.c1
  have c2 := HX3.out.c2
  go_wp2_with fail
  refine HCOST.out.mono ?_
  rintro e w4 ⟨rfl, hb4⟩
  have HX4 := Lib.hid (HX3.out.after hb4)
  have HB4 := Lib.hid hb4
  clear hb4 c0 c1 c2 HCOST
  have c0 := HX4.out.c0
  have c1 := HX4.out.c1
  have c2 := HX4.out.c2
  go_wp2_with fail
  refine (HZON.out _ HB4.out).mono ?_
  rintro e w5 ⟨A5, n5, k5, zs, rfl, hn5, _, hy5, _, hil5, hb5⟩
  obtain rfl := hy5 right10
  rw [zon10] at hn5 hil5
  obtain rfl : n5 = 2 := hn5
  have HX5 := Lib.hid (HX4.out.after hb5)
  have HI5 := Lib.hid hil5
  clear hil5 hb5 c0 c1 c2 HZON
  have hb6 := (Below.refl w5.heap.size w5).alloc (Nat.le_refl _) (.cells #[.int .i64 0, .int .i64 1] 3)
  have hsi := sameIl_any A5 _ 2 2 k5 2 _ _ _ (fun j => [0, 1].getD j 0) _ (HI5.out.below hb6) (il_two01 w5) (by simp) (Nat.le_refl _) (by decide) (by decide)
  have HSI := Lib.hid hsi
  have HB6 := Lib.hid hb6
  clear hsi hb6
  go_wp2_with fail
  refine HSI.out.mono ?_
  rintro e w6 ⟨b6, rfl, hb, hB6⟩
  obtain rfl : b6 = true := hb.2 ⟨rfl, fun j hj => by
    have : j = 0 ∨ j = 1 := by omega
    rcases this with rfl | rfl <;> rfl⟩
  have HB7 := Lib.hid (HX5.out.below.trans ((HB6.out.trans (hB6.mono HB6.out.size)).mono HX5.out.below.size))
  clear hb hB6
  go_wp2_with fail
  go_ret
  exact ⟨rfl, HB1.out.trans (HB7.out.mono HB1.out.size)⟩

/-- A case: a floor, a robot, a pod, where it is carried from and to, cells that are blocked. -/
def caseV (W H : Int) (s : ByteArray) (r pod a b : Int) (A : Option Addr) (n cap : Nat) : Value := .agg #[.int .i64 W, .int .i64 H, .string s, .int .i64 r, .int .i64 pod, .int .i64 a, .int .i64 b, .slice A n cap]
set_option maxHeartbeats 1000000 in
theorem small10_any (W H : Int) (s : ByteArray) (hs : s.size ≤ maxLen) (r pod a b : Int) (A : Option Addr) (n cap : Nat) (hn : n ≤ cap ∧ cap ≤ 9223372036854775807) (w : World) :
    Calls Tryz.prog 10 #[caseV W H s r pod a b A n cap] w fun e w' => e = .returned (.bool (decide (s.size ≤ 60) && decide (n ≤ 30))) ∧ Below w.heap.size w w' := by
  have hsm : s.size ≤ 9223372036854775807 := by unfold maxLen at hs; omega
  have HB := Lib.hid ((Below.refl w.heap.size w).alloc (Nat.le_refl _) (.cells #[.int .i64 W, .int .i64 H, .string s, .int .i64 r, .int .i64 pod, .int .i64 a, .int .i64 b, .slice A n cap] 26))
  obtain ⟨hn1, hn2⟩ := hn
  unfold caseV
  by_cases h1 : s.size ≤ 60
  · have d1 : decide (s.size ≤ 60) = true := decide_eq_true h1
    by_cases h2 : n ≤ 30
    · have d2 : decide (n ≤ 30) = true := decide_eq_true h2
      rw [d1, d2]
      go_enter Tryz.func10, Tryz.ntmps10
      go_wp2_with fail
      go_ret
      exact ⟨by first | rfl | (simp; done) | (simp; omega), HB.out⟩
    · have d2 : decide (n ≤ 30) = false := decide_eq_false h2
      rw [d1, d2]
      go_enter Tryz.func10, Tryz.ntmps10
      go_wp2_with fail
      go_ret
      exact ⟨by first | rfl | (simp; done) | (simp; omega), HB.out⟩
  · have d1 : decide (s.size ≤ 60) = false := decide_eq_false h1
    rw [d1]
    go_enter Tryz.func10, Tryz.ntmps10
    go_wp2_with fail
    go_ret
    exact ⟨by first | rfl | (simp; done) | (simp; omega), HB.out⟩
/-- A case in a box. -/
structure Cb (D : Nat) (W H : Int) (s : ByteArray) (r pod a b : Int) (A : Option Addr) (n cap : Nat) (w : World) : Prop where
  row : w.heap[D]? = some (.cells #[.int .i64 W, .int .i64 H, .string s, .int .i64 r, .int .i64 pod, .int .i64 a, .int .i64 b, .slice A n cap] 26 (0, 0))
section
variable {D : Nat} {W H : Int} {s : ByteArray} {r pod a b : Int} {A : Option Addr} {n cap : Nat} {w w' : World}
theorem Cb.c0 (h : Cb D W H s r pod a b A n cap w) : w.cell? ⟨D, 0, none⟩ = some (.int .i64 W) := by rw [cell_of_row w D 0 _ _ _ h.row]; rfl
theorem Cb.c1 (h : Cb D W H s r pod a b A n cap w) : w.cell? ⟨D, 1, none⟩ = some (.int .i64 H) := by rw [cell_of_row w D 1 _ _ _ h.row]; rfl
theorem Cb.c2 (h : Cb D W H s r pod a b A n cap w) : w.cell? ⟨D, 2, none⟩ = some (.string s) := by rw [cell_of_row w D 2 _ _ _ h.row]; rfl
theorem Cb.c3 (h : Cb D W H s r pod a b A n cap w) : w.cell? ⟨D, 3, none⟩ = some (.int .i64 r) := by rw [cell_of_row w D 3 _ _ _ h.row]; rfl
theorem Cb.c4 (h : Cb D W H s r pod a b A n cap w) : w.cell? ⟨D, 4, none⟩ = some (.int .i64 pod) := by rw [cell_of_row w D 4 _ _ _ h.row]; rfl
theorem Cb.c5 (h : Cb D W H s r pod a b A n cap w) : w.cell? ⟨D, 5, none⟩ = some (.int .i64 a) := by rw [cell_of_row w D 5 _ _ _ h.row]; rfl
theorem Cb.c6 (h : Cb D W H s r pod a b A n cap w) : w.cell? ⟨D, 6, none⟩ = some (.int .i64 b) := by rw [cell_of_row w D 6 _ _ _ h.row]; rfl
theorem Cb.c7 (h : Cb D W H s r pod a b A n cap w) : w.cell? ⟨D, 7, none⟩ = some (.slice A n cap) := by rw [cell_of_row w D 7 _ _ _ h.row]; rfl
theorem Cb.lt (h : Cb D W H s r pod a b A n cap w) : D < w.heap.size := lt_of_heap h.row
theorem Cb.later (h : Cb D W H s r pod a b A n cap w) (hb : Below w.heap.size w w') : Cb D W H s r pod a b A n cap w' := ⟨(hb.block D (lt_of_heap h.row)).trans h.row⟩
end
theorem Cb.new (w : World) (W H : Int) (s : ByteArray) (r pod a b : Int) (A : Option Addr) (n cap : Nat) : Cb w.heap.size W H s r pod a b A n cap (w.alloc (.cells #[.int .i64 W, .int .i64 H, .string s, .int .i64 r, .int .i64 pod, .int .i64 a, .int .i64 b, .slice A n cap] 26)) := ⟨heap_alloc_new w _⟩
end Tr
end Go.Proofs.YtokjnmgbgflgnaaGreatDoor
