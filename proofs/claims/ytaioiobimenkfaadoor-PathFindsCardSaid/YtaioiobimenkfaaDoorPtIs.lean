/-
  Layer 5: Is.
-/
import Derived.Test.YtaioiobimenkfaaDoorPtArgs
import Derived.Deep.RegionHeld3
import Derived.BigQuiet
set_option linter.unusedVariables false
set_option maxRecDepth 100000
namespace Go.Proofs.YtaioiobimenkfaaDoor
open Go.RowKit Fl Pt

/-- The first so many of a way are a way. -/
theorem chI_front (nx : Nat → List Nat) : ∀ (p q : List Int) (a : Nat), chI nx a (p ++ q) = true → chI nx a p = true
  | [], _, _, _ => rfl
  | x :: p, q, a, h => by
    have h' : ((nx a).any (fun y => ((y : Int) == x)) && chI nx x.toNat (p ++ q)) = true := h
    rw [Bool.and_eq_true] at h'
    show ((nx a).any (fun y => ((y : Int) == x)) && chI nx x.toNat p) = true
    rw [h'.1, chI_front nx p q _ h'.2]; rfl
theorem il_front (f : Nat → Int) {m n : Nat} (h : m ≤ n) : ∃ q, il f n = il f m ++ q := by
  refine ⟨(il f n).drop m, ?_⟩
  have : il f m = (il f n).take m := by
    unfold il
    rw [← List.map_take, List.take_range, Nat.min_eq_left h]
  rw [this, List.take_append_drop]
/-- Where one is behind so many cells. -/
def atI (a : Nat) (f : Nat → Int) (m : Nat) : Nat := ((il f m).getLast?.map Int.toNat).getD a
theorem atI_zero (a : Nat) (f : Nat → Int) : atI a f 0 = a := rfl
theorem atI_succ (a : Nat) (f : Nat → Int) (m : Nat) : atI a f (m + 1) = (f m).toNat := by unfold atI; rw [il_snoc]; simp
theorem chI_succ (nx : Nat → List Nat) (a : Nat) (f : Nat → Int) (m : Nat) : chI nx a (il f (m + 1)) = (chI nx a (il f m) && (nx (atI a f m)).any (fun y => ((y : Int) == f m))) := by
  rw [il_snoc, chI_snoc]; rfl
theorem contains_nats (xs : List Nat) (n : Nat) (x : Int) (h : n = xs.length) : (il (fun j => ((xs.getD j 0 : Nat) : Int)) n).contains x = xs.any (fun y => ((y : Int) == x)) := by
  subst h
  rw [Bool.eq_iff_iff, List.contains_iff_mem, List.any_eq_true]
  constructor
  · intro h
    simp only [il, List.mem_map, List.mem_range] at h
    obtain ⟨j, hj, rfl⟩ := h
    exact ⟨xs.getD j 0, by rw [List.getD, List.getElem?_eq_getElem hj]; exact List.getElem_mem hj, by simp⟩
  · rintro ⟨y, hy, e⟩
    obtain ⟨j, hj, rfl⟩ := List.getElem_of_mem hy
    simp only [il, List.mem_map, List.mem_range]
    refine ⟨j, hj, ?_⟩
    rw [List.getD, List.getElem?_eq_getElem hj]
    simpa using e
def IsWay (W H : Int) (s : ByteArray) (a : Int) (B : Nat → Bool) (p : List Int) : Prop := OnFloor W H s a ∧ chI (nx5 W.toNat H.toNat (at_ s) a.toNat B) a.toNat p = true

set_option maxHeartbeats 4000000 in
theorem is_any (W H : Int) (s : ByteArray) (hs : s.size ≤ maxLen) (a : Int) (A : Option Addr) (n cap : Nat) (f : Nat → Int) (A2 : Option Addr) (n2 cap2 : Nat) (f2 : Nat → Int) (w : World) (h : Il w.heap.size w A n cap f) (h2 : Il w.heap.size w A2 n2 cap2 f2) :
    Calls Tryd.prog 17 #[.agg #[.int .i64 W, .int .i64 H, .string s], .int .i64 a, .slice A n cap, .slice A2 n2 cap2] w (Told (IsWay W H s a (mk f2 n2) (il f n)) w) := by
  have HI := Lib.hid h
  have HI2 := Lib.hid h2
  have HST := Lib.hid (stands_any W H s hs a)
  have hsz := h.size
  clear h h2
  go_enter Tryd.func17, Tryd.ntmps17
  go_wp2_with fail
  refine (HST.out _).mono ?_
  rintro e w1 ⟨b, rfl, hb, hbw⟩
  have HX1 := Lib.hid ((Box.start w W H s 23).after hbw)
  have HO := Lib.hid hb
  clear hb hbw
  cases b with
  | false =>
    go_wp2_with fail
    go_ret
    exact ⟨false, rfl, ⟨(fun h => by cases h), (fun h => by have := HO.out.2 h.1; cases this)⟩, HX1.out.below⟩
  | true =>
    have hO := HO.out.1 rfl
    obtain ⟨W, H, k, rfl, rfl, rfl, hk, hz, hSd, hN, _, _⟩ := onFloor_some hO
    have HR := Lib.hid hO.1
    have HZ := Lib.hid hz
    have HSD := Lib.hid hSd
    have HON := Lib.hid hO
    have HGO := Lib.hid (fun wx hx => groundOf_any W H k s A2 n2 cap2 f2 wx hO.1 hk hx)
    have c0 := HX1.out.c0
    have c1 := HX1.out.c1
    have c2 := HX1.out.c2
    clear hO hz hSd hN HO
    go_wp2_with fail
    refine (HGO.out _ (args_il HI2.out HX1.out.below)).mono ?_
    rintro e w2 ⟨gl, gs, gt, rfl, hg, hb2⟩
    have HG2 := Lib.hid hg
    have HX2 := Lib.hid (HX1.out.after hb2)
    clear hg hb2 c0 c1 c2
    have hgt : gt < w2.heap.size := HG2.out.tb.1
    have hw1 : w.heap.size ≤ w1.heap.size := HX1.out.below.size
    have h12 : w1.heap.size ≤ w2.heap.size := by have := HG2.out.bt; omega
    have hbt := HG2.out.bt
    have HAL := Lib.hid ((Below.refl w2.heap.size w2).alloc (Nat.le_refl _) (.cells #[.int .i64 (W : Int), .int .i64 (H : Int), .string s, .slice (some ⟨gl, 0, none⟩) s.size s.size, .slice (some ⟨gs, 0, none⟩) s.size s.size, .slice (some ⟨gt, 0, none⟩) s.size s.size] 53))
    have HG3 := Lib.hid (HG2.out.later HAL.out)
    have HB3 := Lib.hid ((HX2.out.after HAL.out).below)
    have HGX : Hid (Gx w2.heap.size W H s gl gs gt (w2.alloc (.cells #[.int .i64 (W : Int), .int .i64 (H : Int), .string s, .slice (some ⟨gl, 0, none⟩) s.size s.size, .slice (some ⟨gs, 0, none⟩) s.size s.size, .slice (some ⟨gt, 0, none⟩) s.size s.size] 53))) := Lib.hid (heap_alloc_new w2 _)
    go_wp2_with fail
    obtain ⟨G, hG⟩ : ∃ G, G = w2.heap.size := ⟨_, rfl⟩
    rw [← hG] at HGX hgt h12 ⊢
    clear hG HAL
    generalize w2.alloc _ = w3 at *
    go_loopw [10, 24] (fun av iv wr => ∃ (j c : Nat) (mv : Nat → Value), j ≤ n ∧ iv = .int .i64 (j : Int) ∧ av = .int .i64 (c : Int) ∧ c = atI k f j ∧ c < s.size ∧ Hid (chI (nx5 W H (at_ s) k (mk f2 n2)) k (il f j) = true) ∧ Gd wr W H s k (mk f2 n2) w1.heap.size gl gs gt mv ∧ Gx G W H s gl gs gt wr ∧ Below w.heap.size w wr) (fun _ iv _ => n - (intOf iv).toNat)
    case atStart => exact ⟨0, k, _, Nat.zero_le _, rfl, rfl, rfl, hk, Lib.hid rfl, HG3.out, HGX.out, HB3.out⟩
    case round =>
      rename World => wr
      obtain ⟨j, c, mv, hj, rfl, rfl, hc, hcs, HCH, hg, hx, hb⟩ := hrel
      have HC := Lib.hid hc
      have HG := Lib.hid hg
      have HX := Lib.hid hx
      have HB := Lib.hid hb
      obtain ⟨c0, c1, c2, c3, c4, c5⟩ := hx.cells
      clear hc hg hx hb HG2 HG3 HGX HB3
      by_cases hlj : j < n
      · obtain ⟨g, off, rfl, _, hcell⟩ := (args_il HI.out HB.out).cell (by omega)
        have hcj := hcell j hlj
        have HSU := Lib.hid (chI_succ (nx5 W H (at_ s) k (mk f2 n2)) k f j)
        have HAT := Lib.hid (atI_succ k f j)
        obtain ⟨x, hx⟩ : ∃ x, x = f j := ⟨_, rfl⟩
        rw [← hx] at hcj
        have HXJ := Lib.hid hx
        clear hcell hx
        have hbase : w1.heap.size ≤ wr.heap.size := by have := HG.out.tb.1; omega
        go_wp2_with fail
        refine (next_any W H k s (mk f2 n2) w1.heap.size gl gs gt c mv _ HR.out HZ.out hcs hbase HG.out).mono ?_
        rintro e w4 ⟨A4, n4, k4, mv4, rfl, hn4, hml, hgd, ht, _, _⟩
        obtain ⟨A', n', k', e1, hn', hil⟩ := hml.il
        obtain ⟨rfl, rfl, rfl⟩ : A4 = A' ∧ n4 = n' ∧ k4 = k' := by simpa using e1
        have HB4 := Lib.hid (HB.out.trans (ht.below _ HB.out.size (fun q hq => by omega)))
        have HG4 := Lib.hid hgd
        have HX4 := Lib.hid (HX.out.turn ht (by omega))
        have HIL := Lib.hid hil
        have HN4 := Lib.hid hn4
        clear e1 hn4 hn' hml hgd ht hil c0 c1 c2 c3 c4 c5
        go_wp2_with fail
        refine (contains_any _ A4 n4 k4 _ x _ HIL.out).mono ?_
        rintro e w' ⟨rfl, rfl⟩
        rw [contains_nats _ _ _ HN4.out]
        cases ha : (nx5 W H (at_ s) k (mk f2 n2) c).any (fun y => ((y : Int) == x)) with
        | true =>
          have HAN := Lib.hid ha
          have HY : Hid (∃ y : Nat, x = y ∧ y < s.size) := Lib.hid (by
            obtain ⟨y, hy, e⟩ := List.any_eq_true.1 ha
            refine ⟨y, (beq_iff_eq.1 e).symm, ?_⟩
            have hS := HSD.out
            rw [hS.sz] at hcs ⊢
            exact nx5_lt hS.w1 c y hcs hy)
          obtain ⟨y, hxy, hys⟩ := HY.out
          subst hxy
          clear ha HY
          go_wp2_with fail
          go_roundw
          case rel => exact ⟨j + 1, y, mv4, by omega, by go_num, rfl, by rw [HAT.out, ← HXJ.out]; rfl, hys, Lib.hid (by rw [HSU.out, HCH.out, ← HXJ.out, ← HC.out, HAN.out]; rfl), HG4.out, HX4.out, HB4.out⟩
          case measure => simp [intOf]; omega
        | false =>
          have HAN := Lib.hid ha
          clear ha
          go_wp2_with fail
          go_ret
          refine ⟨false, rfl, ⟨(fun h => by cases h), (fun h => ?_)⟩, HB4.out⟩
          obtain ⟨q, hq⟩ := il_front f (m := j + 1) (n := n) (by omega)
          have h2 := h.2
          rw [hq] at h2
          have h3 : chI (nx5 W H (at_ s) k (mk f2 n2)) k (il f (j + 1)) = true := chI_front _ _ _ _ h2
          rw [HSU.out, ← HXJ.out, ← HC.out, HAN.out, Bool.and_false] at h3
          exact h3
      · obtain rfl : j = n := by omega
        go_wp2_with fail
        go_ret
        exact ⟨true, rfl, ⟨(fun _ => ⟨HON.out, HCH.out⟩), (fun _ => rfl)⟩, HB.out⟩
end Go.Proofs.YtaioiobimenkfaaDoor
