/-
  The document's answers for layer 3: Parse.
-/
import Derived.Test.YtlecichbenpiiaaDoorFlR8
import Derived.Test.YtlecichbenpiiaaDoorFlR1
set_option linter.unusedVariables false
namespace Go.Proofs.YtlecichbenpiiaaDoor
open Go.RowKit Fl

theorem flat_mem {R : List (List UInt8)} {x : List UInt8} (h : x ∈ R) : x.length + 1 ≤ (flat R).length := by
  induction R with
  | nil => cases h
  | cons r R ih =>
    rw [flat_cons, List.length_append, List.length_cons]
    rcases List.mem_cons.1 h with rfl | h
    · omega
    · have := ih h; omega
theorem flat_num (R : List (List UInt8)) : R.length ≤ (flat R).length ∧ R.flatten.length ≤ (flat R).length := by
  induction R with
  | nil => simp
  | cons r R ih => rw [flat_cons, List.length_append, List.length_cons, List.length_cons, List.flatten_cons, List.length_append]; omega
theorem rowsL_len (l : List UInt8) : (flat (rowsL l)).length ≤ l.length + 1 := by
  rcases rowsL_flat l with h | h <;> rw [h] <;> simp
theorem take_flat (R : List (List UInt8)) (y : Nat) : (R.take y).flatten.length ≤ R.flatten.length := by
  have h : R.flatten = (R.take y).flatten ++ (R.drop y).flatten := by rw [← List.flatten_append, List.take_append_drop]
  rw [h, List.length_append]
  omega
theorem lists_take (P : List ByteArray) (y : Nat) : listsOf (P.take y) = (listsOf P).take y := by simp [listsOf]

/-- The floor's block, as it is laid. -/
structure RB (w w1 wr : World) (W H : Int) (c : ByteArray) : Prop where
  box : Box w 0 0 ⟨#[]⟩ wr
  box2 : Box w1 W H c wr
  fz : ∀ o, wr.frozen? ⟨w.heap.size, o, none⟩ = false
  fz2 : ∀ o, wr.frozen? ⟨w1.heap.size, o, none⟩ = false
  lt : w.heap.size < w1.heap.size
theorem RB.later {w w1 wr wx : World} {W H : Int} {c : ByteArray} (h : RB w w1 wr W H c) (hb : Below wr.heap.size wr wx) : RB w w1 wx W H c :=
  ⟨h.box.after hb, h.box2.after hb, fun o => (hb.frozen (p := ⟨w.heap.size, o, none⟩) h.box.lt).trans (h.fz o), fun o => (hb.frozen (p := ⟨w1.heap.size, o, none⟩) h.box2.lt).trans (h.fz2 o), h.lt⟩
/-- A cell of the floor's block is written. -/
theorem RB.set0 {w w1 wr : World} {W H W' : Int} {c : ByteArray} (h : RB w w1 wr W H c) : RB w w1 (wr.setCell ⟨w1.heap.size, 0, none⟩ (.int .i64 W')) W' H c := by
  have n01 : (⟨w1.heap.size, 1, none⟩ : Addr) ≠ ⟨w1.heap.size, 0, none⟩ := by simp
  have n02 : (⟨w1.heap.size, 2, none⟩ : Addr) ≠ ⟨w1.heap.size, 0, none⟩ := by simp
  have hb : Below w1.heap.size w1 (wr.setCell ⟨w1.heap.size, 0, none⟩ (.int .i64 W')) := h.box2.below.setCell (Nat.le_refl _) _
  have hb0 : Below (w.heap.size + 1) wr (wr.setCell ⟨w1.heap.size, 0, none⟩ (.int .i64 W')) := (Below.refl _ _).setCell h.lt _
  refine ⟨h.box.later hb0, ⟨by rw [World.cell?_setCell_same (h := h.box2.c0)], by rw [World.cell?_setCell_other (h := n01.symm)]; exact h.box2.c1, by rw [World.cell?_setCell_other (h := n02.symm)]; exact h.box2.c2, by simpa [World.setCell] using h.box2.lt, hb⟩, fun o => ?_, fun o => ?_, h.lt⟩
  · rw [World.frozen?_setCell]; exact h.fz o
  · rw [World.frozen?_setCell]; exact h.fz2 o
theorem RB.set2 {w w1 wr : World} {W H : Int} {c c' : ByteArray} (h : RB w w1 wr W H c) : RB w w1 (wr.setCell ⟨w1.heap.size, 2, none⟩ (.string c')) W H c' := by
  have n01 : (⟨w1.heap.size, 0, none⟩ : Addr) ≠ ⟨w1.heap.size, 2, none⟩ := by simp
  have n02 : (⟨w1.heap.size, 1, none⟩ : Addr) ≠ ⟨w1.heap.size, 2, none⟩ := by simp
  have hb : Below w1.heap.size w1 (wr.setCell ⟨w1.heap.size, 2, none⟩ (.string c')) := h.box2.below.setCell (Nat.le_refl _) _
  have hb0 : Below (w.heap.size + 1) wr (wr.setCell ⟨w1.heap.size, 2, none⟩ (.string c')) := (Below.refl _ _).setCell h.lt _
  refine ⟨h.box.later hb0, ⟨by rw [World.cell?_setCell_other (h := n01.symm)]; exact h.box2.c0, by rw [World.cell?_setCell_other (h := n02.symm)]; exact h.box2.c1, by rw [World.cell?_setCell_same (h := h.box2.c2)], by simpa [World.setCell] using h.box2.lt, hb⟩, fun o => ?_, fun o => ?_, h.lt⟩
  · rw [World.frozen?_setCell]; exact h.fz o
  · rw [World.frozen?_setCell]; exact h.fz2 o

theorem cells_len (R : List (List UInt8)) : (cells R).size = R.flatten.length := by
  rw [← len_list]; simp [cells]
theorem cells_take (P : List ByteArray) (y : Nat) (h : y < P.length) : cells (listsOf (P.take (y + 1))) = cells (listsOf (P.take y)) ++ P.getD y ⟨#[]⟩ := by
  apply ByteArray.ext
  apply Array.ext'
  show (cells (listsOf (P.take (y + 1)))).data.toList = _
  have e : (cells (listsOf (P.take (y + 1)))).data.toList = (listsOf (P.take (y + 1))).flatten := by simp [cells]
  rw [e, flat_take P y h]
  simp [cells]
theorem w0_take (P : List ByteArray) (y : Nat) (h : y < P.length) : w0 (listsOf (P.take (y + 1))) = (P.getD 0 ⟨#[]⟩).size := by
  rw [w0_size]
  cases P with
  | nil => simp at h
  | cons p P => simp
theorem rwrong_is (A : Option Addr) (n cap : Nat) (P : List ByteArray) (i : Nat) (hi : i < P.length) (hn : n = P.length) (hl : P.length ≤ 3000) (hz : ∀ j, j < P.length → (P.getD j ⟨#[]⟩).size ≤ 3000)
    (w : World) (base : Nat) (ho : OwnS w base (.slice A n cap) P) (b : Bool) (hb : bad (listsOf P) i = b) :
    Calls Tryd.prog 32 #[.slice A n cap, .int .i64 (i : Int)] w fun e w' => e = .returned (.bool b) ∧ Below w.heap.size w w' :=
  (rwrong_any A n cap P i hi hn hl hz w base ho).mono fun e w' ⟨h1, h2⟩ => ⟨by rw [h1, hb], h2⟩
set_option maxHeartbeats 8000000 in
theorem rparse_any (s : ByteArray) (hs : s.size ≤ 2000) (w : World) : Calls Tryd.prog 12 #[.string s] w (PTold (rowsL s.data.toList) w) := by
  have hrl := rowsL_len s.data.toList
  rw [len_list] at hrl
  have HRR := Lib.hid (fun wx => rrows_any s hs wx)
  have HMM := Lib.hid (fun x => flat_mem (R := rowsL s.data.toList) (x := x))
  obtain ⟨hnum, hfl⟩ := flat_num (rowsL s.data.toList)
  generalize rowsL s.data.toList = R at *
  have HFL : Hid (R.flatten.length ≤ 2001) := Lib.hid (by omega)
  have HSZ : Hid (∀ x, x ∈ R → x.length ≤ 2000) := Lib.hid (fun x hx => by have := HMM.out x hx; omega)
  have hR : R.length ≤ 2001 := by omega
  clear hrl hnum hfl HMM
  go_enter Tryd.func12, Tryd.ntmps12
  go_wp2_with fail
  refine (HRR.out _).mono ?_
  rintro e w1 ⟨A, n, cap, P, rfl, hn, ho, hP, hb⟩
  have hn2 : n ≤ 2001 := by rw [hn, ← lists_len, hP]; exact hR
  have HX1 := Lib.hid ((Box.start w 0 0 ⟨#[]⟩ 24).after hb)
  have HF1 : Hid (∀ o, w1.frozen? ⟨w.heap.size, o, none⟩ = false) := Lib.hid (fun o => (hb.frozen (p := ⟨w.heap.size, o, none⟩) (by simp)).trans (World.frozen?_alloc_new _ _ _ _))
  have hwl : w.heap.size < w1.heap.size := by have := HX1.out.lt; omega
  have HN := Lib.hid hn
  have HO := Lib.hid ho
  have HP := Lib.hid hP
  clear hn ho hP hb
  go_wp2_with fail
  go_loopw [7] (fun iv wr => ∃ y : Nat, y ≤ n ∧ iv = .int .i64 (y : Int) ∧ RB w w1 wr (w0 (listsOf (P.take y)) : Int) (n : Int) (cells (listsOf (P.take y))) ∧ ∀ j, j < y → bad R j = false) (fun iv _ => n - (intOf iv).toNat)
  case atStart =>
    have e1 : w0 (listsOf (P.take 0)) = 0 := by simp [listsOf, w0]
    have e2 : cells (listsOf (P.take 0)) = ⟨#[]⟩ := by simp [listsOf, cells]
    have hbx : Below w1.heap.size w1 (w1.alloc (.cells #[.int .i64 0, .int .i64 (n : Int), .string ⟨#[]⟩] 24)) := (Below.refl _ _).alloc (Nat.le_refl _) _
    exact ⟨0, Nat.zero_le _, rfl, ⟨HX1.out.after hbx, by rw [e1, e2]; exact Box.start w1 0 (n : Int) ⟨#[]⟩ 24, fun o => (hbx.frozen (p := ⟨w.heap.size, o, none⟩) hwl).trans (HF1.out o), fun o => World.frozen?_alloc_new _ _ _ _, hwl⟩, fun j hj => by omega⟩
  case round =>
    rename World => wr
    obtain ⟨y, hy, rfl, hB, hJ⟩ := hrel
    have hO := HO.out.later hB.box2.below
    have HB := Lib.hid hB
    have HJ := Lib.hid hJ
    have k0 := hB.box.c0
    have k1 := hB.box.c1
    have k2 := hB.box.c2
    have q0 := hB.box2.c0
    have q1 := hB.box2.c1
    have q2 := hB.box2.c2
    have f0 := hB.fz 0
    have f1 := hB.fz 1
    have f2 := hB.fz 2
    have h0 := hB.fz2 0
    have h1 := hB.fz2 1
    have h2 := hB.fz2 2
    have HOr := Lib.hid hO
    by_cases hlt : y < n
    · have hyP : y < P.length := by rw [← HN.out]; exact hlt
      obtain ⟨g, rfl, hg, hgw, _⟩ := HO.out.at y hyP
      obtain ⟨g2, e, _, hgl, cy⟩ := hO.at y hyP
      obtain rfl : g = g2 := by simpa using e
      obtain ⟨g3, e3, _, _, c0⟩ := hO.at 0 (by omega)
      obtain rfl : g = g3 := by simpa using e3
      have HWR := Lib.hid (fun b (hbq : bad (listsOf P) y = b) => rwrong_is (some ⟨g, 0, none⟩) n cap P y hyP HN.out (by rw [← HN.out]; omega) (fun j hj => by
        have h := HSZ.out (P.getD j ⟨#[]⟩).data.toList (by rw [← HP.out]; unfold listsOf; rw [List.getD, List.getElem?_eq_getElem hj]; exact List.mem_map_of_mem (List.getElem_mem hj))
        rw [len_list] at h
        omega) wr _ hO b hbq)
      have HYL := Lib.hid hyP
      have HSC : Hid (cells (listsOf (P.take (y + 1))) = cells (listsOf (P.take y)) ++ P.getD y ⟨#[]⟩) := Lib.hid (cells_take P y hyP)
      have HSW : Hid (w0 (listsOf (P.take (y + 1))) = (P.getD 0 ⟨#[]⟩).size) := Lib.hid (w0_take P y hyP)
      have hcl : (cells (listsOf (P.take y))).size ≤ 2001 := by rw [cells_len, lists_take, HP.out]; exact Nat.le_trans (take_flat R y) HFL.out
      have hpl : (P.getD y ⟨#[]⟩).size ≤ 2000 := by
        have h := HSZ.out (P.getD y ⟨#[]⟩).data.toList (by rw [← HP.out]; unfold listsOf; rw [List.getD, List.getElem?_eq_getElem hyP]; exact List.mem_map_of_mem (List.getElem_mem hyP))
        rw [len_list] at h
        exact h
      have hpl0 : (P.getD 0 ⟨#[]⟩).size ≤ 2000 := by
        have h := HSZ.out (P.getD 0 ⟨#[]⟩).data.toList (by rw [← HP.out]; unfold listsOf; rw [List.getD, List.getElem?_eq_getElem (by omega)]; exact List.mem_map_of_mem (List.getElem_mem (by omega)))
        rw [len_list] at h
        exact h
      generalize cells (listsOf (P.take y)) = C at *
      generalize P.getD y ⟨#[]⟩ = py at *
      generalize P.getD 0 ⟨#[]⟩ = p0 at *
      clear hO hB hJ e e3 hyP
      cases hbq : bad (listsOf P) y with
      | true =>
        have HBQ := Lib.hid hbq
        have HW := Lib.hid (HWR.out true hbq)
        clear HWR hbq
        go_wp2_with fail
        refine HW.out.mono ?_
        rintro e w5 ⟨rfl, hb5⟩
        have HB5 := Lib.hid (HB.out.later hb5)
        have k0 := HB5.out.box.c0
        have k1 := HB5.out.box.c1
        have k2 := HB5.out.box.c2
        have f0 := HB5.out.fz 0
        have f1 := HB5.out.fz 1
        have f2 := HB5.out.fz 2
        clear hb5
        go_wp2_with fail
        obtain ⟨z0, z1, z2, zb⟩ := put3 (W' := 0) (H' := 0) (c' := ⟨#[]⟩) HB5.out.box
        exact bodyPost_ret (v := .tuple #[.agg #[.int .i64 0, .int .i64 0, .string ⟨#[]⟩], .int .i64 (y : Int), .int .i64 30]) (by simp [results, Tryd.results12, go_sem, z0, z1, z2]) rfl ⟨0, 0, _, y, 30, rfl, .inl ⟨by rw [← HP.out, lists_len]; exact HYL.out, by rw [← HP.out]; exact HBQ.out, HJ.out, rfl, rfl, rfl, rfl⟩, zb⟩
      | false =>
        have HBQ := Lib.hid hbq
        have HW := Lib.hid (HWR.out false hbq)
        clear HWR hbq
        go_wp2_with fail
        refine HW.out.mono ?_
        rintro e w5 ⟨rfl, hb5⟩
        have HB5 := Lib.hid (HB.out.later hb5)
        have HO5 := Lib.hid (HOr.out.later hb5)
        have r0 := HB5.out.box2.c0
        have r1 := HB5.out.box2.c1
        have r2 := HB5.out.box2.c2
        have s0 := HB5.out.fz2 0
        have s1 := HB5.out.fz2 1
        have s2 := HB5.out.fz2 2
        have ey := (hb5.cell (p := ⟨g, y, none⟩) hgl).trans cy
        have ez := (hb5.cell (p := ⟨g, 0, none⟩) hgl).trans c0
        clear hb5
        go_wp2_with fail
        have HB6 := Lib.hid (HB5.out.set0 (W' := (p0.size : Int)))
        have hne : (⟨g, y, none⟩ : Addr) ≠ ⟨w1.heap.size, 0, none⟩ := by
          intro e
          simp only [Addr.mk.injEq] at e
          omega
        have ey6 : (w5.setCell ⟨w1.heap.size, 0, none⟩ (.int .i64 (p0.size : Int))).cell? ⟨g, y, none⟩ = some (.string py) := by rw [World.cell?_setCell_other (h := hne.symm)]; exact ey
        generalize w5.setCell ⟨w1.heap.size, 0, none⟩ (.int .i64 (p0.size : Int)) = w6 at *
        have t0 := HB6.out.box2.c0
        have t1 := HB6.out.box2.c1
        have t2 := HB6.out.box2.c2
        have u0 := HB6.out.fz2 0
        have u1 := HB6.out.fz2 1
        have u2 := HB6.out.fz2 2
        clear r0 r1 r2 s0 s1 s2 ey ez hne
        go_region
        all_goals
          go_wp2_with fail
          go_roundw
          case rel => exact ⟨y + 1, by omega, by go_num, by rw [HSC.out, HSW.out]; first | exact HB6.out.set2 | exact (HB6.out.later ((Below.refl _ _).drew)).set2 | exact (HB6.out.later (below_drewN _ _ _)).set2, fun j hj => by rcases Nat.lt_succ_iff_lt_or_eq.1 hj with h | h; exact HJ.out j h; rw [h, ← HP.out]; exact HBQ.out⟩
          case measure => simp [intOf]; omega
    · have HNN := HN.out
      obtain rfl : y = n := by omega
      have eW : w0 (listsOf (P.take y)) = w0 R := by rw [HNN, List.take_length, HP.out]
      have eC : cells (listsOf (P.take y)) = cells R := by rw [HNN, List.take_length, HP.out]
      have eN : y = R.length := by rw [HNN, ← HP.out, lists_len]
      rw [eW] at q0 hB HB
      rw [eC] at q2 hB HB
      have hcl : (cells R).size ≤ maxLen := by rw [cells_len]; have := HFL.out; unfold maxLen; omega
      have HRT := Lib.hid (fun wx => rright_any (w0 R : Int) (y : Int) (cells R) hcl wx)
      have HEN := Lib.hid eN
      have HALL : Hid (∀ j, j < R.length → bad R j = false) := Lib.hid (by rw [← eN]; exact HJ.out)
      clear hO hB hJ eW eC eN hcl HNN
      generalize hcq : cells R = cc at *
      have HCQ := Lib.hid hcq
      clear hcq
      obtain ⟨W0, hW0⟩ : ∃ W0, W0 = w0 R := ⟨_, rfl⟩
      rw [← hW0] at q0 HB HRT
      have HWQ := Lib.hid hW0
      clear hW0
      go_wp2_with fail
      refine (HRT.out _).mono ?_
      rintro e w4 ⟨b, rfl, hb4, hw4⟩
      have HB4 := Lib.hid (HB.out.later hw4)
      have r0 := HB4.out.box2.c0
      have r1 := HB4.out.box2.c1
      have r2 := HB4.out.box2.c2
      have k0 := HB4.out.box.c0
      have k1 := HB4.out.box.c1
      have k2 := HB4.out.box.c2
      have f0 := HB4.out.fz 0
      have f1 := HB4.out.fz 1
      have f2 := HB4.out.fz 2
      have HRB := Lib.hid hb4
      clear hb4 hw4 q0 q1 q2
      cases b
      · have HNo : Hid (¬ Right (w0 R : Int) (R.length : Int) cc) := Lib.hid (fun h => by rw [← HWQ.out, ← HEN.out] at h; have := HRB.out.2 h; cases this)
        go_wp2_with fail
        obtain ⟨z0, z1, z2, zb⟩ := put3 (W' := 0) (H' := 0) (c' := ⟨#[]⟩) HB4.out.box
        exact bodyPost_ret (v := .tuple #[.agg #[.int .i64 0, .int .i64 0, .string ⟨#[]⟩], .int .i64 (y : Int), .int .i64 30]) (by simp [results, Tryd.results12, go_sem, z0, z1, z2]) rfl ⟨0, 0, _, y, 30, rfl, .inr (.inr ⟨HALL.out, by rw [HCQ.out]; exact HNo.out, rfl, rfl, rfl, HEN.out, rfl⟩), zb⟩
      · have HYe : Hid (Right (w0 R : Int) (R.length : Int) cc) := Lib.hid (by have h := HRB.out.1 rfl; rw [HWQ.out, HEN.out] at h; exact h)
        go_wp2_with fail
        obtain ⟨z0, z1, z2, zb⟩ := put3 (W' := (W0 : Int)) (H' := (y : Int)) (c' := cc) HB4.out.box
        exact bodyPost_ret (v := .tuple #[.agg #[.int .i64 (W0 : Int), .int .i64 (y : Int), .string cc], .int .i64 0, .int .i64 0]) (by simp [results, Tryd.results12, go_sem, z0, z1, z2]) rfl ⟨_, _, _, 0, 0, rfl, .inr (.inl ⟨HALL.out, by rw [HCQ.out]; exact HYe.out, by rw [HWQ.out], by rw [HEN.out], HCQ.out.symm, rfl, rfl⟩), zb⟩

end Go.Proofs.YtlecichbenpiiaaDoor
