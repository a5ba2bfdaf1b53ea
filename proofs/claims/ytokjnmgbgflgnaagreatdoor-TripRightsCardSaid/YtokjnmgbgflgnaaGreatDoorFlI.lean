/-
  A text is parsed: Parse.
-/
import Derived.Test.YtokjnmgbgflgnaaGreatDoorFlH
set_option linter.unusedVariables false
set_option maxRecDepth 100000
namespace Go.Proofs.YtokjnmgbgflgnaaGreatDoor
open Go.RowKit Fl

/-- What a text is parsed as is told. -/
def PTold (R : List (List UInt8)) (w : World) (e : Ending) (w' : World) : Prop :=
  ∃ (W H : Int) (c : ByteArray) (row : Nat) (err : Int), e = .returned (.tuple #[.agg #[.int .i64 W, .int .i64 H, .string c], .int .i64 (row : Int), .int .i64 err]) ∧ POut R W H c row err ∧ Below w.heap.size w w'
theorem out_rows {s : ByteArray} {W H : Int} {c : ByteArray} {row : Nat} {err : Int} (h : POut (listsOf (pieces 17 (trimB s))) W H c row err) : POut (rowsL s.data.toList) W H c row err := by
  obtain ⟨a1, a2, a3⟩ := rows_pieces (trimB s)
  rw [trimB_list] at a1 a2 a3
  by_cases hl : s.data.toList = []
  · rw [hl] at a3 ⊢
    have h3 := a3 (by decide)
    rw [h3] at h
    exact POut.nil h
  · rw [rows_trim _ hl]
    exact POut.of a1 a2 a3 h
/-- The answer's block, the rows' block. -/
structure PB (w wr : World) (g : Nat) (P : List ByteArray) : Prop where
  box : Box w 0 0 ⟨#[]⟩ wr
  strs : Strs wr g P
  fz : ∀ o, wr.frozen? ⟨w.heap.size, o, none⟩ = false
theorem PB.later {w wr wx : World} {g : Nat} {P : List ByteArray} (h : PB w wr g P) (hb : Below wr.heap.size wr wx) : PB w wx g P :=
  ⟨h.box.after hb, h.strs.later hb, fun o => (hb.frozen (p := ⟨w.heap.size, o, none⟩) h.box.lt).trans (h.fz o)⟩
theorem row_all {P : List ByteArray} {j : Nat} (h : bad (listsOf P) j = false) : j < 16 ∧ rowOk (P.getD 0 ⟨#[]⟩).size (P.getD j ⟨#[]⟩).data.toList = true := by
  unfold bad at h
  rw [lists_get] at h
  have e : w0 (listsOf P) = (P.getD 0 ⟨#[]⟩).size := by unfold w0; rw [lists_get, size_list]
  rw [e] at h
  simp only [Bool.or_eq_false_iff, decide_eq_false_iff_not, Bool.not_eq_false'] at h
  exact ⟨by omega, h.2⟩
theorem w0_size (P : List ByteArray) : w0 (listsOf P) = (P.getD 0 ⟨#[]⟩).size := by unfold w0; rw [lists_get, size_list]
theorem bad_of {P : List ByteArray} {j : Nat} (h : 16 ≤ j ∨ rowOk (P.getD 0 ⟨#[]⟩).size (P.getD j ⟨#[]⟩).data.toList = false) : bad (listsOf P) j = true := by
  unfold bad
  rw [lists_get, w0_size]
  rcases h with h | h
  · rw [decide_eq_true h]; rfl
  · rw [h]; simp
theorem bad_not {P : List ByteArray} {j : Nat} (h1 : j < 16) (h : rowOk (P.getD 0 ⟨#[]⟩).size (P.getD j ⟨#[]⟩).data.toList = true) : bad (listsOf P) j = false := by
  unfold bad
  rw [lists_get, w0_size, h, decide_eq_false (by omega)]
  rfl

theorem split_size (k : Nat) (s p : ByteArray) (h : p ∈ Lib.splitB nl 0 k s) : p.size ≤ s.size := by
  induction k generalizing s with
  | zero =>
    rw [Lib.splitB, List.mem_singleton] at h
    subst h; exact Nat.le_refl _
  | succ k ih =>
    unfold Lib.splitB at h
    split at h
    · rw [List.mem_singleton] at h
      subst h; exact Nat.le_refl _
    · rcases List.mem_cons.1 h with rfl | h2
      · rw [ByteArray.size_extract]; omega
      · have := ih _ h2
        rw [ByteArray.size_extract] at this
        omega
/-- The answer is laid. -/
theorem put3 {w wq : World} {W H W' H' : Int} {c c' : ByteArray} (h : Box w W H c wq) :
    let wz := ((wq.setCell ⟨w.heap.size, 0, none⟩ (.int .i64 W')).setCell ⟨w.heap.size, 1, none⟩ (.int .i64 H')).setCell ⟨w.heap.size, 2, none⟩ (.string c')
    wz.cell? ⟨w.heap.size, 0, none⟩ = some (.int .i64 W') ∧ wz.cell? ⟨w.heap.size, 1, none⟩ = some (.int .i64 H') ∧ wz.cell? ⟨w.heap.size, 2, none⟩ = some (.string c') ∧ Below w.heap.size w wz := by
  intro wz
  have n01 : (⟨w.heap.size, 0, none⟩ : Addr) ≠ ⟨w.heap.size, 1, none⟩ := by simp
  have n02 : (⟨w.heap.size, 0, none⟩ : Addr) ≠ ⟨w.heap.size, 2, none⟩ := by simp
  have n12 : (⟨w.heap.size, 1, none⟩ : Addr) ≠ ⟨w.heap.size, 2, none⟩ := by simp
  refine ⟨?_, ?_, ?_, ((h.below.setCell (p := ⟨w.heap.size, 0, none⟩) (Nat.le_refl _) _).setCell (p := ⟨w.heap.size, 1, none⟩) (Nat.le_refl _) _).setCell (p := ⟨w.heap.size, 2, none⟩) (Nat.le_refl _) _⟩
  · rw [World.cell?_setCell_other (h := n02.symm), World.cell?_setCell_other (h := n01.symm), World.cell?_setCell_same (h := h.c0)]
  · rw [World.cell?_setCell_other (h := n12.symm), World.cell?_setCell_same (u := .int .i64 H) (h := by rw [World.cell?_setCell_other (h := n01)]; exact h.c1)]
  · rw [World.cell?_setCell_same (u := .string c) (h := by rw [World.cell?_setCell_other (h := n12), World.cell?_setCell_other (h := n02)]; exact h.c2)]

set_option maxHeartbeats 4000000 in
theorem parse_any (s : ByteArray) (hs : s.size ≤ 2000) (w : World) : Calls Tryz.prog 21 #[.string s] w (PTold (rowsL s.data.toList) w) := by
  have HO := Lib.hid (fun (W H : Int) (c : ByteArray) (row : Nat) (err : Int) => out_rows (s := s) (W := W) (H := H) (c := c) (row := row) (err := err))
  have HRO := Lib.hid (fun wx => rowsOf_any s hs wx)
  have hpl := pieces_le (trimB s)
  have hpp := pieces_pos (trimB s)
  have HSZ : Hid (∀ i, i < (pieces 17 (trimB s)).length → ((pieces 17 (trimB s)).getD i ⟨#[]⟩).size ≤ maxLen) := Lib.hid (fun i hi => by
    have h1 : (pieces 17 (trimB s)).getD i ⟨#[]⟩ ∈ pieces 17 (trimB s) := by rw [List.getD, List.getElem?_eq_getElem hi]; exact List.getElem_mem hi
    have h2 := split_size _ _ _ h1
    have h3 := trimB_le s
    unfold maxLen
    omega)
  generalize pieces 17 (trimB s) = P at *
  go_enter Tryz.func21, Tryz.ntmps21
  go_wp2_with fail
  refine (HRO.out _).mono ?_
  rintro e w1 ⟨g, c, rfl, hst, hb⟩
  have HPB : Hid (PB w w1 g P) := Lib.hid ⟨(Box.start w 0 0 ⟨#[]⟩ 23).after hb, hst, fun o => (hb.frozen (p := ⟨w.heap.size, o, none⟩) (by simp)).trans (World.frozen?_alloc_new _ _ _ _)⟩
  clear hst hb HRO
  go_wp2_with fail
  go_loopw [12] (fun iv wr => ∃ y : Nat, y ≤ P.length ∧ iv = .int .i64 (y : Int) ∧ PB w wr g P ∧ ∀ j, j < y → bad (listsOf P) j = false) (fun iv _ => P.length - (intOf iv).toNat)
  case atStart => exact ⟨0, Nat.zero_le _, rfl, HPB.out, fun j hj => by omega⟩
  case round =>
    rename World => wr
    obtain ⟨y, hy, rfl, hPB, hJ⟩ := hrel
    have HB := Lib.hid hPB
    have HJ := Lib.hid hJ
    have k0 := hPB.box.c0
    have k1 := hPB.box.c1
    have k2 := hPB.box.c2
    have f0 := hPB.fz 0
    have f1 := hPB.fz 1
    have f2 := hPB.fz 2
    have hz := hPB.box.lt
    clear hPB hJ
    by_cases hlt : y < P.length
    · have cy := HB.out.strs.cell y hlt
      have c0 := HB.out.strs.cell 0 (by omega)
      have i1 : (y : Int) < (P.length : Int) := by omega
      by_cases h16 : 16 ≤ y
      · have d16 : decide (16 ≤ y) = true := by simpa using h16
        have d16' : decide (16 ≤ (y : Int)) = true := by simp; omega
        have HBD := Lib.hid (bad_of (P := P) (.inl h16))
        go_wp2_with fail
        go_big_quiet (fail)
        go_wp2_with fail
        obtain ⟨z0, z1, z2, zb⟩ := put3 (W' := 0) (H' := 0) (c' := ⟨#[]⟩) (HB.out.box.later (below_drewN _ _ nq))
        exact bodyPost_ret (v := .tuple #[.agg #[.int .i64 0, .int .i64 0, .string ⟨#[]⟩], .int .i64 (y : Int), .int .i64 30]) (by simp [results, Tryz.results21, go_sem, z0, z1, z2]) rfl ⟨0, 0, _, y, 30, rfl, HO.out _ _ _ _ _ (.inl ⟨by rw [lists_len]; exact hlt, HBD.out, HJ.out, rfl, rfl, rfl, rfl⟩), zb⟩
      · have d16 : decide (16 ≤ y) = false := by simpa using h16
        have d16' : decide (16 ≤ (y : Int)) = false := by simp; omega
        have hpy := HSZ.out y hlt
        have hp0 := HSZ.out 0 (by omega)
        have HBF := Lib.hid (fun h => bad_of (P := P) (j := y) (.inr h))
        have HBT := Lib.hid (fun h => bad_not (P := P) (j := y) (by omega) h)
        generalize P.getD y ⟨#[]⟩ = p at *
        generalize P.getD 0 ⟨#[]⟩ = p0 at *
        have hp0' := hp0
        unfold maxLen at hp0'
        cases hok : rowOk p0.size p.data.toList with
        | false =>
          have HBD := Lib.hid (HBF.out hok)
          go_wp2_with fail
          go_big_quiet ((go_at_call 41; exact Calls.quiet_of_same ((rowRight_is p hpy p0.size false _ hok).mono (fun e w' ⟨h, k⟩ => ⟨h, k.symm⟩))))
          go_wp2_with fail
          obtain ⟨z0, z1, z2, zb⟩ := put3 (W' := 0) (H' := 0) (c' := ⟨#[]⟩) (HB.out.box.later (below_drewN _ _ nq))
          exact bodyPost_ret (v := .tuple #[.agg #[.int .i64 0, .int .i64 0, .string ⟨#[]⟩], .int .i64 (y : Int), .int .i64 30]) (by simp [results, Tryz.results21, go_sem, z0, z1, z2]) rfl ⟨0, 0, _, y, 30, rfl, HO.out _ _ _ _ _ (.inl ⟨by rw [lists_len]; exact hlt, HBD.out, HJ.out, rfl, rfl, rfl, rfl⟩), zb⟩
        | true =>
          have HBD := Lib.hid (HBT.out hok)
          go_wp2_with fail
          go_big_quiet ((go_at_call 41; exact Calls.quiet_of_same ((rowRight_is p hpy p0.size true _ hok).mono (fun e w' ⟨h, k⟩ => ⟨h, k.symm⟩))))
          go_wp2_with fail
          go_roundw
          case rel => exact ⟨y + 1, by omega, by go_num, HB.out.later (below_drewN _ _ _), fun j hj => by rcases Nat.lt_succ_iff_lt_or_eq.1 hj with h | h; exact HJ.out j h; rw [h]; exact HBD.out⟩
          case measure => simp [intOf]; omega
    · obtain rfl : y = P.length := by omega
      have c0 := HB.out.strs.cell 0 (by omega)
      have i1 : (0 : Int) < (P.length : Int) := by omega
      have i2 : 0 < P.length := by omega
      have HRW : Hid (∀ i, i < P.length → (P.getD i ⟨#[]⟩).size ≤ 16) := Lib.hid (fun i hi => by
        have h := (row_all (HJ.out i hi)).2
        unfold rowOk at h
        rw [size_list] at h
        simp only [Bool.and_eq_true, decide_eq_true_eq] at h
        exact h.1.1.2)
      have HW0 : Hid (((w0 (listsOf P) : Nat) : Int) = ((P.getD 0 ⟨#[]⟩).size : Int)) := Lib.hid (by rw [w0_size])
      have HCS : Hid ((cells (listsOf P)).size ≤ maxLen) := Lib.hid (by
        have h := flat_le P HRW.out P.length (Nat.le_refl _)
        rw [List.take_length] at h
        have e : (cells (listsOf P)).size = (listsOf P).flatten.length := by rw [← size_list]; simp [cells]
        rw [e]
        unfold maxLen
        omega)
      have hp0 := HRW.out 0 (by omega)
      have hgl := HB.out.strs.lt
      generalize P.getD 0 ⟨#[]⟩ = p0 at *
      have HJN := Lib.hid (fun wx h => join_any g c P wx h hpl HRW.out)
      have hne := World.new_ne wr _ c0
      have hne1 : wr.heap.size ≠ g := by omega
      have hne2 : g ≠ wr.heap.size := by omega
      go_upto_region 8 with (fail)
      go_cut [7] (fun v wc => ∃ g7 : Nat, v = .pointer (some ⟨g7, 0, none⟩) ∧ wc.cell? ⟨g7, 0, none⟩ = some (.int .i64 (p0.size : Int)) ∧ wc.cell? ⟨g7, 1, none⟩ = some (.int .i64 (P.length : Int)) ∧ wc.cell? ⟨g7, 2, none⟩ = some (.string (cells (listsOf P))) ∧ g7 < wc.heap.size ∧ w.heap.size < g7 ∧ PB w wc g P)
      case first =>
        go_region_held3 (fun w' => w'.cell? ⟨g, 0, none⟩ = some (.string p0)) (go_keep)
          ((go_at_call 42; refine (HJN.out _ (by first | exact HB.out.strs.later ((Below.refl _ _).drew) | exact HB.out.strs.later (((Below.refl _ _).alloc (Nat.le_refl _) _).drew))).mono ?_; rintro e w2 ⟨rfl, hb2⟩; have e0 : w2.cell? ⟨g, 0, none⟩ = some (.string p0) := ((hb2.cell (p := ⟨g, 0, none⟩) (by simp; omega)).trans (by simp [World.cell?_alloc_lt, hgl, c0])); have hcl := fun (b o : Nat) (h : b < _) => hb2.cell (p := ⟨b, o, none⟩) h; have hfl := fun (b o : Nat) (h : b < _) => hb2.frozen (p := ⟨b, o, none⟩) h; have hsz2 := hb2.size; simp at hsz2))
        all_goals
          go_wp2_with fail
          go_meet
          first
            | exact ⟨w2.heap.size, rfl, by simp [World.cell?_alloc_new], by simp [World.cell?_alloc_new], by simp [World.cell?_alloc_new], by simp, Nat.lt_of_lt_of_le hz (show wr.heap.size ≤ w2.heap.size from hb2.size), HB.out.later (((Below.refl wr.heap.size wr).drew.trans hb2).alloc (show wr.heap.size ≤ w2.heap.size from hb2.size) _)⟩
            | (obtain ⟨z0, z1, z2, zb⟩ := put3 (W' := (p0.size : Int)) (H' := (P.length : Int)) (c' := cells (listsOf P)) ((Box.start wr 0 0 ⟨#[]⟩ 23).drew.after hb2)
               exact ⟨wr.heap.size, rfl, z0, z1, z2, (by have h := ((Box.start wr 0 0 ⟨#[]⟩ 23).drew.after hb2).lt; simp [World.setCell]; omega), hz, HB.out.later zb⟩)
      case rest =>
        obtain ⟨g7, rfl, q0, q1, q2, hg7, hw7, hPB⟩ := hcut
        have HB := Lib.hid hPB
        have HRI := Lib.hid (fun wx => right_any (p0.size : Int) (P.length : Int) (cells (listsOf P)) HCS.out wx)
        have HWE : Hid (Right (p0.size : Int) (P.length : Int) (cells (listsOf P)) ↔ Right (w0 (listsOf P) : Int) ((listsOf P).length : Int) (cells (listsOf P))) := Lib.hid (by rw [HW0.out, lists_len])
        have HAL : Hid (∀ j, j < (listsOf P).length → bad (listsOf P) j = false) := Lib.hid (by rw [lists_len]; exact HJ.out)
        have HCE : Hid (cells (listsOf P) = cells (listsOf P)) := Lib.hid rfl
        clear hPB k0 k1 k2 f0 f1 f2 c0 hgl hne hne1 hne2
        generalize hcq : cells (listsOf P) = cc at *
        have HCQ := Lib.hid hcq
        clear hcq
        go_wp2_with fail
        refine (HRI.out _).mono ?_
        rintro e w4 ⟨b, rfl, hb4, hw4⟩
        have HB4 := Lib.hid (HB.out.later hw4)
        have r0 := (hw4.cell (p := ⟨g7, 0, none⟩) hg7).trans q0
        have r1 := (hw4.cell (p := ⟨g7, 1, none⟩) hg7).trans q1
        have r2 := (hw4.cell (p := ⟨g7, 2, none⟩) hg7).trans q2
        have k0 := HB4.out.box.c0
        have k1 := HB4.out.box.c1
        have k2 := HB4.out.box.c2
        have f0 := HB4.out.fz 0
        have f1 := HB4.out.fz 1
        have f2 := HB4.out.fz 2
        have HRB := Lib.hid hb4
        clear hb4 hw4 q0 q1 q2 hg7 HRI
        cases b
        · have HNo : Hid (¬ Right (w0 (listsOf P) : Int) ((listsOf P).length : Int) cc) := Lib.hid (fun h => by have := HRB.out.2 (HWE.out.2 h); cases this)
          go_wp2_with fail
          obtain ⟨z0, z1, z2, zb⟩ := put3 (W' := 0) (H' := 0) (c' := ⟨#[]⟩) HB4.out.box
          exact bodyPost_ret (v := .tuple #[.agg #[.int .i64 0, .int .i64 0, .string ⟨#[]⟩], .int .i64 (P.length : Int), .int .i64 30]) (by simp [results, Tryz.results21, go_sem, z0, z1, z2]) rfl ⟨0, 0, _, P.length, 30, rfl, HO.out _ _ _ _ _ (.inr (.inr ⟨HAL.out, by rw [HCQ.out]; exact HNo.out, rfl, rfl, rfl, (lists_len P).symm, rfl⟩)), zb⟩
        · have HYe : Hid (Right (w0 (listsOf P) : Int) ((listsOf P).length : Int) cc) := Lib.hid (HWE.out.1 (HRB.out.1 (by trivial)))
          go_wp2_with fail
          obtain ⟨z0, z1, z2, zb⟩ := put3 (W' := (p0.size : Int)) (H' := (P.length : Int)) (c' := cc) HB4.out.box
          exact bodyPost_ret (v := .tuple #[.agg #[.int .i64 (p0.size : Int), .int .i64 (P.length : Int), .string cc], .int .i64 0, .int .i64 0]) (by simp [results, Tryz.results21, go_sem, z0, z1, z2]) rfl ⟨_, _, _, 0, 0, rfl, HO.out _ _ _ _ _ (.inr (.inl ⟨HAL.out, by rw [HCQ.out]; exact HYe.out, HW0.out.symm, by rw [lists_len], HCQ.out.symm, rfl, rfl⟩)), zb⟩

end Go.Proofs.YtokjnmgbgflgnaaGreatDoor
