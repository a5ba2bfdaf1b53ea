/-
  Layer 11: of the laws: Same of like claims; the state in a law's loop.
-/
import Derived.Test.YtakgkocdkondhaaGreatDoorTfR
set_option linter.unusedVariables false
set_option maxRecDepth 100000
namespace Go.Proofs.YtakgkocdkondhaaGreatDoor
namespace Tf
open Go.RowKit Fl Tr Pt
open Bk (Cm hold need Cl Lt MayP)
open Lk (Ow T0 zns at9)

set_option maxHeartbeats 4000000 in
theorem same11_any (A A2 : Option Addr) (n c n2 c2 : Nat) (C : Cm) (w : World) (h : Cl w.heap.size w A n c C) (h2 : Cl w.heap.size w A2 n2 c2 C) : Calls Tryz.prog 17 #[.slice A n c, .slice A2 n2 c2] w fun e w' => e = .returned (.bool true) ∧ Below w.heap.size w w' := by
  have HC := Lib.hid h
  have HD := Lib.hid h2
  obtain rfl : n2 = n := by rw [← h.len, ← h2.len]
  obtain ⟨e1, e2⟩ := h.size
  obtain ⟨e3, e4⟩ := h2.size
  clear h h2
  go_enter Tryz.func17, Tryz.ntmps17
  go_wp2_with fail
  go_loopw [5] (fun iv wr => ∃ j : Nat, j ≤ n2 ∧ iv = .int .i64 (j : Int) ∧ Hid (Below w.heap.size w wr)) (fun iv _ => n2 - (intOf iv).toNat)
  case atStart => exact ⟨0, Nat.zero_le _, rfl, Lib.hid (Below.refl _ _)⟩
  case round =>
    rename World => wr
    obtain ⟨j, hj, rfl, HB⟩ := hrel
    by_cases hlt : j < n2
    · obtain ⟨g, off, a1, n1, c1, a3, n3, c3, rfl, hg, q1, q2, k1, k2⟩ := (HC.out.below HB.out).cell hlt
      obtain ⟨g', off', b1, m1, d1, b3, m3, d3, rfl, hg', r1, r2, l1, l2⟩ := (HD.out.below HB.out).cell hlt
      have hjI : (j : Int) < (n2 : Int) := by omega
      have hgr := Nat.lt_of_lt_of_le hg HB.out.size
      have hgr' := Nat.lt_of_lt_of_le hg' HB.out.size
      have S1 := Lib.hid (fun wx (hb : Below wr.heap.size wr wx) => Bk.same_any a1 n1 c1 wx.heap.size (hold C j) b1 m1 d1 wx.heap.size (hold C j) wx ((Bk.Gt.below k1 (hb.mono HB.out.size)).raise (Nat.le_trans HB.out.size hb.size)) ((Bk.Gt.below l1 (hb.mono HB.out.size)).raise (Nat.le_trans HB.out.size hb.size)) (Nat.le_refl _) (Nat.le_refl _))
      have S2 := Lib.hid (fun wx (hb : Below wr.heap.size wr wx) => Bk.same_any a3 n3 c3 wx.heap.size (need C j) b3 m3 d3 wx.heap.size (need C j) wx ((Bk.Gt.below k2 (hb.mono HB.out.size)).raise (Nat.le_trans HB.out.size hb.size)) ((Bk.Gt.below l2 (hb.mono HB.out.size)).raise (Nat.le_trans HB.out.size hb.size)) (Nat.le_refl _) (Nat.le_refl _))
      clear k1 k2 l1 l2 hg hg'
      go_upto_region 6 with (fail)
      refine wp_region_held_drew (S := fun w' => w'.cell? ⟨g, off + j * 2, none⟩ = some (.slice a1 n1 c1) ∧ w'.cell? ⟨g, off + j * 2 + 1, none⟩ = some (.slice a3 n3 c3) ∧ w'.cell? ⟨g', off' + j * 2, none⟩ = some (.slice b1 m1 d1) ∧ w'.cell? ⟨g', off' + j * 2 + 1, none⟩ = some (.slice b3 m3 d3)) (by kernel_rfl) (by simp; exact ⟨q1, q2, r1, r2⟩) (fun hS0 => ?_)
      (refine wpAnyH_take (i := 0) (oi := ⟨some 17, _, _, _, _, _⟩) (v := .slice (some ⟨g, off, none⟩) n2 c) rfl (by kernel_rfl) (by kernel_rfl) (by kernel_rfl) (fun _ _ _ h => h) (Or.inl ⟨by rfl, ?_⟩) (by assumption) ?_; (intro w hSw; (try dsimp only at hSw); go_simp); (try simp only [Act.put, List.setIfInBounds_toArray, List.set_cons_zero, List.set_cons_succ]))
      (refine wpAnyH_take (i := 1) (oi := ⟨some 18, _, _, _, _, _⟩) (v := .int .i64 (j : Int)) rfl (by kernel_rfl) (by kernel_rfl) (by kernel_rfl) (fun _ _ _ h => h) (Or.inl ⟨by rfl, ?_⟩) (by assumption) ?_; (intro w hSw; (try dsimp only at hSw); go_simp); (try simp only [Act.put, List.setIfInBounds_toArray, List.set_cons_zero, List.set_cons_succ]))
      (refine wpAnyH_take (i := 2) (oi := ⟨some 19, _, _, _, _, _⟩) (v := .pointer (some ⟨g, off + j * 2, none⟩)) rfl (by kernel_rfl) (by kernel_rfl) (by kernel_rfl) (fun _ _ _ h => h) (Or.inl ⟨by rfl, ?_⟩) (by assumption) ?_; (intro w hSw; (try dsimp only at hSw); go_simp); (try simp only [Act.put, List.setIfInBounds_toArray, List.set_cons_zero, List.set_cons_succ]))
      (refine wpAnyH_take (i := 3) (oi := ⟨some 20, _, _, _, _, _⟩) (v := .pointer (some ⟨g, off + j * 2, none⟩)) rfl (by kernel_rfl) (by kernel_rfl) (by kernel_rfl) (fun _ _ _ h => h) (Or.inl ⟨by rfl, ?_⟩) (by assumption) ?_; (intro w hSw; (try dsimp only at hSw); go_simp); (try simp only [Act.put, List.setIfInBounds_toArray, List.set_cons_zero, List.set_cons_succ]))
      (refine wpAnyH_take (i := 4) (oi := ⟨some 21, _, _, _, _, _⟩) (v := .slice a1 n1 c1) rfl (by kernel_rfl) (by kernel_rfl) (by kernel_rfl) (fun _ _ _ h => h) (Or.inl ⟨by rfl, ?_⟩) (by assumption) ?_; (intro w hSw; (try dsimp only at hSw); go_simp); (try simp only [Act.put, List.setIfInBounds_toArray, List.set_cons_zero, List.set_cons_succ]))
      (refine wpAnyH_take (i := 5) (oi := ⟨some 22, _, _, _, _, _⟩) (v := .slice (some ⟨g', off', none⟩) n2 c2) rfl (by kernel_rfl) (by kernel_rfl) (by kernel_rfl) (fun _ _ _ h => h) (Or.inl ⟨by rfl, ?_⟩) (by assumption) ?_; (intro w hSw; (try dsimp only at hSw); go_simp); (try simp only [Act.put, List.setIfInBounds_toArray, List.set_cons_zero, List.set_cons_succ]))
      (refine wpAnyH_take (i := 6) (oi := ⟨some 23, _, _, _, _, _⟩) (v := .int .i64 (j : Int)) rfl (by kernel_rfl) (by kernel_rfl) (by kernel_rfl) (fun _ _ _ h => h) (Or.inl ⟨by rfl, ?_⟩) (by assumption) ?_; (intro w hSw; (try dsimp only at hSw); go_simp); (try simp only [Act.put, List.setIfInBounds_toArray, List.set_cons_zero, List.set_cons_succ]))
      (refine wpAnyH_take (i := 7) (oi := ⟨some 24, _, _, _, _, _⟩) (v := .pointer (some ⟨g', off' + j * 2, none⟩)) rfl (by kernel_rfl) (by kernel_rfl) (by kernel_rfl) (fun _ _ _ h => h) (Or.inl ⟨by rfl, ?_⟩) (by assumption) ?_; (intro w hSw; (try dsimp only at hSw); go_simp); (try simp only [Act.put, List.setIfInBounds_toArray, List.set_cons_zero, List.set_cons_succ]))
      (refine wpAnyH_take (i := 8) (oi := ⟨some 25, _, _, _, _, _⟩) (v := .pointer (some ⟨g', off' + j * 2, none⟩)) rfl (by kernel_rfl) (by kernel_rfl) (by kernel_rfl) (fun _ _ _ h => h) (Or.inl ⟨by rfl, ?_⟩) (by assumption) ?_; (intro w hSw; (try dsimp only at hSw); go_simp); (try simp only [Act.put, List.setIfInBounds_toArray, List.set_cons_zero, List.set_cons_succ]))
      (refine wpAnyH_take (i := 9) (oi := ⟨some 26, _, _, _, _, _⟩) (v := .slice b1 m1 d1) rfl (by kernel_rfl) (by kernel_rfl) (by kernel_rfl) (fun _ _ _ h => h) (Or.inl ⟨by rfl, ?_⟩) (by assumption) ?_; (intro w hSw; (try dsimp only at hSw); go_simp); (try simp only [Act.put, List.setIfInBounds_toArray, List.set_cons_zero, List.set_cons_succ]))
      refine wpAnyH_ready (rs := [10]) (by kernel_rfl) (by simp) ?_
      refine AllReadyH.cons (o := ⟨some 27, _, _, _, _, _⟩) rfl (fun K hK => ?_) AllReadyH.nil
      go_simp
      refine (S1.out _ (Below.refl _ _).drew).mono ?_
      rintro e w2 ⟨b, rfl, hb, hb2⟩
      obtain rfl : b = true := hb.2 rfl
      have HB2 : Hid (Below wr.heap.size wr w2) := Lib.hid ((Below.refl _ wr).drew.trans hb2)
      have x1 := (HB2.out.cell (p := ⟨g, off + j * 2, none⟩) hgr).trans q1
      have x2 := (HB2.out.cell (p := ⟨g, off + j * 2 + 1, none⟩) hgr).trans q2
      have x3 := (HB2.out.cell (p := ⟨g', off' + j * 2, none⟩) hgr').trans r1
      have x4 := (HB2.out.cell (p := ⟨g', off' + j * 2 + 1, none⟩) hgr').trans r2
      clear hb hb2
      refine hK.out _ _ ⟨x1, x2, x3, x4⟩ (fun hS27 => ?_)
      clear hK
      (try simp only [Act.put, List.setIfInBounds_toArray, List.set_cons_zero, List.set_cons_succ])
      (refine wpAnyH_take (i := 11) (oi := ⟨some 28, _, _, _, _, _⟩) (v := .bool false) rfl (by kernel_rfl) (by kernel_rfl) (by kernel_rfl) (fun _ _ _ h => h) (Or.inl ⟨by rfl, ?_⟩) (by assumption) ?_; (intro w hSw; (try dsimp only at hSw); go_simp); (try simp only [Act.put, List.setIfInBounds_toArray, List.set_cons_zero, List.set_cons_succ]))
      (refine wpAnyH_take (i := 12) (oi := ⟨some 29, _, _, _, _, _⟩) (v := .bool false) rfl (by kernel_rfl) (by kernel_rfl) (by kernel_rfl) (fun _ _ _ h => h) (Or.inl ⟨by rfl, ?_⟩) (by assumption) ?_; (intro w hSw; (try dsimp only at hSw); go_simp); (try simp only [Act.put, List.setIfInBounds_toArray, List.set_cons_zero, List.set_cons_succ]))
      (refine wpAnyH_take (i := 13) (oi := ⟨some 30, _, _, _, _, _⟩) (v := .slice (some ⟨g, off, none⟩) n2 c) rfl (by kernel_rfl) (by kernel_rfl) (by kernel_rfl) (fun _ _ _ h => h) (Or.inl ⟨by rfl, ?_⟩) (by assumption) ?_; (intro w hSw; (try dsimp only at hSw); go_simp); (try simp only [Act.put, List.setIfInBounds_toArray, List.set_cons_zero, List.set_cons_succ]))
      (refine wpAnyH_take (i := 14) (oi := ⟨some 31, _, _, _, _, _⟩) (v := .int .i64 (j : Int)) rfl (by kernel_rfl) (by kernel_rfl) (by kernel_rfl) (fun _ _ _ h => h) (Or.inl ⟨by rfl, ?_⟩) (by assumption) ?_; (intro w hSw; (try dsimp only at hSw); go_simp); (try simp only [Act.put, List.setIfInBounds_toArray, List.set_cons_zero, List.set_cons_succ]))
      (refine wpAnyH_take (i := 15) (oi := ⟨some 32, _, _, _, _, _⟩) (v := .pointer (some ⟨g, off + j * 2, none⟩)) rfl (by kernel_rfl) (by kernel_rfl) (by kernel_rfl) (fun _ _ _ h => h) (Or.inl ⟨by rfl, ?_⟩) (by assumption) ?_; (intro w hSw; (try dsimp only at hSw); go_simp); (try simp only [Act.put, List.setIfInBounds_toArray, List.set_cons_zero, List.set_cons_succ]))
      (refine wpAnyH_take (i := 16) (oi := ⟨some 33, _, _, _, _, _⟩) (v := .pointer (some ⟨g, off + j * 2 + 1, none⟩)) rfl (by kernel_rfl) (by kernel_rfl) (by kernel_rfl) (fun _ _ _ h => h) (Or.inl ⟨by rfl, ?_⟩) (by assumption) ?_; (intro w hSw; (try dsimp only at hSw); go_simp); (try simp only [Act.put, List.setIfInBounds_toArray, List.set_cons_zero, List.set_cons_succ]))
      (refine wpAnyH_take (i := 17) (oi := ⟨some 34, _, _, _, _, _⟩) (v := .slice a3 n3 c3) rfl (by kernel_rfl) (by kernel_rfl) (by kernel_rfl) (fun _ _ _ h => h) (Or.inl ⟨by rfl, ?_⟩) (by assumption) ?_; (intro w hSw; (try dsimp only at hSw); go_simp); (try simp only [Act.put, List.setIfInBounds_toArray, List.set_cons_zero, List.set_cons_succ]))
      (refine wpAnyH_take (i := 18) (oi := ⟨some 35, _, _, _, _, _⟩) (v := .slice (some ⟨g', off', none⟩) n2 c2) rfl (by kernel_rfl) (by kernel_rfl) (by kernel_rfl) (fun _ _ _ h => h) (Or.inl ⟨by rfl, ?_⟩) (by assumption) ?_; (intro w hSw; (try dsimp only at hSw); go_simp); (try simp only [Act.put, List.setIfInBounds_toArray, List.set_cons_zero, List.set_cons_succ]))
      (refine wpAnyH_take (i := 19) (oi := ⟨some 36, _, _, _, _, _⟩) (v := .int .i64 (j : Int)) rfl (by kernel_rfl) (by kernel_rfl) (by kernel_rfl) (fun _ _ _ h => h) (Or.inl ⟨by rfl, ?_⟩) (by assumption) ?_; (intro w hSw; (try dsimp only at hSw); go_simp); (try simp only [Act.put, List.setIfInBounds_toArray, List.set_cons_zero, List.set_cons_succ]))
      (refine wpAnyH_take (i := 20) (oi := ⟨some 37, _, _, _, _, _⟩) (v := .pointer (some ⟨g', off' + j * 2, none⟩)) rfl (by kernel_rfl) (by kernel_rfl) (by kernel_rfl) (fun _ _ _ h => h) (Or.inl ⟨by rfl, ?_⟩) (by assumption) ?_; (intro w hSw; (try dsimp only at hSw); go_simp); (try simp only [Act.put, List.setIfInBounds_toArray, List.set_cons_zero, List.set_cons_succ]))
      (refine wpAnyH_take (i := 21) (oi := ⟨some 38, _, _, _, _, _⟩) (v := .pointer (some ⟨g', off' + j * 2 + 1, none⟩)) rfl (by kernel_rfl) (by kernel_rfl) (by kernel_rfl) (fun _ _ _ h => h) (Or.inl ⟨by rfl, ?_⟩) (by assumption) ?_; (intro w hSw; (try dsimp only at hSw); go_simp); (try simp only [Act.put, List.setIfInBounds_toArray, List.set_cons_zero, List.set_cons_succ]))
      (refine wpAnyH_take (i := 22) (oi := ⟨some 39, _, _, _, _, _⟩) (v := .slice b3 m3 d3) rfl (by kernel_rfl) (by kernel_rfl) (by kernel_rfl) (fun _ _ _ h => h) (Or.inl ⟨by rfl, ?_⟩) (by assumption) ?_; (intro w hSw; (try dsimp only at hSw); go_simp); (try simp only [Act.put, List.setIfInBounds_toArray, List.set_cons_zero, List.set_cons_succ]))
      refine wpAnyH_ready (rs := [23]) (by kernel_rfl) (by simp) ?_
      refine AllReadyH.cons (o := ⟨some 40, _, _, _, _, _⟩) rfl (fun K hK => ?_) AllReadyH.nil
      go_simp
      refine (S2.out _ HB2.out).mono ?_
      rintro e w3 ⟨b, rfl, hb, hb3⟩
      obtain rfl : b = true := hb.2 rfl
      have HB3 : Hid (Below wr.heap.size wr w3) := Lib.hid (HB2.out.trans (hb3.mono HB2.out.size))
      have y1 := (HB3.out.cell (p := ⟨g, off + j * 2, none⟩) hgr).trans q1
      have y2 := (HB3.out.cell (p := ⟨g, off + j * 2 + 1, none⟩) hgr).trans q2
      have y3 := (HB3.out.cell (p := ⟨g', off' + j * 2, none⟩) hgr').trans r1
      have y4 := (HB3.out.cell (p := ⟨g', off' + j * 2 + 1, none⟩) hgr').trans r2
      clear hb hb3
      refine hK.out _ _ ⟨y1, y2, y3, y4⟩ (fun hS40 => ?_)
      clear hK
      (try simp only [Act.put, List.setIfInBounds_toArray, List.set_cons_zero, List.set_cons_succ])
      (refine wpAnyH_take (i := 24) (oi := ⟨some 41, _, _, _, _, _⟩) (v := .bool false) rfl (by kernel_rfl) (by kernel_rfl) (by kernel_rfl) (fun _ _ _ h => h) (Or.inl ⟨by rfl, ?_⟩) (by assumption) ?_; (intro w hSw; (try dsimp only at hSw); go_simp); (try simp only [Act.put, List.setIfInBounds_toArray, List.set_cons_zero, List.set_cons_succ]))
      (refine wpAnyH_take (i := 25) (oi := ⟨some 42, _, _, _, _, _⟩) (v := .bool false) rfl (by kernel_rfl) (by kernel_rfl) (by kernel_rfl) (fun _ _ _ h => h) (Or.inl ⟨by rfl, ?_⟩) (by assumption) ?_; (intro w hSw; (try dsimp only at hSw); go_simp); (try simp only [Act.put, List.setIfInBounds_toArray, List.set_cons_zero, List.set_cons_succ]))
      refine wpAnyH_done (by kernel_rfl) ?_ _
      all_goals
        go_wp2_with fail
        go_roundw
        case rel =>
          first
          | exact ⟨j + 1, by omega, by go_num, Lib.hid (HB.out.trans (HB3.out.mono HB.out.size))⟩
          | ((repeat apply Exists.intro); exact ⟨⟨j + 1, by omega, by go_num, Lib.hid (HB.out.trans (HB3.out.mono HB.out.size))⟩, rfl⟩)
        case measure => simp [intOf]; omega
    · obtain rfl : j = n2 := by omega
      go_wp2_with fail
      go_ret
      exact ⟨rfl, HB.out⟩

/-! ### The state in a loop -/
structure Lp (w0 : World) (bF S g M cap top : Nat) (W H : Int) (s : ByteArray) (R : List Mv) (T : List Ow) (wr : World) : Prop where
  below : Below w0.heap.size w0 wr
  st : St wr S g M cap top W H s R T
  inv : Inv W H s R T
  fb : Fb bF W H s wr
  ge : w0.heap.size ≤ g ∧ w0.heap.size ≤ M ∧ bF ≠ g ∧ bF ≠ M
section
variable {w0 w w' : World} {bF S g M cap top : Nat} {W H : Int} {s : ByteArray} {R R' : List Mv} {T T' : List Ow}
theorem Lp.later (h : Lp w0 bF S g M cap top W H s R T w) (hb : Below w.heap.size w w') : Lp w0 bF S g M cap top W H s R T w' :=
  ⟨h.below.trans (hb.mono h.below.size), h.st.later hb, h.inv, h.fb.later hb, h.ge⟩
theorem Lp.fr (h : Lp w0 bF S g M cap top W H s R T w) (hf : Fr g M w w') (hs : St w' S g M cap top W H s R' T') (hi : Inv W H s R' T') : Lp w0 bF S g M cap top W H s R' T' w' :=
  ⟨h.below.trans (hf.below h.below.size h.ge.1 h.ge.2.1), hs, hi, (hf.block bF (lt_of_heap h.fb) (fun q => by rcases q with q | q; exact h.ge.2.2.1 q; exact h.ge.2.2.2 q)).trans h.fb, h.ge⟩
end
end Tf
end Go.Proofs.YtakgkocdkondhaaGreatDoor
