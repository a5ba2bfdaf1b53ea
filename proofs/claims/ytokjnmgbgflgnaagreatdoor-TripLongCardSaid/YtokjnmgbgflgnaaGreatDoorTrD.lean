/-
  Layer 10: an act is done.
-/
import Derived.Test.YtokjnmgbgflgnaaGreatDoorTrC
set_option linter.unusedVariables false
set_option maxRecDepth 100000
namespace Go.Proofs.YtokjnmgbgflgnaaGreatDoor
namespace Tr
open Go.RowKit Fl Pt Go.Maps

/-- What do tells. -/
def DoTold (D mb N : Nat) (W H : Int) (s : ByteArray) (lv : Value) (dock at_ pod : Int) (a : Ac) (w : World) (e : Ending) (w' : World) : Prop :=
  ∃ b : Bool, e = .returned (.bool b) ∧ Two D mb w w' ∧ ∃ N', N' ≤ N + 1 ∧ match doA (nearB W H s) (laneB s) dock (at_, pod) a with
    | some t => b = true ∧ Dr D mb N' W H s lv dock t.1 t.2 w'
    | none => b = false
theorem ab_cells (w : World) (k c p : Int) : (w.alloc (.cells #[.int .u8 k, .int .i64 c, .int .i64 p] 44)).cell? ⟨w.heap.size, 0, none⟩ = some (.int .u8 k) ∧ (w.alloc (.cells #[.int .u8 k, .int .i64 c, .int .i64 p] 44)).cell? ⟨w.heap.size, 1, none⟩ = some (.int .i64 c) ∧ (w.alloc (.cells #[.int .u8 k, .int .i64 c, .int .i64 p] 44)).cell? ⟨w.heap.size, 2, none⟩ = some (.int .i64 p) := by
  refine ⟨?_, ?_, ?_⟩ <;> simp [World.cell?_alloc_new]
set_option maxHeartbeats 4000000 in
theorem do_any {D mb N : Nat} {W H : Int} {s : ByteArray} (hs : s.size ≤ maxLen) {lv : Value} {dock at_ pod : Int} {w : World} (h : Dr D mb N W H s lv dock at_ pod w) (hN : N ≤ 1000000) (hat : IW at_) (hO : OnFloor W H s at_) (k : Nat) (c p : Int) :
    Calls Tryz.prog 37 #[.pointer (some ⟨D, 0, none⟩), .agg #[.int .u8 (k : Int), .int .i64 c, .int .i64 p]] w (DoTold D mb N W H s lv dock at_ pod (k, c, p) w) := by
  have hAl := (Below.refl w.heap.size w).alloc (Nat.le_refl _) (.cells #[.int .u8 (k : Int), .int .i64 c, .int .i64 p] 44)
  obtain ⟨y0, y1, y2⟩ := ab_cells w k c p
  have h1 := h.later hAl
  have HD := Lib.hid h1
  have HD0 := Lib.hid h
  have HT : Hid (Two D mb w (w.alloc (.cells #[.int .u8 (k : Int), .int .i64 c, .int .i64 p] 44))) := Lib.hid (Two.of hAl)
  have HGO := Lib.hid (goTo_any hs h1 hN c hat hO)
  have hDw : D < w.heap.size := h.box.cells.2.2.2.2.2.2.2
  obtain ⟨_, _, _, _, q6, q7, ⟨_, z7⟩, hlt⟩ := h1.box.cells
  clear h hat hO h1 hAl
  generalize hkk : (k : Int) = kk at *
  by_cases k1 : k = 1
  · subst k1
    obtain rfl : kk = 1 := by rw [← hkk]; rfl
    clear hkk
    clear q6 q7 z7
    by_cases hp : p = 0
    · subst hp
      go_enter Tryz.func37, Tryz.ntmps37
      go_wp2_with fail
      refine HGO.out.mono ?_
      rintro e w' ⟨b, rfl, hb, htw, N', hN', hd⟩
      have HB := Lib.hid hb
      have HTW := Lib.hid (HT.out.trans htw)
      have HN' := Lib.hid hN'
      have HDD := Lib.hid hd
      clear hb htw hN' hd
      go_wp2_with fail
      go_ret
      refine ⟨b, rfl, HTW.out, N', HN'.out, ?_⟩
      unfold doA
      rw [if_pos (show ((1 : Nat) = 1) from rfl)]
      cases b with
      | true =>
        have hh := HB.out.1 rfl
        rw [if_pos ⟨rfl, hh.1, hh.2⟩]
        exact ⟨rfl, HDD.out⟩
      | false =>
        rw [if_neg (fun q => by have := HB.out.2 ⟨q.2.1, q.2.2⟩; cases this)]
    · have dp : (p == 0) = false := by rw [beq_eq_false_iff_ne]; exact hp
      have HDO : Hid (doA (nearB W H s) (laneB s) dock (at_, pod) (1, c, p) = none) := Lib.hid (by
        unfold doA
        rw [if_pos (show ((1 : Nat) = 1) from rfl), if_neg (fun q => hp q.1)])
      clear hp
      go_enter Tryz.func37, Tryz.ntmps37
      go_wp2_with fail
      go_ret
      exact ⟨false, rfl, HT.out, N, by omega, by rw [HDO.out]⟩
  · by_cases k2 : k = 2
    · subst k2
      obtain rfl : kk = 2 := by rw [← hkk]; rfl
      clear hkk k1
      by_cases hpod : pod = -1
      · have dpod : (pod != -1) = false := by rw [bne_eq_false_iff_eq]; exact hpod
        have dpp : (p != p) = false := by rw [bne_eq_false_iff_eq]
        have HPD := Lib.hid hpod
        obtain ⟨hset0, htwo0⟩ := HD0.out.setPod p
        have hal := (Below.refl (w.setCell ⟨D, 7, none⟩ (.int .i64 p)).heap.size (w.setCell ⟨D, 7, none⟩ (.int .i64 p))).alloc (Nat.le_refl _) (.cells #[.int .u8 2, .int .i64 c, .int .i64 p] 44)
        have HSET := Lib.hid (hset0.later hal)
        have HTWO := Lib.hid (htwo0.trans (Two.of hal))
        obtain ⟨x0, x1, x2⟩ := ab_cells (w.setCell ⟨D, 7, none⟩ (.int .i64 p)) 2 c p
        have hsz : (w.setCell ⟨D, 7, none⟩ (.int .i64 p)).heap.size = w.heap.size := by simp [World.setCell]
        rw [hsz] at x0 x1 x2
        clear hset0 htwo0 hal hsz hpod HGO HD0
        go_enter Tryz.func37, Tryz.ntmps37
        go_wp2_with fail
        clear q6 q7 z7 y0 y1 y2 hlt HD HT
        generalize hwz : (w.setCell ⟨D, 7, none⟩ (.int .i64 p)).alloc (.cells #[.int .u8 2, .int .i64 c, .int .i64 p] 44) = wz at *
        clear hwz
        have HD := HSET
        have HT := HTWO
        clear HSET HTWO
        obtain ⟨_, _, _, _, q6, q7, _, hlt⟩ := HD.out.box.cells
        have HLN : Hid (∀ wx, Below wz.heap.size wz wx → Calls Tryz.prog 61 #[.pointer (some ⟨D, 0, none⟩), .int .i64 c] wx fun e w' => e = .returned (.bool (isL (bAt s c))) ∧ w' = wx) := Lib.hid (fun wx hb => inLane_any (HD.out.later hb) c)
        by_cases hpp : isP p = true
        · have HP : Hid (∀ wx, Calls Tryz.prog 26 #[.int .i64 p] wx fun e w' => e = .returned (.bool true) ∧ w' = wx) := Lib.hid (fun wx => by have h := isPod_any p wx; rw [hpp] at h; exact h)
          by_cases hca : c = at_
          · have dca : (c != at_) = false := by rw [bne_eq_false_iff_eq]; exact hca
            have HCA := Lib.hid hca
            have HPP := Lib.hid hpp
            clear hca hpp
            cases hlb : isL (bAt s c) with
            | true =>
              rw [hlb] at HLN
              have HDO : Hid (doA (nearB W H s) (laneB s) dock (at_, pod) (2, c, p) = some (at_, p)) := Lib.hid (by
                unfold doA
                rw [if_neg (show ¬ ((2 : Nat) = 1) by decide), if_pos (show ((2 : Nat) = 2) from rfl), if_pos ⟨HPD.out, HPP.out, HCA.out, hlb⟩])
              clear hlb
              go_big_quiet ((first | (go_at_call 26; exact Calls.quiet_of_same (HP.out _)) | (go_at_call 61; exact Calls.quiet_of_same (HLN.out _ (below_drewN _ _ _)))))
              go_wp2_with fail
              go_ret
              exact ⟨true, rfl, HT.out.trans (Two.of (below_drewN _ _ _)), N, by omega, by rw [HDO.out]; exact ⟨rfl, HD.out.later (below_drewN _ _ _)⟩⟩
            | false =>
              rw [hlb] at HLN
              have HDO : Hid (doA (nearB W H s) (laneB s) dock (at_, pod) (2, c, p) = none) := Lib.hid (by
                unfold doA
                rw [if_neg (show ¬ ((2 : Nat) = 1) by decide), if_pos (show ((2 : Nat) = 2) from rfl), if_neg (fun q => by have h := q.2.2.2; unfold laneB at h; rw [hlb] at h; cases h)])
              clear hlb
              go_big_quiet ((first | (go_at_call 26; exact Calls.quiet_of_same (HP.out _)) | (go_at_call 61; exact Calls.quiet_of_same (HLN.out _ (below_drewN _ _ _)))))
              go_wp2_with fail
              go_ret
              exact ⟨false, rfl, HT.out.trans (Two.of (below_drewN _ _ _)), N, by omega, by rw [HDO.out]⟩
          · have dca : (c != at_) = true := by rw [bne_iff_ne]; exact hca
            have HDO : Hid (doA (nearB W H s) (laneB s) dock (at_, pod) (2, c, p) = none) := Lib.hid (by
              unfold doA
              rw [if_neg (show ¬ ((2 : Nat) = 1) by decide), if_pos (show ((2 : Nat) = 2) from rfl), if_neg (fun q => hca q.2.2.1)])
            clear hca hpp
            go_big_quiet ((first | (go_at_call 26; exact Calls.quiet_of_same (HP.out _)) | (go_at_call 61; exact Calls.quiet_of_same (HLN.out _ (below_drewN _ _ _)))))
            go_wp2_with fail
            go_ret
            exact ⟨false, rfl, HT.out.trans (Two.of (below_drewN _ _ _)), N, by omega, by rw [HDO.out]⟩
        · have HP : Hid (∀ wx, Calls Tryz.prog 26 #[.int .i64 p] wx fun e w' => e = .returned (.bool false) ∧ w' = wx) := Lib.hid (fun wx => by have h := isPod_any p wx; rw [show isP p = false by simpa using hpp] at h; exact h)
          have HDO : Hid (doA (nearB W H s) (laneB s) dock (at_, pod) (2, c, p) = none) := Lib.hid (by
            unfold doA
            rw [if_neg (show ¬ ((2 : Nat) = 1) by decide), if_pos (show ((2 : Nat) = 2) from rfl), if_neg (fun q => hpp q.2.1)])
          clear hpp
          go_big_quiet ((first | (go_at_call 26; exact Calls.quiet_of_same (HP.out _)) | (go_at_call 61; exact Calls.quiet_of_same (HLN.out _ (below_drewN _ _ _)))))
          go_wp2_with fail
          go_ret
          exact ⟨false, rfl, HT.out.trans (Two.of (below_drewN _ _ _)), N, by omega, by rw [HDO.out]⟩
      · have dpod : (pod != -1) = true := by rw [bne_iff_ne]; exact hpod
        have HDO : Hid (doA (nearB W H s) (laneB s) dock (at_, pod) (2, c, p) = none) := Lib.hid (by
          unfold doA
          rw [if_neg (show ¬ ((2 : Nat) = 1) by decide), if_pos (show ((2 : Nat) = 2) from rfl), if_neg (fun q => hpod q.1)])
        clear hpod
        go_enter Tryz.func37, Tryz.ntmps37
        go_wp2_with fail
        go_ret
        exact ⟨false, rfl, HT.out, N, by omega, by rw [HDO.out]⟩
    · by_cases k3 : k = 3
      · subst k3
        obtain rfl : kk = 3 := by rw [← hkk]; rfl
        clear hkk k1 k2
        go_enter Tryz.func37, Tryz.ntmps37
        go_wp2_with fail
        generalize hwz : w.alloc (.cells #[.int .u8 3, .int .i64 c, .int .i64 p] 44) = wz at *
        clear hwz
        have HLN : Hid (∀ wx, Below wz.heap.size wz wx → Calls Tryz.prog 61 #[.pointer (some ⟨D, 0, none⟩), .int .i64 c] wx fun e w' => e = .returned (.bool (isL (bAt s c))) ∧ w' = wx) := Lib.hid (fun wx hb => inLane_any (HD.out.later hb) c)
        by_cases hpod : p = pod
        · have dpod : (p != pod) = false := by rw [bne_eq_false_iff_eq]; exact hpod
          have HPD := Lib.hid hpod
          clear hpod
          by_cases hpp : isP p = true
          · have HP : Hid (∀ wx, Calls Tryz.prog 26 #[.int .i64 p] wx fun e w' => e = .returned (.bool true) ∧ w' = wx) := Lib.hid (fun wx => by have h := isPod_any p wx; rw [hpp] at h; exact h)
            by_cases hca : c = at_
            · have dca : (c != at_) = false := by rw [bne_eq_false_iff_eq]; exact hca
              have HCA := Lib.hid hca
              have HPP := Lib.hid hpp
              clear hca hpp
              cases hlb : isL (bAt s c) with
              | true =>
                rw [hlb] at HLN
                have HDO : Hid (doA (nearB W H s) (laneB s) dock (at_, pod) (3, c, p) = some (at_, -1)) := Lib.hid (by
                  unfold doA
                  rw [if_neg (show ¬ ((3 : Nat) = 1) by decide), if_neg (show ¬ ((3 : Nat) = 2) by decide), if_pos (show ((3 : Nat) = 3) from rfl), if_pos ⟨HPD.out, HPP.out, HCA.out, hlb⟩])
                clear hlb
                go_big_quiet ((first | (go_at_call 26; exact Calls.quiet_of_same (HP.out _)) | (go_at_call 61; exact Calls.quiet_of_same (HLN.out _ (below_drewN _ _ _)))))
                have HDz := Lib.hid (HD.out.later (below_drewN _ _ nq))
                obtain ⟨hset, htwo⟩ := HDz.out.setPod (-1)
                have HSET := Lib.hid hset
                have HTW := Lib.hid ((HT.out.trans (Two.of (below_drewN _ _ nq))).trans htwo)
                have z7 := HDz.out.box.cells.2.2.2.2.2.2.1.2
                have q7b := HDz.out.box.cells.2.2.2.2.2.1
                clear hset htwo HDz
                go_wp2_with fail
                go_ret
                exact ⟨true, rfl, HTW.out, N, by omega, by rw [HDO.out]; exact ⟨rfl, HSET.out⟩⟩
              | false =>
                rw [hlb] at HLN
                have HDO : Hid (doA (nearB W H s) (laneB s) dock (at_, pod) (3, c, p) = none) := Lib.hid (by
                  unfold doA
                  rw [if_neg (show ¬ ((3 : Nat) = 1) by decide), if_neg (show ¬ ((3 : Nat) = 2) by decide), if_pos (show ((3 : Nat) = 3) from rfl), if_neg (fun q => by have h := q.2.2.2; unfold laneB at h; rw [hlb] at h; cases h)])
                clear hlb
                go_big_quiet ((first | (go_at_call 26; exact Calls.quiet_of_same (HP.out _)) | (go_at_call 61; exact Calls.quiet_of_same (HLN.out _ (below_drewN _ _ _)))))
                go_wp2_with fail
                go_ret
                exact ⟨false, rfl, HT.out.trans (Two.of (below_drewN _ _ _)), N, by omega, by rw [HDO.out]⟩
            · have dca : (c != at_) = true := by rw [bne_iff_ne]; exact hca
              have HDO : Hid (doA (nearB W H s) (laneB s) dock (at_, pod) (3, c, p) = none) := Lib.hid (by
                unfold doA
                rw [if_neg (show ¬ ((3 : Nat) = 1) by decide), if_neg (show ¬ ((3 : Nat) = 2) by decide), if_pos (show ((3 : Nat) = 3) from rfl), if_neg (fun q => hca q.2.2.1)])
              clear hca hpp
              go_big_quiet ((first | (go_at_call 26; exact Calls.quiet_of_same (HP.out _)) | (go_at_call 61; exact Calls.quiet_of_same (HLN.out _ (below_drewN _ _ _)))))
              go_wp2_with fail
              go_ret
              exact ⟨false, rfl, HT.out.trans (Two.of (below_drewN _ _ _)), N, by omega, by rw [HDO.out]⟩
          · have HP : Hid (∀ wx, Calls Tryz.prog 26 #[.int .i64 p] wx fun e w' => e = .returned (.bool false) ∧ w' = wx) := Lib.hid (fun wx => by have h := isPod_any p wx; rw [show isP p = false by simpa using hpp] at h; exact h)
            have HDO : Hid (doA (nearB W H s) (laneB s) dock (at_, pod) (3, c, p) = none) := Lib.hid (by
              unfold doA
              rw [if_neg (show ¬ ((3 : Nat) = 1) by decide), if_neg (show ¬ ((3 : Nat) = 2) by decide), if_pos (show ((3 : Nat) = 3) from rfl), if_neg (fun q => hpp q.2.1)])
            clear hpp
            go_big_quiet ((first | (go_at_call 26; exact Calls.quiet_of_same (HP.out _)) | (go_at_call 61; exact Calls.quiet_of_same (HLN.out _ (below_drewN _ _ _)))))
            go_wp2_with fail
            go_ret
            exact ⟨false, rfl, HT.out.trans (Two.of (below_drewN _ _ _)), N, by omega, by rw [HDO.out]⟩
        · have dpod : (p != pod) = true := by rw [bne_iff_ne]; exact hpod
          have HP : Hid True := Lib.hid trivial
          have HDO : Hid (doA (nearB W H s) (laneB s) dock (at_, pod) (3, c, p) = none) := Lib.hid (by
            unfold doA
            rw [if_neg (show ¬ ((3 : Nat) = 1) by decide), if_neg (show ¬ ((3 : Nat) = 2) by decide), if_pos (show ((3 : Nat) = 3) from rfl), if_neg (fun q => hpod q.1)])
          clear hpod
          go_big_quiet (fail)
          go_wp2_with fail
          go_ret
          exact ⟨false, rfl, HT.out.trans (Two.of (below_drewN _ _ _)), N, by omega, by rw [HDO.out]⟩
      · have d1 : (kk == 1) = false := by rw [beq_eq_false_iff_ne]; omega
        have d2 : (kk == 2) = false := by rw [beq_eq_false_iff_ne]; omega
        have d3 : (kk == 3) = false := by rw [beq_eq_false_iff_ne]; omega
        have HDO : Hid (doA (nearB W H s) (laneB s) dock (at_, pod) (k, c, p) = none) := Lib.hid (by
          unfold doA
          rw [if_neg k1, if_neg k2, if_neg k3])
        clear k1 k2 k3 hkk
        go_enter Tryz.func37, Tryz.ntmps37
        go_wp2_with fail
        go_ret
        exact ⟨false, rfl, HT.out, N, by omega, by rw [HDO.out]⟩
end Tr
end Go.Proofs.YtokjnmgbgflgnaaGreatDoor
