/-
  Layer 10: nearTo, goTo.
  Layer 10: an act is done.
-/
import Derived.Test.YtakgkocdkondhaaGreatDoorTrB
set_option linter.unusedVariables false
set_option maxRecDepth 100000
section
namespace Go.Proofs.YtakgkocdkondhaaGreatDoor
namespace Tr
open Go.RowKit Fl Pt Go.Maps

/-- Whether a cell is near to another one. -/
def nearB (W H : Int) (s : ByteArray) (a c : Int) : Bool := (il (fun j => (((nears W H s a).getD j 0 : Nat) : Int)) (nears W H s a).length).contains c
def laneB (s : ByteArray) (c : Int) : Bool := isL (bAt s c)
/-- What nearTo tells. -/
def NearTold (D mb N : Nat) (W H : Int) (s : ByteArray) (lv : Value) (dock at_ pod x : Int) (w : World) (e : Ending) (w' : World) : Prop :=
  ∃ A c, e = .returned (.slice A (nears W H s x).length c) ∧ Il w'.heap.size w' A (nears W H s x).length c (fun j => (((nears W H s x).getD j 0 : Nat) : Int)) ∧ Two D mb w w' ∧ ∃ N', N' ≤ N + 1 ∧ Dr D mb N' W H s lv dock at_ pod w'
theorem own_some {w : World} {base n c : Nat} {A : Option Addr} {xs : List Nat} (h : Own w base (.slice A n c) xs) (hx : xs ≠ []) : ∃ g, A = some ⟨g, 0, none⟩ ∧ n = xs.length := by
  rcases h.2 with ⟨e, h0⟩ | ⟨g, cap, cur, e, _⟩
  · exact absurd (List.eq_nil_of_length_eq_zero h0) hx
  · injection e with e1 e2 e3
    exact ⟨g, e1, e2⟩
theorem nears_ne {W H : Int} {s : ByteArray} {x : Int} (h : OnFloor W H s x) : nears W H s x ≠ [] := by
  obtain ⟨_, _, _, _, _, _, _, _, _, _, e2, hne⟩ := onFloor_some h
  rw [e2]; exact hne
set_option maxHeartbeats 2000000 in
theorem nearTo_any {D mb N : Nat} {W H : Int} {s : ByteArray} (hs : s.size ≤ maxLen) {lv : Value} {dock at_ pod : Int} {w : World} (h : Dr D mb N W H s lv dock at_ pod w) (hN : N ≤ 1000000) (x : Int) (hx : IW x) (hO : OnFloor W H s x) :
    Calls Tryz.prog 129 #[.pointer (some ⟨D, 0, none⟩), .int .i64 x] w (NearTold D mb N W H s lv dock at_ pod x w) := by
  have HD := Lib.hid h
  have HX := Lib.hid hx
  have HO := Lib.hid hO
  have HNE := Lib.hid (fun wx => near_any W H s hs x wx)
  obtain ⟨⟨q0, q1, q2⟩, q3, q4, _, _, _, _, hlt⟩ := h.box.cells
  obtain ⟨v, b, hrun, hin⟩ := h.map.asked hx
  have HIN := Lib.hid hin
  clear h hx hO hin
  go_enter Tryz.func129, Tryz.ntmps129
  cases b with
  | true =>
    obtain ⟨_, g, c, rfl, ho⟩ := HIN.out rfl
    have HOW := Lib.hid ho
    clear ho
    go_wp2_with fail
    go_ret
    exact ⟨_, _, rfl, HOW.out.il rfl, Two.of (Below.refl _ _), N, by omega, HD.out⟩
  | false =>
    go_wp2_with fail
    refine (HNE.out _).mono ?_
    rintro e w1 ⟨A, n, c, xs, rfl, hn, h1, _, ho, hb⟩
    obtain rfl := h1 HO.out
    obtain ⟨g, rfl, hn2⟩ := own_some ho (nears_ne HO.out)
    subst hn
    have HD1 := Lib.hid (HD.out.later hb)
    have HOW := Lib.hid (ho.lower (Nat.zero_le _))
    have HT1 : Hid (Two D mb w w1) := Lib.hid (Two.of hb)
    obtain ⟨_, _, q4, _, _, _, _, hlt1⟩ := HD1.out.box.cells
    obtain ⟨w2, hput, hm2, hk2, hg2⟩ := HD1.out.map.put_run hN HX.out HO.out HOW.out
    have HM2 := Lib.hid hm2
    have HD2 : Hid (Dr D mb (N + 1) W H s lv dock at_ pod w2) := Lib.hid ⟨(hg2.block D hlt1 (fun q => by injection q with q; exact HD1.out.ne q)).trans HD1.out.box, own_kept HD1.out.lanes hk2, hm2⟩
    have HT2 : Hid (Two D mb w w2) := Lib.hid (HT1.out.trans (Turn.grown hg2 (fun k hk => by injection hk with hk; exact .inr hk.symm)))
    have HO2 := Lib.hid (own_kept HOW.out hk2)
    clear ho hb h1 hm2 hk2 hg2 hn2 hrun q0 q1 q2 q3
    go_wp2_with fail
    go_ret
    exact ⟨_, _, rfl, HO2.out.il rfl, HT2.out, N + 1, Nat.le_refl _, HD2.out⟩

/-- What goTo tells. -/
def GoTold (D mb N : Nat) (W H : Int) (s : ByteArray) (lv : Value) (dock at_ pod c : Int) (w : World) (e : Ending) (w' : World) : Prop :=
  ∃ b : Bool, e = .returned (.bool b) ∧ (b = true ↔ (c = dock ∨ laneB s c = true) ∧ nearB W H s at_ c = true) ∧ Two D mb w w' ∧ ∃ N', N' ≤ N + 1 ∧ Dr D mb N' W H s lv dock (if b = true then c else at_) pod w'
set_option maxHeartbeats 4000000 in
theorem goTo_any {D mb N : Nat} {W H : Int} {s : ByteArray} (hs : s.size ≤ maxLen) {lv : Value} {dock at_ pod : Int} {w : World} (h : Dr D mb N W H s lv dock at_ pod w) (hN : N ≤ 1000000) (c : Int) (hat : IW at_) (hO : OnFloor W H s at_) :
    Calls Tryz.prog 104 #[.pointer (some ⟨D, 0, none⟩), .int .i64 c] w (GoTold D mb N W H s lv dock at_ pod c w) := by
  have HD := Lib.hid h
  have HL := Lib.hid (inLane_any h c)
  have HNT := Lib.hid (nearTo_any hs h hN at_ hat hO)
  obtain ⟨_, _, _, q5, q6, _, _, hlt⟩ := h.box.cells
  clear h hat hO
  have tail : ∀ (A : Option Addr) (k : Nat) (w1 : World), Il w1.heap.size w1 A (nears W H s at_).length k (fun j => (((nears W H s at_).getD j 0 : Nat) : Int)) → Calls Tryz.prog 102 #[.slice A (nears W H s at_).length k, .int .i64 c] w1 fun e w' => e = .returned (.bool (nearB W H s at_ c)) ∧ w1 = w' :=
    fun A k w1 hi => contains_any _ A _ k _ c w1 hi
  have HTL := Lib.hid tail
  clear tail
  go_enter Tryz.func104, Tryz.ntmps104
  by_cases hcd : c = dock
  · have hd : (c != dock) = false := by rw [bne_eq_false_iff_eq]; exact hcd
    have HCD := Lib.hid hcd
    clear hcd
    go_wp2_with fail
    refine HNT.out.mono ?_
    rintro e w1 ⟨A, k, rfl, hi, ht, N', hN', hd1⟩
    have HT1 := Lib.hid ht
    have HD1 := Lib.hid hd1
    have HN1 := Lib.hid hN'
    have HC := Lib.hid (HTL.out A k w1 hi)
    obtain ⟨_, _, _, _, _, _, ⟨z6, _⟩, hlt1⟩ := hd1.box.cells
    have y6 := hd1.box.cells.2.2.2.2.1
    obtain ⟨hset, htwo⟩ := hd1.setAt c
    have HSET := Lib.hid hset
    have HTWO := Lib.hid (ht.trans htwo)
    clear ht hd1 hN' hi hset htwo
    cases hnb : nearB W H s at_ c with
    | true =>
      have HC2 := HC.out
      rw [hnb] at HC2
      have HC := Lib.hid HC2
      clear HC2
      go_wp2_with (go_at_call 102; refine HC.out.mono ?_; rintro e w' ⟨rfl, rfl⟩)
      go_ret
      exact ⟨true, rfl, iff_of_true rfl ⟨.inl HCD.out, hnb⟩, HTWO.out, N', HN1.out, by rw [if_pos rfl]; exact HSET.out⟩
    | false =>
      have HC2 := HC.out
      rw [hnb] at HC2
      have HC := Lib.hid HC2
      clear HC2
      go_wp2_with (go_at_call 102; refine HC.out.mono ?_; rintro e w' ⟨rfl, rfl⟩)
      go_ret
      exact ⟨false, rfl, iff_of_false (by decide) (fun q => by rw [hnb] at q; cases q.2), HT1.out, N', HN1.out, by rw [if_neg (by decide)]; exact HD1.out⟩
  · have hd : (c != dock) = true := by rw [bne_iff_ne]; exact hcd
    have HCD := Lib.hid hcd
    clear hcd
    cases hlb : isL (bAt s c) with
    | false =>
      rw [hlb] at HL
      go_wp2_with (go_at_call 106; refine HL.out.mono ?_; rintro e w' ⟨rfl, rfl⟩)
      go_ret
      exact ⟨false, rfl, iff_of_false (by decide) (fun q => by
        rcases q.1 with q | q
        · exact HCD.out q
        · unfold laneB at q; rw [hlb] at q; cases q), Two.of (Below.refl _ _), N, by omega, by rw [if_neg (by decide)]; exact HD.out⟩
    | true =>
      rw [hlb] at HL
      go_wp2_with (go_at_call 106; refine HL.out.mono ?_; rintro e w' ⟨rfl, rfl⟩)
      refine HNT.out.mono ?_
      rintro e w1 ⟨A, k, rfl, hi, ht, N', hN', hd1⟩
      have HT1 := Lib.hid ht
      have HD1 := Lib.hid hd1
      have HN1 := Lib.hid hN'
      have HC := Lib.hid (HTL.out A k w1 hi)
      obtain ⟨_, _, _, _, _, _, ⟨z6, _⟩, hlt1⟩ := hd1.box.cells
      have y6 := hd1.box.cells.2.2.2.2.1
      obtain ⟨hset, htwo⟩ := hd1.setAt c
      have HSET := Lib.hid hset
      have HTWO := Lib.hid (ht.trans htwo)
      clear ht hd1 hN' hi hset htwo
      cases hnb : nearB W H s at_ c with
      | true =>
        have HC2 := HC.out
        rw [hnb] at HC2
        have HC := Lib.hid HC2
        clear HC2
        go_wp2_with (go_at_call 102; refine HC.out.mono ?_; rintro e w' ⟨rfl, rfl⟩)
        go_ret
        exact ⟨true, rfl, iff_of_true rfl ⟨.inr hlb, hnb⟩, HTWO.out, N', HN1.out, by rw [if_pos rfl]; exact HSET.out⟩
      | false =>
        have HC2 := HC.out
        rw [hnb] at HC2
        have HC := Lib.hid HC2
        clear HC2
        go_wp2_with (go_at_call 102; refine HC.out.mono ?_; rintro e w' ⟨rfl, rfl⟩)
        go_ret
        exact ⟨false, rfl, iff_of_false (by decide) (fun q => by rw [hnb] at q; cases q.2), HT1.out, N', HN1.out, by rw [if_neg (by decide)]; exact HD1.out⟩
end Tr
end Go.Proofs.YtakgkocdkondhaaGreatDoor
end

section
namespace Go.Proofs.YtakgkocdkondhaaGreatDoor
namespace Tr
open Go.RowKit Fl Pt Go.Maps

/-- What do tells. -/
def DoTold (D mb N : Nat) (W H : Int) (s : ByteArray) (lv : Value) (dock at_ pod : Int) (a : Ac) (w : World) (e : Ending) (w' : World) : Prop :=
  ∃ b : Bool, e = .returned (.bool b) ∧ Two D mb w w' ∧ ∃ N', N' ≤ N + 1 ∧ match doA (nearB W H s) (laneB s) dock (at_, pod) a with
    | some t => b = true ∧ Dr D mb N' W H s lv dock t.1 t.2 w'
    | none => b = false
theorem ab_cells (w : World) (k c p : Int) : (w.alloc (.cells #[.int .u8 k, .int .i64 c, .int .i64 p] 39)).cell? ⟨w.heap.size, 0, none⟩ = some (.int .u8 k) ∧ (w.alloc (.cells #[.int .u8 k, .int .i64 c, .int .i64 p] 39)).cell? ⟨w.heap.size, 1, none⟩ = some (.int .i64 c) ∧ (w.alloc (.cells #[.int .u8 k, .int .i64 c, .int .i64 p] 39)).cell? ⟨w.heap.size, 2, none⟩ = some (.int .i64 p) := by
  refine ⟨?_, ?_, ?_⟩ <;> simp [World.cell?_alloc_new]
set_option maxHeartbeats 4000000 in
theorem do_any {D mb N : Nat} {W H : Int} {s : ByteArray} (hs : s.size ≤ maxLen) {lv : Value} {dock at_ pod : Int} {w : World} (h : Dr D mb N W H s lv dock at_ pod w) (hN : N ≤ 1000000) (hat : IW at_) (hO : OnFloor W H s at_) (k : Nat) (c p : Int) :
    Calls Tryz.prog 73 #[.pointer (some ⟨D, 0, none⟩), .agg #[.int .u8 (k : Int), .int .i64 c, .int .i64 p]] w (DoTold D mb N W H s lv dock at_ pod (k, c, p) w) := by
  have hAl := (Below.refl w.heap.size w).alloc (Nat.le_refl _) (.cells #[.int .u8 (k : Int), .int .i64 c, .int .i64 p] 39)
  obtain ⟨y0, y1, y2⟩ := ab_cells w k c p
  have h1 := h.later hAl
  have HD := Lib.hid h1
  have HD0 := Lib.hid h
  have HT : Hid (Two D mb w (w.alloc (.cells #[.int .u8 (k : Int), .int .i64 c, .int .i64 p] 39))) := Lib.hid (Two.of hAl)
  have HGO := Lib.hid (goTo_any hs h1 hN c hat hO)
  have hDw : D < w.heap.size := h.box.cells.2.2.2.2.2.2.2
  obtain ⟨_, _, _, _, q6, q7, ⟨_, z7⟩, hlt⟩ := h1.box.cells
  clear h hat hO h1 hAl
  generalize hkk : (k : Int) = kk at *
  by_cases k1 : k = 1
  · subst k1
    obtain rfl : kk = 1 := by rw [← hkk]; rfl
    clear hkk
    clear q6 q7 z7
    by_cases hp : p = 0
    · subst hp
      go_enter Tryz.func73, Tryz.ntmps73
      go_wp2_with fail
      refine HGO.out.mono ?_
      rintro e w' ⟨b, rfl, hb, htw, N', hN', hd⟩
      have HB := Lib.hid hb
      have HTW := Lib.hid (HT.out.trans htw)
      have HN' := Lib.hid hN'
      have HDD := Lib.hid hd
      clear hb htw hN' hd
      go_wp2_with fail
      go_ret
      refine ⟨b, rfl, HTW.out, N', HN'.out, ?_⟩
      unfold doA
      rw [if_pos (show ((1 : Nat) = 1) from rfl)]
      cases b with
      | true =>
        have hh := HB.out.1 rfl
        rw [if_pos ⟨rfl, hh.1, hh.2⟩]
        exact ⟨rfl, HDD.out⟩
      | false =>
        rw [if_neg (fun q => by have := HB.out.2 ⟨q.2.1, q.2.2⟩; cases this)]
    · have dp : (p == 0) = false := by rw [beq_eq_false_iff_ne]; exact hp
      have HDO : Hid (doA (nearB W H s) (laneB s) dock (at_, pod) (1, c, p) = none) := Lib.hid (by
        unfold doA
        rw [if_pos (show ((1 : Nat) = 1) from rfl), if_neg (fun q => hp q.1)])
      clear hp
      go_enter Tryz.func73, Tryz.ntmps73
      go_wp2_with fail
      go_ret
      exact ⟨false, rfl, HT.out, N, by omega, by rw [HDO.out]⟩
  · by_cases k2 : k = 2
    · subst k2
      obtain rfl : kk = 2 := by rw [← hkk]; rfl
      clear hkk k1
      by_cases hpod : pod = -1
      · have dpod : (pod != -1) = false := by rw [bne_eq_false_iff_eq]; exact hpod
        have dpp : (p != p) = false := by rw [bne_eq_false_iff_eq]
        have HPD := Lib.hid hpod
        obtain ⟨hset0, htwo0⟩ := HD0.out.setPod p
        have hal := (Below.refl (w.setCell ⟨D, 7, none⟩ (.int .i64 p)).heap.size (w.setCell ⟨D, 7, none⟩ (.int .i64 p))).alloc (Nat.le_refl _) (.cells #[.int .u8 2, .int .i64 c, .int .i64 p] 39)
        have HSET := Lib.hid (hset0.later hal)
        have HTWO := Lib.hid (htwo0.trans (Two.of hal))
        obtain ⟨x0, x1, x2⟩ := ab_cells (w.setCell ⟨D, 7, none⟩ (.int .i64 p)) 2 c p
        have hsz : (w.setCell ⟨D, 7, none⟩ (.int .i64 p)).heap.size = w.heap.size := by simp [World.setCell]
        rw [hsz] at x0 x1 x2
        clear hset0 htwo0 hal hsz hpod HGO HD0
        go_enter Tryz.func73, Tryz.ntmps73
        go_wp2_with fail
        clear q6 q7 z7 y0 y1 y2 hlt HD HT
        generalize hwz : (w.setCell ⟨D, 7, none⟩ (.int .i64 p)).alloc (.cells #[.int .u8 2, .int .i64 c, .int .i64 p] 39) = wz at *
        clear hwz
        have HD := HSET
        have HT := HTWO
        clear HSET HTWO
        obtain ⟨_, _, _, _, q6, q7, _, hlt⟩ := HD.out.box.cells
        have HLN : Hid (∀ wx, Below wz.heap.size wz wx → Calls Tryz.prog 106 #[.pointer (some ⟨D, 0, none⟩), .int .i64 c] wx fun e w' => e = .returned (.bool (isL (bAt s c))) ∧ w' = wx) := Lib.hid (fun wx hb => inLane_any (HD.out.later hb) c)
        by_cases hpp : isP p = true
        · have HP : Hid (∀ wx, Calls Tryz.prog 105 #[.int .i64 p] wx fun e w' => e = .returned (.bool true) ∧ w' = wx) := Lib.hid (fun wx => by have h := isPod_any p wx; rw [hpp] at h; exact h)
          by_cases hca : c = at_
          · have dca : (c != at_) = false := by rw [bne_eq_false_iff_eq]; exact hca
            have HCA := Lib.hid hca
            have HPP := Lib.hid hpp
            clear hca hpp
            cases hlb : isL (bAt s c) with
            | true =>
              rw [hlb] at HLN
              have HDO : Hid (doA (nearB W H s) (laneB s) dock (at_, pod) (2, c, p) = some (at_, p)) := Lib.hid (by
                unfold doA
                rw [if_neg (show ¬ ((2 : Nat) = 1) by decide), if_pos (show ((2 : Nat) = 2) from rfl), if_pos ⟨HPD.out, HPP.out, HCA.out, hlb⟩])
              clear hlb
              go_big_quiet ((first | (go_at_call 105; exact Calls.quiet_of_same (HP.out _)) | (go_at_call 106; exact Calls.quiet_of_same (HLN.out _ (below_drewN _ _ _)))))
              go_wp2_with fail
              go_ret
              exact ⟨true, rfl, HT.out.trans (Two.of (below_drewN _ _ _)), N, by omega, by rw [HDO.out]; exact ⟨rfl, HD.out.later (below_drewN _ _ _)⟩⟩
            | false =>
              rw [hlb] at HLN
              have HDO : Hid (doA (nearB W H s) (laneB s) dock (at_, pod) (2, c, p) = none) := Lib.hid (by
                unfold doA
                rw [if_neg (show ¬ ((2 : Nat) = 1) by decide), if_pos (show ((2 : Nat) = 2) from rfl), if_neg (fun q => by have h := q.2.2.2; unfold laneB at h; rw [hlb] at h; cases h)])
              clear hlb
              go_big_quiet ((first | (go_at_call 105; exact Calls.quiet_of_same (HP.out _)) | (go_at_call 106; exact Calls.quiet_of_same (HLN.out _ (below_drewN _ _ _)))))
              go_wp2_with fail
              go_ret
              exact ⟨false, rfl, HT.out.trans (Two.of (below_drewN _ _ _)), N, by omega, by rw [HDO.out]⟩
          · have dca : (c != at_) = true := by rw [bne_iff_ne]; exact hca
            have HDO : Hid (doA (nearB W H s) (laneB s) dock (at_, pod) (2, c, p) = none) := Lib.hid (by
              unfold doA
              rw [if_neg (show ¬ ((2 : Nat) = 1) by decide), if_pos (show ((2 : Nat) = 2) from rfl), if_neg (fun q => hca q.2.2.1)])
            clear hca hpp
            go_big_quiet ((first | (go_at_call 105; exact Calls.quiet_of_same (HP.out _)) | (go_at_call 106; exact Calls.quiet_of_same (HLN.out _ (below_drewN _ _ _)))))
            go_wp2_with fail
            go_ret
            exact ⟨false, rfl, HT.out.trans (Two.of (below_drewN _ _ _)), N, by omega, by rw [HDO.out]⟩
        · have HP : Hid (∀ wx, Calls Tryz.prog 105 #[.int .i64 p] wx fun e w' => e = .returned (.bool false) ∧ w' = wx) := Lib.hid (fun wx => by have h := isPod_any p wx; rw [show isP p = false by simpa using hpp] at h; exact h)
          have HDO : Hid (doA (nearB W H s) (laneB s) dock (at_, pod) (2, c, p) = none) := Lib.hid (by
            unfold doA
            rw [if_neg (show ¬ ((2 : Nat) = 1) by decide), if_pos (show ((2 : Nat) = 2) from rfl), if_neg (fun q => hpp q.2.1)])
          clear hpp
          go_big_quiet ((first | (go_at_call 105; exact Calls.quiet_of_same (HP.out _)) | (go_at_call 106; exact Calls.quiet_of_same (HLN.out _ (below_drewN _ _ _)))))
          go_wp2_with fail
          go_ret
          exact ⟨false, rfl, HT.out.trans (Two.of (below_drewN _ _ _)), N, by omega, by rw [HDO.out]⟩
      · have dpod : (pod != -1) = true := by rw [bne_iff_ne]; exact hpod
        have HDO : Hid (doA (nearB W H s) (laneB s) dock (at_, pod) (2, c, p) = none) := Lib.hid (by
          unfold doA
          rw [if_neg (show ¬ ((2 : Nat) = 1) by decide), if_pos (show ((2 : Nat) = 2) from rfl), if_neg (fun q => hpod q.1)])
        clear hpod
        go_enter Tryz.func73, Tryz.ntmps73
        go_wp2_with fail
        go_ret
        exact ⟨false, rfl, HT.out, N, by omega, by rw [HDO.out]⟩
    · by_cases k3 : k = 3
      · subst k3
        obtain rfl : kk = 3 := by rw [← hkk]; rfl
        clear hkk k1 k2
        go_enter Tryz.func73, Tryz.ntmps73
        go_wp2_with fail
        generalize hwz : w.alloc (.cells #[.int .u8 3, .int .i64 c, .int .i64 p] 39) = wz at *
        clear hwz
        have HLN : Hid (∀ wx, Below wz.heap.size wz wx → Calls Tryz.prog 106 #[.pointer (some ⟨D, 0, none⟩), .int .i64 c] wx fun e w' => e = .returned (.bool (isL (bAt s c))) ∧ w' = wx) := Lib.hid (fun wx hb => inLane_any (HD.out.later hb) c)
        by_cases hpod : p = pod
        · have dpod : (p != pod) = false := by rw [bne_eq_false_iff_eq]; exact hpod
          have HPD := Lib.hid hpod
          clear hpod
          by_cases hpp : isP p = true
          · have HP : Hid (∀ wx, Calls Tryz.prog 105 #[.int .i64 p] wx fun e w' => e = .returned (.bool true) ∧ w' = wx) := Lib.hid (fun wx => by have h := isPod_any p wx; rw [hpp] at h; exact h)
            by_cases hca : c = at_
            · have dca : (c != at_) = false := by rw [bne_eq_false_iff_eq]; exact hca
              have HCA := Lib.hid hca
              have HPP := Lib.hid hpp
              clear hca hpp
              cases hlb : isL (bAt s c) with
              | true =>
                rw [hlb] at HLN
                have HDO : Hid (doA (nearB W H s) (laneB s) dock (at_, pod) (3, c, p) = some (at_, -1)) := Lib.hid (by
                  unfold doA
                  rw [if_neg (show ¬ ((3 : Nat) = 1) by decide), if_neg (show ¬ ((3 : Nat) = 2) by decide), if_pos (show ((3 : Nat) = 3) from rfl), if_pos ⟨HPD.out, HPP.out, HCA.out, hlb⟩])
                clear hlb
                go_big_quiet ((first | (go_at_call 105; exact Calls.quiet_of_same (HP.out _)) | (go_at_call 106; exact Calls.quiet_of_same (HLN.out _ (below_drewN _ _ _)))))
                have HDz := Lib.hid (HD.out.later (below_drewN _ _ nq))
                obtain ⟨hset, htwo⟩ := HDz.out.setPod (-1)
                have HSET := Lib.hid hset
                have HTW := Lib.hid ((HT.out.trans (Two.of (below_drewN _ _ nq))).trans htwo)
                have z7 := HDz.out.box.cells.2.2.2.2.2.2.1.2
                have q7b := HDz.out.box.cells.2.2.2.2.2.1
                clear hset htwo HDz
                go_wp2_with fail
                go_ret
                exact ⟨true, rfl, HTW.out, N, by omega, by rw [HDO.out]; exact ⟨rfl, HSET.out⟩⟩
              | false =>
                rw [hlb] at HLN
                have HDO : Hid (doA (nearB W H s) (laneB s) dock (at_, pod) (3, c, p) = none) := Lib.hid (by
                  unfold doA
                  rw [if_neg (show ¬ ((3 : Nat) = 1) by decide), if_neg (show ¬ ((3 : Nat) = 2) by decide), if_pos (show ((3 : Nat) = 3) from rfl), if_neg (fun q => by have h := q.2.2.2; unfold laneB at h; rw [hlb] at h; cases h)])
                clear hlb
                go_big_quiet ((first | (go_at_call 105; exact Calls.quiet_of_same (HP.out _)) | (go_at_call 106; exact Calls.quiet_of_same (HLN.out _ (below_drewN _ _ _)))))
                go_wp2_with fail
                go_ret
                exact ⟨false, rfl, HT.out.trans (Two.of (below_drewN _ _ _)), N, by omega, by rw [HDO.out]⟩
            · have dca : (c != at_) = true := by rw [bne_iff_ne]; exact hca
              have HDO : Hid (doA (nearB W H s) (laneB s) dock (at_, pod) (3, c, p) = none) := Lib.hid (by
                unfold doA
                rw [if_neg (show ¬ ((3 : Nat) = 1) by decide), if_neg (show ¬ ((3 : Nat) = 2) by decide), if_pos (show ((3 : Nat) = 3) from rfl), if_neg (fun q => hca q.2.2.1)])
              clear hca hpp
              go_big_quiet ((first | (go_at_call 105; exact Calls.quiet_of_same (HP.out _)) | (go_at_call 106; exact Calls.quiet_of_same (HLN.out _ (below_drewN _ _ _)))))
              go_wp2_with fail
              go_ret
              exact ⟨false, rfl, HT.out.trans (Two.of (below_drewN _ _ _)), N, by omega, by rw [HDO.out]⟩
          · have HP : Hid (∀ wx, Calls Tryz.prog 105 #[.int .i64 p] wx fun e w' => e = .returned (.bool false) ∧ w' = wx) := Lib.hid (fun wx => by have h := isPod_any p wx; rw [show isP p = false by simpa using hpp] at h; exact h)
            have HDO : Hid (doA (nearB W H s) (laneB s) dock (at_, pod) (3, c, p) = none) := Lib.hid (by
              unfold doA
              rw [if_neg (show ¬ ((3 : Nat) = 1) by decide), if_neg (show ¬ ((3 : Nat) = 2) by decide), if_pos (show ((3 : Nat) = 3) from rfl), if_neg (fun q => hpp q.2.1)])
            clear hpp
            go_big_quiet ((first | (go_at_call 105; exact Calls.quiet_of_same (HP.out _)) | (go_at_call 106; exact Calls.quiet_of_same (HLN.out _ (below_drewN _ _ _)))))
            go_wp2_with fail
            go_ret
            exact ⟨false, rfl, HT.out.trans (Two.of (below_drewN _ _ _)), N, by omega, by rw [HDO.out]⟩
        · have dpod : (p != pod) = true := by rw [bne_iff_ne]; exact hpod
          have HP : Hid True := Lib.hid trivial
          have HDO : Hid (doA (nearB W H s) (laneB s) dock (at_, pod) (3, c, p) = none) := Lib.hid (by
            unfold doA
            rw [if_neg (show ¬ ((3 : Nat) = 1) by decide), if_neg (show ¬ ((3 : Nat) = 2) by decide), if_pos (show ((3 : Nat) = 3) from rfl), if_neg (fun q => hpod q.1)])
          clear hpod
          go_big_quiet (fail)
          go_wp2_with fail
          go_ret
          exact ⟨false, rfl, HT.out.trans (Two.of (below_drewN _ _ _)), N, by omega, by rw [HDO.out]⟩
      · have d1 : (kk == 1) = false := by rw [beq_eq_false_iff_ne]; omega
        have d2 : (kk == 2) = false := by rw [beq_eq_false_iff_ne]; omega
        have d3 : (kk == 3) = false := by rw [beq_eq_false_iff_ne]; omega
        have HDO : Hid (doA (nearB W H s) (laneB s) dock (at_, pod) (k, c, p) = none) := Lib.hid (by
          unfold doA
          rw [if_neg k1, if_neg k2, if_neg k3])
        clear k1 k2 k3 hkk
        go_enter Tryz.func73, Tryz.ntmps73
        go_wp2_with fail
        go_ret
        exact ⟨false, rfl, HT.out, N, by omega, by rw [HDO.out]⟩
end Tr
end Go.Proofs.YtakgkocdkondhaaGreatDoor
end
