/-
  Layer 10: nearTo, goTo.
-/
import Derived.Test.YtokjnmgbgflgnaaGreatDoorTrB
set_option linter.unusedVariables false
set_option maxRecDepth 100000
namespace Go.Proofs.YtokjnmgbgflgnaaGreatDoor
namespace Tr
open Go.RowKit Fl Pt Go.Maps

/-- Whether a cell is near to another one. -/
def nearB (W H : Int) (s : ByteArray) (a c : Int) : Bool := (il (fun j => (((nears W H s a).getD j 0 : Nat) : Int)) (nears W H s a).length).contains c
def laneB (s : ByteArray) (c : Int) : Bool := isL (bAt s c)
/-- What nearTo tells. -/
def NearTold (D mb N : Nat) (W H : Int) (s : ByteArray) (lv : Value) (dock at_ pod x : Int) (w : World) (e : Ending) (w' : World) : Prop :=
  ∃ A c, e = .returned (.slice A (nears W H s x).length c) ∧ Il w'.heap.size w' A (nears W H s x).length c (fun j => (((nears W H s x).getD j 0 : Nat) : Int)) ∧ Two D mb w w' ∧ ∃ N', N' ≤ N + 1 ∧ Dr D mb N' W H s lv dock at_ pod w'
theorem own_some {w : World} {base n c : Nat} {A : Option Addr} {xs : List Nat} (h : Own w base (.slice A n c) xs) (hx : xs ≠ []) : ∃ g, A = some ⟨g, 0, none⟩ ∧ n = xs.length := by
  rcases h.2 with ⟨e, h0⟩ | ⟨g, cap, cur, e, _⟩
  · exact absurd (List.eq_nil_of_length_eq_zero h0) hx
  · injection e with e1 e2 e3
    exact ⟨g, e1, e2⟩
theorem nears_ne {W H : Int} {s : ByteArray} {x : Int} (h : OnFloor W H s x) : nears W H s x ≠ [] := by
  obtain ⟨_, _, _, _, _, _, _, _, _, _, e2, hne⟩ := onFloor_some h
  rw [e2]; exact hne
set_option maxHeartbeats 2000000 in
theorem nearTo_any {D mb N : Nat} {W H : Int} {s : ByteArray} (hs : s.size ≤ maxLen) {lv : Value} {dock at_ pod : Int} {w : World} (h : Dr D mb N W H s lv dock at_ pod w) (hN : N ≤ 1000000) (x : Int) (hx : IW x) (hO : OnFloor W H s x) :
    Calls Tryz.prog 82 #[.pointer (some ⟨D, 0, none⟩), .int .i64 x] w (NearTold D mb N W H s lv dock at_ pod x w) := by
  have HD := Lib.hid h
  have HX := Lib.hid hx
  have HO := Lib.hid hO
  have HNE := Lib.hid (fun wx => near_any W H s hs x wx)
  obtain ⟨⟨q0, q1, q2⟩, q3, q4, _, _, _, _, hlt⟩ := h.box.cells
  obtain ⟨v, b, hrun, hin⟩ := h.map.asked hx
  have HIN := Lib.hid hin
  clear h hx hO hin
  go_enter Tryz.func82, Tryz.ntmps82
  cases b with
  | true =>
    obtain ⟨_, g, c, rfl, ho⟩ := HIN.out rfl
    have HOW := Lib.hid ho
    clear ho
    go_wp2_with fail
    go_ret
    exact ⟨_, _, rfl, HOW.out.il rfl, Two.of (Below.refl _ _), N, by omega, HD.out⟩
  | false =>
    go_wp2_with fail
    refine (HNE.out _).mono ?_
    rintro e w1 ⟨A, n, c, xs, rfl, hn, h1, _, ho, hb⟩
    obtain rfl := h1 HO.out
    obtain ⟨g, rfl, hn2⟩ := own_some ho (nears_ne HO.out)
    subst hn
    have HD1 := Lib.hid (HD.out.later hb)
    have HOW := Lib.hid (ho.lower (Nat.zero_le _))
    have HT1 : Hid (Two D mb w w1) := Lib.hid (Two.of hb)
    obtain ⟨_, _, q4, _, _, _, _, hlt1⟩ := HD1.out.box.cells
    obtain ⟨w2, hput, hm2, hk2, hg2⟩ := HD1.out.map.put_run hN HX.out HO.out HOW.out
    have HM2 := Lib.hid hm2
    have HD2 : Hid (Dr D mb (N + 1) W H s lv dock at_ pod w2) := Lib.hid ⟨(hg2.block D hlt1 (fun q => by injection q with q; exact HD1.out.ne q)).trans HD1.out.box, own_kept HD1.out.lanes hk2, hm2⟩
    have HT2 : Hid (Two D mb w w2) := Lib.hid (HT1.out.trans (Turn.grown hg2 (fun k hk => by injection hk with hk; exact .inr hk.symm)))
    have HO2 := Lib.hid (own_kept HOW.out hk2)
    clear ho hb h1 hm2 hk2 hg2 hn2 hrun q0 q1 q2 q3
    go_wp2_with fail
    go_ret
    exact ⟨_, _, rfl, HO2.out.il rfl, HT2.out, N + 1, Nat.le_refl _, HD2.out⟩

/-- What goTo tells. -/
def GoTold (D mb N : Nat) (W H : Int) (s : ByteArray) (lv : Value) (dock at_ pod c : Int) (w : World) (e : Ending) (w' : World) : Prop :=
  ∃ b : Bool, e = .returned (.bool b) ∧ (b = true ↔ (c = dock ∨ laneB s c = true) ∧ nearB W H s at_ c = true) ∧ Two D mb w w' ∧ ∃ N', N' ≤ N + 1 ∧ Dr D mb N' W H s lv dock (if b = true then c else at_) pod w'
set_option maxHeartbeats 4000000 in
theorem goTo_any {D mb N : Nat} {W H : Int} {s : ByteArray} (hs : s.size ≤ maxLen) {lv : Value} {dock at_ pod : Int} {w : World} (h : Dr D mb N W H s lv dock at_ pod w) (hN : N ≤ 1000000) (c : Int) (hat : IW at_) (hO : OnFloor W H s at_) :
    Calls Tryz.prog 60 #[.pointer (some ⟨D, 0, none⟩), .int .i64 c] w (GoTold D mb N W H s lv dock at_ pod c w) := by
  have HD := Lib.hid h
  have HL := Lib.hid (inLane_any h c)
  have HNT := Lib.hid (nearTo_any hs h hN at_ hat hO)
  obtain ⟨_, _, _, q5, q6, _, _, hlt⟩ := h.box.cells
  clear h hat hO
  have tail : ∀ (A : Option Addr) (k : Nat) (w1 : World), Il w1.heap.size w1 A (nears W H s at_).length k (fun j => (((nears W H s at_).getD j 0 : Nat) : Int)) → Calls Tryz.prog 81 #[.slice A (nears W H s at_).length k, .int .i64 c] w1 fun e w' => e = .returned (.bool (nearB W H s at_ c)) ∧ w1 = w' :=
    fun A k w1 hi => contains_any _ A _ k _ c w1 hi
  have HTL := Lib.hid tail
  clear tail
  go_enter Tryz.func60, Tryz.ntmps60
  by_cases hcd : c = dock
  · have hd : (c != dock) = false := by rw [bne_eq_false_iff_eq]; exact hcd
    have HCD := Lib.hid hcd
    clear hcd
    go_wp2_with fail
    refine HNT.out.mono ?_
    rintro e w1 ⟨A, k, rfl, hi, ht, N', hN', hd1⟩
    have HT1 := Lib.hid ht
    have HD1 := Lib.hid hd1
    have HN1 := Lib.hid hN'
    have HC := Lib.hid (HTL.out A k w1 hi)
    obtain ⟨_, _, _, _, _, _, ⟨z6, _⟩, hlt1⟩ := hd1.box.cells
    have y6 := hd1.box.cells.2.2.2.2.1
    obtain ⟨hset, htwo⟩ := hd1.setAt c
    have HSET := Lib.hid hset
    have HTWO := Lib.hid (ht.trans htwo)
    clear ht hd1 hN' hi hset htwo
    cases hnb : nearB W H s at_ c with
    | true =>
      have HC2 := HC.out
      rw [hnb] at HC2
      have HC := Lib.hid HC2
      clear HC2
      go_wp2_with (go_at_call 81; refine HC.out.mono ?_; rintro e w' ⟨rfl, rfl⟩)
      go_ret
      exact ⟨true, rfl, iff_of_true rfl ⟨.inl HCD.out, hnb⟩, HTWO.out, N', HN1.out, by rw [if_pos rfl]; exact HSET.out⟩
    | false =>
      have HC2 := HC.out
      rw [hnb] at HC2
      have HC := Lib.hid HC2
      clear HC2
      go_wp2_with (go_at_call 81; refine HC.out.mono ?_; rintro e w' ⟨rfl, rfl⟩)
      go_ret
      exact ⟨false, rfl, iff_of_false (by decide) (fun q => by rw [hnb] at q; cases q.2), HT1.out, N', HN1.out, by rw [if_neg (by decide)]; exact HD1.out⟩
  · have hd : (c != dock) = true := by rw [bne_iff_ne]; exact hcd
    have HCD := Lib.hid hcd
    clear hcd
    cases hlb : isL (bAt s c) with
    | false =>
      rw [hlb] at HL
      go_wp2_with (go_at_call 61; refine HL.out.mono ?_; rintro e w' ⟨rfl, rfl⟩)
      go_ret
      exact ⟨false, rfl, iff_of_false (by decide) (fun q => by
        rcases q.1 with q | q
        · exact HCD.out q
        · unfold laneB at q; rw [hlb] at q; cases q), Two.of (Below.refl _ _), N, by omega, by rw [if_neg (by decide)]; exact HD.out⟩
    | true =>
      rw [hlb] at HL
      go_wp2_with (go_at_call 61; refine HL.out.mono ?_; rintro e w' ⟨rfl, rfl⟩)
      refine HNT.out.mono ?_
      rintro e w1 ⟨A, k, rfl, hi, ht, N', hN', hd1⟩
      have HT1 := Lib.hid ht
      have HD1 := Lib.hid hd1
      have HN1 := Lib.hid hN'
      have HC := Lib.hid (HTL.out A k w1 hi)
      obtain ⟨_, _, _, _, _, _, ⟨z6, _⟩, hlt1⟩ := hd1.box.cells
      have y6 := hd1.box.cells.2.2.2.2.1
      obtain ⟨hset, htwo⟩ := hd1.setAt c
      have HSET := Lib.hid hset
      have HTWO := Lib.hid (ht.trans htwo)
      clear ht hd1 hN' hi hset htwo
      cases hnb : nearB W H s at_ c with
      | true =>
        have HC2 := HC.out
        rw [hnb] at HC2
        have HC := Lib.hid HC2
        clear HC2
        go_wp2_with (go_at_call 81; refine HC.out.mono ?_; rintro e w' ⟨rfl, rfl⟩)
        go_ret
        exact ⟨true, rfl, iff_of_true rfl ⟨.inr hlb, hnb⟩, HTWO.out, N', HN1.out, by rw [if_pos rfl]; exact HSET.out⟩
      | false =>
        have HC2 := HC.out
        rw [hnb] at HC2
        have HC := Lib.hid HC2
        clear HC2
        go_wp2_with (go_at_call 81; refine HC.out.mono ?_; rintro e w' ⟨rfl, rfl⟩)
        go_ret
        exact ⟨false, rfl, iff_of_false (by decide) (fun q => by rw [hnb] at q; cases q.2), HT1.out, N', HN1.out, by rw [if_neg (by decide)]; exact HD1.out⟩
end Tr
end Go.Proofs.YtokjnmgbgflgnaaGreatDoor
