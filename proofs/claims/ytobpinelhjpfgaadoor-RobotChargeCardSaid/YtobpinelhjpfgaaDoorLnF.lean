/-
  Layer 14: the sender tells, is asked for its packet, hears.
-/
import Derived.Test.YtobpinelhjpfgaaDoorLnE
set_option linter.unusedVariables false
set_option maxRecDepth 100000
namespace Go.Proofs.YtobpinelhjpfgaaDoor
namespace Ln
open Go.RowKit Bp Ck
def tlE (told : Nat) (pk : List Nat) (n : Nat) : Int := if pk ≠ [] then 3 else if 200 < n ∨ 18446744073709551614 ≤ told then 4 else 0
def tlP (told : Nat) (pk d : List Nat) : List Nat := if tlE told pk d.length = 0 then play false (told + 1) d else pk
/-- What a call on a sender comes to. -/
def STold (s : Nat) (v : Value) (told : Nat) (pk : List Nat) (x : Value) (w : World) (e : Ending) (w' : World) : Prop := ∃ v', e = .returned x ∧ SAt w' s v' told pk ∧ Turn (One s) (One s) w w' ∧ ∀ k, v'.ownBlock = some k → v.ownBlock = some k ∨ w.heap.size ≤ k
theorem ok_told {told : Nat} {d : List Nat} (h : told + 2 < 18446744073709551616) (hd : d.length ≤ 200) (hb : ∀ z ∈ d, z ≤ 255) : Ok false (told + 1) d := ⟨by omega, hd, fun e => (by cases e), hb⟩
set_option maxHeartbeats 1000000 in
theorem tell_ok {w : World} {s told B : Nat} {v : Value} {A : Option Addr} {n c : Nat} {d : List Nat} (h : SAt w s v told []) (h2 : told + 2 < 18446744073709551616) (hd : By B w A n c d) (hB : B ≤ w.heap.size) (hn : n ≤ 200) :
    Calls Tryd.prog 33 #[.pointer (some ⟨s, 0, none⟩), .slice A n c] w (STold s v told (play false (told + 1) d) (.int .i64 0) w) := by
  have HT := Lib.hid (tells_no h)
  have hok := ok_told h2 (by rw [hd.len]; exact hn) hd.byte
  have HL : Hid (Calls Tryd.prog 45 #[.agg #[.bool false, .int .u64 ((told : Int) + 1), .slice A n c]] w (LayTold w (play false (told + 1) d))) := Lib.hid (lay_ok (n := told + 1) hok hd hB)
  have HK := Lib.hid hok
  have HH := Lib.hid h
  obtain ⟨c0, c1, f0, f1⟩ := h.cells
  have hh3 : decide ((18446744073709551614 : Int) ≤ (told : Int)) = false := decide_eq_false (by omega)
  clear h hd hok
  go_enter Tryd.func33, Tryd.ntmps33
  go_wp2_with fail
  refine HT.out.mono ?_
  rintro e w1 ⟨rfl, rfl⟩
  go_wp2_with fail
  refine HL.out.mono ?_
  rintro e w2 ⟨g, c2, rfl, ho, hb⟩
  have HO := Lib.hid ho
  have HB := Lib.hid hb
  have hs := HH.out.later hb
  obtain ⟨k0, k1, k2, k3⟩ := hs.cells
  have HS := Lib.hid hs
  clear ho hb hs c0 c1 f0 f1 HL HT
  go_wp2_with fail
  go_ret
  have hg := (row_kind HO.out g rfl).2.1
  have hlt := HH.out.lt s (.inl rfl)
  refine ⟨.slice (some ⟨g, 0, none⟩) (play false (told + 1) d).length c2, rfl, ⟨?_, ?_, ?_, by omega, fun _ => h2, HK.out.play_byte, HK.out.size.2⟩, (Turn.ofBelow HB.out (One s)).put _ (show One s s from rfl), fun k hk => .inr (row_kind HO.out k hk).2.1⟩
  · rw [heap_setCell_same w2 s 1 _ _ _ HS.out.box]; simp
  · exact ownsRow_lower (ownsRow_setCell_other HO.out (by simp [Value.ownBlock]; omega) _) (Nat.zero_le _)
  · simp [Value.ownBlock]; omega
set_option maxHeartbeats 1000000 in
theorem tell_many {w : World} {s told : Nat} {v : Value} {A : Option Addr} {n c : Nat} (h : SAt w s v told []) (h2 : told + 2 < 18446744073709551616) (hn : 200 < n) (hn2 : n ≤ 9223372036854775807) :
    Calls Tryd.prog 33 #[.pointer (some ⟨s, 0, none⟩), .slice A n c] w (STold s v told [] (.int .i64 4) w) := by
  have HT := Lib.hid (tells_no h)
  have HL : Hid (Calls Tryd.prog 45 #[.agg #[.bool false, .int .u64 ((told : Int) + 1), .slice A n c]] w fun e w' => e = .returned (.tuple #[.slice none 0 0, .int .i64 4]) ∧ Below w.heap.size w w') := Lib.hid (lay_long (n := told + 1) hn2 (by omega) (.inl hn))
  have HH := Lib.hid h
  obtain ⟨c0, c1, f0, f1⟩ := h.cells
  have hh3 : decide ((18446744073709551614 : Int) ≤ (told : Int)) = false := decide_eq_false (by omega)
  clear h
  go_enter Tryd.func33, Tryd.ntmps33
  go_wp2_with fail
  refine HT.out.mono ?_
  rintro e w1 ⟨rfl, rfl⟩
  go_wp2_with fail
  refine HL.out.mono ?_
  rintro e w2 ⟨rfl, hb⟩
  have HB := Lib.hid hb
  have hs := HH.out.later hb
  obtain ⟨k0, k1, k2, k3⟩ := hs.cells
  have HS := Lib.hid hs
  clear hb hs c0 c1 f0 f1 HL HT
  go_wp2_with fail
  go_ret
  refine ⟨.slice none 0 0, rfl, ⟨?_, by exact World.ownsRow_nil _ _ _ _, by simp [Value.ownBlock], by omega, fun x => absurd rfl x, by simp, by simp⟩, (Turn.ofBelow HB.out (One s)).put _ (show One s s from rfl), fun k hk => (by cases hk)⟩
  rw [heap_setCell_same w2 s 1 _ _ _ HS.out.box]; simp
theorem tell_end {w : World} {s told : Nat} {v : Value} {A : Option Addr} {n c : Nat} (h : SAt w s v told []) (h2 : 18446744073709551614 ≤ told) :
    Calls Tryd.prog 33 #[.pointer (some ⟨s, 0, none⟩), .slice A n c] w fun e w' => e = .returned (.int .i64 4) ∧ w = w' := by
  have HT := Lib.hid (tells_no h)
  obtain ⟨c0, c1, f0, f1⟩ := h.cells
  have hnum := h.num
  have hh3 : (18446744073709551614 : Int) ≤ (told : Int) := by omega
  clear h
  go_enter Tryd.func33, Tryd.ntmps33
  go_wp2_with fail
  refine HT.out.mono ?_
  rintro e w1 ⟨rfl, rfl⟩
  go_wp2_with fail
  go_ret
  exact ⟨rfl, rfl⟩
theorem tell_there {w : World} {s told : Nat} {v : Value} {A : Option Addr} {n c : Nat} {pk : List Nat} (h : SAt w s v told pk) (hp : pk ≠ []) :
    Calls Tryd.prog 33 #[.pointer (some ⟨s, 0, none⟩), .slice A n c] w fun e w' => e = .returned (.int .i64 3) ∧ w = w' := by
  have HT := Lib.hid (tells_yes h hp)
  clear h
  go_enter Tryd.func33, Tryd.ntmps33
  go_wp2_with fail
  refine HT.out.mono ?_
  rintro e w1 ⟨rfl, rfl⟩
  go_wp2_with fail
  go_ret
  exact ⟨rfl, rfl⟩
theorem tell_any {w : World} {s told B : Nat} {v : Value} {pk : List Nat} {A : Option Addr} {n c : Nat} {d : List Nat} (h : SAt w s v told pk) (hd : By B w A n c d) (hB : B ≤ w.heap.size) :
    Calls Tryd.prog 33 #[.pointer (some ⟨s, 0, none⟩), .slice A n c] w (STold s v told (tlP told pk d) (.int .i64 (tlE told pk d.length)) w) := by
  have hln := hd.len
  by_cases hp : pk = []
  · subst hp
    by_cases h1 : 18446744073709551614 ≤ told
    · have e1 : tlE told [] d.length = 4 := by unfold tlE; rw [if_neg (by simp), if_pos (.inr h1)]
      have e2 : tlP told [] d = [] := by unfold tlP; rw [e1]; rfl
      rw [e1, e2]
      refine (tell_end h h1).mono ?_
      rintro e w' ⟨rfl, rfl⟩
      exact ⟨v, rfl, h, Turn.refl _ _, fun k hk => .inl hk⟩
    · by_cases h3 : 200 < n
      · have e1 : tlE told [] d.length = 4 := by unfold tlE; rw [if_neg (by simp), if_pos (.inl (by omega))]
        have e2 : tlP told [] d = [] := by unfold tlP; rw [e1]; rfl
        rw [e1, e2]
        exact tell_many h (by omega) h3 (by have := hd.le; have := hd.max; unfold maxLen at this; omega)
      · have e1 : tlE told [] d.length = 0 := by unfold tlE; rw [if_neg (by simp), if_neg (by omega)]
        have e2 : tlP told [] d = play false (told + 1) d := by unfold tlP; rw [e1]; rfl
        rw [e1, e2]
        exact tell_ok h (by omega) hd hB (by omega)
  · have e1 : tlE told pk d.length = 3 := by unfold tlE; rw [if_pos hp]
    have e2 : tlP told pk d = pk := by unfold tlP; rw [e1]; rfl
    rw [e1, e2]
    refine (tell_there h hp).mono ?_
    rintro e w' ⟨rfl, rfl⟩
    exact ⟨v, rfl, h, Turn.refl _ _, fun k hk => .inl hk⟩
/-- What Packet gives. -/
def PktTold (pk : List Nat) (w : World) (e : Ending) (w' : World) : Prop := ∃ A c, e = .returned (.tuple #[.slice A pk.length c, .bool (decide (pk ≠ []))]) ∧ w'.ownsRow w.heap.size 5 1 (.slice A pk.length c) pk.length (bc pk) ∧ Below w.heap.size w w'
theorem packet_any {w : World} {s told : Nat} {v : Value} {pk : List Nat} (h : SAt w s v told pk) : Calls Tryd.prog 34 #[.pointer (some ⟨s, 0, none⟩)] w (PktTold pk w) := by
  by_cases hp : pk = []
  · subst hp
    have HT := Lib.hid (tells_no h)
    clear h
    go_enter Tryd.func34, Tryd.ntmps34
    go_wp2_with fail
    refine HT.out.mono ?_
    rintro e w1 ⟨rfl, rfl⟩
    go_wp2_with fail
    go_ret2
    exact ⟨none, 0, rfl, by exact World.ownsRow_nil _ _ _ _, Below.refl _ _⟩
  · have HT := Lib.hid (tells_yes h hp)
    obtain ⟨A, c, rfl⟩ := h.form
    have HC := Lib.hid (bclone_any (h.by_ rfl) (List.length_pos_iff.2 hp) (by have := h.few; omega))
    obtain ⟨c0, c1, f0, f1⟩ := h.cells
    have hd : decide (pk ≠ []) = true := decide_eq_true hp
    unfold PktTold
    rw [hd]
    clear h
    generalize pk.length = n at *
    go_enter Tryd.func34, Tryd.ntmps34
    go_wp2_with fail
    refine HT.out.mono ?_
    rintro e w1 ⟨rfl, rfl⟩
    go_wp2_with fail
    refine HC.out.mono ?_
    rintro e w2 ⟨g, c2, rfl, ho, hb⟩
    have HO := Lib.hid ho
    have HB := Lib.hid hb
    clear ho hb HC HT c0 c1 f0 f1
    go_wp2_with fail
    go_ret2
    exact ⟨some ⟨g, 0, none⟩, c2, rfl, HO.out, HB.out⟩
/-- Does the sender hear by that? -/
def heB (told : Nat) (pk bs : List Nat) : Bool := decide (pk ≠ []) && decide (bs = play true (told + 1) [])
set_option maxHeartbeats 1000000 in
theorem shear_any {w : World} {s told B : Nat} {v : Value} {pk : List Nat} {A : Option Addr} {n c : Nat} {bs : List Nat} (h : SAt w s v told pk) (hd : By B w A n c bs) (hB : B ≤ w.heap.size) :
    Calls Tryd.prog 35 #[.pointer (some ⟨s, 0, none⟩), .slice A n c] w (STold s v (if heB told pk bs then told + 1 else told) (if heB told pk bs then [] else pk) (.bool (heB told pk bs)) w) := by
  by_cases hp : pk = []
  · subst hp
    have e1 : heB told [] bs = false := by simp [heB]
    rw [e1]
    have HT := Lib.hid (tells_no h)
    have HS := Lib.hid h
    clear h hd
    go_enter Tryd.func35, Tryd.ntmps35
    go_wp2_with fail
    refine HT.out.mono ?_
    rintro e w1 ⟨rfl, rfl⟩
    go_wp2_with fail
    go_ret
    exact ⟨v, rfl, HS.out, Turn.refl _ _, fun k hk => .inl hk⟩
  · have HT := Lib.hid (tells_yes h hp)
    have hg := h.good hp
    have HL : Hid (Calls Tryd.prog 70 #[.int .u64 ((told : Int) + 1)] w _) := Lib.hid (layHeard_any (w := w) (n := told + 1) (by omega))
    have hbyt : ∀ z ∈ play true (told + 1) [], z ≤ 255 := (show Ok true (told + 1) [] from ⟨by omega, by simp, fun _ => rfl, by simp⟩).play_byte
    have HBT := Lib.hid hbyt
    have HH := Lib.hid h
    have HD := Lib.hid (hd.mono hB)
    obtain ⟨c0, c1, f0, f1⟩ := h.cells
    have e1 : heB told pk bs = decide (bs = play true (told + 1) []) := by unfold heB; rw [decide_eq_true hp]; rfl
    rw [e1]
    clear h hd hbyt e1
    generalize play true (told + 1) [] = zs at *
    by_cases he : bs = zs
    · have e2 : decide (bs = zs) = true := decide_eq_true he
      rw [e2]
      clear e2
      have HEQ := Lib.hid he
      clear he
      go_enter Tryd.func35, Tryd.ntmps35
      go_wp2_with fail
      refine HT.out.mono ?_
      rintro e w1 ⟨rfl, rfl⟩
      go_wp2_with fail
      refine HL.out.mono ?_
      rintro e w2 ⟨g, c2, rfl, ho, hb⟩
      have hee := (equal_any (HD.out.below hb) (By.own ho HBT.out))
      rw [decide_eq_true HEQ.out] at hee
      have HE := Lib.hid hee
      have hs := HH.out.later hb
      obtain ⟨k0, k1, k2, k3⟩ := hs.cells
      have HS := Lib.hid hs
      have HB := Lib.hid hb
      clear ho hb hs hee c0 c1 f0 f1 HL HT HD HEQ
      go_wp2_with fail
      refine HE.out.mono ?_
      rintro e w3 ⟨rfl, rfl⟩
      have hb1 := HS.out.box
      have hx1 := heap_setCell_same w2 s 1 _ _ (.slice none 0 0) hb1
      have d0 : (w2.setCell ⟨s, 1, none⟩ (.slice none 0 0)).cell? ⟨s, 0, none⟩ = some (.int .u64 (told : Int)) := by rw [cell_of_row _ s 0 _ _ _ hx1]; rfl
      have d1 : (w2.setCell ⟨s, 1, none⟩ (.slice none 0 0)).frozen? ⟨s, 0, none⟩ = false := frozen_of_row _ s 0 _ _ hx1
      have HX1 := Lib.hid hx1
      clear hb1 hx1
      go_wp2_with fail
      go_ret
      refine ⟨.slice none 0 0, rfl, ⟨?_, by exact World.ownsRow_nil _ _ _ _, by simp [Value.ownBlock], by (try simp); omega, fun x => absurd rfl x, by simp, by simp⟩, ((Turn.ofBelow HB.out (One s)).put _ (show One s s from rfl)).put _ (show One s s from rfl), fun k hk => (by cases hk)⟩
      rw [heap_setCell_same _ s 0 _ _ _ HX1.out]; simp
    · have e2 : decide (bs = zs) = false := decide_eq_false he
      rw [e2]
      clear e2
      have HEQ := Lib.hid he
      clear he
      go_enter Tryd.func35, Tryd.ntmps35
      go_wp2_with fail
      refine HT.out.mono ?_
      rintro e w1 ⟨rfl, rfl⟩
      go_wp2_with fail
      refine HL.out.mono ?_
      rintro e w2 ⟨g, c2, rfl, ho, hb⟩
      have hee := (equal_any (HD.out.below hb) (By.own ho HBT.out))
      rw [decide_eq_false HEQ.out] at hee
      have HE := Lib.hid hee
      have hs := HH.out.later hb
      obtain ⟨k0, k1, k2, k3⟩ := hs.cells
      have HS := Lib.hid hs
      have HB := Lib.hid hb
      clear ho hb hs hee c0 c1 f0 f1 HL HT HD HEQ
      go_wp2_with fail
      refine HE.out.mono ?_
      rintro e w3 ⟨rfl, rfl⟩
      go_wp2_with fail
      go_ret
      exact ⟨v, rfl, HS.out, Turn.ofBelow HB.out _, fun k hk => .inl hk⟩
end Ln
end Go.Proofs.YtobpinelhjpfgaaDoor
