/-
  Layer 14: the sender.
  Layer 14: the sender tells, is asked for its packet, hears.
  Layer 14: the receiver.
  Layer 14: the document's examples; are two packets like?
-/
import Derived.Test.YtobpinelhjpfgaaDoorLnOne
import Derived.Test.YtobpinelhjpfgaaDoorCkThr
import Derived.OwnWalk
import Derived.Deep.RegionHeld3
import Derived.Lib.SlBytesConst
set_option linter.unusedVariables false
set_option maxRecDepth 100000
section
namespace Go.Proofs.YtobpinelhjpfgaaDoor
namespace Ln
open Go.RowKit Bp Ck
/-- A sender lies in block s, its packet's bytes at v. -/
structure SAt (w : World) (s : Nat) (v : Value) (told : Nat) (pk : List Nat) : Prop where
  box : w.heap[s]? = some (.cells #[.int .u64 (told : Int), v] 102 (0, 0))
  row : w.ownsRow 0 5 1 v pk.length (bc pk)
  ne : v.ownBlock ≠ some s
  num : told < 18446744073709551616
  good : pk ≠ [] → told + 2 < 18446744073709551616
  byte : ∀ z ∈ pk, z ≤ 255
  few : pk.length ≤ 300
def SF (s : Nat) (v : Value) : Nat → Prop := fun k => k = s ∨ v.ownBlock = some k
/-- Just that block is written. -/
def One (s : Nat) : Nat → Prop := fun k => k = s
section
variable {w w' : World} {s told : Nat} {v : Value} {pk : List Nat}
theorem SAt.same (h : SAt w s v told pk) (hk : ∀ k, SF s v k → w'.heap[k]? = w.heap[k]?) : SAt w' s v told pk :=
  ⟨(hk s (.inl rfl)).trans h.box, ownsRow_same h.row (fun k e => hk k (.inr e)), h.ne, h.num, h.good, h.byte, h.few⟩
theorem SAt.lt (h : SAt w s v told pk) : ∀ k, SF s v k → k < w.heap.size := by
  rintro k (rfl | hk)
  · exact lt_of_heap h.box
  · exact (h.row.lt k hk).2
theorem SAt.later (h : SAt w s v told pk) (hb : Below w.heap.size w w') : SAt w' s v told pk := h.same fun k hk => hb.block k (h.lt k hk)
theorem SAt.cells (h : SAt w s v told pk) : w.cell? ⟨s, 0, none⟩ = some (.int .u64 (told : Int)) ∧ w.cell? ⟨s, 1, none⟩ = some v ∧ w.frozen? ⟨s, 0, none⟩ = false ∧ w.frozen? ⟨s, 1, none⟩ = false :=
  ⟨by rw [cell_of_row _ s 0 _ _ _ h.box]; rfl, by rw [cell_of_row _ s 1 _ _ _ h.box]; rfl, frozen_of_row _ s 0 _ _ h.box, frozen_of_row _ s 1 _ _ h.box⟩
theorem SAt.form (h : SAt w s v told pk) : ∃ A c, v = .slice A pk.length c := ownsRow_shape h.row
theorem SAt.by_ (h : SAt w s v told pk) {A : Option Addr} {c : Nat} (hv : v = .slice A pk.length c) : By w.heap.size w A pk.length c pk := by subst hv; exact By.own h.row h.byte
theorem row_kind {base n : Nat} {xs : List Value} {e : TypeId} (h : w.ownsRow base e 1 v n xs) : ∀ g, v.ownBlock = some g → g < w.heap.size ∧ base ≤ g ∧ ∃ c fz, w.heap[g]? = some (.cells c e fz) := by
  intro g hg
  refine ⟨(h.lt g hg).2, (h.lt g hg).1, ?_⟩
  rcases h.2 with ⟨q, _⟩ | ⟨g0, c0, cur, q, _, hh, _⟩
  · rw [q] at hg; cases hg
  · have : g = g0 := by rw [q] at hg; simpa [Value.ownBlock] using hg.symm
    subst this; exact ⟨cur, _, hh⟩
theorem SAt.kind (h : SAt w s v told pk) : ∀ k, SF s v k → ∃ c t fz, w.heap[k]? = some (.cells c t fz) ∧ (t = 102 ∨ t = 5) := by
  rintro k (rfl | hk)
  · exact ⟨_, _, _, h.box, .inl rfl⟩
  · obtain ⟨_, _, c, fz, hh⟩ := row_kind h.row k hk
    exact ⟨_, _, _, hh, .inr rfl⟩
/-- A block of another make is none of a sender's. -/
theorem SAt.apart (h : SAt w s v told pk) {b : Nat} {c : Array Value} {t : TypeId} {fz : Nat × Nat} (hb : w.heap[b]? = some (.cells c t fz)) (h1 : t ≠ 102) (h2 : t ≠ 5) : ¬ SF s v b := by
  intro hk
  obtain ⟨c2, t2, fz2, hh, ht⟩ := h.kind b hk
  rw [hb] at hh
  injection hh with hh
  injection hh with _ e _
  subst e
  rcases ht with x | x
  · exact h1 x
  · exact h2 x
end
theorem newSender_any (n : Int) (w : World) : Calls Tryd.prog 30 #[.int .u64 n] w fun e w' => e = .returned (.pointer (some ⟨w.heap.size, 0, none⟩)) ∧ w' = w.alloc (.cells #[.int .u64 n, .slice none 0 0] 102) := by
  go_enter Tryd.func30, Tryd.ntmps30
  go_wp2
  go_ret
  exact ⟨rfl, rfl⟩
theorem sat_new (w : World) (n : Nat) (hn : n < 18446744073709551616) : SAt (w.alloc (.cells #[.int .u64 (n : Int), .slice none 0 0] 102)) w.heap.size (.slice none 0 0) n [] :=
  ⟨heap_alloc_new w _, by exact World.ownsRow_nil _ _ _ _, by simp [Value.ownBlock], hn, fun h => absurd rfl h, by simp, by simp⟩
theorem tells_any {w : World} {s told : Nat} {v : Value} {pk : List Nat} (h : SAt w s v told pk) :
    Calls Tryd.prog 67 #[.pointer (some ⟨s, 0, none⟩)] w fun e w' => e = .returned (.bool (decide (0 < pk.length))) ∧ w = w' := by
  obtain ⟨A, c, rfl⟩ := h.form
  obtain ⟨c0, c1, _⟩ := h.cells
  have hf := h.few
  clear h
  generalize pk.length = n at *
  go_enter Tryd.func67, Tryd.ntmps67
  go_wp2
  go_ret
  exact ⟨rfl, rfl⟩
theorem tells_no {w : World} {s told : Nat} {v : Value} (h : SAt w s v told []) : Calls Tryd.prog 67 #[.pointer (some ⟨s, 0, none⟩)] w fun e w' => e = .returned (.bool false) ∧ w = w' := by simpa using tells_any h
theorem tells_yes {w : World} {s told : Nat} {v : Value} {pk : List Nat} (h : SAt w s v told pk) (hp : pk ≠ []) : Calls Tryd.prog 67 #[.pointer (some ⟨s, 0, none⟩)] w fun e w' => e = .returned (.bool true) ∧ w = w' := by
  have e : decide (0 < pk.length) = true := decide_eq_true (List.length_pos_iff.2 hp)
  have := tells_any h
  rw [e] at this
  exact this
theorem told_any {w : World} {s told : Nat} {v : Value} {pk : List Nat} (h : SAt w s v told pk) : Calls Tryd.prog 36 #[.pointer (some ⟨s, 0, none⟩)] w fun e w' => e = .returned (.int .u64 (told : Int)) ∧ w = w' := by
  obtain ⟨c0, c1, _⟩ := h.cells
  clear h
  go_enter Tryd.func36, Tryd.ntmps36
  go_wp2
  go_ret
  exact ⟨rfl, rfl⟩
theorem equal_any {w : World} {B B2 : Nat} {A A2 : Option Addr} {n m c c2 : Nat} {xs ys : List Nat} (h1 : By B w A n c xs) (h2 : By B2 w A2 m c2 ys) :
    Calls Tryd.prog 69 #[.slice A n c, .slice A2 m c2] w fun e w' => e = .returned (.bool (decide (xs = ys))) ∧ w = w' := by
  have k1 := h1.conv
  have k2 := h2.conv
  by_cases he : xs = ys
  · subst he
    have e : decide (xs = xs) = true := decide_eq_true rfl
    rw [e]
    clear h1 h2 e
    go_enter Tryd.func69, Tryd.ntmps69
    go_wp2
    go_ret
    exact ⟨rfl, rfl⟩
  · have e : decide (xs = ys) = false := decide_eq_false he
    rw [e]
    have hq := strOf_ne xs ys h1.byte h2.byte he
    clear h1 h2 e he
    go_enter Tryd.func69, Tryd.ntmps69
    go_wp2
    go_ret
    exact ⟨rfl, rfl⟩
theorem layHeard_any {w : World} {n : Nat} (hn : n + 1 < 18446744073709551616) :
    Calls Tryd.prog 70 #[.int .u64 (n : Int)] w fun e w' => ∃ g c, e = .returned (.slice (some ⟨g, 0, none⟩) (play true n []).length c) ∧ w'.ownsRow w.heap.size 5 1 (.slice (some ⟨g, 0, none⟩) (play true n []).length c) (play true n []).length (bc (play true n [])) ∧ Below w.heap.size w w' := by
  have hok : Ok true n [] := ⟨hn, by simp, fun _ => rfl, by simp⟩
  have HL := Lib.hid (lay_ok (w := w) hok (By.none_ 0 w) (Nat.zero_le _))
  generalize play true n [] = zs at *
  go_enter Tryd.func70, Tryd.ntmps70
  go_wp2_with fail
  refine HL.out.mono ?_
  rintro e w1 ⟨g, c, rfl, ho, hb⟩
  have HO := Lib.hid ho
  have HB := Lib.hid hb
  clear ho hb
  go_wp2_with fail
  go_ret
  exact ⟨g, c, rfl, HO.out, HB.out⟩
end Ln
end Go.Proofs.YtobpinelhjpfgaaDoor
end

section
namespace Go.Proofs.YtobpinelhjpfgaaDoor
namespace Ln
open Go.RowKit Bp Ck
def tlE (told : Nat) (pk : List Nat) (n : Nat) : Int := if pk ≠ [] then 3 else if 200 < n ∨ 18446744073709551614 ≤ told then 4 else 0
def tlP (told : Nat) (pk d : List Nat) : List Nat := if tlE told pk d.length = 0 then play false (told + 1) d else pk
/-- What a call on a sender comes to. -/
def STold (s : Nat) (v : Value) (told : Nat) (pk : List Nat) (x : Value) (w : World) (e : Ending) (w' : World) : Prop := ∃ v', e = .returned x ∧ SAt w' s v' told pk ∧ Turn (One s) (One s) w w' ∧ ∀ k, v'.ownBlock = some k → v.ownBlock = some k ∨ w.heap.size ≤ k
theorem ok_told {told : Nat} {d : List Nat} (h : told + 2 < 18446744073709551616) (hd : d.length ≤ 200) (hb : ∀ z ∈ d, z ≤ 255) : Ok false (told + 1) d := ⟨by omega, hd, fun e => (by cases e), hb⟩
set_option maxHeartbeats 1000000 in
theorem tell_ok {w : World} {s told B : Nat} {v : Value} {A : Option Addr} {n c : Nat} {d : List Nat} (h : SAt w s v told []) (h2 : told + 2 < 18446744073709551616) (hd : By B w A n c d) (hB : B ≤ w.heap.size) (hn : n ≤ 200) :
    Calls Tryd.prog 33 #[.pointer (some ⟨s, 0, none⟩), .slice A n c] w (STold s v told (play false (told + 1) d) (.int .i64 0) w) := by
  have HT := Lib.hid (tells_no h)
  have hok := ok_told h2 (by rw [hd.len]; exact hn) hd.byte
  have HL : Hid (Calls Tryd.prog 45 #[.agg #[.bool false, .int .u64 ((told : Int) + 1), .slice A n c]] w (LayTold w (play false (told + 1) d))) := Lib.hid (lay_ok (n := told + 1) hok hd hB)
  have HK := Lib.hid hok
  have HH := Lib.hid h
  obtain ⟨c0, c1, f0, f1⟩ := h.cells
  have hh3 : decide ((18446744073709551614 : Int) ≤ (told : Int)) = false := decide_eq_false (by omega)
  clear h hd hok
  go_enter Tryd.func33, Tryd.ntmps33
  go_wp2_with fail
  refine HT.out.mono ?_
  rintro e w1 ⟨rfl, rfl⟩
  go_wp2_with fail
  refine HL.out.mono ?_
  rintro e w2 ⟨g, c2, rfl, ho, hb⟩
  have HO := Lib.hid ho
  have HB := Lib.hid hb
  have hs := HH.out.later hb
  obtain ⟨k0, k1, k2, k3⟩ := hs.cells
  have HS := Lib.hid hs
  clear ho hb hs c0 c1 f0 f1 HL HT
  go_wp2_with fail
  go_ret
  have hg := (row_kind HO.out g rfl).2.1
  have hlt := HH.out.lt s (.inl rfl)
  refine ⟨.slice (some ⟨g, 0, none⟩) (play false (told + 1) d).length c2, rfl, ⟨?_, ?_, ?_, by omega, fun _ => h2, HK.out.play_byte, HK.out.size.2⟩, (Turn.ofBelow HB.out (One s)).put _ (show One s s from rfl), fun k hk => .inr (row_kind HO.out k hk).2.1⟩
  · rw [heap_setCell_same w2 s 1 _ _ _ HS.out.box]; simp
  · exact ownsRow_lower (ownsRow_setCell_other HO.out (by simp [Value.ownBlock]; omega) _) (Nat.zero_le _)
  · simp [Value.ownBlock]; omega
set_option maxHeartbeats 1000000 in
theorem tell_many {w : World} {s told : Nat} {v : Value} {A : Option Addr} {n c : Nat} (h : SAt w s v told []) (h2 : told + 2 < 18446744073709551616) (hn : 200 < n) (hn2 : n ≤ 9223372036854775807) :
    Calls Tryd.prog 33 #[.pointer (some ⟨s, 0, none⟩), .slice A n c] w (STold s v told [] (.int .i64 4) w) := by
  have HT := Lib.hid (tells_no h)
  have HL : Hid (Calls Tryd.prog 45 #[.agg #[.bool false, .int .u64 ((told : Int) + 1), .slice A n c]] w fun e w' => e = .returned (.tuple #[.slice none 0 0, .int .i64 4]) ∧ Below w.heap.size w w') := Lib.hid (lay_long (n := told + 1) hn2 (by omega) (.inl hn))
  have HH := Lib.hid h
  obtain ⟨c0, c1, f0, f1⟩ := h.cells
  have hh3 : decide ((18446744073709551614 : Int) ≤ (told : Int)) = false := decide_eq_false (by omega)
  clear h
  go_enter Tryd.func33, Tryd.ntmps33
  go_wp2_with fail
  refine HT.out.mono ?_
  rintro e w1 ⟨rfl, rfl⟩
  go_wp2_with fail
  refine HL.out.mono ?_
  rintro e w2 ⟨rfl, hb⟩
  have HB := Lib.hid hb
  have hs := HH.out.later hb
  obtain ⟨k0, k1, k2, k3⟩ := hs.cells
  have HS := Lib.hid hs
  clear hb hs c0 c1 f0 f1 HL HT
  go_wp2_with fail
  go_ret
  refine ⟨.slice none 0 0, rfl, ⟨?_, by exact World.ownsRow_nil _ _ _ _, by simp [Value.ownBlock], by omega, fun x => absurd rfl x, by simp, by simp⟩, (Turn.ofBelow HB.out (One s)).put _ (show One s s from rfl), fun k hk => (by cases hk)⟩
  rw [heap_setCell_same w2 s 1 _ _ _ HS.out.box]; simp
theorem tell_end {w : World} {s told : Nat} {v : Value} {A : Option Addr} {n c : Nat} (h : SAt w s v told []) (h2 : 18446744073709551614 ≤ told) :
    Calls Tryd.prog 33 #[.pointer (some ⟨s, 0, none⟩), .slice A n c] w fun e w' => e = .returned (.int .i64 4) ∧ w = w' := by
  have HT := Lib.hid (tells_no h)
  obtain ⟨c0, c1, f0, f1⟩ := h.cells
  have hnum := h.num
  have hh3 : (18446744073709551614 : Int) ≤ (told : Int) := by omega
  clear h
  go_enter Tryd.func33, Tryd.ntmps33
  go_wp2_with fail
  refine HT.out.mono ?_
  rintro e w1 ⟨rfl, rfl⟩
  go_wp2_with fail
  go_ret
  exact ⟨rfl, rfl⟩
theorem tell_there {w : World} {s told : Nat} {v : Value} {A : Option Addr} {n c : Nat} {pk : List Nat} (h : SAt w s v told pk) (hp : pk ≠ []) :
    Calls Tryd.prog 33 #[.pointer (some ⟨s, 0, none⟩), .slice A n c] w fun e w' => e = .returned (.int .i64 3) ∧ w = w' := by
  have HT := Lib.hid (tells_yes h hp)
  clear h
  go_enter Tryd.func33, Tryd.ntmps33
  go_wp2_with fail
  refine HT.out.mono ?_
  rintro e w1 ⟨rfl, rfl⟩
  go_wp2_with fail
  go_ret
  exact ⟨rfl, rfl⟩
theorem tell_any {w : World} {s told B : Nat} {v : Value} {pk : List Nat} {A : Option Addr} {n c : Nat} {d : List Nat} (h : SAt w s v told pk) (hd : By B w A n c d) (hB : B ≤ w.heap.size) :
    Calls Tryd.prog 33 #[.pointer (some ⟨s, 0, none⟩), .slice A n c] w (STold s v told (tlP told pk d) (.int .i64 (tlE told pk d.length)) w) := by
  have hln := hd.len
  by_cases hp : pk = []
  · subst hp
    by_cases h1 : 18446744073709551614 ≤ told
    · have e1 : tlE told [] d.length = 4 := by unfold tlE; rw [if_neg (by simp), if_pos (.inr h1)]
      have e2 : tlP told [] d = [] := by unfold tlP; rw [e1]; rfl
      rw [e1, e2]
      refine (tell_end h h1).mono ?_
      rintro e w' ⟨rfl, rfl⟩
      exact ⟨v, rfl, h, Turn.refl _ _, fun k hk => .inl hk⟩
    · by_cases h3 : 200 < n
      · have e1 : tlE told [] d.length = 4 := by unfold tlE; rw [if_neg (by simp), if_pos (.inl (by omega))]
        have e2 : tlP told [] d = [] := by unfold tlP; rw [e1]; rfl
        rw [e1, e2]
        exact tell_many h (by omega) h3 (by have := hd.le; have := hd.max; unfold maxLen at this; omega)
      · have e1 : tlE told [] d.length = 0 := by unfold tlE; rw [if_neg (by simp), if_neg (by omega)]
        have e2 : tlP told [] d = play false (told + 1) d := by unfold tlP; rw [e1]; rfl
        rw [e1, e2]
        exact tell_ok h (by omega) hd hB (by omega)
  · have e1 : tlE told pk d.length = 3 := by unfold tlE; rw [if_pos hp]
    have e2 : tlP told pk d = pk := by unfold tlP; rw [e1]; rfl
    rw [e1, e2]
    refine (tell_there h hp).mono ?_
    rintro e w' ⟨rfl, rfl⟩
    exact ⟨v, rfl, h, Turn.refl _ _, fun k hk => .inl hk⟩
/-- What Packet gives. -/
def PktTold (pk : List Nat) (w : World) (e : Ending) (w' : World) : Prop := ∃ A c, e = .returned (.tuple #[.slice A pk.length c, .bool (decide (pk ≠ []))]) ∧ w'.ownsRow w.heap.size 5 1 (.slice A pk.length c) pk.length (bc pk) ∧ Below w.heap.size w w'
theorem packet_any {w : World} {s told : Nat} {v : Value} {pk : List Nat} (h : SAt w s v told pk) : Calls Tryd.prog 34 #[.pointer (some ⟨s, 0, none⟩)] w (PktTold pk w) := by
  by_cases hp : pk = []
  · subst hp
    have HT := Lib.hid (tells_no h)
    clear h
    go_enter Tryd.func34, Tryd.ntmps34
    go_wp2_with fail
    refine HT.out.mono ?_
    rintro e w1 ⟨rfl, rfl⟩
    go_wp2_with fail
    go_ret2
    exact ⟨none, 0, rfl, by exact World.ownsRow_nil _ _ _ _, Below.refl _ _⟩
  · have HT := Lib.hid (tells_yes h hp)
    obtain ⟨A, c, rfl⟩ := h.form
    have HC := Lib.hid (bclone_any (h.by_ rfl) (List.length_pos_iff.2 hp) (by have := h.few; omega))
    obtain ⟨c0, c1, f0, f1⟩ := h.cells
    have hd : decide (pk ≠ []) = true := decide_eq_true hp
    unfold PktTold
    rw [hd]
    clear h
    generalize pk.length = n at *
    go_enter Tryd.func34, Tryd.ntmps34
    go_wp2_with fail
    refine HT.out.mono ?_
    rintro e w1 ⟨rfl, rfl⟩
    go_wp2_with fail
    refine HC.out.mono ?_
    rintro e w2 ⟨g, c2, rfl, ho, hb⟩
    have HO := Lib.hid ho
    have HB := Lib.hid hb
    clear ho hb HC HT c0 c1 f0 f1
    go_wp2_with fail
    go_ret2
    exact ⟨some ⟨g, 0, none⟩, c2, rfl, HO.out, HB.out⟩
/-- Does the sender hear by that? -/
def heB (told : Nat) (pk bs : List Nat) : Bool := decide (pk ≠ []) && decide (bs = play true (told + 1) [])
set_option maxHeartbeats 1000000 in
theorem shear_any {w : World} {s told B : Nat} {v : Value} {pk : List Nat} {A : Option Addr} {n c : Nat} {bs : List Nat} (h : SAt w s v told pk) (hd : By B w A n c bs) (hB : B ≤ w.heap.size) :
    Calls Tryd.prog 35 #[.pointer (some ⟨s, 0, none⟩), .slice A n c] w (STold s v (if heB told pk bs then told + 1 else told) (if heB told pk bs then [] else pk) (.bool (heB told pk bs)) w) := by
  by_cases hp : pk = []
  · subst hp
    have e1 : heB told [] bs = false := by simp [heB]
    rw [e1]
    have HT := Lib.hid (tells_no h)
    have HS := Lib.hid h
    clear h hd
    go_enter Tryd.func35, Tryd.ntmps35
    go_wp2_with fail
    refine HT.out.mono ?_
    rintro e w1 ⟨rfl, rfl⟩
    go_wp2_with fail
    go_ret
    exact ⟨v, rfl, HS.out, Turn.refl _ _, fun k hk => .inl hk⟩
  · have HT := Lib.hid (tells_yes h hp)
    have hg := h.good hp
    have HL : Hid (Calls Tryd.prog 70 #[.int .u64 ((told : Int) + 1)] w _) := Lib.hid (layHeard_any (w := w) (n := told + 1) (by omega))
    have hbyt : ∀ z ∈ play true (told + 1) [], z ≤ 255 := (show Ok true (told + 1) [] from ⟨by omega, by simp, fun _ => rfl, by simp⟩).play_byte
    have HBT := Lib.hid hbyt
    have HH := Lib.hid h
    have HD := Lib.hid (hd.mono hB)
    obtain ⟨c0, c1, f0, f1⟩ := h.cells
    have e1 : heB told pk bs = decide (bs = play true (told + 1) []) := by unfold heB; rw [decide_eq_true hp]; rfl
    rw [e1]
    clear h hd hbyt e1
    generalize play true (told + 1) [] = zs at *
    by_cases he : bs = zs
    · have e2 : decide (bs = zs) = true := decide_eq_true he
      rw [e2]
      clear e2
      have HEQ := Lib.hid he
      clear he
      go_enter Tryd.func35, Tryd.ntmps35
      go_wp2_with fail
      refine HT.out.mono ?_
      rintro e w1 ⟨rfl, rfl⟩
      go_wp2_with fail
      refine HL.out.mono ?_
      rintro e w2 ⟨g, c2, rfl, ho, hb⟩
      have hee := (equal_any (HD.out.below hb) (By.own ho HBT.out))
      rw [decide_eq_true HEQ.out] at hee
      have HE := Lib.hid hee
      have hs := HH.out.later hb
      obtain ⟨k0, k1, k2, k3⟩ := hs.cells
      have HS := Lib.hid hs
      have HB := Lib.hid hb
      clear ho hb hs hee c0 c1 f0 f1 HL HT HD HEQ
      go_wp2_with fail
      refine HE.out.mono ?_
      rintro e w3 ⟨rfl, rfl⟩
      have hb1 := HS.out.box
      have hx1 := heap_setCell_same w2 s 1 _ _ (.slice none 0 0) hb1
      have d0 : (w2.setCell ⟨s, 1, none⟩ (.slice none 0 0)).cell? ⟨s, 0, none⟩ = some (.int .u64 (told : Int)) := by rw [cell_of_row _ s 0 _ _ _ hx1]; rfl
      have d1 : (w2.setCell ⟨s, 1, none⟩ (.slice none 0 0)).frozen? ⟨s, 0, none⟩ = false := frozen_of_row _ s 0 _ _ hx1
      have HX1 := Lib.hid hx1
      clear hb1 hx1
      go_wp2_with fail
      go_ret
      refine ⟨.slice none 0 0, rfl, ⟨?_, by exact World.ownsRow_nil _ _ _ _, by simp [Value.ownBlock], by (try simp); omega, fun x => absurd rfl x, by simp, by simp⟩, ((Turn.ofBelow HB.out (One s)).put _ (show One s s from rfl)).put _ (show One s s from rfl), fun k hk => (by cases hk)⟩
      rw [heap_setCell_same _ s 0 _ _ _ HX1.out]; simp
    · have e2 : decide (bs = zs) = false := decide_eq_false he
      rw [e2]
      clear e2
      have HEQ := Lib.hid he
      clear he
      go_enter Tryd.func35, Tryd.ntmps35
      go_wp2_with fail
      refine HT.out.mono ?_
      rintro e w1 ⟨rfl, rfl⟩
      go_wp2_with fail
      refine HL.out.mono ?_
      rintro e w2 ⟨g, c2, rfl, ho, hb⟩
      have hee := (equal_any (HD.out.below hb) (By.own ho HBT.out))
      rw [decide_eq_false HEQ.out] at hee
      have HE := Lib.hid hee
      have hs := HH.out.later hb
      obtain ⟨k0, k1, k2, k3⟩ := hs.cells
      have HS := Lib.hid hs
      have HB := Lib.hid hb
      clear ho hb hs hee c0 c1 f0 f1 HL HT HD HEQ
      go_wp2_with fail
      refine HE.out.mono ?_
      rintro e w3 ⟨rfl, rfl⟩
      go_wp2_with fail
      go_ret
      exact ⟨v, rfl, HS.out, Turn.ofBelow HB.out _, fun k hk => .inl hk⟩
end Ln
end Go.Proofs.YtobpinelhjpfgaaDoor
end

section
namespace Go.Proofs.YtobpinelhjpfgaaDoor
namespace Ln
open Go.RowKit Bp Ck
/-- A receiver lies in block r. -/
structure RAt (w : World) (r heard : Nat) : Prop where
  box : w.heap[r]? = some (.cells #[.int .u64 (heard : Int)] 104 (0, 0))
  num : heard < 18446744073709551616
section
variable {w w' : World} {r heard : Nat}
theorem RAt.same (h : RAt w r heard) (hk : w'.heap[r]? = w.heap[r]?) : RAt w' r heard := ⟨hk.trans h.box, h.num⟩
theorem RAt.lt (h : RAt w r heard) : r < w.heap.size := lt_of_heap h.box
theorem RAt.later (h : RAt w r heard) (hb : Below w.heap.size w w') : RAt w' r heard := h.same (hb.block r h.lt)
theorem RAt.cells (h : RAt w r heard) : w.cell? ⟨r, 0, none⟩ = some (.int .u64 (heard : Int)) ∧ w.frozen? ⟨r, 0, none⟩ = false :=
  ⟨by rw [cell_of_row _ r 0 _ _ _ h.box]; rfl, frozen_of_row _ r 0 _ _ h.box⟩
end
theorem newReceiver_any (n : Int) (w : World) : Calls Tryd.prog 31 #[.int .u64 n] w fun e w' => e = .returned (.pointer (some ⟨w.heap.size, 0, none⟩)) ∧ w' = w.alloc (.cells #[.int .u64 n] 104) := by
  go_enter Tryd.func31, Tryd.ntmps31
  go_wp2
  go_ret
  exact ⟨rfl, rfl⟩
theorem rat_new (w : World) (n : Nat) (hn : n < 18446744073709551616) : RAt (w.alloc (.cells #[.int .u64 (n : Int)] 104)) w.heap.size n := ⟨heap_alloc_new w _, hn⟩
theorem heard_any {w : World} {r heard : Nat} (h : RAt w r heard) : Calls Tryd.prog 37 #[.pointer (some ⟨r, 0, none⟩)] w fun e w' => e = .returned (.int .u64 (heard : Int)) ∧ w = w' := by
  obtain ⟨c0, f0⟩ := h.cells
  clear h
  go_enter Tryd.func37, Tryd.ntmps37
  go_wp2
  go_ret
  exact ⟨rfl, rfl⟩
/-- Is something sent back for that number? -/
def rAns (heard n : Nat) : Bool := decide (n ≠ 0) && decide (n ≤ (heard + 1) % 18446744073709551616)
theorem answers_any {w : World} {r heard n : Nat} (h : RAt w r heard) (hn : n < 18446744073709551616) : Calls Tryd.prog 71 #[.pointer (some ⟨r, 0, none⟩), .int .u64 (n : Int)] w fun e w' => e = .returned (.bool (rAns heard n)) ∧ w = w' := by
  obtain ⟨c0, f0⟩ := h.cells
  have hnum := h.num
  clear h
  by_cases h0 : n = 0
  · subst h0
    have e : rAns heard 0 = false := by simp [rAns]
    rw [e]
    go_enter Tryd.func71, Tryd.ntmps71
    go_wp2
    go_ret
    exact ⟨rfl, rfl⟩
  · have hne : ((n : Int) != 0) = true := by rw [bne_iff_ne]; omega
    by_cases h1 : heard = 18446744073709551615
    · have e : rAns heard n = false := by
        unfold rAns
        rw [decide_eq_true h0, decide_eq_false (by rw [h1]; omega)]; rfl
      rw [e]
      subst h1
      have hd : decide ((n : Int) ≤ 0) = false := decide_eq_false (by omega)
      clear h0 e
      go_enter Tryd.func71, Tryd.ntmps71
      go_wp2
      go_ret
      refine ⟨?_, rfl⟩
      rw [show IntKind.u64.wrap 18446744073709551616 = 0 from by decide]
      show Ending.returned (.bool (decide ((n : Int) ≤ 0))) = _
      rw [hd]
    · have hlt : heard + 1 < 18446744073709551616 := by omega
      have e : rAns heard n = decide (n ≤ heard + 1) := by
        unfold rAns
        rw [decide_eq_true h0, Nat.mod_eq_of_lt hlt]; rfl
      rw [e]
      by_cases h2 : n ≤ heard + 1
      · have hd : decide ((n : Int) ≤ (heard : Int) + 1) = true := decide_eq_true (by omega)
        have e2 : decide (n ≤ heard + 1) = true := decide_eq_true h2
        rw [e2]
        clear h0 e h1 e2 h2
        go_enter Tryd.func71, Tryd.ntmps71
        go_wp2
        go_ret
        first | exact ⟨rfl, rfl⟩ | exact ⟨by simp_all, rfl⟩
      · have hd : decide ((n : Int) ≤ (heard : Int) + 1) = false := decide_eq_false (by omega)
        have e2 : decide (n ≤ heard + 1) = false := decide_eq_false h2
        rw [e2]
        clear h0 e h1 e2 h2
        go_enter Tryd.func71, Tryd.ntmps71
        go_wp2
        go_ret
        first | exact ⟨rfl, rfl⟩ | exact ⟨by simp_all, rfl⟩
/-- What the receiver's Hear comes to. -/
def RHTold (r heard : Nat) (bs : List Nat) (w : World) (e : Ending) (w' : World) : Prop := Turn (One r) (One r) w w' ∧
  ((∃ n d A c A2 c2, Is bs false n d ∧ rAns heard n = true ∧ heard < n ∧ e = .returned (.tuple #[.slice A d.length c, .bool true, .slice A2 (play true n []).length c2]) ∧ (By w'.heap.size w' A d.length c d ∧ ∀ a, A = some a → w.heap.size ≤ a.block) ∧ (By w'.heap.size w' A2 (play true n []).length c2 (play true n []) ∧ ∀ a, A2 = some a → w.heap.size ≤ a.block) ∧ RAt w' r n) ∨
   (∃ n d A2 c2, Is bs false n d ∧ rAns heard n = true ∧ n ≤ heard ∧ e = .returned (.tuple #[.slice none 0 0, .bool false, .slice A2 (play true n []).length c2]) ∧ (By w'.heap.size w' A2 (play true n []).length c2 (play true n []) ∧ ∀ a, A2 = some a → w.heap.size ≤ a.block) ∧ RAt w' r heard) ∨
   ((∀ n d, Is bs false n d → rAns heard n = false) ∧ e = .returned (.tuple #[.slice none 0 0, .bool false, .slice none 0 0]) ∧ RAt w' r heard))
theorem box3 (w : World) (x y z : Value) : (w.alloc (.cells #[x, y, z] 48)).heap[w.heap.size]? = some (.cells #[x, y, z] 48 (0, 0)) := heap_alloc_new w _
theorem box3_below (w : World) (x y z : Value) : Below w.heap.size w (w.alloc (.cells #[x, y, z] 48)) := (Below.refl _ _).alloc (Nat.le_refl _) _
set_option maxHeartbeats 4000000 in
theorem rhear_any {w : World} {r heard B : Nat} {A : Option Addr} {n c : Nat} {bs : List Nat} (h : RAt w r heard) (hd : By B w A n c bs) (hB : B ≤ w.heap.size) :
    Calls Tryd.prog 38 #[.pointer (some ⟨r, 0, none⟩), .slice A n c] w (RHTold r heard bs w) := by
  have HT := Lib.hid (take_any hd hB)
  have HR := Lib.hid h
  have hrn := h.num
  have HRL := Lib.hid h.lt
  clear h hd
  go_enter Tryd.func38, Tryd.ntmps38
  go_wp2_with fail
  refine HT.out.mono ?_
  rintro e w1 ⟨hb1, hcase⟩
  have HB1 := Lib.hid hb1
  have HR1 := Lib.hid (HR.out.later hb1)
  clear hb1
  rcases hcase with ⟨h, m, d, A1, c1, his, rfl, hy, hfr⟩ | ⟨hno, rfl⟩
  · have HI := Lib.hid his
    have HY := Lib.hid hy
    have HFR := Lib.hid hfr
    have hm := his.1.num
    have k1 := box3 w1 (.bool h) (.int .u64 (m : Int)) (.slice A1 d.length c1)
    have k2 := Lib.hid (box3_below w1 (.bool h) (.int .u64 (m : Int)) (.slice A1 d.length c1))
    clear his hy hfr
    cases h
    · have k3 := (Below.cell k2.out (p := ⟨r, 0, none⟩) (HR1.out.lt)).trans HR1.out.cells.1
      have HR2 := Lib.hid (HR1.out.later k2.out)
      have HA := Lib.hid (answers_any (n := m) HR2.out (by omega))
      have HH := Lib.hid (layHeard_any (w := (w1.alloc (.cells #[.bool false, .int .u64 (m : Int), .slice A1 d.length c1] 48))) hm)
      obtain ⟨d0, d1, d2⟩ := pkt_cells k1
      have K1 := Lib.hid k1
      clear k1 HT HR
      go_wp2_with fail
      generalize w1.alloc (.cells #[.bool false, .int .u64 (m : Int), .slice A1 d.length c1] 48) = w2 at *
      refine HA.out.mono ?_
      rintro e w3 ⟨rfl, rfl⟩
      by_cases hans : rAns heard m = true
      · rw [hans]
        have HANS := Lib.hid hans
        clear hans k3 HA
        go_wp2_with fail
        refine HH.out.mono ?_
        rintro e w3 ⟨g3, c3, rfl, ho3, hb3⟩
        have hk : w3.heap[w1.heap.size]? = some (.cells #[.bool false, .int .u64 (m : Int), .slice A1 d.length c1] 48 (0, 0)) := (hb3.block _ (lt_of_heap K1.out)).trans K1.out
        obtain ⟨e0, e1, e2⟩ := pkt_cells hk
        have hr3 := HR2.out.later hb3
        obtain ⟨r0, r1⟩ := hr3.cells
        have HR3 := Lib.hid hr3
        have HY3 := Lib.hid ((((HY.out.below k2.out).mono k2.out.size).below hb3).mono hb3.size)
        have hok : Ok true m [] := ⟨hm, by simp, fun _ => rfl, by simp⟩
        have HO3 := Lib.hid (By.own ho3 hok.play_byte)
        have HB3 := Lib.hid (HB1.out.trans ((k2.out.trans (hb3.mono k2.out.size)).mono HB1.out.size))
        have HG3 := Lib.hid (Nat.le_trans (Nat.le_trans HB1.out.size k2.out.size) (row_kind ho3 g3 rfl).2.1)
        clear hk hr3 ho3 hb3 d0 d1 d2 hok HR2 HH HY
        by_cases hle : m ≤ heard
        · have hd : decide ((m : Int) ≤ (heard : Int)) = true := decide_eq_true (by omega)
          go_wp2_with fail
          go_region
          go_wp2_with fail
          go_ret3
          exact ⟨Turn.ofBelow HB3.out.drew _, .inr (.inl ⟨m, d, some ⟨g3, 0, none⟩, c3, HI.out, HANS.out, hle, rfl, ⟨HO3.out.drew, fun a ha => by cases ha; exact HG3.out⟩, HR3.out.same rfl⟩)⟩
        · have hd : decide ((m : Int) ≤ (heard : Int)) = false := decide_eq_false (by omega)
          go_wp2_with fail
          go_region
          go_wp2_with fail
          go_ret3
          refine ⟨(Turn.ofBelow HB3.out.drew (One r)).put _ (show One r r from rfl), .inl ⟨m, d, A1, c1, some ⟨g3, 0, none⟩, c3, HI.out, HANS.out, by omega, rfl, ⟨?_, HFR.out⟩, ⟨?_, fun a ha => by cases ha; exact HG3.out⟩, ?_, by omega⟩⟩
          · refine by_keep HY3.out (by simp) (fun a ha => (Below.heap_setCell w3.drew _ _ _ (by have := HFR.out a ha; have := HRL.out; show a.block ≠ r; omega)))
          · refine by_keep HO3.out (by simp) (fun a ha => (Below.heap_setCell w3.drew _ _ _ (by cases ha; have := HG3.out; have := HRL.out; show g3 ≠ r; omega)))
          · show (w3.setCell ⟨r, 0, none⟩ (.int .u64 (m : Int))).heap[r]? = _
            rw [heap_setCell_same w3 r 0 _ _ _ HR3.out.box]; simp
      · have hans2 : rAns heard m = false := by simpa using hans
        rw [hans2]
        clear hans
        go_wp2_with fail
        go_ret3
        exact ⟨Turn.ofBelow (HB1.out.trans (k2.out.mono HB1.out.size)) _, .inr (.inr ⟨fun n d hi => by rw [(hi.uniq HI.out).2.1]; exact hans2, rfl, HR2.out⟩)⟩
    · go_wp2_with fail
      generalize w1.alloc (.cells #[.bool true, .int .u64 (m : Int), .slice A1 d.length c1] 48) = w2 at *
      go_ret3
      exact ⟨Turn.ofBelow (HB1.out.trans (k2.out.mono HB1.out.size)) _, .inr (.inr ⟨fun n d hi => by have := hi.uniq HI.out; exact absurd this.1 (by decide), rfl, HR1.out.later k2.out⟩)⟩
  · have HN := Lib.hid hno
    have k1 := box3 w1 (.bool false) (.int .u64 0) (.slice none 0 0)
    have k2 := Lib.hid (box3_below w1 (.bool false) (.int .u64 0) (.slice none 0 0))
    clear hno
    go_wp2_with fail
    generalize w1.alloc (.cells #[.bool false, .int .u64 0, .slice none 0 0] 48) = w2 at *
    go_ret3
    exact ⟨Turn.ofBelow (HB1.out.trans (k2.out.mono HB1.out.size)) _, .inr (.inr ⟨fun n d hi => absurd hi (HN.out _ _ _), rfl, HR1.out.later k2.out⟩)⟩
/-- Bytes in blocks that a call doesn't write. -/
theorem by_turn {w w' : World} {A : Option Addr} {n c : Nat} {zs : List Nat} {F F' : Nat → Prop} (h : By w.heap.size w A n c zs) (ht : Turn F F' w w') (hf : ∀ a, A = some a → ¬ F a.block) : By w'.heap.size w' A n c zs :=
  ⟨h.len, h.le, h.max, h.nil, h.byte, fun hn => by
    obtain ⟨g, off, hA, hg, hc⟩ := h.cell hn
    have hk := ht.block g hg (hf _ hA)
    exact ⟨g, off, hA, Nat.lt_of_lt_of_le hg ht.size, fun j hj => (World.cell?_of_block (a := ⟨g, off + j, none⟩) hk).trans (hc j hj)⟩⟩
theorem by_later {w w' : World} {A : Option Addr} {n c : Nat} {zs : List Nat} (h : By w.heap.size w A n c zs) (hb : Below w.heap.size w w') : By w'.heap.size w' A n c zs := (h.below hb).mono hb.size
/-- A sender where another block is written. -/
theorem SAt.turn {w w' : World} {s told r : Nat} {v : Value} {pk : List Nat} (h : SAt w s v told pk) (ht : Turn (One r) (One r) w w') (hr : ¬ SF s v r) : SAt w' s v told pk :=
  h.same fun k hk => ht.block k (h.lt k hk) (fun e => hr (by have : k = r := e; rwa [this] at hk))
theorem RAt.turn {w w' : World} {r heard s : Nat} (h : RAt w r heard) (ht : Turn (One s) (One s) w w') (hr : r ≠ s) : RAt w' r heard :=
  h.same (ht.block r h.lt hr)
theorem RAt.free {w : World} {r heard s told : Nat} {v : Value} {pk : List Nat} (h : RAt w r heard) (hs : SAt w s v told pk) : ¬ SF s v r := hs.apart h.box (by decide) (by decide)
theorem RAt.ne {w : World} {r heard s told : Nat} {v : Value} {pk : List Nat} (h : RAt w r heard) (hs : SAt w s v told pk) : r ≠ s := fun e => h.free hs (.inl e)
end Ln
end Go.Proofs.YtobpinelhjpfgaaDoor
end

section
namespace Go.Proofs.YtobpinelhjpfgaaDoor
namespace Ln
open Go.RowKit Bp Ck
theorem is_play {h : Bool} {n : Nat} {d : List Nat} (hok : Ok h n d) : Is (play h n d) h n d := ⟨hok, rfl⟩
theorem play_ne {h : Bool} {n : Nat} {d : List Nat} (hok : Ok h n d) : play h n d ≠ [] := fun e => by have := hok.size.1; rw [e] at this; simp at this
theorem ok_heard {n : Nat} (h : n + 1 < 18446744073709551616) : Ok true n [] := ⟨h, by simp, fun _ => rfl, by simp⟩
/-- A thing's packet comes to a receiver that has heard as many as were told: it is new. -/
theorem rans_next {k : Nat} (h : k + 2 < 18446744073709551616) : rAns k (k + 1) = true := by
  unfold rAns
  rw [Nat.mod_eq_of_lt (by omega)]
  simp
theorem rans_same {k : Nat} (h : k + 1 < 18446744073709551616) (h0 : k ≠ 0) : rAns k k = true := by
  unfold rAns
  rw [Nat.mod_eq_of_lt (by omega)]
  simp [h0]
/-- What a new packet comes to. -/
def NewTold (r n : Nat) (d : List Nat) (w : World) (e : Ending) (w' : World) : Prop := Turn (One r) (One r) w w' ∧
  ∃ A c A2 c2, e = .returned (.tuple #[.slice A d.length c, .bool true, .slice A2 (play true n []).length c2]) ∧ (By w'.heap.size w' A d.length c d ∧ ∀ a, A = some a → w.heap.size ≤ a.block) ∧ (By w'.heap.size w' A2 (play true n []).length c2 (play true n []) ∧ ∀ a, A2 = some a → w.heap.size ≤ a.block) ∧ RAt w' r n
theorem rhear_new {w : World} {r k B : Nat} {A : Option Addr} {n c : Nat} {d : List Nat} (h : RAt w r k) (hk : k + 2 < 18446744073709551616) (hok : Ok false (k + 1) d) (hd : By B w A n c (play false (k + 1) d)) (hB : B ≤ w.heap.size) :
    Calls Tryd.prog 38 #[.pointer (some ⟨r, 0, none⟩), .slice A n c] w (NewTold r (k + 1) d w) := by
  refine (rhear_any h hd hB).mono ?_
  rintro e w' ⟨ht, hc⟩
  rcases hc with ⟨n2, d2, A1, c1, A2, c2, his, _, _, he, hy, hb, hr⟩ | ⟨n2, d2, A2, c2, his, _, hle, _⟩ | ⟨hno, _⟩
  · obtain ⟨_, rfl, rfl⟩ := his.uniq (is_play hok)
    exact ⟨ht, A1, c1, A2, c2, he, hy, hb, hr⟩
  · obtain ⟨_, rfl, rfl⟩ := his.uniq (is_play hok)
    omega
  · have := hno _ _ (is_play hok)
    rw [rans_next hk] at this
    cases this
def OldTold (r k n : Nat) (w : World) (e : Ending) (w' : World) : Prop := Turn (One r) (One r) w w' ∧
  ∃ A2 c2, e = .returned (.tuple #[.slice none 0 0, .bool false, .slice A2 (play true n []).length c2]) ∧ (By w'.heap.size w' A2 (play true n []).length c2 (play true n []) ∧ ∀ a, A2 = some a → w.heap.size ≤ a.block) ∧ RAt w' r k
theorem rhear_old {w : World} {r k B : Nat} {A : Option Addr} {n c : Nat} {d : List Nat} (h : RAt w r k) (hk : k ≠ 0) (hok : Ok false k d) (hd : By B w A n c (play false k d)) (hB : B ≤ w.heap.size) :
    Calls Tryd.prog 38 #[.pointer (some ⟨r, 0, none⟩), .slice A n c] w (OldTold r k k w) := by
  refine (rhear_any h hd hB).mono ?_
  rintro e w' ⟨ht, hc⟩
  rcases hc with ⟨n2, d2, A1, c1, A2, c2, his, _, hlt, _⟩ | ⟨n2, d2, A2, c2, his, _, hle, he, hb, hr⟩ | ⟨hno, _⟩
  · obtain ⟨_, rfl, rfl⟩ := his.uniq (is_play hok)
    omega
  · obtain ⟨_, rfl, rfl⟩ := his.uniq (is_play hok)
    exact ⟨ht, A2, c2, he, hb, hr⟩
  · have := hno _ _ (is_play hok)
    rw [rans_same (by have := hok.num; omega) hk] at this
    cases this
theorem shear_yes {w : World} {s told B : Nat} {v : Value} {pk : List Nat} {A : Option Addr} {n c : Nat} (h : SAt w s v told pk) (hp : pk ≠ []) (hd : By B w A n c (play true (told + 1) [])) (hB : B ≤ w.heap.size) :
    Calls Tryd.prog 35 #[.pointer (some ⟨s, 0, none⟩), .slice A n c] w (STold s v (told + 1) [] (.bool true) w) := by
  have := shear_any h hd hB
  have e : heB told pk (play true (told + 1) []) = true := by unfold heB; rw [decide_eq_true hp, decide_eq_true rfl]; rfl
  rw [e] at this
  exact this
theorem shear_none {w : World} {s told B : Nat} {v : Value} {A : Option Addr} {n c : Nat} {bs : List Nat} (h : SAt w s v told []) (hd : By B w A n c bs) (hB : B ≤ w.heap.size) :
    Calls Tryd.prog 35 #[.pointer (some ⟨s, 0, none⟩), .slice A n c] w (STold s v told [] (.bool false) w) := by
  have := shear_any h hd hB
  have e : heB told [] bs = false := by simp [heB]
  rw [e] at this
  exact this
theorem tell_new {w : World} {s told B : Nat} {v : Value} {A : Option Addr} {n c : Nat} {d : List Nat} (h : SAt w s v told []) (h2 : told + 2 < 18446744073709551616) (hd : By B w A n c d) (hB : B ≤ w.heap.size) (hn : n ≤ 200) :
    Calls Tryd.prog 33 #[.pointer (some ⟨s, 0, none⟩), .slice A n c] w (STold s v told (play false (told + 1) d) (.int .i64 0) w) := tell_ok h h2 hd hB hn
theorem packet_yes {w : World} {s told : Nat} {v : Value} {pk : List Nat} (h : SAt w s v told pk) (hp : pk ≠ []) : Calls Tryd.prog 34 #[.pointer (some ⟨s, 0, none⟩)] w fun e w' => ∃ A c, e = .returned (.tuple #[.slice A pk.length c, .bool true]) ∧ (By w'.heap.size w' A pk.length c pk ∧ ∀ a, A = some a → w.heap.size ≤ a.block) ∧ Below w.heap.size w w' := by
  refine (packet_any h).mono ?_
  rintro e w' ⟨A, c, he, ho, hb⟩
  rw [decide_eq_true hp] at he
  exact ⟨A, c, he, ⟨By.own ho h.byte, fun a ha => by
    subst ha
    obtain ⟨g, c3, e3⟩ := shape_of ho (List.length_pos_iff.2 hp)
    injection e3 with e3
    injection e3 with e3
    subst e3
    exact (row_kind ho g rfl).2.1⟩, hb⟩
/-- Lay's error and bytes. -/
def lyE (h : Bool) (n m : Nat) : Int := if 200 < m ∨ n = 18446744073709551615 then 4 else if h = true ∧ 0 < m then 140 else 0
def lyZ (h : Bool) (n : Nat) (d : List Nat) : List Nat := if lyE h n d.length = 0 then play h n d else []
def LayAll (E : Int) (zs : List Nat) (w : World) (e : Ending) (w' : World) : Prop := ∃ A c, e = .returned (.tuple #[.slice A zs.length c, .int .i64 E]) ∧ w'.ownsRow w.heap.size 5 1 (.slice A zs.length c) zs.length (bc zs) ∧ Below w.heap.size w w'
theorem ly_ok {h : Bool} {n : Nat} {d : List Nat} (hn : n < 18446744073709551616) (hb : ∀ z ∈ d, z ≤ 255) (he : lyE h n d.length = 0) : Ok h n d := by
  unfold lyE at he
  split at he
  · cases he
  · rename_i h1
    split at he
    · cases he
    · rename_i h2
      refine ⟨by omega, by omega, fun x => ?_, hb⟩
      have h3 : ¬ 0 < d.length := fun y => h2 ⟨x, y⟩
      exact List.eq_nil_of_length_eq_zero (by omega)
theorem ok_ly {h : Bool} {n : Nat} {d : List Nat} (hok : Ok h n d) : lyE h n d.length = 0 ∧ lyZ h n d = play h n d := by
  have e : lyE h n d.length = 0 := by
    unfold lyE
    rw [if_neg (by have := hok.few; have := hok.num; omega), if_neg (by rintro ⟨x, y⟩; rw [hok.none_ x] at y; simp at y)]
  exact ⟨e, by unfold lyZ; rw [if_pos e]⟩
theorem lyZ_byte {h : Bool} {n : Nat} {d : List Nat} (hn : n < 18446744073709551616) (hb : ∀ z ∈ d, z ≤ 255) : ∀ z ∈ lyZ h n d, z ≤ 255 := by
  unfold lyZ
  split
  · rename_i he; exact (ly_ok hn hb he).play_byte
  · simp
theorem lyZ_few {h : Bool} {n : Nat} {d : List Nat} (hn : n < 18446744073709551616) (hb : ∀ z ∈ d, z ≤ 255) : (lyZ h n d).length ≤ 300 := by
  unfold lyZ
  split
  · rename_i he; exact (ly_ok hn hb he).size.2
  · simp
theorem lay_any {B : Nat} {w : World} {h : Bool} {n : Nat} {A : Option Addr} {m c : Nat} {d : List Nat} (hn : n < 18446744073709551616) (hd : By B w A m c d) (hB : B ≤ w.heap.size) :
    Calls Tryd.prog 45 #[.agg #[.bool h, .int .u64 (n : Int), .slice A m c]] w (LayAll (lyE h n d.length) (lyZ h n d) w) := by
  have hln := hd.len
  by_cases he : lyE h n d.length = 0
  · have hok := ly_ok hn hd.byte he
    have e2 : lyZ h n d = play h n d := by unfold lyZ; rw [if_pos he]
    rw [e2, he]
    refine (lay_ok hok hd hB).mono ?_
    rintro e w' ⟨g, c', rfl, ho, hb⟩
    exact ⟨_, _, rfl, ho, hb⟩
  · have e2 : lyZ h n d = [] := by unfold lyZ; rw [if_neg he]
    rw [e2]
    by_cases h1 : 200 < d.length ∨ n = 18446744073709551615
    · have e3 : lyE h n d.length = 4 := by unfold lyE; rw [if_pos h1]
      rw [e3]
      refine (lay_long (by have := hd.le; have := hd.max; unfold maxLen at this; omega) hn (by rw [← hln]; exact h1)).mono ?_
      rintro e w' ⟨rfl, hb⟩
      exact ⟨none, 0, rfl, by exact World.ownsRow_nil _ _ _ _, hb⟩
    · by_cases h2 : h = true ∧ 0 < d.length
      · have e3 : lyE h n d.length = 140 := by unfold lyE; rw [if_neg h1, if_pos h2]
        rw [e3]
        obtain ⟨rfl, h3⟩ := h2
        refine (lay_packet (by omega) (by omega) (by omega)).mono ?_
        rintro e w' ⟨rfl, hb⟩
        exact ⟨none, 0, rfl, by exact World.ownsRow_nil _ _ _ _, hb⟩
      · exact absurd (show lyE h n d.length = 0 by unfold lyE; rw [if_neg h1, if_neg h2]) he
theorem lit_ab (w : World) : By (w.alloc (.cells #[.int .u8 97, .int .u8 98] 5 (2, 3))).heap.size (w.alloc (.cells #[.int .u8 97, .int .u8 98] 5 (2, 3))) (some ⟨w.heap.size, 0, none⟩) 2 2 [97, 98] := by
  have := lit_by w [97, 98] (2, 3) (by simp) (by simp)
  exact this.mono (by simp)
/-- A sender and a receiver, both new. -/
theorem both_new (w : World) (a b : Nat) (ha : a < 18446744073709551616) (hb : b < 18446744073709551616) : ∀ W, W = (w.alloc (.cells #[.int .u64 (a : Int), .slice none 0 0] 102)).alloc (.cells #[.int .u64 (b : Int)] 104) →
    SAt W w.heap.size (.slice none 0 0) a [] ∧ RAt W (w.heap.size + 1) b ∧ Below w.heap.size w W ∧ W.heap.size = w.heap.size + 2 := by
  rintro W rfl
  have h1 := sat_new w a ha
  have h2 := rat_new (w.alloc (.cells #[.int .u64 (a : Int), .slice none 0 0] 102)) b hb
  have e : (w.alloc (.cells #[.int .u64 (a : Int), .slice none 0 0] 102)).heap.size = w.heap.size + 1 := by simp
  rw [e] at h2
  exact ⟨h1.later ((Below.refl _ _).alloc (Nat.le_refl _) _), h2, ((Below.refl _ _).alloc (Nat.le_refl _) _).alloc (by simp) _, by simp⟩
end Ln
end Go.Proofs.YtobpinelhjpfgaaDoor
end
