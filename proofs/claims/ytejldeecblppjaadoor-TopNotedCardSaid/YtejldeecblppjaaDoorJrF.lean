/-
  Layer 16: a journal whose disk has just the frames of what was noted; its calls while the power stays on.
-/
import Derived.Test.YtejldeecblppjaaDoorJrE
set_option linter.unusedVariables false
set_option maxRecDepth 100000
namespace Go.Proofs.YtejldeecblppjaaDoor
namespace Jr
open Go.RowKit Go.Maps Bp Ck
open Dk (D DAt DF op kp pwE apE apD syD cuE cuD IW crN crD)

structure Jo (w0 w : World) (j g : Nat) (v : Value) (d : D) (ms : List (List Nat)) (s : Nat) : Prop where
  at_ : JAt w w0.heap.size j g v d ms.length
  hs : Hs d ms s
  below : Below w0.heap.size w0 w
section
variable {w0 w w' : World} {j g s : Nat} {v : Value} {d : D} {ms : List (List Nat)}
theorem Jo.later (h : Jo w0 w j g v d ms s) (hb : Below w.heap.size w w') : Jo w0 w' j g v d ms s := ⟨h.at_.later hb, h.hs, h.below.trans (hb.mono h.below.size)⟩
theorem Jo.note_room (h : Jo w0 w j g v d ms s) (hL : Live d) (hl : fln ms ms.length + 1004 ≤ 1048576) (hl2 : ms.length < 1000000) (A : Option Addr) (m c : Nat) (zs : List Nat) (hy : By w.heap.size w A m c zs) :
    Calls Tryd.prog 24 #[.pointer (some ⟨j, 0, none⟩), .slice A m c] w fun e w' => ∃ v' d', e = .returned (.int .i64 (if 1000 < m then 4 else 0)) ∧ Jo w0 w' j g v' d' (if 1000 < m then ms else ms ++ [zs]) s ∧ Live d' ∧ Turn (JF j g v) (JF j g v') w w' := by
  have hE := h.hs.noE_room hl zs
  rw [live_op hL, if_neg (show ¬ d.dead = true by rw [hL.1]; simp), hy.len] at hE
  refine (Note_any h.at_ (by omega) A m c zs hy).mono ?_
  rintro e w' ⟨v', rfl, hj, ht⟩
  have hb := belowJ h.at_ ht h.below (Nat.le_refl _) (Nat.le_refl _)
  refine ⟨v', _, by rw [hE], ?_, live_no hL zs, ht⟩
  by_cases hm : 1000 < m
  · rw [if_pos hm] at hE ⊢
    rw [hE, if_neg (by decide)] at hj
    exact ⟨hj, h.hs.noted (by rw [hE]; decide), hb⟩
  · rw [if_neg hm] at hE ⊢
    rw [hE, if_pos rfl] at hj
    exact ⟨by simpa using hj, h.hs.note hy.byte hE, hb⟩
theorem Jo.note (h : Jo w0 w j g v d ms s) (hL : Live d) (hl : ms.length < 1000) (A : Option Addr) (m c : Nat) (zs : List Nat) (hy : By w.heap.size w A m c zs) :
    Calls Tryd.prog 24 #[.pointer (some ⟨j, 0, none⟩), .slice A m c] w fun e w' => ∃ v' d', e = .returned (.int .i64 (if 1000 < m then 4 else 0)) ∧ Jo w0 w' j g v' d' (if 1000 < m then ms else ms ++ [zs]) s ∧ Live d' ∧ Turn (JF j g v) (JF j g v') w w' :=
  h.note_room hL (by have := h.hs.few; omega) (by omega) A m c zs hy
theorem Jo.sync (h : Jo w0 w j g v d ms s) (hL : Live d) :
    Calls Tryd.prog 25 #[.pointer (some ⟨j, 0, none⟩)] w fun e w' => ∃ v' d', e = .returned (.int .i64 0) ∧ Jo w0 w' j g v' d' ms ms.length ∧ Live d' ∧ Turn (JF j g v) (JF j g v') w w' := by
  refine (Sync_any h.at_).mono ?_
  rintro e w' ⟨v', rfl, hj, ht⟩
  exact ⟨v', _, by rw [live_pw hL], ⟨hj, h.hs.sync (by rw [live_op hL]; exact hL.1), belowJ h.at_ ht h.below (Nat.le_refl _) (Nat.le_refl _)⟩, live_sy hL, ht⟩
/-- A new disk is opened. -/
theorem open_new {w1 : World} (hb : Below w0.heap.size w0 w1) {g : Nat} (hn : DAt w1 w0.heap.size g (.slice none 0 0) Dk.d0) :
    Calls Tryd.prog 22 #[.pointer (some ⟨g, 0, none⟩)] w1 fun e w' => ∃ j c v' d' A, e = .returned (.tuple #[.pointer (some ⟨j, 0, none⟩), .slice A 0 c, .int .i64 0]) ∧ Jo w0 w' j g v' d' [] 0 ∧ Live d' := by
  refine (Open_any hn live_new.1 live_new.2).mono ?_
  rintro e w' ⟨j, A, c, v', rfl, hj, _, ht, _, _⟩
  obtain ⟨hf, hs⟩ := hs_new.opened
  have hf0 : (fr Dk.d0.s).length = 0 := by rw [hf]; rfl
  rw [hf0] at hj ⊢
  exact ⟨j, c, v', _, A, rfl, ⟨hj, hs, belowD hn ht hb (Nat.le_refl _) (Nat.le_refl _)⟩, live_new⟩
/-- It is opened anew. -/
theorem Jo.reopen (h : Jo w0 w j g v d ms s) (hL : Live d) :
    Calls Tryd.prog 22 #[.pointer (some ⟨g, 0, none⟩)] w fun e w' => ∃ j' A c v' d', e = .returned (.tuple #[.pointer (some ⟨j', 0, none⟩), .slice A ms.length c, .int .i64 0]) ∧ Jo w0 w' j' g v' d' ms ms.length ∧ Live d' ∧ Bss w'.heap.size w' A ms.length c ms ∧ Turn (DF g v) (DF g v') w w' := by
  refine (Open_any h.at_.disk hL.1 hL.2).mono ?_
  rintro e w' ⟨j', A, c, v', rfl, hj, hl, ht, _, _⟩
  obtain ⟨hf, hs⟩ := h.hs.opened
  have hf0 : (fr d.s).length = ms.length := by rw [hf, frs_len _ _ (Nat.le_refl _)]
  rw [hf0] at hj hl ⊢
  rw [hf, inn_frs] at hl
  exact ⟨j', A, c, v', _, rfl, ⟨hj, hs, belowD h.at_.disk ht h.below (Nat.le_refl _) (Nat.le_refl _)⟩, live_kp hL _, hl, ht⟩
/-- Behind a crash it is opened anew. -/
theorem Jo.crashed (h : Jo w0 w j g v d ms s) (x : Int) :
    ∃ i, s ≤ i ∧ i ≤ ms.length ∧ ∀ w1 v1, DAt w1 w0.heap.size g v1 (crD d x) → Below w0.heap.size w0 w1 → Calls Tryd.prog 22 #[.pointer (some ⟨g, 0, none⟩)] w1 fun e w' => ∃ j' A c v' d', e = .returned (.tuple #[.pointer (some ⟨j', 0, none⟩), .slice A i c, .int .i64 0]) ∧ Jo w0 w' j' g v' d' (ms.take i) i ∧ Live d' ∧ Bss w'.heap.size w' A i c (ms.take i) ∧ Turn (DF g v1) (DF g v') w1 w' ∧ w1.heap.size ≤ j' := by
  obtain ⟨i, i1, i2, hf, hs, _⟩ := h.hs.crash h.at_.disk.le x
  refine ⟨i, i1, i2, fun w1 v1 hn hb => ?_⟩
  refine (Open_any hn rfl rfl).mono ?_
  rintro e w' ⟨j', A, c, v', rfl, hj, hl, ht, hjn, _⟩
  have hf0 : (fr (crD d x).s).length = i := by rw [hf, frs_len _ _ i2]
  rw [hf0] at hj hl ⊢
  rw [hf, frs_inn] at hl
  refine ⟨j', A, c, v', _, rfl, ⟨?_, hs, belowD hn ht hb (Nat.le_refl _) (Nat.le_refl _)⟩, live_kp (live_cr d x) _, hl, ht, hjn⟩
  rw [List.length_take, Nat.min_eq_left i2]
  exact hj
theorem Jo.read (h : Jo w0 w j g v d ms s) (hL : Live d) :
    Calls Tryd.prog 52 #[.pointer (some ⟨g, 0, none⟩)] w fun e w' => ∃ A c, e = .returned (.tuple #[.slice A (fln ms ms.length) c, .int .i64 0]) ∧ Below w.heap.size w w' := by
  refine (Dk.Read_any h.at_.disk).mono ?_
  rintro e w' ⟨A, c, rfl, _, hb⟩
  have e1 : Dk.rdS d = d.s := by unfold Dk.rdS; rw [if_neg (by rw [hL.1]; simp)]
  rw [e1, Dk.pw_on hL.1, h.hs.size]
  exact ⟨A, c, rfl, hb⟩
end
end Jr
end Go.Proofs.YtejldeecblppjaaDoor
