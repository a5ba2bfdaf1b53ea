/-
  Layer 6: a cell's list is given up; Drop.
-/
import Derived.Test.YtcdclghmebgpnaaGreatDoorWnJ
set_option linter.unusedVariables false
set_option maxRecDepth 100000
namespace Go.Proofs.YtcdclghmebgpnaaGreatDoor.Wn
open Go.RowKit Go.Maps

set_option maxHeartbeats 2000000 in
theorem keep_del (base tb N : Nat) (mv : Option Nat) (T : Int → List (Int × Int)) (gb : Int → Nat) (x : Int) (A : Option Addr) (c : Nat) (w0 w : World) (h : Tab w0 base tb N mv T gb) (hx : IW x)
    (hsame : ∀ k, (k = tb ∨ mv = some k ∨ ∃ y, IW y ∧ y ≠ x ∧ T y ≠ [] ∧ gb y = k) → w.heap[k]? = w0.heap[k]?) :
    Calls Tryz.prog 44 #[.pointer (some ⟨tb, 0, none⟩), .int .i64 x, .slice A 0 c] w fun e w' => e = .returned (.tuple #[]) ∧ Tab w' base tb N mv (upd T x []) gb ∧ Turn (KF tb mv) (KF tb mv) w w' := by
  have hbox : w.heap[tb]? = some (.cells #[.map mv] 88 (0, 0)) := (hsame tb (.inl rfl)).trans h.box
  have c0 : w.cell? ⟨tb, 0, none⟩ = some (.map mv) := by rw [cell_of_row w tb 0 _ _ _ hbox]; rfl
  have hlt := lt_of_heap hbox
  have hkey := keyOf_int_mk Tryz.underlying3 (WalkArith.wf_i64 hx)
  cases mv with
  | none =>
    have hT := h.nomap rfl
    have hdl := fun ty => Maps.drop_nil (w := w) (int_keyed Tryz.underlying3) Tryz.underlying86 hkey ty
    have HT : Hid (Tab w base tb N none (upd T x []) gb ∧ Turn (KF tb none) (KF tb none) w w) := Lib.hid ⟨⟨hbox, h.lo, h.few, fun _ y => by unfold upd; split; rfl; exact hT y, (fun mb e => by cases e), (fun y z _ _ _ h1 _ => absurd (by unfold upd; split; rfl; exact hT y) h1), fun y => (by unfold upd; split; exact (fun a b _ hb => by simp at hb); exact h.rise y), fun y => (by unfold upd; split; exact Nat.zero_le _; exact h.small y)⟩, Turn.refl _ _⟩
    clear h hsame hbox hT
    go_enter Tryz.func44, Tryz.ntmps44
    go_wp2_with fail
    refine bodyPost_ret (results_none rfl _ _ _) rfl ?_
    exact ⟨rfl, HT.out.1, HT.out.2⟩
  | some mb =>
    obtain ⟨hmb, D, hD, hrow⟩ := h.map mb rfl
    have hD2 : w.ownsMap Tryz.prog 3 slR mb N D := owns_same hD (hsame mb (.inr (.inl rfl)))
    obtain ⟨w3, hdl0, hD3, hg30⟩ := hD2.drop (int_keyed Tryz.underlying3) Tryz.underlying86 hkey 86
    have hdl : ∀ ty, (Builtin.delete_ #[86, 3] ty #[.map (some mb), .int .i64 x]).run Tryz.prog w = .ok (.tuple #[]) w3 := fun ty => hdl0
    have hg3 := hg30.grown
    have hmbt : mb ≠ tb := fun e => by
      obtain ⟨es, clock, hb, _⟩ := hD2
      rw [e, hbox] at hb; simp at hb
    have hold : ∀ k, k < w.heap.size → k ≠ mb → w3.heap[k]? = w.heap[k]? := fun k hk hkt => hg3.block k hk (by simp; omega)
    have hbox3 : w3.heap[tb]? = some (.cells #[.map (some mb)] 88 (0, 0)) := by
      rw [hold tb hlt (by omega)]; exact hbox
    have HT : Hid (Tab w3 base tb N (some mb) (upd T x []) gb ∧ Turn (KF tb (some mb)) (KF tb (some mb)) w w3) := Lib.hid ⟨
      ⟨hbox3, h.lo, h.few, (fun e => by cases e), fun mb' e => by
        obtain rfl : mb = mb' := by injection e
        refine ⟨hmb, _, hD3, fun y hy => ?_⟩
        by_cases e : y = x
        · subst e
          rw [upd_same]
          refine ⟨?_, fun h => absurd rfl h⟩
          rw [show (Lit.int IntKind.i64 y) = kI y from rfl, has_del_same]
          simp
        · rw [upd_other T [] e, show (Lit.int IntKind.i64 x) = kI x from rfl, has_del_other (fun h => e (kI_inj h))]
          refine ⟨(hrow y hy).1, fun hne => ?_⟩
          obtain ⟨c', k1, k2⟩ := (hrow y hy).2 hne
          have hk := hsame (gb y) (.inr (.inr ⟨y, hy, e, hne, rfl⟩))
          obtain ⟨cu, hcu⟩ := k2.block
          have hgm2 : gb y ≠ mb := fun e => by
            obtain ⟨es, clock, hb, _⟩ := hD
            rw [e, hb] at hcu; simp at hcu
          refine ⟨c', fun z => by rw [atKey_del_other (fun h => e (kI_inj h))]; exact k1 z, ownsRow_same k2 (fun k hkk => ?_)⟩
          obtain rfl : gb y = k := by simpa [Value.ownBlock] using hkk
          exact (hold _ (lt_of_heap (hk.trans hcu)) hgm2).trans hk,
       fun y z hy hz hne h1 h2 => by
        have e1 : y ≠ x := fun e => h1 (by rw [e, upd_same])
        have e2 : z ≠ x := fun e => h2 (by rw [e, upd_same])
        rw [upd_other T [] e1] at h1
        rw [upd_other T [] e2] at h2
        exact h.apart y z hy hz hne h1 h2,
       fun y => (by unfold upd; split; exact (fun a b _ hb => by simp at hb); exact h.rise y), fun y => (by unfold upd; split; exact Nat.zero_le _; exact h.small y)⟩,
      ⟨hg3.os, hg3.tape, hg3.output, hg3.size, fun k hk hF => hold k hk (fun e => hF (.inr (by rw [e]))), fun k hk => .inl hk⟩⟩
    clear h hsame hbox hD hD2 hD3 hg30 hg3 hold hbox3 hrow hdl0
    go_enter Tryz.func44, Tryz.ntmps44
    go_wp2_with fail
    refine bodyPost_ret (results_none rfl _ _ _) rfl ?_
    exact ⟨rfl, HT.out.1, HT.out.2⟩
end Go.Proofs.YtcdclghmebgpnaaGreatDoor.Wn
