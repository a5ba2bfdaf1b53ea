/-
  Layer 6: any act.
-/
import Derived.Test.YtafcdclaaagdlaaWnO
set_option linter.unusedVariables false
set_option maxRecDepth 100000
namespace Go.Proofs.Ytafcdclaaagdlaa.Wn
open Go.RowKit Go.Maps

/-- An act: its answer, and the windows behind it. -/
def act (T : Int → List (Int × Int)) (r : Nat) (x a b : Int) : Int × (Int → List (Int × Int)) :=
  if r = 0 then ((tk (T x) a b).1, upd T x (tk (T x) a b).2) else if r = 1 then ((dr (T x) a b).1, upd T x (dr (T x) a b).2) else (0, fun y => fg (T y) a)
theorem upd_ord {T : Int → List (Int × Int)} {x : Int} {L : List (Int × Int)} (h : ∀ y, Ordw 0 (T y)) (hL : Ordw 0 L) (y : Int) : Ordw 0 (upd T x L y) := by
  unfold upd
  split
  · exact hL
  · exact h y
theorem act_ord {T : Int → List (Int × Int)} {r : Nat} {x a b : Int} (h : ∀ y, Ordw 0 (T y)) : ∀ y, Ordw 0 ((act T r x a b).2 y) := by
  intro y
  unfold act
  split
  · exact upd_ord h (tk_ord (h x)) y
  · split
    · exact upd_ord h (dr_ord (h x)) y
    · exact fg_ord a (h y)
theorem act_box (w : World) (q : Nat) (x a b : Int) : ∀ W, W = w.alloc (.cells #[.int .u8 q, .int .i64 x, .int .i64 a, .int .i64 b] 34) → W.cell? ⟨w.heap.size, 0, none⟩ = some (.int .u8 q) ∧ W.cell? ⟨w.heap.size, 1, none⟩ = some (.int .i64 x) ∧ W.cell? ⟨w.heap.size, 2, none⟩ = some (.int .i64 a) ∧ W.cell? ⟨w.heap.size, 3, none⟩ = some (.int .i64 b) ∧ Below w.heap.size w W := by
  rintro W rfl
  exact ⟨by simp [World.cell?_alloc_new], by simp [World.cell?_alloc_new], by simp [World.cell?_alloc_new], by simp [World.cell?_alloc_new], (Below.refl _ _).alloc (Nat.le_refl _) _⟩
theorem Acted.from {w w1 w' : World} {base tb N : Nat} {mv : Option Nat} {T T' : Int → List (Int × Int)} {gb : Int → Nat} (h : Acted base tb N mv T gb T' w1 w') (hb : Below w.heap.size w w1) (hl : ∀ k, TF tb mv T gb k → k < w.heap.size) : Acted base tb N mv T gb T' w w' := by
  obtain ⟨mv', gb', h1, h2⟩ := h
  exact ⟨mv', gb', h1, (Turn.ofBelow hb _).trans h2⟩
set_option maxHeartbeats 2000000 in
theorem does_any (base tb N : Nat) (mv : Option Nat) (T : Int → List (Int × Int)) (gb : Int → Nat) (q r : Nat) (x a b : Int) (w : World) (h : Tab w base tb N mv T gb) (hq : q ≤ 255) (hr : q % 3 = r) (hx : IW x) (ha : IW a) (hN : N < 4096) (hO : ∀ y, Ordw 0 (T y)) :
    Calls Try.prog 9 #[.pointer (some ⟨tb, 0, none⟩), .agg #[.int .u8 q, .int .i64 x, .int .i64 a, .int .i64 b]] w fun e w' => e = .returned (.int .i64 (act T r x a b).1) ∧ Acted base tb N mv T gb (act T r x a b).2 w w' := by
  obtain ⟨w1, hw1⟩ : ∃ w1, w1 = w.alloc (.cells #[.int .u8 q, .int .i64 x, .int .i64 a, .int .i64 b] 34) := ⟨_, rfl⟩
  obtain ⟨b0, b1, b2, b3, hb⟩ := act_box w q x a b w1 hw1
  have HB := Lib.hid hb
  have h1 := h.later hb
  have HFT := Lib.hid (fun k hk => (h.foot k hk).2)
  have HTK := Lib.hid (take_any base tb N mv T gb x a b w1 h1 hx hN (hO x))
  have HDR := Lib.hid (drop_any base tb N mv T gb x a b w1 h1 hx hN (hO x))
  have HFG := Lib.hid (forget_any base tb N mv T gb a w1 h1 ha hN)
  have hqr : ((q : Int) % 3) = (r : Int) := by omega
  rw [hw1] at b0 b1 b2 b3 HTK HDR HFG HB
  clear hb h h1 hw1 w1
  rcases (by omega : r = 0 ∨ r = 1 ∨ r = 2) with rfl | rfl | rfl
  · rw [show act T 0 x a b = ((tk (T x) a b).1, upd T x (tk (T x) a b).2) from rfl]
    go_enter Try.func9, Try.ntmps9
    go_wp2_with fail
    refine HTK.out.mono ?_
    rintro e w2 ⟨rfl, h2⟩
    have H2 := Lib.hid (h2.from HB.out HFT.out)
    clear h2
    go_wp2_with fail
    go_ret
    exact ⟨rfl, H2.out⟩
  · rw [show act T 1 x a b = ((dr (T x) a b).1, upd T x (dr (T x) a b).2) from rfl]
    go_enter Try.func9, Try.ntmps9
    go_wp2_with fail
    refine HDR.out.mono ?_
    rintro e w2 ⟨rfl, h2⟩
    have H2 := Lib.hid (h2.from HB.out HFT.out)
    clear h2
    go_wp2_with fail
    go_ret
    exact ⟨rfl, H2.out⟩
  · rw [show act T 2 x a b = (0, fun y => fg (T y) a) from rfl]
    go_enter Try.func9, Try.ntmps9
    go_wp2_with fail
    refine HFG.out.mono ?_
    rintro e w2 ⟨rfl, h2⟩
    have H2 := Lib.hid (h2.from HB.out HFT.out)
    clear h2
    go_wp2_with fail
    go_ret
    exact ⟨rfl, H2.out⟩
end Go.Proofs.Ytafcdclaaagdlaa.Wn
