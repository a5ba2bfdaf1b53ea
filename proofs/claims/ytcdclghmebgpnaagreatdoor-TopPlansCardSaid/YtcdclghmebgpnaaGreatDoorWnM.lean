/-
  Layer 6: Forget.
-/
import Derived.Test.YtcdclghmebgpnaaGreatDoorWnL
set_option linter.unusedVariables false
set_option maxRecDepth 100000
namespace Go.Proofs.YtcdclghmebgpnaaGreatDoor.Wn
open Go.RowKit Go.Maps

/-- What ends behind a moment. -/
def fg (L : List (Int × Int)) (m : Int) : List (Int × Int) := L.drop (plc L m)
theorem fg_ne {L : List (Int × Int)} {m : Int} (h : fg L m ≠ []) : L ≠ [] := fun e => h (by rw [e]; rfl)
/-- The windows while the loop runs. -/
def FT (T : Int → List (Int × Int)) (m : Int) (left : Lit → Bool) (y : Int) : List (Int × Int) := if left (kI y) = true then T y else fg (T y) m
theorem FT_ne {T : Int → List (Int × Int)} {m : Int} {left : Lit → Bool} {y : Int} (h : FT T m left y ≠ []) : T y ≠ [] := by
  unfold FT at h
  split at h
  · exact h
  · exact fg_ne h
structure Fg (w0 w : World) (base tb mb r N : Nat) (T : Int → List (Int × Int)) (gb : Int → Nat) (m : Int) (D : DataW Unit) (left : Lit → Bool) (cnt : Nat) : Prop where
  box : w.heap[tb]? = some (.cells #[.map (some mb)] 88 (0, 0))
  rg : w.ranges Tryz.prog 3 slR mb r N D left cnt
  rows : ∀ y, IW y → has D (kI y) = decide (FT T m left y ≠ []) ∧ (FT T m left y ≠ [] → ∃ c, (∀ z, D.atKey (kI y) z = slD (gb y) (FT T m left y).length c) ∧ Wow w base (.slice (some ⟨gb y, 0, none⟩) (FT T m left y).length c) (FT T m left y))
  turn : Turn (TF tb (some mb) T gb) (TF tb (some mb) T gb) w0 w
theorem slR_shape (v : Value) (y : DataW Unit × List MemPlace) (h : slR v = some y) : ∃ c : Option Addr × Nat × Nat, v = .slice c.1 c.2.1 c.2.2 := by
  unfold slR at h
  split at h
  · exact ⟨(none, 0, 0), rfl⟩
  · exact ⟨(_, _, _), rfl⟩
  · cases h
theorem same_kI {x y : Int} (h : y ≠ x) : (kI y).sameKey (kI x) = false := Maps.sameKey_ne (fun e => h (kI_inj e))
theorem FT_strike {T : Int → List (Int × Int)} {m : Int} {left : Lit → Bool} (x : Int) : FT T m (fun z => left z && !z.sameKey (kI x)) = upd (FT T m left) x (fg (T x) m) := by
  funext y
  unfold upd FT
  by_cases e : y = x
  · subst e
    have hs : (kI y).sameKey (kI y) = true := WideAt.sameKey_self (kI_key y)
    simp [hs]
  · have hs := same_kI e
    simp [e, hs]
/-- A round's end. -/
theorem Fg.step {w0 w w' : World} {base tb mb r N cnt cnt' : Nat} {T : Int → List (Int × Int)} {gb : Int → Nat} {m : Int} {D D' : DataW Unit} {left : Lit → Bool} {x : Int} (h : Fg w0 w base tb mb r N T gb m D left cnt) (hx : IW x) (hTx : T x ≠ []) (hr : w0.heap.size ≤ r)
    (hap : ∀ y, IW y → y ≠ x → T y ≠ [] → gb y ≠ gb x) (hrg : w'.ranges Tryz.prog 3 slR mb r N D' (fun z => left z && !z.sameKey (kI x)) cnt')
    (hW : Turn (fun k => k = gb x ∨ k = mb ∨ k = r) (fun k => k = gb x ∨ k = mb ∨ k = r) w w') (hgt : gb x ≠ tb)
    (h1 : has D' (kI x) = decide (fg (T x) m ≠ [])) (h2 : fg (T x) m ≠ [] → ∃ c, (∀ z, D'.atKey (kI x) z = slD (gb x) (fg (T x) m).length c) ∧ Wow w' base (.slice (some ⟨gb x, 0, none⟩) (fg (T x) m).length c) (fg (T x) m))
    (h3 : ∀ y, y ≠ x → has D' (kI y) = has D (kI y) ∧ ∀ z, D'.atKey (kI y) z = D.atKey (kI y) z) : Fg w0 w' base tb mb r N T gb m D' (fun z => left z && !z.sameKey (kI x)) cnt' := by
  have hbm : tb ≠ mb := fun e => by
    obtain ⟨es, clock, hb, _⟩ := h.rg.owns
    rw [← e, h.box] at hb; simp at hb
  have hbr : tb ≠ r := fun e => by
    obtain ⟨es, clock, since, seen, c0, hb, F, hs, _, hr, _⟩ := h.rg
    rw [← e, h.box] at hr; simp at hr
  refine ⟨(hW.block tb (lt_of_heap h.box) (fun q => by rcases q with q | q | q; exact hgt q.symm; exact hbm q; exact hbr q)).trans h.box, hrg, fun y hy => ?_, ?_⟩
  · rw [FT_strike]
    by_cases e : y = x
    · subst e
      rw [upd_same]
      exact ⟨h1, h2⟩
    · rw [upd_other _ _ e]
      obtain ⟨k1, k2⟩ := h.rows y hy
      refine ⟨(h3 y e).1.trans k1, fun hne => ?_⟩
      obtain ⟨c, q1, q2⟩ := k2 hne
      obtain ⟨cu, hcu⟩ := q2.block
      refine ⟨c, fun z => ((h3 y e).2 z).trans (q1 z), ownsRow_same q2 (fun k hk => ?_)⟩
      obtain rfl : gb y = k := by simpa [Value.ownBlock] using hk
      refine hW.block _ (lt_of_heap hcu) (fun q => ?_)
      rcases q with q | q | q
      · exact hap y hy e (FT_ne hne) q
      · obtain ⟨es, clock, hb, _⟩ := h.rg.owns
        rw [← q, hcu] at hb; simp at hb
      · obtain ⟨es, clock, since, seen, c0, hb, F, hs, _, hr, _⟩ := h.rg
        rw [← q, hcu] at hr; simp at hr
  · refine ⟨hW.os.trans h.turn.os, hW.tape.trans h.turn.tape, hW.output.trans h.turn.output, Nat.le_trans h.turn.size hW.size, fun k hk hF => (hW.block k (Nat.lt_of_lt_of_le hk h.turn.size) (fun q => ?_)).trans (h.turn.block k hk hF), fun k hk => .inl hk⟩
    rcases q with q | q | q
    · exact hF (.inr (.inr ⟨x, hx, hTx, q.symm⟩))
    · exact hF (.inr (.inl (by rw [q])))
    · omega
theorem fg_rising {L : List (Int × Int)} (m : Int) (h : Rising L) : Rising (fg L m) := by
  intro a b hab hb
  unfold fg at hb ⊢
  rw [List.length_drop] at hb
  have := h (plc L m + a) (plc L m + b) (by omega) (by omega)
  rw [List.getD_eq_getElem?_getD, List.getD_eq_getElem?_getD, List.getElem?_drop, List.getElem?_drop, ← List.getD_eq_getElem?_getD, ← List.getD_eq_getElem?_getD]
  exact this
/-- The loop's end. -/
theorem Fg.tab {w0 w : World} {base tb mb r N cnt : Nat} {T : Int → List (Int × Int)} {gb : Int → Nat} {m : Int} {D : DataW Unit} {left : Lit → Bool} (h : Fg w0 w base tb mb r N T gb m D left cnt) (h0 : Tab w0 base tb N (some mb) T gb) (hl : ∀ kl, left kl = false) :
    Tab w base tb N (some mb) (fun y => fg (T y) m) gb ∧ Turn (TF tb (some mb) T gb) (TF tb (some mb) (fun y => fg (T y) m) gb) w0 w := by
  have e : ∀ y, FT T m left y = fg (T y) m := fun y => by unfold FT; rw [hl]; simp
  refine ⟨⟨h.box, h0.lo, h0.few, (fun e => by cases e), fun mb' e' => ?_, fun x y hx hy hne h1 h2 => h0.apart x y hx hy hne (fg_ne h1) (fg_ne h2), fun y => fg_rising m (h0.rise y), fun y => ?_⟩, ?_⟩
  · obtain rfl : mb = mb' := by injection e'
    exact ⟨(h0.map mb rfl).1, D, h.rg.owns, fun y hy => by have := h.rows y hy; rwa [e y] at this⟩
  · have := h0.small y
    unfold fg
    rw [List.length_drop]
    omega
  · exact h.turn.sub (fun k hk => by
      rcases hk with q | q | ⟨y, hy, hne, q⟩
      · exact .inl (.inl q)
      · exact .inl (.inr (.inl q))
      · exact .inl (.inr (.inr ⟨y, hy, fg_ne hne, q⟩)))
end Go.Proofs.YtcdclghmebgpnaaGreatDoor.Wn
