/-
  Layer 17: a record in a law's box; records' bytes are apart.
-/
import Derived.Test.YtobpinelhjpfgaaDoorRcH
set_option linter.unusedVariables false
set_option maxRecDepth 100000
namespace Go.Proofs.YtobpinelhjpfgaaDoor
namespace Rc
open Go.RowKit Bp Ck
/-- A record's bytes. -/
def recB (k : Nat) (i r p c q : Int) : List Nat := pack (kb 3 k (fl k) (natN (five i r p c q)))
theorem rok_rg {k : Nat} {M : Nat → Int} (h : Rok k M) : ∀ f, f ∈ fl k → rg f (natN M f) := fun f hf => rg_le f _ (fl_lt k f hf) (by have := (h.field f hf).2.2; unfold natN; omega)
theorem rok_k8 {k : Nat} {M : Nat → Int} (h : Rok k M) : k < 2 ^ 3 := by have := h.kind; omega
theorem rec_both {zs : List Nat} {k k' : Nat} {M M' : Nat → Int} (h : Rok k M) (h' : Rok k' M') (h1 : Has zs 0 (kb 3 k (fl k) (natN M))) (h2 : Has zs 0 (kb 3 k' (fl k') (natN M'))) : k = k' ∧ (∀ f, f < 5 → M f = M' f) ∧ kb 3 k (fl k) (natN M) = kb 3 k' (fl k') (natN M') := by
  obtain ⟨rfl, h3⟩ := kb_uniq (F := fl) (rok_k8 h) (rok_k8 h') (rok_rg h) (rok_rg h') h1 h2
  refine ⟨rfl, fun f hf => ?_, kb_congr _ _ _ _ _ h3⟩
  by_cases hm : f ∈ fl k
  · have a := (h.field f hm).2.1
    have b := (h'.field f hm).2.1
    have e := h3 f hm
    unfold natN at e
    omega
  · have a := (h.2 f hf).2
    have b := (h'.2 f hf).2
    rcases a with a | a
    · rcases b with b | b
      · rw [a, b]
      · exact absurd b hm
    · exact absurd a hm
theorem rec_uniq {k k' : Nat} {M M' : Nat → Int} (h : Rok k M) (h' : Rok k' M') (e : pack (kb 3 k (fl k) (natN M)) = pack (kb 3 k' (fl k') (natN M'))) : k = k' ∧ ∀ f, f < 5 → M f = M' f := by
  obtain ⟨h1, h2, _⟩ := rec_both h h' (pack_fin _).1 (e ▸ (pack_fin _).1)
  exact ⟨h1, h2⟩
theorem five_uniq {i r p c q i' r' p' c' q' : Int} (h : ∀ f, f < 5 → five i r p c q f = five i' r' p' c' q' f) : i = i' ∧ r = r' ∧ p = p' ∧ c = c' ∧ q = q' := ⟨h 0 (by decide), h 1 (by decide), h 2 (by decide), h 3 (by decide), h 4 (by decide)⟩
theorem rec_len {k : Nat} {M : Nat → Int} (h : Rok k M) : 0 < (pack (kb 3 k (fl k) (natN M))).length ∧ (pack (kb 3 k (fl k) (natN M))).length ≤ 24 := by
  rw [pack_length]
  have h1 := fbits_len (fl k) (natN M) (fun f hf => ⟨fl_lt k f hf, by have := (h.field f hf).2.2; unfold natN; omega⟩)
  have h2 := fl_len k
  unfold kb nb
  rw [List.length_append, bitsOf_length]
  omega
/-- No beginning of a record is one. -/
theorem cut_no {k : Nat} {M : Nat → Int} (h : Rok k M) (n : Nat) (hn : n < (pack (kb 3 k (fl k) (natN M))).length) (k' : Nat) (M' : Nat → Int) (h' : Rok k' M') : (pack (kb 3 k (fl k) (natN M))).take n ≠ pack (kb 3 k' (fl k') (natN M')) := by
  intro e
  have h1 : Has ((pack (kb 3 k (fl k) (natN M))).take n) 0 (kb 3 k' (fl k') (natN M')) := by rw [e]; exact (pack_fin _).1
  obtain ⟨_, _, h3⟩ := rec_both h h' (pack_fin _).1 (has_take h1)
  rw [← h3] at e
  have := congrArg List.length e
  rw [List.length_take] at this
  omega
/-- Nor is one with a byte behind it. -/
theorem more_no {k : Nat} {M : Nat → Int} (h : Rok k M) (z : Nat) (k' : Nat) (M' : Nat → Int) (h' : Rok k' M') : pack (kb 3 k (fl k) (natN M)) ++ [z] ≠ pack (kb 3 k' (fl k') (natN M')) := by
  intro e
  have h1 : Has (pack (kb 3 k (fl k) (natN M)) ++ [z]) 0 (kb 3 k' (fl k') (natN M')) := by rw [e]; exact (pack_fin _).1
  obtain ⟨_, _, h3⟩ := rec_both h h' (has_more (pack_fin _).1) h1
  rw [← h3] at e
  have := congrArg List.length e
  rw [List.length_append] at this
  simp at this
theorem TakeTold.no {w w' : World} {zs : List Nat} {e : Ending} (h : TakeTold w zs e w') (hn : ∀ (k : Nat) (M : Nat → Int), Rok k M → zs ≠ pack (kb 3 k (fl k) (natN M))) : e = .returned (.tuple #[.agg #[.int .u8 0, .int .i64 0, .int .i64 0, .int .i64 0, .int .i64 0, .int .i64 0], .int .i64 170]) ∧ Below w.heap.size w w' := by
  obtain ⟨hb, ⟨k, i, r, p, c, q, hok, hz, _⟩ | ⟨_, rfl⟩⟩ := h
  · exact absurd hz (hn k _ hok)
  · exact ⟨rfl, hb⟩
theorem TakeTold.yes {w w' : World} {k : Nat} {i r p c q : Int} {e : Ending} (hok : Rok k (five i r p c q)) (h : TakeTold w (pack (kb 3 k (fl k) (natN (five i r p c q)))) e w') : e = .returned (.tuple #[.agg #[.int .u8 (k : Int), .int .i64 i, .int .i64 r, .int .i64 p, .int .i64 c, .int .i64 q], .int .i64 0]) ∧ Below w.heap.size w w' := by
  obtain ⟨hb, ⟨k', i', r', p', c', q', hok', hz, rfl⟩ | ⟨hno, _⟩⟩ := h
  · obtain ⟨rfl, hf⟩ := rec_uniq hok hok' hz
    obtain ⟨rfl, rfl, rfl, rfl, rfl⟩ := five_uniq hf
    exact ⟨rfl, hb⟩
  · exact absurd rfl (hno k _ hok)
end Rc
end Go.Proofs.YtobpinelhjpfgaaDoor
