/-
  Cells that are on, spread over lanes until nothing is new, in plain words.
-/
import Derived.Test.YtaioiobimenkfaaDoorFlPlain3
set_option linter.unusedVariables false
set_option maxRecDepth 100000
namespace Go.Proofs.YtaioiobimenkfaaDoor.Fl

/-- How many of the first n are off. -/
def off (B : Nat → Bool) (n : Nat) : Nat := ((List.range n).filter fun x => !B x).length
def upd (B : Nat → Bool) (y : Nat) : Nat → Bool := fun x => if x = y then true else B x
theorem upd_same (B : Nat → Bool) (y : Nat) : upd B y y = true := by simp [upd]
theorem upd_other (B : Nat → Bool) {x y : Nat} (h : x ≠ y) : upd B y x = B x := by simp [upd, h]
theorem upd_le (B : Nat → Bool) (y x : Nat) (h : B x = true) : upd B y x = true := by
  unfold upd
  split
  · rfl
  · exact h
theorem off_succ (B : Nat → Bool) (n : Nat) : off B (n + 1) = off B n + if B n = true then 0 else 1 := by
  unfold off
  rw [List.range_succ, List.filter_append, List.length_append]
  cases h : B n <;> simp [h]
theorem off_upd (B : Nat → Bool) (y n : Nat) (hy : y < n) (h : B y = false) : off (upd B y) n + 1 = off B n := by
  induction n with
  | zero => omega
  | succ n ih =>
    rw [off_succ, off_succ]
    rcases Nat.lt_succ_iff_lt_or_eq.1 hy with k | k
    · rw [upd_other B (by omega : n ≠ y)]
      have := ih k
      omega
    · subst k
      have e : off (upd B y) y = off B y := by
        unfold off
        congr 1
        apply List.filter_congr
        intro x hx
        rw [upd_other B (by have := List.mem_range.1 hx; omega)]
      rw [e, upd_same, h]
      simp

/-- What is on can be reached from a; a is on. -/
structure Rs (W H : Nat) (z : Nat → Nat) (a n : Nat) (B : Nat → Bool) : Prop where
  head : B a = true
  rch : ∀ x, x < n → B x = true → Rch W H z a x
theorem Rs.add {W H : Nat} {z : Nat → Nat} {a n : Nat} {B : Nat → Bool} (h : Rs W H z a n B) {i y : Nat} (hi : i < n) (hb : B i = true) (hy : y ∈ side W H i) (hl : isL (z y) = true) : Rs W H z a n (upd B y) :=
  ⟨upd_le B y a h.head, fun x hx hb2 => by
    by_cases e : x = y
    · subst e; exact (h.rch i hi hb).step hy hl
    · rw [upd_other B e] at hb2; exact h.rch x hx hb2⟩
/-- Nothing new behind a whole pass: what is on is what can be reached. -/
theorem Rs.all {W H : Nat} {z : Nat → Nat} {a : Nat} {B : Nat → Bool} (h : Rs W H z a (W * H) B) (hW : 1 ≤ W) (ha : a < W * H) (hc : ∀ x, x < W * H → B x = true → ∀ y, y ∈ side W H x → isL (z y) = true → B y = true) (x : Nat) (hx : x < W * H) : B x = true ↔ Rch W H z a x := by
  constructor
  · exact h.rch x hx
  · intro k
    have := k (fun v => v < W * H ∧ B v = true) ⟨ha, h.head⟩ (fun u v hu hv hl => ⟨side_lt hW hu.1 hv, hc u hu.1 hu.2 v hv hl⟩)
    exact this.2

/-- Within a pass that began with o cells off: m tells whether something is new; if not, of the first i what is on was looked at. -/
structure Ps (W H : Nat) (z : Nat → Nat) (a n o i : Nat) (m : Bool) (B : Nat → Bool) : Prop where
  rs : Rs W H z a n B
  less : off B n + (if m = true then 1 else 0) ≤ o
  done : m = false → ∀ x, x < i → B x = true → ∀ y, y ∈ side W H x → isL (z y) = true → B y = true
theorem Ps.new {W H : Nat} {z : Nat → Nat} {a n o i : Nat} {m : Bool} {B : Nat → Bool} (h : Ps W H z a n o i m B) {y : Nat} (hi : i < n) (hb : B i = true) (hy : y ∈ side W H i) (hl : isL (z y) = true) (hn : y < n) (hf : B y = false) : Ps W H z a n o i true (upd B y) :=
  ⟨h.rs.add hi hb hy hl, by
    have h1 := off_upd B y n hn hf
    have h2 := h.less
    rw [if_pos rfl]
    omega, fun e => by cases e⟩
theorem Ps.next {W H : Nat} {z : Nat → Nat} {a n o i : Nat} {m : Bool} {B : Nat → Bool} (h : Ps W H z a n o i m B) (hd : m = false → B i = true → ∀ y, y ∈ side W H i → isL (z y) = true → B y = true) : Ps W H z a n o (i + 1) m B :=
  ⟨h.rs, h.less, fun e x hx => by
    rcases Nat.lt_succ_iff_lt_or_eq.1 hx with k | k
    · exact h.done e x k
    · subst k; exact hd e⟩

end Go.Proofs.YtaioiobimenkfaaDoor.Fl
