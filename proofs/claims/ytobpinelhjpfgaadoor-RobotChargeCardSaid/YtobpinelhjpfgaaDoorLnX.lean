/-
  Layer 14: both senders and both receivers in one memory.
-/
import Derived.Test.YtobpinelhjpfgaaDoorLnV
set_option linter.unusedVariables false
set_option maxRecDepth 100000
namespace Go.Proofs.YtobpinelhjpfgaaDoor
namespace Ln
open Go.RowKit Bp Ck
/-- The blocks: a sender, a receiver, the document's; from t on none of them lies. -/
structure Qa where
  s : Nat
  r : Nat
  v : Nat
  q : Nat
  t : Nat
/-- What all hold: the program's, the document's, and what came back last. -/
structure Qz where
  vv : Value
  told : Nat
  pk : List Nat
  told2 : Nat
  pk2 : List Nat
  d : List Nat
  heard : Nat
  heard2 : Nat
  kA : Option Addr
  kc : Nat
  bk : List Nat
structure Qo (w0 w : World) (a : Qa) (z : Qz) : Prop where
  below : Below w0.heap.size w0 w
  sat : SAt w a.s z.vv z.told z.pk
  rat : RAt w a.r z.heard
  vat : VAt w a.v z.told2 z.pk2 z.d
  wat : WAt w a.q z.heard2
  back : By w.heap.size w z.kA z.bk.length z.kc z.bk
  fresh : ∀ x, z.kA = some x → a.t ≤ x.block
  lo : w0.heap.size ≤ a.s ∧ w0.heap.size ≤ a.r ∧ w0.heap.size ≤ a.v ∧ w0.heap.size ≤ a.q
  hi : a.s < a.t ∧ a.r < a.t ∧ a.v < a.t ∧ a.q < a.t
  top : a.t ≤ w.heap.size
section
variable {w0 w w' : World} {a : Qa} {z : Qz}
theorem VAt.ne {s told told2 heard r : Nat} {v : Value} {pk pk2 d : List Nat} (h : VAt w r told2 pk2 d) (hs : SAt w s v told pk) : ¬ SF s v r := hs.apart h (by decide) (by decide)
theorem WAt.ne {s told heard r : Nat} {v : Value} {pk : List Nat} (h : WAt w r heard) (hs : SAt w s v told pk) : ¬ SF s v r := hs.apart h.box (by decide) (by decide)
theorem two_ne {b b2 : Nat} {c c2 : Array Value} {t t2 : TypeId} {fz fz2 : Nat × Nat} (h : w.heap[b]? = some (.cells c t fz)) (h2 : w.heap[b2]? = some (.cells c2 t2 fz2)) (ht : t ≠ t2) : b ≠ b2 := by
  rintro rfl
  rw [h] at h2
  injection h2 with h2
  injection h2 with _ e _
  exact ht e
theorem turn_below {b : Nat} {B : Nat} (ht : Turn (One b) (One b) w w') (hw : B ≤ w.heap.size) (hb : B ≤ b) : Below B w w' :=
  ⟨ht.os, ht.tape, ht.output, ht.size, fun k hk => ht.block k (by omega) (fun e => by have : k = b := e; omega)⟩
theorem by_turn2 {A : Option Addr} {n c : Nat} {zs : List Nat} {F F' : Nat → Prop} (h : By w.heap.size w A n c zs) (ht : Turn F F' w w') (hf : 0 < n → ∀ a, A = some a → ¬ F a.block) : By w'.heap.size w' A n c zs :=
  ⟨h.len, h.le, h.max, h.nil, h.byte, fun hn => by
    obtain ⟨g, off, hA, hg, hc⟩ := h.cell hn
    have hk := ht.block g hg (hf hn _ hA)
    exact ⟨g, off, hA, Nat.lt_of_lt_of_le hg ht.size, fun j hj => (World.cell?_of_block (a := ⟨g, off + j, none⟩) hk).trans (hc j hj)⟩⟩
theorem Qo.later (h : Qo w0 w a z) (hb : Below w.heap.size w w') : Qo w0 w' a z :=
  ⟨h.below.trans (hb.mono h.below.size), h.sat.later hb, h.rat.later hb, h.vat.later hb, h.wat.later hb, by_later h.back hb, h.fresh, h.lo, h.hi, Nat.le_trans h.top hb.size⟩
theorem Qo.sender (h : Qo w0 w a z) {v' : Value} {told' : Nat} {pk' : List Nat} (hs : SAt w' a.s v' told' pk') (ht : Turn (One a.s) (One a.s) w w') : Qo w0 w' a { z with vv := v', told := told', pk := pk' } :=
  ⟨h.below.trans (turn_below ht h.below.size h.lo.1), hs, h.rat.turn ht (h.rat.ne h.sat), h.vat.turn ht (fun e => VAt.ne (heard := 0) h.vat h.sat (.inl e)), h.wat.turn ht (fun e => h.wat.ne h.sat (.inl e)),
   by_turn h.back ht (fun x hx e => by have e2 : x.block = a.s := e; have := h.fresh x hx; have := h.hi; omega), h.fresh, h.lo, h.hi, Nat.le_trans h.top ht.size⟩
theorem Qo.vsender (h : Qo w0 w a z) {told' : Nat} {pk' d' : List Nat} (hs : VAt w' a.v told' pk' d') (ht : Turn (One a.v) (One a.v) w w') : Qo w0 w' a { z with told2 := told', pk2 := pk', d := d' } :=
  ⟨h.below.trans (turn_below ht h.below.size h.lo.2.2.1), h.sat.turn ht (VAt.ne (heard := 0) h.vat h.sat), h.rat.turn ht (two_ne h.rat.box h.vat (by decide)), hs, h.wat.turn ht (two_ne h.wat.box h.vat (by decide)),
   by_turn h.back ht (fun x hx e => by have e2 : x.block = a.v := e; have := h.fresh x hx; have := h.hi; omega), h.fresh, h.lo, h.hi, Nat.le_trans h.top ht.size⟩
theorem Qo.receiver (h : Qo w0 w a z) {n : Nat} (hs : RAt w' a.r n) (ht : Turn (One a.r) (One a.r) w w') : Qo w0 w' a { z with heard := n } :=
  ⟨h.below.trans (turn_below ht h.below.size h.lo.2.1), h.sat.turn ht (h.rat.free h.sat), hs, h.vat.turn ht (two_ne h.vat h.rat.box (by decide)), h.wat.turn ht (two_ne h.wat.box h.rat.box (by decide)),
   by_turn h.back ht (fun x hx e => by have e2 : x.block = a.r := e; have := h.fresh x hx; have := h.hi; omega), h.fresh, h.lo, h.hi, Nat.le_trans h.top ht.size⟩
theorem Qo.wreceiver (h : Qo w0 w a z) {n : Nat} (hs : WAt w' a.q n) (ht : Turn (One a.q) (One a.q) w w') : Qo w0 w' a { z with heard2 := n } :=
  ⟨h.below.trans (turn_below ht h.below.size h.lo.2.2.2), h.sat.turn ht (h.wat.ne h.sat), h.rat.turn ht (two_ne h.rat.box h.wat.box (by decide)), h.vat.turn ht (two_ne h.vat h.wat.box (by decide)), hs,
   by_turn h.back ht (fun x hx e => by have e2 : x.block = a.q := e; have := h.fresh x hx; have := h.hi; omega), h.fresh, h.lo, h.hi, Nat.le_trans h.top ht.size⟩
/-- A block is written that is none of theirs. -/
theorem Qo.other (h : Qo w0 w a z) {g : Nat} (ht : Turn (One g) (One g) w w') (h1 : ¬ SF a.s z.vv g) (h2 : a.t ≤ g) (h3 : 0 < z.bk.length → ∀ x, z.kA = some x → x.block ≠ g) : Qo w0 w' a z :=
  ⟨h.below.trans (turn_below ht h.below.size (by have := h.lo; have := h.hi; omega)), h.sat.turn ht h1, h.rat.turn ht (by have := h.hi; omega), h.vat.turn ht (by have := h.hi; omega), h.wat.turn ht (by have := h.hi; omega),
   by_turn2 h.back ht (fun hn x hx e => h3 hn x hx e), h.fresh, h.lo, h.hi, Nat.le_trans h.top ht.size⟩
/-- Something else came back. -/
theorem Qo.came (h : Qo w0 w a z) {A : Option Addr} {c : Nat} {bs : List Nat} (hb : By w.heap.size w A bs.length c bs) (hf : ∀ x, A = some x → a.t ≤ x.block) : Qo w0 w a { z with kA := A, kc := c, bk := bs } :=
  ⟨h.below, h.sat, h.rat, h.vat, h.wat, hb, hf, h.lo, h.hi, h.top⟩
end
/-- Both tell the same. -/
structure Qe (z : Qz) : Prop where
  told : z.told2 = z.told
  pk : z.pk2 = z.pk
  heard : z.heard2 = z.heard
  link : z.pk ≠ [] → z.pk = play false (z.told + 1) z.d ∧ Ok false (z.told + 1) z.d
theorem Qe.tell {z : Qz} (h : Qe z) (hg : z.told < 18446744073709551616) {x : List Nat} (hx : ∀ y ∈ x, y ≤ 255) (vv : Value) (kA : Option Addr) (kc : Nat) (bk : List Nat) :
    Qe { z with vv := vv, pk := tlP z.told z.pk x, pk2 := tlP z.told2 z.pk2 x, d := tlD z.told2 z.pk2 z.d x } := by
  refine ⟨h.told, by show tlP z.told2 z.pk2 x = tlP z.told z.pk x; rw [h.told, h.pk], h.heard, ?_⟩
  show tlP z.told z.pk x ≠ [] → tlP z.told z.pk x = play false (z.told + 1) (tlD z.told2 z.pk2 z.d x) ∧ Ok false (z.told + 1) (tlD z.told2 z.pk2 z.d x)
  rw [h.told, h.pk]
  intro hp
  unfold tlP tlD at *
  by_cases he : tlE z.told z.pk x.length = 0
  · rw [if_pos he, if_pos he]
    refine ⟨rfl, ?_⟩
    unfold tlE at he
    by_cases h0 : z.pk ≠ []
    · rw [if_pos h0] at he; omega
    · rw [if_neg h0] at he
      by_cases h1 : 200 < x.length ∨ 18446744073709551614 ≤ z.told
      · rw [if_pos h1] at he; omega
      · exact ok_told (by omega) (by omega) hx
  · rw [if_neg he] at hp ⊢
    rw [if_neg he]
    exact h.link hp
theorem Qe.hear {z : Qz} (h : Qe z) (bs : List Nat) (vv : Value) :
    Qe { z with vv := vv, told := (if heB z.told z.pk bs then z.told + 1 else z.told), pk := (if heB z.told z.pk bs then [] else z.pk), told2 := heN z.told2 z.pk2 bs, pk2 := heK z.told2 z.pk2 bs } := by
  refine ⟨?_, ?_, h.heard, ?_⟩
  · show heN z.told2 z.pk2 bs = _
    unfold heN; rw [h.told, h.pk]
  · show heK z.told2 z.pk2 bs = _
    unfold heK; rw [h.told, h.pk]
  · show (if heB z.told z.pk bs then [] else z.pk) ≠ [] → (if heB z.told z.pk bs then [] else z.pk) = play false ((if heB z.told z.pk bs then z.told + 1 else z.told) + 1) z.d ∧ Ok false ((if heB z.told z.pk bs then z.told + 1 else z.told) + 1) z.d
    cases hb : heB z.told z.pk bs
    · simpa using h.link
    · simp
/-- What hearing comes to. -/
def Rh (heard : Nat) (bs bd : List Nat) (fr : Bool) (bb : List Nat) (nh : Nat) : Prop :=
  (∃ n, Is bs false n bd ∧ rAns heard n = true ∧ heard < n ∧ fr = true ∧ bb = play true n [] ∧ nh = n) ∨
  (∃ n d, Is bs false n d ∧ rAns heard n = true ∧ n ≤ heard ∧ bd = [] ∧ fr = false ∧ bb = play true n [] ∧ nh = heard) ∨
  ((∀ n d, Is bs false n d → rAns heard n = false) ∧ bd = [] ∧ fr = false ∧ bb = [] ∧ nh = heard)
theorem Rh.uniq {heard : Nat} {bs bd bd' : List Nat} {fr fr' : Bool} {bb bb' : List Nat} {nh nh' : Nat} (h : Rh heard bs bd fr bb nh) (h' : Rh heard bs bd' fr' bb' nh') : bd = bd' ∧ fr = fr' ∧ bb = bb' ∧ nh = nh' := by
  rcases h with ⟨n, hi, ha, hl, rfl, rfl, rfl⟩ | ⟨n, d, hi, ha, hl, rfl, rfl, rfl, rfl⟩ | ⟨hn, rfl, rfl, rfl, rfl⟩
  · rcases h' with ⟨n', hi', ha', hl', rfl, rfl, rfl⟩ | ⟨n', d', hi', ha', hl', rfl, rfl, rfl, rfl⟩ | ⟨hn', rfl, rfl, rfl, rfl⟩
    · obtain ⟨_, rfl, rfl⟩ := hi.uniq hi'
      exact ⟨rfl, rfl, rfl, rfl⟩
    · have := (hi.uniq hi').2.1; omega
    · have := hn' _ _ hi; rw [ha] at this; cases this
  · rcases h' with ⟨n', hi', ha', hl', rfl, rfl, rfl⟩ | ⟨n', d', hi', ha', hl', rfl, rfl, rfl, rfl⟩ | ⟨hn', rfl, rfl, rfl, rfl⟩
    · have := (hi.uniq hi').2.1; omega
    · obtain ⟨_, rfl, rfl⟩ := hi.uniq hi'
      exact ⟨rfl, rfl, rfl, rfl⟩
    · have := hn' _ _ hi; rw [ha] at this; cases this
  · rcases h' with ⟨n', hi', ha', hl', rfl, rfl, rfl⟩ | ⟨n', d', hi', ha', hl', rfl, rfl, rfl, rfl⟩ | ⟨hn', rfl, rfl, rfl, rfl⟩
    · have := hn _ _ hi'; rw [ha'] at this; cases this
    · have := hn _ _ hi'; rw [ha'] at this; cases this
    · exact ⟨rfl, rfl, rfl, rfl⟩
theorem rh_form {r heard : Nat} {bs : List Nat} {w w' : World} {e : Ending} (h : RHTold r heard bs w e w') : ∃ (bd : List Nat) (fr : Bool) (bb : List Nat) (nh : Nat) (A : Option Addr) (c : Nat) (A2 : Option Addr) (c2 : Nat),
    e = .returned (.tuple #[.slice A bd.length c, .bool fr, .slice A2 bb.length c2]) ∧ Turn (One r) (One r) w w' ∧ (By w'.heap.size w' A bd.length c bd ∧ ∀ a, A = some a → w.heap.size ≤ a.block) ∧ (By w'.heap.size w' A2 bb.length c2 bb ∧ ∀ a, A2 = some a → w.heap.size ≤ a.block) ∧ RAt w' r nh ∧ Rh heard bs bd fr bb nh := by
  obtain ⟨ht, ⟨n, d, A, c, A2, c2, hi, ha, hl, he, hx, hy, hr⟩ | ⟨n, d, A2, c2, hi, ha, hl, he, hy, hr⟩ | ⟨hn, he, hr⟩⟩ := h
  · exact ⟨d, true, play true n [], n, A, c, A2, c2, he, ht, hx, hy, (by first | exact hr | exact hr.1), .inl ⟨n, hi, ha, hl, rfl, rfl, rfl⟩⟩
  · exact ⟨[], false, play true n [], heard, none, 0, A2, c2, he, ht, ⟨By.none_ _ _, fun a e => (by cases e)⟩, hy, hr, .inr (.inl ⟨n, d, hi, ha, hl, rfl, rfl, rfl, rfl⟩)⟩
  · exact ⟨[], false, [], heard, none, 0, none, 0, he, ht, ⟨By.none_ _ _, fun a e => (by cases e)⟩, ⟨By.none_ _ _, fun a e => (by cases e)⟩, hr, .inr (.inr ⟨hn, rfl, rfl, rfl, rfl⟩)⟩
theorem rr_form {r heard : Nat} {bs : List Nat} {w w' : World} {e : Ending} (h : RRTold r heard bs w e w') : ∃ (bd : List Nat) (fr : Bool) (bb : List Nat) (nh : Nat) (A : Option Addr) (c : Nat) (A2 : Option Addr) (c2 : Nat),
    e = .returned (.tuple #[.slice A bd.length c, .bool fr, .slice A2 bb.length c2]) ∧ Turn (One r) (One r) w w' ∧ By w'.heap.size w' A bd.length c bd ∧ (By w'.heap.size w' A2 bb.length c2 bb ∧ ∀ a, A2 = some a → w.heap.size ≤ a.block) ∧ WAt w' r nh ∧ Rh heard bs bd fr bb nh := by
  obtain ⟨ht, ⟨n, d, A, c, A2, c2, hi, ha, hl, he, hx, hy, hr⟩ | ⟨n, d, A2, c2, hi, ha, hl, he, hy, hr⟩ | ⟨hn, he, hr⟩⟩ := h
  · exact ⟨d, true, play true n [], n, A, c, A2, c2, he, ht, hx, hy, hr, .inl ⟨n, hi, ha, hl, rfl, rfl, rfl⟩⟩
  · exact ⟨[], false, play true n [], heard, none, 0, A2, c2, he, ht, By.none_ _ _, hy, hr, .inr (.inl ⟨n, d, hi, ha, hl, rfl, rfl, rfl, rfl⟩)⟩
  · exact ⟨[], false, [], heard, none, 0, none, 0, he, ht, By.none_ _ _, ⟨By.none_ _ _, fun a e => (by cases e)⟩, hr, .inr (.inr ⟨hn, rfl, rfl, rfl, rfl⟩)⟩
def uc (cs : List Int) : List Value := cs.map fun z => Value.int .u8 z
theorem uc_bc (d : List Nat) : bc d = uc (d.map fun n : Nat => (n : Int)) := by simp [bc, uc]
theorem uc_set (cs : List Int) (j : Nat) (y : Int) : (uc cs).set j (.int .u8 y) = uc (cs.set j y) := by simp [uc]
theorem uc_len (cs : List Int) : (uc cs).length = cs.length := by simp [uc]
end Ln
end Go.Proofs.YtobpinelhjpfgaaDoor
