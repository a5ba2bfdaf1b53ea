/-
  Layer 18: a robot, and who tells it: a sender and a receiver of one's own, all in one memory; bytes that stay.
-/
import Derived.Test.YtobpinelhjpfgaaDoorRbF
set_option linter.unusedVariables false
set_option maxRecDepth 100000
namespace Go.Proofs.YtobpinelhjpfgaaDoor
namespace Rb
open Go.RowKit Bp Ck Ln
open Rc (Aok Shp TakeATold act_uniq)
/-- Their blocks. -/
structure Tb where
  r : Nat
  h : Nat
  s : Nat
  q : Nat
  g : Nat
def UF (a : Tb) (v u : Value) : Nat → Prop := fun k => RbF a.r a.h a.s v k ∨ SF a.q u k ∨ k = a.g
/-- A robot, a sender that tells it, a receiver that hears it. -/
structure Tri (w0 w : World) (a : Tb) (v u : Value) (z : R) (told : Nat) (pk : List Nat) (heard : Nat) : Prop where
  rb : Rs w0 w a.r a.h a.s v z
  sat : SAt w a.q u told pk
  rat : RAt w a.g heard
  lo : ∀ k, UF a v u k → w0.heap.size ≤ k
  dis : ∀ k, RbF a.r a.h a.s v k → ¬ SF a.q u k
  dig : ∀ k, RbF a.r a.h a.s v k → k ≠ a.g
section
variable {w0 w w' : World} {a : Tb} {v u : Value} {z : R} {told : Nat} {pk : List Nat} {heard : Nat}
theorem Tri.lt (g : Tri w0 w a v u z told pk heard) : ∀ k, UF a v u k → k < w.heap.size := by
  rintro k (e | e | e)
  · exact g.rb.lt k e
  · exact g.sat.lt k e
  · rw [e]; exact g.rat.lt
theorem Tri.below (g : Tri w0 w a v u z told pk heard) : Below w0.heap.size w0 w := g.rb.below
theorem Tri.later (g : Tri w0 w a v u z told pk heard) (hb : Below w.heap.size w w') : Tri w0 w' a v u z told pk heard :=
  ⟨g.rb.later hb, g.sat.later hb, g.rat.later hb, g.lo, g.dis, g.dig⟩
/-- The robot acts. -/
theorem Tri.robot (g : Tri w0 w a v u z told pk heard) {v' : Value} {z' : R} (hr : Rs w0 w' a.r a.h a.s v' z') (ht : Turn (RbF a.r a.h a.s v) (RbF a.r a.h a.s v') w w') : Tri w0 w' a v' u z' told pk heard ∧ Turn (UF a v u) (UF a v' u) w w' := by
  have hf := ht.foot
  refine ⟨⟨hr, g.sat.same (fun k hk => ht.block k (g.sat.lt k hk) (fun e => g.dis k e hk)), g.rat.same (ht.block _ g.rat.lt (fun e => g.dig _ e rfl)), ?_, fun k hk hs => ?_, fun k hk e => ?_⟩, ⟨ht.os, ht.tape, ht.output, ht.size, fun k h1 h2 => ht.block k h1 (fun e => h2 (.inl e)), ?_⟩⟩
  · rintro k (e | e | e)
    · exact hr.at_.lo k e
    · exact g.lo k (.inr (.inl e))
    · exact g.lo k (.inr (.inr e))
  · rcases hf k hk with x | x
    · exact g.dis k x hs
    · have := g.sat.lt k hs; omega
  · rcases hf k hk with x | x
    · exact g.dig k x e
    · have := g.rat.lt; omega
  · rintro k (e | e | e)
    · exact (hf k e).imp .inl id
    · exact .inl (.inr (.inl e))
    · exact .inl (.inr (.inr e))
/-- The sender acts. -/
theorem Tri.sender (g : Tri w0 w a v u z told pk heard) {u' : Value} {told' : Nat} {pk' : List Nat} (hs : SAt w' a.q u' told' pk') (ht : Turn (One a.q) (One a.q) w w') (hv : ∀ k, u'.ownBlock = some k → u.ownBlock = some k ∨ w.heap.size ≤ k) : Tri w0 w' a v u' z told' pk' heard ∧ Turn (UF a v u) (UF a v u') w w' := by
  have hq : SF a.q u a.q := .inl rfl
  have hsf : ∀ k, SF a.q u' k → SF a.q u k ∨ w.heap.size ≤ k := fun k hk => by
    rcases hk with e | e
    · exact .inl (.inl e)
    · exact (hv k e).imp .inr id
  have ht2 : Turn (UF a v u) (UF a v u') w w' := ⟨ht.os, ht.tape, ht.output, ht.size, fun k h1 h2 => ht.block k h1 (fun e => h2 (.inr (.inl (.inl e)))), fun k hk => by
    rcases hk with e | e | e
    · exact .inl (.inl e)
    · exact (hsf k e).imp (fun x => .inr (.inl x)) id
    · exact .inl (.inr (.inr e))⟩
  have hrb : RbAt w' w0.heap.size a.r a.h a.s v z := g.rb.at_.same (fun k hk => ht.block k (g.rb.lt k hk) (fun e => g.dis k hk (by have : k = a.q := e; rw [this]; exact hq)))
  refine ⟨⟨⟨hrb, g.below.trans (ht.below _ g.below.size (fun k hk => by have : k = a.q := hk; rw [this]; exact g.lo _ (.inr (.inl hq)))), g.rb.shp⟩, hs, g.rat.turn ht (g.rat.ne g.sat), ?_, fun k hk hs2 => ?_, g.dig⟩, ht2⟩
  · intro k hk
    rcases ht2.foot k hk with x | x
    · exact g.lo k x
    · have := g.below.size; omega
  · rcases hsf k hs2 with x | x
    · exact g.dis k hk x
    · have := g.rb.lt k hk; omega
/-- The receiver acts. -/
theorem Tri.receiver (g : Tri w0 w a v u z told pk heard) {n : Nat} (hs : RAt w' a.g n) (ht : Turn (One a.g) (One a.g) w w') : Tri w0 w' a v u z told pk n ∧ Turn (UF a v u) (UF a v u) w w' := by
  have ht2 : Turn (UF a v u) (UF a v u) w w' := ⟨ht.os, ht.tape, ht.output, ht.size, fun k h1 h2 => ht.block k h1 (fun e => h2 (.inr (.inr e))), fun k hk => .inl hk⟩
  have hrb : RbAt w' w0.heap.size a.r a.h a.s v z := g.rb.at_.same (fun k hk => ht.block k (g.rb.lt k hk) (fun e => g.dig k hk e))
  exact ⟨⟨⟨hrb, g.below.trans (ht.below _ g.below.size (fun k hk => g.lo k (.inr (.inr hk)))), g.rb.shp⟩, g.sat.turn ht (g.rat.free g.sat), hs, g.lo, g.dis, g.dig⟩, ht2⟩
/-- A robot, a sender and a receiver, all new, one behind the other. -/
theorem Tri.new {r h s q b : Nat} (g : Rs w0 w r h s v z) (hs : SAt w' q u told pk) (hr : RAt w' b heard) (hb : Below w.heap.size w w') (hq : w.heap.size ≤ q) (hg : w.heap.size ≤ b) (hu : u = .slice none 0 0) : Tri w0 w' ⟨r, h, s, q, b⟩ v u z told pk heard := by
  subst hu
  have hB := g.below.size
  refine ⟨g.later hb, hs, hr, ?_, fun k hk hx => ?_, fun k hk e => ?_⟩
  · rintro k (e | e | e)
    · exact g.at_.lo k e
    · rcases e with e | e
      · have e2 : k = q := e
        omega
      · cases e
    · have e2 : k = b := e
      omega
  · have := g.lt k hk
    rcases hx with e | e
    · have e2 : k = q := e
      omega
    · cases e
  · have := g.lt k hk
    have e2 : k = b := e
    omega
end
/-- Bytes in blocks that are none of those. -/
structure Pb (F : Nat → Prop) (w : World) (A : Option Addr) (n c : Nat) (zs : List Nat) : Prop where
  by_ : By w.heap.size w A n c zs
  ap : ∀ a, A = some a → ¬ F a.block ∧ a.block < w.heap.size
section
variable {F F' : Nat → Prop} {w w' : World} {A : Option Addr} {n c : Nat} {zs : List Nat}
theorem Pb.later (h : Pb F w A n c zs) (hb : Below w.heap.size w w') : Pb F w' A n c zs := ⟨Ln.by_later h.by_ hb, fun a ha => ⟨(h.ap a ha).1, Nat.lt_of_lt_of_le (h.ap a ha).2 hb.size⟩⟩
theorem Pb.turn (h : Pb F w A n c zs) (ht : Turn F F' w w') : Pb F' w' A n c zs := ⟨by_turn h.by_ ht (fun a ha => (h.ap a ha).1), fun a ha => ⟨fun e => by
  rcases ht.foot _ e with x | x
  · exact (h.ap a ha).1 x
  · have := (h.ap a ha).2; omega, Nat.lt_of_lt_of_le (h.ap a ha).2 ht.size⟩⟩
/-- Bytes that are new. -/
theorem Pb.new {w2 : World} (hy : By w.heap.size w A n c zs) (hn : 0 < n) (hF : ∀ k, F k → k < w2.heap.size) (hf : ∀ a, A = some a → w2.heap.size ≤ a.block) : Pb F w A n c zs :=
  ⟨hy, fun a ha => ⟨fun e => by have := hF _ e; have := hf a ha; omega, by
    obtain ⟨g, off, hA, hg, _⟩ := hy.cell hn
    rw [ha] at hA
    injection hA with hA
    subst hA
    exact hg⟩⟩
end
section
variable {w0 w w' : World} {a : Tb} {v u v' u' : Value} {z : R} {told : Nat} {pk : List Nat} {heard : Nat}
/-- A block of another make is none of theirs: it stays. -/
theorem Tri.keep (g : Tri w0 w a v u z told pk heard) {b : Nat} {c : Array Value} {t : TypeId} {fz : Nat × Nat} (hb : w.heap[b]? = some (.cells c t fz)) (h1 : t ≠ 85) (h2 : t ≠ 104) (h3 : t ≠ 102) (h4 : t ≠ 5) {F' : Nat → Prop} (ht : Turn (UF a v u) F' w w') : w'.heap[b]? = some (.cells c t fz) := by
  refine (ht.block b (lt_of_heap hb) ?_).trans hb
  rintro (e | e | e)
  · exact g.rb.at_.apart hb h1 h2 h3 h4 e
  · exact g.sat.apart hb h3 h4 e
  · have := g.rat.box
    rw [← e, hb] at this
    injection this with this
    injection this with _ this _
    exact h2 this
end
/-- What was heard already comes again. -/
theorem hearR_old {z : R} {n : Nat} {d : List Nat} (hz : z.heard = n) (h0 : n ≠ 0) (hok : Ok false n d) : HearR z (play false n d) z (play true n []) := by
  subst hz
  exact ⟨[], false, z.heard, .inr (.inl ⟨z.heard, d, is_play hok, rans_same (by have := hok.num; omega) h0, Nat.le_refl _, rfl, rfl, rfl, rfl⟩), .inr ⟨.inl rfl, rfl⟩⟩
section
variable {w0 w : World} {r h s : Nat} {v : Value} {z : R}
theorem rb_packet_yes (g : Rs w0 w r h s v z) {pk : List Nat} (hp : z.pk = pk) (hn : pk ≠ []) : Calls Tryd.prog 24 #[.pointer (some ⟨r, 0, none⟩)] w fun e w' => ∃ A c, e = .returned (.tuple #[.slice A pk.length c, .bool true]) ∧ (By w'.heap.size w' A pk.length c pk ∧ ∀ a, A = some a → w.heap.size ≤ a.block) ∧ Below w.heap.size w w' := by
  subst hp
  refine (packet_any g.at_).mono ?_
  rintro e w' ⟨A, c, he, ho, hb⟩
  rw [decide_eq_true hn] at he
  exact ⟨A, c, he, ⟨By.own ho g.at_.sat.byte, fun a ha => by
    subst ha
    obtain ⟨g', c3, e3⟩ := shape_of ho (List.length_pos_iff.2 hn)
    injection e3 with e3
    injection e3 with e3
    subst e3
    exact (row_kind ho g' rfl).2.1⟩, hb⟩
theorem rb_packet_no (g : Rs w0 w r h s v z) (hp : z.pk = []) : Calls Tryd.prog 24 #[.pointer (some ⟨r, 0, none⟩)] w fun e w' => ∃ A c, e = .returned (.tuple #[.slice A 0 c, .bool false]) ∧ Below w.heap.size w w' := by
  refine (packet_any g.at_).mono ?_
  rintro e w' ⟨A, c, he, ho, hb⟩
  rw [hp] at he
  exact ⟨A, c, he, hb⟩
/-- It comes again: nothing changes. -/
theorem Rs.again (g : Rs w0 w r h s v z) {A : Option Addr} {m c n : Nat} {d : List Nat} (ht : z.told + 2 < 18446744073709551616) (hz : z.heard = n) (h0 : n ≠ 0) (hok : Ok false n d) (hd : By w.heap.size w A m c (play false n d)) : Calls Tryd.prog 21 #[.pointer (some ⟨r, 0, none⟩), .slice A m c] w (NTo w0 w r h s v z (play true n [])) := by
  refine (g.hear ht hd).mono ?_
  rintro e w' ⟨bb, z', A', c', rfl, hy, hr, v', hg, htt⟩
  obtain ⟨rfl, rfl⟩ := hr.uniq (hearR_old hz h0 hok)
  exact ⟨A', c', rfl, hy, v', hg, htt⟩
end
end Rb
end Go.Proofs.YtobpinelhjpfgaaDoor
