/-
  Layer 18: the program's robot and the document's in one memory; bytes that stay beside them.
-/
import Derived.Test.YtobpinelhjpfgaaDoorRbJ
import Derived.Test.YtobpinelhjpfgaaDoorRbG
set_option linter.unusedVariables false
set_option maxRecDepth 100000
namespace Go.Proofs.YtobpinelhjpfgaaDoor
namespace Rb
open Go.RowKit Bp Ck Ln
open Rc (Aok Shp TakeATold act_uniq)
/-- Their blocks. -/
def PF (r h s q : Nat) (v : Value) : Nat → Prop := fun k => RbF r h s v k ∨ k = q
/-- The program's robot, and the document's at block q. -/
structure Pl (w0 w : World) (r h s q : Nat) (v : Value) (z y : R) : Prop where
  rb : Rs w0 w r h s v z
  da : DAt w q y
  lo : w0.heap.size ≤ q
  dq : ∀ k, RbF r h s v k → k ≠ q
section
variable {w0 w w' : World} {r h s q : Nat} {v v' : Value} {z y z' y' : R}
theorem Pl.lt (g : Pl w0 w r h s q v z y) : ∀ k, PF r h s q v k → k < w.heap.size := by
  rintro k (e | e)
  · exact g.rb.lt k e
  · rw [e]; exact lt_of_heap g.da.box
theorem Pl.later (g : Pl w0 w r h s q v z y) (hb : Below w.heap.size w w') : Pl w0 w' r h s q v z y := ⟨g.rb.later hb, g.da.later hb, g.lo, g.dq⟩
/-- The program's robot acts. -/
theorem Pl.robot (g : Pl w0 w r h s q v z y) (hr : Rs w0 w' r h s v' z') (ht : Turn (RbF r h s v) (RbF r h s v') w w') : Pl w0 w' r h s q v' z' y ∧ Turn (PF r h s q v) (PF r h s q v') w w' := by
  have hq := lt_of_heap g.da.box
  refine ⟨⟨hr, g.da.turn ht (fun e => g.dq _ e rfl), g.lo, fun k hk e => ?_⟩, ⟨ht.os, ht.tape, ht.output, ht.size, fun k h1 h2 => ht.block k h1 (fun e => h2 (.inl e)), ?_⟩⟩
  · rcases ht.foot k hk with x | x
    · exact g.dq k x e
    · omega
  · rintro k (e | e)
    · exact (ht.foot k e).imp .inl id
    · exact .inl (.inr e)
/-- The document's acts. -/
theorem Pl.doc (g : Pl w0 w r h s q v z y) (hd : DAt w' q y') (ht : Turn (One q) (One q) w w') : Pl w0 w' r h s q v z y' ∧ Turn (PF r h s q v) (PF r h s q v) w w' := by
  refine ⟨⟨⟨g.rb.at_.same (fun k hk => ht.block k (g.rb.lt k hk) (fun e => g.dq k hk e)), g.rb.below.trans (ht.below _ g.rb.below.size (fun k hk => by have e : k = q := hk; rw [e]; exact g.lo)), g.rb.shp⟩, hd, g.lo, g.dq⟩, ⟨ht.os, ht.tape, ht.output, ht.size, fun k h1 h2 => ht.block k h1 (fun e => h2 (.inr e)), fun k hk => .inl hk⟩⟩
/-- A block of another make stays. -/
theorem Pl.keep (g : Pl w0 w r h s q v z y) {b : Nat} {c : Array Value} {fz : Nat × Nat} (hb : w.heap[b]? = some (.cells c 37 fz)) {F' : Nat → Prop} (ht : Turn (PF r h s q v) F' w w') : w'.heap[b]? = some (.cells c 37 fz) := by
  refine (ht.block b (lt_of_heap hb) ?_).trans hb
  rintro (e | e)
  · exact g.rb.at_.apart hb (by decide) (by decide) (by decide) (by decide) e
  · have := g.da.box
    rw [← e, hb] at this
    injection this with this
    injection this with _ this _
    revert this
    decide
end
/-- Bytes in blocks that are none of those. -/
structure Pc (F : Nat → Prop) (w : World) (A : Option Addr) (n c : Nat) (zs : List Nat) : Prop where
  by_ : By w.heap.size w A n c zs
  ap : 0 < n → ∀ a, A = some a → ¬ F a.block ∧ a.block < w.heap.size
section
variable {F F' : Nat → Prop} {w w' : World} {A : Option Addr} {n c : Nat} {zs : List Nat}
theorem Pc.later (h : Pc F w A n c zs) (hb : Below w.heap.size w w') : Pc F w' A n c zs := ⟨Ln.by_later h.by_ hb, fun hn a ha => ⟨(h.ap hn a ha).1, Nat.lt_of_lt_of_le (h.ap hn a ha).2 hb.size⟩⟩
theorem Pc.turn (h : Pc F w A n c zs) (ht : Turn F F' w w') : Pc F' w' A n c zs := ⟨by_turn2 h.by_ ht (fun hn a ha => (h.ap hn a ha).1), fun hn a ha => ⟨fun e => by
  rcases ht.foot _ e with x | x
  · exact (h.ap hn a ha).1 x
  · have := (h.ap hn a ha).2; omega, Nat.lt_of_lt_of_le (h.ap hn a ha).2 ht.size⟩⟩
/-- Bytes that are new. -/
theorem Pc.new {B : Nat} (hy : By w.heap.size w A n c zs) (hF : ∀ k, F k → k < B) (hf : ∀ a, A = some a → B ≤ a.block) : Pc F w A n c zs :=
  ⟨hy, fun hn a ha => ⟨fun e => by have := hF _ e; have := hf a ha; omega, by
    obtain ⟨g, off, hA, hg, _⟩ := hy.cell hn
    rw [ha] at hA
    injection hA with hA
    subst hA
    exact hg⟩⟩
/-- Bytes that were there ahead of all. -/
theorem Pc.old {B : Nat} (hy : By B w A n c zs) (hB : B ≤ w.heap.size) (hF : ∀ k, F k → B ≤ k) : Pc F w A n c zs :=
  ⟨hy.mono hB, fun hn a ha => by
    obtain ⟨g, off, hA, hg, _⟩ := hy.cell hn
    rw [ha] at hA
    injection hA with hA
    subst hA
    exact ⟨fun e => by have h1 : B ≤ g := hF _ e; omega, Nat.lt_of_lt_of_le hg hB⟩⟩
end
/-- What lies there ahead of the law's switch: both robots, the act's box, the bytes that come. -/
def PB (w0 w : World) (r h s q : Nat) (v : Value) (z : R) (bx : Nat) (bc : Array Value) (A : Option Addr) (n c : Nat) (bs : List Nat) : Prop := Pl w0 w r h s q v z z ∧ w.heap[bx]? = some (.cells bc 37 (0, 0)) ∧ Pc (PF r h s q v) w A n c bs
theorem PB.later {w0 w w' : World} {r h s q : Nat} {v : Value} {z : R} {bx : Nat} {bc : Array Value} {A : Option Addr} {n c : Nat} {bs : List Nat} (g : PB w0 w r h s q v z bx bc A n c bs) (hb : Below w.heap.size w w') : PB w0 w' r h s q v z bx bc A n c bs :=
  ⟨g.1.later hb, (hb.block bx (lt_of_heap g.2.1)).trans g.2.1, g.2.2.later hb⟩
theorem PB.other {w0 w w' : World} {r h s q : Nat} {v : Value} {z : R} {bx : Nat} {bc : Array Value} {A A' : Option Addr} {n c n' c' : Nat} {bs bs' : List Nat} (g : PB w0 w r h s q v z bx bc A n c bs) (hb : Below w.heap.size w w') (hy : By w'.heap.size w' A' n' c' bs') (hf : ∀ a, A' = some a → w.heap.size ≤ a.block) : PB w0 w' r h s q v z bx bc A' n' c' bs' :=
  ⟨g.1.later hb, (hb.block bx (lt_of_heap g.2.1)).trans g.2.1, Pc.new hy g.1.lt hf⟩
theorem own_new {w : World} {base : Nat} {A : Option Addr} {n c : Nat} {zs : List Nat} (ho : w.ownsRow base 5 1 (.slice A n c) n (bc zs)) : ∀ a, A = some a → base ≤ a.block := by
  intro a ha
  subst ha
  rcases ho.2 with ⟨e, _⟩ | ⟨g, c2, cur, e, hg, _⟩
  · injection e with e; cases e
  · injection e with e
    injection e with e
    subst e
    exact hg
theorem packet_new (n k : Nat) (hn : n < 18446744073709551616) (c p : Int) (w : World) : Calls Tryd.prog 13 #[.int .u64 (n : Int), .agg #[.int .u8 (k : Int), .int .i64 c, .int .i64 p]] w fun e w' => ∃ A cp, e = .returned (.slice A (pkB n k c p).length cp) ∧ (By w'.heap.size w' A (pkB n k c p).length cp (pkB n k c p) ∧ ∀ a, A = some a → w.heap.size ≤ a.block) ∧ Below w.heap.size w w' := by
  have hal := Rc.below_new w (.cells #[.int .u8 (k : Int), .int .i64 c, .int .i64 p] 33)
  have hal0 := heap_alloc_new w (.cells #[.int .u8 (k : Int), .int .i64 c, .int .i64 p] 33)
  have a0 := cell_of_row _ w.heap.size 0 _ _ _ hal0
  have a1 := cell_of_row _ w.heap.size 1 _ _ _ hal0
  have a2 := cell_of_row _ w.heap.size 2 _ _ _ hal0
  have HAL := Lib.hid hal
  have HPB := Lib.hid (lyZ_byte (h := false) hn (pkD_byte k c p))
  by_cases hok : Aok k c p
  · have HL := Lib.hid (Rc.rlayAct_ok k c p (w.alloc (.cells #[.int .u8 (k : Int), .int .i64 c, .int .i64 p] 33)) hok)
    have e1 : pkD k c p = actB k c p := by unfold pkD; rw [if_pos hok]
    unfold pkB
    rw [e1] at HPB ⊢
    clear hal hal0 hok e1
    go_enter Tryd.func13, Tryd.ntmps13
    go_wp2_with fail
    generalize w.alloc (.cells #[.int .u8 (k : Int), .int .i64 c, .int .i64 p] 33) = w1 at *
    refine HL.out.mono ?_
    intro e w2 hx
    obtain ⟨A1, c1, rfl, hy1, hb1⟩ := hx.own (pack_byte _)
    have HRL := Lib.hid (rlay_any (w := w2) (h := false) (n := n) hn hy1 (Nat.le_refl _))
    have HB1 := Lib.hid (HAL.out.trans (hb1.mono HAL.out.size))
    clear hx hy1 hb1 HL a0 a1 a2
    go_wp2_with fail
    refine HRL.out.mono ?_
    rintro e w3 ⟨A3, c3, rfl, ho3, hb3⟩
    have HO3 := Lib.hid (By.own ho3 HPB.out)
    have HF3 := Lib.hid (own_new ho3)
    have HB3 := Lib.hid (HB1.out.trans (hb3.mono HB1.out.size))
    clear ho3 hb3 HRL
    go_wp2_with fail
    go_ret
    exact ⟨A3, c3, rfl, ⟨HO3.out, fun a ha => Nat.le_trans HB1.out.size (HF3.out a ha)⟩, HB3.out⟩
  · have HL := Lib.hid (Rc.rlayAct_no k c p (w.alloc (.cells #[.int .u8 (k : Int), .int .i64 c, .int .i64 p] 33)) hok)
    have e1 : pkD k c p = [] := by unfold pkD; rw [if_neg hok]
    unfold pkB
    rw [e1] at HPB ⊢
    clear hal hal0 hok e1
    go_enter Tryd.func13, Tryd.ntmps13
    go_wp2_with fail
    generalize w.alloc (.cells #[.int .u8 (k : Int), .int .i64 c, .int .i64 p] 33) = w1 at *
    refine HL.out.mono ?_
    rintro e w2 ⟨rfl, hb1⟩
    have HRL := Lib.hid (rlay_any (w := w2) (h := false) (n := n) hn (By.none_ 0 w2) (Nat.zero_le _))
    have HB1 := Lib.hid (HAL.out.trans (hb1.mono HAL.out.size))
    clear hb1 HL a0 a1 a2
    go_wp2_with fail
    refine HRL.out.mono ?_
    rintro e w3 ⟨A3, c3, rfl, ho3, hb3⟩
    have HO3 := Lib.hid (By.own ho3 HPB.out)
    have HF3 := Lib.hid (own_new ho3)
    have HB3 := Lib.hid (HB1.out.trans (hb3.mono HB1.out.size))
    clear ho3 hb3 HRL
    go_wp2_with fail
    go_ret
    exact ⟨A3, c3, rfl, ⟨HO3.out, fun a ha => Nat.le_trans HB1.out.size (HF3.out a ha)⟩, HB3.out⟩
theorem rlay_heardn {w : World} {n : Nat} (hn : n + 1 < 18446744073709551616) : Calls Tryd.prog 16 #[.agg #[.bool true, .int .u64 (n : Int), .slice none 0 0]] w fun e w' => ∃ A c, e = .returned (.tuple #[.slice A (play true n []).length c, .int .i64 0]) ∧ (By w'.heap.size w' A (play true n []).length c (play true n []) ∧ ∀ a, A = some a → w.heap.size ≤ a.block) ∧ Below w.heap.size w w' := by
  have q := rlay_any (w := w) (h := true) (n := n) (by omega) (By.none_ 0 w) (Nat.zero_le _)
  obtain ⟨e1, e2⟩ := ok_ly (ok_heard hn)
  rw [e1, e2] at q
  refine q.mono ?_
  rintro e w' ⟨A, c, rfl, ho, hb⟩
  exact ⟨A, c, rfl, ⟨By.own ho (ok_heard hn).play_byte, own_new ho⟩, hb⟩
end Rb
end Go.Proofs.YtobpinelhjpfgaaDoor
