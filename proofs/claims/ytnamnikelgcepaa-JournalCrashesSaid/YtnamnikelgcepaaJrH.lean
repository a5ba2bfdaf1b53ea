/-
  Layer 16: acts in a row of one's own; a journal that goes on, whatever happens to its power.
-/
import Derived.Test.YtnamnikelgcepaaJrG
import Derived.Test.YtnamnikelgcepaaJrN
set_option linter.unusedVariables false
set_option maxRecDepth 100000
namespace Go.Proofs.Ytnamnikelgcepaa
namespace Jr
open Go.RowKit Go.Maps Bp Ck
open Dk (D DAt DF op kp pwE apE apD syD cuE cuD IW crN crD ctD)

/-- An act as it lies: its kind, its slice, its place. -/
abbrev Ac := Nat × Value × Int
def tc (q : List Ac) : List Value := q.flatMap fun p => [Value.int .u8 (p.1 : Int), p.2.1, Value.int .i64 p.2.2]
theorem tc_len (q : List Ac) : (tc q).length = q.length * 3 := by
  induction q with
  | nil => rfl
  | cons p q ih =>
    have e : tc (p :: q) = [Value.int .u8 (p.1 : Int), p.2.1, Value.int .i64 p.2.2] ++ tc q := rfl
    rw [e, List.length_append, ih]
    simp
    omega
theorem tc_app (p q : List Ac) : tc (p ++ q) = tc p ++ tc q := by simp [tc]
theorem tc_get : ∀ (q : List Ac) (t : Nat) (a : Ac), q[t]? = some a → (tc q)[t * 3]? = some (.int .u8 (a.1 : Int)) ∧ (tc q)[t * 3 + 1]? = some a.2.1 ∧ (tc q)[t * 3 + 2]? = some (.int .i64 a.2.2)
  | [], t, a, h => by simp at h
  | p :: q, 0, a, h => by
    simp at h
    subst h
    exact ⟨rfl, rfl, rfl⟩
  | p :: q, t + 1, a, h => by
    have ih := tc_get q t a (by simpa using h)
    have e : tc (p :: q) = [Value.int .u8 (p.1 : Int), p.2.1, Value.int .i64 p.2.2] ++ tc q := rfl
    have e1 : (t + 1) * 3 = t * 3 + 3 := by omega
    have l3 : ([Value.int .u8 (p.1 : Int), p.2.1, Value.int .i64 p.2.2] : List Value).length = 3 := rfl
    rw [e, e1]
    refine ⟨?_, ?_, ?_⟩
    · rw [List.getElem?_append_right (by rw [l3]; omega), l3]; exact ih.1
    · rw [List.getElem?_append_right (by rw [l3]; omega), l3, show t * 3 + 3 + 1 - 3 = t * 3 + 1 by omega]; exact ih.2.1
    · rw [List.getElem?_append_right (by rw [l3]; omega), l3, show t * 3 + 3 + 2 - 3 = t * 3 + 2 by omega]; exact ih.2.2
theorem Try.infoAct16 : (Try.prog.info? 42).map (fun i => (i.zero, i.size, i.bytes)) = some (some (.agg #[.int .u8 0, .slice none 0 0, .int .i64 0]), 3, 40) := by kernel_rfl
/-- What is known of an act. -/
def AOk (w0 : World) (p : Ac) : Prop := p.1 ≤ 255 ∧ IW p.2.2 ∧ ∃ A n c zs, p.2.1 = .slice A n c ∧ By w0.heap.size w0 A n c zs
theorem tc_one {w0 : World} {q : List Ac} (h : ∀ p ∈ q, AOk w0 p) : ∀ u ∈ tc q, u.oneCell' = true := by
  intro u hu
  simp only [tc, List.mem_flatMap] at hu
  obtain ⟨p, hp, hu⟩ := hu
  obtain ⟨_, _, A, n, c, zs, e, _⟩ := h p hp
  simp [e] at hu
  rcases hu with rfl | rfl | rfl <;> rfl
/-- The acts that came in. -/
theorem acts_gt {B : Nat} {w : World} {A : Option Addr} {n cap m : Nat} {f : Nat → A16} (h : Acts16 B w A n cap f) (hm : m ≤ n) (hB : B = w.heap.size) : ∃ q : List Ac, q.length = m ∧ Bk.Gt 3 B w A m cap (tc q) ∧ ∀ p ∈ q, AOk w p := by
  rcases Nat.eq_zero_or_pos m with h0 | h0
  · subst h0
    exact ⟨[], rfl, ⟨rfl, Nat.zero_le _, h.max, h.nil, fun hn => by omega⟩, fun p hp => by simp at hp⟩
  · obtain ⟨g, off, hA, hg, hc⟩ := h.cell (by omega)
    have h5 : ∀ t, t < m → ∃ p : Ac, p.1 = (f t).1 ∧ p.2.2 = (f t).2.2 ∧ w.cell? ⟨g, off + t * 3, none⟩ = some (.int .u8 ((f t).1 : Int)) ∧ w.cell? ⟨g, off + t * 3 + 1, none⟩ = some p.2.1 ∧ w.cell? ⟨g, off + t * 3 + 2, none⟩ = some (.int .i64 (f t).2.2) ∧ AOk w p := fun t ht => by
      obtain ⟨k0, ⟨A1, n1, c1, k1, hy⟩, k2⟩ := hc t (by omega)
      obtain ⟨f1, f2⟩ := h.fits t (by omega)
      refine ⟨((f t).1, .slice A1 n1 c1, (f t).2.2), rfl, rfl, k0, k1, k2, f1, f2, A1, n1, c1, nums (f t).2.1, rfl, ?_⟩
      rw [← hB]
      exact yb_nums hy
    haveI : Inhabited Ac := ⟨(0, .slice none 0 0, 0)⟩
    obtain ⟨F, hF⟩ := chosen h5
    have hy : ∀ t, t < m → ((List.range m).map F)[t]? = some (F t) := fun t ht => by simp [ht]
    have hl : (tc ((List.range m).map F)).length = m * 3 := by rw [tc_len]; simp
    refine ⟨(List.range m).map F, by simp, ⟨hl, Nat.le_trans hm h.le, h.max, h.nil, fun _ => ⟨g, off, hA, hg, fun i hi => ?_⟩⟩, fun p hp => ?_⟩
    · obtain ⟨t, r, hr, rfl⟩ : ∃ t r, r < 3 ∧ i = t * 3 + r := ⟨i / 3, i % 3, Nat.mod_lt _ (by decide), by omega⟩
      have ht : t < m := by omega
      obtain ⟨e1, e2, k0, k1, k2, _⟩ := hF t ht
      obtain ⟨c0, c1, c2⟩ := tc_get _ t _ (hy t ht)
      rcases (by omega : r = 0 ∨ r = 1 ∨ r = 2) with rfl | rfl | rfl
      · rw [Nat.add_zero, c0, k0, e1]
      · rw [c1, ← Nat.add_assoc, k1]
      · rw [c2, ← Nat.add_assoc, k2, e2]
    · obtain ⟨t, ht, rfl⟩ := List.mem_map.1 hp
      exact (hF t (List.mem_range.1 ht)).2.2.2.2.2
/-- Acts are appended to acts of one's own. -/
theorem app_acts {w0 w : World} {ops : Array Oper} {rest : List Oper} {o : Oper} {a : Act} {Q : Exit → Act → World → Prop} (hgd : o.guard = none) (s x : Operand)
    (ho : o.op = .call { callee := .builtin .append, args := #[s, x], argTypes := #[23, 23] })
    (base : Nat) (v : Value) (n : Nat) (p : List Ac) (hs : a.eval s = v) (hown : w.ownsRow base 42 3 v n (tc p)) (A : Option Addr) (m c : Nat) (q : List Ac) (hx : a.eval x = .slice A m c) (hr : Bk.Gt 3 w.heap.size w A m c (tc q)) (hq : ∀ p ∈ q, AOk w0 p) (hb : n + m ≤ 1000000) (hbase : base ≤ w.heap.size)
    (h : ∀ A' c' w', w'.ownsRow base 42 3 (.slice A' (n + m) c') (n + m) (tc (p ++ q)) → Below base w w' → w.grownBy w' v.ownBlock → wpList Try.prog ops Q rest (a.put o.dst (.slice A' (n + m) c')) w') : wpList Try.prog ops Q (o :: rest) a w := by
  obtain ⟨i0, hi, hz0, hz1, hz2⟩ := info_parts Try.infoAct16
  refine Bk.appG 23 42 i0 _ 3 40 Try.underlying23 hi hz0 hz1 hz2 rfl (by decide) (by decide) hgd s x ho base v n (tc p) hs hown A m c (tc q) hx hr (tc_one hq) hb hbase ?_
  intro A' c' w' h1 h2 h3 h4
  rw [← tc_app] at h1
  exact h A' c' w' h1 h2 h3
/-- The two last acts, as a literal. -/
def two16 : List Ac := [(3, .slice none 0 0, 2), (3, .slice none 0 0, 0)]
theorem two_ok (w0 : World) : ∀ p ∈ two16, AOk w0 p := by
  intro p hp
  simp [two16] at hp
  rcases hp with rfl | rfl
  · exact ⟨by decide, by unfold IW; decide, none, 0, 0, [], rfl, By.none_ _ _⟩
  · exact ⟨by decide, by unfold IW; decide, none, 0, 0, [], rfl, By.none_ _ _⟩
theorem two_gt (w : World) : Bk.Gt 3 (w.alloc (.cells (tc two16).toArray 42)).heap.size (w.alloc (.cells (tc two16).toArray 42)) (some ⟨w.heap.size, 0, none⟩) 2 2 (tc two16) := by
  refine ⟨rfl, Nat.le_refl _, by unfold maxLen; omega, fun h => (by cases h), fun _ => ⟨w.heap.size, 0, rfl, by simp, fun j hj => ?_⟩⟩
  rw [World.cell?_alloc_new, Nat.zero_add]
  simp
/-- The acts of a row, in each later memory. -/
theorem acts_at {w0 wA : World} {base b j g n n2 c : Nat} {v : Value} {d : D} {A : Option Addr} {q : List Ac} (h : wA.ownsRow base 42 3 (.slice A n c) n (tc q)) (hl : q.length = n) (hn : 0 < n) (hok : ∀ p ∈ q, AOk w0 p) (hj : JAt wA b j g v d n2) :
    ∃ ga, A = some ⟨ga, 0, none⟩ ∧ n ≤ c ∧ c ≤ 9223372036854775807 ∧ ∀ (F' : Nat → Prop) (wr : World), Turn (JF j g v) F' wA wr → ∀ k, k < n → ∃ p : Ac, AOk w0 p ∧ wr.cell? ⟨ga, k * 3, none⟩ = some (.int .u8 (p.1 : Int)) ∧ wr.cell? ⟨ga, k * 3 + 1, none⟩ = some p.2.1 ∧ wr.cell? ⟨ga, k * 3 + 2, none⟩ = some (.int .i64 p.2.2) := by
  rcases h.2 with ⟨e, h0⟩ | ⟨ga, cap, cur, e, hg, hh, hnc, hcm, _⟩
  · omega
  · injection e with e1 e2 e3
    subst e1 e3
    unfold maxLen at hcm
    refine ⟨ga, rfl, hnc, by omega, fun F' wr ht k hk => ?_⟩
    have hnf : ¬ JF j g v ga := fun hf => by
      obtain ⟨c2, t2, fz2, hh2, ht2⟩ := hj.kind ga hf
      have := kind_ne hh hh2
      subst this
      revert ht2
      decide
    have hb := ht.block ga (lt_of_heap hh) hnf
    have hq : q[k]? = some q[k] := List.getElem?_eq_getElem (by omega)
    obtain ⟨c0, c1, c2⟩ := tc_get q k _ hq
    refine ⟨q[k], hok _ (List.getElem_mem _), ?_, ?_, ?_⟩
    · rw [Dk.cell_block hb, h.cellAt _ (by omega), c0]
    · rw [Dk.cell_block hb, h.cellAt _ (by omega), c1]
    · rw [Dk.cell_block hb, h.cellAt _ (by omega), c2]
/-! ### A journal that goes on -/
structure Js (w0 wA w : World) (F : Nat → Prop) (j g : Nat) (v : Value) (d : D) (ms : List (List Nat)) (s : Nat) : Prop where
  jo : Jo w0 w j g v d ms s
  tn : Turn F (JF j g v) wA w
theorem turn_new {F : Nat → Prop} {wA w w' : World} {j j' g : Nat} {v v' : Value} (h : Turn F (JF j g v) wA w) (ht : Turn (DF g v) (DF g v') w w') (hj : w.heap.size ≤ j') : Turn F (JF j' g v') wA w' :=
  ⟨ht.os.trans h.os, ht.tape.trans h.tape, ht.output.trans h.output, Nat.le_trans h.size ht.size, fun k hk hF => (ht.block k (Nat.lt_of_lt_of_le hk h.size) (fun e => by
    rcases h.foot k (.inr e) with z | z
    · exact hF z
    · omega)).trans (h.block k hk hF), fun k hk => by
    rcases hk with rfl | hk
    · exact .inr (Nat.le_trans h.size hj)
    · rcases ht.foot k hk with z | z
      · exact h.foot k (.inr z)
      · exact .inr (Nat.le_trans h.size z)⟩
section
variable {w0 wA w w' : World} {F : Nat → Prop} {j g s : Nat} {v : Value} {d : D} {ms : List (List Nat)}
theorem Js.later (h : Js w0 wA w F j g v d ms s) (hb : Below w.heap.size w w') : Js w0 wA w' F j g v d ms s := ⟨h.jo.later hb, turn_later h.tn hb⟩
theorem Js.grown {P : PS} {av : Value} {ls : List (List Nat)} (h : Js w0 wA w F j g v d ms s) (hl : Lq P w wA.heap.size av ls) (hg : w.grownBy w' av.ownBlock) (hb : w0.heap.size ≤ wA.heap.size) : Js w0 wA w' F j g v d ms s :=
  ⟨h.jo.grown2 hl hg hb, turn_row h.tn hg (fun k hk => (hl.kind k hk).2.1)⟩
theorem Js.note (h : Js w0 wA w F j g v d ms s) (hl : ms.length < 1000) (A : Option Addr) (m c : Nat) (zs : List Nat) (hy : By w.heap.size w A m c zs) :
    Calls Try.prog 17 #[.pointer (some ⟨j, 0, none⟩), .slice A m c] w fun e w' => ∃ v' d', Turn (JF j g v) (JF j g v') w w' ∧ ((e = .returned (.int .i64 0) ∧ Js w0 wA w' F j g v' d' (ms ++ [zs]) s) ∨ (e = .returned (.int .i64 4) ∧ 1000 < m ∧ Js w0 wA w' F j g v' d' ms s) ∨ (e = .returned (.int .i64 5) ∧ d'.dead = true ∧ Js w0 wA w' F j g v' d' ms s)) := by
  have hE := h.jo.hs.noE hl zs
  rw [hy.len] at hE
  refine (Note_any h.jo.at_ (by omega) A m c zs hy).mono ?_
  rintro e w' ⟨v', rfl, hj, ht⟩
  have hb := belowJ h.jo.at_ ht h.jo.below (Nat.le_refl _) (Nat.le_refl _)
  refine ⟨v', noD d zs, ht, ?_⟩
  by_cases hm : 1000 < m
  · rw [if_pos hm] at hE
    rw [hE, if_neg (by decide)] at hj
    exact .inr (.inl ⟨by rw [hE], hm, ⟨hj, h.jo.hs.noted (by rw [hE]; decide), hb⟩, h.tn.trans ht⟩)
  · rw [if_neg hm] at hE
    by_cases hd : (op d).dead = true
    · rw [if_pos hd] at hE
      rw [hE, if_neg (by decide)] at hj
      exact .inr (.inr ⟨by rw [hE], noD_dead hE, ⟨hj, h.jo.hs.noted (by rw [hE]; decide), hb⟩, h.tn.trans ht⟩)
    · rw [if_neg hd] at hE
      rw [hE, if_pos rfl] at hj
      exact .inl ⟨by rw [hE], ⟨by simpa using hj, h.jo.hs.note hy.byte hE, hb⟩, h.tn.trans ht⟩
theorem Js.sync (h : Js w0 wA w F j g v d ms s) :
    Calls Try.prog 19 #[.pointer (some ⟨j, 0, none⟩)] w fun e w' => ∃ v' d', Turn (JF j g v) (JF j g v') w w' ∧ ((e = .returned (.int .i64 0) ∧ Js w0 wA w' F j g v' d' ms ms.length) ∨ (e = .returned (.int .i64 5) ∧ Js w0 wA w' F j g v' d' ms s)) := by
  refine (Sync_any h.jo.at_).mono ?_
  rintro e w' ⟨v', rfl, hj, ht⟩
  have hb := belowJ h.jo.at_ ht h.jo.below (Nat.le_refl _) (Nat.le_refl _)
  refine ⟨v', syD d, ht, ?_⟩
  cases hd : (op d).dead with
  | true => exact .inr ⟨by rw [Dk.pw_dead hd], ⟨hj, h.jo.hs.synced hd, hb⟩, h.tn.trans ht⟩
  | false => exact .inl ⟨by rw [Dk.pw_on hd], ⟨hj, h.jo.hs.sync hd, hb⟩, h.tn.trans ht⟩
theorem Js.cut (h : Js w0 wA w F j g v d ms s) (x : Int) (hx : IW x) :
    Calls Try.prog 21 #[.pointer (some ⟨g, 0, none⟩), .int .i64 x] w fun e w' => ∃ v' d', e = .returned (.tuple #[]) ∧ Turn (JF j g v) (JF j g v') w w' ∧ Js w0 wA w' F j g v' d' ms s := by
  refine (Dk.Cut_any h.jo.at_.disk x hx).mono ?_
  rintro e w' ⟨v', rfl, hn, ht⟩
  have e1 : (ctD d x).s = d.s := by unfold ctD; split <;> rfl
  have e2 : (ctD d x).safe = d.safe := by unfold ctD; split <;> rfl
  exact ⟨v', _, rfl, widen ht, ⟨h.jo.at_.act hn ht, h.jo.hs.like e1 e2, belowD h.jo.at_.disk ht h.jo.below (Nat.le_refl _) (Nat.le_refl _)⟩, h.tn.trans (widen ht)⟩
theorem Js.dead (h : Js w0 wA w F j g v d ms s) (hd : d.dead = true) : Calls Try.prog 29 #[.pointer (some ⟨g, 0, none⟩)] w fun e w' => e = .returned (.bool true) ∧ w = w' := by
  have := Dk.Dead_any h.jo.at_.disk
  rwa [hd] at this
/-- A crash, and it is opened anew. -/
theorem Js.crash (h : Js w0 wA w F j g v d ms s) (x : Int) :
    ∃ i, s ≤ i ∧ i ≤ ms.length ∧ Calls Try.prog 23 #[.pointer (some ⟨g, 0, none⟩), .int .i64 x] w fun e w1 => ∃ v1, e = .returned (.tuple #[]) ∧ DAt w1 w0.heap.size g v1 (crD d x) ∧ Turn (DF g v) (DF g v1) w w1 ∧ Calls Try.prog 13 #[.pointer (some ⟨g, 0, none⟩)] w1 fun e w' => ∃ j' A c v' d', e = .returned (.tuple #[.pointer (some ⟨j', 0, none⟩), .slice A i c, .int .i64 0]) ∧ Js w0 wA w' F j' g v' d' (ms.take i) i ∧ Bss w'.heap.size w' A i c (ms.take i) ∧ Turn (DF g v1) (DF g v') w1 w' := by
  obtain ⟨i, i1, i2, hO⟩ := h.jo.crashed x
  refine ⟨i, i1, i2, ?_⟩
  refine (Dk.Crash_any h.jo.at_.disk x).mono ?_
  rintro e w1 ⟨v1, rfl, hn, ht⟩
  refine ⟨v1, rfl, hn, ht, ?_⟩
  refine (hO w1 v1 hn (belowD h.jo.at_.disk ht h.jo.below (Nat.le_refl _) (Nat.le_refl _))).mono ?_
  rintro e w' ⟨j', A, c, v', d', rfl, hj, _, hl, ht2, hjn⟩
  exact ⟨j', A, c, v', d', rfl, ⟨hj, turn_new h.tn (ht.trans ht2) (Nat.le_trans ht.size hjn)⟩, hl, ht2⟩
theorem Js.len (h : Js w0 wA w F j g v d ms s) : Calls Try.prog 27 #[.pointer (some ⟨j, 0, none⟩)] w fun e w' => e = .returned (.int .i64 (ms.length : Int)) ∧ w = w' := h.jo.len
end
/-- An act's box. -/
theorem box_turn {w w' : World} {b j g n bx : Nat} {v : Value} {d : D} {cs : Array Value} {F' : Nat → Prop} (hx : w.heap[bx]? = some (.cells cs 42 (0, 0))) (hj : JAt w b j g v d n) (ht : Turn (JF j g v) F' w w') : w'.heap[bx]? = some (.cells cs 42 (0, 0)) :=
  (ht.block bx (lt_of_heap hx) (fun hf => by
    obtain ⟨c2, t2, fz2, hh2, ht2⟩ := hj.kind bx hf
    have := kind_ne hx hh2
    subst this
    revert ht2
    decide)).trans hx
theorem box_cells {w : World} {bx : Nat} {x : Int} {A : Option Addr} {n c : Nat} {i : Int} (hx : w.heap[bx]? = some (.cells #[.int .u8 x, .slice A n c, .int .i64 i] 42 (0, 0))) : w.cell? ⟨bx, 0, none⟩ = some (.int .u8 x) ∧ w.cell? ⟨bx, 1, none⟩ = some (.slice A n c) ∧ w.cell? ⟨bx, 2, none⟩ = some (.int .i64 i) :=
  ⟨by rw [cell_of_row _ bx 0 _ _ _ hx]; rfl, by rw [cell_of_row _ bx 1 _ _ _ hx]; rfl, by rw [cell_of_row _ bx 2 _ _ _ hx]; rfl⟩
end Jr
end Go.Proofs.Ytnamnikelgcepaa
