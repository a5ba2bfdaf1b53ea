/-
  TopNoted: records of one's own beside a journal; what is noted, made safe, and found behind a crash.
-/
import Derived.Test.YtejldeecblppjaaDoorRcI
import Derived.Test.YtejldeecblppjaaDoorJrF
set_option linter.unusedVariables false
set_option maxRecDepth 100000
namespace Go.Proofs.YtejldeecblppjaaDoor
namespace Tn
open Go.RowKit Go.Maps Bp Ck
open Dk (D DAt DF op kp pwE apE apD syD cuE cuD IW crN crD ctD)
open Jr (JAt JF Jo Hs)

/-- A record's fields. -/
abbrev Rq := Nat × Int × Int × Int × Int × Int
def rcl (x : Rq) : List Value := [.int .u8 (x.1 : Int), .int .i64 x.2.1, .int .i64 x.2.2.1, .int .i64 x.2.2.2.1, .int .i64 x.2.2.2.2.1, .int .i64 x.2.2.2.2.2]
def rcs (q : List Rq) : List Value := q.flatMap rcl
def rok (x : Rq) : Prop := Rc.Rok x.1 (Rc.five x.2.1 x.2.2.1 x.2.2.2.1 x.2.2.2.2.1 x.2.2.2.2.2)
instance (x : Rq) : Decidable (rok x) := by unfold rok; exact inferInstance
/-- Its bytes. -/
def byt (x : Rq) : List Nat := pack (Rc.kb 3 x.1 (Rc.fl x.1) (Rc.natN (Rc.five x.2.1 x.2.2.1 x.2.2.2.1 x.2.2.2.2.1 x.2.2.2.2.2)))
theorem byt_len {x : Rq} (h : rok x) : (byt x).length ≤ 24 := (Rc.rec_len h).2
theorem rcs_len (q : List Rq) : (rcs q).length = q.length * 6 := by
  induction q with
  | nil => rfl
  | cons p q ih =>
    have e : rcs (p :: q) = rcl p ++ rcs q := rfl
    rw [e, List.length_append, ih]
    simp [rcl]
    omega
theorem rcs_app (p q : List Rq) : rcs (p ++ q) = rcs p ++ rcs q := by simp [rcs]
theorem rcs_get : ∀ (q : List Rq) (t : Nat) (a : Rq), q[t]? = some a → ∀ j, j < 6 → (rcs q)[t * 6 + j]? = (rcl a)[j]?
  | [], t, a, h, j, hj => by simp at h
  | p :: q, 0, a, h, j, hj => by
    simp at h
    subst h
    have e : rcs (p :: q) = rcl p ++ rcs q := rfl
    rw [e, Nat.zero_mul, Nat.zero_add, List.getElem?_append_left (by simpa [rcl] using hj)]
  | p :: q, t + 1, a, h, j, hj => by
    have ih := rcs_get q t a (by simpa using h) j hj
    have e : rcs (p :: q) = rcl p ++ rcs q := rfl
    have l6 : (rcl p).length = 6 := rfl
    rw [e, List.getElem?_append_right (by rw [l6]; omega), l6, show (t + 1) * 6 + j - 6 = t * 6 + j by omega]
    exact ih
theorem rcl_one (x : Rq) : ∀ u ∈ rcl x, u.oneCell' = true := by
  intro u hu
  simp [rcl] at hu
  rcases hu with rfl | rfl | rfl | rfl | rfl | rfl <;> rfl
theorem Tryd.infoRec : (Tryd.prog.info? 23).map (fun i => (i.zero, i.size, i.bytes)) = some (some (.agg #[.int .u8 0, .int .i64 0, .int .i64 0, .int .i64 0, .int .i64 0, .int .i64 0]), 6, 48) := by kernel_rfl
/-- Records in a row of one's own. -/
def Rw (w : World) (base : Nat) (v : Value) (q : List Rq) : Prop := w.ownsRow base 23 6 v q.length (rcs q)
/-- Boxes of notes stay. -/
def Kb (w w' : World) : Prop := ∀ (bx : Nat) (cs : Array Value) (fz : Nat × Nat), w.heap[bx]? = some (.cells cs 51 fz) → w'.heap[bx]? = some (.cells cs 51 fz)
section
variable {w w' w0 : World} {base b j g n s : Nat} {v v' va : Value} {d d' : D} {Q : List Rq} {ms : List (List Nat)}
theorem kind_ne {w : World} {k : Nat} {c c' : Array Value} {t t' : TypeId} {fz fz' : Nat × Nat} (h : w.heap[k]? = some (.cells c t fz)) (h' : w.heap[k]? = some (.cells c' t' fz')) : t = t' := by
  have := h.symm.trans h'
  injection this with this
  injection this
theorem Rw.kind (h : Rw w base va Q) : ∀ k, va.ownBlock = some k → k < w.heap.size ∧ base ≤ k ∧ ∃ c fz, w.heap[k]? = some (.cells c 23 fz) := Nw.own_kind h
theorem Rw.same (h : Rw w base va Q) (hb : ∀ k, va.ownBlock = some k → w'.heap[k]? = w.heap[k]?) : Rw w' base va Q := ownsRow_same h hb
theorem Rw.later (h : Rw w base va Q) (hb : Below w.heap.size w w') : Rw w' base va Q := h.same fun k hk => hb.block k (h.kind k hk).1
theorem Rw.notJ (h : Rw w base va Q) (hj : JAt w b j g v d n) : ∀ k, va.ownBlock = some k → ¬ JF j g v k := by
  intro k hk hf
  obtain ⟨_, _, c, fz, hh⟩ := h.kind k hk
  obtain ⟨c2, t2, fz2, hh2, ht⟩ := hj.kind k hf
  have := kind_ne hh hh2
  subst this
  revert ht
  decide
theorem Rw.turn {F' : Nat → Prop} (h : Rw w base va Q) (hj : JAt w b j g v d n) (ht : Turn (JF j g v) F' w w') : Rw w' base va Q :=
  h.same fun k hk => ht.block k (h.kind k hk).1 (h.notJ hj k hk)
theorem Rw.turnD {F' : Nat → Prop} (h : Rw w base va Q) (hn : DAt w b g v d) (ht : Turn (DF g v) F' w w') : Rw w' base va Q :=
  h.same fun k hk => ht.block k (h.kind k hk).1 (fun hf => by
    obtain ⟨_, _, c, fz, hh⟩ := h.kind k hk
    obtain ⟨c2, t2, fz2, hh2, ht2⟩ := hn.kind k hf
    have := kind_ne hh hh2
    subst this
    revert ht2
    decide)
theorem Rw.form (h : Rw w base va Q) : ∃ A c, va = .slice A Q.length c := ownsRow_shape h
theorem jo_grown (h : Jo w0 w j g v d ms s) (hl : Rw w base va Q) (hg : w.grownBy w' va.ownBlock) (hb : w0.heap.size ≤ base) : Jo w0 w' j g v d ms s :=
  ⟨h.at_.same (fun k hk => hg.block k (h.at_.blocks k hk).2 (fun e => hl.notJ h.at_ k e.symm hk)), h.hs,
    Below.grown h.below hg h.below.size (fun k hk => Nat.le_trans hb (hl.kind k hk).2.1)⟩
theorem kb_later (hb : Below w.heap.size w w') : Kb w w' := fun bx cs fz h => (hb.block bx (lt_of_heap h)).trans h
theorem kb_turn {F' : Nat → Prop} (hj : JAt w b j g v d n) (ht : Turn (JF j g v) F' w w') : Kb w w' := fun bx cs fz h => (ht.block bx (lt_of_heap h) (fun hf => by
    obtain ⟨c2, t2, fz2, hh2, ht2⟩ := hj.kind bx hf
    have := kind_ne h hh2
    subst this
    revert ht2
    decide)).trans h
theorem kb_grown (hl : Rw w base va Q) (hg : w.grownBy w' va.ownBlock) : Kb w w' := fun bx cs fz h => (hg.block bx (lt_of_heap h) (fun e => by
    obtain ⟨_, _, c, fz2, hh⟩ := hl.kind bx e.symm
    exact absurd (kind_ne h hh) (by decide))).trans h
/-- In the middle of it: what is noted, and the records of one's own. -/
structure St (w0 w : World) (j : Nat) (av : Value) (Q : List Rq) (s : Nat) : Prop where
  jo : ∃ v d, Jo w0 w j w0.heap.size v d (Q.map byt) s
  row : Rw w w0.heap.size av Q
  ok : ∀ x ∈ Q, rok x
/-- As it, with one more noted. -/
structure Sn (w0 w : World) (j : Nat) (av : Value) (Q : List Rq) (x : Rq) (s : Nat) : Prop where
  jo : ∃ v d, Jo w0 w j w0.heap.size v d (Q.map byt ++ [byt x]) s
  row : Rw w w0.heap.size av Q
  ok : ∀ x ∈ Q, rok x
  new : rok x
theorem St.later {av : Value} (h : St w0 w j av Q s) (hb : Below w.heap.size w w') : St w0 w' j av Q s := by
  obtain ⟨⟨v, d, h1⟩, h2, h3⟩ := h
  exact ⟨⟨v, d, h1.later hb⟩, h2.later hb, h3⟩
theorem Sn.later {av : Value} {x : Rq} (h : Sn w0 w j av Q x s) (hb : Below w.heap.size w w') : Sn w0 w' j av Q x s := by
  obtain ⟨⟨v, d, h1⟩, h2, h3, h4⟩ := h
  exact ⟨⟨v, d, h1.later hb⟩, h2.later hb, h3, h4⟩
theorem St.below {av : Value} (h : St w0 w j av Q s) : Below w0.heap.size w0 w := by obtain ⟨⟨v, d, h1⟩, _, _⟩ := h; exact h1.below
theorem St.le {av : Value} (h : St w0 w j av Q s) : s ≤ Q.length := by
  obtain ⟨⟨v, d, h1⟩, _, _⟩ := h
  have := h1.hs.le
  rwa [List.length_map] at this
theorem St.note {av : Value} {x : Rq} (h : St w0 w j av Q s) (hl : Q.length < 1000) (hx : rok x) (A : Option Addr) (m c : Nat) (hy : By w.heap.size w A m c (byt x)) :
    Calls Tryd.prog 24 #[.pointer (some ⟨j, 0, none⟩), .slice A m c] w fun e w' => Kb w w' ∧ ((e = .returned (.int .i64 0) ∧ Sn w0 w' j av Q x s) ∨ (e = .returned (.int .i64 5) ∧ St w0 w' j av Q s)) := by
  obtain ⟨⟨v, d, hj0⟩, hr, hok⟩ := h
  have hm := hy.len
  have hm24 := byt_len hx
  have hE := hj0.hs.noE (by rw [List.length_map]; exact hl) (byt x)
  rw [if_neg (by omega)] at hE
  refine (Jr.Note_any hj0.at_ (by rw [List.length_map]; omega) A m c (byt x) hy).mono ?_
  rintro e w' ⟨v', rfl, hj, ht⟩
  have hb := Jr.belowJ hj0.at_ ht hj0.below (Nat.le_refl _) (Nat.le_refl _)
  refine ⟨kb_turn hj0.at_ ht, ?_⟩
  by_cases hd : (op d).dead = true
  · rw [if_pos hd] at hE
    rw [hE, if_neg (by decide)] at hj
    exact .inr ⟨by rw [hE], ⟨v', _, hj, hj0.hs.noted (by rw [hE]; decide), hb⟩, hr.turn hj0.at_ ht, hok⟩
  · rw [if_neg hd] at hE
    rw [hE, if_pos rfl] at hj
    exact .inl ⟨by rw [hE], ⟨v', _, by simpa using hj, hj0.hs.note hy.byte hE, hb⟩, hr.turn hj0.at_ ht, hok, hx⟩
theorem St.sync {av : Value} (h : St w0 w j av Q s) :
    Calls Tryd.prog 25 #[.pointer (some ⟨j, 0, none⟩)] w fun e w' => Kb w w' ∧ ((e = .returned (.int .i64 0) ∧ St w0 w' j av Q Q.length) ∨ (e = .returned (.int .i64 5) ∧ St w0 w' j av Q s)) := by
  obtain ⟨⟨v, d, h⟩, hr, hok⟩ := h
  refine (Jr.Sync_any h.at_).mono ?_
  rintro e w' ⟨v', rfl, hj, ht⟩
  have hb := Jr.belowJ h.at_ ht h.below (Nat.le_refl _) (Nat.le_refl _)
  refine ⟨kb_turn h.at_ ht, ?_⟩
  cases hd : (op d).dead with
  | true => exact .inr ⟨by rw [Dk.pw_dead hd], ⟨v', _, hj, h.hs.synced hd, hb⟩, hr.turn h.at_ ht, hok⟩
  | false =>
    have h2 := h.hs.sync hd
    rw [List.length_map] at h2
    exact .inl ⟨by rw [Dk.pw_on hd], ⟨v', _, hj, h2, hb⟩, hr.turn h.at_ ht, hok⟩
theorem St.cut {av : Value} (h : St w0 w j av Q s) (x : Int) (hx : IW x) :
    Calls Tryd.prog 23 #[.pointer (some ⟨w0.heap.size, 0, none⟩), .int .i64 x] w fun e w' => e = .returned (.tuple #[]) ∧ St w0 w' j av Q s := by
  obtain ⟨⟨v, d, h⟩, hr, hok⟩ := h
  refine (Dk.Cut_any h.at_.disk x hx).mono ?_
  rintro e w' ⟨v', rfl, hn, ht⟩
  have e1 : (ctD d x).s = d.s := by unfold ctD; split <;> rfl
  have e2 : (ctD d x).safe = d.safe := by unfold ctD; split <;> rfl
  exact ⟨rfl, ⟨v', _, h.at_.act hn ht, h.hs.like e1 e2, Jr.belowD h.at_.disk ht h.below (Nat.le_refl _) (Nat.le_refl _)⟩, hr.turn h.at_ (Jr.widen ht), hok⟩
/-- Behind a crash: what is found, and the records of one's own. -/
structure Fd (w0 w : World) (av : Value) (Q : List Rq) (A : Option Addr) (i c : Nat) : Prop where
  below : Below w0.heap.size w0 w
  row : Rw w w0.heap.size av Q
  found : Bss w.heap.size w A i c ((Q.map byt).take i)
  ok : ∀ x ∈ Q, rok x
theorem Fd.later {av : Value} {A : Option Addr} {i c : Nat} (h : Fd w0 w av Q A i c) (hb : Below w.heap.size w w') : Fd w0 w' av Q A i c :=
  ⟨h.below.trans (hb.mono h.below.size), h.row.later hb, (h.found.below hb).mono hb.size, h.ok⟩
theorem St.crash {av : Value} (h : St w0 w j av Q s) (x : Int) :
    ∃ i, s ≤ i ∧ i ≤ Q.length ∧ Calls Tryd.prog 26 #[.pointer (some ⟨w0.heap.size, 0, none⟩), .int .i64 x] w fun e w1 => e = .returned (.tuple #[]) ∧ Calls Tryd.prog 22 #[.pointer (some ⟨w0.heap.size, 0, none⟩)] w1 fun e w' => ∃ j' A c, e = .returned (.tuple #[.pointer (some ⟨j', 0, none⟩), .slice A i c, .int .i64 0]) ∧ Fd w0 w' av Q A i c := by
  obtain ⟨⟨v, d, h⟩, hr, hok⟩ := h
  obtain ⟨i, i1, i2, hO⟩ := h.crashed x
  rw [List.length_map] at i2
  refine ⟨i, i1, i2, ?_⟩
  refine (Dk.Crash_any h.at_.disk x).mono ?_
  rintro e w1 ⟨v1, rfl, hn, ht⟩
  refine ⟨rfl, ?_⟩
  refine (hO w1 v1 hn (Jr.belowD h.at_.disk ht h.below (Nat.le_refl _) (Nat.le_refl _))).mono ?_
  rintro e w' ⟨j', A, c, v', d', rfl, hj, _, hl, ht2, hjn⟩
  exact ⟨j', A, c, rfl, hj.below, (hr.turnD h.at_.disk ht).turnD hn ht2, hl, hok⟩
/-- One of what is found, and its record. -/
theorem Fd.one {A Av : Option Addr} {i c cv k N : Nat} (h : Fd w0 w (.slice Av N cv) Q A i c) (hN : N = Q.length) (hk : k < i) (hi : i ≤ N) :
    ∃ x : Rq, rok x ∧ (∃ gf off, A = some ⟨gf, off, none⟩ ∧ ∃ A' n' c', w.cell? ⟨gf, off + k, none⟩ = some (.slice A' n' c') ∧ n' ≤ 24 ∧ By w.heap.size w A' n' c' (byt x)) ∧
      ∃ ga, Av = some ⟨ga, 0, none⟩ ∧ ga < w.heap.size ∧ ∀ t, t < 6 → w.cell? ⟨ga, k * 6 + t, none⟩ = (rcl x)[t]? := by
  subst hN
  have hkQ : k < Q.length := by omega
  have hq : Q[k]? = some Q[k] := List.getElem?_eq_getElem hkQ
  have hx := h.ok _ (List.getElem_mem hkQ)
  refine ⟨Q[k], hx, ?_, ?_⟩
  · obtain ⟨gf, off, e, _, hc⟩ := h.found.cell (by omega)
    obtain ⟨A', n', c', e1, e2⟩ := hc k hk
    have e3 : ((Q.map byt).take i).getD k [] = byt Q[k] := by simp [List.getD, hk, hkQ]
    rw [e3] at e2
    exact ⟨gf, off, e, A', n', c', e1, by rw [← e2.len]; exact byt_len hx, e2⟩
  · have hw := h.row
    rcases hw.2 with ⟨e, h0⟩ | ⟨ga, cap, cur, e, hg, hh, hnc, hcm, _⟩
    · omega
    · injection e with e1 e2 e3
      refine ⟨ga, e1, lt_of_heap hh, fun t ht => ?_⟩
      subst e1 e3
      have := hw.cellAt (k * 6 + t) (by omega)
      rw [this]
      exact rcs_get Q k _ hq t ht
end
/-- One record more. -/
theorem app_rec {w0 W w : World} {j s : Nat} {ops : Array Oper} {rest : List Oper} {o : Oper} {a : Act} {P : Exit → Act → World → Prop} (hgd : o.guard = none) (sl x : Operand)
    (ho : o.op = .call { callee := .builtin .append, args := #[sl, x], argTypes := #[49, 49] })
    (v : Value) (Q : List Rq) (hs : a.eval sl = v) (y : Rq) (h : Sn w0 W j v Q y s) (hw : w = W.alloc (.cells (rcl y).toArray 23))
    (hx : a.eval x = .slice (some ⟨W.heap.size, 0, none⟩) 1 1) (hb : Q.length < 1000)
    (hK : ∀ A' c' w', St w0 w' j (.slice A' (Q.length + 1) c') (Q ++ [y]) s → Kb W w' → wpList Tryd.prog ops P rest (a.put o.dst (.slice A' (Q.length + 1) c')) w') : wpList Tryd.prog ops P (o :: rest) a w := by
  obtain ⟨i0, hi, hz0, hz1, hz2⟩ := info_parts Tryd.infoRec
  subst hw
  have hal := Rc.below_new W (.cells (rcl y).toArray 23)
  have hn := h.later hal
  obtain ⟨⟨vd, d, hj⟩, hr, hok, hy⟩ := hn
  have hB := hj.below.size
  refine Bk.appG 49 23 i0 _ 6 48 Tryd.underlying49 hi hz0 hz1 hz2 rfl (by decide) (by decide) hgd sl x ho w0.heap.size v Q.length (rcs Q) hs hr (some ⟨W.heap.size, 0, none⟩) 1 1 (rcl y) hx ?_ (rcl_one y) (by omega) hB ?_
  · refine ⟨rfl, Nat.le_refl _, by unfold maxLen; omega, fun h => (by cases h), fun _ => ⟨W.heap.size, 0, rfl, by simp, fun t ht => ?_⟩⟩
    rw [World.cell?_alloc_new, Nat.zero_add]
    simp
  · intro A' c' w' h1 h2 h3 h4
    have e : rcs Q ++ rcl y = rcs (Q ++ [y]) := by rw [rcs_app]; simp [rcs]
    rw [e] at h1
    have hl : (Q ++ [y]).length = Q.length + 1 := by simp
    refine hK A' c' w' ⟨⟨vd, d, ?_⟩, ?_, ?_⟩ ?_
    · have := jo_grown hj hr h3 (Nat.le_refl _)
      simpa using this
    · unfold Rw
      rw [hl]
      exact h1
    · intro z hz
      rcases List.mem_append.1 hz with q | q
      · exact hok z q
      · rw [List.mem_singleton.1 q]; exact hy
    · intro bx cs fz hh
      exact kb_grown hr h3 bx cs fz (kb_later hal bx cs fz hh)
theorem lay_rec {w : World} (k : Nat) (i r p c q : Int) (h : rok (k, i, r, p, c, q)) (hS : Rc.Shp w) :
    Calls Tryd.prog 10 #[.agg #[.int .u8 (k : Int), .int .i64 i, .int .i64 r, .int .i64 p, .int .i64 c, .int .i64 q]] w fun e w' => ∃ A m cp, e = .returned (.tuple #[.slice A m cp, .int .i64 0]) ∧ By w'.heap.size w' A m cp (byt (k, i, r, p, c, q)) ∧ Below w.heap.size w w' := by
  refine (Rc.lay_ok k i r p c q w h hS).mono ?_
  intro e w' ht
  obtain ⟨A, cp, rfl, hy, hb⟩ := ht.own (pack_byte _)
  exact ⟨A, _, cp, rfl, hy, hb⟩
theorem take_rec {w : World} (k : Nat) (i r p c q : Int) (h : rok (k, i, r, p, c, q)) (hS : Rc.Shp w) {A : Option Addr} {m cp : Nat} (hy : By w.heap.size w A m cp (byt (k, i, r, p, c, q))) :
    Calls Tryd.prog 15 #[.slice A m cp] w fun e w' => e = .returned (.tuple #[.agg #[.int .u8 (k : Int), .int .i64 i, .int .i64 r, .int .i64 p, .int .i64 c, .int .i64 q], .int .i64 0]) ∧ Below w.heap.size w w' := by
  refine (Rc.take_any hy (Nat.le_refl _) hS (by have := byt_len h; have := hy.len; omega)).mono ?_
  intro e w' ht
  exact ht.yes h
/-- A note's box. -/
def ncl (k : Nat) (i r p c q : Int) (b : Bool) : Array Value := #[.int .u8 (k : Int), .int .i64 i, .int .i64 r, .int .i64 p, .int .i64 c, .int .i64 q, .bool b]
theorem box_cells {w : World} {bx : Nat} {k : Nat} {i r p c q : Int} {b : Bool} (h : w.heap[bx]? = some (.cells #[.int .u8 (k : Int), .int .i64 i, .int .i64 r, .int .i64 p, .int .i64 c, .int .i64 q, .bool b] 51 (0, 0))) :
    w.cell? ⟨bx, 0, none⟩ = some (.int .u8 (k : Int)) ∧ w.cell? ⟨bx, 1, none⟩ = some (.int .i64 i) ∧ w.cell? ⟨bx, 2, none⟩ = some (.int .i64 r) ∧ w.cell? ⟨bx, 3, none⟩ = some (.int .i64 p) ∧ w.cell? ⟨bx, 4, none⟩ = some (.int .i64 c) ∧ w.cell? ⟨bx, 5, none⟩ = some (.int .i64 q) ∧ w.cell? ⟨bx, 6, none⟩ = some (.bool b) := by
  have g := fun j => cell_of_row w bx j _ _ _ h
  exact ⟨g 0, g 1, g 2, g 3, g 4, g 5, g 6⟩
/-- The notes that came in. -/
structure Nts (B : Nat) (w : World) (A : Option Addr) (n cap : Nat) (f : Nat → Rq × Bool) : Prop where
  le : n ≤ cap
  max : cap ≤ maxLen
  nil : A = none → cap = 0
  cell : 0 < n → ∃ g off, A = some ⟨g, off, none⟩ ∧ g < B ∧ ∀ j, j < n → ∀ t, t < 7 → w.cell? ⟨g, off + j * 7 + t, none⟩ = (rcl (f j).1 ++ [Value.bool (f j).2])[t]?
theorem Nts.at {B : Nat} {w w' : World} {A : Option Addr} {n cap : Nat} {f : Nat → Rq × Bool} (h : Nts B w A n cap f) (hb : Below B w w') (k : Nat) (hk : k < n) :
    ∃ g off, ∃ K : Nat, ∃ i r p c q : Int, ∃ b : Bool, A = some ⟨g, off, none⟩ ∧ w'.cell? ⟨g, off + k * 7, none⟩ = some (.int .u8 (K : Int)) ∧ w'.cell? ⟨g, off + k * 7 + 1, none⟩ = some (.int .i64 i) ∧ w'.cell? ⟨g, off + k * 7 + 2, none⟩ = some (.int .i64 r) ∧ w'.cell? ⟨g, off + k * 7 + 3, none⟩ = some (.int .i64 p) ∧ w'.cell? ⟨g, off + k * 7 + 4, none⟩ = some (.int .i64 c) ∧ w'.cell? ⟨g, off + k * 7 + 5, none⟩ = some (.int .i64 q) ∧ w'.cell? ⟨g, off + k * 7 + 6, none⟩ = some (.bool b) := by
  obtain ⟨g, off, e, hg, hc⟩ := h.cell (by omega)
  have hc2 := fun t ht => (hb.cell (p := ⟨g, off + k * 7 + t, none⟩) hg).trans (hc k hk t ht)
  exact ⟨g, off, _, _, _, _, _, _, _, e, hc2 0 (by omega), hc2 1 (by omega), hc2 2 (by omega), hc2 3 (by omega), hc2 4 (by omega), hc2 5 (by omega), hc2 6 (by omega)⟩
end Tn
end Go.Proofs.YtejldeecblppjaaDoor
