/-
  TopTold: what the networks give; the steps that came in; all begins.
-/
import Derived.Test.YtobpinelhjpfgaaDoorTtC
import Derived.Test.YtobpinelhjpfgaaDoorRcArgs
set_option linter.unusedVariables false
set_option maxRecDepth 100000
namespace Go.Proofs.YtobpinelhjpfgaaDoor
namespace Tt
open Go.RowKit Go.Maps Bp Ck Ln Rb
open Rc (Aok Shp act_uniq)
section
variable {w0 w : World} {m : Mt} {y : Zt} {i : Nat}
/-- What a network gives. -/
theorem given {w : World} {base : Nat} {P : List Nat → Prop} {L : List ByteArray} {A : Option Addr} {c : Nat} {j : Int} (hl : OnL P L) (hy : Nw.Yw w base (.slice A (Nw.gtA L j).size c) (Nw.gtA L j)) : ∃ bs, By w.heap.size w A (Nw.gtA L j).size c bs ∧ bs.length ≤ 300 ∧ (Nw.isA L.length j = true → P bs) := by
  obtain ⟨zs, h1, h2⟩ := yb_by hy.yb
  by_cases hj : Nw.isA L.length j = true
  · obtain ⟨bs, e1, e2, e3, e4⟩ := hl.get hj
    have e := strOf_inj h1.byte e2 (h2.trans e1)
    subst e
    exact ⟨zs, h1, e3, fun _ => e4⟩
  · have hg : Nw.gtA L j = ByteArray.empty := by unfold Nw.gtA; rw [if_neg hj]
    refine ⟨zs, h1, ?_, fun e => absurd e hj⟩
    rw [h1.len, hg]
    decide
def GTold (w0 : World) (m : Mt) (P : List Nat → Prop) (S : World → Prop) (e : Ending) (w' : World) : Prop := ∃ (A : Option Addr) (n c : Nat) (bs : List Nat) (b : Bool), e = .returned (.tuple #[.slice A n c, .bool b]) ∧ By w'.heap.size w' A n c bs ∧ n ≤ 300 ∧ (b = true → P bs) ∧ S w'
theorem take1 (h : Sm w0 w m y) (iv : IvZ i y) (j : Int) (hj : j ≤ 9223372036854775807) : Calls Tryd.prog 46 #[.pointer (some ⟨m.g1, 0, none⟩), .int .i64 j] w (GTold w0 m (ToR y.T y.hh) (fun w' => ∃ v' P', Sm w0 w' m { y with v1 := v', P1 := P', L1 := Nw.ouA j y.L1 } ∧ IvZ i { y with v1 := v', P1 := P', L1 := Nw.ouA j y.L1 })) := by
  refine (Nw.Take_any h.n1 j hj).mono ?_
  rintro e w' ⟨A, c, v', P', rfl, hy, hn, ht, _⟩
  obtain ⟨bs, h1, h2, h3⟩ := given (Iv.l1 iv) hy
  exact ⟨A, _, c, bs, _, rfl, h1, by rw [← h1.len]; exact h2, h3, v', P', h.net1 hn ht, Iv.lose1 iv j⟩
theorem take2 (h : Sm w0 w m y) (iv : IvZ i y) (j : Int) (hj : j ≤ 9223372036854775807) : Calls Tryd.prog 46 #[.pointer (some ⟨m.g2, 0, none⟩), .int .i64 j] w (GTold w0 m (FromR y.z.heard y.D.length) (fun w' => ∃ v' P', Sm w0 w' m { y with v2 := v', P2 := P', L2 := Nw.ouA j y.L2 } ∧ IvZ i { y with v2 := v', P2 := P', L2 := Nw.ouA j y.L2 })) := by
  refine (Nw.Take_any h.n2 j hj).mono ?_
  rintro e w' ⟨A, c, v', P', rfl, hy, hn, ht, _⟩
  obtain ⟨bs, h1, h2, h3⟩ := given (Iv.l2 iv) hy
  exact ⟨A, _, c, bs, _, rfl, h1, by rw [← h1.len]; exact h2, h3, v', P', h.net2 hn ht, Iv.lose2 iv j⟩
theorem peek1 (h : Sm w0 w m y) (iv : IvZ i y) (j : Int) : Calls Tryd.prog 47 #[.pointer (some ⟨m.g1, 0, none⟩), .int .i64 j] w (GTold w0 m (ToR y.T y.hh) (fun w' => Sm w0 w' m y ∧ IvZ i y)) := by
  refine (Nw.Peek_any h.n1 j).mono ?_
  rintro e w' ⟨A, c, rfl, hy, hb⟩
  obtain ⟨bs, h1, h2, h3⟩ := given (Iv.l1 iv) hy
  exact ⟨A, _, c, bs, _, rfl, h1, by rw [← h1.len]; exact h2, h3, h.later hb, iv⟩
theorem peek2 (h : Sm w0 w m y) (iv : IvZ i y) (j : Int) : Calls Tryd.prog 47 #[.pointer (some ⟨m.g2, 0, none⟩), .int .i64 j] w (GTold w0 m (FromR y.z.heard y.D.length) (fun w' => Sm w0 w' m y ∧ IvZ i y)) := by
  refine (Nw.Peek_any h.n2 j).mono ?_
  rintro e w' ⟨A, c, rfl, hy, hb⟩
  obtain ⟨bs, h1, h2, h3⟩ := given (Iv.l2 iv) hy
  exact ⟨A, _, c, bs, _, rfl, h1, by rw [← h1.len]; exact h2, h3, h.later hb, iv⟩
/-- What comes of the first function, whether there is something or not. -/
theorem comes_any {A : Option Addr} {n c : Nat} {bs : List Nat} {b : Bool} (h : Sm w0 w m y) (iv : IvZ i y) (hy : By w.heap.size w A n c bs) (hto : b = true → ToR y.T y.hh bs) :
    Calls Tryd.prog 40 #[.slice A n c, .bool b, .pointer (some ⟨m.b3, 0, none⟩), .pointer (some ⟨m.b8, 0, none⟩)] w (CTold w0 m y i) := by
  cases b with
  | true => exact comes_yes h iv hy (hto rfl)
  | false =>
    refine (comes_no _ _ hy (Nat.le_refl _)).mono ?_
    rintro e w' ⟨rfl, hb⟩
    exact ⟨rfl, y, h.later hb, iv, rfl, rfl, rfl, rfl⟩
theorem back_any {A : Option Addr} {n c : Nat} {bs : List Nat} {b : Bool} (h : Sm w0 w m y) (iv : IvZ i y) (hy : By w.heap.size w A n c bs) (hto : b = true → FromR y.z.heard y.D.length bs) :
    Calls Tryd.prog 43 #[.slice A n c, .bool b, .pointer (some ⟨m.b5, 0, none⟩), .pointer (some ⟨m.b6, 0, none⟩), .pointer (some ⟨m.b7, 0, none⟩)] w (CTold w0 m y i) := by
  cases b with
  | true => exact back_yes h iv hy (hto rfl)
  | false =>
    refine (back_no _ _ _ hy (Nat.le_refl _)).mono ?_
    rintro e w' ⟨rfl, hb⟩
    exact ⟨rfl, y, h.later hb, iv, rfl, rfl, rfl, rfl⟩
theorem lose1 (h : Sm w0 w m y) (iv : IvZ i y) (j : Int) (hj : j ≤ 9223372036854775807) : Calls Tryd.prog 48 #[.pointer (some ⟨m.g1, 0, none⟩), .int .i64 j] w fun e w' => (∃ b, e = .returned (.bool b)) ∧ ∃ v' P', Sm w0 w' m { y with v1 := v', P1 := P', L1 := Nw.ouA j y.L1 } ∧ IvZ i { y with v1 := v', P1 := P', L1 := Nw.ouA j y.L1 } := by
  refine (Nw.Lose_any h.n1 j hj).mono ?_
  rintro e w' ⟨v', P', rfl, hn, ht, _⟩
  exact ⟨⟨_, rfl⟩, v', P', h.net1 hn ht, Iv.lose1 iv j⟩
theorem lose2 (h : Sm w0 w m y) (iv : IvZ i y) (j : Int) (hj : j ≤ 9223372036854775807) : Calls Tryd.prog 48 #[.pointer (some ⟨m.g2, 0, none⟩), .int .i64 j] w fun e w' => (∃ b, e = .returned (.bool b)) ∧ ∃ v' P', Sm w0 w' m { y with v2 := v', P2 := P', L2 := Nw.ouA j y.L2 } ∧ IvZ i { y with v2 := v', P2 := P', L2 := Nw.ouA j y.L2 } := by
  refine (Nw.Lose_any h.n2 j hj).mono ?_
  rintro e w' ⟨v', P', rfl, hn, ht, _⟩
  exact ⟨⟨_, rfl⟩, v', P', h.net2 hn ht, Iv.lose2 iv j⟩
theorem nat_low {w : World} {b b' g : Nat} (h : Nw.NAt w b g (.slice none 0 0) [] []) (hb : b' ≤ b) : Nw.NAt w b' g (.slice none 0 0) [] [] :=
  ⟨h.box, World.ownsRow_nil _ _ _ _, rfl, fun i p e => by simp at e, Nat.le_trans hb h.lo, h.few, h.sm⟩
theorem Aw.at_ {w : World} {base : Nat} {A : Option Addr} {n c k : Nat} {q : List Rt} {x : Rt} (h : Aw w base (.slice A n c) q) (hx : q[k]? = some x) : n = q.length ∧ n ≤ c ∧ c ≤ 9223372036854775807 ∧ ∃ g, A = some ⟨g, 0, none⟩ ∧ g < w.heap.size ∧ w.cell? ⟨g, k * 3, none⟩ = some (.int .u8 (x.1 : Int)) ∧ w.cell? ⟨g, k * 3 + 1, none⟩ = some (.int .i64 x.2.1) ∧ w.cell? ⟨g, k * 3 + 2, none⟩ = some (.int .i64 x.2.2) := by
  have hk : k < q.length := (List.getElem?_eq_some_iff.1 hx).1
  obtain ⟨A', c', e⟩ := h.form
  injection e with e1 e2 e3
  subst e2
  have hgt := (Bk.gt_own (A := A) (m := q.length) (cap := c) h).2
  obtain ⟨hs1, hs2⟩ := hgt.size
  refine ⟨rfl, hs1, hs2, ?_⟩
  rcases h.2 with ⟨e, h0⟩ | ⟨ga, cap, cur, e, hg, hh, hnc, hcm, _⟩
  · injection e; omega
  · injection e with e1 e2 e3
    have hc := fun t (ht : t < 3) => (World.ownsRow.cellAt (by subst e1 e3; exact h) (k * 3 + t) (by omega)).trans (acs_get q k x hx t ht)
    exact ⟨ga, e1, lt_of_heap hh, hc 0 (by omega), hc 1 (by omega), hc 2 (by omega)⟩
/-- Two rows: as long as they are, they fit a slice. -/
theorem Aw.fits {w : World} {base : Nat} {A : Option Addr} {n c : Nat} {q : List Rt} (h : Aw w base (.slice A n c) q) : n = q.length ∧ n ≤ c ∧ c ≤ 9223372036854775807 := by
  obtain ⟨A', c', e⟩ := h.form
  injection e with e1 e2 e3
  subst e2
  obtain ⟨hs1, hs2⟩ := (Bk.gt_own (A := A) (m := q.length) (cap := c) h).2.size
  exact ⟨rfl, hs1, hs2⟩
theorem own_low {w : World} {base : Nat} {A : Option Addr} {n c : Nat} {zs : List Nat} (ho : w.ownsRow base 5 1 (.slice A n c) n (bc zs)) : ∀ a, A = some a → base ≤ a.block := by
  intro a ha
  subst ha
  rcases ho.2 with ⟨e, _⟩ | ⟨g, c2, cur, e, hg, _⟩
  · injection e with e; cases e
  · injection e with e
    injection e with e
    subst e
    exact hg
theorem packet_no {w : World} {s told : Nat} {v : Value} (h : SAt w s v told []) : Calls Tryd.prog 34 #[.pointer (some ⟨s, 0, none⟩)] w fun e w' => ∃ A c, e = .returned (.tuple #[.slice A 0 c, .bool false]) ∧ Below w.heap.size w w' := by
  refine (Ln.packet_any h).mono ?_
  rintro e w' ⟨A, c, he, _, hb⟩
  exact ⟨A, c, he, hb⟩
/-- All begins. -/
theorem Sm.start {w w' : World} {m : Mt} {z : R} {v : Value} (ht : Tri w w' m.a v (.slice none 0 0) z 0 [] 0) (h1 : Nw.NAt w' w.heap.size m.g1 (.slice none 0 0) [] []) (h2 : Nw.NAt w' w.heap.size m.g2 (.slice none 0 0) [] [])
    (x3 : w'.heap[m.b3]? = some (.cells #[.pointer (some ⟨m.a.r, 0, none⟩)] 24 (0, 0))) (x5 : w'.heap[m.b5]? = some (.cells #[.pointer (some ⟨m.a.q, 0, none⟩)] 63 (0, 0))) (x6 : w'.heap[m.b6]? = some (.cells #[.pointer (some ⟨m.a.g, 0, none⟩)] 65 (0, 0)))
    (x7 : w'.heap[m.b7]? = some (.cells #[.pointer (some ⟨m.g1, 0, none⟩)] 75 (0, 0))) (x8 : w'.heap[m.b8]? = some (.cells #[.pointer (some ⟨m.g2, 0, none⟩)] 75 (0, 0))) (hg : m.g1 ≠ m.g2) (hu1 : ¬ UF m.a v (.slice none 0 0) m.g1) (hu2 : ¬ UF m.a v (.slice none 0 0) m.g2) :
    Sm w w' m ⟨v, .slice none 0 0, z, 0, [], 0, .slice none 0 0, [], [], .slice none 0 0, [], [], .slice none 0 0, [], .slice none 0 0, []⟩ := by
  have nf : ∀ g k, Nw.NF g (.slice none 0 0) [] k → k = g := fun g k hk => by
    rcases hk with e | e | ⟨p, hp, _⟩
    · exact e
    · cases e
    · simp at hp
  refine ⟨ht, h1, h2, World.ownsRow_nil _ _ _ _, World.ownsRow_nil _ _ _ _, x3, x5, x6, x7, x8, ⟨fun i k hk => ?_, fun i k hk => ?_, fun i j k hi hj => ?_⟩⟩
  · match i, hk with
    | 0, hk => exact ht.lt k hk
    | 1, hk => exact (h1.blocks k hk).2
    | 2, hk => exact (h2.blocks k hk).2
    | 3, hk => cases hk
    | 4, hk => cases hk
    | n + 5, hk => exact hk.elim
  · match i, hk with
    | 0, hk => exact ht.lo k hk
    | 1, hk => exact (h1.blocks k hk).1
    | 2, hk => exact (h2.blocks k hk).1
    | 3, hk => cases hk
    | 4, hk => cases hk
    | n + 5, hk => exact hk.elim
  · match i, j, hi, hj with
    | 0, 0, _, _ => rfl
    | 1, 1, _, _ => rfl
    | 2, 2, _, _ => rfl
    | 0, 1, hi, hj => exact absurd (by rw [← nf _ k hj]; exact hi) hu1
    | 0, 2, hi, hj => exact absurd (by rw [← nf _ k hj]; exact hi) hu2
    | 1, 0, hi, hj => exact absurd (by rw [← nf _ k hi]; exact hj) hu1
    | 2, 0, hi, hj => exact absurd (by rw [← nf _ k hi]; exact hj) hu2
    | 1, 2, hi, hj => exact absurd ((nf _ k hi).symm.trans (nf _ k hj)) hg
    | 2, 1, hi, hj => exact absurd ((nf _ k hj).symm.trans (nf _ k hi)) hg
    | 3, _, hi, _ => cases hi
    | 4, _, hi, _ => cases hi
    | n + 5, _, hi, _ => exact hi.elim
    | _, 3, _, hj => cases hj
    | _, 4, _, hj => cases hj
    | _, n + 5, _, hj => exact hj.elim
end
end Tt
namespace Rb
open Go.RowKit Bp Ck Ln
/-- A step of the law: its kind, an act, a place. -/
structure S18 where
  kd : Nat
  k : Nat
  c : Int
  p : Int
  at_ : Int
instance : Inhabited S18 := ⟨⟨0, 0, 0, 0, 0⟩⟩
def At5 (w : World) (g o : Nat) (x : S18) : Prop := w.cell? ⟨g, o, none⟩ = some (.int .u8 (x.kd : Int)) ∧ w.cell? ⟨g, o + 1, none⟩ = some (.int .u8 (x.k : Int)) ∧ w.cell? ⟨g, o + 2, none⟩ = some (.int .i64 x.c) ∧ w.cell? ⟨g, o + 3, none⟩ = some (.int .i64 x.p) ∧ w.cell? ⟨g, o + 4, none⟩ = some (.int .i64 x.at_)
def Fit5 (x : S18) : Prop := x.kd ≤ 255 ∧ x.k ≤ 255 ∧ (-9223372036854775808 ≤ x.at_ ∧ x.at_ ≤ 9223372036854775807)
theorem At5.below {B : Nat} {w w' : World} {g o : Nat} {x : S18} (h : At5 w g o x) (hg : g < B) (hb : Below B w w') : At5 w' g o x := by
  obtain ⟨h0, h1, h2, h3, h4⟩ := h
  exact ⟨(hb.cell (p := ⟨g, o, none⟩) hg).trans h0, (hb.cell (p := ⟨g, o + 1, none⟩) hg).trans h1, (hb.cell (p := ⟨g, o + 2, none⟩) hg).trans h2, (hb.cell (p := ⟨g, o + 3, none⟩) hg).trans h3, (hb.cell (p := ⟨g, o + 4, none⟩) hg).trans h4⟩
structure Sts (B : Nat) (w : World) (A : Option Addr) (n cap : Nat) (f : Nat → S18) : Prop where
  le : n ≤ cap
  max : cap ≤ maxLen
  nil : A = none → cap = 0
  cell : 0 < n → ∃ g off, A = some ⟨g, off, none⟩ ∧ g < B ∧ ∀ j, j < n → At5 w g (off + j * 5) (f j)
  fits : ∀ j, j < n → Fit5 (f j)
section
open Go.ChangeShapes Go.WideShapes Go.ChangeAt Go.Deep Go.Joins
theorem open_step18 {H : Type} {enc : TypeId × Value → H} {W : World} {n : Nat} {cs : List Value} {y : DataW H × List MemPlace} (hl : cs.length = 5) (ht : DataW.trod enc Tryd.prog W 0 (fun _ => true) true n 80 cs = some y) :
    ∃ (q : S18), cs = [.int .u8 (q.kd : Int), .int .u8 (q.k : Int), .int .i64 q.c, .int .i64 q.p, .int .i64 q.at_] ∧ Fit5 q := by
  obtain ⟨u0, u1, u2, u3, u4, rfl⟩ : ∃ u0 u1 u2 u3 u4, cs = [u0, u1, u2, u3, u4] := by
    match cs, hl with
    | [u0, u1, u2, u3, u4], _ => exact ⟨u0, u1, u2, u3, u4, rfl⟩
  obtain ⟨xs, n', _, _, _, hxl, hfs⟩ := DataW.trod_struct Tryd.underlying80 ht
  have k0 := hfs 0 _ rfl
  have k1 := hfs 1 _ rfl
  have k2 := hfs 2 _ rfl
  have q0 : Tryd.prog.cellsOf 5 = 1 := by kernel_rfl
  have q1 : Tryd.prog.cellsOf 33 = 3 := by kernel_rfl
  have q2 : Tryd.prog.cellsOf 3 = 1 := by kernel_rfl
  simp [q0, q1, q2] at k0 k1 k2
  simp at hxl
  obtain ⟨y0, y1, y2, rfl⟩ : ∃ y0 y1 y2, xs = [y0, y1, y2] := by
    match xs, hxl with
    | [y0, y1, y2], _ => exact ⟨y0, y1, y2, rfl⟩
  simp at k0 k1 k2
  obtain ⟨n0, e0, _, w0⟩ := DataW.trod_int Tryd.underlying5 k0
  obtain ⟨ka, ca, pa, e1, hka⟩ := Rc.act_cells (by rfl) k1
  obtain ⟨n2, e2, _, w2⟩ := DataW.trod_int Tryd.underlying3 k2
  simp at e0 e1 e2
  obtain ⟨rfl, rfl, rfl⟩ := e1
  subst e0 e2
  have b0 : 0 ≤ n0 ∧ n0 ≤ 255 := by simpa [Lit.wf, IntKind.min, IntKind.max, IntKind.signed, IntKind.bits] using w0
  have b2 : -9223372036854775808 ≤ n2 ∧ n2 ≤ 9223372036854775807 := by simpa [Lit.wf, IntKind.min, IntKind.max, IntKind.signed, IntKind.bits] using w2
  obtain ⟨m0, rfl⟩ := Int.eq_ofNat_of_zero_le b0.1
  exact ⟨⟨m0, ka, ca, pa, n2⟩, rfl, ⟨by have := b0.2; show m0 ≤ 255; omega, hka, b2⟩⟩
theorem open_steps18 {H : Type} {enc : TypeId × Value → H} {W : World} {a : Option Addr} {len cap : Nat} {d : DataW H} {p : List MemPlace}
    (h : DataW.Trod enc Tryd.prog W 0 (fun _ => true) true 74 (.slice a len cap) d p) : ∃ f : Nat → S18, Sts W.heap.size W a len cap f ∧ True := by
  obtain ⟨fuel, hf⟩ := h
  have hf' : DataW.trod enc Tryd.prog W 0 (fun _ => true) true fuel 74 [.slice a len cap] = some (d, p) := by simpa [Value.cells] using hf
  obtain ⟨h1, h2, h3, h4⟩ := Ln.rows14 (k := 5) Tryd.underlying74 (by kernel_rfl) (by decide) hf'
  have h5 : ∀ i, i < len → ∃ q : S18, ∃ g off, a = some ⟨g, off, none⟩ ∧ g < W.heap.size ∧ Fit5 q ∧ At5 W g (off + i * 5) q := fun i hi => by
    obtain ⟨g, off, n, cs, y, ha, hg, hl, hc, ht⟩ := h4 i hi
    obtain ⟨q, rfl, hq1⟩ := open_step18 hl ht
    exact ⟨q, g, off, ha, hg, hq1, hc 0 (by omega), hc 1 (by omega), hc 2 (by omega), hc 3 (by omega), hc 4 (by omega)⟩
  obtain ⟨f, hff⟩ := Ln.choose14 h5
  refine ⟨f, ⟨h2, h3, fun e => (h1 e).2, fun hn => ?_, fun j hj => ?_⟩, trivial⟩
  · obtain ⟨g, off, ha, hg, _⟩ := hff 0 hn
    refine ⟨g, off, ha, hg, fun j hj => ?_⟩
    obtain ⟨g2, off2, ha2, hg2, _, c0⟩ := hff j hj
    rw [ha] at ha2
    injection ha2 with ha2
    injection ha2 with e1 e2
    subst e1 e2
    exact c0
  · obtain ⟨g, off, ha, hg, h1, _⟩ := hff j hj
    exact h1
end
theorem box5 {w : World} {bx : Nat} {v0 v1 v2 v3 v4 : Value} (h : w.heap[bx]? = some (.cells #[v0, v1, v2, v3, v4] 80 (0, 0))) :
    w.cell? ⟨bx, 0, none⟩ = some v0 ∧ w.cell? ⟨bx, 1, none⟩ = some v1 ∧ w.cell? ⟨bx, 2, none⟩ = some v2 ∧ w.cell? ⟨bx, 3, none⟩ = some v3 ∧ w.cell? ⟨bx, 4, none⟩ = some v4 := by
  have g := fun j => cell_of_row w bx j _ _ _ h
  exact ⟨g 0, g 1, g 2, g 3, g 4⟩
end Rb
end Go.Proofs.YtobpinelhjpfgaaDoor
