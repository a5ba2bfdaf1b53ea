/-
  Layer 18: the acts of the law, as they come in; what stays whatever comes.
-/
import Derived.Test.YtobpinelhjpfgaaDoorRbTwo
import Derived.Test.YtobpinelhjpfgaaDoorRcArgs
set_option linter.unusedVariables false
set_option maxRecDepth 100000
namespace Go.Proofs.YtobpinelhjpfgaaDoor
namespace Rb
open Go.RowKit Bp Ck Ln
open Rc (Aok Shp TakeATold act_uniq)
/-- An act of the law: its kind, the robot's act, a number, bytes. -/
structure A18 where
  kd : Nat
  k : Nat
  c : Int
  p : Int
  n : Nat
  b : List Nat
instance : Inhabited A18 := ⟨⟨0, 0, 0, 0, 0, []⟩⟩
/-- How it lies there. -/
def At18 (B : Nat) (w : World) (g o : Nat) (x : A18) : Prop := w.cell? ⟨g, o, none⟩ = some (.int .u8 (x.kd : Int)) ∧ w.cell? ⟨g, o + 1, none⟩ = some (.int .u8 (x.k : Int)) ∧ w.cell? ⟨g, o + 2, none⟩ = some (.int .i64 x.c) ∧ w.cell? ⟨g, o + 3, none⟩ = some (.int .i64 x.p) ∧ w.cell? ⟨g, o + 4, none⟩ = some (.int .u64 (x.n : Int)) ∧ ∃ A1 n1 c1, w.cell? ⟨g, o + 5, none⟩ = some (.slice A1 n1 c1) ∧ By B w A1 n1 c1 x.b
def Fit18 (x : A18) : Prop := x.kd ≤ 255 ∧ x.k ≤ 255 ∧ x.n < 18446744073709551616
theorem At18.below {B : Nat} {w w' : World} {g o : Nat} {x : A18} (h : At18 B w g o x) (hg : g < B) (hb : Below B w w') : At18 B w' g o x := by
  obtain ⟨h0, h1, h2, h3, h4, A1, n1, c1, h5, h6⟩ := h
  exact ⟨(hb.cell (p := ⟨g, o, none⟩) hg).trans h0, (hb.cell (p := ⟨g, o + 1, none⟩) hg).trans h1, (hb.cell (p := ⟨g, o + 2, none⟩) hg).trans h2, (hb.cell (p := ⟨g, o + 3, none⟩) hg).trans h3, (hb.cell (p := ⟨g, o + 4, none⟩) hg).trans h4, A1, n1, c1, (hb.cell (p := ⟨g, o + 5, none⟩) hg).trans h5, h6.below hb⟩
structure Acs (B : Nat) (w : World) (A : Option Addr) (n cap : Nat) (f : Nat → A18) : Prop where
  le : n ≤ cap
  max : cap ≤ maxLen
  nil : A = none → cap = 0
  cell : 0 < n → ∃ g off, A = some ⟨g, off, none⟩ ∧ g < B ∧ ∀ j, j < n → At18 B w g (off + j * 6) (f j)
  fits : ∀ j, j < n → Fit18 (f j)
theorem Acs.below {B : Nat} {w w' : World} {A : Option Addr} {n cap : Nat} {f : Nat → A18} (h : Acs B w A n cap f) (hb : Below B w w') : Acs B w' A n cap f :=
  ⟨h.le, h.max, h.nil, fun hn => by
    obtain ⟨g, off, e, hg, hc⟩ := h.cell hn
    exact ⟨g, off, e, hg, fun j hj => (hc j hj).below hg hb⟩, h.fits⟩
theorem Acs.cut {B : Nat} {w : World} {A : Option Addr} {n cap : Nat} {f : Nat → A18} (h : Acs B w A n cap f) {k : Nat} (hk : k ≤ n) : Acs B w A k cap f :=
  ⟨Nat.le_trans hk h.le, h.max, h.nil, fun hn => by
    obtain ⟨g, off, e, hg, hc⟩ := h.cell (by omega)
    exact ⟨g, off, e, hg, fun j hj => hc j (by omega)⟩, fun j hj => h.fits j (by omega)⟩
section
open Go.ChangeShapes Go.WideShapes Go.ChangeAt Go.Deep Go.Joins
theorem open_act18 {H : Type} {enc : TypeId × Value → H} {W : World} {n : Nat} {cs : List Value} {y : DataW H × List MemPlace} (hl : cs.length = 6) (ht : DataW.trod enc Tryd.prog W 0 (fun _ => true) true n 37 cs = some y) :
    ∃ (q : A18) (A : Option Addr) (m c : Nat), cs = [.int .u8 (q.kd : Int), .int .u8 (q.k : Int), .int .i64 q.c, .int .i64 q.p, .int .u64 (q.n : Int), .slice A m c] ∧ Fit18 q ∧ By W.heap.size W A m c q.b := by
  obtain ⟨u0, u1, u2, u3, u4, u5, rfl⟩ : ∃ u0 u1 u2 u3 u4 u5, cs = [u0, u1, u2, u3, u4, u5] := by
    match cs, hl with
    | [u0, u1, u2, u3, u4, u5], _ => exact ⟨u0, u1, u2, u3, u4, u5, rfl⟩
  obtain ⟨xs, n', _, _, _, hxl, hfs⟩ := DataW.trod_struct Tryd.underlying37 ht
  have k0 := hfs 0 _ rfl
  have k1 := hfs 1 _ rfl
  have k2 := hfs 2 _ rfl
  have k3 := hfs 3 _ rfl
  have q0 : Tryd.prog.cellsOf 5 = 1 := by kernel_rfl
  have q1 : Tryd.prog.cellsOf 33 = 3 := by kernel_rfl
  have q2 : Tryd.prog.cellsOf 34 = 1 := by kernel_rfl
  have q3 : Tryd.prog.cellsOf 35 = 1 := by kernel_rfl
  simp [q0, q1, q2, q3] at k0 k1 k2 k3
  simp at hxl
  obtain ⟨y0, y1, y2, y3, rfl⟩ : ∃ y0 y1 y2 y3, xs = [y0, y1, y2, y3] := by
    match xs, hxl with
    | [y0, y1, y2, y3], _ => exact ⟨y0, y1, y2, y3, rfl⟩
  simp at k0 k1 k2 k3
  obtain ⟨n0, e0, _, w0⟩ := DataW.trod_int Tryd.underlying5 k0
  obtain ⟨ka, ca, pa, e1, hka⟩ := Rc.act_cells (by rfl) k1
  obtain ⟨n2, e2, _, w2⟩ := DataW.trod_int Tryd.underlying34 k2
  obtain ⟨a1, l1, c1, e3⟩ := slice_form Tryd.underlying35 k3
  simp at e0 e1 e2 e3
  obtain ⟨rfl, rfl, rfl⟩ := e1
  subst e0 e2 e3
  have b0 : 0 ≤ n0 ∧ n0 ≤ 255 := by simpa [Lit.wf, IntKind.min, IntKind.max, IntKind.signed, IntKind.bits] using w0
  have b2 : 0 ≤ n2 ∧ n2 ≤ 18446744073709551615 := by simpa [Lit.wf, IntKind.min, IntKind.max, IntKind.signed, IntKind.bits] using w2
  obtain ⟨m0, rfl⟩ := Int.eq_ofNat_of_zero_le b0.1
  obtain ⟨m2, rfl⟩ := Int.eq_ofNat_of_zero_le b2.1
  obtain ⟨s, hs⟩ := Ln.open_by k3
  exact ⟨⟨m0, ka, ca, pa, m2, s⟩, a1, l1, c1, rfl, ⟨by have := b0.2; show m0 ≤ 255; omega, hka, by have := b2.2; show m2 < _; omega⟩, hs⟩
theorem open_acts18 {H : Type} {enc : TypeId × Value → H} {W : World} {a : Option Addr} {len cap : Nat} {d : DataW H} {p : List MemPlace}
    (h : DataW.Trod enc Tryd.prog W 0 (fun _ => true) true 22 (.slice a len cap) d p) : ∃ f : Nat → A18, Acs W.heap.size W a len cap f ∧ True := by
  obtain ⟨fuel, hf⟩ := h
  have hf' : DataW.trod enc Tryd.prog W 0 (fun _ => true) true fuel 22 [.slice a len cap] = some (d, p) := by simpa [Value.cells] using hf
  obtain ⟨h1, h2, h3, h4⟩ := Ln.rows14 (k := 6) Tryd.underlying22 (by kernel_rfl) (by decide) hf'
  have h5 : ∀ i, i < len → ∃ q : A18, ∃ g off, a = some ⟨g, off, none⟩ ∧ g < W.heap.size ∧ Fit18 q ∧ At18 W.heap.size W g (off + i * 6) q := fun i hi => by
    obtain ⟨g, off, n, cs, y, ha, hg, hl, hc, ht⟩ := h4 i hi
    obtain ⟨q, A, m, c, rfl, hq1, hq3⟩ := open_act18 hl ht
    exact ⟨q, g, off, ha, hg, hq1, hc 0 (by omega), hc 1 (by omega), hc 2 (by omega), hc 3 (by omega), hc 4 (by omega), A, m, c, hc 5 (by omega), hq3⟩
  obtain ⟨f, hff⟩ := Ln.choose14 h5
  refine ⟨f, ⟨h2, h3, fun e => (h1 e).2, fun hn => ?_, fun j hj => ?_⟩, trivial⟩
  · obtain ⟨g, off, ha, hg, _⟩ := hff 0 hn
    refine ⟨g, off, ha, hg, fun j hj => ?_⟩
    obtain ⟨g2, off2, ha2, hg2, _, c0⟩ := hff j hj
    rw [ha] at ha2
    injection ha2 with ha2
    injection ha2 with e1 e2
    subst e1 e2
    exact c0
  · obtain ⟨g, off, ha, hg, h1, _⟩ := hff j hj
    exact h1
end
/-- The first few. -/
theorem few18_any {B : Nat} {w : World} {A : Option Addr} {n cap : Nat} {f : Nat → A18} (h : Acs B w A n cap f) :
    Calls Tryd.prog 12 #[.slice A n cap] w fun e w' => ∃ k, k ≤ n ∧ k ≤ 150 ∧ (∀ j, j < k → (f j).b.length ≤ 300) ∧ e = .returned (.slice A k cap) ∧ w = w' := by
  have HA := Lib.hid h
  have hle := h.le
  have hmx := h.max
  unfold maxLen at hmx
  clear h
  go_enter Tryd.func12, Tryd.ntmps12
  go_wp2_with fail
  go_loopw [6] (fun (tv : Value) (wr : World) => ∃ k : Nat, k ≤ n ∧ k ≤ 150 ∧ tv = .int .i64 (k : Int) ∧ wr = w ∧ Hid (∀ j, j < k → (f j).b.length ≤ 300)) (fun (tv : Value) (wr : World) => n - (intOf tv).toNat)
  case atStart => exact ⟨0, Nat.zero_le _, Nat.zero_le _, by go_num, rfl, Lib.hid (fun j hj => by omega)⟩
  case round =>
    obtain ⟨k, hk, hk150, rfl, rfl, HF⟩ := hrel
    by_cases hk1 : k < n
    · obtain ⟨g, off, rfl, -, hc⟩ := HA.out.cell (by omega)
      obtain ⟨-, -, -, -, -, A1, n1, c1, k1, k2⟩ := hc k hk1
      have hle1 := k2.le
      have hmx1 := k2.max
      unfold maxLen at hmx1
      have HL : Hid ((f k).b.length = n1) := Lib.hid k2.len
      clear hc k2
      by_cases h100 : 150 ≤ k
      · have t0 : decide ((150 : Int) ≤ (k : Int)) = true := decide_eq_true (by omega)
        go_wp2_with fail
        go_ret
        exact ⟨k, by omega, by omega, HF.out, rfl, rfl⟩
      · have t0 : decide ((150 : Int) ≤ (k : Int)) = false := decide_eq_false (by omega)
        by_cases h300 : 300 < n1
        · have t1 : decide ((300 : Int) < (n1 : Int)) = true := decide_eq_true (by omega)
          go_wp2_with fail
          go_ret
          exact ⟨k, by omega, by omega, HF.out, rfl, rfl⟩
        · have t1 : decide ((300 : Int) < (n1 : Int)) = false := decide_eq_false (by omega)
          go_wp2_with fail
          go_roundw
          case rel => exact ⟨k + 1, by omega, by omega, by go_num, by trivial, Lib.hid (fun j hj => by
            rcases Nat.lt_or_ge j k with x | x
            · exact HF.out j x
            · obtain rfl : j = k := by omega
              rw [HL.out]; omega)⟩
          case measure => simp [intOf]; omega
    · obtain rfl : k = n := by omega
      go_wp2_with fail
      go_ret
      exact ⟨k, Nat.le_refl _, hk150, HF.out, rfl, rfl⟩
theorem box18 {w : World} {bx : Nat} {v0 v1 v2 v3 v4 v5 : Value} (h : w.heap[bx]? = some (.cells #[v0, v1, v2, v3, v4, v5] 37 (0, 0))) :
    w.cell? ⟨bx, 0, none⟩ = some v0 ∧ w.cell? ⟨bx, 1, none⟩ = some v1 ∧ w.cell? ⟨bx, 2, none⟩ = some v2 ∧ w.cell? ⟨bx, 3, none⟩ = some v3 ∧ w.cell? ⟨bx, 4, none⟩ = some v4 ∧ w.cell? ⟨bx, 5, none⟩ = some v5 := by
  have g := fun j => cell_of_row w bx j _ _ _ h
  exact ⟨g 0, g 1, g 2, g 3, g 4, g 5⟩
theorem lt_of_cell {w : World} {g o : Nat} {v : Value} (h : w.cell? ⟨g, o, none⟩ = some v) : g < w.heap.size := by
  rcases Nat.lt_or_ge g w.heap.size with x | x
  · exact x
  · unfold World.cell? at h
    simp [Array.getElem?_eq_none x] at h
/-- What always holds of a robot. -/
structure Gd (i : Nat) (z : R) : Prop where
  chg : z.chg ≤ 9223372036854775807
  full : z.full ≤ 9223372036854775807
  idle : z.k ≠ 0 → z.pk = []
  on : z.on = true → z.k = 1
  few : dn z ≤ i
  lot : i ≤ 1000
theorem Gd.told {i : Nat} {z : R} (h : Gd i z) : z.told + 2 < 18446744073709551616 := by
  have h1 := h.few
  have h2 := h.lot
  have h3 : z.told ≤ dn z := Nat.le_add_right _ _
  omega
theorem Gd.more {i j : Nat} {z : R} (h : Gd i z) (hj : i ≤ j) (hl : j ≤ 1000) : Gd j z := ⟨h.chg, h.full, h.idle, h.on, Nat.le_trans h.few hj, hl⟩
theorem cls_one {z : R} (h : z.on = false) : cls z = [z.cell] := by unfold cls; rw [h]; simp
theorem cls_len (z : R) : 1 ≤ (cls z).length ∧ (cls z).length ≤ 2 := by unfold cls; split <;> simp
/-- What is heard changes neither where it is nor what it can go nor what it has done. -/
theorem Gd.hear {i : Nat} {z z' : R} {bs bb : List Nat} (h : Gd i z) (hr : HearR z bs z' bb) : Gd i z' ∧ cls z' = cls z ∧ z'.chg = z.chg ∧ dn z' = dn z := by
  obtain ⟨bd, fr, nh, _, ⟨k, c, p, _, hk, ha, _, rfl⟩ | ⟨_, rfl⟩⟩ := hr
  · have hon : z.on = false := by
      cases ho : z.on
      · rfl
      · have := h.on ho; omega
    have hd : dn { z with heard := nh, k := k, c := c, p := p, told := if z.pk = [] then z.told else z.told + 1, pk := [] } = dn z := by
      unfold dn
      by_cases hp : z.pk = []
      · simp [hp]
      · simp [hp]
    exact ⟨⟨h.chg, h.full, fun _ => rfl, fun e => (by rw [show ({ z with heard := nh, k := k, c := c, p := p, told := if z.pk = [] then z.told else z.told + 1, pk := [] } : R).on = z.on from rfl, hon] at e; cases e), by rw [hd]; exact h.few, h.lot⟩, by rw [cls_one hon]; exact cls_one hon, rfl, hd⟩
  · exact ⟨⟨h.chg, h.full, h.idle, h.on, h.few, h.lot⟩, rfl, rfl, rfl⟩
def hdD (z : R) (bs : List Nat) : R := { z with told := if heB z.told z.pk bs then z.told + 1 else z.told, pk := if heB z.told z.pk bs then [] else z.pk }
theorem Gd.heard {i : Nat} {z : R} (h : Gd i z) (bs : List Nat) : Gd i (hdD z bs) ∧ cls (hdD z bs) = cls z ∧ (hdD z bs).chg = z.chg ∧ dn (hdD z bs) = dn z := by
  cases hb : heB z.told z.pk bs with
  | false =>
    have e : hdD z bs = z := by unfold hdD; rw [hb]; rfl
    rw [e]
    exact ⟨h, rfl, rfl, rfl⟩
  | true =>
    have e : hdD z bs = { z with told := z.told + 1, pk := [] } := by unfold hdD; rw [hb]; rfl
    have hp : z.pk ≠ [] := by
      unfold heB at hb
      rw [Bool.and_eq_true, decide_eq_true_eq] at hb
      exact hb.1
    have hd : dn { z with told := z.told + 1, pk := [] } = dn z := by unfold dn; simp [hp]
    rw [e]
    exact ⟨⟨h.chg, h.full, fun _ => rfl, h.on, by rw [hd]; exact h.few, h.lot⟩, rfl, rfl, hd⟩
/-- What a step comes to. -/
theorem Gd.step {i : Nat} {z : R} (h : Gd i z) (hl : i + 1 ≤ 1000) : Gd (i + 1) (stD z).1 ∧
    (((stD z).2 = true ∧ z.k ≠ 0 ∧ dn (stD z).1 = dn z + 1 ∧ cls (stD z).1 = [(stD z).1.cell]) ∨
     ((stD z).2 = false ∧ dn (stD z).1 = dn z ∧ cls (stD z).1 = [(stD z).1.cell]) ∨
     ((stD z).2 = false ∧ dn (stD z).1 = dn z ∧ z.k = 1 ∧ cls (stD z).1 = [z.cell, z.c] ∧ cls z = [z.cell])) := by
  have hm := h.more (Nat.le_succ i) hl
  have ht := h.told
  have dne : ∀ y : R, y.pk = [] → y.told = z.told → z.pk = [] → dn (dnD y) = dn z + 1 := fun y h1 h2 h3 => by
    unfold dn dnD clr
    simp only [h1, h2, h3]
    rw [if_neg (tl_ne ht), if_pos trivial]
  by_cases hk : z.k = 0
  · rw [st_none hk]
    have hon : z.on = false := by
      cases ho : z.on
      · rfl
      · have := h.on ho; omega
    exact ⟨hm, .inr (.inl ⟨rfl, rfl, cls_one hon⟩)⟩
  · have hp := h.idle hk
    by_cases hk1 : z.k = 1
    · cases ho : z.on with
      | false =>
        rw [st_go hk1 ho]
        by_cases hc : 0 < z.chg
        · rw [lv_yes hc]
          refine ⟨⟨by have := h.chg; show z.chg - 1 ≤ _; omega, h.full, h.idle, fun _ => hk1, Nat.le_succ_of_le h.few, hl⟩, ?_⟩
          by_cases he : z.c = z.cell
          · refine .inr (.inl ⟨rfl, rfl, ?_⟩)
            unfold cls
            simp [he]
          · refine .inr (.inr ⟨rfl, rfl, hk1, ?_, cls_one ho⟩)
            unfold cls
            simp [he]
        · rw [lv_no hc]
          exact ⟨hm, .inr (.inl ⟨rfl, rfl, cls_one ho⟩)⟩
      | true =>
        rw [st_arr hk1 ho]
        have hd := dne (arD z) hp rfl hp
        refine ⟨⟨?_, h.full, fun e => absurd rfl e, fun e => (by cases e), by rw [hd]; have := h.few; omega, hl⟩, .inl ⟨rfl, hk, hd, cls_one rfl⟩⟩
        show (if z.c = z.dock then z.full else z.chg) ≤ _
        split
        · exact h.full
        · exact h.chg
    · rw [st_do hk hk1]
      have hd := dne z hp rfl hp
      exact ⟨⟨h.chg, h.full, fun e => absurd rfl e, fun e => (by cases e), by rw [hd]; have := h.few; omega, hl⟩, .inl ⟨rfl, hk, hd, cls_one rfl⟩⟩
section
variable {w0 w : World} {r h s : Nat} {v : Value} {z : R}
theorem Rs.cells (g : Rs w0 w r h s v z) {L : List Int} {nL : Nat} (hL : cls z = L) (hn : nL = L.length) : Calls Tryd.prog 26 #[.pointer (some ⟨r, 0, none⟩)] w fun e w' => ∃ A c, e = .returned (.slice A nL c) ∧ Bk.Lt w'.heap.size w' A nL c L ∧ Below w.heap.size w w' ∧ ∀ a, A = some a → w.heap.size ≤ a.block := by
  have q := cells_any g.at_
  unfold CellsTold at q
  rw [hL, ← hn] at q
  exact q
theorem Rs.charge (g : Rs w0 w r h s v z) {x : Int} (hx : z.chg = x) : Calls Tryd.prog 28 #[.pointer (some ⟨r, 0, none⟩)] w fun e w' => e = .returned (.int .i64 x) ∧ w = w' := by
  have q := charge_any g.at_
  rw [hx] at q
  exact q
theorem Rs.done (g : Rs w0 w r h s v z) {d : Nat} (hd : dn z = d) : Calls Tryd.prog 29 #[.pointer (some ⟨r, 0, none⟩)] w fun e w' => e = .returned (.int .u64 (d : Int)) ∧ Below w.heap.size w w' := by
  have q := done_any g.at_
  rw [hd] at q
  exact q
end
theorem Gd.new {dock chg : Int} (hc : chg ≤ 9223372036854775807) : Gd 0 (z0 dock chg) := ⟨hc, hc, fun e => absurd rfl e, fun e => (by cases e), Nat.le_refl _, by decide⟩
end Rb
end Go.Proofs.YtobpinelhjpfgaaDoor
