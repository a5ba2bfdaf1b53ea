/-
  Layer 16: the law's own functions: acts that came in, few.
-/
import Derived.Test.YtnamnikelgcepaaJrL
import Derived.ProofKit
import Derived.Deep.Slices
import Derived.Deep.Fields
import Derived.OpenShut
import Derived.Lib.SmallJoins
import Derived.LaidMore
set_option linter.unusedVariables false
set_option maxRecDepth 100000
namespace Go.Proofs.Ytnamnikelgcepaa
namespace Jr
open Go.RowKit Bk Nw Bp Ck
open Dk (IW)
section
open Go.ChangeShapes Go.WideShapes Go.ChangeAt Go.Deep Go.Joins
theorem plain16 {w : World} {x : Addr} {v : Value} (h : w.cell? (x.add 0) = some v) : ∃ g off, x = ⟨g, off, none⟩ ∧ g < w.heap.size := by
  obtain ⟨g, off, spot⟩ := x
  have e0 : (Addr.add ⟨g, off, spot⟩ 0) = ⟨g, off, spot⟩ := by simp [Addr.add]
  rw [e0] at h
  have hs : spot = none := World.cell?_spot h
  subst hs
  exact ⟨g, off, rfl, World.block_lt_of_cell? w _ h⟩
theorem choose16 {α : Type} [Inhabited α] {n : Nat} {P : Nat → α → Prop} (h : ∀ i, i < n → ∃ q, P i q) : ∃ f : Nat → α, ∀ i, i < n → P i (f i) := by
  classical
  exact ⟨fun i => if hi : i < n then Classical.choose (h i hi) else default, fun i hi => by simp only [hi, dite_true]; exact Classical.choose_spec (h i hi)⟩
theorem rows_cells16 {H : Type} {enc : TypeId × Value → H} {P : Program} {W : World} {t e : TypeId} {k : Nat} {fuel : Nat} {a : Option Addr} {len cap : Nat} {x : DataW H × List MemPlace}
    (ht : P.underlying t = some (.slice e)) (hC : P.cellsOf e = k) (h0 : 0 < k)
    (h : DataW.trod enc P W 0 (fun _ => true) true fuel t [.slice a len cap] = some x) :
    (a = none → len = 0 ∧ cap = 0) ∧ len ≤ cap ∧ cap ≤ maxLen ∧ ∀ i, i < len → ∃ g off n cs y, a = some ⟨g, off, none⟩ ∧ g < W.heap.size ∧ cs.length = k ∧
      (∀ j, j < k → W.cell? ⟨g, off + i * k + j, none⟩ = cs[j]?) ∧ DataW.trod enc P W 0 (fun _ => true) true n e cs = some y := by
  rcases open_slice ht h with ⟨hcs, _⟩ | ⟨b, len', cap', m, n, D, Pl, hcs, _, hl, hm, hmm, _, hi⟩
  · simp at hcs
    obtain ⟨rfl, rfl, rfl⟩ := hcs
    exact ⟨fun _ => ⟨rfl, rfl⟩, Nat.le_refl _, Nat.zero_le _, fun i hi => by omega⟩
  · simp at hcs
    obtain ⟨rfl, rfl, rfl⟩ := hcs
    simp at hmm
    refine ⟨fun e => by simp at e, hl, hm, fun i him => ?_⟩
    have hplain : ∃ g off, b = ⟨g, off, none⟩ ∧ g < W.heap.size := by
      obtain ⟨cs0, hc0, _⟩ := hi 0 (by omega)
      rw [hC, Nat.zero_mul] at hc0
      obtain ⟨_, hlen0, hat0⟩ := World.cells?_some hc0
      have h1 := hat0 0 h0
      rw [Go.Deep.add_add, Nat.zero_add, List.getElem?_eq_getElem (by omega)] at h1
      exact plain16 h1
    obtain ⟨g, off, rfl, hg⟩ := hplain
    obtain ⟨cs, hc, htr⟩ := hi i (by omega)
    rw [hC] at hc
    obtain ⟨_, hlen, hat⟩ := World.cells?_some hc
    refine ⟨g, off, _, cs, _, rfl, hg, hlen, fun j hj => ?_, htr⟩
    have h1 := hat j hj
    rw [Go.Deep.add_add, add_at] at h1
    rw [Nat.add_assoc]
    exact h1
theorem open_bytes16 {H : Type} {enc : TypeId × Value → H} {W : World} {fuel : Nat} {a : Option Addr} {len cap : Nat} {x : DataW H × List MemPlace}
    (hf : DataW.trod enc Try.prog W 0 (fun _ => true) true fuel 22 [.slice a len cap] = some x) : ∃ s : ByteArray, Yb W.heap.size W a len cap s := by
  obtain ⟨h1, h2, h3, h4⟩ := rows_cells16 (k := 1) Try.underlying22 (by kernel_rfl) (by decide) hf
  have h5 : ∀ i, i < len → ∃ q : Int, (0 ≤ q ∧ q ≤ 255) ∧ ∃ g off, a = some ⟨g, off, none⟩ ∧ g < W.heap.size ∧ W.cell? ⟨g, off + i, none⟩ = some (.int .u8 q) := fun i hi => by
    obtain ⟨g, off, n, cs, y, ha, hg, hl, hc, ht⟩ := h4 i hi
    have hc0 := hc 0 (by omega)
    obtain ⟨u0, rfl⟩ : ∃ u0, cs = [u0] := by
      match cs, hl with
      | [u0], _ => exact ⟨u0, rfl⟩
    obtain ⟨m0, e0, _, w0⟩ := DataW.trod_int Try.underlying5 ht
    simp at e0
    subst e0
    refine ⟨m0, by simpa [Lit.wf, IntKind.min, IntKind.max, IntKind.signed, IntKind.bits] using w0, g, off, ha, hg, ?_⟩
    have := hc0
    rwa [Nat.mul_one, Nat.add_zero] at this
  obtain ⟨f, hff⟩ := choose16 h5
  refine ⟨strOfNums ((List.range len).map f), (List.range len).map f, ⟨by simp [u8s], h2, h3, fun e => (h1 e).2, fun hn => ?_⟩, rfl, fun z hz => by
    obtain ⟨i, hi, rfl⟩ := List.mem_map.1 hz
    exact (hff i (List.mem_range.1 hi)).1⟩
  obtain ⟨_, g, off, ha, hg, _⟩ := hff 0 hn
  refine ⟨g, off, ha, hg, fun j hj => ?_⟩
  obtain ⟨_, g2, off2, ha2, hg2, hc⟩ := hff j (by omega)
  rw [ha] at ha2
  injection ha2 with ha2
  injection ha2 with e1 e2
  subst e1 e2
  rw [hc]
  have hj' : j < len := by omega
  simp [u8s, hj']
/-- An act: its kind, its bytes' text, its place. -/
abbrev A16 := Nat × ByteArray × Int
/-- Acts lie at a slice that came in, in three cells each. -/
structure Acts16 (B : Nat) (w : World) (A : Option Addr) (n cap : Nat) (f : Nat → A16) : Prop where
  le : n ≤ cap
  max : cap ≤ maxLen
  nil : A = none → cap = 0
  cell : 0 < n → ∃ g off, A = some ⟨g, off, none⟩ ∧ g < B ∧ ∀ j, j < n → w.cell? ⟨g, off + j * 3, none⟩ = some (.int .u8 ((f j).1 : Int)) ∧ (∃ A1 n1 c1, w.cell? ⟨g, off + j * 3 + 1, none⟩ = some (.slice A1 n1 c1) ∧ Yb B w A1 n1 c1 (f j).2.1) ∧ w.cell? ⟨g, off + j * 3 + 2, none⟩ = some (.int .i64 (f j).2.2)
  fits : ∀ j, j < n → (f j).1 ≤ 255 ∧ IW (f j).2.2
theorem Acts16.below {B : Nat} {w w' : World} {A : Option Addr} {n cap : Nat} {f : Nat → A16} (h : Acts16 B w A n cap f) (hb : Below B w w') : Acts16 B w' A n cap f :=
  ⟨h.le, h.max, h.nil, fun hn => by
    obtain ⟨g, off, e, hg, hc⟩ := h.cell hn
    refine ⟨g, off, e, hg, fun j hj => ?_⟩
    obtain ⟨c0, ⟨A1, n1, c1, k1, k2⟩, c2⟩ := hc j hj
    exact ⟨(hb.cell (p := ⟨g, off + j * 3, none⟩) hg).trans c0, ⟨A1, n1, c1, (hb.cell (p := ⟨g, off + j * 3 + 1, none⟩) hg).trans k1, k2.below hb⟩, (hb.cell (p := ⟨g, off + j * 3 + 2, none⟩) hg).trans c2⟩, h.fits⟩
theorem open_cells16 {H : Type} {enc : TypeId × Value → H} {W : World} {n : Nat} {cs : List Value} {y : DataW H × List MemPlace} (hl : cs.length = 3) (ht : DataW.trod enc Try.prog W 0 (fun _ => true) true n 42 cs = some y) :
    ∃ (q : A16) (A : Option Addr) (m c : Nat), cs = [.int .u8 (q.1 : Int), .slice A m c, .int .i64 q.2.2] ∧ q.1 ≤ 255 ∧ IW q.2.2 ∧ Yb W.heap.size W A m c q.2.1 := by
  obtain ⟨u0, u1, u2, rfl⟩ : ∃ u0 u1 u2, cs = [u0, u1, u2] := by
    match cs, hl with
    | [u0, u1, u2], _ => exact ⟨u0, u1, u2, rfl⟩
  obtain ⟨xs, n', _, _, _, hxl, hfs⟩ := DataW.trod_struct Try.underlying42 ht
  have k0 := hfs 0 _ rfl
  have k1 := hfs 1 _ rfl
  have k2 := hfs 2 _ rfl
  have q0 : Try.prog.cellsOf 5 = 1 := by kernel_rfl
  have q1 : Try.prog.cellsOf 22 = 1 := by kernel_rfl
  have q2 : Try.prog.cellsOf 3 = 1 := by kernel_rfl
  simp [q0, q1, q2] at k0 k1 k2
  simp at hxl
  obtain ⟨y0, y1, y2, rfl⟩ : ∃ y0 y1 y2, xs = [y0, y1, y2] := by
    match xs, hxl with
    | [y0, y1, y2], _ => exact ⟨y0, y1, y2, rfl⟩
  simp at k0 k1 k2
  obtain ⟨n0, e0, _, w0⟩ := DataW.trod_int Try.underlying5 k0
  obtain ⟨a1, l1, c1, e1⟩ := slice_form Try.underlying22 k1
  obtain ⟨n2, e2, _, w2⟩ := DataW.trod_int Try.underlying3 k2
  simp at e0 e1 e2
  subst e0 e1 e2
  have b0 : 0 ≤ n0 ∧ n0 ≤ 255 := by simpa [Lit.wf, IntKind.min, IntKind.max, IntKind.signed, IntKind.bits] using w0
  have b2 : -9223372036854775808 ≤ n2 ∧ n2 ≤ 9223372036854775807 := by simpa [Lit.wf, IntKind.min, IntKind.max, IntKind.signed, IntKind.bits] using w2
  obtain ⟨m0, rfl⟩ := Int.eq_ofNat_of_zero_le b0.1
  obtain ⟨s, hs⟩ := open_bytes16 k1
  exact ⟨(m0, s, n2), a1, l1, c1, rfl, by have := b0.2; show m0 ≤ 255; omega, b2, hs⟩
theorem open_acts16 {H : Type} {enc : TypeId × Value → H} {W : World} {a : Option Addr} {len cap : Nat} {d : DataW H} {p : List MemPlace}
    (h : DataW.Trod enc Try.prog W 0 (fun _ => true) true 23 (.slice a len cap) d p) :
    ∃ f : Nat → A16, Acts16 W.heap.size W a len cap f ∧ True := by
  obtain ⟨fuel, hf⟩ := h
  have hf' : DataW.trod enc Try.prog W 0 (fun _ => true) true fuel 23 [.slice a len cap] = some (d, p) := by simpa [Value.cells] using hf
  obtain ⟨h1, h2, h3, h4⟩ := rows_cells16 (k := 3) Try.underlying23 (by kernel_rfl) (by decide) hf'
  have h5 : ∀ i, i < len → ∃ q : A16, ∃ g off, a = some ⟨g, off, none⟩ ∧ g < W.heap.size ∧ q.1 ≤ 255 ∧ IW q.2.2 ∧
      W.cell? ⟨g, off + i * 3, none⟩ = some (.int .u8 (q.1 : Int)) ∧ (∃ A1 n1 c1, W.cell? ⟨g, off + i * 3 + 1, none⟩ = some (.slice A1 n1 c1) ∧ Yb W.heap.size W A1 n1 c1 q.2.1) ∧ W.cell? ⟨g, off + i * 3 + 2, none⟩ = some (.int .i64 q.2.2) := fun i hi => by
    obtain ⟨g, off, n, cs, y, ha, hg, hl, hc, ht⟩ := h4 i hi
    obtain ⟨q, A, m, c, rfl, hq1, hq2, hq3⟩ := open_cells16 hl ht
    exact ⟨q, g, off, ha, hg, hq1, hq2, hc 0 (by omega), ⟨A, m, c, hc 1 (by omega), hq3⟩, hc 2 (by omega)⟩
  obtain ⟨f, hff⟩ := choose16 h5
  refine ⟨f, ⟨h2, h3, fun e => (h1 e).2, fun hn => ?_, fun j hj => ?_⟩, trivial⟩
  · obtain ⟨g, off, ha, hg, _⟩ := hff 0 hn
    refine ⟨g, off, ha, hg, fun j hj => ?_⟩
    obtain ⟨g2, off2, ha2, hg2, _, _, c0, c1, c2⟩ := hff j hj
    rw [ha] at ha2
    injection ha2 with ha2
    injection ha2 with e1 e2
    subst e1 e2
    exact ⟨c0, c1, c2⟩
  · obtain ⟨g, off, ha, hg, h1, h2, _⟩ := hff j hj
    exact ⟨h1, h2⟩
theorem open_act16 {H : Type} {enc : TypeId × Value → H} {W : World} {r : Reach} {b0 : Nat} {v : Value} {d : DataW H} {p : List MemPlace}
    (hv : Value.okWide Try.prog W r b0 42 v) (h : DataW.Trod enc Try.prog W 0 (fun _ => true) true 42 v d p) :
    ∃ (q : A16) (A : Option Addr) (m c : Nat), v = .agg #[.int .u8 (q.1 : Int), .slice A m c, .int .i64 q.2.2] ∧ q.1 ≤ 255 ∧ IW q.2.2 ∧ Yb W.heap.size W A m c q.2.1 := by
  obtain ⟨cs, rfl, hsz⟩ := okWide_struct Try.underlying42 hv
  have hC : Try.prog.cellsOf 42 = 3 := by kernel_rfl
  rw [hC] at hsz
  obtain ⟨l, rfl⟩ : ∃ l : List Value, cs = l.toArray := ⟨cs.toList, by simp⟩
  obtain ⟨fuel, hf⟩ := h
  have hf' : DataW.trod enc Try.prog W 0 (fun _ => true) true fuel 42 l = some (d, p) := by simpa [Value.cells] using hf
  obtain ⟨q, A, m, c, e, h1, h2, h3⟩ := open_cells16 (by simpa using hsz) hf'
  exact ⟨q, A, m, c, by rw [e], h1, h2, h3⟩
end
/-- The first so many of the acts. -/
def FewTold (A : Option Addr) (n cap : Nat) (f : Nat → A16) (w : World) (e : Ending) (w' : World) : Prop := w = w' ∧ ∃ m, m ≤ n ∧ m ≤ 60 ∧ e = .returned (.slice A m cap) ∧ ∀ j, j < m → (f j).2.1.size ≤ 10000
theorem few_any (A : Option Addr) (n cap : Nat) (f : Nat → A16) (w : World) (h : Acts16 w.heap.size w A n cap f) :
    Calls Try.prog 16 #[.slice A n cap] w (FewTold A n cap f w) := by
  have hle := h.le
  have hmax := h.max
  unfold maxLen at hmax
  have HA := Lib.hid h
  clear h
  go_enter Try.func16, Try.ntmps16
  go_wp2_with fail
  go_loopw [3, 7] (fun lv iv wr => ∃ (j k : Nat), lv = .int .i64 (k : Int) ∧ iv = .int .i64 (j : Int) ∧ j ≤ n ∧ j ≤ 60 ∧ k ≤ 10000 ∧ w = wr ∧ Hid (∀ t, t < j → (f t).2.1.size ≤ 10000)) (fun _ iv _ => n - (intOf iv).toNat)
  case atStart => exact ⟨0, 10000, rfl, rfl, Nat.zero_le _, Nat.zero_le _, Nat.le_refl _, rfl, Lib.hid (fun t ht => by omega)⟩
  case round =>
    obtain ⟨j, k, rfl, rfl, hj, hj2, hk, rfl, HI⟩ := hrel
    by_cases hlj : j < n
    · obtain ⟨g, off, rfl, _, hc⟩ := HA.out.cell (by omega)
      obtain ⟨k0, ⟨A1, n1, c1, k1, hy⟩, k2⟩ := hc j hlj
      have HS := Lib.hid hy.size
      have hs1 := (show n1 ≤ c1 ∧ c1 ≤ 9223372036854775807 from by obtain ⟨zs, hz, _⟩ := hy; exact hz.size)
      have hjI : (j : Int) < (n : Int) := by omega
      have hjc : (j : Int) ≤ (cap : Int) := by omega
      clear hc hy
      by_cases h60 : j = 60
      · subst h60
        go_wp2_with fail
        go_ret
        exact ⟨rfl, 60, by omega, by omega, rfl, HI.out⟩
      · have d60 : decide ((60 : Int) ≤ (j : Int)) = false := decide_eq_false (by omega)
        by_cases hs : k < n1
        · have d1 : decide ((k : Int) < (n1 : Int)) = true := decide_eq_true (by omega)
          go_wp2_with fail
          go_ret
          exact ⟨rfl, j, by omega, by omega, rfl, HI.out⟩
        · have d1 : decide ((k : Int) < (n1 : Int)) = false := decide_eq_false (by omega)
          have e1 : (k : Int) - (n1 : Int) = ((k - n1 : Nat) : Int) := by omega
          go_wp2_with fail
          go_roundw
          case rel => exact ⟨j + 1, k - n1, by go_num, by go_num, by omega, by omega, by omega, (by first | trivial | rfl), Lib.hid (fun t ht => by
            rcases Nat.lt_or_ge t j with q | q
            · exact HI.out t q
            · obtain rfl : t = j := by omega
              rw [HS.out]; omega)⟩
          case measure => simp [intOf]; omega
    · obtain rfl : j = n := by omega
      go_wp2_with fail
      go_ret
      exact ⟨rfl, j, by omega, by omega, rfl, HI.out⟩
theorem acts_raise {B B' : Nat} {w : World} {A : Option Addr} {n cap : Nat} {f : Nat → A16} (h : Acts16 B w A n cap f) (hb : B ≤ B') : Acts16 B' w A n cap f :=
  ⟨h.le, h.max, h.nil, fun hn => by
    obtain ⟨g, off, e, hg, hc⟩ := h.cell hn
    refine ⟨g, off, e, Nat.lt_of_lt_of_le hg hb, fun j hj => ?_⟩
    obtain ⟨c0, ⟨A1, n1, c1, k1, k2⟩, c2⟩ := hc j hj
    exact ⟨c0, ⟨A1, n1, c1, k1, k2.raise hb⟩, c2⟩, h.fits⟩
section
open Go.Maps
open Dk (D DAt DF)
/-- An act's box. -/
theorem box_turn {w w' : World} {b j g n bx : Nat} {v : Value} {d : D} {cs : Array Value} {F' : Nat → Prop} (hx : w.heap[bx]? = some (.cells cs 42 (0, 0))) (hj : JAt w b j g v d n) (ht : Turn (JF j g v) F' w w') : w'.heap[bx]? = some (.cells cs 42 (0, 0)) :=
  (ht.block bx (lt_of_heap hx) (fun hf => by
    obtain ⟨c2, t2, fz2, hh2, ht2⟩ := hj.kind bx hf
    have := kind_ne hx hh2
    subst this
    revert ht2
    decide)).trans hx
theorem box_cells {w : World} {bx : Nat} {x : Int} {A : Option Addr} {n c : Nat} {i : Int} (hx : w.heap[bx]? = some (.cells #[.int .u8 x, .slice A n c, .int .i64 i] 42 (0, 0))) : w.cell? ⟨bx, 0, none⟩ = some (.int .u8 x) ∧ w.cell? ⟨bx, 1, none⟩ = some (.slice A n c) ∧ w.cell? ⟨bx, 2, none⟩ = some (.int .i64 i) :=
  ⟨by rw [cell_of_row _ bx 0 _ _ _ hx]; rfl, by rw [cell_of_row _ bx 1 _ _ _ hx]; rfl, by rw [cell_of_row _ bx 2 _ _ _ hx]; rfl⟩
end
end Jr
end Go.Proofs.Ytnamnikelgcepaa
