/-
  Layer 9: the law's own functions: lists of numbers that are the same, acts that came in, few, does; the document's examples.
-/
import Derived.Test.YtnbdgijppdiecaaLkE
import Derived.ProofKit
import Derived.Deep.Slices
import Derived.Deep.Fields
import Derived.OpenShut
import Derived.Lib.SmallJoins
set_option linter.unusedVariables false
set_option maxRecDepth 100000
namespace Go.Proofs.Ytnbdgijppdiecaa
namespace Lk
open Go.RowKit Bk

set_option maxHeartbeats 2000000 in
theorem same9_yes (A A' : Option Addr) (n c c' : Nat) (L : List Int) (w : World) (h1 : Lt w.heap.size w A n c L) (h2 : Lt w.heap.size w A' n c' L) (hn : n ≤ 1000000) :
    Calls Try.prog 15 #[.slice A n c, .slice A' n c'] w fun e w' => e = .returned (.bool true) ∧ Below w.heap.size w w' := by
  have H1 := Lib.hid h1
  have H2 := Lib.hid h2
  have hs := Gt.size h1
  have hs1 := hs.1
  have hs2 := hs.2
  have hs' := Gt.size h2
  have hs3 := hs'.1
  have hs4 := hs'.2
  clear h1 h2 hs hs'
  go_enter Try.func15, Try.ntmps15
  go_wp2_with fail
  go_loopw [5] (fun iv wr => ∃ j : Nat, iv = .int .i64 (j : Int) ∧ j ≤ n ∧ Below w.heap.size w wr) (fun iv _ => n - (intOf iv).toNat)
  case atStart => exact ⟨0, rfl, Nat.zero_le _, Below.refl _ _⟩
  case round =>
    rename World => wr
    obtain ⟨j, rfl, hj, hb⟩ := hrel
    have HB := Lib.hid hb
    clear hb
    by_cases hlj : j < n
    · have k1' : Lt wr.heap.size wr A n c L := Gt.later H1.out HB.out
      have k2' : Lt wr.heap.size wr A' n c' L := Gt.later H2.out HB.out
      obtain ⟨g1, o1, rfl, _, k1⟩ := k1'.cell hlj
      obtain ⟨g2, o2, rfl, _, k2⟩ := k2'.cell hlj
      have hjI : (j : Int) < (n : Int) := by omega
      clear k1' k2'
      generalize L.getD j 0 = x at *
      go_wp2_with fail
      go_big_quiet (fail)
      go_wp2_with fail
      go_roundw
      case rel => exact ⟨j + 1, by go_num, by omega, HB.out.trans (Bk.below_drewN _ _ _)⟩
      case measure => simp [intOf]; omega
    · obtain rfl : j = n := by omega
      go_wp2_with fail
      go_ret
      exact ⟨rfl, HB.out⟩

/-- Numbers of one's own, when only the table is written. -/
theorem _root_.Go.Proofs.Ytnbdgijppdiecaa.Bk.Iw.only {w w' : World} {base g : Nat} {v : Value} {L : List Int} {T : List Ow} (h : Iw w base v L) (hT : LkAt w g T) (ho : Only g w w') : Iw w' base v L := by
  refine ownsRow_same h (fun k hk => Turn.block ho k (World.ownsRow.lt h k hk).2 ?_)
  rintro rfl
  obtain ⟨c, fz, hh⟩ := kind9 h _ hk
  have := hh.symm.trans hT.box
  injection this with this
  injection this with _ this _
  revert this
  decide
/-! ### Acts -/
section
open Go.ChangeShapes Go.WideShapes Go.ChangeAt Go.Deep
theorem plain9 {w : World} {x : Addr} {v : Value} (h : w.cell? (x.add 0) = some v) : ∃ g off, x = ⟨g, off, none⟩ ∧ g < w.heap.size := by
  obtain ⟨g, off, spot⟩ := x
  have e0 : (Addr.add ⟨g, off, spot⟩ 0) = ⟨g, off, spot⟩ := by simp [Addr.add]
  rw [e0] at h
  have hs : spot = none := World.cell?_spot h
  subst hs
  exact ⟨g, off, rfl, World.block_lt_of_cell? w _ h⟩
theorem choose9 {α : Type} [Inhabited α] {n : Nat} {P : Nat → α → Prop} (h : ∀ i, i < n → ∃ q, P i q) : ∃ f : Nat → α, ∀ i, i < n → P i (f i) := by
  classical
  exact ⟨fun i => if hi : i < n then Classical.choose (h i hi) else default, fun i hi => by simp only [hi, dite_true]; exact Classical.choose_spec (h i hi)⟩
theorem rows_cells9 {H : Type} {enc : TypeId × Value → H} {P : Program} {W : World} {t e : TypeId} {k : Nat} {fuel : Nat} {a : Option Addr} {len cap : Nat} {x : DataW H × List MemPlace}
    (ht : P.underlying t = some (.slice e)) (hC : P.cellsOf e = k) (h0 : 0 < k)
    (h : DataW.trod enc P W 0 (fun _ => true) true fuel t [.slice a len cap] = some x) :
    (a = none → len = 0 ∧ cap = 0) ∧ len ≤ cap ∧ cap ≤ maxLen ∧ ∀ i, i < len → ∃ g off n cs y, a = some ⟨g, off, none⟩ ∧ g < W.heap.size ∧ cs.length = k ∧
      (∀ j, j < k → W.cell? ⟨g, off + i * k + j, none⟩ = cs[j]?) ∧ DataW.trod enc P W 0 (fun _ => true) true n e cs = some y := by
  rcases open_slice ht h with ⟨hcs, _⟩ | ⟨b, len', cap', m, n, D, Pl, hcs, _, hl, hm, hmm, _, hi⟩
  · simp at hcs
    obtain ⟨rfl, rfl, rfl⟩ := hcs
    exact ⟨fun _ => ⟨rfl, rfl⟩, Nat.le_refl _, Nat.zero_le _, fun i hi => by omega⟩
  · simp at hcs
    obtain ⟨rfl, rfl, rfl⟩ := hcs
    simp at hmm
    refine ⟨fun e => by simp at e, hl, hm, fun i him => ?_⟩
    have hplain : ∃ g off, b = ⟨g, off, none⟩ ∧ g < W.heap.size := by
      obtain ⟨cs0, hc0, _⟩ := hi 0 (by omega)
      rw [hC, Nat.zero_mul] at hc0
      obtain ⟨_, hlen0, hat0⟩ := World.cells?_some hc0
      have h1 := hat0 0 h0
      rw [Go.Deep.add_add, Nat.zero_add, List.getElem?_eq_getElem (by omega)] at h1
      exact plain9 h1
    obtain ⟨g, off, rfl, hg⟩ := hplain
    obtain ⟨cs, hc, htr⟩ := hi i (by omega)
    rw [hC] at hc
    obtain ⟨_, hlen, hat⟩ := World.cells?_some hc
    refine ⟨g, off, _, cs, _, rfl, hg, hlen, fun j hj => ?_, htr⟩
    have h1 := hat j hj
    rw [Go.Deep.add_add, add_at] at h1
    rw [Nat.add_assoc]
    exact h1
/-- Acts lie at a slice that came in, in three cells each. -/
structure Acts9 (B : Nat) (w : World) (A : Option Addr) (n cap : Nat) (f : Nat → Bool × Int × Int) : Prop where
  le : n ≤ cap
  max : cap ≤ maxLen
  nil : A = none → cap = 0
  cell : 0 < n → ∃ g off, A = some ⟨g, off, none⟩ ∧ g < B ∧ ∀ j, j < n → w.cell? ⟨g, off + j * 3, none⟩ = some (.bool (f j).1) ∧ w.cell? ⟨g, off + j * 3 + 1, none⟩ = some (.int .i64 (f j).2.1) ∧ w.cell? ⟨g, off + j * 3 + 2, none⟩ = some (.int .i64 (f j).2.2)
theorem Acts9.below {B : Nat} {w w' : World} {A : Option Addr} {n cap : Nat} {f : Nat → Bool × Int × Int} (h : Acts9 B w A n cap f) (hb : Below B w w') : Acts9 B w' A n cap f :=
  ⟨h.le, h.max, h.nil, fun hn => by
    obtain ⟨g, off, e, hg, hc⟩ := h.cell hn
    exact ⟨g, off, e, hg, fun j hj => ⟨(hb.cell (p := ⟨g, off + j * 3, none⟩) hg).trans (hc j hj).1, (hb.cell (p := ⟨g, off + j * 3 + 1, none⟩) hg).trans (hc j hj).2.1, (hb.cell (p := ⟨g, off + j * 3 + 2, none⟩) hg).trans (hc j hj).2.2⟩⟩⟩
theorem open_acts9 {H : Type} {enc : TypeId × Value → H} {W : World} {a : Option Addr} {len cap : Nat} {d : DataW H} {p : List MemPlace}
    (h : DataW.Trod enc Try.prog W 0 (fun _ => true) true 22 (.slice a len cap) d p) :
    ∃ f : Nat → Bool × Int × Int, Acts9 W.heap.size W a len cap f ∧ True := by
  obtain ⟨fuel, hf⟩ := h
  have hf' : DataW.trod enc Try.prog W 0 (fun _ => true) true fuel 22 [.slice a len cap] = some (d, p) := by simpa [Value.cells] using hf
  obtain ⟨h1, h2, h3, h4⟩ := rows_cells9 (k := 3) Try.underlying22 (by kernel_rfl) (by decide) hf'
  have h5 : ∀ i, i < len → ∃ q : Bool × Int × Int, ∃ g off, a = some ⟨g, off, none⟩ ∧ g < W.heap.size ∧
      W.cell? ⟨g, off + i * 3, none⟩ = some (.bool q.1) ∧ W.cell? ⟨g, off + i * 3 + 1, none⟩ = some (.int .i64 q.2.1) ∧ W.cell? ⟨g, off + i * 3 + 2, none⟩ = some (.int .i64 q.2.2) := fun i hi => by
    obtain ⟨g, off, n, cs, y, ha, hg, hl, hc, ht⟩ := h4 i hi
    have hc0 := hc 0 (by omega)
    have hc1 := hc 1 (by omega)
    have hc2 := hc 2 (by omega)
    obtain ⟨u0, u1, u2, rfl⟩ : ∃ u0 u1 u2, cs = [u0, u1, u2] := by
      match cs, hl with
      | [u0, u1, u2], _ => exact ⟨u0, u1, u2, rfl⟩
    obtain ⟨xs, n', _, _, _, hxl, hfs⟩ := DataW.trod_struct Try.underlying32 ht
    have k0 := hfs 0 _ rfl
    have k1 := hfs 1 _ rfl
    have k2 := hfs 2 _ rfl
    have q0 : Try.prog.cellsOf 4 = 1 := by kernel_rfl
    have q2 : Try.prog.cellsOf 3 = 1 := by kernel_rfl
    simp [q0, q2] at k0 k1 k2
    simp at hxl
    obtain ⟨y0, y1, y2, rfl⟩ : ∃ y0 y1 y2, xs = [y0, y1, y2] := by
      match xs, hxl with
      | [y0, y1, y2], _ => exact ⟨y0, y1, y2, rfl⟩
    simp at k0 k1 k2
    obtain ⟨b0, e0, _⟩ := DataW.trod_bool Try.underlying4 k0
    obtain ⟨n1, e1, _, w1⟩ := DataW.trod_int Try.underlying3 k1
    obtain ⟨n2, e2, _, w2⟩ := DataW.trod_int Try.underlying3 k2
    simp at e0 e1 e2
    subst e0 e1 e2
    exact ⟨(b0, n1, n2), g, off, ha, hg, hc0, hc1, hc2⟩
  obtain ⟨f, hff⟩ := choose9 h5
  refine ⟨f, ⟨h2, h3, fun e => (h1 e).2, fun hn => ?_⟩, trivial⟩
  obtain ⟨g, off, ha, hg, _⟩ := hff 0 hn
  refine ⟨g, off, ha, hg, fun j hj => ?_⟩
  obtain ⟨g2, off2, ha2, hg2, c0, c1, c2⟩ := hff j hj
  rw [ha] at ha2
  injection ha2 with ha2
  injection ha2 with e1 e2
  subst e1 e2
  exact ⟨c0, c1, c2⟩
end
theorem few9_any (A : Option Addr) (n cap : Nat) (w : World) (hle : n ≤ cap) (hmax : cap ≤ maxLen) (hnil : A = none → cap = 0) :
    Calls Try.prog 9 #[.slice A n cap] w fun e w' => w = w' ∧ ∃ m, m ≤ n ∧ m ≤ 300 ∧ e = .returned (.slice A m cap) := by
  unfold maxLen at hmax
  cases A with
  | none =>
    obtain rfl : cap = 0 := hnil rfl
    obtain rfl : n = 0 := by omega
    clear hnil
    go_enter Try.func9, Try.ntmps9
    go_wp2
    go_ret
    exact ⟨rfl, 0, by omega, by omega, rfl⟩
  | some ad =>
    clear hnil
    by_cases hl : (n : Int) ≤ 300
    · go_enter Try.func9, Try.ntmps9
      go_wp2
      go_ret
      exact ⟨rfl, n, by omega, by omega, rfl⟩
    · have hl3 : (300 : Int) ≤ (cap : Int) := by omega
      go_enter Try.func9, Try.ntmps9
      go_wp2
      go_ret
      exact ⟨rfl, 300, by omega, by omega, rfl⟩
/-- An act's box. -/
def Ab (D : Nat) (q : Bool) (r z : Int) (w : World) : Prop := w.heap[D]? = some (.cells #[.bool q, .int .i64 r, .int .i64 z] 32 (0, 0))
theorem Ab.cells {D : Nat} {q : Bool} {r z : Int} {w : World} (h : Ab D q r z w) : w.cell? ⟨D, 0, none⟩ = some (.bool q) ∧ w.cell? ⟨D, 1, none⟩ = some (.int .i64 r) ∧ w.cell? ⟨D, 2, none⟩ = some (.int .i64 z) ∧ D < w.heap.size :=
  ⟨by rw [cell_of_row w D 0 _ _ _ h]; rfl, by rw [cell_of_row w D 1 _ _ _ h]; rfl, by rw [cell_of_row w D 2 _ _ _ h]; rfl, lt_of_heap h⟩
theorem Ab.new (w : World) (q : Bool) (r z : Int) : Ab w.heap.size q r z (w.alloc (.cells #[.bool q, .int .i64 r, .int .i64 z] 32)) := heap_alloc_new w _
theorem Ab.later {D : Nat} {q : Bool} {r z : Int} {w w' : World} (h : Ab D q r z w) (hb : Below w.heap.size w w') : Ab D q r z w' := (hb.block D (lt_of_heap h)).trans h
theorem Ab.kept {D : Nat} {q : Bool} {r z : Int} {w w' : World} (h : Ab D q r z w) (hk : Kept9 w w') : Ab D q r z w' := (hk.2 D _ _ _ h (by decide) (by decide)).trans h
theorem Ab.only {D g : Nat} {q : Bool} {r z : Int} {w w' : World} {T : List Ow} (h : Ab D q r z w) (hT : LkAt w g T) (ho : Only g w w') : Ab D q r z w' := by
  refine (Turn.block ho D (lt_of_heap h) ?_).trans h
  rintro rfl
  have := h.symm.trans hT.box
  injection this with this
  injection this with _ this _
  revert this
  decide
set_option maxHeartbeats 2000000 in
theorem does9_any {w : World} {g : Nat} {T : List Ow} (h : LkAt w g T) (q : Bool) (r z : Int) : Calls Try.prog 10 #[.pointer (some ⟨g, 0, none⟩), .agg #[.bool q, .int .i64 r, .int .i64 z]] w (ToldA (act9 T q r z) g w) := by
  have HA := Lib.hid ((Below.refl w.heap.size w).alloc (Nat.le_refl _) (.cells #[.bool q, .int .i64 r, .int .i64 z] 32))
  have HT := Lib.hid (h.later HA.out)
  obtain ⟨c0, c1, c2, c3⟩ := (Ab.new w q r z).cells
  have HO := Lib.hid (Only.of (g := g) HA.out)
  clear h HA
  cases q with
  | true =>
    show Calls _ _ _ _ (ToldA (rel9 T r z) g w)
    go_enter Try.func10, Try.ntmps10
    go_wp2_with fail
    refine (release9_any HT.out r z).mono ?_
    rintro e w' ⟨rfl, h1, h2⟩
    have HH := Lib.hid (And.intro h1 (HO.out.trans h2))
    clear h1 h2
    go_wp2_with fail
    go_ret
    exact ⟨rfl, HH.out⟩
  | false =>
    show Calls _ _ _ _ (ToldA (hold9 T r z) g w)
    go_enter Try.func10, Try.ntmps10
    go_wp2_with fail
    refine (hold9_any HT.out r z).mono ?_
    rintro e w' ⟨rfl, h1, h2⟩
    have HH := Lib.hid (And.intro h1 (HO.out.trans h2))
    clear h1 h2
    go_wp2_with fail
    go_ret
    exact ⟨rfl, HH.out⟩
set_option maxHeartbeats 2000000 in
theorem shown9_any (w : World) : Calls Try.prog 7 #[] w fun e w' => e = .returned (.bool true) ∧ Below w.heap.size w w' := by
  have HN := Lib.hid (LkAt.new w)
  have HA := Lib.hid ((Below.refl w.heap.size w).alloc (Nat.le_refl _) (.cells (ocl T0).toArray 51))
  go_enter Try.func7, Try.ntmps7
  go_wp2_with (go_at_call 8; refine (new9_any _).mono ?_; rintro e w1 ⟨rfl, hw1⟩; rw [← hw1] at HN HA; clear hw1)
  refine (hold9_any HN.out 1 5).mono ?_
  rintro e w2 ⟨rfl, h2, o2⟩
  rw [show (hold9 T0 1 5).1 = 0 by decide]
  have H2 := Lib.hid h2
  have O2 := Lib.hid o2
  clear h2 o2
  go_wp2_with fail
  refine (hold9_any H2.out 2 5).mono ?_
  rintro e w3 ⟨rfl, h3, o3⟩
  rw [show (hold9 (hold9 T0 1 5).2 2 5).1 = 3 by decide]
  have H3 := Lib.hid h3
  have O3 := Lib.hid (O2.out.trans o3)
  clear h3 o3
  go_wp2_with fail
  refine (owner9_any H3.out 5).mono ?_
  rintro e w4 ⟨rfl, b4⟩
  rw [show (at9 (hold9 (hold9 T0 1 5).2 2 5).2 5).1 = 1 by decide, show (at9 (hold9 (hold9 T0 1 5).2 2 5).2 5).2 = true by decide]
  have H4 := Lib.hid (H3.out.later b4)
  have O4 := Lib.hid (O3.out.trans (Only.of b4))
  clear b4
  go_wp2_with fail
  refine (release9_any H4.out 2 5).mono ?_
  rintro e w5 ⟨rfl, h5, o5⟩
  rw [show (rel9 (hold9 (hold9 T0 1 5).2 2 5).2 2 5).1 = 2 by decide]
  have H5 := Lib.hid h5
  have O5 := Lib.hid (O4.out.trans o5)
  clear h5 o5
  go_wp2_with fail
  refine (release9_any H5.out 1 5).mono ?_
  rintro e w6 ⟨rfl, h6, o6⟩
  rw [show (rel9 (rel9 (hold9 (hold9 T0 1 5).2 2 5).2 2 5).2 1 5).1 = 0 by decide]
  have O6 := Lib.hid (O5.out.trans o6)
  clear h6 o6
  go_wp2_with fail
  go_ret
  exact ⟨rfl, HA.out.trans (O6.out.below HA.out.size (Nat.le_refl _))⟩
end Lk
end Go.Proofs.Ytnbdgijppdiecaa
