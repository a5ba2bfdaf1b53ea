/-
  Layer 12: the law's own functions: acts that came in, few; two like lists; the document's examples.
-/
import Derived.Test.YtgeahckblgpnmaaAgE
import Derived.ProofKit
import Derived.Deep.Slices
import Derived.Deep.Fields
import Derived.OpenShut
import Derived.Lib.SmallJoins
set_option linter.unusedVariables false
set_option maxRecDepth 100000
namespace Go.Proofs.Ytgeahckblgpnmaa
namespace Ag
open Go.RowKit Bk
section
open Go.ChangeShapes Go.WideShapes Go.ChangeAt Go.Deep
theorem plain12 {w : World} {x : Addr} {v : Value} (h : w.cell? (x.add 0) = some v) : ∃ g off, x = ⟨g, off, none⟩ ∧ g < w.heap.size := by
  obtain ⟨g, off, spot⟩ := x
  have e0 : (Addr.add ⟨g, off, spot⟩ 0) = ⟨g, off, spot⟩ := by simp [Addr.add]
  rw [e0] at h
  have hs : spot = none := World.cell?_spot h
  subst hs
  exact ⟨g, off, rfl, World.block_lt_of_cell? w _ h⟩
theorem choose12 {α : Type} [Inhabited α] {n : Nat} {P : Nat → α → Prop} (h : ∀ i, i < n → ∃ q, P i q) : ∃ f : Nat → α, ∀ i, i < n → P i (f i) := by
  classical
  exact ⟨fun i => if hi : i < n then Classical.choose (h i hi) else default, fun i hi => by simp only [hi, dite_true]; exact Classical.choose_spec (h i hi)⟩
theorem rows_cells12 {H : Type} {enc : TypeId × Value → H} {P : Program} {W : World} {t e : TypeId} {k : Nat} {fuel : Nat} {a : Option Addr} {len cap : Nat} {x : DataW H × List MemPlace}
    (ht : P.underlying t = some (.slice e)) (hC : P.cellsOf e = k) (h0 : 0 < k)
    (h : DataW.trod enc P W 0 (fun _ => true) true fuel t [.slice a len cap] = some x) :
    (a = none → len = 0 ∧ cap = 0) ∧ len ≤ cap ∧ cap ≤ maxLen ∧ ∀ i, i < len → ∃ g off n cs y, a = some ⟨g, off, none⟩ ∧ g < W.heap.size ∧ cs.length = k ∧
      (∀ j, j < k → W.cell? ⟨g, off + i * k + j, none⟩ = cs[j]?) ∧ DataW.trod enc P W 0 (fun _ => true) true n e cs = some y := by
  rcases open_slice ht h with ⟨hcs, _⟩ | ⟨b, len', cap', m, n, D, Pl, hcs, _, hl, hm, hmm, _, hi⟩
  · simp at hcs
    obtain ⟨rfl, rfl, rfl⟩ := hcs
    exact ⟨fun _ => ⟨rfl, rfl⟩, Nat.le_refl _, Nat.zero_le _, fun i hi => by omega⟩
  · simp at hcs
    obtain ⟨rfl, rfl, rfl⟩ := hcs
    simp at hmm
    refine ⟨fun e => by simp at e, hl, hm, fun i him => ?_⟩
    have hplain : ∃ g off, b = ⟨g, off, none⟩ ∧ g < W.heap.size := by
      obtain ⟨cs0, hc0, _⟩ := hi 0 (by omega)
      rw [hC, Nat.zero_mul] at hc0
      obtain ⟨_, hlen0, hat0⟩ := World.cells?_some hc0
      have h1 := hat0 0 h0
      rw [Go.Deep.add_add, Nat.zero_add, List.getElem?_eq_getElem (by omega)] at h1
      exact plain12 h1
    obtain ⟨g, off, rfl, hg⟩ := hplain
    obtain ⟨cs, hc, htr⟩ := hi i (by omega)
    rw [hC] at hc
    obtain ⟨_, hlen, hat⟩ := World.cells?_some hc
    refine ⟨g, off, _, cs, _, rfl, hg, hlen, fun j hj => ?_, htr⟩
    have h1 := hat j hj
    rw [Go.Deep.add_add, add_at] at h1
    rw [Nat.add_assoc]
    exact h1
/-- Acts lie at a slice that came in, in two cells each. -/
structure Acts12 (B : Nat) (w : World) (A : Option Addr) (n cap : Nat) (f : Nat → Nat × Int) : Prop where
  le : n ≤ cap
  max : cap ≤ maxLen
  nil : A = none → cap = 0
  cell : 0 < n → ∃ g off, A = some ⟨g, off, none⟩ ∧ g < B ∧ ∀ j, j < n → w.cell? ⟨g, off + j * 2, none⟩ = some (.int .u8 ((f j).1 : Int)) ∧ w.cell? ⟨g, off + j * 2 + 1, none⟩ = some (.int .i64 (f j).2)
  fits : ∀ j, j < n → (f j).1 ≤ 255
theorem Acts12.below {B : Nat} {w w' : World} {A : Option Addr} {n cap : Nat} {f : Nat → Nat × Int} (h : Acts12 B w A n cap f) (hb : Below B w w') : Acts12 B w' A n cap f :=
  ⟨h.le, h.max, h.nil, fun hn => by
    obtain ⟨g, off, e, hg, hc⟩ := h.cell hn
    exact ⟨g, off, e, hg, fun j hj => ⟨(hb.cell (p := ⟨g, off + j * 2, none⟩) hg).trans (hc j hj).1, (hb.cell (p := ⟨g, off + j * 2 + 1, none⟩) hg).trans (hc j hj).2⟩⟩, h.fits⟩
theorem open_acts12 {H : Type} {enc : TypeId × Value → H} {W : World} {a : Option Addr} {len cap : Nat} {d : DataW H} {p : List MemPlace}
    (h : DataW.Trod enc Try.prog W 0 (fun _ => true) true 22 (.slice a len cap) d p) :
    ∃ f : Nat → Nat × Int, Acts12 W.heap.size W a len cap f ∧ True := by
  obtain ⟨fuel, hf⟩ := h
  have hf' : DataW.trod enc Try.prog W 0 (fun _ => true) true fuel 22 [.slice a len cap] = some (d, p) := by simpa [Value.cells] using hf
  obtain ⟨h1, h2, h3, h4⟩ := rows_cells12 (k := 2) Try.underlying22 (by kernel_rfl) (by decide) hf'
  have h5 : ∀ i, i < len → ∃ q : Nat × Int, ∃ g off, a = some ⟨g, off, none⟩ ∧ g < W.heap.size ∧
      W.cell? ⟨g, off + i * 2, none⟩ = some (.int .u8 (q.1 : Int)) ∧ W.cell? ⟨g, off + i * 2 + 1, none⟩ = some (.int .i64 q.2) ∧ q.1 ≤ 255 := fun i hi => by
    obtain ⟨g, off, n, cs, y, ha, hg, hl, hc, ht⟩ := h4 i hi
    have hc0 := hc 0 (by omega)
    have hc1 := hc 1 (by omega)
    obtain ⟨u0, u1, rfl⟩ : ∃ u0 u1, cs = [u0, u1] := by
      match cs, hl with
      | [u0, u1], _ => exact ⟨u0, u1, rfl⟩
    obtain ⟨xs, n', _, _, _, hxl, hfs⟩ := DataW.trod_struct Try.underlying34 ht
    have k0 := hfs 0 _ rfl
    have k1 := hfs 1 _ rfl
    have q0 : Try.prog.cellsOf 5 = 1 := by kernel_rfl
    have q2 : Try.prog.cellsOf 3 = 1 := by kernel_rfl
    simp [q0, q2] at k0 k1
    simp at hxl
    obtain ⟨y0, y1, rfl⟩ : ∃ y0 y1, xs = [y0, y1] := by
      match xs, hxl with
      | [y0, y1], _ => exact ⟨y0, y1, rfl⟩
    simp at k0 k1
    obtain ⟨n0, e0, _, w0⟩ := DataW.trod_int Try.underlying5 k0
    obtain ⟨n1, e1, _, w1⟩ := DataW.trod_int Try.underlying3 k1
    simp at e0 e1
    subst e0 e1
    have b0 : 0 ≤ n0 ∧ n0 ≤ 255 := by simpa [Lit.wf, IntKind.min, IntKind.max, IntKind.signed, IntKind.bits] using w0
    obtain ⟨m0, rfl⟩ := Int.eq_ofNat_of_zero_le b0.1
    exact ⟨(m0, n1), g, off, ha, hg, hc0, hc1, by have := b0.2; omega⟩
  obtain ⟨f, hff⟩ := choose12 h5
  refine ⟨f, ⟨h2, h3, fun e => (h1 e).2, fun hn => ?_, fun j hj => ?_⟩, trivial⟩
  · obtain ⟨g, off, ha, hg, _⟩ := hff 0 hn
    refine ⟨g, off, ha, hg, fun j hj => ?_⟩
    obtain ⟨g2, off2, ha2, hg2, c0, c1, c2⟩ := hff j hj
    rw [ha] at ha2
    injection ha2 with ha2
    injection ha2 with e1 e2
    subst e1 e2
    exact ⟨c0, c1⟩
  · obtain ⟨g, off, ha, hg, _, _, h⟩ := hff j hj
    exact h
end
theorem few12_any (A : Option Addr) (n cap : Nat) (w : World) (hle : n ≤ cap) (hmax : cap ≤ maxLen) (hnil : A = none → cap = 0) :
    Calls Try.prog 11 #[.slice A n cap] w fun e w' => w = w' ∧ ∃ m, m ≤ n ∧ m ≤ 300 ∧ e = .returned (.slice A m cap) := by
  unfold maxLen at hmax
  cases A with
  | none =>
    obtain rfl : cap = 0 := hnil rfl
    obtain rfl : n = 0 := by omega
    clear hnil
    go_enter Try.func11, Try.ntmps11
    go_wp2
    go_ret
    exact ⟨rfl, 0, by omega, by omega, rfl⟩
  | some ad =>
    clear hnil
    by_cases hl : (n : Int) ≤ 300
    · go_enter Try.func11, Try.ntmps11
      go_wp2
      go_ret
      exact ⟨rfl, n, by omega, by omega, rfl⟩
    · have hl3 : (300 : Int) ≤ (cap : Int) := by omega
      go_enter Try.func11, Try.ntmps11
      go_wp2
      go_ret
      exact ⟨rfl, 300, by omega, by omega, rfl⟩
/-- What is of another type is not written. -/
theorem QAt.keep {w w' : World} {base g : Nat} {v : Value} {s : Int} {d : Nat} {L : List Wr} {F' : Nat → Prop} (h : QAt w base g v s d L) (ht : Turn (QF g v) F' w w') {k : Nat} {cs : Array Value} {t : TypeId} {fz : Nat × Nat} (hk : w.heap[k]? = some (.cells cs t fz)) (h1 : t ≠ 52) (h2 : t ≠ 46) : w'.heap[k]? = some (.cells cs t fz) := by
  refine (ht.block k (lt_of_heap hk) ?_).trans hk
  rintro (rfl | e)
  · have := hk.symm.trans h.box
    injection this with this
    injection this with _ this _
    exact h1 this
  · obtain ⟨_, _, c, fz', hh⟩ := h.own.kind k e
    have := hk.symm.trans hh
    injection this with this
    injection this with _ this _
    exact h2 this
set_option maxHeartbeats 2000000 in
theorem same_yes (A A' : Option Addr) (n c c' : Nat) (L : List Wr) (w : World) (h1 : Wg w.heap.size w A n c L) (h2 : Wg w.heap.size w A' n c' L) (hn : n ≤ 1000000) :
    Calls Try.prog 21 #[.slice A n c, .slice A' n c'] w fun e w' => e = .returned (.bool true) ∧ Below w.heap.size w w' := by
  have H1 := Lib.hid h1
  have H2 := Lib.hid h2
  have hs := Gt.size h1
  have hs1 := hs.1
  have hs2 := hs.2
  have hs' := Gt.size h2
  have hs3 := hs'.1
  have hs4 := hs'.2
  clear h1 h2 hs hs'
  go_enter Try.func21, Try.ntmps21
  go_wp2_with fail
  go_loopw [5] (fun iv wr => ∃ j : Nat, iv = .int .i64 (j : Int) ∧ j ≤ n ∧ Below w.heap.size w wr) (fun iv _ => n - (intOf iv).toNat)
  case atStart => exact ⟨0, rfl, Nat.zero_le _, Below.refl _ _⟩
  case round =>
    rename World => wr
    obtain ⟨j, rfl, hj, hb⟩ := hrel
    have HB := Lib.hid hb
    clear hb
    by_cases hlj : j < n
    · have k1' : Wg wr.heap.size wr A n c L := Gt.later H1.out HB.out
      have k2' : Wg wr.heap.size wr A' n c' L := Gt.later H2.out HB.out
      obtain ⟨g1, o1, rfl, -, k1, k2, k3⟩ := k1'.cell hlj
      obtain ⟨g2, o2, rfl, -, q1, q2, q3⟩ := k2'.cell hlj
      have hjI : (j : Int) < (n : Int) := by omega
      clear k1' k2'
      generalize (wat L j).1 = x at *
      generalize (wat L j).2.1 = y at *
      generalize (wat L j).2.2 = z at *
      go_wp2_with fail
      go_big_quiet (fail)
      go_wp2_with fail
      go_roundw
      case rel => exact ⟨j + 1, by go_num, by omega, HB.out.trans (Bk.below_drewN _ _ _)⟩
      case measure => simp [intOf]; omega
    · obtain rfl : j = n := by omega
      go_wp2_with fail
      go_ret
      exact ⟨rfl, HB.out⟩
/-- So many are added. -/
def sq (ps : List Int) (t : Nat × List Wr) : Nat → Nat × List Wr
  | 0 => t
  | j + 1 => (adD (ps.getD j 0) (sq ps t j).1 (sq ps t j).2, adL (ps.getD j 0) (sq ps t j).1 (sq ps t j).2)
def tq (t : List Wr) : Nat → List Wr
  | 0 => t
  | j + 1 => tkL 1 (tq t j)
theorem sq_small (ps : List Int) (t : Nat × List Wr) : ∀ j, (sq ps t j).1 ≤ t.1 + j
  | 0 => Nat.le_refl _
  | j + 1 => by
    have := sq_small ps t j
    have := (adD_le (ps.getD j 0) (sq ps t j).1 (sq ps t j).2).2
    simp only [sq]
    omega
def p1 : List Int := [0, 5, 5]
def p2 : List Int := [4, 5, 5, 5, 5, 5]
def p3 : List Int := [2, 4, 3, 5, 0]
def s1 : Nat × List Wr := sq p1 (0, []) 3
def s2 : Nat × List Wr := sq p2 (s1.1, tkL 1 s1.2) 6
/-- Numbers in a block of their own. -/
theorem lit_cell {w : World} {k : Nat} {ps : List Int} (h : w.heap[k]? = some (.cells (ivs ps).toArray 3 (0, 0))) {j : Nat} (hj : j < ps.length) : w.cell? ⟨k, j, none⟩ = some (.int .i64 (ps.getD j 0)) := by
  rw [cell_of_row w k j _ _ _ h, ← ivs_get hj]; simp
set_option maxHeartbeats 8000000 in
theorem shown12_any (w : World) : Calls Try.prog 9 #[] w fun e w' => e = .returned (.bool true) ∧ Below w.heap.size w w' := by
  have HN : Hid (∀ e w', NewTold 1 w e w' → e = .returned (.tuple #[.pointer (some ⟨w.heap.size, 0, none⟩), .int .i64 0]) ∧ w' = w.alloc (.cells #[.int .i64 1, .int .i64 0, .slice none 0 0] 52)) := Lib.hid (fun e w' h => by unfold NewTold at h; rwa [if_pos (by omega)] at h)
  have HC := Lib.hid (new_any 1 w)
  have HQ0 := Lib.hid (QAt.new (s := 1) w w.heap.size (Nat.le_refl _) (by omega) (by omega))
  have HB0 := Lib.hid ((Below.refl w.heap.size w).alloc (Nat.le_refl _) (.cells #[.int .i64 1, .int .i64 0, .slice none 0 0] 52))
  go_enter Try.func9, Try.ntmps9
  go_wp2_with fail
  refine HC.out.mono ?_
  intro e w1 h1
  obtain ⟨rfl, hw1⟩ := HN.out e w1 h1
  rw [← hw1] at HQ0 HB0
  obtain ⟨g, hg⟩ : ∃ g, g = w.heap.size := ⟨_, rfl⟩
  have HG : Hid (w.heap.size ≤ g) := Lib.hid (by omega)
  rw [← hg] at HQ0 ⊢
  clear h1 hw1 HC HN hg
  go_wp2_with fail
  obtain ⟨k0, hk0⟩ : ∃ k0, k0 = w1.heap.size := ⟨_, rfl⟩
  have hA := (Below.refl w1.heap.size w1).alloc (Nat.le_refl _) (.cells #[.int .i64 0, .int .i64 5, .int .i64 5] 3)
  have HQ1 := Lib.hid (HQ0.out.later hA)
  have HB1 := Lib.hid (HB0.out.trans (hA.mono HB0.out.size))
  have HI1 : Hid ((w1.alloc (.cells #[.int .i64 0, .int .i64 5, .int .i64 5] 3)).heap[k0]? = some (.cells (ivs p1).toArray 3 (0, 0))) := Lib.hid (by rw [hk0]; exact heap_alloc_new w1 _)
  generalize w1.alloc (.cells #[.int .i64 0, .int .i64 5, .int .i64 5] 3) = w2 at *
  rw [← hk0]
  clear hk0 hA HQ0 HB0
  go_loopw [25] (fun iv wr => ∃ j : Nat, iv = .int .i64 (j : Int) ∧ j ≤ 3 ∧ Hid (∃ v, QAt wr g g v 1 (sq p1 (0, []) j).1 (sq p1 (0, []) j).2) ∧ Hid (wr.heap[k0]? = some (.cells (ivs p1).toArray 3 (0, 0)) ∧ Below w.heap.size w wr)) (fun iv _ => 3 - (intOf iv).toNat)
  case atStart => exact ⟨0, rfl, Nat.zero_le _, Lib.hid ⟨_, HQ1.out⟩, Lib.hid ⟨HI1.out, HB1.out⟩⟩
  case round =>
    rename World => wr
    obtain ⟨j, rfl, hj, HQ, HI⟩ := hrel
    by_cases hlj : j < 3
    · obtain ⟨v, hq⟩ := HQ.out
      have kc := lit_cell HI.out.1 (j := j) (by simp [p1]; omega)
      have hjI : (j : Int) < 3 := by omega
      have HA := Lib.hid (Add_any hq (by have := sq_small p1 (0, []) j; simp at this; omega) (Nat.le_of_lt hq.lt) (p1.getD j 0))
      have HQv := Lib.hid hq
      clear hq
      generalize hx : p1.getD j 0 = x at *
      have HX := Lib.hid hx
      clear hx
      go_wp2_with fail
      refine HA.out.mono ?_
      intro e w3 h3
      obtain ⟨v', rfl, h4, h5⟩ := h3
      have HQ' : Hid (∃ v, QAt w3 g g v 1 (sq p1 (0, []) (j + 1)).1 (sq p1 (0, []) (j + 1)).2) := Lib.hid ⟨v', by simp only [sq]; rw [HX.out]; exact h4⟩
      have HI' := Lib.hid (And.intro (HQv.out.keep h5 HI.out.1 (by decide) (by decide)) (HI.out.2.trans (h5.below w.heap.size HI.out.2.size (fun k hk => Nat.le_trans HG.out (HQv.out.blocks k hk).1))))
      clear h4 h5 HA
      go_wp2_with fail
      go_roundw
      case rel => exact ⟨j + 1, by go_num, by omega, HQ', HI'⟩
      case measure => simp [intOf]; omega
    · obtain rfl : j = 3 := by omega
      obtain ⟨v, hq⟩ := HQ.out
      have HT := Lib.hid (Take_any hq)
      have HQv := Lib.hid hq
      have hv : nxV 1 (sq p1 (0, []) 3).2 = .tuple #[.int .i64 1, .bool true] := by
        have h1 : nxN 1 (sq p1 (0, []) 3).2 = 1 := by decide
        have h2 : nxB 1 (sq p1 (0, []) 3).2 = true := by decide
        unfold nxV; rw [h1, h2]
      rw [hv] at HT
      clear hq hv
      go_wp2_with fail
      refine HT.out.mono ?_
      intro e w3 h3
      obtain ⟨v', rfl, h4, h5⟩ := h3
      have HQ3 := Lib.hid h4
      have HB3 := Lib.hid (HI.out.2.trans (h5.below w.heap.size HI.out.2.size (fun k hk => Nat.le_trans HG.out (HQv.out.blocks k hk).1)))
      clear h4 h5 HT HQ HI HQv
      go_wp2_with fail
      obtain ⟨k1, hk1⟩ : ∃ k1, k1 = w3.heap.size := ⟨_, rfl⟩
      have hA := (Below.refl w3.heap.size w3).alloc (Nat.le_refl _) (.cells #[.int .i64 4, .int .i64 5, .int .i64 5, .int .i64 5, .int .i64 5, .int .i64 5] 3)
      have HQ4 := Lib.hid (HQ3.out.later hA)
      have HB4 := Lib.hid (HB3.out.trans (hA.mono HB3.out.size))
      have HI4 : Hid ((w3.alloc (.cells #[.int .i64 4, .int .i64 5, .int .i64 5, .int .i64 5, .int .i64 5, .int .i64 5] 3)).heap[k1]? = some (.cells (ivs p2).toArray 3 (0, 0))) := Lib.hid (by rw [hk1]; exact heap_alloc_new w3 _)
      generalize w3.alloc (.cells #[.int .i64 4, .int .i64 5, .int .i64 5, .int .i64 5, .int .i64 5, .int .i64 5] 3) = w4 at *
      rw [← hk1]
      clear hk1 hA HQ3 HB3
      go_loopw [40] (fun iv wr => ∃ j : Nat, iv = .int .i64 (j : Int) ∧ j ≤ 6 ∧ Hid (∃ v, QAt wr g g v 1 (sq p2 (s1.1, tkL 1 s1.2) j).1 (sq p2 (s1.1, tkL 1 s1.2) j).2) ∧ Hid (wr.heap[k1]? = some (.cells (ivs p2).toArray 3 (0, 0)) ∧ Below w.heap.size w wr)) (fun iv _ => 6 - (intOf iv).toNat)
      case atStart => exact ⟨0, rfl, Nat.zero_le _, Lib.hid ⟨_, HQ4.out⟩, Lib.hid ⟨HI4.out, HB4.out⟩⟩
      case round =>
        rename World => wr
        obtain ⟨j, rfl, hj, HQ, HI⟩ := hrel
        by_cases hlj : j < 6
        · obtain ⟨v, hq⟩ := HQ.out
          have kc := lit_cell HI.out.1 (j := j) (by simp [p2]; omega)
          have hjI : (j : Int) < 6 := by omega
          have hs1 : s1.1 = 3 := by decide
          have HA := Lib.hid (Add_any hq (by have h7 := sq_small p2 (s1.1, tkL 1 s1.2) j; have h8 : (s1.1, tkL 1 s1.2).1 = 3 := hs1; omega) (Nat.le_of_lt hq.lt) (p2.getD j 0))
          have HQv := Lib.hid hq
          clear hq hs1
          generalize hx : p2.getD j 0 = x at *
          have HX := Lib.hid hx
          clear hx
          go_wp2_with fail
          refine HA.out.mono ?_
          intro e w5 h3
          obtain ⟨v', rfl, h4, h5⟩ := h3
          have HQ' : Hid (∃ v, QAt w5 g g v 1 (sq p2 (s1.1, tkL 1 s1.2) (j + 1)).1 (sq p2 (s1.1, tkL 1 s1.2) (j + 1)).2) := Lib.hid ⟨v', by simp only [sq]; rw [HX.out]; exact h4⟩
          have HI' := Lib.hid (And.intro (HQv.out.keep h5 HI.out.1 (by decide) (by decide)) (HI.out.2.trans (h5.below w.heap.size HI.out.2.size (fun k hk => Nat.le_trans HG.out (HQv.out.blocks k hk).1))))
          clear h4 h5 HA
          go_wp2_with fail
          go_roundw
          case rel => exact ⟨j + 1, by go_num, by omega, HQ', HI'⟩
          case measure => simp [intOf]; omega
        · obtain rfl : j = 6 := by omega
          obtain ⟨v, hq⟩ := HQ.out
          have HB6 := Lib.hid HI.out.2
          go_wp2_with fail
          obtain ⟨k2, hk2⟩ : ∃ k2, k2 = wr.heap.size := ⟨_, rfl⟩
          have hA := (Below.refl wr.heap.size wr).alloc (Nat.le_refl _) (.cells #[.int .i64 2, .int .i64 4, .int .i64 3, .int .i64 5, .int .i64 0] 3)
          have HQ4 := Lib.hid (hq.later hA)
          have HB4 := Lib.hid (HB6.out.trans (hA.mono HB6.out.size))
          have HI4 : Hid ((wr.alloc (.cells #[.int .i64 2, .int .i64 4, .int .i64 3, .int .i64 5, .int .i64 0] 3)).heap[k2]? = some (.cells (ivs p3).toArray 3 (0, 0))) := Lib.hid (by rw [hk2]; exact heap_alloc_new wr _)
          generalize wr.alloc (.cells #[.int .i64 2, .int .i64 4, .int .i64 3, .int .i64 5, .int .i64 0] 3) = w6 at *
          rw [← hk2]
          clear hk2 hA HQ HI hq HB6
          go_loopw [50] (fun iv wr => ∃ j : Nat, iv = .int .i64 (j : Int) ∧ j ≤ 5 ∧ Hid (∃ v, QAt wr g g v 1 s2.1 (tq s2.2 j)) ∧ Hid (wr.heap[k2]? = some (.cells (ivs p3).toArray 3 (0, 0)) ∧ Below w.heap.size w wr)) (fun iv _ => 5 - (intOf iv).toNat)
          case atStart => exact ⟨0, rfl, Nat.zero_le _, Lib.hid ⟨_, HQ4.out⟩, Lib.hid ⟨HI4.out, HB4.out⟩⟩
          case round =>
            rename World => wz
            obtain ⟨j, rfl, hj, HQ, HI⟩ := hrel
            by_cases hlj : j < 5
            · obtain ⟨v, hq⟩ := HQ.out
              have kc := lit_cell HI.out.1 (j := j) (by simp [p3]; omega)
              have hjI : (j : Int) < 5 := by omega
              have HT := Lib.hid (Take_any hq)
              have HQv := Lib.hid hq
              have hv : nxV 1 (tq s2.2 j) = .tuple #[.int .i64 (p3.getD j 0), .bool true] := by
                have h1 : ∀ j, j < 5 → nxN 1 (tq s2.2 j) = p3.getD j 0 := by decide
                have h2 : ∀ j, j < 5 → nxB 1 (tq s2.2 j) = true := by decide
                unfold nxV; rw [h1 j hlj, h2 j hlj]
              rw [hv] at HT
              clear hq hv
              generalize p3.getD j 0 = x at *
              go_wp2_with fail
              refine HT.out.mono ?_
              intro e w7 h3
              obtain ⟨v', rfl, h4, h5⟩ := h3
              have HQ' : Hid (∃ v, QAt w7 g g v 1 s2.1 (tq s2.2 (j + 1))) := Lib.hid ⟨v', h4⟩
              have HI' := Lib.hid (And.intro (HQv.out.keep h5 HI.out.1 (by decide) (by decide)) (HI.out.2.trans (h5.below w.heap.size HI.out.2.size (fun k hk => Nat.le_trans HG.out (HQv.out.blocks k hk).1))))
              clear h4 h5 HT
              go_wp2_with fail
              go_roundw
              case rel => (repeat apply Exists.intro); exact ⟨⟨j + 1, by go_num, by omega, HQ', HI'⟩, rfl⟩
              case measure => simp [intOf]; omega
            · obtain rfl : j = 5 := by omega
              go_wp2_with fail
              go_ret
              exact ⟨rfl, HI.out.2⟩
end Ag
end Go.Proofs.Ytgeahckblgpnmaa
