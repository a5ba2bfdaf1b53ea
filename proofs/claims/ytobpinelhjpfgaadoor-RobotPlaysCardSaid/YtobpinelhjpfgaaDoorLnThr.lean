/-
  Layer 14: the document's Take: its reader, its steps.
  Layer 14: the document's Take.
-/
import Derived.Test.YtobpinelhjpfgaaDoorLnR
import Derived.Test.YtobpinelhjpfgaaDoorBtSev
import Derived.Deep.LoopGhost
import Derived.Laws.ResultCell
import Derived.Deep.QuietTactic
import Derived.BigQuiet
set_option linter.unusedVariables false
set_option maxRecDepth 100000
section
namespace Go.Proofs.YtobpinelhjpfgaaDoor
namespace Ln
open Go.RowKit Bp Ck
theorem rv_get1 {B b : Nat} {v : Value} {w : World} {zs : List Nat} (h : Rv B w b v zs 0 0) :
    Calls Tryd.prog 51 #[.pointer (some ⟨b, 0, none⟩), .int .i64 1] w fun e w' => ∃ (N p' : Nat) (f' : Int), e = .returned (.int .u64 (N : Int)) ∧ RvTo B w b v zs p' f' w' ∧ ((1 ≤ 8 * zs.length ∧ N = tk zs 0 1 ∧ p' = 1 ∧ f' = 0) ∨ (zs.length = 0 ∧ N = 0 ∧ p' = 0 ∧ f' ≠ 0)) := by
  by_cases hs : 0 + 1 ≤ 8 * zs.length
  · refine (vget_ok B b v zs 0 1 w h (by omega) hs).mono ?_
    rintro e w' ⟨rfl, ht⟩
    exact ⟨_, _, _, rfl, ht, .inl ⟨by omega, rfl, rfl, rfl⟩⟩
  · refine (vget_short B b v zs 0 1 w h (by omega) (by omega)).mono ?_
    rintro e w' ⟨rfl, ht⟩
    exact ⟨0, _, _, rfl, ht, .inr ⟨by omega, rfl, rfl, by decide⟩⟩
theorem rv_count1 {B b : Nat} {v : Value} {w : World} {zs : List Nat} {p : Nat} {f : Int} (h : Rv B w b v zs p f) :
    Calls Tryd.prog 52 #[.pointer (some ⟨b, 0, none⟩)] w fun e w' => ∃ (N p' : Nat) (f' : Int), e = .returned (.int .u64 (N : Int)) ∧ N < 18446744073709551616 ∧ RvTo B w b v zs p' f' w' ∧ Cq zs p f N p' f' := by
  by_cases hf : f = 0
  · subst hf
    obtain ⟨n, hz⟩ := zs_exists zs p h.at_le
    by_cases h64 : n = 64
    · subst h64
      refine (vcount_long B b v zs p w h hz).mono ?_
      rintro e w' ⟨rfl, ht⟩
      exact ⟨0, p, 4, rfl, by decide, ht, .inl ⟨by decide, fun _ q hq hq2 => by have := hz.unique hq; omega⟩⟩
    · have hn : n ≤ 63 := by have := hz.few; omega
      by_cases hs : p + (2 * n + 1) ≤ 8 * zs.length
      · refine (vcount_ok B b v zs p n w h hz hn hs).mono ?_
        rintro e w' ⟨rfl, ht⟩
        have hhi := tk_lt zs (p + n) (n + 1)
        have h3' : (2 : Nat) ^ (n + 1) ≤ 2 ^ 64 := Nat.pow_le_pow_right (by decide) (by omega)
        have e64 : (2 : Nat) ^ 64 = 18446744073709551616 := by decide
        exact ⟨_, _, 0, rfl, by omega, ht, .inr ⟨rfl, rfl, n, hz, hn, hs, rfl, rfl⟩⟩
      · refine (vcount_short B b v zs p n w h hz hn (by omega)).mono ?_
        rintro e w' ⟨rfl, ht⟩
        exact ⟨0, p, 10, rfl, by decide, ht, .inl ⟨by decide, fun _ q hq hq2 => by have := hz.unique hq; omega⟩⟩
  · refine (vcount_fault B b v zs p f w h hf).mono ?_
    rintro e w' ⟨rfl, ht⟩
    exact ⟨0, p, f, rfl, by decide, ht, .inl ⟨hf, fun x => absurd x hf⟩⟩
theorem rv_end1 {B b : Nat} {v : Value} {w : World} {zs : List Nat} {p : Nat} {f : Int} (h1 : Rv B w b v zs p f) :
    Calls Tryd.prog 53 #[.pointer (some ⟨b, 0, none⟩)] w fun e w' => ∃ E : Int, e = .returned (.int .i64 E) ∧ RvTo B w b v zs p f w' ∧ Eq zs p f E := by
  by_cases hf : f = 0
  · subst hf
    by_cases ht : p + 8 ≤ 8 * zs.length
    · refine (vend_tail B b v zs p w h1 ht).mono ?_
      rintro e w' ⟨rfl, hr⟩
      exact ⟨11, rfl, hr, fun x => absurd rfl x, fun _ => ⟨fun x => by omega, fun x => by omega⟩⟩
    · obtain ⟨n, hz⟩ := zs_exists zs p h1.at_le
      refine (vend_bit B b v zs p n w h1 hz (by omega)).mono ?_
      rintro e w' ⟨rfl, hr⟩
      refine ⟨_, rfl, hr, fun x => absurd rfl x, fun _ => ?_⟩
      have hi := hz.inn
      by_cases hlt : p + n < 8 * zs.length
      · rw [if_pos hlt]
        refine ⟨fun x => by omega, fun x => ?_⟩
        have h1 := x.2 (p + n) (by omega) hlt
        rcases hz.stop with y | y | y <;> omega
      · rw [if_neg hlt]
        exact ⟨fun _ => ⟨by omega, fun k k1 k2 => by
          have := hz.zero (k - p) (by omega)
          rwa [show p + (k - p) = k by omega] at this⟩, fun _ => rfl⟩
  · refine (vend_fault B b v zs p f w h1 hf).mono ?_
    rintro e w' ⟨rfl, ht⟩
    exact ⟨f, rfl, ht, fun x => x, fun x => absurd x hf⟩
set_option maxHeartbeats 2000000 in
theorem refOf_by {BB : Nat} {va : Option Addr} {vn vc : Nat} {zs : List Nat} {w : World} (h : By BB w va vn vc zs) (hBB : BB ≤ w.heap.size) (hl : zs.length ≤ 1048576) :
    Calls Tryd.prog 50 #[.slice va vn vc] w fun e w' => OfTold w zs e w' := by
  obtain ⟨i0, hi, hz0, hz1, hz2⟩ := info_parts Tryd.infoBool
  obtain rfl : vn = zs.length := h.len.symm
  have hz := h.byte
  have hle := h.le
  have HO := Lib.hid h
  have HZ := Lib.hid hz
  obtain ⟨n, hn⟩ : ∃ n, n = zs.length := ⟨_, rfl⟩
  rw [← hn] at hl HO hle ⊢
  have HN := Lib.hid hn
  clear h hz hn
  have HS : Hid (Rv w.heap.size (w.alloc (.cells #[.slice none 0 0, .int .i64 0, .int .i64 0] 93)) w.heap.size (.slice none 0 0) [] 0 0) := Lib.hid
    ⟨heap_alloc_new w _, World.ownsRow_nil _ _ _ _, by simp [Value.ownBlock], Nat.le_refl _, by simp, by simp⟩
  have HSB : Hid (Below w.heap.size w (w.alloc (.cells #[.slice none 0 0, .int .i64 0, .int .i64 0] 93))) := Lib.hid ((Below.refl _ _).alloc (Nat.le_refl _) _)
  obtain ⟨b, hb⟩ : ∃ b, b = w.heap.size := ⟨_, rfl⟩
  have HBB := Lib.hid hb
  go_enter Tryd.func50, Tryd.ntmps50
  go_wp2
  go_loopw [4] (fun iv wr => ∃ (k : Nat) (lv : Value), k ≤ n ∧ iv = .int .i64 (k : Int) ∧ Rv w.heap.size wr w.heap.size lv (zs.take k) 0 0 ∧ Below w.heap.size w wr) (fun iv _ => n - (intOf iv).toNat)
  case atStart => exact ⟨0, _, Nat.zero_le _, rfl, by rw [List.take_zero]; exact HS.out, HSB.out⟩
  case round =>
    obtain ⟨k, lv, hk, rfl, hR, hBw⟩ := hrel
    clear HS HSB
    by_cases hlt : k < n
    · obtain ⟨g, off, rfl, hgB, hcc⟩ := HO.out.cell (by omega)
      have hgl : g < w.heap.size := by omega
      obtain ⟨z, hzk⟩ : ∃ z, z = zs.getD k 0 := ⟨_, rfl⟩
      have hkl : k < zs.length := by rw [← HN.out]; exact hlt
      have cz : wr.cell? ⟨g, off + k, none⟩ = some (.int .u8 (z : Int)) := by
        rw [hBw.cell (p := ⟨g, off + k, none⟩) hgl, hcc k hlt, hzk]
      clear hcc
      have hzb : z ≤ 255 := by
        rw [hzk, List.getD, List.getElem?_eq_getElem hkl]
        exact HZ.out _ (List.getElem_mem hkl)
      have HTK : Hid (zs.take (k + 1) = zs.take k ++ [z]) := Lib.hid (by
        rw [List.take_succ_eq_append_getElem hkl, hzk]
        simp [List.getD, List.getElem?_eq_getElem hkl])
      have htl : (zs.take k).length = k := by rw [List.length_take]; omega
      obtain ⟨la, lc, hlv⟩ := ownsRow_shape hR.row
      rw [htl] at hlv
      subst hlv
      have c0 := hR.cells.1
      have f0 : wr.frozen? ⟨w.heap.size, 0, none⟩ = false := frozen_of_row wr w.heap.size 0 _ _ hR.box
      have hbl : w.heap.size < wr.heap.size := lt_of_heap hR.box
      have HL : Hid (wr.ownsRow w.heap.size 4 1 (.slice la (8 * k) lc) (8 * k) (bb (bitsZ (zs.take k)))) := Lib.hid (by have := hR.row; rw [htl] at this; exact this)
      have HR := Lib.hid hR
      have HBw := Lib.hid hBw
      have HNE := Lib.hid hR.ne
      have HTL := Lib.hid htl
      clear hR hBw hzk hkl htl
      generalize hbs : bitsZ (zs.take k) = bs at HL
      have HBS := Lib.hid hbs
      clear hbs
      have hwz : IntKind.u64.wrap (z : Int) = (z : Int) := IntWalk.u64_in _ (by omega)
      have hk1 : (k : Int) < (n : Int) := by omega
      go_wp2
      go_region_law (first | (refine step_append_lies _ (by rfl) _ _ _ (by rfl) w.heap.size 4 i0 _ 1 1 Tryd.underlying91 hi hz0 hz1 hz2 rfl (by omega) (.slice la (8 * k) lc) (8 * k) (bb bs) (by rfl) HL5.out ⟨g5, 0, none⟩ 8 c5 (bb (bitsOf z 8)) (by rfl) (by rfl) HN5.out (bb_one _) (by omega) (by unfold maxLen; omega) (by omega) hsz5 w5.heap.size rfl ?_; intro g6 c6 w6 hown6 hgrow6 hat6 hlt6; have d0 := (World.cell?_of_block (a := ⟨w.heap.size, 0, none⟩) (hgrow6.block w.heap.size hbl5 HNB.out)).trans c05; have d1 := (World.frozen?_of_block (a := ⟨w.heap.size, 0, none⟩) (hgrow6.block w.heap.size hbl5 HNB.out)).trans f05; have HO6 := Lib.hid hown6; have HG6 := Lib.hid hgrow6; clear hown6 hgrow6) | (go_simp; go_at_call 55; refine (refBits_int z 8 _ _ (by omega) (by omega) _ rfl rfl).mono ?_; rintro e w5 ⟨v5, rfl, hS5, hO5, hB5⟩; obtain ⟨g5, c5, hv5⟩ := shape_of hO5 (by omega); subst hv5; have c05 := (hB5.cell (p := ⟨w.heap.size, 0, none⟩) hbl).trans c0; have f05 := (hB5.frozen (p := ⟨w.heap.size, 0, none⟩) hbl).trans f0; have hbl5 := Nat.lt_of_lt_of_le hbl hB5.size; have hsz5 : w.heap.size ≤ w5.heap.size := (by omega); have HL5 := Lib.hid (ownsRow_same HL.out (fun k hk => hB5.block k (HL.out.lt k hk).2)); have HN5 := Lib.hid (hO5.cells (g := g5) rfl); have HNB := Lib.hid (fun e => HNE.out (Eq.symm e)); have HB5 := Lib.hid hB5; clear hS5 hO5 hB5))
      all_goals
        go_wp2
        go_roundw
        case rel =>
          have hst := of_step HR.out HBw.out HB5.out HO6.out HG6.out hat6 HTL.out HBS.out (by omega)
          exact ⟨k + 1, _, by omega, by go_num, by rw [HTK.out]; exact hst.1, hst.2⟩
        case measure => simp [intOf]; omega
    · obtain rfl : k = n := by omega
      have HR := Lib.hid hR
      have HBw := Lib.hid hBw
      clear hR hBw
      go_wp2
      go_ret
      refine ⟨w.heap.size, lv, rfl, ?_, HBw.out⟩
      have := HR.out
      rw [List.take_of_length_le (by rw [← HN.out]; exact Nat.le_refl _)] at this
      exact this
end Ln
end Go.Proofs.YtobpinelhjpfgaaDoor
end

section
namespace Go.Proofs.YtobpinelhjpfgaaDoor
namespace Ln
open Go.RowKit Bp Ck
/-- In the middle of the document's Take: the answer's block is the first new one, then the reader, then the packet's; the packet's bytes are ds, at dv. -/
structure Ux (w w' : World) (P b : Nat) (v : Value) (zs : List Nat) (p : Nat) (f : Int) (x y dv : Value) (ds : List Nat) : Prop where
  rd : Rv (w.heap.size + 1) w' b v zs p f
  below : Below w.heap.size w w'
  res : w'.heap[w.heap.size]? = some (.cells #[.bool false, .int .u64 0, .slice none 0 0] 48 (0, 0))
  box : w'.heap[P]? = some (.cells #[x, y, dv] 48 (0, 0))
  lt : w.heap.size < P
  row : w'.ownsRow (w.heap.size + 1) 5 1 dv ds.length (bc ds)
section
variable {w w' w2 : World} {P b : Nat} {v : Value} {zs : List Nat} {p p2 : Nat} {f f2 : Int} {x y dv : Value} {ds : List Nat}
/-- The reader's blocks are of other kinds. -/
theorem rv_kind {B : Nat} (h : Rv B w b v zs p f) : ∀ k, RF b v k → ∃ c t fz, w.heap[k]? = some (.cells c t fz) ∧ (t = 93 ∨ t = 4) := by
  rintro k (rfl | hk)
  · exact ⟨_, _, _, h.box, .inl rfl⟩
  · obtain ⟨_, _, c, fz, hh⟩ := row_kind h.row k hk
    exact ⟨_, _, _, hh, .inr rfl⟩
theorem eq_kind {k : Nat} {c c' : Array Value} {t t' : TypeId} {fz fz' : Nat × Nat} (h : w.heap[k]? = some (.cells c t fz)) (h' : w.heap[k]? = some (.cells c' t' fz')) : t = t' := by
  have := h.symm.trans h'
  injection this with this
  injection this
theorem Ux.ne (h : Ux w w' P b v zs p f x y dv ds) : (∀ k, RF b v k → k ≠ P ∧ dv.ownBlock ≠ some k ∧ k ≠ w.heap.size) ∧ dv.ownBlock ≠ some P ∧ dv.ownBlock ≠ some w.heap.size := by
  refine ⟨fun k hk => ⟨fun e => ?_, fun e => ?_, fun e => by have := (h.rd.lt hk).1; omega⟩, fun e => ?_, fun e => by have := (h.row.lt _ e).1; omega⟩
  · obtain ⟨c, t, fz, hh, ht⟩ := rv_kind h.rd k hk
    rw [e] at hh
    have := eq_kind hh h.box
    rcases ht with rfl | rfl <;> revert this <;> decide
  · obtain ⟨c, t, fz, hh, ht⟩ := rv_kind h.rd k hk
    obtain ⟨_, _, c2, fz2, hh2⟩ := row_kind h.row k e
    have := eq_kind hh hh2
    rcases ht with rfl | rfl <;> revert this <;> decide
  · obtain ⟨_, _, c2, fz2, hh2⟩ := row_kind h.row P e
    have := eq_kind hh2 h.box
    revert this; decide
/-- The reader acts. -/
theorem Ux.next (h : Ux w w' P b v zs p f x y dv ds) (ht : RvTo (w.heap.size + 1) w' b v zs p2 f2 w2) : Ux w w2 P b v zs p2 f2 x y dv ds := by
  obtain ⟨n1, n2, n3⟩ := h.ne
  have bl : ∀ k, k < w'.heap.size → ¬ RF b v k → w2.heap[k]? = w'.heap[k]? := fun k h1 h2 => ht.2.block k h1 h2
  exact ⟨ht.1, h.below.trans (ht.2.below _ h.below.size (fun k hk => by have := (h.rd.lt hk).1; omega)), (bl _ (lt_of_heap h.res) (fun e => (n1 _ e).2.2 rfl)).trans h.res, (bl _ (lt_of_heap h.box) (fun e => (n1 _ e).1 rfl)).trans h.box, h.lt, ownsRow_same h.row (fun k hk => bl k (h.row.lt k hk).2 (fun e => (n1 k e).2.1 hk))⟩
theorem Ux.drewN (h : Ux w w' P b v zs p f x y dv ds) (n : Nat) : Ux w (w'.drewN n) P b v zs p f x y dv ds := h.next ((RvTo.refl h.rd).drewN n)
theorem Ux.drew (h : Ux w w' P b v zs p f x y dv ds) : Ux w w'.drew P b v zs p f x y dv ds := h.drewN 1
theorem bc_app_one (l : List Nat) (z : Nat) : bc (l ++ [z]) = bc l ++ [.int .u8 (z : Int)] := by simp [bc]
theorem Ux.later (h : Ux w w' P b v zs p f x y dv ds) (hb : Below w'.heap.size w' w2) : Ux w w2 P b v zs p f x y dv ds := h.next ⟨h.rd.frame (fun k hk => hb.block k (h.rd.lt hk).2), Turn.ofBelow hb _⟩
theorem lay_apart {B B2 : Nat} {W : World} {b2 n2 c2 : Nat} {v2 : Value} {zs2 ys : List Nat} {p3 : Nat} {f3 : Int} {A2 : Option Addr} (h : Rv B W b2 v2 zs2 p3 f3) (ho : W.ownsRow B2 5 1 (.slice A2 n2 c2) n2 (bc ys)) : ∀ a, A2 = some a → a.block < W.heap.size ∧ ¬ RF b2 v2 a.block := by
  rintro a rfl
  have hb : ∃ g, a = ⟨g, 0, none⟩ := by
    rcases ho.2 with ⟨e, _⟩ | ⟨g, c, cur, e, _⟩
    · injection e with e; cases e
    · injection e with e; injection e with e; exact ⟨g, e⟩
  obtain ⟨g, rfl⟩ := hb
  obtain ⟨h1, _, c, fz, hh⟩ := row_kind ho g rfl
  refine ⟨h1, fun hk => ?_⟩
  obtain ⟨c3, t, fz3, hh3, ht⟩ := rv_kind h g hk
  have := eq_kind hh hh3
  rcases ht with rfl | rfl <;> revert this <;> decide
theorem Ux.cells (h : Ux w w' P b v zs p f x y dv ds) : (w'.cell? ⟨P, 0, none⟩ = some x ∧ w'.cell? ⟨P, 1, none⟩ = some y ∧ w'.cell? ⟨P, 2, none⟩ = some dv) ∧ (∀ j, w'.frozen? ⟨P, j, none⟩ = false) ∧ (∀ j, w'.frozen? ⟨w.heap.size, j, none⟩ = false) ∧ w'.cell? ⟨w.heap.size, 0, none⟩ = some (.bool false) ∧ w'.cell? ⟨w.heap.size, 1, none⟩ = some (.int .u64 0) ∧ w'.cell? ⟨w.heap.size, 2, none⟩ = some (.slice none 0 0) :=
  ⟨pkt_cells h.box, fun j => frozen_of_row _ P j _ _ h.box, fun j => frozen_of_row _ _ j _ _ h.res, (pkt_cells h.res).1, (pkt_cells h.res).2.1, (pkt_cells h.res).2.2⟩
theorem Ux.put1 (h : Ux w w' P b v zs p f x y dv ds) (u : Value) : Ux w (w'.setCell ⟨P, 1, none⟩ u) P b v zs p f x u dv ds := by
  obtain ⟨n1, n2, n3⟩ := h.ne
  have bl : ∀ k, k ≠ P → (w'.setCell ⟨P, 1, none⟩ u).heap[k]? = w'.heap[k]? := fun k hk => Below.heap_setCell _ _ _ _ hk
  refine ⟨h.rd.frame (fun k hk => bl k (n1 k hk).1), h.below.setCell (p := ⟨P, 1, none⟩) (Nat.le_of_lt h.lt) _, (bl _ (Nat.ne_of_lt h.lt)).trans h.res, ?_, h.lt, ownsRow_same h.row (fun k hk => bl k (fun e => n2 (e ▸ hk)))⟩
  rw [heap_setCell_same w' P 1 _ _ _ h.box]; simp
/-- A byte more. -/
theorem Ux.app (h : Ux w w' P b v zs p f x y dv ds) {w3 : World} {dv' : Value} {z : Nat} (ho : w3.ownsRow (w.heap.size + 1) 5 1 dv' (ds ++ [z]).length (bc (ds ++ [z]))) (hg : w'.grownBy w3 dv.ownBlock) (hx : dv'.ownBlock = dv.ownBlock ∨ dv'.ownBlock = some w'.heap.size) : Ux w (w3.setCell ⟨P, 2, none⟩ dv') P b v zs p f x y dv' (ds ++ [z]) := by
  obtain ⟨n1, n2, n3⟩ := h.ne
  have bg : ∀ k, k < w'.heap.size → dv.ownBlock ≠ some k → w3.heap[k]? = w'.heap[k]? := fun k h1 h2 => hg.block k h1 (fun e => h2 e.symm)
  have hP : w3.heap[P]? = _ := (bg P (lt_of_heap h.box) n2).trans h.box
  have bl : ∀ k, k ≠ P → (w3.setCell ⟨P, 2, none⟩ dv').heap[k]? = w3.heap[k]? := fun k hk => Below.heap_setCell _ _ _ _ hk
  have hd : dv'.ownBlock ≠ some P := by
    rcases hx with e | e
    · rw [e]; exact n2
    · rw [e]
      intro e2
      injection e2 with e2
      have := lt_of_heap h.box
      omega
  refine ⟨h.rd.frame (fun k hk => (bl k (n1 k hk).1).trans (bg k (h.rd.lt hk).2 (n1 k hk).2.1)), (Below.grown h.below hg h.below.size (fun k hk => by have := (h.row.lt k hk).1; omega)).setCell (p := ⟨P, 2, none⟩) (Nat.le_of_lt h.lt) _, (bl _ (Nat.ne_of_lt h.lt)).trans ((bg _ (lt_of_heap h.res) n3).trans h.res), ?_, h.lt, ownsRow_same ho (fun k hk => bl k (fun e => hd (e ▸ hk)))⟩
  rw [heap_setCell_same w3 P 2 _ _ _ hP]; simp
end
/-- What was read, when all is right, and when not. -/
theorem rd_fin {bs zs : List Nat} {h : Bool} {n p : Nat} {f E : Int} {m : Nat} {ds : List Nat} (hz : ∀ h n d, Is bs h n d → Pk zs h n d) (hd : Hd zs h n p f) (hm : (h = false ∧ f = 0 ∧ m = (8 * zs.length - p) / 8 ∧ ds = dat zs p m) ∨ ((h = true ∨ f ≠ 0) ∧ m = 0 ∧ ds = [])) (he : Eq zs (p + 8 * m) f E) :
    ∀ h' n' d', Is bs h' n' d' → E = 0 ∧ h' = h ∧ n' = n ∧ d' = ds := by
  intro h' n' d' hi
  obtain ⟨r, hdat⟩ := (hz _ _ _ hi).read
  rcases hd with ⟨rfl, q, a1, a2, a3, a4, a5, a6, rfl⟩ | ⟨hf, hno⟩
  · have hq : q = kz n' := a3.unique r.zero
    have hh : h = h' := a2.symm.trans r.kind
    have hn : n' = n := by
      have := r.num
      rw [this, a6, hq]
    have r1 := r.tail
    have r2 := r.inn
    subst hh
    have hmm : m = d'.length ∧ d' = ds := by
      rcases hm with ⟨rfl, _, rfl, rfl⟩ | ⟨hx, rfl, rfl⟩
      · have : (8 * zs.length - (2 + 2 * q)) / 8 = d'.length := by omega
        refine ⟨this, ?_⟩
        rw [this, hq]; exact hdat.symm
      · have ht : h = true := hx.elim id (fun x => absurd rfl x)
        have := (hz _ _ _ hi).1.none_ ht
        exact ⟨by rw [this]; rfl, this⟩
    refine ⟨(he.2 rfl).2 ⟨by omega, fun k k1 k2 => r.rest k (by omega) k2⟩, rfl, hn, hmm.2⟩
  · exact absurd (hz _ _ _ hi) (hno _ _ _)
theorem Tryd.resR : Tryd.f15.results = #[.cell 2 48, .tmp 3] := by kernel_rfl
theorem rret_pkt {w : World} {R : Nat} {x y z : Value} (tmps : Array Value) (ht : tmps.getD 2 undef = .pointer (some ⟨R, 0, none⟩)) (h0 : w.cell? ⟨R, 0, none⟩ = some x) (h1 : w.cell? ⟨R, 1, none⟩ = some y) (h2 : w.cell? ⟨R, 2, none⟩ = some z) :
    (results Tryd.f15 tmps).run Tryd.prog w = .ok (.tuple #[.agg #[x, y, z], tmps.getD 3 undef]) w := by
  rw [results_cell_tmp Tryd.resR, ht]
  simp [go_sem, asAddr, Result.andThen, loadVar, h0, h1, h2]
/-- No frame. -/
theorem rtake_no {B : Nat} {w : World} {A : Option Addr} {n cap : Nat} {bs : List Nat} (h : By B w A n cap bs) (hB : B ≤ w.heap.size) (hf : isFrm bs = false) :
    Calls Tryd.prog 15 #[.slice A n cap] w (TakeTold w bs) := by
  have hb0 := pkt_below w
  have hs0 := pkt_size w
  have HO := Lib.hid (refOpen_none (h.below (hb0.mono hB)) (Nat.le_trans hB hb0.size) hf)
  have HB0 := Lib.hid hb0
  have HS0 := Lib.hid hs0
  have HR0 := Lib.hid (pkt_row w)
  have HN : Hid (∀ h n d, ¬ Is bs h n d) := Lib.hid (fun h n d hi => by have := hi.pk.1; rw [hf] at this; cases this)
  clear h hf hb0 hs0
  go_enter Tryd.func15, Tryd.ntmps15
  go_wp2_with fail
  refine HO.out.mono ?_
  rintro e w1 ⟨rfl, hb1⟩
  have hr1 : w1.heap[w.heap.size]? = _ := (hb1.block w.heap.size (by rw [HS0.out]; omega)).trans HR0.out
  obtain ⟨c0, c1, c2, f0, f1, f2⟩ := res_cells hr1
  have HB1 : Hid (Below w.heap.size w w1) := Lib.hid (HB0.out.trans (hb1.mono HB0.out.size))
  clear hb1
  go_wp2_with fail
  have hset : ∀ (u v z : Value), (((w1.setCell ⟨w.heap.size, 0, none⟩ u).setCell ⟨w.heap.size, 1, none⟩ v).setCell ⟨w.heap.size, 2, none⟩ z).heap[w.heap.size]? = some (.cells #[u, v, z] 48 (0, 0)) := fun u v z => set3 hr1 u v z
  have hset0 := hset (.bool false) (.int .u64 0) (.slice none 0 0)
  have HBF : Hid (Below w.heap.size w (((w1.setCell ⟨w.heap.size, 0, none⟩ (.bool false)).setCell ⟨w.heap.size, 1, none⟩ (.int .u64 0)).setCell ⟨w.heap.size, 2, none⟩ (.slice none 0 0))) := Lib.hid (((HB1.out.setCell (p := ⟨w.heap.size, 0, none⟩) (Nat.le_refl _) _).setCell (p := ⟨w.heap.size, 1, none⟩) (Nat.le_refl _) _).setCell (p := ⟨w.heap.size, 2, none⟩) (Nat.le_refl _) _)
  clear hset
  generalize (((w1.setCell ⟨w.heap.size, 0, none⟩ (.bool false)).setCell ⟨w.heap.size, 1, none⟩ (.int .u64 0)).setCell ⟨w.heap.size, 2, none⟩ (.slice none 0 0)) = w9 at *
  obtain ⟨d0, d1, d2, g0, g1, g2⟩ := res_cells hset0
  clear c0 c1 c2 f0 f1 f2 hr1 HB1 hset0 g0 g1 g2
  try simp only [Exit.inBlock, Exit.then]
  refine bodyPost_ret (rret_pkt _ rfl d0 d1 d2) rfl ?_
  exact ⟨HBF.out, .inr ⟨HN.out, rfl⟩⟩
theorem infoU8_parts : ∃ i0, Tryd.prog.info? 5 = some i0 ∧ i0.zero = some (.int .u8 0) ∧ i0.size = 1 ∧ i0.bytes = 1 := info_parts Tryd.infoU8
set_option maxHeartbeats 8000000 in
theorem rtake_yes {B : Nat} {w : World} {A : Option Addr} {n cap : Nat} {bs : List Nat} (h : By B w A n cap bs) (hB : B ≤ w.heap.size) (hf : isFrm bs = true) :
    Calls Tryd.prog 15 #[.slice A n cap] w (TakeTold w bs) := by
  obtain ⟨i0, hi, hz0, hz1, hz2⟩ := infoU8_parts
  have hb0 := pkt_below w
  have hs0 := pkt_size w
  have hln := h.len
  have hfl := isFrm_len hf
  have HO := Lib.hid (refOpen_yes (h.below (hb0.mono hB)) (Nat.le_trans hB hb0.size) hf)
  have HIN := Lib.hid ((h.below (hb0.mono hB)).inner (by omega))
  have HB0 := Lib.hid hb0
  have HS0 := Lib.hid hs0
  have HR0 := Lib.hid (pkt_row w)
  have HBS : Hid (∀ W, Below w.heap.size w W → By B W A n cap bs) := Lib.hid (fun W hW => h.below (hW.mono hB))
  have HI : Hid ((inn bs).length ≤ 1000 ∧ (inn bs).length = n - 4 ∧ ∀ z ∈ inn bs, z ≤ 255) := Lib.hid ⟨by rw [inn_len bs hfl.1]; omega, by rw [inn_len bs hfl.1, hln], fun z hz => h.byte z (by unfold inn at hz; exact List.mem_of_mem_drop (List.mem_of_mem_take hz))⟩
  have HPK : Hid (∀ h n d, Is bs h n d → Pk (inn bs) h n d) := Lib.hid (fun _ _ _ hp => hp.pk.2)
  have HBY := Lib.hid h.byte
  clear h hf hb0 hs0 hfl hln
  generalize inn bs = zs at *
  go_enter Tryd.func15, Tryd.ntmps15
  go_wp2_with fail
  refine HO.out.mono ?_
  rintro e w1 ⟨rfl, hb1⟩
  have hr1 : w1.heap[w.heap.size]? = _ := (hb1.block w.heap.size (by rw [HS0.out]; omega)).trans HR0.out
  have HR1 := Lib.hid hr1
  have HS1 : Hid (w.heap.size + 1 ≤ w1.heap.size) := Lib.hid (by have := hb1.size; have := HS0.out; omega)
  have HB1 : Hid (Below w.heap.size w w1) := Lib.hid (HB0.out.trans (hb1.mono HB0.out.size))
  have hin1 := HIN.out.below (hb1.mono (Nat.le_trans hB HB0.out.size))
  have HOF := Lib.hid (refOf_by hin1 (Nat.le_trans hB HB1.out.size) (by have := HI.out.1; omega))
  clear hb1 hr1 hin1 HIN HO
  go_wp2_with fail
  refine HOF.out.mono ?_
  rintro e w2 ⟨rb, rv, rfl, hrd, hb2⟩
  have hrd0 : Rv (w.heap.size + 1) w2 rb rv zs 0 0 := ⟨hrd.box, ownsRow_lower hrd.row HS1.out, hrd.ne, Nat.le_trans HS1.out hrd.base, hrd.at_le, hrd.few⟩
  have HRD := Lib.hid hrd0
  have HR2 : Hid (w2.heap[w.heap.size]? = _) := Lib.hid ((hb2.block _ (lt_of_heap HR1.out)).trans HR1.out)
  have HB2 := Lib.hid (HB1.out.trans (hb2.mono HB1.out.size))
  clear hrd hrd0 hb2 HOF HR1 HB1 HB0 HR0 HS0
  go_wp2_with fail
  refine (rv_get1 HRD.out).mono ?_
  rintro e w3 ⟨N3, p3, f3, rfl, ht3, hg3⟩
  have HG3 := Lib.hid hg3
  have hk : ((N3 : Int) == 1) = (N3 == 1) := beq_nat N3 1
  have hx3 : Ux w (w3.alloc (.cells #[.bool (N3 == 1), .int .u64 0, .slice none 0 0] 48)) w3.heap.size rb rv zs p3 f3 (.bool (N3 == 1)) (.int .u64 0) (.slice none 0 0) [] := by
    have hb : Below w3.heap.size w3 (w3.alloc (.cells #[.bool (N3 == 1), .int .u64 0, .slice none 0 0] 48)) := (Below.refl _ _).alloc (Nat.le_refl _) _
    have hR3 : w3.heap[w.heap.size]? = _ := (ht3.2.block _ (lt_of_heap HR2.out) (fun e => by have := (HRD.out.lt e).1; omega)).trans HR2.out
    exact ⟨ht3.1.frame (fun k hk => hb.block k (ht3.1.lt hk).2), (HB2.out.trans (ht3.2.below _ HB2.out.size (fun k hk => by have := (HRD.out.lt hk).1; omega))).trans (hb.mono (by have := HB2.out.size; have := ht3.2.size; omega)), (hb.block _ (lt_of_heap hR3)).trans hR3, heap_alloc_new w3 _, lt_of_heap hR3, World.ownsRow_nil _ _ _ _⟩
  have HX3 := Lib.hid hx3
  clear hg3 ht3 hx3 HR2 HB2 HRD
  generalize hh3 : (N3 == 1) = h at *
  go_wp2_with fail
  refine (rv_count1 HX3.out.rd).mono ?_
  rintro e w5 ⟨n5, p5, f5, rfl, hn5, ht5, hg5⟩
  have hd5 := hd_of HG3.out hg5
  rw [hh3] at hd5
  have HD5 := Lib.hid hd5
  have HN5 := Lib.hid hn5
  have hx5 := HX3.out.next ht5
  obtain ⟨⟨c0, c1, c2⟩, c3, -, -, -, -⟩ := hx5.cells
  have c31 := c3 1
  have HX5 := Lib.hid hx5
  clear hh3 hd5 ht5 hg5 HG3 HX3 c3 hx5
  go_wp2_with fail
  have HX6 := Lib.hid (HX5.out.put1 (.int .u64 (n5 : Int)))
  generalize w5.setCell ⟨w3.heap.size, 1, none⟩ (.int .u64 (n5 : Int)) = w6 at *
  clear HX5 c0 c1 c2 c31
  generalize w3.heap.size = P at *
  have hzl : zs.length ≤ 1000 := HI.out.1
  by_cases hAB : h = false ∧ f5 = 0
  · obtain ⟨rfl, rfl⟩ := hAB
    obtain ⟨m, hm⟩ : ∃ m, m = (8 * zs.length - p5) / 8 := ⟨_, rfl⟩
    have hple : p5 ≤ 8 * zs.length := HX6.out.rd.at_le
    have HM := Lib.hid hm
    go_loopg [49] m (fun gg s49 wr => ∃ (j : Nat) (da : Option Addr) (dc : Nat), gg + j = m ∧ Hid (Ux w wr P rb rv zs (p5 + 8 * j) 0 (.bool false) (.int .u64 (n5 : Int)) (.slice da (dat zs p5 j).length dc) (dat zs p5 j)))
    case atStart => exact ⟨0, none, 0, by omega, HX6⟩
    case round =>
      obtain ⟨j, da, dc, hgg, HX⟩ := hrel
      obtain ⟨va, vc, hva⟩ := ownsRow_shape HX.out.rd.row
      obtain ⟨r0, r1, r2, -, -⟩ := HX.out.rd.cells
      rw [hva] at r0
      obtain ⟨⟨b0, b1, b2⟩, -, -, -, -, -⟩ := HX.out.cells
      clear HX6 hm
      have hq8 : decide ((8 : Int) ≤ ((8 * zs.length : Nat) : Int) - ((p5 + 8 * j : Nat) : Int)) = decide (j < m) := by
        have hmm := HM.out
        by_cases hx : j < m
        · rw [decide_eq_true hx]; exact decide_eq_true (by omega)
        · rw [decide_eq_false hx]; exact decide_eq_false (by omega)
      have hN8b : 8 * zs.length ≤ 8000 := by omega
      have hqb : p5 + 8 * j ≤ 8 * zs.length := HX.out.rd.at_le
      have HQ8 := Lib.hid hq8
      have HFT : Hid (j < m → p5 + 8 * j + 8 ≤ 8 * zs.length) := Lib.hid (fun hx => by have := HM.out; omega)
      clear hq8
      obtain ⟨q8, hq8⟩ : ∃ q8, q8 = p5 + 8 * j := ⟨_, rfl⟩
      obtain ⟨N8, hN8⟩ : ∃ N8, N8 = 8 * zs.length := ⟨_, rfl⟩
      rw [← hq8] at r1
      rw [← hN8] at r0
      rw [← hq8, ← hN8] at HQ8
      rw [← hN8] at hN8b
      rw [← hq8, ← hN8] at hqb
      clear hva
      by_cases hlt : j < m
      · have h8 : decide ((8 : Int) ≤ (N8 : Int) - (q8 : Int)) = true := by rw [HQ8.out]; exact decide_eq_true hlt
        have HQQ := Lib.hid hq8
        clear hq8 hN8
        go_wp2_with fail
        go_big_quiet (fail)
        replace HX := Lib.hid (HX.out.drewN nq)
        obtain ⟨z, hz⟩ : ∃ z, z = tk zs (p5 + 8 * j) 8 := ⟨_, rfl⟩
        have hzb : z ≤ 255 := by
          have := tk_lt zs (p5 + 8 * j) 8
          have e : (2 : Nat) ^ 8 = 256 := by decide
          omega
        have hgc := vget_ok_int (w.heap.size + 1) rb _ zs (p5 + 8 * j) 8 8 (wr.drewN nq).drew (HX.out.drew).rd (by omega) (HFT.out hlt) rfl
        rw [← hz] at hgc
        have HGC := Lib.hid hgc
        have HZZ := Lib.hid hz
        obtain ⟨⟨b0, b1, b2⟩, -, -, -, -, -⟩ := HX.out.cells
        have hwz : IntKind.u8.wrap (z : Int) = (z : Int) := IntWalk.u8_in _ (by omega)
        have hjl : (dat zs p5 j).length ≤ 1000 := by rw [dat_length]; have := HM.out; omega
        have HDL := Lib.hid (dat_length zs p5 j)
        clear hgc hz r0 r1 r2
        generalize wr.drewN nq = wq at *
        go_wp2_with fail
        go_region_law (first | (refine step_append_lies _ (by rfl) _ _ _ (by rfl) (w.heap.size + 1) 5 i0 _ 1 1 Tryd.underlying35 hi hz0 hz1 hz2 rfl (by omega) (.slice da (dat zs p5 j).length dc) (dat zs p5 j).length (bc (dat zs p5 j)) (by rfl) HX6.out.row ⟨w5a.heap.size, 0, none⟩ 1 1 [.int .u8 (z : Int)] (by rfl) (by rfl) HN6.out (by intro u hu; rw [List.mem_singleton.1 hu]; rfl) (by omega) (by unfold maxLen; omega) (by omega) hsz6 _ rfl ?_; intro g6 c6 w6 hown6 hgrow6 hat6 hlt6; have hP6 := (hgrow6.block P (lt_of_heap HX6.out.box) (fun e => HX6.out.ne.2.1 e.symm)).trans HX6.out.box; have d2 := (pkt_cells hP6).2.2; have d3 := frozen_of_row _ P 2 _ _ hP6; have HO6 := Lib.hid hown6; have HG6 := Lib.hid hgrow6; have HA6 := Lib.hid hat6; clear hown6 hgrow6 hat6 hP6) | (go_simp; go_at_call 51; refine HGC.out.mono ?_; rintro e w5a ⟨rfl, ht5⟩; have HX5 := Lib.hid (HX.out.drew.next ht5); obtain ⟨⟨e0, e1, e2⟩, e3, -, -, -, -⟩ := HX5.out.cells; have e32 := e3 2; have HX6 := Lib.hid (HX5.out.later ((Below.refl _ _).alloc (Nat.le_refl _) (.cells #[.int .u8 (z : Int)] 5))); obtain ⟨⟨-, -, m2⟩, m3, -, -, -, -⟩ := HX6.out.cells; have m32 := m3 2; have HN6 := Lib.hid (cell_one_new w5a (.int .u8 (z : Int)) 5); have hsz6 : w.heap.size + 1 ≤ (w5a.alloc (.cells #[.int .u8 (z : Int)] 5)).heap.size := (by have := HX6.out.lt; have := lt_of_heap HX6.out.box; omega); clear ht5 e3 m3))
        all_goals
          go_wp2_with fail
          go_roundg (m - (j + 1))
          case measure => omega
          case rel =>
            have hap := HX6.out.app (z := z) (dv' := .slice (some ⟨g6, 0, none⟩) ((dat zs p5 j).length + 1) c6) (by rw [List.length_append, bc_app_one]; exact HO6.out) HG6.out (by rcases HA6.out with e | e; exact .inl e.symm; exact .inr (by rw [e]; rfl))
            refine ⟨j + 1, some ⟨g6, 0, none⟩, c6, by omega, Lib.hid ?_⟩
            rw [dat_succ, ← HZZ.out, List.length_append, show p5 + 8 * (j + 1) = p5 + 8 * j + 8 by omega]
            exact hap
      · have h8 : decide ((8 : Int) ≤ (N8 : Int) - (q8 : Int)) = false := by rw [HQ8.out]; exact decide_eq_false hlt
        obtain rfl : j = m := by omega
        clear hq8 hN8
        go_wp2_with fail
        go_big_quiet (fail)
        replace HX := Lib.hid (HX.out.drewN nq)
        clear r0 r1 r2 b0 b1 b2
        have hrow := HX.out.row
        have hdb : ∀ z ∈ (dat zs p5 j), z ≤ 255 := dat_byte _ _ _
        have hy0 := By.own hrow hdb
        have hfr : ∀ a, da = some a → w.heap.size ≤ a.block := fun a ha => by
          subst ha
          rcases Nat.eq_zero_or_pos (dat zs p5 j).length with h0 | h0
          · rcases hrow.2 with ⟨e, _⟩ | ⟨g, c, cur, e, hg, _⟩
            · injection e with e; cases e
            · injection e with e
              injection e with e
              subst e
              show w.heap.size ≤ g
              omega
          · obtain ⟨g, c, e⟩ := shape_of hrow h0
            injection e with e
            injection e with e
            subst e
            have := (row_kind hrow g rfl).2.1
            show w.heap.size ≤ g
            omega
        have HFR := Lib.hid hfr
        have HDB := Lib.hid hdb
        have HLA := Lib.hid (rlay_any (h := false) (n := n5) HN5.out hy0 (Nat.le_refl _))
        obtain ⟨⟨b0, b1, b2⟩, -, -, -, -, -⟩ := HX.out.cells
        have HLY := Lib.hid (lyZ_byte (h := false) HN5.out hdb)
        have hl3 : lyE false n5 (dat zs p5 j).length = 0 ∨ lyE false n5 (dat zs p5 j).length = 4 ∨ lyE false n5 (dat zs p5 j).length = 140 := by
          unfold lyE
          split
          · exact .inr (.inl rfl)
          · split
            · exact .inr (.inr rfl)
            · exact .inl rfl
        have HOKL : Hid (lyE false n5 (dat zs p5 j).length = 0 → Ok false n5 (dat zs p5 j) ∧ lyZ false n5 (dat zs p5 j) = play false n5 (dat zs p5 j)) := Lib.hid (fun e => ⟨ly_ok HN5.out hdb e, (ok_ly (ly_ok HN5.out hdb e)).2⟩)
        have HNOL : Hid (Ok false n5 (dat zs p5 j) → lyE false n5 (dat zs p5 j).length = 0) := Lib.hid (fun e => (ok_ly e).1)
        clear hrow hdb hy0 hfr
        generalize lyE false n5 (dat zs p5 j).length = EL at *
        generalize lyZ false n5 (dat zs p5 j) = ZL at *
        go_wp2_with fail
        refine HLA.out.mono ?_
        rintro e w8 ⟨A8, c8, rfl, ho8, hb8⟩
        have HX8 := Lib.hid (HX.out.later hb8)
        have HY8 := Lib.hid (By.own ho8 HLY.out)
        have HAF : Hid (∀ a, A8 = some a → a.block < w8.heap.size ∧ ¬ RF rb rv a.block) := Lib.hid (lay_apart HX8.out.rd ho8)
        clear ho8 hb8 HLA b0 b1 b2
        go_wp2_with fail
        refine (rv_end1 HX8.out.rd).mono ?_
        rintro e w9 ⟨E9, rfl, ht9, he9⟩
        have hne9 := HX8.out.ne
        have HX9 := Lib.hid (HX8.out.next ht9)
        have HFIN : Hid (∀ h' n' d', Is bs h' n' d' → E9 = 0 ∧ h' = false ∧ n' = n5 ∧ d' = (dat zs p5 j)) := Lib.hid (rd_fin (m := j) HPK.out HD5.out (.inl ⟨rfl, rfl, HM.out, rfl⟩) (by first | exact he9 | simpa using he9))
        have HK8 := Lib.hid (by_keep HY8.out ht9.2.size (fun a ha => ht9.2.block _ (HAF.out a ha).1 (HAF.out a ha).2))
        have kc1 := (By.conv HK8.out)
        have kc2 := (HBS.out _ HX9.out.below).conv
        obtain ⟨⟨b0, b1, b2⟩, b3, b4, b5, b6, b7⟩ := HX9.out.cells
        have b40 := b4 0
        have b41 := b4 1
        have b42 := b4 2
        have hr9 := HX9.out.res
        have hset : ∀ (u v z : Value), (((w9.setCell ⟨w.heap.size, 0, none⟩ u).setCell ⟨w.heap.size, 1, none⟩ v).setCell ⟨w.heap.size, 2, none⟩ z).heap[w.heap.size]? = some (.cells #[u, v, z] 48 (0, 0)) := fun u v z => set3 hr9 u v z
        have hbel : ∀ (u v z : Value), Below w.heap.size w (((w9.setCell ⟨w.heap.size, 0, none⟩ u).setCell ⟨w.heap.size, 1, none⟩ v).setCell ⟨w.heap.size, 2, none⟩ z) := fun u v z => ((HX9.out.below.setCell (p := ⟨w.heap.size, 0, none⟩) (Nat.le_refl _) _).setCell (p := ⟨w.heap.size, 1, none⟩) (Nat.le_refl _) _).setCell (p := ⟨w.heap.size, 2, none⟩) (Nat.le_refl _) _
        have hrowf : ∀ (u v z : Value), By (((w9.setCell ⟨w.heap.size, 0, none⟩ u).setCell ⟨w.heap.size, 1, none⟩ v).setCell ⟨w.heap.size, 2, none⟩ z).heap.size (((w9.setCell ⟨w.heap.size, 0, none⟩ u).setCell ⟨w.heap.size, 1, none⟩ v).setCell ⟨w.heap.size, 2, none⟩ z) da (dat zs p5 j).length dc (dat zs p5 j) := fun u v z => By.own (ownsRow_same HX9.out.row (fun k hk => by
          have hne : k ≠ w.heap.size := by have := (HX9.out.row.lt k hk).1; omega
          rw [Below.heap_setCell _ _ _ _ hne, Below.heap_setCell _ _ _ _ hne, Below.heap_setCell _ _ _ _ hne])) HDB.out
        have HSET := Lib.hid hset
        have HBEL := Lib.hid hbel
        have HROW := Lib.hid hrowf
        clear hset hbel hrowf ht9 he9 HX8 HK8 HY8 b3 b4 hne9
        by_cases hE9 : E9 = 0
        · subst hE9
          rcases hl3 with hEL | hEL | hEL
          · subst hEL
            obtain ⟨hok, hZL⟩ := HOKL.out rfl
            have HOK := Lib.hid hok
            by_cases heq : ZL = bs
            · have hs1 : strOf ZL = strOf bs := by rw [heq]
              have HIS : Hid (Is bs false n5 (dat zs p5 j)) := Lib.hid ⟨hok, by rw [← heq]; exact hZL⟩
              clear heq hok hZL
              rw [hs1] at kc1
              clear hs1
              go_wp2_with fail
              have k1 := HSET.out (.bool false) (.int .u64 (n5 : Int)) (.slice da (dat zs p5 j).length dc)
              have k2 := Lib.hid (HBEL.out (.bool false) (.int .u64 (n5 : Int)) (.slice da (dat zs p5 j).length dc))
              have k3 := Lib.hid (HROW.out (.bool false) (.int .u64 (n5 : Int)) (.slice da (dat zs p5 j).length dc))
              generalize (((w9.setCell ⟨w.heap.size, 0, none⟩ (.bool false)).setCell ⟨w.heap.size, 1, none⟩ (.int .u64 (n5 : Int))).setCell ⟨w.heap.size, 2, none⟩ (.slice da (dat zs p5 j).length dc)) = wf at *
              obtain ⟨d0, d1, d2⟩ := pkt_cells k1
              try simp only [Exit.inBlock, Exit.then]
              refine bodyPost_ret (rret_pkt _ rfl d0 d1 d2) rfl ?_
              exact ⟨k2.out, .inl ⟨false, n5, (dat zs p5 j), da, dc, HIS.out, rfl, k3.out, HFR.out⟩⟩
            · have hs1 := strOf_ne ZL bs HLY.out HBY.out heq
              have HNI : Hid (∀ h n d, ¬ Is bs h n d) := Lib.hid (fun h' n' d' hi => by
                obtain ⟨_, rfl, rfl, rfl⟩ := HFIN.out _ _ _ hi
                exact heq (hZL.trans hi.2.symm))
              clear heq hok hZL
              go_wp2_with fail
              have k1 := HSET.out (.bool false) (.int .u64 0) (.slice none 0 0)
              have k2 := Lib.hid (HBEL.out (.bool false) (.int .u64 0) (.slice none 0 0))
              clear HROW
              generalize (((w9.setCell ⟨w.heap.size, 0, none⟩ (.bool false)).setCell ⟨w.heap.size, 1, none⟩ (.int .u64 0)).setCell ⟨w.heap.size, 2, none⟩ (.slice none 0 0)) = wf at *
              obtain ⟨d0, d1, d2⟩ := pkt_cells k1
              try simp only [Exit.inBlock, Exit.then]
              refine bodyPost_ret (rret_pkt _ rfl d0 d1 d2) rfl ?_
              exact ⟨k2.out, .inr ⟨HNI.out, rfl⟩⟩
          · subst hEL
            have HNI : Hid (∀ h n d, ¬ Is bs h n d) := Lib.hid (fun h' n' d' hi => by
              obtain ⟨_, rfl, rfl, rfl⟩ := HFIN.out _ _ _ hi
              exact absurd (HNOL.out hi.1) (by decide))
            go_wp2_with fail
            have k1 := HSET.out (.bool false) (.int .u64 0) (.slice none 0 0)
            have k2 := Lib.hid (HBEL.out (.bool false) (.int .u64 0) (.slice none 0 0))
            clear HROW
            generalize (((w9.setCell ⟨w.heap.size, 0, none⟩ (.bool false)).setCell ⟨w.heap.size, 1, none⟩ (.int .u64 0)).setCell ⟨w.heap.size, 2, none⟩ (.slice none 0 0)) = wf at *
            obtain ⟨d0, d1, d2⟩ := pkt_cells k1
            try simp only [Exit.inBlock, Exit.then]
            refine bodyPost_ret (rret_pkt _ rfl d0 d1 d2) rfl ?_
            exact ⟨k2.out, .inr ⟨HNI.out, rfl⟩⟩
          · subst hEL
            have HNI : Hid (∀ h n d, ¬ Is bs h n d) := Lib.hid (fun h' n' d' hi => by
              obtain ⟨_, rfl, rfl, rfl⟩ := HFIN.out _ _ _ hi
              exact absurd (HNOL.out hi.1) (by decide))
            go_wp2_with fail
            have k1 := HSET.out (.bool false) (.int .u64 0) (.slice none 0 0)
            have k2 := Lib.hid (HBEL.out (.bool false) (.int .u64 0) (.slice none 0 0))
            clear HROW
            generalize (((w9.setCell ⟨w.heap.size, 0, none⟩ (.bool false)).setCell ⟨w.heap.size, 1, none⟩ (.int .u64 0)).setCell ⟨w.heap.size, 2, none⟩ (.slice none 0 0)) = wf at *
            obtain ⟨d0, d1, d2⟩ := pkt_cells k1
            try simp only [Exit.inBlock, Exit.then]
            refine bodyPost_ret (rret_pkt _ rfl d0 d1 d2) rfl ?_
            exact ⟨k2.out, .inr ⟨HNI.out, rfl⟩⟩
        · have hE1 : (E9 != 0) = true := by simpa using hE9
          have HNI : Hid (∀ h n d, ¬ Is bs h n d) := Lib.hid (fun h' n' d' hi => hE9 (HFIN.out _ _ _ hi).1)
          go_wp2_with fail
          have k1 := HSET.out (.bool false) (.int .u64 0) (.slice none 0 0)
          have k2 := Lib.hid (HBEL.out (.bool false) (.int .u64 0) (.slice none 0 0))
          clear HROW
          generalize (((w9.setCell ⟨w.heap.size, 0, none⟩ (.bool false)).setCell ⟨w.heap.size, 1, none⟩ (.int .u64 0)).setCell ⟨w.heap.size, 2, none⟩ (.slice none 0 0)) = wf at *
          obtain ⟨d0, d1, d2⟩ := pkt_cells k1
          try simp only [Exit.inBlock, Exit.then]
          refine bodyPost_ret (rret_pkt _ rfl d0 d1 d2) rfl ?_
          exact ⟨k2.out, .inr ⟨HNI.out, rfl⟩⟩
  · have QHX : Hid (h = true ∨ f5 ≠ 0) := Lib.hid (by
      cases h
      · right; intro e; exact hAB ⟨rfl, e⟩
      · left; rfl)
    have hpk0 : p5 ≤ 8 * zs.length := HX6.out.rd.at_le
    have h3 : h = true ∨ (h = false ∧ (f5 == 0) = false) := by
      rcases QHX.out with e | e
      · exact .inl e
      · cases h
        · exact .inr ⟨rfl, by simpa using e⟩
        · exact .inl rfl
    clear hAB
    go_loopg [49] 0 (fun gg s49 wr => Hid (Ux w wr P rb rv zs p5 f5 (.bool h) (.int .u64 (n5 : Int)) (.slice none 0 0) []))
    case atStart => exact HX6
    case round =>
      have HX := hrel
      obtain ⟨va, vc, hva⟩ := ownsRow_shape HX.out.rd.row
      obtain ⟨r0, r1, r2, -, -⟩ := HX.out.rd.cells
      rw [hva] at r0
      obtain ⟨⟨b0, b1, b2⟩, -, -, -, -, -⟩ := HX.out.cells
      have hN8b : 8 * zs.length ≤ 8000 := by omega
      obtain ⟨N8, hN8⟩ : ∃ N8, N8 = 8 * zs.length := ⟨_, rfl⟩
      rw [← hN8] at r0 hN8b hpk0
      have h8 : decide ((8 : Int) ≤ (N8 : Int) - (p5 : Int)) = true ∨ decide ((8 : Int) ≤ (N8 : Int) - (p5 : Int)) = false := by
        cases decide ((8 : Int) ≤ (N8 : Int) - (p5 : Int))
        · exact .inr rfl
        · exact .inl rfl
      clear hN8 hva HX6 hrel
      rcases h8 with h8 | h8
      · rcases h3 with rfl | ⟨rfl, h3⟩
        · go_wp2_with fail
          go_big_quiet (fail)
          replace HX := Lib.hid (HX.out.drewN nq)
          clear r0 r1 r2 b0 b1 b2
          have hrow := HX.out.row
          have hdb : ∀ z ∈ [], z ≤ 255 := by simp
          have hy0 := By.own hrow hdb
          have hfr : ∀ a : Addr, (none : Option Addr) = some a → w.heap.size ≤ a.block := fun a ha => by cases ha
          have HFR := Lib.hid hfr
          have HDB := Lib.hid hdb
          have HLA := Lib.hid (rlay_any (h := true) (n := n5) HN5.out hy0 (Nat.le_refl _))
          obtain ⟨⟨b0, b1, b2⟩, -, -, -, -, -⟩ := HX.out.cells
          have HLY := Lib.hid (lyZ_byte (h := true) HN5.out hdb)
          have hl3 : lyE true n5 ([] : List Nat).length = 0 ∨ lyE true n5 ([] : List Nat).length = 4 ∨ lyE true n5 ([] : List Nat).length = 140 := by
            unfold lyE
            split
            · exact .inr (.inl rfl)
            · split
              · exact .inr (.inr rfl)
              · exact .inl rfl
          have HOKL : Hid (lyE true n5 ([] : List Nat).length = 0 → Ok true n5 [] ∧ lyZ true n5 [] = play true n5 []) := Lib.hid (fun e => ⟨ly_ok HN5.out hdb e, (ok_ly (ly_ok HN5.out hdb e)).2⟩)
          have HNOL : Hid (Ok true n5 [] → lyE true n5 ([] : List Nat).length = 0) := Lib.hid (fun e => (ok_ly e).1)
          clear hrow hdb hy0 hfr
          generalize lyE true n5 ([] : List Nat).length = EL at *
          generalize lyZ true n5 [] = ZL at *
          go_wp2_with fail
          refine HLA.out.mono ?_
          rintro e w8 ⟨A8, c8, rfl, ho8, hb8⟩
          have HX8 := Lib.hid (HX.out.later hb8)
          have HY8 := Lib.hid (By.own ho8 HLY.out)
          have HAF : Hid (∀ a, A8 = some a → a.block < w8.heap.size ∧ ¬ RF rb rv a.block) := Lib.hid (lay_apart HX8.out.rd ho8)
          clear ho8 hb8 HLA b0 b1 b2
          go_wp2_with fail
          refine (rv_end1 HX8.out.rd).mono ?_
          rintro e w9 ⟨E9, rfl, ht9, he9⟩
          have hne9 := HX8.out.ne
          have HX9 := Lib.hid (HX8.out.next ht9)
          have HFIN : Hid (∀ h' n' d', Is bs h' n' d' → E9 = 0 ∧ h' = true ∧ n' = n5 ∧ d' = []) := Lib.hid (rd_fin (m := 0) HPK.out HD5.out (.inr ⟨by first | exact QHX.out | exact .inl rfl, rfl, rfl⟩) (by first | exact he9 | simpa using he9))
          have HK8 := Lib.hid (by_keep HY8.out ht9.2.size (fun a ha => ht9.2.block _ (HAF.out a ha).1 (HAF.out a ha).2))
          have kc1 := (By.conv HK8.out)
          have kc2 := (HBS.out _ HX9.out.below).conv
          obtain ⟨⟨b0, b1, b2⟩, b3, b4, b5, b6, b7⟩ := HX9.out.cells
          have b40 := b4 0
          have b41 := b4 1
          have b42 := b4 2
          have hr9 := HX9.out.res
          have hset : ∀ (u v z : Value), (((w9.setCell ⟨w.heap.size, 0, none⟩ u).setCell ⟨w.heap.size, 1, none⟩ v).setCell ⟨w.heap.size, 2, none⟩ z).heap[w.heap.size]? = some (.cells #[u, v, z] 48 (0, 0)) := fun u v z => set3 hr9 u v z
          have hbel : ∀ (u v z : Value), Below w.heap.size w (((w9.setCell ⟨w.heap.size, 0, none⟩ u).setCell ⟨w.heap.size, 1, none⟩ v).setCell ⟨w.heap.size, 2, none⟩ z) := fun u v z => ((HX9.out.below.setCell (p := ⟨w.heap.size, 0, none⟩) (Nat.le_refl _) _).setCell (p := ⟨w.heap.size, 1, none⟩) (Nat.le_refl _) _).setCell (p := ⟨w.heap.size, 2, none⟩) (Nat.le_refl _) _
          have hrowf : ∀ (u v z : Value), By (((w9.setCell ⟨w.heap.size, 0, none⟩ u).setCell ⟨w.heap.size, 1, none⟩ v).setCell ⟨w.heap.size, 2, none⟩ z).heap.size (((w9.setCell ⟨w.heap.size, 0, none⟩ u).setCell ⟨w.heap.size, 1, none⟩ v).setCell ⟨w.heap.size, 2, none⟩ z) none 0 0 [] := fun u v z => By.own (ownsRow_same HX9.out.row (fun k hk => by
            have hne : k ≠ w.heap.size := by have := (HX9.out.row.lt k hk).1; omega
            rw [Below.heap_setCell _ _ _ _ hne, Below.heap_setCell _ _ _ _ hne, Below.heap_setCell _ _ _ _ hne])) HDB.out
          have HSET := Lib.hid hset
          have HBEL := Lib.hid hbel
          have HROW := Lib.hid hrowf
          clear hset hbel hrowf ht9 he9 HX8 HK8 HY8 b3 b4 hne9
          by_cases hE9 : E9 = 0
          · subst hE9
            rcases hl3 with hEL | hEL | hEL
            · subst hEL
              obtain ⟨hok, hZL⟩ := HOKL.out rfl
              have HOK := Lib.hid hok
              by_cases heq : ZL = bs
              · have hs1 : strOf ZL = strOf bs := by rw [heq]
                have HIS : Hid (Is bs true n5 []) := Lib.hid ⟨hok, by rw [← heq]; exact hZL⟩
                clear heq hok hZL
                rw [hs1] at kc1
                clear hs1
                go_wp2_with fail
                have k1 := HSET.out (.bool true) (.int .u64 (n5 : Int)) (.slice none 0 0)
                have k2 := Lib.hid (HBEL.out (.bool true) (.int .u64 (n5 : Int)) (.slice none 0 0))
                have k3 := Lib.hid (HROW.out (.bool true) (.int .u64 (n5 : Int)) (.slice none 0 0))
                generalize (((w9.setCell ⟨w.heap.size, 0, none⟩ (.bool true)).setCell ⟨w.heap.size, 1, none⟩ (.int .u64 (n5 : Int))).setCell ⟨w.heap.size, 2, none⟩ (.slice none 0 0)) = wf at *
                obtain ⟨d0, d1, d2⟩ := pkt_cells k1
                try simp only [Exit.inBlock, Exit.then]
                refine bodyPost_ret (rret_pkt _ rfl d0 d1 d2) rfl ?_
                exact ⟨k2.out, .inl ⟨true, n5, [], none, 0, HIS.out, rfl, k3.out, HFR.out⟩⟩
              · have hs1 := strOf_ne ZL bs HLY.out HBY.out heq
                have HNI : Hid (∀ h n d, ¬ Is bs h n d) := Lib.hid (fun h' n' d' hi => by
                  obtain ⟨_, rfl, rfl, rfl⟩ := HFIN.out _ _ _ hi
                  exact heq (hZL.trans hi.2.symm))
                clear heq hok hZL
                go_wp2_with fail
                have k1 := HSET.out (.bool false) (.int .u64 0) (.slice none 0 0)
                have k2 := Lib.hid (HBEL.out (.bool false) (.int .u64 0) (.slice none 0 0))
                clear HROW
                generalize (((w9.setCell ⟨w.heap.size, 0, none⟩ (.bool false)).setCell ⟨w.heap.size, 1, none⟩ (.int .u64 0)).setCell ⟨w.heap.size, 2, none⟩ (.slice none 0 0)) = wf at *
                obtain ⟨d0, d1, d2⟩ := pkt_cells k1
                try simp only [Exit.inBlock, Exit.then]
                refine bodyPost_ret (rret_pkt _ rfl d0 d1 d2) rfl ?_
                exact ⟨k2.out, .inr ⟨HNI.out, rfl⟩⟩
            · subst hEL
              have HNI : Hid (∀ h n d, ¬ Is bs h n d) := Lib.hid (fun h' n' d' hi => by
                obtain ⟨_, rfl, rfl, rfl⟩ := HFIN.out _ _ _ hi
                exact absurd (HNOL.out hi.1) (by decide))
              go_wp2_with fail
              have k1 := HSET.out (.bool false) (.int .u64 0) (.slice none 0 0)
              have k2 := Lib.hid (HBEL.out (.bool false) (.int .u64 0) (.slice none 0 0))
              clear HROW
              generalize (((w9.setCell ⟨w.heap.size, 0, none⟩ (.bool false)).setCell ⟨w.heap.size, 1, none⟩ (.int .u64 0)).setCell ⟨w.heap.size, 2, none⟩ (.slice none 0 0)) = wf at *
              obtain ⟨d0, d1, d2⟩ := pkt_cells k1
              try simp only [Exit.inBlock, Exit.then]
              refine bodyPost_ret (rret_pkt _ rfl d0 d1 d2) rfl ?_
              exact ⟨k2.out, .inr ⟨HNI.out, rfl⟩⟩
            · subst hEL
              have HNI : Hid (∀ h n d, ¬ Is bs h n d) := Lib.hid (fun h' n' d' hi => by
                obtain ⟨_, rfl, rfl, rfl⟩ := HFIN.out _ _ _ hi
                exact absurd (HNOL.out hi.1) (by decide))
              go_wp2_with fail
              have k1 := HSET.out (.bool false) (.int .u64 0) (.slice none 0 0)
              have k2 := Lib.hid (HBEL.out (.bool false) (.int .u64 0) (.slice none 0 0))
              clear HROW
              generalize (((w9.setCell ⟨w.heap.size, 0, none⟩ (.bool false)).setCell ⟨w.heap.size, 1, none⟩ (.int .u64 0)).setCell ⟨w.heap.size, 2, none⟩ (.slice none 0 0)) = wf at *
              obtain ⟨d0, d1, d2⟩ := pkt_cells k1
              try simp only [Exit.inBlock, Exit.then]
              refine bodyPost_ret (rret_pkt _ rfl d0 d1 d2) rfl ?_
              exact ⟨k2.out, .inr ⟨HNI.out, rfl⟩⟩
          · have hE1 : (E9 != 0) = true := by simpa using hE9
            have HNI : Hid (∀ h n d, ¬ Is bs h n d) := Lib.hid (fun h' n' d' hi => hE9 (HFIN.out _ _ _ hi).1)
            go_wp2_with fail
            have k1 := HSET.out (.bool false) (.int .u64 0) (.slice none 0 0)
            have k2 := Lib.hid (HBEL.out (.bool false) (.int .u64 0) (.slice none 0 0))
            clear HROW
            generalize (((w9.setCell ⟨w.heap.size, 0, none⟩ (.bool false)).setCell ⟨w.heap.size, 1, none⟩ (.int .u64 0)).setCell ⟨w.heap.size, 2, none⟩ (.slice none 0 0)) = wf at *
            obtain ⟨d0, d1, d2⟩ := pkt_cells k1
            try simp only [Exit.inBlock, Exit.then]
            refine bodyPost_ret (rret_pkt _ rfl d0 d1 d2) rfl ?_
            exact ⟨k2.out, .inr ⟨HNI.out, rfl⟩⟩
        · go_wp2_with fail
          go_big_quiet (fail)
          replace HX := Lib.hid (HX.out.drewN nq)
          clear r0 r1 r2 b0 b1 b2
          have hrow := HX.out.row
          have hdb : ∀ z ∈ [], z ≤ 255 := by simp
          have hy0 := By.own hrow hdb
          have hfr : ∀ a : Addr, (none : Option Addr) = some a → w.heap.size ≤ a.block := fun a ha => by cases ha
          have HFR := Lib.hid hfr
          have HDB := Lib.hid hdb
          have HLA := Lib.hid (rlay_any (h := false) (n := n5) HN5.out hy0 (Nat.le_refl _))
          obtain ⟨⟨b0, b1, b2⟩, -, -, -, -, -⟩ := HX.out.cells
          have HLY := Lib.hid (lyZ_byte (h := false) HN5.out hdb)
          have hl3 : lyE false n5 ([] : List Nat).length = 0 ∨ lyE false n5 ([] : List Nat).length = 4 ∨ lyE false n5 ([] : List Nat).length = 140 := by
            unfold lyE
            split
            · exact .inr (.inl rfl)
            · split
              · exact .inr (.inr rfl)
              · exact .inl rfl
          have HOKL : Hid (lyE false n5 ([] : List Nat).length = 0 → Ok false n5 [] ∧ lyZ false n5 [] = play false n5 []) := Lib.hid (fun e => ⟨ly_ok HN5.out hdb e, (ok_ly (ly_ok HN5.out hdb e)).2⟩)
          have HNOL : Hid (Ok false n5 [] → lyE false n5 ([] : List Nat).length = 0) := Lib.hid (fun e => (ok_ly e).1)
          clear hrow hdb hy0 hfr
          generalize lyE false n5 ([] : List Nat).length = EL at *
          generalize lyZ false n5 [] = ZL at *
          go_wp2_with fail
          refine HLA.out.mono ?_
          rintro e w8 ⟨A8, c8, rfl, ho8, hb8⟩
          have HX8 := Lib.hid (HX.out.later hb8)
          have HY8 := Lib.hid (By.own ho8 HLY.out)
          have HAF : Hid (∀ a, A8 = some a → a.block < w8.heap.size ∧ ¬ RF rb rv a.block) := Lib.hid (lay_apart HX8.out.rd ho8)
          clear ho8 hb8 HLA b0 b1 b2
          go_wp2_with fail
          refine (rv_end1 HX8.out.rd).mono ?_
          rintro e w9 ⟨E9, rfl, ht9, he9⟩
          have hne9 := HX8.out.ne
          have HX9 := Lib.hid (HX8.out.next ht9)
          have HFIN : Hid (∀ h' n' d', Is bs h' n' d' → E9 = 0 ∧ h' = false ∧ n' = n5 ∧ d' = []) := Lib.hid (rd_fin (m := 0) HPK.out HD5.out (.inr ⟨by first | exact QHX.out | exact .inl rfl, rfl, rfl⟩) (by first | exact he9 | simpa using he9))
          have HK8 := Lib.hid (by_keep HY8.out ht9.2.size (fun a ha => ht9.2.block _ (HAF.out a ha).1 (HAF.out a ha).2))
          have kc1 := (By.conv HK8.out)
          have kc2 := (HBS.out _ HX9.out.below).conv
          obtain ⟨⟨b0, b1, b2⟩, b3, b4, b5, b6, b7⟩ := HX9.out.cells
          have b40 := b4 0
          have b41 := b4 1
          have b42 := b4 2
          have hr9 := HX9.out.res
          have hset : ∀ (u v z : Value), (((w9.setCell ⟨w.heap.size, 0, none⟩ u).setCell ⟨w.heap.size, 1, none⟩ v).setCell ⟨w.heap.size, 2, none⟩ z).heap[w.heap.size]? = some (.cells #[u, v, z] 48 (0, 0)) := fun u v z => set3 hr9 u v z
          have hbel : ∀ (u v z : Value), Below w.heap.size w (((w9.setCell ⟨w.heap.size, 0, none⟩ u).setCell ⟨w.heap.size, 1, none⟩ v).setCell ⟨w.heap.size, 2, none⟩ z) := fun u v z => ((HX9.out.below.setCell (p := ⟨w.heap.size, 0, none⟩) (Nat.le_refl _) _).setCell (p := ⟨w.heap.size, 1, none⟩) (Nat.le_refl _) _).setCell (p := ⟨w.heap.size, 2, none⟩) (Nat.le_refl _) _
          have hrowf : ∀ (u v z : Value), By (((w9.setCell ⟨w.heap.size, 0, none⟩ u).setCell ⟨w.heap.size, 1, none⟩ v).setCell ⟨w.heap.size, 2, none⟩ z).heap.size (((w9.setCell ⟨w.heap.size, 0, none⟩ u).setCell ⟨w.heap.size, 1, none⟩ v).setCell ⟨w.heap.size, 2, none⟩ z) none 0 0 [] := fun u v z => By.own (ownsRow_same HX9.out.row (fun k hk => by
            have hne : k ≠ w.heap.size := by have := (HX9.out.row.lt k hk).1; omega
            rw [Below.heap_setCell _ _ _ _ hne, Below.heap_setCell _ _ _ _ hne, Below.heap_setCell _ _ _ _ hne])) HDB.out
          have HSET := Lib.hid hset
          have HBEL := Lib.hid hbel
          have HROW := Lib.hid hrowf
          clear hset hbel hrowf ht9 he9 HX8 HK8 HY8 b3 b4 hne9
          by_cases hE9 : E9 = 0
          · subst hE9
            rcases hl3 with hEL | hEL | hEL
            · subst hEL
              obtain ⟨hok, hZL⟩ := HOKL.out rfl
              have HOK := Lib.hid hok
              by_cases heq : ZL = bs
              · have hs1 : strOf ZL = strOf bs := by rw [heq]
                have HIS : Hid (Is bs false n5 []) := Lib.hid ⟨hok, by rw [← heq]; exact hZL⟩
                clear heq hok hZL
                rw [hs1] at kc1
                clear hs1
                go_wp2_with fail
                have k1 := HSET.out (.bool false) (.int .u64 (n5 : Int)) (.slice none 0 0)
                have k2 := Lib.hid (HBEL.out (.bool false) (.int .u64 (n5 : Int)) (.slice none 0 0))
                have k3 := Lib.hid (HROW.out (.bool false) (.int .u64 (n5 : Int)) (.slice none 0 0))
                generalize (((w9.setCell ⟨w.heap.size, 0, none⟩ (.bool false)).setCell ⟨w.heap.size, 1, none⟩ (.int .u64 (n5 : Int))).setCell ⟨w.heap.size, 2, none⟩ (.slice none 0 0)) = wf at *
                obtain ⟨d0, d1, d2⟩ := pkt_cells k1
                try simp only [Exit.inBlock, Exit.then]
                refine bodyPost_ret (rret_pkt _ rfl d0 d1 d2) rfl ?_
                exact ⟨k2.out, .inl ⟨false, n5, [], none, 0, HIS.out, rfl, k3.out, HFR.out⟩⟩
              · have hs1 := strOf_ne ZL bs HLY.out HBY.out heq
                have HNI : Hid (∀ h n d, ¬ Is bs h n d) := Lib.hid (fun h' n' d' hi => by
                  obtain ⟨_, rfl, rfl, rfl⟩ := HFIN.out _ _ _ hi
                  exact heq (hZL.trans hi.2.symm))
                clear heq hok hZL
                go_wp2_with fail
                have k1 := HSET.out (.bool false) (.int .u64 0) (.slice none 0 0)
                have k2 := Lib.hid (HBEL.out (.bool false) (.int .u64 0) (.slice none 0 0))
                clear HROW
                generalize (((w9.setCell ⟨w.heap.size, 0, none⟩ (.bool false)).setCell ⟨w.heap.size, 1, none⟩ (.int .u64 0)).setCell ⟨w.heap.size, 2, none⟩ (.slice none 0 0)) = wf at *
                obtain ⟨d0, d1, d2⟩ := pkt_cells k1
                try simp only [Exit.inBlock, Exit.then]
                refine bodyPost_ret (rret_pkt _ rfl d0 d1 d2) rfl ?_
                exact ⟨k2.out, .inr ⟨HNI.out, rfl⟩⟩
            · subst hEL
              have HNI : Hid (∀ h n d, ¬ Is bs h n d) := Lib.hid (fun h' n' d' hi => by
                obtain ⟨_, rfl, rfl, rfl⟩ := HFIN.out _ _ _ hi
                exact absurd (HNOL.out hi.1) (by decide))
              go_wp2_with fail
              have k1 := HSET.out (.bool false) (.int .u64 0) (.slice none 0 0)
              have k2 := Lib.hid (HBEL.out (.bool false) (.int .u64 0) (.slice none 0 0))
              clear HROW
              generalize (((w9.setCell ⟨w.heap.size, 0, none⟩ (.bool false)).setCell ⟨w.heap.size, 1, none⟩ (.int .u64 0)).setCell ⟨w.heap.size, 2, none⟩ (.slice none 0 0)) = wf at *
              obtain ⟨d0, d1, d2⟩ := pkt_cells k1
              try simp only [Exit.inBlock, Exit.then]
              refine bodyPost_ret (rret_pkt _ rfl d0 d1 d2) rfl ?_
              exact ⟨k2.out, .inr ⟨HNI.out, rfl⟩⟩
            · subst hEL
              have HNI : Hid (∀ h n d, ¬ Is bs h n d) := Lib.hid (fun h' n' d' hi => by
                obtain ⟨_, rfl, rfl, rfl⟩ := HFIN.out _ _ _ hi
                exact absurd (HNOL.out hi.1) (by decide))
              go_wp2_with fail
              have k1 := HSET.out (.bool false) (.int .u64 0) (.slice none 0 0)
              have k2 := Lib.hid (HBEL.out (.bool false) (.int .u64 0) (.slice none 0 0))
              clear HROW
              generalize (((w9.setCell ⟨w.heap.size, 0, none⟩ (.bool false)).setCell ⟨w.heap.size, 1, none⟩ (.int .u64 0)).setCell ⟨w.heap.size, 2, none⟩ (.slice none 0 0)) = wf at *
              obtain ⟨d0, d1, d2⟩ := pkt_cells k1
              try simp only [Exit.inBlock, Exit.then]
              refine bodyPost_ret (rret_pkt _ rfl d0 d1 d2) rfl ?_
              exact ⟨k2.out, .inr ⟨HNI.out, rfl⟩⟩
          · have hE1 : (E9 != 0) = true := by simpa using hE9
            have HNI : Hid (∀ h n d, ¬ Is bs h n d) := Lib.hid (fun h' n' d' hi => hE9 (HFIN.out _ _ _ hi).1)
            go_wp2_with fail
            have k1 := HSET.out (.bool false) (.int .u64 0) (.slice none 0 0)
            have k2 := Lib.hid (HBEL.out (.bool false) (.int .u64 0) (.slice none 0 0))
            clear HROW
            generalize (((w9.setCell ⟨w.heap.size, 0, none⟩ (.bool false)).setCell ⟨w.heap.size, 1, none⟩ (.int .u64 0)).setCell ⟨w.heap.size, 2, none⟩ (.slice none 0 0)) = wf at *
            obtain ⟨d0, d1, d2⟩ := pkt_cells k1
            try simp only [Exit.inBlock, Exit.then]
            refine bodyPost_ret (rret_pkt _ rfl d0 d1 d2) rfl ?_
            exact ⟨k2.out, .inr ⟨HNI.out, rfl⟩⟩
      · cases h
        · go_wp2_with fail
          go_big_quiet (fail)
          replace HX := Lib.hid (HX.out.drewN nq)
          clear r0 r1 r2 b0 b1 b2
          have hrow := HX.out.row
          have hdb : ∀ z ∈ [], z ≤ 255 := by simp
          have hy0 := By.own hrow hdb
          have hfr : ∀ a : Addr, (none : Option Addr) = some a → w.heap.size ≤ a.block := fun a ha => by cases ha
          have HFR := Lib.hid hfr
          have HDB := Lib.hid hdb
          have HLA := Lib.hid (rlay_any (h := false) (n := n5) HN5.out hy0 (Nat.le_refl _))
          obtain ⟨⟨b0, b1, b2⟩, -, -, -, -, -⟩ := HX.out.cells
          have HLY := Lib.hid (lyZ_byte (h := false) HN5.out hdb)
          have hl3 : lyE false n5 ([] : List Nat).length = 0 ∨ lyE false n5 ([] : List Nat).length = 4 ∨ lyE false n5 ([] : List Nat).length = 140 := by
            unfold lyE
            split
            · exact .inr (.inl rfl)
            · split
              · exact .inr (.inr rfl)
              · exact .inl rfl
          have HOKL : Hid (lyE false n5 ([] : List Nat).length = 0 → Ok false n5 [] ∧ lyZ false n5 [] = play false n5 []) := Lib.hid (fun e => ⟨ly_ok HN5.out hdb e, (ok_ly (ly_ok HN5.out hdb e)).2⟩)
          have HNOL : Hid (Ok false n5 [] → lyE false n5 ([] : List Nat).length = 0) := Lib.hid (fun e => (ok_ly e).1)
          clear hrow hdb hy0 hfr
          generalize lyE false n5 ([] : List Nat).length = EL at *
          generalize lyZ false n5 [] = ZL at *
          go_wp2_with fail
          refine HLA.out.mono ?_
          rintro e w8 ⟨A8, c8, rfl, ho8, hb8⟩
          have HX8 := Lib.hid (HX.out.later hb8)
          have HY8 := Lib.hid (By.own ho8 HLY.out)
          have HAF : Hid (∀ a, A8 = some a → a.block < w8.heap.size ∧ ¬ RF rb rv a.block) := Lib.hid (lay_apart HX8.out.rd ho8)
          clear ho8 hb8 HLA b0 b1 b2
          go_wp2_with fail
          refine (rv_end1 HX8.out.rd).mono ?_
          rintro e w9 ⟨E9, rfl, ht9, he9⟩
          have hne9 := HX8.out.ne
          have HX9 := Lib.hid (HX8.out.next ht9)
          have HFIN : Hid (∀ h' n' d', Is bs h' n' d' → E9 = 0 ∧ h' = false ∧ n' = n5 ∧ d' = []) := Lib.hid (rd_fin (m := 0) HPK.out HD5.out (.inr ⟨by first | exact QHX.out | exact .inl rfl, rfl, rfl⟩) (by first | exact he9 | simpa using he9))
          have HK8 := Lib.hid (by_keep HY8.out ht9.2.size (fun a ha => ht9.2.block _ (HAF.out a ha).1 (HAF.out a ha).2))
          have kc1 := (By.conv HK8.out)
          have kc2 := (HBS.out _ HX9.out.below).conv
          obtain ⟨⟨b0, b1, b2⟩, b3, b4, b5, b6, b7⟩ := HX9.out.cells
          have b40 := b4 0
          have b41 := b4 1
          have b42 := b4 2
          have hr9 := HX9.out.res
          have hset : ∀ (u v z : Value), (((w9.setCell ⟨w.heap.size, 0, none⟩ u).setCell ⟨w.heap.size, 1, none⟩ v).setCell ⟨w.heap.size, 2, none⟩ z).heap[w.heap.size]? = some (.cells #[u, v, z] 48 (0, 0)) := fun u v z => set3 hr9 u v z
          have hbel : ∀ (u v z : Value), Below w.heap.size w (((w9.setCell ⟨w.heap.size, 0, none⟩ u).setCell ⟨w.heap.size, 1, none⟩ v).setCell ⟨w.heap.size, 2, none⟩ z) := fun u v z => ((HX9.out.below.setCell (p := ⟨w.heap.size, 0, none⟩) (Nat.le_refl _) _).setCell (p := ⟨w.heap.size, 1, none⟩) (Nat.le_refl _) _).setCell (p := ⟨w.heap.size, 2, none⟩) (Nat.le_refl _) _
          have hrowf : ∀ (u v z : Value), By (((w9.setCell ⟨w.heap.size, 0, none⟩ u).setCell ⟨w.heap.size, 1, none⟩ v).setCell ⟨w.heap.size, 2, none⟩ z).heap.size (((w9.setCell ⟨w.heap.size, 0, none⟩ u).setCell ⟨w.heap.size, 1, none⟩ v).setCell ⟨w.heap.size, 2, none⟩ z) none 0 0 [] := fun u v z => By.own (ownsRow_same HX9.out.row (fun k hk => by
            have hne : k ≠ w.heap.size := by have := (HX9.out.row.lt k hk).1; omega
            rw [Below.heap_setCell _ _ _ _ hne, Below.heap_setCell _ _ _ _ hne, Below.heap_setCell _ _ _ _ hne])) HDB.out
          have HSET := Lib.hid hset
          have HBEL := Lib.hid hbel
          have HROW := Lib.hid hrowf
          clear hset hbel hrowf ht9 he9 HX8 HK8 HY8 b3 b4 hne9
          by_cases hE9 : E9 = 0
          · subst hE9
            rcases hl3 with hEL | hEL | hEL
            · subst hEL
              obtain ⟨hok, hZL⟩ := HOKL.out rfl
              have HOK := Lib.hid hok
              by_cases heq : ZL = bs
              · have hs1 : strOf ZL = strOf bs := by rw [heq]
                have HIS : Hid (Is bs false n5 []) := Lib.hid ⟨hok, by rw [← heq]; exact hZL⟩
                clear heq hok hZL
                rw [hs1] at kc1
                clear hs1
                go_wp2_with fail
                have k1 := HSET.out (.bool false) (.int .u64 (n5 : Int)) (.slice none 0 0)
                have k2 := Lib.hid (HBEL.out (.bool false) (.int .u64 (n5 : Int)) (.slice none 0 0))
                have k3 := Lib.hid (HROW.out (.bool false) (.int .u64 (n5 : Int)) (.slice none 0 0))
                generalize (((w9.setCell ⟨w.heap.size, 0, none⟩ (.bool false)).setCell ⟨w.heap.size, 1, none⟩ (.int .u64 (n5 : Int))).setCell ⟨w.heap.size, 2, none⟩ (.slice none 0 0)) = wf at *
                obtain ⟨d0, d1, d2⟩ := pkt_cells k1
                try simp only [Exit.inBlock, Exit.then]
                refine bodyPost_ret (rret_pkt _ rfl d0 d1 d2) rfl ?_
                exact ⟨k2.out, .inl ⟨false, n5, [], none, 0, HIS.out, rfl, k3.out, HFR.out⟩⟩
              · have hs1 := strOf_ne ZL bs HLY.out HBY.out heq
                have HNI : Hid (∀ h n d, ¬ Is bs h n d) := Lib.hid (fun h' n' d' hi => by
                  obtain ⟨_, rfl, rfl, rfl⟩ := HFIN.out _ _ _ hi
                  exact heq (hZL.trans hi.2.symm))
                clear heq hok hZL
                go_wp2_with fail
                have k1 := HSET.out (.bool false) (.int .u64 0) (.slice none 0 0)
                have k2 := Lib.hid (HBEL.out (.bool false) (.int .u64 0) (.slice none 0 0))
                clear HROW
                generalize (((w9.setCell ⟨w.heap.size, 0, none⟩ (.bool false)).setCell ⟨w.heap.size, 1, none⟩ (.int .u64 0)).setCell ⟨w.heap.size, 2, none⟩ (.slice none 0 0)) = wf at *
                obtain ⟨d0, d1, d2⟩ := pkt_cells k1
                try simp only [Exit.inBlock, Exit.then]
                refine bodyPost_ret (rret_pkt _ rfl d0 d1 d2) rfl ?_
                exact ⟨k2.out, .inr ⟨HNI.out, rfl⟩⟩
            · subst hEL
              have HNI : Hid (∀ h n d, ¬ Is bs h n d) := Lib.hid (fun h' n' d' hi => by
                obtain ⟨_, rfl, rfl, rfl⟩ := HFIN.out _ _ _ hi
                exact absurd (HNOL.out hi.1) (by decide))
              go_wp2_with fail
              have k1 := HSET.out (.bool false) (.int .u64 0) (.slice none 0 0)
              have k2 := Lib.hid (HBEL.out (.bool false) (.int .u64 0) (.slice none 0 0))
              clear HROW
              generalize (((w9.setCell ⟨w.heap.size, 0, none⟩ (.bool false)).setCell ⟨w.heap.size, 1, none⟩ (.int .u64 0)).setCell ⟨w.heap.size, 2, none⟩ (.slice none 0 0)) = wf at *
              obtain ⟨d0, d1, d2⟩ := pkt_cells k1
              try simp only [Exit.inBlock, Exit.then]
              refine bodyPost_ret (rret_pkt _ rfl d0 d1 d2) rfl ?_
              exact ⟨k2.out, .inr ⟨HNI.out, rfl⟩⟩
            · subst hEL
              have HNI : Hid (∀ h n d, ¬ Is bs h n d) := Lib.hid (fun h' n' d' hi => by
                obtain ⟨_, rfl, rfl, rfl⟩ := HFIN.out _ _ _ hi
                exact absurd (HNOL.out hi.1) (by decide))
              go_wp2_with fail
              have k1 := HSET.out (.bool false) (.int .u64 0) (.slice none 0 0)
              have k2 := Lib.hid (HBEL.out (.bool false) (.int .u64 0) (.slice none 0 0))
              clear HROW
              generalize (((w9.setCell ⟨w.heap.size, 0, none⟩ (.bool false)).setCell ⟨w.heap.size, 1, none⟩ (.int .u64 0)).setCell ⟨w.heap.size, 2, none⟩ (.slice none 0 0)) = wf at *
              obtain ⟨d0, d1, d2⟩ := pkt_cells k1
              try simp only [Exit.inBlock, Exit.then]
              refine bodyPost_ret (rret_pkt _ rfl d0 d1 d2) rfl ?_
              exact ⟨k2.out, .inr ⟨HNI.out, rfl⟩⟩
          · have hE1 : (E9 != 0) = true := by simpa using hE9
            have HNI : Hid (∀ h n d, ¬ Is bs h n d) := Lib.hid (fun h' n' d' hi => hE9 (HFIN.out _ _ _ hi).1)
            go_wp2_with fail
            have k1 := HSET.out (.bool false) (.int .u64 0) (.slice none 0 0)
            have k2 := Lib.hid (HBEL.out (.bool false) (.int .u64 0) (.slice none 0 0))
            clear HROW
            generalize (((w9.setCell ⟨w.heap.size, 0, none⟩ (.bool false)).setCell ⟨w.heap.size, 1, none⟩ (.int .u64 0)).setCell ⟨w.heap.size, 2, none⟩ (.slice none 0 0)) = wf at *
            obtain ⟨d0, d1, d2⟩ := pkt_cells k1
            try simp only [Exit.inBlock, Exit.then]
            refine bodyPost_ret (rret_pkt _ rfl d0 d1 d2) rfl ?_
            exact ⟨k2.out, .inr ⟨HNI.out, rfl⟩⟩
        · go_wp2_with fail
          go_big_quiet (fail)
          replace HX := Lib.hid (HX.out.drewN nq)
          clear r0 r1 r2 b0 b1 b2
          have hrow := HX.out.row
          have hdb : ∀ z ∈ [], z ≤ 255 := by simp
          have hy0 := By.own hrow hdb
          have hfr : ∀ a : Addr, (none : Option Addr) = some a → w.heap.size ≤ a.block := fun a ha => by cases ha
          have HFR := Lib.hid hfr
          have HDB := Lib.hid hdb
          have HLA := Lib.hid (rlay_any (h := true) (n := n5) HN5.out hy0 (Nat.le_refl _))
          obtain ⟨⟨b0, b1, b2⟩, -, -, -, -, -⟩ := HX.out.cells
          have HLY := Lib.hid (lyZ_byte (h := true) HN5.out hdb)
          have hl3 : lyE true n5 ([] : List Nat).length = 0 ∨ lyE true n5 ([] : List Nat).length = 4 ∨ lyE true n5 ([] : List Nat).length = 140 := by
            unfold lyE
            split
            · exact .inr (.inl rfl)
            · split
              · exact .inr (.inr rfl)
              · exact .inl rfl
          have HOKL : Hid (lyE true n5 ([] : List Nat).length = 0 → Ok true n5 [] ∧ lyZ true n5 [] = play true n5 []) := Lib.hid (fun e => ⟨ly_ok HN5.out hdb e, (ok_ly (ly_ok HN5.out hdb e)).2⟩)
          have HNOL : Hid (Ok true n5 [] → lyE true n5 ([] : List Nat).length = 0) := Lib.hid (fun e => (ok_ly e).1)
          clear hrow hdb hy0 hfr
          generalize lyE true n5 ([] : List Nat).length = EL at *
          generalize lyZ true n5 [] = ZL at *
          go_wp2_with fail
          refine HLA.out.mono ?_
          rintro e w8 ⟨A8, c8, rfl, ho8, hb8⟩
          have HX8 := Lib.hid (HX.out.later hb8)
          have HY8 := Lib.hid (By.own ho8 HLY.out)
          have HAF : Hid (∀ a, A8 = some a → a.block < w8.heap.size ∧ ¬ RF rb rv a.block) := Lib.hid (lay_apart HX8.out.rd ho8)
          clear ho8 hb8 HLA b0 b1 b2
          go_wp2_with fail
          refine (rv_end1 HX8.out.rd).mono ?_
          rintro e w9 ⟨E9, rfl, ht9, he9⟩
          have hne9 := HX8.out.ne
          have HX9 := Lib.hid (HX8.out.next ht9)
          have HFIN : Hid (∀ h' n' d', Is bs h' n' d' → E9 = 0 ∧ h' = true ∧ n' = n5 ∧ d' = []) := Lib.hid (rd_fin (m := 0) HPK.out HD5.out (.inr ⟨by first | exact QHX.out | exact .inl rfl, rfl, rfl⟩) (by first | exact he9 | simpa using he9))
          have HK8 := Lib.hid (by_keep HY8.out ht9.2.size (fun a ha => ht9.2.block _ (HAF.out a ha).1 (HAF.out a ha).2))
          have kc1 := (By.conv HK8.out)
          have kc2 := (HBS.out _ HX9.out.below).conv
          obtain ⟨⟨b0, b1, b2⟩, b3, b4, b5, b6, b7⟩ := HX9.out.cells
          have b40 := b4 0
          have b41 := b4 1
          have b42 := b4 2
          have hr9 := HX9.out.res
          have hset : ∀ (u v z : Value), (((w9.setCell ⟨w.heap.size, 0, none⟩ u).setCell ⟨w.heap.size, 1, none⟩ v).setCell ⟨w.heap.size, 2, none⟩ z).heap[w.heap.size]? = some (.cells #[u, v, z] 48 (0, 0)) := fun u v z => set3 hr9 u v z
          have hbel : ∀ (u v z : Value), Below w.heap.size w (((w9.setCell ⟨w.heap.size, 0, none⟩ u).setCell ⟨w.heap.size, 1, none⟩ v).setCell ⟨w.heap.size, 2, none⟩ z) := fun u v z => ((HX9.out.below.setCell (p := ⟨w.heap.size, 0, none⟩) (Nat.le_refl _) _).setCell (p := ⟨w.heap.size, 1, none⟩) (Nat.le_refl _) _).setCell (p := ⟨w.heap.size, 2, none⟩) (Nat.le_refl _) _
          have hrowf : ∀ (u v z : Value), By (((w9.setCell ⟨w.heap.size, 0, none⟩ u).setCell ⟨w.heap.size, 1, none⟩ v).setCell ⟨w.heap.size, 2, none⟩ z).heap.size (((w9.setCell ⟨w.heap.size, 0, none⟩ u).setCell ⟨w.heap.size, 1, none⟩ v).setCell ⟨w.heap.size, 2, none⟩ z) none 0 0 [] := fun u v z => By.own (ownsRow_same HX9.out.row (fun k hk => by
            have hne : k ≠ w.heap.size := by have := (HX9.out.row.lt k hk).1; omega
            rw [Below.heap_setCell _ _ _ _ hne, Below.heap_setCell _ _ _ _ hne, Below.heap_setCell _ _ _ _ hne])) HDB.out
          have HSET := Lib.hid hset
          have HBEL := Lib.hid hbel
          have HROW := Lib.hid hrowf
          clear hset hbel hrowf ht9 he9 HX8 HK8 HY8 b3 b4 hne9
          by_cases hE9 : E9 = 0
          · subst hE9
            rcases hl3 with hEL | hEL | hEL
            · subst hEL
              obtain ⟨hok, hZL⟩ := HOKL.out rfl
              have HOK := Lib.hid hok
              by_cases heq : ZL = bs
              · have hs1 : strOf ZL = strOf bs := by rw [heq]
                have HIS : Hid (Is bs true n5 []) := Lib.hid ⟨hok, by rw [← heq]; exact hZL⟩
                clear heq hok hZL
                rw [hs1] at kc1
                clear hs1
                go_wp2_with fail
                have k1 := HSET.out (.bool true) (.int .u64 (n5 : Int)) (.slice none 0 0)
                have k2 := Lib.hid (HBEL.out (.bool true) (.int .u64 (n5 : Int)) (.slice none 0 0))
                have k3 := Lib.hid (HROW.out (.bool true) (.int .u64 (n5 : Int)) (.slice none 0 0))
                generalize (((w9.setCell ⟨w.heap.size, 0, none⟩ (.bool true)).setCell ⟨w.heap.size, 1, none⟩ (.int .u64 (n5 : Int))).setCell ⟨w.heap.size, 2, none⟩ (.slice none 0 0)) = wf at *
                obtain ⟨d0, d1, d2⟩ := pkt_cells k1
                try simp only [Exit.inBlock, Exit.then]
                refine bodyPost_ret (rret_pkt _ rfl d0 d1 d2) rfl ?_
                exact ⟨k2.out, .inl ⟨true, n5, [], none, 0, HIS.out, rfl, k3.out, HFR.out⟩⟩
              · have hs1 := strOf_ne ZL bs HLY.out HBY.out heq
                have HNI : Hid (∀ h n d, ¬ Is bs h n d) := Lib.hid (fun h' n' d' hi => by
                  obtain ⟨_, rfl, rfl, rfl⟩ := HFIN.out _ _ _ hi
                  exact heq (hZL.trans hi.2.symm))
                clear heq hok hZL
                go_wp2_with fail
                have k1 := HSET.out (.bool false) (.int .u64 0) (.slice none 0 0)
                have k2 := Lib.hid (HBEL.out (.bool false) (.int .u64 0) (.slice none 0 0))
                clear HROW
                generalize (((w9.setCell ⟨w.heap.size, 0, none⟩ (.bool false)).setCell ⟨w.heap.size, 1, none⟩ (.int .u64 0)).setCell ⟨w.heap.size, 2, none⟩ (.slice none 0 0)) = wf at *
                obtain ⟨d0, d1, d2⟩ := pkt_cells k1
                try simp only [Exit.inBlock, Exit.then]
                refine bodyPost_ret (rret_pkt _ rfl d0 d1 d2) rfl ?_
                exact ⟨k2.out, .inr ⟨HNI.out, rfl⟩⟩
            · subst hEL
              have HNI : Hid (∀ h n d, ¬ Is bs h n d) := Lib.hid (fun h' n' d' hi => by
                obtain ⟨_, rfl, rfl, rfl⟩ := HFIN.out _ _ _ hi
                exact absurd (HNOL.out hi.1) (by decide))
              go_wp2_with fail
              have k1 := HSET.out (.bool false) (.int .u64 0) (.slice none 0 0)
              have k2 := Lib.hid (HBEL.out (.bool false) (.int .u64 0) (.slice none 0 0))
              clear HROW
              generalize (((w9.setCell ⟨w.heap.size, 0, none⟩ (.bool false)).setCell ⟨w.heap.size, 1, none⟩ (.int .u64 0)).setCell ⟨w.heap.size, 2, none⟩ (.slice none 0 0)) = wf at *
              obtain ⟨d0, d1, d2⟩ := pkt_cells k1
              try simp only [Exit.inBlock, Exit.then]
              refine bodyPost_ret (rret_pkt _ rfl d0 d1 d2) rfl ?_
              exact ⟨k2.out, .inr ⟨HNI.out, rfl⟩⟩
            · subst hEL
              have HNI : Hid (∀ h n d, ¬ Is bs h n d) := Lib.hid (fun h' n' d' hi => by
                obtain ⟨_, rfl, rfl, rfl⟩ := HFIN.out _ _ _ hi
                exact absurd (HNOL.out hi.1) (by decide))
              go_wp2_with fail
              have k1 := HSET.out (.bool false) (.int .u64 0) (.slice none 0 0)
              have k2 := Lib.hid (HBEL.out (.bool false) (.int .u64 0) (.slice none 0 0))
              clear HROW
              generalize (((w9.setCell ⟨w.heap.size, 0, none⟩ (.bool false)).setCell ⟨w.heap.size, 1, none⟩ (.int .u64 0)).setCell ⟨w.heap.size, 2, none⟩ (.slice none 0 0)) = wf at *
              obtain ⟨d0, d1, d2⟩ := pkt_cells k1
              try simp only [Exit.inBlock, Exit.then]
              refine bodyPost_ret (rret_pkt _ rfl d0 d1 d2) rfl ?_
              exact ⟨k2.out, .inr ⟨HNI.out, rfl⟩⟩
          · have hE1 : (E9 != 0) = true := by simpa using hE9
            have HNI : Hid (∀ h n d, ¬ Is bs h n d) := Lib.hid (fun h' n' d' hi => hE9 (HFIN.out _ _ _ hi).1)
            go_wp2_with fail
            have k1 := HSET.out (.bool false) (.int .u64 0) (.slice none 0 0)
            have k2 := Lib.hid (HBEL.out (.bool false) (.int .u64 0) (.slice none 0 0))
            clear HROW
            generalize (((w9.setCell ⟨w.heap.size, 0, none⟩ (.bool false)).setCell ⟨w.heap.size, 1, none⟩ (.int .u64 0)).setCell ⟨w.heap.size, 2, none⟩ (.slice none 0 0)) = wf at *
            obtain ⟨d0, d1, d2⟩ := pkt_cells k1
            try simp only [Exit.inBlock, Exit.then]
            refine bodyPost_ret (rret_pkt _ rfl d0 d1 d2) rfl ?_
            exact ⟨k2.out, .inr ⟨HNI.out, rfl⟩⟩
theorem rtake_any {B : Nat} {w : World} {A : Option Addr} {n cap : Nat} {bs : List Nat} (h : By B w A n cap bs) (hB : B ≤ w.heap.size) : Calls Tryd.prog 15 #[.slice A n cap] w (TakeTold w bs) := by
  cases hf : isFrm bs
  · exact rtake_no h hB hf
  · exact rtake_yes h hB hf
end Ln
end Go.Proofs.YtobpinelhjpfgaaDoor
end
