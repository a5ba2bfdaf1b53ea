/-
  Layer 12: the document's queue: out, Add, Take, Drop.
-/
import Derived.Test.YtgeahckblgpnmaaAgR
set_option linter.unusedVariables false
set_option maxRecDepth 100000
namespace Go.Proofs.Ytgeahckblgpnmaa
namespace Ag
open Go.RowKit Go.Maps Bk

theorem rkeep {w w3 : World} {base g : Nat} {v : Value} {s : Int} {d : Nat} {L : List Wr} (h : RQ w base g v s d L) {row : Option Nat} (hr : row ≠ some g) (hg : w.grownBy w3 row) : w3.frozen? ⟨g, 0, none⟩ = false ∧ w3.cell? ⟨g, 0, none⟩ = some v ∧ w3.cell? ⟨g, 1, none⟩ = some (.int .i64 (d : Int)) ∧ w3.frozen? ⟨g, 1, none⟩ = false ∧ w3.heap[g]? = w.heap[g]? := by
  have hb : w3.heap[g]? = w.heap[g]? := hg.block g h.lt (fun e => hr e.symm)
  have hbx := hb.trans h.box
  exact ⟨frozen_of_row w3 g 0 _ _ hbx, by rw [cell_of_row w3 g 0 _ _ _ hbx]; rfl, by rw [cell_of_row w3 g 1 _ _ _ hbx]; rfl, frozen_of_row w3 g 1 _ _ hbx, hb⟩
/-- Behind the first of the two appends of out. -/
theorem rout_mid {w wa w1 : World} {base g gv n c : Nat} {s : Int} {d : Nat} {L : List Wr} {v1 : Value} (h0 : RQ w base g (.slice (some ⟨gv, 0, none⟩) n c) s d L) (h : RQ wa base g (.slice (some ⟨gv, 0, none⟩) n c) s d L) (hz : w.heap.size + 1 = wa.heap.size)
    (ht : Turn (QF g (.slice (some ⟨gv, 0, none⟩) n c)) (QF g (.slice (some ⟨gv, 0, none⟩) n c)) w wa) (hg : wa.grownBy w1 (Value.slice (some ⟨w.heap.size, 0, none⟩) 0 0).ownBlock) (hx : v1.ownBlock = (Value.slice (some ⟨w.heap.size, 0, none⟩) 0 0).ownBlock ∨ v1.ownBlock = some wa.heap.size) :
    RQ w1 base g (.slice (some ⟨gv, 0, none⟩) n c) s d L ∧ Turn (QF g (.slice (some ⟨gv, 0, none⟩) n c)) (QF g (.slice (some ⟨gv, 0, none⟩) n c)) w w1 ∧ w.heap.size ≤ w1.heap.size ∧ (∀ k, v1.ownBlock = some k → w.heap.size ≤ k) ∧ v1.ownBlock ≠ some g ∧ w1.cell? ⟨g, 0, none⟩ = some (.slice (some ⟨gv, 0, none⟩) n c) := by
  have e0 : (Value.slice (some ⟨w.heap.size, 0, none⟩) 0 0).ownBlock = some w.heap.size := rfl
  rw [e0] at hg hx
  have hzz := hg.size
  have hq : RQ w1 base g (.slice (some ⟨gv, 0, none⟩) n c) s d L := h.same (fun k hk => hg.block k (h.blocks k hk).2 (fun e => by
    injection e with e
    have := (h0.blocks k hk).2
    omega))
  have hl : ∀ k, v1.ownBlock = some k → w.heap.size ≤ k := fun k hk => by
    rcases hx with e | e
    · rw [e] at hk; injection hk with hk; omega
    · rw [e] at hk; injection hk with hk; omega
  refine ⟨hq, ⟨hg.os.trans ht.os, hg.tape.trans ht.tape, hg.output.trans ht.output, by omega, fun k hk hF => (hg.block k (by omega) (fun e => ?_)).trans (ht.block k hk hF), fun k hk => .inl hk⟩, by omega, hl, fun e => ?_, hq.cells.1⟩
  · injection e with e; omega
  · have := hl g e
    have := h0.lt
    omega
set_option maxHeartbeats 4000000 in
theorem rout_any {w : World} {base g : Nat} {v : Value} {s : Int} {d : Nat} {L : List Wr} (h : RQ w base g v s d L) (i : Nat) (hi : i < L.length) (hbw : base ≤ w.heap.size) :
    Calls Try.prog 26 #[.pointer (some ⟨g, 0, none⟩), .int .i64 (i : Int)] w (RTold (.tuple #[]) base g v s d (out i L) w) := by
  obtain ⟨A, n, c, rfl, hn⟩ := h.form
  obtain ⟨c0, -, -, f0, -⟩ := h.cells
  obtain ⟨gv, rfl⟩ := h.own.some (by intro e; subst e; simp at hi)
  have hf := h.ok.few
  have hs := Gt.size (h.own.wg).2
  have hs1 := hs.1
  have hs2 := hs.2
  have hA := (Below.refl w.heap.size w).alloc (Nat.le_refl _) (.cells #[] 46)
  have HE := Lib.hid (Ww.empty w base hbw)
  have HQ0 := Lib.hid h
  have HQA := Lib.hid (h.later hA)
  have HT0 := Lib.hid (Turn.ofBelow hA (QF g (.slice (some ⟨gv, 0, none⟩) n c)))
  have HZ0 : Hid (w.heap.size + 1 = (w.alloc (.cells #[] 46)).heap.size) := Lib.hid (by simp)
  have hic : (i : Int) ≤ (n : Int) := by omega
  have hi1 : ((i : Int) + 1) ≤ (n : Int) := by omega
  have hiN : i < n := by omega
  have HI := Lib.hid hi
  have HNL := Lib.hid hn
  have HOK := Lib.hid (h.ok.sub (out_sub i L))
  have HLO := Lib.hid hbw
  obtain ⟨wa, hwa⟩ : ∃ wa, wa = w.alloc (.cells #[] 46) := ⟨_, rfl⟩
  rw [← hwa] at HE HQA HT0 HZ0
  have ca : (w.alloc (.cells #[] 46)).cell? ⟨g, 0, none⟩ = some (.slice (some ⟨gv, 0, none⟩) n c) := by rw [← hwa]; exact HQA.out.cells.1
  have HTK := Lib.hid (Wg.cut (HQA.out.own.wg).2 (m := i) (by omega))
  have HL1 : Hid ((L.take i).length = i ∧ L.length ≤ 64) := Lib.hid ⟨by rw [List.length_take]; omega, hf⟩
  obtain ⟨A', hA', HTL⟩ : ∃ A' : Option Addr, (if c = i + 1 then (some ⟨gv, 0, none⟩ : Option Addr) else some ⟨gv, (i + 1) * 3, none⟩) = A' ∧ Hid (∀ wx, Wg wx.heap.size wx (some ⟨gv, 0, none⟩) n c L → Wg wx.heap.size wx A' (n - (i + 1)) (c - (i + 1)) (L.drop (i + 1))) := by
    refine ⟨_, rfl, Lib.hid (fun wx hx => Wg.tail hx (by omega) _ (by split <;> simp) (fun hlt => ?_))⟩
    rw [if_neg (by omega), Nat.zero_add]
  have hne : (Value.slice (some ⟨w.heap.size, 0, none⟩) 0 0).ownBlock ≠ some g := by
    intro e
    have e : w.heap.size = g := by simpa [Value.ownBlock] using e
    have := lt_of_heap HQ0.out.box
    omega
  have HNE := Lib.hid hne
  clear h hs hA hn hi hf hne
  go_enter Try.func26, Try.ntmps26
  go_wp2_with (first
    | (at_builtin; rw [← hwa]; refine app_waits rfl _ _ rfl base (.slice (some ⟨w.heap.size, 0, none⟩) 0 0) [] rfl HE.out (some ⟨gv, 0, none⟩) i c (L.take i) rfl HTK.out (by have h1 := HL1.out.2; have h2 := HI.out; simp only [List.length_nil]; omega) (by have := HLO.out; have := HZ0.out; omega) ?_; intro A1 n1 c1 w1 hn1 ho1 hb1 hg1 hx1; have HO1 := Lib.hid ho1; have HM := Lib.hid (rout_mid HQ0.out HQA.out HZ0.out HT0.out hg1 hx1); have HWT := Lib.hid (HTL.out w1 (HM.out.1.own.wg).2); have kc := HM.out.2.2.2.2.2; clear hn1 ho1 hb1 hg1 hx1)
    | (at_builtin; refine app_waits rfl _ _ rfl base (.slice A1 n1 c1) _ rfl HO1.out A' (n - (i + 1)) (c - (i + 1)) (L.drop (i + 1)) rfl HWT.out (by have h1 := HL1.out; have h2 := HNL.out; simp only [List.nil_append]; omega) (by have := HLO.out; have := HM.out.2.2.1; omega) ?_; intro A2 n2 c2 w2 hn2 ho2 hb2 hg2 hx2; have HN2 := Lib.hid hn2; have HO2 := Lib.hid ho2; have HG2 := Lib.hid hg2; have HX2 := Lib.hid hx2; obtain ⟨kf2, kc2, -, -, -⟩ := rkeep HM.out.1 HM.out.2.2.2.2.1 hg2; clear hn2 ho2 hb2 hg2 hx2))
  go_end0
  have hb2 := (rkeep HM.out.1 HM.out.2.2.2.2.1 HG2.out).2.2.2.2
  have ho2 := HO2.out
  rw [List.nil_append] at ho2
  have hq := HM.out.1.turned ho2 HOK.out hb2
  refine ⟨_, rfl, hq, ?_⟩
  have t2 : Turn (QF g (.slice (some ⟨gv, 0, none⟩) n c)) (fun k => k = g) w w2 := by
    have hz := HG2.out.size
    have hz1 := HM.out.2.2.1
    refine ⟨HG2.out.os.trans HM.out.2.1.os, HG2.out.tape.trans HM.out.2.1.tape, HG2.out.output.trans HM.out.2.1.output, by omega, fun k hk hF => (HG2.out.block k (by omega) (fun e => ?_)).trans (HM.out.2.1.block k hk hF), fun k hk => .inl (.inl hk)⟩
    have := HM.out.2.2.2.1 k e.symm
    omega
  have t3 := t2.put (b := g) (o := 0) (.slice A2 n2 c2) rfl
  refine ⟨t3.os, t3.tape, t3.output, t3.size, t3.block, ?_⟩
  rintro k (rfl | hk)
  · exact .inl (.inl rfl)
  · refine .inr ?_
    rcases HX2.out with e | e
    · exact HM.out.2.2.2.1 k (e.symm.trans hk)
    · rw [e] at hk
      injection hk with hk
      have := HM.out.2.2.1
      omega
end Ag
end Go.Proofs.Ytgeahckblgpnmaa
