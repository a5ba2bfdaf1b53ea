/-
  Layer 14: Take, its walk.
-/
import Derived.Test.YtobpinelhjpfgaaDoorLnC
import Derived.Laws.ResultCell
set_option linter.unusedVariables false
set_option maxRecDepth 100000
namespace Go.Proofs.YtobpinelhjpfgaaDoor
namespace Ln
open Go.RowKit Bp Ck
theorem pkt_row (w : World) : (w.alloc (.cells #[.bool false, .int .u64 0, .slice none 0 0] 48)).heap[w.heap.size]? = some (.cells #[.bool false, .int .u64 0, .slice none 0 0] 48 (0, 0)) := heap_alloc_new w _
theorem pkt_below (w : World) : Below w.heap.size w (w.alloc (.cells #[.bool false, .int .u64 0, .slice none 0 0] 48)) := (Below.refl _ _).alloc (Nat.le_refl _) _
theorem pkt_size (w : World) : (w.alloc (.cells #[.bool false, .int .u64 0, .slice none 0 0] 48)).heap.size = w.heap.size + 1 := by simp
theorem res_cells {w : World} {R : Nat} (h : w.heap[R]? = some (.cells #[.bool false, .int .u64 0, .slice none 0 0] 48 (0, 0))) : w.cell? ⟨R, 0, none⟩ = some (.bool false) ∧ w.cell? ⟨R, 1, none⟩ = some (.int .u64 0) ∧ w.cell? ⟨R, 2, none⟩ = some (.slice none 0 0) ∧ w.frozen? ⟨R, 0, none⟩ = false ∧ w.frozen? ⟨R, 1, none⟩ = false ∧ w.frozen? ⟨R, 2, none⟩ = false :=
  ⟨by rw [cell_of_row _ R 0 _ _ _ h]; rfl, by rw [cell_of_row _ R 1 _ _ _ h]; rfl, by rw [cell_of_row _ R 2 _ _ _ h]; rfl, frozen_of_row _ R 0 _ _ h, frozen_of_row _ R 1 _ _ h, frozen_of_row _ R 2 _ _ h⟩
theorem set3 {w1 : World} {R : Nat} {a b c : Value} {t : TypeId} (h : w1.heap[R]? = some (.cells #[a, b, c] t (0, 0))) (u v z : Value) : (((w1.setCell ⟨R, 0, none⟩ u).setCell ⟨R, 1, none⟩ v).setCell ⟨R, 2, none⟩ z).heap[R]? = some (.cells #[u, v, z] t (0, 0)) := by
  have h1 := heap_setCell_same w1 R 0 _ _ u h
  have h2 := heap_setCell_same _ R 1 _ _ v h1
  have h3 := heap_setCell_same _ R 2 _ _ z h2
  rw [h3]; simp
theorem Tryd.resT : Tryd.f41.results = #[.cell 2 48, .tmp 3] := by kernel_rfl
theorem Tryd.cellsP : Tryd.prog.cellsOf 48 = 3 := by kernel_rfl
theorem ret_pkt {w : World} {R : Nat} {x y z : Value} (tmps : Array Value) (ht : tmps.getD 2 undef = .pointer (some ⟨R, 0, none⟩)) (h0 : w.cell? ⟨R, 0, none⟩ = some x) (h1 : w.cell? ⟨R, 1, none⟩ = some y) (h2 : w.cell? ⟨R, 2, none⟩ = some z) :
    (results Tryd.f41 tmps).run Tryd.prog w = .ok (.tuple #[.agg #[x, y, z], tmps.getD 3 undef]) w := by
  rw [results_cell_tmp Tryd.resT, ht]
  simp [go_sem, asAddr, Result.andThen, loadVar, h0, h1, h2]
theorem pkt_cells {w : World} {R : Nat} {x y z : Value} (h : w.heap[R]? = some (.cells #[x, y, z] 48 (0, 0))) : w.cell? ⟨R, 0, none⟩ = some x ∧ w.cell? ⟨R, 1, none⟩ = some y ∧ w.cell? ⟨R, 2, none⟩ = some z :=
  ⟨by rw [cell_of_row _ R 0 _ _ _ h]; rfl, by rw [cell_of_row _ R 1 _ _ _ h]; rfl, by rw [cell_of_row _ R 2 _ _ _ h]; rfl⟩
/-- No frame. -/
theorem take_no {B : Nat} {w : World} {A : Option Addr} {n cap : Nat} {bs : List Nat} (h : By B w A n cap bs) (hB : B ≤ w.heap.size) (hf : isFrm bs = false) :
    Calls Tryd.prog 41 #[.slice A n cap] w (TakeTold w bs) := by
  have hb0 := pkt_below w
  have hs0 := pkt_size w
  have HO := Lib.hid (open_no (h.below (hb0.mono hB)) (Nat.le_trans hB hb0.size) hf)
  have HB0 := Lib.hid hb0
  have HS0 := Lib.hid hs0
  have HR0 := Lib.hid (pkt_row w)
  have HN : Hid (∀ h n d, ¬ Is bs h n d) := Lib.hid (fun h n d hi => by have := hi.pk.1; rw [hf] at this; cases this)
  clear h hf hb0 hs0
  go_enter Tryd.func41, Tryd.ntmps41
  go_wp2_with fail
  refine HO.out.mono ?_
  rintro e w1 ⟨rfl, hb1⟩
  have hr1 : w1.heap[w.heap.size]? = _ := (hb1.block w.heap.size (by rw [HS0.out]; omega)).trans HR0.out
  obtain ⟨c0, c1, c2, f0, f1, f2⟩ := res_cells hr1
  have HB1 : Hid (Below w.heap.size w w1) := Lib.hid (HB0.out.trans (hb1.mono HB0.out.size))
  clear hb1
  go_wp2_with fail
  have hset : ∀ (u v z : Value), (((w1.setCell ⟨w.heap.size, 0, none⟩ u).setCell ⟨w.heap.size, 1, none⟩ v).setCell ⟨w.heap.size, 2, none⟩ z).heap[w.heap.size]? = some (.cells #[u, v, z] 48 (0, 0)) := fun u v z => set3 hr1 u v z
  have hset0 := hset (.bool false) (.int .u64 0) (.slice none 0 0)
  have HBF : Hid (Below w.heap.size w (((w1.setCell ⟨w.heap.size, 0, none⟩ (.bool false)).setCell ⟨w.heap.size, 1, none⟩ (.int .u64 0)).setCell ⟨w.heap.size, 2, none⟩ (.slice none 0 0))) := Lib.hid (((HB1.out.setCell (p := ⟨w.heap.size, 0, none⟩) (Nat.le_refl _) _).setCell (p := ⟨w.heap.size, 1, none⟩) (Nat.le_refl _) _).setCell (p := ⟨w.heap.size, 2, none⟩) (Nat.le_refl _) _)
  clear hset
  generalize (((w1.setCell ⟨w.heap.size, 0, none⟩ (.bool false)).setCell ⟨w.heap.size, 1, none⟩ (.int .u64 0)).setCell ⟨w.heap.size, 2, none⟩ (.slice none 0 0)) = w9 at *
  obtain ⟨d0, d1, d2, g0, g1, g2⟩ := res_cells hset0
  clear c0 c1 c2 f0 f1 f2 hr1 HB1 hset0 g0 g1 g2
  try simp only [Exit.inBlock, Exit.then]
  refine bodyPost_ret (ret_pkt _ rfl d0 d1 d2) rfl ?_
  exact ⟨HBF.out, .inr ⟨HN.out, rfl⟩⟩
set_option maxHeartbeats 4000000 in
theorem take_yes {B : Nat} {w : World} {A : Option Addr} {n cap : Nat} {bs : List Nat} (h : By B w A n cap bs) (hB : B ≤ w.heap.size) (hf : isFrm bs = true) :
    Calls Tryd.prog 41 #[.slice A n cap] w (TakeTold w bs) := by
  have hb0 := pkt_below w
  have hs0 := pkt_size w
  have hln := h.len
  have hfl := isFrm_len hf
  have HO := Lib.hid (open_yes (h.below (hb0.mono hB)) (Nat.le_trans hB hb0.size) hf)
  have HB0 := Lib.hid hb0
  have HS0 := Lib.hid hs0
  have HR0 := Lib.hid (pkt_row w)
  have HI : Hid ((inn bs).length ≤ 1000 ∧ (inn bs).length = n - 4 ∧ ∀ z ∈ inn bs, z ≤ 255) := Lib.hid ⟨by rw [inn_len bs hfl.1]; omega, by rw [inn_len bs hfl.1, hln], fun z hz => h.byte z (by unfold inn at hz; exact List.mem_of_mem_drop (List.mem_of_mem_take hz))⟩
  have HPK : Hid (∀ h n d, Pk (inn bs) h n d → Is bs h n d) := Lib.hid (fun _ _ _ hp => hp.is (fun z hz => h.byte z hz) hf)
  have HNO : Hid ((∀ h n d, ¬ Pk (inn bs) h n d) → ∀ h n d, ¬ Is bs h n d) := Lib.hid (fun hn h n d hi => hn h n d hi.pk.2)
  have hn4 : n - 4 ≤ 1000 := by omega
  clear h hf hb0 hs0 hfl hln
  generalize inn bs = zs at *
  generalize n - 4 = N at *
  go_enter Tryd.func41, Tryd.ntmps41
  go_wp2_with fail
  refine HO.out.mono ?_
  rintro e w1 ⟨A1, rfl, hy1, hne1, hb1⟩
  have hr1 : w1.heap[w.heap.size]? = _ := (hb1.block w.heap.size (by rw [HS0.out]; omega)).trans HR0.out
  have HR1 := Lib.hid hr1
  have HS1 : Hid (w.heap.size < w1.heap.size) := Lib.hid (by have := hb1.size; have := HS0.out; omega)
  have HB1 : Hid (Below w.heap.size w w1) := Lib.hid (HB0.out.trans (hb1.mono HB0.out.size))
  have HN1 : Hid (BytesAt (w1.alloc (.cells #[.bool false, .int .u64 0, .slice none 0 0] 48)) (.slice A1 N N) zs) := Lib.hid ((hy1.below (pkt_below w1)).bytesAt)
  have HP1 := Lib.hid (pkt_row w1)
  have HQ1 := Lib.hid (pkt_below w1)
  have hz1 := pkt_size w1
  have HZ1 := Lib.hid hz1
  clear hb1 hy1 hne1 HO hr1
  go_wp2_with fail
  refine (rb_make _ zs _ _ (Below.refl _ _) HN1.out (by have := HI.out.1; omega) HI.out.2.2).mono ?_
  rintro e w2 ⟨rb, rfl, hR⟩
  have ht2 : Tx w w2 w.heap.size w1.heap.size rb zs 0 0 (.bool false) (.int .u64 0) (.slice none 0 0) := by
    rw [HZ1.out] at hR
    obtain ⟨C, v, r1, r2, r3⟩ := hR
    exact ⟨⟨C, v, r1, r2, Below.refl _ _⟩, (HB1.out.trans (HQ1.out.mono (Nat.le_of_lt HS1.out))).trans (r3.mono (by have := HS1.out; omega)), ⟨Nat.le_refl _, HS1.out⟩, ((r3.block _ (by have := HS1.out; omega)).trans (HQ1.out.block _ HS1.out)).trans HR1.out, (r3.block _ (by omega)).trans HP1.out⟩
  have HT2 := Lib.hid ht2
  clear ht2 hR HN1 HP1 HQ1 HB1 hz1 HZ1 HR1 HB0 HS0 HR0
  go_wp2_with fail
  refine (rb_get1 HT2.out.rd).mono ?_
  rintro e w3 ⟨N3, p3, f3, rfl, hR3, hg3⟩
  have HT3 := Lib.hid (HT2.out.next hR3)
  have HG3 := Lib.hid hg3
  obtain ⟨⟨c0, c1, c2⟩, c3, c4, c5, c6, c7⟩ := (HT2.out.next hR3).cells
  have c30 := c3 0
  clear hR3 hg3 HT2 c3 c4
  go_wp2_with fail
  have hk : ((N3 : Int) == 1) = (N3 == 1) := beq_nat N3 1
  rw [hk]
  have HT4 := Lib.hid (HT3.out.putAt 0 (.bool (N3 == 1)) (.bool (N3 == 1)) _ _ rfl)
  clear HT3 hk c0 c1 c2 c5 c6 c7 c30
  refine (rb_count1 HT4.out.rd).mono ?_
  rintro e w5 ⟨n5, p5, f5, rfl, hR5, hg5⟩
  have HD5 := Lib.hid (hd_of HG3.out hg5)
  have ht5 := HT4.out.next hR5
  obtain ⟨⟨c0, c1, c2⟩, c3, c4, c5, c6, c7⟩ := ht5.cells
  have c31 := c3 1
  have HT5 := Lib.hid ht5
  clear hR5 hg5 HT4 HG3 c3 c4 ht5
  generalize (N3 == 1) = h at *
  cases h
  · go_wp2_with fail
    have HT6 := Lib.hid (HT5.out.putAt 1 (.int .u64 (n5 : Int)) _ (.int .u64 (n5 : Int)) _ rfl)
    refine (rb_left_any rb zs p5 f5 _ _ _ HT6.out.rd).mono ?_
    rintro e w6 ⟨rfl, rfl⟩
    have ht7 := HT6.out.drew
    obtain ⟨m8, hm8⟩ : ∃ m8, m8 = (8 * zs.length - p5) / 8 := ⟨_, rfl⟩
    have hple : p5 ≤ 8 * zs.length := ht7.rd.at_le.1
    have hM : ((zs.length : Int) * 8 - (p5 : Int)) / 8 = (m8 : Int) := by omega
    have HMM : Hid (m8 = if (false : Bool) then 0 else (8 * zs.length - p5) / 8) := Lib.hid (by simpa using hm8)
    have hm8le : m8 ≤ 1000 := by have := HI.out.1; omega
    have hm8in : f5 = 0 → p5 + 8 * m8 ≤ 8 * zs.length := fun _ => by omega
    have HIN := Lib.hid hm8in
    have hlz := HI.out.1
    have hx0 : (0 : Int) ≤ (zs.length : Int) * 8 - (p5 : Int) := by omega
    have hx1 : (zs.length : Int) * 8 - (p5 : Int) ≤ 8000 := by omega
    generalize hX : (zs.length : Int) * 8 - (p5 : Int) = X at *
    have HT7 := Lib.hid ht7
    clear HT5 HT6 ht7 hm8 hm8in hple hX hlz c0 c1 c2 c5 c6 c7 c31
    go_wp2_with fail
    refine (gather_any (m := m8) HT7.out.rd HIN.out (by omega) (by first | exact hM | (rw [← hM]; rfl) | omega)).mono ?_
    rintro e w8a ⟨g8, rfl, hy8, ⟨C8, v8, hr8, hc8, hbl8, hrf8⟩, hg8, hg8lt⟩
    have ht8a := HT7.out.next ⟨C8, v8, hr8, hc8, hbl8⟩
    obtain ⟨⟨c0, c1, c2⟩, c3, c4, c5, c6, c7⟩ := ht8a.cells
    have c32 := c3 2
    have hlt8 := hy8
    have HT8 := Lib.hid (ht8a.putAt 2 (.slice (some ⟨g8, 0, none⟩) m8 m8) _ _ (.slice (some ⟨g8, 0, none⟩) m8 m8) rfl)
    have hPC := hc8
    have HRD : Hid (Rd C8 (w8a.setCell ⟨w1.heap.size, 2, none⟩ (.slice (some ⟨g8, 0, none⟩) m8 m8)) rb v8 zs (pos f5 p5 m8) f5) := Lib.hid (hr8.frame (fun k hk => Below.heap_setCell _ _ _ _ (by have := (hr8.lt hk).1; show k ≠ w1.heap.size; omega)))
    have HCP := Lib.hid hc8
    have hsz8 : w8a.heap.size ≤ (w8a.setCell ⟨w1.heap.size, 2, none⟩ (.slice (some ⟨g8, 0, none⟩) m8 m8)).heap.size := by simp
    have HY8 := Lib.hid (by_keep (w' := (w8a.setCell ⟨w1.heap.size, 2, none⟩ (.slice (some ⟨g8, 0, none⟩) m8 m8))) hy8 hsz8 (fun a ha => Below.heap_setCell _ _ _ _ (by cases ha; show g8 ≠ w1.heap.size; omega)))
    have HA8 : Hid (∀ a, (some ⟨g8, 0, none⟩ : Option Addr) = some a → a.block < (w8a.setCell ⟨w1.heap.size, 2, none⟩ (.slice (some ⟨g8, 0, none⟩) m8 m8)).heap.size ∧ w.heap.size < a.block ∧ ¬ RF rb v8 a.block) := Lib.hid (fun a ha => by
      cases ha
      refine ⟨?_, by have := HS1.out; show _ < g8; omega, fun x => hrf8 _ x rfl⟩
      have := hg8lt
      simpa using this)
    clear hsz8 ht8a hr8 hc8 hbl8 hrf8 hg8 hg8lt hy8 hlt8 hPC HT7 c3 c4
    go_wp2_with fail
    refine (rd_end1 HRD.out).mono ?_
    rintro e w9 ⟨E, rfl, hR9, hE⟩
    have HF := Lib.hid (hd_fin HI.out.2.2 HD5.out HMM.out hE)
    have ht9 := HT8.out.next (Rb.to HRD.out HCP.out (Below.refl _ _) hR9)
    have HY9 := Lib.hid (by_keep HY8.out hR9.2.size (fun a ha => hR9.2.block _ (HA8.out a ha).1 (fun x => (HA8.out a ha).2.2 x)))
    obtain ⟨⟨c0, c1, c2⟩, c3, c4, c5, c6, c7⟩ := ht9.cells
    have hr9 := ht9.res
    have c40 := c4 0
    have c41 := c4 1
    have c42 := c4 2
    have HB9 := Lib.hid ht9.below
    have HSZ := Lib.hid ht9.base
    clear hR9 hE HRD HT8 HY8 c3 c4 ht9 HD5
    have hset : ∀ (u v z : Value), (((w9.setCell ⟨w.heap.size, 0, none⟩ u).setCell ⟨w.heap.size, 1, none⟩ v).setCell ⟨w.heap.size, 2, none⟩ z).heap[w.heap.size]? = some (.cells #[u, v, z] 48 (0, 0)) := fun u v z => set3 hr9 u v z
    have hbel : ∀ (u v z : Value), Below w.heap.size w (((w9.setCell ⟨w.heap.size, 0, none⟩ u).setCell ⟨w.heap.size, 1, none⟩ v).setCell ⟨w.heap.size, 2, none⟩ z) := fun u v z => ((HB9.out.setCell (p := ⟨w.heap.size, 0, none⟩) (Nat.le_refl _) _).setCell (p := ⟨w.heap.size, 1, none⟩) (Nat.le_refl _) _).setCell (p := ⟨w.heap.size, 2, none⟩) (Nat.le_refl _) _
    have hoth : ∀ (u v z : Value) (k : Nat), k ≠ w.heap.size → (((w9.setCell ⟨w.heap.size, 0, none⟩ u).setCell ⟨w.heap.size, 1, none⟩ v).setCell ⟨w.heap.size, 2, none⟩ z).heap[k]? = w9.heap[k]? := fun u v z k hk => by
      rw [Below.heap_setCell _ _ _ _ hk, Below.heap_setCell _ _ _ _ hk, Below.heap_setCell _ _ _ _ hk]
    have hsiz : ∀ (u v z : Value), w9.heap.size ≤ (((w9.setCell ⟨w.heap.size, 0, none⟩ u).setCell ⟨w.heap.size, 1, none⟩ v).setCell ⟨w.heap.size, 2, none⟩ z).heap.size := fun u v z => by simp
    have HSET := Lib.hid hset
    have HBEL := Lib.hid hbel
    have HOTH := Lib.hid hoth
    have HSIZ := Lib.hid hsiz
    clear hset hbel hoth hsiz
    by_cases hE0 : E = 0
    · subst hE0
      by_cases h200 : m8 ≤ 200
      · have e200 : decide ((200 : Int) < (m8 : Int)) = false := decide_eq_false (by omega)
        go_wp2_with fail
        have k1 := HSET.out (.bool false) (.int .u64 (n5 : Int)) (.slice (some ⟨g8, 0, none⟩) m8 m8)
        have k2 := Lib.hid (HBEL.out (.bool false) (.int .u64 (n5 : Int)) (.slice (some ⟨g8, 0, none⟩) m8 m8))
        have HYF := Lib.hid (by_keep HY9.out (HSIZ.out (.bool false) (.int .u64 (n5 : Int)) (.slice (some ⟨g8, 0, none⟩) m8 m8)) (fun a ha => HOTH.out (.bool false) (.int .u64 (n5 : Int)) (.slice (some ⟨g8, 0, none⟩) m8 m8) _ (Nat.ne_of_gt (HA8.out a ha).2.1)))
        generalize (((w9.setCell ⟨w.heap.size, 0, none⟩ (.bool false)).setCell ⟨w.heap.size, 1, none⟩ (.int .u64 (n5 : Int))).setCell ⟨w.heap.size, 2, none⟩ (.slice (some ⟨g8, 0, none⟩) m8 m8)) = wf at *
        obtain ⟨d0, d1, d2⟩ := pkt_cells k1
        clear c0 c1 c2 c5 c6 c7 c40 c41 c42 hr9 k1 HSET HBEL HOTH HSIZ HB9 HY9
        try simp only [Exit.inBlock, Exit.then]
        refine bodyPost_ret (ret_pkt _ rfl d0 d1 d2) rfl ?_
        refine ⟨k2.out, .inl ⟨false, n5, gth zs f5 p5 m8, (some ⟨g8, 0, none⟩), m8, HPK.out _ _ _ (HF.out.1 (by first | rfl | trivial) (by first | exact h200 | trivial)), ?_, ?_, fun a ha => Nat.le_of_lt (HA8.out a ha).2.1⟩⟩
        · rw [gth_length]; rfl
        · rw [gth_length]; exact HYF.out
      · have e200 : decide ((200 : Int) < (m8 : Int)) = true := decide_eq_true (by omega)
        have HNI := Lib.hid (HNO.out (HF.out.2 (.inr (by omega))))
        go_wp2_with fail
        have k1 := HSET.out (.bool false) (.int .u64 0) (.slice none 0 0)
        have k2 := Lib.hid (HBEL.out (.bool false) (.int .u64 0) (.slice none 0 0))
        generalize (((w9.setCell ⟨w.heap.size, 0, none⟩ (.bool false)).setCell ⟨w.heap.size, 1, none⟩ (.int .u64 0)).setCell ⟨w.heap.size, 2, none⟩ (.slice none 0 0)) = wf at *
        obtain ⟨d0, d1, d2⟩ := pkt_cells k1
        clear c0 c1 c2 c5 c6 c7 c40 c41 c42 hr9 k1 HSET HBEL HOTH HSIZ HB9 HY9
        try simp only [Exit.inBlock, Exit.then]
        refine bodyPost_ret (ret_pkt _ rfl d0 d1 d2) rfl ?_
        exact ⟨k2.out, .inr ⟨HNI.out, rfl⟩⟩
    · have hE1 : (E != 0) = true := by simpa using hE0
      have HNI := Lib.hid (HNO.out (HF.out.2 (.inl hE0)))
      go_wp2_with fail
      have k1 := HSET.out (.bool false) (.int .u64 0) (.slice none 0 0)
      have k2 := Lib.hid (HBEL.out (.bool false) (.int .u64 0) (.slice none 0 0))
      generalize (((w9.setCell ⟨w.heap.size, 0, none⟩ (.bool false)).setCell ⟨w.heap.size, 1, none⟩ (.int .u64 0)).setCell ⟨w.heap.size, 2, none⟩ (.slice none 0 0)) = wf at *
      obtain ⟨d0, d1, d2⟩ := pkt_cells k1
      clear c0 c1 c2 c5 c6 c7 c40 c41 c42 hr9 k1 HSET HBEL HOTH HSIZ HB9 HY9
      try simp only [Exit.inBlock, Exit.then]
      refine bodyPost_ret (ret_pkt _ rfl d0 d1 d2) rfl ?_
      exact ⟨k2.out, .inr ⟨HNI.out, rfl⟩⟩
  · go_wp2_with fail
    have ht6 := (HT5.out.putAt 1 (.int .u64 (n5 : Int)) _ (.int .u64 (n5 : Int)) _ rfl)
    have e0 : pos f5 p5 0 = p5 := by
      unfold pos
      split <;> rfl
    rw [← e0] at ht6
    obtain ⟨C8, v8, hr8, hc8, hbl8⟩ := ht6.rd
    have HRD := Lib.hid hr8
    have HCP := Lib.hid hc8
    have HT8 := Lib.hid ht6
    have HMM : Hid (0 = if (true : Bool) then 0 else (8 * zs.length - p5) / 8) := Lib.hid rfl
    have HA8 : Hid (∀ a, (none : Option Addr) = some a → a.block < (w5.setCell ⟨w1.heap.size, 1, none⟩ (.int .u64 (n5 : Int))).heap.size ∧ w.heap.size < a.block ∧ ¬ RF rb v8 a.block) := Lib.hid (fun a ha => by cases ha)
    have hg0 : gth zs f5 p5 0 = [] := rfl
    have HY8 : Hid (By (w5.setCell ⟨w1.heap.size, 1, none⟩ (.int .u64 (n5 : Int))).heap.size (w5.setCell ⟨w1.heap.size, 1, none⟩ (.int .u64 (n5 : Int))) none 0 0 (gth zs f5 p5 0)) := Lib.hid (By.none_ _ _)
    clear hr8 hc8 hbl8 ht6 hg0 e0 HT5 c0 c1 c2 c5 c6 c7 c31
    refine (rd_end1 HRD.out).mono ?_
    rintro e w9 ⟨E, rfl, hR9, hE⟩
    have HF := Lib.hid (hd_fin HI.out.2.2 HD5.out HMM.out hE)
    have ht9 := HT8.out.next (Rb.to HRD.out HCP.out (Below.refl _ _) hR9)
    have HY9 := Lib.hid (by_keep HY8.out hR9.2.size (fun a ha => hR9.2.block _ (HA8.out a ha).1 (fun x => (HA8.out a ha).2.2 x)))
    obtain ⟨⟨c0, c1, c2⟩, c3, c4, c5, c6, c7⟩ := ht9.cells
    have hr9 := ht9.res
    have c40 := c4 0
    have c41 := c4 1
    have c42 := c4 2
    have HB9 := Lib.hid ht9.below
    have HSZ := Lib.hid ht9.base
    clear hR9 hE HRD HT8 HY8 c3 c4 ht9 HD5
    have hset : ∀ (u v z : Value), (((w9.setCell ⟨w.heap.size, 0, none⟩ u).setCell ⟨w.heap.size, 1, none⟩ v).setCell ⟨w.heap.size, 2, none⟩ z).heap[w.heap.size]? = some (.cells #[u, v, z] 48 (0, 0)) := fun u v z => set3 hr9 u v z
    have hbel : ∀ (u v z : Value), Below w.heap.size w (((w9.setCell ⟨w.heap.size, 0, none⟩ u).setCell ⟨w.heap.size, 1, none⟩ v).setCell ⟨w.heap.size, 2, none⟩ z) := fun u v z => ((HB9.out.setCell (p := ⟨w.heap.size, 0, none⟩) (Nat.le_refl _) _).setCell (p := ⟨w.heap.size, 1, none⟩) (Nat.le_refl _) _).setCell (p := ⟨w.heap.size, 2, none⟩) (Nat.le_refl _) _
    have hoth : ∀ (u v z : Value) (k : Nat), k ≠ w.heap.size → (((w9.setCell ⟨w.heap.size, 0, none⟩ u).setCell ⟨w.heap.size, 1, none⟩ v).setCell ⟨w.heap.size, 2, none⟩ z).heap[k]? = w9.heap[k]? := fun u v z k hk => by
      rw [Below.heap_setCell _ _ _ _ hk, Below.heap_setCell _ _ _ _ hk, Below.heap_setCell _ _ _ _ hk]
    have hsiz : ∀ (u v z : Value), w9.heap.size ≤ (((w9.setCell ⟨w.heap.size, 0, none⟩ u).setCell ⟨w.heap.size, 1, none⟩ v).setCell ⟨w.heap.size, 2, none⟩ z).heap.size := fun u v z => by simp
    have HSET := Lib.hid hset
    have HBEL := Lib.hid hbel
    have HOTH := Lib.hid hoth
    have HSIZ := Lib.hid hsiz
    clear hset hbel hoth hsiz
    by_cases hE0 : E = 0
    · subst hE0
      have h200 : (0 : Nat) ≤ 200 := by omega
      go_wp2_with fail
      have k1 := HSET.out (.bool true) (.int .u64 (n5 : Int)) (.slice none 0 0)
      have k2 := Lib.hid (HBEL.out (.bool true) (.int .u64 (n5 : Int)) (.slice none 0 0))
      have HYF := Lib.hid (by_keep HY9.out (HSIZ.out (.bool true) (.int .u64 (n5 : Int)) (.slice none 0 0)) (fun a ha => HOTH.out (.bool true) (.int .u64 (n5 : Int)) (.slice none 0 0) _ (Nat.ne_of_gt (HA8.out a ha).2.1)))
      generalize (((w9.setCell ⟨w.heap.size, 0, none⟩ (.bool true)).setCell ⟨w.heap.size, 1, none⟩ (.int .u64 (n5 : Int))).setCell ⟨w.heap.size, 2, none⟩ (.slice none 0 0)) = wf at *
      obtain ⟨d0, d1, d2⟩ := pkt_cells k1
      clear c0 c1 c2 c5 c6 c7 c40 c41 c42 hr9 k1 HSET HBEL HOTH HSIZ HB9 HY9
      try simp only [Exit.inBlock, Exit.then]
      refine bodyPost_ret (ret_pkt _ rfl d0 d1 d2) rfl ?_
      refine ⟨k2.out, .inl ⟨true, n5, gth zs f5 p5 0, none, 0, HPK.out _ _ _ (HF.out.1 (by first | rfl | trivial) (by first | exact h200 | trivial)), ?_, ?_, fun a ha => Nat.le_of_lt (HA8.out a ha).2.1⟩⟩
      · rw [gth_length]; rfl
      · rw [gth_length]; exact HYF.out
    · have hE1 : (E != 0) = true := by simpa using hE0
      have HNI := Lib.hid (HNO.out (HF.out.2 (.inl hE0)))
      go_wp2_with fail
      have k1 := HSET.out (.bool false) (.int .u64 0) (.slice none 0 0)
      have k2 := Lib.hid (HBEL.out (.bool false) (.int .u64 0) (.slice none 0 0))
      generalize (((w9.setCell ⟨w.heap.size, 0, none⟩ (.bool false)).setCell ⟨w.heap.size, 1, none⟩ (.int .u64 0)).setCell ⟨w.heap.size, 2, none⟩ (.slice none 0 0)) = wf at *
      obtain ⟨d0, d1, d2⟩ := pkt_cells k1
      clear c0 c1 c2 c5 c6 c7 c40 c41 c42 hr9 k1 HSET HBEL HOTH HSIZ HB9 HY9
      try simp only [Exit.inBlock, Exit.then]
      refine bodyPost_ret (ret_pkt _ rfl d0 d1 d2) rfl ?_
      exact ⟨k2.out, .inr ⟨HNI.out, rfl⟩⟩
theorem take_any {B : Nat} {w : World} {A : Option Addr} {n cap : Nat} {bs : List Nat} (h : By B w A n cap bs) (hB : B ≤ w.heap.size) : Calls Tryd.prog 41 #[.slice A n cap] w (TakeTold w bs) := by
  cases hf : isFrm bs
  · exact take_no h hB hf
  · exact take_yes h hB hf
end Ln
end Go.Proofs.YtobpinelhjpfgaaDoor
