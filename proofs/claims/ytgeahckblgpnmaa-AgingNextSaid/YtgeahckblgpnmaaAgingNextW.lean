/-
  AgingNext: the walk.
-/
import Derived.Test.YtgeahckblgpnmaaAgG
set_option linter.unusedVariables false
set_option maxRecDepth 100000
namespace Go.Proofs.Ytgeahckblgpnmaa
namespace Ag
open Go.RowKit Bk

/-- Is one of the first so many due; the highest priority of them. -/
def dua (s : Int) (L : List Wr) : Nat → Bool
  | 0 => false
  | i + 1 => dua s L i || decide (due s (wat L i))
def tps (L : List Wr) : Nat → Int
  | 0 => 0
  | i + 1 => max (tps L i) (wat L i).2.1
theorem dua_iff {s : Int} {L : List Wr} : ∀ {i : Nat}, dua s L i = true ↔ ∃ j, j < i ∧ due s (wat L j)
  | 0 => by simp [dua]
  | i + 1 => by
    rw [dua, Bool.or_eq_true, dua_iff (i := i), decide_eq_true_eq]
    constructor
    · rintro (⟨j, h1, h2⟩ | h)
      · exact ⟨j, by omega, h2⟩
      · exact ⟨i, by omega, h⟩
    · rintro ⟨j, h1, h2⟩
      by_cases e : j = i
      · subst e; exact .inr h2
      · exact .inl ⟨j, by omega, h2⟩
theorem tps_ge (L : List Wr) : ∀ i j, j < i → (wat L j).2.1 ≤ tps L i
  | 0, j, h => by omega
  | i + 1, j, h => by
    have ih := tps_ge L i
    rw [tps]
    by_cases e : j = i
    · subst e; omega
    · have := ih j (by omega); omega
theorem tps_le (L : List Wr) {P : Int} (h0 : 0 ≤ P) : ∀ i, (∀ j, j < i → (wat L j).2.1 ≤ P) → tps L i ≤ P
  | 0, _ => h0
  | i + 1, h => by
    have ih := tps_le L h0 i (fun j hj => h j (by omega))
    have := h i (by omega)
    rw [tps]
    omega
theorem tps_small {s : Int} {d : Nat} {L : List Wr} (h : Qi s d L) : ∀ i, i ≤ L.length → 0 ≤ tps L i ∧ tps L i ≤ 5
  | 0, _ => ⟨Int.le_refl _, by show (0 : Int) ≤ 5; omega⟩
  | i + 1, hi => by
    have ih := tps_small h i (by omega)
    have := h.prio _ (wat_mem (L := L) (i := i) (by omega))
    rw [tps]
    omega
/-- Of the one that goes next. -/
theorem next_facts {s : Int} {d : Nat} {L : List Wr} (h : Qi s d L) (hne : L ≠ []) : dua s L L.length = decide (due s (wat L (nx s L).toNat)) ∧ (dua s L L.length = false → (wat L (nx s L).toNat).2.1 = tps L L.length) := by
  have r := nx_rng s L
  have r3 := r.2.2 hne
  have hm : (nx s L).toNat < L.length := by omega
  constructor
  · rw [Bool.eq_iff_iff, dua_iff, decide_eq_true_eq]
    constructor
    · rintro ⟨j, h1, h2⟩; exact (due_of_nx h1 h2).1
    · intro q; exact ⟨_, hm, q⟩
  · intro hd
    have hn : ∀ j, j < L.length → ¬ due s (wat L j) := fun j hj q => by
      have := dua_iff.2 ⟨j, hj, q⟩
      rw [hd] at this; cases this
    have h1 := tps_ge L L.length _ hm
    have h2 := tps_le L (P := (wat L (nx s L).toNat).2.1) (h.prio _ (wat_mem hm)).1 L.length (fun j hj => top_of_nx hn hj)
    omega
theorem ids_lt {s : Int} {d : Nat} {L : List Wr} (h : Qi s d L) {i j : Nat} (hij : i < j) (hj : j < L.length) : (wat L i).1 < (wat L j).1 := by
  rw [wat_get (by omega), wat_get hj]
  exact List.pairwise_iff_getElem.1 h.ids i j (by omega) hj hij
theorem ids_one {s : Int} {d : Nat} {L : List Wr} (h : Qi s d L) {i j : Nat} (hi : i < L.length) (hj : j < L.length) (e : (wat L i).1 = (wat L j).1) : i = j := by
  rcases Nat.lt_trichotomy i j with q | q | q
  · have := ids_lt h q hj; omega
  · exact q
  · have := ids_lt h q hi; omega
/-- A box of one that waits. -/
def Wb (D : Nat) (y : Wr) (w : World) : Prop := w.heap[D]? = some (.cells #[.int .i64 y.1, .int .i64 y.2.1, .int .i64 y.2.2] 46 (0, 0))
theorem Wb.cells {D : Nat} {y : Wr} {w : World} (h : Wb D y w) : w.cell? ⟨D, 0, none⟩ = some (.int .i64 y.1) ∧ w.cell? ⟨D, 1, none⟩ = some (.int .i64 y.2.1) ∧ w.cell? ⟨D, 2, none⟩ = some (.int .i64 y.2.2) ∧ w.frozen? ⟨D, 0, none⟩ = false ∧ w.frozen? ⟨D, 1, none⟩ = false ∧ w.frozen? ⟨D, 2, none⟩ = false :=
  ⟨by rw [cell_of_row w D 0 _ _ _ h]; rfl, by rw [cell_of_row w D 1 _ _ _ h]; rfl, by rw [cell_of_row w D 2 _ _ _ h]; rfl, frozen_of_row w D 0 _ _ h, frozen_of_row w D 1 _ _ h, frozen_of_row w D 2 _ _ h⟩
theorem Wb.later {D : Nat} {y : Wr} {w w' : World} (h : Wb D y w) (hb : Below w.heap.size w w') : Wb D y w' := (hb.block D (lt_of_heap h)).trans h
theorem Wb.put {D : Nat} {y : Wr} {w : World} (h : Wb D y w) (a b c : Int) : Wb D (a, b, c) (((w.setCell ⟨D, 0, none⟩ (.int .i64 a)).setCell ⟨D, 1, none⟩ (.int .i64 b)).setCell ⟨D, 2, none⟩ (.int .i64 c)) := by
  have k1 := heap_setCell_same w D 0 _ _ (.int .i64 a) h
  have k2 := heap_setCell_same _ D 1 _ _ (.int .i64 b) k1
  have k3 := heap_setCell_same _ D 2 _ _ (.int .i64 c) k2
  unfold Wb
  rw [k3]
  rfl
theorem below_put {B : Nat} {w0 w : World} (h : Below B w0 w) {D o : Nat} (hD : B ≤ D) (v : Value) (hB : B ≤ w0.heap.size) : Below B w0 (w.setCell ⟨D, o, none⟩ v) :=
  h.trans ⟨rfl, rfl, rfl, by simp [World.setCell], fun k hk => Below.heap_setCell _ _ _ _ (by show k ≠ D; omega)⟩
set_option maxHeartbeats 16000000 in
theorem agingNext_walk (rb : Nat) (hrb : rb ≤ 255) (A : Option Addr) (n cap : Nat) (f : Nat → Nat × Int) (w : World) (h : Acts12 w.heap.size w A n cap f) (_ : True) :
    Calls Try.prog 7 #[.int .u8 (rb : Int), .slice A n cap] w fun e w' => e = .returned (.bool true) ∧ Below w.heap.size w w' := by
  have HA := Lib.hid h
  clear h
  obtain ⟨k, hk⟩ : ∃ k : Nat, k = rb % 21 := ⟨_, rfl⟩
  have hk2 : (rb : Int) % 21 = (k : Int) := by omega
  have hk3 : k ≤ 20 := by omega
  clear hk
  go_enter Try.func7, Try.ntmps7
  go_wp2_with fail
  refine (shown12_any _).mono ?_
  rintro e w1 ⟨rfl, hb1⟩
  have HB1 := Lib.hid hb1
  clear hb1
  go_wp2_with fail
  refine (new_ok k (by omega) w1).mono ?_
  rintro e w2 ⟨rfl, hq, hb⟩
  obtain ⟨g, hg⟩ : ∃ g, g = w1.heap.size := ⟨_, rfl⟩
  have HG : Hid (w.heap.size ≤ g) := Lib.hid (by rw [hg]; exact HB1.out.size)
  rw [← hg] at hq ⊢
  have HQ0 : Hid (St w2 g k 0) := Lib.hid ⟨_, _, _, hq, Nat.le_refl _⟩
  have HB2 := Lib.hid (HB1.out.trans (hb.mono HB1.out.size))
  clear hq hb hg HB1
  go_wp2_with (go_at_call 11; refine (few12_any A n cap _ HA.out.le HA.out.max HA.out.nil).mono ?_; rintro e w2' ⟨rfl, m, hm, hm2, rfl⟩)
  have hcs : m ≤ cap := Nat.le_trans hm HA.out.le
  have hcs2 : cap ≤ 9223372036854775807 := by have := HA.out.max; unfold maxLen at this; omega
  go_loopw [42] (fun iv wr => ∃ j : Nat, iv = .int .i64 (j : Int) ∧ j ≤ m ∧ Hid (St wr g k j) ∧ Hid (Below w.heap.size w wr)) (fun iv _ => m - (intOf iv).toNat)
  case atStart => exact ⟨0, rfl, Nat.zero_le _, HQ0, HB2⟩
  case round =>
    rename World => wr
    obtain ⟨j, rfl, hj, HS, HB⟩ := hrel
    by_cases hlj : j < m
    · obtain ⟨v, d, L, hq, hd⟩ := HS.out
      obtain ⟨ga, off, rfl, hga, hc⟩ := (HA.out.below HB.out).cell (by omega)
      obtain ⟨k0, k1⟩ := hc j (by omega)
      have hfit := HA.out.fits j (by omega)
      have hjI : (j : Int) < (m : Int) := by omega
      have hga2 : ga < wr.heap.size := Nat.lt_of_lt_of_le hga HB.out.size
      generalize f j = fj at *
      obtain ⟨q, x⟩ := fj
      have k0 : wr.cell? ⟨ga, off + j * 2, none⟩ = some (.int .u8 (q : Int)) := k0
      have k1 : wr.cell? ⟨ga, off + j * 2 + 1, none⟩ = some (.int .i64 x) := k1
      have hq255 : q ≤ 255 := hfit
      obtain ⟨b0, b1⟩ := act_cells wr q x
      have HAA := Lib.hid ((Below.refl wr.heap.size wr).alloc (Nat.le_refl _) (.cells #[.int .u8 (q : Int), .int .i64 x] 34))
      clear hc hga hfit
      have HQA := Lib.hid (hq.later HAA.out)
      have HD : Hid (d ≤ j ∧ m ≤ 300 ∧ j < m) := Lib.hid ⟨hd, hm2, hlj⟩
      have HBA := Lib.hid (HB.out.trans (HAA.out.mono HB.out.size))
      clear hq hd
      have HL := Lib.hid (All_any HQA.out)
      have HPB := Lib.hid (And.intro b0 (And.intro b1 (Nat.lt_of_lt_of_le (Nat.lt_succ_self _) (Nat.le_of_eq (show wr.heap.size + 1 = (wr.alloc (.cells #[.int .u8 (q : Int), .int .i64 x] 34)).heap.size by simp)))))
      clear b0 b1 HS HB
      go_wp2_with fail
      refine HL.out.mono ?_
      rintro e w5 ⟨A5, n5, c5, rfl, hn5, ho5, hb5⟩
      have HQ5 := Lib.hid (HQA.out.later hb5)
      have HB5 := Lib.hid (HBA.out.trans (hb5.mono HBA.out.size))
      have HO5 := Lib.hid (ho5.wg).2
      have HN5 := Lib.hid hn5
      have hs5 := Gt.size (ho5.wg).2
      have hs51 := hs5.1
      have hs52 := hs5.2
      have hf5 : n5 ≤ 64 := by rw [hn5]; exact HQA.out.ok.few
      have hP0 := (hb5.cell (p := ⟨wr.heap.size, 0, none⟩) HPB.out.2.2).trans HPB.out.1
      have hP1 := (hb5.cell (p := ⟨wr.heap.size, 1, none⟩) HPB.out.2.2).trans HPB.out.2.1
      have HP5 := Lib.hid (And.intro hP0 (And.intro hP1 (Nat.lt_of_lt_of_le HPB.out.2.2 hb5.size)))
      obtain ⟨DB, hDB⟩ : ∃ DB, DB = wr.heap.size := ⟨_, rfl⟩
      rw [← hDB] at HP5 ⊢
      clear hn5 ho5 hb5 HL hs5 hP0 hP1 HPB hDB k0 k1 HAA
      have HX : Hid ((nxB k L = true ↔ L ≠ []) ∧ (L ≠ [] → nxN k L = (wat L (nx k L).toNat).1 ∧ (nx k L).toNat < L.length ∧ dua k L L.length = decide (due k (wat L (nx k L).toNat)) ∧ (dua k L L.length = false → (wat L (nx k L).toNat).2.1 = tps L L.length))) := Lib.hid ⟨nxB_iff, fun hne => by
        have r := nx_rng (k : Int) L
        have r3 := r.2.2 hne
        exact ⟨by unfold nxN; rw [if_neg (by omega)], by omega, (next_facts HQA.out.ok hne).1, (next_facts HQA.out.ok hne).2⟩⟩
      obtain ⟨mm, hmm⟩ : ∃ mm, mm = (nx k L).toNat := ⟨_, rfl⟩
      rw [← hmm] at HX
      clear hmm
      have HNX := Lib.hid (fun wx (hb : Below w5.heap.size w5 wx) => Next_any (HQ5.out.later hb))
      have HTK := Lib.hid (fun wx (hb : Below w5.heap.size w5 wx) => Take_any (HQ5.out.later hb))
      unfold nxV at HNX HTK
      obtain ⟨ID, hID⟩ : ∃ ID, ID = nxN k L := ⟨_, rfl⟩
      obtain ⟨IS, hIS⟩ : ∃ IS, IS = nxB k L := ⟨_, rfl⟩
      rw [← hID, ← hIS] at HX HNX HTK
      clear hID hIS
      go_wp2_with fail
      refine (HNX.out w5 (Below.refl _ _)).mono ?_
      rintro e w6 ⟨rfl, hb6⟩
      have HB6 := Lib.hid hb6
      clear hb6
      go_wp2_with fail
      refine (HNX.out w6 HB6.out).mono ?_
      rintro e w7 ⟨rfl, hb7⟩
      have HB7 := Lib.hid (HB6.out.trans (hb7.mono HB6.out.size))
      clear hb7 HNX HB6
      go_wp2_with fail
      obtain ⟨DW, hDW⟩ : ∃ DW, DW = w7.heap.size := ⟨_, rfl⟩
      have hW8 : Wb DW (0, 0, 0) (w7.alloc (.cells #[.int .i64 0, .int .i64 0, .int .i64 0] 46)) := by rw [hDW]; exact heap_alloc_new w7 _
      have hB8 := (Below.refl w7.heap.size w7).alloc (Nat.le_refl _) (.cells #[.int .i64 0, .int .i64 0, .int .i64 0] 46)
      have HDW : Hid (w7.heap.size ≤ DW) := Lib.hid (by omega)
      have HW8 := Lib.hid hW8
      have HB8 := Lib.hid hB8
      rw [← hDW]
      generalize w7.alloc (.cells #[.int .i64 0, .int .i64 0, .int .i64 0] 46) = w8 at *
      clear hDW hW8 hB8
      go_loopw [16, 17, 18, 60] (fun dv fv tv iv wz => ∃ (i : Nat) (t u : Bool) (T : Int) (y : Wr), iv = .int .i64 (i : Int) ∧ dv = .bool t ∧ fv = .bool u ∧ tv = .int .i64 T ∧ i ≤ n5 ∧ Hid (t = dua k L i ∧ T = tps L i) ∧ Hid ((mm < i ∧ u = true ∧ y = wat L mm) ∨ (i ≤ mm ∧ u = false ∧ y = (0, 0, 0))) ∧ Hid (Below w7.heap.size w7 wz ∧ Wb DW y wz)) (fun _ _ _ iv _ => n5 - (intOf iv).toNat)
      case atStart => exact ⟨0, false, false, 0, (0, 0, 0), rfl, rfl, rfl, rfl, Nat.zero_le _, Lib.hid ⟨rfl, rfl⟩, Lib.hid (.inr ⟨Nat.zero_le _, rfl, rfl⟩), Lib.hid ⟨HB8.out, HW8.out⟩⟩
      case round =>
        rename World => wz
        obtain ⟨i, t, u, T, y, rfl, rfl, rfl, rfl, hi, HT, HU, HW⟩ := hrel
        by_cases hli : i < n5
        · obtain ⟨ga2, off2, rfl, -, k0', k1', k2'⟩ := (HO5.out.later (HB7.out.trans (HW.out.1.mono HB7.out.size))).cell hli
          have hiI : (i : Int) < (n5 : Int) := by omega
          have hiL : i < L.length := by rw [← HN5.out]; exact hli
          have hne : L ≠ [] := by intro e; rw [e, List.length_nil] at hiL; omega
          have hX := HX.out.2 hne
          have hp := HQA.out.ok.prio _ (wat_mem hiL)
          have hsm := HQA.out.ok.small (wat_mem hiL)
          have hT5 := tps_small HQA.out.ok i (by omega)
          rw [← HT.out.2] at hT5
          have HD' : Hid (dua k L (i + 1) = (dua k L i || decide ((k : Int) * (5 - (wat L i).2.1) ≤ (wat L i).2.2))) := Lib.hid rfl
          have HM' : Hid (tps L (i + 1) = max (tps L i) (wat L i).2.1) := Lib.hid rfl
          obtain ⟨c0, c1, c2⟩ := box3_cells wz (wat L i).1 (wat L i).2.1 (wat L i).2.2
          have hA1 := (Below.refl wz.heap.size wz).alloc (Nat.le_refl _) (.cells #[.int .i64 (wat L i).1, .int .i64 (wat L i).2.1, .int .i64 (wat L i).2.2] 46)
          have HB1 := Lib.hid (HW.out.1.trans (hA1.mono HW.out.1.size))
          have HWb := Lib.hid (HW.out.2.later hA1)
          obtain ⟨d0, d1, d2, f0, f1, f2⟩ := HWb.out.cells
          have HE : Hid ((wat L i).1 = ID ↔ i = mm) := Lib.hid (by
            rw [hX.1]
            constructor
            · intro e; exact ids_one HQA.out.ok hiL hX.2.1 e
            · intro e; rw [e])
          have HY : Hid (i = mm → wat L mm = ((wat L i).1, (wat L i).2.1, (wat L i).2.2)) := Lib.hid (fun e => by rw [← e])
          have hp0 : 0 ≤ (wat L i).2.1 := hp.1
          have hp1 : (wat L i).2.1 ≤ 5 := hp.2
          have hm0 : 0 ≤ (k : Int) * (5 - (wat L i).2.1) := hsm.1
          have hm1 : (k : Int) * (5 - (wat L i).2.1) ≤ 5000 := hsm.2
          clear hne hX hA1 hiL hp hsm
          generalize (wat L i).1 = x1 at *
          generalize (wat L i).2.1 = x2 at *
          generalize (wat L i).2.2 = x3 at *
          obtain ⟨dd, hdd⟩ : ∃ dd, decide ((k : Int) * (5 - x2) ≤ x3) = dd := ⟨_, rfl⟩
          rw [hdd] at HD'
          obtain ⟨wa, hwa⟩ : ∃ wa, wa = wz.alloc (.cells #[.int .i64 x1, .int .i64 x2, .int .i64 x3] 46) := ⟨_, rfl⟩
          have hTM : ∃ T', (if T < x2 then x2 else T) = T' ∧ T' = tps L (i + 1) := ⟨_, rfl, by rw [HM'.out, ← HT.out.2]; split <;> omega⟩
          obtain ⟨T', hT', HTe⟩ := hTM
          have HTE := Lib.hid HTe
          clear HTe
          by_cases he : x1 = ID
          · have dE : (x1 == ID) = true := by simp [he]
            have hmm : i = mm := HE.out.1 he
            have HU' : Hid ((mm < i + 1 ∧ true = true ∧ (x1, x2, x3) = wat L mm) ∨ (i + 1 ≤ mm ∧ true = false ∧ (x1, x2, x3) = (0, 0, 0))) := Lib.hid (.inl ⟨by omega, rfl, (HY.out hmm).symm⟩)
            have HW' := Lib.hid (And.intro (below_put (below_put (below_put HB1.out HDW.out (.int .i64 x1) (Nat.le_refl _) (o := 0)) HDW.out (.int .i64 x2) (Nat.le_refl _) (o := 1)) HDW.out (.int .i64 x3) (Nat.le_refl _) (o := 2)) (HWb.out.put x1 x2 x3))
            clear he hmm
            cases t with
            | true =>
              have HT'' : Hid (true = dua k L (i + 1) ∧ T' = tps L (i + 1)) := Lib.hid ⟨by rw [HD'.out, ← HT.out.1]; rfl, HTE.out⟩
              clear hdd
              go_wp2_with fail
              go_roundw
              case rel => first | exact ⟨i + 1, true, true, T', (x1, x2, x3), by go_num, rfl, rfl, by first | rfl | simp only [hT'], by omega, HT'', HU', HW'⟩ | ((repeat apply Exists.intro); exact ⟨⟨i + 1, true, true, T', (x1, x2, x3), by go_num, rfl, rfl, by first | rfl | simp only [hT'], by omega, HT'', HU', HW'⟩, rfl⟩)
              case measure => simp [intOf]; omega
            | false =>
              have HT'' : Hid (dd = dua k L (i + 1) ∧ T' = tps L (i + 1)) := Lib.hid ⟨by rw [HD'.out, ← HT.out.1]; simp, HTE.out⟩
              go_wp2_with fail
              go_roundw
              case rel => first | exact ⟨i + 1, dd, true, T', (x1, x2, x3), by go_num, rfl, rfl, by first | rfl | simp only [hT'], by omega, HT'', HU', HW'⟩ | ((repeat apply Exists.intro); exact ⟨⟨i + 1, dd, true, T', (x1, x2, x3), by go_num, rfl, rfl, by first | rfl | simp only [hT'], by omega, HT'', HU', HW'⟩, rfl⟩)
              case measure => simp [intOf]; omega
          · have dE : (x1 == ID) = false := by simp [he]
            have hmm : i ≠ mm := fun e => he (HE.out.2 e)
            have HU' : Hid ((mm < i + 1 ∧ u = true ∧ y = wat L mm) ∨ (i + 1 ≤ mm ∧ u = false ∧ y = (0, 0, 0))) := Lib.hid (by
              rcases HU.out with ⟨q1, q2⟩ | ⟨q1, q2⟩
              · exact .inl ⟨by omega, q2⟩
              · exact .inr ⟨by omega, q2⟩)
            have HW' := Lib.hid (And.intro HB1.out HWb.out)
            clear he hmm
            cases t with
            | true =>
              have HT'' : Hid (true = dua k L (i + 1) ∧ T' = tps L (i + 1)) := Lib.hid ⟨by rw [HD'.out, ← HT.out.1]; rfl, HTE.out⟩
              clear hdd
              go_wp2_with fail
              go_roundw
              case rel => first | exact ⟨i + 1, true, u, T', y, by go_num, rfl, rfl, by first | rfl | simp only [hT'], by omega, HT'', HU', HW'⟩ | ((repeat apply Exists.intro); exact ⟨⟨i + 1, true, u, T', y, by go_num, rfl, rfl, by first | rfl | simp only [hT'], by omega, HT'', HU', HW'⟩, rfl⟩)
              case measure => simp [intOf]; omega
            | false =>
              have HT'' : Hid (dd = dua k L (i + 1) ∧ T' = tps L (i + 1)) := Lib.hid ⟨by rw [HD'.out, ← HT.out.1]; simp, HTE.out⟩
              go_wp2_with fail
              go_roundw
              case rel => first | exact ⟨i + 1, dd, u, T', y, by go_num, rfl, rfl, by first | rfl | simp only [hT'], by omega, HT'', HU', HW'⟩ | ((repeat apply Exists.intro); exact ⟨⟨i + 1, dd, u, T', y, by go_num, rfl, rfl, by first | rfl | simp only [hT'], by omega, HT'', HU', HW'⟩, rfl⟩)
              case measure => simp [intOf]; omega
        · obtain rfl : i = n5 := by omega
          have HBz := Lib.hid (HB7.out.trans (HW.out.1.mono HB7.out.size))
          have HQz := Lib.hid (HQ5.out.later HBz.out)
          by_cases hne : L = []
          · have hIS : IS = false := by
              cases IS with
              | false => rfl
              | true => exact absurd hne (HX.out.1.1 rfl)
            subst hIS
            have hz : i = 0 := by rw [HN5.out, hne]; rfl
            subst hz
            clear HT HU
            go_wp2_with fail
            refine (All_any HQz.out).mono ?_
            rintro e w9 ⟨A9, n9, c9, rfl, hn9, ho9, hb9⟩
            have hs9 : n9 = 0 := by rw [hn9]; exact by rw [hne]; rfl
            subst hs9
            have HB9wz := Lib.hid hb9
            have HB9 := Lib.hid (HBz.out.trans (hb9.mono HBz.out.size))
            have HG9 := Lib.hid (And.intro (ho9.wg).2 (HO5.out.later HB9.out))
            clear hn9 ho9 hb9
            go_wp2_with fail
            refine (same_yes A9 A5 _ c9 c5 L w9 HG9.out.1 HG9.out.2 (by omega)).mono ?_
            rintro e w10 ⟨rfl, hb10⟩
            have HB10 := Lib.hid (HB9.out.trans (hb10.mono HB9.out.size))
            have HQx := Lib.hid (HQ5.out.later HB10.out)
            have HBx := Lib.hid (HB5.out.trans (HB10.out.mono HB5.out.size))
            have b0 := (HB10.out.cell (p := ⟨DB, 0, none⟩) HP5.out.2.2).trans HP5.out.1
            have b1 := (HB10.out.cell (p := ⟨DB, 1, none⟩) HP5.out.2.2).trans HP5.out.2.1

            clear hb10 HG9 HB9 hne
            rcases (by omega : q % 3 = 0 ∨ q % 3 = 1 ∨ q % 3 = 2) with hr | hr | hr
            · have hrI : (q : Int) % 3 = 0 := by omega
              have HT := Lib.hid (Add_any HQx.out (by have := HD.out; omega) (Nat.le_of_lt HQx.out.lt) x)
              clear hr
              go_wp2_with fail
              refine HT.out.mono ?_
              intro e w4 h4
              obtain rfl := h4.ret
              have HS' : Hid (St w4 g k (j + 1)) := Lib.hid (h4.st (by have := (adD_le x d L).2; have := HD.out; omega))
              have HB' := Lib.hid (h4.below HQx.out HBx.out (Nat.le_refl _) HG.out)
              clear h4 HT
              go_wp2_with fail
              go_roundw
              case rel => first | exact ⟨j + 1, by go_num, by omega, HS', HB'⟩ | ((repeat apply Exists.intro); exact ⟨⟨j + 1, by go_num, by omega, HS', HB'⟩, rfl⟩)
              case measure => simp [intOf]; omega
            · have hrI : (q : Int) % 3 = 1 := by omega
              have HT := Lib.hid (HTK.out w10 HB10.out)
              clear hr
              go_wp2_with fail
              refine HT.out.mono ?_
              intro e w4 h4
              obtain rfl := h4.ret
              have HS' : Hid (St w4 g k (j + 1)) := Lib.hid (h4.st (by have := HD.out; omega))
              have HB' := Lib.hid (h4.below HQx.out HBx.out (Nat.le_refl _) HG.out)
              clear h4 HT
              go_wp2_with fail
              go_roundw
              case rel => first | exact ⟨j + 1, by go_num, by omega, HS', HB'⟩ | ((repeat apply Exists.intro); exact ⟨⟨j + 1, by go_num, by omega, HS', HB'⟩, rfl⟩)
              case measure => simp [intOf]; omega
            · have hrI : (q : Int) % 3 = 2 := by omega
              have HT := Lib.hid (Drop_any HQx.out x)
              clear hr
              go_wp2_with fail
              refine HT.out.mono ?_
              intro e w4 h4
              obtain rfl := h4.ret
              have HS' : Hid (St w4 g k (j + 1)) := Lib.hid (h4.st (by have := HD.out; omega))
              have HB' := Lib.hid (h4.below HQx.out HBx.out (Nat.le_refl _) HG.out)
              clear h4 HT
              go_wp2_with fail
              go_roundw
              case rel => first | exact ⟨j + 1, by go_num, by omega, HS', HB'⟩ | ((repeat apply Exists.intro); exact ⟨⟨j + 1, by go_num, by omega, HS', HB'⟩, rfl⟩)
              case measure => simp [intOf]; omega

          · have hIS := HX.out.1.2 hne
            subst hIS
            have hX := HX.out.2 hne
            have hmi : mm < i := by rw [HN5.out]; exact hX.2.1
            have dpos : decide (0 < i) = true := decide_eq_true (by omega)
            have hposI : (0 : Int) < (i : Int) := by omega
            have hpos : 0 < i := by omega
            have hU : u = true ∧ y = wat L mm := by
              rcases HU.out with ⟨_, q⟩ | ⟨q, _⟩
              · exact q
              · omega
            obtain ⟨rfl, rfl⟩ := hU
            have hp := HQA.out.ok.prio _ (wat_mem hX.2.1)
            have hsm := HQA.out.ok.small (wat_mem hX.2.1)
            have hp0 : 0 ≤ (wat L mm).2.1 := hp.1
            have hp1 : (wat L mm).2.1 ≤ 5 := hp.2
            have hm0 : 0 ≤ (k : Int) * (5 - (wat L mm).2.1) := hsm.1
            have hm1 : (k : Int) * (5 - (wat L mm).2.1) ≤ 5000 := hsm.2
            have hTD : t = decide ((k : Int) * (5 - (wat L mm).2.1) ≤ (wat L mm).2.2) := by rw [HT.out.1, HN5.out]; exact hX.2.2.1
            have hTT : t = false → (wat L mm).2.1 = T := fun q => by rw [HT.out.2, HN5.out]; exact hX.2.2.2 (by rw [← HN5.out, ← HT.out.1]; exact q)
            have HTD := Lib.hid hTD
            have HTT := Lib.hid hTT
            have HWb := Lib.hid HW.out.2
            clear hp hsm hTD hTT hmi hX HU HT
            generalize wat L mm = yy at *
            obtain ⟨y1, y2, y3⟩ := yy
            simp only at hp0 hp1 hm0 hm1
            go_wp2_with fail
            refine (All_any HQz.out).mono ?_
            rintro e w9 ⟨A9, n9, c9, rfl, hn9, ho9, hb9⟩
            have hs9 : n9 = i := by rw [hn9]; exact HN5.out.symm
            subst hs9
            have HB9wz := Lib.hid hb9
            have HB9 := Lib.hid (HBz.out.trans (hb9.mono HBz.out.size))
            have HG9 := Lib.hid (And.intro (ho9.wg).2 (HO5.out.later HB9.out))
            clear hn9 ho9 hb9
            go_wp2_with fail
            refine (same_yes A9 A5 _ c9 c5 L w9 HG9.out.1 HG9.out.2 (by omega)).mono ?_
            rintro e w10 ⟨rfl, hb10⟩
            have HB10 := Lib.hid (HB9.out.trans (hb10.mono HB9.out.size))
            have HQx := Lib.hid (HQ5.out.later HB10.out)
            have HBx := Lib.hid (HB5.out.trans (HB10.out.mono HB5.out.size))
            have b0 := (HB10.out.cell (p := ⟨DB, 0, none⟩) HP5.out.2.2).trans HP5.out.1
            have b1 := (HB10.out.cell (p := ⟨DB, 1, none⟩) HP5.out.2.2).trans HP5.out.2.1

            have hWx : Wb DW (y1, y2, y3) w10 := by
              have e9 : Below wz.heap.size wz w10 := (HB9wz.out).trans (hb10.mono HB9wz.out.size)
              exact HWb.out.later e9
            obtain ⟨z0, z1, z2, -, -, -⟩ := hWx.cells
            simp only at z0 z1 z2
            clear hb10 HG9 HB9 hne hWx HWb
            cases t with
            | true =>
              have dD : decide ((k : Int) * (5 - y2) ≤ y3) = true := HTD.out.symm
              clear HTD HTT
              rcases (by omega : q % 3 = 0 ∨ q % 3 = 1 ∨ q % 3 = 2) with hr | hr | hr
              · have hrI : (q : Int) % 3 = 0 := by omega
                have HT := Lib.hid (Add_any HQx.out (by have := HD.out; omega) (Nat.le_of_lt HQx.out.lt) x)
                clear hr
                go_wp2_with fail
                refine HT.out.mono ?_
                intro e w4 h4
                obtain rfl := h4.ret
                have HS' : Hid (St w4 g k (j + 1)) := Lib.hid (h4.st (by have := (adD_le x d L).2; have := HD.out; omega))
                have HB' := Lib.hid (h4.below HQx.out HBx.out (Nat.le_refl _) HG.out)
                clear h4 HT
                go_wp2_with fail
                go_roundw
                case rel => first | exact ⟨j + 1, by go_num, by omega, HS', HB'⟩ | ((repeat apply Exists.intro); exact ⟨⟨j + 1, by go_num, by omega, HS', HB'⟩, rfl⟩)
                case measure => simp [intOf]; omega
              · have hrI : (q : Int) % 3 = 1 := by omega
                have HT := Lib.hid (HTK.out w10 HB10.out)
                clear hr
                go_wp2_with fail
                refine HT.out.mono ?_
                intro e w4 h4
                obtain rfl := h4.ret
                have HS' : Hid (St w4 g k (j + 1)) := Lib.hid (h4.st (by have := HD.out; omega))
                have HB' := Lib.hid (h4.below HQx.out HBx.out (Nat.le_refl _) HG.out)
                clear h4 HT
                go_wp2_with fail
                go_roundw
                case rel => first | exact ⟨j + 1, by go_num, by omega, HS', HB'⟩ | ((repeat apply Exists.intro); exact ⟨⟨j + 1, by go_num, by omega, HS', HB'⟩, rfl⟩)
                case measure => simp [intOf]; omega
              · have hrI : (q : Int) % 3 = 2 := by omega
                have HT := Lib.hid (Drop_any HQx.out x)
                clear hr
                go_wp2_with fail
                refine HT.out.mono ?_
                intro e w4 h4
                obtain rfl := h4.ret
                have HS' : Hid (St w4 g k (j + 1)) := Lib.hid (h4.st (by have := HD.out; omega))
                have HB' := Lib.hid (h4.below HQx.out HBx.out (Nat.le_refl _) HG.out)
                clear h4 HT
                go_wp2_with fail
                go_roundw
                case rel => first | exact ⟨j + 1, by go_num, by omega, HS', HB'⟩ | ((repeat apply Exists.intro); exact ⟨⟨j + 1, by go_num, by omega, HS', HB'⟩, rfl⟩)
                case measure => simp [intOf]; omega

            | false =>
              have dD : decide ((k : Int) * (5 - y2) ≤ y3) = false := HTD.out.symm
              obtain rfl : y2 = T := HTT.out rfl
              clear HTD HTT
              rcases (by omega : q % 3 = 0 ∨ q % 3 = 1 ∨ q % 3 = 2) with hr | hr | hr
              · have hrI : (q : Int) % 3 = 0 := by omega
                have HT := Lib.hid (Add_any HQx.out (by have := HD.out; omega) (Nat.le_of_lt HQx.out.lt) x)
                clear hr
                go_wp2_with fail
                refine HT.out.mono ?_
                intro e w4 h4
                obtain rfl := h4.ret
                have HS' : Hid (St w4 g k (j + 1)) := Lib.hid (h4.st (by have := (adD_le x d L).2; have := HD.out; omega))
                have HB' := Lib.hid (h4.below HQx.out HBx.out (Nat.le_refl _) HG.out)
                clear h4 HT
                go_wp2_with fail
                go_roundw
                case rel => first | exact ⟨j + 1, by go_num, by omega, HS', HB'⟩ | ((repeat apply Exists.intro); exact ⟨⟨j + 1, by go_num, by omega, HS', HB'⟩, rfl⟩)
                case measure => simp [intOf]; omega
              · have hrI : (q : Int) % 3 = 1 := by omega
                have HT := Lib.hid (HTK.out w10 HB10.out)
                clear hr
                go_wp2_with fail
                refine HT.out.mono ?_
                intro e w4 h4
                obtain rfl := h4.ret
                have HS' : Hid (St w4 g k (j + 1)) := Lib.hid (h4.st (by have := HD.out; omega))
                have HB' := Lib.hid (h4.below HQx.out HBx.out (Nat.le_refl _) HG.out)
                clear h4 HT
                go_wp2_with fail
                go_roundw
                case rel => first | exact ⟨j + 1, by go_num, by omega, HS', HB'⟩ | ((repeat apply Exists.intro); exact ⟨⟨j + 1, by go_num, by omega, HS', HB'⟩, rfl⟩)
                case measure => simp [intOf]; omega
              · have hrI : (q : Int) % 3 = 2 := by omega
                have HT := Lib.hid (Drop_any HQx.out x)
                clear hr
                go_wp2_with fail
                refine HT.out.mono ?_
                intro e w4 h4
                obtain rfl := h4.ret
                have HS' : Hid (St w4 g k (j + 1)) := Lib.hid (h4.st (by have := HD.out; omega))
                have HB' := Lib.hid (h4.below HQx.out HBx.out (Nat.le_refl _) HG.out)
                clear h4 HT
                go_wp2_with fail
                go_roundw
                case rel => first | exact ⟨j + 1, by go_num, by omega, HS', HB'⟩ | ((repeat apply Exists.intro); exact ⟨⟨j + 1, by go_num, by omega, HS', HB'⟩, rfl⟩)
                case measure => simp [intOf]; omega
    · obtain rfl : j = m := by omega
      go_wp2_with fail
      go_ret
      exact ⟨rfl, HB.out⟩
end Ag
end Go.Proofs.Ytgeahckblgpnmaa
