/-
  The statement CheckList: its walk.
-/
import Derived.Test.YtbdlcmpljhbebaaChkR
set_option linter.unusedVariables false
namespace Go.Proofs.Ytbdlcmpljhbebaa
open Go.RowKit Bp Ck

/-- Where the frames end. -/
def fends (ls : List (List Nat)) (k : Nat) : List Nat := (List.range k).map fun j => fln ls (j + 1)
theorem fends_succ (ls : List (List Nat)) (k : Nat) : fends ls (k + 1) = fends ls k ++ [fln ls (k + 1)] := by simp [fends, List.range_succ]
theorem fends_len (ls : List (List Nat)) (k : Nat) : (fends ls k).length = k := by simp [fends]
/-- The first k lists are laid: all bytes at a, where they end at e. -/
structure Laid (w0 w : World) (ls : List (List Nat)) (k : Nat) (a e : Value) : Prop where
  all : w.ownsRow w0.heap.size 5 1 a (fln ls k) (bc (frs ls k).flatten)
  ends : w.ownsRow w0.heap.size 3 1 e k (ic (fends ls k))
  few : ∀ i, i < k → (ls.getD i []).length ≤ 1000
  below : Below w0.heap.size w0 w
theorem Laid.later {w0 w w' : World} {ls : List (List Nat)} {k : Nat} {a e : Value} (h : Laid w0 w ls k a e) (hb : Below w.heap.size w w') : Laid w0 w' ls k a e :=
  ⟨ownsRow_same h.all (fun k hk => hb.block k (h.all.lt k hk).2), ownsRow_same h.ends (fun k hk => hb.block k (h.ends.lt k hk).2), h.few, h.below.trans (hb.mono h.below.size)⟩

set_option maxHeartbeats 4000000 in
theorem checkList_walk (ao : Option Addr) (len cap : Nat) (ls : List (List Nat)) (n : Nat) (hn : n ≤ 65535) (w : World) (hA : Bss w.heap.size w ao len cap ls) (hl : ls.length = len) :
    Calls Try.prog 8 #[.slice ao len cap, .int .u16 (n : Int)] w fun e w' => e = .returned (.bool true) ∧ Below w.heap.size w w' := by
  have hle := hA.le
  have hmx := hA.max
  unfold maxLen at hmx
  have HA := Lib.hid hA
  have HL := Lib.hid hl
  clear hA hl
  go_enter Try.func8, Try.ntmps8
  go_wp2_with fail
  refine (shown2_any _).mono ?_
  rintro e w1 ⟨rfl, hb1⟩
  have HB1 := Lib.hid hb1
  clear hb1
  go_wp2
  go_loopw [6, 7, 19] (fun av ev iv wr => ∃ (k : Nat), k ≤ len ∧ k ≤ 20 ∧ iv = .int .i64 (k : Int) ∧ Laid w wr ls k av ev) (fun _ _ iv _ => len - (intOf iv).toNat)
  case atStart => exact ⟨0, Nat.zero_le _, by omega, rfl, World.ownsRow_nil _ _ _ _, World.ownsRow_nil _ _ _ _, fun i hi => by omega, HB1.out⟩
  case round =>
    obtain ⟨k, hk1, hk2, rfl, hlaid⟩ := hrel
    obtain ⟨aA, aC, hav⟩ := ownsRow_shape hlaid.all
    obtain ⟨eA, eC, hev⟩ := ownsRow_shape hlaid.ends
    subst hav hev
    have HLd := Lib.hid hlaid
    clear hlaid HB1
    have hfl := fln_le ls k (by rw [HL.out]; exact hk1) HLd.out.few
    by_cases hgo : k < len ∧ k < 20 ∧ (ls.getD k []).length ≤ 1000
    · obtain ⟨hg1, hg2, hg3⟩ := hgo
      obtain ⟨g, off, rfl, hg, hcell⟩ := (HA.out.below HLd.out.below).cell (by omega)
      obtain ⟨A', n', c', hc, hy⟩ := hcell k hg1
      have hn' := hy.len
      rw [hn'] at hg3
      have HY := Lib.hid hy
      have HN := Lib.hid hn'
      have hsz := HLd.out.below.size
      have hyl := hy.le
      have hym := hy.max
      unfold maxLen at hym
      clear hcell hy hn'
      obtain ⟨fk, hfk⟩ : ∃ fk, fk = fln ls k := ⟨_, rfl⟩
      rw [← hfk] at hfl ⊢
      have HFK := Lib.hid hfk
      clear hfk
      go_wp2_with fail
      refine (frame_ok HY.out hsz hg3).mono ?_
      rintro e w2 ⟨gf, cf, rfl, hof, hbf⟩
      have HLd2 := Lib.hid (HLd.out.later hbf)
      have HYf := Lib.hid (By.own hof (frm_byte _ HY.out.byte (by rw [HN.out]; omega)))
      have hsz2 := HLd2.out.below.size
      have HS : Hid (fln ls (k + 1) = fk + (n' + 4)) := Lib.hid (by rw [fln_succ ls k (by rw [HL.out]; exact hg1), HN.out, HFK.out])
      have HFS : Hid (frs ls (k + 1) = frs ls k ++ [frm (ls.getD k [])]) := Lib.hid (frs_succ ls k (by rw [HL.out]; exact hg1))
      have HES := Lib.hid (fends_succ ls k)
      have HO2 : Hid (w2.ownsRow w.heap.size 5 1 (.slice aA fk aC) fk (bc (frs ls k).flatten)) := Lib.hid (by rw [HFK.out]; exact HLd2.out.all)
      have HE2 := Lib.hid HLd2.out.ends
      clear hof hbf
      go_wp2_with (at_builtin; refine app_by2 rfl _ _ rfl w.heap.size _ fk _ rfl HO2.out w2.heap.size _ _ _ _ rfl HYf.out (by omega) hsz2 ?_)
      intro A3 c3 w3 ho3 hb3 hg3'
      have HE3 := Lib.hid (HE2.out.kept hg3' (rows_apart HE2.out HO2.out (by decide)))
      have HO3 := Lib.hid ho3
      have HB3 := Lib.hid (HLd2.out.below.trans hb3)
      have hsz3 := HB3.out.size
      clear ho3 hb3 hg3' HO2 HE2 HYf
      go_wp2_with (at_builtin; refine app_int rfl _ _ rfl w.heap.size _ k _ rfl (fk + (n' + 4)) _ (by simp) w3 rfl HE3.out rfl (by omega) hsz3 ?_)
      intro A4 c4 w4 ho4 hb4 hg4
      have HO4 := Lib.hid (HO3.out.kept hg4 (rows_apart HO3.out HE3.out (by decide)))
      have HE4 := Lib.hid ho4
      have HB4 := Lib.hid (HB3.out.trans hb4)
      clear ho4 hb4 hg4 HO3 HE3 HB3
      go_wp2
      go_roundw
      case rel =>
        refine ⟨k + 1, by omega, by omega, by go_num, ?_, ?_, ?_, HB4.out⟩
        · rw [HS.out, HFS.out, List.flatten_append]
          simpa using HO4.out
        · rw [HES.out, HS.out]
          exact HE4.out
        · intro i hi
          rcases Nat.lt_or_ge i k with h | h
          · exact HLd.out.few i h
          · have : i = k := by omega
            subst this
            rw [HN.out]; exact hg3
      case measure => simp [intOf]; omega
    · have hexit : k = len ∨ (k < len ∧ k = 20) ∨ (k < len ∧ k < 20 ∧ 1000 < (ls.getD k []).length) := by omega
      obtain ⟨fk, hfk⟩ : ∃ fk, fk = fln ls k := ⟨_, rfl⟩
      rw [← hfk] at hfl ⊢
      have HFK := Lib.hid hfk
      clear hfk
      obtain ⟨kk, hkk, hkl⟩ : ∃ kk : Nat, (n : Int) % ((fk : Int) + 1) = (kk : Int) ∧ kk < fk + 1 := ⟨n % (fk + 1), by simp, Nat.mod_lt _ (by omega)⟩
      have hl0 : (((fk : Int) + 1) == 0) = false := by rw [beq_eq_false_iff_ne]; omega
      have hpre : (k = len → True) := fun _ => trivial
      have HO : Hid (wr.ownsRow w.heap.size 5 1 (.slice aA fk aC) fk (bc (frs ls k).flatten)) := Lib.hid (by rw [HFK.out]; exact HLd.out.all)
      have hkl0 : k ≤ ls.length := by rw [HL.out]; exact hk1
      have HYa := Lib.hid (By.own HO.out (frs_byte ls k HLd.out.few (fun i hi => (by
        obtain ⟨g, off, _, _, hcell⟩ := HA.out.cell (by omega)
        obtain ⟨A', n', c', _, hy⟩ := hcell i (by omega)
        exact hy.byte)) hkl0))
      have haC := HYa.out.le
      have haM := HYa.out.max
      unfold maxLen at haM
      have HBl := Lib.hid HLd.out.below
      have HFew := Lib.hid HLd.out.few
      have HEn := Lib.hid HLd.out.ends
      have s3 := fun wx => slice_h aA fk aC kk wx (by omega)
      rcases hexit with rfl | ⟨hx1, hx2⟩ | ⟨hx1, hx2, hx3⟩
      · clear HLd hgo
        go_wp2
        (try rw [hkk])
        clear hkk hl0 HO
        go_loop [12, 13] (fun nv tv => ∃ j : Nat, j ≤ k ∧ nv = .int .i64 (j : Int) ∧ tv = .int .i64 (fln ls j : Int) ∧ fln ls j ≤ kk) (fun nv _ => k - (intOf nv).toNat)
        case atStart => exact ⟨0, Nat.zero_le _, rfl, rfl, Nat.zero_le _⟩
        case round =>
          obtain ⟨j, hj, rfl, rfl, hjl⟩ := hrel
          have HFJ := Lib.hid (frs_len ls j (by omega))
          have hfj := fln_mono ls j k hj hkl0
          rw [← HFK.out] at hfj
          by_cases hjc : j < k ∧ fln ls (j + 1) ≤ kk
          · obtain ⟨hj1, hj2⟩ := hjc
            obtain ⟨ge, ce, hE⟩ := shape_of HEn.out (by omega)
            simp only [Value.slice.injEq, true_and] at hE
            obtain ⟨rfl, rfl⟩ := hE
            have cj : wr.cell? ⟨ge, j, none⟩ = some (.int .i64 (fln ls (j + 1) : Int)) := by rw [HEn.out.cellAt j (by omega)]; simp [ic, fends, hj1]
            go_wp2
            go_round
            case rel => exact ⟨j + 1, by omega, by go_num, rfl, hj2⟩
            case measure => simp [intOf]; omega
          · have hend : j = k ∨ (j < k ∧ kk < fln ls (j + 1)) := by omega
            have HSc := Lib.hid (scn_cut ls k j kk hkl0 HFew.out hj hjl (by rw [← HFK.out]; omega) (fun h => by omega))
            clear hjc
            rcases hend with rfl | ⟨hj1, hj2⟩
            · go_wp2_with fail
              refine (scan_any (HYa.out.take kk (by omega)) (Nat.le_refl _) (by omega)).mono ?_
              rintro e w5 ⟨fs, A5, c5, rfl, hs5, hl5, hb5⟩
              obtain rfl := hs5.unique HSc.out
              rw [frs_inn, HFJ.out] at hl5
              rw [HFJ.out, show (frs ls j).flatten.length = fln ls j from rfl]
              have HB5 := Lib.hid (HBl.out.trans (hb5.mono HBl.out.size))
              have HL5 := Lib.hid hl5
              have HLt := Lib.hid (((HA.out.take j (by omega)).below HB5.out).mono HB5.out.size)
              have s4 := fun wx => slice_h2 ao j cap j wx (by omega)
              clear hs5 hl5 hb5 HBl HSc HYa s3
              go_wp2_with fail
              refine (refSame_eq HL5.out HLt.out (Nat.le_refl _)).mono ?_
              rintro e w6 ⟨rfl, hb6⟩
              have HB6 := Lib.hid (HB5.out.trans (hb6.mono HB5.out.size))
              clear hb6 HB5
              go_wp2
              go_ret
              exact ⟨rfl, HB6.out⟩
            · obtain ⟨ge, ce, hE⟩ := shape_of HEn.out (by omega)
              simp only [Value.slice.injEq, true_and] at hE
              obtain ⟨rfl, rfl⟩ := hE
              have cj : wr.cell? ⟨ge, j, none⟩ = some (.int .i64 (fln ls (j + 1) : Int)) := by rw [HEn.out.cellAt j (by omega)]; simp [ic, fends, hj1]
              go_wp2_with fail
              refine (scan_any (HYa.out.take kk (by omega)) (Nat.le_refl _) (by omega)).mono ?_
              rintro e w5 ⟨fs, A5, c5, rfl, hs5, hl5, hb5⟩
              obtain rfl := hs5.unique HSc.out
              rw [frs_inn, HFJ.out] at hl5
              rw [HFJ.out, show (frs ls j).flatten.length = fln ls j from rfl]
              have HB5 := Lib.hid (HBl.out.trans (hb5.mono HBl.out.size))
              have HL5 := Lib.hid hl5
              have HLt := Lib.hid (((HA.out.take j (by omega)).below HB5.out).mono HB5.out.size)
              have s4 := fun wx => slice_h2 ao k cap j wx (by omega)
              clear hs5 hl5 hb5 HBl HSc HYa s3
              go_wp2_with fail
              refine (refSame_eq HL5.out HLt.out (Nat.le_refl _)).mono ?_
              rintro e w6 ⟨rfl, hb6⟩
              have HB6 := Lib.hid (HB5.out.trans (hb6.mono HB5.out.size))
              clear hb6 HB5
              go_wp2
              go_ret
              exact ⟨rfl, HB6.out⟩
      · subst hx2
        have hx4 : (20 : Int) < (len : Int) := by omega
        clear HLd hgo
        go_wp2
        (try rw [hkk])
        clear hkk hl0 HO
        go_loop [12, 13] (fun nv tv => ∃ j : Nat, j ≤ 20 ∧ nv = .int .i64 (j : Int) ∧ tv = .int .i64 (fln ls j : Int) ∧ fln ls j ≤ kk) (fun nv _ => 20 - (intOf nv).toNat)
        case atStart => exact ⟨0, Nat.zero_le _, rfl, rfl, Nat.zero_le _⟩
        case round =>
          obtain ⟨j, hj, rfl, rfl, hjl⟩ := hrel
          have HFJ := Lib.hid (frs_len ls j (by omega))
          have hfj := fln_mono ls j 20 hj hkl0
          rw [← HFK.out] at hfj
          by_cases hjc : j < 20 ∧ fln ls (j + 1) ≤ kk
          · obtain ⟨hj1, hj2⟩ := hjc
            obtain ⟨ge, ce, hE⟩ := shape_of HEn.out (by omega)
            simp only [Value.slice.injEq, true_and] at hE
            obtain ⟨rfl, rfl⟩ := hE
            have cj : wr.cell? ⟨ge, j, none⟩ = some (.int .i64 (fln ls (j + 1) : Int)) := by rw [HEn.out.cellAt j (by omega)]; simp [ic, fends, hj1]
            go_wp2
            go_round
            case rel => exact ⟨j + 1, by omega, by go_num, rfl, hj2⟩
            case measure => simp [intOf]; omega
          · have hend : j = 20 ∨ (j < 20 ∧ kk < fln ls (j + 1)) := by omega
            have HSc := Lib.hid (scn_cut ls 20 j kk hkl0 HFew.out hj hjl (by rw [← HFK.out]; omega) (fun h => by omega))
            clear hjc
            rcases hend with rfl | ⟨hj1, hj2⟩
            · go_wp2_with fail
              refine (scan_any (HYa.out.take kk (by omega)) (Nat.le_refl _) (by omega)).mono ?_
              rintro e w5 ⟨fs, A5, c5, rfl, hs5, hl5, hb5⟩
              obtain rfl := hs5.unique HSc.out
              rw [frs_inn, HFJ.out] at hl5
              rw [HFJ.out, show (frs ls 20).flatten.length = fln ls 20 from rfl]
              have HB5 := Lib.hid (HBl.out.trans (hb5.mono HBl.out.size))
              have HL5 := Lib.hid hl5
              have HLt := Lib.hid (((HA.out.take 20 (by omega)).below HB5.out).mono HB5.out.size)
              have s4 := fun wx => slice_h2 ao len cap 20 wx (by omega)
              clear hs5 hl5 hb5 HBl HSc HYa s3
              go_wp2_with fail
              refine (refSame_eq HL5.out HLt.out (Nat.le_refl _)).mono ?_
              rintro e w6 ⟨rfl, hb6⟩
              have HB6 := Lib.hid (HB5.out.trans (hb6.mono HB5.out.size))
              clear hb6 HB5
              go_wp2
              go_ret
              exact ⟨rfl, HB6.out⟩
            · obtain ⟨ge, ce, hE⟩ := shape_of HEn.out (by omega)
              simp only [Value.slice.injEq, true_and] at hE
              obtain ⟨rfl, rfl⟩ := hE
              have cj : wr.cell? ⟨ge, j, none⟩ = some (.int .i64 (fln ls (j + 1) : Int)) := by rw [HEn.out.cellAt j (by omega)]; simp [ic, fends, hj1]
              go_wp2_with fail
              refine (scan_any (HYa.out.take kk (by omega)) (Nat.le_refl _) (by omega)).mono ?_
              rintro e w5 ⟨fs, A5, c5, rfl, hs5, hl5, hb5⟩
              obtain rfl := hs5.unique HSc.out
              rw [frs_inn, HFJ.out] at hl5
              rw [HFJ.out, show (frs ls j).flatten.length = fln ls j from rfl]
              have HB5 := Lib.hid (HBl.out.trans (hb5.mono HBl.out.size))
              have HL5 := Lib.hid hl5
              have HLt := Lib.hid (((HA.out.take j (by omega)).below HB5.out).mono HB5.out.size)
              have s4 := fun wx => slice_h2 ao len cap j wx (by omega)
              clear hs5 hl5 hb5 HBl HSc HYa s3
              go_wp2_with fail
              refine (refSame_eq HL5.out HLt.out (Nat.le_refl _)).mono ?_
              rintro e w6 ⟨rfl, hb6⟩
              have HB6 := Lib.hid (HB5.out.trans (hb6.mono HB5.out.size))
              clear hb6 HB5
              go_wp2
              go_ret
              exact ⟨rfl, HB6.out⟩
      · obtain ⟨g, off, hao, hg, hcell⟩ := (HA.out.below HLd.out.below).cell (by omega)
        obtain ⟨A', n', c', hc, hy⟩ := hcell k hx1
        have hn' := hy.len
        have hyl := hy.le
        have hym := hy.max
        unfold maxLen at hym
        rw [hn'] at hx3
        subst hao
        clear hcell hy hn' HLd hgo
        go_wp2
        (try rw [hkk])
        clear hkk hl0 HO
        go_loop [12, 13] (fun nv tv => ∃ j : Nat, j ≤ k ∧ nv = .int .i64 (j : Int) ∧ tv = .int .i64 (fln ls j : Int) ∧ fln ls j ≤ kk) (fun nv _ => k - (intOf nv).toNat)
        case atStart => exact ⟨0, Nat.zero_le _, rfl, rfl, Nat.zero_le _⟩
        case round =>
          obtain ⟨j, hj, rfl, rfl, hjl⟩ := hrel
          have HFJ := Lib.hid (frs_len ls j (by omega))
          have hfj := fln_mono ls j k hj hkl0
          rw [← HFK.out] at hfj
          by_cases hjc : j < k ∧ fln ls (j + 1) ≤ kk
          · obtain ⟨hj1, hj2⟩ := hjc
            obtain ⟨ge, ce, hE⟩ := shape_of HEn.out (by omega)
            simp only [Value.slice.injEq, true_and] at hE
            obtain ⟨rfl, rfl⟩ := hE
            have cj : wr.cell? ⟨ge, j, none⟩ = some (.int .i64 (fln ls (j + 1) : Int)) := by rw [HEn.out.cellAt j (by omega)]; simp [ic, fends, hj1]
            go_wp2
            go_round
            case rel => exact ⟨j + 1, by omega, by go_num, rfl, hj2⟩
            case measure => simp [intOf]; omega
          · have hend : j = k ∨ (j < k ∧ kk < fln ls (j + 1)) := by omega
            have HSc := Lib.hid (scn_cut ls k j kk hkl0 HFew.out hj hjl (by rw [← HFK.out]; omega) (fun h => by omega))
            clear hjc
            rcases hend with rfl | ⟨hj1, hj2⟩
            · go_wp2_with fail
              refine (scan_any (HYa.out.take kk (by omega)) (Nat.le_refl _) (by omega)).mono ?_
              rintro e w5 ⟨fs, A5, c5, rfl, hs5, hl5, hb5⟩
              obtain rfl := hs5.unique HSc.out
              rw [frs_inn, HFJ.out] at hl5
              rw [HFJ.out, show (frs ls j).flatten.length = fln ls j from rfl]
              have HB5 := Lib.hid (HBl.out.trans (hb5.mono HBl.out.size))
              have HL5 := Lib.hid hl5
              have HLt := Lib.hid (((HA.out.take j (by omega)).below HB5.out).mono HB5.out.size)
              have s4 := fun wx => slice_h2 (some ⟨g, off, none⟩) len cap j wx (by omega)
              clear hs5 hl5 hb5 HBl HSc HYa s3
              go_wp2_with fail
              refine (refSame_eq HL5.out HLt.out (Nat.le_refl _)).mono ?_
              rintro e w6 ⟨rfl, hb6⟩
              have HB6 := Lib.hid (HB5.out.trans (hb6.mono HB5.out.size))
              clear hb6 HB5
              go_wp2
              go_ret
              exact ⟨rfl, HB6.out⟩
            · obtain ⟨ge, ce, hE⟩ := shape_of HEn.out (by omega)
              simp only [Value.slice.injEq, true_and] at hE
              obtain ⟨rfl, rfl⟩ := hE
              have cj : wr.cell? ⟨ge, j, none⟩ = some (.int .i64 (fln ls (j + 1) : Int)) := by rw [HEn.out.cellAt j (by omega)]; simp [ic, fends, hj1]
              go_wp2_with fail
              refine (scan_any (HYa.out.take kk (by omega)) (Nat.le_refl _) (by omega)).mono ?_
              rintro e w5 ⟨fs, A5, c5, rfl, hs5, hl5, hb5⟩
              obtain rfl := hs5.unique HSc.out
              rw [frs_inn, HFJ.out] at hl5
              rw [HFJ.out, show (frs ls j).flatten.length = fln ls j from rfl]
              have HB5 := Lib.hid (HBl.out.trans (hb5.mono HBl.out.size))
              have HL5 := Lib.hid hl5
              have HLt := Lib.hid (((HA.out.take j (by omega)).below HB5.out).mono HB5.out.size)
              have s4 := fun wx => slice_h2 (some ⟨g, off, none⟩) len cap j wx (by omega)
              clear hs5 hl5 hb5 HBl HSc HYa s3
              go_wp2_with fail
              refine (refSame_eq HL5.out HLt.out (Nat.le_refl _)).mono ?_
              rintro e w6 ⟨rfl, hb6⟩
              have HB6 := Lib.hid (HB5.out.trans (hb6.mono HB5.out.size))
              clear hb6 HB5
              go_wp2
              go_ret
              exact ⟨rfl, HB6.out⟩

end Go.Proofs.Ytbdlcmpljhbebaa
