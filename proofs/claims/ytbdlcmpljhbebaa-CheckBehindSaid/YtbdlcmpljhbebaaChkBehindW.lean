/-
  The statement CheckBehind: its walk.
-/
import Derived.Test.YtbdlcmpljhbebaaChkR
set_option linter.unusedVariables false
namespace Go.Proofs.Ytbdlcmpljhbebaa
open Go.RowKit Bp Ck

/-- The first k lists are laid: all bytes at a. -/
structure LaidB (w0 w : World) (ls : List (List Nat)) (k : Nat) (a : Value) : Prop where
  all : w.ownsRow w0.heap.size 5 1 a (fln ls k) (bc (frs ls k).flatten)
  few : ∀ i, i < k → (ls.getD i []).length ≤ 1000
  below : Below w0.heap.size w0 w
theorem LaidB.later {w0 w w' : World} {ls : List (List Nat)} {k : Nat} {a : Value} (h : LaidB w0 w ls k a) (hb : Below w.heap.size w w') : LaidB w0 w' ls k a :=
  ⟨ownsRow_same h.all (fun k hk => hb.block k (h.all.lt k hk).2), h.few, h.below.trans (hb.mono h.below.size)⟩
theorem Scn.behind {b : List Nat} {fs : List (List Nat)} (h : Scn b fs) : Scn (b.drop fs.flatten.length) [] := by
  obtain ⟨r, e, hr⟩ := h.rest
  rw [e, List.drop_left]
  exact Scn.nil_of hr

set_option maxHeartbeats 2000000 in
theorem checkBehind_walk (bo : Option Addr) (lb cb : Nat) (f : Nat → Nat) (ao : Option Addr) (len cap : Nat) (ls : List (List Nat)) (w : World)
    (hQ : ArgIn (fun z : Nat => Value.int .u8 (z : Int)) w bo lb cb f) (hf : ∀ i, i < lb → f i ≤ 255) (hA : Bss w.heap.size w ao len cap ls) (hl : ls.length = len) :
    Calls Try.prog 11 #[.slice bo lb cb, .slice ao len cap] w fun e w' => e = .returned (.bool true) ∧ Below w.heap.size w w' := by
  obtain ⟨m, hm, hm1, hm2, hy⟩ := first_by hQ hf 20000
  have hle := hA.le
  have hmx := hA.max
  have hleb := hQ.le
  have hmxb := hQ.max
  unfold maxLen at hmx hmxb
  have HFew := Lib.hid fun W => few2_any bo lb cb m W hleb hmxb hm
  have HY := Lib.hid hy
  generalize listOf f m = zs at *
  have HA := Lib.hid hA
  have HL := Lib.hid hl
  clear hA hl hy hQ hf hm
  go_enter Try.func11, Try.ntmps11
  go_wp2_with fail
  refine (shown2_any _).mono ?_
  rintro e w1 ⟨rfl, hb1⟩
  have HB1 := Lib.hid hb1
  clear hb1
  go_wp2_with fail
  refine (HFew.out _).mono ?_
  rintro e w2 ⟨rfl, rfl⟩
  go_wp2_with fail
  refine (scan_any (HY.out.below HB1.out) HB1.out.size (by omega)).mono ?_
  rintro e w2 ⟨fs, A2, c2, rfl, hs2, hl2, hb2⟩
  have HL2 := Lib.hid hl2
  have HB2 := Lib.hid (HB1.out.trans (hb2.mono HB1.out.size))
  have hN : fs.flatten.length ≤ m := by have := hs2.flat_le; rw [HY.out.len] at this; exact this
  obtain ⟨N, hNe⟩ : ∃ N, N = fs.flatten.length := ⟨_, rfl⟩
  rw [← hNe] at hN ⊢
  have HNe := Lib.hid hNe
  have hbe := hs2.behind
  rw [← hNe] at hbe
  have HBe := Lib.hid hbe
  have HS2 := Lib.hid hs2
  have hyc := HY.out.le
  have HYc : Hid (By w.heap.size w2 (cutA bo N cb) (m - N) (cb - N) (zs.drop N)) := Lib.hid (by
    have := (HY.out.cut N m cb hN (Nat.le_refl _) hyc (Nat.le_refl _)).below HB2.out
    rw [List.take_of_length_le (by rw [List.length_drop, HY.out.len]; exact Nat.le_refl _)] at this
    exact this)
  have s1 := fun wx => slice_l bo m cb N wx hN
  have hlt0 : ¬ ((N : Int) < 0) := by omega
  have hlt1 : ¬ ((m : Int) < (N : Int)) := by omega
  clear hs2 hl2 hb2 hNe hbe HB1 HFew
  go_wp2_with fail
  refine (scan_any HYc.out HB2.out.size (by omega)).mono ?_
  rintro e w3 ⟨gs, A3, c3, rfl, hs3, hl3, hb3⟩
  obtain rfl := hs3.unique HBe.out
  have HL23 := Lib.hid (HL2.out.later hb3)
  have HB3 := Lib.hid (HB2.out.trans (hb3.mono HB2.out.size))
  clear hs3 hl3 hb3 HL2 HB2 HYc HBe s1 hlt0 hlt1
  go_wp2
  go_loopw [11, 12, 43] (fun av nv iv wr => ∃ (k : Nat), k ≤ len ∧ k ≤ 10 ∧ iv = .int .i64 (k : Int) ∧ nv = .int .i64 (k : Int) ∧ LaidB w3 wr ls k av) (fun _ _ iv _ => len - (intOf iv).toNat)
  case atStart => exact ⟨0, Nat.zero_le _, by omega, rfl, rfl, World.ownsRow_nil _ _ _ _, fun i hi => by omega, Below.refl _ _⟩
  case round =>
    obtain ⟨k, hk1, hk2, rfl, rfl, hlaid⟩ := hrel
    obtain ⟨aA, aC, hav⟩ := ownsRow_shape hlaid.all
    subst hav
    have HLd := Lib.hid hlaid
    have HBl := Lib.hid (HB3.out.trans (hlaid.below.mono HB3.out.size))
    have hsz := HBl.out.size
    clear hlaid
    have hfl := fln_le ls k (by rw [HL.out]; exact hk1) HLd.out.few
    have hkl0 : k ≤ ls.length := by rw [HL.out]; exact hk1
    obtain ⟨fk, hfk⟩ : ∃ fk, fk = fln ls k := ⟨_, rfl⟩
    rw [← hfk] at hfl ⊢
    have HFK := Lib.hid hfk
    clear hfk
    have HO : Hid (wr.ownsRow w3.heap.size 5 1 (.slice aA fk aC) fk (bc (frs ls k).flatten)) := Lib.hid (by rw [HFK.out]; exact HLd.out.all)
    by_cases hgo : k < len ∧ k < 10 ∧ (ls.getD k []).length ≤ 1000
    · obtain ⟨hg1, hg2, hg3⟩ := hgo
      obtain ⟨g, off, rfl, hg, hcell⟩ := (HA.out.below HBl.out).cell (by omega)
      obtain ⟨A', n', c', hc, hy⟩ := hcell k hg1
      have hn' := hy.len
      rw [hn'] at hg3
      have HYk := Lib.hid hy
      have HN := Lib.hid hn'
      have hyl := hy.le
      have hym := hy.max
      unfold maxLen at hym
      clear hcell hy hn'
      go_wp2_with fail
      refine (frame_ok HYk.out hsz hg3).mono ?_
      rintro e w4 ⟨gf, cf, rfl, hof, hbf⟩
      have HLd2 := Lib.hid (HLd.out.later hbf)
      have HYf := Lib.hid (By.own hof (frm_byte _ HYk.out.byte (by rw [HN.out]; omega)))
      have hsz2 := HLd2.out.below.size
      have HS : Hid (fln ls (k + 1) = fk + (n' + 4)) := Lib.hid (by rw [fln_succ ls k (by rw [HL.out]; exact hg1), HN.out, HFK.out])
      have HFS : Hid (frs ls (k + 1) = frs ls k ++ [frm (ls.getD k [])]) := Lib.hid (frs_succ ls k (by rw [HL.out]; exact hg1))
      have HO2 : Hid (w4.ownsRow w3.heap.size 5 1 (.slice aA fk aC) fk (bc (frs ls k).flatten)) := Lib.hid (by rw [HFK.out]; exact HLd2.out.all)
      clear hof hbf HO HBl
      go_wp2_with (at_builtin; refine app_by2 rfl _ _ rfl w3.heap.size _ fk _ rfl HO2.out w4.heap.size _ _ _ _ rfl HYf.out (by omega) hsz2 ?_)
      intro A5 c5 w5 ho5 hb5 _
      have HO5 := Lib.hid ho5
      have HB5 := Lib.hid (HLd2.out.below.trans hb5)
      clear ho5 hb5 HO2 HYf
      go_wp2
      go_roundw
      case rel =>
        refine ⟨k + 1, by omega, by omega, by go_num, by go_num, ?_, ?_, HB5.out⟩
        · rw [HS.out, HFS.out, List.flatten_append]
          simpa using HO5.out
        · intro i hi
          rcases Nat.lt_or_ge i k with h | h
          · exact HLd.out.few i h
          · have : i = k := by omega
            subst this
            rw [HN.out]; exact hg3
      case measure => simp [intOf]; omega
    · have hexit : k = len ∨ (k < len ∧ k = 10) ∨ (k < len ∧ k < 10 ∧ 1000 < (ls.getD k []).length) := by omega
      have hby := frs_byte ls k HLd.out.few (fun i hi => (by
        obtain ⟨g, off, _, _, hcell⟩ := HA.out.cell (by omega)
        obtain ⟨A', n', c', _, hy⟩ := hcell i (by omega)
        exact hy.byte)) hkl0
      have HYa := Lib.hid ((By.own HO.out hby).below ((Below.refl _ wr).alloc (Nat.le_refl _) (.cells #[] 5)))
      have HE0 : Hid ((wr.alloc (.cells #[] 5)).ownsRow wr.heap.size 5 1 (.slice (some ⟨wr.heap.size, 0, none⟩) 0 0) 0 (bc [])) := Lib.hid (World.ownsRow_made wr #[] 0 (Nat.le_refl _) (Nat.zero_le _) rfl)
      have HBy : Hid (∀ z ∈ (frs ls k).flatten ++ zs, z ≤ 255) := Lib.hid (fun z hz => by
        rcases List.mem_append.1 hz with x | x
        · exact hby z x
        · exact HY.out.byte z x)
      have HSc := Lib.hid (Scn.ahead (frs_each ls k HLd.out.few hkl0) HS2.out)
      have HLEN : Hid ((frs ls k ++ fs).length = k + fs.length) := Lib.hid (by rw [List.length_append, frs_len ls k hkl0])
      have HFLAT : Hid ((frs ls k ++ fs).flatten.length = fk + N) := Lib.hid (by rw [List.flatten_append, List.length_append, HNe.out, HFK.out]; rfl)
      have HMAP : Hid ((frs ls k ++ fs).map inn = ls.take k ++ fs.map inn) := Lib.hid (by rw [List.map_append, frs_inn])
      have HTL : Hid ((ls.take k).length = k) := Lib.hid (by rw [List.length_take]; omega)
      have HB3l := Lib.hid HLd.out.below
      clear hby
      rcases hexit with rfl | ⟨hx1, hx2⟩ | ⟨hx1, hx2, hx3⟩
      · clear HLd hgo
        go_wp2_with (at_builtin; refine app_by rfl _ _ rfl wr.heap.size _ 0 [] rfl HE0.out wr.heap.size _ _ _ _ rfl HYa.out (by omega) (by simp) ?_)
        intro v5 w5 ho5 hb5
        obtain ⟨A5, C5, hv5⟩ := ownsRow_shape ho5
        subst hv5
        have HO5 := Lib.hid ho5
        have HBr5 : Hid (Below wr.heap.size wr w5) := Lib.hid (((Below.refl _ wr).alloc (Nat.le_refl _) _).trans hb5)
        have hsz5 := HBr5.out.size
        have HYx := Lib.hid (HY.out.below (HBl.out.trans (HBr5.out.mono hsz)))
        clear ho5 hb5 HE0 HYa
        go_wp2_with (at_builtin; refine app_by rfl _ _ rfl wr.heap.size _ fk _ rfl HO5.out w.heap.size _ _ _ _ rfl HYx.out (by omega) hsz5 ?_)
        intro v6 w6 ho6 hb6
        obtain ⟨A6, C6, hv6⟩ := ownsRow_shape ho6
        subst hv6
        have HY6 := Lib.hid (By.own ho6 HBy.out)
        have HBr6 := Lib.hid (HBr5.out.trans hb6)
        clear ho6 hb6 HO5 HBr5 HYx
        go_wp2_with fail
        refine (scan_any HY6.out (Nat.le_refl _) (by omega)).mono ?_
        rintro e w7 ⟨hs, A7, c7, rfl, hs7, hl7, hb7⟩
        obtain rfl := hs7.unique HSc.out
        rw [HLEN.out, HMAP.out] at hl7
        rw [HLEN.out, HFLAT.out]
        have HBr7 := Lib.hid (HBr6.out.trans (hb7.mono HBr6.out.size))
        have HB7 := Lib.hid (HBl.out.trans (HBr7.out.mono hsz))
        have hc7 := hl7.le
        have hm7 := hl7.max
        unfold maxLen at hm7
        have b1 := hl7.take k (by omega)
        rw [List.take_left' HTL.out] at b1
        have b2 := hl7.cut k (by omega)
        rw [List.drop_left' HTL.out, show k + fs.length - k = fs.length by omega] at b2
        have b3 := ((HA.out.take k (by omega)).below HB7.out).mono HB7.out.size
        have b4 := (HL23.out.below (HB3l.out.trans (HBr7.out.mono (HB3l.out.size)))).mono (Nat.le_trans HB3l.out.size HBr7.out.size)
        have hdN : ∀ q, Below w7.heap.size w7 (w7.drewN q) := fun q => ⟨rfl, rfl, rfl, Nat.le_refl _, fun _ _ => rfl⟩
        have HS1 := Lib.hid fun (q : Nat) => refSame_quiet (b1.below (hdN q)) (b3.below (hdN q)) (Nat.le_refl _)
        have HS2 := Lib.hid fun (q : Nat) => refSame_quiet (b2.below (hdN q)) (b4.below (hdN q)) (Nat.le_refl _)
        have HDN := Lib.hid hdN
        clear hdN
        have t1 := fun wx => slice_h2 A7 (k + fs.length) c7 k wx (by omega)
        have t2 := fun wx => slice_h2 ao k cap k wx (by omega)
        have t3 : ∀ wx, (Instr.slice 49 (.slice A7 (k + fs.length) c7) (some (.int .i64 ((k : Nat) : Int))) none none).run Try.prog wx = .ok (.slice (cutA A7 k c7) fs.length (c7 - k)) wx := fun wx => by
          have := slice_l2 A7 (k + fs.length) c7 k wx (by omega)
          rw [show k + fs.length - k = fs.length by omega] at this
          exact this
        clear hs7 hl7 hb7 b1 b2 b3 b4 HY6 HBr6 HBr7 HBl HL23 HB3l
        generalize fs.length = fsl at *
        go_wp2
        go_quiet ((go_at_call 32; first | (with_reducible exact Calls.quiet_of (HS1.out _)) | (with_reducible exact Calls.quiet_of (HS2.out _))))
        go_wp2
        go_ret
        exact ⟨rfl, HB7.out.trans ((HDN.out _).mono HB7.out.size)⟩
      · have hx5 : 10 ≤ k := by omega
        clear HLd hgo hx2
        go_wp2_with (at_builtin; refine app_by rfl _ _ rfl wr.heap.size _ 0 [] rfl HE0.out wr.heap.size _ _ _ _ rfl HYa.out (by omega) (by simp) ?_)
        intro v5 w5 ho5 hb5
        obtain ⟨A5, C5, hv5⟩ := ownsRow_shape ho5
        subst hv5
        have HO5 := Lib.hid ho5
        have HBr5 : Hid (Below wr.heap.size wr w5) := Lib.hid (((Below.refl _ wr).alloc (Nat.le_refl _) _).trans hb5)
        have hsz5 := HBr5.out.size
        have HYx := Lib.hid (HY.out.below (HBl.out.trans (HBr5.out.mono hsz)))
        clear ho5 hb5 HE0 HYa
        go_wp2_with (at_builtin; refine app_by rfl _ _ rfl wr.heap.size _ fk _ rfl HO5.out w.heap.size _ _ _ _ rfl HYx.out (by omega) hsz5 ?_)
        intro v6 w6 ho6 hb6
        obtain ⟨A6, C6, hv6⟩ := ownsRow_shape ho6
        subst hv6
        have HY6 := Lib.hid (By.own ho6 HBy.out)
        have HBr6 := Lib.hid (HBr5.out.trans hb6)
        clear ho6 hb6 HO5 HBr5 HYx
        go_wp2_with fail
        refine (scan_any HY6.out (Nat.le_refl _) (by omega)).mono ?_
        rintro e w7 ⟨hs, A7, c7, rfl, hs7, hl7, hb7⟩
        obtain rfl := hs7.unique HSc.out
        rw [HLEN.out, HMAP.out] at hl7
        rw [HLEN.out, HFLAT.out]
        have HBr7 := Lib.hid (HBr6.out.trans (hb7.mono HBr6.out.size))
        have HB7 := Lib.hid (HBl.out.trans (HBr7.out.mono hsz))
        have hc7 := hl7.le
        have hm7 := hl7.max
        unfold maxLen at hm7
        have b1 := hl7.take k (by omega)
        rw [List.take_left' HTL.out] at b1
        have b2 := hl7.cut k (by omega)
        rw [List.drop_left' HTL.out, show k + fs.length - k = fs.length by omega] at b2
        have b3 := ((HA.out.take k (by omega)).below HB7.out).mono HB7.out.size
        have b4 := (HL23.out.below (HB3l.out.trans (HBr7.out.mono (HB3l.out.size)))).mono (Nat.le_trans HB3l.out.size HBr7.out.size)
        have hdN : ∀ q, Below w7.heap.size w7 (w7.drewN q) := fun q => ⟨rfl, rfl, rfl, Nat.le_refl _, fun _ _ => rfl⟩
        have HS1 := Lib.hid fun (q : Nat) => refSame_quiet (b1.below (hdN q)) (b3.below (hdN q)) (Nat.le_refl _)
        have HS2 := Lib.hid fun (q : Nat) => refSame_quiet (b2.below (hdN q)) (b4.below (hdN q)) (Nat.le_refl _)
        have HDN := Lib.hid hdN
        clear hdN
        have t1 := fun wx => slice_h2 A7 (k + fs.length) c7 k wx (by omega)
        have t2 := fun wx => slice_h2 ao len cap k wx (by omega)
        have t3 : ∀ wx, (Instr.slice 49 (.slice A7 (k + fs.length) c7) (some (.int .i64 ((k : Nat) : Int))) none none).run Try.prog wx = .ok (.slice (cutA A7 k c7) fs.length (c7 - k)) wx := fun wx => by
          have := slice_l2 A7 (k + fs.length) c7 k wx (by omega)
          rw [show k + fs.length - k = fs.length by omega] at this
          exact this
        clear hs7 hl7 hb7 b1 b2 b3 b4 HY6 HBr6 HBr7 HBl HL23 HB3l
        generalize fs.length = fsl at *
        go_wp2
        go_quiet ((go_at_call 32; first | (with_reducible exact Calls.quiet_of (HS1.out _)) | (with_reducible exact Calls.quiet_of (HS2.out _))))
        go_wp2
        go_ret
        exact ⟨rfl, HB7.out.trans ((HDN.out _).mono HB7.out.size)⟩
      · obtain ⟨g, off, hao, hg, hcell⟩ := (HA.out.below HBl.out).cell (by omega)
        obtain ⟨A', n', c', hc, hy⟩ := hcell k hx1
        have hn' := hy.len
        have hyl := hy.le
        have hym := hy.max
        unfold maxLen at hym
        rw [hn'] at hx3
        subst hao
        clear hcell hy hn' HLd hgo
        go_wp2_with (at_builtin; refine app_by rfl _ _ rfl wr.heap.size _ 0 [] rfl HE0.out wr.heap.size _ _ _ _ rfl HYa.out (by omega) (by simp) ?_)
        intro v5 w5 ho5 hb5
        obtain ⟨A5, C5, hv5⟩ := ownsRow_shape ho5
        subst hv5
        have HO5 := Lib.hid ho5
        have HBr5 : Hid (Below wr.heap.size wr w5) := Lib.hid (((Below.refl _ wr).alloc (Nat.le_refl _) _).trans hb5)
        have hsz5 := HBr5.out.size
        have HYx := Lib.hid (HY.out.below (HBl.out.trans (HBr5.out.mono hsz)))
        clear ho5 hb5 HE0 HYa
        go_wp2_with (at_builtin; refine app_by rfl _ _ rfl wr.heap.size _ fk _ rfl HO5.out w.heap.size _ _ _ _ rfl HYx.out (by omega) hsz5 ?_)
        intro v6 w6 ho6 hb6
        obtain ⟨A6, C6, hv6⟩ := ownsRow_shape ho6
        subst hv6
        have HY6 := Lib.hid (By.own ho6 HBy.out)
        have HBr6 := Lib.hid (HBr5.out.trans hb6)
        clear ho6 hb6 HO5 HBr5 HYx
        go_wp2_with fail
        refine (scan_any HY6.out (Nat.le_refl _) (by omega)).mono ?_
        rintro e w7 ⟨hs, A7, c7, rfl, hs7, hl7, hb7⟩
        obtain rfl := hs7.unique HSc.out
        rw [HLEN.out, HMAP.out] at hl7
        rw [HLEN.out, HFLAT.out]
        have HBr7 := Lib.hid (HBr6.out.trans (hb7.mono HBr6.out.size))
        have HB7 := Lib.hid (HBl.out.trans (HBr7.out.mono hsz))
        have hc7 := hl7.le
        have hm7 := hl7.max
        unfold maxLen at hm7
        have b1 := hl7.take k (by omega)
        rw [List.take_left' HTL.out] at b1
        have b2 := hl7.cut k (by omega)
        rw [List.drop_left' HTL.out, show k + fs.length - k = fs.length by omega] at b2
        have b3 := ((HA.out.take k (by omega)).below HB7.out).mono HB7.out.size
        have b4 := (HL23.out.below (HB3l.out.trans (HBr7.out.mono (HB3l.out.size)))).mono (Nat.le_trans HB3l.out.size HBr7.out.size)
        have hdN : ∀ q, Below w7.heap.size w7 (w7.drewN q) := fun q => ⟨rfl, rfl, rfl, Nat.le_refl _, fun _ _ => rfl⟩
        have HS1 := Lib.hid fun (q : Nat) => refSame_quiet (b1.below (hdN q)) (b3.below (hdN q)) (Nat.le_refl _)
        have HS2 := Lib.hid fun (q : Nat) => refSame_quiet (b2.below (hdN q)) (b4.below (hdN q)) (Nat.le_refl _)
        have HDN := Lib.hid hdN
        clear hdN
        have t1 := fun wx => slice_h2 A7 (k + fs.length) c7 k wx (by omega)
        have t2 := fun wx => slice_h2 (some ⟨g, off, none⟩) len cap k wx (by omega)
        have t3 : ∀ wx, (Instr.slice 49 (.slice A7 (k + fs.length) c7) (some (.int .i64 ((k : Nat) : Int))) none none).run Try.prog wx = .ok (.slice (cutA A7 k c7) fs.length (c7 - k)) wx := fun wx => by
          have := slice_l2 A7 (k + fs.length) c7 k wx (by omega)
          rw [show k + fs.length - k = fs.length by omega] at this
          exact this
        clear hs7 hl7 hb7 b1 b2 b3 b4 HY6 HBr6 HBr7 HBl HL23 HB3l
        generalize fs.length = fsl at *
        go_wp2
        go_quiet ((go_at_call 32; first | (with_reducible exact Calls.quiet_of (HS1.out _)) | (with_reducible exact Calls.quiet_of (HS2.out _))))
        go_wp2
        go_ret
        exact ⟨rfl, HB7.out.trans ((HDN.out _).mono HB7.out.size)⟩

end Go.Proofs.Ytbdlcmpljhbebaa
