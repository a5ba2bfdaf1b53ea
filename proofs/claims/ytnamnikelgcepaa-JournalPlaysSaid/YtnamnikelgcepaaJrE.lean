/-
  Layer 16: the document's examples.
-/
import Derived.Test.YtnamnikelgcepaaJrD
import Derived.Lib.SlBytesConst
set_option linter.unusedVariables false
set_option maxRecDepth 100000
namespace Go.Proofs.Ytnamnikelgcepaa
namespace Jr
open Go.RowKit Go.Maps Bp Ck
open Dk (D DAt DF op kp pwE apE apD syD cuE cuD IW crN crD)

theorem lit1 (w : World) (z : Nat) (hz : z ≤ 255) (fz : Nat × Nat) : By (w.alloc (.cells #[.int .u8 (z : Int)] 5 fz)).heap.size (w.alloc (.cells #[.int .u8 (z : Int)] 5 fz)) (some ⟨w.heap.size, 0, none⟩) 1 1 [z] := by
  have := lit_by w [z] fz (by simp) (by intro y hy; rw [List.mem_singleton.1 hy]; exact hz)
  have e : (w.alloc (.cells #[.int .u8 (z : Int)] 5 fz)).heap.size = w.heap.size + 1 := by simp
  rw [e]
  exact this
theorem belowJ {w w' w0 : World} {base j g B n : Nat} {v v' : Value} {d : D} (h : JAt w base j g v d n) (ht : Turn (JF j g v) (JF j g v') w w') (hb : Below B w0 w) (hB : B ≤ w0.heap.size) (hB2 : B ≤ base) : Below B w0 w' :=
  hb.trans (ht.below B (Nat.le_trans hB hb.size) (fun k hk => Nat.le_trans hB2 (h.blocks k hk).1))
theorem belowD {w w' w0 : World} {base g B : Nat} {v v' : Value} {d : D} (h : DAt w base g v d) (ht : Turn (DF g v) (DF g v') w w') (hb : Below B w0 w) (hB : B ≤ w0.heap.size) (hB2 : B ≤ base) : Below B w0 w' :=
  hb.trans (ht.below B (Nat.le_trans hB hb.size) (fun k hk => Nat.le_trans hB2 (h.blocks k hk).1))
set_option maxHeartbeats 2000000 in
theorem shown16_any (w : World) : Calls Try.prog 8 #[] w fun e w' => e = .returned (.bool true) ∧ Below w.heap.size w w' := by
  have HC := Lib.hid (Dk.new_any w)
  have kc := fun (W : World) (C : Array Value) (n c : Nat) => Lib.run_convert_bytes_const (P := Try.prog) W 22 5 C n c Try.underlying22 Try.underlying5
  obtain ⟨dz, hdz⟩ : ∃ dz, dz = Dk.d0 := ⟨_, rfl⟩
  have HSZ : Hid (Hs dz [] 0) := Lib.hid (by rw [hdz]; exact hs_new)
  have HLZ : Hid (Live dz) := Lib.hid (by rw [hdz]; exact live_new)
  rw [← hdz] at HC
  clear hdz
  go_enter Try.func8, Try.ntmps8
  go_wp2_with fail
  refine HC.out.mono ?_
  rintro e w1 ⟨rfl, hn1, hb1⟩
  obtain ⟨g, hg⟩ : ∃ g, g = w.heap.size := ⟨_, rfl⟩
  have HG : Hid (w.heap.size ≤ g) := Lib.hid (by omega)
  rw [← hg] at hn1 ⊢
  clear hg HC
  have HB1 := Lib.hid hb1
  have HN1 := Lib.hid hn1
  have HO := Lib.hid (Open_any hn1 HLZ.out.1 HLZ.out.2)
  clear hb1 hn1
  go_wp2_with fail
  refine HO.out.mono ?_
  rintro e w2 ⟨j, A, c, v2, rfl, hj2, -, ht2, -, -⟩
  obtain ⟨hf, hs2⟩ := HSZ.out.opened
  have hf0 : (fr dz.s).length = 0 := by rw [hf]; rfl
  rw [hf0] at hj2 ⊢
  have HB2 := Lib.hid (belowD HN1.out ht2 HB1.out (Nat.le_refl _) HG.out)
  have HS2 := Lib.hid hs2
  have HL2 : Hid (Live (kp dz (wl dz.s))) := Lib.hid HLZ.out
  have HJ2 := Lib.hid hj2
  clear hj2 ht2 hf hf0 hs2 HO HN1 HB1 HSZ HLZ
  generalize kp dz (wl dz.s) = dA at *
  have e1 : noE dA [97] = 0 := by rw [HS2.out.noE (by simp), if_neg (by simp), if_neg (by rw [live_op HL2.out, HL2.out.1]; simp)]
  have HS3 := Lib.hid (HS2.out.note (zs := [97]) (by intro y hy; rw [List.mem_singleton.1 hy]; omega) e1)
  have HL3 := Lib.hid (live_no HL2.out [97])
  have hA := (Below.refl w2.heap.size w2).alloc (Nat.le_refl _) (.cells #[.int .u8 97] 5 (1, 2))
  have HJA := Lib.hid (HJ2.out.later hA)
  have HBA := Lib.hid (HB2.out.trans (hA.mono HB2.out.size))
  have HN := Lib.hid (Note_any HJA.out (by omega) (some ⟨w2.heap.size, 0, none⟩) 1 1 [97] (lit1 w2 97 (by omega) (1, 2)))
  rw [e1, if_pos rfl] at HN
  clear hA e1 HJ2 HB2 HS2 HL2
  generalize noD dA [97] = dB at *
  go_wp2_with fail
  generalize w2.alloc (.cells #[.int .u8 97] 5 (1, 2)) = wA at *
  generalize w2.heap.size = kA at *
  refine HN.out.mono ?_
  rintro e w3 ⟨v3, rfl, hj3, ht3⟩
  have HJ3 := Lib.hid hj3
  have HB3 := Lib.hid (belowJ HJA.out ht3 HBA.out (Nat.le_refl _) HG.out)
  have hsy := live_pw HL3.out
  have HY := Lib.hid (Sync_any hj3)
  rw [hsy] at HY
  have HS4 := Lib.hid (HS3.out.sync (by rw [live_op HL3.out]; exact HL3.out.1))
  have HL4 := Lib.hid (live_sy HL3.out)
  clear hj3 ht3 HN HJA HBA HS3 HL3 hsy
  generalize syD dB = dC at *
  go_wp2_with fail
  refine HY.out.mono ?_
  rintro e w4 ⟨v4, rfl, hj4, ht4⟩
  have hb4 := belowJ HJ3.out ht4 HB3.out (Nat.le_refl _) HG.out
  have hA := (Below.refl w4.heap.size w4).alloc (Nat.le_refl _) (.cells #[.int .u8 98] 5 (1, 2))
  have HJA := Lib.hid (hj4.later hA)
  have HBA := Lib.hid (hb4.trans (hA.mono hb4.size))
  have e1 : noE dC [98] = 0 := by rw [HS4.out.noE (by simp), if_neg (by simp), if_neg (by rw [live_op HL4.out, HL4.out.1]; simp)]
  have HS5 := Lib.hid (HS4.out.note (zs := [98]) (by intro y hy; rw [List.mem_singleton.1 hy]; omega) e1)
  have HL5 := Lib.hid (live_no HL4.out [98])
  have HN := Lib.hid (Note_any HJA.out (by omega) (some ⟨w4.heap.size, 0, none⟩) 1 1 [98] (lit1 w4 98 (by omega) (1, 2)))
  rw [e1, if_pos rfl] at HN
  clear hj4 ht4 hb4 hA e1 HY HJ3 HB3 HS4 HL4
  generalize noD dC [98] = dE at *
  go_wp2_with fail
  generalize w4.alloc (.cells #[.int .u8 98] 5 (1, 2)) = wB at *
  generalize w4.heap.size = kB at *
  refine HN.out.mono ?_
  rintro e w5 ⟨v5, rfl, hj5, ht5⟩
  have HD5 := Lib.hid hj5.disk
  have HB5 := Lib.hid (belowJ HJA.out ht5 HBA.out (Nat.le_refl _) HG.out)
  have HCr := Lib.hid (Dk.Crash_any hj5.disk 3)
  obtain ⟨i, i1, i2, i3, i4, i5⟩ := HS5.out.crash hj5.disk.le 3
  have hi : i = 1 := by
    have h1 : dE.safe = 5 := by rw [HS5.out.safe]; decide +kernel
    have h2 : dE.s.size = 10 := by rw [HS5.out.size]; decide +kernel
    have h3 : crN dE 3 = 8 := by unfold crN; rw [h1, h2]; rfl
    have h4 : fln ([] ++ [[97]] ++ [[98]]) 2 = 10 := by decide +kernel
    have h5 : ([] ++ [[97]] ++ [[98]] : List (List Nat)).length = 2 := rfl
    have h6 : ([] ++ [[97]] : List (List Nat)).length = 1 := rfl
    rw [h5] at i2
    rw [h6] at i1
    rw [h3] at i5
    rcases (by omega : i = 1 ∨ i = 2) with rfl | rfl
    · rfl
    · omega
  subst hi
  have HF5 : Hid (fr (crD dE 3).s = [frm [97]]) := Lib.hid i3
  have HS6 : Hid (Hs (kp (crD dE 3) (wl (crD dE 3).s)) [[97]] 1) := Lib.hid i4
  clear hj5 ht5 HN HJA HBA HS5 HL5 i1 i2 i3 i4 i5
  have HL6 := Lib.hid (live_cr dE 3)
  generalize crD dE 3 = dF at *
  go_wp2_with fail
  refine HCr.out.mono ?_
  rintro e w6 ⟨v6, rfl, hn6, ht6⟩
  have HN6 := Lib.hid hn6
  have HB6 := Lib.hid (belowD HD5.out ht6 HB5.out (Nat.le_refl _) HG.out)
  have HO := Lib.hid (Open_any hn6 HL6.out.1 HL6.out.2)
  clear hn6 ht6 HCr HD5 HB5
  go_wp2_with fail
  refine HO.out.mono ?_
  rintro e w7 ⟨j7, A7, c7, v7, rfl, hj7, hl7, ht7, -, -⟩
  rw [HF5.out] at hl7 ⊢
  have HB7 := Lib.hid (belowD HN6.out ht7 HB6.out (Nat.le_refl _) HG.out)
  have HL7 : Hid (Bss w7.heap.size w7 A7 1 c7 [[97]]) := Lib.hid (by have := hl7; simpa [inn_frm] using this)
  have HRd := Lib.hid (Dk.Read_any hj7.disk)
  have e1 : Dk.rdS (kp dF (wl dF.s)) = (kp dF (wl dF.s)).s := by unfold Dk.rdS; rw [if_neg (by show ¬ dF.dead = true; rw [HL6.out.1]; simp)]
  have e2 : (kp dF (wl dF.s)).s.size = 5 := by rw [HS6.out.size]; decide +kernel
  have e3 : pwE (kp dF (wl dF.s)) = 0 := Dk.pw_on HL6.out.1
  unfold Dk.ReadTold at HRd
  rw [e1, e2, e3] at HRd
  clear hj7 hl7 ht7 e1 e2 e3 HO HN6 HB6 HF5 HS6 HL6
  generalize (kp dF (wl dF.s)).s = s7 at *
  go_wp2_with fail
  refine HRd.out.mono ?_
  rintro e w8 ⟨A8, c8, rfl, -, hb8⟩
  have HB8 := Lib.hid (HB7.out.trans (hb8.mono HB7.out.size))
  have hl8 := HL7.out.below hb8
  obtain ⟨g9, o9, rfl, _, hc9⟩ := hl8.cell (by omega)
  obtain ⟨A9, n9, c9, k9, y9⟩ := hc9 0 (by omega)
  have q9 : (convert 22 9 (.slice A9 n9 c9)).run Try.prog w8 = .ok (.string { data := #[97] }) w8 := y9.conv
  rw [Nat.add_zero] at k9
  have hle8 := hl8.le
  clear hb8 hl8 hc9 y9 HRd HL7 HB7
  go_wp2_with fail
  go_ret
  exact ⟨rfl, HB8.out⟩
end Jr
end Go.Proofs.Ytnamnikelgcepaa
