/-
  The statement LinkOnce: its walk.
-/
import Derived.Test.YtjjaomnlkpdeeaaLnP
import Derived.Deep.CutBlock
import Derived.Deep.CutRange
import Derived.Deep.DeepCutAuto
set_option linter.unusedVariables false
set_option maxRecDepth 100000
namespace Go.Proofs.Ytjjaomnlkpdeeaa
namespace Ln
open Go.RowKit Bp Ck
theorem cut_end {w wz : World} {a : Ad} {k : Nat} {z' : Zu} {tv : Value} (h : Hid (On w wz a z' ∧ Pl k z')) (e : tv = z'.vT) : ∃ z' : Zu, tv = z'.vT ∧ Hid (On w wz a z' ∧ Pl k z') := ⟨z', e, h⟩
theorem told_w {w W : World} {s told : Nat} {v : Value} {pk : List Nat} (hb : Below w.heap.size w W) (h : SAt w s v told pk) : Calls Try.prog 27 #[.pointer (some ⟨s, 0, none⟩)] W fun e w' => e = .returned (.int .u64 (told : Int)) ∧ W = w' := told_any (h.later hb)
theorem heard_w {w W : World} {r heard : Nat} (hb : Below w.heap.size w W) (h : RAt w r heard) : Calls Try.prog 28 #[.pointer (some ⟨r, 0, none⟩)] W fun e w' => e = .returned (.int .u64 (heard : Int)) ∧ W = w' := heard_any (h.later hb)
theorem bat_take {H T : List ByteArray} {q : Nat} (h : H = T.take H.length) (hq : q < H.length) : Nw.bat H q = Nw.bat T q := by
  have e : H[q]? = T[q]? := by
    conv => lhs; rw [h]
    rw [List.getElem?_take, if_pos hq]
  unfold Nw.bat
  rw [List.getD, List.getD, e]
theorem step_cells {w : World} {R : Nat} {x y z : Value} {t : TypeId} (h : w.heap[R]? = some (.cells #[x, y, z] t (0, 0))) : w.cell? ⟨R, 0, none⟩ = some x ∧ w.cell? ⟨R, 1, none⟩ = some y ∧ w.cell? ⟨R, 2, none⟩ = some z :=
  ⟨by rw [cell_of_row _ R 0 _ _ _ h]; rfl, by rw [cell_of_row _ R 1 _ _ _ h]; rfl, by rw [cell_of_row _ R 2 _ _ _ h]; rfl⟩
theorem packet_none' {w : World} {s told : Nat} {v : Value} (h : SAt w s v told []) : Calls Try.prog 19 #[.pointer (some ⟨s, 0, none⟩)] w fun e w' => ∃ A c, e = .returned (.tuple #[.slice A 0 c, .bool false]) ∧ Below w.heap.size w w' := by
  refine (packet_any h).mono ?_
  rintro e w' ⟨A, c, he, ho, hb⟩
  exact ⟨A, c, he, hb⟩
theorem gt_mem {L : List ByteArray} {i : Int} (h : Nw.isA L.length i = true) : Nw.gtA L i ∈ L := by
  have h2 : 0 ≤ i ∧ i < (L.length : Int) := of_decide_eq_true h
  unfold Nw.gtA
  rw [if_pos h]
  exact Nw.bat_mem (by omega)
theorem he_yes {told : Nat} {pk zs : List Nat} {heard k : Nat} {T H : List ByteArray} (h : heB told pk zs = true) (hf : Fro heard (strOf zs)) (hb : ∀ z ∈ zs, z ≤ 255) (hT : T.length ≤ k) (hk : k ≤ 200) (hH : H.length ≤ T.length) (hh : heard = H.length) (hg : pk ≠ [] → told + 2 < 18446744073709551616) : pk ≠ [] ∧ told < heard := by
  unfold heB at h
  simp only [Bool.and_eq_true, decide_eq_true_eq] at h
  obtain ⟨h1, rfl⟩ := h
  obtain ⟨q, e, hq⟩ := hf
  have o1 : Ok true (q + 1) [] := ok_heard (by omega)
  have e2 := strOf_inj hb o1.play_byte e
  have : told = q := by
    have := play_inj (ok_heard (hg h1)) o1 e2
    omega
  exact ⟨h1, by omega⟩
set_option maxHeartbeats 8000000 in
theorem linkOnce_walk (A : Option Addr) (n cap : Nat) (f : Nat → S14) (w : World) (h : Stp w.heap.size w A n cap f) (_ : True) :
    Calls Try.prog 7 #[.slice A n cap] w fun e w' => e = .returned (.bool true) ∧ Below w.heap.size w w' := by
  have HA := Lib.hid h
  have hle := h.le
  have hmx := h.max
  unfold maxLen at hmx
  have HS := Lib.hid (shown14_any w)
  clear h
  go_enter Try.func7, Try.ntmps7
  go_wp2_with fail
  refine HS.out.mono ?_
  rintro e w1 ⟨rfl, hb1⟩
  have HB1 := Lib.hid hb1
  clear hb1 HS
  go_wp2_with fail
  refine (newSender_any 0 _).mono ?_
  rintro e wa ⟨rfl, rfl⟩
  go_wp2_with fail
  refine (newReceiver_any 0 _).mono ?_
  rintro e wb ⟨rfl, rfl⟩
  have hbn := both_new w1 0 0 (by decide) (by decide) _ rfl
  generalize hW : (w1.alloc (.cells #[.int .u64 ((0 : Nat) : Int), .slice none 0 0] 97)).alloc (.cells #[.int .u64 ((0 : Nat) : Int)] 99) = w2 at hbn ⊢
  have e1 : (w1.alloc (.cells #[.int .u64 0, .slice none 0 0] 97)).heap.size = w1.heap.size + 1 := by simp
  rw [e1]
  obtain ⟨hs2, hr2, hb2, hz2⟩ := hbn
  have HS2 := Lib.hid hs2
  have HR2 := Lib.hid hr2
  have HB2 := Lib.hid (HB1.out.trans (hb2.mono HB1.out.size))
  have hsz := HB1.out.size
  obtain ⟨s, hs⟩ : ∃ s, s = w1.heap.size := ⟨_, rfl⟩
  obtain ⟨r, hr⟩ : ∃ r, r = w1.heap.size + 1 := ⟨_, rfl⟩
  rw [← hr] at HR2
  rw [← hs] at HS2
  rw [← hr, ← hs]
  have HSR : Hid (w.heap.size ≤ s ∧ w.heap.size ≤ r) := Lib.hid ⟨by omega, by omega⟩
  clear hs2 hr2 hb2 hz2 hs hr e1 hW hsz HB1
  go_wp2_with fail
  obtain ⟨w3, hw3⟩ : ∃ w3, w3 = w2.alloc (.cells #[.pointer (some ⟨r, 0, none⟩)] 39) := ⟨_, rfl⟩
  rw [← hw3]
  have HW3 := Lib.hid hw3
  have c5a := cell_at (show w3.heap[w2.heap.size]? = some (.cells #[.pointer (some ⟨r, 0, none⟩)] 39 (0, 0)) by rw [hw3]; exact heap_alloc_new w2 _)
  have hl3 : w2.heap.size < w3.heap.size := by rw [hw3]; simp
  clear hw3
  refine (Nw.new_any w3).mono ?_
  rintro e w4 ⟨rfl, hn4, hb4⟩
  have HN4 := Lib.hid hn4
  have HB4 := Lib.hid hb4
  clear hn4 hb4
  go_wp2_with fail
  refine (Nw.new_any w4).mono ?_
  rintro e w5 ⟨rfl, hn5, hb5⟩
  have HN5 := Lib.hid hn5
  have HB5 := Lib.hid hb5
  have c5 := (hb5.cell (p := ⟨w2.heap.size, 0, none⟩) (by have := HB4.out.size; show w2.heap.size < w4.heap.size; omega)).trans ((HB4.out.cell (p := ⟨w2.heap.size, 0, none⟩) hl3).trans c5a.1)
  have c5b : (w5.alloc (.cells #[.pointer (some ⟨w4.heap.size, 0, none⟩)] 59)).cell? ⟨w2.heap.size, 0, none⟩ = some (.pointer (some ⟨r, 0, none⟩)) := by
    rw [World.cell?_alloc_lt _ _ _ (by have := HB4.out.size; have := hb5.size; show w2.heap.size < w5.heap.size; omega)]; exact c5
  clear hn5 hb5 c5a c5
  go_wp2_with fail
  have hon := on_start (w0 := w) HS2.out HR2.out HSR.out HB2.out HW3.out HN4.out HB4.out HN5.out HB5.out (w6 := w5.alloc (.cells #[.pointer (some ⟨w4.heap.size, 0, none⟩)] 59)) rfl (w7 := (w5.alloc (.cells #[.pointer (some ⟨w4.heap.size, 0, none⟩)] 59)).alloc (.cells #[.slice none 0 0] 61)) rfl
  have e6 : (w5.alloc (.cells #[.pointer (some ⟨w4.heap.size, 0, none⟩)] 59)).heap.size = w5.heap.size + 1 := by simp
  rw [e6] at hon
  have HON := Lib.hid hon
  clear HS2 HR2 HSR HB2 HW3 HN4 HB4 HN5 HB5 hon e6 c5b hl3
  generalize (w5.alloc (.cells #[.pointer (some ⟨w4.heap.size, 0, none⟩)] 59)).alloc (.cells #[.slice none 0 0] 61) = w7 at *
  generalize w3.heap.size = g1 at *
  generalize w4.heap.size = g2 at *
  generalize w2.heap.size = b5 at *
  generalize w5.heap.size = b7 at *
  generalize b7 + 1 = b9 at *
  go_loopw [8, 42] (fun tv iv wr => ∃ (k : Nat) (z : Zu), k ≤ n ∧ k ≤ 200 ∧ iv = .int .i64 (k : Int) ∧ tv = z.vT ∧ Hid (On w wr ⟨s, r, g1, g2, b5, b7, b9⟩ z ∧ Pl k z)) (fun _ iv _ => n - (intOf iv).toNat)
  case atStart => exact ⟨0, z0, Nat.zero_le _, Nat.zero_le _, rfl, rfl, Lib.hid ⟨HON.out, pl_start⟩⟩
  case round =>
    obtain ⟨k, z, hk, hk200, rfl, rfl, HZ⟩ := hrel
    clear HON
    by_cases hlt : k < n
    · obtain ⟨g, off, rfl, hg, hc⟩ := HA.out.cell (by omega)
      obtain ⟨p0, ⟨A1, n1, c1, p1, hy⟩, p2⟩ := hc k hlt
      have q0 := (HZ.out.1.below.cell (p := ⟨g, off + k * 3, none⟩) hg).trans p0
      have q1 := (HZ.out.1.below.cell (p := ⟨g, off + k * 3 + 1, none⟩) hg).trans p1
      have q2 := (HZ.out.1.below.cell (p := ⟨g, off + k * 3 + 2, none⟩) hg).trans p2
      have hfit := HA.out.fits k hlt
      have HYW := Lib.hid hy
      have hn1 := hy.le
      have hc1 := hy.max
      unfold maxLen at hc1
      clear hc hy p0 p1 p2
      generalize f k = fk at *
      obtain ⟨kd, d, at_⟩ := fk
      simp only at q0 q1 q2 hfit HYW
      obtain ⟨mm, hmm, hmm1, hmm2⟩ : ∃ mm : Nat, min (n1 : Int) 200 = (mm : Int) ∧ mm ≤ 200 ∧ mm ≤ n1 := ⟨min n1 200, by omega, by omega, by omega⟩
      have s1 := fun wx => slice_h A1 n1 c1 mm wx (by omega)
      have HBX := Lib.hid (heap_alloc_new wr (.cells #[.int .u8 (kd : Int), .slice A1 n1 c1, .int .i64 at_] 64))
      have HX := Lib.hid (⟨HZ.out.1.later ((Below.refl _ _).alloc (Nat.le_refl _) _), HZ.out.2⟩ : On w (wr.alloc (.cells #[.int .u8 (kd : Int), .slice A1 n1 c1, .int .i64 at_] 64)) ⟨s, r, g1, g2, b5, b7, b9⟩ z ∧ Pl k z)
      have HSL : Hid (s < wr.heap.size) := Lib.hid (HZ.out.1.sat.lt s (.inl rfl))
      obtain ⟨c7, -⟩ := cell_at HX.out.1.x7
      obtain ⟨m8, hm8, hm8b, hm9⟩ : ∃ m8 : Nat, (kd : Int).tmod 8 = (m8 : Int) ∧ (kd : Int) % 8 = (m8 : Int) ∧ m8 < 8 := ⟨kd % 8, by rw [Int.tmod_eq_emod_of_nonneg (by omega)]; omega, by omega, Nat.mod_lt _ (by omega)⟩
      by_cases h200 : k = 200
      · subst h200
        go_wp2_with fail
        go_ret
        exact ⟨rfl, HX.out.1.below⟩
      · have d200 : decide ((200 : Int) ≤ (k : Int)) = false := decide_eq_false (by omega)
        go_upto_block 2 with fail
        go_cut [8] (fun tv wz => ∃ z' : Zu, tv = z'.vT ∧ Hid (On w wz ⟨s, r, g1, g2, b5, b7, b9⟩ z' ∧ Pl (k + 1) z'))
        case first =>
          obtain rfl | rfl | rfl | rfl | rfl | rfl | rfl | rfl : m8 = 0 ∨ m8 = 1 ∨ m8 = 2 ∨ m8 = 3 ∨ m8 = 4 ∨ m8 = 5 ∨ m8 = 6 ∨ m8 = 7 := by omega
          · by_cases hpk : z.pk = []
            · have hsat := HX.out.1.sat
              rw [hpk] at hsat
              have htl : z.told ≤ 200 := by
                have := HX.out.2.len
                rw [if_pos hpk] at this
                have := HX.out.2.few
                omega
              have hbt := HYW.out.take mm hmm2
              have HT := Lib.hid (tell_new hsat (by omega) (hbt.below HX.out.1.below) HX.out.1.below.size hmm1)
              have hok := ok_told (told := z.told) (d := d.take mm) (by omega) (by rw [hbt.len]; exact hmm1) hbt.byte
              have HOK := Lib.hid hok
              have HBT := Lib.hid hbt
              clear hsat hbt hok
              go_wp2_with fail
              refine HT.out.mono ?_
              rintro e w8 ⟨v8, rfl, hs8, ht8, hf8⟩
              have hb8 : (wr.alloc (.cells #[.int .u8 (kd : Int), .slice A1 n1 c1, .int .i64 at_] 64)).heap.size ≤ w8.heap.size := ht8.size
              have HO8 := Lib.hid (HX.out.1.sender hs8 ht8 hf8)
              have hx8 : w8.heap[wr.heap.size]? = _ := (ht8.block _ (lt_of_heap HBX.out) (fun e => by have e2 : wr.heap.size = s := e; have := HSL.out; omega)).trans HBX.out
              obtain ⟨u0, u1, u2⟩ := step_cells hx8
              have kc := (HBT.out.below HO8.out.below).conv
              have hb9 : Below w8.heap.size w8 (w8.alloc (.cells #[.string (strOf (d.take mm))] 9)) := (Below.refl _ _).alloc (Nat.le_refl _) _
              have HO9 := Lib.hid (HO8.out.later hb9)
              have HSG := Lib.hid (Nw.Sg.one w8 (strOf (d.take mm)))
              have hTl : z.T.length ≤ 300 := by have := HX.out.2.few; omega
              clear hs8 ht8 hf8 hb8 hx8 hb9 HT
              go_wp2_with (at_builtin; refine Nw.app_strs rfl _ _ rfl w.heap.size z.vT z.T rfl HO9.out.st (some ⟨w8.heap.size, 0, none⟩) 1 1 [strOf (d.take mm)] rfl HSG.out (by omega) HO9.out.below.size ?_; intro A3 n3 c3 w10 hn3 hsw3 hb3 hg3 hx3; have HO10 := Lib.hid (HO9.out.tells hsw3 hb3 hg3 hx3); clear hn3 hsw3 hb3 hg3 hx3)
              go_meet
              exact cut_end (Lib.hid ⟨HO10.out, HX.out.2.tell hpk HOK.out _ _⟩) rfl
            · have HT := Lib.hid (tell_there (A := A1) (n := mm) (c := c1) HX.out.1.sat hpk)
              go_wp2_with fail
              refine HT.out.mono ?_
              rintro e w8 ⟨rfl, rfl⟩
              clear HT
              go_wp2_with fail
              go_meet
              exact cut_end (Lib.hid ⟨HX.out.1, HX.out.2.more⟩) rfl
          · by_cases hpk : z.pk = []
            · have hsat := HX.out.1.sat
              rw [hpk] at hsat
              have HT := Lib.hid (packet_none' hsat)
              clear hsat
              go_wp2_with fail
              refine HT.out.mono ?_
              rintro e w8 ⟨A8, c8, rfl, hb8⟩
              have HO8 := Lib.hid (HX.out.1.later hb8)
              clear hb8 HT
              go_wp2_with fail
              go_meet
              exact cut_end (Lib.hid ⟨HO8.out, HX.out.2.more⟩) rfl
            · have HT := Lib.hid (packet_yes HX.out.1.sat hpk)
              go_wp2_with fail
              refine HT.out.mono ?_
              rintro e w8 ⟨A8, c8, rfl, ⟨hy8, -⟩, hb8⟩
              have HO8 := Lib.hid (HX.out.1.later hb8)
              have hfw := HX.out.1.sat.few
              have HSD := Lib.hid (Nw.Send_any HO8.out.n1 HO8.out.below.size A8 _ c8 _ (by_yb hy8) (by omega))
              clear hy8 hb8 HT
              go_wp2_with fail
              refine HSD.out.mono ?_
              rintro e w9 ⟨v', P', rfl, hn9, ht9⟩
              have HO9 := Lib.hid (HO8.out.net1 hn9 ht9)
              clear hn9 ht9 HSD
              go_wp2_with fail
              go_meet
              exact cut_end (Lib.hid ⟨HO9.out, HX.out.2.more.send hpk _ _⟩) rfl
          · have HT := Lib.hid (Nw.Take_any HX.out.1.n1 at_ (by omega))
            go_wp2_with fail
            refine HT.out.mono ?_
            rintro e w8 ⟨A8, c8, v8, P8, rfl, hyw8, hn8, ht8, -⟩
            have HO8 := Lib.hid (HX.out.1.net1 hn8 ht8)
            have HP8 := Lib.hid (HX.out.2.more.lose1 v8 P8 at_)
            have HYW8 := Lib.hid hyw8
            clear hn8 ht8 hyw8 HT
            cases hia : Nw.isA z.L1.length at_ with
            | false =>
              have HH := Lib.hid (hears_no A8 (Nw.gtA z.L1 at_).size c8 (.pointer (some ⟨b5, 0, none⟩)) (.pointer (some ⟨b9, 0, none⟩)) (.pointer (some ⟨b7, 0, none⟩)) w8)
              go_wp2_with fail
              refine HH.out.mono ?_
              rintro e w9 ⟨rfl, rfl⟩
              clear HH
              go_wp2_with fail
              go_meet
              exact cut_end (Lib.hid ⟨HO8.out, HP8.out⟩) rfl
            | true =>
              obtain ⟨zs, hby, hzs⟩ := yb_by HYW8.out.yb
              have hmem := gt_mem hia
              have HTO : Hid (To z.T (strOf zs)) := Lib.hid (by rw [hzs]; exact HX.out.2.l1 _ hmem)
              have HH := Lib.hid (hears_any HO8.out HP8.out (by omega) hby HTO.out)
              clear hby hzs hmem
              go_wp2_with fail
              refine HH.out.mono ?_
              rintro e w9 ⟨rfl, z9, ho9, hp9, hv9, -⟩
              have HO9 := Lib.hid ho9
              have HP9 := Lib.hid hp9
              have HV9 := Lib.hid hv9
              clear HH ho9 hp9 hv9
              go_wp2_with fail
              go_meet
              exact cut_end (Lib.hid ⟨HO9.out, HP9.out⟩) HV9.out.symm
          · have HT := Lib.hid (Nw.Take_any HX.out.1.n2 at_ (by omega))
            go_wp2_with fail
            refine HT.out.mono ?_
            rintro e w8 ⟨A8, c8, v8, P8, rfl, hyw8, hn8, ht8, -⟩
            have HO8 := Lib.hid (HX.out.1.net2 hn8 ht8)
            have HP8 := Lib.hid (HX.out.2.more.lose2 v8 P8 at_)
            have HYW8 := Lib.hid hyw8
            clear hn8 ht8 hyw8 HT
            cases hia : Nw.isA z.L2.length at_ with
            | false =>
              go_wp2_with fail
              go_meet
              exact cut_end (Lib.hid ⟨HO8.out, HP8.out⟩) rfl
            | true =>
              obtain ⟨zs, hby, hzs⟩ := yb_by HYW8.out.yb
              have hmem := gt_mem hia
              have HFR : Hid (Fro z.heard (strOf zs)) := Lib.hid (by rw [hzs]; exact HX.out.2.l2 _ hmem)
              have HH := Lib.hid (shear_any HO8.out.sat hby (Nat.le_refl _))
              have HBY := Lib.hid hby.byte
              clear hby hzs hmem
              cases hhe : heB z.told z.pk zs with
              | false =>
                have hx := HH.out
                simp only [hhe] at hx
                have HH2 := Lib.hid hx
                clear hx HH
                go_wp2_with fail
                refine HH2.out.mono ?_
                rintro e w9 ⟨v9, rfl, hs9, ht9, hf9⟩
                have HO9 := Lib.hid (HO8.out.sender (told' := z.told) (pk' := z.pk) (by simpa using hs9) ht9 hf9)
                clear HH2 hs9 ht9 hf9
                go_wp2_with fail
                go_meet
                exact cut_end (Lib.hid ⟨HO9.out, HP8.out.same_s _⟩) rfl
              | true =>
                have hx := HH.out
                simp only [hhe] at hx
                have HH2 := Lib.hid hx
                have hack := he_yes hhe HFR.out HBY.out HX.out.2.few (by omega) HX.out.2.hle HX.out.2.heard HX.out.1.sat.good
                have HACK := Lib.hid hack
                clear hx HH hack
                go_wp2_with fail
                refine HH2.out.mono ?_
                rintro e w9 ⟨v9, rfl, hs9, ht9, hf9⟩
                have HO9 := Lib.hid (HO8.out.sender (told' := z.told + 1) (pk' := []) (by simpa using hs9) ht9 hf9)
                clear HH2 hs9 ht9 hf9
                go_wp2_with fail
                go_meet
                exact cut_end (Lib.hid ⟨HO9.out, HP8.out.ack HACK.out.1 HACK.out.2 _⟩) rfl
          · have HT := Lib.hid (Nw.Peek_any HX.out.1.n1 at_)
            go_wp2_with fail
            refine HT.out.mono ?_
            rintro e w8 ⟨A8, c8, rfl, hyw8, hb8⟩
            have HO8 := Lib.hid (HX.out.1.later hb8)
            have HP8 := Lib.hid HX.out.2.more
            have HYW8 := Lib.hid hyw8
            clear hb8 hyw8 HT
            cases hia : Nw.isA z.L1.length at_ with
            | false =>
              have HH := Lib.hid (hears_no A8 (Nw.gtA z.L1 at_).size c8 (.pointer (some ⟨b5, 0, none⟩)) (.pointer (some ⟨b9, 0, none⟩)) (.pointer (some ⟨b7, 0, none⟩)) w8)
              go_wp2_with fail
              refine HH.out.mono ?_
              rintro e w9 ⟨rfl, rfl⟩
              clear HH
              go_wp2_with fail
              go_meet
              exact cut_end (Lib.hid ⟨HO8.out, HP8.out⟩) rfl
            | true =>
              obtain ⟨zs, hby, hzs⟩ := yb_by HYW8.out.yb
              have hmem := gt_mem hia
              have HTO : Hid (To z.T (strOf zs)) := Lib.hid (by rw [hzs]; exact HX.out.2.l1 _ hmem)
              have HH := Lib.hid (hears_any HO8.out HP8.out (by omega) hby HTO.out)
              clear hby hzs hmem
              go_wp2_with fail
              refine HH.out.mono ?_
              rintro e w9 ⟨rfl, z9, ho9, hp9, hv9, -⟩
              have HO9 := Lib.hid ho9
              have HP9 := Lib.hid hp9
              have HV9 := Lib.hid hv9
              clear HH ho9 hp9 hv9
              go_wp2_with fail
              go_meet
              exact cut_end (Lib.hid ⟨HO9.out, HP9.out⟩) HV9.out.symm
          · have HT := Lib.hid (Nw.Peek_any HX.out.1.n2 at_)
            go_wp2_with fail
            refine HT.out.mono ?_
            rintro e w8 ⟨A8, c8, rfl, hyw8, hb8⟩
            have HO8 := Lib.hid (HX.out.1.later hb8)
            have HP8 := Lib.hid HX.out.2.more
            have HYW8 := Lib.hid hyw8
            clear hb8 hyw8 HT
            cases hia : Nw.isA z.L2.length at_ with
            | false =>
              go_wp2_with fail
              go_meet
              exact cut_end (Lib.hid ⟨HO8.out, HP8.out⟩) rfl
            | true =>
              obtain ⟨zs, hby, hzs⟩ := yb_by HYW8.out.yb
              have hmem := gt_mem hia
              have HFR : Hid (Fro z.heard (strOf zs)) := Lib.hid (by rw [hzs]; exact HX.out.2.l2 _ hmem)
              have HH := Lib.hid (shear_any HO8.out.sat hby (Nat.le_refl _))
              have HBY := Lib.hid hby.byte
              clear hby hzs hmem
              cases hhe : heB z.told z.pk zs with
              | false =>
                have hx := HH.out
                simp only [hhe] at hx
                have HH2 := Lib.hid hx
                clear hx HH
                go_wp2_with fail
                refine HH2.out.mono ?_
                rintro e w9 ⟨v9, rfl, hs9, ht9, hf9⟩
                have HO9 := Lib.hid (HO8.out.sender (told' := z.told) (pk' := z.pk) (by simpa using hs9) ht9 hf9)
                clear HH2 hs9 ht9 hf9
                go_wp2_with fail
                go_meet
                exact cut_end (Lib.hid ⟨HO9.out, HP8.out.same_s _⟩) rfl
              | true =>
                have hx := HH.out
                simp only [hhe] at hx
                have HH2 := Lib.hid hx
                have hack := he_yes hhe HFR.out HBY.out HX.out.2.few (by omega) HX.out.2.hle HX.out.2.heard HX.out.1.sat.good
                have HACK := Lib.hid hack
                clear hx HH hack
                go_wp2_with fail
                refine HH2.out.mono ?_
                rintro e w9 ⟨v9, rfl, hs9, ht9, hf9⟩
                have HO9 := Lib.hid (HO8.out.sender (told' := z.told + 1) (pk' := []) (by simpa using hs9) ht9 hf9)
                clear HH2 hs9 ht9 hf9
                go_wp2_with fail
                go_meet
                exact cut_end (Lib.hid ⟨HO9.out, HP8.out.ack HACK.out.1 HACK.out.2 _⟩) rfl
          · have HT := Lib.hid (Nw.Lose_any HX.out.1.n1 at_ (by omega))
            go_wp2_with fail
            refine HT.out.mono ?_
            rintro e w8 ⟨v8, P8, rfl, hn8, ht8, -⟩
            have HO8 := Lib.hid (HX.out.1.net1 hn8 ht8)
            clear hn8 ht8 HT
            go_wp2_with fail
            go_meet
            exact cut_end (Lib.hid ⟨HO8.out, HX.out.2.more.lose1 v8 P8 at_⟩) rfl
          · have HT := Lib.hid (Nw.Lose_any HX.out.1.n2 at_ (by omega))
            go_wp2_with fail
            refine HT.out.mono ?_
            rintro e w8 ⟨v8, P8, rfl, hn8, ht8, -⟩
            have HO8 := Lib.hid (HX.out.1.net2 hn8 ht8)
            clear hn8 ht8 HT
            go_wp2_with fail
            go_meet
            exact cut_end (Lib.hid ⟨HO8.out, HX.out.2.more.lose2 v8 P8 at_⟩) rfl
        case rest =>
          obtain ⟨z', hu, HC⟩ := hcut
          obtain ⟨AT, cT, hvT⟩ := HC.out.1.st.form
          obtain ⟨AH, cH, hvH⟩ := HC.out.1.sh.form
          have hu2 := hu.trans hvT
          have HVT := Lib.hid hvT.symm
          have hle1 := HC.out.2.hle
          have hlo1 := HC.out.2.lo
          have hhi1 := HC.out.2.hi
          have hfw1 := HC.out.2.few
          have hhd := HC.out.2.heard
          have hsT := HC.out.1.st
          have hsH := HC.out.1.sh
          rw [hvT] at hsT
          rw [hvH] at hsH
          obtain ⟨-, hgT⟩ := hsT.sg
          obtain ⟨-, hgH⟩ := hsH.sg
          have HGT := Lib.hid hgT
          have HGH := Lib.hid hgH
          have HEQ : Hid (∀ q, q < z'.H.length → Nw.bat z'.H q = Nw.bat z'.T q) := Lib.hid (fun q hq => bat_take HC.out.2.hH hq)
          have hmT := hgT.size
          have hmH := hgH.size
          obtain ⟨c5, -⟩ := cell_at HC.out.1.x5
          have hx9 := HC.out.1.x9
          rw [hvH] at hx9
          obtain ⟨c9, -⟩ := cell_at hx9
          have HX9 := Lib.hid hx9
          have HRc : Hid (RAt wc r z'.H.length) := Lib.hid (by rw [← hhd]; exact HC.out.1.rat)
          have HSc := Lib.hid HC.out.1.sat
          rw [hhd] at hlo1 hhi1
          clear hsT hsH hgT hgH hu hvT hvH hx9 hhd HX HZ HBX HYW HSL q0 q1 q2 c7 hm8 hm8b s1
          subst hu2
          generalize z'.H.length = lH at *
          generalize z'.T.length = lT at *
          generalize htn : z'.told = tn at *
          have HWH : Hid (IntKind.u64.wrap (lH : Int) = (lH : Int)) := Lib.hid (IntWalk.u64_in _ (by omega))
          have HWT : Hid (IntKind.u64.wrap ((tn : Int) + 1) = (tn : Int) + 1) := Lib.hid (IntWalk.u64_in _ (by omega))
          clear htn
          go_wp2_with fail
          refine wp_region_held_drew (S := fun w' => w'.cell? ⟨b9, 0, none⟩ = some (.slice AH lH cH) ∧ w'.cell? ⟨b5, 0, none⟩ = some (.pointer (some ⟨r, 0, none⟩))) (by kernel_rfl) (by simp; exact ⟨c9, c5⟩) (fun hS0 => ?_)
          (refine wpAnyH_take (i := 0) (oi := ⟨some 142, _, _, _, _, _⟩) (v := .slice AH lH cH) rfl (by kernel_rfl) (by kernel_rfl) (by kernel_rfl) (fun _ _ _ h => h) (Or.inl ⟨by rfl, ?_⟩) (by assumption) ?_; (intro w hSw; (try dsimp only at hSw); go_simp); (try simp only [Act.put, List.setIfInBounds_toArray, List.set_cons_zero, List.set_cons_succ]))
          (refine wpAnyH_take (i := 1) (oi := ⟨some 143, _, _, _, _, _⟩) (v := .int .i64 (lH : Int)) rfl (by kernel_rfl) (by kernel_rfl) (by kernel_rfl) (fun _ _ _ h => h) (Or.inl ⟨by rfl, ?_⟩) (by assumption) ?_; (intro w hSw; (try dsimp only at hSw); go_simp); (try simp only [Act.put, List.setIfInBounds_toArray, List.set_cons_zero, List.set_cons_succ]))
          (refine wpAnyH_take (i := 2) (oi := ⟨some 144, _, _, _, _, _⟩) (v := .slice AT lT cT) rfl (by kernel_rfl) (by kernel_rfl) (by kernel_rfl) (fun _ _ _ h => h) (Or.inl ⟨by rfl, ?_⟩) (by assumption) ?_; (intro w hSw; (try dsimp only at hSw); go_simp); (try simp only [Act.put, List.setIfInBounds_toArray, List.set_cons_zero, List.set_cons_succ]))
          (refine wpAnyH_take (i := 3) (oi := ⟨some 145, _, _, _, _, _⟩) (v := .int .i64 (lT : Int)) rfl (by kernel_rfl) (by kernel_rfl) (by kernel_rfl) (fun _ _ _ h => h) (Or.inl ⟨by rfl, ?_⟩) (by assumption) ?_; (intro w hSw; (try dsimp only at hSw); go_simp); (try simp only [Act.put, List.setIfInBounds_toArray, List.set_cons_zero, List.set_cons_succ]))
          (refine wpAnyH_take (i := 4) (oi := ⟨some 146, _, _, _, _, _⟩) (v := .bool false) rfl (by kernel_rfl) (by kernel_rfl) (by kernel_rfl) (fun _ _ _ h => h) (Or.inl ⟨by rfl, ?_⟩) (by assumption) ?_; (intro w hSw; (try dsimp only at hSw); go_simp; try (first | omega | (simp; omega))); (try simp only [Act.put, List.setIfInBounds_toArray, List.set_cons_zero, List.set_cons_succ]))
          (refine wpAnyH_take (i := 5) (oi := ⟨some 147, _, _, _, _, _⟩) (v := .bool false) rfl (by kernel_rfl) (by kernel_rfl) (by kernel_rfl) (fun _ _ _ h => h) (Or.inl ⟨by rfl, ?_⟩) (by assumption) ?_; (intro w hSw; (try dsimp only at hSw); go_simp); (try simp only [Act.put, List.setIfInBounds_toArray, List.set_cons_zero, List.set_cons_succ]))
          (refine wpAnyH_take (i := 6) (oi := ⟨some 148, _, _, _, _, _⟩) (v := .pointer (some ⟨r, 0, none⟩)) rfl (by kernel_rfl) (by kernel_rfl) (by kernel_rfl) (fun _ _ _ h => h) (Or.inl ⟨by rfl, ?_⟩) (by assumption) ?_; (intro w hSw; (try dsimp only at hSw); go_simp); (try simp only [Act.put, List.setIfInBounds_toArray, List.set_cons_zero, List.set_cons_succ]))
          (refine wpAnyH_take (i := 8) (oi := ⟨some 150, _, _, _, _, _⟩) (v := .slice AH lH cH) rfl (by kernel_rfl) (by kernel_rfl) (by kernel_rfl) (fun _ _ _ h => h) (Or.inl ⟨by rfl, ?_⟩) (by assumption) ?_; (intro w hSw; (try dsimp only at hSw); go_simp); (try simp only [Act.put, List.setIfInBounds_toArray, List.set_cons_zero, List.set_cons_succ]))
          (refine wpAnyH_take (i := 9) (oi := ⟨some 151, _, _, _, _, _⟩) (v := .int .i64 (lH : Int)) rfl (by kernel_rfl) (by kernel_rfl) (by kernel_rfl) (fun _ _ _ h => h) (Or.inl ⟨by rfl, ?_⟩) (by assumption) ?_; (intro w hSw; (try dsimp only at hSw); go_simp); (try simp only [Act.put, List.setIfInBounds_toArray, List.set_cons_zero, List.set_cons_succ]))
          (refine wpAnyH_take (i := 10) (oi := ⟨some 152, _, _, _, _, _⟩) (v := .int .u64 (lH : Int)) rfl (by kernel_rfl) (by kernel_rfl) (by kernel_rfl) (fun _ _ _ h => h) (Or.inl ⟨by rfl, ?_⟩) (by assumption) ?_; (intro w hSw; (try dsimp only at hSw); go_simp; try exact HWH.out); (try simp only [Act.put, List.setIfInBounds_toArray, List.set_cons_zero, List.set_cons_succ]))
          refine wpAnyH_ready (rs := [7]) (by kernel_rfl) (by simp) ?_
          refine AllReadyH.cons (o := ⟨some 149, _, _, _, _, _⟩) rfl (fun K hK => ?_) AllReadyH.nil
          go_simp
          refine (heard_w (Below.refl _ _ |>.drew) HRc.out).mono ?_
          rintro e wq ⟨rfl, rfl⟩
          refine hK.out _ _ ⟨c9, c5⟩ (fun hS149 => ?_)
          clear hK
          (try simp only [Act.put, List.setIfInBounds_toArray, List.set_cons_zero, List.set_cons_succ])
          (refine wpAnyH_take (i := 11) (oi := ⟨some 153, _, _, _, _, _⟩) (v := .bool false) rfl (by kernel_rfl) (by kernel_rfl) (by kernel_rfl) (fun _ _ _ h => h) (Or.inl ⟨by rfl, ?_⟩) (by assumption) ?_; (intro w hSw; (try dsimp only at hSw); go_simp); (try simp only [Act.put, List.setIfInBounds_toArray, List.set_cons_zero, List.set_cons_succ]))
          (refine wpAnyH_take (i := 12) (oi := ⟨some 154, _, _, _, _, _⟩) (v := .bool false) rfl (by kernel_rfl) (by kernel_rfl) (by kernel_rfl) (fun _ _ _ h => h) (Or.inl ⟨by rfl, ?_⟩) (by assumption) ?_; (intro w hSw; (try dsimp only at hSw); go_simp); (try simp only [Act.put, List.setIfInBounds_toArray, List.set_cons_zero, List.set_cons_succ]))
          (refine wpAnyH_take (i := 13) (oi := ⟨some 155, _, _, _, _, _⟩) (v := .bool false) rfl (by kernel_rfl) (by kernel_rfl) (by kernel_rfl) (fun _ _ _ h => h) (Or.inl ⟨by rfl, ?_⟩) (by assumption) ?_; (intro w hSw; (try dsimp only at hSw); go_simp); (try simp only [Act.put, List.setIfInBounds_toArray, List.set_cons_zero, List.set_cons_succ]))
          (refine wpAnyH_take (i := 14) (oi := ⟨some 156, _, _, _, _, _⟩) (v := .pointer (some ⟨r, 0, none⟩)) rfl (by kernel_rfl) (by kernel_rfl) (by kernel_rfl) (fun _ _ _ h => h) (Or.inl ⟨by rfl, ?_⟩) (by assumption) ?_; (intro w hSw; (try dsimp only at hSw); go_simp); (try simp only [Act.put, List.setIfInBounds_toArray, List.set_cons_zero, List.set_cons_succ]))
          (refine wpAnyH_take (i := 16) (oi := ⟨some 158, _, _, _, _, _⟩) (v := .pointer (some ⟨s, 0, none⟩)) rfl (by kernel_rfl) (by kernel_rfl) (by kernel_rfl) (fun _ _ _ h => h) (Or.inl ⟨by rfl, ?_⟩) (by assumption) ?_; (intro w hSw; (try dsimp only at hSw); go_simp); (try simp only [Act.put, List.setIfInBounds_toArray, List.set_cons_zero, List.set_cons_succ]))
          refine wpAnyH_ready (rs := [15]) (by kernel_rfl) (by simp) ?_
          refine AllReadyH.cons (o := ⟨some 157, _, _, _, _, _⟩) rfl (fun K hK => ?_) AllReadyH.nil
          go_simp
          refine (heard_w (Below.refl _ _ |>.drew) HRc.out).mono ?_
          rintro e wq ⟨rfl, rfl⟩
          refine hK.out _ _ ⟨c9, c5⟩ (fun hS157 => ?_)
          clear hK
          (try simp only [Act.put, List.setIfInBounds_toArray, List.set_cons_zero, List.set_cons_succ])
          refine wpAnyH_ready (rs := [17]) (by kernel_rfl) (by simp) ?_
          refine AllReadyH.cons (o := ⟨some 159, _, _, _, _, _⟩) rfl (fun K hK => ?_) AllReadyH.nil
          go_simp
          refine (told_w (Below.refl _ _ |>.drew) HSc.out).mono ?_
          rintro e wq ⟨rfl, rfl⟩
          refine hK.out _ _ ⟨c9, c5⟩ (fun hS159 => ?_)
          clear hK
          (try simp only [Act.put, List.setIfInBounds_toArray, List.set_cons_zero, List.set_cons_succ])
          (refine wpAnyH_take (i := 18) (oi := ⟨some 160, _, _, _, _, _⟩) (v := .bool false) rfl (by kernel_rfl) (by kernel_rfl) (by kernel_rfl) (fun _ _ _ h => h) (Or.inl ⟨by rfl, ?_⟩) (by assumption) ?_; (intro w hSw; (try dsimp only at hSw); go_simp; try (first | omega | (simp; omega))); (try simp only [Act.put, List.setIfInBounds_toArray, List.set_cons_zero, List.set_cons_succ]))
          (refine wpAnyH_take (i := 19) (oi := ⟨some 161, _, _, _, _, _⟩) (v := .bool false) rfl (by kernel_rfl) (by kernel_rfl) (by kernel_rfl) (fun _ _ _ h => h) (Or.inl ⟨by rfl, ?_⟩) (by assumption) ?_; (intro w hSw; (try dsimp only at hSw); go_simp); (try simp only [Act.put, List.setIfInBounds_toArray, List.set_cons_zero, List.set_cons_succ]))
          (refine wpAnyH_take (i := 20) (oi := ⟨some 162, _, _, _, _, _⟩) (v := .bool false) rfl (by kernel_rfl) (by kernel_rfl) (by kernel_rfl) (fun _ _ _ h => h) (Or.inl ⟨by rfl, ?_⟩) (by assumption) ?_; (intro w hSw; (try dsimp only at hSw); go_simp); (try simp only [Act.put, List.setIfInBounds_toArray, List.set_cons_zero, List.set_cons_succ]))
          (refine wpAnyH_take (i := 21) (oi := ⟨some 163, _, _, _, _, _⟩) (v := .pointer (some ⟨r, 0, none⟩)) rfl (by kernel_rfl) (by kernel_rfl) (by kernel_rfl) (fun _ _ _ h => h) (Or.inl ⟨by rfl, ?_⟩) (by assumption) ?_; (intro w hSw; (try dsimp only at hSw); go_simp); (try simp only [Act.put, List.setIfInBounds_toArray, List.set_cons_zero, List.set_cons_succ]))
          (refine wpAnyH_take (i := 23) (oi := ⟨some 165, _, _, _, _, _⟩) (v := .pointer (some ⟨s, 0, none⟩)) rfl (by kernel_rfl) (by kernel_rfl) (by kernel_rfl) (fun _ _ _ h => h) (Or.inl ⟨by rfl, ?_⟩) (by assumption) ?_; (intro w hSw; (try dsimp only at hSw); go_simp); (try simp only [Act.put, List.setIfInBounds_toArray, List.set_cons_zero, List.set_cons_succ]))
          refine wpAnyH_ready (rs := [22]) (by kernel_rfl) (by simp) ?_
          refine AllReadyH.cons (o := ⟨some 164, _, _, _, _, _⟩) rfl (fun K hK => ?_) AllReadyH.nil
          go_simp
          refine (heard_w (Below.refl _ _ |>.drew) HRc.out).mono ?_
          rintro e wq ⟨rfl, rfl⟩
          refine hK.out _ _ ⟨c9, c5⟩ (fun hS164 => ?_)
          clear hK
          (try simp only [Act.put, List.setIfInBounds_toArray, List.set_cons_zero, List.set_cons_succ])
          refine wpAnyH_ready (rs := [24]) (by kernel_rfl) (by simp) ?_
          refine AllReadyH.cons (o := ⟨some 166, _, _, _, _, _⟩) rfl (fun K hK => ?_) AllReadyH.nil
          go_simp
          refine (told_w (Below.refl _ _ |>.drew) HSc.out).mono ?_
          rintro e wq ⟨rfl, rfl⟩
          refine hK.out _ _ ⟨c9, c5⟩ (fun hS166 => ?_)
          clear hK
          (try simp only [Act.put, List.setIfInBounds_toArray, List.set_cons_zero, List.set_cons_succ])
          (refine wpAnyH_take (i := 25) (oi := ⟨some 167, _, _, _, _, _⟩) (v := .int .u64 ((tn : Int) + 1)) rfl (by kernel_rfl) (by kernel_rfl) (by kernel_rfl) (fun _ _ _ h => h) (Or.inl ⟨by rfl, ?_⟩) (by assumption) ?_; (intro w hSw; (try dsimp only at hSw); go_simp; try exact HWT.out); (try simp only [Act.put, List.setIfInBounds_toArray, List.set_cons_zero, List.set_cons_succ]))
          (refine wpAnyH_take (i := 26) (oi := ⟨some 168, _, _, _, _, _⟩) (v := .bool false) rfl (by kernel_rfl) (by kernel_rfl) (by kernel_rfl) (fun _ _ _ h => h) (Or.inl ⟨by rfl, ?_⟩) (by assumption) ?_; (intro w hSw; (try dsimp only at hSw); go_simp; try (first | omega | (simp; omega))); (try simp only [Act.put, List.setIfInBounds_toArray, List.set_cons_zero, List.set_cons_succ]))
          (refine wpAnyH_take (i := 27) (oi := ⟨some 169, _, _, _, _, _⟩) (v := .bool false) rfl (by kernel_rfl) (by kernel_rfl) (by kernel_rfl) (fun _ _ _ h => h) (Or.inl ⟨by rfl, ?_⟩) (by assumption) ?_; (intro w hSw; (try dsimp only at hSw); go_simp); (try simp only [Act.put, List.setIfInBounds_toArray, List.set_cons_zero, List.set_cons_succ]))
          refine wpAnyH_done (by kernel_rfl) ?_ _
          go_wp2_with fail
          go_loopw [19, 172] (fun _ iv wx => ∃ q : Nat, q ≤ lH ∧ iv = .int .i64 (q : Int) ∧ Below wc.heap.size wc wx) (fun _ iv _ => lH - (intOf iv).toNat)
          case atStart => exact ⟨0, Nat.zero_le _, rfl, (Below.refl _ _).drew⟩
          case round =>
            obtain ⟨q, hq, rfl, hbx⟩ := hrel
            have HBX := Lib.hid hbx
            by_cases hql : q < lH
            · obtain ⟨gH, oH, rfl, -, kH⟩ := (HGH.out.later hbx).cell hql
              obtain ⟨gT, oT, rfl, -, kT⟩ := (HGT.out.later hbx).cell (j := q) (by omega)
              rw [← HEQ.out q hql] at kT
              obtain ⟨c9x, -⟩ := cell_at ((hbx.block _ (lt_of_heap HX9.out)).trans HX9.out)
              clear hbx c9 c5
              generalize Nw.bat z'.H q = sx at *
              go_wp2_with fail
              go_region
              go_wp2_with fail
              go_roundw
              case rel => exact ⟨q + 1, by omega, by go_num, HBX.out.drew⟩
              case measure => simp [intOf]; omega
            · obtain rfl : q = lH := by omega
              have HE := Lib.hid (⟨HC.out.1.later hbx, HC.out.2⟩ : On w wr ⟨s, r, g1, g2, b5, b7, b9⟩ z' ∧ Pl (k + 1) z')
              clear hbx c9 c5
              go_wp2_with fail
              go_roundw
              case rel =>
                have hv := HVT.out
                first | exact ⟨k + 1, z', by omega, by omega, by go_num, hv, HE⟩ | ((repeat apply Exists.intro); exact ⟨⟨k + 1, z', by omega, by omega, by go_num, hv, HE⟩, rfl⟩)
              case measure => simp [intOf]; omega
    · obtain rfl : k = n := by omega
      go_wp2_with fail
      go_ret
      exact ⟨rfl, HZ.out.1.below⟩
end Ln
end Go.Proofs.Ytjjaomnlkpdeeaa
