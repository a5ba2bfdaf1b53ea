/-
  The document's sum; the examples; few.
-/
import Derived.Test.YtbdlcmpljhbebaaChkH
import Derived.Lib.SlBytesConst
set_option linter.unusedVariables false
namespace Go.Proofs.Ytbdlcmpljhbebaa
open Go.RowKit Bp Ck

set_option maxHeartbeats 1000000 in
theorem refSum_any {B : Nat} {w : World} {A : Option Addr} {n cap : Nat} {zs : List Nat} (h : By B w A n cap zs) :
    Calls Try.prog 25 #[.slice A n cap] w fun e w' => e = .returned (.int .u16 ((crc zs : Nat) : Int)) ∧ w = w' := by
  have hl := Lib.hid h.len
  have hle := h.le
  have hmx := h.max
  unfold maxLen at hmx
  have HB := Lib.hid h.byte
  have HC := Lib.hid h.cell
  clear h
  go_enter Try.func25, Try.ntmps25
  go_wp2
  go_loop [3, 4] (fun r i => ∃ k : Nat, k ≤ n ∧ i = .int .i64 (k : Int) ∧ r = .int .u16 ((crc (zs.take k) : Nat) : Int)) (fun _ i => n - (intOf i).toNat)
  case atStart => exact ⟨0, Nat.zero_le _, rfl, rfl⟩
  case round =>
    obtain ⟨k, hk, rfl, rfl⟩ := hrel
    by_cases hlt : k < n
    · have HS : Hid (crc (zs.take (k + 1)) = cb (crc (zs.take k)) (zs.getD k 0)) := Lib.hid (crc_take zs k (by rw [hl.out]; exact hlt))
      have hc := crc_lt (zs.take k) (take_byte zs k HB.out)
      have hz := getD_byte zs k HB.out
      obtain ⟨g, off, rfl, hg, hcell⟩ := HC.out (by omega)
      have hck := hcell k hlt
      clear hcell
      generalize zs.getD k 0 = z at *
      generalize crc (zs.take k) = c at *
      have HX := Lib.hid (xor_in c z hc hz)
      have hlt0 := Nat.xor_lt_two_pow (n := 16) hc (byte_lt z hz)
      go_wp2
      rw [HX.out]
      go_loop [3, 5] (fun r j => ∃ m : Nat, m ≤ 8 ∧ j = .int .i64 (m : Int) ∧ r = .int .u16 ((it m (c ^^^ z * 256) : Nat) : Int)) (fun _ j => 8 - (intOf j).toNat)
      case atStart => exact ⟨0, Nat.zero_le _, rfl, rfl⟩
      case round =>
        obtain ⟨m, hm, rfl, rfl⟩ := hrel
        by_cases hm8 : m < 8
        · have hi := it_lt m _ hlt0
          have HI := Lib.hid (it_succ m (c ^^^ z * 256))
          generalize it m (c ^^^ z * 256) = q at *
          by_cases h2 : 32768 ≤ q
          · have ht : (((q : Int) / 32768) == 1) = true := by rw [beq_iff_eq]; omega
            have HQ := Lib.hid (shN_hi q hi h2)
            have HX2 := Lib.hid (u16_xor_nat (2 * q % 65536) 4129 (by omega) (by omega))
            go_wp2
            go_round
            case rel => exact ⟨m + 1, by omega, by go_num, by rw [HI.out, HQ.out, shl1]; exact congrArg _ HX2.out⟩
            case measure => simp [intOf]; omega
          · have ht : (((q : Int) / 32768) == 1) = false := by rw [beq_eq_false_iff_ne]; omega
            have HQ := Lib.hid (shN_small q (by omega))
            go_wp2
            go_round
            case rel => exact ⟨m + 1, by omega, by go_num, by rw [HI.out, HQ.out]; go_num⟩
            case measure => simp [intOf]; omega
        · obtain rfl : m = 8 := by omega
          have HI : Hid (crc (zs.take (k + 1)) = it 8 (c ^^^ z * 256)) := Lib.hid HS.out
          generalize it 8 (c ^^^ z * 256) = q at *
          go_wp2
          go_round
          case rel => exact ⟨k + 1, by omega, by go_num, by rw [HI.out]⟩
          case measure => simp [intOf]; omega
    · obtain rfl : k = n := by omega
      go_wp2
      go_ret
      exact ⟨ret_int (by rw [List.take_of_length_le (by rw [hl.out]; exact Nat.le_refl _)]), rfl⟩

theorem few2_any (A : Option Addr) (n cap m : Nat) (w : World) (hle : n ≤ cap) (hmax : cap ≤ 9223372036854775807) (hm : min (n : Int) 20000 = (m : Int)) :
    Calls Try.prog 24 #[.slice A n cap] w fun e w' => e = .returned (.slice A m cap) ∧ w = w' := by
  have hs := fun wx => slice_h A n cap m wx (by omega)
  go_enter Try.func24, Try.ntmps24
  go_wp2
  go_ret
  exact ⟨rfl, rfl⟩

theorem ex_frm : frm [] = [0, 0, 29, 15] := by decide +kernel
theorem ex_scn : Scn [0, 0, 29, 15, 0] [[0, 0, 29, 15]] := ⟨by decide +kernel, [0], by decide +kernel, by decide +kernel⟩
theorem ex_crc : crc [49, 50, 51, 52, 53, 54, 55, 56, 57] = 10673 := by decide +kernel
theorem lit_by (w : World) (l : List Nat) (fz : Nat × Nat) (hl : l.length ≤ 1048576) (hz : ∀ z ∈ l, z ≤ 255) : By (w.heap.size + 1) (w.alloc (.cells (bc l).toArray 5 fz)) (some ⟨w.heap.size, 0, none⟩) l.length l.length l := by
  refine ⟨rfl, Nat.le_refl _, by unfold maxLen; omega, fun e => (by cases e), hz, fun hn => ⟨w.heap.size, 0, rfl, by omega, fun j hj => ?_⟩⟩
  rw [Nat.zero_add, cell_of_row _ w.heap.size j _ _ _ (heap_alloc_new w _)]
  simp [bc, List.getD, List.getElem?_eq_getElem hj]

set_option maxHeartbeats 1000000 in
theorem shown2_any (w : World) : Calls Try.prog 22 #[] w fun e w' => e = .returned (.bool true) ∧ Below w.heap.size w w' := by
  have HF := Lib.hid (frame_ok (By.none_ 0 w) (Nat.zero_le _) (by omega))
  go_enter Try.func22, Try.ntmps22
  go_wp2_with fail
  refine HF.out.mono ?_
  rintro e w1 ⟨g, c, rfl, ho, hb⟩
  rw [ex_frm] at ho
  have HO := Lib.hid (By.own ho (by decide))
  have HB := Lib.hid hb
  have hs := hb.size
  have hl := lit_by w1 [0, 0, 29, 15, 0] (0, 0) (by decide) (by decide)
  have HL := Lib.hid hl
  clear ho hb hl HF
  go_wp2_with fail
  refine (scan_any HL.out (by simp) (by decide)).mono ?_
  rintro e w2 ⟨fs, A', c', rfl, hsc, hbss, hb2⟩
  have hfs := hsc.unique ex_scn
  subst hfs
  have hb3 : Below w1.heap.size w1 w2 := ((Below.refl _ _).alloc (Nat.le_refl _) _).trans (hb2.mono (by simp))
  have HB2 := Lib.hid (HB.out.trans (hb3.mono hs))
  have hs2 := Nat.le_trans hs hb3.size
  have cv := ((HO.out.below (hb3.alloc hb3.size (.cells (bc [49, 50, 51, 52, 53, 54, 55, 56, 57]).toArray 5 (9, 10))))).conv
  rw [show strOf [0, 0, 29, 15] = ⟨#[0, 0, 29, 15]⟩ from by rfl] at cv
  have HL2 := Lib.hid (lit_by w2 [49, 50, 51, 52, 53, 54, 55, 56, 57] (9, 10) (by decide) (by decide))
  clear hsc hbss hb2 hb3 HL HO HB
  have hS := sum_any HL2.out
  rw [ex_crc] at hS
  have HS := Lib.hid hS
  clear hS
  have kc := fun (W : World) (C : Array Value) (n c : Nat) => Lib.run_convert_bytes_const (P := Try.prog) W 22 5 C n c Try.underlying22 Try.underlying5
  go_wp2_with fail
  refine HS.out.mono ?_
  rintro e w3 ⟨rfl, rfl⟩
  go_wp2
  go_ret
  exact ⟨rfl, HB2.out.alloc hs2 _⟩

end Go.Proofs.Ytbdlcmpljhbebaa
