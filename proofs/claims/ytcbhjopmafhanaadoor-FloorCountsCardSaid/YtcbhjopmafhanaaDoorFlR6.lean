/-
  The document's answers for layer 3: Text.
-/
import Derived.Test.YtcbhjopmafhanaaDoorFlR4
set_option linter.unusedVariables false
namespace Go.Proofs.YtcbhjopmafhanaaDoor
open Go.RowKit Fl

theorem str_of {t : ByteArray} {l : List UInt8} (h : t.data.toList = l) : t = ⟨l.toArray⟩ := by
  cases t with
  | mk d => subst h; simp

set_option maxHeartbeats 2000000 in
theorem rtext_any (W H : Int) (s : ByteArray) (hs : s.size ≤ maxLen) (w : World) (hH : H ≤ 9223372036854775807) :
    Calls Tryd.prog 16 #[.agg #[.int .i64 W, .int .i64 H, .string s]] w (StrTold (Right W H s) (sTxt W H s) w) := by
  have hs' := hs
  unfold maxLen at hs'
  go_enter Tryd.func16, Tryd.ntmps16
  go_wp2_with fail
  go_loopw [3, 4] (fun sv iv wr => ∃ (y : Nat) (t : ByteArray), iv = .int .i64 (y : Int) ∧ sv = .string t ∧ t.data.toList = txt W.toNat s.data.toList y ∧ Box w W H s wr ∧ y ≤ H.toNat ∧ (0 < y → Right W H s)) (fun _ iv _ => H.toNat - (intOf iv).toNat)
  case atStart => exact ⟨0, _, rfl, rfl, rfl, Box.start w W H s 24, Nat.zero_le _, fun h => by omega⟩
  case round =>
    rename World => wr
    obtain ⟨y, t, rfl, rfl, ht, hB, hy, hR⟩ := hrel
    have HB := Lib.hid hB
    have HR := Lib.hid hR
    have HT := Lib.hid ht
    have k0 := hB.c0
    have k1 := hB.c1
    have k2 := hB.c2
    clear hB hR ht
    by_cases hlt : (y : Int) < H
    · have dl : decide ((y : Int) < H) = true := by simpa using hlt
      go_wp2_with fail
      refine (rright_any W H s hs _).mono ?_
      rintro e w2 ⟨b, rfl, hb, hbw⟩
      have HB2 := Lib.hid (HB.out.after hbw)
      have HRb := Lib.hid hb
      have q0 := HB2.out.c0
      have q2 := HB2.out.c2
      clear hb hbw k0 k1 k2
      cases b
      · have HNo : Hid (¬ Right W H s) := Lib.hid (fun h => by have := HRb.out.2 h; cases this)
        have HE : Hid (t = ⟨#[]⟩) := Lib.hid (by
          rcases Nat.eq_zero_or_pos y with h | h
          · exact str_of (by rw [HT.out, h]; rfl)
          · exact absurd (HR.out h) HNo.out)
        go_wp2_with fail
        go_ret
        exact ⟨t, rfl, fun h => absurd h HNo.out, fun _ => HE.out, HB2.out.below⟩
      · have HY : Hid (Right W H s) := Lib.hid (HRb.out.1 (by trivial))
        obtain ⟨a, b, rfl, rfl, hS, hRN⟩ := rightNat HY.out
        have HS := Lib.hid hS
        have hb16 := hS.h2
        have ha16 := hS.w2
        have h256 := hS.le
        have hsl : s.data.toList.length = s.size := by rw [Array.length_toList]; rfl
        have hyb : y < b := by omega
        have hmul : (y + 1) * a ≤ s.size := by rw [hS.sz, Nat.mul_comm a b]; exact Nat.mul_le_mul_right _ hyb
        obtain ⟨lo, hlo⟩ : ∃ lo, lo = y * a := ⟨_, rfl⟩
        have hd : (y + 1) * a = lo + a := by rw [hlo, Nat.succ_mul]
        rw [hd] at hmul
        have q1 : (y : Int) * (a : Int) = (lo : Int) := by rw [hlo, Int.natCast_mul]
        have hts : t.size ≤ 1000 := by
          have e1 : t.size = t.data.toList.length := by rw [Array.length_toList]; rfl
          rw [e1, HT.out, Int.toNat_natCast, txt_len a _ y (by rw [hsl, ← hlo]; omega), Nat.mul_add, ← hlo]
          omega
        have HTN : Hid (txt a s.data.toList (y + 1) = txt a s.data.toList y ++ (s.data.toList.drop lo).take a ++ [10]) := Lib.hid (by rw [txt, hlo])
        have HX : Hid ((s.extract lo (lo + a)).data.toList = (s.data.toList.drop lo).take a) := Lib.hid (by
          rw [Lib.extract_data]
          congr 1
          omega)
        have hxs : (s.extract lo (lo + a)).size ≤ 256 := by rw [ByteArray.size_extract]; omega
        clear hS hRN hlo hd hsl
        go_wp2_with fail
        go_roundw
        case rel =>
          refine ⟨y + 1, _, by go_num, rfl, ?_, HB2.out, by omega, fun _ => HY.out⟩
          rw [Int.toNat_natCast, HTN.out, ← HX.out]
          have h0 := HT.out
          rw [Int.toNat_natCast] at h0
          rw [← h0]
          simp [ByteArray.data_append]
        case measure => simp [intOf]; omega
    · have dl : decide ((y : Int) < H) = false := by simpa using hlt
      have HE : Hid (¬ Right W H s → t = ⟨#[]⟩) := Lib.hid (fun hn => by
        rcases Nat.eq_zero_or_pos y with h | h
        · exact str_of (by rw [HT.out, h]; rfl)
        · exact absurd (HR.out h) hn)
      have HF : Hid (Right W H s → t = ⟨(sTxt W H s).toArray⟩) := Lib.hid (fun h => by
        obtain ⟨a, b, rfl, rfl, hS, hRN⟩ := rightNat h
        have e : y = (b : Int).toNat := by omega
        apply str_of
        rw [HT.out, e]
        rfl)
      go_wp2_with fail
      go_ret
      exact ⟨t, rfl, HF.out, HE.out, HB.out.below⟩

end Go.Proofs.YtcbhjopmafhanaaDoor
