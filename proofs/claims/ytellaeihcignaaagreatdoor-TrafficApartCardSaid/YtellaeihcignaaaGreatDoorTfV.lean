/-
  Layer 11: behind some steps.
-/
import Derived.Test.YtellaeihcignaaaGreatDoorTfU
set_option linter.unusedVariables false
set_option maxRecDepth 100000
namespace Go.Proofs.YtellaeihcignaaaGreatDoor
namespace Tf
open Go.RowKit Fl Tr Pt
open Lk (Ow T0 zns at9)

def StartedTold (W H : Int) (s : ByteArray) (w : World) (e : Ending) (w' : World) : Prop :=
  ∃ S g M cap top bF R T, e = .returned (.tuple #[.pointer (some ⟨S, 0, none⟩), .bool true]) ∧ Lp w bF S g M cap top W H s R T w'
set_option maxHeartbeats 16000000 in
theorem started11_any (W H : Int) (s : ByteArray) (hR : Right W H s) (hsz : s.size ≤ maxLen) (A : Option Addr) (n cap0 : Nat) (L : List Sp11) (w : World) (hl : Ls w.heap.size w A n cap0 L) :
    Calls Tryz.prog 28 #[.agg #[.int .i64 W, .int .i64 H, .string s], .slice A n cap0] w (StartedTold W H s w) := by
  have HL := Lib.hid hl
  have HR := Lib.hid hR
  have HNW := Lib.hid (fun wx => new_any W H s hsz wx)
  have HF := Lib.hid (Fb.new w W H s)
  have hc1 := hl.le
  have hc2 := hl.max
  clear hl hR
  go_enter Tryz.func28, Tryz.ntmps28
  obtain ⟨f0, f1, f2, fl, _⟩ := HF.out.cells
  go_wp2_with fail
  refine (HNW.out _).mono ?_
  rintro e w3 hnw
  rcases hnw with ⟨hno, _⟩ | ⟨_, S, g, M, cap, top, rfl, hst, hge, hb3⟩
  · exact absurd HR.out hno
  have HLP := Lib.hid (lp_start (Below.refl w.heap.size w) HR.out hst hge hb3)
  clear hst hge hb3 f0 f1 f2 fl HNW
  generalize docked s (pick isD (at_ s) s.size).length = R0 at *
  generalize T0 = TT0 at *
  obtain ⟨bF, hbF⟩ : ∃ bF, bF = w.heap.size := ⟨_, rfl⟩
  have HBF := Lib.hid hbF
  clear hbF
  have HFW := Lib.hid (few11_any A n cap0 w.heap.size L w3 (HL.out.below HLP.out.below))
  rw [← HBF.out] at HLP
  go_wp2_with fail
  refine HFW.out.mono ?_
  rintro e w4 ⟨m, rfl, hmn, hm100, hm60, rfl⟩
  have HLM := Lib.hid (HL.out.cut hmn)
  have hmc : m ≤ cap0 := Nat.le_trans hmn hc1
  clear hm60 hmn HFW
  generalize L.take m = Lm at *
  go_wp2_with fail
  go_loopw [24] (fun iv wr => ∃ (j : Nat) (R : List Mv) (T : List Ow), j ≤ m ∧ iv = .int .i64 (j : Int) ∧ Hid (Lp w bF S g M cap top W H s R T wr)) (fun iv _ => m - (intOf iv).toNat)
  case atStart => exact ⟨0, R0, TT0, by omega, rfl, HLP⟩
  case round =>
    rename World => wr
    obtain ⟨j, R, T, hj, rfl, HI⟩ := hrel
    by_cases hlt : j < m
    · obtain ⟨gl, ol, A2, n2, c2, rfl, hgl, k0, k1, k2, k3, k4, hal, hk255⟩ := (HLM.out.below HI.out.below).cell j hlt
      have hjI : (j : Int) < (m : Int) := by omega
      have hgr := Nat.lt_of_lt_of_le hgl HI.out.below.size
      generalize Lm.getD j (0, 0, 0, 0, []) = p at *
      obtain ⟨k, r, f, tt, LA⟩ := p
      have k0 : wr.cell? ⟨gl, ol + j * 5, none⟩ = some (.int .u8 (k : Int)) := k0
      have k1 : wr.cell? ⟨gl, ol + j * 5 + 1, none⟩ = some (.int .i64 r) := k1
      have k2 : wr.cell? ⟨gl, ol + j * 5 + 2, none⟩ = some (.int .i64 f) := k2
      have k3 : wr.cell? ⟨gl, ol + j * 5 + 3, none⟩ = some (.int .i64 tt) := k3
      have hk255 : k ≤ 255 := hk255
      have HAL := Lib.hid ((show Al w.heap.size wr A2 n2 c2 LA from hal).raise HI.out.below.size)
      have hBa := (Below.refl wr.heap.size wr).alloc (Nat.le_refl _) (.cells #[.int .u8 (k : Int), .int .i64 r, .int .i64 f, .int .i64 tt, .slice A2 n2 c2] 37)
      have HIa := Lib.hid (HI.out.later hBa)
      have HDO := Lib.hid (does11_any HIa.out.st HIa.out.inv hsz k hk255 r f tt A2 n2 c2 LA ((HAL.out.below hBa).raise hBa.size))
      clear hBa
      unfold stepV at HDO
      obtain ⟨f0, f1, f2, fl, _⟩ := HI.out.fb.cells
      rw [← HBF.out]
      clear hal
      go_wp2_with fail
      refine HDO.out.mono ?_
      rintro e wd ⟨x, er, R', T', rfl, hdr, hsd, hfd⟩
      have hinv' := hdr.inv HIa.out.inv
      have HId := Lib.hid (HIa.out.fr hfd hsd hinv')
      clear hdr hsd hfd hinv' HDO f0 f1 f2 fl k0 k1 k2 k3 k4 hgl hgr
      go_wp2_with fail
      go_roundw
      case rel => exact ⟨j + 1, _, _, by omega, by go_num, HId⟩
      case measure => simp [intOf]; omega
    · obtain rfl : j = m := by omega
      go_wp2_with fail
      exact bodyPost_ret (v := .tuple #[.pointer (some ⟨S, 0, none⟩), .bool true]) (by simp [results, Tryz.results28]) rfl ⟨S, g, M, cap, top, bF, R, T, rfl, HI.out⟩
end Tf
end Go.Proofs.YtellaeihcignaaaGreatDoor
