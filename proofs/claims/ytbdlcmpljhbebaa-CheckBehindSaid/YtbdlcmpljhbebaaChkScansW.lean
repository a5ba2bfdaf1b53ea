/-
  The statement CheckScans: its walk.
-/
import Derived.Test.YtbdlcmpljhbebaaChkL
import Derived.Test.YtbdlcmpljhbebaaChkSumsW
set_option linter.unusedVariables false
namespace Go.Proofs.Ytbdlcmpljhbebaa
open Go.RowKit Bp Ck

theorem Bss.later {w w' : World} {A : Option Addr} {n cap : Nat} {ls : List (List Nat)} (h : Bss w.heap.size w A n cap ls) (hb : Below w.heap.size w w') : Bss w'.heap.size w' A n cap ls := (h.below hb).mono hb.size

set_option maxHeartbeats 1000000 in
theorem checkScans_walk (ao : Option Addr) (len cap : Nat) (f : Nat → Nat) (w : World) (hA : ArgIn (fun z : Nat => Value.int .u8 (z : Int)) w ao len cap f) (hf : ∀ i, i < len → f i ≤ 255) :
    Calls Try.prog 6 #[.slice ao len cap] w fun e w' => e = .returned (.bool true) ∧ Below w.heap.size w w' := by
  obtain ⟨m, hm, hm1, hm2, hy⟩ := first_by hA hf 20000
  have hle := hA.le
  have hmx := hA.max
  unfold maxLen at hmx
  have HFew := Lib.hid fun W => few2_any ao len cap m W hle hmx hm
  have HY := Lib.hid hy
  generalize listOf f m = zs at *
  clear hy hm hA hf
  go_enter Try.func6, Try.ntmps6
  go_wp2_with fail
  refine (HFew.out _).mono ?_
  rintro e w2 ⟨rfl, rfl⟩
  go_wp2_with fail
  refine (scan_any HY.out (Nat.le_refl _) (by omega)).mono ?_
  rintro e w1 ⟨fs, A1, c1, rfl, hs1, hl1, hb1⟩
  have HB1 := Lib.hid hb1
  have HL1 := Lib.hid hl1
  have HS1 := Lib.hid hs1
  clear hb1 hl1 hs1
  obtain ⟨k, hk⟩ : ∃ k, k = fs.flatten.length := ⟨_, rfl⟩
  rw [← hk]
  have HK := Lib.hid hk
  clear hk
  go_wp2_with fail
  refine (HFew.out _).mono ?_
  rintro e w2 ⟨rfl, rfl⟩
  go_wp2_with fail
  refine (refScan_any (HY.out.below HB1.out) HB1.out.size (by omega)).mono ?_
  rintro e w2 ⟨gs, A2, c2, rfl, hs2, hl2, hb2⟩
  obtain rfl := HS1.out.unique hs2
  rw [← HK.out]
  have HL2 := Lib.hid hl2
  have HL12 := Lib.hid (HL1.out.later hb2)
  have HB2 := Lib.hid (HB1.out.trans (hb2.mono HB1.out.size))
  clear hs2 hl2 hb2 HL1 HB1 HS1 HFew
  go_wp2_with fail
  refine (shown2_any _).mono ?_
  rintro e w3 ⟨rfl, hb3⟩
  have HL13 := Lib.hid (HL12.out.later hb3)
  have HL23 := Lib.hid (HL2.out.later hb3)
  have HB3 := Lib.hid (HB2.out.trans (hb3.mono HB2.out.size))
  clear hb3 HL12 HL2 HB2
  go_wp2_with fail
  refine (refSame_eq HL13.out HL23.out (Nat.le_refl _)).mono ?_
  rintro e w4 ⟨rfl, hb4⟩
  have HB4 := Lib.hid (HB3.out.trans (hb4.mono HB3.out.size))
  clear hb4 HL13 HL23 HB3
  go_wp2
  go_ret
  exact ⟨rfl, HB4.out⟩

end Go.Proofs.Ytbdlcmpljhbebaa
