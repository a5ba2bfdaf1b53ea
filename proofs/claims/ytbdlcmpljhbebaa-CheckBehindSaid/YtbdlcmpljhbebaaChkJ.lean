/-
  The document's answers for layer 2: two, Frame, Open.
-/
import Derived.Test.YtbdlcmpljhbebaaChkI
import Derived.Lib.Bytes
set_option linter.unusedVariables false
namespace Go.Proofs.Ytbdlcmpljhbebaa
open Go.RowKit Bp Ck

theorem refTwo_any (n : Nat) (h : n < 65536) (w : World) :
    Calls Try.prog 46 #[.int .i64 (n : Int)] w fun e w' => ∃ g cap, e = .returned (.slice (some ⟨g, 0, none⟩) 2 cap) ∧ w'.ownsRow w.heap.size 5 1 (.slice (some ⟨g, 0, none⟩) 2 cap) 2 (bc (tw n)) ∧ Below w.heap.size w w' := by
  go_enter Try.func46, Try.ntmps46
  go_wp2_with fail
  refine (refBits_int n 16 _ _ (by omega) (by omega) w rfl rfl).mono ?_
  rintro e w1 ⟨v, rfl, hsh, ho, hb⟩
  have HO : Hid (w1.ownsRow w.heap.size 4 1 v (bitsOf n 16).length (bb (bitsOf n 16))) := Lib.hid (by rw [bitsOf_length]; exact ho)
  have HB := Lib.hid hb
  have hs := hb.size
  obtain ⟨va, vc, hv⟩ := ownsRow_shape ho
  rw [hv] at HO ⊢
  clear hsh ho hb hv
  go_wp2_with fail
  refine (refBytes_any _ (bitsOf n 16) _ w.heap.size HO.out (by rw [bitsOf_length]; omega)).mono ?_
  rintro e w2 ⟨v2, rfl, ho2, hb2⟩
  rw [bitsOf_length, pack_tw n h] at ho2
  obtain ⟨g, cap, hv2⟩ := shape_of ho2 (by decide)
  rw [hv2] at ho2 ⊢
  have HO2 := Lib.hid (ownsRow_lower ho2 hs)
  have HB2 := Lib.hid (HB.out.trans (hb2.mono hs))
  clear ho2 hb2 hv2
  go_wp2
  go_ret
  exact ⟨g, cap, rfl, HO2.out, HB2.out⟩

theorem refFrame_long {B : Nat} {w : World} {A : Option Addr} {n cap : Nat} {zs : List Nat} (h : By B w A n cap zs) (hn : 1000 < n) :
    Calls Try.prog 27 #[.slice A n cap] w fun e w' => e = .returned (.tuple #[.slice none 0 0, .int .i64 4]) ∧ w = w' := by
  have hle := h.le
  have hmx := h.max
  unfold maxLen at hmx
  clear h
  go_enter Try.func27, Try.ntmps27
  go_wp2
  go_ret2
  exact ⟨rfl, rfl⟩

set_option maxHeartbeats 1000000 in
theorem refFrame_ok {B : Nat} {w : World} {A : Option Addr} {n cap : Nat} {zs : List Nat} (h : By B w A n cap zs) (hB : B ≤ w.heap.size) (hn : n ≤ 1000) :
    Calls Try.prog 27 #[.slice A n cap] w fun e w' => ∃ g c, e = .returned (.tuple #[.slice (some ⟨g, 0, none⟩) (n + 4) c, .int .i64 0]) ∧ w'.ownsRow w.heap.size 5 1 (.slice (some ⟨g, 0, none⟩) (n + 4) c) (n + 4) (bc (frm zs)) ∧ Below w.heap.size w w' := by
  have HL := Lib.hid h.len
  have HBy := Lib.hid h.byte
  have HH := Lib.hid h
  clear h
  go_enter Try.func27, Try.ntmps27
  go_wp2_with fail
  refine (refTwo_any n (by omega) _).mono ?_
  rintro e w1 ⟨g1, c1, rfl, ho1, hb1⟩
  have HO1 := Lib.hid ho1
  have HB1 := Lib.hid hb1
  have hs1 := hb1.size
  have HH1 := Lib.hid (HH.out.below (hb1.mono hB))
  clear ho1 hb1 HH
  go_wp2_with (at_builtin; refine app_by rfl _ _ rfl w.heap.size _ 2 (tw n) rfl HO1.out B _ _ _ zs rfl HH1.out (by omega) hs1 ?_)
  intro v2 w2 ho2 hb2
  obtain ⟨g2, c2, hv2⟩ := shape_of ho2 (by omega)
  rw [hv2] at ho2 ⊢
  rw [show tw n ++ zs = hd zs by unfold hd; rw [HL.out]] at ho2
  have hs2 := Nat.le_trans hs1 hb2.size
  have HB2 := Lib.hid (HB1.out.trans hb2)
  have HO2 := Lib.hid ho2
  have hby : ∀ z ∈ hd zs, z ≤ 255 := hd_byte zs HBy.out (by rw [HL.out]; omega)
  have HBY := Lib.hid (By.own ho2 hby)
  have hc := crc_lt _ hby
  clear ho2 hb2 hv2 HO1 HB1 HH1 hby
  go_wp2_with fail
  refine (refSum_any HBY.out).mono ?_
  rintro e w3 ⟨rfl, rfl⟩
  obtain ⟨cr, hcr⟩ : ∃ cr, cr = crc (hd zs) := ⟨_, rfl⟩
  rw [← hcr] at hc ⊢
  have HCR := Lib.hid hcr
  clear hcr
  go_wp2_with fail
  refine (refTwo_any _ hc _).mono ?_
  rintro e w4 ⟨g4, c4, rfl, ho4, hb4⟩
  have HB4 := Lib.hid (HB2.out.trans (hb4.mono hs2))
  have hs4 := Nat.le_trans hs2 hb4.size
  have HO4 : Hid (w4.ownsRow w.heap.size 5 1 (.slice (some ⟨g2, 0, none⟩) (2 + n) c2) (2 + n) (bc (hd zs))) := Lib.hid (ownsRow_same HO2.out (fun k hk => hb4.block k (HO2.out.lt k hk).2))
  have HY4 := Lib.hid (By.own ho4 (tw_byte _ hc))
  clear ho4 hb4 HO2 HB2 HBY
  go_wp2_with (at_builtin; refine app_by rfl _ _ rfl w.heap.size _ (2 + n) (hd zs) rfl HO4.out w4.heap.size _ _ _ (tw cr) rfl HY4.out (by omega) hs4 ?_)
  intro v5 w5 ho5 hb5
  obtain ⟨g5, c5, hv5⟩ := shape_of ho5 (by omega)
  rw [hv5] at ho5 ⊢
  rw [show 2 + n + 2 = n + 4 by omega] at ho5 ⊢
  rw [HCR.out] at ho5
  have HO5 := Lib.hid ho5
  have HB5 := Lib.hid (HB4.out.trans hb5)
  clear ho5 hb5 hv5 HO4 HY4 HB4
  go_wp2
  go_ret2
  exact ⟨g5, c5, rfl, HO5.out, HB5.out⟩

theorem nums_back (l : List Nat) (hl : ∀ z ∈ l, z ≤ 255) : (Lib.bytesOf (l.map fun n : Nat => (n : Int))).map (fun u : UInt8 => u.toNat) = l := by
  unfold Lib.bytesOf
  rw [List.map_map, List.map_map]
  conv => rhs; rw [← List.map_id l]
  apply List.map_congr_left
  intro z hz
  have := hl z hz
  simp only [Function.comp, Int.toNat_natCast, id]
  exact Nat.mod_eq_of_lt (by omega)
/-- Strings of other bytes are others. -/
theorem strOf_ne (a b : List Nat) (ha : ∀ z ∈ a, z ≤ 255) (hb : ∀ z ∈ b, z ≤ 255) (h : a ≠ b) : ((strOf a).toList == (strOf b).toList) = false := by
  rw [beq_eq_false_iff_ne]
  intro e
  unfold strOf at e
  rw [Lib.strOfNums_toList, Lib.strOfNums_toList] at e
  exact h (by rw [← nums_back a ha, ← nums_back b hb, e])

/-- A frame, as the document says it. -/
theorem isFrm_ref (zs : List Nat) (hb : ∀ z ∈ zs, z ≤ 255) (h4 : 4 ≤ zs.length) : isFrm zs = true ↔ (inn zs).length ≤ 1000 ∧ frm (inn zs) = zs := by
  constructor
  · intro h
    have := isFrm_len h
    exact ⟨by rw [inn_len zs h4]; omega, frm_inn zs hb h⟩
  · rintro ⟨h1, h2⟩
    rw [← h2]
    exact isFrm_frm _ h1

end Go.Proofs.Ytbdlcmpljhbebaa
