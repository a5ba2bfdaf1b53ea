/-
  Layer 8, the document's answers: can.
-/
import Derived.Test.YtljmigomhoefpaaBkR1
set_option linter.unusedVariables false
set_option maxRecDepth 100000
namespace Go.Proofs.Ytljmigomhoefpaa.Bk
open Go.RowKit

/-- Truths at a slice, of whatever make. -/
def bvs (L : List Bool) : List Value := L.map fun b => Value.bool b
def Bt (B : Nat) (w : World) (A : Option Addr) (n cap : Nat) (L : List Bool) : Prop := Gt 1 B w A n cap (bvs L)
theorem Bt.len {B : Nat} {w : World} {A : Option Addr} {n cap : Nat} {L : List Bool} (h : Bt B w A n cap L) : L.length = n := by have := Gt.len h; simpa [bvs] using this
theorem bvs_one (L : List Bool) : ∀ u ∈ bvs L, u.oneCell' = true := by
  intro u hu
  simp only [bvs, List.mem_map] at hu
  obtain ⟨z, _, rfl⟩ := hu
  rfl
theorem bvs_get {L : List Bool} {j : Nat} (h : j < L.length) : (bvs L)[j]? = some (.bool (L.getD j false)) := by simp [bvs, List.getD, List.getElem?_eq_getElem h]
theorem Bt.cell {B : Nat} {w : World} {A : Option Addr} {n cap : Nat} {L : List Bool} (h : Bt B w A n cap L) {j : Nat} (hj : j < n) : ∃ g off, A = some ⟨g, off, none⟩ ∧ g < B ∧ w.cell? ⟨g, off + j, none⟩ = some (.bool (L.getD j false)) := by
  obtain ⟨g, off, e, hg, hc⟩ := Gt.cell h (by omega)
  exact ⟨g, off, e, hg, by rw [hc j (by omega), bvs_get (by rw [h.len]; exact hj)]⟩
/-- The places that are left. -/
def lf (L : List Bool) : List Nat := (List.range L.length).filter fun i => L.getD i false
theorem mem_lf {L : List Bool} {i : Nat} : i ∈ lf L ↔ i < L.length ∧ L.getD i false = true := by simp [lf]
theorem nodup_lf (L : List Bool) : (lf L).Nodup := List.nodup_range.sublist List.filter_sublist
theorem can_lf {C : Cm} {L : List Bool} {who : Nat} (h : ∀ t, t < L.length → L.getD t false = true → t ≠ who → ∀ z ∈ need C who, z ∉ hold C t) : can (need C) (hb C) (lf L) who = true := by
  rw [can_iff]
  intro z hz b hb' hne
  obtain ⟨h1, h2⟩ := mem_lf.1 hb'
  exact decide_eq_false (h b h1 h2 hne z hz)
theorem not_can_lf {C : Cm} {L : List Bool} {who t : Nat} {z : Int} (ht : t < L.length) (hL : L.getD t false = true) (hne : t ≠ who) (hz : z ∈ need C who) (hh : z ∈ hold C t) : ¬ can (need C) (hb C) (lf L) who = true := by
  intro h
  have := can_iff.1 h z hz t (mem_lf.2 ⟨ht, hL⟩) hne
  unfold hb at this
  rw [decide_eq_true hh] at this
  cases this
set_option maxHeartbeats 4000000 in
theorem rcan_any (A : Option Addr) (n cap : Nat) (C : Cm) (who : Nat) (A2 : Option Addr) (c2 : Nat) (L : List Bool) (w : World) (h : Cl w.heap.size w A n cap C) (hwho : who < n) (h2 : Bt w.heap.size w A2 n c2 L) :
    Calls Try.prog 34 #[.slice A n cap, .int .i64 (who : Int), .slice A2 n c2] w (Told8 (can (need C) (hb C) (lf L) who = true) w) := by
  have HC := Lib.hid h
  have HL := Lib.hid h2
  have HN := Lib.hid h2.len
  have hs1 := h.size.1
  have hs2 := h.size.2
  have hs3 := (Gt.size h2).1
  have hs4 := (Gt.size h2).2
  obtain ⟨g, off, a1, n1, c1, a2, n2, c2', rfl, hg, q1, q2, k1, k2⟩ := h.cell hwho
  have HK2 := Lib.hid k2
  have HQ2 := Lib.hid q2
  have HG := Lib.hid hg
  have HL2 := Lib.hid k2.len
  have s1 := (Gt.size k2).1
  have s2 := (Gt.size k2).2
  clear h h2 k1 k2 q1 q2 hg
  go_enter Try.func34, Try.ntmps34
  go_wp2_with fail
  go_loopw [7] (fun kv wy => ∃ k : Nat, k ≤ n ∧ kv = .int .i64 (k : Int) ∧ Hid ((∀ t, t < k → L.getD t false = true → t ≠ who → ∀ z ∈ need C who, z ∉ hold C t) ∧ Below w.heap.size w wy)) (fun kv _ => n - (intOf kv).toNat)
  case atStart => exact ⟨0, Nat.zero_le _, rfl, Lib.hid ⟨fun t ht => by omega, Below.refl _ _⟩⟩
  case round =>
    rename World => wy
    obtain ⟨k, hk, rfl, HK⟩ := hrel
    by_cases hlt : k < n
    · obtain ⟨gb, ob, rfl, _, q5⟩ := Bt.cell (Gt.below HL.out HK.out.2) hlt
      cases hbk : L.getD k false with
      | false =>
        rw [hbk] at q5
        have HKN : Hid ((∀ t, t < k + 1 → L.getD t false = true → t ≠ who → ∀ z ∈ need C who, z ∉ hold C t) ∧ Below w.heap.size w wy) := Lib.hid ⟨fun t ht hL hne => by
          rcases Nat.lt_succ_iff_lt_or_eq.1 ht with h | h
          · exact HK.out.1 t h hL hne
          · exact (by rw [h, hbk] at hL; cases hL), HK.out.2⟩
        clear hbk
        go_wp2_with fail
        go_roundw
        case rel =>
          first
          | exact ⟨k + 1, by omega, by go_num, HKN⟩
          | ((repeat apply Exists.intro); exact ⟨⟨k + 1, by omega, by go_num, HKN⟩, rfl⟩)
        case measure => simp [intOf]; omega
      | true =>
        rw [hbk] at q5
        by_cases hkw : k = who
        · have d1 : ((k : Int) == (who : Int)) = true := by rw [beq_iff_eq]; omega
          have HKN : Hid ((∀ t, t < k + 1 → L.getD t false = true → t ≠ who → ∀ z ∈ need C who, z ∉ hold C t) ∧ Below w.heap.size w wy) := Lib.hid ⟨fun t ht hL hne => by
            rcases Nat.lt_succ_iff_lt_or_eq.1 ht with h | h
            · exact HK.out.1 t h hL hne
            · exact absurd (h.trans hkw) hne, HK.out.2⟩
          clear hbk hkw
          go_wp2_with fail
          go_roundw
          case rel =>
            first
            | exact ⟨k + 1, by omega, by go_num, HKN⟩
            | ((repeat apply Exists.intro); exact ⟨⟨k + 1, by omega, by go_num, HKN⟩, rfl⟩)
          case measure => simp [intOf]; omega
        · have d1 : ((k : Int) == (who : Int)) = false := by rw [beq_eq_false_iff_ne]; omega
          have HBK := Lib.hid hbk
          have HKW := Lib.hid hkw
          clear hbk hkw
          go_wp2_with fail
          go_loopw [8] (fun jv wz => ∃ j : Nat, j ≤ n2 ∧ jv = .int .i64 (j : Int) ∧ Hid ((∀ s, s < j → (need C who).getD s 0 ∉ hold C k) ∧ Below w.heap.size w wz)) (fun jv _ => n2 - (intOf jv).toNat)
          case atStart => exact ⟨0, Nat.zero_le _, rfl, Lib.hid ⟨fun s hs => by omega, HK.out.2⟩⟩
          case round =>
            rename World => wz
            obtain ⟨j, hj, rfl, HJ⟩ := hrel
            have q2 := (HJ.out.2.cell (p := ⟨g, off + who * 2 + 1, none⟩) HG.out).trans HQ2.out
            by_cases hlt3 : j < n2
            · obtain ⟨g1, o1, rfl, _, q3⟩ := Lt.cell (Gt.below HK2.out HJ.out.2) hlt3
              obtain ⟨gd', od', b1, p1, d1', b3, p3, d3, e9, hgd', r3, r4, k3, k4⟩ := (HC.out.below HJ.out.2).cell hlt
              injection e9 with e9
              injection e9 with e10 e11
              subst e10 e11
              have HXM : Hid ((need C who).getD j 0 ∈ need C who) := Lib.hid (getD_mem (by rw [HL2.out]; exact hlt3))
              obtain ⟨x, hx⟩ : ∃ x, x = (need C who).getD j 0 := ⟨_, rfl⟩
              rw [← hx] at q3 HXM
              have HX := Lib.hid hx
              clear hx
              by_cases hin : x ∈ hold C k
              · have HMM : Hid (∀ q, Calls Try.prog 26 #[.int .i64 x, .slice b1 p1 d1'] (wz.drewN q) fun e w' => e = .returned (.bool true) ∧ w' = wz.drewN q) := Lib.hid (fun q => rin_is (Gt.below k3 (below_drewN _ _ _)) true ⟨fun _ => hin, fun _ => rfl⟩)
                have HR := Lib.hid (not_can_lf (by rw [HN.out]; exact hlt) HBK.out HKW.out HXM.out hin)
                clear k3 k4 r4 hin hgd' q5
                go_wp2_with fail
                go_big_quiet ((go_at_call 26; exact Calls.quiet_of_same (HMM.out _)))
                go_wp2_with fail
                go_ret
                exact ⟨false, rfl, iff_of_false (by decide) HR.out, HJ.out.2.trans (below_drewN _ _ _)⟩
              · have HMM : Hid (∀ q, Calls Try.prog 26 #[.int .i64 x, .slice b1 p1 d1'] (wz.drewN q) fun e w' => e = .returned (.bool false) ∧ w' = wz.drewN q) := Lib.hid (fun q => rin_is (Gt.below k3 (below_drewN _ _ _)) false ⟨(by intro h; cases h), fun h => absurd h hin⟩)
                have HJ2 : Hid (∀ q, (∀ s, s < j + 1 → (need C who).getD s 0 ∉ hold C k) ∧ Below w.heap.size w (wz.drewN q)) := Lib.hid (fun q => ⟨fun s hs => by
                  rcases Nat.lt_succ_iff_lt_or_eq.1 hs with h | h
                  · exact HJ.out.1 s h
                  · rw [h, ← HX.out]; exact hin, HJ.out.2.trans (below_drewN _ _ _)⟩)
                clear k3 k4 r4 hin hgd' q5
                go_wp2_with fail
                go_big_quiet ((go_at_call 26; exact Calls.quiet_of_same (HMM.out _)))
                go_wp2_with fail
                go_roundw
                case rel =>
                  first
                  | exact ⟨j + 1, by omega, by go_num, Lib.hid (HJ2.out _)⟩
                  | ((repeat apply Exists.intro); exact ⟨⟨j + 1, by omega, by go_num, Lib.hid (HJ2.out _)⟩, rfl⟩)
                case measure => simp [intOf]; omega
            · obtain rfl : j = n2 := by omega
              have HKN : Hid ((∀ t, t < k + 1 → L.getD t false = true → t ≠ who → ∀ z ∈ need C who, z ∉ hold C t) ∧ Below w.heap.size w wz) := Lib.hid ⟨fun t ht hL hne z hz => by
                rcases Nat.lt_succ_iff_lt_or_eq.1 ht with h | h
                · exact HK.out.1 t h hL hne z hz
                · rw [h]
                  obtain ⟨s, hs, rfl⟩ := mem_getD (d := 0) hz
                  exact HJ.out.1 s (by rw [← HL2.out]; exact hs), HJ.out.2⟩
              clear q5
              go_wp2_with fail
              go_roundw
              case rel =>
                first
                | exact ⟨k + 1, by omega, by go_num, HKN⟩
                | ((repeat apply Exists.intro); exact ⟨⟨k + 1, by omega, by go_num, HKN⟩, rfl⟩)
              case measure => simp [intOf]; omega
    · obtain rfl : k = n := by omega
      have HR : Hid (can (need C) (hb C) (lf L) who = true) := Lib.hid (can_lf (fun t ht => HK.out.1 t (by rw [← HN.out]; exact ht)))
      go_wp2_with fail
      go_ret
      exact ⟨true, rfl, iff_of_true rfl HR.out, HK.out.2⟩
end Go.Proofs.Ytljmigomhoefpaa.Bk
