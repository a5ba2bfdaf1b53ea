/-
  Layer 8, the document's answers: in, zones, Right, can.
  Layer 8, the document's answers: can.
  Layer 8, the document's answers: order (that calls itself), Order.
  Layer 8, the document's answers: Order, May.
  Layer 8, the document's answers: May.
-/
import Derived.Test.YtakgkocdkondhaaGreatDoorBkTwo
set_option linter.unusedVariables false
set_option maxRecDepth 100000
section
namespace Go.Proofs.YtakgkocdkondhaaGreatDoor.Bk
open Go.RowKit

set_option maxHeartbeats 1000000 in
theorem rin_any (z : Int) (A : Option Addr) (n c B : Nat) (L : List Int) (w : World) (h : Lt B w A n c L) : Calls Tryz.prog 117 #[.int .i64 z, .slice A n c] w (ToldE (z ∈ L) w) := by
  have HL := Lib.hid h
  have HN := Lib.hid h.len
  have s1 := (Gt.size h).1
  have s2 := (Gt.size h).2
  clear h
  go_enter Tryz.func117, Tryz.ntmps117
  go_wp2_with fail
  go_loop [5] (fun iv => ∃ j : Nat, j ≤ n ∧ iv = .int .i64 (j : Int) ∧ Hid (∀ t, t < j → L.getD t 0 ≠ z)) (fun iv => n - (intOf iv).toNat)
  case atStart => exact ⟨0, Nat.zero_le _, rfl, Lib.hid (fun t ht => by omega)⟩
  case round =>
    obtain ⟨j, hj, rfl, HJ⟩ := hrel
    by_cases hlt : j < n
    · obtain ⟨g, off, rfl, hg, q1⟩ := HL.out.cell hlt
      have HXM : Hid (L.getD j 0 ∈ L) := Lib.hid (getD_mem (by rw [HN.out]; exact hlt))
      obtain ⟨x, hx⟩ : ∃ x, x = L.getD j 0 := ⟨_, rfl⟩
      rw [← hx] at q1 HXM
      have HX := Lib.hid hx
      clear hx
      by_cases he : x = z
      · have d1 : (x == z) = true := by rw [beq_iff_eq]; exact he
        have HT : Hid (z ∈ L) := Lib.hid (by rw [← he]; exact HXM.out)
        clear he
        go_wp2_with fail
        go_ret
        exact ⟨true, rfl, iff_of_true rfl HT.out, rfl⟩
      · have d1 : (x == z) = false := by rw [beq_eq_false_iff_ne]; exact he
        have HE := Lib.hid he
        clear he
        go_wp2_with fail
        go_round
        case rel => exact ⟨j + 1, by omega, by go_num, Lib.hid (fun t ht => by
          rcases Nat.lt_succ_iff_lt_or_eq.1 ht with h | h
          · exact HJ.out t h
          · subst h; rw [← HX.out]; exact HE.out)⟩
        case measure => simp [intOf]; omega
    · obtain rfl : j = n := by omega
      have HNO : Hid (z ∉ L) := Lib.hid (fun h => by
        obtain ⟨i, hi, e⟩ := mem_getD (d := 0) h
        exact HJ.out i (by rw [← HN.out]; exact hi) e)
      go_wp2_with fail
      go_ret
      exact ⟨false, rfl, iff_of_false (by decide) HNO.out, rfl⟩
theorem rin_is {z : Int} {A : Option Addr} {n c B : Nat} {L : List Int} {w : World} (h : Lt B w A n c L) (b : Bool) (hb : b = true ↔ z ∈ L) : Calls Tryz.prog 117 #[.int .i64 z, .slice A n c] w fun e w' => e = .returned (.bool b) ∧ w' = w :=
  (rin_any z A n c B L w h).mono fun e w' ⟨b', h1, h2, h3⟩ => ⟨by
    rw [h1]
    have : b' = b := by
      cases b with
      | true => exact h2.2 (hb.1 rfl)
      | false => exact Bool.eq_false_iff.2 (fun e => by have := hb.2 (h2.1 e); cases this)
    rw [this], h3.symm⟩
set_option maxHeartbeats 1000000 in
theorem rzones_any (A : Option Addr) (n c B : Nat) (L : List Int) (w : World) (h : Lt B w A n c L) : Calls Tryz.prog 133 #[.slice A n c] w (ToldE (∀ z ∈ L, Zn z) w) := by
  have HL := Lib.hid h
  have HN := Lib.hid h.len
  have s1 := (Gt.size h).1
  have s2 := (Gt.size h).2
  clear h
  go_enter Tryz.func133, Tryz.ntmps133
  go_wp2_with fail
  go_loop [3] (fun iv => ∃ j : Nat, j ≤ n ∧ iv = .int .i64 (j : Int) ∧ Hid (∀ t, t < j → Zn (L.getD t 0))) (fun iv => n - (intOf iv).toNat)
  case atStart => exact ⟨0, Nat.zero_le _, rfl, Lib.hid (fun t ht => by omega)⟩
  case round =>
    obtain ⟨j, hj, rfl, HJ⟩ := hrel
    by_cases hlt : j < n
    · obtain ⟨g, off, rfl, hg, q1⟩ := HL.out.cell hlt
      have HXM : Hid (L.getD j 0 ∈ L) := Lib.hid (getD_mem (by rw [HN.out]; exact hlt))
      obtain ⟨x, hx⟩ : ∃ x, x = L.getD j 0 := ⟨_, rfl⟩
      rw [← hx] at q1 HXM
      have HX := Lib.hid hx
      clear hx
      by_cases h1 : x < 0
      · have d1 : decide (x < 0) = true := decide_eq_true h1
        have HT : Hid (¬ ∀ z ∈ L, Zn z) := Lib.hid (fun h => by have := (h x HXM.out).1; omega)
        go_wp2_with fail
        go_ret
        exact ⟨false, rfl, iff_of_false (by decide) HT.out, rfl⟩
      · have d1 : decide (x < 0) = false := decide_eq_false h1
        by_cases h2 : 26 ≤ x
        · have d2 : decide (26 ≤ x) = true := decide_eq_true h2
          have HT : Hid (¬ ∀ z ∈ L, Zn z) := Lib.hid (fun h => by have := (h x HXM.out).2; omega)
          go_wp2_with fail
          go_ret
          exact ⟨false, rfl, iff_of_false (by decide) HT.out, rfl⟩
        · have d2 : decide (26 ≤ x) = false := decide_eq_false h2
          have HE : Hid (Zn x) := Lib.hid ⟨by omega, by omega⟩
          go_wp2_with fail
          go_round
          case rel => exact ⟨j + 1, by omega, by go_num, Lib.hid (fun t ht => by
            rcases Nat.lt_succ_iff_lt_or_eq.1 ht with h | h
            · exact HJ.out t h
            · subst h; rw [← HX.out]; exact HE.out)⟩
          case measure => simp [intOf]; omega
    · obtain rfl : j = n := by omega
      have HY : Hid (∀ z ∈ L, Zn z) := Lib.hid (fun z h => by
        obtain ⟨i, hi, rfl⟩ := mem_getD (d := 0) h
        exact HJ.out i (by rw [← HN.out]; exact hi))
      go_wp2_with fail
      go_ret
      exact ⟨true, rfl, iff_of_true rfl HY.out, rfl⟩
/-- What has been seen of the claims is right. -/
structure Rs (C : Cm) (i : Nat) : Prop where
  zones : ∀ t, t < i → (∀ z ∈ hold C t, Zn z) ∧ ∀ z ∈ need C t, Zn z
  apart : ∀ s t, s < t → t < i → ∀ z ∈ hold C t, z ∉ hold C s
theorem Rs.right {C : Cm} (h : Rs C C.length) (h8 : C.length ≤ 8) : Rg C := by
  refine ⟨h8, h.zones, fun i j hi hj hne z hz hz' => ?_⟩
  rcases Nat.lt_or_ge i j with q | q
  · exact h.apart i j q hj z hz' hz
  · exact h.apart j i (by omega) hi z hz hz'
set_option maxHeartbeats 4000000 in
theorem rright_any (A : Option Addr) (n cap : Nat) (C : Cm) (w : World) (h : Cl w.heap.size w A n cap C) : Calls Tryz.prog 116 #[.slice A n cap] w (Told8 (Rg C) w) := by
  have HC := Lib.hid h
  have HN := Lib.hid h.len
  have hs := h.size
  have hs1 := hs.1
  have hs2 := hs.2
  clear h hs
  by_cases h8 : n ≤ 8
  · go_enter Tryz.func116, Tryz.ntmps116
    go_wp2_with fail
    go_loopw [3] (fun iv wr => ∃ i : Nat, i ≤ n ∧ iv = .int .i64 (i : Int) ∧ Hid (Rs C i ∧ Below w.heap.size w wr)) (fun iv _ => n - (intOf iv).toNat)
    case atStart => exact ⟨0, Nat.zero_le _, rfl, Lib.hid ⟨⟨fun t ht => by omega, fun s t _ ht => by omega⟩, Below.refl _ _⟩⟩
    case round =>
      rename World => wr
      obtain ⟨i, hi, rfl, HI⟩ := hrel
      by_cases hlt : i < n
      · obtain ⟨g, off, a1, n1, c1, a2, n2, c2, rfl, hg, q1, q2, k1, k2⟩ := (HC.out.below HI.out.2).cell hlt
        have HK1 := Lib.hid k1
        have HK2 := Lib.hid k2
        have HQ1 := Lib.hid q1
        have HG := Lib.hid hg
        have HL1 := Lib.hid k1.len
        have s1 := (Gt.size k1).1
        have s2 := (Gt.size k1).2
        clear k1 k2 hg
        by_cases hz1 : ∀ z ∈ hold C i, Zn z
        · have HZ1 := Lib.hid hz1
          by_cases hz2 : ∀ z ∈ need C i, Zn z
          · have HZ2 := Lib.hid hz2
            clear hz1 hz2
            go_wp2_with fail
            refine (rzones_any a1 n1 c1 _ (hold C i) _ HK1.out).mono ?_
            rintro e w' ⟨b, rfl, hb, rfl⟩
            obtain rfl : b = true := hb.2 HZ1.out
            clear hb
            go_wp2_with fail
            refine (rzones_any a2 n2 c2 _ (need C i) _ HK2.out).mono ?_
            rintro e w' ⟨b, rfl, hb, rfl⟩
            obtain rfl : b = true := hb.2 HZ2.out
            clear hb q2 q1
            go_wp2_with fail
            go_loopw [4] (fun kv wy => ∃ k : Nat, k ≤ i ∧ kv = .int .i64 (k : Int) ∧ Hid ((∀ s, s < k → ∀ z ∈ hold C i, z ∉ hold C s) ∧ Below wr.heap.size wr wy)) (fun kv _ => i - (intOf kv).toNat)
            case atStart => exact ⟨0, Nat.zero_le _, rfl, Lib.hid ⟨fun s hs => by omega, Below.refl _ _⟩⟩
            case round =>
              rename World => wy
              obtain ⟨k, hk, rfl, HK⟩ := hrel
              by_cases hlt2 : k < i
              · go_wp2_with fail
                go_loopw [5] (fun jv wz => ∃ j : Nat, j ≤ n1 ∧ jv = .int .i64 (j : Int) ∧ Hid ((∀ s, s < j → (hold C i).getD s 0 ∉ hold C k) ∧ Below wr.heap.size wr wz)) (fun jv _ => n1 - (intOf jv).toNat)
                case atStart => exact ⟨0, Nat.zero_le _, rfl, Lib.hid ⟨fun s hs => by omega, HK.out.2⟩⟩
                case round =>
                  rename World => wz
                  obtain ⟨j, hj, rfl, HJ⟩ := hrel
                  have HBZ : Hid (Below w.heap.size w wz) := Lib.hid (HI.out.2.trans (HJ.out.2.mono HI.out.2.size))
                  have q1 := ((HJ.out.2.mono HI.out.2.size).cell (p := ⟨g, off + i * 2, none⟩) HG.out).trans HQ1.out
                  by_cases hlt3 : j < n1
                  · obtain ⟨g1, o1, rfl, _, q3⟩ := Lt.cell (Gt.below HK1.out (HJ.out.2.mono HI.out.2.size)) hlt3
                    obtain ⟨gd', od', b1, p1, d1, b3, p3, d3, e9, hgd', r3, r4, k3, k4⟩ := (HC.out.below HBZ.out).cell (show k < n by omega)
                    injection e9 with e9
                    injection e9 with e10 e11
                    subst e10 e11
                    have HXM : Hid ((hold C i).getD j 0 ∈ hold C i) := Lib.hid (getD_mem (by rw [HL1.out]; exact hlt3))
                    obtain ⟨x, hx⟩ : ∃ x, x = (hold C i).getD j 0 := ⟨_, rfl⟩
                    rw [← hx] at q3 HXM
                    have HX := Lib.hid hx
                    clear hx
                    by_cases hin : x ∈ hold C k
                    · have HMM : Hid (∀ q, Calls Tryz.prog 117 #[.int .i64 x, .slice b1 p1 d1] (wz.drewN q) fun e w' => e = .returned (.bool true) ∧ w' = wz.drewN q) := Lib.hid (fun q => rin_is (Gt.below k3 (below_drewN _ _ _)) true ⟨fun _ => hin, fun _ => rfl⟩)
                      have HR : Hid (¬ Rg C) := Lib.hid (fun h => h.apart i k (by rw [HN.out]; exact hlt) (by rw [HN.out]; omega) (by omega) x HXM.out hin)
                      clear k3 k4 r4 hin hgd'
                      go_wp2_with fail
                      go_big_quiet ((go_at_call 117; exact Calls.quiet_of_same (HMM.out _)))
                      go_wp2_with fail
                      go_ret
                      exact ⟨false, rfl, iff_of_false (by decide) HR.out, HBZ.out.trans (below_drewN _ _ _)⟩
                    · have HMM : Hid (∀ q, Calls Tryz.prog 117 #[.int .i64 x, .slice b1 p1 d1] (wz.drewN q) fun e w' => e = .returned (.bool false) ∧ w' = wz.drewN q) := Lib.hid (fun q => rin_is (Gt.below k3 (below_drewN _ _ _)) false ⟨(by intro h; cases h), fun h => absurd h hin⟩)
                      have HJ2 : Hid (∀ q, (∀ s, s < j + 1 → (hold C i).getD s 0 ∉ hold C k) ∧ Below wr.heap.size wr (wz.drewN q)) := Lib.hid (fun q => ⟨fun s hs => by
                        rcases Nat.lt_succ_iff_lt_or_eq.1 hs with h | h
                        · exact HJ.out.1 s h
                        · rw [h, ← HX.out]; exact hin, HJ.out.2.trans (below_drewN _ _ _)⟩)
                      clear k3 k4 r4 hin hgd'
                      go_wp2_with fail
                      go_big_quiet ((go_at_call 117; exact Calls.quiet_of_same (HMM.out _)))
                      go_wp2_with fail
                      go_roundw
                      case rel =>
                        first
                        | exact ⟨j + 1, by omega, by go_num, Lib.hid (HJ2.out _)⟩
                        | ((repeat apply Exists.intro); exact ⟨⟨j + 1, by omega, by go_num, Lib.hid (HJ2.out _)⟩, rfl⟩)
                      case measure => simp [intOf]; omega
                  · obtain rfl : j = n1 := by omega
                    have HK2' : Hid ((∀ s, s < k + 1 → ∀ z ∈ hold C i, z ∉ hold C s) ∧ Below wr.heap.size wr wz) := Lib.hid ⟨fun s hs z hz => by
                      rcases Nat.lt_succ_iff_lt_or_eq.1 hs with h | h
                      · exact HK.out.1 s h z hz
                      · rw [h]
                        obtain ⟨t, ht, rfl⟩ := mem_getD (d := 0) hz
                        exact HJ.out.1 t (by rw [← HL1.out]; exact ht), HJ.out.2⟩
                    go_wp2_with fail
                    go_roundw
                    case rel =>
                      first
                      | exact ⟨k + 1, by omega, by go_num, HK2'⟩
                      | ((repeat apply Exists.intro); exact ⟨⟨k + 1, by omega, by go_num, HK2'⟩, rfl⟩)
                    case measure => simp [intOf]; omega
              · obtain rfl : k = i := by omega
                have HI2 : Hid (Rs C (k + 1) ∧ Below w.heap.size w wy) := Lib.hid ⟨⟨fun t ht => by
                  rcases Nat.lt_succ_iff_lt_or_eq.1 ht with h | h
                  · exact HI.out.1.zones t h
                  · rw [h]; exact ⟨HZ1.out, HZ2.out⟩, fun s t hs ht => by
                  rcases Nat.lt_succ_iff_lt_or_eq.1 ht with h | h
                  · exact HI.out.1.apart s t hs h
                  · rw [h]; exact HK.out.1 s (by omega)⟩, HI.out.2.trans (HK.out.2.mono HI.out.2.size)⟩
                go_wp2_with fail
                go_roundw
                case rel =>
                  first
                  | exact ⟨k + 1, by omega, by go_num, HI2⟩
                  | ((repeat apply Exists.intro); exact ⟨⟨k + 1, by omega, by go_num, HI2⟩, rfl⟩)
                case measure => simp [intOf]; omega
          · have HR : Hid (¬ Rg C) := Lib.hid (fun h => hz2 (h.zones i (by rw [HN.out]; exact hlt)).2)
            have HZ2 := Lib.hid hz2
            clear hz1 hz2
            go_wp2_with fail
            refine (rzones_any a1 n1 c1 _ (hold C i) _ HK1.out).mono ?_
            rintro e w' ⟨b, rfl, hb, rfl⟩
            obtain rfl : b = true := hb.2 HZ1.out
            clear hb
            go_wp2_with fail
            refine (rzones_any a2 n2 c2 _ (need C i) _ HK2.out).mono ?_
            rintro e w' ⟨b, rfl, hb, rfl⟩
            obtain rfl : b = false := Bool.eq_false_iff.2 (fun e => HZ2.out (hb.1 e))
            clear hb
            go_wp2_with fail
            go_ret
            exact ⟨false, rfl, iff_of_false (by decide) HR.out, HI.out.2⟩
        · have HR : Hid (¬ Rg C) := Lib.hid (fun h => hz1 (h.zones i (by rw [HN.out]; exact hlt)).1)
          have HZ1 := Lib.hid hz1
          clear hz1
          go_wp2_with fail
          refine (rzones_any a1 n1 c1 _ (hold C i) _ HK1.out).mono ?_
          rintro e w' ⟨b, rfl, hb, rfl⟩
          obtain rfl : b = false := Bool.eq_false_iff.2 (fun e => HZ1.out (hb.1 e))
          clear hb
          go_wp2_with fail
          go_ret
          exact ⟨false, rfl, iff_of_false (by decide) HR.out, HI.out.2⟩
      · obtain rfl : i = n := by omega
        have HR : Hid (Rg C) := Lib.hid (Rs.right (by rw [HN.out]; exact HI.out.1) (by rw [HN.out]; exact h8))
        go_wp2_with fail
        go_ret
        exact ⟨true, rfl, iff_of_true rfl HR.out, HI.out.2⟩
  · have h8I : (8 : Int) < (n : Int) := by omega
    have HR : Hid (¬ Rg C) := Lib.hid (fun h => h8 (by rw [← HN.out]; exact h.few))
    go_enter Tryz.func116, Tryz.ntmps116
    go_wp2_with fail
    go_ret
    exact ⟨false, rfl, iff_of_false (by decide) HR.out, Below.refl _ _⟩
end Go.Proofs.YtakgkocdkondhaaGreatDoor.Bk
end

section
namespace Go.Proofs.YtakgkocdkondhaaGreatDoor.Bk
open Go.RowKit

/-- Truths at a slice, of whatever make. -/
def bvs (L : List Bool) : List Value := L.map fun b => Value.bool b
def Bt (B : Nat) (w : World) (A : Option Addr) (n cap : Nat) (L : List Bool) : Prop := Gt 1 B w A n cap (bvs L)
theorem Bt.len {B : Nat} {w : World} {A : Option Addr} {n cap : Nat} {L : List Bool} (h : Bt B w A n cap L) : L.length = n := by have := Gt.len h; simpa [bvs] using this
theorem bvs_one (L : List Bool) : ∀ u ∈ bvs L, u.oneCell' = true := by
  intro u hu
  simp only [bvs, List.mem_map] at hu
  obtain ⟨z, _, rfl⟩ := hu
  rfl
theorem bvs_get {L : List Bool} {j : Nat} (h : j < L.length) : (bvs L)[j]? = some (.bool (L.getD j false)) := by simp [bvs, List.getD, List.getElem?_eq_getElem h]
theorem Bt.cell {B : Nat} {w : World} {A : Option Addr} {n cap : Nat} {L : List Bool} (h : Bt B w A n cap L) {j : Nat} (hj : j < n) : ∃ g off, A = some ⟨g, off, none⟩ ∧ g < B ∧ w.cell? ⟨g, off + j, none⟩ = some (.bool (L.getD j false)) := by
  obtain ⟨g, off, e, hg, hc⟩ := Gt.cell h (by omega)
  exact ⟨g, off, e, hg, by rw [hc j (by omega), bvs_get (by rw [h.len]; exact hj)]⟩
/-- The places that are left. -/
def lf (L : List Bool) : List Nat := (List.range L.length).filter fun i => L.getD i false
theorem mem_lf {L : List Bool} {i : Nat} : i ∈ lf L ↔ i < L.length ∧ L.getD i false = true := by simp [lf]
theorem nodup_lf (L : List Bool) : (lf L).Nodup := List.nodup_range.sublist List.filter_sublist
theorem can_lf {C : Cm} {L : List Bool} {who : Nat} (h : ∀ t, t < L.length → L.getD t false = true → t ≠ who → ∀ z ∈ need C who, z ∉ hold C t) : can (need C) (hb C) (lf L) who = true := by
  rw [can_iff]
  intro z hz b hb' hne
  obtain ⟨h1, h2⟩ := mem_lf.1 hb'
  exact decide_eq_false (h b h1 h2 hne z hz)
theorem not_can_lf {C : Cm} {L : List Bool} {who t : Nat} {z : Int} (ht : t < L.length) (hL : L.getD t false = true) (hne : t ≠ who) (hz : z ∈ need C who) (hh : z ∈ hold C t) : ¬ can (need C) (hb C) (lf L) who = true := by
  intro h
  have := can_iff.1 h z hz t (mem_lf.2 ⟨ht, hL⟩) hne
  unfold hb at this
  rw [decide_eq_true hh] at this
  cases this
set_option maxHeartbeats 4000000 in
theorem rcan_any (A : Option Addr) (n cap : Nat) (C : Cm) (who : Nat) (A2 : Option Addr) (c2 : Nat) (L : List Bool) (w : World) (h : Cl w.heap.size w A n cap C) (hwho : who < n) (h2 : Bt w.heap.size w A2 n c2 L) :
    Calls Tryz.prog 154 #[.slice A n cap, .int .i64 (who : Int), .slice A2 n c2] w (Told8 (can (need C) (hb C) (lf L) who = true) w) := by
  have HC := Lib.hid h
  have HL := Lib.hid h2
  have HN := Lib.hid h2.len
  have hs1 := h.size.1
  have hs2 := h.size.2
  have hs3 := (Gt.size h2).1
  have hs4 := (Gt.size h2).2
  obtain ⟨g, off, a1, n1, c1, a2, n2, c2', rfl, hg, q1, q2, k1, k2⟩ := h.cell hwho
  have HK2 := Lib.hid k2
  have HQ2 := Lib.hid q2
  have HG := Lib.hid hg
  have HL2 := Lib.hid k2.len
  have s1 := (Gt.size k2).1
  have s2 := (Gt.size k2).2
  clear h h2 k1 k2 q1 q2 hg
  go_enter Tryz.func154, Tryz.ntmps154
  go_wp2_with fail
  go_loopw [7] (fun kv wy => ∃ k : Nat, k ≤ n ∧ kv = .int .i64 (k : Int) ∧ Hid ((∀ t, t < k → L.getD t false = true → t ≠ who → ∀ z ∈ need C who, z ∉ hold C t) ∧ Below w.heap.size w wy)) (fun kv _ => n - (intOf kv).toNat)
  case atStart => exact ⟨0, Nat.zero_le _, rfl, Lib.hid ⟨fun t ht => by omega, Below.refl _ _⟩⟩
  case round =>
    rename World => wy
    obtain ⟨k, hk, rfl, HK⟩ := hrel
    by_cases hlt : k < n
    · obtain ⟨gb, ob, rfl, _, q5⟩ := Bt.cell (Gt.below HL.out HK.out.2) hlt
      cases hbk : L.getD k false with
      | false =>
        rw [hbk] at q5
        have HKN : Hid ((∀ t, t < k + 1 → L.getD t false = true → t ≠ who → ∀ z ∈ need C who, z ∉ hold C t) ∧ Below w.heap.size w wy) := Lib.hid ⟨fun t ht hL hne => by
          rcases Nat.lt_succ_iff_lt_or_eq.1 ht with h | h
          · exact HK.out.1 t h hL hne
          · exact (by rw [h, hbk] at hL; cases hL), HK.out.2⟩
        clear hbk
        go_wp2_with fail
        go_roundw
        case rel =>
          first
          | exact ⟨k + 1, by omega, by go_num, HKN⟩
          | ((repeat apply Exists.intro); exact ⟨⟨k + 1, by omega, by go_num, HKN⟩, rfl⟩)
        case measure => simp [intOf]; omega
      | true =>
        rw [hbk] at q5
        by_cases hkw : k = who
        · have d1 : ((k : Int) == (who : Int)) = true := by rw [beq_iff_eq]; omega
          have HKN : Hid ((∀ t, t < k + 1 → L.getD t false = true → t ≠ who → ∀ z ∈ need C who, z ∉ hold C t) ∧ Below w.heap.size w wy) := Lib.hid ⟨fun t ht hL hne => by
            rcases Nat.lt_succ_iff_lt_or_eq.1 ht with h | h
            · exact HK.out.1 t h hL hne
            · exact absurd (h.trans hkw) hne, HK.out.2⟩
          clear hbk hkw
          go_wp2_with fail
          go_roundw
          case rel =>
            first
            | exact ⟨k + 1, by omega, by go_num, HKN⟩
            | ((repeat apply Exists.intro); exact ⟨⟨k + 1, by omega, by go_num, HKN⟩, rfl⟩)
          case measure => simp [intOf]; omega
        · have d1 : ((k : Int) == (who : Int)) = false := by rw [beq_eq_false_iff_ne]; omega
          have HBK := Lib.hid hbk
          have HKW := Lib.hid hkw
          clear hbk hkw
          go_wp2_with fail
          go_loopw [8] (fun jv wz => ∃ j : Nat, j ≤ n2 ∧ jv = .int .i64 (j : Int) ∧ Hid ((∀ s, s < j → (need C who).getD s 0 ∉ hold C k) ∧ Below w.heap.size w wz)) (fun jv _ => n2 - (intOf jv).toNat)
          case atStart => exact ⟨0, Nat.zero_le _, rfl, Lib.hid ⟨fun s hs => by omega, HK.out.2⟩⟩
          case round =>
            rename World => wz
            obtain ⟨j, hj, rfl, HJ⟩ := hrel
            have q2 := (HJ.out.2.cell (p := ⟨g, off + who * 2 + 1, none⟩) HG.out).trans HQ2.out
            by_cases hlt3 : j < n2
            · obtain ⟨g1, o1, rfl, _, q3⟩ := Lt.cell (Gt.below HK2.out HJ.out.2) hlt3
              obtain ⟨gd', od', b1, p1, d1', b3, p3, d3, e9, hgd', r3, r4, k3, k4⟩ := (HC.out.below HJ.out.2).cell hlt
              injection e9 with e9
              injection e9 with e10 e11
              subst e10 e11
              have HXM : Hid ((need C who).getD j 0 ∈ need C who) := Lib.hid (getD_mem (by rw [HL2.out]; exact hlt3))
              obtain ⟨x, hx⟩ : ∃ x, x = (need C who).getD j 0 := ⟨_, rfl⟩
              rw [← hx] at q3 HXM
              have HX := Lib.hid hx
              clear hx
              by_cases hin : x ∈ hold C k
              · have HMM : Hid (∀ q, Calls Tryz.prog 117 #[.int .i64 x, .slice b1 p1 d1'] (wz.drewN q) fun e w' => e = .returned (.bool true) ∧ w' = wz.drewN q) := Lib.hid (fun q => rin_is (Gt.below k3 (below_drewN _ _ _)) true ⟨fun _ => hin, fun _ => rfl⟩)
                have HR := Lib.hid (not_can_lf (by rw [HN.out]; exact hlt) HBK.out HKW.out HXM.out hin)
                clear k3 k4 r4 hin hgd' q5
                go_wp2_with fail
                go_big_quiet ((go_at_call 117; exact Calls.quiet_of_same (HMM.out _)))
                go_wp2_with fail
                go_ret
                exact ⟨false, rfl, iff_of_false (by decide) HR.out, HJ.out.2.trans (below_drewN _ _ _)⟩
              · have HMM : Hid (∀ q, Calls Tryz.prog 117 #[.int .i64 x, .slice b1 p1 d1'] (wz.drewN q) fun e w' => e = .returned (.bool false) ∧ w' = wz.drewN q) := Lib.hid (fun q => rin_is (Gt.below k3 (below_drewN _ _ _)) false ⟨(by intro h; cases h), fun h => absurd h hin⟩)
                have HJ2 : Hid (∀ q, (∀ s, s < j + 1 → (need C who).getD s 0 ∉ hold C k) ∧ Below w.heap.size w (wz.drewN q)) := Lib.hid (fun q => ⟨fun s hs => by
                  rcases Nat.lt_succ_iff_lt_or_eq.1 hs with h | h
                  · exact HJ.out.1 s h
                  · rw [h, ← HX.out]; exact hin, HJ.out.2.trans (below_drewN _ _ _)⟩)
                clear k3 k4 r4 hin hgd' q5
                go_wp2_with fail
                go_big_quiet ((go_at_call 117; exact Calls.quiet_of_same (HMM.out _)))
                go_wp2_with fail
                go_roundw
                case rel =>
                  first
                  | exact ⟨j + 1, by omega, by go_num, Lib.hid (HJ2.out _)⟩
                  | ((repeat apply Exists.intro); exact ⟨⟨j + 1, by omega, by go_num, Lib.hid (HJ2.out _)⟩, rfl⟩)
                case measure => simp [intOf]; omega
            · obtain rfl : j = n2 := by omega
              have HKN : Hid ((∀ t, t < k + 1 → L.getD t false = true → t ≠ who → ∀ z ∈ need C who, z ∉ hold C t) ∧ Below w.heap.size w wz) := Lib.hid ⟨fun t ht hL hne z hz => by
                rcases Nat.lt_succ_iff_lt_or_eq.1 ht with h | h
                · exact HK.out.1 t h hL hne z hz
                · rw [h]
                  obtain ⟨s, hs, rfl⟩ := mem_getD (d := 0) hz
                  exact HJ.out.1 s (by rw [← HL2.out]; exact hs), HJ.out.2⟩
              clear q5
              go_wp2_with fail
              go_roundw
              case rel =>
                first
                | exact ⟨k + 1, by omega, by go_num, HKN⟩
                | ((repeat apply Exists.intro); exact ⟨⟨k + 1, by omega, by go_num, HKN⟩, rfl⟩)
              case measure => simp [intOf]; omega
    · obtain rfl : k = n := by omega
      have HR : Hid (can (need C) (hb C) (lf L) who = true) := Lib.hid (can_lf (fun t ht => HK.out.1 t (by rw [← HN.out]; exact ht)))
      go_wp2_with fail
      go_ret
      exact ⟨true, rfl, iff_of_true rfl HR.out, HK.out.2⟩
end Go.Proofs.YtakgkocdkondhaaGreatDoor.Bk
end

section
namespace Go.Proofs.YtakgkocdkondhaaGreatDoor.Bk
open Go.RowKit

theorem Tryz.infoBool8 : (Tryz.prog.info? 4).map (fun i => (i.zero, i.size, i.bytes)) = some (some (.bool false), 1, 1) := by kernel_rfl
theorem first_some {f : Nat → Option (List Nat)} {x : List Nat} : ∀ {S : List Nat} {a : Nat}, S.Pairwise (· < ·) → a ∈ S → (∀ t ∈ S, t < a → f t = none) → f a = some x → S.findSome? f = some x
  | [], a, _, h, _, _ => by cases h
  | b :: S, a, hp, h, hn, hf => by
    rw [List.findSome?_cons]
    by_cases e : b = a
    · subst e; rw [hf]
    · have ha : a ∈ S := by
        rcases List.mem_cons.1 h with q | q
        · exact absurd q.symm e
        · exact q
      rw [hn b (by simp) ((List.pairwise_cons.1 hp).1 a ha)]
      exact first_some (List.pairwise_cons.1 hp).2 ha (fun t ht => hn t (by simp [ht])) hf
theorem pairwise_lf (L : List Bool) : (lf L).Pairwise (· < ·) := List.pairwise_lt_range.sublist List.filter_sublist
theorem getD_setb {L : List Bool} {i j : Nat} (hi : i < L.length) : (L.set i false).getD j false = if j = i then false else L.getD j false := by
  simp only [List.getD, List.getElem?_set]
  by_cases h : i = j
  · subst h; simp [hi]
  · rw [if_neg h, if_neg (fun e => h e.symm)]
theorem lf_set {L : List Bool} {i : Nat} (hi : i < L.length) : lf (L.set i false) = (lf L).erase i := by
  rw [(nodup_lf L).erase_eq_filter]
  unfold lf
  rw [List.filter_filter, List.length_set]
  apply List.filter_congr
  intro j hj
  rw [getD_setb hi]
  by_cases e : j = i
  · subst e; simp
  · simp [e]
/-- What the document tries of one. -/
def rtry (nd : Nat → List Int) (hd : Nat → Int → Bool) (q : Nat) (S : List Nat) (a : Nat) : Option (List Nat) := if can nd hd S a then (rord nd hd q (S.erase a)).map (a :: ·) else none
theorem rord_succ (nd : Nat → List Int) (hd : Nat → Int → Bool) (q : Nat) (S : List Nat) : rord nd hd (q + 1) S = S.findSome? (rtry nd hd q S) := rfl
/-- The document's order is told. -/
def RordTold (nd : Nat → List Int) (hd : Nat → Int → Bool) (q : Nat) (S : List Nat) (w : World) (e : Ending) (w' : World) : Prop :=
  Below w.heap.size w w' ∧ ((e = .returned (.tuple #[.slice none 0 0, .bool false]) ∧ rord nd hd q S = none) ∨ ∃ A m c o, e = .returned (.tuple #[.slice A m c, .bool true]) ∧ m = o.length ∧ rord nd hd q S = some o ∧ Iw w' w.heap.size (.slice A m c) (nz o))
/-- Truths of one's own. -/
def Bw (w : World) (base : Nat) (v : Value) (L : List Bool) : Prop := w.ownsRow base 4 1 v L.length (bvs L)
theorem Bw.bt {w : World} {base : Nat} {A : Option Addr} {n cap : Nat} {L : List Bool} (h : Bw w base (.slice A n cap) L) : n = L.length ∧ Bt w.heap.size w A n cap L := by
  obtain ⟨rfl, h2⟩ := gt_own h
  exact ⟨rfl, h2⟩
theorem app_bools {w : World} {ops : Array Oper} {rest : List Oper} {o : Oper} {a : Act} {Q : Exit → Act → World → Prop} (hgd : o.guard = none) (s x : Operand) (ho : o.op = .call { callee := .builtin .append, args := #[s, x], argTypes := #[134, 134] })
    (base : Nat) (v : Value) (xs : List Bool) (hs : a.eval s = v) (hown : Bw w base v xs)
    (A : Option Addr) (m c : Nat) (ys : List Bool) (hx : a.eval x = .slice A m c) (hr : Bt w.heap.size w A m c ys) (hb : xs.length + m ≤ 1000000) (hbase : base ≤ w.heap.size)
    (h : ∀ A' n' c' w', n' = (xs ++ ys).length → Bw w' base (.slice A' n' c') (xs ++ ys) → Below base w w' → wpList Tryz.prog ops Q rest (a.put o.dst (.slice A' n' c')) w') : wpList Tryz.prog ops Q (o :: rest) a w := by
  obtain ⟨i0, hi, hz0, hz1, hz2⟩ := info_parts Tryz.infoBool8
  refine appG 134 4 i0 _ 1 1 Tryz.underlying134 hi hz0 hz1 hz2 rfl (by decide) (by decide) hgd s x ho base v xs.length (bvs xs) hs hown A m c (bvs ys) hx hr (bvs_one ys) hb hbase ?_
  intro A' c' w' h1 h2 h3 h4
  have e : xs.length + m = (xs ++ ys).length := by rw [List.length_append, hr.len]
  refine h A' _ c' w' e (by unfold Bw bvs; rw [List.map_append, ← e]; exact h1) h2
theorem own_one (w : World) (z : Int) (base : Nat) (hb : base ≤ w.heap.size) : Iw (w.alloc (.cells #[.int .i64 z] 3)) base (.slice (some ⟨w.heap.size, 0, none⟩) 1 1) [z] :=
  ⟨by simp [ivs], .inr ⟨w.heap.size, 1, #[.int .i64 z], rfl, hb, heap_alloc_new w _, Nat.le_refl _, by unfold maxLen; omega, by simp, by simp [ivs]⟩⟩
theorem Bw.put {w : World} {base g n c i : Nat} {L : List Bool} (h : Bw w base (.slice (some ⟨g, 0, none⟩) n c) L) (hi : i < L.length) : Bw (w.setCell ⟨g, i, none⟩ (.bool false)) base (.slice (some ⟨g, 0, none⟩) n c) (L.set i false) := by
  have := own_put h (x := i) (by simpa [bvs] using hi) (.bool false)
  unfold Bw
  rw [List.length_set, show bvs (L.set i false) = (bvs L).set i (.bool false) by simp [bvs, List.map_set]]
  exact this
theorem Bw.block {w : World} {base n c : Nat} {A : Option Addr} {L : List Bool} (h : Bw w base (.slice A n c) L) (hL : 0 < L.length) : ∃ g, A = Option.some ⟨g, 0, none⟩ ∧ base ≤ g ∧ g < w.heap.size := by
  have hl := World.ownsRow.lt h
  rcases h.2 with ⟨_, q⟩ | ⟨g, cap, cur, q, hg, _⟩
  · omega
  · injection q with q1 q2 q3
    subst q1
    exact ⟨g, rfl, hg, (hl g rfl).2⟩
theorem Bw.cells {w : World} {base g n c i : Nat} {L : List Bool} (h : Bw w base (.slice (some ⟨g, 0, none⟩) n c) L) (hi : i < L.length) : w.cell? ⟨g, i, none⟩ = Option.some (.bool (L.getD i false)) ∧ w.frozen? ⟨g, i, none⟩ = false := by
  have hm := h.bt.1
  unfold Bw at h
  subst hm
  refine ⟨?_, h.frozenAt _⟩
  rw [h.cellAt _ (by omega), bvs_get hi]
set_option maxHeartbeats 4000000 in
theorem rorder_any (A : Option Addr) (n cap : Nat) (C : Cm) (hn : n ≤ 8) : ∀ (q many : Nat) (A2 : Option Addr) (c2 : Nat) (L : List Bool) (w : World), many = q → Cl w.heap.size w A n cap C → Bt w.heap.size w A2 n c2 L → (lf L).length = q →
    Calls Tryz.prog 134 #[.slice A n cap, .slice A2 n c2, .int .i64 (many : Int)] w (RordTold (need C) (hb C) q (lf L) w) := by
  intro q
  induction q with
  | zero =>
    intro many A2 c2 L w hm hC hL hq
    subst hm
    clear hC hL
    go_enter Tryz.func134, Tryz.ntmps134
    go_wp2_with fail
    go_ret2
    exact ⟨Below.refl _ _, .inr ⟨_, _, _, [], rfl, rfl, rfl, Iw.nil _ _⟩⟩
  | succ q ih =>
    intro many A2 c2 L w hm hC hL hq
    have HIH := Lib.hid ih
    have HC := Lib.hid hC
    have HL := Lib.hid hL
    have HN := Lib.hid hL.len
    have HQ := Lib.hid hq
    have hs1 := hC.size.1
    have hs2 := hC.size.2
    have hs3 := (Gt.size hL).1
    have hs4 := (Gt.size hL).2
    have hq8 : (lf L).length ≤ 8 := by
      have : (lf L).length ≤ L.length := by unfold lf; exact Nat.le_trans (List.length_filter_le _ _) (by simp)
      have := hL.len
      omega
    have hm0 : ((many : Int) == 0) = false := by rw [beq_eq_false_iff_ne]; omega
    have hw : IntKind.i64.wrap ((many : Int) - 1) = (q : Int) := by rw [IntWalk.i64_in _ (by omega)]; omega
    clear ih hC hL hq hq8 hm
    go_enter Tryz.func134, Tryz.ntmps134
    go_wp2_with fail
    go_loopw [8] (fun iv wr => ∃ i : Nat, i ≤ n ∧ iv = .int .i64 (i : Int) ∧ Hid ((∀ t ∈ lf L, t < i → rtry (need C) (hb C) q (lf L) t = none) ∧ Below w.heap.size w wr)) (fun iv _ => n - (intOf iv).toNat)
    case atStart => exact ⟨0, Nat.zero_le _, rfl, Lib.hid ⟨fun t _ ht => by omega, Below.refl _ _⟩⟩
    case round =>
      rename World => wr
      obtain ⟨i, hi, rfl, HI⟩ := hrel
      by_cases hlt : i < n
      · have HLr := Lib.hid (Gt.later HL.out HI.out.2)
        have HCr := Lib.hid (HC.out.later HI.out.2)
        obtain ⟨gb, ob, rfl, _, q5⟩ := Bt.cell HLr.out hlt
        cases hbk : L.getD i false with
        | false =>
          rw [hbk] at q5
          have HKN : Hid ((∀ t ∈ lf L, t < i + 1 → rtry (need C) (hb C) q (lf L) t = none) ∧ Below w.heap.size w wr) := Lib.hid ⟨fun t hm ht => by
            rcases Nat.lt_succ_iff_lt_or_eq.1 ht with h | h
            · exact HI.out.1 t hm h
            · have := (mem_lf.1 hm).2
              rw [h, hbk] at this; exact absurd this (by decide), HI.out.2⟩
          clear hbk
          go_wp2_with fail
          go_roundw
          case rel =>
            first
            | exact ⟨i + 1, by omega, by go_num, HKN⟩
            | ((repeat apply Exists.intro); exact ⟨⟨i + 1, by omega, by go_num, HKN⟩, rfl⟩)
          case measure => simp [intOf]; omega
        | true =>
          rw [hbk] at q5
          have HIM : Hid (i ∈ lf L) := Lib.hid (mem_lf.2 ⟨by rw [HN.out]; exact hlt, hbk⟩)
          clear hbk
          go_wp2_with fail
          refine (rcan_any A n cap C i _ c2 L _ HCr.out hlt HLr.out).mono ?_
          rintro e wc ⟨b, rfl, hb, hcc⟩
          have HBC := Lib.hid (HI.out.2.trans (hcc.mono HI.out.2.size))
          have HLc := Lib.hid (Gt.later HLr.out hcc)
          have HCc := Lib.hid (HCr.out.later hcc)
          cases b with
          | false =>
            have HKN : Hid ((∀ t ∈ lf L, t < i + 1 → rtry (need C) (Bk.hb C) q (lf L) t = none) ∧ Below w.heap.size w wc) := Lib.hid ⟨fun t hm ht => by
              rcases Nat.lt_succ_iff_lt_or_eq.1 ht with h | h
              · exact HI.out.1 t hm h
              · rw [h]
                unfold rtry
                rw [if_neg (fun e => by have := hb.2 e; cases this)], HBC.out⟩
            clear hb hcc
            go_wp2_with fail
            go_roundw
            case rel =>
              first
              | exact ⟨i + 1, by omega, by go_num, HKN⟩
              | ((repeat apply Exists.intro); exact ⟨⟨i + 1, by omega, by go_num, HKN⟩, rfl⟩)
            case measure => simp [intOf]; omega
          | true =>
            have HCAN := Lib.hid (hb.1 rfl)
            have hA := (Below.refl wc.heap.size wc).alloc (Nat.le_refl _) (.cells #[] 4)
            have HEMP : Hid (Bw (wc.alloc (.cells #[] 4)) wc.heap.size (.slice (some ⟨wc.heap.size, 0, none⟩) 0 0) []) := Lib.hid (own_empty wc 4 1 wc.heap.size (Nat.le_refl _))
            have HLA := Lib.hid (Gt.later HLc.out hA)
            have HAA := Lib.hid hA
            have HLL : Hid (([] : List Bool).length + n ≤ 1000000) := Lib.hid (by simp; omega)
            clear hb hcc hA q5
            go_wp2_with (at_builtin; refine app_bools rfl _ _ rfl wc.heap.size (.slice (some ⟨wc.heap.size, 0, none⟩) 0 0) [] rfl HEMP.out _ n c2 L rfl HLA.out HLL.out (by simp) ?_; intro A5 n5 c5 w5 hn5 ho5 hb5; have HO5 := Lib.hid ho5; have HB5 := Lib.hid (HAA.out.trans hb5); have HN5 := Lib.hid hn5; obtain ⟨g5, rfl, hg51, hg52⟩ := ho5.block (by rw [List.nil_append, HN.out]; omega); have y0 := (ho5.cells (i := i) (by rw [List.nil_append, HN.out]; exact hlt)).1; have y1 := (ho5.cells (i := i) (by rw [List.nil_append, HN.out]; exact hlt)).2; have hn5' : n5 = n := (by rw [hn5, List.nil_append, HN.out]); subst hn5'; have HG5 := Lib.hid (And.intro hg51 hg52); clear ho5 hb5 hn5 hg51 hg52)
            have HO6 : Hid (Bw w5 wc.heap.size (.slice (some ⟨g5, 0, none⟩) n5 c5) L) := HO5
            have HPUT : Hid (Bw (w5.setCell ⟨g5, i, none⟩ (.bool false)) wc.heap.size (.slice (some ⟨g5, 0, none⟩) n5 c5) (L.set i false) ∧ Below wc.heap.size wc (w5.setCell ⟨g5, i, none⟩ (.bool false))) := Lib.hid ⟨HO6.out.put (by rw [HN.out]; exact hlt), HB5.out.setCell HG5.out.1 _⟩
            have HCp := Lib.hid (HCc.out.later HPUT.out.2)
            have HLF := Lib.hid (lf_set (L := L) (i := i) (by rw [HN.out]; exact hlt))
            have HBP := Lib.hid (HBC.out.trans (HPUT.out.2.mono HBC.out.size))
            have HREC := Lib.hid (HIH.out q _ _ (L.set i false) _ rfl HCp.out HPUT.out.1.bt.2 (by rw [HLF.out, List.length_erase_of_mem HIM.out, HQ.out]; rfl))
            go_wp2_with fail
            clear y0 y1
            generalize w5.setCell ⟨g5, i, none⟩ (.bool false) = wp at *
            refine HREC.out.mono ?_
            rintro e wz ⟨hbz, hh⟩
            have HBZ := Lib.hid (HBP.out.trans (hbz.mono HBP.out.size))
            clear hbz
            rcases hh with ⟨rfl, hno⟩ | ⟨A6, m6, c6, o, rfl, hm6, ho6, hown6⟩
            · have HKN : Hid ((∀ t ∈ lf L, t < i + 1 → rtry (need C) (hb C) q (lf L) t = none) ∧ Below w.heap.size w wz) := Lib.hid ⟨fun t hm ht => by
                rcases Nat.lt_succ_iff_lt_or_eq.1 ht with h | h
                · exact HI.out.1 t hm h
                · rw [h]
                  unfold rtry
                  rw [if_pos HCAN.out, ← HLF.out, hno]; rfl, HBZ.out⟩
              clear hno
              go_wp2_with fail
              go_roundw
              case rel =>
                first
                | exact ⟨i + 1, by omega, by go_num, HKN⟩
                | ((repeat apply Exists.intro); exact ⟨⟨i + 1, by omega, by go_num, HKN⟩, rfl⟩)
              case measure => simp [intOf]; omega
            · have HFIN : Hid (rord (need C) (hb C) (q + 1) (lf L) = some (i :: o)) := Lib.hid (by
                rw [rord_succ]
                refine first_some (pairwise_lf L) HIM.out HI.out.1 ?_
                unfold rtry
                rw [if_pos HCAN.out, ← HLF.out, ho6]; rfl)
              have hA := (Below.refl wz.heap.size wz).alloc (Nat.le_refl _) (.cells #[.int .i64 (i : Int)] 3)
              have HAA2 := Lib.hid hA
              have HI6 := Lib.hid (Gt.later hown6.lt.2 hA)
              have HONE := Lib.hid (own_one wz (i : Int) wz.heap.size (Nat.le_refl _))
              have HLO : Hid ([(i : Int)].length + m6 ≤ 1000000) := Lib.hid (by
                have h1 := (lf L).length_filter_le (fun _ => true)
                have : o.length ≤ 8 := by
                  have h2 : (lf (L.set i false)).length = q := by rw [HLF.out, List.length_erase_of_mem HIM.out, HQ.out]; rfl
                  have h3 := rord_eq (nodup_lf (L.set i false)) h2 (nd := need C) (hd := hb C)
                  rw [h3] at ho6
                  have h4 := (ord_some (nodup_lf (L.set i false)) h2 ho6).2.2.2
                  have h5 : (lf L).length ≤ L.length := by unfold lf; exact Nat.le_trans (List.length_filter_le _ _) (by simp)
                  have h6 := HN.out
                  have h7 := HQ.out
                  omega
                simp; omega)
              clear hm6 ho6 hown6 hA
              go_wp2_with (at_builtin; refine app_ints rfl _ _ rfl wz.heap.size (.slice (some ⟨wz.heap.size, 0, none⟩) 1 1) [(i : Int)] rfl HONE.out A6 m6 c6 (nz o) rfl HI6.out HLO.out (by simp) ?_; intro A7 n7 c7 w7 hn7 ho7 hb7 hg7 hd7; have HO7 := Lib.hid ho7; have HB7 := Lib.hid (HAA2.out.trans hb7); have HN7 := Lib.hid hn7; clear ho7 hb7 hn7 hg7 hd7)
              go_ret2
              exact ⟨HBZ.out.trans (HB7.out.mono HBZ.out.size), .inr ⟨_, _, _, i :: o, rfl, by rw [HN7.out]; simp [nz], HFIN.out, own_lower HO7.out HBZ.out.size⟩⟩
      · obtain rfl : i = n := by omega
        have HNO : Hid (rord (need C) (hb C) (q + 1) (lf L) = none) := Lib.hid (by
          rw [rord_succ, List.findSome?_eq_none_iff]
          intro t ht
          exact HI.out.1 t ht (by rw [← HN.out]; exact (mem_lf.1 ht).1))
        go_wp2_with fail
        go_ret2
        exact ⟨HI.out.2, .inl ⟨rfl, HNO.out⟩⟩
end Go.Proofs.YtakgkocdkondhaaGreatDoor.Bk
end

section
namespace Go.Proofs.YtakgkocdkondhaaGreatDoor.Bk
open Go.RowKit

def fillb (n j : Nat) : List Bool := List.replicate j true ++ List.replicate (n - j) false
theorem fillb_length {n j : Nat} (h : j ≤ n) : (fillb n j).length = n := by simp [fillb]; omega
theorem fillb_put {n j : Nat} (h : j < n) : (fillb n j).set j true = fillb n (j + 1) := by
  unfold fillb
  rw [List.set_append_right _ _ (by simp)]
  have e : n - j = (n - (j + 1)) + 1 := by omega
  rw [e, List.replicate_succ (n := n - (j + 1)), List.length_replicate, Nat.sub_self, List.set_cons_zero, List.replicate_succ' (n := j), List.append_assoc]
  rfl
theorem lf_all (n : Nat) : lf (fillb n n) = List.range n := by
  unfold lf
  rw [fillb_length (Nat.le_refl _), List.filter_eq_self]
  intro i hi
  rw [List.mem_range] at hi
  simp [fillb, List.getD, hi]
theorem Bw.putb {w : World} {base g n c i : Nat} {L : List Bool} (h : Bw w base (.slice (some ⟨g, 0, none⟩) n c) L) (hi : i < L.length) (b : Bool) : Bw (w.setCell ⟨g, i, none⟩ (.bool b)) base (.slice (some ⟨g, 0, none⟩) n c) (L.set i b) := by
  have := own_put h (x := i) (by simpa [bvs] using hi) (.bool b)
  unfold Bw
  rw [List.length_set, show bvs (L.set i b) = (bvs L).set i (.bool b) by simp [bvs, List.map_set]]
  exact this
theorem made_fillb {w1 : World} {base g n : Nat} (h : w1.ownsRow base 4 1 (.slice (some ⟨g, 0, none⟩) n n) n (madeCells (Value.bool false).cells (n * 1)).toList) : Bw w1 base (.slice (some ⟨g, 0, none⟩) n n) (fillb n 0) := by
  unfold Bw
  rw [fillb_length (Nat.zero_le _)]
  have e : (madeCells (Value.bool false).cells (n * 1)).toList = bvs (fillb n 0) := by
    have hc : (Value.bool false).cells = #[.bool false] := by kernel_rfl
    apply List.ext_getElem
    · simp [madeCells, fillb, bvs]
    · intro i h1 h2
      simp [madeCells, hc, fillb, bvs, Nat.mod_one]
  rw [e] at h
  exact h
set_option maxHeartbeats 4000000 in
theorem r8order_any (A : Option Addr) (n cap : Nat) (C : Cm) (w : World) (h : Cl w.heap.size w A n cap C) : Calls Tryz.prog 118 #[.slice A n cap] w (OrdTold C w) := by
  have HC := Lib.hid h
  have HN := Lib.hid h.len
  have hs := h.size
  have hs1 := hs.1
  have hs2 := hs.2
  clear h hs
  obtain ⟨i0, hi, hz0, hz1, hz2⟩ := info_parts Tryz.infoBool8
  go_enter Tryz.func118, Tryz.ntmps118
  go_wp2_with fail
  refine (rright_any A n cap C w HC.out).mono ?_
  rintro e w1 ⟨b, rfl, hb, hc1⟩
  have HB1 := Lib.hid hc1
  have HC1 := Lib.hid (HC.out.later hc1)
  cases b with
  | false =>
    have HR : Hid (¬ Rg C) := Lib.hid (fun h => by have := hb.2 h; cases this)
    clear hb hc1 hi hz0 hz1 hz2
    go_wp2_with fail
    go_ret2
    exact ⟨_, _, _, [], false, rfl, rfl, .inl ⟨HR.out, rfl, rfl⟩, Iw.nil _ _, HB1.out⟩
  | true =>
    have HR : Hid (Rg C) := Lib.hid (hb.1 rfl)
    have hn8 : n ≤ 8 := by rw [← HN.out]; exact HR.out.few
    clear hb hc1
    go_wp2_with (at_make; go_must (refine wpList_make_full _ rfl _ _ 134 rfl w1.heap.size 4 i0 (.bool false) 1 Tryz.underlying134 hi hz0 hz1 .i64 .i64 _ _ n rfl rfl rfl rfl (by rw [hz2]; omega) (by unfold maxLen; omega) (by simp) ?_); intro w2 ho2 hg2; have hO2 := made_fillb ho2; have hB2 : Below w1.heap.size w1 w2 := (Below.grown (Below.refl _ w1) hg2 (by simp) (fun k hk => by cases hk)); have HO2 := Lib.hid hO2; have HB2 := Lib.hid hB2; clear ho2 hg2 hO2 hB2)
    clear hi hz0 hz1 hz2
    go_loopw [5] (fun iv wr => ∃ j : Nat, j ≤ n ∧ iv = .int .i64 (j : Int) ∧ Hid (Bw wr w1.heap.size (.slice (some ⟨w1.heap.size, 0, none⟩) n n) (fillb n j) ∧ Below w1.heap.size w1 wr)) (fun iv _ => n - (intOf iv).toNat)
    case atStart => exact ⟨0, Nat.zero_le _, rfl, Lib.hid ⟨HO2.out, HB2.out⟩⟩
    case round =>
      rename World => wr
      obtain ⟨j, hj, rfl, HJ⟩ := hrel
      by_cases hlt : j < n
      · have y0 := (HJ.out.1.cells (i := j) (by rw [fillb_length hj]; exact hlt)).1
        have y1 := (HJ.out.1.cells (i := j) (by rw [fillb_length hj]; exact hlt)).2
        have HP : Hid (Bw (wr.setCell ⟨w1.heap.size, j, none⟩ (.bool true)) w1.heap.size (.slice (some ⟨w1.heap.size, 0, none⟩) n n) (fillb n (j + 1)) ∧ Below w1.heap.size w1 (wr.setCell ⟨w1.heap.size, j, none⟩ (.bool true))) := Lib.hid ⟨by
          have := HJ.out.1.putb (i := j) (by rw [fillb_length hj]; exact hlt) true
          rwa [fillb_put hlt] at this, HJ.out.2.setCell (Nat.le_refl _) _⟩
        generalize (fillb n j).getD j false = bj at *
        go_wp2_with fail
        go_roundw
        case rel => exact ⟨j + 1, by omega, by go_num, HP⟩
        case measure => simp [intOf]; omega
      · obtain rfl : j = n := by omega
        have HBW := Lib.hid (HB1.out.trans (HJ.out.2.mono HB1.out.size))
        have HOR := Lib.hid (rorder_any A j cap C hn8 j j _ j (fillb j j) wr rfl (HC1.out.later HJ.out.2) HJ.out.1.bt.2 (by rw [lf_all, List.length_range]))
        rw [lf_all] at HOR
        go_wp2_with fail
        refine HOR.out.mono ?_
        rintro e w5 ⟨hb5, hh⟩
        have HB5 := Lib.hid (HBW.out.trans (hb5.mono HBW.out.size))
        have HEQ : Hid (rord (need C) (hb C) j (List.range j) = ord (need C) (hb C) j (List.range j)) := Lib.hid (rord_eq List.nodup_range List.length_range)
        clear hb5
        rcases hh with ⟨rfl, hno⟩ | ⟨A3, m3, c3, o, rfl, hm, ho, hown⟩
        · have HO := Lib.hid hno
          clear hno
          go_wp2_with fail
          go_ret2
          exact ⟨_, _, _, [], false, rfl, rfl, .inr ⟨HR.out, .inl ⟨by rw [HN.out, ← HEQ.out]; exact HO.out, rfl, rfl⟩⟩, Iw.nil _ _, HB5.out⟩
        · have HO := Lib.hid ho
          have HW := Lib.hid hown
          have HM := Lib.hid hm
          clear ho hown hm
          go_wp2_with fail
          go_ret2
          exact ⟨_, _, _, o, true, rfl, HM.out, .inr ⟨HR.out, .inr ⟨by rw [HN.out, ← HEQ.out]; exact HO.out, rfl⟩⟩, own_lower HW.out HBW.out.size, HB5.out⟩
/-- A zone is given ahead of all that one holds. -/
def ahead (C : Cm) (who : Nat) (z : Int) : Cm := C.set who (z :: hold C who, need C who)
theorem ahead_right {C : Cm} (h : Rg C) {who : Nat} (hw : who < C.length) {z : Int} (hz : Zn z) (hn : ∀ j, j < C.length → z ∉ hold C j) : Rg (ahead C who z) := by
  have hs : ∀ j y, y ∈ hold (ahead C who z) j → y ∈ hold (give C who z) j := fun j y hy => by
    unfold ahead at hy
    unfold give
    rw [hold_set hw] at hy ⊢
    split
    · rename_i e
      rw [if_pos e] at hy
      rcases List.mem_cons.1 hy with q | q
      · exact List.mem_append.2 (.inr (by simp [q]))
      · exact List.mem_append.2 (.inl q)
    · rename_i e; rw [if_neg e] at hy; exact hy
  have hl : (ahead C who z).length = (give C who z).length := by simp [ahead, give]
  have hnd : ∀ j, need (ahead C who z) j = need (give C who z) j := fun j => by
    unfold ahead give
    rw [need_set hw, need_set hw]
  have hg := rg_give h hw hz hn
  exact ⟨by rw [hl]; exact hg.few, fun j hj => ⟨fun y hy => (hg.zones j (by rw [← hl]; exact hj)).1 y (hs j y hy), fun y hy => (hg.zones j (by rw [← hl]; exact hj)).2 y (by rw [← hnd]; exact hy)⟩, fun i j hi hj hne y hy hy' => hg.apart i j (by rw [← hl]; exact hi) (by rw [← hl]; exact hj) hne y (hs i y hy) (hs j y hy')⟩
theorem ahead_saf {C : Cm} {who : Nat} (hw : who < C.length) (z : Int) : SafC (ahead C who z) ↔ Saf (need C) (gv (hb C) who z) (List.range C.length) := by
  rw [← saf_give hw z]
  have hh : hb (ahead C who z) = hb (give C who z) := by
    funext b y
    unfold hb ahead give
    rw [hold_set hw, hold_set hw]
    by_cases e : b = who
    · rw [if_pos e, if_pos e, decide_eq_decide]
      simp only [List.mem_cons, List.mem_append, List.not_mem_nil, or_false]
      exact Or.comm
    · rw [if_neg e, if_neg e]
  have hn : need (ahead C who z) = need (give C who z) := by
    funext b
    unfold ahead give
    rw [need_set hw, need_set hw]
  unfold SafC
  rw [hh, hn]
  simp [ahead, give]
end Go.Proofs.YtakgkocdkondhaaGreatDoor.Bk
end

section
namespace Go.Proofs.YtakgkocdkondhaaGreatDoor.Bk
open Go.RowKit

/-- One claim, in a block of its own. -/
theorem gt_one (w : World) (u v : Value) : Gt 2 (w.alloc (.cells #[u, v] 64)).heap.size (w.alloc (.cells #[u, v] 64)) (some ⟨w.heap.size, 0, none⟩) 1 1 (pcl [(u, v)]) := by
  refine ⟨rfl, Nat.le_refl _, by unfold maxLen; omega, fun h => (by cases h), fun _ => ⟨w.heap.size, 0, rfl, by simp, fun j hj => ?_⟩⟩
  rcases (by omega : j = 0 ∨ j = 1) with rfl | rfl <;> simp [World.cell?_alloc_new, pcl]
theorem gt_one_at (w : World) (b : Nat) (hb : b = w.heap.size) (u v : Value) : Gt 2 (w.alloc (.cells #[u, v] 64)).heap.size (w.alloc (.cells #[u, v] 64)) (some ⟨b, 0, none⟩) 1 1 (pcl [(u, v)]) := by
  subst hb; exact gt_one w u v
/-- A claim of the list under way, for the j-th: as it is, or with the zone ahead of what it holds. -/
def Pr (w0 : World) (C : Cm) (k : Nat) (z : Int) (v : Value) (wr : World) (j : Nat) (p : Value × Value) : Prop :=
  (j ≠ k → Sl w0.heap.size wr p.1 (hold C j)) ∧ (j = k → Iw wr w0.heap.size p.1 (z :: hold C k) ∧ ∀ b, p.1.ownBlock = some b → v.ownBlock ≠ some b) ∧ Sl w0.heap.size wr p.2 (need C j)
/-- The list under way. -/
structure Ms (w0 : World) (C : Cm) (k : Nat) (z : Int) (i : Nat) (v : Value) (P : List (Value × Value)) (wr : World) : Prop where
  below : Below w0.heap.size w0 wr
  own : Cw wr w0.heap.size v P
  len : P.length = i
  each : ∀ j p, P[j]? = some p → Pr w0 C k z v wr j p
theorem Ms.start (w0 : World) (C : Cm) (k : Nat) (z : Int) : Ms w0 C k z 0 (.slice none 0 0) [] w0 := ⟨Below.refl _ _, World.ownsRow_nil _ _ _ _, rfl, fun j p e => by simp at e⟩
theorem Ms.later {w0 wr W : World} {C : Cm} {k i : Nat} {z : Int} {v : Value} {P : List (Value × Value)} (h : Ms w0 C k z i v P wr) (hb : Below wr.heap.size wr W) : Ms w0 C k z i v P W :=
  ⟨h.below.trans (hb.mono h.below.size), h.own.later hb, h.len, fun j p e => by
    obtain ⟨h1, h2, h3⟩ := h.each j p e
    exact ⟨fun hj => (h1 hj).below (hb.mono h.below.size), fun hj => ⟨Iw.later (h2 hj).1 hb, (h2 hj).2⟩, h3.below (hb.mono h.below.size)⟩⟩
theorem Ms.add {w0 W w9 : World} {C : Cm} {k i : Nat} {z : Int} {v v' : Value} {u1 u2 : Value} {P : List (Value × Value)} (h : Ms w0 C k z i v P W) (hg : W.grownBy w9 v.ownBlock) (hown : Cw w9 w0.heap.size v' (P ++ [(u1, u2)])) (hv : v'.ownBlock = v.ownBlock ∨ v'.ownBlock = some W.heap.size)
    (hp : Pr w0 C k z v' w9 i (u1, u2)) : Ms w0 C k z (i + 1) v' (P ++ [(u1, u2)]) w9 := by
  have hb : Below w0.heap.size W w9 := Below.grown (Below.refl _ _) hg h.below.size (fun b hb => (World.ownsRow.lt h.own b hb).1)
  refine ⟨h.below.trans hb, hown, by rw [List.length_append, h.len]; rfl, fun j p e => ?_⟩
  rw [List.getElem?_append] at e
  split at e
  · obtain ⟨h1, h2, h3⟩ := h.each j p e
    refine ⟨fun hj => (h1 hj).below hb, fun hj => ⟨ownsRow_same (h2 hj).1 (fun b hb => hg.block b (World.ownsRow.lt (h2 hj).1 b hb).2 (fun e => (h2 hj).2 b hb e.symm)), fun b hb2 => ?_⟩, h3.below hb⟩
    rcases hv with q | q
    · rw [q]; exact (h2 hj).2 b hb2
    · rw [q]
      have := (World.ownsRow.lt (h2 hj).1 b hb2).2
      intro e
      injection e with e
      omega
  · rename_i hj
    have hj2 : j - P.length = 0 := by have := (List.getElem?_eq_some_iff.1 e).1; simp at this; omega
    rw [hj2] at e
    simp at e
    subst e
    have : j = i := by have := h.len; omega
    subst this
    exact hp
theorem Ms.cl {w0 wr : World} {C : Cm} {k i n c : Nat} {z : Int} {A : Option Addr} {P : List (Value × Value)} (h : Ms w0 C k z i (.slice A n c) P wr) (hi : i = C.length) (hk : k < C.length) : Cl wr.heap.size wr A n c (ahead C k z) := by
  refine ⟨P, h.own.gt.2, by rw [h.len, hi]; simp [ahead], fun j p e => ?_⟩
  obtain ⟨h1, h2, h3⟩ := h.each j p e
  have hj : j < C.length := by have := (List.getElem?_eq_some_iff.1 e).1; rw [h.len, hi] at this; exact this
  have eh : hold (ahead C k z) j = if j = k then z :: hold C k else hold C j := by unfold ahead; rw [hold_set hk]
  have en : need (ahead C k z) j = need C j := by
    unfold ahead; rw [need_set hk]
    split
    · rename_i e; rw [e]
    · rfl
  rw [eh, en]
  refine ⟨?_, h3.raise h.below.size⟩
  by_cases e : j = k
  · rw [if_pos e]
    obtain ⟨q1, _⟩ := h2 e
    obtain ⟨A', c', e2⟩ := own_form q1
    rw [e2] at q1 ⊢
    exact ⟨_, _, _, rfl, q1.lt.2⟩
  · rw [if_neg e]
    exact (h1 e).raise h.below.size
theorem own_else {w : World} {base k n bx x : Nat} {e : TypeId} {v u : Value} {xs : List Value} (h : w.ownsRow base e k v n xs) (hb : bx < base) : (w.setCell ⟨bx, x, none⟩ u).ownsRow base e k v n xs :=
  ownsRow_same h (fun g hg => Below.heap_setCell _ _ _ _ (fun e => by have := (h.lt g hg).1; have e2 : bx = g := by first | exact e | exact e.symm
                                                                      omega))
set_option maxHeartbeats 4000000 in
theorem r8may_any (A : Option Addr) (n cap : Nat) (C : Cm) (who zone : Int) (w : World) (h : Cl w.heap.size w A n cap C) (h40 : ∀ i, i < n → (hold C i).length ≤ 1000) : Calls Tryz.prog 90 #[.slice A n cap, .int .i64 who, .int .i64 zone] w (Told8 (MayP C who zone) w) := by
  have HC := Lib.hid h
  have HN := Lib.hid h.len
  have H40 := Lib.hid h40
  have hs1 := h.size.1
  have hs2 := h.size.2
  clear h h40
  go_enter Tryz.func90, Tryz.ntmps90
  go_wp2_with fail
  refine (rright_any A n cap C w HC.out).mono ?_
  rintro e w1 ⟨b, rfl, hb, hc1⟩
  have HB1 := Lib.hid hc1
  have HC1 := Lib.hid (HC.out.later hc1)
  cases b with
  | false =>
    have HM : Hid (¬ MayP C who zone) := Lib.hid (fun h => by have := hb.2 h.1; cases this)
    clear hb hc1
    go_wp2_with fail
    go_ret
    exact ⟨false, rfl, iff_of_false (by decide) HM.out, HB1.out⟩
  | true =>
    have HR : Hid (Rg C) := Lib.hid (hb.1 rfl)
    have hn8 : n ≤ 8 := by rw [← HN.out]; exact HR.out.few
    clear hb hc1
    by_cases h1 : who < 0
    · have d1 : decide (who < 0) = true := decide_eq_true h1
      have HM : Hid (¬ MayP C who zone) := Lib.hid (fun h => by have := h.2.1; omega)
      go_wp2_with fail
      go_ret
      exact ⟨false, rfl, iff_of_false (by decide) HM.out, HB1.out⟩
    · have d1 : decide (who < 0) = false := decide_eq_false h1
      by_cases h2 : (n : Int) ≤ who
      · have d2 : decide ((n : Int) ≤ who) = true := decide_eq_true h2
        have HM : Hid (¬ MayP C who zone) := Lib.hid (fun h => by have := h.2.2.1; rw [HN.out] at this; omega)
        go_wp2_with fail
        go_ret
        exact ⟨false, rfl, iff_of_false (by decide) HM.out, HB1.out⟩
      · have d2 : decide ((n : Int) ≤ who) = false := decide_eq_false h2
        by_cases h3 : zone < 0
        · have d3 : decide (zone < 0) = true := decide_eq_true h3
          have HM : Hid (¬ MayP C who zone) := Lib.hid (fun h => by have := h.2.2.2.1.1; omega)
          go_wp2_with fail
          go_ret
          exact ⟨false, rfl, iff_of_false (by decide) HM.out, HB1.out⟩
        · have d3 : decide (zone < 0) = false := decide_eq_false h3
          by_cases h4 : 26 ≤ zone
          · have d4 : decide (26 ≤ zone) = true := decide_eq_true h4
            have HM : Hid (¬ MayP C who zone) := Lib.hid (fun h => by have := h.2.2.2.1.2; omega)
            go_wp2_with fail
            go_ret
            exact ⟨false, rfl, iff_of_false (by decide) HM.out, HB1.out⟩
          · have d4 : decide (26 ≤ zone) = false := decide_eq_false h4
            have HZ : Hid (Zn zone) := Lib.hid ⟨by omega, by omega⟩
            obtain ⟨k, rfl⟩ := Int.eq_ofNat_of_zero_le (show 0 ≤ who by omega)
            have hk : k < n := by omega
            have d5 : decide (n ≤ k) = false := decide_eq_false (by omega)
            clear h1 h2 h3 h4
            go_wp2_with fail
            clear d1 d2 d3 d4 d5
            go_loopw [7, 8] (fun xv iv wr => ∃ (i : Nat) (Ax : Option Addr) (nx cx : Nat), i ≤ n ∧ iv = .int .i64 (i : Int) ∧ xv = .slice Ax nx cx ∧ Hid ((∀ t, t < i → zone ∉ hold C t) ∧ ∃ P, Ms w1 C k zone i (.slice Ax nx cx) P wr)) (fun _ iv _ => n - (intOf iv).toNat)
            case atStart => exact ⟨0, none, 0, 0, Nat.zero_le _, rfl, rfl, Lib.hid ⟨fun t ht => by omega, [], Ms.start w1 C k zone⟩⟩
            case round =>
              rename World => wr
              obtain ⟨i, Ax, nx, cx, hi, rfl, rfl, HSS⟩ := hrel
              obtain ⟨P, hms⟩ := HSS.out.2
              have HS := Lib.hid hms
              have HBR := Lib.hid (HB1.out.trans (hms.below.mono HB1.out.size))
              clear hms
              by_cases hlt : i < n
              · obtain ⟨g, off, a1, n1, c1, a2, n2, c2, rfl, hg, q1, q2, k1, k2⟩ := (HC1.out.below HS.out.below).cell hlt
                have HK1 := Lib.hid k1
                have HK2 := Lib.hid k2
                have HIN := Lib.hid (rin_any zone a1 n1 c1 _ (hold C i) wr k1)
                have HL1 := Lib.hid k1.len
                have HBW := Lib.hid HS.out.below.size
                clear k1 k2
                by_cases hin : zone ∈ hold C i
                · have HM : Hid (¬ MayP C (k : Int) zone) := Lib.hid (fun h => h.2.2.2.2.1 i (by rw [HN.out]; exact hlt) hin)
                  have HINN := Lib.hid hin
                  clear hin
                  go_wp2_with fail
                  refine HIN.out.mono ?_
                  rintro e w' ⟨b, rfl, hb, rfl⟩
                  obtain rfl : b = true := hb.2 HINN.out
                  clear hb
                  go_wp2_with fail
                  go_ret
                  exact ⟨false, rfl, iff_of_false (by decide) HM.out, HBR.out⟩
                · have HINN := Lib.hid hin
                  have HNX : Hid (∀ t, t < i + 1 → zone ∉ hold C t) := Lib.hid (fun t ht => by
                    rcases Nat.lt_succ_iff_lt_or_eq.1 ht with h | h
                    · exact HSS.out.1 t h
                    · rw [h]; exact hin)
                  clear hin
                  go_wp2_with fail
                  refine HIN.out.mono ?_
                  rintro e w' ⟨b, rfl, hb, rfl⟩
                  obtain rfl : b = false := Bool.eq_false_iff.2 (fun e => HINN.out (hb.1 e))
                  clear hb
                  have hcl := (Below.refl wr.heap.size wr).alloc (Nat.le_refl _) (.cells #[.slice a1 n1 c1, .slice a2 n2 c2] 64)
                  have HBX := Lib.hid hcl
                  have b0 : (wr.alloc (.cells #[.slice a1 n1 c1, .slice a2 n2 c2] 64)).cell? ⟨wr.heap.size, 0, none⟩ = some (.slice a1 n1 c1) := by simp [World.cell?_alloc_new]
                  have b1 : (wr.alloc (.cells #[.slice a1 n1 c1, .slice a2 n2 c2] 64)).cell? ⟨wr.heap.size, 1, none⟩ = some (.slice a2 n2 c2) := by simp [World.cell?_alloc_new]
                  have b2 : (wr.alloc (.cells #[.slice a1 n1 c1, .slice a2 n2 c2] 64)).frozen? ⟨wr.heap.size, 0, none⟩ = false := frozen_of_row _ _ _ _ _ (heap_alloc_new wr _)
                  have hsz : (wr.alloc (.cells #[.slice a1 n1 c1, .slice a2 n2 c2] 64)).heap.size = wr.heap.size + 1 := by simp
                  have HSZ := Lib.hid hsz
                  have HPL : Hid (P.length + 1 ≤ 1000000) := Lib.hid (by have := HS.out.len; omega)
                  clear hcl hsz
                  go_upto_if 52 with (fail)
                  generalize wr.alloc (.cells #[.slice a1 n1 c1, .slice a2 n2 c2] 64) = wb at *
                  by_cases hik : i = k
                  · subst hik
                    have hie : ((i : Int) == (i : Int)) = true := by simp
                    have hA3 := (Below.refl wb.heap.size wb).alloc (Nat.le_refl _) (.cells #[.int .i64 zone] 3)
                    have HBZ := Lib.hid (HBX.out.trans (hA3.mono HBX.out.size))
                    have z0 := (hA3.cell (p := ⟨wr.heap.size, 0, none⟩) (by rw [HSZ.out]; exact Nat.lt_succ_self _)).trans b0
                    have HONE := Lib.hid (own_one wb zone wb.heap.size (Nat.le_refl _))
                    have HHL := Lib.hid (Gt.raise (Gt.below HK1.out (HBZ.out.mono HBW.out)) (Nat.le_trans HBW.out HBZ.out.size))
                    have HA3 := Lib.hid hA3
                    have HBOX := Lib.hid (And.intro b0 (And.intro b1 b2))
                    have HLL : Hid ([zone].length + n1 ≤ 1000000) := Lib.hid (by have := H40.out i hlt; have := HL1.out; simp; omega)
                    clear hA3 b0 b1 b2
                    go_wp2_with (first
                      | ((fail_if_success have _k := HO4); at_builtin; (refine app_ints rfl _ _ rfl wb.heap.size (.slice (some ⟨wb.heap.size, 0, none⟩) 1 1) [zone] rfl HONE.out a1 n1 c1 (hold C i) rfl HHL.out HLL.out (by simp) ?_; intro A4 n4 c4 w4 hn4 ho4 hb4 hg4 hd4; have HO4 := Lib.hid ho4; have HB4 := Lib.hid (HA3.out.trans hb4); have y0 := (HB4.out.cell (p := ⟨wr.heap.size, 0, none⟩) (by rw [HSZ.out]; exact Nat.lt_succ_self _)).trans HBOX.out.1; have y1 := (HB4.out.cell (p := ⟨wr.heap.size, 1, none⟩) (by rw [HSZ.out]; exact Nat.lt_succ_self _)).trans HBOX.out.2.1; have y2 := (World.frozen?_of_block (a := ⟨wr.heap.size, 0, none⟩) (HB4.out.block wr.heap.size (by rw [HSZ.out]; exact Nat.lt_succ_self _))).trans HBOX.out.2.2; have HBS : Hid (Below wr.heap.size wr (w4.setCell ⟨wr.heap.size, 0, none⟩ (.slice A4 n4 c4))) := Lib.hid ((HBX.out.trans (HB4.out.mono HBX.out.size)).setCell (Nat.le_refl _) _); clear ho4 hb4 hn4 hg4 hd4))
                      | (have _k := HO4; at_builtin; (refine app_claims rfl _ _ rfl w1.heap.size (.slice Ax nx cx) P rfl (Cw.later HS.out.own (HBS.out.alloc HBS.out.size _)) _ 1 1 [(.slice A4 n4 c4, .slice a2 n2 c2)] rfl (gt_one_at _ _ (by simp [World.setCell]) _ _) (by intro u hu; simp [pcl] at hu; rcases hu with rfl | rfl <;> rfl) HPL.out (Nat.le_trans HBW.out (Nat.le_trans HBS.out.size (by simp))) ?_; intro A7 n7 c7 w7 hn7 ho7 hb7 hg7 hd7; have HO7 := Lib.hid ho7; have HG7 := Lib.hid hg7; have HD7 := Lib.hid hd7; clear ho7 hb7 hn7 hg7 hd7)))
                    have HMS : Hid (Ms w1 C i zone (i + 1) (.slice A7 n7 c7) (P ++ [(.slice A4 n4 c4, .slice a2 n2 c2)]) w7) := Lib.hid (by
                      have hW := HBS.out.alloc HBS.out.size (.cells #[.slice A4 n4 c4, .slice a2 n2 c2] 64)
                      have hms := HS.out.later hW
                      have hb7 : Below w1.heap.size wr w7 := (hW.mono HBW.out).trans (Below.grown (Below.refl _ _) HG7.out hms.below.size (fun b hb => (World.ownsRow.lt hms.own b hb).1))
                      have hI4 : Iw (w4.setCell ⟨wr.heap.size, 0, none⟩ (.slice A4 n4 c4)) wb.heap.size (.slice A4 n4 c4) ([zone] ++ hold C i) := own_else HO4.out (by rw [HSZ.out]; exact Nat.lt_succ_self _)
                      have hIW := Iw.later hI4 ((Below.refl _ _).alloc (Nat.le_refl _) (.cells #[.slice A4 n4 c4, .slice a2 n2 c2] 64))
                      have hax : ∀ b, (Value.slice Ax nx cx).ownBlock = some b → b < wr.heap.size := fun b hb => (World.ownsRow.lt HS.out.own b hb).2
                      have hge : ∀ b, (Value.slice A4 n4 c4).ownBlock = some b → wr.heap.size < b ∧ b < ((w4.setCell ⟨wr.heap.size, 0, none⟩ (.slice A4 n4 c4)).alloc (.cells #[.slice A4 n4 c4, .slice a2 n2 c2] 64)).heap.size := fun b hb => by
                        have h1 := World.ownsRow.lt hIW b hb
                        have h2 := HSZ.out
                        omega
                      refine hms.add HG7.out HO7.out HD7.out ⟨fun h => absurd rfl h, fun _ => ⟨?_, fun b hb => ?_⟩, Sl.below ⟨_, _, _, rfl, HK2.out⟩ hb7⟩
                      · have h3 : Iw w7 wb.heap.size (.slice A4 n4 c4) ([zone] ++ hold C i) := ownsRow_same hIW (fun b hb => HG7.out.block b (World.ownsRow.lt hIW b hb).2 (fun e => by have h1 := hax b e.symm; have h2 := (hge b hb).1; omega))
                        exact own_lower h3 (by have := HSZ.out; have := HBW.out; omega)
                      · have h2 := hge b hb
                        rcases HD7.out with e | e
                        · rw [e]; intro e2; have := hax b e2; omega
                        · rw [e]; intro e2; injection e2 with e2; omega)
                    refine ⟨⟨i + 1, A7, n7, c7, by omega, by go_num, rfl, Lib.hid ⟨HNX.out, _, HMS.out⟩⟩, ?_⟩
                    simp [intOf]; omega
                  · have hie : ((i : Int) == (k : Int)) = false := by rw [beq_eq_false_iff_ne]; omega
                    have HIK := Lib.hid hik
                    clear hik
                    go_wp2_with (at_builtin; (refine app_claims rfl _ _ rfl w1.heap.size (.slice Ax nx cx) P rfl (Cw.later HS.out.own (HBX.out.alloc HBX.out.size _)) _ 1 1 [(.slice a1 n1 c1, .slice a2 n2 c2)] rfl (gt_one _ _ _) (by intro u hu; simp [pcl] at hu; rcases hu with rfl | rfl <;> rfl) HPL.out (Nat.le_trans HBW.out (Nat.le_trans HBX.out.size (by simp))) ?_; intro A7 n7 c7 w7 hn7 ho7 hb7 hg7 hd7; have HO7 := Lib.hid ho7; have HG7 := Lib.hid hg7; have HD7 := Lib.hid hd7; clear ho7 hb7 hn7 hg7 hd7))
                    have HMS : Hid (Ms w1 C k zone (i + 1) (.slice A7 n7 c7) (P ++ [(.slice a1 n1 c1, .slice a2 n2 c2)]) w7) := Lib.hid (by
                      have hW := HBX.out.alloc HBX.out.size (.cells #[.slice a1 n1 c1, .slice a2 n2 c2] 64)
                      have hms := HS.out.later hW
                      have hb7 : Below w1.heap.size wr w7 := (hW.mono HBW.out).trans (Below.grown (Below.refl _ _) HG7.out hms.below.size (fun b hb => (World.ownsRow.lt hms.own b hb).1))
                      exact hms.add HG7.out HO7.out HD7.out ⟨fun _ => Sl.below ⟨_, _, _, rfl, HK1.out⟩ hb7, fun h => absurd h HIK.out, Sl.below ⟨_, _, _, rfl, HK2.out⟩ hb7⟩)
                    refine ⟨⟨i + 1, A7, n7, c7, by omega, by go_num, rfl, Lib.hid ⟨HNX.out, _, HMS.out⟩⟩, ?_⟩
                    simp [intOf]; omega
              · obtain rfl : i = n := by omega
                have HCL := Lib.hid (HS.out.cl HN.out.symm (by rw [HN.out]; exact hk))
                have HMM : Hid ((Rg (ahead C k zone) ∧ SafC (ahead C k zone)) ↔ MayP C (k : Int) zone) := Lib.hid (by
                  have hkC : k < C.length := by rw [HN.out]; exact hk
                  have hno : ∀ j, j < C.length → zone ∉ hold C j := fun j hj => HSS.out.1 j (by rw [← HN.out]; exact hj)
                  constructor
                  · rintro ⟨_, h⟩
                    exact ⟨HR.out, Int.natCast_nonneg _, by omega, HZ.out, hno, by rw [Int.toNat_natCast]; exact (ahead_saf hkC zone).1 h⟩
                  · rintro ⟨_, _, _, _, _, h⟩
                    rw [Int.toNat_natCast] at h
                    exact ⟨ahead_right HR.out hkC HZ.out hno, (ahead_saf hkC zone).2 h⟩)
                go_wp2_with fail
                refine (r8order_any Ax nx cx _ _ HCL.out).mono ?_
                rintro e w8 ⟨A8, m8, c8, o, is, rfl, _, ho8, _, hb8⟩
                have HI := Lib.hid ho8.saf
                have HB8 := Lib.hid (HBR.out.trans (hb8.mono HBR.out.size))
                clear ho8 hb8
                go_wp2_with fail
                go_ret
                exact ⟨is, rfl, HI.out.trans HMM.out, HB8.out⟩
end Go.Proofs.YtakgkocdkondhaaGreatDoor.Bk
end
