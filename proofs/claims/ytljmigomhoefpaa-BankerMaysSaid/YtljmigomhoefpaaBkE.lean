/-
  Layer 8: who can be next (next), and the order (order), for both closures (written by tools/bkgen.py).
-/
import Derived.Test.YtljmigomhoefpaaBkD
import Derived.Test.YtljmigomhoefpaaBkDel
set_option linter.unusedVariables false
set_option maxRecDepth 100000
namespace Go.Proofs.Ytljmigomhoefpaa.Bk
open Go.RowKit

/-- Places as numbers. -/
def nz (S : List Nat) : List Int := S.map fun n : Nat => (n : Int)
theorem nz_length (S : List Nat) : (nz S).length = S.length := by simp [nz]
theorem nz_get {S : List Nat} {j : Nat} (h : j < S.length) : (nz S).getD j 0 = ((S.getD j 0 : Nat) : Int) := by simp [nz, List.getD, List.getElem?_eq_getElem h]
theorem getD_mem {α : Type} {L : List α} {d : α} {j : Nat} (h : j < L.length) : L.getD j d ∈ L := by rw [List.getD, List.getElem?_eq_getElem h]; exact List.getElem_mem _
theorem mem_getD {α : Type} {L : List α} {d x : α} (h : x ∈ L) : ∃ j, j < L.length ∧ L.getD j d = x := by
  obtain ⟨j, hj, rfl⟩ := List.getElem_of_mem h
  exact ⟨j, hj, by rw [List.getD, List.getElem?_eq_getElem hj]; rfl⟩
/-- Who can be next is told. -/
def NextTold (nd : Nat → List Int) (hd : Nat → Int → Bool) (S : List Nat) (w : World) (e : Ending) (w' : World) : Prop :=
  w = w' ∧ ((e = .returned (.tuple #[.int .i64 0, .bool false]) ∧ S.findIdx? (can nd hd S) = none) ∨ ∃ i : Nat, e = .returned (.tuple #[.int .i64 (i : Int), .bool true]) ∧ S.findIdx? (can nd hd S) = some i ∧ i < S.length)
theorem find_none {p : Nat → Bool} {S : List Nat} (h : ∀ t, t < S.length → p (S.getD t 0) = false) : S.findIdx? p = none := by
  rw [List.findIdx?_eq_none_iff]
  intro x hx
  obtain ⟨j, hj, rfl⟩ := mem_getD (d := 0) hx
  exact h j hj
theorem find_some {p : Nat → Bool} {S : List Nat} {i : Nat} (hi : i < S.length) (h1 : p (S.getD i 0) = true) (h : ∀ t, t < i → p (S.getD t 0) = false) : S.findIdx? p = some i := by
  rw [List.findIdx?_eq_some_iff_getElem]
  refine ⟨hi, by rw [List.getD, List.getElem?_eq_getElem hi] at h1; exact h1, fun j hj => ?_⟩
  have := h j hj
  rw [List.getD, List.getElem?_eq_getElem (by omega)] at this
  simpa using this

/-- The closure tells it. -/
def AskH (w : World) (bx : Nat) (hd : Nat → Int → Bool) (m : Nat) : Prop := ∀ a : Nat, a < m → ∀ z : Int, Zn z → Calls Try.prog 30 #[.int .i64 (a : Int), .int .i64 z, .pointer (some ⟨bx, 0, none⟩)] w fun e w' => e = .returned (.bool (hd a z)) ∧ w = w'
set_option maxHeartbeats 4000000 in
theorem nextH_any (bx : Nat) (hd : Nat → Int → Bool) (A : Option Addr) (n cap : Nat) (C : Cm) (A2 : Option Addr) (n2 c2 : Nat) (S : List Nat) (w : World) (hC : Cl w.heap.size w A n cap C) (hn : n ≤ 8) (hz : ∀ a, a < n → ∀ z ∈ need C a, Zn z)
    (hS : Lt w.heap.size w A2 n2 c2 (nz S)) (hlt : ∀ a ∈ S, a < n) (h8 : n2 ≤ 8) (hA : AskH w bx hd n) :
    Calls Try.prog 32 #[.slice A n cap, .slice A2 n2 c2, .func (.func 30) #[] #[.pointer (some ⟨bx, 0, none⟩)]] w (NextTold (need C) hd S w) := by
  have HC := Lib.hid hC
  have HS := Lib.hid hS
  have HA := Lib.hid hA
  have HZ := Lib.hid hz
  have HL := Lib.hid hlt
  have HN : Hid (S.length = n2) := Lib.hid (by have := hS.len; rwa [nz_length] at this)
  clear hC hz hS hlt hA
  go_enter Try.func32, Try.ntmps32
  go_wp2_with fail
  go_step3
  go_wp2_with fail
  go_step3
  go_wp2_with fail
  go_loop [16] (fun iv => ∃ j : Nat, j ≤ n2 ∧ iv = .int .i64 (j : Int) ∧ Hid (∀ t, t < j → can (need C) hd S (S.getD t 0) = false)) (fun iv => n2 - (intOf iv).toNat)
  case atStart => exact ⟨0, Nat.zero_le _, rfl, Lib.hid (fun t ht => by omega)⟩
  case round =>
    obtain ⟨j, hj, rfl, HJ⟩ := hrel
    by_cases hlt : j < n2
    · obtain ⟨g2, o2, rfl, hg2, q1⟩ := HS.out.cell hlt
      rw [nz_get (by rw [HN.out]; exact hlt)] at q1
      have HM : Hid (S.getD j 0 ∈ S) := Lib.hid (getD_mem (by rw [HN.out]; exact hlt))
      have hwho := HL.out _ HM.out
      obtain ⟨who, hwe⟩ : ∃ who, who = S.getD j 0 := ⟨_, rfl⟩
      rw [← hwe] at q1 HM hwho
      have HW := Lib.hid hwe
      clear hwe
      obtain ⟨g, off, a1, n1, c1, a3, n3, c3, rfl, hg, q2, q3, k1, k2⟩ := HC.out.cell hwho
      have HK := Lib.hid k2
      have HLN := Lib.hid k2.len
      have hs3 := Gt.size k2
      have hs31 := hs3.1
      have hs32 := hs3.2
      clear k1 k2 hs3 q2
      go_wp2_with fail
      go_loop [27] (fun iv => ∃ k : Nat, k ≤ n3 ∧ iv = .int .i64 (k : Int) ∧ Hid (∀ t, t < k → ∀ b ∈ S, b ≠ who → hd b ((need C who).getD t 0) = false)) (fun iv => n3 - (intOf iv).toNat)
      case atStart => exact ⟨0, Nat.zero_le _, rfl, Lib.hid (fun t ht => by omega)⟩
      case round =>
        obtain ⟨k, hk, rfl, HI⟩ := hrel
        by_cases hlt3 : k < n3
        · obtain ⟨g3, o3, rfl, hg3, q4⟩ := HK.out.cell hlt3
          have HZM : Hid ((need C who).getD k 0 ∈ need C who) := Lib.hid (getD_mem (by rw [HLN.out]; exact hlt3))
          obtain ⟨z, hze⟩ : ∃ z, z = (need C who).getD k 0 := ⟨_, rfl⟩
          rw [← hze] at q4 HZM
          have HZE := Lib.hid hze
          have HZZ := Lib.hid (HZ.out who hwho z HZM.out)
          clear hze
          go_wp2_with fail
          go_loop [33] (fun iv => ∃ l : Nat, l ≤ n2 ∧ iv = .int .i64 (l : Int) ∧ Hid (∀ t, t < l → S.getD t 0 ≠ who → hd (S.getD t 0) z = false)) (fun iv => n2 - (intOf iv).toNat)
          case atStart => exact ⟨0, Nat.zero_le _, rfl, Lib.hid (fun t ht => by omega)⟩
          case round =>
            obtain ⟨l, hl, rfl, HO⟩ := hrel
            by_cases hlt4 : l < n2
            · obtain ⟨g4, o4, e4, hg4, q5⟩ := HS.out.cell hlt4
              injection e4 with e4
              injection e4 with e5 e6
              subst e5 e6
              rw [nz_get (by rw [HN.out]; exact hlt4)] at q5
              have HM4 : Hid (S.getD l 0 ∈ S) := Lib.hid (getD_mem (by rw [HN.out]; exact hlt4))
              have hot := HL.out _ HM4.out
              obtain ⟨ot, hoe⟩ : ∃ ot, ot = S.getD l 0 := ⟨_, rfl⟩
              rw [← hoe] at q5 HM4 hot
              have HOE := Lib.hid hoe
              clear hoe
              by_cases he : ot = who
              · have hd1 : ((ot : Int) != (who : Int)) = false := by rw [bne_eq_false_iff_eq]; omega
                have HE := Lib.hid he
                clear he
                go_wp2_with fail
                go_round
                case rel => exact ⟨l + 1, by omega, by go_num, Lib.hid (fun t ht hne => by
                  rcases Nat.lt_succ_iff_lt_or_eq.1 ht with h | h
                  · exact HO.out t h hne
                  · subst h; exact absurd (HOE.out.symm.trans HE.out) hne)⟩
                case measure => simp [intOf]; omega
              · have hd1 : ((ot : Int) != (who : Int)) = true := by rw [bne_iff_ne]; omega
                have HE := Lib.hid he
                have HQ := Lib.hid (HA.out ot hot z HZZ.out)
                clear he
                cases hb : hd ot z with
                | false =>
                  have HB := Lib.hid hb
                  rw [hb] at HQ
                  clear hb
                  go_wp2_with fail
                  refine HQ.out.mono ?_
                  rintro e w' ⟨rfl, rfl⟩
                  go_wp2_with fail
                  go_round
                  case rel => exact ⟨l + 1, by omega, by go_num, Lib.hid (fun t ht hne => by
                    rcases Nat.lt_succ_iff_lt_or_eq.1 ht with h | h
                    · exact HO.out t h hne
                    · subst h; rw [← HOE.out]; exact HB.out)⟩
                  case measure => simp [intOf]; omega
                | true =>
                  have HB := Lib.hid hb
                  rw [hb] at HQ
                  clear hb
                  go_wp2_with fail
                  refine HQ.out.mono ?_
                  rintro e w' ⟨rfl, rfl⟩
                  go_wp2_with fail
                  go_round
                  case rel => exact ⟨j + 1, by omega, by go_num, Lib.hid (fun t ht => by
                    rcases Nat.lt_succ_iff_lt_or_eq.1 ht with h | h
                    · exact HJ.out t h
                    · subst h
                      rw [← HW.out, Bool.eq_false_iff]
                      intro hc
                      have := can_iff.1 hc z HZM.out ot HM4.out HE.out
                      rw [HB.out] at this; cases this)⟩
                  case measure => simp [intOf]; omega
            · obtain rfl : l = n2 := by omega
              go_wp2_with fail
              go_round
              case rel => exact ⟨k + 1, by omega, by go_num, Lib.hid (fun t ht b hb hne => by
                rcases Nat.lt_succ_iff_lt_or_eq.1 ht with h | h
                · exact HI.out t h b hb hne
                · subst h
                  obtain ⟨i, hi, rfl⟩ := mem_getD (d := 0) hb
                  rw [← HZE.out]
                  exact HO.out i (by rw [← HN.out]; exact hi) hne)⟩
              case measure => simp [intOf]; omega
        · obtain rfl : k = n3 := by omega
          have HCAN : Hid (can (need C) hd S (S.getD j 0) = true) := Lib.hid (by
            rw [← HW.out, can_iff]
            intro z hz b hb hne
            obtain ⟨i, hi, rfl⟩ := mem_getD (d := 0) hz
            exact HI.out i (by rw [← HLN.out]; exact hi) b hb hne)
          go_wp2_with fail
          try rw [Exit.noGoto_ret]
          go_ret2
          exact ⟨rfl, .inr ⟨j, rfl, find_some (by rw [HN.out]; exact hlt) HCAN.out HJ.out, by rw [HN.out]; exact hlt⟩⟩
    · obtain rfl : j = n2 := by omega
      go_wp2_with fail
      try rw [Exit.noGoto_ret]
      go_ret2
      exact ⟨rfl, .inl ⟨rfl, find_none (fun t ht => HJ.out t (by rw [← HN.out]; exact ht))⟩⟩

/-- The closure tells it. -/
def AskM (w : World) (b1 b2 b3 : Nat) (hd : Nat → Int → Bool) (m : Nat) : Prop := ∀ a : Nat, a < m → ∀ z : Int, Zn z → Calls Try.prog 28 #[.int .i64 (a : Int), .int .i64 z, .pointer (some ⟨b1, 0, none⟩), .pointer (some ⟨b2, 0, none⟩), .pointer (some ⟨b3, 0, none⟩)] w fun e w' => e = .returned (.bool (hd a z)) ∧ w = w'
set_option maxHeartbeats 4000000 in
theorem nextM_any (b1 b2 b3 : Nat) (hd : Nat → Int → Bool) (A : Option Addr) (n cap : Nat) (C : Cm) (A2 : Option Addr) (n2 c2 : Nat) (S : List Nat) (w : World) (hC : Cl w.heap.size w A n cap C) (hn : n ≤ 8) (hz : ∀ a, a < n → ∀ z ∈ need C a, Zn z)
    (hS : Lt w.heap.size w A2 n2 c2 (nz S)) (hlt : ∀ a ∈ S, a < n) (h8 : n2 ≤ 8) (hA : AskM w b1 b2 b3 hd n) :
    Calls Try.prog 32 #[.slice A n cap, .slice A2 n2 c2, .func (.func 28) #[] #[.pointer (some ⟨b1, 0, none⟩), .pointer (some ⟨b2, 0, none⟩), .pointer (some ⟨b3, 0, none⟩)]] w (NextTold (need C) hd S w) := by
  have HC := Lib.hid hC
  have HS := Lib.hid hS
  have HA := Lib.hid hA
  have HZ := Lib.hid hz
  have HL := Lib.hid hlt
  have HN : Hid (S.length = n2) := Lib.hid (by have := hS.len; rwa [nz_length] at this)
  clear hC hz hS hlt hA
  go_enter Try.func32, Try.ntmps32
  go_wp2_with fail
  go_step3
  go_wp2_with fail
  go_step3
  go_wp2_with fail
  go_loop [16] (fun iv => ∃ j : Nat, j ≤ n2 ∧ iv = .int .i64 (j : Int) ∧ Hid (∀ t, t < j → can (need C) hd S (S.getD t 0) = false)) (fun iv => n2 - (intOf iv).toNat)
  case atStart => exact ⟨0, Nat.zero_le _, rfl, Lib.hid (fun t ht => by omega)⟩
  case round =>
    obtain ⟨j, hj, rfl, HJ⟩ := hrel
    by_cases hlt : j < n2
    · obtain ⟨g2, o2, rfl, hg2, q1⟩ := HS.out.cell hlt
      rw [nz_get (by rw [HN.out]; exact hlt)] at q1
      have HM : Hid (S.getD j 0 ∈ S) := Lib.hid (getD_mem (by rw [HN.out]; exact hlt))
      have hwho := HL.out _ HM.out
      obtain ⟨who, hwe⟩ : ∃ who, who = S.getD j 0 := ⟨_, rfl⟩
      rw [← hwe] at q1 HM hwho
      have HW := Lib.hid hwe
      clear hwe
      obtain ⟨g, off, a1, n1, c1, a3, n3, c3, rfl, hg, q2, q3, k1, k2⟩ := HC.out.cell hwho
      have HK := Lib.hid k2
      have HLN := Lib.hid k2.len
      have hs3 := Gt.size k2
      have hs31 := hs3.1
      have hs32 := hs3.2
      clear k1 k2 hs3 q2
      go_wp2_with fail
      go_loop [27] (fun iv => ∃ k : Nat, k ≤ n3 ∧ iv = .int .i64 (k : Int) ∧ Hid (∀ t, t < k → ∀ b ∈ S, b ≠ who → hd b ((need C who).getD t 0) = false)) (fun iv => n3 - (intOf iv).toNat)
      case atStart => exact ⟨0, Nat.zero_le _, rfl, Lib.hid (fun t ht => by omega)⟩
      case round =>
        obtain ⟨k, hk, rfl, HI⟩ := hrel
        by_cases hlt3 : k < n3
        · obtain ⟨g3, o3, rfl, hg3, q4⟩ := HK.out.cell hlt3
          have HZM : Hid ((need C who).getD k 0 ∈ need C who) := Lib.hid (getD_mem (by rw [HLN.out]; exact hlt3))
          obtain ⟨z, hze⟩ : ∃ z, z = (need C who).getD k 0 := ⟨_, rfl⟩
          rw [← hze] at q4 HZM
          have HZE := Lib.hid hze
          have HZZ := Lib.hid (HZ.out who hwho z HZM.out)
          clear hze
          go_wp2_with fail
          go_loop [33] (fun iv => ∃ l : Nat, l ≤ n2 ∧ iv = .int .i64 (l : Int) ∧ Hid (∀ t, t < l → S.getD t 0 ≠ who → hd (S.getD t 0) z = false)) (fun iv => n2 - (intOf iv).toNat)
          case atStart => exact ⟨0, Nat.zero_le _, rfl, Lib.hid (fun t ht => by omega)⟩
          case round =>
            obtain ⟨l, hl, rfl, HO⟩ := hrel
            by_cases hlt4 : l < n2
            · obtain ⟨g4, o4, e4, hg4, q5⟩ := HS.out.cell hlt4
              injection e4 with e4
              injection e4 with e5 e6
              subst e5 e6
              rw [nz_get (by rw [HN.out]; exact hlt4)] at q5
              have HM4 : Hid (S.getD l 0 ∈ S) := Lib.hid (getD_mem (by rw [HN.out]; exact hlt4))
              have hot := HL.out _ HM4.out
              obtain ⟨ot, hoe⟩ : ∃ ot, ot = S.getD l 0 := ⟨_, rfl⟩
              rw [← hoe] at q5 HM4 hot
              have HOE := Lib.hid hoe
              clear hoe
              by_cases he : ot = who
              · have hd1 : ((ot : Int) != (who : Int)) = false := by rw [bne_eq_false_iff_eq]; omega
                have HE := Lib.hid he
                clear he
                go_wp2_with fail
                go_round
                case rel => exact ⟨l + 1, by omega, by go_num, Lib.hid (fun t ht hne => by
                  rcases Nat.lt_succ_iff_lt_or_eq.1 ht with h | h
                  · exact HO.out t h hne
                  · subst h; exact absurd (HOE.out.symm.trans HE.out) hne)⟩
                case measure => simp [intOf]; omega
              · have hd1 : ((ot : Int) != (who : Int)) = true := by rw [bne_iff_ne]; omega
                have HE := Lib.hid he
                have HQ := Lib.hid (HA.out ot hot z HZZ.out)
                clear he
                cases hb : hd ot z with
                | false =>
                  have HB := Lib.hid hb
                  rw [hb] at HQ
                  clear hb
                  go_wp2_with fail
                  refine HQ.out.mono ?_
                  rintro e w' ⟨rfl, rfl⟩
                  go_wp2_with fail
                  go_round
                  case rel => exact ⟨l + 1, by omega, by go_num, Lib.hid (fun t ht hne => by
                    rcases Nat.lt_succ_iff_lt_or_eq.1 ht with h | h
                    · exact HO.out t h hne
                    · subst h; rw [← HOE.out]; exact HB.out)⟩
                  case measure => simp [intOf]; omega
                | true =>
                  have HB := Lib.hid hb
                  rw [hb] at HQ
                  clear hb
                  go_wp2_with fail
                  refine HQ.out.mono ?_
                  rintro e w' ⟨rfl, rfl⟩
                  go_wp2_with fail
                  go_round
                  case rel => exact ⟨j + 1, by omega, by go_num, Lib.hid (fun t ht => by
                    rcases Nat.lt_succ_iff_lt_or_eq.1 ht with h | h
                    · exact HJ.out t h
                    · subst h
                      rw [← HW.out, Bool.eq_false_iff]
                      intro hc
                      have := can_iff.1 hc z HZM.out ot HM4.out HE.out
                      rw [HB.out] at this; cases this)⟩
                  case measure => simp [intOf]; omega
            · obtain rfl : l = n2 := by omega
              go_wp2_with fail
              go_round
              case rel => exact ⟨k + 1, by omega, by go_num, Lib.hid (fun t ht b hb hne => by
                rcases Nat.lt_succ_iff_lt_or_eq.1 ht with h | h
                · exact HI.out t h b hb hne
                · subst h
                  obtain ⟨i, hi, rfl⟩ := mem_getD (d := 0) hb
                  rw [← HZE.out]
                  exact HO.out i (by rw [← HN.out]; exact hi) hne)⟩
              case measure => simp [intOf]; omega
        · obtain rfl : k = n3 := by omega
          have HCAN : Hid (can (need C) hd S (S.getD j 0) = true) := Lib.hid (by
            rw [← HW.out, can_iff]
            intro z hz b hb hne
            obtain ⟨i, hi, rfl⟩ := mem_getD (d := 0) hz
            exact HI.out i (by rw [← HLN.out]; exact hi) b hb hne)
          go_wp2_with fail
          try rw [Exit.noGoto_ret]
          go_ret2
          exact ⟨rfl, .inr ⟨j, rfl, find_some (by rw [HN.out]; exact hlt) HCAN.out HJ.out, by rw [HN.out]; exact hlt⟩⟩
    · obtain rfl : j = n2 := by omega
      go_wp2_with fail
      try rw [Exit.noGoto_ret]
      go_ret2
      exact ⟨rfl, .inl ⟨rfl, find_none (fun t ht => HJ.out t (by rw [← HN.out]; exact ht))⟩⟩
end Go.Proofs.Ytljmigomhoefpaa.Bk
