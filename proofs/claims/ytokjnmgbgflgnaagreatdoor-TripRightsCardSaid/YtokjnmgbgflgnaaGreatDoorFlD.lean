/-
  Whether the docks are right: docksRight.
-/
import Derived.Test.YtokjnmgbgflgnaaGreatDoorFlC
import Derived.Test.YtokjnmgbgflgnaaGreatDoorFlPlain
set_option linter.unusedVariables false
set_option maxRecDepth 100000
namespace Go.Proofs.YtokjnmgbgflgnaaGreatDoor
open Go.RowKit Fl

/-- Eight counts lie in block B. -/
def Tally (B : Nat) (f : Nat → Nat) (wr : World) : Prop := B < wr.heap.size ∧ ∀ r, r < 8 → wr.cell? ⟨B, r, none⟩ = some (.int .i64 (f r : Int)) ∧ wr.frozen? ⟨B, r, none⟩ = false
theorem Tally.later {B : Nat} {f : Nat → Nat} {wr wx : World} (h : Tally B f wr) (hb : Below wr.heap.size wr wx) : Tally B f wx :=
  ⟨Nat.lt_of_lt_of_le h.1 hb.size, fun r hr => ⟨(hb.cell (p := ⟨B, r, none⟩) h.1).trans (h.2 r hr).1, (hb.frozen (p := ⟨B, r, none⟩) h.1).trans (h.2 r hr).2⟩⟩
theorem Tally.up {B : Nat} {f g : Nat → Nat} {wr : World} (h : Tally B f wr) (r : Nat) (hr : r < 8) (hg : g r = f r + 1) (hg2 : ∀ q, q ≠ r → g q = f q) (Y : Int) (hY : Y = (f r : Int) + 1) : Tally B g (wr.setCell ⟨B, r, none⟩ (.int .i64 Y)) := by
  subst hY
  refine ⟨by simpa [World.setCell] using h.1, fun q hq => ⟨?_, by rw [World.frozen?_setCell]; exact (h.2 q hq).2⟩⟩
  by_cases e : q = r
  · subst e
    rw [World.cell?_setCell_same (h := (h.2 q hq).1), hg]
    rfl
  · rw [World.cell?_setCell_other (h := (fun e2 => e (by simpa using e2.symm) : (⟨B, r, none⟩ : Addr) ≠ ⟨B, q, none⟩)), hg2 q e]
    exact (h.2 q hq).1
theorem Tally.made (w : World) (t : TypeId) (cs : Array Value) (hc : ∀ r, r < 8 → cs[r]? = some (.int .i64 0)) : Tally w.heap.size (fun _ => 0) (w.alloc (.cells cs t)) :=
  ⟨by simp, fun r hr => ⟨by rw [World.cell?_alloc_new]; exact hc r hr, World.frozen?_alloc_new _ _ _ _⟩⟩
theorem Own.put {w : World} {base : Nat} {v : Value} {xs : List Nat} (h : Own w base v xs) (b o : Nat) (u : Value) (hne : ∀ k, v.ownBlock = some k → k ≠ b) : Own (w.setCell ⟨b, o, none⟩ u) base v xs :=
  ownsRow_same h (fun k hk => Below.heap_setCell _ _ _ _ (hne k hk))

set_option maxHeartbeats 4000000 in
theorem docksRight_any (W H : Nat) (s : ByteArray) (w : World) (hS : Sides W H s) :
    Calls Tryz.prog 68 #[.agg #[.int .i64 (W : Int), .int .i64 (H : Int), .string s]] w (Told (DocksOk W H (at_ s)) w) := by
  have h256 := hS.le
  have HS := Lib.hid hS
  have HD : Hid (pick isD (at_ s) s.size = docks W H (at_ s)) := Lib.hid (by rw [hS.sz]; rfl)
  have HL := Lib.hid (pick_le isD (at_ s) s.size)
  have HSZ := Lib.hid hS.sz
  clear hS
  go_enter Tryz.func68, Tryz.ntmps68
  go_wp2_with fail
  refine (cellsDock_any (W : Int) (H : Int) s h256 _).mono ?_
  rintro e w1 ⟨a, n, cap, rfl, hn, ho, hb⟩
  rw [HD.out] at hn ho
  have HB1 := Lib.hid ((Box.start w (W : Int) (H : Int) s 23).after hb)
  have hn2 : n ≤ 256 := by rw [hn, ← HD.out]; have := HL.out; omega
  have HO1 := Lib.hid ho
  have HN := Lib.hid hn
  clear ho hn hb
  go_wp2_with fail
  go_loopw [12] (fun iv wr => ∃ k : Nat, k ≤ n ∧ iv = .int .i64 (k : Int) ∧ Box w W H s wr ∧ Tally w1.heap.size (cn (at_ s) ((docks W H (at_ s)).take k)) wr ∧ Own wr w.heap.size (.slice a n cap) (docks W H (at_ s)) ∧ ∀ j, j < k → ByLane W H (at_ s) ((docks W H (at_ s)).getD j 0)) (fun iv _ => n - (intOf iv).toNat)
  case atStart =>
    have hal := fun o => (Below.refl w1.heap.size w1).alloc (Nat.le_refl _) o
    refine ⟨0, Nat.zero_le _, rfl, HB1.out.after (hal _), Tally.made w1 _ _ ?_, (HO1.out.later (hal _)).lower (by simp), fun j hj => by omega⟩
    intro r hr
    have hr8 : r = 0 ∨ r = 1 ∨ r = 2 ∨ r = 3 ∨ r = 4 ∨ r = 5 ∨ r = 6 ∨ r = 7 := by omega
    rcases hr8 with rfl | rfl | rfl | rfl | rfl | rfl | rfl | rfl <;> rfl
  case round =>
    obtain ⟨k, hk, rfl, hB, hT, hO, hj⟩ := hrel
    have HB := Lib.hid hB
    have HT := Lib.hid hT
    have HO := Lib.hid hO
    have HJ := Lib.hid hj
    have hkk := hB.lt
    have hmb := hT.1
    have HG : Hid (∀ g, (Value.slice a n cap).ownBlock = some g → g ≠ w1.heap.size) := Lib.hid (fun g hg => Nat.ne_of_lt (HO1.out.lt g hg).2)
    clear hB hT hO hj
    by_cases hlt : k < n
    · have hk' : k < (docks W H (at_ s)).length := by rw [← HN.out]; exact hlt
      obtain ⟨g, rfl, hg, hc⟩ := HO.out.at k hk'
      have hmem := getD_mem hk'
      have hd := docks_isD hmem
      have HTK : Hid ((docks W H (at_ s)).take (k + 1) = (docks W H (at_ s)).take k ++ [(docks W H (at_ s)).getD k 0]) := Lib.hid (by rw [List.take_succ_eq_append_getElem hk', List.getD, List.getElem?_eq_getElem hk']; rfl)
      obtain ⟨d, hdq⟩ : ∃ d, d = (docks W H (at_ s)).getD k 0 := ⟨_, rfl⟩
      rw [← hdq] at hc hd hmem HTK
      have hds : d < s.size := by rw [HSZ.out]; exact hd.1
      obtain ⟨r, hr, hzr⟩ := isD_of hd.2
      have hq : ((s[d].toNat : Int) - 48) = (r : Int) := by rw [at_get s d hds, hzr]; omega
      have hlo : 48 ≤ s[d].toNat := by rw [at_get s d hds, hzr]; omega
      have hhi : s[d].toNat < 56 := by rw [at_get s d hds, hzr]; omega
      have HZR := Lib.hid hzr
      have HDQ := Lib.hid hdq
      have HDL := Lib.hid hd.1
      have HME := Lib.hid hmem
      clear hd hdq hzr hmem hk'
      have kk2 := HB.out.c2
      have ct := (HT.out.2 r hr).1
      have ft := (HT.out.2 r hr).2
      have HW2 : Hid (Below (w.heap.size + 1) wr (wr.setCell ⟨w1.heap.size, r, none⟩ (.int .i64 ((cn (at_ s) ((docks W H (at_ s)).take k) r : Int) + 1)))) := Lib.hid ((Below.refl _ _).setCell (p := ⟨w1.heap.size, r, none⟩) HB1.out.lt _)
      have hcb : cn (at_ s) ((docks W H (at_ s)).take k) r ≤ 256 := by
        have := List.length_filter_le (fun i => at_ s i == 48 + r) ((docks W H (at_ s)).take k)
        rw [List.length_take] at this
        unfold cn
        omega
      have HT2 := Lib.hid (HT.out.up (g := cn (at_ s) ((docks W H (at_ s)).take (k + 1))) r hr (by rw [HTK.out, cn_snoc, if_pos HZR.out]) (fun q hq => by rw [HTK.out, cn_snoc, if_neg (by rw [HZR.out]; omega)]) _ rfl)
      have HO2 := Lib.hid (HO.out.put w1.heap.size r (.int .i64 ((cn (at_ s) ((docks W H (at_ s)).take k) r : Int) + 1)) HG.out)
      have HBX := Lib.hid (HB.out.later HW2.out)
      generalize cn (at_ s) ((docks W H (at_ s)).take k) r = x at *
      have e0 := HBX.out.c0
      have e1 := HBX.out.c1
      have e2 := HBX.out.c2
      go_wp2_with fail
      refine (besideLane_any W H d s _ HS.out HDL.out).mono ?_
      rintro e w2 ⟨b, rfl, hbl, hb2⟩
      have HB2 := Lib.hid (HBX.out.after hb2)
      have HT3 := Lib.hid (HT2.out.later hb2)
      have HO3 := Lib.hid (HO2.out.later hb2)
      have HBL := Lib.hid hbl
      clear hbl hb2 e0 e1 e2 ct ft hc kk2 HW2 HT2 HO2 HBX
      cases b
      · go_wp2_with fail
        go_ret
        refine ⟨false, rfl, iff_of_false (by decide) (fun h => ?_), HB2.out.below⟩
        have := HBL.out.2 (h.near d HME.out)
        cases this
      · go_wp2_with fail
        go_roundw
        case rel =>
          refine ⟨k + 1, by omega, by go_num, HB2.out, HT3.out, HO3.out, fun j hj => ?_⟩
          rcases Nat.lt_succ_iff_lt_or_eq.1 hj with h | h
          · exact HJ.out j h
          · subst h; rw [← HDQ.out]; exact HBL.out.1 (by trivial)
        case measure => simp [intOf]; omega
    · obtain rfl : k = n := by omega
      have HT2 : Hid (Tally w1.heap.size (cn (at_ s) (docks W H (at_ s))) wr) := Lib.hid (by have := HT.out; rw [List.take_of_length_le (by rw [← HN.out]; exact Nat.le_refl _)] at this; exact this)
      have HNE : Hid (∀ d, d ∈ docks W H (at_ s) → ByLane W H (at_ s) d) := Lib.hid (fun d hd => by
        obtain ⟨j, hj, e⟩ := mem_getD hd
        rw [← e]
        exact HJ.out j (by rw [HN.out]; exact hj))
      clear HT HJ hk
      by_cases h8 : k ≤ 8
      · have hm : min (docks W H (at_ s)).length 8 = k := by rw [← HN.out]; omega
        have HM := Lib.hid hm
        clear hm
        go_wp2_with fail
        go_loop [33] (fun iv => ∃ r : Nat, r ≤ k ∧ iv = .int .i64 (r : Int) ∧ ∀ q, q < r → cn (at_ s) (docks W H (at_ s)) q = 1) (fun iv => 8 - (intOf iv).toNat)
        case atStart => exact ⟨0, Nat.zero_le _, rfl, fun q hq => by omega⟩
        case round =>
          obtain ⟨r, hr, rfl, hq⟩ := hrel
          have HQ := Lib.hid hq
          clear hq
          by_cases hlt2 : r < k
          · have ct := (HT2.out.2 r (by omega)).1
            have HNO := Lib.hid (docks_not (W := W) (H := H) (z := at_ s) (r := r) (by rw [HM.out]; exact hlt2))
            by_cases h1 : cn (at_ s) (docks W H (at_ s)) r = 1
            · rw [h1] at ct
              have H1 := Lib.hid h1
              clear h1
              go_wp2_with fail
              go_round
              case rel => exact ⟨r + 1, by omega, by go_num, fun q hq => by rcases Nat.lt_succ_iff_lt_or_eq.1 hq with h | h; exact HQ.out q h; rw [h]; exact H1.out⟩
              case measure => simp [intOf]; omega
            · have HN1 := Lib.hid (HNO.out h1)
              generalize cn (at_ s) (docks W H (at_ s)) r = x at *
              have hb : ((x : Int) != 1) = true := by rw [bne_iff_ne]; omega
              clear h1
              go_wp2_with fail
              go_ret
              exact ⟨false, rfl, iff_of_false (by decide) HN1.out, HB.out.below⟩
          · obtain rfl : r = k := by omega
            have HA := Lib.hid (docks_all (W := W) (H := H) (z := at_ s) (by rw [HM.out]; exact HQ.out) HNE.out)
            go_wp2_with fail
            go_ret
            exact ⟨_, rfl, by rw [HA.out, ← HN.out]; simp; omega, HB.out.below⟩
      · have hm : min (docks W H (at_ s)).length 8 = 8 := by rw [← HN.out]; omega
        have HM := Lib.hid hm
        clear hm
        go_wp2_with fail
        go_loop [33] (fun iv => ∃ r : Nat, r ≤ 8 ∧ iv = .int .i64 (r : Int) ∧ ∀ q, q < r → cn (at_ s) (docks W H (at_ s)) q = 1) (fun iv => 8 - (intOf iv).toNat)
        case atStart => exact ⟨0, Nat.zero_le _, rfl, fun q hq => by omega⟩
        case round =>
          obtain ⟨r, hr, rfl, hq⟩ := hrel
          have HQ := Lib.hid hq
          clear hq
          by_cases hlt2 : r < 8
          · have ct := (HT2.out.2 r (by omega)).1
            have HNO := Lib.hid (docks_not (W := W) (H := H) (z := at_ s) (r := r) (by rw [HM.out]; exact hlt2))
            by_cases h1 : cn (at_ s) (docks W H (at_ s)) r = 1
            · rw [h1] at ct
              have H1 := Lib.hid h1
              clear h1
              go_wp2_with fail
              go_round
              case rel => exact ⟨r + 1, by omega, by go_num, fun q hq => by rcases Nat.lt_succ_iff_lt_or_eq.1 hq with h | h; exact HQ.out q h; rw [h]; exact H1.out⟩
              case measure => simp [intOf]; omega
            · have HN1 := Lib.hid (HNO.out h1)
              generalize cn (at_ s) (docks W H (at_ s)) r = x at *
              have hb : ((x : Int) != 1) = true := by rw [bne_iff_ne]; omega
              clear h1
              go_wp2_with fail
              go_ret
              exact ⟨false, rfl, iff_of_false (by decide) HN1.out, HB.out.below⟩
          · obtain rfl : r = 8 := by omega
            have HA := Lib.hid (docks_all (W := W) (H := H) (z := at_ s) (by rw [HM.out]; exact HQ.out) HNE.out)
            go_wp2_with fail
            go_ret
            exact ⟨_, rfl, by rw [HA.out, ← HN.out]; simp; omega, HB.out.below⟩

end Go.Proofs.YtokjnmgbgflgnaaGreatDoor
