/-
  Layer 8: Right, Order, Safe, May.
-/
import Derived.Test.YtljmigomhoefpaaBkF
import Derived.Laws.EntriesVeiled
set_option linter.unusedVariables false
set_option maxRecDepth 100000
namespace Go.Proofs.Ytljmigomhoefpaa.Bk
open Go.RowKit

/-- A truth is told. -/
def Told8 (P : Prop) (w : World) (e : Ending) (w' : World) : Prop := ∃ b : Bool, e = .returned (.bool b) ∧ (b = true ↔ P) ∧ Below w.heap.size w w'
/-- An order is told, or none. -/
def OrdTold (C : Cm) (w : World) (e : Ending) (w' : World) : Prop := ∃ A m c o is, e = .returned (.tuple #[.slice A m c, .bool is]) ∧ m = o.length ∧ OrdIs C o is ∧ Iw w' w.heap.size (.slice A m c) (nz o) ∧ Below w.heap.size w w'
theorem right_any (A : Option Addr) (n cap : Nat) (C : Cm) (w : World) (h : Cl w.heap.size w A n cap C) : Calls Try.prog 14 #[.slice A n cap] w (Told8 (Rg C) w) := by
  have HH := Lib.hid (holder_any A n cap C w h)
  clear h
  go_enter Try.func14, Try.ntmps14
  go_wp2_with fail
  refine HH.out.mono ?_
  rintro e w' ⟨hb, ⟨hR, rfl⟩ | ⟨hR, bx, g, f, rfl, hv⟩⟩
  · have HB := Lib.hid hb
    have HR := Lib.hid hR
    clear hb hR
    go_wp2_with fail
    go_ret
    exact ⟨false, rfl, iff_of_false (by decide) HR.out, HB.out⟩
  · have HB := Lib.hid hb
    have HR := Lib.hid hR
    clear hb hR hv
    go_wp2_with fail
    go_ret
    exact ⟨true, rfl, iff_of_true rfl HR.out, HB.out⟩
theorem ask_h {w : World} {bx g : Nat} {f : Nat → Nat} {C : Cm} (h : Hv w bx g f C) (n : Nat) (hn : C.length = n) : ∀ wx, Below w.heap.size w wx → AskH wx bx (hb C) n :=
  fun wx hb a ha z hz => holder1_any bx g f C wx (h.later hb) a (by omega) z hz
theorem order_any (A : Option Addr) (n cap : Nat) (C : Cm) (w : World) (h : Cl w.heap.size w A n cap C) : Calls Try.prog 11 #[.slice A n cap] w (OrdTold C w) := by
  have HH := Lib.hid (holder_any A n cap C w h)
  have HC := Lib.hid h
  have HN := Lib.hid h.len
  clear h
  go_enter Try.func11, Try.ntmps11
  go_wp2_with fail
  refine HH.out.mono ?_
  rintro e w1 ⟨hb, ⟨hR, rfl⟩ | ⟨hR, bx, g, f, rfl, hv⟩⟩
  · have HB := Lib.hid hb
    have HR := Lib.hid hR
    clear hb hR
    go_wp2_with fail
    go_ret2
    exact ⟨_, _, _, [], false, rfl, rfl, .inl ⟨HR.out, rfl, rfl⟩, Iw.nil _ _, HB.out⟩
  · have HB := Lib.hid hb
    have HR := Lib.hid hR
    have HV := Lib.hid hv
    unfold holdV
    clear hb hR hv
    go_wp2_with fail
    refine (orderH_any bx (hb C) A n cap C w1 (HC.out.later HB.out) (by rw [← HN.out]; exact HR.out.few) (fun a ha z hz => (HR.out.zones a (by rw [HN.out]; exact ha)).2 z hz) (ask_h HV.out n HN.out)).mono ?_
    rintro e w2 ⟨hb2, hh⟩
    have HB2 := Lib.hid hb2
    clear hb2
    rcases hh with ⟨rfl, hno⟩ | ⟨A3, m3, c3, o, rfl, hm, ho, hown⟩
    · have HO := Lib.hid hno
      clear hno
      go_wp2_with fail
      go_ret2
      exact ⟨_, _, _, [], false, rfl, rfl, .inr ⟨HR.out, .inl ⟨by rw [HN.out]; exact HO.out, rfl, rfl⟩⟩, Iw.nil _ _, HB.out.trans (HB2.out.mono HB.out.size)⟩
    · have HO := Lib.hid ho
      have HW := Lib.hid hown
      have HM := Lib.hid hm
      clear ho hown hm
      go_wp2_with fail
      go_ret2
      exact ⟨_, _, _, o, true, rfl, HM.out, .inr ⟨HR.out, .inr ⟨by rw [HN.out]; exact HO.out, rfl⟩⟩, own_lower HW.out HB.out.size, HB.out.trans (HB2.out.mono HB.out.size)⟩
theorem safe_any (A : Option Addr) (n cap : Nat) (C : Cm) (w : World) (h : Cl w.heap.size w A n cap C) : Calls Try.prog 17 #[.slice A n cap] w (Told8 (Rg C ∧ SafC C) w) := by
  have HH := Lib.hid (order_any A n cap C w h)
  clear h
  go_enter Try.func17, Try.ntmps17
  go_wp2_with fail
  refine HH.out.mono ?_
  rintro e w' ⟨A3, m3, c3, o, is, rfl, _, hO, _, hb⟩
  have HB := Lib.hid hb
  have HO := Lib.hid hO.saf
  clear hb hO
  go_wp2_with fail
  go_ret
  exact ⟨is, rfl, HO.out, HB.out⟩
theorem saf_ord {C : Cm} {n : Nat} (hn : C.length = n) (hd : Nat → Int → Bool) : (∃ o, ord (need C) hd n (List.range n) = some o) ↔ Saf (need C) hd (List.range C.length) := by
  subst hn
  exact ord_iff List.nodup_range List.length_range
/-- The boxes of who and zone. -/
structure Bx2 (w : World) (b2 : Nat) (who zone : Int) (w0 : World) : Prop where
  below : Below w.heap.size w w0
  c1 : w0.cell? ⟨w.heap.size, 0, none⟩ = some (.int .i64 who)
  c2 : w0.cell? ⟨b2, 0, none⟩ = some (.int .i64 zone)
  lt : w.heap.size < w0.heap.size ∧ b2 < w0.heap.size
theorem Bx2.later {w : World} {b2 : Nat} {who zone : Int} {w0 w1 : World} (h : Bx2 w b2 who zone w0) (hb : Below w0.heap.size w0 w1) : Bx2 w b2 who zone w1 :=
  ⟨h.below.trans (hb.mono h.below.size), (hb.cell (p := ⟨w.heap.size, 0, none⟩) h.lt.1).trans h.c1, (hb.cell (p := ⟨b2, 0, none⟩) h.lt.2).trans h.c2, Nat.lt_of_lt_of_le h.lt.1 hb.size, Nat.lt_of_lt_of_le h.lt.2 hb.size⟩
theorem Bx2.start (w : World) (who zone : Int) : Bx2 w (w.heap.size + 1) who zone ((w.alloc (.cells #[.int .i64 who] 3)).alloc (.cells #[.int .i64 zone] 3)) := by
  have hb := (Below.refl (w.heap.size + 1) (w.alloc (.cells #[.int .i64 who] 3))).alloc (by simp) (.cells #[.int .i64 zone] 3)
  refine ⟨((Below.refl w.heap.size w).alloc (Nat.le_refl _) (.cells #[.int .i64 who] 3)).alloc (by simp) (.cells #[.int .i64 zone] 3), ?_, ?_, by simp; omega, by simp⟩
  · exact (hb.cell (p := ⟨w.heap.size, 0, none⟩) (by simp)).trans (by simp [World.cell?_alloc_new])
  · simp
set_option maxHeartbeats 2000000 in
theorem may_any (A : Option Addr) (n cap : Nat) (C : Cm) (who zone : Int) (w : World) (h : Cl w.heap.size w A n cap C) : Calls Try.prog 18 #[.slice A n cap, .int .i64 who, .int .i64 zone] w (Told8 (MayP C who zone) w) := by
  have HC := Lib.hid h
  have HN := Lib.hid h.len
  have hs := h.size
  have hs1 := hs.1
  have hs2 := hs.2
  have HX0 := Lib.hid (Bx2.start w who zone)
  clear h hs
  go_enter Try.func18, Try.ntmps18
  go_wp2_with fail
  generalize (w.alloc (.cells #[.int .i64 who] 3)).alloc (.cells #[.int .i64 zone] 3) = w0 at *
  generalize w.heap.size + 1 = b2 at *
  refine (holder_any A n cap C w0 ((HC.out.below HX0.out.below).raise HX0.out.below.size)).mono ?_
  rintro e w1 ⟨hb1, hh⟩
  have HX1 := Lib.hid (HX0.out.later hb1)
  clear hb1 HX0
  rcases hh with ⟨hR, rfl⟩ | ⟨hR, bx, g, f, rfl, hv⟩
  · have HR : Hid (¬ MayP C who zone) := Lib.hid (fun h => hR h.1)
    have HX2 := Lib.hid (HX1.out.later ((Below.refl _ w1).alloc (Nat.le_refl _) (.cells #[.nilFunc] 36)))
    clear hR
    go_wp2_with fail
    go_ret
    exact ⟨false, rfl, iff_of_false (by decide) HR.out, HX2.out.below⟩
  · have HR := Lib.hid hR
    have hA2 := (Below.refl w1.heap.size w1).alloc (Nat.le_refl _) (.cells #[holdV bx] 36)
    have HX2 := Lib.hid (HX1.out.later hA2)
    have HV := Lib.hid (hv.later hA2)
    have c3 : (w1.alloc (.cells #[holdV bx] 36)).cell? ⟨w1.heap.size, 0, none⟩ = some (holdV bx) := by simp [World.cell?_alloc_new]
    have HB3 : Hid (w1.heap.size < (w1.alloc (.cells #[holdV bx] 36)).heap.size) := Lib.hid (by simp)
    unfold holdV at *
    have c1 := HX2.out.c1
    have c2 := HX2.out.c2
    have hn8 : n ≤ 8 := by rw [← HN.out]; exact HR.out.few
    clear hR hv hA2
    by_cases h1 : who < 0
    · have d1 : decide (who < 0) = true := decide_eq_true h1
      have HM : Hid (¬ MayP C who zone) := Lib.hid (fun h => by have := h.2.1; omega)
      go_wp2_with fail
      go_ret
      exact ⟨false, rfl, iff_of_false (by decide) HM.out, HX2.out.below⟩
    · have d1 : decide (who < 0) = false := decide_eq_false h1
      by_cases h2 : (n : Int) ≤ who
      · have d2 : decide ((n : Int) ≤ who) = true := decide_eq_true h2
        have HM : Hid (¬ MayP C who zone) := Lib.hid (fun h => by have := h.2.2.1; rw [HN.out] at this; omega)
        go_wp2_with fail
        go_ret
        exact ⟨false, rfl, iff_of_false (by decide) HM.out, HX2.out.below⟩
      · have d2 : decide ((n : Int) ≤ who) = false := decide_eq_false h2
        by_cases hz : Zn zone
        · have HZ := Lib.hid hz
          clear hz
          go_wp2_with fail
          refine (isZone_any zone _).mono ?_
          rintro e w' ⟨b, rfl, hb, rfl⟩
          obtain rfl : b = true := hb.2 HZ.out
          clear hb
          go_wp2_with fail
          generalize w1.heap.size = b3 at *
          generalize w1.alloc (.cells #[.func (.func 30) #[] #[.pointer (some ⟨bx, 0, none⟩)]] 36) = w2 at *
          obtain ⟨k, rfl⟩ := Int.eq_ofNat_of_zero_le (show 0 ≤ who by omega)
          have hk : k < n := by omega
          have HMV : Hid (Mv w2 w.heap.size b2 b3 bx g f C k zone) := Lib.hid ⟨⟨HX2.out.lt.1, HX2.out.lt.2, HB3.out⟩, HX2.out.c1, HX2.out.c2, c3, HV.out⟩
          clear h1 h2 d1 d2
          go_loop [36] (fun iv => ∃ j : Nat, j ≤ n ∧ iv = .int .i64 (j : Int) ∧ Hid (∀ t, t < j → zone ∉ hold C t)) (fun iv => n - (intOf iv).toNat)
          case atStart => exact ⟨0, Nat.zero_le _, rfl, Lib.hid (fun t ht => by omega)⟩
          case round =>
            obtain ⟨j, hj, rfl, HJ⟩ := hrel
            by_cases hlt : j < n
            · have HQ := Lib.hid (holder1_any bx g f C w2 HV.out j (by rw [HN.out]; exact hlt) zone HZ.out)
              by_cases hin : zone ∈ hold C j
              · rw [show hb C j zone = true from decide_eq_true hin] at HQ
                have HM : Hid (¬ MayP C (k : Int) zone) := Lib.hid (fun h => h.2.2.2.2.1 j (by rw [HN.out]; exact hlt) hin)
                clear hin
                go_wp2_with fail
                refine HQ.out.mono ?_
                rintro e w' ⟨rfl, rfl⟩
                go_wp2_with fail
                go_ret
                exact ⟨false, rfl, iff_of_false (by decide) HM.out, HX2.out.below⟩
              · rw [show hb C j zone = false from decide_eq_false hin] at HQ
                have HI := Lib.hid hin
                clear hin
                go_wp2_with fail
                refine HQ.out.mono ?_
                rintro e w' ⟨rfl, rfl⟩
                go_wp2_with fail
                go_round
                case rel => exact ⟨j + 1, by omega, by go_num, Lib.hid (fun t ht => by
                  rcases Nat.lt_succ_iff_lt_or_eq.1 ht with h | h
                  · exact HJ.out t h
                  · subst h; exact HI.out)⟩
                case measure => simp [intOf]; omega
            · obtain rfl : j = n := by omega
              go_wp2_with fail
              refine (orderM_any w.heap.size b2 b3 (gv (hb C) k zone) A j cap C w2 ((HC.out.below HX2.out.below).raise HX2.out.below.size) hn8 (fun a ha z hz => (HR.out.zones a (by rw [HN.out]; exact ha)).2 z hz) (fun wx hb a ha z hz => may1_any _ _ _ bx g f C k zone wx (HMV.out.later hb) a (by rw [HN.out]; exact ha) z hz)).mono ?_
              rintro e w3 ⟨hb3, hh⟩
              have HS := Lib.hid (saf_ord HN.out (gv (hb C) k zone))
              have HBB := Lib.hid (HX2.out.below.trans (hb3.mono HX2.out.below.size))
              clear hb3
              rcases hh with ⟨rfl, hno⟩ | ⟨A3, m3, c3, o, rfl, hm, ho, hown⟩
              · have HM : Hid (¬ MayP C (k : Int) zone) := Lib.hid (fun h => by
                  have h6 := h.2.2.2.2.2
                  rw [Int.toNat_natCast] at h6
                  obtain ⟨o, ho⟩ := HS.out.2 h6
                  rw [hno] at ho
                  cases ho)
                clear hno
                go_wp2_with fail
                go_ret
                exact ⟨false, rfl, iff_of_false (by decide) HM.out, HBB.out⟩
              · have HM : Hid (MayP C (k : Int) zone) := Lib.hid ⟨HR.out, Int.natCast_nonneg _, by rw [HN.out]; omega, HZ.out, fun j hj => HJ.out j (by rw [← HN.out]; exact hj), by rw [Int.toNat_natCast]; exact HS.out.1 ⟨o, ho⟩⟩
                clear ho hm hown
                go_wp2_with fail
                go_ret
                exact ⟨true, rfl, iff_of_true rfl HM.out, HBB.out⟩
        · have HZ : Hid (¬ Zn zone) := Lib.hid hz
          have HM : Hid (¬ MayP C who zone) := Lib.hid (fun h => hz h.2.2.2.1)
          clear hz
          go_wp2_with fail
          refine (isZone_any zone _).mono ?_
          rintro e w' ⟨b, rfl, hb, rfl⟩
          obtain rfl : b = false := Bool.eq_false_iff.2 (fun e => HZ.out (hb.1 e))
          clear hb
          go_wp2_with fail
          go_ret
          exact ⟨false, rfl, iff_of_false (by decide) HM.out, HX2.out.below⟩
end Go.Proofs.Ytljmigomhoefpaa.Bk
