/-
  The document's answers for layer 3: reached.
-/
import Derived.Test.YtaioiobimenkfaaDoorFlR1
import Derived.Test.YtaioiobimenkfaaDoorFlD
import Derived.Test.YtaioiobimenkfaaDoorFlPlain
set_option linter.unusedVariables false
set_option maxRecDepth 100000
namespace Go.Proofs.YtaioiobimenkfaaDoor
open Go.RowKit Fl

theorem Tryd.infoBool : (Tryd.prog.info? 4).map (fun i => (i.zero, i.size, i.bytes)) = some (some (.bool false), 1, 1) := by kernel_rfl
/-- n truths lie in block b. -/
def Arr (b n : Nat) (B : Nat → Bool) (wr : World) : Prop := b < wr.heap.size ∧ ∀ x, x < n → wr.cell? ⟨b, x, none⟩ = some (.bool (B x)) ∧ wr.frozen? ⟨b, x, none⟩ = false
theorem Arr.later {b n : Nat} {B : Nat → Bool} {wr wx : World} (h : Arr b n B wr) (hb : Below wr.heap.size wr wx) : Arr b n B wx :=
  ⟨Nat.lt_of_lt_of_le h.1 hb.size, fun r hr => ⟨(hb.cell (p := ⟨b, r, none⟩) h.1).trans (h.2 r hr).1, (hb.frozen (p := ⟨b, r, none⟩) h.1).trans (h.2 r hr).2⟩⟩
theorem Arr.put {b n : Nat} {B : Nat → Bool} {wr : World} (h : Arr b n B wr) (y : Nat) (hy : y < n) : Arr b n (upd B y) (wr.setCell ⟨b, y, none⟩ (.bool true)) := by
  refine ⟨by simpa [World.setCell] using h.1, fun q hq => ⟨?_, by rw [World.frozen?_setCell]; exact (h.2 q hq).2⟩⟩
  by_cases e : q = y
  · subst e
    rw [World.cell?_setCell_same (h := (h.2 q hq).1), upd_same]
  · rw [World.cell?_setCell_other (h := (fun e2 => e (by simpa using e2.symm) : (⟨b, y, none⟩ : Addr) ≠ ⟨b, q, none⟩)), upd_other B e]
    exact (h.2 q hq).1
def isOff : Option Value → Bool
  | some (.bool false) => true
  | _ => false
/-- How many are off, as the world has it. -/
def offIn (b n : Nat) (wr : World) : Nat := ((List.range n).filter fun x => isOff (wr.cell? ⟨b, x, none⟩)).length
theorem Arr.off {b n : Nat} {B : Nat → Bool} {wr : World} (h : Arr b n B wr) : offIn b n wr = off B n := by
  unfold offIn Fl.off
  congr 1
  apply List.filter_congr
  intro x hx
  rw [(h.2 x (List.mem_range.1 hx)).1]
  cases B x <;> rfl
def flag : Value → Nat
  | .bool true => 1
  | _ => 0

/-- What can be reached is told. -/
def ReachTold (W H : Nat) (z : Nat → Nat) (a n : Nat) (w : World) (e : Ending) (w' : World) : Prop :=
  ∃ (g : Nat) (B : Nat → Bool), e = .returned (.slice (some ⟨g, 0, none⟩) n n) ∧ Arr g n B w' ∧ Below w.heap.size w w' ∧ ∀ x, x < n → (B x = true ↔ Rch W H z a x)

theorem made_arr {w1 : World} {base g n : Nat} (h : w1.ownsRow base 4 1 (.slice (some ⟨g, 0, none⟩) n n) n (madeCells (Value.bool false).cells (n * 1)).toList) : Arr g n (fun _ => false) w1 := by
  refine ⟨(h.lt g rfl).2, fun x hx => ⟨?_, h.frozenAt x⟩⟩
  rw [h.cellAt x (by omega)]
  simp [madeCells, Value.cells, hx, Nat.mod_one]

theorem rlane_is (c : Nat) (b : Bool) (w : World) (h : isL c = b) : Calls Tryd.prog 65 #[.int .u8 (c : Int)] w fun e w' => e = .returned (.bool b) ∧ w' = w :=
  (rlane_any c w).mono fun e w' ⟨h1, h2⟩ => ⟨by rw [h1, h], h2.symm⟩

set_option maxHeartbeats 2000000 in
theorem reached_any (W H a : Nat) (s : ByteArray) (w : World) (hS : Sides W H s) (ha : a < s.size) :
    Calls Tryd.prog 66 #[.agg #[.int .i64 (W : Int), .int .i64 (H : Int), .string s], .int .i64 (a : Int)] w (ReachTold W H (at_ s) a s.size w) := by
  have h256 := hS.le
  have HS := Lib.hid hS
  have HSZ := Lib.hid hS.sz
  obtain ⟨i0, hi, hz0, hz1, hz2⟩ := info_parts Tryd.infoBool
  clear hS
  go_enter Tryd.func66, Tryd.ntmps66
  go_wp2_with (at_make; go_must (refine wpList_make_full _ rfl _ _ 46 rfl (w.heap.size + 1) 4 i0 (.bool false) 1 Tryd.underlying46 hi hz0 hz1 .i64 .i64 _ _ s.size rfl rfl rfl rfl (by rw [hz2]; omega) (by unfold maxLen; omega) (by simp) ?_); intro w1 ho1 hg1; have hA1 : Arr (w.heap.size + 1) s.size (fun _ => false) w1 := (by have h := made_arr ho1; simpa using h); have hB1 : Box w W H s w1 := (Box.start w W H s 23).later (Below.grown (Below.refl _ _) hg1 (by simp) (fun k hk => by cases hk)); have ca := (hA1.2 a ha).1; have fa := (hA1.2 a ha).2; have HA1 := Lib.hid hA1; have HB1 := Lib.hid hB1; clear ho1 hg1 hA1 hB1)
  clear ca fa hi hz0 hz1 hz2
  go_loopw [6] (fun mv wr => ∃ (m : Bool) (B : Nat → Bool), mv = .bool m ∧ Box w W H s wr ∧ Arr (w.heap.size + 1) s.size B wr ∧ Rs W H (at_ s) a s.size B ∧ (m = false → ∀ x, x < s.size → B x = true → ∀ y, y ∈ side W H x → isL (at_ s y) = true → B y = true))
    (fun mv wr => 2 * offIn (w.heap.size + 1) s.size wr + flag mv)
  case atStart =>
    refine ⟨true, upd (fun _ => false) a, rfl, HB1.out.later ((Below.refl _ _).setCell (p := ⟨w.heap.size + 1, a, none⟩) (Nat.le_refl _) _), HA1.out.put a ha, ⟨upd_same _ _, fun x hx hb => ?_⟩, fun h => by cases h⟩
    by_cases e : x = a
    · subst e; exact Rch.refl _ _ _ _
    · rw [upd_other _ e] at hb; cases hb
  case round =>
    rename World => wo
    obtain ⟨m, B, rfl, hB, hA, hR, hC⟩ := hrel
    have HB := Lib.hid hB
    have HA := Lib.hid hA
    have HR := Lib.hid hR
    have HC := Lib.hid hC
    clear hB hA hR hC
    cases m
    · have hz := HB.out.lt
      go_wp2_with fail
      go_ret
      exact ⟨w.heap.size + 1, B, rfl, HA.out, HB.out.below, fun x hx => by
        have hR := HR.out
        rw [HSZ.out] at hR hx
        exact hR.all HS.out.w1 (by rw [← HSZ.out]; exact ha) (fun x hx => HC.out (by trivial) x (by rw [HSZ.out]; exact hx)) x hx⟩
    · have HOF := Lib.hid HA.out.off
      go_wp2_with fail
      go_loopw [6, 7] (fun mv iv wr => ∃ (m : Bool) (B2 : Nat → Bool) (i : Nat), i ≤ s.size ∧ iv = .int .i64 (i : Int) ∧ mv = .bool m ∧ Box w W H s wr ∧ Arr (w.heap.size + 1) s.size B2 wr ∧ Ps W H (at_ s) a s.size (off B s.size) i m B2)
        (fun _ iv _ => s.size - (intOf iv).toNat)
      case atStart => exact ⟨false, B, 0, Nat.zero_le _, rfl, rfl, HB.out, HA.out, ⟨HR.out, by simp, fun _ x hx => by omega⟩⟩
      case round =>
        rename World => wm
        obtain ⟨m, B2, i, hi, rfl, rfl, hB, hA, hP⟩ := hrel
        have HB2 := Lib.hid hB
        have HA2 := Lib.hid hA
        have HP := Lib.hid hP
        have k0 := hB.c0
        have k1 := hB.c1
        have k2 := hB.c2
        have hz := hB.lt
        clear hB hA hP
        by_cases hlt : i < s.size
        · have ci := (HA2.out.2 i hlt).1
          cases hb : B2 i with
          | false =>
            rw [hb] at ci
            have HBI := Lib.hid hb
            clear hb
            go_wp2_with fail
            go_roundw
            case rel => exact ⟨m, B2, i + 1, by omega, by go_num, rfl, HB2.out, HA2.out, HP.out.next (fun _ h => by rw [HBI.out] at h; cases h)⟩
            case measure => simp [intOf]; omega
          | true =>
            rw [hb] at ci
            have HBI := Lib.hid hb
            have HIN := Lib.hid (show i < W * H by rw [← HSZ.out]; exact hlt)
            have HBE := Lib.hid (fun wx => rbeside_any W H i s wx HS.out.w1 HS.out.w2 HS.out.h1 HS.out.h2 HIN.out)
            have HSL := Lib.hid (side_len W H i)
            clear hb
            go_wp2_with fail
            refine (HBE.out _).mono ?_
            rintro e w3 ⟨A3, n3, c3, rfl, hn3, ho3, hb3⟩
            have HB3 := Lib.hid (HB2.out.after hb3)
            have HA3 := Lib.hid (HA2.out.later hb3)
            have HO3 := Lib.hid (ho3)
            have HN3 := Lib.hid hn3
            have hn4 : n3 ≤ 4 := by rw [hn3]; exact HSL.out
            have hwm := HA2.out.1
            clear k0 k1 k2 ci hn3 ho3 hb3 HBE
            go_wp2_with fail
            go_loopw [6, 9] (fun mv kv wr => ∃ (m3 : Bool) (B3 : Nat → Bool) (k : Nat), k ≤ n3 ∧ kv = .int .i64 (k : Int) ∧ mv = .bool m3 ∧ Box w W H s wr ∧ Arr (w.heap.size + 1) s.size B3 wr ∧ Own wr wm.heap.size (.slice A3 n3 c3) (side W H i) ∧ Ps W H (at_ s) a s.size (off B s.size) i m3 B3 ∧ B3 i = true ∧ (m3 = false → ∀ j, j < k → isL (at_ s ((side W H i).getD j 0)) = true → B3 ((side W H i).getD j 0) = true))
              (fun _ kv _ => n3 - (intOf kv).toNat)
            case atStart => exact ⟨m, B2, 0, Nat.zero_le _, rfl, rfl, HB3.out, HA3.out, HO3.out, HP.out, HBI.out, fun _ j hj => by omega⟩
            case round =>
              rename World => wk
              obtain ⟨m3, B3, k, hk, rfl, rfl, hB4, hA4, hO4, hP4, hI4, hJ⟩ := hrel
              have HB4 := Lib.hid hB4
              have HA4 := Lib.hid hA4
              have HO4 := Lib.hid hO4
              have HP4 := Lib.hid hP4
              have HI4 := Lib.hid hI4
              have HJ := Lib.hid hJ
              have q2 := hB4.c2
              have hz4 := hB4.lt
              clear hB4 hA4 hO4 hP4 hI4 hJ
              by_cases hlt4 : k < n3
              · have hkL : k < (side W H i).length := by rw [← HN3.out]; exact hlt4
                obtain ⟨g, rfl, hg, hc⟩ := HO4.out.at k hkL
                have HYS := Lib.hid (getD_mem hkL)
                have hys : (side W H i).getD k 0 < s.size := by rw [HSZ.out]; exact side_lt HS.out.w1 HIN.out HYS.out
                obtain ⟨y, hy⟩ : ∃ y, y = (side W H i).getD k 0 := ⟨_, rfl⟩
                rw [← hy] at hc HYS hys
                have HY := Lib.hid hy
                have cy := (HA4.out.2 y hys).1
                have fy := (HA4.out.2 y hys).2
                have HZ := Lib.hid (at_get s y hys)
                clear hy hkL
                have HGB : Hid (∀ b, (Value.slice (some ⟨g, 0, none⟩) n3 c3).ownBlock = some b → b ≠ w.heap.size + 1) := Lib.hid (fun b hb => by have := (HO4.out.lt b hb).1; omega)
                cases hl : isL s[y].toNat with
                | false =>
                  have HJ2 : Hid (m3 = false → ∀ j, j < k + 1 → isL (at_ s ((side W H i).getD j 0)) = true → B3 ((side W H i).getD j 0) = true) := Lib.hid (fun hm j hj h => by
                    rcases Nat.lt_succ_iff_lt_or_eq.1 hj with x | x
                    · exact HJ.out hm j x h
                    · subst x
                      rw [← HY.out, ← HZ.out, hl] at h
                      cases h)
                  go_wp2_with fail
                  go_big_quiet ((go_at_call 65; exact Calls.quiet_of_same (rlane_is _ false _ hl)))
                  go_wp2_with fail
                  go_roundw
                  case rel => exact ⟨m3, B3, k + 1, by omega, by go_num, rfl, HB4.out.later (below_drewN _ _ _), HA4.out.later (below_drewN _ _ _), HO4.out.later (below_drewN _ _ _), HP4.out, HI4.out, HJ2.out⟩
                  case measure => simp [intOf]; omega
                | true =>
                  cases hby : B3 y with
                  | true =>
                    rw [hby] at cy
                    have HJ2 : Hid (m3 = false → ∀ j, j < k + 1 → isL (at_ s ((side W H i).getD j 0)) = true → B3 ((side W H i).getD j 0) = true) := Lib.hid (fun hm j hj h => by
                      rcases Nat.lt_succ_iff_lt_or_eq.1 hj with x | x
                      · exact HJ.out hm j x h
                      · subst x
                        rw [← HY.out]
                        exact hby)
                    clear hby
                    go_wp2_with fail
                    go_big_quiet ((go_at_call 65; exact Calls.quiet_of_same (rlane_is _ true _ hl)))
                    go_wp2_with fail
                    go_roundw
                    case rel => exact ⟨m3, B3, k + 1, by omega, by go_num, rfl, HB4.out.later (below_drewN _ _ _), HA4.out.later (below_drewN _ _ _), HO4.out.later (below_drewN _ _ _), HP4.out, HI4.out, HJ2.out⟩
                    case measure => simp [intOf]; omega
                  | false =>
                    rw [hby] at cy
                    have HP5 := Lib.hid (HP4.out.new hlt HI4.out HYS.out (by rw [← HZ.out]; exact hl) hys hby)
                    clear hby
                    go_wp2_with fail
                    go_big_quiet ((go_at_call 65; exact Calls.quiet_of_same (rlane_is _ true _ hl)))
                    go_wp2_with fail
                    go_roundw
                    case rel =>
                      have hbw : Below (w.heap.size + 1) wk (wk.drewN nq) := below_drewN _ _ _
                      refine ⟨true, upd B3 y, k + 1, by omega, by go_num, rfl, HB4.out.later (((below_drewN _ _ _)).setCell (p := ⟨w.heap.size + 1, y, none⟩) (Nat.le_refl _) _), (HA4.out.later (below_drewN _ _ _)).put y hys, (HO4.out.later (below_drewN _ _ _)).put _ _ _ HGB.out, HP5.out, upd_le _ _ _ HI4.out, fun h => by cases h⟩
                    case measure => simp [intOf]; omega
              · obtain rfl : k = n3 := by omega
                go_wp2_with fail
                go_roundw
                case rel =>
                  refine ⟨m3, B3, i + 1, by omega, by go_num, rfl, HB4.out, HA4.out, HP4.out.next (fun hm _ y hy hl => ?_)⟩
                  obtain ⟨j, hj, rfl⟩ := mem_getD hy
                  exact HJ.out hm j (by rw [HN3.out]; exact hj) hl
                case measure => simp [intOf]; omega
        · obtain rfl : i = s.size := by omega
          have HME : Hid (2 * offIn (w.heap.size + 1) s.size wm + flag (.bool m) < 2 * offIn (w.heap.size + 1) s.size wo + flag (.bool true)) := Lib.hid (by
            rw [HA2.out.off, HOF.out]
            have := HP.out.less
            cases m <;> simp [flag] at this ⊢ <;> omega)
          go_wp2_with fail
          go_roundw
          case rel => exact ⟨m, B2, rfl, HB2.out, HA2.out, HP.out.rs, fun hm x hx => HP.out.done hm x hx⟩
          case measure => exact HME.out

end Go.Proofs.YtaioiobimenkfaaDoor
