/-
  The document's answers for layer 3: beside.
  The document's answers for layer 3: reached.
  The document's answers for layer 3: Right.
  The document's answers for layer 3: Robots, Lanes, Dock, Zone.
  The document's answers for layer 3: SameInts, Near, Text.
-/
import Derived.Test.YtakgkocdkondhaaGreatDoorFlOne
import Derived.Test.YtakgkocdkondhaaGreatDoorFlPlain
import Derived.Test.YtakgkocdkondhaaGreatDoorFlTwo
set_option linter.unusedVariables false
set_option maxRecDepth 100000
section
namespace Go.Proofs.YtakgkocdkondhaaGreatDoor
open Go.RowKit Fl

set_option maxHeartbeats 4000000 in
theorem rbeside_any (W H c : Nat) (s : ByteArray) (w : World) (hW : 1 ≤ W) (hW2 : W ≤ 16) (hH : 1 ≤ H) (hH2 : H ≤ 16) (hc : c < W * H) :
    Calls Tryz.prog 88 #[.agg #[.int .i64 (W : Int), .int .i64 (H : Int), .string s], .int .i64 (c : Int)] w (Ints (side W H c) w) := by
  have hm := le_mul16 hW2 hH2
  have hc2 : c < 256 := by omega
  have HC := Lib.hid hc
  clear hc hm
  obtain ⟨x, hx⟩ : ∃ x, x = c % W := ⟨_, rfl⟩
  obtain ⟨y, hy⟩ : ∃ y, y = c / W := ⟨_, rfl⟩
  have hxm : (c : Int) % (W : Int) = (x : Int) := by rw [hx]; rfl
  have hyq : (c : Int) / (W : Int) = (y : Int) := by rw [hy]; rfl
  have hyb : y < 256 := by rw [hy]; exact Nat.lt_of_le_of_lt (Nat.div_le_self _ _) hc2
  have hxb : x < 256 := by rw [hx]; exact Nat.lt_of_le_of_lt (Nat.mod_le _ _) hc2
  have hle : 0 < y → W ≤ c := fun h => le_div_mul (by rw [← hy]; exact h)
  have hle2 : 0 < x → 1 ≤ c := fun h => by rw [hx] at h; rcases Nat.eq_zero_or_pos c with h0 | h0; (subst h0; simp at h); exact h0
  have hyw : wrap64 ((y : Nat) : Int) = (y : Int) := by unfold wrap64; omega
  have U := Lib.hid (show up W c = if 0 < y then [c - W] else [] by unfold up; rw [hy])
  have R := Lib.hid (show rt W c = if x + 1 < W then [c + 1] else [] by unfold rt; rw [hx])
  have D := Lib.hid (show dn W H c = if y + 1 < H then [c + W] else [] by unfold dn; rw [hy])
  have L := Lib.hid (show lf W c = if 0 < x then [c - 1] else [] by unfold lf; rw [hx])
  clear hx hy
  have HLE := Lib.hid hle
  have HLE2 := Lib.hid hle2
  clear hle hle2
  go_enter Tryz.func88, Tryz.ntmps88
  go_upto_if 17 with (fail)
  rw [hxm]
  have HO : Hid (Own (w.alloc (.cells #[.int .i64 (W : Int), .int .i64 (H : Int), .string s] 25)) (w.heap.size + 1) (.slice none 0 0) []) := Lib.hid (Own.nil _ _)
  have HB : Hid (Box w W H s (w.alloc (.cells #[.int .i64 (W : Int), .int .i64 (H : Int), .string s] 25))) := Lib.hid (Box.start w W H s 25)
  generalize hw1 : w.alloc (.cells #[.int .i64 (W : Int), .int .i64 (H : Int), .string s] 25) = w1 at *
  have HW1 := Lib.hid hw1
  clear hxm hyq hyw hw1
  go_cut [5] (Part w W H s (up W c))
  case first =>
    have k0 := HB.out.c0
    by_cases h : 0 < y
    · have hle := HLE.out h
      have hsz := HB.out.lt
      go_wp2_with (at_builtin; refine app_int rfl _ _ rfl (w.heap.size + 1) _ [] rfl (c - W) _ (by omega) _ rfl HO.out rfl (by simp) (by omega) ?_; intro A' c' n' w2 hn2 ho2 hb2 hg2; have HN2 := Lib.hid hn2; clear hn2)
      go_meet
      rw [U.out, if_pos h]
      exact Part.add HB.out HN2.out ho2 hb2
    · go_wp2
      go_meet
      rw [U.out, if_neg h]
      exact ⟨_, _, _, rfl, rfl, HO.out, HB.out⟩
  case rest =>
    obtain ⟨a, n, cap, rfl, hn, ho, hB⟩ := hcut
    have hsl := side_len W H c
    rw [side] at hsl
    simp only [List.length_append] at hsl
    have hl : (up W c).length ≤ 1048576 := by omega
    have kkc0 := hB.c0
    have hsz := hB.lt
    have HO := Lib.hid ho
    have HB := Lib.hid hB
    have HN := Lib.hid hn
    clear hsl ho hB hn
    go_upto_if 29 with (fail)
    go_cut [5] (Part w W H s (up W c ++ rt W c))
    case first =>
      by_cases h : x + 1 < W
      · have hle := hW
        go_wp2_with (at_builtin; refine app_int rfl _ _ rfl (w.heap.size + 1) _ (up W c) rfl (c + 1) _ (by omega) _ rfl HO.out rfl hl (by omega) ?_; intro A' c' n' w2 hn2 ho2 hb2 hg2; have HN2 := Lib.hid hn2; clear hn2)
        go_meet
        rw [R.out, if_pos h]
        exact Part.add HB.out HN2.out ho2 hb2
      · go_wp2
        go_meet
        rw [R.out, if_neg h, List.append_nil]
        exact ⟨_, _, _, rfl, HN.out, HO.out, HB.out⟩
    case rest =>
      obtain ⟨a, n, cap, rfl, hn, ho, hB⟩ := hcut
      have hsl := side_len W H c
      rw [side] at hsl
      simp only [List.length_append] at hsl
      have hl : (up W c ++ rt W c).length ≤ 1048576 := by simp only [List.length_append]; omega
      have kkc0 := hB.c0
      have kkc1 := hB.c1
      have hsz := hB.lt
      have HO := Lib.hid ho
      have HB := Lib.hid hB
      have HN := Lib.hid hn
      clear hsl ho hB hn
      go_upto_if 39 with (fail)
      go_cut [5] (Part w W H s (up W c ++ rt W c ++ dn W H c))
      case first =>
        by_cases h : y + 1 < H
        · have hle := hW
          go_wp2_with (at_builtin; refine app_int rfl _ _ rfl (w.heap.size + 1) _ (up W c ++ rt W c) rfl (c + W) _ (by omega) _ rfl HO.out rfl hl (by omega) ?_; intro A' c' n' w2 hn2 ho2 hb2 hg2; have HN2 := Lib.hid hn2; clear hn2)
          go_meet
          rw [D.out, if_pos h]
          exact Part.add HB.out HN2.out ho2 hb2
        · go_wp2
          go_meet
          rw [D.out, if_neg h, List.append_nil]
          exact ⟨_, _, _, rfl, HN.out, HO.out, HB.out⟩
      case rest =>
        obtain ⟨a, n, cap, rfl, hn, ho, hB⟩ := hcut
        have hsl := side_len W H c
        rw [side] at hsl
        simp only [List.length_append] at hsl
        have hl : (up W c ++ rt W c ++ dn W H c).length ≤ 1048576 := by simp only [List.length_append]; omega
        have hsz := hB.lt
        have HO := Lib.hid ho
        have HB := Lib.hid hB
        have HN := Lib.hid hn
        clear hsl ho hB hn
        go_upto_if 48 with (fail)
        go_cut [5] (Part w W H s (up W c ++ rt W c ++ dn W H c ++ lf W c))
        case first =>
          by_cases h : 0 < x
          · have hle := HLE2.out h
            go_wp2_with (at_builtin; refine app_int rfl _ _ rfl (w.heap.size + 1) _ (up W c ++ rt W c ++ dn W H c) rfl (c - 1) _ (by omega) _ rfl HO.out rfl hl (by omega) ?_; intro A' c' n' w2 hn2 ho2 hb2 hg2; have HN2 := Lib.hid hn2; clear hn2)
            go_meet
            rw [L.out, if_pos h]
            exact Part.add HB.out HN2.out ho2 hb2
          · go_wp2
            go_meet
            rw [L.out, if_neg h, List.append_nil]
            exact ⟨_, _, _, rfl, HN.out, HO.out, HB.out⟩
        case rest =>
          obtain ⟨a, n, cap, rfl, hn, ho, hB⟩ := hcut
          have HO := Lib.hid ho
          have HB := Lib.hid hB
          have HN := Lib.hid hn
          clear ho hB hn
          go_wp2
          go_ret
          exact ⟨_, _, _, rfl, HN.out, HO.out.lower (Nat.le_succ _), HB.out.below⟩

end Go.Proofs.YtakgkocdkondhaaGreatDoor
end

section
namespace Go.Proofs.YtakgkocdkondhaaGreatDoor
open Go.RowKit Fl

theorem Tryz.infoBool : (Tryz.prog.info? 4).map (fun i => (i.zero, i.size, i.bytes)) = some (some (.bool false), 1, 1) := by kernel_rfl
/-- n truths lie in block b. -/
def Arr (b n : Nat) (B : Nat → Bool) (wr : World) : Prop := b < wr.heap.size ∧ ∀ x, x < n → wr.cell? ⟨b, x, none⟩ = some (.bool (B x)) ∧ wr.frozen? ⟨b, x, none⟩ = false
theorem Arr.later {b n : Nat} {B : Nat → Bool} {wr wx : World} (h : Arr b n B wr) (hb : Below wr.heap.size wr wx) : Arr b n B wx :=
  ⟨Nat.lt_of_lt_of_le h.1 hb.size, fun r hr => ⟨(hb.cell (p := ⟨b, r, none⟩) h.1).trans (h.2 r hr).1, (hb.frozen (p := ⟨b, r, none⟩) h.1).trans (h.2 r hr).2⟩⟩
theorem Arr.put {b n : Nat} {B : Nat → Bool} {wr : World} (h : Arr b n B wr) (y : Nat) (hy : y < n) : Arr b n (upd B y) (wr.setCell ⟨b, y, none⟩ (.bool true)) := by
  refine ⟨by simpa [World.setCell] using h.1, fun q hq => ⟨?_, by rw [World.frozen?_setCell]; exact (h.2 q hq).2⟩⟩
  by_cases e : q = y
  · subst e
    rw [World.cell?_setCell_same (h := (h.2 q hq).1), upd_same]
  · rw [World.cell?_setCell_other (h := (fun e2 => e (by simpa using e2.symm) : (⟨b, y, none⟩ : Addr) ≠ ⟨b, q, none⟩)), upd_other B e]
    exact (h.2 q hq).1
def isOff : Option Value → Bool
  | some (.bool false) => true
  | _ => false
/-- How many are off, as the world has it. -/
def offIn (b n : Nat) (wr : World) : Nat := ((List.range n).filter fun x => isOff (wr.cell? ⟨b, x, none⟩)).length
theorem Arr.off {b n : Nat} {B : Nat → Bool} {wr : World} (h : Arr b n B wr) : offIn b n wr = off B n := by
  unfold offIn Fl.off
  congr 1
  apply List.filter_congr
  intro x hx
  rw [(h.2 x (List.mem_range.1 hx)).1]
  cases B x <;> rfl
def flag : Value → Nat
  | .bool true => 1
  | _ => 0

/-- What can be reached is told. -/
def ReachTold (W H : Nat) (z : Nat → Nat) (a n : Nat) (w : World) (e : Ending) (w' : World) : Prop :=
  ∃ (g : Nat) (B : Nat → Bool), e = .returned (.slice (some ⟨g, 0, none⟩) n n) ∧ Arr g n B w' ∧ Below w.heap.size w w' ∧ ∀ x, x < n → (B x = true ↔ Rch W H z a x)

theorem made_arr {w1 : World} {base g n : Nat} (h : w1.ownsRow base 4 1 (.slice (some ⟨g, 0, none⟩) n n) n (madeCells (Value.bool false).cells (n * 1)).toList) : Arr g n (fun _ => false) w1 := by
  refine ⟨(h.lt g rfl).2, fun x hx => ⟨?_, h.frozenAt x⟩⟩
  rw [h.cellAt x (by omega)]
  simp [madeCells, Value.cells, hx, Nat.mod_one]

theorem rlane_is (c : Nat) (b : Bool) (w : World) (h : isL c = b) : Calls Tryz.prog 86 #[.int .u8 (c : Int)] w fun e w' => e = .returned (.bool b) ∧ w' = w :=
  (rlane_any c w).mono fun e w' ⟨h1, h2⟩ => ⟨by rw [h1, h], h2.symm⟩

set_option maxHeartbeats 2000000 in
theorem reached_any (W H a : Nat) (s : ByteArray) (w : World) (hS : Sides W H s) (ha : a < s.size) :
    Calls Tryz.prog 87 #[.agg #[.int .i64 (W : Int), .int .i64 (H : Int), .string s], .int .i64 (a : Int)] w (ReachTold W H (at_ s) a s.size w) := by
  have h256 := hS.le
  have HS := Lib.hid hS
  have HSZ := Lib.hid hS.sz
  obtain ⟨i0, hi, hz0, hz1, hz2⟩ := info_parts Tryz.infoBool
  clear hS
  go_enter Tryz.func87, Tryz.ntmps87
  go_wp2_with (at_make; go_must (refine wpList_make_full _ rfl _ _ 134 rfl (w.heap.size + 1) 4 i0 (.bool false) 1 Tryz.underlying134 hi hz0 hz1 .i64 .i64 _ _ s.size rfl rfl rfl rfl (by rw [hz2]; omega) (by unfold maxLen; omega) (by simp) ?_); intro w1 ho1 hg1; have hA1 : Arr (w.heap.size + 1) s.size (fun _ => false) w1 := (by have h := made_arr ho1; simpa using h); have hB1 : Box w W H s w1 := (Box.start w W H s 25).later (Below.grown (Below.refl _ _) hg1 (by simp) (fun k hk => by cases hk)); have ca := (hA1.2 a ha).1; have fa := (hA1.2 a ha).2; have HA1 := Lib.hid hA1; have HB1 := Lib.hid hB1; clear ho1 hg1 hA1 hB1)
  clear ca fa hi hz0 hz1 hz2
  go_loopw [6] (fun mv wr => ∃ (m : Bool) (B : Nat → Bool), mv = .bool m ∧ Box w W H s wr ∧ Arr (w.heap.size + 1) s.size B wr ∧ Rs W H (at_ s) a s.size B ∧ (m = false → ∀ x, x < s.size → B x = true → ∀ y, y ∈ side W H x → isL (at_ s y) = true → B y = true))
    (fun mv wr => 2 * offIn (w.heap.size + 1) s.size wr + flag mv)
  case atStart =>
    refine ⟨true, upd (fun _ => false) a, rfl, HB1.out.later ((Below.refl _ _).setCell (p := ⟨w.heap.size + 1, a, none⟩) (Nat.le_refl _) _), HA1.out.put a ha, ⟨upd_same _ _, fun x hx hb => ?_⟩, fun h => by cases h⟩
    by_cases e : x = a
    · subst e; exact Rch.refl _ _ _ _
    · rw [upd_other _ e] at hb; cases hb
  case round =>
    rename World => wo
    obtain ⟨m, B, rfl, hB, hA, hR, hC⟩ := hrel
    have HB := Lib.hid hB
    have HA := Lib.hid hA
    have HR := Lib.hid hR
    have HC := Lib.hid hC
    clear hB hA hR hC
    cases m
    · have hz := HB.out.lt
      go_wp2_with fail
      go_ret
      exact ⟨w.heap.size + 1, B, rfl, HA.out, HB.out.below, fun x hx => by
        have hR := HR.out
        rw [HSZ.out] at hR hx
        exact hR.all HS.out.w1 (by rw [← HSZ.out]; exact ha) (fun x hx => HC.out (by trivial) x (by rw [HSZ.out]; exact hx)) x hx⟩
    · have HOF := Lib.hid HA.out.off
      go_wp2_with fail
      go_loopw [6, 7] (fun mv iv wr => ∃ (m : Bool) (B2 : Nat → Bool) (i : Nat), i ≤ s.size ∧ iv = .int .i64 (i : Int) ∧ mv = .bool m ∧ Box w W H s wr ∧ Arr (w.heap.size + 1) s.size B2 wr ∧ Ps W H (at_ s) a s.size (off B s.size) i m B2)
        (fun _ iv _ => s.size - (intOf iv).toNat)
      case atStart => exact ⟨false, B, 0, Nat.zero_le _, rfl, rfl, HB.out, HA.out, ⟨HR.out, by simp, fun _ x hx => by omega⟩⟩
      case round =>
        rename World => wm
        obtain ⟨m, B2, i, hi, rfl, rfl, hB, hA, hP⟩ := hrel
        have HB2 := Lib.hid hB
        have HA2 := Lib.hid hA
        have HP := Lib.hid hP
        have k0 := hB.c0
        have k1 := hB.c1
        have k2 := hB.c2
        have hz := hB.lt
        clear hB hA hP
        by_cases hlt : i < s.size
        · have ci := (HA2.out.2 i hlt).1
          cases hb : B2 i with
          | false =>
            rw [hb] at ci
            have HBI := Lib.hid hb
            clear hb
            go_wp2_with fail
            go_roundw
            case rel => exact ⟨m, B2, i + 1, by omega, by go_num, rfl, HB2.out, HA2.out, HP.out.next (fun _ h => by rw [HBI.out] at h; cases h)⟩
            case measure => simp [intOf]; omega
          | true =>
            rw [hb] at ci
            have HBI := Lib.hid hb
            have HIN := Lib.hid (show i < W * H by rw [← HSZ.out]; exact hlt)
            have HBE := Lib.hid (fun wx => rbeside_any W H i s wx HS.out.w1 HS.out.w2 HS.out.h1 HS.out.h2 HIN.out)
            have HSL := Lib.hid (side_len W H i)
            clear hb
            go_wp2_with fail
            refine (HBE.out _).mono ?_
            rintro e w3 ⟨A3, n3, c3, rfl, hn3, ho3, hb3⟩
            have HB3 := Lib.hid (HB2.out.after hb3)
            have HA3 := Lib.hid (HA2.out.later hb3)
            have HO3 := Lib.hid (ho3)
            have HN3 := Lib.hid hn3
            have hn4 : n3 ≤ 4 := by rw [hn3]; exact HSL.out
            have hwm := HA2.out.1
            clear k0 k1 k2 ci hn3 ho3 hb3 HBE
            go_wp2_with fail
            go_loopw [6, 9] (fun mv kv wr => ∃ (m3 : Bool) (B3 : Nat → Bool) (k : Nat), k ≤ n3 ∧ kv = .int .i64 (k : Int) ∧ mv = .bool m3 ∧ Box w W H s wr ∧ Arr (w.heap.size + 1) s.size B3 wr ∧ Own wr wm.heap.size (.slice A3 n3 c3) (side W H i) ∧ Ps W H (at_ s) a s.size (off B s.size) i m3 B3 ∧ B3 i = true ∧ (m3 = false → ∀ j, j < k → isL (at_ s ((side W H i).getD j 0)) = true → B3 ((side W H i).getD j 0) = true))
              (fun _ kv _ => n3 - (intOf kv).toNat)
            case atStart => exact ⟨m, B2, 0, Nat.zero_le _, rfl, rfl, HB3.out, HA3.out, HO3.out, HP.out, HBI.out, fun _ j hj => by omega⟩
            case round =>
              rename World => wk
              obtain ⟨m3, B3, k, hk, rfl, rfl, hB4, hA4, hO4, hP4, hI4, hJ⟩ := hrel
              have HB4 := Lib.hid hB4
              have HA4 := Lib.hid hA4
              have HO4 := Lib.hid hO4
              have HP4 := Lib.hid hP4
              have HI4 := Lib.hid hI4
              have HJ := Lib.hid hJ
              have q2 := hB4.c2
              have hz4 := hB4.lt
              clear hB4 hA4 hO4 hP4 hI4 hJ
              by_cases hlt4 : k < n3
              · have hkL : k < (side W H i).length := by rw [← HN3.out]; exact hlt4
                obtain ⟨g, rfl, hg, hc⟩ := HO4.out.at k hkL
                have HYS := Lib.hid (getD_mem hkL)
                have hys : (side W H i).getD k 0 < s.size := by rw [HSZ.out]; exact side_lt HS.out.w1 HIN.out HYS.out
                obtain ⟨y, hy⟩ : ∃ y, y = (side W H i).getD k 0 := ⟨_, rfl⟩
                rw [← hy] at hc HYS hys
                have HY := Lib.hid hy
                have cy := (HA4.out.2 y hys).1
                have fy := (HA4.out.2 y hys).2
                have HZ := Lib.hid (at_get s y hys)
                clear hy hkL
                have HGB : Hid (∀ b, (Value.slice (some ⟨g, 0, none⟩) n3 c3).ownBlock = some b → b ≠ w.heap.size + 1) := Lib.hid (fun b hb => by have := (HO4.out.lt b hb).1; omega)
                cases hl : isL s[y].toNat with
                | false =>
                  have HJ2 : Hid (m3 = false → ∀ j, j < k + 1 → isL (at_ s ((side W H i).getD j 0)) = true → B3 ((side W H i).getD j 0) = true) := Lib.hid (fun hm j hj h => by
                    rcases Nat.lt_succ_iff_lt_or_eq.1 hj with x | x
                    · exact HJ.out hm j x h
                    · subst x
                      rw [← HY.out, ← HZ.out, hl] at h
                      cases h)
                  go_wp2_with fail
                  go_big_quiet ((go_at_call 86; exact Calls.quiet_of_same (rlane_is _ false _ hl)))
                  go_wp2_with fail
                  go_roundw
                  case rel => exact ⟨m3, B3, k + 1, by omega, by go_num, rfl, HB4.out.later (below_drewN _ _ _), HA4.out.later (below_drewN _ _ _), HO4.out.later (below_drewN _ _ _), HP4.out, HI4.out, HJ2.out⟩
                  case measure => simp [intOf]; omega
                | true =>
                  cases hby : B3 y with
                  | true =>
                    rw [hby] at cy
                    have HJ2 : Hid (m3 = false → ∀ j, j < k + 1 → isL (at_ s ((side W H i).getD j 0)) = true → B3 ((side W H i).getD j 0) = true) := Lib.hid (fun hm j hj h => by
                      rcases Nat.lt_succ_iff_lt_or_eq.1 hj with x | x
                      · exact HJ.out hm j x h
                      · subst x
                        rw [← HY.out]
                        exact hby)
                    clear hby
                    go_wp2_with fail
                    go_big_quiet ((go_at_call 86; exact Calls.quiet_of_same (rlane_is _ true _ hl)))
                    go_wp2_with fail
                    go_roundw
                    case rel => exact ⟨m3, B3, k + 1, by omega, by go_num, rfl, HB4.out.later (below_drewN _ _ _), HA4.out.later (below_drewN _ _ _), HO4.out.later (below_drewN _ _ _), HP4.out, HI4.out, HJ2.out⟩
                    case measure => simp [intOf]; omega
                  | false =>
                    rw [hby] at cy
                    have HP5 := Lib.hid (HP4.out.new hlt HI4.out HYS.out (by rw [← HZ.out]; exact hl) hys hby)
                    clear hby
                    go_wp2_with fail
                    go_big_quiet ((go_at_call 86; exact Calls.quiet_of_same (rlane_is _ true _ hl)))
                    go_wp2_with fail
                    go_roundw
                    case rel =>
                      have hbw : Below (w.heap.size + 1) wk (wk.drewN nq) := below_drewN _ _ _
                      refine ⟨true, upd B3 y, k + 1, by omega, by go_num, rfl, HB4.out.later (((below_drewN _ _ _)).setCell (p := ⟨w.heap.size + 1, y, none⟩) (Nat.le_refl _) _), (HA4.out.later (below_drewN _ _ _)).put y hys, (HO4.out.later (below_drewN _ _ _)).put _ _ _ HGB.out, HP5.out, upd_le _ _ _ HI4.out, fun h => by cases h⟩
                    case measure => simp [intOf]; omega
              · obtain rfl : k = n3 := by omega
                go_wp2_with fail
                go_roundw
                case rel =>
                  refine ⟨m3, B3, i + 1, by omega, by go_num, rfl, HB4.out, HA4.out, HP4.out.next (fun hm _ y hy hl => ?_)⟩
                  obtain ⟨j, hj, rfl⟩ := mem_getD hy
                  exact HJ.out hm j (by rw [HN3.out]; exact hj) hl
                case measure => simp [intOf]; omega
        · obtain rfl : i = s.size := by omega
          have HME : Hid (2 * offIn (w.heap.size + 1) s.size wm + flag (.bool m) < 2 * offIn (w.heap.size + 1) s.size wo + flag (.bool true)) := Lib.hid (by
            rw [HA2.out.off, HOF.out]
            have := HP.out.less
            cases m <;> simp [flag] at this ⊢ <;> omega)
          go_wp2_with fail
          go_roundw
          case rel => exact ⟨m, B2, rfl, HB2.out, HA2.out, HP.out.rs, fun hm x hx => HP.out.done hm x hx⟩
          case measure => exact HME.out

end Go.Proofs.YtakgkocdkondhaaGreatDoor
end

section
namespace Go.Proofs.YtakgkocdkondhaaGreatDoor
open Go.RowKit Fl

theorem rdock_is (c : Nat) (b : Bool) (w : World) (h : isD c = b) : Calls Tryz.prog 85 #[.int .u8 (c : Int)] w fun e w' => e = .returned (.bool b) ∧ w = w' :=
  (rdock_any c w).mono fun e w' ⟨h1, h2⟩ => ⟨by rw [h1, h], h2⟩
theorem rlane_w (c : Nat) (b : Bool) (w : World) (h : isL c = b) : Calls Tryz.prog 86 #[.int .u8 (c : Int)] w fun e w' => e = .returned (.bool b) ∧ w = w' :=
  (rlane_any c w).mono fun e w' ⟨h1, h2⟩ => ⟨by rw [h1, h], h2⟩

set_option maxHeartbeats 1000000 in
theorem rright_sides (W H : Int) (s : ByteArray) (hs : s.size ≤ maxLen) (w : World) (hn : ¬ ∃ a b : Nat, W = a ∧ H = b ∧ Sides a b s) :
    Calls Tryz.prog 42 #[.agg #[.int .i64 W, .int .i64 H, .string s]] w (Told (Right W H s) w) := by
  unfold maxLen at hs
  have HA := Lib.hid ((Below.refl w.heap.size w).alloc (Nat.le_refl _) (.cells #[.int .i64 W, .int .i64 H, .string s] 25))
  have HN : Hid (¬ Right W H s) := Lib.hid (fun ⟨a, b, e1, e2, h, _⟩ => hn ⟨a, b, e1, e2, h⟩)
  by_cases h0 : W < 1
  · have d0 : decide (W < 1) = true := by simpa using h0
    clear hn
    go_enter Tryz.func42, Tryz.ntmps42
    go_wp2_with fail
    go_ret
    exact ⟨false, rfl, iff_of_false (by decide) HN.out, HA.out⟩
  have d0 : decide (W < 1) = false := by simpa using h0
  by_cases h1 : 16 < W
  · have d1 : decide (16 < W) = true := by simpa using h1
    clear hn
    go_enter Tryz.func42, Tryz.ntmps42
    go_wp2_with fail
    go_ret
    exact ⟨false, rfl, iff_of_false (by decide) HN.out, HA.out⟩
  have d1 : decide (16 < W) = false := by simpa using h1
  by_cases h2 : H < 1
  · have d2 : decide (H < 1) = true := by simpa using h2
    clear hn
    go_enter Tryz.func42, Tryz.ntmps42
    go_wp2_with fail
    go_ret
    exact ⟨false, rfl, iff_of_false (by decide) HN.out, HA.out⟩
  have d2 : decide (H < 1) = false := by simpa using h2
  by_cases h3 : 16 < H
  · have d3 : decide (16 < H) = true := by simpa using h3
    clear hn
    go_enter Tryz.func42, Tryz.ntmps42
    go_wp2_with fail
    go_ret
    exact ⟨false, rfl, iff_of_false (by decide) HN.out, HA.out⟩
  have d3 : decide (16 < H) = false := by simpa using h3
  obtain ⟨a, rfl⟩ := Int.eq_ofNat_of_zero_le (by omega : 0 ≤ W)
  obtain ⟨b, rfl⟩ := Int.eq_ofNat_of_zero_le (by omega : 0 ≤ H)
  have hm := le_mul16 (W := a) (H := b) (by omega) (by omega)
  have p1 : (a : Int) * (b : Int) ≤ 256 := by rw [← Int.natCast_mul]; omega
  have p0 : 0 ≤ (a : Int) * (b : Int) := by rw [← Int.natCast_mul]; omega
  by_cases hz : s.size = a * b
  · exact absurd ⟨a, b, rfl, rfl, by omega, by omega, by omega, by omega, hz⟩ hn
  · have hq : ((s.size : Int) != (a : Int) * (b : Int)) = true := by rw [bne_iff_ne, ← Int.natCast_mul]; omega
    clear hz hn hm
    go_enter Tryz.func42, Tryz.ntmps42
    go_wp2_with fail
    go_ret
    exact ⟨false, rfl, iff_of_false (by decide) HN.out, HA.out⟩

set_option maxRecDepth 100000 in
set_option maxHeartbeats 8000000 in
theorem rright_in (W H : Nat) (s : ByteArray) (w : World) (hS : Sides W H s) :
    Calls Tryz.prog 42 #[.agg #[.int .i64 (W : Int), .int .i64 (H : Int), .string s]] w (Told (Right (W : Int) (H : Int) s) w) := by
  have h256 := hS.le
  have HR : Hid (Right (W : Int) (H : Int) s ↔ RightN W H (at_ s)) := Lib.hid (by rw [right_nat]; exact ⟨fun h => h.2, fun h => ⟨hS, h⟩⟩)
  have HS := Lib.hid hS
  have HSZ := Lib.hid hS.sz
  have d0 : decide ((W : Int) < 1) = false := by have := hS.w1; simp; omega
  have d1 : decide (16 < (W : Int)) = false := by have := hS.w2; simp; omega
  have d2 : decide ((H : Int) < 1) = false := by have := hS.h1; simp; omega
  have d3 : decide (16 < (H : Int)) = false := by have := hS.h2; simp; omega
  have hm := le_mul16 hS.w2 hS.h2
  have p1 : (W : Int) * (H : Int) ≤ 256 := by rw [← Int.natCast_mul]; omega
  have p0 : 0 ≤ (W : Int) * (H : Int) := by rw [← Int.natCast_mul]; omega
  have hq : ((s.size : Int) != (W : Int) * (H : Int)) = false := by rw [bne_eq_false_iff_eq, hS.sz, Int.natCast_mul]
  clear hS hm
  go_enter Tryz.func42, Tryz.ntmps42
  go_wp2_with fail
  clear d0 d1 d2 d3 p0 p1 hq
  go_loopw [4, 5, 6] (fun dv fv iv wr => ∃ k : Nat, k ≤ s.size ∧ iv = .int .i64 (k : Int) ∧ dv = .int .i64 ((pick isD (at_ s) k).length : Int) ∧ fv = .int .i64 (fstL (at_ s) k) ∧ Box w W H s wr ∧ Tally (w.heap.size + 1) (cn (at_ s) (pick isD (at_ s) k)) wr ∧ ∀ j, j < k → okc (at_ s j) = true)
    (fun _ _ iv _ => s.size - (intOf iv).toNat)
  case atStart =>
    refine ⟨0, Nat.zero_le _, rfl, rfl, rfl, (Box.start w W H s 25).later ((Below.refl _ _).alloc (by simp) _), ?_, fun j hj => by omega⟩
    have := Tally.made (w.alloc (.cells #[.int .i64 (W : Int), .int .i64 (H : Int), .string s] 25)) 133 #[.int .i64 0, .int .i64 0, .int .i64 0, .int .i64 0, .int .i64 0, .int .i64 0, .int .i64 0, .int .i64 0] (fun r hr => by
      have hr8 : r = 0 ∨ r = 1 ∨ r = 2 ∨ r = 3 ∨ r = 4 ∨ r = 5 ∨ r = 6 ∨ r = 7 := by omega
      rcases hr8 with rfl | rfl | rfl | rfl | rfl | rfl | rfl | rfl <;> rfl)
    have h0 : cn (at_ s) (pick isD (at_ s) 0) = fun _ => 0 := rfl
    rw [h0]
    simpa using this
  case round =>
    rename World => wr
    obtain ⟨k, hk, rfl, rfl, rfl, hB, hT, hJ⟩ := hrel
    have HB := Lib.hid hB
    have HT := Lib.hid hT
    have HJ := Lib.hid hJ
    have k2 := hB.c2
    have hz := hB.lt
    have hpd := pick_le isD (at_ s) k
    have hfb := fstL_bd (at_ s) k
    clear hB hT hJ
    by_cases hlt : k < s.size
    · have HZ := Lib.hid (at_get s k hlt)
      have HPD := Lib.hid (pick_succ isD (at_ s) k)
      cases hd : isD s[k].toNat with
      | true =>
        have hl := not_both hd
        have HOK : Hid (okc (at_ s k) = true) := Lib.hid (by rw [← HZ.out]; exact okc_of _ (.inr (.inr hd)))
        obtain ⟨r, hr, hzr⟩ := isD_of hd
        have hq : ((s[k].toNat : Int) - 48) = (r : Int) := by rw [hzr]; omega
        have hlo : 48 ≤ s[k].toNat := by omega
        have hhi : s[k].toNat < 56 := by omega
        have HZR : Hid (at_ s k = 48 + r) := Lib.hid (by rw [← HZ.out]; exact hzr)
        have HPN : Hid (pick isD (at_ s) (k + 1) = pick isD (at_ s) k ++ [k]) := Lib.hid (by rw [HPD.out, if_pos (by rw [← HZ.out]; exact hd)])
        have HFN : Hid (fstL (at_ s) (k + 1) = fstL (at_ s) k) := Lib.hid (fstL_no (by rw [← HZ.out]; exact hl))
        clear hzr
        have ct := (HT.out.2 r hr).1
        have ft := (HT.out.2 r hr).2
        have hcb : cn (at_ s) (pick isD (at_ s) k) r ≤ 256 := by
          have := List.length_filter_le (fun i => at_ s i == 48 + r) (pick isD (at_ s) k)
          unfold cn
          omega
        have HT2 := Lib.hid (HT.out.up (g := cn (at_ s) (pick isD (at_ s) (k + 1))) r hr (by rw [HPN.out, cn_snoc, if_pos HZR.out]) (fun q hq => by rw [HPN.out, cn_snoc, if_neg (by rw [HZR.out]; omega)]) _ rfl)
        have HB2 := Lib.hid (HB.out.later ((Below.refl (w.heap.size + 1) wr).setCell (p := ⟨w.heap.size + 1, r, none⟩) (Nat.le_refl _) (.int .i64 ((cn (at_ s) (pick isD (at_ s) k) r : Int) + 1))))
        generalize cn (at_ s) (pick isD (at_ s) k) r = x at *
        have e2 := HB2.out.c2
        have HLN : Hid ((((pick isD (at_ s) (k + 1)).length : Nat) : Int) = ((pick isD (at_ s) k).length : Int) + 1) := Lib.hid (by rw [HPN.out, List.length_append]; rfl)
        go_wp2_with (first | (go_at_call 85; refine (rdock_is _ true _ hd).mono ?_; rintro e w' ⟨rfl, rfl⟩) | (go_at_call 86; refine (rlane_w _ false _ hl).mono ?_; rintro e w' ⟨rfl, rfl⟩))
        go_roundw
        case rel => exact ⟨k + 1, by omega, by go_num, by rw [HLN.out], by rw [HFN.out], HB2.out, HT2.out, fun j hj => by rcases Nat.lt_succ_iff_lt_or_eq.1 hj with h | h; exact HJ.out j h; rw [h]; exact HOK.out⟩
        case measure => simp [intOf]; omega
      | false =>
        have HPN : Hid (pick isD (at_ s) (k + 1) = pick isD (at_ s) k) := Lib.hid (by rw [HPD.out, if_neg (by rw [← HZ.out, hd]; decide), List.append_nil])
        cases hl : isL s[k].toNat with
        | true =>
          have HOK : Hid (okc (at_ s k) = true) := Lib.hid (by rw [← HZ.out]; exact okc_of _ (.inr (.inl hl)))
          by_cases hf : fstL (at_ s) k < 0
          · have HFN : Hid (fstL (at_ s) (k + 1) = k) := Lib.hid (fstL_new (by rw [← HZ.out]; exact hl) hf)
            have df : decide (fstL (at_ s) k < 0) = true := by simpa using hf
            generalize fstL (at_ s) k = f0 at *
            clear hf
            go_wp2_with (first | (go_at_call 85; refine (rdock_is _ false _ hd).mono ?_; rintro e w' ⟨rfl, rfl⟩) | (go_at_call 86; refine (rlane_w _ true _ hl).mono ?_; rintro e w' ⟨rfl, rfl⟩))
            go_roundw
            case rel => exact ⟨k + 1, by omega, by go_num, by rw [HPN.out], by rw [HFN.out], HB.out, by rw [HPN.out]; exact HT.out, fun j hj => by rcases Nat.lt_succ_iff_lt_or_eq.1 hj with h | h; exact HJ.out j h; rw [h]; exact HOK.out⟩
            case measure => simp [intOf]; omega
          · have HFN : Hid (fstL (at_ s) (k + 1) = fstL (at_ s) k) := Lib.hid (fstL_old hf)
            have df : decide (fstL (at_ s) k < 0) = false := by simpa using hf
            generalize fstL (at_ s) k = f0 at *
            clear hf
            go_wp2_with (first | (go_at_call 85; refine (rdock_is _ false _ hd).mono ?_; rintro e w' ⟨rfl, rfl⟩) | (go_at_call 86; refine (rlane_w _ true _ hl).mono ?_; rintro e w' ⟨rfl, rfl⟩))
            go_roundw
            case rel => exact ⟨k + 1, by omega, by go_num, by rw [HPN.out], by rw [HFN.out], HB.out, by rw [HPN.out]; exact HT.out, fun j hj => by rcases Nat.lt_succ_iff_lt_or_eq.1 hj with h | h; exact HJ.out j h; rw [h]; exact HOK.out⟩
            case measure => simp [intOf]; omega
        | false =>
          have HFN : Hid (fstL (at_ s) (k + 1) = fstL (at_ s) k) := Lib.hid (fstL_no (by rw [← HZ.out]; exact hl))
          by_cases h35 : s[k].toNat = 35
          · have hb : ((s[k].toNat : Int) != 35) = false := by rw [bne_eq_false_iff_eq]; omega
            have HOK : Hid (okc (at_ s k) = true) := Lib.hid (by rw [← HZ.out]; exact okc_of _ (.inl h35))
            clear h35
            go_wp2_with (first | (go_at_call 85; refine (rdock_is _ false _ hd).mono ?_; rintro e w' ⟨rfl, rfl⟩) | (go_at_call 86; refine (rlane_w _ false _ hl).mono ?_; rintro e w' ⟨rfl, rfl⟩))
            go_roundw
            case rel => exact ⟨k + 1, by omega, by go_num, by rw [HPN.out], by rw [HFN.out], HB.out, by rw [HPN.out]; exact HT.out, fun j hj => by rcases Nat.lt_succ_iff_lt_or_eq.1 hj with h | h; exact HJ.out j h; rw [h]; exact HOK.out⟩
            case measure => simp [intOf]; omega
          · have hb : ((s[k].toNat : Int) != 35) = true := by rw [bne_iff_ne]; omega
            have HNO : Hid (¬ RightN W H (at_ s)) := Lib.hid (fun h => by
              have h1 := h.bytes k (by rw [← HSZ.out]; exact hlt)
              rw [okc_not (at_ s k) (by rw [← HZ.out]; exact h35) (by rw [← HZ.out]; exact hl) (by rw [← HZ.out]; exact hd)] at h1
              cases h1)
            clear h35
            go_wp2_with (first | (go_at_call 85; refine (rdock_is _ false _ hd).mono ?_; rintro e w' ⟨rfl, rfl⟩) | (go_at_call 86; refine (rlane_w _ false _ hl).mono ?_; rintro e w' ⟨rfl, rfl⟩))
            go_ret
            exact ⟨false, rfl, iff_of_false (by decide) (by rw [HR.out]; exact HNO.out), HB.out.below⟩
    · obtain rfl : k = s.size := by omega
      have HD : Hid (pick isD (at_ s) s.size = docks W H (at_ s)) := Lib.hid (by rw [HSZ.out]; rfl)
      have HTL : Hid (Tally (w.heap.size + 1) (cn (at_ s) (docks W H (at_ s))) wr) := Lib.hid (by rw [← HD.out]; exact HT.out)
      have HOKS : Hid (∀ i, i < W * H → okc (at_ s i) = true) := Lib.hid (by rw [← HSZ.out]; exact HJ.out)
      clear HT HJ
      obtain ⟨n, hn⟩ : ∃ n, n = (pick isD (at_ s) s.size).length := ⟨_, rfl⟩
      rw [← hn] at hpd ⊢
      have HN : Hid (n = (docks W H (at_ s)).length) := Lib.hid (by rw [hn, HD.out])
      clear hn
      by_cases hn1 : n < 1
      · have HNO : Hid (¬ RightN W H (at_ s)) := Lib.hid (fun h => by have := h.docks.one; have := HN.out; omega)
        have dn1 : decide (n < 1) = true := by simpa using hn1
        have dn1' : decide ((n : Int) < 1) = true := by simp; omega
        generalize fstL (at_ s) s.size = f0 at *
        go_wp2_with fail
        go_ret
        exact ⟨false, rfl, iff_of_false (by decide) (by rw [HR.out]; exact HNO.out), HB.out.below⟩
      · have dn1' : decide ((n : Int) < 1) = false := by simp; omega
        by_cases hn8 : 8 < n
        · have HNO : Hid (¬ RightN W H (at_ s)) := Lib.hid (fun h => by have := h.docks.few; have := HN.out; omega)
          have dn8' : decide (8 < (n : Int)) = true := by simp; omega
          generalize fstL (at_ s) s.size = f0 at *
          go_wp2_with fail
          go_ret
          exact ⟨false, rfl, iff_of_false (by decide) (by rw [HR.out]; exact HNO.out), HB.out.below⟩
        · have dn8' : decide (8 < (n : Int)) = false := by simp; omega
          by_cases hf : fstL (at_ s) s.size < 0
          · have HNO : Hid (¬ RightN W H (at_ s)) := Lib.hid (fun h => fstL_none (by rw [← HSZ.out]; exact hf) h.lanes)
            have df : decide (fstL (at_ s) s.size < 0) = true := by simpa using hf
            generalize fstL (at_ s) s.size = f0 at *
            clear hf
            go_wp2_with fail
            go_ret
            exact ⟨false, rfl, iff_of_false (by decide) (by rw [HR.out]; exact HNO.out), HB.out.below⟩
          · obtain ⟨a, r, hpr, hfa⟩ := fstL_some hf
            rw [hfa]
            have df : decide ((a : Int) < 0) = false := by simp
            have hal := mem_pick.1 (by rw [hpr]; simp : a ∈ pick isL (at_ s) s.size)
            have has := hal.1
            have HPR : Hid (pick isL (at_ s) (W * H) = a :: r) := Lib.hid (by rw [← HSZ.out]; exact hpr)
            clear hpr hfa hal hf hfb
            have hn3 : n ≤ 8 := by omega
            go_wp2_with fail
            go_loop [8] (fun iv => ∃ q : Nat, q ≤ n ∧ iv = .int .i64 (q : Int) ∧ ∀ j, j < q → cn (at_ s) (docks W H (at_ s)) j = 1) (fun iv => n - (intOf iv).toNat)
            case atStart => exact ⟨0, Nat.zero_le _, rfl, fun j hj => by omega⟩
            case round =>
              obtain ⟨q, hq, rfl, hj⟩ := hrel
              have HQ := Lib.hid hj
              clear hj
              by_cases hlt2 : q < n
              · have ct := (HTL.out.2 q (by omega)).1
                have HNO := Lib.hid (docks_not (W := W) (H := H) (z := at_ s) (r := q) (by rw [← HN.out]; omega))
                by_cases h1 : cn (at_ s) (docks W H (at_ s)) q = 1
                · rw [h1] at ct
                  have H1 := Lib.hid h1
                  clear h1
                  go_wp2_with fail
                  go_round
                  case rel => exact ⟨q + 1, by omega, by go_num, fun j hj => by rcases Nat.lt_succ_iff_lt_or_eq.1 hj with h | h; exact HQ.out j h; rw [h]; exact H1.out⟩
                  case measure => simp [intOf]; omega
                · have HN1 := Lib.hid (HNO.out h1)
                  generalize cn (at_ s) (docks W H (at_ s)) q = x at *
                  have hb : ((x : Int) != 1) = true := by rw [bne_iff_ne]; omega
                  clear h1
                  go_wp2_with fail
                  go_ret
                  exact ⟨false, rfl, iff_of_false (by decide) (by rw [HR.out]; exact fun h => HN1.out h.docks), HB.out.below⟩
              · obtain rfl : q = n := by omega
                have HON : Hid (∀ r, r < min (docks W H (at_ s)).length 8 → cn (at_ s) (docks W H (at_ s)) r = 1) := Lib.hid (fun r hr => HQ.out r (by have := HN.out; omega))
                have k0 := HB.out.c0
                have k1 := HB.out.c1
                go_wp2_with fail
                refine (reached_any W H a s _ HS.out has).mono ?_
                rintro e w2 ⟨g, B, rfl, hA, hb2, hBR⟩
                have HB2 := Lib.hid (HB.out.after hb2)
                have HA := Lib.hid hA
                have HBR := Lib.hid hBR
                clear hA hb2 hBR k0 k1 k2 HTL HB
                go_wp2_with fail
                go_loopw [10] (fun iv wr => ∃ i : Nat, i ≤ s.size ∧ iv = .int .i64 (i : Int) ∧ Box w W H s wr ∧ Arr g s.size B wr ∧ ∀ j, j < i → (isL (at_ s j) = true → B j = true) ∧ (isD (at_ s j) = true → ByLane W H (at_ s) j)) (fun iv _ => s.size - (intOf iv).toNat)
                case atStart => exact ⟨0, Nat.zero_le _, rfl, HB2.out, HA.out, fun j hj => by omega⟩
                case round =>
                  rename World => wi
                  obtain ⟨i, hi, rfl, hB3, hA3, hJ3⟩ := hrel
                  have HB3 := Lib.hid hB3
                  have HA3 := Lib.hid hA3
                  have HJ3 := Lib.hid hJ3
                  have k0 := hB3.c0
                  have k1 := hB3.c1
                  have k2 := hB3.c2
                  have hz3 := hB3.lt
                  clear hB3 hA3 hJ3
                  by_cases hlt3 : i < s.size
                  · have HZ := Lib.hid (at_get s i hlt3)
                    have HIN := Lib.hid (show i < W * H by rw [← HSZ.out]; exact hlt3)
                    have HBI := Lib.hid (HBR.out i hlt3)
                    have ci := (HA3.out.2 i hlt3).1
                    generalize hbi : B i = bi at *
                    have HBE2 := Lib.hid hbi
                    clear hbi
                    by_cases hbad : isL s[i].toNat = true ∧ bi = false
                    · have hl := hbad.1
                      obtain rfl := hbad.2
                      have HNO : Hid (¬ RightN W H (at_ s)) := Lib.hid (fun h => by
                        obtain ⟨a', r', hp', hj'⟩ := h.lanes
                        have hpr := HPR.out
                        rw [hp'] at hpr
                        injection hpr with e1 e2
                        subst e1 e2
                        have := HBI.out.2 (hj' i (by rw [← hp']; exact mem_pick.2 ⟨HIN.out, by rw [← HZ.out]; exact hl⟩))
                        cases this)
                      clear hbad
                      go_wp2_with (go_at_call 86; refine (rlane_w _ true _ hl).mono ?_; rintro e w' ⟨rfl, rfl⟩)
                      go_ret
                      exact ⟨false, rfl, iff_of_false (by decide) (by rw [HR.out]; exact HNO.out), HB3.out.below⟩
                    · have HL3 : Hid (isL (at_ s i) = true → bi = true) := Lib.hid (fun h => by
                        rw [← HZ.out] at h
                        cases bi
                        · exact absurd ⟨h, rfl⟩ hbad
                        · rfl)
                      have HBE := Lib.hid (fun wx => rbeside_any W H i s wx HS.out.w1 HS.out.w2 HS.out.h1 HS.out.h2 HIN.out)
                      have HSL := Lib.hid (side_len W H i)
                      go_upto_region 28 with (fail)
                      go_cut [123] (fun t wc => t = .bool false ∧ wc = wi)
                      case first =>
                        cases hl : isL s[i].toNat with
                        | false =>
                          go_wp2_with (go_at_call 86; refine (rlane_w _ false _ hl).mono ?_; rintro e w' ⟨rfl, rfl⟩)
                          go_meet
                          exact ⟨rfl, rfl⟩
                        | true =>
                          obtain rfl : bi = true := HL3.out (by rw [← HZ.out]; exact hl)
                          go_wp2_with (go_at_call 86; refine (rlane_w _ true _ hl).mono ?_; rintro e w' ⟨rfl, rfl⟩)
                          go_meet
                          exact ⟨rfl, rfl⟩
                      case rest =>
                        obtain ⟨rfl, rfl⟩ := hcut
                        clear ci hbad
                        go_wp2_with fail
                        refine (HBE.out _).mono ?_
                        rintro e w4 ⟨A4, n4, c4, rfl, hn4, ho4, hb4⟩
                        have HB4 := Lib.hid (HB3.out.after hb4)
                        have HA4 := Lib.hid (HA3.out.later hb4)
                        have HO4 := Lib.hid ho4
                        have HN4 := Lib.hid hn4
                        have hn44 : n4 ≤ 4 := by rw [hn4]; exact HSL.out
                        have hin4 : Hid (∀ b, b ∈ side W H i → b < s.size) := Lib.hid (fun b hb => by rw [HSZ.out]; exact side_lt HS.out.w1 HIN.out hb)
                        clear k0 k1 k2 hn4 ho4 hb4 HBE
                        go_wp2_with fail
                        go_loopw [12, 13] (fun tv kv wr => ∃ k : Nat, k ≤ n4 ∧ kv = .int .i64 (k : Int) ∧ tv = .bool (anyL (at_ s) ((side W H i).take k)) ∧ Box w W H s wr ∧ Arr g s.size B wr ∧ Own wr wc.heap.size (.slice A4 n4 c4) (side W H i)) (fun _ kv _ => n4 - (intOf kv).toNat)
                        case atStart => exact ⟨0, Nat.zero_le _, rfl, rfl, HB4.out, HA4.out, HO4.out⟩
                        case round =>
                          rename World => wk
                          obtain ⟨k, hk, rfl, rfl, hB5, hA5, hO5⟩ := hrel
                          have HB5 := Lib.hid hB5
                          have HA5 := Lib.hid hA5
                          have HO5 := Lib.hid hO5
                          have q2 := hB5.c2
                          have hz5 := hB5.lt
                          clear hB5 hA5 hO5
                          by_cases hlt5 : k < n4
                          · have hkL : k < (side W H i).length := by rw [← HN4.out]; exact hlt5
                            obtain ⟨g5, rfl, hg5, hc5⟩ := HO5.out.at k hkL
                            have hys := hin4.out _ (getD_mem hkL)
                            have HTK : Hid ((side W H i).take (k + 1) = (side W H i).take k ++ [(side W H i).getD k 0]) := Lib.hid (by rw [List.take_succ_eq_append_getElem hkL, List.getD, List.getElem?_eq_getElem hkL]; rfl)
                            generalize (side W H i).getD k 0 = y at *
                            have HAN := Lib.hid (anyL_snoc (at_ s) ((side W H i).take k) y)
                            have HZY := Lib.hid (at_get s y hys)
                            clear hkL
                            cases han : anyL (at_ s) ((side W H i).take k) with
                            | true =>
                              have HT6 : Hid (anyL (at_ s) ((side W H i).take (k + 1)) = true) := Lib.hid (by rw [HTK.out, HAN.out, han]; rfl)
                              clear han
                              go_wp2_with fail
                              go_big_quiet (fail)
                              go_wp2_with fail
                              go_roundw
                              case rel => exact ⟨k + 1, by omega, by go_num, by rw [HT6.out], HB5.out.later (below_drewN _ _ _), HA5.out.later (below_drewN _ _ _), HO5.out.later (below_drewN _ _ _)⟩
                              case measure => simp [intOf]; omega
                            | false =>
                              cases hl : isL s[y].toNat with
                              | true =>
                                have HT6 : Hid (anyL (at_ s) ((side W H i).take (k + 1)) = true) := Lib.hid (by rw [HTK.out, HAN.out, han, ← HZY.out, hl]; rfl)
                                clear han
                                go_wp2_with fail
                                go_big_quiet ((go_at_call 86; exact Calls.quiet_of_same (rlane_is _ true _ hl)))
                                go_wp2_with fail
                                go_roundw
                                case rel => exact ⟨k + 1, by omega, by go_num, by rw [HT6.out], HB5.out.later (below_drewN _ _ _), HA5.out.later (below_drewN _ _ _), HO5.out.later (below_drewN _ _ _)⟩
                                case measure => simp [intOf]; omega
                              | false =>
                                have HT6 : Hid (anyL (at_ s) ((side W H i).take (k + 1)) = false) := Lib.hid (by rw [HTK.out, HAN.out, han, ← HZY.out, hl]; rfl)
                                clear han
                                go_wp2_with fail
                                go_big_quiet ((go_at_call 86; exact Calls.quiet_of_same (rlane_is _ false _ hl)))
                                go_wp2_with fail
                                go_roundw
                                case rel => exact ⟨k + 1, by omega, by go_num, by rw [HT6.out], HB5.out.later (below_drewN _ _ _), HA5.out.later (below_drewN _ _ _), HO5.out.later (below_drewN _ _ _)⟩
                                case measure => simp [intOf]; omega
                          · obtain rfl : k = n4 := by omega
                            have HTF : Hid (anyL (at_ s) ((side W H i).take k) = true ↔ ByLane W H (at_ s) i) := Lib.hid (by rw [List.take_of_length_le (by rw [← HN4.out]; exact Nat.le_refl _)]; exact anyL_iff W H (at_ s) i)
                            generalize anyL (at_ s) ((side W H i).take k) = an at *
                            cases hd : isD s[i].toNat with
                            | false =>
                              go_wp2_with (go_at_call 85; refine (rdock_is _ false _ hd).mono ?_; rintro e w' ⟨rfl, rfl⟩)
                              go_roundw
                              case rel => exact ⟨i + 1, by omega, by go_num, HB5.out, HA5.out, fun j hj => by
                                rcases Nat.lt_succ_iff_lt_or_eq.1 hj with h | h
                                · exact HJ3.out j h
                                · subst h
                                  exact ⟨fun h => by rw [HBE2.out]; exact HL3.out h, fun h => by rw [← HZ.out, hd] at h; cases h⟩⟩
                              case measure => simp [intOf]; omega
                            | true =>
                              cases an
                              · have HNO : Hid (¬ RightN W H (at_ s)) := Lib.hid (fun h => by
                                  have := HTF.out.2 (h.docks.near i (mem_pick.2 ⟨HIN.out, by rw [← HZ.out]; exact hd⟩))
                                  cases this)
                                go_wp2_with (go_at_call 85; refine (rdock_is _ true _ hd).mono ?_; rintro e w' ⟨rfl, rfl⟩)
                                go_ret
                                exact ⟨false, rfl, iff_of_false (by decide) (by rw [HR.out]; exact HNO.out), HB5.out.below⟩
                              · go_wp2_with (go_at_call 85; refine (rdock_is _ true _ hd).mono ?_; rintro e w' ⟨rfl, rfl⟩)
                                go_roundw
                                case rel => exact ⟨i + 1, by omega, by go_num, HB5.out, HA5.out, fun j hj => by
                                  rcases Nat.lt_succ_iff_lt_or_eq.1 hj with h | h
                                  · exact HJ3.out j h
                                  · subst h
                                    exact ⟨fun h => by rw [HBE2.out]; exact HL3.out h, fun _ => HTF.out.1 (by trivial)⟩⟩
                                case measure => simp [intOf]; omega
                  · obtain rfl : i = s.size := by omega
                    have HYS : Hid (RightN W H (at_ s)) := Lib.hid ⟨HOKS.out, (docks_all HON.out (fun d hd => (HJ3.out d (by rw [HSZ.out]; exact (docks_isD hd).1)).2 (docks_isD hd).2)).2 (by have := HN.out; omega), ⟨a, r, HPR.out, fun l hl => by
                      have h2 := mem_pick.1 (by rw [HPR.out]; exact hl : l ∈ pick isL (at_ s) (W * H))
                      have h3 : l < s.size := by rw [HSZ.out]; exact h2.1
                      exact (HBR.out l h3).1 ((HJ3.out l h3).1 h2.2)⟩⟩
                    go_wp2_with fail
                    go_ret
                    exact ⟨true, rfl, iff_of_true rfl (by rw [HR.out]; exact HYS.out), HB3.out.below⟩

theorem rright_any (W H : Int) (s : ByteArray) (hs : s.size ≤ maxLen) (w : World) :
    Calls Tryz.prog 42 #[.agg #[.int .i64 W, .int .i64 H, .string s]] w (Told (Right W H s) w) := by
  by_cases h : ∃ a b : Nat, W = a ∧ H = b ∧ Sides a b s
  · obtain ⟨a, b, rfl, rfl, hS⟩ := h
    exact rright_in a b s w hS
  · exact rright_sides W H s hs w h

end Go.Proofs.YtakgkocdkondhaaGreatDoor
end

section
namespace Go.Proofs.YtakgkocdkondhaaGreatDoor
open Go.RowKit Fl

set_option maxHeartbeats 2000000 in
theorem rrobots_any (W H : Int) (s : ByteArray) (hs : s.size ≤ maxLen) (w : World) :
    Calls Tryz.prog 44 #[.agg #[.int .i64 W, .int .i64 H, .string s]] w (NumTold (Right W H s) (pick isD (at_ s) s.size).length 0 w) := by
  have hs' := hs
  unfold maxLen at hs'
  go_enter Tryz.func44, Tryz.ntmps44
  go_wp2_with fail
  go_loopw [3, 4] (fun nv iv wr => ∃ k : Nat, k ≤ s.size ∧ iv = .int .i64 (k : Int) ∧ nv = .int .i64 ((pick isD (at_ s) k).length : Int) ∧ Box w W H s wr ∧ (0 < k → Right W H s)) (fun _ iv _ => s.size - (intOf iv).toNat)
  case atStart => exact ⟨0, Nat.zero_le _, rfl, rfl, Box.start w W H s 25, fun h => by omega⟩
  case round =>
    rename World => wr
    obtain ⟨k, hk, rfl, rfl, hB, hR⟩ := hrel
    have HB := Lib.hid hB
    have HR := Lib.hid hR
    have k0 := hB.c0
    have k1 := hB.c1
    have k2 := hB.c2
    have hpd := pick_le isD (at_ s) k
    clear hB hR
    by_cases hlt : k < s.size
    · go_wp2_with fail
      refine (rright_any W H s hs _).mono ?_
      rintro e w2 ⟨b, rfl, hb, hbw⟩
      have HB2 := Lib.hid (HB.out.after hbw)
      have HRb := Lib.hid hb
      have q2 := HB2.out.c2
      clear hb hbw k0 k1 k2
      cases b
      · have HN : Hid (¬ Right W H s) := Lib.hid (fun h => by have := HRb.out.2 h; cases this)
        have HK : Hid (k = 0) := Lib.hid (by
          rcases Nat.eq_zero_or_pos k with h | h
          · exact h
          · exact absurd (HR.out h) HN.out)
        have HP : Hid ((pick isD (at_ s) k).length = 0) := Lib.hid (by rw [HK.out]; rfl)
        go_wp2_with fail
        go_ret
        exact ⟨_, rfl, fun h => absurd h HN.out, fun _ => HP.out, HB2.out.below⟩
      · have HY : Hid (Right W H s) := Lib.hid (HRb.out.1 (by trivial))
        have HPD := Lib.hid (pick_succ isD (at_ s) k)
        have HZ := Lib.hid (at_get s k hlt)
        cases hd : isD s[k].toNat with
        | true =>
          have HL : Hid ((((pick isD (at_ s) (k + 1)).length : Nat) : Int) = ((pick isD (at_ s) k).length : Int) + 1) := Lib.hid (by rw [HPD.out, if_pos (by rw [← HZ.out]; exact hd), List.length_append]; rfl)
          go_wp2_with (go_at_call 85; refine (rdock_is _ true _ hd).mono ?_; rintro e w' ⟨rfl, rfl⟩)
          go_roundw
          case rel => exact ⟨k + 1, by omega, by go_num, by rw [HL.out], HB2.out, fun _ => HY.out⟩
          case measure => simp [intOf]; omega
        | false =>
          have HL : Hid ((((pick isD (at_ s) (k + 1)).length : Nat) : Int) = ((pick isD (at_ s) k).length : Int)) := Lib.hid (by rw [HPD.out, if_neg (by rw [← HZ.out, hd]; decide), List.append_nil])
          go_wp2_with (go_at_call 85; refine (rdock_is _ false _ hd).mono ?_; rintro e w' ⟨rfl, rfl⟩)
          go_roundw
          case rel => exact ⟨k + 1, by omega, by go_num, by rw [HL.out], HB2.out, fun _ => HY.out⟩
          case measure => simp [intOf]; omega
    · obtain rfl : k = s.size := by omega
      have HP : Hid (¬ Right W H s → (pick isD (at_ s) s.size).length = 0) := Lib.hid (fun h => by
        rcases Nat.eq_zero_or_pos s.size with e | e
        · rw [e]; rfl
        · exact absurd (HR.out e) h)
      go_wp2_with fail
      go_ret
      exact ⟨_, rfl, fun _ => rfl, HP.out, HB.out.below⟩


theorem cn_high {z : Nat → Nat} {W H : Nat} (h : DocksOk W H z) (q : Nat) (hq : q < 8) (hn : (docks W H z).length ≤ q) : cn z (docks W H z) q = 0 := by
  have hs := cn_sum z (docks W H z) (fun x hx => (docks_isD hx).2)
  have e : ∀ r, r < (docks W H z).length → cn z (docks W H z) r = 1 := fun r hr => by rw [cn_docks W H z r (by have := h.few; omega)]; exact h.once r hr
  have h8 : q = 0 ∨ q = 1 ∨ q = 2 ∨ q = 3 ∨ q = 4 ∨ q = 5 ∨ q = 6 ∨ q = 7 := by omega
  have hl : ∀ m, m = (docks W H z).length → m = 0 ∨ m = 1 ∨ m = 2 ∨ m = 3 ∨ m = 4 ∨ m = 5 ∨ m = 6 ∨ m = 7 := fun m hm => by omega
  have e0 := e 0
  have e1 := e 1
  have e2 := e 2
  have e3 := e 3
  have e4 := e 4
  have e5 := e 5
  have e6 := e 6
  have e7 := e 7
  clear e
  generalize (docks W H z).length = m at *
  rcases hl m rfl with rfl | rfl | rfl | rfl | rfl | rfl | rfl | rfl <;> rcases h8 with rfl | rfl | rfl | rfl | rfl | rfl | rfl | rfl <;> omega
/-- A dock's number is a robot's. -/
theorem dock_robot {W H : Int} {s : ByteArray} (h : Right W H s) {d r : Nat} (hd : d < s.size) (hz : at_ s d = 48 + r) (hr : r < 8) : r < (pick isD (at_ s) s.size).length := by
  obtain ⟨a, b, rfl, rfl, hS, hR⟩ := rightNat h
  rw [hS.sz] at hd ⊢
  show r < (docks a b (at_ s)).length
  rcases Nat.lt_or_ge r (docks a b (at_ s)).length with k | k
  · exact k
  · exfalso
    have h0 := cn_high hR.docks r hr k
    unfold cn at h0
    have hm : d ∈ (docks a b (at_ s)).filter fun i => at_ s i == 48 + r := List.mem_filter.2 ⟨mem_pick.2 ⟨hd, by rw [hz]; exact isD_mk hr⟩, by simpa using hz⟩
    rw [List.eq_nil_of_length_eq_zero h0] at hm
    cases hm

set_option maxHeartbeats 2000000 in
theorem rdock_of_any (W H : Int) (s : ByteArray) (hs : s.size ≤ maxLen) (r : Int) (w : World) :
    Calls Tryz.prog 45 #[.agg #[.int .i64 W, .int .i64 H, .string s], .int .i64 r] w (DockTold W H s r w) := by
  have hs' := hs
  unfold maxLen at hs'
  go_enter Tryz.func45, Tryz.ntmps45
  go_wp2_with fail
  go_loopw [6] (fun iv wr => ∃ k : Nat, k ≤ s.size ∧ iv = .int .i64 (k : Int) ∧ Box w W H s wr ∧ (0 < k → Right W H s) ∧ ∀ j, j < k → IsRobot W H s r → (at_ s j : Int) ≠ 48 + r) (fun iv _ => s.size - (intOf iv).toNat)
  case atStart => exact ⟨0, Nat.zero_le _, rfl, Box.start w W H s 25, fun h => by omega, fun j hj => by omega⟩
  case round =>
    rename World => wr
    obtain ⟨k, hk, rfl, hB, hR, hJ⟩ := hrel
    have HB := Lib.hid hB
    have HR := Lib.hid hR
    have HJ := Lib.hid hJ
    have k0 := hB.c0
    have k1 := hB.c1
    have k2 := hB.c2
    clear hB hR hJ
    by_cases hlt : k < s.size
    · go_wp2_with fail
      refine (rright_any W H s hs _).mono ?_
      rintro e w2 ⟨b, rfl, hb, hbw⟩
      have HB2 := Lib.hid (HB.out.after hbw)
      have HRb := Lib.hid hb
      have q2 := HB2.out.c2
      clear hb hbw k0 k1 k2
      cases b
      · have HN : Hid (¬ Right W H s) := Lib.hid (fun h => by have := HRb.out.2 h; cases this)
        go_wp2_with fail
        go_ret2
        exact ⟨0, false, rfl, fun h => absurd h.1 HN.out, fun _ => ⟨rfl, rfl⟩, HB2.out.below⟩
      · have HY : Hid (Right W H s) := Lib.hid (HRb.out.1 (by trivial))
        have HZ := Lib.hid (at_get s k hlt)
        cases hd : isD s[k].toNat with
        | true =>
          obtain ⟨q, hq8, hzq⟩ := isD_of hd
          have hq : ((s[k].toNat : Int) - 48) = (q : Int) := by rw [hzq]; omega
          have hlo : 48 ≤ s[k].toNat := by omega
          have hhi : s[k].toNat < 56 := by omega
          have HZQ : Hid (at_ s k = 48 + q) := Lib.hid (by rw [← HZ.out]; exact hzq)
          clear hzq
          by_cases he : (q : Int) = r
          · subst he
            have HI : Hid (IsRobot W H s ((q : Nat) : Int)) := Lib.hid ⟨HY.out, by omega, by have := dock_robot HY.out hlt HZQ.out hq8; omega⟩
            have HF : Hid (IsFirst s (48 + ((q : Nat) : Int).toNat) k) := Lib.hid ⟨hlt, by rw [HZQ.out]; rfl, fun j hj e => HJ.out j hj HI.out (by rw [e]; omega)⟩
            have hb : ((q : Int) == (q : Int)) = true := by simp
            go_wp2_with (go_at_call 85; refine (rdock_is _ true _ hd).mono ?_; rintro e w' ⟨rfl, rfl⟩)
            go_ret2
            exact ⟨k, true, rfl, fun _ => ⟨HF.out, rfl⟩, fun h => absurd HI.out h, HB2.out.below⟩
          · have hb : ((q : Int) == r) = false := by rw [beq_eq_false_iff_ne]; exact he
            have HJ2 : Hid (∀ j, j < k + 1 → IsRobot W H s r → (at_ s j : Int) ≠ 48 + r) := Lib.hid (fun j hj hi e => by
              rcases Nat.lt_succ_iff_lt_or_eq.1 hj with h | h
              · exact HJ.out j h hi e
              · subst h; rw [HZQ.out] at e; apply he; omega)
            clear he
            go_wp2_with (go_at_call 85; refine (rdock_is _ true _ hd).mono ?_; rintro e w' ⟨rfl, rfl⟩)
            go_roundw
            case rel => exact ⟨k + 1, by omega, by go_num, HB2.out, fun _ => HY.out, HJ2.out⟩
            case measure => simp [intOf]; omega
        | false =>
          have HJ2 : Hid (∀ j, j < k + 1 → IsRobot W H s r → (at_ s j : Int) ≠ 48 + r) := Lib.hid (fun j hj hi e => by
            rcases Nat.lt_succ_iff_lt_or_eq.1 hj with h | h
            · exact HJ.out j h hi e
            · subst h
              obtain ⟨h1, h2, h3⟩ := hi
              have h8 := (right_first h1 r.toNat (by omega)).1
              rw [HZ.out, show at_ s j = 48 + r.toNat by omega, isD_mk h8] at hd
              cases hd)
          go_wp2_with (go_at_call 85; refine (rdock_is _ false _ hd).mono ?_; rintro e w' ⟨rfl, rfl⟩)
          go_roundw
          case rel => exact ⟨k + 1, by omega, by go_num, HB2.out, fun _ => HY.out, HJ2.out⟩
          case measure => simp [intOf]; omega
    · obtain rfl : k = s.size := by omega
      have HN : Hid (¬ IsRobot W H s r) := Lib.hid (fun h => by
        obtain ⟨h1, d, h2, h3, _⟩ := right_first h.1 r.toNat (by have := h.2.1; have := h.2.2; omega)
        exact HJ.out d h2 h (by rw [h3]; have := h.2.1; omega))
      go_wp2_with fail
      go_ret2
      exact ⟨0, false, rfl, fun h => absurd h HN.out, fun _ => ⟨rfl, rfl⟩, HB.out.below⟩

set_option maxHeartbeats 2000000 in
theorem rzone_any (W H : Int) (s : ByteArray) (hs : s.size ≤ maxLen) (c : Int) (w : World) :
    Calls Tryz.prog 43 #[.agg #[.int .i64 W, .int .i64 H, .string s], .int .i64 c] w (PairTold (OnLane W H s c) (bAt s c - 97) w) := by
  have hs' := hs
  unfold maxLen at hs'
  by_cases h0 : 0 ≤ c ∧ c < s.size
  · obtain ⟨k, rfl⟩ := Int.eq_ofNat_of_zero_le h0.1
    have hk : k < s.size := by omega
    have d0 : decide ((k : Int) < 0) = false := by simp
    have HBA : Hid (bAt s (k : Int) = at_ s k) := Lib.hid (by unfold bAt; rw [if_pos (by omega), Int.toNat_natCast])
    have HZ := Lib.hid (at_get s k hk)
    clear h0
    go_enter Tryz.func43, Tryz.ntmps43
    go_wp2_with fail
    refine (rright_any W H s hs _).mono ?_
    rintro e w1 ⟨b, rfl, hb, hbw⟩
    have HB := Lib.hid ((Box.start w W H s 25).after hbw)
    have HR := Lib.hid hb
    have e2 := HB.out.c2
    clear hb hbw
    cases b
    · go_wp2_with fail
      go_ret2
      exact ⟨0, false, rfl, (fun h => by have := HR.out.2 h.1; cases this), fun _ => ⟨rfl, rfl⟩, HB.out.below⟩
    · have HRR : Hid (Right W H s) := Lib.hid (HR.out.1 (by trivial))
      cases hl : isL s[k].toNat with
      | false =>
        go_wp2_with (go_at_call 86; refine (rlane_w _ false _ hl).mono ?_; rintro e w' ⟨rfl, rfl⟩)
        go_ret2
        exact ⟨0, false, rfl, (fun h => by have h2 := h.2; rw [HBA.out, ← HZ.out, hl] at h2; cases h2), fun _ => ⟨rfl, rfl⟩, HB.out.below⟩
      | true =>
        have hlo : 97 ≤ s[k].toNat := by have h2 := hl; unfold isL at h2; simp only [Bool.and_eq_true, decide_eq_true_eq] at h2; exact h2.1
        have hhi : s[k].toNat < 123 := by have h2 := hl; unfold isL at h2; simp only [Bool.and_eq_true, decide_eq_true_eq] at h2; exact h2.2
        have HOL : Hid (OnLane W H s (k : Int)) := Lib.hid ⟨HRR.out, by rw [HBA.out, ← HZ.out]; exact hl⟩
        go_wp2_with (go_at_call 86; refine (rlane_w _ true _ hl).mono ?_; rintro e w' ⟨rfl, rfl⟩)
        go_ret2
        exact ⟨at_ s k - 97, true, ret_two (by rw [← HZ.out]; omega) rfl, fun _ => ⟨by rw [HBA.out], rfl⟩, fun h => absurd HOL.out h, HB.out.below⟩
  · have HN : Hid (¬ OnLane W H s c) := Lib.hid (fun h => by
      have h2 := h.2
      unfold bAt at h2
      rw [if_neg h0] at h2
      cases h2)
    by_cases h1 : c < 0
    · have d0 : decide (c < 0) = true := by simpa using h1
      clear h0
      go_enter Tryz.func43, Tryz.ntmps43
      go_wp2_with fail
      go_ret2
      exact ⟨0, false, rfl, fun h => absurd h HN.out, fun _ => ⟨rfl, rfl⟩, (Below.refl _ _).alloc (Nat.le_refl _) _⟩
    · have d0 : decide (c < 0) = false := by simpa using h1
      have d1 : decide ((s.size : Int) ≤ c) = true := by simp; omega
      clear h0
      go_enter Tryz.func43, Tryz.ntmps43
      go_wp2_with fail
      go_ret2
      exact ⟨0, false, rfl, fun h => absurd h HN.out, fun _ => ⟨rfl, rfl⟩, (Below.refl _ _).alloc (Nat.le_refl _) _⟩

end Go.Proofs.YtakgkocdkondhaaGreatDoor
end

section
namespace Go.Proofs.YtakgkocdkondhaaGreatDoor
open Go.RowKit Fl

set_option maxHeartbeats 4000000 in
theorem rnear_any (W H : Int) (s : ByteArray) (hs : s.size ≤ maxLen) (c : Int) (w : World) :
    Calls Tryz.prog 122 #[.agg #[.int .i64 W, .int .i64 H, .string s], .int .i64 c] w (IntsIf (OnFloor W H s c) (nears W H s c) w) := by
  have hs' := hs
  unfold maxLen at hs'
  by_cases h0 : 0 ≤ c ∧ c < s.size
  · obtain ⟨k, rfl⟩ := Int.eq_ofNat_of_zero_le h0.1
    have hk : k < s.size := by omega
    have d0 : decide ((k : Int) < 0) = false := by simp
    have HBA : Hid (bAt s (k : Int) = at_ s k) := Lib.hid (by unfold bAt; rw [if_pos (by omega), Int.toNat_natCast])
    have HZ := Lib.hid (at_get s k hk)
    clear h0
    go_enter Tryz.func122, Tryz.ntmps122
    go_wp2_with fail
    refine (rright_any W H s hs _).mono ?_
    rintro e w1 ⟨b, rfl, hb, hbw⟩
    have HB := Lib.hid ((Box.start w W H s 25).after hbw)
    have HR := Lib.hid hb
    have e0 := HB.out.c0
    have e1 := HB.out.c1
    have e2 := HB.out.c2
    clear hb hbw
    cases b
    · go_wp2_with fail
      go_ret
      exact ⟨none, 0, 0, [], rfl, rfl, (fun h => by have := HR.out.2 h.1; cases this), fun _ => rfl, Own.nil _ _, HB.out.below⟩
    · have HRR : Hid (Right W H s) := Lib.hid (HR.out.1 (by trivial))
      by_cases h35 : s[k].toNat = 35
      · have hb : ((s[k].toNat : Int) == 35) = true := by rw [beq_iff_eq]; omega
        have HNo : Hid (¬ OnFloor W H s (k : Int)) := Lib.hid (fun h => h.2 (by rw [HBA.out, ← HZ.out]; exact h35))
        clear h35
        go_wp2_with fail
        go_ret
        exact ⟨none, 0, 0, [], rfl, rfl, fun h => absurd h HNo.out, fun _ => rfl, Own.nil _ _, HB.out.below⟩
      · have hb : ((s[k].toNat : Int) == 35) = false := by rw [beq_eq_false_iff_ne]; omega
        have HY : Hid (OnFloor W H s (k : Int)) := Lib.hid ⟨HRR.out, by rw [HBA.out, ← HZ.out]; exact h35⟩
        obtain ⟨W', H', rfl, rfl, hS, hRN⟩ := rightNat HRR.out
        have HS := Lib.hid hS
        have hkc : k < W' * H' := by rw [← hS.sz]; exact hk
        have HIN : Hid (∀ b, b ∈ side W' H' k → b < s.size) := Lib.hid (fun b hb => by rw [HS.out.sz]; exact side_lt HS.out.w1 hkc hb)
        have HBE := Lib.hid (fun wx => rbeside_any W' H' k s wx HS.out.w1 HS.out.w2 HS.out.h1 HS.out.h2 hkc)
        have HNE : Hid (nears (W' : Int) (H' : Int) s (k : Int) = (side W' H' k).filter fun b => at_ s b != 35) := Lib.hid rfl
        have HSL := Lib.hid (side_len W' H' k)
        have HNT := Lib.hid (fun j => nearL_take W' H' (at_ s) k j)
        have h256 := hS.le
        clear hS hRN hkc h35
        go_wp2_with fail
        refine (HBE.out _).mono ?_
        rintro e w3 ⟨a, n, cap, rfl, hn, ho, hb3⟩
        have HB3 := Lib.hid (HB.out.after hb3)
        have HO := Lib.hid ho
        have HN := Lib.hid hn
        have hn4 : n ≤ 4 := by rw [hn]; exact HSL.out
        clear e0 e1 e2 ho hn hb3 hb
        generalize side W' H' k = L at *
        go_wp2_with fail
        go_loopw [5, 7] (fun v iv wr => ∃ j : Nat, j ≤ n ∧ iv = .int .i64 (j : Int) ∧ Part w W' H' s ((L.take j).filter fun b => at_ s b != 35) v wr ∧ Own wr w1.heap.size (.slice a n cap) L ∧ (v.ownBlock = none ∨ v.ownBlock ≠ (Value.slice a n cap).ownBlock)) (fun _ iv _ => n - (intOf iv).toNat)
        case atStart => exact ⟨0, Nat.zero_le _, rfl, ⟨_, _, _, rfl, rfl, Own.nil _ _, HB3.out⟩, HO.out, .inl rfl⟩
        case round =>
          rename World => wr
          obtain ⟨j, hj, rfl, ⟨a4, n4, c4, rfl, hn4', ho4, hB4⟩, hO4, hAp⟩ := hrel
          have HO4 := Lib.hid ho4
          have HB4 := Lib.hid hB4
          have HOL := Lib.hid hO4
          have HAp := Lib.hid hAp
          have HN4 := Lib.hid hn4'
          have kk := hB4.c2
          have hz := hB4.lt
          clear ho4 hB4 hO4 hAp hn4'
          by_cases hlt : j < n
          · have hjL : j < L.length := by rw [← HN.out]; exact hlt
            obtain ⟨g, rfl, hg, hc⟩ := HOL.out.at j hjL
            have hin := HIN.out _ (getD_mem hjL)
            have HT := Lib.hid (HNT.out j hjL)
            have hfl : ((L.take j).filter fun b => at_ s b != 35).length ≤ 4 := by
              have := List.length_filter_le (fun b => at_ s b != 35) (L.take j)
              rw [List.length_take] at this
              omega
            generalize L.getD j 0 = d at *
            have HZd := Lib.hid (at_get s d hin)
            clear hjL
            by_cases h35 : s[d].toNat = 35
            · have hb : ((s[d].toNat : Int) != 35) = false := by rw [bne_eq_false_iff_eq]; omega
              have HTE : Hid ((L.take (j + 1)).filter (fun b => at_ s b != 35) = (L.take j).filter (fun b => at_ s b != 35)) := Lib.hid (by rw [HT.out, if_pos (by rw [← HZd.out]; exact h35), List.append_nil])
              clear h35
              go_wp2_with fail
              go_big_quiet (fail)
              go_wp2_with fail
              go_roundw
              case rel => exact ⟨j + 1, by omega, by go_num, by rw [HTE.out]; exact ⟨_, _, _, rfl, HN4.out, HO4.out.later (below_drewN _ _ _), HB4.out.later (below_drewN _ _ _)⟩, HOL.out.later (below_drewN _ _ _), HAp.out⟩
              case measure => simp [intOf]; omega
            · have hb : ((s[d].toNat : Int) != 35) = true := by rw [bne_iff_ne]; omega
              have HTE : Hid ((L.take (j + 1)).filter (fun b => at_ s b != 35) = (L.take j).filter (fun b => at_ s b != 35) ++ [d]) := Lib.hid (by rw [HT.out, if_neg (by rw [← HZd.out]; exact h35)])
              clear h35
              go_wp2_with fail
              go_big_quiet (fail)
              have HO5 := Lib.hid (HO4.out.later (below_drewN wr.heap.size wr nq))
              have HOL5 := Lib.hid (HOL.out.later (below_drewN wr.heap.size wr nq))
              have HB5 := Lib.hid (HB4.out.later (below_drewN _ wr nq))
              go_wp2_with (at_builtin; go_must (refine app_int2 rfl _ _ rfl (w.heap.size + 1) (.slice a4 n4 c4) ((L.take j).filter fun b => at_ s b != 35) rfl d _ rfl (wr.drewN nq) rfl HO5.out rfl (by omega) hz ?_); intro A6 c6 n6 w6 hn6 ho6 hb6 hg6 hat6; have HN6 := Lib.hid hn6; clear hn6)
              go_roundw
              case rel =>
                refine ⟨j + 1, by omega, by go_num, by rw [HTE.out]; exact Part.add HB5.out HN6.out ho6 hb6, ?_, ?_⟩
                · exact World.ownsRow.kept HOL5.out hg6 (by rcases HAp.out with h | h; exact Or.inr (by rw [h]; intro e; cases e); exact Or.inr (fun e => h e.symm))
                · rcases hat6 with h | h
                  · rw [h]; exact HAp.out
                  · rw [h]
                    refine Or.inr (fun e => ?_)
                    have := HOL.out.lt _ e.symm
                    have h2 : (wr.drewN nq).heap.size = wr.heap.size := rfl
                    omega
              case measure => simp [intOf]; omega
          · obtain rfl : j = n := by omega
            have HTF : Hid (L.take j = L) := Lib.hid (List.take_of_length_le (by rw [← HN.out]; exact Nat.le_refl _))
            go_wp2_with fail
            go_ret
            exact ⟨a4, n4, c4, _, rfl, HN4.out, fun _ => by rw [HNE.out, HTF.out], fun h => absurd HY.out h, HO4.out.lower (Nat.le_succ _), HB4.out.below⟩
  · have HNo : Hid (¬ OnFloor W H s c) := Lib.hid (fun h => h.2 (by unfold bAt; rw [if_neg h0]))
    by_cases h1 : c < 0
    · have d0 : decide (c < 0) = true := by simpa using h1
      clear h0
      go_enter Tryz.func122, Tryz.ntmps122
      go_wp2_with fail
      go_ret
      exact ⟨none, 0, 0, [], rfl, rfl, fun h => absurd h HNo.out, fun _ => rfl, Own.nil _ _, (Below.refl _ _).alloc (Nat.le_refl _) _⟩
    · have d0 : decide (c < 0) = false := by simpa using h1
      have d1 : decide ((s.size : Int) ≤ c) = true := by simp; omega
      clear h0
      go_enter Tryz.func122, Tryz.ntmps122
      go_wp2_with fail
      go_ret
      exact ⟨none, 0, 0, [], rfl, rfl, fun h => absurd h HNo.out, fun _ => rfl, Own.nil _ _, (Below.refl _ _).alloc (Nat.le_refl _) _⟩

end Go.Proofs.YtakgkocdkondhaaGreatDoor
end
