/-
  Layer 14: the document's Lay.
-/
import Derived.Test.YtobpinelhjpfgaaDoorLnArgs
set_option linter.unusedVariables false
set_option maxRecDepth 100000
namespace Go.Proofs.YtobpinelhjpfgaaDoor
namespace Ln
open Go.RowKit Bp Ck
/-- A row of bits is appended to another one. -/
theorem app_bits {w : World} {ops : Array Oper} {rest : List Oper} {o : Oper} {a : Act} {Q : Exit → Act → World → Prop} (hgd : o.guard = none) (s x : Operand)
    (ho : o.op = .call { callee := .builtin .append, args := #[s, x], argTypes := #[91, 91] })
    (base : Nat) (v : Value) (n : Nat) (xs : List Bool) (hs : a.eval s = v) (hown : w.ownsRow base 4 1 v n (bb xs))
    (base2 g m c : Nat) (ys : List Bool) (hx : a.eval x = .slice (some ⟨g, 0, none⟩) m c) (hr : w.ownsRow base2 4 1 (.slice (some ⟨g, 0, none⟩) m c) m (bb ys)) (hf : n + m ≤ 1048576) (hbase : base ≤ w.heap.size)
    (h : ∀ v' w', w'.ownsRow base 4 1 v' (n + m) (bb (xs ++ ys)) → Below base w w' → wpList Tryd.prog ops Q rest (a.put o.dst v') w') : wpList Tryd.prog ops Q (o :: rest) a w := by
  obtain ⟨i0, hi, hz0, hz1, hz2⟩ := info_parts Tryd.infoBool
  refine wpList_append_own_at w hgd s x 91 ho base 4 i0 (.bool false) 1 1 Tryd.underlying91 hi hz0 hz1 hz2 rfl (by decide) v n (bb xs) hs hown ⟨g, 0, none⟩ m c (bb ys) hx (by have := hr.1; omega) (hr.cells (g := g) rfl) (bb_one ys) (by unfold maxLen; omega) (by omega) hbase ?_
  intro v' w' h1 h2 h3 h4
  exact h v' w' (by rw [bb_app]; exact h1) (Below.grown (Below.refl _ _) h2 hbase (fun k hk => (hown.lt k hk).1))
set_option maxHeartbeats 4000000 in
theorem rlay_told {B : Nat} {w : World} {n : Nat} {A : Option Addr} {m c : Nat} {d : List Nat} (hok : Ok false n d) (hd : By B w A m c d) (hB : B ≤ w.heap.size) :
    Calls Tryd.prog 16 #[.agg #[.bool false, .int .u64 (n : Int), .slice A m c]] w (LayTold w (play false n d)) := by
  have hle := hd.le
  have hmx := hd.max
  have hln := hd.len
  have hfew := hok.few
  have hnum := hok.num
  unfold maxLen at hmx
  have e1 : decide ((200 : Int) < (m : Int)) = false := decide_eq_false (by omega)
  have e2 : ((n : Int) == 18446744073709551615) = false := by rw [beq_eq_false_iff_ne]; omega
  have HK := Lib.hid hok
  have HLN := Lib.hid hln
  have k1 := box3 w (.bool false) (.int .u64 (n : Int)) (.slice A m c)
  have hb1 := box3_below w (.bool false) (.int .u64 (n : Int)) (.slice A m c)
  have hs1 : (w.alloc (.cells #[.bool false, .int .u64 (n : Int), .slice A m c] 48)).heap.size = w.heap.size + 1 := by simp
  have HB1 := Lib.hid hb1
  have HS1 := Lib.hid hs1
  have HD1 : Hid (By (w.heap.size + 1) (w.alloc (.cells #[.bool false, .int .u64 (n : Int), .slice A m c] 48)) A m c d) := Lib.hid ((hd.below (hb1.mono hB)).mono (by omega))
  have HC : Hid (∀ W, Below (w.heap.size + 1) (w.alloc (.cells #[.bool false, .int .u64 (n : Int), .slice A m c] 48)) W → W.cell? ⟨w.heap.size, 1, none⟩ = some (.int .u64 (n : Int)) ∧ W.cell? ⟨w.heap.size, 2, none⟩ = some (.slice A m c)) := Lib.hid (fun W hW => by
    obtain ⟨x0, x1, x2⟩ := pkt_cells ((hW.block w.heap.size (Nat.lt_succ_self _)).trans k1)
    exact ⟨x1, x2⟩)
  have HO0 : Hid (((w.alloc (.cells #[.bool false, .int .u64 (n : Int), .slice A m c] 48)).alloc (.cells #[.bool false] 4)).ownsRow (w.heap.size + 1) 4 1 (.slice (some ⟨w.heap.size + 1, 0, none⟩) 1 1) 1 (bb [false])) := Lib.hid (by
    have := World.ownsRow_lit (base := w.heap.size + 1) (e := 4) (size := 1) (w.alloc (.cells #[.bool false, .int .u64 (n : Int), .slice A m c] 48)) #[.bool false] 1 (by rw [hs1]; exact Nat.le_refl _) (by unfold maxLen; omega) rfl
    rw [hs1] at this
    exact this)
  have HX0 : Hid (Below (w.heap.size + 1) (w.alloc (.cells #[.bool false, .int .u64 (n : Int), .slice A m c] 48)) ((w.alloc (.cells #[.bool false, .int .u64 (n : Int), .slice A m c] 48)).alloc (.cells #[.bool false] 4))) := Lib.hid ((Below.refl _ _).alloc (by rw [hs1]; exact Nat.le_refl _) _)
  have HKZ := Lib.hid hok.kz
  have HN := Lib.hid hnum
  have HF := Lib.hid hfew
  obtain ⟨d0, d1, d2⟩ := pkt_cells ((HX0.out.block w.heap.size (Nat.lt_succ_self _)).trans k1)
  clear hok hd hln hfew hnum hb1 hs1 k1
  go_enter Tryd.func16, Tryd.ntmps16
  go_wp2_with fail
  generalize w.alloc (.cells #[.bool false, .int .u64 (n : Int), .slice A m c] 48) = W1 at *
  generalize W1.alloc (.cells #[.bool false] 4) = w2 at *
  refine (refCount_any n HN.out _).mono ?_
  rintro e w3 ⟨g3, c3, rfl, ho3, hb3⟩
  have hs2 := HX0.out.size
  have HO1 : Hid (w3.ownsRow (w.heap.size + 1) 4 1 (.slice (some ⟨w.heap.size + 1, 0, none⟩) 1 1) 1 (bb [false])) := Lib.hid (ownsRow_same HO0.out (fun k hk => hb3.block k (HO0.out.lt k hk).2))
  have HO3 := Lib.hid ho3
  have hsz : w.heap.size + 1 ≤ w3.heap.size := by have := HS1.out; have := hb3.size; omega
  have HX1 : Hid (Below (w.heap.size + 1) W1 w3) := Lib.hid (HX0.out.trans (hb3.mono (by have := HS1.out; omega)))
  clear ho3 hb3 hs2 HO0 HX0 d0 d1 d2
  go_wp2_with (at_builtin; refine app_bits rfl _ _ rfl (w.heap.size + 1) _ 1 [false] rfl HO1.out _ g3 (2 * kz n + 1) c3 (countBits n) rfl HO3.out (by have := HKZ.out; omega) hsz ?_; intro v4 w4 ho4 hb4)
  obtain ⟨g4, c4, rfl⟩ := shape_of ho4 (by omega)
  have HO4 : Hid (w4.ownsRow (w.heap.size + 1) 4 1 (.slice (some ⟨g4, 0, none⟩) (1 + (2 * kz n + 1)) c4) (1 + (2 * kz n + 1)) (bb ([false] ++ countBits n))) := Lib.hid ho4
  have HX4 : Hid (Below (w.heap.size + 1) W1 w4) := Lib.hid (HX1.out.trans hb4)
  clear ho4 hb4 HO1 HO3 HX1
  generalize hQ : 1 + (2 * kz n + 1) = Q at *
  have HQ := Lib.hid hQ
  clear hQ
  go_wp2_with fail
  go_loopw [4, 5] (fun lv iv wr => ∃ k g c, k ≤ m ∧ iv = .int .i64 ((k : Nat) : Int) ∧ lv = .slice (some ⟨g, 0, none⟩) (Q + 8 * k) c ∧ wr.ownsRow (w.heap.size + 1) 4 1 (.slice (some ⟨g, 0, none⟩) (Q + 8 * k) c) (Q + 8 * k) (bb ([false] ++ countBits n ++ bitsZ (d.take k))) ∧ Below (w.heap.size + 1) W1 wr) (fun _ iv _ => m - (intOf iv).toNat)
  case atStart => exact ⟨0, g4, c4, Nat.zero_le _, rfl, by rw [Nat.mul_zero, Nat.add_zero], by rw [Nat.mul_zero, Nat.add_zero]; simpa [bitsZ] using HO4.out, HX4.out⟩
  case round =>
    obtain ⟨k, g5, c5, hk, rfl, rfl, ho5, hx5⟩ := hrel
    obtain ⟨j1, j2⟩ := HC.out wr hx5
    have HO5 := Lib.hid ho5
    have HX5 := Lib.hid hx5
    have hsz5 : w.heap.size + 1 ≤ wr.heap.size := by have := HS1.out; have := hx5.size; omega
    have hd5 := HD1.out.below hx5
    clear ho5 hx5 HO4 HX4
    by_cases hlt : k < m
    · obtain ⟨ga, off, rfl, hga, hca⟩ := hd5.cell (by omega)
      have hck := hca k hlt
      have hz := getD_byte d k hd5.byte
      have HT := Lib.hid (take_bits d k (by rw [HLN.out]; exact hlt))
      clear hca hd5
      generalize d.getD k 0 = z at *
      go_wp2_with fail
      refine (refBits_int z 8 _ _ (by omega) (by omega) wr rfl rfl).mono ?_
      rintro e w6 ⟨v6, rfl, hsh, ho6, hb6⟩
      obtain ⟨g6, c6, rfl⟩ := shape_of ho6 (by omega)
      have HO6 := Lib.hid ho6
      have HO5b : Hid (w6.ownsRow (w.heap.size + 1) 4 1 (.slice (some ⟨g5, 0, none⟩) (Q + 8 * k) c5) (Q + 8 * k) (bb ([false] ++ countBits n ++ bitsZ (d.take k)))) := Lib.hid (ownsRow_same HO5.out (fun q hq => hb6.block q (HO5.out.lt q hq).2))
      have HX6 : Hid (Below (w.heap.size + 1) W1 w6) := Lib.hid (HX5.out.trans (hb6.mono hsz5))
      have hsz6 : w.heap.size + 1 ≤ w6.heap.size := Nat.le_trans hsz5 hb6.size
      clear ho6 hb6 hsh HO5 HX5 j1 j2
      go_wp2_with (at_builtin; refine app_bits rfl _ _ rfl (w.heap.size + 1) _ (Q + 8 * k) _ rfl HO5b.out _ g6 8 c6 (bitsOf z 8) rfl HO6.out (by have := HKZ.out; have := HQ.out; have := HF.out; have := HLN.out; omega) hsz6 ?_; intro v7 w7 ho7 hb7)
      obtain ⟨g7, c7, rfl⟩ := shape_of ho7 (by omega)
      have HO7 := Lib.hid ho7
      have HX7 := Lib.hid (HX6.out.trans hb7)
      clear ho7 hb7 HO5b HO6 HX6
      go_wp2
      go_roundw
      case rel => exact ⟨k + 1, g7, c7, by omega, by go_num, by rw [show Q + 8 * (k + 1) = Q + 8 * k + 8 by omega], by rw [show Q + 8 * (k + 1) = Q + 8 * k + 8 by omega, HT.out, ← List.append_assoc]; exact HO7.out, HX7.out⟩
      case measure => simp [intOf]; omega
    · obtain rfl : k = m := by omega
      have ht : d.take k = d := List.take_of_length_le (by rw [HLN.out]; exact Nat.le_refl _)
      rw [ht] at HO5
      have hpl : ([false] ++ countBits n ++ bitsZ d).length = Q + 8 * k := by
        rw [List.length_append, List.length_append, countBits_length, bitsZ_len, HLN.out, ← HQ.out]; rfl
      have hQ1 : Q + 8 * k ≤ 1048576 := by have := HKZ.out; have := HQ.out; have := HF.out; have := HLN.out; omega
      have hrow := HO5.out
      rw [← hpl] at hrow
      have HRY := Lib.hid (refBytes_any _ _ _ _ hrow (by rw [hpl]; exact hQ1))
      have hpb : [false] ++ countBits n ++ bitsZ d = pb false n d := by unfold pb; rw [bit1]
      have HPB := Lib.hid hpb
      rw [hpl] at HRY
      clear hrow hpl ht hd5 hpb
      go_wp2_with fail
      refine HRY.out.mono ?_
      rintro e w8 ⟨v8, rfl, ho8, hb8⟩
      obtain ⟨A8, c8, rfl⟩ := ownsRow_shape ho8
      rw [HPB.out] at ho8
      have hrm := HK.out.room
      have HY8 := Lib.hid (By.own ho8 (pack_byte _))
      have hlen8 := HY8.out.len
      have HX8 : Hid (Below w.heap.size w w8) := Lib.hid (HB1.out.trans ((HX5.out.trans (hb8.mono hsz5)).mono (by omega)))
      have HQ8 : Hid (nb (Q + 8 * k) + 4 = (play false n d).length) := Lib.hid (by unfold play; rw [frm_len, hlen8])
      have hq8 : nb (Q + 8 * k) ≤ 1000 := by omega
      clear ho8 hb8 hrm hlen8 HO5 HX5 HRY
      generalize nb (Q + 8 * k) = N8 at *
      go_wp2_with fail
      refine (refFrame_ok HY8.out (Nat.le_refl _) hq8).mono ?_
      rintro e w9 ⟨g9, c9, rfl, ho9, hb9⟩
      have HO9 := Lib.hid ho9
      have HX9 := Lib.hid (HX8.out.trans (hb9.mono HX8.out.size))
      clear ho9 hb9 HY8
      go_wp2_with fail
      go_ret2
      refine ⟨g9, c9, by rw [← HQ8.out]; rfl, ?_, HX9.out⟩
      have := ownsRow_lower HO9.out HX8.out.size
      rw [← HQ8.out]
      exact this
set_option maxHeartbeats 4000000 in
theorem rlay_heard {B : Nat} {w : World} {n : Nat} {A : Option Addr} {c : Nat} (hok : Ok true n []) (hd : By B w A 0 c []) (hB : B ≤ w.heap.size) :
    Calls Tryd.prog 16 #[.agg #[.bool true, .int .u64 (n : Int), .slice A 0 c]] w (LayTold w (play true n [])) := by
  have hle := hd.le
  have hmx := hd.max
  have hln := hd.len
  have hfew := hok.few
  have hnum := hok.num
  unfold maxLen at hmx
  have e2 : ((n : Int) == 18446744073709551615) = false := by rw [beq_eq_false_iff_ne]; omega
  have HK := Lib.hid hok
  have HLN := Lib.hid hln
  have k1 := box3 w (.bool true) (.int .u64 (n : Int)) (.slice A 0 c)
  have hb1 := box3_below w (.bool true) (.int .u64 (n : Int)) (.slice A 0 c)
  have hs1 : (w.alloc (.cells #[.bool true, .int .u64 (n : Int), .slice A 0 c] 48)).heap.size = w.heap.size + 1 := by simp
  have HB1 := Lib.hid hb1
  have HS1 := Lib.hid hs1
  have HD1 : Hid (By (w.heap.size + 1) (w.alloc (.cells #[.bool true, .int .u64 (n : Int), .slice A 0 c] 48)) A 0 c []) := Lib.hid ((hd.below (hb1.mono hB)).mono (by omega))
  have HC : Hid (∀ W, Below (w.heap.size + 1) (w.alloc (.cells #[.bool true, .int .u64 (n : Int), .slice A 0 c] 48)) W → W.cell? ⟨w.heap.size, 1, none⟩ = some (.int .u64 (n : Int)) ∧ W.cell? ⟨w.heap.size, 2, none⟩ = some (.slice A 0 c)) := Lib.hid (fun W hW => by
    obtain ⟨x0, x1, x2⟩ := pkt_cells ((hW.block w.heap.size (Nat.lt_succ_self _)).trans k1)
    exact ⟨x1, x2⟩)
  have HO0 : Hid (((w.alloc (.cells #[.bool true, .int .u64 (n : Int), .slice A 0 c] 48)).alloc (.cells #[.bool true] 4)).ownsRow (w.heap.size + 1) 4 1 (.slice (some ⟨w.heap.size + 1, 0, none⟩) 1 1) 1 (bb [true])) := Lib.hid (by
    have := World.ownsRow_lit (base := w.heap.size + 1) (e := 4) (size := 1) (w.alloc (.cells #[.bool true, .int .u64 (n : Int), .slice A 0 c] 48)) #[.bool true] 1 (by rw [hs1]; exact Nat.le_refl _) (by unfold maxLen; omega) rfl
    rw [hs1] at this
    exact this)
  have HX0 : Hid (Below (w.heap.size + 1) (w.alloc (.cells #[.bool true, .int .u64 (n : Int), .slice A 0 c] 48)) ((w.alloc (.cells #[.bool true, .int .u64 (n : Int), .slice A 0 c] 48)).alloc (.cells #[.bool true] 4))) := Lib.hid ((Below.refl _ _).alloc (by rw [hs1]; exact Nat.le_refl _) _)
  have HKZ := Lib.hid hok.kz
  have HN := Lib.hid hnum
  have HF := Lib.hid hfew
  obtain ⟨d0, d1, d2⟩ := pkt_cells ((HX0.out.block w.heap.size (Nat.lt_succ_self _)).trans k1)
  clear hok hd hln hfew hnum hb1 hs1 k1
  go_enter Tryd.func16, Tryd.ntmps16
  go_wp2_with fail
  generalize w.alloc (.cells #[.bool true, .int .u64 (n : Int), .slice A 0 c] 48) = W1 at *
  generalize W1.alloc (.cells #[.bool true] 4) = w2 at *
  refine (refCount_any n HN.out _).mono ?_
  rintro e w3 ⟨g3, c3, rfl, ho3, hb3⟩
  have hs2 := HX0.out.size
  have HO1 : Hid (w3.ownsRow (w.heap.size + 1) 4 1 (.slice (some ⟨w.heap.size + 1, 0, none⟩) 1 1) 1 (bb [true])) := Lib.hid (ownsRow_same HO0.out (fun k hk => hb3.block k (HO0.out.lt k hk).2))
  have HO3 := Lib.hid ho3
  have hsz : w.heap.size + 1 ≤ w3.heap.size := by have := HS1.out; have := hb3.size; omega
  have HX1 : Hid (Below (w.heap.size + 1) W1 w3) := Lib.hid (HX0.out.trans (hb3.mono (by have := HS1.out; omega)))
  clear ho3 hb3 hs2 HO0 HX0 d0 d1 d2
  go_wp2_with (at_builtin; refine app_bits rfl _ _ rfl (w.heap.size + 1) _ 1 [true] rfl HO1.out _ g3 (2 * kz n + 1) c3 (countBits n) rfl HO3.out (by have := HKZ.out; omega) hsz ?_; intro v4 w4 ho4 hb4)
  obtain ⟨g4, c4, rfl⟩ := shape_of ho4 (by omega)
  have HO4 : Hid (w4.ownsRow (w.heap.size + 1) 4 1 (.slice (some ⟨g4, 0, none⟩) (1 + (2 * kz n + 1)) c4) (1 + (2 * kz n + 1)) (bb ([true] ++ countBits n))) := Lib.hid ho4
  have HX4 : Hid (Below (w.heap.size + 1) W1 w4) := Lib.hid (HX1.out.trans hb4)
  clear ho4 hb4 HO1 HO3 HX1
  generalize hQ : 1 + (2 * kz n + 1) = Q at *
  have HQ := Lib.hid hQ
  clear hQ
  go_wp2_with fail
  go_loopw [4, 5] (fun lv iv wr => ∃ k g c, k ≤ 0 ∧ iv = .int .i64 ((k : Nat) : Int) ∧ lv = .slice (some ⟨g, 0, none⟩) (Q + 8 * k) c ∧ wr.ownsRow (w.heap.size + 1) 4 1 (.slice (some ⟨g, 0, none⟩) (Q + 8 * k) c) (Q + 8 * k) (bb ([true] ++ countBits n ++ bitsZ ([].take k))) ∧ Below (w.heap.size + 1) W1 wr) (fun _ iv _ => 0 - (intOf iv).toNat)
  case atStart => exact ⟨0, g4, c4, Nat.zero_le _, rfl, by rw [Nat.mul_zero, Nat.add_zero], by rw [Nat.mul_zero, Nat.add_zero]; simpa [bitsZ] using HO4.out, HX4.out⟩
  case round =>
    obtain ⟨k, g5, c5, hk, rfl, rfl, ho5, hx5⟩ := hrel
    obtain ⟨j1, j2⟩ := HC.out wr hx5
    have HO5 := Lib.hid ho5
    have HX5 := Lib.hid hx5
    have hsz5 : w.heap.size + 1 ≤ wr.heap.size := by have := HS1.out; have := hx5.size; omega
    have hd5 := HD1.out.below hx5
    clear ho5 hx5 HO4 HX4
    by_cases hlt : k < 0
    · exact absurd hlt (Nat.not_lt_zero _)
    · obtain rfl : k = 0 := by omega
      have ht : [].take 0 = [] := List.take_of_length_le (by rw [HLN.out]; exact Nat.le_refl _)
      rw [ht] at HO5
      have hpl : ([true] ++ countBits n ++ bitsZ []).length = Q + 8 * 0 := by
        rw [List.length_append, List.length_append, countBits_length, bitsZ_len, HLN.out, ← HQ.out]; rfl
      have hQ1 : Q + 8 * 0 ≤ 1048576 := by have := HKZ.out; have := HQ.out; have := HF.out; have := HLN.out; omega
      have hrow := HO5.out
      rw [← hpl] at hrow
      have HRY := Lib.hid (refBytes_any _ _ _ _ hrow (by rw [hpl]; exact hQ1))
      have hpb : [true] ++ countBits n ++ bitsZ [] = pb true n [] := by unfold pb; rw [bit1]
      have HPB := Lib.hid hpb
      rw [hpl] at HRY
      clear hrow hpl ht hd5 hpb
      go_wp2_with fail
      refine HRY.out.mono ?_
      rintro e w8 ⟨v8, rfl, ho8, hb8⟩
      obtain ⟨A8, c8, rfl⟩ := ownsRow_shape ho8
      rw [HPB.out] at ho8
      have hrm := HK.out.room
      have HY8 := Lib.hid (By.own ho8 (pack_byte _))
      have hlen8 := HY8.out.len
      have HX8 : Hid (Below w.heap.size w w8) := Lib.hid (HB1.out.trans ((HX5.out.trans (hb8.mono hsz5)).mono (by omega)))
      have HQ8 : Hid (nb (Q + 8 * 0) + 4 = (play true n []).length) := Lib.hid (by unfold play; rw [frm_len, hlen8])
      have hq8 : nb (Q + 8 * 0) ≤ 1000 := by omega
      clear ho8 hb8 hrm hlen8 HO5 HX5 HRY
      generalize nb (Q + 8 * 0) = N8 at *
      go_wp2_with fail
      refine (refFrame_ok HY8.out (Nat.le_refl _) hq8).mono ?_
      rintro e w9 ⟨g9, c9, rfl, ho9, hb9⟩
      have HO9 := Lib.hid ho9
      have HX9 := Lib.hid (HX8.out.trans (hb9.mono HX8.out.size))
      clear ho9 hb9 HY8
      go_wp2_with fail
      go_ret2
      refine ⟨g9, c9, by rw [← HQ8.out]; rfl, ?_, HX9.out⟩
      have := ownsRow_lower HO9.out HX8.out.size
      rw [← HQ8.out]
      exact this
theorem rlay_ok {B : Nat} {w : World} {h : Bool} {n : Nat} {A : Option Addr} {m c : Nat} {d : List Nat} (hok : Ok h n d) (hd : By B w A m c d) (hB : B ≤ w.heap.size) :
    Calls Tryd.prog 16 #[.agg #[.bool h, .int .u64 (n : Int), .slice A m c]] w (LayTold w (play h n d)) := by
  cases h
  · exact rlay_told hok hd hB
  · obtain rfl := hok.none_ rfl
    obtain rfl : m = 0 := hd.len.symm
    exact rlay_heard hok hd hB
theorem rlay_long {w : World} {h : Bool} {n : Nat} {A : Option Addr} {m c : Nat} (hm : m ≤ 9223372036854775807) (hn : n < 18446744073709551616) (hl : 200 < m ∨ n = 18446744073709551615) :
    Calls Tryd.prog 16 #[.agg #[.bool h, .int .u64 (n : Int), .slice A m c]] w fun e w' => e = .returned (.tuple #[.slice none 0 0, .int .i64 4]) ∧ Below w.heap.size w w' := by
  have HB1 := Lib.hid (box3_below w (.bool h) (.int .u64 (n : Int)) (.slice A m c))
  by_cases h1 : 200 < m
  · have e1 : decide ((200 : Int) < (m : Int)) = true := decide_eq_true (by omega)
    clear hl
    go_enter Tryd.func16, Tryd.ntmps16
    go_wp2_with fail
    go_ret2
    exact ⟨rfl, HB1.out⟩
  · obtain rfl : n = 18446744073709551615 := by omega
    have e1 : decide ((200 : Int) < (m : Int)) = false := decide_eq_false (by omega)
    clear hl
    go_enter Tryd.func16, Tryd.ntmps16
    go_wp2_with fail
    go_ret2
    exact ⟨rfl, HB1.out⟩
theorem rlay_packet {w : World} {n : Nat} {A : Option Addr} {m c : Nat} (hm : 0 < m) (hm2 : m ≤ 200) (hn : n < 18446744073709551615) :
    Calls Tryd.prog 16 #[.agg #[.bool true, .int .u64 (n : Int), .slice A m c]] w fun e w' => e = .returned (.tuple #[.slice none 0 0, .int .i64 140]) ∧ Below w.heap.size w w' := by
  have e1 : decide ((200 : Int) < (m : Int)) = false := decide_eq_false (by omega)
  have e2 : ((n : Int) == 18446744073709551615) = false := by rw [beq_eq_false_iff_ne]; omega
  have HB1 := Lib.hid (box3_below w (.bool true) (.int .u64 (n : Int)) (.slice A m c))
  go_enter Tryd.func16, Tryd.ntmps16
  go_wp2_with fail
  go_ret2
  exact ⟨rfl, HB1.out⟩
theorem rlay_any {B : Nat} {w : World} {h : Bool} {n : Nat} {A : Option Addr} {m c : Nat} {d : List Nat} (hn : n < 18446744073709551616) (hd : By B w A m c d) (hB : B ≤ w.heap.size) :
    Calls Tryd.prog 16 #[.agg #[.bool h, .int .u64 (n : Int), .slice A m c]] w (LayAll (lyE h n d.length) (lyZ h n d) w) := by
  have hln := hd.len
  by_cases he : lyE h n d.length = 0
  · have hok := ly_ok hn hd.byte he
    have e2 : lyZ h n d = play h n d := by unfold lyZ; rw [if_pos he]
    rw [e2, he]
    refine (rlay_ok hok hd hB).mono ?_
    rintro e w' ⟨g, c', rfl, ho, hb⟩
    exact ⟨_, _, rfl, ho, hb⟩
  · have e2 : lyZ h n d = [] := by unfold lyZ; rw [if_neg he]
    rw [e2]
    by_cases h1 : 200 < d.length ∨ n = 18446744073709551615
    · have e3 : lyE h n d.length = 4 := by unfold lyE; rw [if_pos h1]
      rw [e3]
      refine (rlay_long (by have := hd.le; have := hd.max; unfold maxLen at this; omega) hn (by rw [← hln]; exact h1)).mono ?_
      rintro e w' ⟨rfl, hb⟩
      exact ⟨none, 0, rfl, by exact World.ownsRow_nil _ _ _ _, hb⟩
    · by_cases h2 : h = true ∧ 0 < d.length
      · have e3 : lyE h n d.length = 140 := by unfold lyE; rw [if_neg h1, if_pos h2]
        rw [e3]
        obtain ⟨rfl, h3⟩ := h2
        refine (rlay_packet (by omega) (by omega) (by omega)).mono ?_
        rintro e w' ⟨rfl, hb⟩
        exact ⟨none, 0, rfl, by exact World.ownsRow_nil _ _ _ _, hb⟩
      · exact absurd (show lyE h n d.length = 0 by unfold lyE; rw [if_neg h1, if_neg h2]) he
end Ln
end Go.Proofs.YtobpinelhjpfgaaDoor
