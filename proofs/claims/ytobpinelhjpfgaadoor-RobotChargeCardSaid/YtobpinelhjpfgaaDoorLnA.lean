/-
  Layer 14: Lay.
-/
import Derived.Test.YtobpinelhjpfgaaDoorLnPlain
set_option linter.unusedVariables false
set_option maxRecDepth 100000
namespace Go.Proofs.YtobpinelhjpfgaaDoor
namespace Ln
open Go.RowKit Bp Ck
theorem take_bits (d : List Nat) (k : Nat) (h : k < d.length) : bitsZ (d.take (k + 1)) = bitsZ (d.take k) ++ bitsOf (d.getD k 0) 8 := by
  have hg : d.getD k 0 = d[k] := by simp [List.getD, List.getElem?_eq_getElem h]
  rw [hg, List.take_succ_eq_append_getElem h, bitsZ_snoc]
set_option maxHeartbeats 1000000 in
theorem lspread_any {B : Nat} {w0 w : World} {A : Option Addr} {n cap b : Nat} {d : List Nat} {bs : List Bool} (h : Wb w0 B w b bs) (hd : By B w0 A n cap d) (hl : bs.length + 8 * n ≤ 1048576) :
    Calls Tryd.prog 89 #[.slice A n cap, .func (.func 81) #[.pointer (some ⟨b, 0, none⟩)] #[]] w fun e w' => e = .returned (.tuple #[]) ∧ Wb w0 B w' b (bs ++ bitsZ d) := by
  have hle := hd.le
  have hmx := hd.max
  unfold maxLen at hmx
  have HH := Lib.hid h
  have HD := Lib.hid hd
  have HL := Lib.hid hd.len
  clear h hd
  go_enter Tryd.func89, Tryd.ntmps89
  go_wp2
  go_loopw [8] (fun iv wr => ∃ k : Nat, k ≤ n ∧ iv = .int .i64 (k : Int) ∧ Wb w0 B wr b (bs ++ bitsZ (d.take k))) (fun iv _ => n - (intOf iv).toNat)
  case atStart => exact ⟨0, Nat.zero_le _, rfl, by simpa [bitsZ] using HH.out⟩
  case round =>
    obtain ⟨k, hk, rfl, hw⟩ := hrel
    have HW := Lib.hid hw
    clear hw
    by_cases hlt : k < n
    · have hd1 := HD.out.below HW.out.below
      obtain ⟨g, off, rfl, hg, hc⟩ := hd1.cell (by omega)
      have hck := hc k hlt
      have hz := getD_byte d k hd1.byte
      have HS := Lib.hid (take_bits d k (by rw [HL.out]; exact hlt))
      have hln : (bs ++ bitsZ (d.take k)).length + 8 ≤ 1048576 := by rw [List.length_append, bitsZ_len, List.length_take]; omega
      have HLN := Lib.hid hln
      clear hc hd1 hln
      generalize d.getD k 0 = z at *
      go_wp2_with fail
      refine (wb_put b z 8 _ _ w0 _ B _ HW.out (by omega) (by omega) HLN.out rfl rfl).mono ?_
      rintro e w' ⟨rfl, hw2⟩
      have HW2 := Lib.hid hw2
      clear hw2
      go_wp2
      go_roundw
      case rel => exact ⟨k + 1, by omega, by go_num, by rw [HS.out, ← List.append_assoc]; exact HW2.out⟩
      case measure => simp [intOf]; omega
    · obtain rfl : k = n := by omega
      go_wp2
      go_end0
      refine ⟨rfl, ?_⟩
      have := HW.out
      rwa [List.take_of_length_le (by rw [HL.out]; exact Nat.le_refl _)] at this
theorem kind_any (h : Bool) (n : Int) (A : Option Addr) (m c : Nat) (w : World) :
    Calls Tryd.prog 87 #[.agg #[.bool h, .int .u64 n, .slice A m c]] w fun e w' => e = .returned (.int .u64 (if h then 1 else 0)) ∧ ∃ o, w' = w.alloc o := by
  cases h
  · go_enter Tryd.func87, Tryd.ntmps87
    go_wp2
    go_ret
    exact ⟨rfl, _, rfl⟩
  · go_enter Tryd.func87, Tryd.ntmps87
    go_wp2
    go_ret
    exact ⟨rfl, _, rfl⟩
/-- What Lay gives. -/
def LayTold (w : World) (zs : List Nat) (e : Ending) (w' : World) : Prop := ∃ g c, e = .returned (.tuple #[.slice (some ⟨g, 0, none⟩) zs.length c, .int .i64 0]) ∧ w'.ownsRow w.heap.size 5 1 (.slice (some ⟨g, 0, none⟩) zs.length c) zs.length (bc zs) ∧ Below w.heap.size w w'
set_option maxHeartbeats 1000000 in
theorem lay_told {B : Nat} {w : World} {n : Nat} {A : Option Addr} {m c : Nat} {d : List Nat} (hok : Ok false n d) (hd : By B w A m c d) (hB : B ≤ w.heap.size) :
    Calls Tryd.prog 45 #[.agg #[.bool false, .int .u64 (n : Int), .slice A m c]] w (LayTold w (play false n d)) := by
  have hle := hd.le
  have hmx := hd.max
  have hln := hd.len
  have hfew := hok.few
  have hnum := hok.num
  unfold maxLen at hmx
  have e1 : decide ((200 : Int) < (m : Int)) = false := decide_eq_false (by omega)
  have e2 : decide ((18446744073709551614 : Int) < (n : Int)) = false := decide_eq_false (by omega)
  have HK := Lib.hid hok
  have HD := Lib.hid hd
  have HLN := Lib.hid hln
  have hb1 : Below w.heap.size w (w.alloc (.cells #[.bool false, .int .u64 (n : Int), .slice A m c] 48)) := (Below.refl _ _).alloc (Nat.le_refl _) _
  have hs1 : (w.alloc (.cells #[.bool false, .int .u64 (n : Int), .slice A m c] 48)).heap.size = w.heap.size + 1 := by simp
  have HB1 := Lib.hid hb1
  have HS1 := Lib.hid hs1
  have HC : Hid (∀ W, Below (w.heap.size + 1) (w.alloc (.cells #[.bool false, .int .u64 (n : Int), .slice A m c] 48)) W → W.cell? ⟨w.heap.size, 1, none⟩ = some (.int .u64 (n : Int)) ∧ W.cell? ⟨w.heap.size, 2, none⟩ = some (.slice A m c)) := Lib.hid (fun W hW => by
    have k : ∀ j u, (#[Value.bool false, .int .u64 (n : Int), .slice A m c] : Array Value)[j]? = some u → W.cell? ⟨w.heap.size, j, none⟩ = some u := fun j u hu => by
      rw [hW.cell (p := ⟨w.heap.size, j, none⟩) (Nat.lt_succ_self _), cell_of_row _ w.heap.size j _ _ _ (heap_alloc_new w _)]
      exact hu
    exact ⟨k 1 _ rfl, k 2 _ rfl⟩)
  have HD1 : Hid (By (w.heap.size + 1) (w.alloc (.cells #[.bool false, .int .u64 (n : Int), .slice A m c] 48)) A m c d) := Lib.hid ((hd.below (hb1.mono hB)).mono (by omega))
  have hw := (wb_start (w.alloc (.cells #[.bool false, .int .u64 (n : Int), .slice A m c] 48)) (w.alloc (.cells #[.bool false, .int .u64 (n : Int), .slice A m c] 48)) (Below.refl _ _))
  rw [hs1] at hw
  have HW := Lib.hid hw
  have HKZ := Lib.hid hok.kz
  have HN := Lib.hid hnum
  have HF := Lib.hid hfew
  clear hok hd hln hfew hnum hb1 hs1 hw
  go_enter Tryd.func45, Tryd.ntmps45
  go_wp2_with fail
  refine (newWriter_any _).mono ?_
  rintro e w1 ⟨rfl, rfl⟩
  go_wp2_with fail
  refine (kind_any false _ _ _ _ _).mono ?_
  rintro e w2 ⟨rfl, o2, rfl⟩
  have HW2 := Lib.hid (HW.out.alloc o2)
  clear HW
  go_wp2_with fail
  refine (wb_put _ 0 1 _ 1 _ _ _ _ HW2.out (by decide) (by decide) (by decide) (by rfl) (by rfl)).mono ?_
  rintro e w3 ⟨rfl, hw3⟩
  obtain ⟨k1, k2⟩ := HC.out w3 hw3.below
  have HW3 := Lib.hid hw3
  clear hw3 HW2
  go_wp2_with fail
  refine (wb_count _ n _ _ _ _ _ HW3.out HN.out (by rw [List.nil_append, bitsOf_length]; have := HKZ.out; omega) rfl).mono ?_
  rintro e w4 ⟨rfl, hw4⟩
  obtain ⟨j1, j2⟩ := HC.out w4 hw4.below
  have HW4 := Lib.hid hw4
  clear hw4 HW3 k1 k2
  go_wp2_with fail
  refine (lspread_any HW4.out HD1.out (by rw [List.nil_append, List.length_append, bitsOf_length, countBits_length]; have := HKZ.out; have := HF.out; have := HLN.out; omega)).mono ?_
  rintro e w5 ⟨rfl, hw5⟩
  have HW5 := Lib.hid hw5
  clear hw5 HW4 j1 j2 HC
  go_wp2_with fail
  refine (wb_out _ _ _ _ _ HW5.out).mono ?_
  rintro e w6 ⟨oa, oc, rfl, ho, hw6⟩
  have hln : (pack (pb false n d)).length = nb ((([] ++ bitsOf 0 1) ++ countBits n ++ bitsZ d)).length := by rw [pack_length]; rfl
  have ho' : w6.ownsRow (w.heap.size + 1) 5 1 (.slice oa (nb ((([] ++ bitsOf 0 1) ++ countBits n ++ bitsZ d)).length) oc) (nb ((([] ++ bitsOf 0 1) ++ countBits n ++ bitsZ d)).length) (bc (pack (pb false n d))) := ownsRow_lower ho HW5.out.size
  have HY : Hid (By w6.heap.size w6 oa (nb ((([] ++ bitsOf 0 1) ++ countBits n ++ bitsZ d)).length) oc (pack (pb false n d))) := Lib.hid (By.own ho' (pack_byte _))
  have hrm := HK.out.room
  have HR : Hid (nb ((([] ++ bitsOf 0 1) ++ countBits n ++ bitsZ d)).length ≤ 1000) := Lib.hid (by rw [← hln]; omega)
  have HB6 : Hid (Below w.heap.size w w6) := Lib.hid (HB1.out.trans (hw6.below.mono (Nat.le_succ _)))
  have HQ : Hid (nb ((([] ++ bitsOf 0 1) ++ countBits n ++ bitsZ d)).length + 4 = (play false n d).length) := Lib.hid (by unfold play; rw [frm_len, hln])
  clear ho hw6 ho' hln hrm HW5
  generalize nb ((([] ++ bitsOf 0 1) ++ countBits n ++ bitsZ d)).length = N at *
  go_wp2_with fail
  refine (frame_ok HY.out (Nat.le_refl _) HR.out).mono ?_
  rintro e w7 ⟨g7, c7, rfl, ho7, hb7⟩
  have HO7 := Lib.hid ho7
  have HB7 := Lib.hid (HB6.out.trans (hb7.mono HB6.out.size))
  clear ho7 hb7
  go_wp2_with fail
  go_ret2
  refine ⟨g7, c7, by rw [← HQ.out]; rfl, ?_, HB7.out⟩
  have := ownsRow_lower HO7.out HB6.out.size
  rw [← HQ.out]
  exact this
set_option maxHeartbeats 1000000 in
theorem lay_heard {B : Nat} {w : World} {n : Nat} {A : Option Addr} {c : Nat} (hok : Ok true n []) (hd : By B w A 0 c []) (hB : B ≤ w.heap.size) :
    Calls Tryd.prog 45 #[.agg #[.bool true, .int .u64 (n : Int), .slice A 0 c]] w (LayTold w (play true n [])) := by
  have hle := hd.le
  have hmx := hd.max
  have hln := hd.len
  have hfew := hok.few
  have hnum := hok.num
  unfold maxLen at hmx
  have e2 : decide ((18446744073709551614 : Int) < (n : Int)) = false := decide_eq_false (by omega)
  have HK := Lib.hid hok
  have HD := Lib.hid hd
  have HLN := Lib.hid hln
  have hb1 : Below w.heap.size w (w.alloc (.cells #[.bool true, .int .u64 (n : Int), .slice A 0 c] 48)) := (Below.refl _ _).alloc (Nat.le_refl _) _
  have hs1 : (w.alloc (.cells #[.bool true, .int .u64 (n : Int), .slice A 0 c] 48)).heap.size = w.heap.size + 1 := by simp
  have HB1 := Lib.hid hb1
  have HS1 := Lib.hid hs1
  have HC : Hid (∀ W, Below (w.heap.size + 1) (w.alloc (.cells #[.bool true, .int .u64 (n : Int), .slice A 0 c] 48)) W → W.cell? ⟨w.heap.size, 1, none⟩ = some (.int .u64 (n : Int)) ∧ W.cell? ⟨w.heap.size, 2, none⟩ = some (.slice A 0 c)) := Lib.hid (fun W hW => by
    have k : ∀ j u, (#[Value.bool true, .int .u64 (n : Int), .slice A 0 c] : Array Value)[j]? = some u → W.cell? ⟨w.heap.size, j, none⟩ = some u := fun j u hu => by
      rw [hW.cell (p := ⟨w.heap.size, j, none⟩) (Nat.lt_succ_self _), cell_of_row _ w.heap.size j _ _ _ (heap_alloc_new w _)]
      exact hu
    exact ⟨k 1 _ rfl, k 2 _ rfl⟩)
  have HD1 : Hid (By (w.heap.size + 1) (w.alloc (.cells #[.bool true, .int .u64 (n : Int), .slice A 0 c] 48)) A 0 c []) := Lib.hid ((hd.below (hb1.mono hB)).mono (by omega))
  have hw := (wb_start (w.alloc (.cells #[.bool true, .int .u64 (n : Int), .slice A 0 c] 48)) (w.alloc (.cells #[.bool true, .int .u64 (n : Int), .slice A 0 c] 48)) (Below.refl _ _))
  rw [hs1] at hw
  have HW := Lib.hid hw
  have HKZ := Lib.hid hok.kz
  have HN := Lib.hid hnum
  have HF := Lib.hid hfew
  clear hok hd hln hfew hnum hb1 hs1 hw
  go_enter Tryd.func45, Tryd.ntmps45
  go_wp2_with fail
  refine (newWriter_any _).mono ?_
  rintro e w1 ⟨rfl, rfl⟩
  go_wp2_with fail
  refine (kind_any true _ _ _ _ _).mono ?_
  rintro e w2 ⟨rfl, o2, rfl⟩
  have HW2 := Lib.hid (HW.out.alloc o2)
  clear HW
  go_wp2_with fail
  refine (wb_put _ 1 1 _ 1 _ _ _ _ HW2.out (by decide) (by decide) (by decide) (by rfl) (by rfl)).mono ?_
  rintro e w3 ⟨rfl, hw3⟩
  obtain ⟨k1, k2⟩ := HC.out w3 hw3.below
  have HW3 := Lib.hid hw3
  clear hw3 HW2
  go_wp2_with fail
  refine (wb_count _ n _ _ _ _ _ HW3.out HN.out (by rw [List.nil_append, bitsOf_length]; have := HKZ.out; omega) rfl).mono ?_
  rintro e w4 ⟨rfl, hw4⟩
  obtain ⟨j1, j2⟩ := HC.out w4 hw4.below
  have HW4 := Lib.hid hw4
  clear hw4 HW3 k1 k2
  go_wp2_with fail
  refine (lspread_any HW4.out HD1.out (by rw [List.nil_append, List.length_append, bitsOf_length, countBits_length]; have := HKZ.out; have := HF.out; have := HLN.out; omega)).mono ?_
  rintro e w5 ⟨rfl, hw5⟩
  have HW5 := Lib.hid hw5
  clear hw5 HW4 j1 j2 HC
  go_wp2_with fail
  refine (wb_out _ _ _ _ _ HW5.out).mono ?_
  rintro e w6 ⟨oa, oc, rfl, ho, hw6⟩
  have hln : (pack (pb true n [])).length = nb ((([] ++ bitsOf 1 1) ++ countBits n ++ bitsZ [])).length := by rw [pack_length]; rfl
  have ho' : w6.ownsRow (w.heap.size + 1) 5 1 (.slice oa (nb ((([] ++ bitsOf 1 1) ++ countBits n ++ bitsZ [])).length) oc) (nb ((([] ++ bitsOf 1 1) ++ countBits n ++ bitsZ [])).length) (bc (pack (pb true n []))) := ownsRow_lower ho HW5.out.size
  have HY : Hid (By w6.heap.size w6 oa (nb ((([] ++ bitsOf 1 1) ++ countBits n ++ bitsZ [])).length) oc (pack (pb true n []))) := Lib.hid (By.own ho' (pack_byte _))
  have hrm := HK.out.room
  have HR : Hid (nb ((([] ++ bitsOf 1 1) ++ countBits n ++ bitsZ [])).length ≤ 1000) := Lib.hid (by rw [← hln]; omega)
  have HB6 : Hid (Below w.heap.size w w6) := Lib.hid (HB1.out.trans (hw6.below.mono (Nat.le_succ _)))
  have HQ : Hid (nb ((([] ++ bitsOf 1 1) ++ countBits n ++ bitsZ [])).length + 4 = (play true n []).length) := Lib.hid (by unfold play; rw [frm_len, hln])
  clear ho hw6 ho' hln hrm HW5
  generalize nb ((([] ++ bitsOf 1 1) ++ countBits n ++ bitsZ [])).length = N at *
  go_wp2_with fail
  refine (frame_ok HY.out (Nat.le_refl _) HR.out).mono ?_
  rintro e w7 ⟨g7, c7, rfl, ho7, hb7⟩
  have HO7 := Lib.hid ho7
  have HB7 := Lib.hid (HB6.out.trans (hb7.mono HB6.out.size))
  clear ho7 hb7
  go_wp2_with fail
  go_ret2
  refine ⟨g7, c7, by rw [← HQ.out]; rfl, ?_, HB7.out⟩
  have := ownsRow_lower HO7.out HB6.out.size
  rw [← HQ.out]
  exact this
theorem lay_ok {B : Nat} {w : World} {h : Bool} {n : Nat} {A : Option Addr} {m c : Nat} {d : List Nat} (hok : Ok h n d) (hd : By B w A m c d) (hB : B ≤ w.heap.size) :
    Calls Tryd.prog 45 #[.agg #[.bool h, .int .u64 (n : Int), .slice A m c]] w (LayTold w (play h n d)) := by
  cases h
  · exact lay_told hok hd hB
  · obtain rfl := hok.none_ rfl
    obtain rfl : m = 0 := hd.len.symm
    exact lay_heard hok hd hB
/-- What is refused. -/
theorem lay_long {w : World} {h : Bool} {n : Nat} {A : Option Addr} {m c : Nat} (hm : m ≤ 9223372036854775807) (hn : n < 18446744073709551616) (hl : 200 < m ∨ n = 18446744073709551615) :
    Calls Tryd.prog 45 #[.agg #[.bool h, .int .u64 (n : Int), .slice A m c]] w fun e w' => e = .returned (.tuple #[.slice none 0 0, .int .i64 4]) ∧ Below w.heap.size w w' := by
  by_cases h1 : 200 < m
  · have e1 : decide ((200 : Int) < (m : Int)) = true := decide_eq_true (by omega)
    have hb1 : Below w.heap.size w (w.alloc (.cells #[.bool h, .int .u64 (n : Int), .slice A m c] 48)) := (Below.refl _ _).alloc (Nat.le_refl _) _
    have HB1 := Lib.hid hb1
    clear hb1 hl
    go_enter Tryd.func45, Tryd.ntmps45
    go_wp2_with fail
    go_ret2
    exact ⟨rfl, HB1.out⟩
  · obtain rfl : n = 18446744073709551615 := by omega
    have e1 : decide ((200 : Int) < (m : Int)) = false := decide_eq_false (by omega)
    have hb1 : Below w.heap.size w (w.alloc (.cells #[.bool h, .int .u64 ((18446744073709551615 : Nat) : Int), .slice A m c] 48)) := (Below.refl _ _).alloc (Nat.le_refl _) _
    have HB1 := Lib.hid hb1
    clear hb1 hl
    go_enter Tryd.func45, Tryd.ntmps45
    go_wp2_with fail
    go_ret2
    exact ⟨rfl, HB1.out⟩
theorem lay_packet {w : World} {n : Nat} {A : Option Addr} {m c : Nat} (hm : 0 < m) (hm2 : m ≤ 200) (hn : n < 18446744073709551615) :
    Calls Tryd.prog 45 #[.agg #[.bool true, .int .u64 (n : Int), .slice A m c]] w fun e w' => e = .returned (.tuple #[.slice none 0 0, .int .i64 140]) ∧ Below w.heap.size w w' := by
  have e1 : decide ((200 : Int) < (m : Int)) = false := decide_eq_false (by omega)
  have e2 : decide ((18446744073709551614 : Int) < (n : Int)) = false := decide_eq_false (by omega)
  have hb1 : Below w.heap.size w (w.alloc (.cells #[.bool true, .int .u64 (n : Int), .slice A m c] 48)) := (Below.refl _ _).alloc (Nat.le_refl _) _
  have HB1 := Lib.hid hb1
  clear hb1
  go_enter Tryd.func45, Tryd.ntmps45
  go_wp2_with fail
  go_ret2
  exact ⟨rfl, HB1.out⟩
end Ln
end Go.Proofs.YtobpinelhjpfgaaDoor
