/-
  Layer 13: the document's examples; a nil network.
-/
import Derived.Test.YtedhmlggmfgpgaaNwE
import Derived.Lib.SlBytesConst
set_option linter.unusedVariables false
set_option maxRecDepth 100000
namespace Go.Proofs.Ytedhmlggmfgpgaa
namespace Nw
open Go.RowKit Bk

def sa : ByteArray := { data := #[97] }
def sb : ByteArray := { data := #[98] }
theorem one_lit (w : World) (e : TypeId) (u : Value) (fz : Nat × Nat) : Gt 1 (w.alloc (.cells #[u] e fz)).heap.size (w.alloc (.cells #[u] e fz)) (some ⟨w.heap.size, 0, none⟩) 1 1 [u] := by
  refine ⟨rfl, Nat.le_refl _, by unfold maxLen; omega, fun h => (by cases h), fun _ => ⟨w.heap.size, 0, rfl, by simp, fun j hj => ?_⟩⟩
  obtain rfl : j = 0 := by omega
  rw [cell_of_row _ _ _ _ _ _ (heap_alloc_new w _)]
  rfl
theorem lit_a (w : World) : Yb (w.alloc (.cells #[.int .u8 97] 5 (1, 2))).heap.size (w.alloc (.cells #[.int .u8 97] 5 (1, 2))) (some ⟨w.heap.size, 0, none⟩) 1 1 sa := ⟨[97], one_lit w 5 _ _, by rfl⟩
theorem lit_b (w : World) : Yb (w.alloc (.cells #[.int .u8 98] 5 (1, 2))).heap.size (w.alloc (.cells #[.int .u8 98] 5 (1, 2))) (some ⟨w.heap.size, 0, none⟩) 1 1 sb := ⟨[98], one_lit w 5 _ _, by rfl⟩
/-- Bytes of one's own that no network's block holds. -/
theorem Yw.turn {w w' : World} {base : Nat} {v : Value} {s : ByteArray} {F F' : Nat → Prop} (h : Yw w base v s) (ht : Turn F F' w w') (hF : ∀ k, F k → k < base) : Yw w' base v s :=
  h.same fun k hk => ht.block k (h.kind k hk).1 (fun e => by have := hF k e; have := (h.kind k hk).2.1; omega)
theorem NAt.belowT {w w' w0 : World} {base g B : Nat} {v v' : Value} {P P' : List Value} {L : List ByteArray} (h : NAt w base g v P L) (ht : Turn (NF g v P) (NF g v' P') w w') (hb : Below B w0 w) (hB : B ≤ w0.heap.size) (hB2 : B ≤ base) : Below B w0 w' :=
  hb.trans (ht.below B (Nat.le_trans hB hb.size) (fun k hk => Nat.le_trans hB2 (h.blocks k hk).1))
set_option maxHeartbeats 4000000 in
theorem shown13_any (w : World) : Calls Try.prog 8 #[] w fun e w' => e = .returned (.bool true) ∧ Below w.heap.size w w' := by
  have HC := Lib.hid (new_any w)
  have kc := fun (W : World) (C : Array Value) (n c : Nat) => Lib.run_convert_bytes_const (P := Try.prog) W 31 5 C n c Try.underlying31 Try.underlying5
  go_enter Try.func8, Try.ntmps8
  go_wp2_with fail
  refine HC.out.mono ?_
  rintro e w1 ⟨rfl, hn1, hb1⟩
  obtain ⟨g, hg⟩ : ∃ g, g = w.heap.size := ⟨_, rfl⟩
  rw [← hg] at hn1 ⊢
  have hA := (Below.refl w1.heap.size w1).alloc (Nat.le_refl _) (.cells #[.int .u8 97] 5 (1, 2))
  have HN1 := Lib.hid (hn1.later hA)
  have HB1 := Lib.hid (hb1.trans (hA.mono hb1.size))
  have HG : Hid (w.heap.size ≤ g ∧ g ≤ w.heap.size) := Lib.hid ⟨by omega, by omega⟩
  have HY1 := Lib.hid (lit_a w1)
  clear hn1 hb1 hA hg HC
  go_wp2_with fail
  generalize w1.alloc (.cells #[.int .u8 97] 5 (1, 2)) = w2 at *
  generalize w1.heap.size = k1 at *
  have HS := Lib.hid (Send_any HN1.out (Nat.le_of_lt HN1.out.lt) (some ⟨k1, 0, none⟩) 1 1 sa HY1.out (by omega))
  refine HS.out.mono ?_
  rintro e w3 ⟨v3, P3, rfl, hn3, ht3⟩
  have hb3 := HN1.out.belowT ht3 HB1.out (Nat.le_refl _) HG.out.1
  have hA := (Below.refl w3.heap.size w3).alloc (Nat.le_refl _) (.cells #[.int .u8 98] 5 (1, 2))
  have HN3 : Hid (NAt (w3.alloc (.cells #[.int .u8 98] 5 (1, 2))) g g v3 P3 [sa]) := Lib.hid (hn3.later hA)
  have HB3 := Lib.hid (hb3.trans (hA.mono hb3.size))
  have HY3 := Lib.hid (lit_b w3)
  have he : seE [] = 0 := by decide
  rw [he]
  clear hn3 ht3 hb3 hA HS HN1 HB1 HY1 he
  go_wp2_with fail
  generalize w3.alloc (.cells #[.int .u8 98] 5 (1, 2)) = w4 at *
  generalize w3.heap.size = k3 at *
  have HS := Lib.hid (Send_any HN3.out (Nat.le_of_lt HN3.out.lt) (some ⟨k3, 0, none⟩) 1 1 sb HY3.out (by omega))
  refine HS.out.mono ?_
  rintro e w5 ⟨v5, P5, rfl, hn5, ht5⟩
  have HB5 := Lib.hid (HN3.out.belowT ht5 HB3.out (Nat.le_refl _) HG.out.1)
  have HN5 : Hid (NAt w5 g g v5 P5 [sa, sb]) := Lib.hid hn5
  have he : seE [sa] = 0 := by decide
  rw [he]
  clear hn5 ht5 HS HN3 HB3 HY3 he
  go_wp2_with fail
  have HT := Lib.hid (Take_any HN5.out 1 (by omega))
  refine HT.out.mono ?_
  rintro e w6 ⟨A6, c6, v6, P6, rfl, hy6, hn6, ht6, hs6⟩
  have e1 : gtA [sa, sb] 1 = sb := by rfl
  have e2 : isA [sa, sb].length 1 = true := by rfl
  rw [e1, e2]
  rw [e1] at hy6
  have HB6 := Lib.hid (HN5.out.belowT ht6 HB5.out (Nat.le_refl _) HG.out.1)
  have HN6 : Hid (NAt w6 g g v6 P6 [sa]) := Lib.hid hn6
  have HY6 := Lib.hid hy6
  have HF6 : Hid (∀ k, NF g v6 P6 k → k < w5.heap.size) := Lib.hid (fun k hk => (HN5.out.blocks k (hs6 k hk)).2)
  clear hy6 hn6 ht6 hs6 HT HN5 HB5 e1 e2
  go_wp2_with fail
  have HT := Lib.hid (Peek_any HN6.out 0)
  refine HT.out.mono ?_
  rintro e w7 ⟨A7, c7, rfl, hy7, hb7⟩
  have e1 : gtA [sa] 0 = sa := by rfl
  have e2 : isA [sa].length 0 = true := by rfl
  rw [e1, e2]
  rw [e1] at hy7
  have HB7 := Lib.hid (HB6.out.trans (hb7.mono HB6.out.size))
  have HN7 := Lib.hid (HN6.out.later hb7)
  have HY67 := Lib.hid (HY6.out.later hb7)
  have HY7 := Lib.hid hy7
  have HF7 : Hid (∀ k, NF g v6 P6 k → k < w6.heap.size) := Lib.hid (fun k hk => (HN6.out.blocks k hk).2)
  clear hy7 hb7 HT HN6 HB6 HY6 e1 e2
  go_wp2_with fail
  have HT := Lib.hid (Take_any HN7.out 0 (by omega))
  refine HT.out.mono ?_
  rintro e w8 ⟨A8, c8, v8, P8, rfl, hy8, hn8, ht8, hs8⟩
  have e1 : gtA [sa] 0 = sa := by rfl
  have e2 : isA [sa].length 0 = true := by rfl
  rw [e1, e2]
  rw [e1] at hy8
  have HB8 := Lib.hid (HN7.out.belowT ht8 HB7.out (Nat.le_refl _) HG.out.1)
  have HN8 : Hid (NAt w8 g g v8 P8 []) := Lib.hid hn8
  have q6 : (convert 31 9 (.slice A6 1 c6)).run Try.prog w8 = .ok (.string { data := #[98] }) w8 := (HY67.out.turn ht8 HF6.out).yb.conv
  have q7 : (convert 31 9 (.slice A7 1 c7)).run Try.prog w8 = .ok (.string { data := #[97] }) w8 := (HY7.out.turn ht8 HF7.out).yb.conv
  have q8 : (convert 31 9 (.slice A8 1 c8)).run Try.prog w8 = .ok (.string { data := #[97] }) w8 := hy8.yb.conv
  have HL := Lib.hid (Len_any HN8.out)
  clear hy8 hn8 ht8 hs8 HT HN7 HB7 HY67 HY7 e1 e2
  have s1 : sa.size = 1 := by rfl
  have s2 : sb.size = 1 := by rfl
  simp only [s1, s2]
  go_wp2_with fail
  refine HL.out.mono ?_
  rintro e w9 ⟨rfl, rfl⟩
  go_wp2_with fail
  go_ret
  exact ⟨rfl, HB8.out⟩
theorem act3_cells (w : World) (x : Int) (A : Option Addr) (n c : Nat) (i : Int) : (w.alloc (.cells #[.int .u8 x, .slice A n c, .int .i64 i] 33)).cell? ⟨w.heap.size, 0, none⟩ = some (.int .u8 x) ∧ (w.alloc (.cells #[.int .u8 x, .slice A n c, .int .i64 i] 33)).cell? ⟨w.heap.size, 1, none⟩ = some (.slice A n c) ∧ (w.alloc (.cells #[.int .u8 x, .slice A n c, .int .i64 i] 33)).cell? ⟨w.heap.size, 2, none⟩ = some (.int .i64 i) := by
  refine ⟨?_, ?_, ?_⟩ <;> simp [World.cell?_alloc_new]
end Nw
end Go.Proofs.Ytedhmlggmfgpgaa
