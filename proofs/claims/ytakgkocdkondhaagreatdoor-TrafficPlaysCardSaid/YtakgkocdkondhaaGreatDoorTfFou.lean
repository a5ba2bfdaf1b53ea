/-
  Layer 11: of the laws: goes, floors, few; what the example is.
  Layer 11: the example.
-/
import Derived.Test.YtakgkocdkondhaaGreatDoorTfThr
import Derived.Test.YtakgkocdkondhaaGreatDoorTrOne
import Derived.Test.YtakgkocdkondhaaGreatDoorTrNo
set_option linter.unusedVariables false
set_option maxRecDepth 100000
section
namespace Go.Proofs.YtakgkocdkondhaaGreatDoor
namespace Tf
open Go.RowKit Fl Tr Pt
open Bk (Gt Lt Iw ivs Cm hold need Rg SafC MayP Goes own_lower own_later ord gv ord_none)
open Lk (Ow Rb Zo at9 zns Tb T0 LkAt Only)

/-! ### goes -/
def goesL (L : List Int) : List Ac := L.map fun c => (1, c, 0)
theorem goesL_take (L : List Int) (i : Nat) (h : i < L.length) : goesL (L.take (i + 1)) = goesL (L.take i) ++ [(1, L.getD i 0, 0)] := by
  unfold goesL
  rw [take_snoc L i 0 h, List.map_append]; rfl
def ToldActs (L : List Ac) (w : World) (e : Ending) (w' : World) : Prop := ∃ A n c, e = .returned (.slice A n c) ∧ n = L.length ∧ Aw w' w.heap.size (.slice A n c) L ∧ Below w.heap.size w w'
set_option maxHeartbeats 2000000 in
theorem goes11_any (A : Option Addr) (n c : Nat) (L : List Int) (w : World) (h : Lt w.heap.size w A n c L) (hn : n ≤ 1000) : Calls Tryz.prog 40 #[.slice A n c] w (ToldActs (goesL L) w) := by
  have HL := Lib.hid h
  have HN : Hid (L.length = n) := Lib.hid (Bk.Lt.len h)
  obtain ⟨hc1, hc2⟩ := Bk.Gt.size h
  clear h
  go_enter Tryz.func40, Tryz.ntmps40
  go_wp2_with fail
  go_loopw [3, 8] (fun v iv wr => ∃ (j : Nat) (A2 : Option Addr) (n2 c2 : Nat), j ≤ n ∧ v = .slice A2 n2 c2 ∧ iv = .int .i64 (j : Int) ∧ Hid (n2 = (goesL (L.take j)).length ∧ Aw wr w.heap.size (.slice A2 n2 c2) (goesL (L.take j)) ∧ Below w.heap.size w wr)) (fun _ iv _ => n - (intOf iv).toNat)
  case atStart => exact ⟨0, none, 0, 0, by omega, rfl, rfl, Lib.hid ⟨rfl, Aw.nil _ _, Below.refl _ _⟩⟩
  case round =>
    rename World => wr
    obtain ⟨j, A2, n2, c2, hj, rfl, rfl, HI⟩ := hrel
    by_cases hlt : j < n
    · obtain ⟨g, off, rfl, hg, k0⟩ := Bk.Lt.cell (Bk.Gt.below HL.out HI.out.2.2) hlt
      have hjI : (j : Int) < (n : Int) := by omega
      have hg2 : g < wr.heap.size := Nat.lt_of_lt_of_le hg HI.out.2.2.size
      have HS := Lib.hid (goesL_take L j (by rw [HN.out]; exact hlt))
      have HTL : Hid ((goesL (L.take j)).length ≤ j) := Lib.hid (by unfold goesL; rw [List.length_map]; exact List.length_take_le _ _)
      generalize L.getD j 0 = y at *
      have hB := (Below.refl wr.heap.size wr).alloc (Nat.le_refl _) (.cells #[.int .u8 1, .int .i64 y, .int .i64 0] 39)
      have HO := Lib.hid (HI.out.2.1.later hB)
      have HA := Lib.hid (Al.one wr (1, y, 0))
      have HBB := Lib.hid (HI.out.2.2.trans (hB.mono HI.out.2.2.size))
      have hle := Nat.le_trans HI.out.2.2.size hB.size
      have HLE := Lib.hid hle
      clear hB hle
      go_wp2_with (at_builtin; refine app_acts rfl _ _ rfl w.heap.size _ _ rfl HO.out (some ⟨wr.heap.size, 0, none⟩) 1 1 [(1, y, 0)] rfl HA.out (by have := HTL.out; omega) HLE.out ?_; intro A5 n5 c5 w5 hn5 ho5 hb5 _ _; have HK5 := Lib.hid (And.intro hn5 (And.intro ho5 (HBB.out.trans hb5))); clear hn5 ho5 hb5)
      go_roundw
      case rel => exact ⟨j + 1, A5, n5, c5, by omega, rfl, by go_num, by rw [HS.out]; exact HK5⟩
      case measure => simp [intOf]; omega
    · obtain rfl : j = n := by omega
      have hT : L.take j = L := List.take_of_length_le (by rw [HN.out]; exact Nat.le_refl _)
      rw [hT] at HI
      go_wp2_with fail
      go_ret
      exact ⟨A2, n2, c2, rfl, HI.out.1, HI.out.2.1, HI.out.2.2⟩

/-! ### The other floor -/
def s11 : ByteArray := ⟨#[48, 97, 97, 98, 49, 10, 35, 99, 35, 100, 35, 10, 50, 101, 101, 102, 102, 10]⟩
def c11 : ByteArray := ⟨#[48, 97, 97, 98, 49, 35, 99, 35, 100, 35, 50, 101, 101, 102, 102]⟩
theorem rows11 : rowsL s11.data.toList = [[48, 97, 97, 98, 49], [35, 99, 35, 100, 35], [50, 101, 101, 102, 102]] := by decide
theorem right11 : Right 5 3 c11 := by
  refine ⟨5, 3, rfl, rfl, ⟨by decide, by decide, by decide, by decide, rfl⟩, ⟨by decide, ⟨by decide, by decide, ?_, ?_⟩, ⟨1, [2, 3, 6, 8, 11, 12, 13, 14], by decide, ?_⟩⟩⟩
  · intro r hr
    have h1 : (docks 5 3 (at_ c11)).length = 3 := by decide
    have : r = 0 ∨ r = 1 ∨ r = 2 := by omega
    rcases this with rfl | rfl | rfl <;> decide
  · intro d hd
    have h1 : docks 5 3 (at_ c11) = [0, 4, 10] := by decide
    rw [h1] at hd
    simp only [List.mem_cons, List.not_mem_nil, or_false] at hd
    rcases hd with rfl | rfl | rfl
    · exact ⟨1, by decide, by decide⟩
    · exact ⟨3, by decide, by decide⟩
    · exact ⟨11, by decide, by decide⟩
  · have r1 : Rch 5 3 (at_ c11) 1 1 := Rch.refl _ _ _ 1
    have r2 := r1.step (c := 2) (by decide) (by decide)
    have r3 := r2.step (c := 3) (by decide) (by decide)
    have r6 := r1.step (c := 6) (by decide) (by decide)
    have r8 := r3.step (c := 8) (by decide) (by decide)
    have r11 := r6.step (c := 11) (by decide) (by decide)
    have r12 := r11.step (c := 12) (by decide) (by decide)
    have r13 := r12.step (c := 13) (by decide) (by decide)
    have r14 := r13.step (c := 14) (by decide) (by decide)
    intro l hl
    simp only [List.mem_cons, List.not_mem_nil, or_false] at hl
    rcases hl with rfl | rfl | rfl | rfl | rfl | rfl | rfl | rfl | rfl <;> assumption
theorem out11 {W H : Int} {c : ByteArray} {row : Nat} {err : Int} (h : POut (rowsL s11.data.toList) W H c row err) : W = 5 ∧ H = 3 ∧ c = c11 ∧ row = 0 ∧ err = 0 := by
  rw [rows11] at h
  refine POut.one h (.inr (.inl ⟨?_, right11, rfl, rfl, rfl, rfl, rfl⟩))
  intro j hj
  have : j = 0 ∨ j = 1 ∨ j = 2 := by simp at hj; omega
  rcases this with rfl | rfl | rfl <;> decide
/-- A floor's box. -/
def Fb (b : Nat) (W H : Int) (s : ByteArray) (w : World) : Prop := w.heap[b]? = some (.cells #[.int .i64 W, .int .i64 H, .string s] 25 (0, 0))
theorem Fb.cells {b : Nat} {W H : Int} {s : ByteArray} {w : World} (h : Fb b W H s w) : w.cell? ⟨b, 0, none⟩ = some (.int .i64 W) ∧ w.cell? ⟨b, 1, none⟩ = some (.int .i64 H) ∧ w.cell? ⟨b, 2, none⟩ = some (.string s) ∧ b < w.heap.size ∧ w.frozen? ⟨b, 0, none⟩ = false ∧ w.frozen? ⟨b, 1, none⟩ = false ∧ w.frozen? ⟨b, 2, none⟩ = false :=
  ⟨by rw [cell_of_row w b 0 _ _ _ h]; rfl, by rw [cell_of_row w b 1 _ _ _ h]; rfl, by rw [cell_of_row w b 2 _ _ _ h]; rfl, lt_of_heap h, frozen_of_row w b 0 _ _ h, frozen_of_row w b 1 _ _ h, frozen_of_row w b 2 _ _ h⟩
theorem Fb.new (w : World) (W H : Int) (s : ByteArray) : Fb w.heap.size W H s (w.alloc (.cells #[.int .i64 W, .int .i64 H, .string s] 25)) := heap_alloc_new w _
theorem Fb.later {b : Nat} {W H : Int} {s : ByteArray} {w w' : World} (h : Fb b W H s w) (hb : Below w.heap.size w w') : Fb b W H s w' := (hb.block b (lt_of_heap h)).trans h
theorem Fb.put {b : Nat} {W H : Int} {s : ByteArray} {w : World} (h : Fb b W H s w) (W' H' : Int) (s' : ByteArray) : Fb b W' H' s' (((w.setCell ⟨b, 0, none⟩ (.int .i64 W')).setCell ⟨b, 1, none⟩ (.int .i64 H')).setCell ⟨b, 2, none⟩ (.string s')) := by
  have k1 := heap_setCell_same w b 0 _ _ (.int .i64 W') h
  have k2 := heap_setCell_same _ b 1 _ _ (.int .i64 H') k1
  have k3 := heap_setCell_same _ b 2 _ _ (.string s') k2
  exact k3
theorem Fb.other {b b' : Nat} {W H : Int} {s : ByteArray} {w : World} (h : Fb b W H s w) (hne : b ≠ b') (u v x : Value) : Fb b W H s (((w.setCell ⟨b', 0, none⟩ u).setCell ⟨b', 1, none⟩ v).setCell ⟨b', 2, none⟩ x) := by
  unfold Fb
  rw [heap_setCell_other _ ⟨b', 2, none⟩ b _ hne, heap_setCell_other _ ⟨b', 1, none⟩ b _ hne, heap_setCell_other _ ⟨b', 0, none⟩ b _ hne]
  exact h
theorem below3 {B b : Nat} {w0 w : World} (h : Below B w0 w) (hb : B ≤ b) (u v x : Value) : Below B w0 (((w.setCell ⟨b, 0, none⟩ u).setCell ⟨b, 1, none⟩ v).setCell ⟨b, 2, none⟩ x) := ((h.setCell (p := ⟨b, 0, none⟩) hb u).setCell (p := ⟨b, 1, none⟩) hb v).setCell (p := ⟨b, 2, none⟩) hb x
def FlrTold (w : World) (e : Ending) (w' : World) : Prop := ∃ (W H : Int) (s : ByteArray), e = .returned (.agg #[.int .i64 W, .int .i64 H, .string s]) ∧ Right W H s ∧ Below w.heap.size w w'
theorem pout_ok {R : List (List UInt8)} {W H : Int} {c : ByteArray} {row : Nat} {err : Int} (h : POut R W H c row err) : (err = 0 ∧ Right W H c) ∨ err = 30 := by
  rcases h with ⟨_, _, _, _, _, _, e⟩ | ⟨_, h, rfl, rfl, rfl, _, e⟩ | ⟨_, _, _, _, _, _, e⟩
  · exact .inr e
  · exact .inl ⟨e, h⟩
  · exact .inr e
set_option maxHeartbeats 2000000 in
theorem floors11_any (t : ByteArray) (ht : t.size ≤ maxLen) (w : World) : Calls Tryz.prog 11 #[.string t] w (FlrTold w) := by
  have HPA := Lib.hid (fun s hs wx => parse_any s hs wx)
  have HPB := Lib.hid (fun wx => parse_any s11 (by decide) wx)
  rw [show s11 = ⟨#[48, 97, 97, 98, 49, 10, 35, 99, 35, 100, 35, 10, 50, 101, 101, 102, 102, 10]⟩ from rfl] at HPB
  unfold maxLen at ht
  go_enter Tryz.func11, Tryz.ntmps11
  go_wp2_with fail
  have hFa := Fb.new w 0 0 ⟨#[]⟩
  have hBa := (Below.refl w.heap.size w).alloc (Nat.le_refl _) (.cells #[.int .i64 0, .int .i64 0, .string ⟨#[]⟩] 25)
  generalize hwa : w.alloc (.cells #[.int .i64 0, .int .i64 0, .string ⟨#[]⟩] 25) = wa at *
  clear hwa
  obtain ⟨b0, hb0⟩ : ∃ b0, b0 = w.heap.size := ⟨_, rfl⟩
  rw [← hb0] at hFa ⊢
  have HB0 : Hid (w.heap.size ≤ b0) := Lib.hid (Nat.le_of_eq hb0.symm)
  clear hb0
  refine (HPA.out _ (by rw [ByteArray.size_extract]; omega) _).mono ?_
  rintro e w1 ⟨W, H, c, row, err, rfl, ho, hb1⟩
  have HF1 := Lib.hid (hFa.later hb1)
  have HB1 := Lib.hid (hBa.trans (hb1.mono hBa.size))
  have hB2 := (Below.refl w1.heap.size w1).alloc (Nat.le_refl _) (.cells #[.int .i64 W, .int .i64 H, .string c] 25)
  have HF2 := Lib.hid (HF1.out.later hB2)
  have HG2 := Lib.hid (Fb.new w1 W H c)
  have HB2 := Lib.hid (HB1.out.trans (hB2.mono HB1.out.size))
  have HNE : Hid (w1.heap.size ≠ b0) := Lib.hid (Nat.ne_of_gt (lt_of_heap HF1.out))
  have HGE : Hid (w.heap.size ≤ w1.heap.size) := Lib.hid HB1.out.size
  clear hFa hBa hb1 hB2
  obtain ⟨z0, z1, z2, z3, z4, z5, z6⟩ := HF2.out.cells
  obtain ⟨y0, y1, y2, y3, y4, y5, y6⟩ := HG2.out.cells
  rcases pout_ok ho with ⟨rfl, hR⟩ | rfl
  · have HR := Lib.hid hR
    clear ho hR
    have HZ := Lib.hid (HF2.out.put W H c)
    have HBZ := Lib.hid (below3 HB2.out HB0.out (.int .i64 W) (.int .i64 H) (.string c))
    go_upto_region 2 with (fail)
    generalize w1.alloc (.cells #[.int .i64 W, .int .i64 H, .string c] 25) = w2 at *
    go_wp2_with fail
    obtain ⟨q0, q1, q2, _⟩ := HZ.out.cells
    exact bodyPost_ret (v := .agg #[.int .i64 W, .int .i64 H, .string c]) (by simp [results, Tryz.results11, go_sem, q0, q1, q2]) rfl ⟨W, H, c, rfl, HR.out, HBZ.out⟩
  · clear ho
    go_upto_region 2 with (fail)
    generalize w1.alloc (.cells #[.int .i64 W, .int .i64 H, .string c] 25) = w2 at *
    go_wp2_with fail
    refine (HPB.out _).mono ?_
    rintro e w3 ⟨W3, H3, c3, row3, err3, rfl, ho3, hb3⟩
    obtain ⟨rfl, rfl, rfl, rfl, rfl⟩ := out11 ho3
    have HF3 := Lib.hid (HF2.out.later hb3)
    have HG3 := Lib.hid (HG2.out.later hb3)
    have HB3 := Lib.hid (HB2.out.trans (hb3.mono HB2.out.size))
    clear ho3 hb3 z0 z1 z2 z3 z4 z5 z6 y0 y1 y2 y3 y4 y5 y6
    obtain ⟨y0, y1, y2, y3, y4, y5, y6⟩ := HG3.out.cells
    have HG4 := Lib.hid (HG3.out.put 5 3 c11)
    have HF4 := Lib.hid (HF3.out.other HNE.out.symm (.int .i64 5) (.int .i64 3) (.string c11))
    have HB4 := Lib.hid (below3 HB3.out HGE.out (.int .i64 5) (.int .i64 3) (.string c11))
    obtain ⟨z0, z1, z2, z3, z4, z5, z6⟩ := HF4.out.cells
    obtain ⟨x0, x1, x2, x3, _⟩ := HG4.out.cells
    have HZ := Lib.hid (HF4.out.put 5 3 c11)
    have HBZ := Lib.hid (below3 HB4.out HB0.out (.int .i64 5) (.int .i64 3) (.string c11))
    go_upto_region 4 with (fail)
    generalize ((w3.setCell ⟨w1.heap.size, 0, none⟩ (.int .i64 5)).setCell ⟨w1.heap.size, 1, none⟩ (.int .i64 3)).setCell ⟨w1.heap.size, 2, none⟩ (.string c11) = w4 at *
    clear y0 y1 y2 y3 y4 y5 y6
    go_wp2_with fail
    obtain ⟨q0, q1, q2, _⟩ := HZ.out.cells
    exact bodyPost_ret (v := .agg #[.int .i64 5, .int .i64 3, .string c11]) (by simp [results, Tryz.results11, go_sem, q0, q1, q2]) rfl ⟨5, 3, c11, rfl, right11, HBZ.out⟩
end Tf
end Go.Proofs.YtakgkocdkondhaaGreatDoor
end

section
namespace Go.Proofs.YtakgkocdkondhaaGreatDoor
namespace Tf
open Go.RowKit Fl Tr Pt
open Bk (Gt Lt Iw ivs Cm hold need Rg SafC MayP Goes own_lower own_later ord gv ord_none)
open Lk (Ow Rb Zo at9 zns Tb T0 LkAt Only)

theorem startF_ok {W H : Int} {s : ByteArray} {R : List Mv} {k : Nat} {L : List Ac} (hk : k < R.length) (hl : (getM R k).2.1 = []) (hr : RightIs W H s (k : Int) (dk s (k : Int)) L) : startF W H s R (k : Int) L = (0, R.set k ((getM R k).1, L, (getM R k).2.2)) := by
  unfold startF
  rw [if_pos ⟨by omega, by omega⟩, if_pos hr, Int.toNat_natCast, if_neg (by rw [hl]; simp)]
def L0 : List Ac := goesL [1, 2, 3, 2, 1, 0]
def L1 : List Ac := goesL [3, 2, 3, 4]
theorem n10 : (pick isD (at_ c10) c10.size).length = 2 := by decide
theorem dock10 : docked c10 2 = [(0, [], false), (4, [], false)] := by decide +kernel
theorem rgt0 : RightIs 5 1 c10 ((0 : Nat) : Int) (dk c10 ((0 : Nat) : Int)) L0 := ⟨0, ⟨right10, by decide, by decide⟩, ⟨by decide, by decide, fun j hj => by omega⟩, .inl (by decide +kernel), by decide, by decide +kernel⟩
theorem rgt1 : RightIs 5 1 c10 ((1 : Nat) : Int) (dk c10 ((1 : Nat) : Int)) L1 := ⟨4, ⟨right10, by decide, by decide⟩, ⟨by decide, by decide, by decide⟩, .inl (by decide +kernel), by decide, by decide +kernel⟩
theorem st0 : startF 5 1 c10 (docked c10 2) ((0 : Nat) : Int) L0 = (0, [(0, L0, false), (4, [], false)]) := by
  rw [startF_ok (by rw [docked_len]; decide) (by rw [docked_get c10 (by decide)]) rgt0, dock10]
  rfl
theorem st1 : startF 5 1 c10 [(0, L0, false), (4, [], false)] ((1 : Nat) : Int) L1 = (0, [(0, L0, false), (4, L1, false)]) := by
  rw [startF_ok (by decide) rfl rgt1]
  rfl
theorem inv2 : Inv 5 1 c10 [(0, L0, false), (4, L1, false)] T0 := by
  have h0 := docked_inv right10
  rw [n10] at h0
  have h1 := h0.startF ((0 : Nat) : Int) L0
  rw [st0] at h1
  have h2 := h1.startF ((1 : Nat) : Int) L1
  rw [st1] at h2
  exact h2
def T1 : List Ow := T0.set 0 (0, true)
theorem gr0 : grantF c10 [(0, L0, false), (4, L1, false)] T0 ((0 : Nat) : Int) = (((1, 1, 0), 0), [(0, L0, true), (4, L1, false)], T1) := by
  have hgo := inv2.goes (r := 0) (by decide) (fun b hb hne _ z _ e => by
    unfold at9 at e
    rw [Lk.getD_rep] at e
    split at e <;> cases e)
  have hmay := inv2.goes_may (r := 0) (by decide) hgo (a := (1, 1, 0)) (l := goesL [2, 3, 2, 1, 0]) rfl
  rw [grantF_go (k := 0) (by decide) (c := 0) (a := (1, 1, 0)) (l := goesL [2, 3, 2, 1, 0]) rfl hmay]
  have ht : giveT T0 ((0 : Nat) : Int) (az c10 (1, 1, 0)) = T1 := by decide +kernel
  rw [ht]
  rfl
theorem gr1 : grantF c10 [(0, L0, true), (4, L1, false)] T1 ((1 : Nat) : Int) = (((0, 0, 0), 110), [(0, L0, true), (4, L1, false)], T1) := by
  refine grantF_wait (k := 1) (by decide) (c := 4) (a := (1, 3, 0)) (l := goesL [2, 3, 4]) rfl (fun h => ?_)
  have hz : (1 : Int) ∈ az c10 (1, 3, 0) := by decide +kernel
  rcases h 1 hz with h | h
  · have hn : at9 T1 1 ≠ (((1 : Nat) : Int), true) := by decide +kernel
    exact hn h
  · obtain ⟨_, _, _, _, _, h6⟩ := h
    have ho : ord (need (clm c10 [(0, L0, true), (4, L1, false)] T1)) (Bk.gv (Bk.hb (clm c10 [(0, L0, true), (4, L1, false)] T1)) ((1 : Nat) : Int).toNat 1) 2 (List.range 2) = none := by decide +kernel
    exact ord_none List.nodup_range List.length_range ho h6
theorem lt_lit {w : World} (L : List Int) {cs : Array Value} (hc : cs = (ivs L).toArray) (hl : L.length ≤ 1000000) : Lt (w.alloc (.cells cs 3)).heap.size (w.alloc (.cells cs 3)) (some ⟨w.heap.size, 0, none⟩) L.length L.length L := by
  subst hc
  refine ⟨by simp [ivs], Nat.le_refl _, by unfold maxLen; omega, fun h => (by cases h), fun _ => ⟨w.heap.size, 0, rfl, by simp, fun j hj => ?_⟩⟩
  rw [cell_of_row _ w.heap.size (0 + j) _ _ _ (heap_alloc_new w _)]
  simp
set_option maxHeartbeats 4000000 in
theorem shown11_any (w : World) : Calls Tryz.prog 10 #[] w fun e w' => e = .returned (.bool true) ∧ Below w.heap.size w w' := by
  have HPA := Lib.hid (fun wx => parse_any s10 (by decide) wx)
  rw [show s10 = ⟨#[48, 97, 97, 98, 49, 10]⟩ from rfl] at HPA
  have HNW := Lib.hid (fun wx => new_any 5 1 c10 (by decide) wx)
  go_enter Tryz.func10, Tryz.ntmps10
  go_wp2_with fail
  refine (HPA.out _).mono ?_
  rintro e w1 ⟨W, H, c, row, err, rfl, ho, hb1⟩
  obtain ⟨rfl, rfl, rfl, rfl, rfl⟩ := out10 ho
  have HB1 := Lib.hid hb1
  have HX1 := Lib.hid (Box.start w1 5 1 c10 25)
  have hBf := (Below.refl w1.heap.size w1).alloc (Nat.le_refl _) (.cells #[.int .i64 5, .int .i64 1, .string c10] 25)
  have HB1f := Lib.hid (hb1.trans (hBf.mono hb1.size))
  clear ho hb1 HPA hBf
  go_wp2_with fail
  refine (HNW.out _).mono ?_
  rintro e w2 hnw
  rcases hnw with ⟨hno, _⟩ | ⟨_, S, g, M, cap, top, rfl, hst, hge, hb2⟩
  · exact absurd right10 hno
  rw [n10] at hst
  have HST := Lib.hid hst
  have HB2 := Lib.hid (HB1f.out.trans (hb2.mono HB1f.out.size))
  have HGE : Hid (w.heap.size ≤ g ∧ w.heap.size ≤ M) := Lib.hid ⟨Nat.le_trans HB1f.out.size hge.1, Nat.le_trans HB1f.out.size hge.2.1⟩
  clear hst hge hb2 HNW
  have hl0 := lt_lit (w := w2) [1, 2, 3, 2, 1, 0] (cs := #[.int .i64 1, .int .i64 2, .int .i64 3, .int .i64 2, .int .i64 1, .int .i64 0]) rfl (by decide)
  have hB3 := (Below.refl w2.heap.size w2).alloc (Nat.le_refl _) (.cells #[.int .i64 1, .int .i64 2, .int .i64 3, .int .i64 2, .int .i64 1, .int .i64 0] 3)
  have HGO := Lib.hid (goes11_any _ 6 6 [1, 2, 3, 2, 1, 0] _ hl0 (by omega))
  have HST3 := Lib.hid (HST.out.later hB3)
  have HB3 := Lib.hid (HB2.out.trans (hB3.mono HB2.out.size))
  clear hl0 hB3
  go_wp2_with fail
  refine HGO.out.mono ?_
  rintro e w4 ⟨A4, n4, c4, rfl, hn4, ho4, hb4⟩
  have HST4 := Lib.hid (HST3.out.later hb4)
  have HB4 := Lib.hid (HB3.out.trans (hb4.mono HB3.out.size))
  have HS4 := Lib.hid (start_any HST4.out (by decide) right10 (by rw [docked_len, n10]) ((0 : Nat) : Int) A4 n4 c4 L0 (by have := ho4.al; rw [← this.1] at this; exact this.2))
  clear hn4 ho4 hb4
  go_wp2_with fail
  refine HS4.out.mono ?_
  unfold StartTold
  rw [st0]
  rintro e w5 ⟨rfl, hs5, hf5⟩
  have HST5 := Lib.hid hs5
  have HB5 := Lib.hid (HB4.out.trans (hf5.below HB4.out.size HGE.out.1 HGE.out.2))
  clear hs5 hf5
  dsimp only
  have hl1 := lt_lit (w := w5) [3, 2, 3, 4] (cs := #[.int .i64 3, .int .i64 2, .int .i64 3, .int .i64 4]) rfl (by decide)
  have hB6 := (Below.refl w5.heap.size w5).alloc (Nat.le_refl _) (.cells #[.int .i64 3, .int .i64 2, .int .i64 3, .int .i64 4] 3)
  have HGO1 := Lib.hid (goes11_any _ 4 4 [3, 2, 3, 4] _ hl1 (by omega))
  have HST6 := Lib.hid (HST5.out.later hB6)
  have HB6 := Lib.hid (HB5.out.trans (hB6.mono HB5.out.size))
  clear hl1 hB6
  go_wp2_with fail
  refine HGO1.out.mono ?_
  rintro e w7 ⟨A7, n7, c7, rfl, hn7, ho7, hb7⟩
  have HST7 := Lib.hid (HST6.out.later hb7)
  have HB7 := Lib.hid (HB6.out.trans (hb7.mono HB6.out.size))
  have HS7 := Lib.hid (start_any HST7.out (by decide) right10 (by rw [n10]; rfl) ((1 : Nat) : Int) A7 n7 c7 L1 (by have := ho7.al; rw [← this.1] at this; exact this.2))
  clear hn7 ho7 hb7
  go_wp2_with fail
  refine HS7.out.mono ?_
  unfold StartTold
  rw [st1]
  rintro e w8 ⟨rfl, hs8, hf8⟩
  have HB8 := Lib.hid (HB7.out.trans (hf8.below HB7.out.size HGE.out.1 HGE.out.2))
  have HG8 := Lib.hid (grant_any hs8 inv2 ((0 : Nat) : Int))
  clear hs8 hf8
  dsimp only
  go_wp2_with fail
  refine HG8.out.mono ?_
  unfold GrantTold
  rw [gr0]
  rintro e w9 ⟨rfl, hs9, hf9⟩
  have HB9 := Lib.hid (HB8.out.trans (hf9.below HB8.out.size HGE.out.1 HGE.out.2))
  have hin3 := inv2.grantF ((0 : Nat) : Int)
  rw [gr0] at hin3
  have HS9 := Lib.hid hs9
  have HI3 := Lib.hid hin3
  clear hs9 hf9 hin3
  dsimp only [actV]
  have hB10 := (Below.refl w9.heap.size w9).alloc (Nat.le_refl _) (.cells #[.int .u8 1, .int .i64 1, .int .i64 0] 39)
  have e1 : (w9.alloc (.cells #[.int .u8 1, .int .i64 1, .int .i64 0] 39)).cell? ⟨w9.heap.size, 1, none⟩ = some (.int .i64 1) := by simp [World.cell?_alloc_new]
  have el : w9.heap.size < (w9.alloc (.cells #[.int .u8 1, .int .i64 1, .int .i64 0] 39)).heap.size := by simp
  have HG10 := Lib.hid (grant_any (HS9.out.later hB10) HI3.out ((1 : Nat) : Int))
  have HB10 := Lib.hid (HB9.out.trans (hB10.mono HB9.out.size))
  have HFR : Hid (∀ w11, Fr g M (w9.alloc (.cells #[.int .u8 1, .int .i64 1, .int .i64 0] 39)) w11 → w11.cell? ⟨w9.heap.size, 1, none⟩ = some (.int .i64 1)) := Lib.hid (fun w11 hf => by
    have ht := HS9.out.tops
    refine (World.cell?_of_block (a := ⟨w9.heap.size, 1, none⟩) (hf.block w9.heap.size el (fun q => ?_))).trans e1
    rcases q with q | q <;> omega)
  clear hB10
  go_upto_region 7 with (fail)
  generalize w9.alloc (.cells #[.int .u8 1, .int .i64 1, .int .i64 0] 39) = wA at *
  generalize w9.heap.size = xb at *
  go_wp2_with fail
  refine HG10.out.mono ?_
  unfold GrantTold
  rw [gr1]
  rintro e w11 ⟨rfl, hs11, hf11⟩
  have HB11 := Lib.hid (HB10.out.trans (hf11.below HB10.out.size HGE.out.1 HGE.out.2))
  have x1 := HFR.out w11 hf11
  have xl := Nat.lt_of_lt_of_le el hf11.size
  have hB12 := (Below.refl w11.heap.size w11).alloc (Nat.le_refl _) (.cells #[.int .u8 0, .int .i64 0, .int .i64 0] 39)
  have x2 := (hB12.cell (p := ⟨xb, 1, none⟩) xl).trans x1
  have xl2 := Nat.lt_of_lt_of_le xl hB12.size
  have HB12 := Lib.hid (HB11.out.trans (hB12.mono HB11.out.size))
  clear hs11 hf11 hB12 e1 el
  dsimp only [actV]
  go_upto_region 8 with (fail)
  generalize w11.alloc (.cells #[.int .u8 0, .int .i64 0, .int .i64 0] 39) = w12 at *
  clear x1 xl
  go_wp2_with fail
  go_ret
  exact ⟨rfl, HB12.out⟩
end Tf
end Go.Proofs.YtakgkocdkondhaaGreatDoor
end
