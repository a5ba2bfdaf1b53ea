/-
  Layer 17: fields are laid one by one; Lay and LayAct.
-/
import Derived.Test.YtobpinelhjpfgaaDoorRcA
set_option linter.unusedVariables false
set_option maxRecDepth 100000
namespace Go.Proofs.YtobpinelhjpfgaaDoor
namespace Rc
open Go.RowKit Bp
theorem Tryd.resW : Tryd.f80.results = #[.cell 0 118] := by kernel_rfl
theorem Tryd.cellsW : (Tryd.prog.info? 118).map (·.size) = some 1 := by kernel_rfl
theorem rcnewWriter_any (w : World) :
    Calls Tryd.prog 80 #[] w fun e w' => ∃ b, e = .returned (.agg #[.pointer (some ⟨b, 0, none⟩)]) ∧ w.heap.size ≤ b ∧ Wr w' b (.slice none 0 0) [] ∧ Below w.heap.size w w' := by
  have hb := below_new w (.cells #[.pointer none] 118)
  have hs : (w.alloc (.cells #[.pointer none] 118)).heap.size = w.heap.size + 1 := by simp
  have HB := Lib.hid hb
  have HS := Lib.hid hs
  clear hb hs
  go_enter Tryd.func80, Tryd.ntmps80
  go_wp2_with fail
  refine (newWriter_any _).mono ?_
  rintro e w1 ⟨rfl, rfl⟩
  go_wp2
  refine bodyPost_ret (results_cell_row Tryd.resW _ _ _ _ _ _ _ rfl (heap_alloc2_old w _ _) Tryd.underlying118 rfl Tryd.cellsW) rfl ?_
  refine ⟨w.heap.size + 1, rfl, by omega, ?_, (below_new w _).alloc (by simp) _⟩
  have := wr_start (w.alloc (.cells #[.pointer (some ⟨w.heap.size + 1, 0, none⟩)] 118))
  simpa using this
theorem wr_box {w : World} {b : Nat} {v : Value} {bs : List Bool} (h : Wr w b v bs) (o : Obj) : Wr (w.alloc o) b v bs := h.below (below_new w o)
theorem Lays.box {w w' : World} {b : Nat} {v : Value} {bs more : List Bool} {o : Obj} (h : Lays (w.alloc o) b v bs more w') : Lays w b v bs more w' := by
  obtain ⟨v', h1, h2⟩ := h
  exact ⟨v', h1, (Turn.alloc w o).trans h2⟩
theorem put_int {b n : Nat} {v : Value} {bs : List Bool} {w : World} (h : Wr w b v bs) (hn : n < 18446744073709551616) (m : Nat) (M : Int) (hM : M = m) (hm : m ≤ 8) (hl : bs.length + 61 ≤ 1048576) :
    Calls Tryd.prog 81 #[.pointer (some ⟨b, 0, none⟩), .int .u64 (n : Int), .int .i64 M] w fun e w' => e = .returned (.int .i64 0) ∧ Lays w b v bs (bitsOf n m) w' := by
  subst hM
  exact put_ok b n m v bs w h hn (by omega) (by omega)
set_option maxHeartbeats 1000000 in
theorem wfield_0 (n b : Nat) (v : Value) (bs : List Bool) (w : World) (h : Wr w b v bs) (hS : Shp w) (hn : n ≤ 1073741824) (hlen : (fld 0 n).length ≤ 61) (hl : bs.length + 61 ≤ 1048576) :
    Calls Tryd.prog 84 #[.agg #[.pointer (some ⟨b, 0, none⟩)], .int .i64 0, .int .i64 (n : Int)] w fun e w' => e = .returned (.tuple #[]) ∧ Lays w b v bs (fld 0 n) w' := by
  have hc : w.cell? ⟨0, 1, none⟩ = some (.int .i64 0) := hS.cell 1
  have hp := hS.pos
  have hw : IntKind.u64.wrap (n : Int) = (n : Int) := IntWalk.u64_in _ ⟨by omega, by omega⟩
  have HH := fun o => Lib.hid (wr_box h o)
  have HL := Lib.hid hlen
  clear h hS hlen
  go_enter Tryd.func84, Tryd.ntmps84
  go_wp2_with fail
  refine (count_ok b n v bs _ (HH _).out (by omega) (by have := HL.out; rw [fld_zero, countBits_length] at this; omega)).mono ?_
  rintro e w1 ⟨rfl, hL⟩
  have HL1 := Lib.hid (Lays.box hL)
  clear hL
  go_wp2
  go_end0
  exact ⟨rfl, HL1.out⟩
set_option maxHeartbeats 1000000 in
theorem wfield_1 (n b : Nat) (v : Value) (bs : List Bool) (w : World) (h : Wr w b v bs) (hS : Shp w) (hn : n ≤ 1073741824) (hlen : (fld 1 n).length ≤ 61) (hl : bs.length + 61 ≤ 1048576) :
    Calls Tryd.prog 84 #[.agg #[.pointer (some ⟨b, 0, none⟩)], .int .i64 1, .int .i64 (n : Int)] w fun e w' => e = .returned (.tuple #[]) ∧ Lays w b v bs (fld 1 n) w' := by
  have hc : w.cell? ⟨0, 3, none⟩ = some (.int .i64 3) := hS.cell 3
  have hp := hS.pos
  have hw : IntKind.u64.wrap (n : Int) = (n : Int) := IntWalk.u64_in _ ⟨by omega, by omega⟩
  have HH := fun o => Lib.hid (wr_box h o)
  have HL := Lib.hid hlen
  clear h hS hlen
  go_enter Tryd.func84, Tryd.ntmps84
  go_wp2_with fail
  refine (put_int (HH _).out (by omega) 3 3 rfl (by decide) hl).mono ?_
  rintro e w1 ⟨rfl, hL⟩
  have HL1 := Lib.hid (Lays.box hL)
  clear hL
  go_wp2
  go_end0
  exact ⟨rfl, HL1.out⟩
set_option maxHeartbeats 1000000 in
theorem wfield_2 (n b : Nat) (v : Value) (bs : List Bool) (w : World) (h : Wr w b v bs) (hS : Shp w) (hn : n ≤ 1073741824) (hlen : (fld 2 n).length ≤ 61) (hl : bs.length + 61 ≤ 1048576) :
    Calls Tryd.prog 84 #[.agg #[.pointer (some ⟨b, 0, none⟩)], .int .i64 2, .int .i64 (n : Int)] w fun e w' => e = .returned (.tuple #[]) ∧ Lays w b v bs (fld 2 n) w' := by
  have hc : w.cell? ⟨0, 5, none⟩ = some (.int .i64 6) := hS.cell 5
  have hp := hS.pos
  have hw : IntKind.u64.wrap (n : Int) = (n : Int) := IntWalk.u64_in _ ⟨by omega, by omega⟩
  have HH := fun o => Lib.hid (wr_box h o)
  have HL := Lib.hid hlen
  clear h hS hlen
  go_enter Tryd.func84, Tryd.ntmps84
  go_wp2_with fail
  refine (put_int (HH _).out (by omega) 6 6 rfl (by decide) hl).mono ?_
  rintro e w1 ⟨rfl, hL⟩
  have HL1 := Lib.hid (Lays.box hL)
  clear hL
  go_wp2
  go_end0
  exact ⟨rfl, HL1.out⟩
set_option maxHeartbeats 1000000 in
theorem wfield_3 (n b : Nat) (v : Value) (bs : List Bool) (w : World) (h : Wr w b v bs) (hS : Shp w) (hn : n ≤ 1073741824) (hlen : (fld 3 n).length ≤ 61) (hl : bs.length + 61 ≤ 1048576) :
    Calls Tryd.prog 84 #[.agg #[.pointer (some ⟨b, 0, none⟩)], .int .i64 3, .int .i64 (n : Int)] w fun e w' => e = .returned (.tuple #[]) ∧ Lays w b v bs (fld 3 n) w' := by
  have hc : w.cell? ⟨0, 7, none⟩ = some (.int .i64 8) := hS.cell 7
  have hp := hS.pos
  have hw : IntKind.u64.wrap (n : Int) = (n : Int) := IntWalk.u64_in _ ⟨by omega, by omega⟩
  have HH := fun o => Lib.hid (wr_box h o)
  have HL := Lib.hid hlen
  clear h hS hlen
  go_enter Tryd.func84, Tryd.ntmps84
  go_wp2_with fail
  refine (put_int (HH _).out (by omega) 8 8 rfl (by decide) hl).mono ?_
  rintro e w1 ⟨rfl, hL⟩
  have HL1 := Lib.hid (Lays.box hL)
  clear hL
  go_wp2
  go_end0
  exact ⟨rfl, HL1.out⟩
set_option maxHeartbeats 1000000 in
theorem wfield_4 (n b : Nat) (v : Value) (bs : List Bool) (w : World) (h : Wr w b v bs) (hS : Shp w) (hn : n ≤ 1073741824) (hlen : (fld 4 n).length ≤ 61) (hl : bs.length + 61 ≤ 1048576) :
    Calls Tryd.prog 84 #[.agg #[.pointer (some ⟨b, 0, none⟩)], .int .i64 4, .int .i64 (n : Int)] w fun e w' => e = .returned (.tuple #[]) ∧ Lays w b v bs (fld 4 n) w' := by
  have hc : w.cell? ⟨0, 9, none⟩ = some (.int .i64 3) := hS.cell 9
  have hp := hS.pos
  have hw : IntKind.u64.wrap (n : Int) = (n : Int) := IntWalk.u64_in _ ⟨by omega, by omega⟩
  have HH := fun o => Lib.hid (wr_box h o)
  have HL := Lib.hid hlen
  clear h hS hlen
  go_enter Tryd.func84, Tryd.ntmps84
  go_wp2_with fail
  refine (put_int (HH _).out (by omega) 3 3 rfl (by decide) hl).mono ?_
  rintro e w1 ⟨rfl, hL⟩
  have HL1 := Lib.hid (Lays.box hL)
  clear hL
  go_wp2
  go_end0
  exact ⟨rfl, HL1.out⟩
theorem wfield_any (f n b : Nat) (v : Value) (bs : List Bool) (w : World) (h : Wr w b v bs) (hS : Shp w) (hf : f < 5) (hn : n ≤ fmx f) (hl : bs.length + 61 ≤ 1048576) :
    Calls Tryd.prog 84 #[.agg #[.pointer (some ⟨b, 0, none⟩)], .int .i64 (f : Int), .int .i64 (n : Int)] w fun e w' => e = .returned (.tuple #[]) ∧ Lays w b v bs (fld f n) w' := by
  have hcs : f = 0 ∨ f = 1 ∨ f = 2 ∨ f = 3 ∨ f = 4 := by omega
  have hlen := fld_len f n hf hn
  rcases hcs with rfl | rfl | rfl | rfl | rfl
  · exact wfield_0 n b v bs w h hS (by simpa [fmx] using hn) hlen hl
  · exact wfield_1 n b v bs w h hS (by simp [fmx] at hn; omega) hlen hl
  · exact wfield_2 n b v bs w h hS (by simp [fmx] at hn; omega) hlen hl
  · exact wfield_3 n b v bs w h hS (by simp [fmx] at hn; omega) hlen hl
  · exact wfield_4 n b v bs w h hS (by simp [fmx] at hn; omega) hlen hl
theorem Lays.more {w w1 w2 : World} {b : Nat} {v v1 : Value} {bs m1 m2 : List Bool} (ht : Turn (WF b v) (WF b v1) w w1) (h2 : Lays w1 b v1 (bs ++ m1) m2 w2) : Lays w b v bs (m1 ++ m2) w2 := by
  obtain ⟨v2, h3, h4⟩ := h2
  exact ⟨v2, by rw [← List.append_assoc]; exact h3, ht.trans h4⟩
theorem take_fbits (fs : List Nat) (N : Nat → Nat) (k : Nat) (h : k < fs.length) : fbits (fs.take (k + 1)) N = fbits (fs.take k) N ++ fld (fs.getD k 0) (N (fs.getD k 0)) := by
  have hg : fs.getD k 0 = fs[k] := by simp [List.getD, List.getElem?_eq_getElem h]
  rw [hg, List.take_succ_eq_append_getElem h, fbits_snoc]
def nums (i r p c q : Int) : Array Value := #[.int .i64 i, .int .i64 r, .int .i64 p, .int .i64 c, .int .i64 q]
theorem nums_get (i r p c q : Int) (f : Nat) (hf : f < 5) : (nums i r p c q)[f]? = some (.int .i64 (five i r p c q f)) := by
  have : f = 0 ∨ f = 1 ∨ f = 2 ∨ f = 3 ∨ f = 4 := by omega
  rcases this with rfl | rfl | rfl | rfl | rfl <;> rfl
def natN (N : Nat → Int) : Nat → Nat := fun f => (N f).toNat
/-- In the middle of laying fields. -/
structure Sp (w0 : World) (B L b : Nat) (v : Value) (bs : List Bool) (i r p c q : Int) (g : Nat) (fs : List Nat) (k : Nat) (wr : World) : Prop where
  lays : Lays w0 b v bs (fbits (fs.take k) (natN (five i r p c q))) wr
  box : wr.heap[L]? = some (.cells (nums i r p c q) 123 (0, 0))
  shp : Shp wr
  fs : ∀ j, j < fs.length → wr.cell? ⟨g, j, none⟩ = some (.int .i64 ((fs.getD j 0 : Nat) : Int))
set_option maxHeartbeats 1000000 in
theorem rcspread_any {B : Nat} (fs : List Nat) (i r p c q : Int) (b : Nat) (v : Value) (bs : List Bool) (w : World) (lv : Value) (h : Wr w b v bs) (hS : Shp w) (hb0 : 0 < b) (hf : Fs B w lv fs) (hB : ∀ k, WF b v k → k < B)
    (hok : ∀ f, f ∈ fs → f < 5 ∧ 0 ≤ five i r p c q f ∧ five i r p c q f ≤ (fmx f : Int)) (hlen : fs.length ≤ 5) (hl : bs.length ≤ 1000) :
    Calls Tryd.prog 82 #[lv, .agg #[.int .i64 i, .int .i64 r, .int .i64 p, .int .i64 c, .int .i64 q], .func (.func 84) #[.agg #[.pointer (some ⟨b, 0, none⟩)]] #[]] w
      fun e w' => e = .returned (.tuple #[]) ∧ Lays w b v bs (fbits fs (natN (five i r p c q))) w' := by
  rcases hf with ⟨rfl, rfl⟩ | ⟨g, rfl, hBg, hg, hc⟩
  · have HL := Lib.hid (Lays.box (Lays.refl (wr_box h (.cells #[.int .i64 i, .int .i64 r, .int .i64 p, .int .i64 c, .int .i64 q] 123))))
    clear h hS hB hok
    go_enter Tryd.func82, Tryd.ntmps82
    go_wp2
    go_loopw [10] (fun iv wr => iv = .int .i64 0 ∧ w.alloc (.cells #[.int .i64 i, .int .i64 r, .int .i64 p, .int .i64 c, .int .i64 q] 123) = wr) (fun iv _ => 0)
    case atStart => exact ⟨rfl, rfl⟩
    case round =>
      obtain ⟨rfl, rfl⟩ := hrel
      go_wp2
      go_end0
      exact ⟨rfl, HL.out⟩
  · have hst : Sp (w.alloc (.cells #[.int .i64 i, .int .i64 r, .int .i64 p, .int .i64 c, .int .i64 q] 123)) B w.heap.size b v bs i r p c q g fs 0 (w.alloc (.cells #[.int .i64 i, .int .i64 r, .int .i64 p, .int .i64 c, .int .i64 q] 123)) :=
      ⟨Lays.refl (wr_box h _), heap_alloc_new w _, hS.later (below_new w _), fun j hj => by rw [World.cell?_alloc_lt _ _ _ hg]; exact hc j hj⟩
    have hnext : ∀ (k : Nat) (wr w2 : World) (v1 : Value), k < fs.length → Sp (w.alloc (.cells #[.int .i64 i, .int .i64 r, .int .i64 p, .int .i64 c, .int .i64 q] 123)) B w.heap.size b v bs i r p c q g fs k wr →
        Turn (WF b v) (WF b v1) (w.alloc (.cells #[.int .i64 i, .int .i64 r, .int .i64 p, .int .i64 c, .int .i64 q] 123)) wr → Lays wr b v1 (bs ++ fbits (fs.take k) (natN (five i r p c q))) (fld (fs.getD k 0) (natN (five i r p c q) (fs.getD k 0))) w2 →
        Sp (w.alloc (.cells #[.int .i64 i, .int .i64 r, .int .i64 p, .int .i64 c, .int .i64 q] 123)) B w.heap.size b v bs i r p c q g fs (k + 1) w2 := by
      intro k wr w2 v1 hk hs ht hl
      have hl2 := Lays.more ht hl
      rw [← take_fbits _ _ _ hk] at hl2
      have hl3 := hl2
      obtain ⟨v2, _, ht2⟩ := hl3
      have hsz : (w.alloc (.cells #[.int .i64 i, .int .i64 r, .int .i64 p, .int .i64 c, .int .i64 q] 123)).heap.size = w.heap.size + 1 := by simp
      refine ⟨hl2, ?_, ?_, fun j hj => ?_⟩
      · rw [ht2.block w.heap.size (by omega) (fun x => by have := (h.lt x).2; omega)]
        exact heap_alloc_new w _
      · exact (hS.later (below_new w _)).of (ht2.block 0 (by omega) (fun x => by have := (h.lt x).1; omega))
      · have h1 : (w.alloc (.cells #[.int .i64 i, .int .i64 r, .int .i64 p, .int .i64 c, .int .i64 q] 123)).cell? ⟨g, j, none⟩ = some (.int .i64 ((fs.getD j 0 : Nat) : Int)) := by rw [World.cell?_alloc_lt _ _ _ hg]; exact hc j hj
        rw [← h1]
        exact World.cell?_of_block (w := w.alloc _) (a := ⟨g, j, none⟩) (ht2.block g (by omega) (fun x => by have := hB g x; omega))
    have HN := Lib.hid hnext
    have HST := Lib.hid hst
    have HK := Lib.hid hok
    have hln : ∀ k, k < fs.length → (bs ++ fbits (fs.take k) (natN (five i r p c q))).length + 61 ≤ 1048576 := fun k hk => by
      have := fbits_len (fs.take k) (natN (five i r p c q)) (fun f hf => by
        have := hok f (List.mem_of_mem_take hf)
        refine ⟨this.1, ?_⟩
        unfold natN
        omega)
      rw [List.length_take] at this
      rw [List.length_append]
      omega
    have HLN := Lib.hid hln
    obtain ⟨L, hL⟩ : ∃ L, fs.length = L := ⟨_, rfl⟩
    rw [hL] at hlen ⊢
    have HL := Lib.hid hL
    have HMEM := fun k hk => (fs_mem fs (fs.getD k 0)).2 ⟨k, hk, rfl⟩
    have HM := Lib.hid HMEM
    have HGET := Lib.hid (nums_get i r p c q)
    clear hL hst hnext hok hln hc hBg hg hB hS h HMEM
    obtain ⟨N, hN⟩ : ∃ N, N = natN (five i r p c q) := ⟨_, rfl⟩
    have HNN := Lib.hid hN
    clear hN
    go_enter Tryd.func82, Tryd.ntmps82
    go_wp2
    go_loopw [10] (fun iv wr => ∃ k : Nat, k ≤ L ∧ iv = .int .i64 (k : Int) ∧ Sp (w.alloc (.cells #[.int .i64 i, .int .i64 r, .int .i64 p, .int .i64 c, .int .i64 q] 123)) B w.heap.size b v bs i r p c q g fs k wr) (fun iv _ => L - (intOf iv).toNat)
    case atStart => exact ⟨0, Nat.zero_le _, rfl, HST.out⟩
    case round =>
      obtain ⟨k, hk, rfl, hs⟩ := hrel
      have HS1 := Lib.hid hs
      by_cases hlt : k < L
      · have hkl : k < fs.length := by rw [HL.out]; exact hlt
        have hck := hs.fs k hkl
        obtain ⟨v1, hw1, ht1⟩ := hs.lays
        have hmem := HM.out k hkl
        obtain ⟨f5, f0, fm⟩ := HK.out _ hmem
        have hbx := (cell_of_row _ w.heap.size (fs.getD k 0) _ _ _ hs.box).trans (HGET.out _ f5)
        obtain ⟨f, hfe⟩ : ∃ f, fs.getD k 0 = f := ⟨_, rfl⟩
        obtain ⟨n, hne⟩ := Int.eq_ofNat_of_zero_le f0
        rw [hne] at hbx fm
        have hnn : natN (five i r p c q) (fs.getD k 0) = n := by unfold natN; rw [hne]; rfl
        have HC := Lib.hid (wfield_any (fs.getD k 0) n b v1 _ wr hw1 hs.shp f5 (by omega) (HLN.out k hkl))
        have HT1 := Lib.hid ht1
        have HNX := Lib.hid (fun w2 => HN.out k wr w2 v1 hkl hs ht1)
        rw [hnn] at HNX
        rw [hfe] at hck hbx HC HNX f5
        clear hs hw1 ht1 hmem f0 fm hne hnn hkl hfe
        go_wp2_with fail
        refine HC.out.mono ?_
        rintro e w2 ⟨rfl, hl2⟩
        have HS2 := Lib.hid (HNX.out w2 hl2)
        clear hl2
        go_wp2
        go_roundw
        case rel => exact ⟨k + 1, by omega, by go_num, HS2.out⟩
        case measure => simp [intOf]; omega
      · obtain rfl : k = L := by omega
        have hl := Lays.box hs.lays
        rw [List.take_of_length_le (by rw [HL.out]; exact Nat.le_refl _)] at hl
        have HF := Lib.hid hl
        clear hl hs
        go_wp2
        go_end0
        exact ⟨rfl, HF.out⟩
end Rc
end Go.Proofs.YtobpinelhjpfgaaDoor
