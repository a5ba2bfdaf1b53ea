/-
  Layer 15: a disk in memory; power, operate, keep; bytes are copied.
-/
import Derived.Test.YtejldeecblppjaaDoorNwA
import Derived.Laws.MakeOwn
import Derived.Laws.OwnMore
import Derived.Deep.RegionHeld3
import Derived.StillTailTactics
import Derived.IntWalk
import Derived.Deep.Cut
import Derived.Lib.Strings
set_option linter.unusedVariables false
set_option maxRecDepth 100000
namespace Go.Proofs.YtejldeecblppjaaDoor
namespace Dk
open Go.RowKit Go.Maps Bk Nw

def IW (x : Int) : Prop := -9223372036854775808 ≤ x ∧ x ≤ 9223372036854775807
/-- A disk: its bytes' text, how many are safe, whether the power is off, whether it goes off by itself, and behind how many more operations. -/
structure D where
  s : ByteArray
  safe : Nat
  dead : Bool
  cut : Bool
  after : Int
def pwE (d : D) : Int := if d.dead = true then 5 else 0
/-- An operation begins. -/
def op (d : D) : D := if d.dead = false ∧ d.cut = true then ⟨d.s, d.safe, decide (d.after = 0), true, d.after - 1⟩ else d
/-- Only the first so many bytes are there, and safe. -/
def kp (d : D) (n : Nat) : D := ⟨d.s.extract 0 n, n, d.dead, d.cut, d.after⟩
def box (d : D) (v : Value) : Array Value := #[v, .int .i64 (d.safe : Int), .bool d.dead, .bool d.cut, .int .i64 d.after]
/-- A disk in block g, its bytes at v. -/
structure DAt (w : World) (base g : Nat) (v : Value) (d : D) : Prop where
  box : w.heap[g]? = some (.cells (box d v) 88 (0, 0))
  own : Yw w base v d.s
  lo : base ≤ g
  le : d.safe ≤ d.s.size
  few : d.s.size ≤ 1048576
  on : d.dead = false → d.cut = true → 0 ≤ d.after
  num : IW d.after
def DF (g : Nat) (v : Value) (k : Nat) : Prop := k = g ∨ v.ownBlock = some k
def One (g : Nat) (k : Nat) : Prop := k = g
section
variable {w w' : World} {base base' g : Nat} {v v' : Value} {d d' : D}
theorem cell_block {w w' : World} {g i : Nat} (h : w'.heap[g]? = w.heap[g]?) : w'.cell? ⟨g, i, none⟩ = w.cell? ⟨g, i, none⟩ := World.cell?_of_block (a := ⟨g, i, none⟩) h
theorem DAt.lt (h : DAt w base g v d) : g < w.heap.size := lt_of_heap h.box
theorem DAt.blocks (h : DAt w base g v d) : ∀ k, DF g v k → base ≤ k ∧ k < w.heap.size := by
  rintro k (rfl | hk)
  · exact ⟨h.lo, h.lt⟩
  · exact ⟨(h.own.kind k hk).2.1, (h.own.kind k hk).1⟩
theorem DAt.same (h : DAt w base g v d) (hb : ∀ k, DF g v k → w'.heap[k]? = w.heap[k]?) : DAt w' base g v d :=
  ⟨(hb g (.inl rfl)).trans h.box, h.own.same (fun k hk => hb k (.inr hk)), h.lo, h.le, h.few, h.on, h.num⟩
theorem DAt.later (h : DAt w base g v d) (hb : Below w.heap.size w w') : DAt w' base g v d := h.same fun k hk => hb.block k (h.blocks k hk).2
theorem DAt.lower (h : DAt w base g v d) (hb : base' ≤ base) : DAt w base' g v d := ⟨h.box, h.own.lower hb, Nat.le_trans hb h.lo, h.le, h.few, h.on, h.num⟩
theorem DAt.turn {F F' : Nat → Prop} (h : DAt w base g v d) (ht : Turn F F' w w') (hd : ∀ k, DF g v k → ¬ F k) : DAt w' base g v d := h.same fun k hk => ht.block k (h.blocks k hk).2 (hd k hk)
theorem DAt.kind (h : DAt w base g v d) : ∀ k, DF g v k → ∃ c t fz, w.heap[k]? = some (.cells c t fz) ∧ (t = 88 ∨ t = 5) := by
  rintro k (rfl | hk)
  · exact ⟨_, _, _, h.box, .inl rfl⟩
  · obtain ⟨_, _, c, fz, e⟩ := h.own.kind k hk
    exact ⟨c, _, fz, e, .inr rfl⟩
theorem DAt.apart (h : DAt w base g v d) : v.ownBlock ≠ some g := by
  intro e
  obtain ⟨_, _, c, fz, hh⟩ := h.own.kind g e
  have := hh.symm.trans h.box
  injection this with this
  injection this with _ this _
  revert this
  decide
theorem DAt.form (h : DAt w base g v d) : ∃ A c, v = .slice A d.s.size c := h.own.form
theorem DAt.cells (h : DAt w base g v d) : w.cell? ⟨g, 0, none⟩ = some v ∧ w.cell? ⟨g, 1, none⟩ = some (.int .i64 (d.safe : Int)) ∧ w.cell? ⟨g, 2, none⟩ = some (.bool d.dead) ∧ w.cell? ⟨g, 3, none⟩ = some (.bool d.cut) ∧ w.cell? ⟨g, 4, none⟩ = some (.int .i64 d.after) :=
  ⟨by rw [cell_of_row w g 0 _ _ _ h.box]; rfl, by rw [cell_of_row w g 1 _ _ _ h.box]; rfl, by rw [cell_of_row w g 2 _ _ _ h.box]; rfl, by rw [cell_of_row w g 3 _ _ _ h.box]; rfl, by rw [cell_of_row w g 4 _ _ _ h.box]; rfl⟩
theorem DAt.free (h : DAt w base g v d) (i : Nat) : w.frozen? ⟨g, i, none⟩ = false := frozen_of_row w g i _ _ h.box
/-- Its own block is written, and nothing of its bytes. -/
theorem DAt.re (h : DAt w base g v d) (hb : w'.heap[g]? = some (.cells (Dk.box d' v) 88 (0, 0))) (ho : ∀ k, k ≠ g → w'.heap[k]? = w.heap[k]?) (hs : d'.s = d.s) (h1 : d'.safe ≤ d'.s.size) (h2 : d'.dead = false → d'.cut = true → 0 ≤ d'.after) (h3 : IW d'.after) : DAt w' base g v d' :=
  ⟨hb, by rw [hs]; exact h.own.same (fun k hk => ho k (fun e => h.apart (by rw [← e]; exact hk))), h.lo, h1, by rw [hs]; exact h.few, h2, h3⟩
theorem set_other (w : World) (g i : Nat) (u : Value) (k : Nat) (hk : k ≠ g) : (w.setCell ⟨g, i, none⟩ u).heap[k]? = w.heap[k]? := Below.heap_setCell _ _ _ _ hk
/-- Bytes that lie anywhere else are as they were. -/
theorem Yb.boxed {A : Option Addr} {n c : Nat} {t : ByteArray} (h : DAt w base g v d) (hy : Yb w.heap.size w A n c t) (ht : Turn (One g) (One g) w w') : Yb w'.heap.size w' A n c t := by
  obtain ⟨zs, hg, h2, h3⟩ := hy
  refine ⟨zs, ⟨hg.len, hg.le, hg.max, hg.nil, fun hn => ?_⟩, h2, h3⟩
  obtain ⟨k, off, e, hk, hc⟩ := hg.cell hn
  refine ⟨k, off, e, Nat.lt_of_lt_of_le hk ht.size, fun j hj => ?_⟩
  rw [← hc j hj]
  refine cell_block (ht.block k hk ?_)
  rintro rfl
  have h0 := hc 0 (by omega)
  have hl : zs.length = n := by simpa [u8s] using hg.len
  rw [u8s_get (by omega), cell_of_row _ k (off + 0) _ _ _ h.box] at h0
  match hoff : off with
  | 0 =>
    obtain ⟨A1, c1, e1⟩ := h.form
    rw [e1] at h0
    simp [Dk.box] at h0
  | 1 => simp [Dk.box] at h0
  | 2 => simp [Dk.box] at h0
  | 3 => simp [Dk.box] at h0
  | 4 => simp [Dk.box] at h0
  | m + 5 => simp [Dk.box] at h0
end
/-! ### Bytes -/
theorem str_take (zs : List Int) (m : Nat) : strOfNums (zs.take m) = (strOfNums zs).extract 0 m := by
  apply ByteArray.ext
  apply Array.toList_inj.1
  rw [strOfNums_data, Lib.extract_data, strOfNums_data, List.map_take]
  simp
theorem rg_take {zs : List Int} (h : Rg zs) (m : Nat) : Rg (zs.take m) := fun z hz => h z (List.mem_of_mem_take hz)
theorem Yb.cut {B n cap : Nat} {w : World} {A : Option Addr} {s : ByteArray} (h : Yb B w A n cap s) {m : Nat} (hm : m ≤ n) : Yb B w A m cap (s.extract 0 m) := by
  obtain ⟨zs, h1, rfl, h3⟩ := h
  refine ⟨zs.take m, ?_, str_take zs m, rg_take h3 m⟩
  have := h1.cut hm
  rwa [Nat.mul_one, show (u8s zs).take m = u8s (zs.take m) by simp [u8s, List.map_take]] at this
theorem ext_all (s : ByteArray) : s.extract 0 s.size = s := by
  apply ByteArray.ext
  apply Array.toList_inj.1
  rw [Lib.extract_data]
  simp only [List.drop_zero, Nat.sub_zero]
  exact List.take_of_length_le (by simp)
theorem size_ext (s : ByteArray) (n : Nat) (h : n ≤ s.size) : (s.extract 0 n).size = n := by rw [ByteArray.size_extract]; omega
theorem run_makeU8 (n : Nat) (hn : n ≤ 2000000) (wx : World) : (Instr.makeSlice 24 (.int .i64 (n : Int)) (.int .i64 (n : Int))).run Tryd.prog wx = .ok (.slice (some ⟨wx.heap.size, 0, none⟩) n n) (wx.alloc (.cells (Array.replicate n (Value.int .u8 0)) 5)) := by
  obtain ⟨i0, hi, hz0, hz1, hz2⟩ := info_parts Tryd.infoU8
  have := run_make (P := Tryd.prog) wx 24 5 i0 _ Tryd.underlying24 hi hz0 .i64 .i64 n n (by omega) (Int.le_refl _) (by rw [hz2]; omega) (by omega)
  simp only [Int.toNat_natCast, hz1, Nat.mul_one] at this
  rw [this]
  have e : madeCells (Value.int .u8 0).cells n = Array.replicate n (Value.int .u8 0) := by
    have := toList_madeCells_one (Value.int .u8 0) n
    apply Array.toList_inj.1
    rw [show (Value.int .u8 0).cells = #[Value.int .u8 0] from rfl, this]
    simp
  rw [e]
theorem sizeU8 : (Tryd.prog.info? 5).map (·.size) = some 1 := by kernel_rfl
theorem own_row {w : World} {base g n : Nat} {xs : List Value} {e : TypeId} (h : w.heap[g]? = some (.cells xs.toArray e (0, 0))) (hl : xs.length = n) (hm : n ≤ maxLen) (hb : base ≤ g) : w.ownsRow base e 1 (.slice (some ⟨g, 0, none⟩) n n) n xs := by
  refine ⟨by omega, .inr ⟨g, n, xs.toArray, rfl, hb, h, Nat.le_refl _, hm, by simp; omega, ?_⟩⟩
  rw [Nat.mul_one]
  exact List.take_of_length_le (by simp; omega)
/-- Bytes are copied. -/
def CopiedTold (n : Nat) (s : ByteArray) (w : World) (e : Ending) (w' : World) : Prop := e = .returned (.slice (some ⟨w.heap.size, 0, none⟩) n n) ∧ Yw w' w.heap.size (.slice (some ⟨w.heap.size, 0, none⟩) n n) s ∧ Below w.heap.size w w'
set_option maxHeartbeats 1000000 in
theorem copied_any (A : Option Addr) (n cap : Nat) (s : ByteArray) (w : World) (h : Yb w.heap.size w A n cap s) (hn : n ≤ 2000000) : Calls Tryd.prog 74 #[.slice A n cap] w (CopiedTold n s w) := by
  obtain ⟨zs, hg, rfl, hrg⟩ := h
  have hl : zs.length = n := by simpa [u8s] using hg.len
  have mk := run_makeU8 n hn
  have HM : Hid (n ≤ maxLen) := Lib.hid (by unfold maxLen; omega)
  have HR : Hid (((w.alloc (.cells (Array.replicate n (Value.int .u8 0)) 5))).heap[w.heap.size]? = some (.cells (Array.replicate n (Value.int .u8 0)) 5 (0, 0))) := Lib.hid (heap_alloc_new w _)
  have hb1 := (Below.refl w.heap.size w).alloc (Nat.le_refl _) (.cells (Array.replicate n (Value.int .u8 0)) 5)
  have HB1 := Lib.hid hb1
  have HG : Hid (Gt 1 (w.alloc (.cells (Array.replicate n (Value.int .u8 0)) 5)).heap.size (w.alloc (.cells (Array.replicate n (Value.int .u8 0)) 5)) A n cap (u8s zs)) := Lib.hid (hg.later hb1)
  have HL := Lib.hid hl
  have HRG := Lib.hid hrg
  clear hb1 hg hl hrg
  go_enter Tryd.func74, Tryd.ntmps74
  go_upto_region 2 with (fail)
  generalize w.alloc (.cells (Array.replicate n (Value.int .u8 0)) 5) = w1 at *
  go_wp2_with (refine wpList_copy_splice (o := ⟨some 9, _, _, _, _, _⟩) rfl (.tmp 7) (.tmp 8) 24 24 rfl 5 Tryd.underlying24 sizeU8 (some ⟨w.heap.size, 0, none⟩) A n n n cap rfl rfl w.heap.size 0 (List.replicate n (.int .u8 0)) 5 (by rw [HR.out]; simp) (u8s zs) (by rw [show Nat.min n n = n from Nat.min_self n]; simp [u8s, HL.out]) (fun hp => ⟨rfl, ?_⟩) (by simp [u8s, HL.out]) (u8s_one zs) w.heap.size w HB1.out (Nat.le_refl _) ?_)
  · have hp2 : 0 < n := by have := HL.out; simp [u8s] at hp; omega
    obtain ⟨k, off, rfl, _, _⟩ := HG.out.cell hp2
    exact ⟨_, rfl, HG.out.cells _ rfl⟩
  intro w2 hr2 hb2
  have HB2 := Lib.hid hb2
  clear hb2
  go_wp2_with fail
  go_ret
  have e : splice (List.replicate n (Value.int .u8 0)) 0 (u8s zs) = u8s zs := by
    have := HL.out
    unfold splice
    simp [u8s, List.drop_eq_nil_of_le, this]
  have hr := hr2.out
  rw [e] at hr
  refine ⟨rfl, ⟨zs, ?_, rfl, HRG.out⟩, HB2.out⟩
  have := own_row (base := w.heap.size) hr (n := n) (by simp [u8s, HL.out]) HM.out (Nat.le_refl _)
  rw [HL.out]
  exact this
/-! ### power, operate, keep -/
theorem power_cell {w : World} {g : Nat} {b : Bool} (h : w.cell? ⟨g, 2, none⟩ = some (.bool b)) : Calls Tryd.prog 55 #[.pointer (some ⟨g, 0, none⟩)] w fun e w' => e = .returned (.int .i64 (if b = true then 5 else 0)) ∧ w = w' := by
  cases b with
  | true =>
    go_enter Tryd.func55, Tryd.ntmps55
    go_wp2_with fail
    go_ret
    exact ⟨rfl, rfl⟩
  | false =>
    go_enter Tryd.func55, Tryd.ntmps55
    go_wp2_with fail
    go_ret
    exact ⟨rfl, rfl⟩
theorem power_nil (w : World) : Calls Tryd.prog 55 #[.pointer none] w fun e w' => e = .returned (.int .i64 2) ∧ w = w' := by
  go_enter Tryd.func55, Tryd.ntmps55
  go_wp2_with fail
  go_ret
  exact ⟨rfl, rfl⟩
theorem power_any {w : World} {base g : Nat} {v : Value} {d : D} (h : DAt w base g v d) : Calls Tryd.prog 55 #[.pointer (some ⟨g, 0, none⟩)] w fun e w' => e = .returned (.int .i64 (pwE d)) ∧ w = w' := power_cell h.cells.2.2.1
theorem operate_nil (w : World) : Calls Tryd.prog 80 #[.pointer none] w fun e w' => e = .returned (.int .i64 2) ∧ w = w' := by
  have HP := Lib.hid (power_nil w)
  go_enter Tryd.func80, Tryd.ntmps80
  go_wp2_with fail
  refine HP.out.mono ?_
  rintro e w1 ⟨rfl, rfl⟩
  go_wp2_with fail
  refine HP.out.mono ?_
  rintro e w1 ⟨rfl, rfl⟩
  go_wp2_with fail
  go_ret
  exact ⟨rfl, rfl⟩
/-- What an operation's beginning leaves. -/
def OpTold (base g : Nat) (v : Value) (d : D) (w : World) (e : Ending) (w' : World) : Prop := e = .returned (.int .i64 (pwE (op d))) ∧ DAt w' base g v (op d) ∧ Turn (One g) (One g) w w'
set_option maxHeartbeats 1000000 in
theorem operate_any {w : World} {base g : Nat} {v : Value} {d : D} (h : DAt w base g v d) : Calls Tryd.prog 80 #[.pointer (some ⟨g, 0, none⟩)] w (OpTold base g v d w) := by
  obtain ⟨c0, c1, c2, c3, c4⟩ := h.cells
  have f2 := h.free 2
  have f4 := h.free 4
  have HD := Lib.hid h
  have HP := Lib.hid (power_cell c2)
  cases hd : d.dead with
  | true =>
    have e : op d = d := by unfold op; rw [if_neg (by rw [hd]; simp)]
    have hp : pwE d = 5 := by unfold pwE; rw [if_pos hd]
    have HN : Hid (OpTold base g v d w (.returned (.int .i64 5)) w) := Lib.hid ⟨by rw [e, hp], by rw [e]; exact h, Turn.refl _ _⟩
    rw [hd] at c2 HP
    clear h e hp hd
    go_enter Tryd.func80, Tryd.ntmps80
    go_wp2_with fail
    refine HP.out.mono ?_
    rintro e w1 ⟨rfl, rfl⟩
    go_wp2_with fail
    refine HP.out.mono ?_
    rintro e w1 ⟨rfl, rfl⟩
    go_wp2_with fail
    go_ret
    exact HN.out
  | false =>
    cases hc : d.cut with
    | false =>
      have e : op d = d := by unfold op; rw [if_neg (by rw [hc]; simp)]
      have hp : pwE d = 0 := by unfold pwE; rw [if_neg (by rw [hd]; simp)]
      have HN : Hid (OpTold base g v d w (.returned (.int .i64 0)) w) := Lib.hid ⟨by rw [e, hp], by rw [e]; exact h, Turn.refl _ _⟩
      rw [hd] at c2 HP
      rw [hc] at c3
      clear h e hp hd hc
      go_enter Tryd.func80, Tryd.ntmps80
      go_wp2_with fail
      refine HP.out.mono ?_
      rintro e w1 ⟨rfl, rfl⟩
      go_wp2_with fail
      refine HP.out.mono ?_
      rintro e w1 ⟨rfl, rfl⟩
      go_wp2_with fail
      go_ret
      exact HN.out
    | true =>
      have h0 := h.on hd hc
      have hnum := h.num
      unfold IW at hnum
      have e : op d = ⟨d.s, d.safe, decide (d.after = 0), true, d.after - 1⟩ := by unfold op; rw [if_pos ⟨hd, hc⟩]
      obtain ⟨b, hb⟩ : ∃ b, b = decide (d.after = 0) := ⟨_, rfl⟩
      have HN : Hid (OpTold base g v d w (.returned (.int .i64 (if b = true then 5 else 0))) ((w.setCell ⟨g, 2, none⟩ (.bool b)).setCell ⟨g, 4, none⟩ (.int .i64 (d.after - 1)))) := Lib.hid (by
        refine ⟨by rw [e, hb]; rfl, ?_, ((Turn.refl (One g) w).put _ (show One g g from rfl)).put _ (show One g g from rfl)⟩
        rw [e]
        have g1 : (w.setCell ⟨g, 2, none⟩ (.bool b)).heap[g]? = _ := heap_setCell_same w g 2 _ _ _ h.box
        refine h.re ?_ (fun k hk => (set_other _ _ _ _ _ hk).trans (set_other _ _ _ _ _ hk)) rfl h.le (fun q _ => ?_) ?_
        · rw [heap_setCell_same (w.setCell ⟨g, 2, none⟩ (.bool b)) g 4 _ _ _ g1]
          simp [box, hb, hc]
        · have := of_decide_eq_false q
          show 0 ≤ d.after - 1
          omega
        · show IW (d.after - 1)
          unfold IW
          omega)
      have HP2 : Hid (Calls Tryd.prog 55 #[.pointer (some ⟨g, 0, none⟩)] ((w.setCell ⟨g, 2, none⟩ (.bool b)).setCell ⟨g, 4, none⟩ (.int .i64 (d.after - 1))) fun e w' => e = .returned (.int .i64 (if b = true then 5 else 0)) ∧ ((w.setCell ⟨g, 2, none⟩ (.bool b)).setCell ⟨g, 4, none⟩ (.int .i64 (d.after - 1))) = w') := Lib.hid (power_cell (by
        have g1 : (w.setCell ⟨g, 2, none⟩ (.bool b)).heap[g]? = _ := heap_setCell_same w g 2 _ _ _ h.box
        rw [cell_of_row _ g 2 _ _ _ (heap_setCell_same (w.setCell ⟨g, 2, none⟩ (.bool b)) g 4 _ _ _ g1)]
        simp [box]))
      rw [hd] at c2 HP
      rw [hc] at c3
      generalize d.after = x at *
      clear h e hd hc
      by_cases hx : x = 0
      · subst hx
        obtain rfl : b = true := by rw [hb]; rfl
        clear hb h0 hnum
        go_enter Tryd.func80, Tryd.ntmps80
        go_wp2_with fail
        refine HP.out.mono ?_
        rintro e w1 ⟨rfl, rfl⟩
        go_wp2_with fail
        refine HP2.out.mono ?_
        rintro e w1 ⟨rfl, rfl⟩
        go_wp2_with fail
        go_ret
        exact HN.out
      · obtain rfl : b = false := by rw [hb]; exact decide_eq_false hx
        have d0 : (x == 0) = false := by simpa using hx
        clear hb
        go_enter Tryd.func80, Tryd.ntmps80
        go_wp2_with fail
        refine HP.out.mono ?_
        rintro e w1 ⟨rfl, rfl⟩
        go_wp2_with fail
        refine HP2.out.mono ?_
        rintro e w1 ⟨rfl, rfl⟩
        go_wp2_with fail
        go_ret
        exact HN.out
end Dk
end Go.Proofs.YtejldeecblppjaaDoor
