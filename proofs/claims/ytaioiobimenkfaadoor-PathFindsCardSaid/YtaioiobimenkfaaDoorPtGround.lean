/-
  Layer 5: stands, groundOf.
-/
import Derived.Test.YtaioiobimenkfaaDoorPtNext
import Derived.Test.YtaioiobimenkfaaDoorPtLib
set_option linter.unusedVariables false
set_option maxRecDepth 100000
namespace Go.Proofs.YtaioiobimenkfaaDoor
open Go.RowKit Fl Pt

theorem onFloor_some {W H : Int} {s : ByteArray} {c : Int} (h : OnFloor W H s c) : ∃ a b k : Nat, W = a ∧ H = b ∧ c = k ∧ k < s.size ∧ at_ s k ≠ 35 ∧ Sides a b s ∧ RightN a b (at_ s) ∧ nears W H s c = nr a b (at_ s) k ∧ nr a b (at_ s) k ≠ [] := by
  obtain ⟨a, b, rfl, rfl, hS, hN⟩ := rightNat h.1
  obtain ⟨k, rfl, hk, hz⟩ := bAt_in h.2
  have h2 := h.2
  rw [hz] at h2
  exact ⟨a, b, k, rfl, rfl, rfl, hk, h2, hS, hN, rfl, near_some hS.w1 hN (by rw [← hS.sz]; exact hk) h2⟩
set_option maxHeartbeats 1000000 in
theorem stands_any (W H : Int) (s : ByteArray) (hs : s.size ≤ maxLen) (c : Int) (w : World) :
    Calls Tryd.prog 22 #[.agg #[.int .i64 W, .int .i64 H, .string s], .int .i64 c] w (Told (OnFloor W H s c) w) := by
  have HNE := Lib.hid (near_any W H s hs c)
  go_enter Tryd.func22, Tryd.ntmps22
  go_wp2_with fail
  refine (HNE.out _).mono ?_
  rintro e w2 ⟨A, n, cap, xs, rfl, hn, h1, h2, ho, hb⟩
  have HB := Lib.hid ((Box.start w W H s 23).after hb)
  have HN := Lib.hid hn
  have H1 := Lib.hid h1
  have H2 := Lib.hid h2
  clear hn h1 h2 ho hb HNE
  go_wp2
  go_ret
  refine ⟨_, rfl, ?_, HB.out.below⟩
  rw [decide_eq_true_eq]
  refine ⟨fun h => ?_, fun h => ?_⟩
  · refine Classical.byContradiction fun hO => ?_
    have := HN.out
    rw [H2.out hO] at this
    simp at this; omega
  · have := HN.out
    rw [H1.out h] at this
    obtain ⟨a, b, k, _, _, _, _, _, _, _, e, hne⟩ := onFloor_some h
    rw [e] at this
    have : (nr a b (at_ s) k).length ≠ 0 := fun e => hne (List.eq_nil_of_length_eq_zero e)
    omega

theorem infoInts : (Tryd.prog.info? 24).map (fun i => (i.zero, i.size, i.bytes)) = some (some (.slice none 0 0), 1, 24) := by kernel_rfl
theorem run_makeInts (n : Nat) (hn : n ≤ 256) (wx : World) : (Instr.makeSlice 45 (.int .i64 (n : Int)) (.int .i64 (n : Int))).run Tryd.prog wx = .ok (.slice (some ⟨wx.heap.size, 0, none⟩) n n) (wx.alloc (.cells (List.replicate n (Value.slice none 0 0)).toArray 24)) := by
  obtain ⟨i0, hi, hz0, hz1, hz2⟩ := info_parts infoInts
  have := run_make (P := Tryd.prog) wx 45 24 i0 _ Tryd.underlying45 hi hz0 .i64 .i64 n n (by omega) (Int.le_refl _) (by rw [hz2]; omega) (by omega)
  simp only [Int.toNat_natCast, hz1, Nat.mul_one] at this
  rw [this]
  have e : madeCells (Value.slice none 0 0).cells n = (List.replicate n (Value.slice none 0 0)).toArray := by
    have := toList_madeCells_one (Value.slice none 0 0) n
    rw [← this]; rfl
  rw [e]

theorem mk_mem {xs : List Nat} {n x : Nat} (hn : n = xs.length) : mk (fun j => ((xs.getD j 0 : Nat) : Int)) n x = decide (x ∈ xs) := by
  rw [Bool.eq_iff_iff, mk_iff, decide_eq_true_eq]
  constructor
  · rintro ⟨j, hj, e⟩
    obtain rfl : xs.getD j 0 = x := by omega
    exact getD_mem (by omega)
  · intro h
    obtain ⟨j, hj, rfl⟩ := List.getElem_of_mem h
    exact ⟨j, by omega, by rw [List.getD, List.getElem?_eq_getElem hj]; rfl⟩
def GroundTold (W H : Nat) (s : ByteArray) (a : Nat) (B : Nat → Bool) (w : World) (e : Ending) (w' : World) : Prop :=
  ∃ gl gs gt, e = .returned (.agg #[.int .i64 (W : Int), .int .i64 (H : Int), .string s, .slice (some ⟨gl, 0, none⟩) s.size s.size, .slice (some ⟨gs, 0, none⟩) s.size s.size, .slice (some ⟨gt, 0, none⟩) s.size s.size]) ∧
    Gd w' W H s a B w.heap.size gl gs gt (fun _ => .slice none 0 0) ∧ Below w.heap.size w w'
/-- Lanes are marked. -/
def LaneTold (s : ByteArray) (w : World) (v : Value) (w' : World) : Prop := ∃ g, v = .slice (some ⟨g, 0, none⟩) s.size s.size ∧ Cells g s.size (fun x => .bool (isL (at_ s x))) w' ∧ w.heap.size ≤ g ∧ Below w.heap.size w w'

/-- The floor's box and the ground's, behind whatever is new. -/
structure Gs (w : World) (W H : Int) (s : ByteArray) (wx : World) : Prop where
  box : Box w W H s wx
  out : ∃ f, Cells (w.heap.size + 1) 6 f wx
theorem Gs.two {w : World} {W H : Int} {s : ByteArray} {wx : World} (h : Gs w W H s wx) : w.heap.size + 2 ≤ wx.heap.size := by
  obtain ⟨f, h1, _⟩ := h.out; omega
theorem Gs.later {w : World} {W H : Int} {s : ByteArray} {wx wy : World} (h : Gs w W H s wx) (hb : Below wx.heap.size wx wy) : Gs w W H s wy := by
  obtain ⟨f, hf⟩ := h.out
  exact ⟨h.box.after hb, f, hf.later hb⟩
theorem Gs.put {w : World} {W H : Int} {s : ByteArray} {wx : World} (h : Gs w W H s wx) (g x : Nat) (v : Value) (hg : w.heap.size + 2 ≤ g) : Gs w W H s (wx.setCell ⟨g, x, none⟩ v) := by
  obtain ⟨f, hf⟩ := h.out
  have ht : Turn (fun k => k = g) (fun k => k = g) wx (wx.setCell ⟨g, x, none⟩ v) := Turn.setCell wx ⟨g, x, none⟩ v rfl
  exact ⟨h.box.later (ht.below _ h.box.lt (fun k hk => by omega)), f, hf.turn ht (by omega)⟩
theorem Gs.drew {w : World} {W H : Int} {s : ByteArray} {wx : World} (h : Gs w W H s wx) : Gs w W H s wx.drew := ⟨h.box.drew, h.out⟩
theorem Gs.more {w : World} {W H : Int} {s : ByteArray} {wx : World} (h : Gs w W H s wx) (o : Obj) : Gs w W H s (wx.alloc o) := h.later ((Below.refl _ wx).alloc (Nat.le_refl _) o)
theorem args_il {w wx : World} {A : Option Addr} {n cap : Nat} {f : Nat → Int} (h : Il w.heap.size w A n cap f) (hb : Below w.heap.size w wx) : Il wx.heap.size wx A n cap f := (h.below hb).raise hb.size
theorem gr_start {w w2 : World} {W H : Int} {s : ByteArray} {l : Array Value} (hb : Below (((w.alloc (.cells #[.int .i64 W, .int .i64 H, .string s] 23)).alloc (.cells l 53)).drew).heap.size ((w.alloc (.cells #[.int .i64 W, .int .i64 H, .string s] 23)).alloc (.cells l 53)).drew w2) (hl : l.size = 6) : Gs w W H s w2 := by
  have h1 : Gs w W H s ((w.alloc (.cells #[.int .i64 W, .int .i64 H, .string s] 23)).alloc (.cells l 53)) := by
    refine ⟨(Box.start w W H s 23).after ((Below.refl _ _).alloc (Nat.le_refl _) _), fun x => l.toList.getD x undef, ?_⟩
    have h0 := heap_alloc_new (w.alloc (.cells #[.int .i64 W, .int .i64 H, .string s] 23)) (.cells l 53)
    have hz : (w.alloc (.cells #[.int .i64 W, .int .i64 H, .string s] 23)).heap.size = w.heap.size + 1 := by simp
    rw [hz] at h0
    exact cells_row (l := l.toList) (by simpa using h0) (by simpa using hl)
  exact (⟨h1.box.drew, h1.out⟩ : Gs w W H s _).later hb
theorem lanes_marked {s : ByteArray} {xs : List Nat} {n g : Nat} {w : World} (hx : xs = pick isL (at_ s) s.size) (hn : n = xs.length) (h : Cells g s.size (fun x => .bool (mk (fun j => ((xs.getD j 0 : Nat) : Int)) n x)) w) : Cells g s.size (fun x => .bool (isL (at_ s x))) w := by
  refine h.congr fun x hx2 => ?_
  show Value.bool (mk _ n x) = .bool (isL (at_ s x))
  rw [mk_mem hn, hx]
  congr 1
  rw [Bool.eq_iff_iff, decide_eq_true_eq, mem_pick]
  exact ⟨fun h => h.2, fun h => ⟨hx2, h⟩⟩
theorem left_marked {s : ByteArray} {g : Nat} {w : World} (a : Nat) (ha : a < s.size) (h : Cells g s.size (fun x => .bool (isL (at_ s x))) w) : Cells g s.size (fun x => .bool (outB (at_ s) a x)) (w.setCell ⟨g, a, none⟩ (.bool true)) := by
  refine h.put a _ ha fun x hx => ?_
  unfold outB
  by_cases e : x = a
  · rw [if_pos e, e]; simp
  · rw [if_neg e, beq_eq_false_iff_ne.2 e]; rfl

theorem new_ints (wx : World) (n : Nat) : Cells wx.heap.size n (fun _ => .slice none 0 0) (wx.alloc (.cells (Array.replicate n (Value.slice none 0 0)) 24)) := by
  have h := heap_alloc_new wx (.cells (Array.replicate n (Value.slice none 0 0)) 24)
  have e : Array.replicate n (Value.slice none 0 0) = (List.replicate n (Value.slice none 0 0)).toArray := by simp
  rw [e] at h ⊢
  refine (cells_row h (by simp)).congr fun x hx => ?_
  simp [List.getD, hx]
theorem new_ints2 {w4 w5 : World} {n : Nat} (hb : Below (w4.drew.alloc (.cells (Array.replicate n (Value.slice none 0 0)) 24)).heap.size (w4.drew.alloc (.cells (Array.replicate n (Value.slice none 0 0)) 24)) w5) : Cells w4.heap.size n (fun _ => .slice none 0 0) w5 :=
  (show Cells w4.drew.heap.size n (fun _ => .slice none 0 0) w5 from (new_ints w4.drew n).later hb)
theorem cells_new5 {w w4 w5 : World} {W H : Int} {s : ByteArray} {gl n : Nat} {f : Nat → Value} {o : Obj} (hg : Gs w W H s w4) (h : Cells gl n f w4) (hb : Below w4.drew.heap.size w4.drew w5) : Cells gl n f (w5.alloc o) := (h.drew.later hb).more o
theorem cells_new6 {w w4 w5 : World} {W H : Int} {s : ByteArray} {gl n : Nat} {f : Nat → Value} {o : Obj} (hg : Gs w W H s w4) (h : Cells gl n f w4) (hb : Below (w4.drew.alloc o).heap.size (w4.drew.alloc o) w5) : Cells gl n f w5 := ((h.drew).more o).later hb
/-- The ground's values. -/
def gvs (W H : Nat) (s : ByteArray) (gl gs gt : Nat) : Nat → Value
  | 0 => .int .i64 (W : Int)
  | 1 => .int .i64 (H : Int)
  | 2 => .string s
  | 3 => .slice (some ⟨gl, 0, none⟩) s.size s.size
  | 4 => .slice (some ⟨gs, 0, none⟩) s.size s.size
  | _ => .slice (some ⟨gt, 0, none⟩) s.size s.size
structure GEnd (W H : Nat) (s : ByteArray) (a : Nat) (B : Nat → Bool) (gl gs gt : Nat) (w w6 : World) : Prop where
  c : ∀ i, i < 6 → w6.cell? ⟨w.heap.size + 1, i, none⟩ = some (gvs W H s gl gs gt i)
  gd : Gd w6 W H s a B w.heap.size gl gs gt (fun _ => .slice none 0 0)
  below : Below w.heap.size w w6
theorem six_cells {b : Nat} {f : Nat → Value} {w : World} (h : Cells b 6 f w) (g : Nat → Value) : Cells b 6 g ((((((w.setCell ⟨b, 0, none⟩ (g 0)).setCell ⟨b, 1, none⟩ (g 1)).setCell ⟨b, 2, none⟩ (g 2)).setCell ⟨b, 3, none⟩ (g 3)).setCell ⟨b, 4, none⟩ (g 4)).setCell ⟨b, 5, none⟩ (g 5)) := by
  have h0 := h.put 0 (g 0) (by decide) (g := fun x => if x < 1 then g x else f x) (fun x hx => by
    by_cases e : x = 0
    · subst e; rfl
    · rw [if_neg (by omega), if_neg e])
  have h1 := h0.put 1 (g 1) (by decide) (g := fun x => if x < 2 then g x else f x) (fun x hx => by
    by_cases e : x = 1
    · subst e; rfl
    · rw [if_neg e]; show _ = if x < 1 then g x else f x; by_cases e2 : x < 1 <;> simp [e2, (by omega : x < 2 ↔ x < 1)])
  have h2 := h1.put 2 (g 2) (by decide) (g := fun x => if x < 3 then g x else f x) (fun x hx => by
    by_cases e : x = 2
    · subst e; rfl
    · rw [if_neg e]; show _ = if x < 2 then g x else f x; by_cases e2 : x < 2 <;> simp [e2, (by omega : x < 3 ↔ x < 2)])
  have h3 := h2.put 3 (g 3) (by decide) (g := fun x => if x < 4 then g x else f x) (fun x hx => by
    by_cases e : x = 3
    · subst e; rfl
    · rw [if_neg e]; show _ = if x < 3 then g x else f x; by_cases e2 : x < 3 <;> simp [e2, (by omega : x < 4 ↔ x < 3)])
  have h4 := h3.put 4 (g 4) (by decide) (g := fun x => if x < 5 then g x else f x) (fun x hx => by
    by_cases e : x = 4
    · subst e; rfl
    · rw [if_neg e]; show _ = if x < 4 then g x else f x; by_cases e2 : x < 4 <;> simp [e2, (by omega : x < 5 ↔ x < 4)])
  exact h4.put 5 (g 5) (by decide) (fun x hx => by
    by_cases e : x = 5
    · subst e; rfl
    · rw [if_neg e]; show _ = if x < 5 then g x else f x; rw [if_pos (by omega)])
theorem ground_end {w wB : World} {W H : Nat} {s : ByteArray} {a gl gs gt : Nat} {B : Nat → Bool} (hG : Gs w (W : Int) (H : Int) s wB) (hl : Cells gl s.size (fun x => .bool (outB (at_ s) a x)) wB) (hs : Cells gs s.size (fun x => .bool (B x)) wB) (ht : Cells gt s.size (fun _ => .slice none 0 0) wB)
    (bl : w.heap.size + 2 ≤ gl) (bs : w.heap.size + 2 ≤ gs) (bt : w.heap.size + 2 ≤ gt) (n1 : gl ≠ gt) (n2 : gs ≠ gt) :
    GEnd W H s a B gl gs gt w ((((((wB.setCell ⟨w.heap.size + 1, 0, none⟩ (.int .i64 (W : Int))).setCell ⟨w.heap.size + 1, 1, none⟩ (.int .i64 (H : Int))).setCell ⟨w.heap.size + 1, 2, none⟩ (.string s)).setCell ⟨w.heap.size + 1, 3, none⟩ (.slice (some ⟨gl, 0, none⟩) s.size s.size)).setCell ⟨w.heap.size + 1, 4, none⟩ (.slice (some ⟨gs, 0, none⟩) s.size s.size)).setCell ⟨w.heap.size + 1, 5, none⟩ (.slice (some ⟨gt, 0, none⟩) s.size s.size)) := by
  obtain ⟨f, hf⟩ := hG.out
  have h6 := six_cells hf (gvs W H s gl gs gt)
  have ht6 : Turn (fun k => k = w.heap.size + 1) (fun k => k = w.heap.size + 1) wB ((((((wB.setCell ⟨w.heap.size + 1, 0, none⟩ (.int .i64 (W : Int))).setCell ⟨w.heap.size + 1, 1, none⟩ (.int .i64 (H : Int))).setCell ⟨w.heap.size + 1, 2, none⟩ (.string s)).setCell ⟨w.heap.size + 1, 3, none⟩ (.slice (some ⟨gl, 0, none⟩) s.size s.size)).setCell ⟨w.heap.size + 1, 4, none⟩ (.slice (some ⟨gs, 0, none⟩) s.size s.size)).setCell ⟨w.heap.size + 1, 5, none⟩ (.slice (some ⟨gt, 0, none⟩) s.size s.size)) :=
    (((((((Turn.refl (fun k => k = w.heap.size + 1) _).put _ rfl).put _ rfl).put _ rfl).put _ rfl).put _ rfl).put _ rfl)
  refine ⟨fun i hi => (h6.2 i hi).1, ⟨hl.turn ht6 (by omega), hs.turn ht6 (by omega), ht.turn ht6 (by omega), by omega, by omega, by omega, n1, n2, fun c hc => .inl rfl⟩, ?_⟩
  exact hG.box.below.trans (ht6.below _ hG.box.below.size (fun k hk => by omega))

theorem res_ground {A : Nat} {w6 : World} {v0 v1 v2 v3 v4 v5 : Value} (T : Array Value) (hT : T[6]? = some (.pointer (some ⟨A, 0, none⟩))) (h0 : w6.cell? ⟨A, 0, none⟩ = some v0) (h1 : w6.cell? ⟨A, 1, none⟩ = some v1) (h2 : w6.cell? ⟨A, 2, none⟩ = some v2) (h3 : w6.cell? ⟨A, 3, none⟩ = some v3) (h4 : w6.cell? ⟨A, 4, none⟩ = some v4) (h5 : w6.cell? ⟨A, 5, none⟩ = some v5) :
    (results Tryd.f27 T).run Tryd.prog w6 = .ok (.agg #[v0, v1, v2, v3, v4, v5]) w6 := by
  simp only [results, Tryd.results27]
  go_simp
theorem alloc_size (w : World) (o : Obj) : (w.alloc o).heap.size = w.heap.size + 1 := by simp
theorem path_b {w4 : World} {o : Obj} {B gs : Nat} (h : B ≤ w4.heap.size) (hs : (w4.drew.alloc o).heap.size ≤ gs) : B ≤ gs ∧ gs ≠ w4.heap.size := by
  have e := alloc_size w4.drew o
  have e2 : w4.drew.heap.size = w4.heap.size := rfl
  omega

set_option maxHeartbeats 2000000 in
theorem groundOf_any (W H a : Nat) (s : ByteArray) (A : Option Addr) (n cap : Nat) (f : Nat → Int) (w : World) (hR : Right (W : Int) (H : Int) s) (ha : a < s.size) (h : Il w.heap.size w A n cap f) :
    Calls Tryd.prog 27 #[.agg #[.int .i64 (W : Int), .int .i64 (H : Int), .string s], .int .i64 (a : Int), .slice A n cap] w (GroundTold W H s a (mk f n) w) := by
  have h256 := rightLe hR
  have hs1 : 1 ≤ s.size := by omega
  have HI := Lib.hid h
  have HR := Lib.hid hR
  have HL := Lib.hid (lanes_any (W : Int) (H : Int) s (by unfold maxLen; omega))
  have HM := Lib.hid (fun A n cap f wx h => marked_any (W : Int) (H : Int) s A n cap f wx ⟨hs1, h256⟩ h)
  have HMK := Lib.hid (run_makeInts s.size h256)
  clear h hR
  go_enter Tryd.func27, Tryd.ntmps27
  go_wp2_with fail
  go_region_held3 (fun w' => w'.cell? ⟨w.heap.size, 0, none⟩ = some (.int .i64 (W : Int)) ∧ w'.cell? ⟨w.heap.size, 1, none⟩ = some (.int .i64 (H : Int)) ∧ w'.cell? ⟨w.heap.size, 2, none⟩ = some (.string s)) (go_keep)
    ((first
      | (go_at_call 49; refine (HL.out _).mono ?_; rintro e w2 ⟨A2, n2, c2, xs, rfl, hn2, hx2, _, ho2, hb2⟩; have HG2 := Lib.hid (gr_start hb2 rfl); have HX2 := Lib.hid (hx2 HR.out); have HN2 := Lib.hid hn2; have HI2 := Lib.hid (ho2.il hn2); clear hn2 hx2 ho2 hb2; have e0 := HG2.out.box.c0; have e1 := HG2.out.box.c1; have e2 := HG2.out.box.c2)
      | (go_at_call 48; refine (HM.out A2 n2 c2 _ _ HI2.out).mono ?_; rintro e w3 ⟨gl, rfl, hc3, hg3, hb3⟩; have HG3 := Lib.hid (HG2.out.later hb3); have HC3 := Lib.hid (lanes_marked HX2.out HN2.out hc3); have HL3 : Hid (w.heap.size + 2 ≤ gl) := Lib.hid (Nat.le_trans HG2.out.two hg3); clear hc3 hg3 hb3; have e0 := HG3.out.box.c0; have e1 := HG3.out.box.c1; have e2 := HG3.out.box.c2)))
  have m1 := (HC3.out.2 a ha).1
  have m2 := (HC3.out.2 a ha).2
  have HC4 := Lib.hid (left_marked a ha HC3.out)
  have HG4 := Lib.hid (HG3.out.put gl a (.bool true) HL3.out)
  clear e0 e1 e2
  go_wp2_with fail
  clear m1 m2
  generalize w3.setCell ⟨gl, a, none⟩ (.bool true) = w4 at *
  have e0 := HG4.out.box.c0
  have e1 := HG4.out.box.c1
  have e2 := HG4.out.box.c2
  have hmk := HMK.out
  go_region_held3 (fun w' => w'.cell? ⟨w.heap.size, 0, none⟩ = some (.int .i64 (W : Int)) ∧ w'.cell? ⟨w.heap.size, 1, none⟩ = some (.int .i64 (H : Int)) ∧ w'.cell? ⟨w.heap.size, 2, none⟩ = some (.string s)) (go_keep)
    ((go_at_call 48; refine (HM.out A n cap f _ (args_il HI.out (by first | exact HG4.out.drew.box.below | exact (HG4.out.drew.more _).box.below))).mono ?_; rintro e w5 ⟨gs, rfl, hc5, hg5, hb5⟩; have HG5 : Hid (Gs w W H s w5) := Lib.hid (by first | exact HG4.out.drew.later hb5 | exact (HG4.out.drew.more _).later hb5); have HC5 := Lib.hid hc5; have HN5 := Lib.hid hg5; have HB5 := Lib.hid hb5; clear hc5 hg5 hb5; have e0 := HG5.out.box.c0; have e1 := HG5.out.box.c1; have e2 := HG5.out.box.c2; have htwo := HG5.out.two; obtain ⟨fz, hfz⟩ := HG5.out.out; have z0 := (hfz.2 0 (by decide)).1; have z1 := (hfz.2 1 (by decide)).1; have z2 := (hfz.2 2 (by decide)).1; have z3 := (hfz.2 3 (by decide)).1; have z4 := (hfz.2 4 (by decide)).1; have z5 := (hfz.2 5 (by decide)).1; have y0 := (hfz.2 0 (by decide)).2; have y1 := (hfz.2 1 (by decide)).2; have y2 := (hfz.2 2 (by decide)).2; have y3 := (hfz.2 3 (by decide)).2; have y4 := (hfz.2 4 (by decide)).2; have y5 := (hfz.2 5 (by decide)).2; have za0 := fun o => ((hfz.more o).2 0 (by decide)).1; have ya0 := fun o => ((hfz.more o).2 0 (by decide)).2; have za1 := fun o => ((hfz.more o).2 1 (by decide)).1; have ya1 := fun o => ((hfz.more o).2 1 (by decide)).2; have za2 := fun o => ((hfz.more o).2 2 (by decide)).1; have ya2 := fun o => ((hfz.more o).2 2 (by decide)).2; have za3 := fun o => ((hfz.more o).2 3 (by decide)).1; have ya3 := fun o => ((hfz.more o).2 3 (by decide)).2; have za4 := fun o => ((hfz.more o).2 4 (by decide)).1; have ya4 := fun o => ((hfz.more o).2 4 (by decide)).2; have za5 := fun o => ((hfz.more o).2 5 (by decide)).1; have ya5 := fun o => ((hfz.more o).2 5 (by decide)).2; have HFZ := Lib.hid hfz; clear hfz))
  · have hE := ground_end (HG5.out.more _) (cells_new5 HG4.out HC4.out HB5.out) (HC5.out.more _) (new_ints w5 s.size) HL3.out (Nat.le_trans HG4.out.two HN5.out) htwo (by have := HC4.out.1; have := HB5.out.size; have : w4.drew.heap.size = w4.heap.size := rfl; omega) (by have := HC5.out.1; omega)
    generalize (World.setCell _ ⟨w.heap.size + 1, 5, none⟩ _) = w6 at hE ⊢
    have q0 : w6.cell? ⟨w.heap.size + 1, 0, none⟩ = some (.int .i64 (W : Int)) := hE.c 0 (by decide)
    have q1 : w6.cell? ⟨w.heap.size + 1, 1, none⟩ = some (.int .i64 (H : Int)) := hE.c 1 (by decide)
    have q2 : w6.cell? ⟨w.heap.size + 1, 2, none⟩ = some (.string s) := hE.c 2 (by decide)
    have q3 : w6.cell? ⟨w.heap.size + 1, 3, none⟩ = some (.slice (some ⟨gl, 0, none⟩) s.size s.size) := hE.c 3 (by decide)
    have q4 : w6.cell? ⟨w.heap.size + 1, 4, none⟩ = some (.slice (some ⟨gs, 0, none⟩) s.size s.size) := hE.c 4 (by decide)
    have q5 : w6.cell? ⟨w.heap.size + 1, 5, none⟩ = some (.slice (some ⟨w5.heap.size, 0, none⟩) s.size s.size) := hE.c 5 (by decide)
    have HE := Lib.hid hE
    clear hE
    clear z0 z1 z2 z3 z4 z5 y0 y1 y2 y3 y4 y5 za0 za1 za2 za3 za4 za5 ya0 ya1 ya2 ya3 ya4 ya5 hmk e0 e1 e2
    go_wp2_with fail
    exact bodyPost_ret (v := .agg #[.int .i64 (W : Int), .int .i64 (H : Int), .string s, .slice (some ⟨gl, 0, none⟩) s.size s.size, .slice (some ⟨gs, 0, none⟩) s.size s.size, .slice (some ⟨w5.heap.size, 0, none⟩) s.size s.size]) (res_ground _ rfl q0 q1 q2 q3 q4 q5) rfl ⟨_, _, _, rfl, HE.out.gd, HE.out.below⟩
  · have hE := ground_end HG5.out (cells_new6 HG4.out HC4.out HB5.out) HC5.out (new_ints2 HB5.out) HL3.out (path_b HG4.out.two HN5.out).1 HG4.out.two (Nat.ne_of_lt HC4.out.1) (path_b HG4.out.two HN5.out).2
    generalize (World.setCell _ ⟨w.heap.size + 1, 5, none⟩ _) = w6 at hE ⊢
    have q0 : w6.cell? ⟨w.heap.size + 1, 0, none⟩ = some (.int .i64 (W : Int)) := hE.c 0 (by decide)
    have q1 : w6.cell? ⟨w.heap.size + 1, 1, none⟩ = some (.int .i64 (H : Int)) := hE.c 1 (by decide)
    have q2 : w6.cell? ⟨w.heap.size + 1, 2, none⟩ = some (.string s) := hE.c 2 (by decide)
    have q3 : w6.cell? ⟨w.heap.size + 1, 3, none⟩ = some (.slice (some ⟨gl, 0, none⟩) s.size s.size) := hE.c 3 (by decide)
    have q4 : w6.cell? ⟨w.heap.size + 1, 4, none⟩ = some (.slice (some ⟨gs, 0, none⟩) s.size s.size) := hE.c 4 (by decide)
    have q5 : w6.cell? ⟨w.heap.size + 1, 5, none⟩ = some (.slice (some ⟨w4.heap.size, 0, none⟩) s.size s.size) := hE.c 5 (by decide)
    have HE := Lib.hid hE
    clear hE
    clear z0 z1 z2 z3 z4 z5 y0 y1 y2 y3 y4 y5 za0 za1 za2 za3 za4 za5 ya0 ya1 ya2 ya3 ya4 ya5 hmk e0 e1 e2
    go_wp2_with fail
    exact bodyPost_ret (v := .agg #[.int .i64 (W : Int), .int .i64 (H : Int), .string s, .slice (some ⟨gl, 0, none⟩) s.size s.size, .slice (some ⟨gs, 0, none⟩) s.size s.size, .slice (some ⟨w4.heap.size, 0, none⟩) s.size s.size]) (res_ground _ rfl q0 q1 q2 q3 q4 q5) rfl ⟨_, _, _, rfl, HE.out.gd, HE.out.below⟩
end Go.Proofs.YtaioiobimenkfaaDoor
