/-
  Layer 8: who holds which zone, told by a closure (holder).
-/
import Derived.Test.YtljmigomhoefpaaBkB
set_option linter.unusedVariables false
set_option maxRecDepth 100000
namespace Go.Proofs.Ytljmigomhoefpaa.Bk
open Go.RowKit

theorem Try.infoZone8 : (Try.prog.info? 46).map (fun i => (i.zero, i.size, i.bytes)) = some (some (.int .u32 0), 1, 4) := by kernel_rfl
/-- n cells of block b. -/
def Cells (b n : Nat) (f : Nat → Value) (w : World) : Prop := b < w.heap.size ∧ ∀ x, x < n → w.cell? ⟨b, x, none⟩ = some (f x) ∧ w.frozen? ⟨b, x, none⟩ = false
theorem Cells.same {b n : Nat} {f : Nat → Value} {w w' : World} (h : Cells b n f w) (hs : w.heap.size ≤ w'.heap.size) (hb : w'.heap[b]? = w.heap[b]?) : Cells b n f w' :=
  ⟨Nat.lt_of_lt_of_le h.1 hs, fun x hx => ⟨(World.cell?_of_block (a := ⟨b, x, none⟩) hb).trans (h.2 x hx).1, (World.frozen?_of_block (a := ⟨b, x, none⟩) hb).trans (h.2 x hx).2⟩⟩
theorem Cells.later {b n : Nat} {f : Nat → Value} {w w' : World} (h : Cells b n f w) (hb : Below w.heap.size w w') : Cells b n f w' := h.same hb.size (hb.block b h.1)
theorem Cells.congr {b n : Nat} {f g : Nat → Value} {w : World} (h : Cells b n f w) (e : ∀ x, x < n → f x = g x) : Cells b n g w := ⟨h.1, fun x hx => by rw [← e x hx]; exact h.2 x hx⟩
theorem Cells.put {b n : Nat} {f g : Nat → Value} {w : World} (h : Cells b n f w) (y : Nat) (v : Value) (hy : y < n) (hg : ∀ x, x < n → g x = if x = y then v else f x) : Cells b n g (w.setCell ⟨b, y, none⟩ v) := by
  refine ⟨by simpa [World.setCell] using h.1, fun q hq => ⟨?_, by rw [World.frozen?_setCell]; exact (h.2 q hq).2⟩⟩
  rw [hg q hq]
  by_cases e : q = y
  · subst e
    rw [if_pos rfl, World.cell?_setCell_same (h := (h.2 q hq).1)]
  · rw [if_neg e, World.cell?_setCell_other (h := (fun e2 => e (by simpa using e2.symm) : (⟨b, y, none⟩ : Addr) ≠ ⟨b, q, none⟩))]
    exact (h.2 q hq).1
theorem Cells.made {w1 : World} {base g n : Nat} {e : TypeId} {u : Value} (hu : u.cells = #[u]) (h : w1.ownsRow base e 1 (.slice (some ⟨g, 0, none⟩) n n) n (madeCells u.cells (n * 1)).toList) : Cells g n (fun _ => u) w1 := by
  refine ⟨(h.lt g rfl).2, fun x hx => ⟨?_, h.frozenAt x⟩⟩
  rw [h.cellAt x (by omega)]
  simp [madeCells, hu, hx, Nat.mod_one]

/-- What all hold, as sets in a block g, boxed in bx. -/
structure Hv (w : World) (bx g : Nat) (f : Nat → Nat) (C : Cm) : Prop where
  box : w.cell? ⟨bx, 0, none⟩ = some (.slice (some ⟨g, 0, none⟩) C.length C.length)
  lt : bx < w.heap.size
  few : C.length ≤ 8
  row : Cells g C.length (fun x => .int .u32 (f x : Int)) w
  set : ∀ j, j < C.length → SetIs (f j) (hold C j)
theorem Hv.later {w w' : World} {bx g : Nat} {f : Nat → Nat} {C : Cm} (h : Hv w bx g f C) (hb : Below w.heap.size w w') : Hv w' bx g f C :=
  ⟨(hb.cell (p := ⟨bx, 0, none⟩) h.lt).trans h.box, Nat.lt_of_lt_of_le h.lt hb.size, h.few, h.row.later hb, h.set⟩
/-- The closure's value. -/
def holdV (bx : Nat) : Value := .func (.func 30) #[] #[.pointer (some ⟨bx, 0, none⟩)]
theorem holder1_any (bx g : Nat) (f : Nat → Nat) (C : Cm) (w : World) (h : Hv w bx g f C) (a : Nat) (ha : a < C.length) (z : Int) (hz : Zn z) :
    Calls Try.prog 30 #[.int .i64 (a : Int), .int .i64 z, .pointer (some ⟨bx, 0, none⟩)] w fun e w' => e = .returned (.bool (hb C a z)) ∧ w = w' := by
  obtain ⟨y, rfl⟩ := Int.eq_ofNat_of_zero_le hz.1
  have hy : y < 26 := by have := hz.2; omega
  have c0 := h.box
  have c1 : w.cell? ⟨g, a, none⟩ = some (.int .u32 (f a : Int)) := (h.row.2 a ha).1
  have hs := h.set a ha
  have hl := h.few
  have HB : Hid ((f a).testBit y = hb C a (y : Int)) := Lib.hid (by
    unfold hb
    have := hs.bit y hy
    cases e : (f a).testBit y with
    | true => rw [e] at this; rw [decide_eq_true (this.1 rfl)]
    | false => rw [e] at this; rw [decide_eq_false (fun h => by cases this.2 h)])
  have hlt := hs.lt
  clear hs hz
  generalize C.length = n at *
  generalize f a = N at *
  go_enter Try.func30, Try.ntmps30
  clear h
  go_wp2_with fail
  refine (has_any N y hlt hy _).mono ?_
  rintro e w' ⟨rfl, rfl⟩
  go_wp2_with fail
  go_ret
  exact ⟨ret_bool HB.out, rfl⟩

/-- What has been seen of the claims. -/
structure Seen (C : Cm) (j N : Nat) (f : Nat → Nat) : Prop where
  lt : N < 67108864
  all : ∀ z : Nat, z < 26 → (N.testBit z = true ↔ ∃ i, i < j ∧ (z : Int) ∈ hold C i)
  set : ∀ i, i < j → SetIs (f i) (hold C i)
  zones : ∀ i, i < j → (∀ z ∈ hold C i, Zn z) ∧ ∀ z ∈ need C i, Zn z
  apart : ∀ i k, i < j → k < j → i ≠ k → ∀ z ∈ hold C i, z ∉ hold C k
theorem Seen.start (C : Cm) (f : Nat → Nat) : Seen C 0 0 f := ⟨by decide, fun z hz => by simp, fun i hi => by omega, fun i hi => by omega, fun i k hi => by omega⟩
theorem Seen.clash {C : Cm} {j N M : Nat} {f : Nat → Nat} (h : Seen C j N f) (hM : SetIs M (hold C j)) (hne : N &&& M ≠ 0) : ∃ i z, i < j ∧ z ∈ hold C i ∧ z ∈ hold C j := by
  obtain ⟨z, hz⟩ := Nat.exists_testBit_of_ne_zero hne
  rw [Nat.testBit_and, Bool.and_eq_true] at hz
  have hz2 : z < 26 := by
    rcases Nat.lt_or_ge z 26 with q | q
    · exact q
    · have : N.testBit z = false := Nat.testBit_lt_two_pow (Nat.lt_of_lt_of_le h.lt (Nat.pow_le_pow_right (by decide) q : 2 ^ 26 ≤ 2 ^ z))
      rw [this] at hz; cases hz.1
  obtain ⟨i, hi, h1⟩ := (h.all z hz2).1 hz.1
  exact ⟨i, z, hi, h1, (hM.bit z hz2).1 hz.2⟩
theorem Seen.next {C : Cm} {j N M : Nat} {f : Nat → Nat} (h : Seen C j N f) (hM : SetIs M (hold C j)) (hz1 : ∀ z ∈ hold C j, Zn z) (hz2 : ∀ z ∈ need C j, Zn z) (h0 : N &&& M = 0) :
    Seen C (j + 1) (N ||| M) (fun i => if i = j then M else f i) := by
  have hno : ∀ i, i < j → ∀ z ∈ hold C i, z ∉ hold C j := fun i hi z hz hz' => by
    have hZ := hz1 z hz'
    obtain ⟨y, rfl⟩ := Int.eq_ofNat_of_zero_le hZ.1
    have hy : y < 26 := by have := hZ.2; omega
    have : (N &&& M).testBit y = true := by rw [Nat.testBit_and, (h.all y hy).2 ⟨i, hi, hz⟩, (hM.bit y hy).2 hz']; rfl
    rw [h0] at this; simp at this
  refine ⟨Nat.or_lt_two_pow (n := 26) h.lt hM.lt, fun z hz => ?_, fun i hi => ?_, fun i hi => ?_, fun i k hi hk hne => ?_⟩
  · rw [Nat.testBit_or, Bool.or_eq_true, h.all z hz, hM.bit z hz]
    constructor
    · rintro (⟨i, hi, h1⟩ | h1)
      · exact ⟨i, by omega, h1⟩
      · exact ⟨j, by omega, h1⟩
    · rintro ⟨i, hi, h1⟩
      rcases Nat.lt_succ_iff_lt_or_eq.1 hi with q | q
      · exact .inl ⟨i, q, h1⟩
      · subst q; exact .inr h1
  · by_cases e : i = j
    · subst e; simpa using hM
    · simpa [e] using h.set i (by omega)
  · by_cases e : i = j
    · subst e; exact ⟨hz1, hz2⟩
    · exact h.zones i (by omega)
  · by_cases e : i = j
    · subst e
      intro z hz hz'
      exact hno k (by omega) z hz' hz
    · by_cases e' : k = j
      · subst e'; exact hno i (by omega)
      · exact h.apart i k (by omega) (by omega) hne
theorem Seen.right {C : Cm} {N : Nat} {f : Nat → Nat} (h : Seen C C.length N f) (h8 : C.length ≤ 8) : Rg C := ⟨h8, h.zones, h.apart⟩
/-- Who holds what is told, of claims that are right. -/
def HolderTold (C : Cm) (w : World) (e : Ending) (w' : World) : Prop :=
  Below w.heap.size w w' ∧ ((¬ Rg C ∧ e = .returned (.tuple #[.nilFunc, .bool false])) ∨ (Rg C ∧ ∃ bx g f, e = .returned (.tuple #[holdV bx, .bool true]) ∧ Hv w' bx g f C))
theorem and_none (N M : Nat) (hN : N < 67108864) (hM : M < 67108864) : (bits BinOp.and IntKind.u32 (N : Int) (M : Int) != 0) = decide (N &&& M ≠ 0) := by
  rw [and_u32 N M (by omega) (by omega)]
  by_cases h : N &&& M = 0
  · rw [h]; rfl
  · rw [decide_eq_true h, bne_iff_ne]; omega
/-- The loop's state. -/
structure Hs (w : World) (bx n : Nat) (C : Cm) (j N : Nat) (wr : World) : Prop where
  below : Below w.heap.size w wr
  box : wr.cell? ⟨bx, 0, none⟩ = some (.slice (some ⟨w.heap.size, 0, none⟩) n n)
  lt : bx < wr.heap.size
  new : w.heap.size < bx
  ex : ∃ f, Cells w.heap.size n (fun x => .int .u32 ((if x < j then f x else 0 : Nat) : Int)) wr ∧ Seen C j N f
theorem Hs.later {w : World} {bx n : Nat} {C : Cm} {j N : Nat} {wr wr' : World} (h : Hs w bx n C j N wr) (hb : Below wr.heap.size wr wr') : Hs w bx n C j N wr' := by
  obtain ⟨h1, h2, h3, h0, f, h4, h5⟩ := h
  exact ⟨h1.trans (hb.mono h1.size), (hb.cell (p := ⟨bx, 0, none⟩) h3).trans h2, Nat.lt_of_lt_of_le h3 hb.size, h0, f, h4.later hb, h5⟩
theorem Hs.put {w : World} {bx n : Nat} {C : Cm} {j N M : Nat} {wr : World} (h : Hs w bx n C j N wr) (hj : j < n) (hM : SetIs M (hold C j)) (hz1 : ∀ z ∈ hold C j, Zn z) (hz2 : ∀ z ∈ need C j, Zn z) (h0 : N &&& M = 0) :
    Hs w bx n C (j + 1) (N ||| M) (wr.setCell ⟨w.heap.size, j, none⟩ (.int .u32 (M : Int))) := by
  obtain ⟨h1, h2, h3, h4, f, h5, h6⟩ := h
  refine ⟨h1.setCell (by simp) _, ?_, by simpa [World.setCell] using h3, h4, _, h5.put j _ hj (fun x hx => ?_), h6.next hM hz1 hz2 h0⟩
  · rw [World.cell?_setCell_other (h := (fun e => by have e : w.heap.size = bx := by simpa using congrArg Addr.block e
                                                     omega))]
    exact h2
  · by_cases e : x = j
    · subst e; simp
    · rw [if_neg e]
      by_cases e2 : x < j
      · rw [if_pos e2, if_pos (by omega), if_neg e]
      · rw [if_neg e2, if_neg (by omega), if_neg e]
set_option maxHeartbeats 2000000 in
theorem holder_any (A : Option Addr) (n cap : Nat) (C : Cm) (w : World) (h : Cl w.heap.size w A n cap C) : Calls Try.prog 22 #[.slice A n cap] w (HolderTold C w) := by
  have HC := Lib.hid h
  have hs := h.size
  have hs1 := hs.1
  have hs2 := hs.2
  have HN := Lib.hid h.len
  clear h hs
  obtain ⟨i0, hi, hz0, hz1, hz2⟩ := info_parts Try.infoZone8
  by_cases h8 : n ≤ 8
  · go_enter Try.func22, Try.ntmps22
    go_wp2_with (at_make; go_must (refine wpList_make_full _ rfl _ _ 47 rfl w.heap.size 46 i0 (.int .u32 0) 1 Try.underlying47 hi hz0 hz1 .i64 .i64 _ _ n rfl rfl rfl rfl (by rw [hz2]; omega) (by unfold maxLen; omega) (by simp) ?_); intro w1 ho1 hg1; have hA1 : Cells w.heap.size n (fun _ => .int .u32 0) w1 := (by have h := Cells.made rfl ho1; simpa using h); have hB1 : Below w.heap.size w w1 := (Below.grown (Below.refl _ w) hg1 (by simp) (fun k hk => by cases hk)); have HA1 := Lib.hid hA1; have HB1 := Lib.hid hB1; clear ho1 hg1 hA1 hB1)
    have HS1 : Hid (Hs w w1.heap.size n C 0 0 (w1.alloc (.cells #[.slice (some ⟨w.heap.size, 0, none⟩) n n] 47))) := Lib.hid
      ⟨HB1.out.trans ((Below.refl _ w1).alloc HB1.out.size _), by simp [World.cell?_alloc_new], by simp, HA1.out.1, fun _ => 0, (HA1.out.later ((Below.refl _ w1).alloc (Nat.le_refl _) _)).congr (fun x hx => by simp), Seen.start C _⟩
    clear hi hz0 hz1 hz2 HA1 HB1
    generalize w1.heap.size = bx at *
    generalize w1.alloc (.cells #[.slice (some ⟨w.heap.size, 0, none⟩) n n] 47) = w2 at *
    go_loopw [20, 4] (fun iv sv wr => ∃ j N : Nat, j ≤ n ∧ iv = .int .i64 (j : Int) ∧ sv = .int .u32 (N : Int) ∧ Hs w bx n C j N wr) (fun iv _ _ => n - (intOf iv).toNat)
    case atStart => exact ⟨0, 0, Nat.zero_le _, rfl, rfl, HS1.out⟩
    case round =>
      rename World => wr
      obtain ⟨j, N, hj, rfl, rfl, hS⟩ := hrel
      have HS := Lib.hid hS
      clear hS
      by_cases hlt : j < n
      · obtain ⟨g, off, a1, n1, c1, a2, n2, c2, rfl, hg, q1, q2, k1, k2⟩ := (HC.out.below HS.out.below).cell hlt
        have HS2 := Lib.hid (HS.out.later ((Below.refl wr.heap.size wr).alloc (Nat.le_refl _) (.cells #[.slice a1 n1 c1, .slice a2 n2 c2] 33)))
        have hb2 := (Below.refl w.heap.size wr).alloc HS.out.below.size (.cells #[.slice a1 n1 c1, .slice a2 n2 c2] 33)
        have K1 := Lib.hid (Gt.below k1 hb2)
        have K2 := Lib.hid (Gt.below k2 hb2)
        have d1 : (wr.alloc (.cells #[.slice a1 n1 c1, .slice a2 n2 c2] 33)).cell? ⟨wr.heap.size, 0, none⟩ = some (.slice a1 n1 c1) := by simp [World.cell?_alloc_new]
        have d2 : (wr.alloc (.cells #[.slice a1 n1 c1, .slice a2 n2 c2] 33)).cell? ⟨wr.heap.size, 1, none⟩ = some (.slice a2 n2 c2) := by simp [World.cell?_alloc_new]
        clear k1 k2 hb2
        go_wp2_with fail
        refine (setOf_any a1 n1 c1 _ (hold C j) _ K1.out).mono ?_
        rintro e w' ⟨rfl, hh⟩
        have HX : Hid (∀ (M : Nat), SetIs M (hold C j) → N &&& M ≠ 0 → ¬ Rg C) := Lib.hid (fun M hM hne hR => by
          obtain ⟨f, _, hf⟩ := HS.out.ex
          obtain ⟨i, z, hi, h1, h2⟩ := hf.clash hM hne
          exact hR.apart i j (by rw [HN.out]; omega) (by rw [HN.out]; omega) (by omega) z h1 h2)
        have hNlt : N < 67108864 := by obtain ⟨f, _, hf⟩ := HS.out.ex; exact hf.lt
        generalize wr.heap.size = sz at *
        generalize wr.alloc (.cells #[.slice a1 n1 c1, .slice a2 n2 c2] 33) = w3 at *
        clear q1 q2
        rcases hh with ⟨rfl, hno⟩ | ⟨M, rfl, hM, hz1⟩
        · have HR : Hid (¬ Rg C) := Lib.hid (fun h => hno (h.zones j (by rw [HN.out]; exact hlt)).1)
          clear hno
          go_wp2_with fail
          refine (setOf_any a2 n2 c2 _ (need C j) _ K2.out).mono ?_
          rintro e w' ⟨rfl, hh⟩
          rcases hh with ⟨rfl, _⟩ | ⟨M, rfl, _, _⟩
          · go_wp2_with fail
            go_ret2
            exact ⟨HS2.out.below, .inl ⟨HR.out, rfl⟩⟩
          · go_wp2_with fail
            go_ret2
            exact ⟨HS2.out.below, .inl ⟨HR.out, rfl⟩⟩
        · have HM := Lib.hid hM
          have hMlt := hM.lt
          have HZ1 := Lib.hid hz1
          clear hM hz1
          go_wp2_with fail
          refine (setOf_any a2 n2 c2 _ (need C j) _ K2.out).mono ?_
          rintro e w' ⟨rfl, hh⟩
          rcases hh with ⟨rfl, hno⟩ | ⟨M2, rfl, _, hz2⟩
          · have HR : Hid (¬ Rg C) := Lib.hid (fun h => hno (h.zones j (by rw [HN.out]; exact hlt)).2)
            clear hno
            go_wp2_with fail
            go_ret2
            exact ⟨HS2.out.below, .inl ⟨HR.out, rfl⟩⟩
          · have HZ2 := Lib.hid hz2
            clear hz2
            have hand := and_none N M hNlt hMlt
            by_cases h0 : N &&& M = 0
            · rw [show decide (N &&& M ≠ 0) = false by simp [h0]] at hand
              have HS3 := Lib.hid (HS2.out.put hlt HM.out HZ1.out HZ2.out h0)
              have hbox := HS2.out.box
              obtain ⟨f, hf, _⟩ := HS2.out.ex
              obtain ⟨e1, e2⟩ := hf.2 j hlt
              have hor := or_u32 N M (by omega) (by omega)
              clear hf h0 hNlt hMlt
              go_wp2_with fail
              go_roundw
              case rel => exact ⟨j + 1, N ||| M, by omega, by go_num, rfl, HS3.out⟩
              case measure => simp [intOf]; omega
            · rw [show decide (N &&& M ≠ 0) = true by simp [h0]] at hand
              have HR := Lib.hid (HX.out M HM.out h0)
              clear h0
              go_wp2_with fail
              go_ret2
              exact ⟨HS2.out.below, .inl ⟨HR.out, rfl⟩⟩
      · obtain rfl : j = n := by omega
        go_wp2_with fail
        go_ret2
        refine ⟨HS.out.below, .inr ?_⟩
        obtain ⟨f, hf, hS⟩ := HS.out.ex
        obtain rfl := HN.out
        exact ⟨hS.right h8, bx, w.heap.size, f, rfl, ⟨HS.out.box, HS.out.lt, h8, hf.congr (fun x hx => by simp [hx]), hS.set⟩⟩
  · have h8I : (8 : Int) < (n : Int) := by omega
    go_enter Try.func22, Try.ntmps22
    go_wp2_with fail
    go_ret2
    exact ⟨Below.refl _ _, .inl ⟨fun h => h8 (by rw [← HN.out]; exact h.few), rfl⟩⟩
end Go.Proofs.Ytljmigomhoefpaa.Bk
