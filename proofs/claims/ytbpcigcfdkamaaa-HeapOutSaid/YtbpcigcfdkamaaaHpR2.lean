/-
  The document's heap: an item is pushed.
-/
import Derived.Test.YtbpcigcfdkamaaaHpR1
import Derived.Deep.DeepMust
import Derived.Deep.CutRange
import Derived.Deep.DeepCutAuto
set_option linter.unusedVariables false
namespace Go.Proofs.Ytbpcigcfdkamaaa
open Go.RowKit E

theorem below_drewN (B : Nat) (w : World) (n : Nat) : Below B w (w.drewN n) := ⟨rfl, rfl, rfl, Nat.le_refl _, fun _ _ => rfl⟩

theorem It.take {B : Nat} {w : World} {A : Option Addr} {n cap k : Nat} {f : Nat → Int × Int} (h : It B w A n cap f) (hk : k ≤ n) : It B w A k cap f :=
  ⟨by have := h.le; omega, h.max, h.nil, fun hn => by
    obtain ⟨g, off, e, hg, hc⟩ := h.cell (by omega)
    exact ⟨g, off, e, hg, fun j hj => hc j (by omega)⟩⟩
theorem It.drop {B : Nat} {w : World} {g off n cap k : Nat} {f : Nat → Int × Int} (h : It B w (some ⟨g, off, none⟩) n cap f) (hk : k ≤ n) {A : Option Addr} (hA : A = some ⟨g, off + k * 2, none⟩ ∨ (n = k ∧ A = some ⟨g, off, none⟩)) : It B w A (n - k) (cap - k) (fun i => f (i + k)) := by
  refine ⟨by have := h.le; omega, by have := h.max; omega, fun e => ?_, fun hn => ?_⟩
  · rcases hA with q | ⟨_, q⟩ <;> (rw [q] at e; cases e)
  · obtain ⟨g', off', e, hg, hc⟩ := h.cell (by omega)
    injection e with e
    injection e with e1 e2
    subst e1 e2
    rcases hA with q | ⟨q0, q⟩
    · refine ⟨g, off + k * 2, q, hg, fun j hj => ?_⟩
      have := hc (j + k) (by omega)
      have e3 : off + (j + k) * 2 = off + k * 2 + j * 2 := by omega
      rw [e3] at this
      exact this
    · omega
theorem It.two (w : World) (x y : Int) : It (w.alloc (.cells #[.int .i64 x, .int .i64 y] 32)).heap.size (w.alloc (.cells #[.int .i64 x, .int .i64 y] 32)) (some ⟨w.heap.size, 0, none⟩) 1 1 (fun _ => (x, y)) :=
  ⟨Nat.le_refl _, by unfold maxLen; omega, fun e => (by cases e), fun _ => ⟨w.heap.size, 0, rfl, by simp, fun j hj => by
    have : j = 0 := by omega
    subst this
    obtain ⟨a, b, _, _⟩ := two_read (heap_alloc_new w (.cells #[.int .i64 x, .int .i64 y] 32))
    exact ⟨a, b⟩⟩⟩
theorem It.zero {B : Nat} {w : World} {A : Option Addr} {c : Nat} {f : Nat → Int × Int} (h : A = none → c = 0) (hm : c ≤ maxLen) : It B w A 0 c f := ⟨Nat.zero_le _, hm, h, fun hn => by omega⟩
theorem getD_take (l : List (Int × Int)) (k i : Nat) (h : i < k) : (l.take k).getD i (0, 0) = l.getD i (0, 0) := by
  rw [List.getD_eq_getElem?_getD, List.getD_eq_getElem?_getD, List.getElem?_take]; simp [h]
theorem getD_drop (l : List (Int × Int)) (k i : Nat) : (l.drop k).getD i (0, 0) = l.getD (i + k) (0, 0) := by
  rw [List.getD_eq_getElem?_getD, List.getD_eq_getElem?_getD, List.getElem?_drop, Nat.add_comm]

theorem r4push_end {w wq wD : World} {rb n cap : Nat} {A : Option Addr} {l l3 : List (Int × Int)} {v3 : Value} (hbw : Below w.heap.size w wq) (hR : RAt wq rb A n cap l) (hrb : rb < w.heap.size) (ho : Iow wD wq.heap.size v3 l3) (hb : Below wq.heap.size wq wD) :
    ∃ A' cap', RAt (wD.setCell ⟨rb, 0, none⟩ v3) rb A' l3.length cap' l3 ∧ Turn (OnlyB rb) (OnlyB rb) w (wD.setCell ⟨rb, 0, none⟩ v3) ∧ ∀ a, A' = some a → w.heap.size ≤ a.block := by
  obtain ⟨A', n', cap', rfl⟩ := ho.form
  obtain ⟨hn, hI⟩ := ho.it
  subst hn
  have hsz := hbw.size
  have hbox : wD.heap[rb]? = some (.cells #[.slice A n cap] 29 (0, 0)) := by rw [hb.block rb (by omega)]; exact hR.box
  have ho2 : Iow (wD.setCell ⟨rb, 0, none⟩ (.slice A' l3.length cap')) wq.heap.size (.slice A' l3.length cap') l3 := ownsRow_setCell_below ho (a := ⟨rb, 0, none⟩) (by show rb < _; omega) _
  refine ⟨A', cap', ⟨?_, ho2.it.2, rfl, fun a e => ?_, fun a e => ?_⟩, ?_, fun a e => ?_⟩
  · rw [heap_setCell_same _ rb 0 _ _ _ hbox]; simp
  · exact row_kind ho2 a.block (by rw [e]; rfl)
  · subst e
    rcases ho.2 with ⟨q, _⟩ | ⟨g0, c0, cur, q, _⟩
    · injection q with q; cases q
    · injection q with q; injection q with q; exact ⟨g0, 0, q⟩
  · exact ((Turn.ofBelow hbw (OnlyB rb)).trans (Turn.ofBelow (hb.mono (Nat.le_refl _)) (OnlyB rb))).put _ rfl
  · have := (ho.lt a.block (by rw [e]; rfl)).1; omega

set_option maxHeartbeats 1000000 in
theorem r4push_any (rb : Nat) (A : Option Addr) (n cap : Nat) (l : List (Int × Int)) (x y : Int) (w : World) (h : RAt w rb A n cap l) (hn : n ≤ 100000) :
    Calls Try.prog 16 #[.pointer (some ⟨rb, 0, none⟩), .agg #[.int .i64 x, .int .i64 y]] w fun e w' => e = .returned (.tuple #[]) ∧
      ∃ A' cap', RAt w' rb A' (n + 1) cap' (insI (x, y) l) ∧ Turn (OnlyB rb) (OnlyB rb) w w' ∧ ∀ a, A' = some a → w.heap.size ≤ a.block := by
  have hle := h.items.le
  have hmax := h.items.max
  unfold maxLen at hmax
  have hrb := lt_of_heap h.box
  have HR := Lib.hid h
  have HB0 : Hid (∀ X : Obj, Below w.heap.size w (w.alloc X)) := Lib.hid fun X => (Below.refl _ w).alloc (Nat.le_refl _) _
  clear h
  go_enter Try.func16, Try.ntmps16
  go_wp2
  generalize hw1 : w.alloc (.cells #[.int .i64 x, .int .i64 y] 32) = w1
  have hX : w1.heap[w.heap.size]? = some (.cells #[.int .i64 x, .int .i64 y] 32 (0, 0)) := by rw [← hw1]; exact heap_alloc_new w _
  have hB1 : Below w.heap.size w w1 := by rw [← hw1]; exact HB0.out _
  have HX := Lib.hid hX
  have HB1 := Lib.hid hB1
  have HXL := Lib.hid (lt_of_heap hX)
  obtain ⟨X, hXe⟩ : ∃ X, X = w.heap.size := ⟨_, rfl⟩
  rw [← hXe] at HX HXL ⊢
  have HXE := Lib.hid hXe
  clear hw1 hX hB1 hXe HB0
  go_loopw [4] (fun kv wr => ∃ k : Nat, k ≤ n ∧ kv = .int .i64 (k : Int) ∧ (∀ i, i < k → (l.getD i (0, 0)).1 ≤ x) ∧ Below w1.heap.size w1 wr) (fun kv _ => n - (intOf kv).toNat)
  case atStart => exact ⟨0, Nat.zero_le _, rfl, fun i hi => by omega, Below.refl _ _⟩
  case round =>
    obtain ⟨k, hk, rfl, hL, hB⟩ := hrel
    have hb1 := hB.block X HXL.out
    obtain ⟨x0, x1, _, _⟩ := two_read (hb1.trans HX.out)
    have hBw := HB1.out.trans (hB.mono HB1.out.size)
    have hR := HR.out.below hBw
    have c0 : wr.cell? ⟨rb, 0, none⟩ = some (.slice A n cap) := by rw [cell_of_row wr rb 0 _ _ _ hR.box]; rfl
    have f0 := frozen_of_row wr rb 0 _ _ hR.box
    have hsz := hBw.size
    have HBW := Lib.hid hBw
    have HRW := Lib.hid hR
    have HBR := Lib.hid hB
    have HLL := Lib.hid hL
    clear hBw hR hB hL hb1
    by_cases hlt : k < n
    · obtain ⟨g, off, rfl, hg, hc⟩ := HRW.out.items.cell (by omega)
      have d0 := (hc k hlt).1
      have hkI : (k : Int) < (n : Int) := by omega
      clear hc
      by_cases hcmp : (l.getD k (0, 0)).1 ≤ x
      · have HCM := Lib.hid hcmp
        have hdec : decide ((l.getD k (0, 0)).1 ≤ x) = true := by simp only [hcmp, decide_true]
        clear hcmp
        generalize (l.getD k (0, 0)).1 = u at d0 hdec
        go_wp2
        go_quiet (fail)
        have HB2 := Lib.hid (HBR.out.trans (below_drewN _ _ nq))
        generalize wr.drewN nq = wq at HB2 ⊢
        clear x0 x1 c0 f0 d0 hdec HBW HRW HBR
        go_wp2
        go_roundw
        case rel => exact ⟨k + 1, by omega, by go_num, fun i hi => by rcases (by omega : i < k ∨ i = k) with h | rfl; exact HLL.out i h; exact HCM.out, HB2.out⟩
        case measure => simp [intOf]; omega
      · have HCM : Hid (k < l.length → ¬ (l.getD k (0, 0)).1 ≤ x) := Lib.hid (fun _ => hcmp)
        have hdec : decide ((l.getD k (0, 0)).1 ≤ x) = false := by simp only [hcmp, decide_false]
        clear hcmp
        generalize (l.getD k (0, 0)).1 = u at d0 hdec
        go_wp2
        go_quiet (fail)
        have HB2 := Lib.hid (HBR.out.trans (below_drewN _ _ nq))
        generalize wr.drewN nq = wq at HB2 ⊢
        clear x0 x1 c0 f0 d0 hdec HBW HRW HBR
        have hBw := HB1.out.trans (HB2.out.mono HB1.out.size)
        have hR := HR.out.below hBw
        obtain ⟨x0, x1, _, _⟩ := two_read ((HB2.out.block X HXL.out).trans HX.out)
        have c0 : wq.cell? ⟨rb, 0, none⟩ = some (.slice (some ⟨g, off, none⟩) n cap) := by rw [cell_of_row wq rb 0 _ _ _ hR.box]; rfl
        have f0 := frozen_of_row wq rb 0 _ _ hR.box
        have hsz := hBw.size
        have hrbq : rb < wq.heap.size := by omega
        have hXq : X < wq.heap.size := by rw [HXE.out]; have := HB1.out.size; have := HB2.out.size; have := HXL.out; rw [HXE.out] at this; omega
        have HRQ := Lib.hid hR
        have HE0 := Lib.hid (Iow.empty wq wq.heap.size (Nat.le_refl _))
        have HBA : Hid (Below wq.heap.size wq (wq.alloc (.cells #[] 32))) := Lib.hid ((Below.refl _ wq).alloc (Nat.le_refl _) _)
        have HIA := Lib.hid ((HRQ.out.items.below HBA.out).raise (B' := (wq.alloc (.cells #[] 32)).heap.size) (by simp))
        have HLEN := Lib.hid hR.len
        have HK : Hid (k ≤ n) := Lib.hid (by omega)
        have hcapk : k ≤ cap := by omega
        clear hBw hR
        go_upto_region 5 with (at_builtin; refine app_items rfl _ _ rfl wq.heap.size _ [] rfl HE0.out _ _ _ _ (l.take k) rfl (HIA.out.take HK.out) (by have := HLEN.out; have := HK.out; simp only [List.length_take]; omega) (fun i hi => getD_take l k i hi) (by have := HK.out; simp only [List.length_nil]; omega) (by simp) ?_; intro v1 wB o1 b1 _ _; rw [List.nil_append] at o1; have HO1 := Lib.hid o1; have HBB := Lib.hid (HBA.out.trans b1); clear o1 b1)
        have y0 := (HBB.out.cell (p := ⟨X, 0, none⟩) hXq).trans x0
        have y1 := (HBB.out.cell (p := ⟨X, 1, none⟩) hXq).trans x1
        have hszB := HBB.out.size
        have HO2 := Lib.hid (HO1.out.more (.cells #[.int .i64 x, .int .i64 y] 32))
        have HI2 := Lib.hid (It.two wB x y)
        clear x0 x1 HO1
        go_upto_region 6 with (at_builtin; refine app_items rfl _ _ rfl wq.heap.size _ _ rfl HO2.out _ _ _ _ [(x, y)] rfl HI2.out rfl (fun i hi => by have : i = 0 := (by omega); subst this; rfl) (by have := HLEN.out; have := HK.out; simp only [List.length_take]; omega) (by simp; omega) ?_; intro v2 wC o2 b2 _ _; have HO3 := Lib.hid o2; have HBC := Lib.hid ((HBB.out.alloc hszB _).trans b2); clear o2 b2)
        have z0 := (HBC.out.cell (p := ⟨rb, 0, none⟩) hrbq).trans c0
        have z1 := (HBC.out.frozen (p := ⟨rb, 0, none⟩) hrbq).trans f0
        have HI3 := Lib.hid ((HRQ.out.items.below HBC.out).raise HBC.out.size)
        clear y0 y1 HO2 HI2
        go_wp2_with (at_builtin; refine app_items rfl _ _ rfl wq.heap.size _ _ rfl HO3.out _ _ _ _ (l.drop k) rfl (It.drop HI3.out HK.out (.inl rfl)) (by have := HLEN.out; simp only [List.length_drop]; omega) (fun i hi => getD_drop l k i) (by have := HLEN.out; have := HK.out; simp only [List.length_append, List.length_take, List.length_cons, List.length_nil]; omega) HBC.out.size ?_; intro v3 wD o3 b3 _ _; obtain ⟨A3, n3, c3, rfl⟩ := o3.form; have HO4 := Lib.hid o3; have HBD := Lib.hid (HBC.out.trans b3); have s0 := (b3.cell (p := ⟨rb, 0, none⟩) hrbq).trans z0; have s1 := (b3.frozen (p := ⟨rb, 0, none⟩) hrbq).trans z1; clear o3 b3)
        go_end0
        refine ⟨rfl, ?_⟩
        have hend := r4push_end (HB1.out.trans (HB2.out.mono HB1.out.size)) HRQ.out hrb HO4.out HBD.out
        have e1 : l.take k ++ [(x, y)] ++ l.drop k = insI (x, y) l := by
          rw [insI_at (x, y) l k (by rw [HLEN.out]; exact HK.out) HLL.out (fun h => by have := HCM.out h; omega)]; simp
        have e2 : (l.take k ++ [(x, y)] ++ l.drop k).length = n + 1 := by have := HK.out; have := HLEN.out; simp only [List.length_append, List.length_take, List.length_drop, List.length_cons, List.length_nil]; omega
        rw [e2, e1] at hend
        exact hend
    · have hkn : n = k := by omega
      subst hkn
      have HCM : Hid (n < l.length → ¬ (l.getD n (0, 0)).1 ≤ x) := Lib.hid (fun h => by have := HR.out.len; omega)
      have hnn : ¬ ((n : Int) < (n : Int)) := by omega
      obtain ⟨k, hkn⟩ : ∃ k, k = n := ⟨_, rfl⟩
      have hdn : decide ((n : Int) < (n : Int)) = false := by simp
      cases A with
      | none =>
        obtain rfl : cap = 0 := HR.out.items.nil rfl
        obtain rfl : n = 0 := by omega
        subst hkn
        go_wp2
        go_quiet (fail)
        have HB2 := Lib.hid (HBR.out.trans (below_drewN _ _ nq))
        generalize wr.drewN nq = wq at HB2 ⊢
        clear x0 x1 c0 f0 HBW HRW HBR
        have hBw := HB1.out.trans (HB2.out.mono HB1.out.size)
        have hR := HR.out.below hBw
        obtain ⟨x0, x1, _, _⟩ := two_read ((HB2.out.block X HXL.out).trans HX.out)
        have c0 : wq.cell? ⟨rb, 0, none⟩ = some (.slice none 0 0) := by rw [cell_of_row wq rb 0 _ _ _ hR.box]; rfl
        have f0 := frozen_of_row wq rb 0 _ _ hR.box
        have hsz := hBw.size
        have hrbq : rb < wq.heap.size := by omega
        have hXq : X < wq.heap.size := by rw [HXE.out]; have := HB1.out.size; have := HB2.out.size; have := HXL.out; rw [HXE.out] at this; omega
        have HRQ := Lib.hid hR
        have HE0 := Lib.hid (Iow.empty wq wq.heap.size (Nat.le_refl _))
        have HBA : Hid (Below wq.heap.size wq (wq.alloc (.cells #[] 32))) := Lib.hid ((Below.refl _ wq).alloc (Nat.le_refl _) _)
        have HIA := Lib.hid ((HRQ.out.items.below HBA.out).raise (B' := (wq.alloc (.cells #[] 32)).heap.size) (by simp))
        have HLEN := Lib.hid hR.len
        have HK : Hid (0 ≤ 0) := Lib.hid (by omega)
        have hcapk : 0 ≤ 0 := by omega
        clear hBw hR
        go_upto_region 5 with (at_builtin; refine app_items rfl _ _ rfl wq.heap.size _ [] rfl HE0.out _ _ _ _ (l.take 0) rfl (HIA.out.take HK.out) (by have := HLEN.out; have := HK.out; simp only [List.length_take]; omega) (fun i hi => getD_take l 0 i hi) (by have := HK.out; simp only [List.length_nil]; omega) (by simp) ?_; intro v1 wB o1 b1 _ _; rw [List.nil_append] at o1; have HO1 := Lib.hid o1; have HBB := Lib.hid (HBA.out.trans b1); clear o1 b1)
        have y0 := (HBB.out.cell (p := ⟨X, 0, none⟩) hXq).trans x0
        have y1 := (HBB.out.cell (p := ⟨X, 1, none⟩) hXq).trans x1
        have hszB := HBB.out.size
        have HO2 := Lib.hid (HO1.out.more (.cells #[.int .i64 x, .int .i64 y] 32))
        have HI2 := Lib.hid (It.two wB x y)
        clear x0 x1 HO1
        go_upto_region 6 with (at_builtin; refine app_items rfl _ _ rfl wq.heap.size _ _ rfl HO2.out _ _ _ _ [(x, y)] rfl HI2.out rfl (fun i hi => by have : i = 0 := (by omega); subst this; rfl) (by have := HLEN.out; have := HK.out; simp only [List.length_take]; omega) (by simp; omega) ?_; intro v2 wC o2 b2 _ _; have HO3 := Lib.hid o2; have HBC := Lib.hid ((HBB.out.alloc hszB _).trans b2); clear o2 b2)
        have z0 := (HBC.out.cell (p := ⟨rb, 0, none⟩) hrbq).trans c0
        have z1 := (HBC.out.frozen (p := ⟨rb, 0, none⟩) hrbq).trans f0
        have HI3 := Lib.hid ((HRQ.out.items.below HBC.out).raise HBC.out.size)
        clear y0 y1 HO2 HI2
        go_wp2_with (at_builtin; refine app_items rfl _ _ rfl wq.heap.size _ _ rfl HO3.out _ _ _ _ (l.drop 0) rfl HI3.out (by have := HLEN.out; simp only [List.length_drop]; omega) (fun i hi => getD_drop l 0 i) (by have := HLEN.out; have := HK.out; simp only [List.length_append, List.length_take, List.length_cons, List.length_nil]; omega) HBC.out.size ?_; intro v3 wD o3 b3 _ _; obtain ⟨A3, n3, c3, rfl⟩ := o3.form; have HO4 := Lib.hid o3; have HBD := Lib.hid (HBC.out.trans b3); have s0 := (b3.cell (p := ⟨rb, 0, none⟩) hrbq).trans z0; have s1 := (b3.frozen (p := ⟨rb, 0, none⟩) hrbq).trans z1; clear o3 b3)
        go_end0
        refine ⟨rfl, ?_⟩
        have hend := r4push_end (HB1.out.trans (HB2.out.mono HB1.out.size)) HRQ.out hrb HO4.out HBD.out
        have e1 : l.take 0 ++ [(x, y)] ++ l.drop 0 = insI (x, y) l := by
          rw [insI_at (x, y) l 0 (by rw [HLEN.out]; exact HK.out) HLL.out (fun h => by have := HCM.out h; omega)]; simp
        have e2 : (l.take 0 ++ [(x, y)] ++ l.drop 0).length = 0 + 1 := by have := HK.out; have := HLEN.out; simp only [List.length_append, List.length_take, List.length_drop, List.length_cons, List.length_nil]; omega
        rw [e2, e1] at hend
        exact hend

      | some ad =>
        obtain ⟨g, off, he⟩ : ∃ g off, ad = ⟨g, off, none⟩ := HR.out.plain ad rfl
        subst he
        go_wp2
        go_quiet (fail)
        have HB2 := Lib.hid (HBR.out.trans (below_drewN _ _ nq))
        generalize wr.drewN nq = wq at HB2 ⊢
        clear x0 x1 c0 f0 HBW HRW HBR
        by_cases hcn : cap = n
        · subst hcn
          have hBw := HB1.out.trans (HB2.out.mono HB1.out.size)
          have hR := HR.out.below hBw
          obtain ⟨x0, x1, _, _⟩ := two_read ((HB2.out.block X HXL.out).trans HX.out)
          have c0 : wq.cell? ⟨rb, 0, none⟩ = some (.slice (some ⟨g, off, none⟩) cap cap) := by rw [cell_of_row wq rb 0 _ _ _ hR.box]; rfl
          have f0 := frozen_of_row wq rb 0 _ _ hR.box
          have hsz := hBw.size
          have hrbq : rb < wq.heap.size := by omega
          have hXq : X < wq.heap.size := by rw [HXE.out]; have := HB1.out.size; have := HB2.out.size; have := HXL.out; rw [HXE.out] at this; omega
          have HRQ := Lib.hid hR
          have HE0 := Lib.hid (Iow.empty wq wq.heap.size (Nat.le_refl _))
          have HBA : Hid (Below wq.heap.size wq (wq.alloc (.cells #[] 32))) := Lib.hid ((Below.refl _ wq).alloc (Nat.le_refl _) _)
          have HIA := Lib.hid ((HRQ.out.items.below HBA.out).raise (B' := (wq.alloc (.cells #[] 32)).heap.size) (by simp))
          have HLEN := Lib.hid hR.len
          have HK : Hid (cap ≤ cap) := Lib.hid (by omega)
          have hcapk : cap ≤ cap := by omega
          clear hBw hR
          go_upto_region 5 with (at_builtin; refine app_items rfl _ _ rfl wq.heap.size _ [] rfl HE0.out _ _ _ _ (l.take cap) rfl (HIA.out.take HK.out) (by have := HLEN.out; have := HK.out; simp only [List.length_take]; omega) (fun i hi => getD_take l cap i hi) (by have := HK.out; simp only [List.length_nil]; omega) (by simp) ?_; intro v1 wB o1 b1 _ _; rw [List.nil_append] at o1; have HO1 := Lib.hid o1; have HBB := Lib.hid (HBA.out.trans b1); clear o1 b1)
          have y0 := (HBB.out.cell (p := ⟨X, 0, none⟩) hXq).trans x0
          have y1 := (HBB.out.cell (p := ⟨X, 1, none⟩) hXq).trans x1
          have hszB := HBB.out.size
          have HO2 := Lib.hid (HO1.out.more (.cells #[.int .i64 x, .int .i64 y] 32))
          have HI2 := Lib.hid (It.two wB x y)
          clear x0 x1 HO1
          go_upto_region 6 with (at_builtin; refine app_items rfl _ _ rfl wq.heap.size _ _ rfl HO2.out _ _ _ _ [(x, y)] rfl HI2.out rfl (fun i hi => by have : i = 0 := (by omega); subst this; rfl) (by have := HLEN.out; have := HK.out; simp only [List.length_take]; omega) (by simp; omega) ?_; intro v2 wC o2 b2 _ _; have HO3 := Lib.hid o2; have HBC := Lib.hid ((HBB.out.alloc hszB _).trans b2); clear o2 b2)
          have z0 := (HBC.out.cell (p := ⟨rb, 0, none⟩) hrbq).trans c0
          have z1 := (HBC.out.frozen (p := ⟨rb, 0, none⟩) hrbq).trans f0
          have HI3 := Lib.hid ((HRQ.out.items.below HBC.out).raise HBC.out.size)
          clear y0 y1 HO2 HI2
          go_wp2_with (at_builtin; refine app_items rfl _ _ rfl wq.heap.size _ _ rfl HO3.out _ _ _ _ (l.drop cap) rfl (It.zero (by simp) (by unfold maxLen; omega)) (by have := HLEN.out; simp only [List.length_drop]; omega) (fun i hi => getD_drop l cap i) (by have := HLEN.out; have := HK.out; simp only [List.length_append, List.length_take, List.length_cons, List.length_nil]; omega) HBC.out.size ?_; intro v3 wD o3 b3 _ _; obtain ⟨A3, n3, c3, rfl⟩ := o3.form; have HO4 := Lib.hid o3; have HBD := Lib.hid (HBC.out.trans b3); have s0 := (b3.cell (p := ⟨rb, 0, none⟩) hrbq).trans z0; have s1 := (b3.frozen (p := ⟨rb, 0, none⟩) hrbq).trans z1; clear o3 b3)
          go_end0
          refine ⟨rfl, ?_⟩
          have hend := r4push_end (HB1.out.trans (HB2.out.mono HB1.out.size)) HRQ.out hrb HO4.out HBD.out
          have e1 : l.take cap ++ [(x, y)] ++ l.drop cap = insI (x, y) l := by
            rw [insI_at (x, y) l cap (by rw [HLEN.out]; exact HK.out) HLL.out (fun h => by have := HCM.out h; omega)]; simp
          have e2 : (l.take cap ++ [(x, y)] ++ l.drop cap).length = cap + 1 := by have := HK.out; have := HLEN.out; simp only [List.length_append, List.length_take, List.length_drop, List.length_cons, List.length_nil]; omega
          rw [e2, e1] at hend
          exact hend

        · have hcn' : n < cap := by omega
          have hBw := HB1.out.trans (HB2.out.mono HB1.out.size)
          have hR := HR.out.below hBw
          obtain ⟨x0, x1, _, _⟩ := two_read ((HB2.out.block X HXL.out).trans HX.out)
          have c0 : wq.cell? ⟨rb, 0, none⟩ = some (.slice (some ⟨g, off, none⟩) n cap) := by rw [cell_of_row wq rb 0 _ _ _ hR.box]; rfl
          have f0 := frozen_of_row wq rb 0 _ _ hR.box
          have hsz := hBw.size
          have hrbq : rb < wq.heap.size := by omega
          have hXq : X < wq.heap.size := by rw [HXE.out]; have := HB1.out.size; have := HB2.out.size; have := HXL.out; rw [HXE.out] at this; omega
          have HRQ := Lib.hid hR
          have HE0 := Lib.hid (Iow.empty wq wq.heap.size (Nat.le_refl _))
          have HBA : Hid (Below wq.heap.size wq (wq.alloc (.cells #[] 32))) := Lib.hid ((Below.refl _ wq).alloc (Nat.le_refl _) _)
          have HIA := Lib.hid ((HRQ.out.items.below HBA.out).raise (B' := (wq.alloc (.cells #[] 32)).heap.size) (by simp))
          have HLEN := Lib.hid hR.len
          have HK : Hid (n ≤ n) := Lib.hid (by omega)
          have hcapk : n ≤ cap := by omega
          clear hBw hR
          go_upto_region 5 with (at_builtin; refine app_items rfl _ _ rfl wq.heap.size _ [] rfl HE0.out _ _ _ _ (l.take n) rfl (HIA.out.take HK.out) (by have := HLEN.out; have := HK.out; simp only [List.length_take]; omega) (fun i hi => getD_take l n i hi) (by have := HK.out; simp only [List.length_nil]; omega) (by simp) ?_; intro v1 wB o1 b1 _ _; rw [List.nil_append] at o1; have HO1 := Lib.hid o1; have HBB := Lib.hid (HBA.out.trans b1); clear o1 b1)
          have y0 := (HBB.out.cell (p := ⟨X, 0, none⟩) hXq).trans x0
          have y1 := (HBB.out.cell (p := ⟨X, 1, none⟩) hXq).trans x1
          have hszB := HBB.out.size
          have HO2 := Lib.hid (HO1.out.more (.cells #[.int .i64 x, .int .i64 y] 32))
          have HI2 := Lib.hid (It.two wB x y)
          clear x0 x1 HO1
          go_upto_region 6 with (at_builtin; refine app_items rfl _ _ rfl wq.heap.size _ _ rfl HO2.out _ _ _ _ [(x, y)] rfl HI2.out rfl (fun i hi => by have : i = 0 := (by omega); subst this; rfl) (by have := HLEN.out; have := HK.out; simp only [List.length_take]; omega) (by simp; omega) ?_; intro v2 wC o2 b2 _ _; have HO3 := Lib.hid o2; have HBC := Lib.hid ((HBB.out.alloc hszB _).trans b2); clear o2 b2)
          have z0 := (HBC.out.cell (p := ⟨rb, 0, none⟩) hrbq).trans c0
          have z1 := (HBC.out.frozen (p := ⟨rb, 0, none⟩) hrbq).trans f0
          have HI3 := Lib.hid ((HRQ.out.items.below HBC.out).raise HBC.out.size)
          clear y0 y1 HO2 HI2
          go_wp2_with (at_builtin; refine app_items rfl _ _ rfl wq.heap.size _ _ rfl HO3.out _ _ _ _ (l.drop n) rfl (It.zero (by simp) (by unfold maxLen; omega)) (by have := HLEN.out; simp only [List.length_drop]; omega) (fun i hi => getD_drop l n i) (by have := HLEN.out; have := HK.out; simp only [List.length_append, List.length_take, List.length_cons, List.length_nil]; omega) HBC.out.size ?_; intro v3 wD o3 b3 _ _; obtain ⟨A3, n3, c3, rfl⟩ := o3.form; have HO4 := Lib.hid o3; have HBD := Lib.hid (HBC.out.trans b3); have s0 := (b3.cell (p := ⟨rb, 0, none⟩) hrbq).trans z0; have s1 := (b3.frozen (p := ⟨rb, 0, none⟩) hrbq).trans z1; clear o3 b3)
          go_end0
          refine ⟨rfl, ?_⟩
          have hend := r4push_end (HB1.out.trans (HB2.out.mono HB1.out.size)) HRQ.out hrb HO4.out HBD.out
          have e1 : l.take n ++ [(x, y)] ++ l.drop n = insI (x, y) l := by
            rw [insI_at (x, y) l n (by rw [HLEN.out]; exact HK.out) HLL.out (fun h => by have := HCM.out h; omega)]; simp
          have e2 : (l.take n ++ [(x, y)] ++ l.drop n).length = n + 1 := by have := HK.out; have := HLEN.out; simp only [List.length_append, List.length_take, List.length_drop, List.length_cons, List.length_nil]; omega
          rw [e2, e1] at hend
          exact hend

end Go.Proofs.Ytbpcigcfdkamaaa
