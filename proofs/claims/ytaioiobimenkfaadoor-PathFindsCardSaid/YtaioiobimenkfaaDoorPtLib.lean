/-
  Layer 5: what it asks of the library: Contains, Repeat, DeleteFunc.
-/
import Derived.Test.YtaioiobimenkfaaDoorPtA
import Derived.Test.YtaioiobimenkfaaDoorPtLay
import Derived.Laws.CopyOwn
import Derived.Deep.RegionLaw
set_option linter.unusedVariables false
set_option maxRecDepth 100000
namespace Go.Proofs.YtaioiobimenkfaaDoor
open Go.RowKit Fl Pt

theorem mul_any (x y : Nat) (hx : x < 18446744073709551616) (hy : y < 18446744073709551616) (w : World) :
    Calls Tryd.prog 75 #[.int .u64 (x : Int), .int .u64 (y : Int)] w fun e w' => e = .returned (.tuple #[.int .u64 ((x * y / 18446744073709551616 : Nat) : Int), .int .u64 ((x * y % 18446744073709551616 : Nat) : Int)]) ∧ w = w' :=
  (Any.bits_Mul Tryd.lays212 x y hx hy w).mono fun e w' ⟨h1, h2⟩ => ⟨h1, h2.symm⟩
theorem mul_one_any (y : Nat) (hy : y < 18446744073709551616) (w : World) :
    Calls Tryd.prog 75 #[.int .u64 1, .int .u64 (y : Int)] w fun e w' => e = .returned (.tuple #[.int .u64 0, .int .u64 (y : Int)]) ∧ w = w' :=
  (mul_any 1 y (by omega) hy w).mono fun e w' ⟨h1, h2⟩ => ⟨by rw [h1, Nat.one_mul, Nat.div_eq_of_lt hy, Nat.mod_eq_of_lt hy]; rfl, h2⟩

/-- Whether a number is in a list. -/
theorem contains_any (B : Nat) (A : Option Addr) (n cap : Nat) (f : Nat → Int) (x : Int) (w : World) (h : Il B w A n cap f) :
    Calls Tryd.prog 28 #[.slice A n cap, .int .i64 x] w fun e w' => e = .returned (.bool ((il f n).contains x)) ∧ w = w' := by
  by_cases h0 : 0 < n
  · obtain ⟨g, off, rfl, _, hc⟩ := h.cell h0
    refine (Any.slices_Contains_int Tryd.lays107 g off n cap (il f n) x w (by simp [il]) h.size (fun j hj => ?_)).mono fun e w' ⟨h1, h2⟩ => ⟨?_, h2.symm⟩
    · have hj' : j < n := by simpa [il] using hj
      rw [hc j hj']
      simp [il, List.getD, hj']
    · rw [h1, List.take_of_length_le (by simp [il])]
  · obtain rfl : n = 0 := by omega
    refine (Any.slices_Contains_int_empty Tryd.lays107 A cap x w).mono fun e w' ⟨h1, h2⟩ => ⟨by rw [h1]; rfl, h2.symm⟩

/-- So many of a list are the same number, then zeros. -/
def rep (N k : Nat) (v : Int) : List Value := List.replicate k (.int .i64 v) ++ List.replicate (N - k) (.int .i64 0)
theorem rep_length (N k : Nat) (v : Int) (h : k ≤ N) : (rep N k v).length = N := by simp [rep]; omega
theorem rep_splice (N k m : Nat) (v : Int) (h : k + m ≤ N) : splice (rep N k v) k (List.replicate m (.int .i64 v)) = rep N (k + m) v := by
  unfold splice rep
  rw [List.take_append_of_le_length (by simp), List.take_of_length_le (by simp)]
  simp only [List.length_replicate]
  rw [List.drop_append, List.drop_of_length_le (by simp)]
  simp only [List.length_replicate, List.nil_append, List.drop_replicate]
  rw [← List.append_assoc, List.replicate_append_replicate]
  congr 2
  omega
def RepTold (N : Nat) (v : Int) (w : World) (e : Ending) (w' : World) : Prop :=
  ∃ g, e = .returned (.slice (some ⟨g, 0, none⟩) N N) ∧ Cells g N (fun _ => .int .i64 v) w' ∧ w.heap.size ≤ g ∧ Below w.heap.size w w'
theorem sizeInt : (Tryd.prog.info? 3).map (·.size) = some 1 := by kernel_rfl
theorem cells_row {w : World} {g n : Nat} {l : List Value} {t : TypeId} (h : w.heap[g]? = some (.cells l.toArray t (0, 0))) (hn : l.length = n) : Cells g n (fun x => l.getD x undef) w := by
  refine ⟨lt_of_heap h, fun x hx => ⟨?_, frozen_of_row w g x _ _ h⟩⟩
  rw [cell_of_row w g x _ _ _ h]
  simp [List.getD, List.getElem?_eq_getElem (show x < l.length by omega)]

theorem made_row {w : World} {base g n : Nat} {e : TypeId} {u : Value} (hu : u.cells = #[u]) (h : w.ownsRow base e 1 (.slice (some ⟨g, 0, none⟩) n n) n (madeCells u.cells (n * 1)).toList) : w.heap[g]? = some (.cells (List.replicate n u).toArray e (0, 0)) := by
  rcases h.2 with ⟨e1, _⟩ | ⟨g', c, cur, e1, _, hh, _, _, hs, ht⟩
  · cases e1
  · simp only [Value.slice.injEq, Option.some.injEq, Addr.mk.injEq, and_true, true_and] at e1
    obtain ⟨rfl, rfl⟩ := e1
    rw [hh]
    congr 2
    have h1 : cur.toList = (madeCells u.cells (n * 1)).toList := by rw [← ht, List.take_of_length_le (by simp [hs])]
    have h2 : (madeCells u.cells (n * 1)).toList = List.replicate n u := by
      rw [hu]
      apply List.ext_getElem?
      intro i
      simp only [madeCells, Array.getElem?_toList, List.getElem?_replicate]
      by_cases hi : i < n
      · simp [hi, Nat.mod_one]
      · simp [hi]
    rw [← h2, ← h1]

theorem rep_src {wr : World} {g N k m : Nat} {v : Int} (h : wr.heap[g]? = some (.cells (rep N k v).toArray 3 (0, 0))) (hkN : k ≤ N) (hm : m ≤ k) :
    0 < (List.replicate m (Value.int .i64 v)).length → some (⟨g, k, none⟩ : Addr) = some ⟨g, k, none⟩ ∧ ∃ ad, some (⟨g, 0, none⟩ : Addr) = some ad ∧ ∀ j u, (List.replicate m (Value.int .i64 v))[j]? = some u → wr.drew.cell? (ad.add j) = some u := fun _ => ⟨rfl, _, rfl, fun j u hj => by
  have hjm : j < m := by
    have := (List.getElem?_eq_some_iff.1 hj).1; simpa using this
  have : u = .int .i64 v := by simp [hjm] at hj; exact hj.symm
  subst this
  rw [plain_add, Nat.zero_add]
  have := ((cells_row h (rep_length N k v hkN)).2 j (by omega)).1
  refine this.trans ?_
  simp [rep, List.getD, List.getElem?_append_left, (show j < k by omega)]⟩

set_option maxHeartbeats 1000000 in
theorem repeat_any (b : Nat) (v : Int) (N : Nat) (w : World) (hN : 1 ≤ N ∧ N ≤ 256) (hb : w.cell? ⟨b, 0, none⟩ = some (.int .i64 v)) (hlt : b < w.heap.size) :
    Calls Tryd.prog 59 #[.slice (some ⟨b, 0, none⟩) 1 1, .int .i64 (N : Int)] w (RepTold N v w) := by
  obtain ⟨hN1, hN2⟩ := hN
  obtain ⟨i0, hi, hz0, hz1, hz2⟩ := info_parts Tryd.infoInt
  have HM := Lib.hid (fun wx => mul_one_any N (by omega) wx)
  have HC := Lib.hid hb
  have HL := Lib.hid hlt
  clear hb hlt
  go_enter Tryd.func59, Tryd.ntmps59
  go_wp2_with (first
    | (go_at_call 75; refine (HM.out _).mono ?_; rintro e w' ⟨rfl, rfl⟩)
    | (at_make; go_must (refine wpList_make_full _ rfl _ _ 24 rfl w.heap.size 3 i0 (.int .i64 0) 1 Tryd.underlying24 hi hz0 hz1 .i64 .i64 _ _ N rfl rfl rfl rfl (by rw [hz2]; omega) (by unfold maxLen; omega) (by simp) ?_); intro w1 ho1 hg1; have HR1 := Lib.hid (made_row rfl ho1); have HB1 := Lib.hid (Below.grown (Below.refl w.heap.size w) hg1 (by simp) (fun k hk => by cases hk)); clear ho1 hg1)
    | ((refine wpList_copy_splice (o := ⟨some 33, _, _, _, _, _⟩) rfl (.tmp 31) (.tmp 32) 24 24 rfl 3 Tryd.underlying24 sizeInt (some ⟨w.heap.size, 0, none⟩) (some ⟨b, 0, none⟩) N N 1 1 rfl rfl w.heap.size 0 (List.replicate N (.int .i64 0)) 3 HR1.out [.int .i64 v] (by rw [show Nat.min 1 N = 1 from Nat.min_eq_left hN1]; rfl) (fun _ => ⟨rfl, _, rfl, fun j u hj => ?_⟩) (by rw [List.length_replicate]; simpa using hN1) (by simp [Value.oneCell']) w.heap.size w HB1.out (Nat.le_refl _) ?_)))
  · match j, hj with
    | 0, hj =>
      simp at hj; subst hj
      have : (Addr.add ⟨b, 0, none⟩ 0) = ⟨b, 0, none⟩ := by simp [Addr.add]
      rw [this]
      exact (HB1.out.cell (p := ⟨b, 0, none⟩) HL.out).trans HC.out
  intro w2 hr2 hb2
  have HR2 : Hid (w2.heap[w.heap.size]? = some (.cells (rep N 1 v).toArray 3 (0, 0))) := Lib.hid (by
    have := hr2.out
    rwa [show splice (List.replicate N (.int .i64 0)) 0 [.int .i64 v] = rep N 1 v from rep_splice N 0 1 v (by omega)] at this)
  have HB2 := Lib.hid hb2
  clear hr2 hb2 hi hz0 hz1 hz2
  go_wp2
  go_loopw [8] (fun iv wr => ∃ k : Nat, 1 ≤ k ∧ k ≤ N ∧ iv = .int .i64 (k : Int) ∧ Hid (wr.heap[w.heap.size]? = some (.cells (rep N k v).toArray 3 (0, 0))) ∧ Below w.heap.size w wr) (fun iv _ => N - (intOf iv).toNat)
  case atStart => exact ⟨1, Nat.le_refl _, hN1, rfl, HR2, HB2.out⟩
  case round =>
    rename World => wr
    obtain ⟨k, hk1, hkN, rfl, HRk, hB⟩ := hrel
    have HB := Lib.hid hB
    clear hB
    by_cases hlt : k < N
    · have hmin : min k (N - k) ≤ k ∧ min k (N - k) ≤ N - k ∧ 1 ≤ min k (N - k) := by omega
      have HMM : Hid (Nat.min k (N - k) = min k (N - k)) := Lib.hid rfl
      generalize min k (N - k) = m at hmin HMM
      obtain ⟨hm1, hm2, hm3⟩ := hmin
      have hkm : k + m ≤ N := by omega
      clear hm2
      have HML : Hid ((List.replicate m (Value.int .i64 v)).length = Nat.min k (N - k)) := Lib.hid (by rw [HMM.out, List.length_replicate])
      have HFIT : Hid (k + (List.replicate m (Value.int .i64 v)).length ≤ (rep N k v).length) := Lib.hid (by rw [rep_length _ _ _ hkN, List.length_replicate]; omega)
      have HONE : Hid (∀ u, u ∈ List.replicate m (Value.int .i64 v) → u.oneCell' = true) := Lib.hid (by simp [Value.oneCell'])
      have HNK : Hid (¬ N = k) := Lib.hid (by omega)
      have HBD : Hid (Below w.heap.size w wr.drew) := Lib.hid HB.out.drew
      have hwr : IntKind.i64.wrap ((k : Int) + (m : Int)) = ((k + m : Nat) : Int) := by rw [IntWalk.i64_in _ (by omega)]; omega
      go_wp2
      go_region_law (refine step_copy_splice rfl (.tmp 41) (.tmp 44) 24 24 rfl 3 Tryd.underlying24 sizeInt (some ⟨w.heap.size, k, none⟩) (some ⟨w.heap.size, 0, none⟩) (N - k) (N - k) k N (by simp [Act.eval, Act.put, HNK.out]) (by simp [Act.eval, Act.put]) w.heap.size k (rep N k v) 3 HRk.out (List.replicate m (.int .i64 v)) HML.out (rep_src HRk.out hkN hm1) HFIT.out HONE.out w.heap.size w HBD.out (Nat.le_refl _) ?_; intro w2 hr2 hb2; have HR2 := Lib.hid hr2.out; have HB2 := Lib.hid hb2; clear hr2 hb2)
      clear hwr
      go_wp2
      go_roundw
      case rel =>
        refine ⟨k + m, by omega, by omega, by go_num, Lib.hid ?_, HB2.out⟩
        have := HR2.out
        rwa [rep_splice N k m v (by omega)] at this
      case measure => simp [intOf]; omega
    · obtain rfl : k = N := by omega
      go_wp2
      go_ret
      refine ⟨_, rfl, (cells_row HRk.out (rep_length _ _ _ (Nat.le_refl _))).congr (fun x hx => ?_), Nat.le_refl _, HB.out⟩
      simp [rep, List.getD, hx]
end Go.Proofs.YtaioiobimenkfaaDoor
