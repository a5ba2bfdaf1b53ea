/-
  Layer 5: what it asks of the library: Contains, Repeat, DeleteFunc.
  Layer 5: the cells that are not blocked (DeleteFunc).
  Layer 5: the steps out of a cell, asked once (next).
  Layer 5: stands, groundOf.
-/
import Derived.Test.YtokjnmgbgflgnaaGreatDoorPtA
import Derived.Test.YtokjnmgbgflgnaaGreatDoorPtLay
import Derived.Laws.CopyOwn
import Derived.Deep.RegionLaw
import Derived.Lib.SliceRun
import Derived.Shelf.Abstract
import Derived.Deep.RegionHeld3
set_option linter.unusedVariables false
set_option maxRecDepth 100000
section
namespace Go.Proofs.YtokjnmgbgflgnaaGreatDoor
open Go.RowKit Fl Pt

theorem mul_any (x y : Nat) (hx : x < 18446744073709551616) (hy : y < 18446744073709551616) (w : World) :
    Calls Tryz.prog 117 #[.int .u64 (x : Int), .int .u64 (y : Int)] w fun e w' => e = .returned (.tuple #[.int .u64 ((x * y / 18446744073709551616 : Nat) : Int), .int .u64 ((x * y % 18446744073709551616 : Nat) : Int)]) ∧ w = w' :=
  (Any.bits_Mul Tryz.lays212 x y hx hy w).mono fun e w' ⟨h1, h2⟩ => ⟨h1, h2.symm⟩
theorem mul_one_any (y : Nat) (hy : y < 18446744073709551616) (w : World) :
    Calls Tryz.prog 117 #[.int .u64 1, .int .u64 (y : Int)] w fun e w' => e = .returned (.tuple #[.int .u64 0, .int .u64 (y : Int)]) ∧ w = w' :=
  (mul_any 1 y (by omega) hy w).mono fun e w' ⟨h1, h2⟩ => ⟨by rw [h1, Nat.one_mul, Nat.div_eq_of_lt hy, Nat.mod_eq_of_lt hy]; rfl, h2⟩

/-- Whether a number is in a list. -/
theorem contains_any (B : Nat) (A : Option Addr) (n cap : Nat) (f : Nat → Int) (x : Int) (w : World) (h : Il B w A n cap f) :
    Calls Tryz.prog 81 #[.slice A n cap, .int .i64 x] w fun e w' => e = .returned (.bool ((il f n).contains x)) ∧ w = w' := by
  by_cases h0 : 0 < n
  · obtain ⟨g, off, rfl, _, hc⟩ := h.cell h0
    refine (Any.slices_Contains_int Tryz.lays107 g off n cap (il f n) x w (by simp [il]) h.size (fun j hj => ?_)).mono fun e w' ⟨h1, h2⟩ => ⟨?_, h2.symm⟩
    · have hj' : j < n := by simpa [il] using hj
      rw [hc j hj']
      simp [il, List.getD, hj']
    · rw [h1, List.take_of_length_le (by simp [il])]
  · obtain rfl : n = 0 := by omega
    refine (Any.slices_Contains_int_empty Tryz.lays107 A cap x w).mono fun e w' ⟨h1, h2⟩ => ⟨by rw [h1]; rfl, h2.symm⟩

/-- So many of a list are the same number, then zeros. -/
def rep (N k : Nat) (v : Int) : List Value := List.replicate k (.int .i64 v) ++ List.replicate (N - k) (.int .i64 0)
theorem rep_length (N k : Nat) (v : Int) (h : k ≤ N) : (rep N k v).length = N := by simp [rep]; omega
theorem rep_splice (N k m : Nat) (v : Int) (h : k + m ≤ N) : splice (rep N k v) k (List.replicate m (.int .i64 v)) = rep N (k + m) v := by
  unfold splice rep
  rw [List.take_append_of_le_length (by simp), List.take_of_length_le (by simp)]
  simp only [List.length_replicate]
  rw [List.drop_append, List.drop_of_length_le (by simp)]
  simp only [List.length_replicate, List.nil_append, List.drop_replicate]
  rw [← List.append_assoc, List.replicate_append_replicate]
  congr 2
  omega
def RepTold (N : Nat) (v : Int) (w : World) (e : Ending) (w' : World) : Prop :=
  ∃ g, e = .returned (.slice (some ⟨g, 0, none⟩) N N) ∧ Cells g N (fun _ => .int .i64 v) w' ∧ w.heap.size ≤ g ∧ Below w.heap.size w w'
theorem sizeInt : (Tryz.prog.info? 3).map (·.size) = some 1 := by kernel_rfl
theorem cells_row {w : World} {g n : Nat} {l : List Value} {t : TypeId} (h : w.heap[g]? = some (.cells l.toArray t (0, 0))) (hn : l.length = n) : Cells g n (fun x => l.getD x undef) w := by
  refine ⟨lt_of_heap h, fun x hx => ⟨?_, frozen_of_row w g x _ _ h⟩⟩
  rw [cell_of_row w g x _ _ _ h]
  simp [List.getD, List.getElem?_eq_getElem (show x < l.length by omega)]

theorem made_row {w : World} {base g n : Nat} {e : TypeId} {u : Value} (hu : u.cells = #[u]) (h : w.ownsRow base e 1 (.slice (some ⟨g, 0, none⟩) n n) n (madeCells u.cells (n * 1)).toList) : w.heap[g]? = some (.cells (List.replicate n u).toArray e (0, 0)) := by
  rcases h.2 with ⟨e1, _⟩ | ⟨g', c, cur, e1, _, hh, _, _, hs, ht⟩
  · cases e1
  · simp only [Value.slice.injEq, Option.some.injEq, Addr.mk.injEq, and_true, true_and] at e1
    obtain ⟨rfl, rfl⟩ := e1
    rw [hh]
    congr 2
    have h1 : cur.toList = (madeCells u.cells (n * 1)).toList := by rw [← ht, List.take_of_length_le (by simp [hs])]
    have h2 : (madeCells u.cells (n * 1)).toList = List.replicate n u := by
      rw [hu]
      apply List.ext_getElem?
      intro i
      simp only [madeCells, Array.getElem?_toList, List.getElem?_replicate]
      by_cases hi : i < n
      · simp [hi, Nat.mod_one]
      · simp [hi]
    rw [← h2, ← h1]

theorem rep_src {wr : World} {g N k m : Nat} {v : Int} (h : wr.heap[g]? = some (.cells (rep N k v).toArray 3 (0, 0))) (hkN : k ≤ N) (hm : m ≤ k) :
    0 < (List.replicate m (Value.int .i64 v)).length → some (⟨g, k, none⟩ : Addr) = some ⟨g, k, none⟩ ∧ ∃ ad, some (⟨g, 0, none⟩ : Addr) = some ad ∧ ∀ j u, (List.replicate m (Value.int .i64 v))[j]? = some u → wr.drew.cell? (ad.add j) = some u := fun _ => ⟨rfl, _, rfl, fun j u hj => by
  have hjm : j < m := by
    have := (List.getElem?_eq_some_iff.1 hj).1; simpa using this
  have : u = .int .i64 v := by simp [hjm] at hj; exact hj.symm
  subst this
  rw [plain_add, Nat.zero_add]
  have := ((cells_row h (rep_length N k v hkN)).2 j (by omega)).1
  refine this.trans ?_
  simp [rep, List.getD, List.getElem?_append_left, (show j < k by omega)]⟩

set_option maxHeartbeats 1000000 in
theorem repeat_any (b : Nat) (v : Int) (N : Nat) (w : World) (hN : 1 ≤ N ∧ N ≤ 256) (hb : w.cell? ⟨b, 0, none⟩ = some (.int .i64 v)) (hlt : b < w.heap.size) :
    Calls Tryz.prog 100 #[.slice (some ⟨b, 0, none⟩) 1 1, .int .i64 (N : Int)] w (RepTold N v w) := by
  obtain ⟨hN1, hN2⟩ := hN
  obtain ⟨i0, hi, hz0, hz1, hz2⟩ := info_parts Tryz.infoInt
  have HM := Lib.hid (fun wx => mul_one_any N (by omega) wx)
  have HC := Lib.hid hb
  have HL := Lib.hid hlt
  clear hb hlt
  go_enter Tryz.func100, Tryz.ntmps100
  go_wp2_with (first
    | (go_at_call 117; refine (HM.out _).mono ?_; rintro e w' ⟨rfl, rfl⟩)
    | (at_make; go_must (refine wpList_make_full _ rfl _ _ 24 rfl w.heap.size 3 i0 (.int .i64 0) 1 Tryz.underlying24 hi hz0 hz1 .i64 .i64 _ _ N rfl rfl rfl rfl (by rw [hz2]; omega) (by unfold maxLen; omega) (by simp) ?_); intro w1 ho1 hg1; have HR1 := Lib.hid (made_row rfl ho1); have HB1 := Lib.hid (Below.grown (Below.refl w.heap.size w) hg1 (by simp) (fun k hk => by cases hk)); clear ho1 hg1)
    | ((refine wpList_copy_splice (o := ⟨some 33, _, _, _, _, _⟩) rfl (.tmp 31) (.tmp 32) 24 24 rfl 3 Tryz.underlying24 sizeInt (some ⟨w.heap.size, 0, none⟩) (some ⟨b, 0, none⟩) N N 1 1 rfl rfl w.heap.size 0 (List.replicate N (.int .i64 0)) 3 HR1.out [.int .i64 v] (by rw [show Nat.min 1 N = 1 from Nat.min_eq_left hN1]; rfl) (fun _ => ⟨rfl, _, rfl, fun j u hj => ?_⟩) (by rw [List.length_replicate]; simpa using hN1) (by simp [Value.oneCell']) w.heap.size w HB1.out (Nat.le_refl _) ?_)))
  · match j, hj with
    | 0, hj =>
      simp at hj; subst hj
      have : (Addr.add ⟨b, 0, none⟩ 0) = ⟨b, 0, none⟩ := by simp [Addr.add]
      rw [this]
      exact (HB1.out.cell (p := ⟨b, 0, none⟩) HL.out).trans HC.out
  intro w2 hr2 hb2
  have HR2 : Hid (w2.heap[w.heap.size]? = some (.cells (rep N 1 v).toArray 3 (0, 0))) := Lib.hid (by
    have := hr2.out
    rwa [show splice (List.replicate N (.int .i64 0)) 0 [.int .i64 v] = rep N 1 v from rep_splice N 0 1 v (by omega)] at this)
  have HB2 := Lib.hid hb2
  clear hr2 hb2 hi hz0 hz1 hz2
  go_wp2
  go_loopw [8] (fun iv wr => ∃ k : Nat, 1 ≤ k ∧ k ≤ N ∧ iv = .int .i64 (k : Int) ∧ Hid (wr.heap[w.heap.size]? = some (.cells (rep N k v).toArray 3 (0, 0))) ∧ Below w.heap.size w wr) (fun iv _ => N - (intOf iv).toNat)
  case atStart => exact ⟨1, Nat.le_refl _, hN1, rfl, HR2, HB2.out⟩
  case round =>
    rename World => wr
    obtain ⟨k, hk1, hkN, rfl, HRk, hB⟩ := hrel
    have HB := Lib.hid hB
    clear hB
    by_cases hlt : k < N
    · have hmin : min k (N - k) ≤ k ∧ min k (N - k) ≤ N - k ∧ 1 ≤ min k (N - k) := by omega
      have HMM : Hid (Nat.min k (N - k) = min k (N - k)) := Lib.hid rfl
      generalize min k (N - k) = m at hmin HMM
      obtain ⟨hm1, hm2, hm3⟩ := hmin
      have hkm : k + m ≤ N := by omega
      clear hm2
      have HML : Hid ((List.replicate m (Value.int .i64 v)).length = Nat.min k (N - k)) := Lib.hid (by rw [HMM.out, List.length_replicate])
      have HFIT : Hid (k + (List.replicate m (Value.int .i64 v)).length ≤ (rep N k v).length) := Lib.hid (by rw [rep_length _ _ _ hkN, List.length_replicate]; omega)
      have HONE : Hid (∀ u, u ∈ List.replicate m (Value.int .i64 v) → u.oneCell' = true) := Lib.hid (by simp [Value.oneCell'])
      have HNK : Hid (¬ N = k) := Lib.hid (by omega)
      have HBD : Hid (Below w.heap.size w wr.drew) := Lib.hid HB.out.drew
      have hwr : IntKind.i64.wrap ((k : Int) + (m : Int)) = ((k + m : Nat) : Int) := by rw [IntWalk.i64_in _ (by omega)]; omega
      go_wp2
      go_region_law (refine step_copy_splice rfl (.tmp 41) (.tmp 44) 24 24 rfl 3 Tryz.underlying24 sizeInt (some ⟨w.heap.size, k, none⟩) (some ⟨w.heap.size, 0, none⟩) (N - k) (N - k) k N (by simp [Act.eval, Act.put, HNK.out]) (by simp [Act.eval, Act.put]) w.heap.size k (rep N k v) 3 HRk.out (List.replicate m (.int .i64 v)) HML.out (rep_src HRk.out hkN hm1) HFIT.out HONE.out w.heap.size w HBD.out (Nat.le_refl _) ?_; intro w2 hr2 hb2; have HR2 := Lib.hid hr2.out; have HB2 := Lib.hid hb2; clear hr2 hb2)
      clear hwr
      go_wp2
      go_roundw
      case rel =>
        refine ⟨k + m, by omega, by omega, by go_num, Lib.hid ?_, HB2.out⟩
        have := HR2.out
        rwa [rep_splice N k m v (by omega)] at this
      case measure => simp [intOf]; omega
    · obtain rfl : k = N := by omega
      go_wp2
      go_ret
      refine ⟨_, rfl, (cells_row HRk.out (rep_length _ _ _ (Nat.le_refl _))).congr (fun x hx => ?_), Nat.le_refl _, HB.out⟩
      simp [rep, List.getD, hx]
end Go.Proofs.YtokjnmgbgflgnaaGreatDoor
end

section
namespace Go.Proofs.YtokjnmgbgflgnaaGreatDoor
open Go.RowKit Fl Pt

/-- Is a cell shut? -/
theorem shut_any (G gs N y : Nat) (b : Bool) (w : World) (hN : N ≤ 256) (h1 : w.cell? ⟨G, 4, none⟩ = some (.slice (some ⟨gs, 0, none⟩) N N)) (h2 : w.cell? ⟨gs, y, none⟩ = some (.bool b)) (hy : y < N) :
    Calls Tryz.prog 118 #[.int .i64 (y : Int), .pointer (some ⟨G, 0, none⟩)] w fun e w' => e = .returned (.bool b) ∧ w = w' := by
  go_enter Tryz.func118, Tryz.ntmps118
  go_wp2
  go_ret
  exact ⟨rfl, rfl⟩

def iv (xs : List Nat) (x : Nat) : Value := .int .i64 ((xs.getD x 0 : Nat) : Int)
/-- Told of each of the list's numbers, whatever else is done to its block. -/
def Pred (G : Nat) (P : Nat → Bool) (xs : List Nat) (w : World) : Prop := ∀ y, y ∈ xs → Calls Tryz.prog 118 #[.int .i64 (y : Int), .pointer (some ⟨G, 0, none⟩)] w fun e w' => e = .returned (.bool (P y)) ∧ w = w'
def shutV (G : Nat) : Value := .func (.func 118) #[] #[.pointer (some ⟨G, 0, none⟩)]

/-- The first of those that are so, or -1. -/
def IdxTold (P : Nat → Bool) (xs : List Nat) (w : World) (e : Ending) (w' : World) : Prop :=
  w = w' ∧ ((e = .returned (.int .i64 (-1)) ∧ ∀ j, j < xs.length → P (xs.getD j 0) = false) ∨ ∃ i : Nat, e = .returned (.int .i64 (i : Int)) ∧ i < xs.length ∧ P (xs.getD i 0) = true ∧ ∀ j, j < i → P (xs.getD j 0) = false)

set_option maxHeartbeats 1000000 in
theorem indexFunc_any (G g cap n : Nat) (P : Nat → Bool) (xs : List Nat) (w : World) (hn : n = xs.length) (h256 : n ≤ 256) (hc : Cells g n (iv xs) w) (hP : Pred G P xs w) :
    Calls Tryz.prog 130 #[.slice (some ⟨g, 0, none⟩) n cap, .func (.func 118) #[] #[.pointer (some ⟨G, 0, none⟩)]] w (IdxTold P xs w) := by
  have HC := Lib.hid hc
  have HP := Lib.hid hP
  have HN := Lib.hid hn
  clear hc hP hn
  go_enter Tryz.func130, Tryz.ntmps130
  go_wp2
  go_loop [8] (fun v => ∃ j : Nat, j ≤ n ∧ v = .int .i64 (j : Int) ∧ Hid (∀ i, i < j → P (xs.getD i 0) = false)) (fun v => n - (intOf v).toNat)
  case atStart => exact ⟨0, Nat.zero_le _, rfl, Lib.hid (fun i hi => by omega)⟩
  case round =>
    obtain ⟨j, hj, rfl, HJ⟩ := hrel
    by_cases hlt : j < n
    · have hcj := (HC.out.2 j hlt).1
      have hjx : j < xs.length := by rw [← HN.out]; exact hlt
      have HQ := Lib.hid (HP.out (xs.getD j 0) (getD_mem hjx))
      have HXJ : Hid (∃ y, y = xs.getD j 0) := Lib.hid ⟨_, rfl⟩
      obtain ⟨y, hy⟩ := HXJ.out
      unfold iv at hcj
      rw [← hy] at hcj HQ
      have HY := Lib.hid hy
      clear hy HXJ hjx
      cases hp : P y with
      | false =>
        have HPP := Lib.hid hp
        rw [hp] at HQ
        clear hp
        go_wp2_with (go_at_call 118; refine HQ.out.mono ?_; rintro e w' ⟨rfl, rfl⟩)
        go_round
        case rel =>
          refine ⟨j + 1, by omega, by go_num, Lib.hid (fun i hi => ?_)⟩
          by_cases e : i = j
          · subst e; rw [← HY.out]; exact HPP.out
          · exact HJ.out i (by omega)
        case measure => simp [intOf]; omega
      | true =>
        have HPP := Lib.hid hp
        rw [hp] at HQ
        clear hp
        go_wp2_with (go_at_call 118; refine HQ.out.mono ?_; rintro e w' ⟨rfl, rfl⟩)
        go_ret
        exact ⟨rfl, .inr ⟨j, rfl, by rw [← HN.out]; exact hlt, by rw [← HY.out]; exact HPP.out, HJ.out⟩⟩
    · obtain rfl : j = n := by omega
      go_wp2
      go_ret
      exact ⟨rfl, .inl ⟨rfl, fun i hi => HJ.out i (by rw [HN.out]; exact hi)⟩⟩

/-- Those of the first so many that stay. -/
def kp (P : Nat → Bool) (xs : List Nat) (j : Nat) : List Nat := (xs.take j).filter fun y => !P y
theorem kp_succ {P : Nat → Bool} {xs : List Nat} {j : Nat} (h : j < xs.length) : kp P xs (j + 1) = kp P xs j ++ if P (xs.getD j 0) = true then [] else [xs.getD j 0] := by
  unfold kp
  rw [List.take_succ_eq_append_getElem h, List.filter_append, List.getD, List.getElem?_eq_getElem h]
  cases e : P xs[j] <;> simp [e]
theorem kp_le (P : Nat → Bool) (xs : List Nat) (j : Nat) : (kp P xs j).length ≤ j := Nat.le_trans (List.length_filter_le _ _) (List.length_take_le _ _)
theorem kp_all {P : Nat → Bool} {xs : List Nat} {j : Nat} (h : ∀ i, i < j → P (xs.getD i 0) = false) (hj : j ≤ xs.length) : kp P xs j = xs.take j := by
  unfold kp
  rw [List.filter_eq_self]
  intro y hy
  obtain ⟨i, hi, rfl⟩ := List.getElem_of_mem hy
  have hi' : i < j := by simp at hi; omega
  have := h i hi'
  rw [List.getD, List.getElem?_eq_getElem (by omega : i < xs.length)] at this
  simpa using this
theorem kp_full (P : Nat → Bool) (xs : List Nat) : kp P xs xs.length = xs.filter fun y => !P y := by unfold kp; rw [List.take_length]
/-- What has become of the list's block. -/
structure Kept (g n : Nat) (P : Nat → Bool) (xs : List Nat) (i j : Nat) (w wr : World) : Prop where
  cnt : i = (kp P xs j).length
  lt : i < j
  turn : Turn (fun k => k = g) (fun k => k = g) w wr
  cells : ∃ f, Cells g n f wr ∧ (∀ x, x < i → f x = iv (kp P xs j) x) ∧ ∀ x, j ≤ x → x < n → f x = iv xs x
theorem Kept.skip {g n : Nat} {P : Nat → Bool} {xs : List Nat} {i j : Nat} {w wr : World} (h : Kept g n P xs i j w wr) (hj : j < xs.length) (hp : P (xs.getD j 0) = true) : Kept g n P xs i (j + 1) w wr := by
  obtain ⟨h1, h2, h3, f, h4, h5, h6⟩ := h
  have e : kp P xs (j + 1) = kp P xs j := by rw [kp_succ hj, if_pos hp, List.append_nil]
  exact ⟨by rw [e]; exact h1, by omega, h3, f, h4, by rw [e]; exact h5, fun x hx hn => h6 x (by omega) hn⟩
theorem Kept.put {g n : Nat} {P : Nat → Bool} {xs : List Nat} {i j : Nat} {w wr : World} (h : Kept g n P xs i j w wr) (hn : n = xs.length) (hj : j < xs.length) (hp : P (xs.getD j 0) = false) : Kept g n P xs (i + 1) (j + 1) w (wr.setCell ⟨g, i, none⟩ (.int .i64 ((xs.getD j 0 : Nat) : Int))) := by
  obtain ⟨h1, h2, h3, f, h4, h5, h6⟩ := h
  have e : kp P xs (j + 1) = kp P xs j ++ [xs.getD j 0] := by rw [kp_succ hj, if_neg (by rw [hp]; simp)]
  refine ⟨by rw [e, List.length_append, ← h1]; rfl, by omega, h3.put _ rfl, fun x => if x = i then .int .i64 ((xs.getD j 0 : Nat) : Int) else f x, h4.put i _ (by omega) (fun x _ => rfl), fun x hx => ?_, fun x hx hxn => ?_⟩
  · show (if x = i then _ else f x) = _
    unfold iv
    rw [e]
    by_cases ex : x = i
    · subst ex
      rw [if_pos rfl, h1]
      congr 2
      simp [List.getD]
    · rw [if_neg ex, h5 x (by omega)]
      unfold iv
      congr 2
      rw [List.getD, List.getD, List.getElem?_append_left (by omega)]
  · show (if x = i then _ else f x) = _
    rw [if_neg (by omega), h6 x (by omega) hxn]

/-- Those that are not so, in the block of the list. -/
def DelTold (g n cap : Nat) (ys : List Nat) (w : World) (e : Ending) (w' : World) : Prop :=
  e = .returned (.slice (some ⟨g, 0, none⟩) ys.length cap) ∧ ys.length ≤ n ∧ (∃ f, Cells g n f w' ∧ ∀ x, x < ys.length → f x = iv ys x) ∧ Turn (fun k => k = g) (fun k => k = g) w w'

theorem Cells.puts {b n : Nat} : ∀ (vs : List Value) (o : Nat) {f : Nat → Value} {w : World}, Cells b n f w → o + vs.length ≤ n → ∃ f', Cells b n f' (w.setCells b o vs) ∧ ∀ x, x < o → f' x = f x
  | [], o, f, w, h, _ => ⟨f, h, fun _ _ => rfl⟩
  | v :: vs, o, f, w, h, hl => by
    simp only [List.length_cons] at hl
    obtain ⟨f', h1, h2⟩ := (h.put o v (by omega) (g := fun x => if x = o then v else f x) (fun _ _ => rfl)).puts vs (o + 1) (by omega)
    exact ⟨f', h1, fun x hx => by rw [h2 x (by omega)]; show (if x = o then v else f x) = _; rw [if_neg (by omega)]⟩
theorem turn_setCells (b : Nat) : ∀ (vs : List Value) (o : Nat) (w : World), Turn (fun k => k = b) (fun k => k = b) w (w.setCells b o vs)
  | [], _, _ => Turn.refl _ _
  | v :: vs, o, w => (Turn.setCell (F := fun k => k = b) w ⟨b, o, none⟩ v rfl).trans (turn_setCells b vs (o + 1) _)

theorem zero_int (w : World) : (zeroValue 3).run Tryz.prog w = .ok (.int .i64 0) w := by kernel_rfl
set_option maxHeartbeats 2000000 in
theorem deleteFunc_any (G g cap n : Nat) (P : Nat → Bool) (xs : List Nat) (w : World) (hn : n = xs.length) (h256 : 1 ≤ n ∧ n ≤ 256) (hcap : n ≤ cap ∧ cap ≤ maxLen) (hc : Cells g n (iv xs) w) (hP : ∀ wx, Turn (fun k => k = g) (fun k => k = g) w wx → Pred G P xs wx) :
    Calls Tryz.prog 119 #[.slice (some ⟨g, 0, none⟩) n cap, .func (.func 118) #[] #[.pointer (some ⟨G, 0, none⟩)]] w (DelTold g n cap (xs.filter fun y => !P y) w) := by
  obtain ⟨hn1, hn2⟩ := h256
  obtain ⟨hc1, hc2⟩ := hcap
  unfold maxLen at hc2
  have HIX := Lib.hid (indexFunc_any G g cap n P xs w hn hn2 hc (hP w (Turn.refl _ _)))
  have HC := Lib.hid hc
  have HP := Lib.hid hP
  have HN := Lib.hid hn
  clear hc hP hn
  go_enter Tryz.func119, Tryz.ntmps119
  go_wp2_with fail
  refine HIX.out.mono ?_
  rintro e w1 ⟨rfl, ⟨rfl, hall⟩ | ⟨i0, rfl, hi0, hp0, hb0⟩⟩
  · have HALL := Lib.hid hall
    clear hall
    go_wp2_with fail
    go_ret
    have e : (xs.filter fun y => !P y) = xs := by
      have := kp_all HALL.out (Nat.le_refl _)
      rw [kp_full, List.take_length] at this
      exact this
    exact ⟨by rw [e, ← HN.out]; rfl, by rw [e, HN.out]; exact Nat.le_refl _, ⟨iv xs, HC.out, fun x hx => by rw [e]⟩, Turn.refl _ _⟩
  · have hi0n : i0 < n := by rw [HN.out]; exact hi0
    have HI0 := Lib.hid hi0
    have HP0 := Lib.hid hp0
    have HB0 := Lib.hid hb0
    have hne : ((i0 : Int) == -1) = false := beq_eq_false_iff_ne.2 (by omega)
    clear hi0 hp0 hb0
    go_wp2_with fail
    clear hne
    go_loopw [5, 6] (fun a5 a6 wr => ∃ i j : Nat, j ≤ n ∧ i < j ∧ a5 = .int .i64 (i : Int) ∧ a6 = .int .i64 (j : Int) ∧ Hid (Kept g n P xs i j w wr)) (fun _ a6 _ => n - (intOf a6).toNat)
    case atStart =>
      refine ⟨i0, i0 + 1, by omega, by omega, rfl, by go_num, Lib.hid ?_⟩
      have e : kp P xs (i0 + 1) = xs.take i0 := by rw [kp_succ HI0.out, if_pos HP0.out, List.append_nil, kp_all HB0.out (Nat.le_of_lt HI0.out)]
      have hi := HI0.out
      refine ⟨by rw [e, List.length_take]; omega, by omega, Turn.refl _ _, iv xs, HC.out, fun x hx => ?_, fun _ _ _ => rfl⟩
      rw [e]
      unfold iv
      congr 2
      rw [List.getD, List.getD, List.getElem?_take_of_lt hx]
    case round =>
      rename World => wr
      obtain ⟨i, j, hj, hij, rfl, rfl, HK⟩ := hrel
      by_cases hlt : j < n
      · obtain ⟨f, hF, hlo, hhi⟩ := HK.out.cells
        have hcj := (hF.2 j hlt).1
        have hci := (hF.2 i (by omega)).1
        have hfi := (hF.2 i (by omega)).2
        rw [hhi j (Nat.le_refl _) hlt] at hcj
        have hjx : j < xs.length := by rw [← HN.out]; exact hlt
        have HQ := Lib.hid (HP.out wr HK.out.turn (xs.getD j 0) (getD_mem hjx))
        have HSK := Lib.hid (fun h => HK.out.skip hjx h)
        have HPU := Lib.hid (fun h => HK.out.put HN.out hjx h)
        unfold iv at hcj
        clear hF hlo hhi hjx
        generalize xs.getD j 0 = y at *
        cases hp : P y with
        | false =>
          have HPP := Lib.hid hp
          rw [hp] at HQ
          clear hp
          go_wp2_with (go_at_call 118; refine HQ.out.mono ?_; rintro e w' ⟨rfl, rfl⟩)
          go_roundw
          case rel => exact ⟨i + 1, j + 1, by omega, by omega, by go_num, by go_num, Lib.hid (HPU.out HPP.out)⟩
          case measure => simp [intOf]; omega
        | true =>
          have HPP := Lib.hid hp
          rw [hp] at HQ
          clear hp
          go_wp2_with (go_at_call 118; refine HQ.out.mono ?_; rintro e w' ⟨rfl, rfl⟩)
          go_roundw
          case rel => exact ⟨i, j + 1, by omega, by omega, rfl, by go_num, Lib.hid (HSK.out HPP.out)⟩
          case measure => simp [intOf]; omega
      · obtain rfl : j = n := by omega
        have hcl : ∀ ty, (Builtin.clear_ #[24] ty #[.slice (some ⟨g, 0 + i, none⟩) (j - i) (cap - i)]).run Tryz.prog wr = .ok (.tuple #[]) (wr.setCells g (0 + i) (List.replicate (j - i) (.int .i64 0))) := fun ty => by
          obtain ⟨f, hF, _, _⟩ := HK.out.cells
          refine Lib.run_clear_slice wr _ _ ty _ Tryz.underlying24 zero_int rfl rfl g (0 + i) _ _ (by omega) (fun t ht => ?_) (fun t ht => ?_)
          · rw [Nat.zero_add, (hF.2 (i + t) (by omega)).1]; rfl
          · rw [Nat.zero_add]; exact (hF.2 (i + t) (by omega)).2
        rw [Nat.zero_add] at hcl
        have hci : ¬ cap = i := by omega
        go_wp2
        go_ret
        obtain ⟨h1, h2, h3, f, h4, h5, h6⟩ := HK.out
        obtain ⟨f', h7, h8⟩ := h4.puts (List.replicate (j - i) (.int .i64 0)) i (by simp; omega)
        have e : kp P xs j = xs.filter fun y => !P y := by rw [HN.out]; exact kp_full P xs
        rw [e] at h1 h5
        refine ⟨by rw [← h1]; rfl, by omega, ⟨f', h7, fun x hx => ?_⟩, h3.trans (turn_setCells _ _ _ _)⟩
        rw [h8 x (by omega)]
        exact h5 x (by omega)
end Go.Proofs.YtokjnmgbgflgnaaGreatDoor
end

section
namespace Go.Proofs.YtokjnmgbgflgnaaGreatDoor
open Go.RowKit Fl Pt

/-- A list lies at v: none, or in a block from base on. -/
def Ml (w : World) (base : Nat) (v : Value) (xs : List Nat) : Prop :=
  (v = .slice none 0 0 ∧ xs = []) ∨ ∃ g cap, v = .slice (some ⟨g, 0, none⟩) xs.length cap ∧ base ≤ g ∧ xs.length ≤ cap ∧ cap ≤ maxLen ∧ ∃ f, Cells g xs.length f w ∧ ∀ x, x < xs.length → f x = iv xs x
theorem Ml.same {w w' : World} {base : Nat} {v : Value} {xs : List Nat} (h : Ml w base v xs) (hs : w.heap.size ≤ w'.heap.size) (hb : ∀ k, v.ownBlock = some k → w'.heap[k]? = w.heap[k]?) : Ml w' base v xs := by
  rcases h with h | ⟨g, cap, rfl, h1, h2, h3, f, h4, h5⟩
  · exact .inl h
  · exact .inr ⟨g, cap, rfl, h1, h2, h3, f, h4.same hs (hb g rfl), h5⟩
theorem Ml.lt {w : World} {base : Nat} {v : Value} {xs : List Nat} (h : Ml w base v xs) : ∀ k, v.ownBlock = some k → base ≤ k ∧ k < w.heap.size := by
  rcases h with ⟨rfl, _⟩ | ⟨g, cap, rfl, h1, h2, h3, f, h4, h5⟩
  · intro k hk; cases hk
  · intro k hk; cases hk; exact ⟨h1, h4.1⟩
theorem Ml.il {w : World} {base : Nat} {v : Value} {xs : List Nat} (h : Ml w base v xs) : ∃ A n cap, v = .slice A n cap ∧ n = xs.length ∧ Il w.heap.size w A n cap (fun j => ((xs.getD j 0 : Nat) : Int)) := by
  rcases h with ⟨rfl, rfl⟩ | ⟨g, cap, rfl, h1, h2, h3, f, h4, h5⟩
  · exact ⟨none, 0, 0, rfl, rfl, Il.empty _ _ _⟩
  · exact ⟨_, _, _, rfl, rfl, h2, h3, fun e => by (simp at e), fun _ => ⟨g, 0, rfl, h4.1, fun j hj => by rw [Nat.zero_add, (h4.2 j hj).1, h5 j hj]; rfl⟩⟩

/-- A floor as the ways from a cell go over it, in three blocks; mv: the steps that were asked for. -/
structure Gd (w : World) (W H : Nat) (s : ByteArray) (a : Nat) (B : Nat → Bool) (base gl gs gt : Nat) (mv : Nat → Value) : Prop where
  lv : Cells gl s.size (fun x => .bool (outB (at_ s) a x)) w
  sh : Cells gs s.size (fun x => .bool (B x)) w
  tb : Cells gt s.size mv w
  bl : base ≤ gl
  bs : base ≤ gs
  bt : base ≤ gt
  n1 : gl ≠ gt
  n2 : gs ≠ gt
  mem : ∀ c, c < s.size → mv c = .slice none 0 0 ∨ (outB (at_ s) a c = true ∧ (mv c).ownBlock ≠ none ∧ (mv c).ownBlock ≠ some gt ∧ Ml w base (mv c) (nx5 W H (at_ s) a B c))
/-- Its blocks. -/
def GF (gl gs gt n : Nat) (mv : Nat → Value) : Nat → Prop := fun k => k = gl ∨ k = gs ∨ k = gt ∨ ∃ c, c < n ∧ (mv c).ownBlock = some k
theorem Gd.turn {w w' : World} {W H : Nat} {s : ByteArray} {a : Nat} {B : Nat → Bool} {base gl gs gt : Nat} {mv : Nat → Value} {F F' : Nat → Prop} (h : Gd w W H s a B base gl gs gt mv) (ht : Turn F F' w w')
    (hF : ∀ k, GF gl gs gt s.size mv k → ¬ F k) : Gd w' W H s a B base gl gs gt mv := by
  refine ⟨h.lv.turn ht (hF _ (.inl rfl)), h.sh.turn ht (hF _ (.inr (.inl rfl))), h.tb.turn ht (hF _ (.inr (.inr (.inl rfl)))), h.bl, h.bs, h.bt, h.n1, h.n2, fun c hc => ?_⟩
  rcases h.mem c hc with e | ⟨e1, e2, e3, e4⟩
  · exact .inl e
  · exact .inr ⟨e1, e2, e3, e4.same ht.size (fun k hk => ht.block k (e4.lt k hk).2 (hF k (.inr (.inr (.inr ⟨c, hc, hk⟩)))))⟩
theorem Gd.foot {w : World} {W H : Nat} {s : ByteArray} {a : Nat} {B : Nat → Bool} {base gl gs gt : Nat} {mv : Nat → Value} (h : Gd w W H s a B base gl gs gt mv) : ∀ k, GF gl gs gt s.size mv k → base ≤ k ∧ k < w.heap.size := by
  intro k hk
  rcases hk with rfl | rfl | rfl | ⟨c, hc, hk⟩
  · exact ⟨h.bl, h.lv.1⟩
  · exact ⟨h.bs, h.sh.1⟩
  · exact ⟨h.bt, h.tb.1⟩
  · rcases h.mem c hc with e | ⟨e1, e2, e3, e4⟩
    · rw [e] at hk; cases hk
    · exact e4.lt k hk
theorem Gd.later {w w' : World} {W H : Nat} {s : ByteArray} {a : Nat} {B : Nat → Bool} {base gl gs gt : Nat} {mv : Nat → Value} (h : Gd w W H s a B base gl gs gt mv) (hb : Below w.heap.size w w') : Gd w' W H s a B base gl gs gt mv :=
  h.turn (Turn.ofBelow hb (fun _ => False)) (fun _ _ h => h)
/-- Steps are kept. -/
theorem Gd.keep {w : World} {W H : Nat} {s : ByteArray} {a : Nat} {B : Nat → Bool} {base gl gs gt : Nat} {mv : Nat → Value} (h : Gd w W H s a B base gl gs gt mv) (c : Nat) (hc : c < s.size) (v : Value) (ho : outB (at_ s) a c = true) (hne : v.ownBlock ≠ none) (hgt : v.ownBlock ≠ some gt)
    (hm : Ml w base v (nx5 W H (at_ s) a B c)) : Gd (w.setCell ⟨gt, c, none⟩ v) W H s a B base gl gs gt (fun x => if x = c then v else mv x) := by
  have ht : Turn (fun k => k = gt) (fun k => k = gt) w (w.setCell ⟨gt, c, none⟩ v) := Turn.setCell w ⟨gt, c, none⟩ v rfl
  refine ⟨h.lv.turn ht h.n1, h.sh.turn ht h.n2, h.tb.put c v hc (fun x _ => rfl), h.bl, h.bs, h.bt, h.n1, h.n2, fun x hx => ?_⟩
  by_cases e : x = c
  · subst e
    rw [if_pos rfl]
    exact .inr ⟨ho, hne, hgt, hm.same ht.size (fun k hk => ht.block k (hm.lt k hk).2 (fun e => hgt (by rw [hk, e])))⟩
  · rw [if_neg e]
    rcases h.mem x hx with e | ⟨e1, e2, e3, e4⟩
    · exact .inl e
    · exact .inr ⟨e1, e2, e3, e4.same ht.size (fun k hk => ht.block k (e4.lt k hk).2 (fun e => e3 (by rw [hk, e])))⟩

/-- As a value. -/
def gv (W H : Nat) (s : ByteArray) (gl gs gt : Nat) : Value := .agg #[.int .i64 (W : Int), .int .i64 (H : Int), .string s, .slice (some ⟨gl, 0, none⟩) s.size s.size, .slice (some ⟨gs, 0, none⟩) s.size s.size, .slice (some ⟨gt, 0, none⟩) s.size s.size]
def NextTold (W H : Nat) (s : ByteArray) (a : Nat) (B : Nat → Bool) (base gl gs gt : Nat) (mv : Nat → Value) (c : Nat) (w : World) (e : Ending) (w' : World) : Prop :=
  ∃ A n cap mv', e = .returned (.slice A n cap) ∧ n = (nx5 W H (at_ s) a B c).length ∧ Ml w' base (.slice A n cap) (nx5 W H (at_ s) a B c) ∧ Gd w' W H s a B base gl gs gt mv' ∧ Turn (fun k => k = gt) (fun k => k = gt) w w' ∧
    (∀ k, GF gl gs gt s.size mv' k → GF gl gs gt s.size mv k ∨ w.heap.size ≤ k) ∧ ∀ k, (Value.slice A n cap).ownBlock = some k → GF gl gs gt s.size mv' k

/-- What is near to a cell that is no wall. -/
def NrTold (xs : List Nat) (w : World) (e : Ending) (w' : World) : Prop :=
  ∃ g n cap, e = .returned (.slice (some ⟨g, 0, none⟩) n cap) ∧ n = xs.length ∧ (1 ≤ n ∧ n ≤ 4) ∧ (n ≤ cap ∧ cap ≤ maxLen) ∧ Cells g n (iv xs) w' ∧ w.heap.size ≤ g ∧ Below w.heap.size w w'
theorem own_cells {w : World} {base g n cap : Nat} {xs : List Nat} (h : Own w base (.slice (some ⟨g, 0, none⟩) n cap) xs) (hn : n = xs.length) : Cells g n (iv xs) w := by
  subst hn
  refine ⟨(h.lt g rfl).2, fun x hx => ⟨?_, h.frozenAt x⟩⟩
  obtain ⟨g', e, _, hc⟩ := h.at x (by omega)
  obtain rfl : g = g' := by simpa using e
  exact hc
theorem nears_nr (W H c : Nat) (s : ByteArray) : nears (W : Int) (H : Int) s (c : Int) = nr W H (at_ s) c := rfl
theorem near_nr (W H c : Nat) (s : ByteArray) (w : World) (hR : Right (W : Int) (H : Int) s) (hc : c < s.size) (hz : at_ s c ≠ 35) :
    Calls Tryz.prog 23 #[.agg #[.int .i64 (W : Int), .int .i64 (H : Int), .string s], .int .i64 (c : Int)] w (NrTold (nr W H (at_ s) c) w) := by
  have h256 := rightLe hR
  have hOn : OnFloor (W : Int) (H : Int) s (c : Int) := ⟨hR, by unfold bAt; rw [if_pos (by omega)]; exact hz⟩
  obtain ⟨W', H', e1, e2, hS, hN⟩ := rightNat hR
  obtain rfl : W = W' := by omega
  obtain rfl : H = H' := by omega
  refine (near_any (W : Int) (H : Int) s (by unfold maxLen; omega) (c : Int) w).mono fun e w' ⟨A, n, cap, xs, h1, h2, h3, _, h5, h6⟩ => ?_
  obtain rfl := (h3 hOn).trans (nears_nr W H c s)
  have hne := near_some hS.w1 hN (by rw [← hS.sz]; exact hc) hz
  have hl : 1 ≤ (nr W H (at_ s) c).length := by
    rcases Nat.eq_zero_or_pos (nr W H (at_ s) c).length with e | e
    · exact absurd (List.eq_nil_of_length_eq_zero e) hne
    · exact e
  obtain ⟨g, rfl, _, _⟩ := h5.at 0 (by omega)
  have := h5.lt g rfl
  exact ⟨g, n, cap, h1, h2, ⟨by omega, by have := nr_len W H c (at_ s); omega⟩, h5.cap h2, own_cells h5 h2, by omega, h6⟩

/-- The ground's own box. -/
def Gx (G W H : Nat) (s : ByteArray) (gl gs gt : Nat) (w : World) : Prop :=
  w.heap[G]? = some (.cells #[.int .i64 (W : Int), .int .i64 (H : Int), .string s, .slice (some ⟨gl, 0, none⟩) s.size s.size, .slice (some ⟨gs, 0, none⟩) s.size s.size, .slice (some ⟨gt, 0, none⟩) s.size s.size] 99 (0, 0))
theorem Gx.cells {G W H : Nat} {s : ByteArray} {gl gs gt : Nat} {w : World} (h : Gx G W H s gl gs gt w) :
    w.cell? ⟨G, 0, none⟩ = some (.int .i64 (W : Int)) ∧ w.cell? ⟨G, 1, none⟩ = some (.int .i64 (H : Int)) ∧ w.cell? ⟨G, 2, none⟩ = some (.string s) ∧ w.cell? ⟨G, 3, none⟩ = some (.slice (some ⟨gl, 0, none⟩) s.size s.size) ∧
    w.cell? ⟨G, 4, none⟩ = some (.slice (some ⟨gs, 0, none⟩) s.size s.size) ∧ w.cell? ⟨G, 5, none⟩ = some (.slice (some ⟨gt, 0, none⟩) s.size s.size) :=
  ⟨by rw [cell_of_row w G 0 _ _ _ h]; rfl, by rw [cell_of_row w G 1 _ _ _ h]; rfl, by rw [cell_of_row w G 2 _ _ _ h]; rfl, by rw [cell_of_row w G 3 _ _ _ h]; rfl, by rw [cell_of_row w G 4 _ _ _ h]; rfl, by rw [cell_of_row w G 5 _ _ _ h]; rfl⟩
theorem Gx.lt {G W H : Nat} {s : ByteArray} {gl gs gt : Nat} {w : World} (h : Gx G W H s gl gs gt w) : G < w.heap.size := lt_of_heap h
theorem Gx.later {G W H : Nat} {s : ByteArray} {gl gs gt : Nat} {w w' : World} (h : Gx G W H s gl gs gt w) (hb : Below w.heap.size w w') : Gx G W H s gl gs gt w' := (hb.block G h.lt).trans h
theorem Gx.turn {G W H : Nat} {s : ByteArray} {gl gs gt : Nat} {w w' : World} {F F' : Nat → Prop} (h : Gx G W H s gl gs gt w) (ht : Turn F F' w w') (hF : ¬ F G) : Gx G W H s gl gs gt w' := (ht.block G h.lt hF).trans h

/-- Behind the call that tells what is near. -/
structure Ns (W H : Nat) (s : ByteArray) (a : Nat) (B : Nat → Bool) (base gl gs gt : Nat) (mv : Nat → Value) (w : World) (g n : Nat) (f : Nat → Value) (w2 : World) : Prop where
  box : Gx w.heap.size W H s gl gs gt w2
  gd : Gd w2 W H s a B base gl gs gt mv
  below : Below w.heap.size w w2
  foot : ∀ k, GF gl gs gt s.size mv k → k < w.heap.size
  row : Cells g n f w2
  new : w.heap.size < g
theorem near_state {W H : Nat} {s : ByteArray} {a : Nat} {B : Nat → Bool} {base gl gs gt : Nat} {mv : Nat → Value} {w w1 w2 : World} {g n : Nat} {f : Nat → Value} (h : Gd w W H s a B base gl gs gt mv) (hx : Gx w.heap.size W H s gl gs gt w1)
    (hb : Below w.heap.size w w1) (hb2 : Below w1.drew.heap.size w1.drew w2) (hg : w1.drew.heap.size ≤ g) (hc : Cells g n f w2) : Ns W H s a B base gl gs gt mv w g n f w2 := by
  have hb3 : Below w1.heap.size w1 w2 := (Below.refl w1.heap.size w1).drew.trans hb2
  have hlt := hx.lt
  have hg' : w1.heap.size ≤ g := hg
  exact ⟨hx.later hb3, (h.later hb).later hb3, hb.trans (hb3.mono hb.size), fun k hk => (h.foot k hk).2, hc, by omega⟩
theorem Ns.nil {W H : Nat} {s : ByteArray} {a : Nat} {B : Nat → Bool} {base gl gs gt : Nat} {mv : Nat → Value} {w : World} {g n : Nat} {f : Nat → Value} {w2 : World} (h : Ns W H s a B base gl gs gt mv w g n f w2) {c : Nat} (hm : mv c = .slice none 0 0) (hc : c < s.size) :
    w2.cell? ⟨gt, c, none⟩ = some (.slice none 0 0) := by rw [← hm]; exact (h.gd.tb.2 c hc).1
theorem Ns.free {W H : Nat} {s : ByteArray} {a : Nat} {B : Nat → Bool} {base gl gs gt : Nat} {mv : Nat → Value} {w : World} {g n : Nat} {f : Nat → Value} {w2 : World} (h : Ns W H s a B base gl gs gt mv w g n f w2) {c : Nat} (hc : c < s.size) :
    w2.frozen? ⟨gt, c, none⟩ = false := (h.gd.tb.2 c hc).2
theorem Ns.kept {W H : Nat} {s : ByteArray} {a : Nat} {B : Nat → Bool} {base gl gs gt : Nat} {mv : Nat → Value} {w : World} {g n : Nat} {f : Nat → Value} {w2 w3 : World} {ys : List Nat} (h : Ns W H s a B base gl gs gt mv w g n f w2) (ht : Turn (fun k => k = g) (fun k => k = g) w2 w3)
    (hc : ∃ f, Cells g n f w3 ∧ ∀ x, x < ys.length → f x = iv ys x) : ∃ f, Ns W H s a B base gl gs gt mv w g n f w3 ∧ ∀ x, x < ys.length → f x = iv ys x := by
  obtain ⟨f3, h1, h2⟩ := hc
  have hn := h.new
  have hb3 : Below w.heap.size w2 w3 := ht.below _ h.below.size (fun k hk => by omega)
  exact ⟨f3, ⟨h.box.turn ht (by omega), h.gd.turn ht (fun k hk e => by have := h.foot k hk; omega), h.below.trans hb3, h.foot, h1, h.new⟩, h2⟩
theorem pred_of {G W H : Nat} {s : ByteArray} {gl gs gt : Nat} {B : Nat → Bool} {wx : World} {xs : List Nat} (hx : Gx G W H s gl gs gt wx) (hs : Cells gs s.size (fun x => .bool (B x)) wx) (hN : s.size ≤ 256) (hl : ∀ y, y ∈ xs → y < s.size) : Pred G B xs wx :=
  fun y hy => shut_any G gs s.size y (B y) wx hN hx.cells.2.2.2.2.1 (hs.2 y (hl y hy)).1 (hl y hy)
theorem Ns.del {W H : Nat} {s : ByteArray} {a : Nat} {B : Nat → Bool} {base gl gs gt : Nat} {mv : Nat → Value} {w : World} {g n cap c : Nat} {w2 : World} (h : Ns W H s a B base gl gs gt mv w g n (iv (nr W H (at_ s) c)) w2) (hn : n = (nr W H (at_ s) c).length) (hl : 1 ≤ n ∧ n ≤ 4) (hcap : n ≤ cap ∧ cap ≤ maxLen)
    (h256 : s.size ≤ 256) (hR : Right (W : Int) (H : Int) s) (hc : c < s.size) :
    Calls Tryz.prog 119 #[.slice (some ⟨g, 0, none⟩) n cap, .func (.func 118) #[] #[.pointer (some ⟨w.heap.size, 0, none⟩)]] w2 (DelTold g n cap ((nr W H (at_ s) c).filter fun y => !B y) w2) := by
  obtain ⟨W', H', e1, e2, hS, hN⟩ := rightNat hR
  obtain rfl : W = W' := by omega
  obtain rfl : H = H' := by omega
  have hnw := h.new
  refine deleteFunc_any w.heap.size g cap n B _ w2 hn ⟨hl.1, by omega⟩ hcap h.row (fun wx ht => pred_of (h.box.turn ht (by omega)) (h.gd.sh.turn ht ?_) h256 (fun y hy => ?_))
  · intro e
    have := h.foot gs (.inr (.inl rfl))
    have e' : gs = g := e
    omega
  · rw [hS.sz]; exact nr_lt hS.w1 (by rw [← hS.sz]; exact hc) hy

theorem six_kept {w3 : World} {G gt c : Nat} (l : gt < G) {v0 v1 v2 v5 v6 : Value} (h0 : w3.cell? ⟨G, 0, none⟩ = some v0) (h1 : w3.cell? ⟨G, 1, none⟩ = some v1) (h2 : w3.cell? ⟨G, 2, none⟩ = some v2) (h5 : w3.cell? ⟨G, 5, none⟩ = some v5)
    (h6 : w3.cell? ⟨gt, c, none⟩ = some v6) (h7 : w3.frozen? ⟨gt, c, none⟩ = false) (u : Value) :
    (w3.setCell ⟨gt, c, none⟩ u).cell? ⟨G, 0, none⟩ = some v0 ∧ (w3.setCell ⟨gt, c, none⟩ u).cell? ⟨G, 1, none⟩ = some v1 ∧ (w3.setCell ⟨gt, c, none⟩ u).cell? ⟨G, 2, none⟩ = some v2 ∧ (w3.setCell ⟨gt, c, none⟩ u).cell? ⟨G, 5, none⟩ = some v5 ∧
    (∃ u', (w3.setCell ⟨gt, c, none⟩ u).cell? ⟨gt, c, none⟩ = some u') ∧ (w3.setCell ⟨gt, c, none⟩ u).frozen? ⟨gt, c, none⟩ = false := by
  have hne : ∀ o, (⟨gt, c, none⟩ : Addr) ≠ ⟨G, o, none⟩ := fun o e => absurd (congrArg Addr.block e) (Nat.ne_of_lt l)
  exact ⟨by rw [World.cell?_setCell_other (h := hne 0)]; exact h0, by rw [World.cell?_setCell_other (h := hne 1)]; exact h1, by rw [World.cell?_setCell_other (h := hne 2)]; exact h2, by rw [World.cell?_setCell_other (h := hne 5)]; exact h5,
    ⟨_, World.cell?_setCell_same w3 _ u h6⟩, by rw [World.frozen?_setCell]; exact h7⟩
theorem nil_is (w : World) : (binOp BinOp.eql 24 (.slice none 0 0) (.slice none 0 0)).run Tryz.prog w = .ok (.bool true) w := by kernel_rfl
theorem nil_not (w : World) (g n c : Nat) : (binOp BinOp.eql 24 (.slice (some ⟨g, 0, none⟩) n c) (.slice none 0 0)).run Tryz.prog w = .ok (.bool false) w := by kernel_rfl
set_option maxHeartbeats 2000000 in
theorem next_any (W H a : Nat) (s : ByteArray) (B : Nat → Bool) (base gl gs gt c : Nat) (mv : Nat → Value) (w : World) (hR : Right (W : Int) (H : Int) s) (hz : at_ s a ≠ 35) (hc : c < s.size) (hbase : base ≤ w.heap.size)
    (h : Gd w W H s a B base gl gs gt mv) :
    Calls Tryz.prog 101 #[.agg #[.int .i64 (W : Int), .int .i64 (H : Int), .string s, .slice (some ⟨gl, 0, none⟩) s.size s.size, .slice (some ⟨gs, 0, none⟩) s.size s.size, .slice (some ⟨gt, 0, none⟩) s.size s.size], .int .i64 (c : Int)] w (NextTold W H s a B base gl gs gt mv c w) := by
  have h256 := rightLe hR
  have k1 : w.cell? ⟨gl, c, none⟩ = some (.bool (outB (at_ s) a c)) := (h.lv.2 c hc).1
  have k2 := (h.tb.2 c hc).1
  have l1 := h.lv.1
  have l2 := h.tb.1
  have HG := Lib.hid h
  have HR := Lib.hid hR
  have HZ := Lib.hid hz
  have HBA := Lib.hid hbase
  clear h hR hz hbase
  cases ho : outB (at_ s) a c with
  | false =>
    have HO := Lib.hid ho
    have hm : mv c = .slice none 0 0 := by
      rcases HG.out.mem c hc with e | ⟨e, _⟩
      · exact e
      · rw [ho] at e; cases e
    rw [ho] at k1
    rw [hm] at k2
    have HM := Lib.hid hm
    clear ho hm
    go_enter Tryz.func101, Tryz.ntmps101
    go_wp2
    go_ret
    have hb := (Below.refl w.heap.size w).alloc (Nat.le_refl _) (.cells #[.int .i64 (W : Int), .int .i64 (H : Int), .string s, .slice (some ⟨gl, 0, none⟩) s.size s.size, .slice (some ⟨gs, 0, none⟩) s.size s.size, .slice (some ⟨gt, 0, none⟩) s.size s.size] 99)
    exact ⟨none, 0, 0, mv, rfl, by rw [nx5_no HO.out]; rfl, .inl ⟨rfl, nx5_no HO.out⟩, HG.out.later hb, Turn.ofBelow hb _, fun k hk => .inl hk, fun k hk => by cases hk⟩
  | true =>
    have HO := Lib.hid ho
    rw [ho] at k1
    clear ho
    rcases HG.out.mem c hc with hm | ⟨_, hm1, hm2, hm3⟩
    · have hzc : at_ s c ≠ 35 := by
        rcases outB_iff.1 HO.out with e | e
        · rw [e]; exact HZ.out
        · intro e2; rw [e2] at e; revert e; decide
      have HNR := Lib.hid (fun wx => near_nr W H c s wx HR.out hc hzc)
      have k3 := (HG.out.tb.2 c hc).2
      rw [hm] at k2
      have HM := Lib.hid hm
      have HX1 : Hid (Gx w.heap.size W H s gl gs gt (w.alloc (.cells #[.int .i64 (W : Int), .int .i64 (H : Int), .string s, .slice (some ⟨gl, 0, none⟩) s.size s.size, .slice (some ⟨gs, 0, none⟩) s.size s.size, .slice (some ⟨gt, 0, none⟩) s.size s.size] 99))) := Lib.hid (heap_alloc_new w _)
      have HB1 : Hid (Below w.heap.size w (w.alloc (.cells #[.int .i64 (W : Int), .int .i64 (H : Int), .string s, .slice (some ⟨gl, 0, none⟩) s.size s.size, .slice (some ⟨gs, 0, none⟩) s.size s.size, .slice (some ⟨gt, 0, none⟩) s.size s.size] 99))) := Lib.hid ((Below.refl w.heap.size w).alloc (Nat.le_refl _) _)
      have HSZ : Hid ((w.alloc (.cells #[.int .i64 (W : Int), .int .i64 (H : Int), .string s, .slice (some ⟨gl, 0, none⟩) s.size s.size, .slice (some ⟨gs, 0, none⟩) s.size s.size, .slice (some ⟨gt, 0, none⟩) s.size s.size] 99)).heap.size = w.heap.size + 1) := Lib.hid (by simp)
      clear hm hzc
      have nl := fun wx => nil_is wx
      go_enter Tryz.func101, Tryz.ntmps101
      go_wp2_with fail
      have k4 := (HB1.out.frozen (p := ⟨gt, c, none⟩) l2).trans k3
      go_region_held3 (fun w' => w'.cell? ⟨w.heap.size, 0, none⟩ = some (.int .i64 (W : Int)) ∧ w'.cell? ⟨w.heap.size, 1, none⟩ = some (.int .i64 (H : Int)) ∧ w'.cell? ⟨w.heap.size, 2, none⟩ = some (.string s) ∧ w'.cell? ⟨w.heap.size, 5, none⟩ = some (.slice (some ⟨gt, 0, none⟩) s.size s.size) ∧ (∃ u, w'.cell? ⟨gt, c, none⟩ = some u) ∧ w'.frozen? ⟨gt, c, none⟩ = false) (first | exact six_kept l2 e0 e1 e2 e5 e6 e7 _ | go_keep)
        ((first
          | (go_at_call 23; refine (HNR.out _).mono ?_; rintro e w2 ⟨g2, n2, cap2, rfl, hn2, hl2, hcap2, hc2, hg2, hb2⟩; have HS2 := Lib.hid (near_state HG.out HX1.out HB1.out hb2 hg2 hc2); have HN2 := Lib.hid hn2; have HL2 := Lib.hid hl2; have HC2 := Lib.hid hcap2; clear hn2 hl2 hcap2 hc2 hg2 hb2; have e0 := HS2.out.box.cells.1; have e1 := HS2.out.box.cells.2.1; have e2 := HS2.out.box.cells.2.2.1; have e5 := HS2.out.box.cells.2.2.2.2.2; have e6 := HS2.out.nil HM.out hc; have e7 := HS2.out.free hc)
          | (go_at_call 119; refine (HS2.out.del HN2.out HL2.out HC2.out h256 HR.out hc).mono ?_; rintro e w3 ⟨rfl, hl3, hc3, ht3⟩; have HT3 := Lib.hid ht3; obtain ⟨f3, hs3, hf3⟩ := HS2.out.kept ht3 hc3; have HS3 := Lib.hid hs3; have HF3 := Lib.hid hf3; have HL3 := Lib.hid hl3; clear hl3 hc3 ht3 hs3 hf3; have e0 := HS3.out.box.cells.1; have e1 := HS3.out.box.cells.2.1; have e2 := HS3.out.box.cells.2.2.1; have e5 := HS3.out.box.cells.2.2.2.2.2; have e6 := HS3.out.nil HM.out hc; have e7 := HS3.out.free hc)))
      have HEQ := Lib.hid (nx5_yes (W := W) (H := H) (B := B) HO.out)
      have HNL : Hid ((nx5 W H (at_ s) a B c).length ≤ n2) := Lib.hid (by rw [HEQ.out]; exact HL3.out)
      have HF4 : Hid (∀ x, x < (nx5 W H (at_ s) a B c).length → f3 x = iv (nx5 W H (at_ s) a B c) x) := Lib.hid (by rw [HEQ.out]; exact HF3.out)
      rw [← HEQ.out]
      have HML : Hid (Ml w3 base (.slice (some ⟨g2, 0, none⟩) (nx5 W H (at_ s) a B c).length cap2) (nx5 W H (at_ s) a B c)) := Lib.hid (.inr ⟨g2, cap2, rfl, Nat.le_trans HBA.out (Nat.le_of_lt HS3.out.new), Nat.le_trans HNL.out HC2.out.1, HC2.out.2, f3, HS3.out.row.cut HNL.out, HF4.out⟩)
      have HNG : Hid (g2 ≠ gt) := Lib.hid (by have := HS3.out.new; omega)
      have HKP := Lib.hid (HS3.out.gd.keep c hc _ HO.out (fun e => by cases e) (fun e => HNG.out (by injection e)) HML.out)
      have HFT := Lib.hid HS3.out.foot
      have HNW := Lib.hid HS3.out.new
      have HBL := Lib.hid HS3.out.below
      obtain ⟨m, hm⟩ : ∃ m, m = (nx5 W H (at_ s) a B c).length := ⟨_, rfl⟩
      rw [← hm] at HML HKP ⊢
      have HMM := Lib.hid hm
      have r5 := (six_kept l2 e0 e1 e2 e5 e6 e7 (.slice (some ⟨g2, 0, none⟩) m cap2)).2.2.2.1
      have r6 := World.cell?_setCell_same w3 ⟨gt, c, none⟩ (.slice (some ⟨g2, 0, none⟩) m cap2) e6
      have HTU : Hid (Turn (fun k => k = gt) (fun k => k = gt) w3 (w3.setCell ⟨gt, c, none⟩ (.slice (some ⟨g2, 0, none⟩) m cap2))) := Lib.hid (Turn.setCell w3 ⟨gt, c, none⟩ _ rfl)
      clear e0 e1 e2 e5 e6 e7 hm k1 k2 k3 k4 nl
      generalize w3.setCell ⟨gt, c, none⟩ (.slice (some ⟨g2, 0, none⟩) m cap2) = w4 at *
      go_wp2_with fail
      go_ret
      refine ⟨_, m, cap2, _, rfl, HMM.out, HML.out.same HTU.out.size (fun k hk => HTU.out.block k (HML.out.lt k hk).2 (fun e => HNG.out ?_)), HKP.out, (Turn.ofBelow HBL.out _).trans HTU.out, fun k hk => ?_, fun k hk => .inr (.inr (.inr ⟨c, hc, ?_⟩))⟩
      · simp only [Value.ownBlock, Option.some.injEq] at hk
        rw [hk]; exact e
      · rcases hk with h | h | h | ⟨x, hx, h⟩
        · exact .inl (.inl h)
        · exact .inl (.inr (.inl h))
        · exact .inl (.inr (.inr (.inl h)))
        · have h : (if x = c then Value.slice (some ⟨g2, 0, none⟩) m cap2 else mv x).ownBlock = some k := h
          by_cases e : x = c
          · rw [if_pos e] at h
            simp only [Value.ownBlock, Option.some.injEq] at h
            exact .inr (by have := HNW.out; omega)
          · rw [if_neg e] at h
            exact .inl (.inr (.inr (.inr ⟨x, hx, h⟩)))
      · show (if c = c then Value.slice (some ⟨g2, 0, none⟩) m cap2 else mv c).ownBlock = some k
        rw [if_pos rfl]; exact hk
    · obtain ⟨hv, _⟩ | ⟨g, cap, hv, q1, q2, q3, q4⟩ := hm3
      · rw [hv] at hm1; exact absurd rfl hm1
      · have HM := Lib.hid hv
        have HQ : Hid (Ml w base (.slice (some ⟨g, 0, none⟩) (nx5 W H (at_ s) a B c).length cap) (nx5 W H (at_ s) a B c)) := Lib.hid (.inr ⟨g, cap, rfl, q1, q2, q3, q4⟩)
        rw [hv] at k2
        obtain ⟨n, hn⟩ : ∃ n, n = (nx5 W H (at_ s) a B c).length := ⟨_, rfl⟩
        rw [← hn] at k2 HM HQ
        have HN := Lib.hid hn
        clear hv hm1 hm2 q1 q2 q3 q4 hn
        have nl := fun wx => nil_not wx g n cap
        go_enter Tryz.func101, Tryz.ntmps101
        go_wp2
        go_ret
        have hb := (Below.refl w.heap.size w).alloc (Nat.le_refl _) (.cells #[.int .i64 (W : Int), .int .i64 (H : Int), .string s, .slice (some ⟨gl, 0, none⟩) s.size s.size, .slice (some ⟨gs, 0, none⟩) s.size s.size, .slice (some ⟨gt, 0, none⟩) s.size s.size] 99)
        have hml := HQ.out.same hb.size (fun k hk => hb.block k (HQ.out.lt k hk).2)
        exact ⟨_, n, cap, mv, rfl, HN.out, hml, HG.out.later hb, Turn.ofBelow hb _, fun k hk => .inl hk, fun k hk => .inr (.inr (.inr ⟨c, hc, by rw [HM.out]; exact hk⟩))⟩
end Go.Proofs.YtokjnmgbgflgnaaGreatDoor
end

section
namespace Go.Proofs.YtokjnmgbgflgnaaGreatDoor
open Go.RowKit Fl Pt

theorem onFloor_some {W H : Int} {s : ByteArray} {c : Int} (h : OnFloor W H s c) : ∃ a b k : Nat, W = a ∧ H = b ∧ c = k ∧ k < s.size ∧ at_ s k ≠ 35 ∧ Sides a b s ∧ RightN a b (at_ s) ∧ nears W H s c = nr a b (at_ s) k ∧ nr a b (at_ s) k ≠ [] := by
  obtain ⟨a, b, rfl, rfl, hS, hN⟩ := rightNat h.1
  obtain ⟨k, rfl, hk, hz⟩ := bAt_in h.2
  have h2 := h.2
  rw [hz] at h2
  exact ⟨a, b, k, rfl, rfl, rfl, hk, h2, hS, hN, rfl, near_some hS.w1 hN (by rw [← hS.sz]; exact hk) h2⟩
set_option maxHeartbeats 1000000 in
theorem stands_any (W H : Int) (s : ByteArray) (hs : s.size ≤ maxLen) (c : Int) (w : World) :
    Calls Tryz.prog 49 #[.agg #[.int .i64 W, .int .i64 H, .string s], .int .i64 c] w (Told (OnFloor W H s c) w) := by
  have HNE := Lib.hid (near_any W H s hs c)
  go_enter Tryz.func49, Tryz.ntmps49
  go_wp2_with fail
  refine (HNE.out _).mono ?_
  rintro e w2 ⟨A, n, cap, xs, rfl, hn, h1, h2, ho, hb⟩
  have HB := Lib.hid ((Box.start w W H s 23).after hb)
  have HN := Lib.hid hn
  have H1 := Lib.hid h1
  have H2 := Lib.hid h2
  clear hn h1 h2 ho hb HNE
  go_wp2
  go_ret
  refine ⟨_, rfl, ?_, HB.out.below⟩
  rw [decide_eq_true_eq]
  refine ⟨fun h => ?_, fun h => ?_⟩
  · refine Classical.byContradiction fun hO => ?_
    have := HN.out
    rw [H2.out hO] at this
    simp at this; omega
  · have := HN.out
    rw [H1.out h] at this
    obtain ⟨a, b, k, _, _, _, _, _, _, _, e, hne⟩ := onFloor_some h
    rw [e] at this
    have : (nr a b (at_ s) k).length ≠ 0 := fun e => hne (List.eq_nil_of_length_eq_zero e)
    omega

theorem infoInts : (Tryz.prog.info? 24).map (fun i => (i.zero, i.size, i.bytes)) = some (some (.slice none 0 0), 1, 24) := by kernel_rfl
theorem run_makeInts (n : Nat) (hn : n ≤ 256) (wx : World) : (Instr.makeSlice 54 (.int .i64 (n : Int)) (.int .i64 (n : Int))).run Tryz.prog wx = .ok (.slice (some ⟨wx.heap.size, 0, none⟩) n n) (wx.alloc (.cells (List.replicate n (Value.slice none 0 0)).toArray 24)) := by
  obtain ⟨i0, hi, hz0, hz1, hz2⟩ := info_parts infoInts
  have := run_make (P := Tryz.prog) wx 54 24 i0 _ Tryz.underlying54 hi hz0 .i64 .i64 n n (by omega) (Int.le_refl _) (by rw [hz2]; omega) (by omega)
  simp only [Int.toNat_natCast, hz1, Nat.mul_one] at this
  rw [this]
  have e : madeCells (Value.slice none 0 0).cells n = (List.replicate n (Value.slice none 0 0)).toArray := by
    have := toList_madeCells_one (Value.slice none 0 0) n
    rw [← this]; rfl
  rw [e]

theorem mk_mem {xs : List Nat} {n x : Nat} (hn : n = xs.length) : mk (fun j => ((xs.getD j 0 : Nat) : Int)) n x = decide (x ∈ xs) := by
  rw [Bool.eq_iff_iff, mk_iff, decide_eq_true_eq]
  constructor
  · rintro ⟨j, hj, e⟩
    obtain rfl : xs.getD j 0 = x := by omega
    exact getD_mem (by omega)
  · intro h
    obtain ⟨j, hj, rfl⟩ := List.getElem_of_mem h
    exact ⟨j, by omega, by rw [List.getD, List.getElem?_eq_getElem hj]; rfl⟩
def GroundTold (W H : Nat) (s : ByteArray) (a : Nat) (B : Nat → Bool) (w : World) (e : Ending) (w' : World) : Prop :=
  ∃ gl gs gt, e = .returned (.agg #[.int .i64 (W : Int), .int .i64 (H : Int), .string s, .slice (some ⟨gl, 0, none⟩) s.size s.size, .slice (some ⟨gs, 0, none⟩) s.size s.size, .slice (some ⟨gt, 0, none⟩) s.size s.size]) ∧
    Gd w' W H s a B w.heap.size gl gs gt (fun _ => .slice none 0 0) ∧ Below w.heap.size w w'
/-- Lanes are marked. -/
def LaneTold (s : ByteArray) (w : World) (v : Value) (w' : World) : Prop := ∃ g, v = .slice (some ⟨g, 0, none⟩) s.size s.size ∧ Cells g s.size (fun x => .bool (isL (at_ s x))) w' ∧ w.heap.size ≤ g ∧ Below w.heap.size w w'

/-- The floor's box and the ground's, behind whatever is new. -/
structure Gs (w : World) (W H : Int) (s : ByteArray) (wx : World) : Prop where
  box : Box w W H s wx
  out : ∃ f, Cells (w.heap.size + 1) 6 f wx
theorem Gs.two {w : World} {W H : Int} {s : ByteArray} {wx : World} (h : Gs w W H s wx) : w.heap.size + 2 ≤ wx.heap.size := by
  obtain ⟨f, h1, _⟩ := h.out; omega
theorem Gs.later {w : World} {W H : Int} {s : ByteArray} {wx wy : World} (h : Gs w W H s wx) (hb : Below wx.heap.size wx wy) : Gs w W H s wy := by
  obtain ⟨f, hf⟩ := h.out
  exact ⟨h.box.after hb, f, hf.later hb⟩
theorem Gs.put {w : World} {W H : Int} {s : ByteArray} {wx : World} (h : Gs w W H s wx) (g x : Nat) (v : Value) (hg : w.heap.size + 2 ≤ g) : Gs w W H s (wx.setCell ⟨g, x, none⟩ v) := by
  obtain ⟨f, hf⟩ := h.out
  have ht : Turn (fun k => k = g) (fun k => k = g) wx (wx.setCell ⟨g, x, none⟩ v) := Turn.setCell wx ⟨g, x, none⟩ v rfl
  exact ⟨h.box.later (ht.below _ h.box.lt (fun k hk => by omega)), f, hf.turn ht (by omega)⟩
theorem Gs.drew {w : World} {W H : Int} {s : ByteArray} {wx : World} (h : Gs w W H s wx) : Gs w W H s wx.drew := ⟨h.box.drew, h.out⟩
theorem Gs.more {w : World} {W H : Int} {s : ByteArray} {wx : World} (h : Gs w W H s wx) (o : Obj) : Gs w W H s (wx.alloc o) := h.later ((Below.refl _ wx).alloc (Nat.le_refl _) o)
theorem args_il {w wx : World} {A : Option Addr} {n cap : Nat} {f : Nat → Int} (h : Il w.heap.size w A n cap f) (hb : Below w.heap.size w wx) : Il wx.heap.size wx A n cap f := (h.below hb).raise hb.size
theorem gr_start {w w2 : World} {W H : Int} {s : ByteArray} {l : Array Value} (hb : Below (((w.alloc (.cells #[.int .i64 W, .int .i64 H, .string s] 23)).alloc (.cells l 99)).drew).heap.size ((w.alloc (.cells #[.int .i64 W, .int .i64 H, .string s] 23)).alloc (.cells l 99)).drew w2) (hl : l.size = 6) : Gs w W H s w2 := by
  have h1 : Gs w W H s ((w.alloc (.cells #[.int .i64 W, .int .i64 H, .string s] 23)).alloc (.cells l 99)) := by
    refine ⟨(Box.start w W H s 23).after ((Below.refl _ _).alloc (Nat.le_refl _) _), fun x => l.toList.getD x undef, ?_⟩
    have h0 := heap_alloc_new (w.alloc (.cells #[.int .i64 W, .int .i64 H, .string s] 23)) (.cells l 99)
    have hz : (w.alloc (.cells #[.int .i64 W, .int .i64 H, .string s] 23)).heap.size = w.heap.size + 1 := by simp
    rw [hz] at h0
    exact cells_row (l := l.toList) (by simpa using h0) (by simpa using hl)
  exact (⟨h1.box.drew, h1.out⟩ : Gs w W H s _).later hb
theorem lanes_marked {s : ByteArray} {xs : List Nat} {n g : Nat} {w : World} (hx : xs = pick isL (at_ s) s.size) (hn : n = xs.length) (h : Cells g s.size (fun x => .bool (mk (fun j => ((xs.getD j 0 : Nat) : Int)) n x)) w) : Cells g s.size (fun x => .bool (isL (at_ s x))) w := by
  refine h.congr fun x hx2 => ?_
  show Value.bool (mk _ n x) = .bool (isL (at_ s x))
  rw [mk_mem hn, hx]
  congr 1
  rw [Bool.eq_iff_iff, decide_eq_true_eq, mem_pick]
  exact ⟨fun h => h.2, fun h => ⟨hx2, h⟩⟩
theorem left_marked {s : ByteArray} {g : Nat} {w : World} (a : Nat) (ha : a < s.size) (h : Cells g s.size (fun x => .bool (isL (at_ s x))) w) : Cells g s.size (fun x => .bool (outB (at_ s) a x)) (w.setCell ⟨g, a, none⟩ (.bool true)) := by
  refine h.put a _ ha fun x hx => ?_
  unfold outB
  by_cases e : x = a
  · rw [if_pos e, e]; simp
  · rw [if_neg e, beq_eq_false_iff_ne.2 e]; rfl

theorem new_ints (wx : World) (n : Nat) : Cells wx.heap.size n (fun _ => .slice none 0 0) (wx.alloc (.cells (Array.replicate n (Value.slice none 0 0)) 24)) := by
  have h := heap_alloc_new wx (.cells (Array.replicate n (Value.slice none 0 0)) 24)
  have e : Array.replicate n (Value.slice none 0 0) = (List.replicate n (Value.slice none 0 0)).toArray := by simp
  rw [e] at h ⊢
  refine (cells_row h (by simp)).congr fun x hx => ?_
  simp [List.getD, hx]
theorem new_ints2 {w4 w5 : World} {n : Nat} (hb : Below (w4.drew.alloc (.cells (Array.replicate n (Value.slice none 0 0)) 24)).heap.size (w4.drew.alloc (.cells (Array.replicate n (Value.slice none 0 0)) 24)) w5) : Cells w4.heap.size n (fun _ => .slice none 0 0) w5 :=
  (show Cells w4.drew.heap.size n (fun _ => .slice none 0 0) w5 from (new_ints w4.drew n).later hb)
theorem cells_new5 {w w4 w5 : World} {W H : Int} {s : ByteArray} {gl n : Nat} {f : Nat → Value} {o : Obj} (hg : Gs w W H s w4) (h : Cells gl n f w4) (hb : Below w4.drew.heap.size w4.drew w5) : Cells gl n f (w5.alloc o) := (h.drew.later hb).more o
theorem cells_new6 {w w4 w5 : World} {W H : Int} {s : ByteArray} {gl n : Nat} {f : Nat → Value} {o : Obj} (hg : Gs w W H s w4) (h : Cells gl n f w4) (hb : Below (w4.drew.alloc o).heap.size (w4.drew.alloc o) w5) : Cells gl n f w5 := ((h.drew).more o).later hb
/-- The ground's values. -/
def gvs (W H : Nat) (s : ByteArray) (gl gs gt : Nat) : Nat → Value
  | 0 => .int .i64 (W : Int)
  | 1 => .int .i64 (H : Int)
  | 2 => .string s
  | 3 => .slice (some ⟨gl, 0, none⟩) s.size s.size
  | 4 => .slice (some ⟨gs, 0, none⟩) s.size s.size
  | _ => .slice (some ⟨gt, 0, none⟩) s.size s.size
structure GEnd (W H : Nat) (s : ByteArray) (a : Nat) (B : Nat → Bool) (gl gs gt : Nat) (w w6 : World) : Prop where
  c : ∀ i, i < 6 → w6.cell? ⟨w.heap.size + 1, i, none⟩ = some (gvs W H s gl gs gt i)
  gd : Gd w6 W H s a B w.heap.size gl gs gt (fun _ => .slice none 0 0)
  below : Below w.heap.size w w6
theorem six_cells {b : Nat} {f : Nat → Value} {w : World} (h : Cells b 6 f w) (g : Nat → Value) : Cells b 6 g ((((((w.setCell ⟨b, 0, none⟩ (g 0)).setCell ⟨b, 1, none⟩ (g 1)).setCell ⟨b, 2, none⟩ (g 2)).setCell ⟨b, 3, none⟩ (g 3)).setCell ⟨b, 4, none⟩ (g 4)).setCell ⟨b, 5, none⟩ (g 5)) := by
  have h0 := h.put 0 (g 0) (by decide) (g := fun x => if x < 1 then g x else f x) (fun x hx => by
    by_cases e : x = 0
    · subst e; rfl
    · rw [if_neg (by omega), if_neg e])
  have h1 := h0.put 1 (g 1) (by decide) (g := fun x => if x < 2 then g x else f x) (fun x hx => by
    by_cases e : x = 1
    · subst e; rfl
    · rw [if_neg e]; show _ = if x < 1 then g x else f x; by_cases e2 : x < 1 <;> simp [e2, (by omega : x < 2 ↔ x < 1)])
  have h2 := h1.put 2 (g 2) (by decide) (g := fun x => if x < 3 then g x else f x) (fun x hx => by
    by_cases e : x = 2
    · subst e; rfl
    · rw [if_neg e]; show _ = if x < 2 then g x else f x; by_cases e2 : x < 2 <;> simp [e2, (by omega : x < 3 ↔ x < 2)])
  have h3 := h2.put 3 (g 3) (by decide) (g := fun x => if x < 4 then g x else f x) (fun x hx => by
    by_cases e : x = 3
    · subst e; rfl
    · rw [if_neg e]; show _ = if x < 3 then g x else f x; by_cases e2 : x < 3 <;> simp [e2, (by omega : x < 4 ↔ x < 3)])
  have h4 := h3.put 4 (g 4) (by decide) (g := fun x => if x < 5 then g x else f x) (fun x hx => by
    by_cases e : x = 4
    · subst e; rfl
    · rw [if_neg e]; show _ = if x < 4 then g x else f x; by_cases e2 : x < 4 <;> simp [e2, (by omega : x < 5 ↔ x < 4)])
  exact h4.put 5 (g 5) (by decide) (fun x hx => by
    by_cases e : x = 5
    · subst e; rfl
    · rw [if_neg e]; show _ = if x < 5 then g x else f x; rw [if_pos (by omega)])
theorem ground_end {w wB : World} {W H : Nat} {s : ByteArray} {a gl gs gt : Nat} {B : Nat → Bool} (hG : Gs w (W : Int) (H : Int) s wB) (hl : Cells gl s.size (fun x => .bool (outB (at_ s) a x)) wB) (hs : Cells gs s.size (fun x => .bool (B x)) wB) (ht : Cells gt s.size (fun _ => .slice none 0 0) wB)
    (bl : w.heap.size + 2 ≤ gl) (bs : w.heap.size + 2 ≤ gs) (bt : w.heap.size + 2 ≤ gt) (n1 : gl ≠ gt) (n2 : gs ≠ gt) :
    GEnd W H s a B gl gs gt w ((((((wB.setCell ⟨w.heap.size + 1, 0, none⟩ (.int .i64 (W : Int))).setCell ⟨w.heap.size + 1, 1, none⟩ (.int .i64 (H : Int))).setCell ⟨w.heap.size + 1, 2, none⟩ (.string s)).setCell ⟨w.heap.size + 1, 3, none⟩ (.slice (some ⟨gl, 0, none⟩) s.size s.size)).setCell ⟨w.heap.size + 1, 4, none⟩ (.slice (some ⟨gs, 0, none⟩) s.size s.size)).setCell ⟨w.heap.size + 1, 5, none⟩ (.slice (some ⟨gt, 0, none⟩) s.size s.size)) := by
  obtain ⟨f, hf⟩ := hG.out
  have h6 := six_cells hf (gvs W H s gl gs gt)
  have ht6 : Turn (fun k => k = w.heap.size + 1) (fun k => k = w.heap.size + 1) wB ((((((wB.setCell ⟨w.heap.size + 1, 0, none⟩ (.int .i64 (W : Int))).setCell ⟨w.heap.size + 1, 1, none⟩ (.int .i64 (H : Int))).setCell ⟨w.heap.size + 1, 2, none⟩ (.string s)).setCell ⟨w.heap.size + 1, 3, none⟩ (.slice (some ⟨gl, 0, none⟩) s.size s.size)).setCell ⟨w.heap.size + 1, 4, none⟩ (.slice (some ⟨gs, 0, none⟩) s.size s.size)).setCell ⟨w.heap.size + 1, 5, none⟩ (.slice (some ⟨gt, 0, none⟩) s.size s.size)) :=
    (((((((Turn.refl (fun k => k = w.heap.size + 1) _).put _ rfl).put _ rfl).put _ rfl).put _ rfl).put _ rfl).put _ rfl)
  refine ⟨fun i hi => (h6.2 i hi).1, ⟨hl.turn ht6 (by omega), hs.turn ht6 (by omega), ht.turn ht6 (by omega), by omega, by omega, by omega, n1, n2, fun c hc => .inl rfl⟩, ?_⟩
  exact hG.box.below.trans (ht6.below _ hG.box.below.size (fun k hk => by omega))

theorem res_ground {A : Nat} {w6 : World} {v0 v1 v2 v3 v4 v5 : Value} (T : Array Value) (hT : T[6]? = some (.pointer (some ⟨A, 0, none⟩))) (h0 : w6.cell? ⟨A, 0, none⟩ = some v0) (h1 : w6.cell? ⟨A, 1, none⟩ = some v1) (h2 : w6.cell? ⟨A, 2, none⟩ = some v2) (h3 : w6.cell? ⟨A, 3, none⟩ = some v3) (h4 : w6.cell? ⟨A, 4, none⟩ = some v4) (h5 : w6.cell? ⟨A, 5, none⟩ = some v5) :
    (results Tryz.f73 T).run Tryz.prog w6 = .ok (.agg #[v0, v1, v2, v3, v4, v5]) w6 := by
  simp only [results, Tryz.results73]
  go_simp
theorem alloc_size (w : World) (o : Obj) : (w.alloc o).heap.size = w.heap.size + 1 := by simp
theorem path_b {w4 : World} {o : Obj} {B gs : Nat} (h : B ≤ w4.heap.size) (hs : (w4.drew.alloc o).heap.size ≤ gs) : B ≤ gs ∧ gs ≠ w4.heap.size := by
  have e := alloc_size w4.drew o
  have e2 : w4.drew.heap.size = w4.heap.size := rfl
  omega

set_option maxHeartbeats 2000000 in
theorem groundOf_any (W H a : Nat) (s : ByteArray) (A : Option Addr) (n cap : Nat) (f : Nat → Int) (w : World) (hR : Right (W : Int) (H : Int) s) (ha : a < s.size) (h : Il w.heap.size w A n cap f) :
    Calls Tryz.prog 73 #[.agg #[.int .i64 (W : Int), .int .i64 (H : Int), .string s], .int .i64 (a : Int), .slice A n cap] w (GroundTold W H s a (mk f n) w) := by
  have h256 := rightLe hR
  have hs1 : 1 ≤ s.size := by omega
  have HI := Lib.hid h
  have HR := Lib.hid hR
  have HL := Lib.hid (lanes_any (W : Int) (H : Int) s (by unfold maxLen; omega))
  have HM := Lib.hid (fun A n cap f wx h => marked_any (W : Int) (H : Int) s A n cap f wx ⟨hs1, h256⟩ h)
  have HMK := Lib.hid (run_makeInts s.size h256)
  clear h hR
  go_enter Tryz.func73, Tryz.ntmps73
  go_wp2_with fail
  go_region_held3 (fun w' => w'.cell? ⟨w.heap.size, 0, none⟩ = some (.int .i64 (W : Int)) ∧ w'.cell? ⟨w.heap.size, 1, none⟩ = some (.int .i64 (H : Int)) ∧ w'.cell? ⟨w.heap.size, 2, none⟩ = some (.string s)) (go_keep)
    ((first
      | (go_at_call 35; refine (HL.out _).mono ?_; rintro e w2 ⟨A2, n2, c2, xs, rfl, hn2, hx2, _, ho2, hb2⟩; have HG2 := Lib.hid (gr_start hb2 rfl); have HX2 := Lib.hid (hx2 HR.out); have HN2 := Lib.hid hn2; have HI2 := Lib.hid (ho2.il hn2); clear hn2 hx2 ho2 hb2; have e0 := HG2.out.box.c0; have e1 := HG2.out.box.c1; have e2 := HG2.out.box.c2)
      | (go_at_call 99; refine (HM.out A2 n2 c2 _ _ HI2.out).mono ?_; rintro e w3 ⟨gl, rfl, hc3, hg3, hb3⟩; have HG3 := Lib.hid (HG2.out.later hb3); have HC3 := Lib.hid (lanes_marked HX2.out HN2.out hc3); have HL3 : Hid (w.heap.size + 2 ≤ gl) := Lib.hid (Nat.le_trans HG2.out.two hg3); clear hc3 hg3 hb3; have e0 := HG3.out.box.c0; have e1 := HG3.out.box.c1; have e2 := HG3.out.box.c2)))
  have m1 := (HC3.out.2 a ha).1
  have m2 := (HC3.out.2 a ha).2
  have HC4 := Lib.hid (left_marked a ha HC3.out)
  have HG4 := Lib.hid (HG3.out.put gl a (.bool true) HL3.out)
  clear e0 e1 e2
  go_wp2_with fail
  clear m1 m2
  generalize w3.setCell ⟨gl, a, none⟩ (.bool true) = w4 at *
  have e0 := HG4.out.box.c0
  have e1 := HG4.out.box.c1
  have e2 := HG4.out.box.c2
  have hmk := HMK.out
  go_region_held3 (fun w' => w'.cell? ⟨w.heap.size, 0, none⟩ = some (.int .i64 (W : Int)) ∧ w'.cell? ⟨w.heap.size, 1, none⟩ = some (.int .i64 (H : Int)) ∧ w'.cell? ⟨w.heap.size, 2, none⟩ = some (.string s)) (go_keep)
    ((go_at_call 99; refine (HM.out A n cap f _ (args_il HI.out (by first | exact HG4.out.drew.box.below | exact (HG4.out.drew.more _).box.below))).mono ?_; rintro e w5 ⟨gs, rfl, hc5, hg5, hb5⟩; have HG5 : Hid (Gs w W H s w5) := Lib.hid (by first | exact HG4.out.drew.later hb5 | exact (HG4.out.drew.more _).later hb5); have HC5 := Lib.hid hc5; have HN5 := Lib.hid hg5; have HB5 := Lib.hid hb5; clear hc5 hg5 hb5; have e0 := HG5.out.box.c0; have e1 := HG5.out.box.c1; have e2 := HG5.out.box.c2; have htwo := HG5.out.two; obtain ⟨fz, hfz⟩ := HG5.out.out; have z0 := (hfz.2 0 (by decide)).1; have z1 := (hfz.2 1 (by decide)).1; have z2 := (hfz.2 2 (by decide)).1; have z3 := (hfz.2 3 (by decide)).1; have z4 := (hfz.2 4 (by decide)).1; have z5 := (hfz.2 5 (by decide)).1; have y0 := (hfz.2 0 (by decide)).2; have y1 := (hfz.2 1 (by decide)).2; have y2 := (hfz.2 2 (by decide)).2; have y3 := (hfz.2 3 (by decide)).2; have y4 := (hfz.2 4 (by decide)).2; have y5 := (hfz.2 5 (by decide)).2; have za0 := fun o => ((hfz.more o).2 0 (by decide)).1; have ya0 := fun o => ((hfz.more o).2 0 (by decide)).2; have za1 := fun o => ((hfz.more o).2 1 (by decide)).1; have ya1 := fun o => ((hfz.more o).2 1 (by decide)).2; have za2 := fun o => ((hfz.more o).2 2 (by decide)).1; have ya2 := fun o => ((hfz.more o).2 2 (by decide)).2; have za3 := fun o => ((hfz.more o).2 3 (by decide)).1; have ya3 := fun o => ((hfz.more o).2 3 (by decide)).2; have za4 := fun o => ((hfz.more o).2 4 (by decide)).1; have ya4 := fun o => ((hfz.more o).2 4 (by decide)).2; have za5 := fun o => ((hfz.more o).2 5 (by decide)).1; have ya5 := fun o => ((hfz.more o).2 5 (by decide)).2; have HFZ := Lib.hid hfz; clear hfz))
  · have hE := ground_end (HG5.out.more _) (cells_new5 HG4.out HC4.out HB5.out) (HC5.out.more _) (new_ints w5 s.size) HL3.out (Nat.le_trans HG4.out.two HN5.out) htwo (by have := HC4.out.1; have := HB5.out.size; have : w4.drew.heap.size = w4.heap.size := rfl; omega) (by have := HC5.out.1; omega)
    generalize (World.setCell _ ⟨w.heap.size + 1, 5, none⟩ _) = w6 at hE ⊢
    have q0 : w6.cell? ⟨w.heap.size + 1, 0, none⟩ = some (.int .i64 (W : Int)) := hE.c 0 (by decide)
    have q1 : w6.cell? ⟨w.heap.size + 1, 1, none⟩ = some (.int .i64 (H : Int)) := hE.c 1 (by decide)
    have q2 : w6.cell? ⟨w.heap.size + 1, 2, none⟩ = some (.string s) := hE.c 2 (by decide)
    have q3 : w6.cell? ⟨w.heap.size + 1, 3, none⟩ = some (.slice (some ⟨gl, 0, none⟩) s.size s.size) := hE.c 3 (by decide)
    have q4 : w6.cell? ⟨w.heap.size + 1, 4, none⟩ = some (.slice (some ⟨gs, 0, none⟩) s.size s.size) := hE.c 4 (by decide)
    have q5 : w6.cell? ⟨w.heap.size + 1, 5, none⟩ = some (.slice (some ⟨w5.heap.size, 0, none⟩) s.size s.size) := hE.c 5 (by decide)
    have HE := Lib.hid hE
    clear hE
    clear z0 z1 z2 z3 z4 z5 y0 y1 y2 y3 y4 y5 za0 za1 za2 za3 za4 za5 ya0 ya1 ya2 ya3 ya4 ya5 hmk e0 e1 e2
    go_wp2_with fail
    exact bodyPost_ret (v := .agg #[.int .i64 (W : Int), .int .i64 (H : Int), .string s, .slice (some ⟨gl, 0, none⟩) s.size s.size, .slice (some ⟨gs, 0, none⟩) s.size s.size, .slice (some ⟨w5.heap.size, 0, none⟩) s.size s.size]) (res_ground _ rfl q0 q1 q2 q3 q4 q5) rfl ⟨_, _, _, rfl, HE.out.gd, HE.out.below⟩
  · have hE := ground_end HG5.out (cells_new6 HG4.out HC4.out HB5.out) HC5.out (new_ints2 HB5.out) HL3.out (path_b HG4.out.two HN5.out).1 HG4.out.two (Nat.ne_of_lt HC4.out.1) (path_b HG4.out.two HN5.out).2
    generalize (World.setCell _ ⟨w.heap.size + 1, 5, none⟩ _) = w6 at hE ⊢
    have q0 : w6.cell? ⟨w.heap.size + 1, 0, none⟩ = some (.int .i64 (W : Int)) := hE.c 0 (by decide)
    have q1 : w6.cell? ⟨w.heap.size + 1, 1, none⟩ = some (.int .i64 (H : Int)) := hE.c 1 (by decide)
    have q2 : w6.cell? ⟨w.heap.size + 1, 2, none⟩ = some (.string s) := hE.c 2 (by decide)
    have q3 : w6.cell? ⟨w.heap.size + 1, 3, none⟩ = some (.slice (some ⟨gl, 0, none⟩) s.size s.size) := hE.c 3 (by decide)
    have q4 : w6.cell? ⟨w.heap.size + 1, 4, none⟩ = some (.slice (some ⟨gs, 0, none⟩) s.size s.size) := hE.c 4 (by decide)
    have q5 : w6.cell? ⟨w.heap.size + 1, 5, none⟩ = some (.slice (some ⟨w4.heap.size, 0, none⟩) s.size s.size) := hE.c 5 (by decide)
    have HE := Lib.hid hE
    clear hE
    clear z0 z1 z2 z3 z4 z5 y0 y1 y2 y3 y4 y5 za0 za1 za2 za3 za4 za5 ya0 ya1 ya2 ya3 ya4 ya5 hmk e0 e1 e2
    go_wp2_with fail
    exact bodyPost_ret (v := .agg #[.int .i64 (W : Int), .int .i64 (H : Int), .string s, .slice (some ⟨gl, 0, none⟩) s.size s.size, .slice (some ⟨gs, 0, none⟩) s.size s.size, .slice (some ⟨w4.heap.size, 0, none⟩) s.size s.size]) (res_ground _ rfl q0 q1 q2 q3 q4 q5) rfl ⟨_, _, _, rfl, HE.out.gd, HE.out.below⟩
end Go.Proofs.YtokjnmgbgflgnaaGreatDoor
end
