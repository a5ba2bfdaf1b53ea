/-
  Layer 6: right, Is, Free.
-/
import Derived.Test.YtcdclghmebgpnaaGreatDoorWnC
set_option linter.unusedVariables false
set_option maxRecDepth 100000
namespace Go.Proofs.YtcdclghmebgpnaaGreatDoor.Wn
open Go.RowKit Go.Maps

def rgt (a b : Int) : Bool := decide (0 ≤ a) && decide (a < b) && decide (b ≤ 1048576)
theorem win_box (w : World) (a b : Int) : (w.alloc (.cells #[.int .i64 a, .int .i64 b] 52)).cell? ⟨w.heap.size, 0, none⟩ = some (.int .i64 a) ∧ (w.alloc (.cells #[.int .i64 a, .int .i64 b] 52)).cell? ⟨w.heap.size, 1, none⟩ = some (.int .i64 b) ∧ Below w.heap.size w (w.alloc (.cells #[.int .i64 a, .int .i64 b] 52)) :=
  ⟨by simp [World.cell?_alloc_new], by simp [World.cell?_alloc_new], (Below.refl _ _).alloc (Nat.le_refl _) _⟩
set_option maxHeartbeats 1000000 in
theorem right_any (a b : Int) (w : World) : Calls Tryz.prog 41 #[.agg #[.int .i64 a, .int .i64 b]] w fun e w' => e = .returned (.bool (rgt a b)) ∧ Below w.heap.size w w' := by
  obtain ⟨b0, b1, hb⟩ := win_box w a b
  have HB := Lib.hid hb
  clear hb
  unfold rgt
  by_cases h0 : 0 ≤ a
  · have d0 : decide (0 ≤ a) = true := decide_eq_true h0
    by_cases h1 : a < b
    · have d1 : decide (a < b) = true := decide_eq_true h1
      rw [d0, d1]
      go_enter Tryz.func41, Tryz.ntmps41
      go_wp2_with fail
      go_ret
      exact ⟨by first | rfl | simp, HB.out⟩
    · have d1 : decide (a < b) = false := decide_eq_false h1
      rw [d0, d1]
      go_enter Tryz.func41, Tryz.ntmps41
      go_wp2_with fail
      go_ret
      exact ⟨by first | rfl | simp, HB.out⟩
  · have d0 : decide (0 ≤ a) = false := decide_eq_false h0
    rw [d0]
    go_enter Tryz.func41, Tryz.ntmps41
    go_wp2_with fail
    go_ret
    exact ⟨by first | rfl | simp, HB.out⟩
/-- Is a moment in none of some windows? -/
def isF (L : List (Int × Int)) (m : Int) : Bool := decide (plc L m = L.length) || decide (m < (L.getD (plc L m) (0, 0)).1)
def isT (L : List (Int × Int)) (m : Int) : Bool := decide (0 ≤ m) && decide (m < 1048576) && isF L m
/-- What lies free ahead of some windows, from a moment on. -/
def gaps : Int → List (Int × Int) → List (Int × Int)
  | _, [] => []
  | f, p :: r => (if f < p.1 then [(f, p.1)] else []) ++ gaps p.2 r
def lastTo : Int → List (Int × Int) → Int
  | f, [] => f
  | _, p :: r => lastTo p.2 r
theorem lastTo_snoc (p : Int × Int) : ∀ (M : List (Int × Int)) (f : Int), lastTo f (M ++ [p]) = p.2
  | [], f => rfl
  | q :: M, f => lastTo_snoc p M q.2
theorem gaps_snoc (p : Int × Int) : ∀ (M : List (Int × Int)) (f : Int), gaps f (M ++ [p]) = gaps f M ++ if lastTo f M < p.1 then [(lastTo f M, p.1)] else []
  | [], f => by show (if f < p.1 then [(f, p.1)] else []) ++ [] = [] ++ if f < p.1 then [(f, p.1)] else []; rw [List.append_nil, List.nil_append]
  | q :: M, f => by
    show (if f < q.1 then [(f, q.1)] else []) ++ gaps q.2 (M ++ [p]) = ((if f < q.1 then [(f, q.1)] else []) ++ gaps q.2 M) ++ if lastTo q.2 M < p.1 then [(lastTo q.2 M, p.1)] else []
    rw [gaps_snoc p M q.2, List.append_assoc]
theorem take_snoc (M : List (Int × Int)) (j : Nat) (h : j < M.length) : M.take (j + 1) = M.take j ++ [M.getD j (0, 0)] := by
  rw [List.take_succ_eq_append_getElem h, List.getD_eq_getElem?_getD, List.getElem?_eq_getElem h]; rfl
theorem gaps_len : ∀ (M : List (Int × Int)) (f : Int), (gaps f M).length ≤ M.length
  | [], _ => Nat.le_refl _
  | p :: r, f => by
    have := gaps_len r p.2
    simp only [gaps, List.length_append, List.length_cons]
    split <;> simp <;> omega
/-- The free windows. -/
def frees (L : List (Int × Int)) : List (Int × Int) := gaps 0 (L ++ [(1048576, 0)])
set_option maxHeartbeats 2000000 in
theorem free_any (base tb N : Nat) (mv : Option Nat) (T : Int → List (Int × Int)) (gb : Int → Nat) (x : Int) (w : World) (h : Tab w base tb N mv T gb) (hx : IW x) :
    Calls Tryz.prog 78 #[.pointer (some ⟨tb, 0, none⟩), .int .i64 x] w fun e w' => ∃ A c, e = .returned (.slice A (frees (T x)).length c) ∧ Wow w' w.heap.size (.slice A (frees (T x)).length c) (frees (T x)) ∧ Below w.heap.size w w' := by
  have hsm : (T x).length ≤ 100000 := Nat.le_trans (h.small x) h.few
  have HTK := Lib.hid (taken_any base tb N mv T gb x w h hx)
  clear h
  generalize T x = L at *
  go_enter Tryz.func78, Tryz.ntmps78
  go_wp2_with fail
  refine HTK.out.mono ?_
  rintro e w3 ⟨A, c, rfl, ho, hb⟩
  have HB3 := Lib.hid hb
  have HO3 := Lib.hid ho
  have HW3 := Lib.hid (Wt.one w3 1048576 0)
  have HA3 := Lib.hid ((Below.refl w3.heap.size w3).alloc (Nat.le_refl _) (.cells #[.int .i64 1048576, .int .i64 0] 52))
  have HS3 : Hid (w.heap.size ≤ (w3.alloc (.cells #[.int .i64 1048576, .int .i64 0] 52)).heap.size) := Lib.hid (Nat.le_trans hb.size HA3.out.size)
  clear ho hb
  go_wp2_with (at_builtin; refine app_wins rfl _ _ rfl w.heap.size _ L rfl (HO3.out.later HA3.out) (some ⟨w3.heap.size, 0, none⟩) 1 1 [(1048576, 0)] rfl HW3.out (by omega) HS3.out ?_; intro A4 c4 w4 ho4 hb4 _ _; have HO4 := Lib.hid ho4; have HB4 := Lib.hid ((HB3.out.trans (HA3.out.mono HB3.out.size)).trans hb4); clear ho4 hb4)
  obtain ⟨M, hM⟩ : ∃ M, M = L ++ [(1048576, 0)] := ⟨_, rfl⟩
  have hMl : M.length = L.length + 1 := by rw [hM]; simp
  have HML := Lib.hid hMl
  have HOM : Hid (Wow w4 w.heap.size (.slice A4 (L.length + 1) c4) M) := Lib.hid (by rw [hM]; have := HO4.out; simp only [List.length_append, List.length_singleton] at this; exact this)
  have HFR : Hid (frees L = gaps 0 M) := Lib.hid (by rw [hM]; rfl)
  have hcs := HOM.out.wt.size
  have hcs1 := hcs.1
  have hcs2 := hcs.2
  clear hM hMl HO4 hcs
  go_loopw [5, 6, 18] (fun ov fv iv wr => ∃ (j : Nat) (f : Int) (O : List (Int × Int)) (A' : Option Addr) (c' : Nat), ov = .slice A' O.length c' ∧ fv = .int .i64 f ∧ iv = .int .i64 (j : Int) ∧ j ≤ L.length + 1 ∧ Hid (f = lastTo 0 (M.take j) ∧ O = gaps 0 (M.take j)) ∧ Wow wr w4.heap.size (.slice A' O.length c') O ∧ Below w4.heap.size w4 wr) (fun _ _ iv _ => L.length + 1 - (intOf iv).toNat)
  case atStart => exact ⟨0, 0, [], none, 0, rfl, rfl, rfl, Nat.zero_le _, Lib.hid ⟨rfl, rfl⟩, Wow.nil _ _, Below.refl _ _⟩
  case round =>
    rename World => wr
    obtain ⟨j, f, O, A', c', rfl, rfl, rfl, hj, HI, ho, hb⟩ := hrel
    have HO := Lib.hid ho
    have HB := Lib.hid hb
    have hOl : O.length ≤ 100001 := by
      have := gaps_len (M.take j) 0
      rw [HI.out.2]
      rw [List.length_take] at this
      omega
    have hOs := ho.wt.size
    have hO1 := hOs.1
    have hO2 := hOs.2
    clear ho hb hOs
    by_cases hlj : j < L.length + 1
    · obtain ⟨g, off, rfl, hg, hc⟩ := (HOM.out.wt.later HB.out).cell (by omega)
      obtain ⟨k1, k2⟩ := hc j hlj
      have HTS := Lib.hid (take_snoc M j (by rw [HML.out]; exact hlj))
      have hjI : (j : Int) < (L.length : Int) + 1 := by omega
      clear hc
      generalize hp : M.getD j (0, 0) = p at *
      obtain ⟨px, py⟩ := p
      clear hp
      have HNX : Hid (py = lastTo 0 (M.take (j + 1))) := Lib.hid (by rw [HTS.out, lastTo_snoc])
      by_cases hf : f < px
      · have df : decide (f < px) = true := decide_eq_true hf
        have HNO : Hid (O ++ [(f, px)] = gaps 0 (M.take (j + 1))) := Lib.hid (by rw [HTS.out, gaps_snoc, ← HI.out.1, ← HI.out.2, if_pos hf])
        clear hf
        have HA5 := Lib.hid (((Below.refl wr.heap.size wr).alloc (Nat.le_refl _) (.cells #[.int .i64 px, .int .i64 py] 52)).alloc (by simp) (.cells #[.int .i64 f, .int .i64 px] 52))
        have HW5 : Hid (Wt ((wr.alloc (.cells #[.int .i64 px, .int .i64 py] 52)).alloc (.cells #[.int .i64 f, .int .i64 px] 52)).heap.size ((wr.alloc (.cells #[.int .i64 px, .int .i64 py] 52)).alloc (.cells #[.int .i64 f, .int .i64 px] 52)) (some ⟨wr.heap.size + 1, 0, none⟩) 1 1 [(f, px)]) := Lib.hid (by
          have := Wt.one (wr.alloc (.cells #[.int .i64 px, .int .i64 py] 52)) f px
          rw [show (wr.alloc (.cells #[.int .i64 px, .int .i64 py] 52)).heap.size = wr.heap.size + 1 from alloc_size _ _] at this
          exact this)
        have HS5 : Hid (w4.heap.size ≤ ((wr.alloc (.cells #[.int .i64 px, .int .i64 py] 52)).alloc (.cells #[.int .i64 f, .int .i64 px] 52)).heap.size) := Lib.hid (Nat.le_trans HB.out.size HA5.out.size)
        have HBX : Hid (((wr.alloc (.cells #[.int .i64 px, .int .i64 py] 52)).alloc (.cells #[.int .i64 f, .int .i64 px] 52)).cell? ⟨wr.heap.size, 1, none⟩ = some (.int .i64 py)) := Lib.hid (by
          have h1 : (wr.alloc (.cells #[.int .i64 px, .int .i64 py] 52)).cell? ⟨wr.heap.size, 1, none⟩ = some (.int .i64 py) := by simp [World.cell?_alloc_new]
          exact (((Below.refl _ _).alloc (Nat.le_refl _) _).cell (p := ⟨wr.heap.size, 1, none⟩) (by simp)).trans h1)
        have HLT : Hid (wr.heap.size < ((wr.alloc (.cells #[.int .i64 px, .int .i64 py] 52)).alloc (.cells #[.int .i64 f, .int .i64 px] 52)).heap.size) := Lib.hid (by simp; omega)
        go_wp2_with (at_builtin; refine app_wins rfl _ _ rfl w4.heap.size _ O rfl (HO.out.later HA5.out) (some ⟨wr.heap.size + 1, 0, none⟩) 1 1 [(f, px)] rfl HW5.out (by omega) HS5.out ?_; intro A6 c6 w6 ho6 hb6 hg6 _; have HO6 := Lib.hid ho6; have HB6 := Lib.hid ((HB.out.trans (HA5.out.mono HB.out.size)).trans hb6); have d1 := (World.cell?_of_block (a := ⟨wr.heap.size, 1, none⟩) (hg6.block wr.heap.size HLT.out (fun e => by have := (World.ownsRow.lt HO.out _ e.symm).2; omega))).trans HBX.out; clear ho6 hb6 hg6)
        go_roundw
        case rel => exact ⟨j + 1, py, O ++ [(f, px)], A6, c6, by simp, rfl, by go_num, by omega, Lib.hid ⟨HNX.out, HNO.out⟩, HO6.out, HB6.out⟩
        case measure => simp [intOf]; omega
      · have df : decide (f < px) = false := decide_eq_false hf
        have HNO : Hid (O = gaps 0 (M.take (j + 1))) := Lib.hid (by rw [HTS.out, gaps_snoc, ← HI.out.1, ← HI.out.2, if_neg hf, List.append_nil])
        have HA5 := Lib.hid ((Below.refl wr.heap.size wr).alloc (Nat.le_refl _) (.cells #[.int .i64 px, .int .i64 py] 52))
        clear hf
        go_wp2_with fail
        go_roundw
        case rel => exact ⟨j + 1, py, O, A', c', rfl, rfl, by go_num, by omega, Lib.hid ⟨HNX.out, HNO.out⟩, HO.out.later HA5.out, HB.out.trans (HA5.out.mono HB.out.size)⟩
        case measure => simp [intOf]; omega
    · obtain rfl : j = L.length + 1 := by omega
      go_wp2_with fail
      go_ret
      have hOe : O = frees L := by rw [HFR.out, HI.out.2, List.take_of_length_le (by rw [HML.out]; exact Nat.le_refl _)]
      subst hOe
      exact ⟨A', c', rfl, HO.out.lower HB4.out.size, HB4.out.trans (HB.out.mono HB4.out.size)⟩
end Go.Proofs.YtcdclghmebgpnaaGreatDoor.Wn
