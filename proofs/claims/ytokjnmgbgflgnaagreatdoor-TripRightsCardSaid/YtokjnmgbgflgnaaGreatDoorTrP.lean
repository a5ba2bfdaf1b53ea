/-
  Layer 10: the document's Cost and Zones.
-/
import Derived.Test.YtokjnmgbgflgnaaGreatDoorTrK
import Derived.Test.YtokjnmgbgflgnaaGreatDoorFlRa
import Derived.Deep.RegionHeld3
set_option linter.unusedVariables false
set_option maxRecDepth 100000
namespace Go.Proofs.YtokjnmgbgflgnaaGreatDoor
namespace Tr
open Go.RowKit Fl Pt
open Bk (Gt)

set_option maxHeartbeats 1000000 in
theorem rcost_any (A : Option Addr) (n cap : Nat) (L : List Ac) (w : World) (h : Al w.heap.size w A n cap L) : Calls Tryz.prog 17 #[.slice A n cap] w (Num (costL L : Nat) w) := by
  have HL := Lib.hid h
  have hlen := h.len
  have hcap := h.size
  obtain ⟨hc1, hc2⟩ := hcap
  clear h
  go_enter Tryz.func17, Tryz.ntmps17
  go_wp2_with fail
  go_loopw [3, 4] (fun sv iv wr => ∃ i q : Nat, i ≤ n ∧ q ≤ i ∧ sv = .int .i64 (q : Int) ∧ iv = .int .i64 (i : Int) ∧ Hid (q = costL (L.take i)) ∧ Hid (Below w.heap.size w wr)) (fun _ iv _ => n - (intOf iv).toNat)
  case atStart => exact ⟨0, 0, Nat.zero_le _, Nat.zero_le _, rfl, rfl, Lib.hid rfl, Lib.hid (Below.refl _ _)⟩
  case round =>
    rename World => wr
    obtain ⟨i, q, hi, hq, rfl, rfl, HC, HB⟩ := hrel
    by_cases hlt : i < n
    · obtain ⟨g, off, rfl, hg, k0, k1, k2⟩ := (HL.out.below HB.out).cell hlt
      have HD := Lib.hid (costL_take L i (by omega))
      have hlI : (i : Int) < (n : Int) := by omega
      have hg2 : g < wr.heap.size := Nat.lt_of_lt_of_le hg HB.out.size
      generalize L.getD i (0, 0, 0) = a at *
      obtain ⟨k, c, p⟩ := a
      have k0' : wr.cell? ⟨g, off + i * 3, none⟩ = some (.int .u8 (k : Int)) := k0
      clear k0 k1 k2
      have HD : Hid (costL (L.take (i + 1)) = costL (L.take i) + if k = 1 then 1 else 0) := HD
      by_cases e1 : k = 1
      · subst e1
        go_wp2_with fail
        go_roundw
        case rel => exact ⟨i + 1, q + 1, by omega, by omega, by go_num, by go_num, Lib.hid (by rw [HD.out, ← HC.out, if_pos rfl]), HB⟩
        case measure => simp [intOf]; omega
      · have d1 : ((k : Int) == 1) = false := by rw [beq_eq_false_iff_ne]; omega
        go_wp2_with fail
        go_roundw
        case rel => exact ⟨i + 1, q, by omega, by omega, rfl, by go_num, Lib.hid (by rw [HD.out, ← HC.out, if_neg e1]; rfl), HB⟩
        case measure => simp [intOf]; omega
    · obtain rfl : i = n := by omega
      have HQ : Hid (q = costL L) := Lib.hid (by rw [HC.out, List.take_of_length_le (by omega)])
      go_wp2_with fail
      go_ret
      exact ⟨ret_int (by rw [HQ.out]), HB.out⟩

/-! ### Zones -/
/-- Whether a zone was gone through by the first so many acts. -/
def onZ (rb : Bool) (s : ByteArray) (L : List Ac) (x : Nat) : Bool := L.any fun a => a.1 == 1 && (rb && isL (bAt s a.2.1)) && (bAt s a.2.1 - 97 == x)
theorem onZ_take (rb : Bool) (s : ByteArray) (L : List Ac) (i : Nat) (h : i < L.length) (x : Nat) : onZ rb s (L.take (i + 1)) x = (onZ rb s (L.take i) x || ((L.getD i (0, 0, 0)).1 == 1 && (rb && isL (bAt s (L.getD i (0, 0, 0)).2.1)) && (bAt s (L.getD i (0, 0, 0)).2.1 - 97 == x))) := by
  rw [take_snoc L i (0, 0, 0) h]
  unfold onZ
  simp [List.any_append]
theorem onZ_true (s : ByteArray) (L : List Ac) : (List.range 26).filter (onZ true s L) = zonL s L := by
  unfold zonL onZ
  congr 1
  funext z
  congr 1
  funext a
  simp [Bool.and_assoc]
theorem onZ_false (s : ByteArray) (L : List Ac) : (List.range 26).filter (onZ false s L) = [] := by
  rw [List.filter_eq_nil_iff]
  intro x _
  unfold onZ
  simp
def zeros26 : List Value := List.replicate 26 (.bool false)
theorem filt_succ (p : Nat → Bool) (j : Nat) : (List.range (j + 1)).filter p = (List.range j).filter p ++ if p j = true then [j] else [] := by
  rw [List.range_succ, List.filter_append]
  by_cases e : p j = true
  · rw [if_pos e, List.filter_cons_of_pos e]; rfl
  · rw [if_neg e, List.filter_cons_of_neg e]; rfl
set_option maxHeartbeats 4000000 in
theorem rzones_any (W H : Int) (s : ByteArray) (hs : s.size ≤ maxLen) (A : Option Addr) (n cap : Nat) (L : List Ac) (w : World) (h : Al w.heap.size w A n cap L) :
    Calls Tryz.prog 20 #[.agg #[.int .i64 W, .int .i64 H, .string s], .slice A n cap] w (ZTold W H s L w) := by
  have HL := Lib.hid h
  have hlen := h.len
  obtain ⟨hc1, hc2⟩ := h.size
  have HZO := Lib.hid (fun c wx => rzone_any W H s hs c wx)
  obtain ⟨rb, hrb⟩ : ∃ rb : Bool, rb = true ↔ Right W H s := by
    by_cases q : Right W H s
    · exact ⟨true, iff_of_true rfl q⟩
    · exact ⟨false, iff_of_false (by decide) q⟩
  have HRB := Lib.hid hrb
  clear h hrb
  have hbox := Box.start w W H s 23
  obtain ⟨w1, hw1⟩ : ∃ w1, w1 = w.alloc (.cells #[.int .i64 W, .int .i64 H, .string s] 23) := ⟨_, rfl⟩
  rw [← hw1] at hbox
  have hsz1 : w1.heap.size = w.heap.size + 1 := by rw [hw1]; exact alloc_size _ _
  have hcel : Cells w1.heap.size 26 (fun x => (List.replicate 26 (Value.bool false)).getD x undef) (w1.alloc (.cells (List.replicate 26 (Value.bool false)).toArray 72)) := cells_row (heap_alloc_new w1 _) rfl
  have hbox2 := hbox.after ((Below.refl _ _).alloc (Nat.le_refl _) (.cells (List.replicate 26 (Value.bool false)).toArray 72))
  have HC0 : Hid (Cells (w.heap.size + 1) 26 (fun x => .bool (onZ rb s (L.take 0) x)) (w1.alloc (.cells (List.replicate 26 (Value.bool false)).toArray 72))) := Lib.hid (by
    rw [← hsz1]
    exact hcel.congr (fun x hx => by
      show (List.replicate 26 (Value.bool false)).getD x undef = .bool (onZ rb s (L.take 0) x)
      rw [List.getD, List.getElem?_replicate, if_pos hx]; rfl))
  have HX0 := Lib.hid hbox2
  rw [hw1] at HC0 HX0
  clear hbox hw1 hsz1 hcel hbox2
  go_enter Tryz.func20, Tryz.ntmps20
  go_wp2_with fail
  go_loopw [7] (fun iv wr => ∃ i : Nat, i ≤ n ∧ iv = .int .i64 (i : Int) ∧ Hid (Cells (w.heap.size + 1) 26 (fun x => .bool (onZ rb s (L.take i) x)) wr) ∧ Hid (Box w W H s wr)) (fun iv _ => n - (intOf iv).toNat)
  case atStart => exact ⟨0, Nat.zero_le _, rfl, HC0, HX0⟩
  case round =>
    rename World => wr
    obtain ⟨i, hi, rfl, HC, HX⟩ := hrel
    by_cases hlt : i < n
    · obtain ⟨g, off, rfl, hg, k0, k1, k2⟩ := (HL.out.below HX.out.below).cell hlt
      have HT := Lib.hid (onZ_take rb s L i (by omega))
      have hiI : (i : Int) < (n : Int) := by omega
      have hg2 : g < wr.heap.size := Nat.lt_of_lt_of_le hg HX.out.below.size
      have HGW : Hid (g < w.heap.size) := Lib.hid hg
      generalize L.getD i (0, 0, 0) = a at *
      obtain ⟨k, c, p⟩ := a
      have k0' : wr.cell? ⟨g, off + i * 3, none⟩ = some (.int .u8 (k : Int)) := k0
      have k1' : wr.cell? ⟨g, off + i * 3 + 1, none⟩ = some (.int .i64 c) := k1
      have HT : Hid (∀ x, onZ rb s (L.take (i + 1)) x = (onZ rb s (L.take i) x || (k == 1 && (rb && isL (bAt s c)) && (bAt s c - 97 == x)))) := HT
      have HK0 := Lib.hid k0'
      have HK1 := Lib.hid k1'
      clear k0 k1 k2
      have c0 := HX.out.c0
      have c1 := HX.out.c1
      have c2 := HX.out.c2
      go_wp2_with fail
      go_region_held3 (fun w' => w'.cell? ⟨w.heap.size, 0, none⟩ = some (.int .i64 W) ∧ w'.cell? ⟨w.heap.size, 1, none⟩ = some (.int .i64 H) ∧ w'.cell? ⟨w.heap.size, 2, none⟩ = some (.string s) ∧ w'.cell? ⟨g, off + i * 3 + 1, none⟩ = some (.int .i64 c)) (go_keep)
        ((first
          | (go_at_call 31; refine (HZO.out c _).mono ?_; rintro e w5 ⟨zz, lb, rfl, hz1, hz2, hb5⟩; have HB5 := Lib.hid ((below_drewN wr.heap.size wr 1).trans hb5); have HX5 := Lib.hid (HX.out.after HB5.out); have e0 := HX5.out.c0; have e1 := HX5.out.c1; have e2 := HX5.out.c2; have e3 : w5.cell? ⟨g, off + i * 3 + 1, none⟩ = some (.int .i64 c) := (HB5.out.cell (p := ⟨g, off + i * 3 + 1, none⟩) hg2).trans HK1.out; have HZ1 := Lib.hid hz1; have HZ2 := Lib.hid hz2; clear hz1 hz2 hb5)))
      have HC5 := Lib.hid (HC.out.later HB5.out)
      have k0 : w5.cell? ⟨g, off + i * 3, none⟩ = some (.int .u8 (k : Int)) := (HB5.out.cell (p := ⟨g, off + i * 3, none⟩) hg2).trans HK0.out
      have hg5 : g < w5.heap.size := Nat.lt_of_lt_of_le hg2 HB5.out.size
      clear e0 e1 e2 e3 c0 c1 c2 k0' k1'
      have HLB : Hid (lb = (rb && isL (bAt s c))) := Lib.hid (by
        by_cases q : OnLane W H s c
        · rw [(HZ1.out q).2, HRB.out.2 q.1, q.2]; rfl
        · rw [(HZ2.out q).2]
          cases hr : rb with
          | false => rfl
          | true =>
            cases hl : isL (bAt s c) with
            | false => rfl
            | true => exact absurd ⟨HRB.out.1 hr, hl⟩ q)
      by_cases e1 : k = 1
      · subst e1
        cases lb with
        | true =>
          have hlb := HLB.out
          have hon : OnLane W H s c := Classical.byContradiction (fun q => by have := (HZ2.out q).2; cases this)
          obtain ⟨hzz, _⟩ := HZ1.out hon
          have hz26 : zz < 26 := by
            have h1 := hon.2
            unfold isL at h1
            simp only [Bool.and_eq_true, decide_eq_true_eq] at h1
            omega
          have hput := HC5.out.put zz (.bool true) hz26 (g := fun x => .bool (onZ rb s (L.take (i + 1)) x)) (fun x hx => by
            show Value.bool (onZ rb s (L.take (i + 1)) x) = if x = zz then Value.bool true else Value.bool (onZ rb s (L.take i) x)
            rw [HT.out x, ← hlb, ← hzz]
            by_cases e : x = zz
            · subst e; simp
            · rw [if_neg e]
              have : (zz == x) = false := by rw [beq_eq_false_iff_ne]; exact fun q => e q.symm
              rw [this]; simp)
          have f0 := (HC5.out.2 zz hz26).1
          have f1 := (HC5.out.2 zz hz26).2
          have HPUT := Lib.hid hput
          have HXP := Lib.hid (HX5.out.later (wy := w5.setCell ⟨w.heap.size + 1, zz, none⟩ (.bool true)) ((Below.refl _ _).setCell (p := ⟨w.heap.size + 1, zz, none⟩) (Nat.le_refl _) _))
          have hlt5 : w.heap.size + 1 < w5.heap.size := HC5.out.1
          clear hput hzz hlb hon HZ1 HZ2 HLB
          go_wp2_with fail
          go_roundw
          case rel => exact ⟨i + 1, by omega, by go_num, HPUT, HXP⟩
          case measure => simp [intOf]; omega
        | false =>
          have HCE : Hid (Cells (w.heap.size + 1) 26 (fun x => .bool (onZ rb s (L.take (i + 1)) x)) w5) := Lib.hid (HC5.out.congr (fun x hx => by
            have h1 := HT.out x
            rw [← HLB.out] at h1
            show Value.bool (onZ rb s (L.take i) x) = Value.bool (onZ rb s (L.take (i + 1)) x)
            rw [h1]; simp))
          clear HZ1 HZ2 HLB
          go_wp2_with fail
          go_roundw
          case rel => exact ⟨i + 1, by omega, by go_num, HCE, HX5⟩
          case measure => simp [intOf]; omega
      · have dk : ((k : Int) == 1) = false := by rw [beq_eq_false_iff_ne]; omega
        have HCE : Hid (Cells (w.heap.size + 1) 26 (fun x => .bool (onZ rb s (L.take (i + 1)) x)) w5) := Lib.hid (HC5.out.congr (fun x hx => by
          have h1 := HT.out x
          have : (k == 1) = false := by rw [beq_eq_false_iff_ne]; exact e1
          rw [this] at h1
          show Value.bool (onZ rb s (L.take i) x) = Value.bool (onZ rb s (L.take (i + 1)) x)
          rw [h1]; simp))
        clear HZ1 HZ2 HLB
        go_wp2_with fail
        go_roundw
        case rel => exact ⟨i + 1, by omega, by go_num, HCE, HX5⟩
        case measure => simp [intOf]; omega
    · obtain rfl : i = n := by omega
      have HCA : Hid (Cells (w.heap.size + 1) 26 (fun x => .bool (onZ rb s L x)) wr) := Lib.hid (by have h1 := HC.out; rw [List.take_of_length_le (by omega)] at h1; exact h1)
      clear HC
      go_wp2_with fail
      go_loopw [5, 10] (fun zv iv wz => ∃ (j : Nat) (A3 : Option Addr) (n3 k3 : Nat), j ≤ 26 ∧ zv = .slice A3 n3 k3 ∧ iv = .int .i64 (j : Int) ∧ Hid (n3 = ((List.range j).filter (onZ rb s L)).length ∧ Own wz wr.heap.size (.slice A3 n3 k3) ((List.range j).filter (onZ rb s L))) ∧ Hid (Below wr.heap.size wr wz)) (fun _ iv _ => 26 - (intOf iv).toNat)
      case atStart => exact ⟨0, none, 0, 0, Nat.zero_le _, rfl, rfl, Lib.hid ⟨rfl, Own.nil _ _⟩, Lib.hid (Below.refl _ _)⟩
      case round =>
        rename World => wz
        obtain ⟨j, A3, n3, k3, hj, rfl, rfl, HO, HB⟩ := hrel
        by_cases hlt2 : j < 26
        · have HCZ := Lib.hid (HCA.out.later HB.out)
          have hcj0 := (HCZ.out.2 j hlt2).1
          have hltz := HCZ.out.1
          have hjI : (j : Int) < 26 := by omega
          have HFS := Lib.hid (filt_succ (onZ rb s L) j)
          have HLE : Hid (((List.range j).filter (onZ rb s L)).length ≤ 26) := Lib.hid (by have := List.length_filter_le (onZ rb s L) (List.range j); rw [List.length_range] at this; omega)
          cases hon : onZ rb s L j with
          | true =>
            have hcj : wz.cell? ⟨w.heap.size + 1, j, none⟩ = some (.bool true) := by rw [hcj0]; show some (Value.bool (onZ rb s L j)) = _; rw [hon]
            clear hcj0
            have HF2 : Hid ((List.range (j + 1)).filter (onZ rb s L) = (List.range j).filter (onZ rb s L) ++ [j]) := Lib.hid (by rw [HFS.out, if_pos hon])
            clear hon
            go_wp2_with (at_builtin; refine app_int rfl _ _ rfl wr.heap.size _ ((List.range j).filter (onZ rb s L)) rfl j _ rfl _ rfl HO.out.2 rfl (by have := HLE.out; omega) HB.out.size ?_; intro A' c' n' w6 hn6 ho6 hb6 hg6; have HN6 := Lib.hid hn6; have HO6 := Lib.hid ho6; have HB6 := Lib.hid hb6; clear hn6 ho6 hb6 hg6)
            go_roundw
            case rel => exact ⟨j + 1, A', n', c', by omega, rfl, by go_num, Lib.hid (by rw [HF2.out]; exact ⟨HN6.out, HO6.out⟩), Lib.hid (HB.out.trans HB6.out)⟩
            case measure => simp [intOf]; omega
          | false =>
            have hcj : wz.cell? ⟨w.heap.size + 1, j, none⟩ = some (.bool false) := by rw [hcj0]; show some (Value.bool (onZ rb s L j)) = _; rw [hon]
            clear hcj0
            have HF2 : Hid ((List.range (j + 1)).filter (onZ rb s L) = (List.range j).filter (onZ rb s L)) := Lib.hid (by rw [HFS.out, if_neg (by rw [hon]; decide), List.append_nil])
            clear hon
            go_wp2_with fail
            go_roundw
            case rel => exact ⟨j + 1, A3, n3, k3, by omega, rfl, by go_num, Lib.hid (by rw [HF2.out]; exact HO.out), HB⟩
            case measure => simp [intOf]; omega
        · obtain rfl : j = 26 := by omega
          have HFIN : Hid (∃ zs, (List.range 26).filter (onZ rb s L) = zs ∧ zs.length ≤ 26 ∧ (Right W H s → zs = zonL s L) ∧ (¬ Right W H s → zs = [])) := Lib.hid (by
            refine ⟨_, rfl, ?_, fun q => ?_, fun q => ?_⟩
            · have := List.length_filter_le (onZ rb s L) (List.range 26); rw [List.length_range] at this; exact this
            · rw [HRB.out.2 q]; exact onZ_true s L
            · rw [show rb = false by cases hr : rb with
                | false => rfl
                | true => exact absurd (HRB.out.1 hr) q]
              exact onZ_false s L)
          obtain ⟨zs, hz1, hz2, hz3, hz4⟩ := HFIN.out
          have HZ := Lib.hid (And.intro hz2 (And.intro hz3 hz4))
          have HOZ := HO.out
          rw [hz1] at HOZ
          have HOZ := Lib.hid HOZ
          clear hz1 hz2 hz3 hz4 HO
          go_wp2_with fail
          go_ret
          exact ⟨A3, n3, k3, zs, rfl, HOZ.out.1, HZ.out.1, HZ.out.2.1, HZ.out.2.2, HOZ.out.2.il HOZ.out.1, HX.out.below.trans (HB.out.mono HX.out.below.size)⟩
end Tr
end Go.Proofs.YtokjnmgbgflgnaaGreatDoor
