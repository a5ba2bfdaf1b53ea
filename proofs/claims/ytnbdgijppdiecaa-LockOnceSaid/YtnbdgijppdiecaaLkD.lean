/-
  Layer 9: the document's functions: right, Owner, Hold, Release, Of, Free.
-/
import Derived.Test.YtnbdgijppdiecaaLkC
import Derived.Deep.CutRange
import Derived.Deep.DeepCutAuto
import Derived.Deep.RegionLaw
import Derived.Deep.AppendLies
set_option linter.unusedVariables false
set_option maxRecDepth 100000
namespace Go.Proofs.Ytnbdgijppdiecaa
namespace Lk
open Go.RowKit Bk

theorem r9right_any (r z : Int) (w : World) : Calls Try.prog 22 #[.int .i64 r, .int .i64 z] w fun e w' => e = .returned (.bool (decide (Rb r ∧ Zo z))) ∧ w = w' := by
  by_cases h1 : 0 ≤ r
  · have d1 : decide (0 ≤ r) = true := decide_eq_true h1
    by_cases h2 : r < 8
    · have d2 : decide (r < 8) = true := decide_eq_true h2
      by_cases h3 : 0 ≤ z
      · have d3 : decide (0 ≤ z) = true := decide_eq_true h3
        by_cases h4 : z < 26
        · have d4 : decide (z < 26) = true := decide_eq_true h4
          rw [decide_eq_true (show Rb r ∧ Zo z from ⟨⟨h1, h2⟩, h3, h4⟩)]
          go_enter Try.func22, Try.ntmps22
          go_wp2
          go_ret
          exact ⟨rfl, rfl⟩
        · have d4 : decide (z < 26) = false := decide_eq_false h4
          rw [decide_eq_false (show ¬ (Rb r ∧ Zo z) from fun h => h4 h.2.2)]
          go_enter Try.func22, Try.ntmps22
          go_wp2
          go_ret
          exact ⟨rfl, rfl⟩
      · have d3 : decide (0 ≤ z) = false := decide_eq_false h3
        rw [decide_eq_false (show ¬ (Rb r ∧ Zo z) from fun h => h3 h.2.1)]
        go_enter Try.func22, Try.ntmps22
        go_wp2
        go_ret
        exact ⟨rfl, rfl⟩
    · have d2 : decide (r < 8) = false := decide_eq_false h2
      rw [decide_eq_false (show ¬ (Rb r ∧ Zo z) from fun h => h2 h.1.2)]
      go_enter Try.func22, Try.ntmps22
      go_wp2
      go_ret
      exact ⟨rfl, rfl⟩
  · have d1 : decide (0 ≤ r) = false := decide_eq_false h1
    rw [decide_eq_false (show ¬ (Rb r ∧ Zo z) from fun h => h1 h.1.1)]
    go_enter Try.func22, Try.ntmps22
    go_wp2
    go_ret
    exact ⟨rfl, rfl⟩
theorem own9_step {R : List (Int × Int)} {j : Nat} (hj : j < R.length) (z : Int) : own9 (R.drop j) z = if (R.getD j (0, 0)).2 = z then ((R.getD j (0, 0)).1, true) else own9 (R.drop (j + 1)) z := by
  rw [List.drop_eq_getElem_cons hj, List.getD, List.getElem?_eq_getElem hj]
  rfl
set_option maxHeartbeats 2000000 in
theorem r9owner_any {w : World} {base rb : Nat} {v : Value} {R : List (Int × Int)} (h : RAt w base rb v R) (z : Int) : Calls Try.prog 14 #[.pointer (some ⟨rb, 0, none⟩), .int .i64 z] w fun e w' => e = .returned (.tuple #[.int .i64 (own9 R z).1, .bool (own9 R z).2]) ∧ w = w' := by
  obtain ⟨A, n, c, rfl, hn⟩ := h.form
  have HR := Lib.hid (Po.pt h.own).2
  have HN := Lib.hid hn
  have hn2 : n ≤ 100000 := by rw [hn]; exact h.few
  have hs := Gt.size (Po.pt h.own).2
  have hs1 := hs.1
  have hs2 := hs.2
  obtain ⟨k0, k1, k2⟩ := h.cell
  clear h hs hn
  go_enter Try.func14, Try.ntmps14
  go_wp2_with fail
  go_loop [6] (fun iv => ∃ j : Nat, j ≤ n ∧ iv = .int .i64 (j : Int) ∧ Hid (own9 (R.drop j) z = own9 R z)) (fun iv => n - (intOf iv).toNat)
  case atStart => exact ⟨0, Nat.zero_le _, rfl, Lib.hid rfl⟩
  case round =>
    obtain ⟨j, hj, rfl, HI⟩ := hrel
    by_cases hlt : j < n
    · obtain ⟨g, off, rfl, hg, c1, c2⟩ := HR.out.cell hlt
      have HS := Lib.hid (own9_step (R := R) (j := j) (by rw [← HN.out]; exact hlt) z)
      have hjI : (j : Int) < (n : Int) := by omega
      have hj0 : (0 : Int) ≤ (j : Int) := by omega
      generalize R.getD j (0, 0) = p at *
      obtain ⟨a, b⟩ := p
      have c1 : w.cell? ⟨g, off + j * 2, none⟩ = some (.int .i64 a) := c1
      have c2 : w.cell? ⟨g, off + j * 2 + 1, none⟩ = some (.int .i64 b) := c2
      by_cases e : b = z
      · have d1 : (b == z) = true := by rw [beq_iff_eq]; exact e
        have HE : Hid (own9 R z = (a, true)) := Lib.hid (by rw [← HI.out, HS.out, if_pos e])
        clear e
        go_wp2_with fail
        go_ret2
        exact ⟨by rw [HE.out]; rfl, rfl⟩
      · have d1 : (b == z) = false := by rw [beq_eq_false_iff_ne]; exact e
        have HE : Hid (own9 (R.drop (j + 1)) z = own9 R z) := Lib.hid (by rw [← HI.out, HS.out, if_neg e])
        clear e
        go_wp2_with fail
        go_round
        case rel => exact ⟨j + 1, by omega, by go_num, HE⟩
        case measure => simp [intOf]; omega
    · obtain rfl : j = n := by omega
      have HE : Hid (own9 R z = (0, false)) := Lib.hid (by rw [← HI.out, List.drop_of_length_le (by rw [← HN.out]; exact Nat.le_refl _)]; rfl)
      go_wp2_with fail
      go_ret2
      exact ⟨by rw [HE.out]; rfl, rfl⟩
/-- An act on the document's table. -/
def ToldR (p : Int × List (Int × Int)) (base rb : Nat) (w : World) (e : Ending) (w' : World) : Prop := e = .returned (.int .i64 p.1) ∧ (∃ v', RAt w' base rb v' p.2) ∧ Kept9 w w' ∧ Below base w w'
theorem RAt.size {w : World} {base rb : Nat} {v : Value} {R : List (Int × Int)} (h : RAt w base rb v R) : base ≤ w.heap.size := by have := h.lo; have := lt_of_heap h.box; omega
theorem RAt.notOwn {w : World} {base rb : Nat} {v : Value} {R : List (Int × Int)} (h : RAt w base rb v R) : v.ownBlock ≠ some rb := fun e => by
  obtain ⟨c, fz, hh⟩ := kind9 h.own _ e
  have := hh.symm.trans h.box
  injection this with this
  injection this with _ this _
  revert this
  decide
theorem RAt.stored {w w6 : World} {base rb : Nat} {v v6 : Value} {R R6 : List (Int × Int)} (h : RAt w base rb v R) (hg : w.grownBy w6 v.ownBlock) (ho : Po w6 base v6 R6) (hf : R6.length ≤ 100000) :
    RAt (w6.setCell ⟨rb, 0, none⟩ v6) base rb v6 R6 ∧ Kept9 w (w6.setCell ⟨rb, 0, none⟩ v6) ∧ Below base w (w6.setCell ⟨rb, 0, none⟩ v6) := by
  have hb6 : w6.heap[rb]? = w.heap[rb]? := hg.block rb (lt_of_heap h.box) (fun e => h.notOwn e.symm)
  have hx6 := hb6.trans h.box
  have hbel : Below base w w6 := Below.grown (Below.refl _ _) hg h.size (fun k hk => (World.ownsRow.lt h.own k hk).1)
  have h7 := heap_setCell_same w6 rb 0 _ _ v6 hx6
  have hoth : ∀ k, k ≠ rb → (w6.setCell ⟨rb, 0, none⟩ v6).heap[k]? = w6.heap[k]? := fun k hk => heap_setCell_other w6 ⟨rb, 0, none⟩ k v6 hk
  have hne6 : ∀ k, v6.ownBlock = some k → k ≠ rb := by
    rintro k hk rfl
    obtain ⟨c, fz, hh⟩ := kind9 ho _ hk
    have := hh.symm.trans hx6
    injection this with this
    injection this with _ this _
    revert this
    decide
  refine ⟨⟨by rw [h7]; rfl, ownsRow_same ho (fun k hk => hoth k (hne6 k hk)), h.lo, hf⟩, ⟨?_, fun k cs t fz hk ht1 ht2 => ?_⟩, hbel.setCell h.lo _⟩
  · have : (w6.setCell ⟨rb, 0, none⟩ v6).heap.size = w6.heap.size := by simp [World.setCell]
    rw [this]; exact hg.size
  · have hkr : k ≠ rb := by
      rintro rfl
      have := hk.symm.trans h.box
      injection this with this
      injection this with _ this _
      exact ht1 this
    rw [hoth k hkr]
    refine hg.block k (lt_of_heap hk) (fun e => ?_)
    obtain ⟨c, fz, hh⟩ := kind9 h.own _ e.symm
    have := hk.symm.trans hh
    injection this with this
    injection this with _ this _
    exact ht2 this
set_option maxHeartbeats 2000000 in
theorem r9hold_any {w : World} {base rb : Nat} {v : Value} {R : List (Int × Int)} (h : RAt w base rb v R) (hR : R.length < 100000) (r z : Int) : Calls Try.prog 11 #[.pointer (some ⟨rb, 0, none⟩), .int .i64 r, .int .i64 z] w (ToldR (rhold R r z) base rb w) := by
  have HT := Lib.hid h
  have HOW := Lib.hid (r9owner_any h z)
  have HST : Hid ((∃ v', RAt w base rb v' R) ∧ Kept9 w w ∧ Below base w w) := Lib.hid ⟨⟨v, h⟩, Kept9.refl _, Below.refl _ _⟩
  have HLR := Lib.hid hR
  clear h hR
  by_cases h1 : Rb r ∧ Zo z
  · have d1 : decide (Rb r ∧ Zo z) = true := decide_eq_true h1
    have HE : Hid (rhold R r z = if (own9 R z).2 = true ∧ (own9 R z).1 ≠ r then (3, R) else if (own9 R z).2 = true then (0, R) else (0, R ++ [(r, z)])) := Lib.hid (by unfold rhold; rw [if_neg (show ¬¬(Rb r ∧ Zo z) from fun q => q h1)])
    rw [HE.out]
    clear h1 HE
    generalize own9 R z = p at *
    obtain ⟨a, d⟩ := p
    cases d with
    | false =>
      rw [if_neg (fun h => by cases h.1), if_neg (fun h => by cases h)]
      obtain ⟨k0, k1, k2⟩ := HT.out.cell
      have HA := Lib.hid ((Below.refl w.heap.size w).alloc (Nat.le_refl _) (.cells #[.int .i64 r, .int .i64 z] 54))
      have HTA := Lib.hid (HT.out.later HA.out)
      have HSZ : Hid (base ≤ (w.alloc (.cells #[.int .i64 r, .int .i64 z] 54)).heap.size) := Lib.hid HTA.out.size
      have HL1 : Hid (R.length + 1 ≤ 1000000) := Lib.hid (by have := HLR.out; omega)
      have HP1 := Lib.hid (Pt.one w r z)
      have HFEW : Hid ((R ++ [(r, z)]).length ≤ 100000) := Lib.hid (by have := HLR.out; simp; omega)
      have HKA : Hid (Kept9 w (w.alloc (.cells #[.int .i64 r, .int .i64 z] 54)) ∧ Below base w (w.alloc (.cells #[.int .i64 r, .int .i64 z] 54))) := Lib.hid ⟨Kept9.of HA.out, HA.out.mono HT.out.size⟩
      have HRB : Hid (rb < (w.alloc (.cells #[.int .i64 r, .int .i64 z] 54)).heap.size) := Lib.hid (lt_of_heap HTA.out.box)
      have HE12 := Lib.hid (And.intro HTA.out.cell.1 HTA.out.cell.2.1)
      go_enter Try.func11, Try.ntmps11
      go_wp2_with (first
        | (go_at_call 22; refine (r9right_any r z _).mono ?_; rintro e w' ⟨rfl, rfl⟩; rw [d1])
        | (go_at_call 14; refine HOW.out.mono ?_; rintro e w' ⟨rfl, rfl⟩)
        | (at_builtin; refine app_pairs rfl _ _ rfl base v R rfl HTA.out.own (some ⟨w.heap.size, 0, none⟩) 1 1 [(r, z)] rfl HP1.out HL1.out HSZ.out ?_; intro A5 n5 c5 w5 hn5 ho5 hb5 hg5 hd5; have HS6 := Lib.hid (HTA.out.stored hg5 ho5 HFEW.out); have q1 := (World.cell?_of_block (a := ⟨rb, 0, none⟩) (hg5.block rb HRB.out (fun e => HTA.out.notOwn e.symm))).trans HE12.out.1; have q2 := (World.frozen?_of_block (a := ⟨rb, 0, none⟩) (hg5.block rb HRB.out (fun e => HTA.out.notOwn e.symm))).trans HE12.out.2; clear hn5 ho5 hb5 hg5 hd5))
      go_ret
      exact ⟨rfl, ⟨_, HS6.out.1⟩, HKA.out.1.trans HS6.out.2.1, HKA.out.2.trans HS6.out.2.2⟩
    | true =>
      by_cases e : a = r
      · subst e
        rw [if_neg (fun h => h.2 rfl), if_pos rfl]
        go_enter Try.func11, Try.ntmps11
        go_wp2_with (first
          | (go_at_call 22; refine (r9right_any a z _).mono ?_; rintro e w' ⟨rfl, rfl⟩; rw [d1])
          | (go_at_call 14; refine HOW.out.mono ?_; rintro e w' ⟨rfl, rfl⟩))
        go_ret
        exact ⟨rfl, HST.out⟩
      · rw [if_pos ⟨rfl, e⟩]
        have hd : (a != r) = true := by rw [bne_iff_ne]; exact e
        clear e
        go_enter Try.func11, Try.ntmps11
        go_wp2_with (first
          | (go_at_call 22; refine (r9right_any r z _).mono ?_; rintro e w' ⟨rfl, rfl⟩; rw [d1])
          | (go_at_call 14; refine HOW.out.mono ?_; rintro e w' ⟨rfl, rfl⟩))
        go_ret
        exact ⟨rfl, HST.out⟩
  · have d1 : decide (Rb r ∧ Zo z) = false := decide_eq_false h1
    have HE : Hid (rhold R r z = (1, R)) := Lib.hid (by unfold rhold; rw [if_pos h1])
    rw [HE.out]
    clear h1 HE
    go_enter Try.func11, Try.ntmps11
    go_wp2_with (first
      | (go_at_call 22; refine (r9right_any r z _).mono ?_; rintro e w' ⟨rfl, rfl⟩; rw [d1]))
    go_ret
    exact ⟨rfl, HST.out⟩
/-- Numbers of one's own, of the document's table. -/
theorem own_zone {R : List (Int × Int)} {T : List Ow} (h : Sim R T) {j : Nat} (hj : j < 26) : own9 R (j : Int) = T.getD j (0, false) := by
  rw [h.same, at9_nat T hj]
set_option maxHeartbeats 2000000 in
theorem r9of_any {w : World} {base rb : Nat} {v : Value} {R : List (Int × Int)} {T : List Ow} (h : RAt w base rb v R) (hS : Sim R T) (hT : Tb T) (r : Int) : Calls Try.prog 17 #[.pointer (some ⟨rb, 0, none⟩), .int .i64 r] w (ToldI (zns T (r, true) 26) w) := by
  have HR := Lib.hid h
  have HSM := Lib.hid hS
  clear h hS
  go_enter Try.func17, Try.ntmps17
  go_wp2_with fail
  go_loopw [5, 6] (fun lv iv wr => ∃ (j : Nat) (A : Option Addr) (n c : Nat), j ≤ 26 ∧ lv = .slice A n c ∧ iv = .int .i64 (j : Int) ∧ n = (zns T (r, true) j).length ∧ Hid (Iw wr w.heap.size (.slice A n c) (zns T (r, true) j) ∧ Below w.heap.size w wr)) (fun _ iv _ => 26 - (intOf iv).toNat)
  case atStart => exact ⟨0, none, 0, 0, by omega, rfl, rfl, rfl, Lib.hid ⟨Iw.nil _ _, Below.refl _ _⟩⟩
  case round =>
    rename World => wr
    obtain ⟨j, A, n, c, hj, rfl, rfl, hn, HI⟩ := hrel
    have HRr := Lib.hid (HR.out.later HI.out.2)
    have HN := Lib.hid hn
    clear hn
    by_cases hlt : j < 26
    · have HOW := Lib.hid (r9owner_any HRr.out (j : Int))
      rw [own_zone HSM.out hlt] at HOW
      have HS := Lib.hid (zns_succ T (r, true) j)
      have hk1 : (j : Int) < 26 := by omega
      have HL : Hid ((zns T (r, true) j).length ≤ 26) := Lib.hid (by have := zns_len T (r, true) j; omega)
      generalize T.getD j (0, false) = p at *
      obtain ⟨a, d⟩ := p
      by_cases he : (a, d) = (r, true)
      · have e1 := congrArg Prod.fst he
        have e2 := congrArg Prod.snd he
        simp only at e1 e2
        subst e1 e2
        rw [if_pos rfl] at HS
        clear he
        have HAd := Lib.hid ((Below.refl wr.heap.size wr).alloc (Nat.le_refl _) (.cells #[.int .i64 (j : Int)] 3))
        have HB5 : Hid (w.heap.size ≤ (wr.alloc (.cells #[.int .i64 (j : Int)] 3)).heap.size) := Lib.hid (Nat.le_trans HI.out.2.size HAd.out.size)
        go_wp2_with (first
          | (go_at_call 14; refine HOW.out.mono ?_; rintro e w' ⟨rfl, rfl⟩)
          | (at_builtin; refine app_ints rfl _ _ rfl w.heap.size _ _ rfl (HI.out.1.later HAd.out) (some ⟨wr.heap.size, 0, none⟩) 1 1 [(j : Int)] rfl (Lt.one wr j) (by have := HL.out; omega) HB5.out ?_; intro A5 n5 c5 w5 hn5 ho5 hb5 _ _; have HN5 := Lib.hid hn5; have HK5 := Lib.hid (And.intro ho5 ((HI.out.2.trans (HAd.out.mono HI.out.2.size)).trans hb5)); clear hn5 ho5 hb5))
        go_roundw
        case rel => exact ⟨j + 1, A5, n5, c5, by omega, rfl, by go_num, by rw [HS.out]; exact HN5.out, by rw [HS.out]; exact HK5⟩
        case measure => simp [intOf]; omega
      · rw [if_neg he, List.append_nil] at HS
        cases d with
        | false =>
          clear he
          go_wp2_with (go_at_call 14; refine HOW.out.mono ?_; rintro e w' ⟨rfl, rfl⟩)
          go_roundw
          case rel => exact ⟨j + 1, A, n, c, by omega, rfl, by go_num, by rw [HS.out]; exact HN.out, by rw [HS.out]; exact HI⟩
          case measure => simp [intOf]; omega
        | true =>
          have e1 : (a == r) = false := by rw [beq_eq_false_iff_ne]; exact fun e => he (by rw [e])
          clear he
          go_wp2_with (go_at_call 14; refine HOW.out.mono ?_; rintro e w' ⟨rfl, rfl⟩)
          go_roundw
          case rel => exact ⟨j + 1, A, n, c, by omega, rfl, by go_num, by rw [HS.out]; exact HN.out, by rw [HS.out]; exact HI⟩
          case measure => simp [intOf]; omega
    · obtain rfl : j = 26 := by omega
      go_wp2_with fail
      go_ret
      exact ⟨A, n, c, rfl, HN.out, HI.out.1, HI.out.2⟩
theorem free_eq {T : List Ow} (hT : Tb T) {j : Nat} (hj : j < 26) : T.getD j (0, false) = (0, false) ↔ (T.getD j (0, false)).2 = false :=
  ⟨fun h => by rw [h], fun h => Prod.ext ((hT.ok j hj).1 h) h⟩
set_option maxHeartbeats 2000000 in
theorem r9free_any {w : World} {base rb : Nat} {v : Value} {R : List (Int × Int)} {T : List Ow} (h : RAt w base rb v R) (hS : Sim R T) (hT : Tb T) : Calls Try.prog 19 #[.pointer (some ⟨rb, 0, none⟩)] w (ToldI (zns T (0, false) 26) w) := by
  have HR := Lib.hid h
  have HSM := Lib.hid hS
  have HTB := Lib.hid hT
  clear h hS hT
  go_enter Try.func19, Try.ntmps19
  go_wp2_with fail
  go_loopw [3, 4] (fun lv iv wr => ∃ (j : Nat) (A : Option Addr) (n c : Nat), j ≤ 26 ∧ lv = .slice A n c ∧ iv = .int .i64 (j : Int) ∧ n = (zns T (0, false) j).length ∧ Hid (Iw wr w.heap.size (.slice A n c) (zns T (0, false) j) ∧ Below w.heap.size w wr)) (fun _ iv _ => 26 - (intOf iv).toNat)
  case atStart => exact ⟨0, none, 0, 0, by omega, rfl, rfl, rfl, Lib.hid ⟨Iw.nil _ _, Below.refl _ _⟩⟩
  case round =>
    rename World => wr
    obtain ⟨j, A, n, c, hj, rfl, rfl, hn, HI⟩ := hrel
    have HRr := Lib.hid (HR.out.later HI.out.2)
    have HN := Lib.hid hn
    clear hn
    by_cases hlt : j < 26
    · have HOW := Lib.hid (r9owner_any HRr.out (j : Int))
      rw [own_zone HSM.out hlt] at HOW
      have HS := Lib.hid (zns_succ T (0, false) j)
      have HFE := Lib.hid (free_eq HTB.out hlt)
      have hk1 : (j : Int) < 26 := by omega
      have HL : Hid ((zns T (0, false) j).length ≤ 26) := Lib.hid (by have := zns_len T (0, false) j; omega)
      generalize T.getD j (0, false) = p at *
      obtain ⟨a, d⟩ := p
      cases d with
      | false =>
        rw [if_pos (HFE.out.2 rfl)] at HS
        have HAd := Lib.hid ((Below.refl wr.heap.size wr).alloc (Nat.le_refl _) (.cells #[.int .i64 (j : Int)] 3))
        have HB5 : Hid (w.heap.size ≤ (wr.alloc (.cells #[.int .i64 (j : Int)] 3)).heap.size) := Lib.hid (Nat.le_trans HI.out.2.size HAd.out.size)
        go_wp2_with (first
          | (go_at_call 14; refine HOW.out.mono ?_; rintro e w' ⟨rfl, rfl⟩)
          | (at_builtin; refine app_ints rfl _ _ rfl w.heap.size _ _ rfl (HI.out.1.later HAd.out) (some ⟨wr.heap.size, 0, none⟩) 1 1 [(j : Int)] rfl (Lt.one wr j) (by have := HL.out; omega) HB5.out ?_; intro A5 n5 c5 w5 hn5 ho5 hb5 _ _; have HN5 := Lib.hid hn5; have HK5 := Lib.hid (And.intro ho5 ((HI.out.2.trans (HAd.out.mono HI.out.2.size)).trans hb5)); clear hn5 ho5 hb5))
        go_roundw
        case rel => exact ⟨j + 1, A5, n5, c5, by omega, rfl, by go_num, by rw [HS.out]; exact HN5.out, by rw [HS.out]; exact HK5⟩
        case measure => simp [intOf]; omega
      | true =>
        rw [if_neg (fun h => by have := HFE.out.1 h; cases this), List.append_nil] at HS
        go_wp2_with (go_at_call 14; refine HOW.out.mono ?_; rintro e w' ⟨rfl, rfl⟩)
        go_roundw
        case rel => exact ⟨j + 1, A, n, c, by omega, rfl, by go_num, by rw [HS.out]; exact HN.out, by rw [HS.out]; exact HI⟩
        case measure => simp [intOf]; omega
    · obtain rfl : j = 26 := by omega
      go_wp2_with fail
      go_ret
      exact ⟨A, n, c, rfl, HN.out, HI.out.1, HI.out.2⟩
end Lk
end Go.Proofs.Ytnbdgijppdiecaa
