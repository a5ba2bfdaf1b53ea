/-
  Layer 9: the program's functions on a table: refuse, Owner, zones, Of, Free, Hold, Release.
-/
import Derived.Test.YtnbdgijppdiecaaLkA
import Derived.Deep.RegionHeld3
import Derived.StillTailTactics
set_option linter.unusedVariables false
set_option maxRecDepth 100000
namespace Go.Proofs.Ytnbdgijppdiecaa
namespace Lk
open Go.RowKit Bk

theorem refuse9_any (g : Nat) (r z : Int) (w : World) : Calls Try.prog 25 #[.pointer (some ⟨g, 0, none⟩), .int .i64 r, .int .i64 z] w fun e w' => e = .returned (.int .i64 (if Rb r ∧ Zo z then 0 else 1)) ∧ w = w' := by
  by_cases h1 : Rb r
  · by_cases h2 : Zo z
    · rw [if_pos ⟨h1, h2⟩]
      have d1 : decide (Rb r) = true := decide_eq_true h1
      have d2 : decide (Zo z) = true := decide_eq_true h2
      clear h1 h2
      go_enter Try.func25, Try.ntmps25
      go_wp2_with (first
        | (go_at_call 26; refine (isRobot9_any r _).mono ?_; rintro e w' ⟨rfl, rfl⟩; rw [d1])
        | (go_at_call 23; refine (isZone9_any z _).mono ?_; rintro e w' ⟨rfl, rfl⟩; rw [d2]))
      go_ret
      exact ⟨rfl, rfl⟩
    · rw [if_neg (fun h => h2 h.2)]
      have d1 : decide (Rb r) = true := decide_eq_true h1
      have d2 : decide (Zo z) = false := decide_eq_false h2
      clear h1 h2
      go_enter Try.func25, Try.ntmps25
      go_wp2_with (first
        | (go_at_call 26; refine (isRobot9_any r _).mono ?_; rintro e w' ⟨rfl, rfl⟩; rw [d1])
        | (go_at_call 23; refine (isZone9_any z _).mono ?_; rintro e w' ⟨rfl, rfl⟩; rw [d2]))
      go_ret
      exact ⟨rfl, rfl⟩
  · rw [if_neg (fun h => h1 h.1)]
    have d1 : decide (Rb r) = false := decide_eq_false h1
    clear h1
    go_enter Try.func25, Try.ntmps25
    go_wp2_with (first
      | (go_at_call 26; refine (isRobot9_any r _).mono ?_; rintro e w' ⟨rfl, rfl⟩; rw [d1]))
    go_ret
    exact ⟨rfl, rfl⟩
theorem owner9_any {w : World} {g : Nat} {T : List Ow} (h : LkAt w g T) (z : Int) : Calls Try.prog 13 #[.pointer (some ⟨g, 0, none⟩), .int .i64 z] w fun e w' => e = .returned (.tuple #[.int .i64 (at9 T z).1, .bool (at9 T z).2]) ∧ Below w.heap.size w w' := by
  have HB := Lib.hid (Below.refl w.heap.size w)
  by_cases h2 : Zo z
  · have d2 : decide (Zo z) = true := decide_eq_true h2
    obtain ⟨k, rfl⟩ := Int.eq_ofNat_of_zero_le h2.1
    have hk : k < 26 := by have := h2.2; omega
    obtain ⟨c1, c2, _, _⟩ := h.cells hk
    have hlt := h.lt
    have HA := Lib.hid (fun (o : Obj) => (Below.refl w.heap.size w).alloc (Nat.le_refl _) o)
    unfold at9
    rw [if_pos h2, Int.toNat_natCast]
    generalize T.getD k (0, false) = p at *
    obtain ⟨a, b⟩ := p
    have c1 : w.cell? ⟨g, k * 2, none⟩ = some (.int .i64 a) := c1
    have c2 : w.cell? ⟨g, k * 2 + 1, none⟩ = some (.bool b) := c2
    have hk0 : (0 : Int) ≤ (k : Int) := by omega
    have hk1 : (k : Int) < 26 := by omega
    clear h h2
    go_enter Try.func13, Try.ntmps13
    go_wp2_with (first
      | (go_at_call 23; refine (isZone9_any (k : Int) _).mono ?_; rintro e w' ⟨rfl, rfl⟩; rw [d2]))
    go_big_quiet (fail)
    go_wp2_with fail
    go_ret2
    exact ⟨rfl, (HA.out _).trans (Bk.below_drewN _ _ _)⟩
  · have d2 : decide (Zo z) = false := decide_eq_false h2
    unfold at9
    rw [if_neg h2]
    clear h h2
    go_enter Try.func13, Try.ntmps13
    go_wp2_with (first
      | (go_at_call 23; refine (isZone9_any z _).mono ?_; rintro e w' ⟨rfl, rfl⟩; rw [d2]))
    go_ret2
    exact ⟨rfl, HB.out⟩
/-- Numbers of one's own are told. -/
def ToldI (L : List Int) (w : World) (e : Ending) (w' : World) : Prop := ∃ A n c, e = .returned (.slice A n c) ∧ n = L.length ∧ Iw w' w.heap.size (.slice A n c) L ∧ Below w.heap.size w w'
set_option maxHeartbeats 2000000 in
theorem zones9_any {w : World} {g : Nat} {T : List Ow} (h : LkAt w g T) (r : Int) (q : Bool) : Calls Try.prog 24 #[.pointer (some ⟨g, 0, none⟩), .agg #[.int .i64 r, .bool q]] w (ToldI (zns T (r, q) 26) w) := by
  have HT := Lib.hid h
  obtain ⟨b, hb⟩ : ∃ b, b = w.heap.size := ⟨_, rfl⟩
  have HA := Lib.hid ((Below.refl w.heap.size w).alloc (Nat.le_refl _) (.cells #[.int .i64 r, .bool q] 48))
  have HX : Hid ((w.alloc (.cells #[.int .i64 r, .bool q] 48)).heap[b]? = some (.cells #[.int .i64 r, .bool q] 48 (0, 0))) := Lib.hid (by rw [hb]; exact heap_alloc_new w _)
  have HBW : Hid (b = w.heap.size) := Lib.hid hb
  clear h
  go_enter Try.func24, Try.ntmps24
  go_wp2_with fail
  rw [← hb]
  clear hb
  obtain ⟨w1, hw1⟩ : ∃ w1, w1 = w.alloc (.cells #[.int .i64 r, .bool q] 48) := ⟨_, rfl⟩
  rw [← hw1] at HA HX ⊢
  clear hw1
  go_loopw [5, 9] (fun lv iv wr => ∃ (j : Nat) (A : Option Addr) (n c : Nat), j ≤ 26 ∧ lv = .slice A n c ∧ iv = .int .i64 (j : Int) ∧ n = (zns T (r, q) j).length ∧ Hid (Iw wr w1.heap.size (.slice A n c) (zns T (r, q) j) ∧ Below w1.heap.size w1 wr)) (fun _ iv _ => 26 - (intOf iv).toNat)
  case atStart => exact ⟨0, none, 0, 0, by omega, rfl, rfl, rfl, Lib.hid ⟨Iw.nil _ _, Below.refl _ _⟩⟩
  case round =>
    rename World => wr
    obtain ⟨j, A, n, c, hj, rfl, rfl, hn, HI⟩ := hrel
    have HTr := Lib.hid ((HT.out.later HA.out).later HI.out.2)
    have HN := Lib.hid hn
    have hx := (HI.out.2.block b (lt_of_heap HX.out)).trans HX.out
    have x0 : wr.cell? ⟨b, 0, none⟩ = some (.int .i64 r) := by rw [cell_of_row wr b 0 _ _ _ hx]; rfl
    have x1 : wr.cell? ⟨b, 1, none⟩ = some (.bool q) := by rw [cell_of_row wr b 1 _ _ _ hx]; rfl
    clear hn hx
    by_cases hlt : j < 26
    · obtain ⟨c1, c2, _, _⟩ := HTr.out.cells hlt
      have HS := Lib.hid (zns_succ T (r, q) j)
      have hlg := HTr.out.lt
      have hk0 : (0 : Int) ≤ (j : Int) := by omega
      have hk1 : (j : Int) < 26 := by omega
      have HL : Hid ((zns T (r, q) j).length ≤ 26) := Lib.hid (by have := zns_len T (r, q) j; omega)
      generalize T.getD j (0, false) = p at *
      obtain ⟨a, d⟩ := p
      have c1 : wr.cell? ⟨g, j * 2, none⟩ = some (.int .i64 a) := c1
      have c2 : wr.cell? ⟨g, j * 2 + 1, none⟩ = some (.bool d) := c2
      by_cases he : (a, d) = (r, q)
      · have e1 := congrArg Prod.fst he
        have e2 := congrArg Prod.snd he
        simp only at e1 e2
        subst e1 e2
        rw [if_pos rfl] at HS
        have hdd : (d == d) = true := by cases d <;> rfl
        clear he
        go_wp2_with fail
        go_big_quiet (fail)
        rename_i nq _
        have HID := Lib.hid (And.intro (HI.out.1.later (Bk.below_drewN _ _ nq)) (HI.out.2.trans (Bk.below_drewN _ _ nq)))
        generalize wr.drewN nq = wd at *
        have HAd := Lib.hid ((Below.refl wd.heap.size wd).alloc (Nat.le_refl _) (.cells #[.int .i64 (j : Int)] 3))
        have HB5 : Hid (w1.heap.size ≤ (wd.alloc (.cells #[.int .i64 (j : Int)] 3)).heap.size) := Lib.hid (Nat.le_trans HID.out.2.size HAd.out.size)
        go_wp2_with (at_builtin; refine app_ints rfl _ _ rfl w1.heap.size _ _ rfl (HID.out.1.later HAd.out) (some ⟨wd.heap.size, 0, none⟩) 1 1 [(j : Int)] rfl (Lt.one wd j) (by have := HL.out; omega) HB5.out ?_; intro A5 n5 c5 w5 hn5 ho5 hb5 _ _; have HN5 := Lib.hid hn5; have HK5 := Lib.hid (And.intro ho5 ((HID.out.2.trans (HAd.out.mono HID.out.2.size)).trans hb5)); clear hn5 ho5 hb5)
        go_roundw
        case rel => exact ⟨j + 1, A5, n5, c5, by omega, rfl, by go_num, by rw [HS.out]; exact HN5.out, by rw [HS.out]; exact HK5⟩
        case measure => simp [intOf]; omega
      · rw [if_neg he, List.append_nil] at HS
        have hne : a ≠ r ∨ (a = r ∧ d ≠ q) := by
          by_cases e : a = r
          · exact .inr ⟨e, fun e2 => he (by rw [e, e2])⟩
          · exact .inl e
        clear he
        rcases hne with e | ⟨rfl, e⟩
        · have e1 : (a == r) = false := by rw [beq_eq_false_iff_ne]; exact e
          go_wp2_with fail
          go_big_quiet (fail)
          rename_i nq _
          have HID := Lib.hid (And.intro (HI.out.1.later (Bk.below_drewN _ _ nq)) (HI.out.2.trans (Bk.below_drewN _ _ nq)))
          go_wp2_with fail
          go_roundw
          case rel => exact ⟨j + 1, A, n, c, by omega, rfl, by go_num, by rw [HS.out]; exact HN.out, by rw [HS.out]; exact HID⟩
          case measure => simp [intOf]; omega
        · have e1 : (d == q) = false := by cases d <;> cases q <;> simp_all
          go_wp2_with fail
          go_big_quiet (fail)
          rename_i nq _
          have HID := Lib.hid (And.intro (HI.out.1.later (Bk.below_drewN _ _ nq)) (HI.out.2.trans (Bk.below_drewN _ _ nq)))
          go_wp2_with fail
          go_roundw
          case rel => exact ⟨j + 1, A, n, c, by omega, rfl, by go_num, by rw [HS.out]; exact HN.out, by rw [HS.out]; exact HID⟩
          case measure => simp [intOf]; omega
    · obtain rfl : j = 26 := by omega
      go_wp2_with fail
      go_ret
      exact ⟨A, n, c, rfl, HN.out, own_lower HI.out.1 HA.out.size, HA.out.trans (HI.out.2.mono HA.out.size)⟩
theorem of9_any {w : World} {g : Nat} {T : List Ow} (h : LkAt w g T) (r : Int) : Calls Try.prog 16 #[.pointer (some ⟨g, 0, none⟩), .int .i64 r] w (ToldI (zns T (r, true) 26) w) := by
  have HZ := Lib.hid (zones9_any h r true)
  clear h
  go_enter Try.func16, Try.ntmps16
  go_wp2_with fail
  refine HZ.out.mono ?_
  rintro e w' ⟨A, n, c, rfl, hn, ho, hb⟩
  have HH := Lib.hid (And.intro hn (And.intro ho hb))
  clear hn ho hb
  go_wp2_with fail
  go_ret
  exact ⟨A, n, c, rfl, HH.out.1, HH.out.2.1, HH.out.2.2⟩
theorem free9_any {w : World} {g : Nat} {T : List Ow} (h : LkAt w g T) : Calls Try.prog 18 #[.pointer (some ⟨g, 0, none⟩)] w (ToldI (zns T (0, false) 26) w) := by
  have HZ := Lib.hid (zones9_any h 0 false)
  clear h
  go_enter Try.func18, Try.ntmps18
  go_wp2_with fail
  refine HZ.out.mono ?_
  rintro e w' ⟨A, n, c, rfl, hn, ho, hb⟩
  have HH := Lib.hid (And.intro hn (And.intro ho hb))
  clear hn ho hb
  go_wp2_with fail
  go_ret
  exact ⟨A, n, c, rfl, HH.out.1, HH.out.2.1, HH.out.2.2⟩
/-- An act on the table: its error, the table behind it. -/
def ToldA (p : Int × List Ow) (g : Nat) (w : World) (e : Ending) (w' : World) : Prop := e = .returned (.int .i64 p.1) ∧ LkAt w' g p.2 ∧ Only g w w'
theorem at9_nat (T : List Ow) {k : Nat} (hk : k < 26) : at9 T (k : Int) = T.getD k (0, false) := by
  unfold at9
  rw [if_pos ⟨by omega, by omega⟩, Int.toNat_natCast]
set_option maxHeartbeats 2000000 in
theorem hold9_any {w : World} {g : Nat} {T : List Ow} (h : LkAt w g T) (r z : Int) : Calls Try.prog 20 #[.pointer (some ⟨g, 0, none⟩), .int .i64 r, .int .i64 z] w (ToldA (hold9 T r z) g w) := by
  have HT := Lib.hid h
  have HOW := Lib.hid (owner9_any h z)
  have HRF := Lib.hid (refuse9_any g r z w)
  clear h
  by_cases h1 : Rb r ∧ Zo z
  · rw [if_pos h1] at HRF
    obtain ⟨k, rfl⟩ := Int.eq_ofNat_of_zero_le h1.2.1
    have hk : k < 26 := by have := h1.2.2; omega
    have HRB := Lib.hid h1.1
    have HE : Hid (hold9 T r (k : Int) = if (at9 T k).2 = true ∧ (at9 T k).1 ≠ r then (3, T) else (0, T.set k (r, true))) := Lib.hid (by unfold hold9; rw [if_neg (fun q => q h1), Int.toNat_natCast])
    rw [HE.out]
    have hk0 : (0 : Int) ≤ (k : Int) := by omega
    have hk1 : (k : Int) < 26 := by omega
    clear h1 HE
    generalize at9 T (k : Int) = p at *
    obtain ⟨a, d⟩ := p
    cases d with
    | false =>
      rw [if_neg (fun h => by cases h.1)]
      go_enter Try.func20, Try.ntmps20
      go_wp2_with (go_at_call 25; refine HRF.out.mono ?_; rintro e w' ⟨rfl, rfl⟩)
      refine HOW.out.mono ?_
      rintro e w1 ⟨rfl, hb1⟩
      have HB1 := Lib.hid (Only.of (g := g) hb1)
      have HT1 := Lib.hid (HT.out.later hb1)
      obtain ⟨c1, c2, f1, f2⟩ := HT1.out.cells hk
      have hlg := HT1.out.lt
      have HP := Lib.hid (HT1.out.put hk (p := (r, true)) (fun h => by cases h) (fun _ => HRB.out))
      have HPO := Lib.hid (HB1.out.put2 (k * 2) (k * 2 + 1) (.int .i64 r) (.bool true))
      clear hb1
      go_wp2_with fail
      go_ret
      exact ⟨rfl, HP.out, HPO.out⟩
    | true =>
      by_cases e : a = r
      · subst e
        rw [if_neg (fun h => h.2 rfl)]
        go_enter Try.func20, Try.ntmps20
        go_wp2_with (go_at_call 25; refine HRF.out.mono ?_; rintro e w' ⟨rfl, rfl⟩)
        refine HOW.out.mono ?_
        rintro e w1 ⟨rfl, hb1⟩
        have HB1 := Lib.hid (Only.of (g := g) hb1)
        have HT1 := Lib.hid (HT.out.later hb1)
        obtain ⟨c1, c2, f1, f2⟩ := HT1.out.cells hk
        have hlg := HT1.out.lt
        have HP := Lib.hid (HT1.out.put hk (p := (a, true)) (fun h => by cases h) (fun _ => HRB.out))
        have HPO := Lib.hid (HB1.out.put2 (k * 2) (k * 2 + 1) (.int .i64 a) (.bool true))
        clear hb1
        go_wp2_with fail
        go_ret
        exact ⟨rfl, HP.out, HPO.out⟩
      · rw [if_pos ⟨rfl, e⟩]
        have hd : (a != r) = true := by rw [bne_iff_ne]; exact e
        clear e
        go_enter Try.func20, Try.ntmps20
        go_wp2_with (go_at_call 25; refine HRF.out.mono ?_; rintro e w' ⟨rfl, rfl⟩)
        refine HOW.out.mono ?_
        rintro e w1 ⟨rfl, hb1⟩
        have HB1 := Lib.hid (Only.of (g := g) hb1)
        have HT1 := Lib.hid (HT.out.later hb1)
        clear hb1
        go_wp2_with fail
        go_ret
        exact ⟨rfl, HT1.out, HB1.out⟩
  · rw [if_neg h1] at HRF
    have HE : Hid (hold9 T r z = (1, T)) := Lib.hid (by unfold hold9; rw [if_pos h1])
    rw [HE.out]
    clear h1 HE
    go_enter Try.func20, Try.ntmps20
    go_wp2_with (go_at_call 25; refine HRF.out.mono ?_; rintro e w' ⟨rfl, rfl⟩)
    go_ret
    exact ⟨rfl, HT.out, Only.refl _ _⟩
set_option maxHeartbeats 2000000 in
theorem release9_any {w : World} {g : Nat} {T : List Ow} (h : LkAt w g T) (r z : Int) : Calls Try.prog 21 #[.pointer (some ⟨g, 0, none⟩), .int .i64 r, .int .i64 z] w (ToldA (rel9 T r z) g w) := by
  have HT := Lib.hid h
  have HOW := Lib.hid (owner9_any h z)
  have HRF := Lib.hid (refuse9_any g r z w)
  clear h
  by_cases h1 : Rb r ∧ Zo z
  · rw [if_pos h1] at HRF
    obtain ⟨k, rfl⟩ := Int.eq_ofNat_of_zero_le h1.2.1
    have hk : k < 26 := by have := h1.2.2; omega
    have HE : Hid (rel9 T r (k : Int) = if at9 T k = (r, true) then (0, T.set k (0, false)) else (2, T)) := Lib.hid (by unfold rel9; rw [if_neg (fun q => q h1), Int.toNat_natCast])
    rw [HE.out]
    have hk0 : (0 : Int) ≤ (k : Int) := by omega
    have hk1 : (k : Int) < 26 := by omega
    clear h1 HE
    generalize at9 T (k : Int) = p at *
    obtain ⟨a, d⟩ := p
    cases d with
    | false =>
      rw [if_neg (fun h => by cases h)]
      go_enter Try.func21, Try.ntmps21
      go_wp2_with (go_at_call 25; refine HRF.out.mono ?_; rintro e w' ⟨rfl, rfl⟩)
      refine HOW.out.mono ?_
      rintro e w1 ⟨rfl, hb1⟩
      have HB1 := Lib.hid (Only.of (g := g) hb1)
      have HT1 := Lib.hid (HT.out.later hb1)
      clear hb1
      go_wp2_with fail
      go_ret
      exact ⟨rfl, HT1.out, HB1.out⟩
    | true =>
      by_cases e : a = r
      · subst e
        rw [if_pos rfl]
        go_enter Try.func21, Try.ntmps21
        go_wp2_with (go_at_call 25; refine HRF.out.mono ?_; rintro e w' ⟨rfl, rfl⟩)
        refine HOW.out.mono ?_
        rintro e w1 ⟨rfl, hb1⟩
        have HB1 := Lib.hid (Only.of (g := g) hb1)
        have HT1 := Lib.hid (HT.out.later hb1)
        obtain ⟨c1, c2, f1, f2⟩ := HT1.out.cells hk
        have hlg := HT1.out.lt
        have HP := Lib.hid (HT1.out.put hk (p := (0, false)) (fun _ => rfl) (fun h => by cases h))
        have HPO := Lib.hid (HB1.out.put2 (k * 2) (k * 2 + 1) (.int .i64 0) (.bool false))
        clear hb1
        go_wp2_with fail
        go_ret
        exact ⟨rfl, HP.out, HPO.out⟩
      · rw [if_neg (fun h => e (congrArg Prod.fst h))]
        have hd : (a != r) = true := by rw [bne_iff_ne]; exact e
        clear e
        go_enter Try.func21, Try.ntmps21
        go_wp2_with (go_at_call 25; refine HRF.out.mono ?_; rintro e w' ⟨rfl, rfl⟩)
        refine HOW.out.mono ?_
        rintro e w1 ⟨rfl, hb1⟩
        have HB1 := Lib.hid (Only.of (g := g) hb1)
        have HT1 := Lib.hid (HT.out.later hb1)
        clear hb1
        go_wp2_with fail
        go_ret
        exact ⟨rfl, HT1.out, HB1.out⟩
  · rw [if_neg h1] at HRF
    have HE : Hid (rel9 T r z = (1, T)) := Lib.hid (by unfold rel9; rw [if_pos h1])
    rw [HE.out]
    clear h1 HE
    go_enter Try.func21, Try.ntmps21
    go_wp2_with (go_at_call 25; refine HRF.out.mono ?_; rintro e w' ⟨rfl, rfl⟩)
    go_ret
    exact ⟨rfl, HT.out, Only.refl _ _⟩
end Lk
end Go.Proofs.Ytnbdgijppdiecaa
