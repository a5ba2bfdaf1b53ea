/-
  Layer 12: highest, next, Next, Len, All.
-/
import Derived.Test.YtgeahckblgpnmaaAgB
set_option linter.unusedVariables false
set_option maxRecDepth 100000
namespace Go.Proofs.Ytgeahckblgpnmaa
namespace Ag
open Go.RowKit Go.Maps Bk

set_option maxHeartbeats 4000000 in
theorem highest_any (A : Option Addr) (n cap : Nat) (L : List Wr) (w : World) (hL : Wg w.heap.size w A n cap L) (hn : n ≤ 1000000) :
    Calls Try.prog 32 #[.slice A n cap] w fun e w' => e = .returned (.int .i64 (hi L n)) ∧ Below w.heap.size w w' := by
  have HL := Lib.hid hL
  have hs := Gt.size hL
  have hs1 := hs.1
  have hs2 := hs.2
  have HH : Hid (hi L 0 = -1) := Lib.hid rfl
  clear hL hs
  go_enter Try.func32, Try.ntmps32
  go_wp2_with fail
  go_loopw [3, 8] (fun bv iv wr => ∃ j : Nat, iv = .int .i64 (j : Int) ∧ bv = .int .i64 (hi L j) ∧ j ≤ n ∧ Below w.heap.size w wr) (fun _ iv _ => n - (intOf iv).toNat)
  case atStart => exact ⟨0, rfl, by rw [HH.out], Nat.zero_le _, Below.refl _ _⟩
  case round =>
    rename World => wr
    obtain ⟨j, rfl, rfl, hj, hb⟩ := hrel
    have HB := Lib.hid hb
    clear hb
    by_cases hlj : j < n
    · have k1' : Wg wr.heap.size wr A n cap L := Gt.later HL.out HB.out
      obtain ⟨g1, o1, hA, hg1, k1, k2, k3⟩ := k1'.cell hlj
      have hjI : (j : Int) < (n : Int) := by omega
      have r := hi_rng L j
      obtain ⟨c0, c1, c2⟩ := box3_cells wr (wat L j).1 (wat L j).2.1 (wat L j).2.2
      have HA := Lib.hid ((Below.refl wr.heap.size wr).alloc (Nat.le_refl _) (.cells #[.int .i64 (wat L j).1, .int .i64 (wat L j).2.1, .int .i64 (wat L j).2.2] 46))
      have HN : Hid (hi L (j + 1) = if hi L j < 0 ∨ (wat L (hi L j).toNat).2.1 < (wat L j).2.1 then (j : Int) else hi L j) := Lib.hid rfl
      obtain ⟨i, hi'⟩ : ∃ i : Int, i = hi L j := ⟨_, rfl⟩
      rw [← hi'] at r HN ⊢
      by_cases h0 : i < 0
      · have d0 : decide (i < 0) = true := decide_eq_true h0
        have hE : hi L (j + 1) = (j : Int) := by rw [HN.out, if_pos (.inl h0)]
        have HE := Lib.hid hE
        clear hE HN hi' k1'
        subst hA
        generalize (wat L j).1 = x1 at *
        generalize (wat L j).2.1 = x2 at *
        generalize (wat L j).2.2 = x3 at *
        go_wp2_with fail
        generalize wr.alloc (.cells #[.int .i64 x1, .int .i64 x2, .int .i64 x3] 46) = w1 at *
        go_big_quiet (fail)
        go_wp2_with fail
        go_roundw
        case rel => exact ⟨j + 1, by go_num, by rw [HE.out], by omega, HB.out.trans ((HA.out.mono HB.out.size).trans (Bk.below_drewN _ _ _))⟩
        case measure => simp [intOf]; omega
      · have d0 : decide (i < 0) = false := decide_eq_false h0
        obtain ⟨m, rfl⟩ := Int.eq_ofNat_of_zero_le (show 0 ≤ i by omega)
        have hm : m < n := by omega
        obtain ⟨g2, o2, hA2, hg2, q1, q2, q3⟩ := k1'.cell hm
        rw [hA] at hA2
        obtain ⟨rfl, rfl⟩ : g1 = g2 ∧ o1 = o2 := by injection hA2 with e; injection e with e1 e2; exact ⟨e1, e2⟩
        have p2 := (HA.out.cell (p := ⟨g1, o1 + m * 3 + 1, none⟩) hg1).trans q2
        have hmI : (m : Int) < (n : Int) := by omega
        subst hA
        clear hA2 q1 q2 q3
        rw [Int.toNat_natCast] at HN
        by_cases h1 : (wat L m).2.1 < (wat L j).2.1
        · have d1 : decide ((wat L m).2.1 < (wat L j).2.1) = true := decide_eq_true h1
          have HE : Hid (hi L (j + 1) = (j : Int)) := Lib.hid (by rw [HN.out, if_pos (.inr h1)])
          clear HN hi' k1' h1
          generalize (wat L j).1 = x1 at *
          generalize (wat L j).2.1 = x2 at *
          generalize (wat L j).2.2 = x3 at *
          generalize (wat L m).2.1 = y at *
          go_wp2_with fail
          generalize wr.alloc (.cells #[.int .i64 x1, .int .i64 x2, .int .i64 x3] 46) = w1 at *
          go_big_quiet (fail)
          go_wp2_with fail
          go_roundw
          case rel => exact ⟨j + 1, by go_num, by rw [HE.out], by omega, HB.out.trans ((HA.out.mono HB.out.size).trans (Bk.below_drewN _ _ _))⟩
          case measure => simp [intOf]; omega
        · have d1 : decide ((wat L m).2.1 < (wat L j).2.1) = false := decide_eq_false h1
          have HE : Hid (hi L (j + 1) = (m : Int)) := Lib.hid (by rw [HN.out, if_neg (by rintro (q | q); exact h0 q; exact h1 q)])
          clear HN hi' k1' h1
          generalize (wat L j).1 = x1 at *
          generalize (wat L j).2.1 = x2 at *
          generalize (wat L j).2.2 = x3 at *
          generalize (wat L m).2.1 = y at *
          go_wp2_with fail
          generalize wr.alloc (.cells #[.int .i64 x1, .int .i64 x2, .int .i64 x3] 46) = w1 at *
          go_big_quiet (fail)
          go_wp2_with fail
          go_roundw
          case rel => exact ⟨j + 1, by go_num, by rw [HE.out], by omega, HB.out.trans ((HA.out.mono HB.out.size).trans (Bk.below_drewN _ _ _))⟩
          case measure => simp [intOf]; omega
    · obtain rfl : j = n := by omega
      go_wp2_with fail
      go_ret
      exact ⟨rfl, HB.out⟩
set_option maxHeartbeats 2000000 in
/-- Who goes next: the place. -/
theorem next_any {w : World} {base g : Nat} {v : Value} {s : Int} {d : Nat} {L : List Wr} (h : QAt w base g v s d L) : Calls Try.prog 23 #[.pointer (some ⟨g, 0, none⟩)] w fun e w' => e = .returned (.int .i64 (nx s L)) ∧ Below w.heap.size w w' := by
  obtain ⟨A, n, c, rfl, hn⟩ := h.form
  obtain ⟨c0, c1, c2, -, -⟩ := h.cells
  have hwg := h.own.wg.2
  have hlen : L.length ≤ 64 := h.ok.few
  have HW := Lib.hid (waiting_any c2)
  have HI := Lib.hid (index_due g A n c L (fun i => decide (due s (wat L i))) w hwg (by omega) (fun wx i hb hi => by
    have hx := wat_mem (L := L) (i := i) (by omega)
    exact due_any ((hb.cell (p := ⟨g, 0, none⟩) h.lt).trans c0) (Nat.lt_of_lt_of_le h.lt hb.size) (wat L i) (h.ok.prio _ hx) (h.ok.small hx)))
  have HH := Lib.hid (fun wx (hb : Below w.heap.size w wx) => highest_any A n c L wx (hwg.later hb) (by omega))
  have HW2 := Lib.hid (fun wx (hb : Below w.heap.size w wx) => waiting_any (w := wx) (g := g) ((hb.cell (p := ⟨g, 2, none⟩) h.lt).trans c2))
  have HN := Lib.hid hn
  have HE : Hid (∀ r : Int, FirstIs n (fun i => decide (due s (wat L i))) r → (0 ≤ r → r = nx s L) ∧ (r < 0 → hi L n = nx s L)) := Lib.hid (by
    rintro r (⟨k, rfl, h1, h2, h3⟩ | ⟨rfl, h1⟩)
    · refine ⟨fun _ => (nx_due (by omega) (of_decide_eq_true h2) (fun j hj => of_decide_eq_false (h3 j hj))).symm, fun h => by omega⟩
    · refine ⟨fun h => by omega, fun _ => ?_⟩
      rw [hn]
      exact (nx_hi (fun j hj => of_decide_eq_false (h1 j (by omega)))).symm)
  clear h hn c0 c1 c2 hwg hlen
  go_enter Try.func23, Try.ntmps23
  go_wp2_with fail
  refine HW.out.mono ?_
  rintro e w1 ⟨rfl, rfl⟩
  go_wp2_with fail
  refine HI.out.mono ?_
  rintro e w1 ⟨r, rfl, hr, hb⟩
  have HR := Lib.hid (HE.out r hr)
  have HB := Lib.hid hb
  clear hr hb HI
  by_cases h0 : 0 ≤ r
  · have d0 : decide (0 ≤ r) = true := decide_eq_true h0
    obtain rfl : r = nx s L := HR.out.1 h0
    go_wp2_with fail
    go_ret
    exact ⟨rfl, HB.out⟩
  · have d0 : decide (0 ≤ r) = false := decide_eq_false h0
    go_wp2_with fail
    refine (HW2.out w1 HB.out).mono ?_
    rintro e w2 ⟨rfl, rfl⟩
    go_wp2_with fail
    have HH2 := HH.out w1 HB.out
    rw [HR.out.2 (by omega)] at HH2
    refine HH2.mono ?_
    clear HH2
    rintro e w2 ⟨rfl, hb⟩
    have HB2 := Lib.hid (HB.out.trans (hb.mono HB.out.size))
    clear hb
    go_wp2_with fail
    go_ret
    exact ⟨rfl, HB2.out⟩
def nxV (s : Int) (L : List Wr) : Value := .tuple #[.int .i64 (nxN s L), .bool (nxB s L)]
set_option maxHeartbeats 1000000 in
/-- Next. -/
theorem Next_any {w : World} {base g : Nat} {v : Value} {s : Int} {d : Nat} {L : List Wr} (h : QAt w base g v s d L) : Calls Try.prog 18 #[.pointer (some ⟨g, 0, none⟩)] w fun e w' => e = .returned (nxV s L) ∧ Below w.heap.size w w' := by
  have HN := Lib.hid (next_any h)
  obtain ⟨A, n, c, rfl, hn⟩ := h.form
  have HQ := Lib.hid (fun wx (hb : Below w.heap.size w wx) => (h.later hb).cells.2.2.1)
  have HG := Lib.hid (fun wx (hb : Below w.heap.size w wx) => (h.own.wg).2.later hb)
  have r := nx_rng s L
  have HV : Hid (nxV s L = if nx s L < 0 then .tuple #[.int .i64 0, .bool false] else .tuple #[.int .i64 (wat L (nx s L).toNat).1, .bool true]) := Lib.hid (by
    unfold nxV nxN nxB
    split
    · rename_i q; simp [q]
    · rename_i q; simp [q])
  rw [HV.out]
  clear h HV
  obtain ⟨i, hi⟩ : ∃ i : Int, i = nx s L := ⟨_, rfl⟩
  rw [← hi] at r HN ⊢
  clear hi
  by_cases h0 : i < 0
  · have d0 : decide (i < 0) = true := decide_eq_true h0
    rw [if_pos h0]
    go_enter Try.func18, Try.ntmps18
    go_wp2_with fail
    refine HN.out.mono ?_
    rintro e w1 ⟨rfl, hb⟩
    have HB := Lib.hid hb
    clear hb HN
    go_wp2_with fail
    go_ret2
    exact ⟨rfl, HB.out⟩
  · have d0 : decide (i < 0) = false := decide_eq_false h0
    rw [if_neg h0]
    obtain ⟨m, rfl⟩ := Int.eq_ofNat_of_zero_le (show 0 ≤ i by omega)
    have hm : m < n := by omega
    have hmI : (m : Int) < (n : Int) := by omega
    have HX : Hid (n = L.length) := Lib.hid hn
    rw [Int.toNat_natCast]
    obtain ⟨x, hx⟩ : ∃ x, x = (wat L m).1 := ⟨_, rfl⟩
    rw [← hx]
    have HXX := Lib.hid hx
    clear hn r hx
    go_enter Try.func18, Try.ntmps18
    go_wp2_with fail
    refine HN.out.mono ?_
    rintro e w1 ⟨rfl, hb⟩
    have HB := Lib.hid hb
    clear hb HN
    have hs := Gt.size (HG.out w1 HB.out)
    have hs1 := hs.1
    have hs2 := hs.2
    obtain ⟨g1, o1, rfl, -, k1, -, -⟩ := (HG.out w1 HB.out).cell hm
    have q2 := HQ.out w1 HB.out
    rw [← HXX.out] at k1
    clear hs
    go_wp2_with fail
    go_ret2
    exact ⟨rfl, HB.out⟩
theorem Len_any {w : World} {base g : Nat} {v : Value} {s : Int} {d : Nat} {L : List Wr} (h : QAt w base g v s d L) : Calls Try.prog 20 #[.pointer (some ⟨g, 0, none⟩)] w fun e w' => e = .returned (.int .i64 (L.length : Int)) ∧ w = w' := by
  obtain ⟨A, n, c, rfl, hn⟩ := h.form
  have HW := Lib.hid (waiting_any h.cells.2.2.1)
  have hs := Gt.size (h.own.wg).2
  have hs1 := hs.1
  have hs2 := hs.2
  rw [← hn]
  clear h hs hn
  go_enter Try.func20, Try.ntmps20
  go_wp2_with fail
  refine HW.out.mono ?_
  rintro e w1 ⟨rfl, rfl⟩
  go_wp2_with fail
  go_ret
  exact ⟨rfl, rfl⟩
/-- A list of one's own is told. -/
def ListTold (L : List Wr) (w : World) (e : Ending) (w' : World) : Prop := ∃ A n c, e = .returned (.slice A n c) ∧ n = L.length ∧ Ww w' w.heap.size (.slice A n c) L ∧ Below w.heap.size w w'
theorem clone_any (A : Option Addr) (n cap : Nat) (L : List Wr) (w : World) (h : Wg w.heap.size w A n cap L) (hn : n ≤ 100000) :
    Calls Try.prog 30 #[.slice A n cap] w (ListTold L w) := by
  have HL := Lib.hid h
  have q22 : ∀ (w : World) (a : Option Addr) (n c n' c' : Nat), (binOp .eql 29 (.slice a n c) (.slice none n' c')).run Try.prog w = .ok (.bool a.isNone) w := fun w a n c n' c' => Lib.run_eql_slice_nil w _ _ a n c n' c' Try.underlying29
  cases A with
  | none =>
    have hc0 := h.nil rfl
    have hm0 : n = 0 := by have := h.le; omega
    subst hm0 hc0
    obtain rfl : L = [] := List.eq_nil_of_length_eq_zero h.len
    clear h
    go_enter Try.func30, Try.ntmps30
    go_wp2_with fail
    go_ret
    exact ⟨none, 0, 0, rfl, rfl, Ww.nil _ _, Below.refl _ _⟩
  | some ad =>
    have hs := Gt.size h
    have hs1 := hs.1
    have hs2 := hs.2
    have HE := Lib.hid (Ww.empty w w.heap.size (Nat.le_refl _))
    have HA := Lib.hid ((Below.refl w.heap.size w).alloc (Nat.le_refl _) (.cells #[] 46))
    clear h hs
    go_enter Try.func30, Try.ntmps30
    go_wp2_with (at_builtin; refine app_waits rfl _ _ rfl w.heap.size _ [] rfl HE.out (some ad) n cap L rfl (HL.out.later HA.out) (by simp; omega) (by simp) ?_; intro A' n' c' w3 hn3 ho3 hb3 _ _; have HN3 := Lib.hid hn3; have HO3 := Lib.hid ho3; have HB3 := Lib.hid (HA.out.trans hb3); clear ho3 hb3 hn3)
    go_ret
    refine ⟨A', n', c', rfl, ?_, ?_, HB3.out⟩
    · have := HN3.out; rwa [List.nil_append] at this
    · have := HO3.out; rwa [List.nil_append] at this
theorem All_any {w : World} {base g : Nat} {v : Value} {s : Int} {d : Nat} {L : List Wr} (h : QAt w base g v s d L) : Calls Try.prog 22 #[.pointer (some ⟨g, 0, none⟩)] w (ListTold L w) := by
  obtain ⟨A, n, c, rfl, hn⟩ := h.form
  have HW := Lib.hid (waiting_any h.cells.2.2.1)
  have HC := Lib.hid (clone_any A n c L w (h.own.wg).2 (by have := h.ok.few; omega))
  clear h hn
  go_enter Try.func22, Try.ntmps22
  go_wp2_with fail
  refine HW.out.mono ?_
  rintro e w1 ⟨rfl, rfl⟩
  go_wp2_with fail
  refine HC.out.mono ?_
  rintro e w1 ⟨A', n', c', rfl, h1, h2, h3⟩
  have HK := Lib.hid (And.intro h1 (And.intro h2 h3))
  clear h1 h2 h3
  go_wp2_with fail
  go_ret
  exact ⟨A', n', c', rfl, HK.out.1, HK.out.2.1, HK.out.2.2⟩
end Ag
end Go.Proofs.Ytgeahckblgpnmaa
