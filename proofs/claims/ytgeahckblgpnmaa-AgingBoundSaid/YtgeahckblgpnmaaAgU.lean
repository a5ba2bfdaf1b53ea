/-
  Layer 12: the document's queue: Take, Drop.
-/
import Derived.Test.YtgeahckblgpnmaaAgT
set_option linter.unusedVariables false
set_option maxRecDepth 100000
namespace Go.Proofs.Ytgeahckblgpnmaa
namespace Ag
open Go.RowKit Go.Maps Bk

set_option maxHeartbeats 4000000 in
theorem rTake_any {w : World} {base g : Nat} {v : Value} {s : Int} {d : Nat} {L : List Wr} (h : RQ w base g v s d L) (hbw : base ≤ w.heap.size) :
    Calls Try.prog 15 #[.pointer (some ⟨g, 0, none⟩)] w (RTold (nxV s L) base g v s d (tkL s L) w) := by
  have HN := Lib.hid (rNext_any h)
  have HN2 := Lib.hid (fun wx (hb : Below w.heap.size w wx) => rnext_any (h.later hb))
  have r := nx_rng s L
  have HV : Hid (nxV s L = if nx s L < 0 then .tuple #[.int .i64 0, .bool false] else .tuple #[.int .i64 (wat L (nx s L).toNat).1, .bool true]) := Lib.hid (by
    unfold nxV nxN nxB
    split
    · rename_i q; simp [q]
    · rename_i q; simp [q])
  have HTK : Hid (tkL s L = if nx s L < 0 then L else out (nx s L).toNat (bump (nx s L).toNat L)) := Lib.hid rfl
  have HND := Lib.hid (fun (j : Nat) (hj : (j : Int) < nx s L) => nx_nd hj)
  rw [HV.out] at HN ⊢
  rw [HTK.out]
  have HQ := Lib.hid h
  obtain ⟨i, hi⟩ : ∃ i : Int, i = nx s L := ⟨_, rfl⟩
  rw [← hi] at r HN HN2 HND ⊢
  clear hi HV HTK
  by_cases h0 : i < 0
  · rw [if_pos h0, if_pos h0]
    rw [if_pos h0] at HN
    clear h
    go_enter Try.func15, Try.ntmps15
    go_wp2_with fail
    refine HN.out.mono ?_
    rintro e w1 ⟨rfl, hb⟩
    have HB := Lib.hid hb
    clear hb HN
    go_wp2_with fail
    go_ret2
    exact ⟨v, rfl, HQ.out.later HB.out, Turn.ofBelow HB.out _⟩
  · rw [if_neg h0, if_neg h0]
    rw [if_neg h0] at HN
    obtain ⟨m, rfl⟩ := Int.eq_ofNat_of_zero_le (show 0 ≤ i by omega)
    rw [Int.toNat_natCast] at HN ⊢
    have hne : L ≠ [] := by
      intro e
      have q := r.2.1
      rw [e, List.length_nil] at q
      omega
    obtain ⟨A, n, c, rfl, hn⟩ := h.form
    obtain ⟨g1, rfl⟩ := h.own.some hne
    have hm : m < n := by omega
    have hmI : (m : Int) < (n : Int) := by omega
    have hf : n ≤ 64 := by rw [hn]; exact h.ok.few
    have hs := Gt.size (h.own.wg).2
    have hs1 := hs.1
    have hs2 := hs.2
    have HX : Hid (n = L.length) := Lib.hid hn
    have HLO := Lib.hid hbw
    obtain ⟨x, hx⟩ : ∃ x, x = (wat L m).1 := ⟨_, rfl⟩
    rw [← hx] at HN ⊢
    clear hn r hx h hs hne
    go_enter Try.func15, Try.ntmps15
    go_wp2_with fail
    refine HN.out.mono ?_
    rintro e w0 ⟨rfl, hb0⟩
    have HB0 := Lib.hid hb0
    clear hb0 HN
    go_wp2_with fail
    refine (HN2.out w0 HB0.out).mono ?_
    rintro e w1 ⟨rfl, hb⟩
    have hb := HB0.out.trans (hb.mono HB0.out.size)
    have HQ1 := Lib.hid (HQ.out.later hb)
    have HT1 := Lib.hid (Turn.ofBelow hb (QF g (.slice (some ⟨g1, 0, none⟩) n c)))
    clear hb HN2 HB0
    go_wp2_with fail
    go_loopw [7] (fun iv wr => ∃ j : Nat, iv = .int .i64 (j : Int) ∧ j ≤ m ∧ RQ wr base g (.slice (some ⟨g1, 0, none⟩) n c) s d (bump j L) ∧ Hid (Turn (QF g (.slice (some ⟨g1, 0, none⟩) n c)) (QF g (.slice (some ⟨g1, 0, none⟩) n c)) w wr)) (fun iv _ => m - (intOf iv).toNat)
    case atStart => exact ⟨0, rfl, Nat.zero_le _, by rw [bump_zero]; exact HQ1.out, HT1⟩
    case round =>
      rename World => wr
      obtain ⟨j, rfl, hj, hq, HT⟩ := hrel
      have HQr := Lib.hid hq
      by_cases hlj : j < m
      · have hjI : (j : Int) < (m : Int) := by omega
        have hjn : (j : Int) < (n : Int) := by omega
        have hl : (bump j L).length = n := by rw [bump_len]; exact HX.out.symm
        obtain ⟨q2, -, -, -, -⟩ := hq.cells
        obtain ⟨g2, o2, e2, -, -, k2, k3⟩ := ((hq.own.wg).2).cell (j := j) (by omega)
        obtain ⟨rfl, rfl⟩ : g1 = g2 ∧ 0 = o2 := by injection e2 with e; injection e with e1 e2; exact ⟨e1, e2⟩
        have hwt : wat (bump j L) j = wat L j := by rw [bump_get (by have := HX.out; omega), if_neg (by omega)]
        have hok : Qi s d (bump (j + 1) L) := HQ.out.ok.bump (fun t ht => HND.out t (by omega))
        have hst : bump (j + 1) L = (bump j L).set j ((wat (bump j L) j).1, (wat (bump j L) j).2.1, (wat L j).2.2 + 1) := by rw [bump_succ (by have := HX.out; omega), hwt]; rfl
        have hq' := hq.bumped (i := j) (by omega) ((wat L j).2.2 + 1) (by rw [← hst]; exact hok)
        rw [← hst] at hq'
        have HQ' := Lib.hid hq'
        have HT' := Lib.hid (HT.out.put (b := g1) (o := j * 3 + 2) (.int .i64 ((wat L j).2.2 + 1)) (.inr rfl))
        have hbx := hq.own.bx
        obtain ⟨-, X, hX, -⟩ := hbx
        have kf := (hX.cell (j * 3 + 2)).2
        rw [Nat.zero_add, hwt] at k3
        have hby := HQ.out.ok.byp (wat L j) (wat_mem (by rw [← HX.out]; omega))
        have hbs := HQ.out.ok.small (x := wat L j) (wat_mem (by rw [← HX.out]; omega))
        have hb1 := hby.1
        have hb2 : (wat L j).2.2 ≤ 5000 := by omega
        clear hq hl e2 k2 hwt hok hst hq' hX hby hbs
        generalize (wat L j).2.2 = y at *
        go_wp2_with fail
        go_roundw
        case rel => exact ⟨j + 1, by go_num, by omega, HQ'.out, HT'⟩
        case measure => simp [intOf]; omega
      · obtain rfl : j = m := by omega
        clear hq hlj
        have HL := Lib.hid (rout_any HQr.out j (by rw [bump_len, ← HX.out]; exact hm) (Nat.le_trans HLO.out HT.out.size))
        go_wp2_with fail
        refine HL.out.mono ?_
        intro e w2 h2
        obtain ⟨v', rfl, h3, h4⟩ := h2
        have HE := Lib.hid (And.intro h3 (HT.out.trans h4))
        clear h3 h4 HL
        go_wp2_with fail
        go_ret2
        exact ⟨v', rfl, HE.out.1, HE.out.2⟩
set_option maxHeartbeats 4000000 in
theorem rDrop_any {w : World} {base g : Nat} {v : Value} {s : Int} {d : Nat} {L : List Wr} (h : RQ w base g v s d L) (hbw : base ≤ w.heap.size) (x : Int) :
    Calls Try.prog 17 #[.pointer (some ⟨g, 0, none⟩), .int .i64 x] w (RTold (.bool (drB x L)) base g v s d (drL x L) w) := by
  obtain ⟨A, n, c, rfl, hn⟩ := h.form
  have HQ := Lib.hid h
  have HN := Lib.hid hn
  have HLO := Lib.hid hbw
  have hs := Gt.size (h.own.wg).2
  have hs1 := hs.1
  have hs2 := hs.2
  have HP1 : Hid (∀ k : Nat, k < L.length → (wat L k).1 = x → (∀ j, j < k → (wat L j).1 ≠ x) → drB x L = true ∧ drL x L = out k L) := Lib.hid (fun k h1 h2 h3 => by
    have e := pl_some h1 h2 h3
    unfold drB drL
    rw [e]
    refine ⟨by simp, by rw [if_neg (by omega), Int.toNat_natCast]⟩)
  have HP2 : Hid ((∀ j, j < L.length → (wat L j).1 ≠ x) → drB x L = false ∧ drL x L = L) := Lib.hid (fun h1 => by
    have e := pl_none h1
    unfold drB drL
    rw [e]
    exact ⟨by simp, by rw [if_pos (by omega)]⟩)
  generalize drB x L = B at *
  generalize drL x L = M at *
  clear h hn hs
  go_enter Try.func17, Try.ntmps17
  go_wp2_with fail
  go_loopw [5] (fun iv wr => ∃ j : Nat, iv = .int .i64 (j : Int) ∧ j ≤ n ∧ Hid (∀ t, t < j → (wat L t).1 ≠ x) ∧ w = wr) (fun iv _ => n - (intOf iv).toNat)
  case atStart => exact ⟨0, rfl, Nat.zero_le _, Lib.hid (fun t ht => by omega), rfl⟩
  case round =>
    rename World => wr
    obtain ⟨j, rfl, hj, HD, rfl⟩ := hrel
    obtain ⟨q0, -, -, -, -⟩ := HQ.out.cells
    by_cases hlj : j < n
    · obtain ⟨g1, o1, rfl, -, k1, k2, k3⟩ := (HQ.out.own.wg.2).cell hlj
      have hjI : (j : Int) < (n : Int) := by omega
      by_cases he : (wat L j).1 = x
      · have dE : ((wat L j).1 == x) = true := by simp [he]
        obtain ⟨rfl, rfl⟩ := HP1.out j (by rw [← HN.out]; exact hlj) he HD.out
        have HL := Lib.hid (rout_any HQ.out j (by rw [← HN.out]; exact hlj) HLO.out)
        clear he k2 k3
        generalize (wat L j).1 = y at *
        go_wp2_with fail
        refine HL.out.mono ?_
        intro e w2 h2
        obtain ⟨v', rfl, h3, h4⟩ := h2
        have HE := Lib.hid (And.intro h3 h4)
        clear h3 h4 HL
        go_wp2_with fail
        go_ret
        exact ⟨v', rfl, HE.out.1, HE.out.2⟩
      · have dE : ((wat L j).1 == x) = false := by simp [he]
        have HD' : Hid (∀ t, t < j + 1 → (wat L t).1 ≠ x) := Lib.hid (fun t ht => by
          rcases Nat.lt_or_ge t j with q | q
          · exact HD.out t q
          · obtain rfl : t = j := by omega
            exact he)
        clear he k2 k3
        generalize (wat L j).1 = y at *
        go_wp2_with fail
        go_roundw
        case rel => first | exact ⟨j + 1, by go_num, by omega, HD', rfl⟩ | ((repeat apply Exists.intro); exact ⟨⟨j + 1, by go_num, by omega, HD', rfl⟩, rfl⟩) | exact ⟨j + 1, by go_num, by omega, HD', trivial⟩
        case measure => simp [intOf]; omega
    · obtain rfl : j = n := by omega
      obtain ⟨rfl, rfl⟩ := HP2.out (fun t ht => HD.out t (by rw [HN.out]; exact ht))
      go_wp2_with fail
      go_ret
      exact ⟨_, rfl, HQ.out, Turn.refl _ _⟩
end Ag
end Go.Proofs.Ytgeahckblgpnmaa
