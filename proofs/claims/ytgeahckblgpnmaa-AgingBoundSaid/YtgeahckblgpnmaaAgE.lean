/-
  Layer 12: leave, Take, Drop.
-/
import Derived.Test.YtgeahckblgpnmaaAgD
set_option linter.unusedVariables false
set_option maxRecDepth 100000
namespace Go.Proofs.Ytgeahckblgpnmaa
namespace Ag
open Go.RowKit Go.Maps Bk

theorem ActTold.lift {a : Value} {base g : Nat} {v v1 : Value} {s : Int} {d : Nat} {L : List Wr} {w w1 : World} {e : Ending} {w' : World} (ht : Turn (QF g v) (QF g v1) w w1) (h : ActTold a base g v1 s d L w1 e w') : ActTold a base g v s d L w e w' := by
  obtain ⟨v', h1, h2, h3⟩ := h
  exact ⟨v', h1, h2, ht.trans h3⟩
set_option maxHeartbeats 2000000 in
theorem leave_any {w : World} {base g : Nat} {v : Value} {s : Int} {d : Nat} {L : List Wr} (h : QAt w base g v s d L) (i : Nat) (hi : i < L.length) :
    Calls Try.prog 24 #[.pointer (some ⟨g, 0, none⟩), .int .i64 (i : Int)] w (ActTold (.tuple #[]) base g v s d (out i L) w) := by
  obtain ⟨A, n, c, rfl, hn⟩ := h.form
  obtain ⟨c0, c1, c2, f1, f2⟩ := h.cells
  have hf := h.ok.few
  have HD := Lib.hid (delete_one base A n c L i w h.own hi (by omega))
  have HQ := Lib.hid h
  have hi1 : (i : Int) < 64 := by omega
  have k2 : ∀ w3, w.grownBy w3 (Value.slice A n c).ownBlock → w3.frozen? ⟨g, 2, none⟩ = false ∧ (∃ u, w3.cell? ⟨g, 2, none⟩ = some u) ∧ w3.heap[g]? = w.heap[g]? := fun w3 hg => by
    have hb : w3.heap[g]? = w.heap[g]? := hg.block g h.lt (fun e => h.apart e.symm)
    have hbx := hb.trans h.box
    exact ⟨frozen_of_row w3 g 2 _ _ hbx, ⟨_, cell_of_row w3 g 2 _ _ _ hbx⟩, hb⟩
  have HK2 := Lib.hid k2
  have HI := Lib.hid hi
  clear h hn hf k2 hi
  go_enter Try.func24, Try.ntmps24
  go_wp2_with fail
  refine HD.out.mono ?_
  rintro e w3 ⟨rfl, ho, hg⟩
  obtain ⟨kf, ⟨ku, kc⟩, -⟩ := HK2.out w3 hg
  have HO := Lib.hid ho
  have HG := Lib.hid hg
  clear ho hg HD
  go_wp2_with fail
  go_end0
  have hb3 := (HK2.out w3 HG.out).2.2
  have hq := HQ.out.turned HO.out (HQ.out.ok.sub (out_sub _ _)) hb3 rfl
  refine ⟨_, rfl, hq, ?_⟩
  have t3 : Turn (QF g (.slice A n c)) (QF g (.slice A n c)) w w3 := Turn.grown HG.out (fun k hk => .inr hk)
  refine (t3.put (b := g) (o := 2) (.slice A (out i L).length c) (.inl rfl)).sub ?_
  rintro k (rfl | hk)
  · exact .inl (.inl rfl)
  · refine .inl (.inr ?_)
    rw [← hk]
    cases A <;> rfl
/-- One of them is bypassed once more. -/
theorem QAt.bumped {w : World} {base g g1 n c : Nat} {s : Int} {d : Nat} {L : List Wr} (h : QAt w base g (.slice (some ⟨g1, 0, none⟩) n c) s d L) {i : Nat} (hi : i < L.length) (b : Int) (ok : Qi s d (L.set i ((wat L i).1, (wat L i).2.1, b))) :
    QAt (w.setCell ⟨g1, i * 3 + 2, none⟩ (.int .i64 b)) base g (.slice (some ⟨g1, 0, none⟩) n c) s d (L.set i ((wat L i).1, (wat L i).2.1, b)) := by
  have hne : g1 ≠ g := fun e => h.apart (by rw [← e]; rfl)
  exact ⟨(Below.heap_setCell _ _ _ _ (fun e => hne e.symm)).trans h.box, h.own.put hi b, h.lo, ok⟩
set_option maxHeartbeats 4000000 in
theorem Take_any {w : World} {base g : Nat} {v : Value} {s : Int} {d : Nat} {L : List Wr} (h : QAt w base g v s d L) :
    Calls Try.prog 14 #[.pointer (some ⟨g, 0, none⟩)] w (ActTold (nxV s L) base g v s d (tkL s L) w) := by
  have HN := Lib.hid (next_any h)
  have r := nx_rng s L
  have HV : Hid (nxV s L = if nx s L < 0 then .tuple #[.int .i64 0, .bool false] else .tuple #[.int .i64 (wat L (nx s L).toNat).1, .bool true]) := Lib.hid (by
    unfold nxV nxN nxB
    split
    · rename_i q; simp [q]
    · rename_i q; simp [q])
  have HTK : Hid (tkL s L = if nx s L < 0 then L else out (nx s L).toNat (bump (nx s L).toNat L)) := Lib.hid rfl
  have HND := Lib.hid (fun (j : Nat) (hj : (j : Int) < nx s L) => nx_nd hj)
  rw [HV.out, HTK.out]
  have HQ := Lib.hid h
  obtain ⟨i, hi⟩ : ∃ i : Int, i = nx s L := ⟨_, rfl⟩
  rw [← hi] at r HN HND ⊢
  clear hi HV HTK
  by_cases h0 : i < 0
  · have d0 : decide (i < 0) = true := decide_eq_true h0
    rw [if_pos h0, if_pos h0]
    clear h
    go_enter Try.func14, Try.ntmps14
    go_wp2_with fail
    refine HN.out.mono ?_
    rintro e w1 ⟨rfl, hb⟩
    have HB := Lib.hid hb
    clear hb HN
    go_wp2_with fail
    go_ret2
    exact ⟨v, rfl, HQ.out.later HB.out, Turn.ofBelow HB.out _⟩
  · have d0 : decide (i < 0) = false := decide_eq_false h0
    rw [if_neg h0, if_neg h0]
    obtain ⟨m, rfl⟩ := Int.eq_ofNat_of_zero_le (show 0 ≤ i by omega)
    rw [Int.toNat_natCast]
    have hne : L ≠ [] := by
      intro e
      have q := r.2.1
      rw [e, List.length_nil] at q
      omega
    obtain ⟨A, n, c, rfl, hn⟩ := h.form
    obtain ⟨g1, rfl⟩ := h.own.some hne
    have hm : m < n := by omega
    have hmI : (m : Int) < (n : Int) := by omega
    have hf : n ≤ 64 := by rw [hn]; exact h.ok.few
    have hs := Gt.size (h.own.wg).2
    have hs1 := hs.1
    have hs2 := hs.2
    have HX : Hid (n = L.length) := Lib.hid hn
    have HG := Lib.hid (fun wx (hb : Below w.heap.size w wx) => (h.own.wg).2.later hb)
    obtain ⟨x, hx⟩ : ∃ x, x = (wat L m).1 := ⟨_, rfl⟩
    rw [← hx]
    have HXX := Lib.hid hx
    clear hn r hx h hs hne
    go_enter Try.func14, Try.ntmps14
    go_wp2_with fail
    refine HN.out.mono ?_
    rintro e w1 ⟨rfl, hb⟩
    have HQ1 := Lib.hid (HQ.out.later hb)
    have HT1 := Lib.hid (Turn.ofBelow hb (QF g (.slice (some ⟨g1, 0, none⟩) n c)))
    obtain ⟨g2, o2, e2, -, k1, -, -⟩ := (HG.out w1 hb).cell hm
    obtain ⟨rfl, rfl⟩ : g1 = g2 ∧ 0 = o2 := by injection e2 with e; injection e with e1 e2; exact ⟨e1, e2⟩
    have q2 := HQ1.out.cells.2.2.1
    rw [← HXX.out] at k1
    rw [Nat.zero_add] at k1
    clear hb HN HG e2
    go_wp2_with fail
    go_loopw [6, 20] (fun _ iv wr => ∃ j : Nat, iv = .int .i64 (j : Int) ∧ j ≤ m ∧ QAt wr base g (.slice (some ⟨g1, 0, none⟩) n c) s d (bump j L) ∧ Hid (Turn (QF g (.slice (some ⟨g1, 0, none⟩) n c)) (QF g (.slice (some ⟨g1, 0, none⟩) n c)) w wr)) (fun _ iv _ => m - (intOf iv).toNat)
    case atStart => exact ⟨0, rfl, Nat.zero_le _, by rw [bump_zero]; exact HQ1.out, HT1⟩
    case round =>
      rename World => wr
      obtain ⟨j, rfl, hj, hq, HT⟩ := hrel
      have HQr := Lib.hid hq
      clear k1 q2
      by_cases hlj : j < m
      · have hjI : (j : Int) < (m : Int) := by omega
        have hjn : (j : Int) < (n : Int) := by omega
        have hl : (bump j L).length = n := by rw [bump_len]; exact HX.out.symm
        obtain ⟨-, -, q2, -, -⟩ := hq.cells
        obtain ⟨g2, o2, e2, -, -, k2, k3⟩ := ((hq.own.wg).2).cell (j := j) (by omega)
        obtain ⟨rfl, rfl⟩ : g1 = g2 ∧ 0 = o2 := by injection e2 with e; injection e with e1 e2; exact ⟨e1, e2⟩
        have hwt : wat (bump j L) j = wat L j := by rw [bump_get (by have := HX.out; omega), if_neg (by omega)]
        have hok : Qi s d (bump (j + 1) L) := HQ.out.ok.bump (fun t ht => HND.out t (by omega))
        have hst : bump (j + 1) L = (bump j L).set j ((wat (bump j L) j).1, (wat (bump j L) j).2.1, (wat L j).2.2 + 1) := by rw [bump_succ (by have := HX.out; omega), hwt]; rfl
        have hq' := hq.bumped (i := j) (by omega) ((wat L j).2.2 + 1) (by rw [← hst]; exact hok)
        rw [← hst] at hq'
        have HQ' := Lib.hid hq'
        have HT' := Lib.hid (HT.out.put (b := g1) (o := j * 3 + 2) (.int .i64 ((wat L j).2.2 + 1)) (.inr rfl))
        have hbx := hq.own.bx
        obtain ⟨-, X, hX, -⟩ := hbx
        have kf := (hX.cell (j * 3 + 2)).2
        rw [Nat.zero_add, hwt] at k3
        have hby := HQ.out.ok.byp (wat L j) (wat_mem (by rw [← HX.out]; omega))
        have hbs := HQ.out.ok.small (x := wat L j) (wat_mem (by rw [← HX.out]; omega))
        have hb1 := hby.1
        have hb2 : (wat L j).2.2 ≤ 5000 := by omega
        clear hq hl e2 k2 hwt hok hst hq' hX hby hbs
        generalize (wat L j).2.2 = y at *
        go_wp2_with fail
        go_roundw
        case rel => exact ⟨j + 1, by go_num, by omega, HQ'.out, HT'⟩
        case measure => simp [intOf]; omega
      · obtain rfl : j = m := by omega
        clear hq hlj
        have HL := Lib.hid (leave_any HQr.out j (by rw [bump_len, ← HX.out]; exact hm))
        go_wp2_with fail
        refine HL.out.mono ?_
        intro e w2 h2
        obtain ⟨v', rfl, h3, h4⟩ := h2
        have HE := Lib.hid (And.intro h3 (HT.out.trans h4))
        clear h3 h4 HL
        go_wp2_with fail
        go_ret2
        exact ⟨v', rfl, HE.out.1, HE.out.2⟩
set_option maxHeartbeats 2000000 in
theorem Drop_any {w : World} {base g : Nat} {v : Value} {s : Int} {d : Nat} {L : List Wr} (h : QAt w base g v s d L) (i : Int) :
    Calls Try.prog 16 #[.pointer (some ⟨g, 0, none⟩), .int .i64 i] w (ActTold (.bool (drB i L)) base g v s d (drL i L) w) := by
  obtain ⟨A, n, c, rfl, hn⟩ := h.form
  have hb1 : Below w.heap.size w (w.alloc (.cells #[.int .i64 i] 3)) := (Below.refl _ _).alloc (Nat.le_refl _) _
  have ck : (w.alloc (.cells #[.int .i64 i] 3)).cell? ⟨w.heap.size, 0, none⟩ = some (.int .i64 i) := by simp [World.cell?_alloc_new]
  have hz1 : (w.alloc (.cells #[.int .i64 i] 3)).heap.size = w.heap.size + 1 := by simp
  obtain ⟨w1, hw1⟩ : ∃ w1, w1 = w.alloc (.cells #[.int .i64 i] 3) := ⟨_, rfl⟩
  rw [← hw1] at hb1 ck hz1
  have hq := h.later hb1
  have HW := Lib.hid (waiting_any hq.cells.2.2.1)
  have hlen := h.ok.few
  have HI := Lib.hid (index_id w.heap.size A n c L (fun j => (wat L j).1 == i) w1 (hq.own.wg).2 (by omega) (fun wx j hb hj => is_any ((hb.cell (p := ⟨w.heap.size, 0, none⟩) (by show w.heap.size < w1.heap.size; omega)).trans ck) (by have := hb.size; omega) (wat L j)))
  have HE : Hid (∀ r : Int, FirstIs n (fun j => (wat L j).1 == i) r → r = pl i L) := Lib.hid (by
    rintro r (⟨k, rfl, h1, h2, h3⟩ | ⟨rfl, h1⟩)
    · exact (pl_some (by omega) (by simpa using h2) (fun j hj => by simpa using h3 j hj)).symm
    · exact (pl_none (fun j hj => by simpa using h1 j (by omega))).symm)
  have HQ := Lib.hid hq
  have HT := Lib.hid (Turn.ofBelow hb1 (QF g (.slice A n c)))
  have HB : Hid (drB i L = !decide (pl i L < 0)) := Lib.hid rfl
  have HL : Hid (drL i L = if pl i L < 0 then L else out (pl i L).toNat L) := Lib.hid rfl
  have hp : pl i L < L.length ∧ (0 ≤ pl i L ∨ pl i L = -1) := by
    rcases pl_cases i L with ⟨k, h1, h2, _⟩ | ⟨_, h1⟩
    · exact ⟨by omega, .inl (by omega)⟩
    · exact ⟨by omega, .inr h1⟩
  rw [HB.out, HL.out]
  clear HB HL
  obtain ⟨r, hr⟩ : ∃ r : Int, r = pl i L := ⟨_, rfl⟩
  rw [← hr] at HE hp ⊢
  clear hr h hb1 ck hz1 hq hn hlen
  by_cases h0 : r < 0
  · have d0 : decide (r < 0) = true := decide_eq_true h0
    rw [if_pos h0, d0]
    go_enter Try.func16, Try.ntmps16
    go_wp2_with fail
    rw [← hw1]
    refine HW.out.mono ?_
    rintro e w2 ⟨rfl, rfl⟩
    go_wp2_with fail
    rw [← hw1]
    refine HI.out.mono ?_
    rintro e w2 ⟨r', rfl, hr, hb⟩
    obtain rfl := HE.out r' hr
    have HQ2 := Lib.hid (HQ.out.later hb)
    have HT2 := Lib.hid (HT.out.trans (Turn.ofBelow hb _))
    clear hr hb HI HW
    go_wp2_with fail
    go_ret
    exact ⟨_, rfl, HQ2.out, HT2.out⟩
  · have d0 : decide (r < 0) = false := decide_eq_false h0
    rw [if_neg h0, d0]
    obtain ⟨m, rfl⟩ := Int.eq_ofNat_of_zero_le (show 0 ≤ r by omega)
    rw [Int.toNat_natCast]
    have HM : Hid (m < L.length) := Lib.hid (by omega)
    clear hp
    go_enter Try.func16, Try.ntmps16
    go_wp2_with fail
    rw [← hw1]
    refine HW.out.mono ?_
    rintro e w2 ⟨rfl, rfl⟩
    go_wp2_with fail
    rw [← hw1]
    refine HI.out.mono ?_
    rintro e w2 ⟨r', rfl, hr, hb⟩
    obtain rfl := HE.out r' hr
    have HQ2 := Lib.hid (HQ.out.later hb)
    have HT2 := Lib.hid (HT.out.trans (Turn.ofBelow hb _))
    clear hr hb HI HW
    go_wp2_with fail
    refine (leave_any HQ2.out m HM.out).mono ?_
    intro e w3 h3
    have HE3 := Lib.hid (ActTold.lift HT2.out h3)
    obtain ⟨v', rfl, -, -⟩ := h3
    go_wp2_with fail
    go_ret
    obtain ⟨v', -, h4, h5⟩ := HE3.out
    exact ⟨v', rfl, h4, h5⟩
end Ag
end Go.Proofs.Ytgeahckblgpnmaa
