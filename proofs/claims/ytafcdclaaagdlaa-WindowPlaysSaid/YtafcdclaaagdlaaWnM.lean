/-
  Layer 6: Forget.
-/
import Derived.Test.YtafcdclaaagdlaaWnL
set_option linter.unusedVariables false
set_option maxRecDepth 100000
namespace Go.Proofs.Ytafcdclaaagdlaa.Wn
open Go.RowKit Go.Maps

/-- What ends behind a moment. -/
def fg (L : List (Int × Int)) (m : Int) : List (Int × Int) := L.drop (plc L m)
theorem fg_ne {L : List (Int × Int)} {m : Int} (h : fg L m ≠ []) : L ≠ [] := fun e => h (by rw [e]; rfl)
/-- The windows while the loop runs. -/
def FT (T : Int → List (Int × Int)) (m : Int) (left : Lit → Bool) (y : Int) : List (Int × Int) := if left (kI y) = true then T y else fg (T y) m
theorem FT_ne {T : Int → List (Int × Int)} {m : Int} {left : Lit → Bool} {y : Int} (h : FT T m left y ≠ []) : T y ≠ [] := by
  unfold FT at h
  split at h
  · exact h
  · exact fg_ne h
structure Fg (w0 w : World) (base tb mb r N : Nat) (T : Int → List (Int × Int)) (gb : Int → Nat) (m : Int) (D : DataW Unit) (left : Lit → Bool) (cnt : Nat) : Prop where
  box : w.heap[tb]? = some (.cells #[.map (some mb)] 50 (0, 0))
  rg : w.ranges Try.prog 3 slR mb r N D left cnt
  rows : ∀ y, IW y → has D (kI y) = decide (FT T m left y ≠ []) ∧ (FT T m left y ≠ [] → ∃ c, (∀ z, D.atKey (kI y) z = slD (gb y) (FT T m left y).length c) ∧ Wow w base (.slice (some ⟨gb y, 0, none⟩) (FT T m left y).length c) (FT T m left y))
  turn : Turn (TF tb (some mb) T gb) (TF tb (some mb) T gb) w0 w
theorem slR_shape (v : Value) (y : DataW Unit × List MemPlace) (h : slR v = some y) : ∃ c : Option Addr × Nat × Nat, v = .slice c.1 c.2.1 c.2.2 := by
  unfold slR at h
  split at h
  · exact ⟨(none, 0, 0), rfl⟩
  · exact ⟨(_, _, _), rfl⟩
  · cases h
theorem same_kI {x y : Int} (h : y ≠ x) : (kI y).sameKey (kI x) = false := Maps.sameKey_ne (fun e => h (kI_inj e))
theorem FT_strike {T : Int → List (Int × Int)} {m : Int} {left : Lit → Bool} (x : Int) : FT T m (fun z => left z && !z.sameKey (kI x)) = upd (FT T m left) x (fg (T x) m) := by
  funext y
  unfold upd FT
  by_cases e : y = x
  · subst e
    have hs : (kI y).sameKey (kI y) = true := WideAt.sameKey_self (kI_key y)
    simp [hs]
  · have hs := same_kI e
    simp [e, hs]
/-- A round's end. -/
theorem Fg.step {w0 w w' : World} {base tb mb r N cnt cnt' : Nat} {T : Int → List (Int × Int)} {gb : Int → Nat} {m : Int} {D D' : DataW Unit} {left : Lit → Bool} {x : Int} (h : Fg w0 w base tb mb r N T gb m D left cnt) (hx : IW x) (hTx : T x ≠ []) (hr : w0.heap.size ≤ r)
    (hap : ∀ y, IW y → y ≠ x → T y ≠ [] → gb y ≠ gb x) (hrg : w'.ranges Try.prog 3 slR mb r N D' (fun z => left z && !z.sameKey (kI x)) cnt')
    (hW : Turn (fun k => k = gb x ∨ k = mb ∨ k = r) (fun k => k = gb x ∨ k = mb ∨ k = r) w w') (hgt : gb x ≠ tb)
    (h1 : has D' (kI x) = decide (fg (T x) m ≠ [])) (h2 : fg (T x) m ≠ [] → ∃ c, (∀ z, D'.atKey (kI x) z = slD (gb x) (fg (T x) m).length c) ∧ Wow w' base (.slice (some ⟨gb x, 0, none⟩) (fg (T x) m).length c) (fg (T x) m))
    (h3 : ∀ y, y ≠ x → has D' (kI y) = has D (kI y) ∧ ∀ z, D'.atKey (kI y) z = D.atKey (kI y) z) : Fg w0 w' base tb mb r N T gb m D' (fun z => left z && !z.sameKey (kI x)) cnt' := by
  have hbm : tb ≠ mb := fun e => by
    obtain ⟨es, clock, hb, _⟩ := h.rg.owns
    rw [← e, h.box] at hb; simp at hb
  have hbr : tb ≠ r := fun e => by
    obtain ⟨es, clock, since, seen, c0, hb, F, hs, _, hr, _⟩ := h.rg
    rw [← e, h.box] at hr; simp at hr
  refine ⟨(hW.block tb (lt_of_heap h.box) (fun q => by rcases q with q | q | q; exact hgt q.symm; exact hbm q; exact hbr q)).trans h.box, hrg, fun y hy => ?_, ?_⟩
  · rw [FT_strike]
    by_cases e : y = x
    · subst e
      rw [upd_same]
      exact ⟨h1, h2⟩
    · rw [upd_other _ _ e]
      obtain ⟨k1, k2⟩ := h.rows y hy
      refine ⟨(h3 y e).1.trans k1, fun hne => ?_⟩
      obtain ⟨c, q1, q2⟩ := k2 hne
      obtain ⟨cu, hcu⟩ := q2.block
      refine ⟨c, fun z => ((h3 y e).2 z).trans (q1 z), ownsRow_same q2 (fun k hk => ?_)⟩
      obtain rfl : gb y = k := by simpa [Value.ownBlock] using hk
      refine hW.block _ (lt_of_heap hcu) (fun q => ?_)
      rcases q with q | q | q
      · exact hap y hy e (FT_ne hne) q
      · obtain ⟨es, clock, hb, _⟩ := h.rg.owns
        rw [← q, hcu] at hb; simp at hb
      · obtain ⟨es, clock, since, seen, c0, hb, F, hs, _, hr, _⟩ := h.rg
        rw [← q, hcu] at hr; simp at hr
  · refine ⟨hW.os.trans h.turn.os, hW.tape.trans h.turn.tape, hW.output.trans h.turn.output, Nat.le_trans h.turn.size hW.size, fun k hk hF => (hW.block k (Nat.lt_of_lt_of_le hk h.turn.size) (fun q => ?_)).trans (h.turn.block k hk hF), fun k hk => .inl hk⟩
    rcases q with q | q | q
    · exact hF (.inr (.inr ⟨x, hx, hTx, q.symm⟩))
    · exact hF (.inr (.inl (by rw [q])))
    · omega
theorem fg_rising {L : List (Int × Int)} (m : Int) (h : Rising L) : Rising (fg L m) := by
  intro a b hab hb
  unfold fg at hb ⊢
  rw [List.length_drop] at hb
  have := h (plc L m + a) (plc L m + b) (by omega) (by omega)
  rw [List.getD_eq_getElem?_getD, List.getD_eq_getElem?_getD, List.getElem?_drop, List.getElem?_drop, ← List.getD_eq_getElem?_getD, ← List.getD_eq_getElem?_getD]
  exact this
/-- The loop's end. -/
theorem Fg.tab {w0 w : World} {base tb mb r N cnt : Nat} {T : Int → List (Int × Int)} {gb : Int → Nat} {m : Int} {D : DataW Unit} {left : Lit → Bool} (h : Fg w0 w base tb mb r N T gb m D left cnt) (h0 : Tab w0 base tb N (some mb) T gb) (hl : ∀ kl, left kl = false) :
    Tab w base tb N (some mb) (fun y => fg (T y) m) gb ∧ Turn (TF tb (some mb) T gb) (TF tb (some mb) (fun y => fg (T y) m) gb) w0 w := by
  have e : ∀ y, FT T m left y = fg (T y) m := fun y => by unfold FT; rw [hl]; simp
  refine ⟨⟨h.box, h0.lo, h0.few, (fun e => by cases e), fun mb' e' => ?_, fun x y hx hy hne h1 h2 => h0.apart x y hx hy hne (fg_ne h1) (fg_ne h2), fun y => fg_rising m (h0.rise y), fun y => ?_⟩, ?_⟩
  · obtain rfl : mb = mb' := by injection e'
    exact ⟨(h0.map mb rfl).1, D, h.rg.owns, fun y hy => by have := h.rows y hy; rwa [e y] at this⟩
  · have := h0.small y
    unfold fg
    rw [List.length_drop]
    omega
  · exact h.turn.sub (fun k hk => by
      rcases hk with q | q | ⟨y, hy, hne, q⟩
      · exact .inl (.inl q)
      · exact .inl (.inr (.inl q))
      · exact .inl (.inr (.inr ⟨y, hy, fg_ne hne, q⟩)))
set_option maxHeartbeats 4000000 in
theorem forget_some (base tb N mb : Nat) (T : Int → List (Int × Int)) (gb : Int → Nat) (m : Int) (w0 : World) (h : Tab w0 base tb N (some mb) T gb) (hm : IW m) :
    Calls Try.prog 21 #[.pointer (some ⟨tb, 0, none⟩), .int .i64 m] w0 fun e w' => e = .returned (.tuple #[]) ∧ Tab w' base tb N (some mb) (fun y => fg (T y) m) gb ∧ Turn (TF tb (some mb) T gb) (TF tb (some mb) (fun y => fg (T y) m) gb) w0 w' := by
  obtain ⟨c0, _, hlt⟩ := h.cells
  obtain ⟨hmb, D0, hD, hrow⟩ := h.map mb rfl
  have HT := Lib.hid h
  have HROW := Lib.hid hrow
  clear h hrow
  go_enter Try.func21, Try.ntmps21
  go_wp2_with (at_range; refine wpList_range_own _ rfl _ 48 rfl 3 40 (int_keyed Try.underlying3) Try.underlying48 slR mb N D0 rfl hD ?_; intro w1 hrg0 hg0 hs0)
  go_frame
  go_loopw [4, 5] (fun _ _ wr => ∃ D left cnt, Fg w0 wr base tb mb w0.heap.size N T gb m D left cnt) (fun _ _ wr => wr.rangeLeft mb w0.heap.size)
  case atStart =>
    have hft : ∀ y, IW y → FT T m (has D0) y = T y := fun y hy => by
      unfold FT
      split
      · rfl
      · rename_i hn
        have := (HROW.out y hy).1
        have ht : T y = [] := by
          by_cases e : T y = []
          · exact e
          · rw [this] at hn; simp [e] at hn
        rw [ht]; rfl
    refine ⟨D0, has D0, size D0, (hg0.block tb hlt (by simp)).trans HT.out.box, hrg0, fun y hy => ?_, Turn.grown hg0 (fun k hk => by cases hk)⟩
    rw [hft y hy]
    obtain ⟨k1, k2⟩ := HROW.out y hy
    refine ⟨k1, fun hne => ?_⟩
    obtain ⟨c, q1, q2⟩ := k2 hne
    exact ⟨c, q1, ownsRow_same q2 (fun k hk => hg0.block k (World.ownsRow.lt q2 k hk).2 (by simp))⟩
  case round =>
    rename World => wr
    obtain ⟨D, left, cnt, hF⟩ := hrel
    have HF := Lib.hid hF
    have hrgF := hF.rg
    have hr0 := hF.box
    have cb : wr.cell? ⟨tb, 0, none⟩ = some (.map (some mb)) := by rw [cell_of_row wr tb 0 _ _ _ hr0]; rfl
    clear hF hr0 c0
    go_wp2_with (at_next; refine wpList_next_ranges _ rfl _ rfl 3 (int_keyed Try.underlying3) slR (fun x : Int => Value.int .i64 x) (fun c : Option Addr × Nat × Nat => Value.slice c.1 c.2.1 c.2.2) (fun key kl hkey => by obtain ⟨x, rfl, _⟩ := Maps.keyOf_int_inv Try.underlying3 hkey; exact ⟨x, rfl⟩) slR_shape mb w0.heap.size N _ _ _ rfl hrgF ?_ ?_)
    · intro _ hl0
      go_wp2
      go_end0
      exact ⟨rfl, HF.out.tab HT.out hl0⟩
    · intro x A n cap kl y1 ps w1 cnt1 hkey hlx hv hat hrg1 hlt1 hg1 hs1 hen
      obtain ⟨x', ex, rfl, hwx⟩ := Maps.keyOf_int_inv Try.underlying3 hkey
      injection ex with _ ex
      subst ex
      have hx : IW x := by
        unfold IW
        simpa [Lit.wf, IntKind.min, IntKind.max, IntKind.signed, IntKind.bits] using hwx
      have hlx' : left (kI x) = true := hlx
      have hat' : ∀ z, D.atKey (kI x) z = y1 := hat
      have hhas : has D (kI x) = true := has_true_of_atKey hat'
      have hFx : FT T m left x = T x := by unfold FT; rw [if_pos hlx']
      have hrow := HF.out.rows x hx
      rw [hFx] at hrow
      have hTx : T x ≠ [] := by
        have := hrow.1
        rw [hhas] at this
        intro e
        rw [e] at this
        simp at this
      obtain ⟨cx, q1, q2⟩ := hrow.2 hTx
      have hy1 : y1 = slD (gb x) (T x).length cx := (hat' .nil).symm.trans (q1 .nil)
      rw [hy1] at hv
      have hval := slR_inv hv
      injection hval with v1 v2 v3
      subst v1 v2 v3
      clear hv hat hat' hlx hy1 hrow hkey hwx q1 ps
      have HHX := Lib.hid hx
      have HTX := Lib.hid hTx
      have HHS := Lib.hid hhas
      have HRG1 := Lib.hid hrg1
      have HG1 := Lib.hid hg1
      obtain ⟨gx, hgx⟩ : ∃ gx, gx = gb x := ⟨_, rfl⟩
      have HGX := Lib.hid hgx
      have hkn := HT.out.kinds hx hTx
      rw [← hgx] at q2 hen hkn ⊢
      obtain ⟨cu, hcu⟩ := q2.block
      have hgr : gx ≠ w0.heap.size := fun e => by
        obtain ⟨es, clock, since, seen, c0, hb, F, hs, _, hr, _⟩ := hrgF
        rw [← e, hcu] at hr; simp at hr
      have HO1 : Hid (Wow w1 base (.slice (some ⟨gx, 0, none⟩) (T x).length cap) (T x)) := Lib.hid (ownsRow_same q2 (fun k hk => by
        obtain rfl : gx = k := by simpa [Value.ownBlock] using hk
        exact hg1.block gx (lt_of_heap hcu) (by simp; omega)))
      have hbox1 : w1.heap[tb]? = some (.cells #[.map (some mb)] 50 (0, 0)) := (hg1.block tb (lt_of_heap HF.out.box) (by simp; have := HT.out.cells.2.2; omega)).trans HF.out.box
      have c1 : w1.cell? ⟨tb, 0, none⟩ = some (.map (some mb)) := by rw [cell_of_row w1 tb 0 _ _ _ hbox1]; rfl
      have HBX1 := Lib.hid hbox1
      have HR := Lib.hid (HT.out.rise x)
      have HSM : Hid ((T x).length ≤ 100000) := Lib.hid (Nat.le_trans (HT.out.small x) HT.out.few)
      have hle := plc_le (T x) m
      have HKN := Lib.hid hkn
      have HLT1 := Lib.hid hlt1
      have HGR := Lib.hid hgr
      generalize hL : T x = L at *
      have HL := Lib.hid hL
      have hs := HO1.out.wt.size
      have hs1' := hs.1
      have hs2' := hs.2
      clear hrg1 hg1 hgx hcu q2 hbox1 hkn hhas hTx hL hs hFx hrgF cb hlt1 hgr hs1
      go_wp2_with fail
      refine (lasts_any m _).mono ?_
      rintro e w2 ⟨rfl, hw2⟩
      have HB2 : Hid (Below w1.heap.size w1 w2) := Lib.hid (by rw [hw2]; exact (Below.refl _ _).alloc (Nat.le_refl _) _)
      have k2 : w2.cell? ⟨w1.heap.size, 0, none⟩ = some (.int .i64 m) := by rw [hw2]; simp [World.cell?_alloc_new]
      have hz2 : w2.heap.size = w1.heap.size + 1 := by rw [hw2]; exact alloc_size _ _
      clear hw2
      go_wp2_with fail
      refine (place_any w1.heap.size m (some ⟨gx, 0, none⟩) L.length cap L w2 (HO1.out.later HB2.out).wt HR.out (by have := HSM.out; omega) k2 (by omega)).mono ?_
      rintro e w3 ⟨rfl, hb3⟩
      have HB3 := Lib.hid (HB2.out.trans (hb3.mono HB2.out.size))
      have HO3 := Lib.hid (HO1.out.later HB3.out)
      clear hb3 k2 hz2
      have HDL := Lib.hid (delete_any base (some ⟨gx, 0, none⟩) cap L 0 (plc L m) w3 HO3.out (Nat.zero_le _) hle HSM.out)
      rw [show ((0 : Nat) : Int) = 0 from rfl, List.take_zero, List.nil_append, Nat.zero_add, show L.drop (plc L m) = fg L m from rfl, show L.length - plc L m = (fg L m).length by unfold fg; rw [List.length_drop]] at HDL
      go_wp2_with fail
      refine HDL.out.mono ?_
      rintro e w4 ⟨rfl, ho4, hg4⟩
      have HO4 := Lib.hid ho4
      have HG4 := Lib.hid hg4
      clear ho4 hg4
      go_wp2_with fail
      have hg13 : w1.grownBy w3 none := ⟨HB3.out.os, HB3.out.tape, HB3.out.output, HB3.out.size, fun i hi _ => HB3.out.block i hi⟩
      have hg34 : w3.grownBy w4 (some gx) := HG4.out
      have hmx : some mb ≠ some gx := HKN.out.2
      have hrx : some w0.heap.size ≠ some gx := fun e => HGR.out (by injection e with e; exact e.symm)
      have hrg4 := (HRG1.out.kept hg13 (by simp) (by simp)).kept hg34 hmx hrx
      have htbx : some tb ≠ some gx := fun e => HKN.out.1 (by injection e with e; exact e.symm)
      have hbox3 := (hg13.block tb (lt_of_heap HBX1.out) (by simp)).trans HBX1.out
      have hbox4 := (hg34.block tb (lt_of_heap hbox3) htbx).trans hbox3
      have hW4 : Turn (fun k => k = gb x ∨ k = mb ∨ k = w0.heap.size) (fun k => k = gb x ∨ k = mb ∨ k = w0.heap.size) wr w4 :=
        (Turn.grown HG1.out (fun k hk => by injection hk with hk; exact .inr (.inr hk.symm))).trans ((Turn.grown hg13 (fun k hk => by cases hk)).trans (Turn.grown hg34 (fun k hk => by injection hk with hk; exact .inl (by rw [← hk, HGX.out]))))
      have hap : ∀ y, IW y → y ≠ x → T y ≠ [] → gb y ≠ gb x := fun y hy hyx hne => HT.out.apart y x hy HHX.out hyx hne (by rw [HL.out]; exact HTX.out)
      have hTx : T x ≠ [] := by rw [HL.out]; exact HTX.out
      have HKK : Hid (Calls Try.prog 29 #[.pointer (some ⟨tb, 0, none⟩), .int .i64 x, .slice (some ⟨gx, 0, none⟩) (fg L m).length cap] w4 fun e w' => e = .returned (.tuple #[]) ∧ ∃ D' cnt', Fg w0 w' base tb mb w0.heap.size N T gb m D' (fun z => left z && !z.sameKey (kI x)) cnt' ∧ cnt' < cnt) := Lib.hid (by
        have hM0 := hrg4.owns.isMap
        by_cases hM : fg L m = []
        · rw [hM]
          refine (keep_dl tb N mb w0.heap.size cnt1 D _ x (some ⟨gx, 0, none⟩) cap w4 hrg4 hbox4 HHX.out).mono ?_
          rintro e w' ⟨rfl, cnt', h1, h2, h3⟩
          have h4 := h1
          rw [show (fun z : Lit => (left z && !z.sameKey (Lit.int IntKind.i64 x)) && !z.sameKey (kI x)) = fun z => left z && !z.sameKey (kI x) from strike_twice left (kI x)] at h4
          refine ⟨rfl, D.del (kI x), cnt', HF.out.step HHX.out hTx (Nat.le_refl _) hap h4 (hW4.trans (Turn.grown h3.grown (fun k hk => by injection hk with hk; exact .inr (.inl hk.symm)))) (by rw [← HGX.out]; exact HKN.out.1) (by rw [HL.out, hM, has_del_same]; simp) (fun h => absurd (by rw [HL.out]; exact hM) h) (fun y hy => ⟨has_del_other (fun e => hy (kI_inj e)), fun z => atKey_del_other (fun e => hy (kI_inj e)) z⟩), by have := HLT1.out; omega⟩
        · refine (keep_st tb N mb w0.heap.size cnt1 D _ x gx (fg L m).length cap w4 hrg4 hbox4 HHX.out HT.out.few HHS.out (by simpa using hM) (by unfold fg; rw [List.length_drop]; have := HSM.out; omega)).mono ?_
          rintro e w' ⟨rfl, h1, h3⟩
          refine ⟨rfl, _, cnt1, HF.out.step HHX.out hTx (Nat.le_refl _) hap h1 (hW4.trans (Turn.grown h3.grown (fun k hk => by injection hk with hk; exact .inr (.inl hk.symm)))) (by rw [← HGX.out]; exact HKN.out.1) (by rw [HL.out, has_put_same hM0 (kI_key x)]; simp [hM]) (fun _ => ⟨cap, fun z => by rw [HL.out, ← HGX.out]; exact atKey_put_same hM0 (kI_key x) _ z, ?_⟩) (fun y hy => ⟨has_put_other (fun e => hy (kI_inj e)) _, fun z => atKey_put_other (fun e => hy (kI_inj e)) _ z⟩), HLT1.out⟩
          rw [HL.out, ← HGX.out]
          exact ownsRow_same HO4.out (fun k hk => by
            obtain rfl : gx = k := by simpa [Value.ownBlock] using hk
            exact h3.grown.block gx (World.ownsRow.lt HO4.out gx rfl).2 (fun e => hmx e.symm)))
      clear hg13 hg34 hrg4 hbox3 hbox4 hW4 hap hTx hmx hrx htbx
      refine HKK.out.mono ?_
      rintro e w5 ⟨rfl, D', cnt', hF5, hlt5⟩
      have HF5 := Lib.hid hF5
      have HL5 := Lib.hid hlt5
      clear hF5 hlt5
      go_wp2_with fail
      go_roundw
      case rel => exact ⟨D', _, cnt', HF5.out⟩
      case measure => rw [HF5.out.rg.left_eq, HF.out.rg.left_eq]; exact HL5.out
end Go.Proofs.Ytafcdclaaagdlaa.Wn
