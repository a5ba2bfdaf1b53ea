/-
  Items are sorted by a heap.
-/
import Derived.Test.YtbpcigcfdkamaaaHpW7
set_option linter.unusedVariables false
set_option maxRecDepth 100000
namespace Go.Proofs.Ytbpcigcfdkamaaa
open Go.RowKit E

/-- Items in order are told, in memory of the call's own. -/
def SortTold (f : Nat → Int × Int) (n : Nat) (w : World) (e : Ending) (w' : World) : Prop :=
  ∃ g cap, e = .returned (.slice (some ⟨g, 0, none⟩) n cap) ∧ Iow w' w.heap.size (.slice (some ⟨g, 0, none⟩) n cap) (outs f n) ∧ Below w.heap.size w w'

theorem Outs.start {w wr w2 w3 : World} {b n : Nat} {f : Nat → Int × Int} {v v' : Value} (hv : HAt wr b v (mkE f n) n) (hb : w.heap.size ≤ b) (hw : Below w.heap.size w wr)
    (ho : w2.ownsRow w.heap.size 32 2 (.slice (some ⟨wr.heap.size, 0, none⟩) 0 n) 0 []) (hg : wr.grownBy w2 none) (h3 : HAt w3 b v' (mkE f n).tail n) (ht : Turn (HF b v) (HF b v') w2 w3) :
    Outs w b f n 0 w3.heap.size wr.heap.size n (w3.alloc (.cells #[.int .i64 (nx1 (mkE f n)).1, .int .i64 (nx1 (mkE f n)).2] 32)) := by
  have hl := (ho.lt wr.heap.size rfl)
  have hlow : ∀ k, HF b v k → w.heap.size ≤ k ∧ k < wr.heap.size := fun k hk => by have := hv.owned k hk; omega
  have e0 : nx1 (mkE f n) = (outs f n).getD 0 (0, 0) := by have := nx1_drop f n 0; simpa using this
  have b2 : Below w.heap.size w w2 := Below.grown hw hg hw.size (fun k hk => by cases hk)
  have b3 : Below w.heap.size w w3 := b2.trans (ht.below _ b2.size (fun k hk => (hlow k hk).1))
  have hs3 := ht.size
  refine ⟨⟨v', (by have := h3.more (.cells #[.int .i64 (nx1 (mkE f n)).1, .int .i64 (nx1 (mkE f n)).2] 32); simpa using this)⟩, ?_, by rw [← e0]; exact heap_alloc_new w3 _, by omega, ⟨b3.size, hb⟩, b3.alloc b3.size _⟩
  rw [List.take_zero]
  exact ownsRow_same ho fun k hk => by
    have : k = wr.heap.size := by simpa [Value.ownBlock] using hk.symm
    subst this
    rw [Below.heap_alloc _ _ _ (by omega)]
    exact ht.block _ hl.2 (fun e => by have := (hlow _ e).2; omega)

set_option maxHeartbeats 1000000 in
theorem sort_any (A : Option Addr) (n cap : Nat) (f : Nat → Int × Int) (w : World) (h : It w.heap.size w A n cap f) (hn : n ≤ 100000) :
    Calls Try.prog 21 #[.slice A n cap] w (SortTold f n w) := by
  obtain ⟨i0, hi, hz0, hz1, hz2⟩ := info_parts Try.infoItem
  have HI := Lib.hid h
  have hle := h.le
  have hmax := h.max
  unfold maxLen at hmax
  clear h
  go_enter Try.func21, Try.ntmps21
  go_wp2_with (go_at_call 11; refine (new_any _).mono ?_; rintro e w1 ⟨rfl, hH, hB, hlt⟩; have HH := Lib.hid hH; have HB := Lib.hid hB; clear hH hB)
  obtain ⟨b, hb⟩ : ∃ b, b = w.heap.size := ⟨_, rfl⟩
  rw [← hb] at HH hlt ⊢
  have HBB := Lib.hid hb
  clear hb
  go_loopw [12] (fun iv wr => ∃ k : Nat, k ≤ n ∧ iv = .int .i64 (k : Int) ∧ Since w1 b (.slice none 0 0) (mkE f k) k wr) (fun iv _ => n - (intOf iv).toNat)
  case atStart => exact ⟨0, Nat.zero_le _, rfl, Since.start HH.out⟩
  case round =>
    obtain ⟨k, hk, rfl, hS⟩ := hrel
    have hBw : Below w.heap.size w wr := HB.out.trans (hS.belowOf _ HB.out.size (fun k hk => by rcases hk with h | h; (rw [h, HBB.out]; exact Nat.le_refl _); cases h))
    have HBW := Lib.hid hBw
    have HS := Lib.hid hS
    have hsz := hBw.size
    clear hS hBw
    by_cases hlt2 : k < n
    · obtain ⟨g, off, rfl, hg, hc⟩ := (HI.out.below HBW.out).cell (by omega)
      obtain ⟨c0, c1⟩ := hc k hlt2
      have HI2 := Lib.hid hc
      clear hc
      have hM : Hid (mkE f (k + 1) = ins ⟨(f k).1, (f k).2, k⟩ (mkE f k)) := Lib.hid rfl
      generalize hx : (f k).1 = x at *
      generalize hy : (f k).2 = y at *
      clear hx hy HI2
      go_wp2_with fail
      refine (push_later w1 b _ (mkE f k) k x y wr _ HS.out ((Below.refl _ wr).alloc (Nat.le_refl _) _) (by omega)).mono ?_
      rintro e w4 ⟨rfl, hS4, _, _⟩
      rw [← hM.out] at hS4
      have HS4 := Lib.hid hS4
      clear hS4 HS hM c0 c1
      go_wp2
      go_roundw
      case rel => exact ⟨k + 1, by omega, by go_num, HS4.out⟩
      case measure => simp [intOf]; omega
    · have hkn : n = k := by omega
      subst hkn
      clear hlt2 hk
      obtain ⟨v, hv, hvt⟩ := HS.out
      have HV := Lib.hid hv
      have HBb : Hid (w.heap.size ≤ b) := Lib.hid (by rw [HBB.out]; exact Nat.le_refl _)
      clear hv hvt HS HH HB HI hle hmax
      go_wp2_with (at_make; refine wpList_make_own _ rfl _ _ 27 rfl w.heap.size 32 i0 (.agg #[.int .i64 0, .int .i64 0]) 2 Try.underlying27 hi hz0 hz1 .i64 .i64 _ n rfl rfl rfl (by rw [hz2]; omega) (by unfold maxLen; omega) hsz ?_; intro w2 ho2 hg2; have HO2 := Lib.hid ho2; have HG2 := Lib.hid hg2; clear ho2 hg2)
      have hv2 : HAt w2 b v (mkE f n) n := HV.out.same fun k hk => HG2.out.block k (HV.out.owned k hk).2 (by simp)
      refine (pop_any b v (mkE f n) n w2 hv2).mono ?_
      rintro e w3 ⟨rfl, v3, h3, t3⟩
      have HS0 := Lib.hid (Outs.start HV.out HBb.out HBW.out HO2.out HG2.out h3 t3)
      rw [Item?_eq, mkE_length]
      generalize (nx1 (mkE f n)).1 = x0 at HS0 ⊢
      generalize (nx1 (mkE f n)).2 = y0 at HS0 ⊢
      obtain ⟨g0, hg0⟩ : ∃ g0, g0 = wr.heap.size := ⟨_, rfl⟩
      rw [← hg0] at HS0 ⊢
      obtain ⟨t0, ht0⟩ : ∃ t0 : Bool, t0 = decide (0 < n) := ⟨_, rfl⟩
      rw [← ht0]
      have HT0 := Lib.hid ht0
      clear hv2 h3 t3 HO2 HG2 hg0 HV ht0 HBW hsz
      go_wp2
      go_loopw [6, 7, 8] (fun sv xp bv wq => ∃ (j : Nat) (t : Bool) (C g c : Nat), j ≤ n ∧ t = decide (j < n) ∧ sv = .slice (some ⟨g, 0, none⟩) j c ∧ xp = .pointer (some ⟨C, 0, none⟩) ∧ bv = .bool t ∧ Outs w b f n j C g c wq) (fun sv _ _ _ => n - (match sv with | .slice _ k _ => k | _ => 0))
      case atStart => exact ⟨0, t0, _, _, _, Nat.zero_le _, HT0.out, rfl, rfl, rfl, HS0.out⟩
      case round =>
        obtain ⟨j, t, C, g, c, hj, ht, rfl, rfl, rfl, hO⟩ := hrel
        cases t
        · have hjn : j = n := by simp at ht; omega
          subst hjn
          have HO := Lib.hid hO
          clear hO ht hj HS0 HT0
          go_wp2
          go_ret
          have hr := HO.out.row
          rw [List.take_of_length_le (by rw [outs_length]; exact Nat.le_refl _)] at hr
          exact ⟨g, c, rfl, by unfold Iow; rw [outs_length]; exact hr, HO.out.below⟩
        · have hjn : j < n := by simpa using ht.symm
          obtain ⟨v, hv⟩ := hO.heap
          obtain ⟨d0, d1, _, _⟩ := two_read hO.item
          have hCl := lt_of_heap hO.item
          have HOW := Lib.hid (hO.row.alloc (.cells #[.int .i64 ((outs f n).getD j (0, 0)).1, .int .i64 ((outs f n).getD j (0, 0)).2] 32))
          have hsz := hO.below.size
          have HBL : Hid (w.heap.size ≤ (wr.alloc (.cells #[.int .i64 ((outs f n).getD j (0, 0)).1, .int .i64 ((outs f n).getD j (0, 0)).2] 32)).heap.size) := Lib.hid (by simp; omega)
          have HNW : Hid (∀ (i : Nat) (u : Value), ([.int .i64 ((outs f n).getD j (0, 0)).1, .int .i64 ((outs f n).getD j (0, 0)).2] : List Value)[i]? = some u → (wr.alloc (.cells #[.int .i64 ((outs f n).getD j (0, 0)).1, .int .i64 ((outs f n).getD j (0, 0)).2] 32)).cell? ((⟨wr.heap.size, 0, none⟩ : Addr).add i) = some u) := Lib.hid (by
            intro i u hu
            match i, hu with
            | 0, hu => simp at hu; subst hu; simp [Addr.add]
            | 1, hu => simp at hu; subst hu; simp [Addr.add])
          have HON : Hid (∀ u ∈ ([.int .i64 ((outs f n).getD j (0, 0)).1, .int .i64 ((outs f n).getD j (0, 0)).2] : List Value), u.oneCell' = true) := Lib.hid (by intro u hu; simp at hu; rcases hu with rfl | rfl <;> rfl)
          have HO := Lib.hid hO
          have HV := Lib.hid hv
          have HIT := Lib.hid hO.item
          have HNE : Hid (some C ≠ Value.ownBlock (.slice (some ⟨g, 0, none⟩) j c)) := Lib.hid (fun e => hO.ne (by simpa [Value.ownBlock] using e))
          clear hO hv ht HS0 HT0
          generalize hx : ((outs f n).getD j (0, 0)).1 = x at *
          generalize hy : ((outs f n).getD j (0, 0)).2 = y at *
          go_wp2_with (at_builtin; refine wpList_append_lies _ rfl _ _ 27 rfl w.heap.size 32 i0 _ 2 16 Try.underlying27 hi hz0 hz1 hz2 rfl (by decide) (.slice (some ⟨g, 0, none⟩) j c) j _ rfl HOW.out ⟨wr.heap.size, 0, none⟩ 1 1 [.int .i64 x, .int .i64 y] rfl rfl HNW.out HON.out (by decide) (by unfold maxLen; omega) (by omega) HBL.out (wr.heap.size + 1) (by simp) ?_; intro g4 c4 w4 hown4 hgr4 hat4 hlt4; have HO4 := Lib.hid hown4; have HG4 := Lib.hid hgr4; have HAT := Lib.hid hat4; have q4 := (grown_old hgr4 hCl HNE.out).trans HIT.out; obtain ⟨e0, e1, _, _⟩ := two_read q4; clear hown4 hgr4 hat4 q4)
          have hv4 : HAt w4 b v ((mkE f n).drop (j + 1)) n := HV.out.same fun k hk => by
            have hk1 := (HV.out.owned k hk).2
            refine grown_old HG4.out hk1 (fun e => ?_)
            have : k = g := by simpa [Value.ownBlock] using e
            subst this
            obtain ⟨cur, fz, hg⟩ := row_kind HO.out.row k rfl
            exact HV.out.notItem hg hk
          have hs4 := HG4.out.size
          simp at hs4
          have HLO : Hid (∀ k, HF b v k → k < wr.heap.size) := Lib.hid fun k hk => (HV.out.owned k hk).2
          refine (pop_any b v _ n _ (hv4.more _)).mono ?_
          rintro e w5 ⟨rfl, v5, h5, t5⟩
          have q5 : w5.heap[w4.heap.size]? = some (.cells #[.int .i64 x, .int .i64 y] 32 (0, 0)) := by rw [t5.block _ (by simp) (fun e => by have := HLO.out _ e; omega)]; exact heap_alloc_new w4 _
          obtain ⟨z0, z1, z2, z3⟩ := two_read q5
          rw [List.tail_drop] at h5
          subst hx hy
          have HNX := Lib.hid (HO.out.next hjn HV.out HO4.out HG4.out (by rcases HAT.out with h | h; (left; simpa [Value.ownBlock] using h); (right; exact h)) h5 t5)
          rw [Item?_eq, nx1_drop, show decide (0 < ((mkE f n).drop (j + 1)).length) = decide (j + 1 < n) by rw [List.length_drop, mkE_length]; congr 1; rw [eq_iff_iff]; omega]
          generalize hx : ((outs f n).getD (j + 1) (0, 0)).1 = x at *
          generalize hy : ((outs f n).getD (j + 1) (0, 0)).2 = y at *
          obtain ⟨t1, ht1⟩ : ∃ t1 : Bool, t1 = decide (j + 1 < n) := ⟨_, rfl⟩
          rw [← ht1]
          have HT1 := Lib.hid ht1
          clear hv4 h5 t5 q5 hx hy HO4 HG4 HAT HV HOW HNW HIT HO ht1 e0 e1 d0 d1
          go_wp2
          go_roundw
          case rel => exact ⟨j + 1, t1, _, _, _, by omega, HT1.out, rfl, rfl, rfl, HNX.out⟩
          case measure => simp; omega

end Go.Proofs.Ytbpcigcfdkamaaa
