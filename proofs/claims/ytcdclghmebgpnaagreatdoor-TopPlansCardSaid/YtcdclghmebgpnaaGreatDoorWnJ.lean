/-
  Layer 6: Take of a window that comes to stand ahead of others; Take of any window.
-/
import Derived.Test.YtcdclghmebgpnaaGreatDoorWnI
set_option linter.unusedVariables false
set_option maxRecDepth 100000
namespace Go.Proofs.YtcdclghmebgpnaaGreatDoor.Wn
open Go.RowKit Go.Maps

set_option maxHeartbeats 2000000 in
theorem take_mid (base tb N : Nat) (mv : Option Nat) (T : Int → List (Int × Int)) (gb : Int → Nat) (x a b : Int) (w : World) (h : Tab w base tb N mv T gb) (hx : IW x) (hN : N + 1 ≤ 100000) (hr : rgt a b = true) (k : Nat) (hk : plc (T x) a = k) (hp : k < (T x).length) (hqb : b ≤ ((T x).getD k (0, 0)).1) (hri : Rising (insAt (T x) k (a, b))) (hq : (T x).length < 4096) :
    Calls Tryz.prog 23 #[.pointer (some ⟨tb, 0, none⟩), .int .i64 x, .agg #[.int .i64 a, .int .i64 b]] w fun e w' => e = .returned (.int .i64 0) ∧ ∃ mv' g, Tab w' base tb (N + 1) mv' (upd T x (insAt (T x) k (a, b))) (upd gb x g) ∧ Turn (TF tb mv T gb) (TF tb mv' (upd T x (insAt (T x) k (a, b))) (upd gb x g)) w w' := by
  obtain ⟨b0, b1, hb⟩ := win_box w a b
  have hsm : (T x).length ≤ 1000000 := Nat.le_trans (Nat.le_trans (h.small x) h.few) (by decide)
  have HB := Lib.hid hb
  have HC := Lib.hid (right_any a b (w.alloc (.cells #[.int .i64 a, .int .i64 b] 52)))
  have HAB : Hid (a < b) := Lib.hid (by unfold rgt at hr; simp at hr; omega)
  rw [hr] at HC
  have HT := Lib.hid h
  have HHX := Lib.hid hx
  have HLT := Lib.hid h.cells.2.2
  have HLO := Lib.hid h.lo
  have HR := Lib.hid (h.rise x)
  have HNN := Lib.hid hN
  have HRI := Lib.hid hri
  have HKE := Lib.hid hk
  have HQ := Lib.hid hq
  have HSM := Lib.hid hsm
  have dq : decide (4096 ≤ ((T x).length : Int)) = false := decide_eq_false (by omega)
  generalize hL : T x = L at *
  have HL := Lib.hid hL
  clear hb hr h hN hx hq hL hsm hri hk
  go_enter Tryz.func23, Tryz.ntmps23
  go_wp2_with fail
  refine HC.out.mono ?_
  rintro e w3 ⟨rfl, hb3⟩
  have b30 := (hb3.cell (p := ⟨w.heap.size, 0, none⟩) (by simp)).trans b0
  have b31 := (hb3.cell (p := ⟨w.heap.size, 1, none⟩) (by simp)).trans b1
  have HB3 := Lib.hid (HB.out.trans (hb3.mono HB.out.size))
  have hlt3 : w.heap.size < w3.heap.size := by have := hb3.size; rw [alloc_size] at this; omega
  have hT3 := HT.out.later HB3.out
  obtain ⟨c3, _, _⟩ := hT3.cells
  obtain ⟨A, c, hlk, how, hsh⟩ := hT3.look2 HHX.out
  rw [HL.out] at hlk how hsh
  have HO := Lib.hid how
  have HSH := Lib.hid hsh
  have hs := how.wt.size
  have hs1 := hs.1
  have hs2 := hs.2
  clear hb3 hT3 how hsh hs b0 b1
  go_wp2_with fail
  refine (lasts_any a _).mono ?_
  rintro e w4 ⟨rfl, hw4⟩
  have HB4 : Hid (Below w3.heap.size w3 w4) := Lib.hid (by rw [hw4]; exact (Below.refl _ _).alloc (Nat.le_refl _) _)
  have k4 : w4.cell? ⟨w3.heap.size, 0, none⟩ = some (.int .i64 a) := by rw [hw4]; simp [World.cell?_alloc_new]
  have hz4 : w4.heap.size = w3.heap.size + 1 := by rw [hw4]; exact alloc_size _ _
  clear hw4
  go_wp2_with fail
  refine (place_any w3.heap.size a A L.length c L w4 (HO.out.later HB4.out).wt HR.out HSM.out k4 (by omega)).mono ?_
  rintro e w5 ⟨rfl, hb5⟩
  have HB5 := Lib.hid (HB4.out.trans (hb5.mono HB4.out.size))
  have HO5 := Lib.hid (HO.out.later HB5.out)
  have b50 := (HB5.out.cell (p := ⟨w.heap.size, 0, none⟩) hlt3).trans b30
  have b51 := (HB5.out.cell (p := ⟨w.heap.size, 1, none⟩) hlt3).trans b31
  have HBW5 := Lib.hid (HB3.out.trans (HB5.out.mono HB3.out.size))
  obtain ⟨g0, off0, rfl, _, hc⟩ := HO5.out.wt.cell (by omega)
  obtain ⟨k1, k2⟩ := hc _ hp
  rw [HKE.out]
  have hkI : (k : Int) < (L.length : Int) := by omega
  obtain ⟨y, hy⟩ : ∃ y, y = (L.getD k (0, 0)).1 := ⟨_, rfl⟩
  rw [← hy] at k1 hqb
  have dy : decide (y < b) = false := decide_eq_false (by omega)
  have HKL := Lib.hid hp
  clear hc hb5 k4 hy hlk c3 b30 b31 k2 hqb
  go_wp2_with fail
  go_big_quiet (fail)
  obtain ⟨w6, hw6⟩ : ∃ w6, w6 = w5.drewN nq := ⟨_, rfl⟩
  have HB6 : Hid (Below w.heap.size w w6) := Lib.hid (by rw [hw6]; exact HBW5.out.trans (below_drewN _ _ _))
  have HO6 : Hid (Wow w6 base (.slice (Option.some ⟨g0, off0, Option.none⟩) L.length c) L) := Lib.hid (by rw [hw6]; exact HO5.out.later (below_drewN _ _ _))
  have b60 : w6.cell? ⟨w.heap.size, 0, none⟩ = some (.int .i64 a) := by rw [hw6]; exact b50
  have b61 : w6.cell? ⟨w.heap.size, 1, none⟩ = some (.int .i64 b) := by rw [hw6]; exact b51
  rw [← hw6]
  clear hw6 b50 b51 HO5
  go_wp2_with fail
  have hlt1 : tb < w.heap.size := HLT.out
  refine (insert_any base (Option.some ⟨g0, off0, Option.none⟩) c L k a b w6 _ HO6.out rfl (by have := HLO.out; have := HB6.out.size; omega) (Nat.le_of_lt HKL.out) (by have := HQ.out; omega)).mono ?_
  rintro e w7 ⟨A', c', rfl, ho7, hg7, hv7⟩
  have HO7 := Lib.hid ho7
  have HG7 := Lib.hid hg7
  have HV7 := Lib.hid hv7
  clear ho7 hg7 hv7
  go_wp2_with fail
  have ho7 := HO7.out
  have hg7 := HG7.out
  have hv7 := HV7.out
  obtain ⟨w1, hw1⟩ : ∃ w1, w1 = w6.alloc (.cells #[.int .i64 a, .int .i64 b] 52) := ⟨_, rfl⟩
  rw [← hw1] at hg7 hv7
  have HB1 : Below w.heap.size w w1 := by rw [hw1]; exact HB6.out.trans ((Below.refl _ _).alloc HB6.out.size _)
  clear hw1
  have hT1 := HT.out.later HB1
  have hne : insAt L k (a, b) ≠ [] := by simp [insAt]
  have hll : (insAt L k (a, b)).length = L.length + 1 := insAt_length L k (a, b) (Nat.le_of_lt HKL.out)
  obtain ⟨g, rfl, _⟩ := ho7.some hne
  have hown : ∀ k, (Value.slice (Option.some ⟨g0, off0, Option.none⟩) L.length c).ownBlock = Option.some k → T x ≠ [] ∧ k = gb x := fun k hk => by
    rcases HSH.out with ⟨q1, q2⟩ | ⟨q1, q2⟩
    · exact absurd q2 (by simp)
    · rw [q2] at hk
      simp [Value.ownBlock] at hk
      exact ⟨by rw [HL.out]; exact q1, hk.symm⟩
  have hgs : (T x ≠ [] ∧ g = gb x) ∨ g = w1.heap.size := by
    rcases hv7 with q | q
    · exact .inl (hown g (by rw [← q]; simp [Value.ownBlock]))
    · exact .inr (by simpa [Value.ownBlock] using q)
  have hgs2 : (T x ≠ [] ∧ g = gb x) ∨ w.heap.size ≤ g := by
    rcases hgs with q | q
    · exact .inl q
    · exact .inr (by rw [q]; exact HB1.size)
  have HK := keep_any base tb N mv T gb x (insAt L k (a, b)) g c' w1 w7 hT1 HHX.out HNN.out hne HRI.out (by rw [hll]; have := HT.out.small x; rw [HL.out] at this; omega) (Nat.le_trans (Nat.le_trans HLO.out (Nat.le_of_lt hlt1)) (Nat.le_trans HB1.size hg7.size))
    (fun k hk => by
      have hkw : k < w1.heap.size := by
        rcases hk with rfl | q | ⟨y, hy, _, hty, rfl⟩
        · exact (hT1.foot _ (.inl rfl)).2
        · exact (hT1.foot _ (.inr (.inl q))).2
        · exact (hT1.foot _ (.inr (.inr ⟨y, hy, hty, rfl⟩))).2
      refine hg7.block k hkw (fun q => ?_)
      obtain ⟨q1, q2⟩ := hown k q.symm
      have hk2 := hT1.kinds HHX.out q1
      rcases hk with e | e | ⟨y, hy, hyx, hty, e⟩
      · exact hk2.1 (by rw [← q2, e])
      · exact hk2.2 (by rw [← q2, e])
      · exact hT1.apart y x hy HHX.out hyx hty q1 (by rw [e, q2]))
    (by rw [hll]; exact ho7)
    (fun y hy hyx hty q => by
      rcases hgs with ⟨q1, q2⟩ | q1
      · exact hT1.apart y x hy HHX.out hyx hty q1 (by rw [q, q2])
      · have := (hT1.foot _ (.inr (.inr ⟨y, hy, hty, rfl⟩))).2
        omega)
  rw [hll] at HK
  have HKK := Lib.hid HK
  have HTU := Lib.hid (fun (mv' : Option Nat) (w' : World) (ht : Turn (KF tb mv) (KF tb mv') w7 w') => kept_turn (L := insAt L k (a, b)) HT.out HHX.out HB1 hg7 hown hgs2 ht)
  clear HK hT1 hne hll hown hgs hgs2 ho7 hg7 hv7 HB1
  refine HKK.out.mono ?_
  rintro e w8 ⟨rfl, mv', hT8, ht8⟩
  have HT8 := Lib.hid hT8
  have HT9 := Lib.hid (HTU.out mv' w8 ht8)
  clear hT8 ht8
  go_wp2_with fail
  go_ret
  exact ⟨rfl, mv', g, HT8.out, HT9.out⟩
/-- Take: what comes of it for the cell's windows. -/
def tk (L : List (Int × Int)) (a b : Int) : Int × List (Int × Int) :=
  if rgt a b = false then (1, L) else
  if plc L a < L.length ∧ (L.getD (plc L a) (0, 0)).1 < b then (3, L) else
  if 4096 ≤ L.length then (4, L) else (0, insAt L (plc L a) (a, b))
theorem tk_ord {L : List (Int × Int)} {a b : Int} (h : Ordw 0 L) : Ordw 0 (tk L a b).2 := by
  unfold tk
  split
  · exact h
  · rename_i hr
    split
    · exact h
    · rename_i hq
      split
      · exact h
      · have hr2 : rgt a b = true := by simpa using hr
        unfold rgt at hr2
        simp only [Bool.and_eq_true, decide_eq_true_eq] at hr2
        exact h.ins (by omega) (by omega) (by omega) (fun hp => by
          rcases Int.lt_or_le (L.getD (plc L a) (0, 0)).1 b with q | q
          · exact absurd ⟨hp, q⟩ hq
          · exact q)
theorem upd_self {α : Type} (T : Int → α) (x : Int) : upd T x (T x) = T := by
  funext y
  unfold upd
  split
  · rename_i e; rw [e]
  · rfl
theorem Tab.more {w : World} {base tb N N' : Nat} {mv : Option Nat} {T : Int → List (Int × Int)} {gb : Int → Nat} (h : Tab w base tb N mv T gb) (hN : N ≤ N') (hf : N' ≤ 100000) : Tab w base tb N' mv T gb :=
  ⟨h.box, h.lo, hf, h.nomap, fun mb e => by
    obtain ⟨h1, D, h2, h3⟩ := h.map mb e
    exact ⟨h1, D, h2.mono hN, h3⟩, h.apart, h.rise, fun x => Nat.le_trans (h.small x) hN⟩
/-- What an act leaves: the table with other windows, its blocks or new ones. -/
def Acted (base tb N : Nat) (mv : Option Nat) (T : Int → List (Int × Int)) (gb : Int → Nat) (T' : Int → List (Int × Int)) (w w' : World) : Prop :=
  ∃ mv' gb', Tab w' base tb (N + 1) mv' T' gb' ∧ Turn (TF tb mv T gb) (TF tb mv' T' gb') w w'
theorem Acted.same {w w' : World} {base tb N : Nat} {mv : Option Nat} {T : Int → List (Int × Int)} {gb : Int → Nat} (h : Tab w base tb N mv T gb) (hN : N < 4096) (hb : Below w.heap.size w w') : Acted base tb N mv T gb T w w' :=
  ⟨mv, gb, (h.later hb).more (Nat.le_succ _) (by omega), Turn.ofBelow hb _⟩
/-- Take, of whatever window. -/
theorem take_any (base tb N : Nat) (mv : Option Nat) (T : Int → List (Int × Int)) (gb : Int → Nat) (x a b : Int) (w : World) (h : Tab w base tb N mv T gb) (hx : IW x) (hN : N < 4096) (hO : Ordw 0 (T x)) :
    Calls Tryz.prog 23 #[.pointer (some ⟨tb, 0, none⟩), .int .i64 x, .agg #[.int .i64 a, .int .i64 b]] w fun e w' => e = .returned (.int .i64 (tk (T x) a b).1) ∧ Acted base tb N mv T gb (upd T x (tk (T x) a b).2) w w' := by
  have hlen : (T x).length < 4096 := Nat.lt_of_le_of_lt (h.small x) hN
  have ho2 := tk_ord (a := a) (b := b) hO
  cases hr : rgt a b with
  | false =>
    have e : tk (T x) a b = (1, T x) := by simp [tk, hr]
    rw [e, upd_self]
    exact (take_arg tb x a b w hr).mono (fun e w' ⟨h1, h2⟩ => ⟨h1, Acted.same h hN h2⟩)
  | true =>
    by_cases hq : plc (T x) a < (T x).length ∧ ((T x).getD (plc (T x) a) (0, 0)).1 < b
    · have e : tk (T x) a b = (3, T x) := by unfold tk; rw [hr, if_neg (by simp), if_pos hq]
      rw [e, upd_self]
      exact (take_there base tb N mv T gb x a b w h hx hr hq.1 hq.2).mono (fun e w' ⟨h1, h2⟩ => ⟨h1, Acted.same h hN h2⟩)
    · have e : tk (T x) a b = (0, insAt (T x) (plc (T x) a) (a, b)) := by unfold tk; rw [hr, if_neg (by simp), if_neg hq, if_neg (by omega)]
      rw [e] at ho2 ⊢
      by_cases hk : plc (T x) a = (T x).length
      · refine (take_end base tb N mv T gb x a b w h hx (by omega) hr hk hlen).mono ?_
        rintro e w' ⟨rfl, mv', g, h1, h2⟩
        have e2 : insAt (T x) (plc (T x) a) (a, b) = T x ++ [(a, b)] := by rw [hk]; simp [insAt]
        rw [e2]
        exact ⟨rfl, mv', _, h1, h2⟩
      · have hkl : plc (T x) a < (T x).length := by have := plc_le (T x) a; omega
        refine (take_mid base tb N mv T gb x a b w h hx (by omega) hr _ rfl hkl (by
          rcases Int.lt_or_le ((T x).getD (plc (T x) a) (0, 0)).1 b with q | q
          · exact absurd ⟨hkl, q⟩ hq
          · exact q) ho2.rising hlen).mono ?_
        rintro e w' ⟨rfl, mv', g, h1, h2⟩
        exact ⟨rfl, mv', _, h1, h2⟩
end Go.Proofs.YtcdclghmebgpnaaGreatDoor.Wn
