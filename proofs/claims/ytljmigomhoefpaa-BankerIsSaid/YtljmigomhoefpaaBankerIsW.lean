/-
  BankerIs: the walk.
-/
import Derived.Test.YtljmigomhoefpaaBkK
import Derived.Test.YtljmigomhoefpaaBkSet
set_option linter.unusedVariables false
set_option maxRecDepth 100000
namespace Go.Proofs.Ytljmigomhoefpaa.Bk
open Go.RowKit Go.Maps

theorem cl_few {w : World} {A : Option Addr} {n cap : Nat} {C : Cm} (h : Cl w.heap.size w A n cap C) {m : Nat} (hm : FewIs C m) : Cl w.heap.size w A m cap (C.take m) := h.cut (by rw [← h.len]; exact hm.le)
theorem meets_is {A : Option Addr} {n c B : Nat} {L : List Int} {A2 : Option Addr} {n2 c2 B2 : Nat} {M : List Int} {w : World} (h : Lt B w A n c L) (h2 : Lt B2 w A2 n2 c2 M) (b : Bool) (hb : b = true ↔ Meets L M) : Calls Try.prog 20 #[.slice A n c, .slice A2 n2 c2] w fun e w' => e = .returned (.bool b) ∧ w' = w :=
  (meets_any A n c B L A2 n2 c2 B2 M w h h2).mono fun e w' ⟨b', h1, h2, h3⟩ => ⟨by
    rw [h1]
    have : b' = b := by
      cases b with
      | true => exact h2.2 (hb.1 rfl)
      | false => exact Bool.eq_false_iff.2 (fun e => by have := hb.2 (h2.1 e); cases this)
    rw [this], h3.symm⟩
/-- Those that came so far. -/
def sofar (o : List Nat) (i : Nat) (x : Int) : Bool := decide (x ∈ nz (o.take i))
theorem sofar_new {o : List Nat} (h : o.Nodup) {i : Nat} (hi : i < o.length) : sofar o i ((o.getD i 0 : Nat) : Int) = false := by
  unfold sofar
  apply decide_eq_false
  intro hm
  simp only [nz, List.mem_map] at hm
  obtain ⟨y, hy, e⟩ := hm
  have e : y = o.getD i 0 := by omega
  obtain ⟨j, hj, e2⟩ := List.getElem_of_mem hy
  rw [List.length_take] at hj
  rw [List.getElem_take, e, List.getD, List.getElem?_eq_getElem hi] at e2
  have := nodup_inj h (by omega) hi e2
  omega
theorem sofar_next {o : List Nat} {i : Nat} (hi : i < o.length) (x : Int) : (sofar o i x || (((o.getD i 0 : Nat) : Int) == x)) = sofar o (i + 1) x := by
  unfold sofar
  rw [List.take_succ_eq_append_getElem hi, Bool.eq_iff_iff, Bool.or_eq_true, decide_eq_true_iff, decide_eq_true_iff, beq_iff_eq]
  simp only [nz, List.map_append, List.mem_append, List.map_cons, List.map_nil, List.mem_singleton, List.getD, List.getElem?_eq_getElem hi, Option.getD_some]
  constructor
  · rintro (h | h); exact .inl h; exact .inr h.symm
  · rintro (h | h); exact .inl h; exact .inr h.symm
theorem okp_meets {D : Cm} {o : List Nat} (h : Okp (need D) (hb D) o) {i t : Nat} (hi : i < t) (ht : t < o.length) : ¬ Meets (need D (o.getD i 0)) (hold D (o.getD t 0)) := by
  rintro ⟨z, h1, h2⟩
  have := List.pairwise_iff_getElem.1 h i t (by omega) ht hi z (by rw [List.getD, List.getElem?_eq_getElem (by omega)] at h1; exact h1)
  unfold hb at this
  rw [List.getD, List.getElem?_eq_getElem ht] at h2
  have h2 : z ∈ hold D o[t] := h2
  rw [decide_eq_true h2] at this
  cases this
/-- What the loop keeps. -/
structure Its (w0 : World) (bm : Nat) (o : List Nat) (i : Nat) (wr : World) : Prop where
  below : Below w0.heap.size w0 wr
  ge : w0.heap.size ≤ bm
  set : SetI wr bm i (sofar o i)
theorem Its.later {w0 wr wx : World} {bm i : Nat} {o : List Nat} (h : Its w0 bm o i wr) (hb : Below wr.heap.size wr wx) : Its w0 bm o i wx := ⟨h.below.trans (hb.mono h.below.size), h.ge, h.set.later hb⟩
theorem Its.put {w0 wr wx : World} {bm i : Nat} {o : List Nat} (h : Its w0 bm o i wr) (hi : i < o.length) (hs : SetI wx bm (i + 1) (fun x => sofar o i x || (((o.getD i 0 : Nat) : Int) == x))) (hg : wr.grownBy wx (some bm)) : Its w0 bm o (i + 1) wx :=
  ⟨h.below.grown hg h.below.size (fun k hk => by cases hk; exact h.ge), h.ge, hs.congr (fun x => sofar_next hi x)⟩
set_option maxHeartbeats 4000000 in
theorem bankerIs_walk (A : Option Addr) (n cap : Nat) (C : Cm) (w : World) (h : Cl w.heap.size w A n cap C) (_ : True) : Calls Try.prog 5 #[.slice A n cap] w fun e w' => e = .returned (.bool true) ∧ Below w.heap.size w w' := by
  have HC := Lib.hid h
  clear h
  go_enter Try.func5, Try.ntmps5
  go_wp2_with fail
  refine (shown_any _).mono ?_
  rintro e w1 ⟨rfl, hb1⟩
  have HB1 := Lib.hid hb1
  have HC1 := Lib.hid (HC.out.later hb1)
  clear hb1
  go_wp2_with fail
  refine (few_any A n cap _ C _ HC1.out).mono ?_
  rintro e w' ⟨m, rfl, hm, rfl⟩
  have HD1 := Lib.hid (cl_few HC1.out hm)
  have hm9 := hm.nine
  clear hm HC1
  generalize C.take m = D at *
  have HN := Lib.hid HD1.out.len
  have hs := HD1.out.size
  have hs1 := hs.1
  have hs2 := hs.2
  clear hs
  go_wp2_with fail
  refine (order_any A m cap D _ HD1.out).mono ?_
  rintro e w2 ⟨A2, m2, c2, o, is, rfl, hm2, ho2, hown2, hc2⟩
  have HI2 := Lib.hid hown2.lt.2
  have HO2 := Lib.hid ho2
  have HB2 := Lib.hid (HB1.out.trans (hc2.mono HB1.out.size))
  have HD2 := Lib.hid (HD1.out.later hc2)
  have HM2 := Lib.hid hm2
  have t1 := (Gt.size hown2.lt.2).1
  have t2 := (Gt.size hown2.lt.2).2
  clear ho2 hown2 hc2 hm2
  cases is with
  | false =>
    obtain ⟨rfl, hor⟩ := HO2.out.no
    obtain rfl : m2 = 0 := HM2.out
    have HOR := Lib.hid hor
    clear hor
    by_cases hm0 : 0 < m
    · go_wp2_with fail
      go_ret
      exact ⟨rfl, HB2.out⟩
    · obtain rfl : m = 0 := by omega
      go_wp2_with fail
      refine (right_any A 0 cap D _ HD2.out).mono ?_
      rintro e w3 ⟨b, rfl, hb, hb3⟩
      obtain rfl : b = false := Bool.eq_false_iff.2 (fun e => by
        rcases HOR.out with h | h
        · rw [HN.out] at h; omega
        · exact h (hb.1 e))
      have HB3 := Lib.hid (HB2.out.trans (hb3.mono HB2.out.size))
      clear hb hb3
      go_wp2_with fail
      go_ret
      exact ⟨rfl, HB3.out⟩
  | true =>
    have HY := Lib.hid HO2.out.yes
    have hmm : m2 = m := by rw [HM2.out, HY.out.2.2.2.2.2, HN.out]
    subst hmm
    have HOL : Hid (o.length = m2) := Lib.hid HM2.out.symm
    have HMK := Lib.hid (run_makeMap_none w2)
    have hmk := HMK.out
    have HIT : Hid (Its w2 w2.heap.size o 0 (w2.alloc (.map #[] 0))) := Lib.hid ⟨(Below.refl _ _).alloc (Nat.le_refl _) _, Nat.le_refl _, (SetI.made w2).congr (fun x => by simp [sofar, nz])⟩
    clear HM2
    go_wp2_with fail
    clear hmk
    generalize w2.alloc (.map #[] 0) = w3 at *
    obtain ⟨bm, hbm⟩ : ∃ bm, bm = w2.heap.size := ⟨_, rfl⟩
    rw [← hbm] at HIT ⊢
    clear hbm HMK
    go_loopw [41] (fun iv wr => ∃ i : Nat, i ≤ m2 ∧ iv = .int .i64 (i : Int) ∧ Hid (Its w2 bm o i wr)) (fun iv _ => m2 - (intOf iv).toNat)
    case atStart => exact ⟨0, Nat.zero_le _, rfl, HIT⟩
    case round =>
      rename World => wr
      obtain ⟨i, hi, rfl, HW⟩ := hrel
      by_cases hlt : i < m2
      · have hilt : i < o.length := by rw [HOL.out]; exact hlt
        have HIr := Lib.hid (Gt.below HI2.out HW.out.below)
        obtain ⟨g2, o2, rfl, hg2, q1⟩ := Lt.cell HIr.out hlt
        rw [nz_get hilt] at q1
        have HAM : Hid (o.getD i 0 ∈ o) := Lib.hid (getD_mem hilt)
        have halt : o.getD i 0 < m2 := by rw [← HN.out]; exact (HY.out.2.2.2.1 _).1 HAM.out
        have hnew := sofar_new HY.out.2.2.1 hilt
        have HPUT : Hid (∃ wx, (Instr.mapUpdate 31 (.map (some bm)) (.int .i64 ((o.getD i 0 : Nat) : Int)) (.bool true)).run Try.prog wr = .ok () wx ∧ Its w2 bm o (i + 1) wx) := Lib.hid (by
          obtain ⟨wx, h1, h2, h3⟩ := HW.out.set.put_run (by omega) (X := ((o.getD i 0 : Nat) : Int)) (IW_nat (by omega))
          exact ⟨wx, h1, HW.out.put hilt h2 h3⟩)
        obtain ⟨a, ha⟩ : ∃ a, a = o.getD i 0 := ⟨_, rfl⟩
        rw [← ha] at q1 halt hnew HPUT
        have HAE := Lib.hid ha
        have hlk := HW.out.set.asked0 (X := (a : Int)) (IW_nat (by omega)) hnew
        obtain ⟨wx, hput, hitx⟩ := HPUT.out
        have HIX := Lib.hid hitx
        have hi0 : (0 : Int) ≤ (i : Int) + 1 := by omega
        have hi1 : (i : Int) + 1 ≤ (m2 : Int) := by omega
        have hiw : IntKind.i64.wrap ((i : Int) + 1) = (i : Int) + 1 := IntWalk.i64_in _ (by omega)
        have hmc : (m2 : Int) ≤ (c2 : Int) := by omega
        have hic : (i : Int) + 1 ≤ (c2 : Int) := by omega
        have da1 : decide ((a : Int) < 0) = false := decide_eq_false (by omega)
        have da2 : decide (m2 ≤ a) = false := decide_eq_false (by omega)
        clear ha hnew hitx HPUT HAM
        obtain ⟨A9, hA9, HA9⟩ : ∃ A9, (if c2 = i + 1 then some ⟨g2, o2, none⟩ else some ⟨g2, o2 + (i + 1), none⟩) = A9 ∧ Hid (Lt w2.heap.size w2 A9 (m2 - (i + 1)) (c2 - (i + 1)) ((nz o).drop (i + 1))) := by
          refine ⟨_, rfl, Lib.hid ?_⟩
          have := Gt.tail HI2.out (m := i + 1) (by omega) (if c2 = i + 1 then some ⟨g2, o2, none⟩ else some ⟨g2, o2 + (i + 1), none⟩) (by split <;> simp) (fun h => by rw [if_neg (by omega), Nat.mul_one])
          unfold Lt
          rw [show ivs ((nz o).drop (i + 1)) = (ivs (nz o)).drop ((i + 1) * 1) by simp [ivs]]
          exact this
        go_wp2_with fail
        clear hA9 hput hlk q1
        go_loopw [66] (fun kv wy => ∃ k : Nat, k ≤ m2 - (i + 1) ∧ kv = .int .i64 (k : Int) ∧ Hid (Below wx.heap.size wx wy)) (fun kv _ => m2 - (i + 1) - (intOf kv).toNat)
        case atStart => exact ⟨0, Nat.zero_le _, rfl, Lib.hid (Below.refl _ _)⟩
        case round =>
          rename World => wy
          obtain ⟨k, hk, rfl, HK⟩ := hrel
          have HBY : Hid (Below w2.heap.size w2 wy) := Lib.hid (HIX.out.below.trans (HK.out.mono HIX.out.below.size))
          by_cases hlt2 : k < m2 - (i + 1)
          · have hkl : i + 1 + k < o.length := by rw [HOL.out]; omega
            obtain ⟨g9, o9, rfl, _, q2⟩ := Lt.cell (Gt.below HA9.out HBY.out) hlt2
            have hgd : ((nz o).drop (i + 1)).getD k 0 = ((o.getD (i + 1 + k) 0 : Nat) : Int) := by
              rw [← nz_get hkl, List.getD, List.getD, List.getElem?_drop]
            rw [hgd] at q2
            have HBM : Hid (o.getD (i + 1 + k) 0 ∈ o) := Lib.hid (getD_mem hkl)
            have hblt : o.getD (i + 1 + k) 0 < m2 := by rw [← HN.out]; exact (HY.out.2.2.2.1 _).1 HBM.out
            have HNO : Hid (¬ Meets (need D a) (hold D (o.getD (i + 1 + k) 0))) := Lib.hid (by rw [HAE.out]; exact okp_meets HY.out.2.2.2.2.1 (by omega) hkl)
            clear hgd HBM
            generalize o.getD (i + 1 + k) 0 = b at *
            have HDy := Lib.hid (HD2.out.later HBY.out)
            obtain ⟨gd, od, a1, n1, c1, a3, n3, c3, rfl, hgd, r1, r2, k1, k2⟩ := HDy.out.cell halt
            obtain ⟨gd', od', b1, p1, d1, b3, p3, d3, e9, hgd', r3, r4, k3, k4⟩ := HDy.out.cell hblt
            injection e9 with e9
            injection e9 with e10 e11
            subst e10 e11
            have HMM : Hid (∀ q, Calls Try.prog 20 #[.slice a3 n3 c3, .slice b1 p1 d1] (wy.drewN q) fun e w' => e = .returned (.bool false) ∧ w' = wy.drewN q) := Lib.hid (fun q => meets_is (Gt.below k2 (below_drewN _ _ _)) (Gt.below k3 (below_drewN _ _ _)) false ⟨(by intro h; cases h), fun h => absurd h HNO.out⟩)
            have db1 : decide ((b : Int) < 0) = false := decide_eq_false (by omega)
            have db2 : decide (m2 ≤ b) = false := decide_eq_false (by omega)
            have HKQ : Hid (∀ q, Below wx.heap.size wx (wy.drewN q)) := Lib.hid (fun q => HK.out.trans (below_drewN _ _ _))
            clear k1 k2 k3 k4 r1 r4 hgd hgd' hkl
            go_wp2_with fail
            go_big_quiet ((go_at_call 20; exact Calls.quiet_of_same (HMM.out _)))
            go_wp2_with fail
            go_roundw
            case rel =>
              first
              | exact ⟨k + 1, by omega, by go_num, Lib.hid (HKQ.out _)⟩
              | ((repeat apply Exists.intro); exact ⟨⟨k + 1, by omega, by go_num, Lib.hid (HKQ.out _)⟩, rfl⟩)
            case measure => simp [intOf]; omega
          · have hkk : k = m2 - (i + 1) := by omega
            have HEND := Lib.hid (HIX.out.later HK.out)
            clear hkk
            go_wp2_with fail
            go_roundw
            case rel => exact ⟨i + 1, by omega, by go_num, HEND⟩
            case measure => simp [intOf]; omega
      · obtain rfl : i = m2 := by omega
        go_wp2_with fail
        go_ret
        exact ⟨rfl, HB2.out.trans (HW.out.below.mono HB2.out.size)⟩
end Go.Proofs.Ytljmigomhoefpaa.Bk
