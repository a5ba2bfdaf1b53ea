/-
  AgingBound: the walk.
-/
import Derived.Test.YtgeahckblgpnmaaAgN
set_option linter.unusedVariables false
set_option maxRecDepth 100000
namespace Go.Proofs.Ytgeahckblgpnmaa
namespace Ag
open Go.RowKit Bk

open Go.Maps
theorem ids_lt {s : Int} {d : Nat} {L : List Wr} (h : Qi s d L) {i j : Nat} (hij : i < j) (hj : j < L.length) : (wat L i).1 < (wat L j).1 := by
  rw [wat_get (by omega), wat_get hj]
  exact List.pairwise_iff_getElem.1 h.ids i j (by omega) hj hij
/-- Those that a taken one leaves, as they were. -/
theorem tk_old {s : Int} {d : Nat} {L : List Wr} (h : Qi s d L) (hne : L ≠ []) {y : Wr} (hy : y ∈ tkL s L) : ∃ z ∈ L, z.1 = y.1 ∧ z.2.1 = y.2.1 ∧ z.2.2 = if y.1 < nxN s L then y.2.2 - 1 else y.2.2 := by
  have r := nx_rng s L
  have r3 := r.2.2 hne
  unfold tkL at hy
  rw [if_neg (by omega)] at hy
  have hN : nxN s L = (wat L (nx s L).toNat).1 := by unfold nxN; rw [if_neg (by omega)]
  rw [hN]
  obtain ⟨m, hm⟩ := Int.eq_ofNat_of_zero_le r3
  rw [hm, Int.toNat_natCast] at hy ⊢
  have hml : m < L.length := by omega
  unfold out at hy
  rcases List.mem_append.1 hy with q | q
  · obtain ⟨j, hj, rfl⟩ := List.getElem_of_mem q
    rw [List.length_take, bump_len] at hj
    have e : (List.take m (bump m L))[j]'(by rw [List.length_take, bump_len]; omega) = up (wat L j) := by
      rw [List.getElem_take, ← wat_get (by rw [bump_len]; omega), bump_get (by omega), if_pos (by omega)]
    rw [e]
    refine ⟨wat L j, wat_mem (by omega), rfl, rfl, ?_⟩
    have := ids_lt h (i := j) (j := m) (by omega) hml
    show (wat L j).2.2 = if (wat L j).1 < (wat L m).1 then (wat L j).2.2 + 1 - 1 else (wat L j).2.2 + 1
    rw [if_pos this]
    omega
  · obtain ⟨j, hj, rfl⟩ := List.getElem_of_mem q
    rw [List.length_drop, bump_len] at hj
    have e : (List.drop (m + 1) (bump m L))[j]'(by rw [List.length_drop, bump_len]; omega) = wat L (m + 1 + j) := by
      rw [List.getElem_drop, ← wat_get (by rw [bump_len]; omega), bump_get (by omega), if_neg (by omega)]
    rw [e]
    refine ⟨_, wat_mem (by omega), rfl, rfl, ?_⟩
    have := ids_lt h (i := m) (j := m + 1 + j) (by omega) (by omega)
    rw [if_neg (by omega)]
theorem nos_dr {s : Int} {d : Nat} {L : List Wr} (h : Qi s d L) {n : Int} (hb : drB n L = true) : nos (drL n L) = (nos L).erase n := by
  unfold drB at hb
  unfold drL
  rcases pl_cases n L with ⟨k, h1, h2, h3, _⟩ | ⟨h1, h2⟩
  · rw [h1, if_neg (by omega), Int.toNat_natCast]
    have hl : k < (nos L).length := by unfold nos; rw [List.length_map]; exact h2
    have e1 : n = (nos L)[k] := by rw [← h3, wat_get h2]; simp [nos]
    rw [e1, erase_at (nos_nodup h) hl]
    simp [nos, out, List.map_take, List.map_drop]
  · rw [h2] at hb; simp at hb
theorem dr_sub {n : Int} {L : List Wr} {y : Wr} (hy : y ∈ drL n L) : y ∈ L := by
  unfold drL at hy
  split at hy
  · exact hy
  · exact (out_sub _ _).subset hy
theorem dr_same {n : Int} {L : List Wr} (hb : drB n L = false) : drL n L = L := by
  unfold drB at hb
  unfold drL
  rw [if_pos (by simpa using hb)]
section
variable {w0 w w' : World} {g bp bb : Nat} {k : Int} {v : Value} {d dp : Nat} {L Lp Lb : List Wr} {F : Wr → Int} {N : Nat}
theorem Bs.fewer {Lp' : List Wr} (h : Bs w0 g bp bb k v d L dp Lp Lb F N w) (hs : ∀ y' ∈ Lp', ∃ y ∈ Lp, y.1 = y'.1 ∧ y.2.1 = y'.2.1) : Bs w0 g bp bb k v d L dp Lp' Lb F N w := by
  obtain ⟨lp, U, p1, p2, p3⟩ := h.pm
  refine ⟨h.q, ⟨lp, U, p1, p2, fun y hy => ?_⟩, h.bm, h.ne, h.lo, h.be⟩
  obtain ⟨z, hz, e1, e2⟩ := hs y hy
  rw [← e1, ← e2]
  exact p3 z hz
theorem nos_apart {s : Int} (h : Qi s d L) : L.Pairwise fun a b => a.1 ≠ b.1 := h.ids.imp (fun {a b} q => by omega)
/-- What the maps tell of one that waits. -/
theorem Bs.asks (h : Bs w0 g bp bb k v d L d L L (fun y => y.2.2) N w) (hd : d ≤ 1000000) {i : Nat} (hi : i < L.length) :
    (Instr.lookup 44 (.map (some bb)) (.int .i64 (wat L i).1) true).run Try.prog w = .ok (.tuple #[.int .i64 (wat L i).2.2, .bool true]) w ∧ (Instr.lookup 44 (.map (some bp)) (.int .i64 (wat L i).1) false).run Try.prog w = .ok (.int .i64 (wat L i).2.1) w := by
  obtain ⟨lp, U, p1, p2, p3⟩ := h.pm
  obtain ⟨U', p4, p5⟩ := h.bm
  have hm := wat_mem hi
  have hw := nos_iw h.q.ok hd hi
  exact ⟨p4.ask_ok hw (nos_mem hi) (p5 _ hm), p1.ask_int hw (p3 _ hm).1 (p3 _ hm).2⟩
theorem Bs.size (h : Bs w0 g bp bb k v d L d L L (fun y => y.2.2) N w) (ty : TypeId) : (Builtin.len_ #[44] ty #[.map (some bb)]).run Try.prog w = .ok (.int .i64 (L.length : Int)) w := by
  obtain ⟨U', p4, p5⟩ := h.bm
  rw [p4.len_run Try.underlying44 ty]
  unfold nos
  rw [List.length_map]
end
set_option maxHeartbeats 16000000 in
theorem agingBound_walk (rb : Nat) (hrb : rb ≤ 255) (A : Option Addr) (n cap : Nat) (f : Nat → Nat × Int) (w : World) (h : Acts12 w.heap.size w A n cap f) (_ : True) :
    Calls Try.prog 4 #[.int .u8 (rb : Int), .slice A n cap] w fun e w' => e = .returned (.bool true) ∧ Below w.heap.size w w' := by
  have HA := Lib.hid h
  clear h
  obtain ⟨k, hk⟩ : ∃ k : Nat, k = rb % 21 := ⟨_, rfl⟩
  have hk2 : (rb : Int) % 21 = (k : Int) := by omega
  have hk3 : k ≤ 20 := by omega
  clear hk
  go_enter Try.func4, Try.ntmps4
  go_wp2_with fail
  refine (shown12_any _).mono ?_
  rintro e w1 ⟨rfl, hb1⟩
  have HB1 := Lib.hid hb1
  clear hb1
  go_wp2_with fail
  refine (new_ok k (by omega) w1).mono ?_
  rintro e w2 ⟨rfl, hq, hb⟩
  obtain ⟨g, hg⟩ : ∃ g, g = w1.heap.size := ⟨_, rfl⟩
  have HG : Hid (w.heap.size ≤ g) := Lib.hid (by rw [hg]; exact HB1.out.size)
  rw [← hg] at hq ⊢
  have HQ0 : Hid (St w2 g k 0) := Lib.hid ⟨_, _, _, hq, Nat.le_refl _⟩
  have HB2 := Lib.hid (HB1.out.trans (hb.mono HB1.out.size))
  clear hq hb hg HB1
  have hmk := makeMapI
  have hA1 := (Below.refl w2.heap.size w2).alloc (Nat.le_refl _) (.map #[] 0)
  have hz1 : (w2.alloc (.map #[] 0)).heap.size = w2.heap.size + 1 := by simp
  have hA2 := (Below.refl (w2.alloc (.map #[] 0)).heap.size (w2.alloc (.map #[] 0))).alloc (Nat.le_refl _) (.map #[] 0)
  have HBS : Hid (∃ v d L, Bs w g w2.heap.size (w2.heap.size + 1) k v d L d L L (fun y => y.2.2) (2 * 0) ((w2.alloc (.map #[] 0)).alloc (.map #[] 0)) ∧ d ≤ 0) := Lib.hid (by
    obtain ⟨v, d, L, hq, hd⟩ := HQ0.out
    obtain rfl : d = 0 := by omega
    have hL : L = [] := by
      match L, hq with
      | [], _ => rfl
      | x :: L, hq => have := hq.ok.old x (by simp); omega
    subst hL
    have hm1 := (KM.made (plainElem Try.prog 3) w2 (fun _ => lI 0)).later hA2
    have hm2 := KM.made (plainElem Try.prog 3) (w2.alloc (.map #[] 0)) (fun _ => lI 0)
    rw [hz1] at hm2
    have hb := HB2.out.trans (hA1.mono HB2.out.size)
    have hs := HB2.out.size
    exact ⟨v, 0, [], ⟨(hq.later hA1).later hA2, ⟨[], _, hm1, by simp, by simp⟩, ⟨_, hm2, by simp⟩, by omega, ⟨HG.out, by omega, by omega⟩, hb.trans (hA2.mono hb.size)⟩, Nat.le_refl _⟩)
  obtain ⟨bp, hbp⟩ : ∃ bp, bp = w2.heap.size := ⟨_, rfl⟩
  obtain ⟨bb, hbb⟩ : ∃ bb, bb = w2.heap.size + 1 := ⟨_, rfl⟩
  rw [← hbb, ← hbp] at HBS
  have HBP := Lib.hid (And.intro hbp hbb)
  clear hA1 hz1 hA2 hbp hbb HQ0 HB2
  go_wp2_with (go_at_call 11; refine (few12_any A n cap _ HA.out.le HA.out.max HA.out.nil).mono ?_; rintro e w2' ⟨rfl, m, hm, hm2, rfl⟩)
  have hcs : m ≤ cap := Nat.le_trans hm HA.out.le
  have hcs2 : cap ≤ 9223372036854775807 := by have := HA.out.max; unfold maxLen at this; omega
  generalize (w2.alloc (.map #[] 0)).alloc (.map #[] 0) = w3 at *
  rw [← HBP.out.2, ← HBP.out.1]
  clear HBP hmk
  go_loopw [43] (fun iv wr => ∃ j : Nat, iv = .int .i64 (j : Int) ∧ j ≤ m ∧ Hid (∃ v d L, Bs w g bp bb k v d L d L L (fun y => y.2.2) (2 * j) wr ∧ d ≤ j)) (fun iv _ => m - (intOf iv).toNat)
  case atStart => exact ⟨0, rfl, Nat.zero_le _, HBS⟩
  case round =>
    rename World => wr
    obtain ⟨j, rfl, hj, HS⟩ := hrel
    obtain ⟨v, d, L, hbs, hd⟩ := HS.out
    by_cases hlj : j < m
    · obtain ⟨ga, off, rfl, hga, hc⟩ := (HA.out.below hbs.be).cell (by omega)
      obtain ⟨k0, k1⟩ := hc j (by omega)
      have hfit := HA.out.fits j (by omega)
      have hjI : (j : Int) < (m : Int) := by omega
      have hga2 : ga < wr.heap.size := Nat.lt_of_lt_of_le hga hbs.be.size
      generalize f j = fj at *
      obtain ⟨q, x⟩ := fj
      have k0 : wr.cell? ⟨ga, off + j * 2, none⟩ = some (.int .u8 (q : Int)) := k0
      have k1 : wr.cell? ⟨ga, off + j * 2 + 1, none⟩ = some (.int .i64 x) := k1
      have hq255 : q ≤ 255 := hfit
      obtain ⟨b0, b1⟩ := act_cells wr q x
      have hAA := (Below.refl wr.heap.size wr).alloc (Nat.le_refl _) (.cells #[.int .u8 (q : Int), .int .i64 x] 34)
      have HBA := Lib.hid (hbs.later hAA)
      have HXA : Hid (Ax wr.heap.size q x (wr.alloc (.cells #[.int .u8 (q : Int), .int .i64 x] 34))) := Lib.hid (heap_alloc_new wr _)
      have HD : Hid (d ≤ j ∧ m ≤ 300 ∧ j < m) := Lib.hid ⟨hd, hm2, hlj⟩
      clear hc hga hfit hbs hd HS hAA
      rcases (by omega : q % 3 = 0 ∨ q % 3 = 1 ∨ q % 3 = 2) with hr | hr | hr
      · have hrI : (q : Int) % 3 = 0 := by omega
        have HT := Lib.hid (Add_any HBA.out.q (by have := HD.out; omega) (Nat.le_of_lt HBA.out.q.lt) x)
        clear hr
        by_cases hE : adE x L = 0
        · have hN : adN x d L = (d : Int) := by
            obtain ⟨h1, h2⟩ := adE_zero.1 hE
            unfold adN; rw [if_neg (by omega), if_neg (by omega)]
          have hDD : adD x d L = d + 1 := by unfold adD; rw [hE]; rfl
          have hLL : adL x d L = L ++ [((d : Int), x, 0)] := by unfold adL; rw [hE]; rfl
          rw [hE, hN, hDD, hLL] at HT
          have HX5 : Hid (IW x) := Lib.hid (by obtain ⟨h1, h2⟩ := adE_zero.1 hE; unfold IW; omega)
          clear hE hN hDD hLL
          go_wp2_with fail
          refine HT.out.mono ?_
          intro e w4 h4
          obtain ⟨rfl, v4, hbs4, hx4⟩ := HBA.out.act HXA.out h4
          have hold : ∀ y ∈ L, y.1 < (d : Int) := fun y hy => (HBA.out.q.ok.old y hy).2
          obtain ⟨wp, hrun1, hbsp, hxp⟩ := hbs4.putP (b := 0) hx4 (by have := HD.out; omega) (by have := HD.out; omega) HX5.out hold
          obtain ⟨wq, hrun2, hbsq, -⟩ := hbsp.putB hxp (by have := HD.out; omega) (n := (d : Int)) (p := x) (b := 0) (by have := HD.out; unfold IW; omega) hold rfl
          have HE : Hid (∃ v d L, Bs w g bp bb k v d L d L L (fun y => y.2.2) (2 * (j + 1)) wq ∧ d ≤ j + 1) := Lib.hid ⟨v4, d + 1, _, hbsq.mono (by omega), by have := HD.out; omega⟩
          obtain ⟨y0, y1⟩ := hx4.cells
          clear h4 HT hbs4 hbsp hbsq hxp hx4 b0 b1 hold HBA HXA
          obtain ⟨v6, d6, L6, hbs6, hd6⟩ := HE.out
          have HS6 := Lib.hid hbs6
          have HD6 : Hid (d6 ≤ j + 1 ∧ j < 300) := Lib.hid ⟨hd6, by have := HD.out; omega⟩
          have HL6 := Lib.hid (All_any hbs6.q)
          clear HE hbs6 hd6
          try go_wp2_with fail
          refine HL6.out.mono ?_
          rintro e w7 ⟨A7, n7, c7, rfl, hn7, ho7, hb7⟩
          have HS7 := Lib.hid (HS6.out.later hb7)
          have HO7 := Lib.hid ((ho7.wg).2)
          have HN7 := Lib.hid hn7
          have hs7 := Gt.size (ho7.wg).2
          have hs71 := hs7.1
          have hs72 := hs7.2
          have hf7 : n7 ≤ 64 := by rw [hn7]; exact HS6.out.q.ok.few
          have hlen := fun ty => HS7.out.size ty
          rw [← hn7] at hlen
          have hi3 : ((n7 : Int) != (n7 : Int)) = false := bne_self_eq_false _
          clear hn7 ho7 hb7 HL6 hs7 HS6
          go_wp2_with fail
          go_loopw [107] (fun iv wz => ∃ i : Nat, iv = .int .i64 (i : Int) ∧ i ≤ n7 ∧ Hid (Below w7.heap.size w7 wz)) (fun iv _ => n7 - (intOf iv).toNat)
          case atStart => exact ⟨0, rfl, Nat.zero_le _, Lib.hid (Below.refl _ _)⟩
          case round =>
            rename World => wz
            obtain ⟨i, rfl, hi, HBz⟩ := hrel
            clear hlen hi3
            by_cases hli : i < n7
            · obtain ⟨gz, oz, rfl, -, k0', k1', k2'⟩ := (HO7.out.later HBz.out).cell hli
              have hiI : (i : Int) < (n7 : Int) := by omega
              have hiL : i < L6.length := by rw [← HN7.out]; exact hli
              obtain ⟨c0, c1, c2⟩ := box3_cells wz (wat L6 i).1 (wat L6 i).2.1 (wat L6 i).2.2
              have hA1 := (Below.refl wz.heap.size wz).alloc (Nat.le_refl _) (.cells #[.int .i64 (wat L6 i).1, .int .i64 (wat L6 i).2.1, .int .i64 (wat L6 i).2.2] 46)
              have HBn := Lib.hid (HBz.out.trans (hA1.mono HBz.out.size))
              obtain ⟨a1, a2⟩ := ((HS7.out.later HBz.out).later hA1).asks (by have := HD6.out; omega) hiL
              have hp := HS7.out.q.ok.prio _ (wat_mem hiL)
              have hsm := HS7.out.q.ok.small (wat_mem hiL)
              have hby := HS7.out.q.ok.byp _ (wat_mem hiL)
              have hp0 : 0 ≤ (wat L6 i).2.1 := hp.1
              have hp1 : (wat L6 i).2.1 ≤ 5 := hp.2
              have hm0 : 0 ≤ (k : Int) * (5 - (wat L6 i).2.1) := hsm.1
              have hm1 : (k : Int) * (5 - (wat L6 i).2.1) ≤ 5000 := hsm.2
              have dK : decide ((k : Int) * (5 - (wat L6 i).2.1) < (wat L6 i).2.2) = false := decide_eq_false (by have := hby.2; omega)
              clear hA1 hiL hp hsm hby
              generalize (wat L6 i).1 = x1 at *
              generalize (wat L6 i).2.1 = x2 at *
              generalize (wat L6 i).2.2 = x3 at *
              have hi4 : (x3 != x3) = false := bne_self_eq_false _
              have hi5 : (x2 != x2) = false := bne_self_eq_false _
              go_wp2_with fail
              go_roundw
              case rel => first | exact ⟨i + 1, by go_num, by omega, HBn⟩ | ((repeat apply Exists.intro); exact ⟨⟨i + 1, by go_num, by omega, HBn⟩, rfl⟩)
              case measure => simp [intOf]; omega
            · obtain rfl : i = n7 := by omega
              have HEND : Hid (∃ v d L, Bs w g bp bb k v d L d L L (fun y => y.2.2) (2 * (j + 1)) wz ∧ d ≤ j + 1) := Lib.hid ⟨v6, d6, L6, HS7.out.later HBz.out, HD6.out.1⟩
              go_wp2_with fail
              go_roundw
              case rel => first | exact ⟨j + 1, by go_num, by omega, HEND⟩ | ((repeat apply Exists.intro); exact ⟨⟨j + 1, by go_num, by omega, HEND⟩, rfl⟩)
              case measure => simp [intOf]; omega
        · have hDD : adD x d L = d := by unfold adD; rw [if_neg hE]
          have hLL : adL x d L = L := by unfold adL; rw [if_neg hE]
          rw [hDD, hLL] at HT
          have dE : (adE x L == 0) = false := by rw [beq_eq_false_iff_ne]; exact hE
          clear hE hDD hLL
          generalize adN x d L = xn at *
          generalize adE x L = xe at *
          go_wp2_with fail
          refine HT.out.mono ?_
          intro e w4 h4
          obtain ⟨rfl, v4, hbs4, hx4⟩ := HBA.out.act HXA.out h4
          have HE : Hid (∃ v d L, Bs w g bp bb k v d L d L L (fun y => y.2.2) (2 * (j + 1)) w4 ∧ d ≤ j + 1) := Lib.hid ⟨v4, d, _, hbs4.mono (by omega), by have := HD.out; omega⟩
          clear h4 HT hbs4 hx4 b0 b1 HBA HXA
          obtain ⟨v6, d6, L6, hbs6, hd6⟩ := HE.out
          have HS6 := Lib.hid hbs6
          have HD6 : Hid (d6 ≤ j + 1 ∧ j < 300) := Lib.hid ⟨hd6, by have := HD.out; omega⟩
          have HL6 := Lib.hid (All_any hbs6.q)
          clear HE hbs6 hd6
          try go_wp2_with fail
          refine HL6.out.mono ?_
          rintro e w7 ⟨A7, n7, c7, rfl, hn7, ho7, hb7⟩
          have HS7 := Lib.hid (HS6.out.later hb7)
          have HO7 := Lib.hid ((ho7.wg).2)
          have HN7 := Lib.hid hn7
          have hs7 := Gt.size (ho7.wg).2
          have hs71 := hs7.1
          have hs72 := hs7.2
          have hf7 : n7 ≤ 64 := by rw [hn7]; exact HS6.out.q.ok.few
          have hlen := fun ty => HS7.out.size ty
          rw [← hn7] at hlen
          have hi3 : ((n7 : Int) != (n7 : Int)) = false := bne_self_eq_false _
          clear hn7 ho7 hb7 HL6 hs7 HS6
          go_wp2_with fail
          go_loopw [107] (fun iv wz => ∃ i : Nat, iv = .int .i64 (i : Int) ∧ i ≤ n7 ∧ Hid (Below w7.heap.size w7 wz)) (fun iv _ => n7 - (intOf iv).toNat)
          case atStart => exact ⟨0, rfl, Nat.zero_le _, Lib.hid (Below.refl _ _)⟩
          case round =>
            rename World => wz
            obtain ⟨i, rfl, hi, HBz⟩ := hrel
            clear hlen hi3
            by_cases hli : i < n7
            · obtain ⟨gz, oz, rfl, -, k0', k1', k2'⟩ := (HO7.out.later HBz.out).cell hli
              have hiI : (i : Int) < (n7 : Int) := by omega
              have hiL : i < L6.length := by rw [← HN7.out]; exact hli
              obtain ⟨c0, c1, c2⟩ := box3_cells wz (wat L6 i).1 (wat L6 i).2.1 (wat L6 i).2.2
              have hA1 := (Below.refl wz.heap.size wz).alloc (Nat.le_refl _) (.cells #[.int .i64 (wat L6 i).1, .int .i64 (wat L6 i).2.1, .int .i64 (wat L6 i).2.2] 46)
              have HBn := Lib.hid (HBz.out.trans (hA1.mono HBz.out.size))
              obtain ⟨a1, a2⟩ := ((HS7.out.later HBz.out).later hA1).asks (by have := HD6.out; omega) hiL
              have hp := HS7.out.q.ok.prio _ (wat_mem hiL)
              have hsm := HS7.out.q.ok.small (wat_mem hiL)
              have hby := HS7.out.q.ok.byp _ (wat_mem hiL)
              have hp0 : 0 ≤ (wat L6 i).2.1 := hp.1
              have hp1 : (wat L6 i).2.1 ≤ 5 := hp.2
              have hm0 : 0 ≤ (k : Int) * (5 - (wat L6 i).2.1) := hsm.1
              have hm1 : (k : Int) * (5 - (wat L6 i).2.1) ≤ 5000 := hsm.2
              have dK : decide ((k : Int) * (5 - (wat L6 i).2.1) < (wat L6 i).2.2) = false := decide_eq_false (by have := hby.2; omega)
              clear hA1 hiL hp hsm hby
              generalize (wat L6 i).1 = x1 at *
              generalize (wat L6 i).2.1 = x2 at *
              generalize (wat L6 i).2.2 = x3 at *
              have hi4 : (x3 != x3) = false := bne_self_eq_false _
              have hi5 : (x2 != x2) = false := bne_self_eq_false _
              go_wp2_with fail
              go_roundw
              case rel => first | exact ⟨i + 1, by go_num, by omega, HBn⟩ | ((repeat apply Exists.intro); exact ⟨⟨i + 1, by go_num, by omega, HBn⟩, rfl⟩)
              case measure => simp [intOf]; omega
            · obtain rfl : i = n7 := by omega
              have HEND : Hid (∃ v d L, Bs w g bp bb k v d L d L L (fun y => y.2.2) (2 * (j + 1)) wz ∧ d ≤ j + 1) := Lib.hid ⟨v6, d6, L6, HS7.out.later HBz.out, HD6.out.1⟩
              go_wp2_with fail
              go_roundw
              case rel => first | exact ⟨j + 1, by go_num, by omega, HEND⟩ | ((repeat apply Exists.intro); exact ⟨⟨j + 1, by go_num, by omega, HEND⟩, rfl⟩)
              case measure => simp [intOf]; omega
      · have hrI : (q : Int) % 3 = 1 := by omega
        have HT := Lib.hid (Take_any HBA.out.q)
        clear hr
        by_cases hne : L = []
        · subst hne
          have hV : nxV k [] = .tuple #[.int .i64 0, .bool false] := rfl
          rw [hV] at HT
          clear hV
          go_wp2_with fail
          refine HT.out.mono ?_
          intro e w4 h4
          obtain ⟨rfl, v4, hbs4, hx4⟩ := HBA.out.act HXA.out h4
          have HEND : Hid (∃ v d L, Bs w g bp bb k v d L d L L (fun y => y.2.2) (2 * (j + 1)) w4 ∧ d ≤ j + 1) := Lib.hid ⟨v4, d, [], hbs4.mono (by omega), by have := HD.out; omega⟩
          clear h4 HT hbs4 hx4 b0 b1 HBA HXA
          go_wp2_with fail
          go_roundw
          case rel => first | exact ⟨j + 1, by go_num, by omega, HEND⟩ | ((repeat apply Exists.intro); exact ⟨⟨j + 1, by go_num, by omega, HEND⟩, rfl⟩)
          case measure => simp [intOf]; omega
        · have hB : nxB k L = true := nxB_iff.2 hne
          unfold nxV at HT
          rw [hB] at HT
          have HIW : Hid (IW (nxN k L)) := Lib.hid (by
            obtain ⟨y, hy, e⟩ := List.mem_map.1 (nxN_mem (s := k) hne)
            have := HBA.out.q.ok.old y hy
            have := HD.out
            unfold IW; omega)
          have HNT : Hid (nos (tkL k L) = (nos L).erase (nxN k L)) := Lib.hid (nos_tk HBA.out.q.ok hne)
          have HOLD := Lib.hid (fun (y : Wr) (hy : y ∈ tkL k L) => tk_old HBA.out.q.ok hne hy)
          have HQI := Lib.hid (HBA.out.q.ok.take)
          have HND := Lib.hid (nos_nodup HBA.out.q.ok)
          clear hne hB
          generalize nxN k L = ID at *
          generalize tkL k L = L' at *
          go_wp2_with fail
          refine HT.out.mono ?_
          intro e w4 h4
          obtain ⟨rfl, v4, hbs4, hx4⟩ := HBA.out.act HXA.out h4
          obtain ⟨U, hU, hF⟩ := hbs4.bm
          have HU := Lib.hid (And.intro hU hF)
          have HS4 := Lib.hid hbs4
          clear h4 HT hbs4 hx4 b0 b1 HBA HXA hU hF
          go_wp2_with (first
            | (at_delete; refine km_del _ rfl _ _ 44 rfl 3 Try.underlying44 rfl HU.out.1 HND.out ID HIW.out rfl ?_; intro w5 hk5 hg5; have HS5 := Lib.hid (((HS4.out.struck (Lb' := L') (F' := fun y => if y.1 < ID then y.2.2 - 1 else y.2.2) HU.out.1 HU.out.2 hk5 hg5 HNT.out (fun y hy => (by obtain ⟨z, hz, e1, e2, e3⟩ := HOLD.out y hy; exact ⟨z, hz, e1, e3⟩)))).fewer (Lp' := L') (fun y hy => (by obtain ⟨z, hz, e1, e2, e3⟩ := HOLD.out y hy; exact ⟨z, hz, e1, e2⟩))); rw [← HNT.out] at hk5; have HK5 := Lib.hid hk5; obtain ⟨D, hD, hh, hv, hsz⟩ := hk5; have HH5 := Lib.hid (And.intro hh (And.intro hv hsz)); clear hh hv hsz hg5)
            | (at_range; refine wpList_range_own _ rfl _ 44 rfl 3 3 (int_keyed Try.underlying3) Try.underlying44 _ bb _ D rfl hD ?_; intro wg hrg0 hg0 hs0))
          try go_frame
          have HRN : Hid (Rn w5 bb w5.heap.size (2 * j) ID L' D (has D) (size D) wg) := Lib.hid (Rn.start hrg0 HH5.out.1 (fun y hy z => by
            obtain ⟨z0, hz0, e1, e2, e3⟩ := HOLD.out y hy
            rw [HH5.out.2.1 _ (List.mem_map.2 ⟨y, hy, rfl⟩), ← e1, HU.out.2 z0 hz0, e3, ← e1]) (by rw [HH5.out.2.2]; simp [nos]) hg0)
          clear hrg0 hg0 hs0 hD HH5
          go_loopw [17] (fun _ wx => ∃ D left cnt, Rn w5 bb w5.heap.size (2 * j) ID L' D left cnt wx) (fun _ wx => wx.rangeLeft bb w5.heap.size)
          case atStart => exact ⟨_, _, _, HRN.out⟩
          case round =>
            rename World => wx
            obtain ⟨D1, left, cnt, hR⟩ := hrel
            have HR := Lib.hid hR
            have hrg := hR.rg
            clear hR HRN
            go_wp2_with (first
              | (at_next; refine wpList_next_ranges_ii _ rfl _ rfl 3 3 .i64 .i64 (int_keyed Try.underlying3) Try.underlying3 Try.underlying3 bb w5.heap.size (2 * j) _ _ _ rfl hrg ?_ ?_)
              | go_in)
            · intro _ hl0
              have HE : Hid (∃ v d L, Bs w g bp bb k v d L d L L (fun y => y.2.2) (2 * (j + 1)) wx ∧ d ≤ j + 1) := Lib.hid ⟨v4, d, L', (HR.out.done hl0 HS5.out HK5.out).mono (by omega), by have := HD.out; omega⟩
              clear hrg hl0
              go_wp2_with fail
              obtain ⟨v6, d6, L6, hbs6, hd6⟩ := HE.out
              have HS6 := Lib.hid hbs6
              have HD6 : Hid (d6 ≤ j + 1 ∧ j < 300) := Lib.hid ⟨hd6, by have := HD.out; omega⟩
              have HL6 := Lib.hid (All_any hbs6.q)
              clear HE hbs6 hd6
              try go_wp2_with fail
              refine HL6.out.mono ?_
              rintro e w7 ⟨A7, n7, c7, rfl, hn7, ho7, hb7⟩
              have HS7 := Lib.hid (HS6.out.later hb7)
              have HO7 := Lib.hid ((ho7.wg).2)
              have HN7 := Lib.hid hn7
              have hs7 := Gt.size (ho7.wg).2
              have hs71 := hs7.1
              have hs72 := hs7.2
              have hf7 : n7 ≤ 64 := by rw [hn7]; exact HS6.out.q.ok.few
              have hlen := fun ty => HS7.out.size ty
              rw [← hn7] at hlen
              have hi3 : ((n7 : Int) != (n7 : Int)) = false := bne_self_eq_false _
              clear hn7 ho7 hb7 HL6 hs7 HS6
              go_wp2_with fail
              go_loopw [107] (fun iv wz => ∃ i : Nat, iv = .int .i64 (i : Int) ∧ i ≤ n7 ∧ Hid (Below w7.heap.size w7 wz)) (fun iv _ => n7 - (intOf iv).toNat)
              case atStart => exact ⟨0, rfl, Nat.zero_le _, Lib.hid (Below.refl _ _)⟩
              case round =>
                rename World => wz
                obtain ⟨i, rfl, hi, HBz⟩ := hrel
                clear hlen hi3
                by_cases hli : i < n7
                · obtain ⟨gz, oz, rfl, -, k0', k1', k2'⟩ := (HO7.out.later HBz.out).cell hli
                  have hiI : (i : Int) < (n7 : Int) := by omega
                  have hiL : i < L6.length := by rw [← HN7.out]; exact hli
                  obtain ⟨c0, c1, c2⟩ := box3_cells wz (wat L6 i).1 (wat L6 i).2.1 (wat L6 i).2.2
                  have hA1 := (Below.refl wz.heap.size wz).alloc (Nat.le_refl _) (.cells #[.int .i64 (wat L6 i).1, .int .i64 (wat L6 i).2.1, .int .i64 (wat L6 i).2.2] 46)
                  have HBn := Lib.hid (HBz.out.trans (hA1.mono HBz.out.size))
                  obtain ⟨a1, a2⟩ := ((HS7.out.later HBz.out).later hA1).asks (by have := HD6.out; omega) hiL
                  have hp := HS7.out.q.ok.prio _ (wat_mem hiL)
                  have hsm := HS7.out.q.ok.small (wat_mem hiL)
                  have hby := HS7.out.q.ok.byp _ (wat_mem hiL)
                  have hp0 : 0 ≤ (wat L6 i).2.1 := hp.1
                  have hp1 : (wat L6 i).2.1 ≤ 5 := hp.2
                  have hm0 : 0 ≤ (k : Int) * (5 - (wat L6 i).2.1) := hsm.1
                  have hm1 : (k : Int) * (5 - (wat L6 i).2.1) ≤ 5000 := hsm.2
                  have dK : decide ((k : Int) * (5 - (wat L6 i).2.1) < (wat L6 i).2.2) = false := decide_eq_false (by have := hby.2; omega)
                  clear hA1 hiL hp hsm hby
                  generalize (wat L6 i).1 = x1 at *
                  generalize (wat L6 i).2.1 = x2 at *
                  generalize (wat L6 i).2.2 = x3 at *
                  have hi4 : (x3 != x3) = false := bne_self_eq_false _
                  have hi5 : (x2 != x2) = false := bne_self_eq_false _
                  go_wp2_with fail
                  go_roundw
                  case rel => first | exact ⟨i + 1, by go_num, by omega, HBn⟩ | ((repeat apply Exists.intro); exact ⟨⟨i + 1, by go_num, by omega, HBn⟩, rfl⟩)
                  case measure => simp [intOf]; omega
                · obtain rfl : i = n7 := by omega
                  have HEND : Hid (∃ v d L, Bs w g bp bb k v d L d L L (fun y => y.2.2) (2 * (j + 1)) wz ∧ d ≤ j + 1) := Lib.hid ⟨v6, d6, L6, HS7.out.later HBz.out, HD6.out.1⟩
                  go_wp2_with fail
                  go_roundw
                  case rel => first | exact ⟨j + 1, by go_num, by omega, HEND⟩ | ((repeat apply Exists.intro); exact ⟨⟨j + 1, by go_num, by omega, HEND⟩, rfl⟩)
                  case measure => simp [intOf]; omega
            · intro kx c wy cnt1 hwx hwc hlx hat hrg1 hlt1 hg1 hs1 hen
              have hin : kx ∈ nos L' := by
                have h1 : has D1 (kI kx) = true := has_true_of_atKey hat
                rw [HR.out.hask] at h1
                exact of_decide_eq_true h1
              obtain ⟨y0, hy0, hye⟩ := List.mem_map.1 hin
              have hval : (if kx < ID then y0.2.2 - 1 else y0.2.2) = c := by
                have hat0 : D1.atKey (kI y0.1) (lI 0) = lI c := by
                  rw [show y0.1 = kx from hye]
                  exact hat (lI 0)
                have h1 := (HR.out.val y0 hy0 (lI 0)).symm.trans hat0
                have h2 : left (kI y0.1) = true := by rw [show y0.1 = kx from hye]; exact hlx
                rw [h2] at h1
                have h3 : (if y0.1 < ID ∧ true = true then y0.2.2 - 1 else y0.2.2) = c := by simpa [lI] using h1
                rw [show y0.1 = kx from hye] at h3
                simpa using h3
              have hby := HQI.out.byp y0 hy0
              have hbs := HQI.out.small hy0
              have HY := Lib.hid (And.intro hy0 hye)
              have HRG1 := Lib.hid hrg1
              have HG1 := Lib.hid hg1
              have HLT := Lib.hid hlt1
              have HAT := Lib.hid hat
              by_cases hlt : kx < ID
              · have dL : decide (kx < ID) = true := decide_eq_true hlt
                rw [if_pos hlt] at hval
                obtain ⟨c2, hlk, hc2, -⟩ := hrg1.owns.lookup_int (int_keyed Try.underlying3) Try.underlying44 Try.underlying3 (zeroI wy) (keyOf_int_mk Try.underlying3 hwx)
                have hcc : c = c2 := by
                  have := (hat (.lit (.int .i64 0))).symm.trans hc2
                  simpa using this
                subst hcc
                have hc0 : -1 ≤ c := by have := hby.1; omega
                have hc1 : c ≤ 5000 := by have := hby.2; have := hbs.2; omega
                have hcv : c + 1 = y0.2.2 := by omega
                obtain ⟨w9, hst, hrg9, hmt⟩ := ranges_store hrg1 (int_keyed Try.underlying3) Try.underlying44 (by unfold maxLen; have := HD.out; omega) (keyOf_int_mk Try.underlying3 hwx) (plainElem_int (H := Unit) Try.underlying3 (a := c + 1) (WalkArith.wf_i64 (by omega))) (has_true_of_atKey hat)
                rw [hcv] at hst hrg9
                have HR9 : Hid (Rn w5 bb w5.heap.size (2 * j) ID L' (D1.put (kI kx) (lI y0.2.2)) (fun z => left z && !z.sameKey (kI kx)) cnt1 w9) := Lib.hid (by
                  exact HR.out.more (nos_apart HQI.out) HY.out.1 HY.out.2 hlt HRG1.out HG1.out hrg9 hmt.grown)
                clear hval hby hbs hin hat hrg1 hlt1 hg1 hs1 hc2 hrg9 hmt hwc hlx hy0 hye
                go_wp2_with fail
                go_roundw
                case rel => first | exact ⟨_, _, cnt1, HR9.out⟩ | ((repeat apply Exists.intro); exact ⟨⟨_, _, cnt1, HR9.out⟩, rfl⟩)
                case measure => rw [HR9.out.rg.left_eq, HR.out.rg.left_eq]; exact HLT.out
              · have dL : decide (kx < ID) = false := decide_eq_false hlt
                have HR9 : Hid (Rn w5 bb w5.heap.size (2 * j) ID L' D1 (fun z => left z && !z.sameKey (kI kx)) cnt1 wy) := Lib.hid (HR.out.pass hlt HRG1.out HG1.out)
                clear hval hby hbs hin hat hrg1 hlt1 hg1 hs1 hwc hlx hy0 hye
                go_wp2_with fail
                go_roundw
                case rel => first | exact ⟨_, _, cnt1, HR9.out⟩ | ((repeat apply Exists.intro); exact ⟨⟨_, _, cnt1, HR9.out⟩, rfl⟩)
                case measure => rw [HR9.out.rg.left_eq, HR.out.rg.left_eq]; exact HLT.out
      · have hrI : (q : Int) % 3 = 2 := by omega
        have HT := Lib.hid (Drop_any HBA.out.q x)
        have HND := Lib.hid (nos_nodup HBA.out.q.ok)
        have HNT : Hid (drB x L = true → nos (drL x L) = (nos L).erase x) := Lib.hid (fun h => nos_dr HBA.out.q.ok h)
        have HSM : Hid (drB x L = false → drL x L = L) := Lib.hid (fun h => dr_same h)
        have HSB := Lib.hid (fun (y : Wr) (hy : y ∈ drL x L) => dr_sub hy)
        have HXI : Hid (drB x L = true → IW x) := Lib.hid (fun h => by
          rw [drB_any, any1_iff] at h
          obtain ⟨i, hi, e⟩ := h
          have := nos_iw HBA.out.q.ok (by have := HD.out; omega) hi
          rwa [e] at this)
        clear hr
        generalize drL x L = L' at *
        cases hb : drB x L with
        | true =>
          rw [hb] at HT
          have HNT' := Lib.hid (HNT.out hb)
          have HXW := Lib.hid (HXI.out hb)
          clear hb HNT HXI HSM
          go_wp2_with fail
          refine HT.out.mono ?_
          intro e w4 h4
          obtain ⟨rfl, v4, hbs4, hx4⟩ := HBA.out.act HXA.out h4
          obtain ⟨U, hU, hF⟩ := hbs4.bm
          have HU := Lib.hid (And.intro hU hF)
          have HS4 := Lib.hid hbs4
          obtain ⟨y0, y1⟩ := hx4.cells
          clear h4 HT hbs4 hx4 b0 b1 HBA HXA hU hF
          go_wp2_with (at_delete; refine km_del _ rfl _ _ 44 rfl 3 Try.underlying44 rfl HU.out.1 HND.out x HXW.out rfl ?_; intro w5 hk5 hg5; have HS5 := Lib.hid (((HS4.out.struck (Lb' := L') (F' := fun y => y.2.2) HU.out.1 HU.out.2 hk5 hg5 HNT'.out (fun y hy => ⟨y, HSB.out y hy, rfl, rfl⟩))).fewer (Lp' := L') (fun y hy => ⟨y, HSB.out y hy, rfl, rfl⟩)); clear hk5 hg5)
          have HE : Hid (∃ v d L, Bs w g bp bb k v d L d L L (fun y => y.2.2) (2 * (j + 1)) w5 ∧ d ≤ j + 1) := Lib.hid ⟨v4, d, L', HS5.out.mono (by omega), by have := HD.out; omega⟩
          obtain ⟨v6, d6, L6, hbs6, hd6⟩ := HE.out
          have HS6 := Lib.hid hbs6
          have HD6 : Hid (d6 ≤ j + 1 ∧ j < 300) := Lib.hid ⟨hd6, by have := HD.out; omega⟩
          have HL6 := Lib.hid (All_any hbs6.q)
          clear HE hbs6 hd6
          try go_wp2_with fail
          refine HL6.out.mono ?_
          rintro e w7 ⟨A7, n7, c7, rfl, hn7, ho7, hb7⟩
          have HS7 := Lib.hid (HS6.out.later hb7)
          have HO7 := Lib.hid ((ho7.wg).2)
          have HN7 := Lib.hid hn7
          have hs7 := Gt.size (ho7.wg).2
          have hs71 := hs7.1
          have hs72 := hs7.2
          have hf7 : n7 ≤ 64 := by rw [hn7]; exact HS6.out.q.ok.few
          have hlen := fun ty => HS7.out.size ty
          rw [← hn7] at hlen
          have hi3 : ((n7 : Int) != (n7 : Int)) = false := bne_self_eq_false _
          clear hn7 ho7 hb7 HL6 hs7 HS6
          go_wp2_with fail
          go_loopw [107] (fun iv wz => ∃ i : Nat, iv = .int .i64 (i : Int) ∧ i ≤ n7 ∧ Hid (Below w7.heap.size w7 wz)) (fun iv _ => n7 - (intOf iv).toNat)
          case atStart => exact ⟨0, rfl, Nat.zero_le _, Lib.hid (Below.refl _ _)⟩
          case round =>
            rename World => wz
            obtain ⟨i, rfl, hi, HBz⟩ := hrel
            clear hlen hi3
            by_cases hli : i < n7
            · obtain ⟨gz, oz, rfl, -, k0', k1', k2'⟩ := (HO7.out.later HBz.out).cell hli
              have hiI : (i : Int) < (n7 : Int) := by omega
              have hiL : i < L6.length := by rw [← HN7.out]; exact hli
              obtain ⟨c0, c1, c2⟩ := box3_cells wz (wat L6 i).1 (wat L6 i).2.1 (wat L6 i).2.2
              have hA1 := (Below.refl wz.heap.size wz).alloc (Nat.le_refl _) (.cells #[.int .i64 (wat L6 i).1, .int .i64 (wat L6 i).2.1, .int .i64 (wat L6 i).2.2] 46)
              have HBn := Lib.hid (HBz.out.trans (hA1.mono HBz.out.size))
              obtain ⟨a1, a2⟩ := ((HS7.out.later HBz.out).later hA1).asks (by have := HD6.out; omega) hiL
              have hp := HS7.out.q.ok.prio _ (wat_mem hiL)
              have hsm := HS7.out.q.ok.small (wat_mem hiL)
              have hby := HS7.out.q.ok.byp _ (wat_mem hiL)
              have hp0 : 0 ≤ (wat L6 i).2.1 := hp.1
              have hp1 : (wat L6 i).2.1 ≤ 5 := hp.2
              have hm0 : 0 ≤ (k : Int) * (5 - (wat L6 i).2.1) := hsm.1
              have hm1 : (k : Int) * (5 - (wat L6 i).2.1) ≤ 5000 := hsm.2
              have dK : decide ((k : Int) * (5 - (wat L6 i).2.1) < (wat L6 i).2.2) = false := decide_eq_false (by have := hby.2; omega)
              clear hA1 hiL hp hsm hby
              generalize (wat L6 i).1 = x1 at *
              generalize (wat L6 i).2.1 = x2 at *
              generalize (wat L6 i).2.2 = x3 at *
              have hi4 : (x3 != x3) = false := bne_self_eq_false _
              have hi5 : (x2 != x2) = false := bne_self_eq_false _
              go_wp2_with fail
              go_roundw
              case rel => first | exact ⟨i + 1, by go_num, by omega, HBn⟩ | ((repeat apply Exists.intro); exact ⟨⟨i + 1, by go_num, by omega, HBn⟩, rfl⟩)
              case measure => simp [intOf]; omega
            · obtain rfl : i = n7 := by omega
              have HEND : Hid (∃ v d L, Bs w g bp bb k v d L d L L (fun y => y.2.2) (2 * (j + 1)) wz ∧ d ≤ j + 1) := Lib.hid ⟨v6, d6, L6, HS7.out.later HBz.out, HD6.out.1⟩
              go_wp2_with fail
              go_roundw
              case rel => first | exact ⟨j + 1, by go_num, by omega, HEND⟩ | ((repeat apply Exists.intro); exact ⟨⟨j + 1, by go_num, by omega, HEND⟩, rfl⟩)
              case measure => simp [intOf]; omega
        | false =>
          rw [hb] at HT
          obtain rfl := HSM.out hb
          clear hb HNT HXI HSM
          go_wp2_with fail
          refine HT.out.mono ?_
          intro e w4 h4
          obtain ⟨rfl, v4, hbs4, hx4⟩ := HBA.out.act HXA.out h4
          have HE : Hid (∃ v d L, Bs w g bp bb k v d L d L L (fun y => y.2.2) (2 * (j + 1)) w4 ∧ d ≤ j + 1) := Lib.hid ⟨v4, d, _, hbs4.mono (by omega), by have := HD.out; omega⟩
          clear h4 HT hbs4 hx4 b0 b1 HBA HXA
          obtain ⟨v6, d6, L6, hbs6, hd6⟩ := HE.out
          have HS6 := Lib.hid hbs6
          have HD6 : Hid (d6 ≤ j + 1 ∧ j < 300) := Lib.hid ⟨hd6, by have := HD.out; omega⟩
          have HL6 := Lib.hid (All_any hbs6.q)
          clear HE hbs6 hd6
          try go_wp2_with fail
          refine HL6.out.mono ?_
          rintro e w7 ⟨A7, n7, c7, rfl, hn7, ho7, hb7⟩
          have HS7 := Lib.hid (HS6.out.later hb7)
          have HO7 := Lib.hid ((ho7.wg).2)
          have HN7 := Lib.hid hn7
          have hs7 := Gt.size (ho7.wg).2
          have hs71 := hs7.1
          have hs72 := hs7.2
          have hf7 : n7 ≤ 64 := by rw [hn7]; exact HS6.out.q.ok.few
          have hlen := fun ty => HS7.out.size ty
          rw [← hn7] at hlen
          have hi3 : ((n7 : Int) != (n7 : Int)) = false := bne_self_eq_false _
          clear hn7 ho7 hb7 HL6 hs7 HS6
          go_wp2_with fail
          go_loopw [107] (fun iv wz => ∃ i : Nat, iv = .int .i64 (i : Int) ∧ i ≤ n7 ∧ Hid (Below w7.heap.size w7 wz)) (fun iv _ => n7 - (intOf iv).toNat)
          case atStart => exact ⟨0, rfl, Nat.zero_le _, Lib.hid (Below.refl _ _)⟩
          case round =>
            rename World => wz
            obtain ⟨i, rfl, hi, HBz⟩ := hrel
            clear hlen hi3
            by_cases hli : i < n7
            · obtain ⟨gz, oz, rfl, -, k0', k1', k2'⟩ := (HO7.out.later HBz.out).cell hli
              have hiI : (i : Int) < (n7 : Int) := by omega
              have hiL : i < L6.length := by rw [← HN7.out]; exact hli
              obtain ⟨c0, c1, c2⟩ := box3_cells wz (wat L6 i).1 (wat L6 i).2.1 (wat L6 i).2.2
              have hA1 := (Below.refl wz.heap.size wz).alloc (Nat.le_refl _) (.cells #[.int .i64 (wat L6 i).1, .int .i64 (wat L6 i).2.1, .int .i64 (wat L6 i).2.2] 46)
              have HBn := Lib.hid (HBz.out.trans (hA1.mono HBz.out.size))
              obtain ⟨a1, a2⟩ := ((HS7.out.later HBz.out).later hA1).asks (by have := HD6.out; omega) hiL
              have hp := HS7.out.q.ok.prio _ (wat_mem hiL)
              have hsm := HS7.out.q.ok.small (wat_mem hiL)
              have hby := HS7.out.q.ok.byp _ (wat_mem hiL)
              have hp0 : 0 ≤ (wat L6 i).2.1 := hp.1
              have hp1 : (wat L6 i).2.1 ≤ 5 := hp.2
              have hm0 : 0 ≤ (k : Int) * (5 - (wat L6 i).2.1) := hsm.1
              have hm1 : (k : Int) * (5 - (wat L6 i).2.1) ≤ 5000 := hsm.2
              have dK : decide ((k : Int) * (5 - (wat L6 i).2.1) < (wat L6 i).2.2) = false := decide_eq_false (by have := hby.2; omega)
              clear hA1 hiL hp hsm hby
              generalize (wat L6 i).1 = x1 at *
              generalize (wat L6 i).2.1 = x2 at *
              generalize (wat L6 i).2.2 = x3 at *
              have hi4 : (x3 != x3) = false := bne_self_eq_false _
              have hi5 : (x2 != x2) = false := bne_self_eq_false _
              go_wp2_with fail
              go_roundw
              case rel => first | exact ⟨i + 1, by go_num, by omega, HBn⟩ | ((repeat apply Exists.intro); exact ⟨⟨i + 1, by go_num, by omega, HBn⟩, rfl⟩)
              case measure => simp [intOf]; omega
            · obtain rfl : i = n7 := by omega
              have HEND : Hid (∃ v d L, Bs w g bp bb k v d L d L L (fun y => y.2.2) (2 * (j + 1)) wz ∧ d ≤ j + 1) := Lib.hid ⟨v6, d6, L6, HS7.out.later HBz.out, HD6.out.1⟩
              go_wp2_with fail
              go_roundw
              case rel => first | exact ⟨j + 1, by go_num, by omega, HEND⟩ | ((repeat apply Exists.intro); exact ⟨⟨j + 1, by go_num, by omega, HEND⟩, rfl⟩)
              case measure => simp [intOf]; omega
    · obtain rfl : j = m := by omega
      have HBB := Lib.hid hbs.be
      clear hbs
      go_wp2_with fail
      go_ret
      exact ⟨rfl, HBB.out⟩
end Ag
end Go.Proofs.Ytgeahckblgpnmaa
