/-
  AgingLike: the walk.
-/
import Derived.Test.YtgeahckblgpnmaaAgG
set_option linter.unusedVariables false
set_option maxRecDepth 100000
namespace Go.Proofs.Ytgeahckblgpnmaa
namespace Ag
open Go.RowKit Bk

theorem ids_lt {s : Int} {d : Nat} {L : List Wr} (h : Qi s d L) {i j : Nat} (hij : i < j) (hj : j < L.length) : (wat L i).1 < (wat L j).1 := by
  rw [wat_get (by omega), wat_get hj]
  exact List.pairwise_iff_getElem.1 h.ids i j (by omega) hj hij
theorem ids_one {s : Int} {d : Nat} {L : List Wr} (h : Qi s d L) {i j : Nat} (hi : i < L.length) (hj : j < L.length) (e : (wat L i).1 = (wat L j).1) : i = j := by
  rcases Nat.lt_trichotomy i j with q | q | q
  · have := ids_lt h q hj; omega
  · exact q
  · have := ids_lt h q hi; omega
/-- Of like priority the first goes next. -/
theorem like_first {s : Int} {d : Nat} {L : List Wr} (h : Qi s d L) {i : Nat} (hi : (i : Int) < nx s L) : (wat L i).2.1 ≠ (wat L (nx s L).toNat).2.1 := by
  rcases nx_cases s L with ⟨k, h1, hk, h2, h3⟩ | ⟨h1, h2⟩
  · rw [h1] at hi ⊢
    rw [Int.toNat_natCast]
    intro e
    have hik : i < k := by omega
    have hf := List.pairwise_iff_getElem.1 h.falls i k (by omega) hk hik
    rw [← wat_get hk, ← wat_get (by omega : i < L.length)] at hf
    refine h3 i hik ?_
    unfold due at h2 ⊢
    rw [e]
    omega
  · rw [h2] at hi ⊢
    have := hi_first L L.length i hi
    omega
set_option maxHeartbeats 16000000 in
theorem agingLike_walk (rb : Nat) (hrb : rb ≤ 255) (A : Option Addr) (n cap : Nat) (f : Nat → Nat × Int) (w : World) (h : Acts12 w.heap.size w A n cap f) (_ : True) :
    Calls Try.prog 5 #[.int .u8 (rb : Int), .slice A n cap] w fun e w' => e = .returned (.bool true) ∧ Below w.heap.size w w' := by
  have HA := Lib.hid h
  clear h
  obtain ⟨k, hk⟩ : ∃ k : Nat, k = rb % 21 := ⟨_, rfl⟩
  have hk2 : (rb : Int) % 21 = (k : Int) := by omega
  have hk3 : k ≤ 20 := by omega
  clear hk
  go_enter Try.func5, Try.ntmps5
  go_wp2_with fail
  refine (shown12_any _).mono ?_
  rintro e w1 ⟨rfl, hb1⟩
  have HB1 := Lib.hid hb1
  clear hb1
  go_wp2_with fail
  refine (new_ok k (by omega) w1).mono ?_
  rintro e w2 ⟨rfl, hq, hb⟩
  obtain ⟨g, hg⟩ : ∃ g, g = w1.heap.size := ⟨_, rfl⟩
  have HG : Hid (w.heap.size ≤ g) := Lib.hid (by rw [hg]; exact HB1.out.size)
  rw [← hg] at hq ⊢
  have HQ0 : Hid (St w2 g k 0) := Lib.hid ⟨_, _, _, hq, Nat.le_refl _⟩
  have HB2 := Lib.hid (HB1.out.trans (hb.mono HB1.out.size))
  clear hq hb hg HB1
  go_wp2_with (go_at_call 11; refine (few12_any A n cap _ HA.out.le HA.out.max HA.out.nil).mono ?_; rintro e w2' ⟨rfl, m, hm, hm2, rfl⟩)
  have hcs : m ≤ cap := Nat.le_trans hm HA.out.le
  have hcs2 : cap ≤ 9223372036854775807 := by have := HA.out.max; unfold maxLen at this; omega
  go_loopw [36] (fun iv wr => ∃ j : Nat, iv = .int .i64 (j : Int) ∧ j ≤ m ∧ Hid (St wr g k j) ∧ Hid (Below w.heap.size w wr)) (fun iv _ => m - (intOf iv).toNat)
  case atStart => exact ⟨0, rfl, Nat.zero_le _, HQ0, HB2⟩
  case round =>
    rename World => wr
    obtain ⟨j, rfl, hj, HS, HB⟩ := hrel
    by_cases hlj : j < m
    · obtain ⟨v, d, L, hq, hd⟩ := HS.out
      obtain ⟨ga, off, rfl, hga, hc⟩ := (HA.out.below HB.out).cell (by omega)
      obtain ⟨k0, k1⟩ := hc j (by omega)
      have hfit := HA.out.fits j (by omega)
      have hjI : (j : Int) < (m : Int) := by omega
      have hga2 : ga < wr.heap.size := Nat.lt_of_lt_of_le hga HB.out.size
      generalize f j = fj at *
      obtain ⟨q, x⟩ := fj
      have k0 : wr.cell? ⟨ga, off + j * 2, none⟩ = some (.int .u8 (q : Int)) := k0
      have k1 : wr.cell? ⟨ga, off + j * 2 + 1, none⟩ = some (.int .i64 x) := k1
      have hq255 : q ≤ 255 := hfit
      obtain ⟨b0, b1⟩ := act_cells wr q x
      have HAA := Lib.hid ((Below.refl wr.heap.size wr).alloc (Nat.le_refl _) (.cells #[.int .u8 (q : Int), .int .i64 x] 34))
      clear hc hga hfit
      have HQA := Lib.hid (hq.later HAA.out)
      have HD : Hid (d ≤ j ∧ m ≤ 300 ∧ j < m) := Lib.hid ⟨hd, hm2, hlj⟩
      have HBA := Lib.hid (HB.out.trans (HAA.out.mono HB.out.size))
      clear hq hd
      rcases (by omega : q % 3 = 0 ∨ q % 3 = 1 ∨ q % 3 = 2) with hr | hr | hr
      · have hrI : (q : Int) % 3 = 0 := by omega
        have HT := Lib.hid (Add_any HQA.out (by have := HD.out; omega) (Nat.le_of_lt HQA.out.lt) x)
        clear hr
        go_wp2_with fail
        refine HT.out.mono ?_
        intro e w4 h4
        obtain rfl := h4.ret
        have HS' : Hid (St w4 g k (j + 1)) := Lib.hid (h4.st (by have := (adD_le x d L).2; have := HD.out; omega))
        have HB' := Lib.hid (h4.below HQA.out HBA.out (Nat.le_refl _) HG.out)
        clear h4 HT
        go_wp2_with fail
        go_roundw
        case rel => first | exact ⟨j + 1, by go_num, by omega, HS', HB'⟩ | ((repeat apply Exists.intro); exact ⟨⟨j + 1, by go_num, by omega, HS', HB'⟩, rfl⟩)
        case measure => simp [intOf]; omega
      · have hrI : (q : Int) % 3 = 1 := by omega
        have HL := Lib.hid (All_any HQA.out)
        clear hr
        go_wp2_with fail
        refine HL.out.mono ?_
        rintro e w5 ⟨A5, n5, c5, rfl, hn5, ho5, hb5⟩
        have HQ5 := Lib.hid (HQA.out.later hb5)
        have HB5 := Lib.hid (HBA.out.trans (hb5.mono HBA.out.size))
        have HT := Lib.hid (Take_any HQ5.out)
        have HO5 := Lib.hid (ho5.lower (Nat.le_refl _))
        have HN5 := Lib.hid hn5
        have hs5 := Gt.size (ho5.wg).2
        have hs51 := hs5.1
        have hs52 := hs5.2
        have hf5 : n5 ≤ 64 := by rw [hn5]; exact HQA.out.ok.few
        have HQL : Hid (∀ k', QF g v k' → k' < (wr.alloc (.cells #[.int .u8 (q : Int), .int .i64 x] 34)).heap.size) := Lib.hid (fun k' hk' => (HQA.out.blocks k' hk').2)
        clear hn5 ho5 hb5 HL hs5 HS HB
        have HX : Hid ((nxB k L = true ↔ L ≠ []) ∧ (L ≠ [] → nxN k L = (wat L (nx k L).toNat).1 ∧ (nx k L).toNat < L.length ∧ ((nx k L).toNat : Int) = nx k L)) := Lib.hid ⟨nxB_iff, fun hne => by
          have r := nx_rng (k : Int) L
          have r3 := r.2.2 hne
          refine ⟨by unfold nxN; rw [if_neg (by omega)], by omega, by omega⟩⟩
        obtain ⟨mm, hmm⟩ : ∃ mm, mm = (nx k L).toNat := ⟨_, rfl⟩
        rw [← hmm] at HX
        have HMM := Lib.hid hmm
        clear hmm
        unfold nxV at HT
        obtain ⟨ID, hID⟩ : ∃ ID, ID = nxN k L := ⟨_, rfl⟩
        obtain ⟨IS, hIS⟩ : ∃ IS, IS = nxB k L := ⟨_, rfl⟩
        rw [← hID, ← hIS] at HX HT
        clear hID hIS
        go_wp2_with fail
        refine HT.out.mono ?_
        intro e w6 h6
        obtain rfl := h6.ret
        have HS' : Hid (St w6 g k (j + 1)) := Lib.hid (h6.st (by have := HD.out; omega))
        have HB' := Lib.hid (h6.below HQ5.out HB5.out (Nat.le_refl _) HG.out)
        have HW6 : Hid (Wg w6.heap.size w6 A5 n5 c5 L) := Lib.hid (by
          obtain ⟨v', -, -, h10⟩ := h6
          exact ((HO5.out.turn h10 HQL.out).wg).2)
        clear h6 HT
        have dgt : (!IS == decide (0 < n5)) = false := by
          have h1 := HX.out.1
          have h2 := HN5.out
          cases IS with
          | true =>
            have := List.length_pos_iff.2 (h1.1 rfl)
            have : decide (0 < n5) = true := decide_eq_true (by omega)
            rw [this]; rfl
          | false =>
            have : decide (0 < n5) = false := by
              refine decide_eq_false (fun q => ?_)
              have : L ≠ [] := by intro e; rw [e] at h2; simp at h2; omega
              have := h1.2 this
              cases this
            rw [this]; rfl
        go_wp2_with fail
        go_loopw [13, 14, 69] (fun pv fv iv wz => ∃ (i : Nat) (P : Int) (t : Bool), iv = .int .i64 (i : Int) ∧ pv = .int .i64 P ∧ fv = .bool t ∧ i ≤ n5 ∧ Hid ((mm < i ∧ P = (wat L mm).2.1 ∧ t = true) ∨ (i ≤ mm ∧ P = 0 ∧ t = false)) ∧ Hid (Below w6.heap.size w6 wz)) (fun _ _ iv _ => n5 - (intOf iv).toNat)
        case atStart => exact ⟨0, 0, false, rfl, rfl, rfl, Nat.zero_le _, Lib.hid (.inr ⟨Nat.zero_le _, rfl, rfl⟩), Lib.hid (Below.refl _ _)⟩
        case round =>
          rename World => wz
          obtain ⟨i, P, t, rfl, rfl, rfl, hi, HT, HBz⟩ := hrel
          by_cases hli : i < n5
          · obtain ⟨ga2, off2, rfl, -, k0', k1', k2'⟩ := (HW6.out.later HBz.out).cell hli
            have hiI : (i : Int) < (n5 : Int) := by omega
            have hne : L ≠ [] := by intro e; have := HN5.out; rw [e, List.length_nil] at this; omega
            have hX := HX.out.2 hne
            obtain ⟨c0, c1, c2⟩ := box3_cells wz (wat L i).1 (wat L i).2.1 (wat L i).2.2
            have hA1 := (Below.refl wz.heap.size wz).alloc (Nat.le_refl _) (.cells #[.int .i64 (wat L i).1, .int .i64 (wat L i).2.1, .int .i64 (wat L i).2.2] 46)
            have HB1 := Lib.hid (HBz.out.trans (hA1.mono HBz.out.size))
            by_cases he : i = mm
            · have dE : ((wat L i).1 == ID) = true := by rw [hX.1, he]; simp
              have HT' : Hid ((mm < i + 1 ∧ (wat L i).2.1 = (wat L mm).2.1 ∧ true = true) ∨ (i + 1 ≤ mm ∧ (wat L i).2.1 = 0 ∧ true = false)) := Lib.hid (.inl ⟨by omega, by rw [he], rfl⟩)
              clear he hA1 hX hne
              generalize (wat L i).1 = x1 at *
              generalize (wat L i).2.1 = x2 at *
              generalize (wat L i).2.2 = x3 at *
              go_wp2_with fail
              go_roundw
              case rel => first | exact ⟨i + 1, x2, true, by go_num, rfl, rfl, by omega, HT', HB1⟩ | ((repeat apply Exists.intro); exact ⟨⟨i + 1, x2, true, by go_num, rfl, rfl, by omega, HT', HB1⟩, rfl⟩)
              case measure => simp [intOf]; omega
            · have dE : ((wat L i).1 == ID) = false := by
                rw [beq_eq_false_iff_ne]
                intro e
                rw [hX.1] at e
                exact he (ids_one HQA.out.ok (by rw [← HN5.out]; exact hli) hX.2.1 e)
              have HT' : Hid ((mm < i + 1 ∧ P = (wat L mm).2.1 ∧ t = true) ∨ (i + 1 ≤ mm ∧ P = 0 ∧ t = false)) := Lib.hid (by
                rcases HT.out with ⟨q1, q2⟩ | ⟨q1, q2⟩
                · exact .inl ⟨by omega, q2⟩
                · exact .inr ⟨by omega, q2⟩)
              clear he hA1 hX hne
              generalize (wat L i).1 = x1 at *
              generalize (wat L i).2.1 = x2 at *
              generalize (wat L i).2.2 = x3 at *
              go_wp2_with fail
              go_roundw
              case rel => first | exact ⟨i + 1, P, t, by go_num, rfl, rfl, by omega, HT', HB1⟩ | ((repeat apply Exists.intro); exact ⟨⟨i + 1, P, t, by go_num, rfl, rfl, by omega, HT', HB1⟩, rfl⟩)
              case measure => simp [intOf]; omega
          · obtain rfl : i = n5 := by omega
            go_wp2_with fail
            go_loopw [82] (fun iv wy => ∃ i' : Nat, iv = .int .i64 (i' : Int) ∧ i' ≤ i ∧ Hid (Below w6.heap.size w6 wy)) (fun iv _ => i - (intOf iv).toNat)
            case atStart => exact ⟨0, rfl, Nat.zero_le _, HBz⟩
            case round =>
              rename World => wy
              obtain ⟨i', rfl, hi', HBy⟩ := hrel
              by_cases hli' : i' < i
              · obtain ⟨ga2, off2, rfl, -, k0', k1', k2'⟩ := (HW6.out.later HBy.out).cell hli'
                have hiI : (i' : Int) < (i : Int) := by omega
                have hne : L ≠ [] := by intro e; have := HN5.out; rw [e, List.length_nil] at this; omega
                have hX := HX.out.2 hne
                have hIS := HX.out.1.2 hne
                have hT : P = (wat L mm).2.1 ∧ t = true := by
                  rcases HT.out with ⟨_, q⟩ | ⟨q, _⟩
                  · exact q
                  · have := HN5.out; omega
                obtain ⟨rfl, rfl⟩ := hT
                subst hIS
                obtain ⟨c0, c1, c2⟩ := box3_cells wy (wat L i').1 (wat L i').2.1 (wat L i').2.2
                have hA1 := (Below.refl wy.heap.size wy).alloc (Nat.le_refl _) (.cells #[.int .i64 (wat L i').1, .int .i64 (wat L i').2.1, .int .i64 (wat L i').2.2] 46)
                have HB1 := Lib.hid (HBy.out.trans (hA1.mono HBy.out.size))
                by_cases he : (wat L i').2.1 = (wat L mm).2.1
                · have dE : ((wat L i').2.1 == (wat L mm).2.1) = true := by simp [he]
                  have dL : decide ((wat L i').1 < ID) = false := by
                    refine decide_eq_false (fun q => ?_)
                    rw [hX.1] at q
                    have hlt : i' < mm := by
                      rcases Nat.lt_trichotomy i' mm with z | z | z
                      · exact z
                      · rw [z] at q; omega
                      · have := ids_lt HQA.out.ok z (by rw [← HN5.out]; exact hli'); omega
                    have := like_first HQA.out.ok (i := i') (by rw [← hX.2.2]; omega)
                    rw [← HMM.out] at this
                    exact this he
                  clear he hA1 hX hne HT
                  generalize (wat L i').1 = x1 at *
                  generalize (wat L i').2.1 = x2 at *
                  generalize (wat L i').2.2 = x3 at *
                  generalize (wat L mm).2.1 = x4 at *
                  go_wp2_with fail
                  go_roundw
                  case rel => first | exact ⟨i' + 1, by go_num, by omega, HB1⟩ | ((repeat apply Exists.intro); exact ⟨⟨i' + 1, by go_num, by omega, HB1⟩, rfl⟩)
                  case measure => simp [intOf]; omega
                · have dE : ((wat L i').2.1 == (wat L mm).2.1) = false := by simp [he]
                  clear he hA1 hX hne HT
                  generalize (wat L i').1 = x1 at *
                  generalize (wat L i').2.1 = x2 at *
                  generalize (wat L i').2.2 = x3 at *
                  generalize (wat L mm).2.1 = x4 at *
                  go_wp2_with fail
                  go_roundw
                  case rel => first | exact ⟨i' + 1, by go_num, by omega, HB1⟩ | ((repeat apply Exists.intro); exact ⟨⟨i' + 1, by go_num, by omega, HB1⟩, rfl⟩)
                  case measure => simp [intOf]; omega
              · obtain rfl : i' = i := by omega
                have HBj := Lib.hid (HB'.out.trans (HBy.out.mono HB'.out.size))
                have HSj : Hid (St wy g k (j + 1)) := Lib.hid (by
                  obtain ⟨v, d, L, h1, h2⟩ := HS'.out
                  exact ⟨v, d, L, h1.later HBy.out, h2⟩)
                go_wp2_with fail
                go_roundw
                case rel => first | exact ⟨j + 1, by go_num, by omega, HSj, HBj⟩ | ((repeat apply Exists.intro); exact ⟨⟨j + 1, by go_num, by omega, HSj, HBj⟩, rfl⟩)
                case measure => simp [intOf]; omega
      · have hrI : (q : Int) % 3 = 2 := by omega
        have HT := Lib.hid (Drop_any HQA.out x)
        clear hr
        go_wp2_with fail
        refine HT.out.mono ?_
        intro e w4 h4
        obtain rfl := h4.ret
        have HS' : Hid (St w4 g k (j + 1)) := Lib.hid (h4.st (by have := HD.out; omega))
        have HB' := Lib.hid (h4.below HQA.out HBA.out (Nat.le_refl _) HG.out)
        clear h4 HT
        go_wp2_with fail
        go_roundw
        case rel => first | exact ⟨j + 1, by go_num, by omega, HS', HB'⟩ | ((repeat apply Exists.intro); exact ⟨⟨j + 1, by go_num, by omega, HS', HB'⟩, rfl⟩)
        case measure => simp [intOf]; omega
    · obtain rfl : j = m := by omega
      go_wp2_with fail
      go_ret
      exact ⟨rfl, HB.out⟩
end Ag
end Go.Proofs.Ytgeahckblgpnmaa
