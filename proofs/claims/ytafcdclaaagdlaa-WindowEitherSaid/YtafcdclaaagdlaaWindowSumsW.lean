/-
  WindowSums: the walk.
-/
import Derived.Test.YtafcdclaaagdlaaWnQ
import Derived.Test.YtafcdclaaagdlaaWnS
import Derived.Test.YtafcdclaaagdlaaWnSu
set_option linter.unusedVariables false
set_option maxRecDepth 100000
namespace Go.Proofs.Ytafcdclaaagdlaa.Wn
open Go.RowKit Go.Maps

theorem sum_take {f : Int} : ∀ {L : List (Int × Int)}, Ordw f L → f ≤ 1048576 → ∀ i, 0 ≤ sumW (L.take i) ∧ sumW (L.take i) ≤ 1048576 - f
  | [], _, h, i => by simp [sumW]; omega
  | p :: r, _, h, 0 => by simp [sumW]; omega
  | p :: r, ⟨h1, h2, h3, h4⟩, h, i + 1 => by
    have ih := sum_take h4 h3 i
    rw [List.take_succ_cons]
    show 0 ≤ (p.2 - p.1) + sumW (r.take i) ∧ (p.2 - p.1) + sumW (r.take i) ≤ 1048576 - f
    omega
theorem sum_next (L : List (Int × Int)) (i : Nat) (h : i < L.length) : sumW (L.take (i + 1)) = sumW (L.take i) + ((L.getD i (0, 0)).2 - (L.getD i (0, 0)).1) := by
  rw [take_snoc L i h, sumW_app]
  simp [sumW]
theorem ord_get {f : Int} : ∀ {L : List (Int × Int)}, Ordw f L → ∀ i, i < L.length → f ≤ (L.getD i (0, 0)).1 ∧ (L.getD i (0, 0)).1 < (L.getD i (0, 0)).2 ∧ (L.getD i (0, 0)).2 ≤ 1048576
  | [], _, i, h => by simp at h
  | p :: r, ⟨h1, h2, h3, h4⟩, 0, _ => ⟨h1, h2, h3⟩
  | p :: r, ⟨h1, h2, h3, h4⟩, i + 1, h => by
    have := ord_get h4 i (by simpa using h)
    rw [List.getD_cons_succ]
    omega
/-- The free windows, and those that are taken. -/
def both (L : List (Int × Int)) : Nat → List (Int × Int) := fun k => if k = 0 then frees L else L
/-- How long the first so many of both lists are together. -/
def bsum (L : List (Int × Int)) : Nat → Int
  | 0 => 0
  | 1 => sumW (frees L)
  | _ => 1048576
theorem bsum_next {L : List (Int × Int)} (h : Ordw 0 L) (k : Nat) (hk : k < 2) : bsum L (k + 1) = bsum L k + sumW (both L k) := by
  rcases (by omega : k = 0 ∨ k = 1) with rfl | rfl
  · show sumW (frees L) = 0 + sumW (frees L); omega
  · show (1048576 : Int) = sumW (frees L) + sumW L; have := sum_frees h; omega
theorem frees_ord {L : List (Int × Int)} (h : Ordw 0 L) : Ordw 0 (frees L) := gaps_ord L 0 (Int.le_refl _) h (by omega)
theorem both_ord {L : List (Int × Int)} (h : Ordw 0 L) (k : Nat) : Ordw 0 (both L k) := by unfold both; split; exact frees_ord h; exact h
theorem both_len (L : List (Int × Int)) (k : Nat) : (both L k).length ≤ L.length + 1 := by
  have := gaps_len (L ++ [(1048576, 0)]) 0
  unfold both frees
  split
  · simpa using this
  · omega
theorem bsum_le {L : List (Int × Int)} (h : Ordw 0 L) (k : Nat) (hk : k < 2) : 0 ≤ bsum L k ∧ bsum L k ≤ 1048576 := by
  rcases (by omega : k = 0 ∨ k = 1) with rfl | rfl
  · show (0 : Int) ≤ 0 ∧ (0 : Int) ≤ 1048576; omega
  · have h1 := sum_frees h
    have h2 := sum_take (frees_ord h) (by omega) (frees L).length
    rw [List.take_length] at h2
    show 0 ≤ sumW (frees L) ∧ sumW (frees L) ≤ 1048576; omega
/-- Both lists lie somewhere, and a row of two that names them. -/
structure Two (L : List (Int × Int)) (b : Nat) (w : World) : Prop where
  cell : ∀ k, k < 2 → ∃ A c, w.cell? ⟨b, k, none⟩ = some (.slice A (both L k).length c) ∧ Wt w.heap.size w A (both L k).length c (both L k)
  lt : b < w.heap.size
theorem Two.later {L : List (Int × Int)} {b : Nat} {w w' : World} (h : Two L b w) (hb : Below w.heap.size w w') : Two L b w' :=
  ⟨fun k hk => by
    obtain ⟨A, c, h1, h2⟩ := h.cell k hk
    exact ⟨A, c, (hb.cell (p := ⟨b, k, none⟩) h.lt).trans h1, h2.later hb⟩, Nat.lt_of_lt_of_le h.lt hb.size⟩
set_option maxHeartbeats 4000000 in
theorem windowSums_walk (A : Option Addr) (len cap : Nat) (f : Nat → Nat × Int × Int × Int) (x : Int) (hx : -9223372036854775808 ≤ x ∧ x ≤ 9223372036854775807) (w : World) (h : Acts w A len cap f) (hok : ∀ i, i < len → ActOk (f i)) :
    Calls Try.prog 5 #[.slice A len cap, .int .i64 x] w fun e w' => e = .returned (.bool true) ∧ Below w.heap.size w w' := by
  have HA := Lib.hid h
  have HOK := Lib.hid hok
  have HXX : Hid (IW x) := Lib.hid hx
  clear h hok hx
  go_enter Try.func5, Try.ntmps5
  go_wp2_with fail
  refine (shown_any _).mono ?_
  rintro e w1 ⟨rfl, hb1⟩
  have HB1 := Lib.hid hb1
  have HT1 := Lib.hid (Tab.new w1 w1.heap.size (Nat.le_refl _))
  clear hb1
  go_wp2_with fail
  refine (new_any w1).mono ?_
  rintro e w2 ⟨rfl, hw2⟩
  rw [← hw2] at HT1
  have HB2 : Hid (Below w1.heap.size w1 w2) := Lib.hid (by rw [hw2]; exact (Below.refl _ _).alloc (Nat.le_refl _) _)
  clear hw2
  go_wp2_with fail
  refine (few6_any A len cap w2 HA.out.le HA.out.max HA.out.nil).mono ?_
  rintro e w2' ⟨rfl, n, hn, hn2, rfl⟩
  have hcs : n ≤ cap := Nat.le_trans hn HA.out.le
  have hcs2 : cap ≤ 9223372036854775807 := by have := HA.out.max; unfold maxLen at this; omega
  obtain ⟨bs, hbs⟩ : ∃ bs, bs = w1.heap.size := ⟨_, rfl⟩
  have HBS : Hid (bs = w1.heap.size) := Lib.hid hbs
  rw [← hbs] at HT1 ⊢
  clear hbs
  go_wp2_with fail
  go_loopw [23] (fun iv wr => ∃ j : Nat, iv = .int .i64 (j : Int) ∧ j ≤ n ∧ (∃ mv T gb, Tab wr bs bs j mv T gb ∧ ∀ y, Ordw 0 (T y)) ∧ Below bs w1 wr) (fun iv _ => n - (intOf iv).toNat)
  case atStart => exact ⟨0, rfl, Nat.zero_le _, ⟨none, _, _, HT1.out, fun _ => trivial⟩, by rw [HBS.out]; exact HB2.out⟩
  case round =>
    rename World => wr
    obtain ⟨j, rfl, hj, ⟨mv, T, gb, hT, hO⟩, hb⟩ := hrel
    have HT := Lib.hid hT
    have HO := Lib.hid hO
    have HB := Lib.hid hb
    clear hT hO hb
    by_cases hlj : j < n
    · have HBW : Hid (Below w.heap.size w wr) := Lib.hid (HB1.out.trans (HB.out.mono (by rw [HBS.out]; exact HB1.out.size)))
      obtain ⟨g, off, rfl, _, hc⟩ := (HA.out.later HBW.out).cell (by omega)
      obtain ⟨k0, k1, k2, k3⟩ := hc j (by omega)
      obtain ⟨o1, o2, o3⟩ := HOK.out j (by omega)
      have hjI : (j : Int) < (n : Int) := by omega
      generalize hfj : f j = fj at *
      obtain ⟨q, a1, a2, a3⟩ := fj
      have HA3 := Lib.hid ((HB.out.alloc (by have h1 := HT.out.lo; have h2 := HT.out.cells.2.2; omega) (.cells #[.int .u8 q, .int .i64 a1, .int .i64 a2, .int .i64 a3] 34)))
      have HT3 := Lib.hid (HT.out.later ((Below.refl _ _).alloc (Nat.le_refl _) (.cells #[.int .u8 q, .int .i64 a1, .int .i64 a2, .int .i64 a3] 34)))
      have HDO := Lib.hid (does_any bs bs j mv T gb q (q % 3) a1 a2 a3 (wr.alloc (.cells #[.int .u8 q, .int .i64 a1, .int .i64 a2, .int .i64 a3] 34)) (HT.out.later ((Below.refl _ _).alloc (Nat.le_refl _) _)) o1 rfl o2 o3 (by omega) HO.out)
      have HA1 : Hid (IW a1) := Lib.hid o2
      clear hc o1 o2 o3
      go_wp2_with fail
      refine HDO.out.mono ?_
      rintro e w3 ⟨rfl, mv', gb', h1, h2⟩
      have H1 := Lib.hid h1
      have HB4 := Lib.hid (HA3.out.trans (HT3.out.below h2))
      have HO2 : Hid (∀ y, Ordw 0 ((act T (q % 3) a1 a2 a3).2 y)) := Lib.hid (act_ord HO.out)
      have cA : w3.cell? ⟨wr.heap.size, 1, none⟩ = some (.int .i64 a1) := by
        have e1 := h2.block wr.heap.size (by simp) (fun hF => Nat.lt_irrefl _ (HT.out.foot _ hF).2)
        rw [World.cell?_of_block (a := ⟨wr.heap.size, 1, none⟩) e1]
        simp [World.cell?_alloc_new]
      clear h1 h2
      generalize hT2 : (act T (q % 3) a1 a2 a3).2 = T2 at *
      clear hT2
      go_wp2_with fail
      have HA4 := Lib.hid ((Below.refl w3.heap.size w3).alloc (Nat.le_refl _) (.cells #[.int .i64 x, .int .i64 a1] 3))
      obtain ⟨w4, hw4⟩ : ∃ w4, w4 = w3.alloc (.cells #[.int .i64 x, .int .i64 a1] 3) := ⟨_, rfl⟩
      have HP : Hid (∀ i, i < 2 → ∃ y, IW y ∧ w4.cell? ⟨w3.heap.size, i, none⟩ = some (.int .i64 y)) := Lib.hid fun i hi => by
        rw [hw4]
        rcases (by omega : i = 0 ∨ i = 1) with rfl | rfl
        · exact ⟨x, HXX.out, by simp [World.cell?_alloc_new]⟩
        · exact ⟨a1, HA1.out, by simp [World.cell?_alloc_new]⟩
      have HT4 : Hid (Tab w4 bs bs (j + 1) mv' T2 gb') := Lib.hid (by rw [hw4]; exact H1.out.later HA4.out)
      have HB5 : Hid (Below bs w1 w4) := Lib.hid (by rw [hw4]; exact HB4.out.alloc (by have h1 := H1.out.lo; have h2 := H1.out.cells.2.2; omega) _)
      have hz4 : w3.heap.size < w4.heap.size := by rw [hw4, alloc_size]; omega
      rw [← hw4]
      clear hw4 cA HA4
      generalize w3.heap.size = b2 at *
      go_loopw [35] (fun iv wq => ∃ i : Nat, iv = .int .i64 (i : Int) ∧ i ≤ 2 ∧ Below w4.heap.size w4 wq) (fun iv _ => 2 - (intOf iv).toNat)
      case atStart => exact ⟨0, rfl, by omega, Below.refl _ _⟩
      case round =>
        rename World => wq
        obtain ⟨i, rfl, hi, hbq⟩ := hrel
        have HBQ := Lib.hid hbq
        clear hbq
        by_cases hli : i < 2
        · obtain ⟨y, hy, hcy⟩ := HP.out i hli
          have cy := (HBQ.out.cell (p := ⟨b2, i, none⟩) hz4).trans hcy
          have HY := Lib.hid hy
          have hiI : (i : Int) < 2 := by omega
          have HTQ := Lib.hid (HT4.out.later HBQ.out)
          have HLO : Hid ((T2 y).length ≤ 200 ∧ Ordw 0 (T2 y)) := Lib.hid ⟨Nat.le_trans (HT4.out.small y) (by omega), HO2.out y⟩
          clear hcy hy
          generalize hL : T2 y = L at *
          have HL := Lib.hid hL
          clear hL
          go_wp2_with fail
          refine (free_any bs bs (j + 1) mv' T2 gb' y wq HTQ.out HY.out).mono ?_
          rw [HL.out]
          rintro e w5 ⟨A5, c5, rfl, ho5, hb5⟩
          have HO5 := Lib.hid ho5
          have HB6 := Lib.hid hb5
          clear ho5 hb5
          go_wp2_with fail
          refine (taken_any bs bs (j + 1) mv' T2 gb' y w5 (HTQ.out.later HB6.out) HY.out).mono ?_
          rw [HL.out]
          rintro e w6 ⟨A6, c6, rfl, ho6, hb6⟩
          have HO6 := Lib.hid ho6
          have HB7 := Lib.hid hb6
          clear ho6 hb6
          go_wp2_with fail
          obtain ⟨w7, hw7⟩ : ∃ w7, w7 = w6.alloc (.cells #[.slice A5 (frees L).length c5, .slice A6 L.length c6] 40) := ⟨_, rfl⟩
          have HA7 : Hid (Below w6.heap.size w6 w7) := Lib.hid (by rw [hw7]; exact (Below.refl _ _).alloc (Nat.le_refl _) _)
          have HTWO : Hid (Two L w6.heap.size w7) := Lib.hid (by
            refine ⟨fun k hk => ?_, by rw [hw7, alloc_size]; omega⟩
            rcases (by omega : k = 0 ∨ k = 1) with rfl | rfl
            · exact ⟨A5, c5, by rw [hw7]; simp [World.cell?_alloc_new, both], (HO5.out.later (HB7.out.trans (HA7.out.mono HB7.out.size))).wt⟩
            · exact ⟨A6, c6, by rw [hw7]; simp [World.cell?_alloc_new, both], (HO6.out.later HA7.out).wt⟩)
          have HB8 : Hid (Below w4.heap.size w4 w7) := Lib.hid (HBQ.out.trans ((HB6.out.trans ((HB7.out.trans (HA7.out.mono HB7.out.size)).mono HB6.out.size)).mono HBQ.out.size))
          rw [← hw7]
          clear hw7
          generalize w6.heap.size = b6 at *
          go_loopw [9, 47] (fun nv kv wz => ∃ k : Nat, kv = .int .i64 (k : Int) ∧ nv = .int .i64 (bsum L k) ∧ k ≤ 2 ∧ Below w7.heap.size w7 wz) (fun _ kv _ => 2 - (intOf kv).toNat)
          case atStart => exact ⟨0, rfl, rfl, by omega, Below.refl _ _⟩
          case round =>
            rename World => wz
            obtain ⟨k, rfl, rfl, hk, hbz⟩ := hrel
            have HBZ := Lib.hid hbz
            clear hbz
            by_cases hlk : k < 2
            · obtain ⟨A8, c8, hc8, hw8⟩ := (HTWO.out.later HBZ.out).cell k hlk
              have HW8 := Lib.hid hw8
              have hs8 := hw8.size
              have hs81 := hs8.1
              have hs82 := hs8.2
              have HN := Lib.hid (bsum_next HLO.out.2 k hlk)
              have HBS2 := bsum_le HLO.out.2 k hlk
              have HBO := Lib.hid (both_ord HLO.out.2 k)
              have hbl : (both L k).length ≤ 201 := Nat.le_trans (both_len L k) (by have := HLO.out.1; omega)
              have hkI : (k : Int) < 2 := by omega
              clear hw8 hs8
              generalize hM : both L k = M at *
              clear hM
              obtain ⟨s0, hs0⟩ : ∃ s0, s0 = bsum L k := ⟨_, rfl⟩
              rw [← hs0] at HBS2 HN ⊢
              clear hs0
              go_wp2_with fail
              go_loopw [9, 53] (fun nv iv wy => ∃ (i : Nat) (t : Int), iv = .int .i64 (i : Int) ∧ nv = .int .i64 t ∧ i ≤ M.length ∧ Hid (t = s0 + sumW (M.take i)) ∧ Below wz.heap.size wz wy) (fun _ iv _ => M.length - (intOf iv).toNat)
              case atStart => exact ⟨0, s0, rfl, rfl, Nat.zero_le _, Lib.hid (by simp [sumW]), Below.refl _ _⟩
              case round =>
                rename World => wy
                obtain ⟨i2, t, rfl, rfl, hi2, HTT, hby⟩ := hrel
                have HBY := Lib.hid hby
                clear hby
                by_cases hli2 : i2 < M.length
                · obtain ⟨g, off, rfl, hg, hc⟩ := (HW8.out.later HBY.out).cell (by omega)
                  obtain ⟨k1, k2⟩ := hc i2 hli2
                  have hg2 := ord_get HBO.out i2 hli2
                  have HNX := Lib.hid (sum_next M i2 hli2)
                  have ht1 : 0 ≤ t ∧ t ≤ 2097152 := by
                    have h1 := sum_take HBO.out (by omega) i2
                    have h2 := HTT.out
                    omega
                  have hi2I : (i2 : Int) < (M.length : Int) := by omega
                  clear hc
                  generalize hp : M.getD i2 (0, 0) = p at *
                  obtain ⟨px, py⟩ := p
                  clear hp
                  simp only at hg2
                  have HA5 := Lib.hid ((Below.refl wy.heap.size wy).alloc (Nat.le_refl _) (.cells #[.int .i64 px, .int .i64 py] 32))
                  go_wp2_with fail
                  go_roundw
                  case rel => exact ⟨i2 + 1, _, by go_num, rfl, by omega, Lib.hid (by rw [HNX.out, HTT.out]; show s0 + sumW (M.take i2) + (py - px) = s0 + (sumW (M.take i2) + (py - px)); omega), HBY.out.trans (HA5.out.mono HBY.out.size)⟩
                  case measure => simp [intOf]; omega
                · obtain rfl : i2 = M.length := by omega
                  have HTE : Hid (t = bsum L (k + 1)) := Lib.hid (by rw [HN.out, HTT.out, List.take_length])
                  go_wp2_with fail
                  go_roundw
                  case rel => exact ⟨k + 1, by go_num, by rw [HTE.out], by omega, HBZ.out.trans (HBY.out.mono HBZ.out.size)⟩
                  case measure => simp [intOf]; omega
            · obtain rfl : k = 2 := by omega
              rw [show bsum L 2 = 1048576 from rfl]
              go_wp2_with fail
              go_roundw
              case rel => exact ⟨i + 1, by go_num, by omega, HB8.out.trans (HBZ.out.mono HB8.out.size)⟩
              case measure => simp [intOf]; omega
        · obtain rfl : i = 2 := by omega
          go_wp2_with fail
          go_roundw
          case rel => exact ⟨j + 1, by go_num, by omega, ⟨mv', _, gb', HT4.out.later HBQ.out, HO2.out⟩, HB5.out.trans (HBQ.out.mono (by have h1 := HT4.out.lo; have h2 := HT4.out.cells.2.2; omega))⟩
          case measure => simp [intOf]; omega
    · obtain rfl : j = n := by omega
      have hjj : ¬ ((j : Int) < (j : Int)) := by omega
      go_wp2_with fail
      go_ret
      refine ⟨rfl, ?_⟩
      have q2 := HB.out
      rw [HBS.out] at q2
      exact HB1.out.trans (q2.mono HB1.out.size)
end Go.Proofs.Ytafcdclaaagdlaa.Wn
