/-
  WindowForgets: the walk.
-/
import Derived.Test.YtfedfgfiaajpjaaWnQ
import Derived.Test.YtfedfgfiaajpjaaWnS
set_option linter.unusedVariables false
set_option maxRecDepth 100000
namespace Go.Proofs.Ytfedfgfiaajpjaa.Wn
open Go.RowKit Go.Maps

theorem Ordw.mem {f : Int} : ∀ {L : List (Int × Int)}, Ordw f L → ∀ q ∈ L, f < q.2
  | [], _, q, hq => by simp at hq
  | p :: r, ⟨h1, h2, h3, h4⟩, q, hq => by
    rcases List.mem_cons.1 hq with rfl | hq
    · omega
    · have := Ordw.mem h4 q hq
      omega
theorem fg_filter {f : Int} (m : Int) : ∀ {L : List (Int × Int)}, Ordw f L → L.filter (fun p => decide (m < p.2)) = fg L m
  | [], _ => rfl
  | p :: r, ⟨h1, h2, h3, h4⟩ => by
    by_cases hp : p.2 ≤ m
    · have e : plc (p :: r) m = plc r m + 1 := by simp [plc, hp]
      have hd : decide (m < p.2) = false := decide_eq_false (by omega)
      unfold fg
      rw [e, List.drop_succ_cons, List.filter_cons, hd]
      exact fg_filter m h4
    · have e : plc (p :: r) m = 0 := by simp [plc, hp]
      unfold fg
      rw [e, List.drop_zero]
      refine List.filter_eq_self.2 fun q hq => decide_eq_true ?_
      rcases List.mem_cons.1 hq with rfl | hq
      · omega
      · have := h4.mem q hq
        omega
set_option maxHeartbeats 4000000 in
theorem windowForgets_walk (A : Option Addr) (len cap : Nat) (f : Nat → Nat × Int × Int × Int) (x : Int) (hx : -9223372036854775808 ≤ x ∧ x ≤ 9223372036854775807) (m : Int) (hm : -9223372036854775808 ≤ m ∧ m ≤ 9223372036854775807) (w : World) (h : Acts w A len cap f) (hok : ∀ i, i < len → ActOk (f i)) :
    Calls Try.prog 6 #[.slice A len cap, .int .i64 x, .int .i64 m] w fun e w' => e = .returned (.bool true) ∧ Below w.heap.size w w' := by
  have HA := Lib.hid h
  have HOK := Lib.hid hok
  have HXX : Hid (IW x) := Lib.hid hx
  have HMM : Hid (IW m) := Lib.hid hm
  clear h hok hx hm
  go_enter Try.func6, Try.ntmps6
  go_wp2_with fail
  refine (shown_any _).mono ?_
  rintro e w1 ⟨rfl, hb1⟩
  have HB1 := Lib.hid hb1
  have HT1 := Lib.hid (Tab.new w1 w1.heap.size (Nat.le_refl _))
  clear hb1
  go_wp2_with fail
  refine (new_any w1).mono ?_
  rintro e w2 ⟨rfl, hw2⟩
  rw [← hw2] at HT1
  have HB2 : Hid (Below w1.heap.size w1 w2) := Lib.hid (by rw [hw2]; exact (Below.refl _ _).alloc (Nat.le_refl _) _)
  clear hw2
  go_wp2_with fail
  refine (few6_any A len cap w2 HA.out.le HA.out.max HA.out.nil).mono ?_
  rintro e w2' ⟨rfl, n, hn, hn2, rfl⟩
  have hcs : n ≤ cap := Nat.le_trans hn HA.out.le
  have hcs2 : cap ≤ 9223372036854775807 := by have := HA.out.max; unfold maxLen at this; omega
  obtain ⟨bs, hbs⟩ : ∃ bs, bs = w1.heap.size := ⟨_, rfl⟩
  have HBS : Hid (bs = w1.heap.size) := Lib.hid hbs
  rw [← hbs] at HT1 ⊢
  clear hbs
  go_wp2_with fail
  go_loopw [21] (fun iv wr => ∃ j : Nat, iv = .int .i64 (j : Int) ∧ j ≤ n ∧ (∃ mv T gb, Tab wr bs bs j mv T gb ∧ ∀ y, Ordw 0 (T y)) ∧ Below bs w1 wr) (fun iv _ => n - (intOf iv).toNat)
  case atStart => exact ⟨0, rfl, Nat.zero_le _, ⟨none, _, _, HT1.out, fun _ => trivial⟩, by rw [HBS.out]; exact HB2.out⟩
  case round =>
    rename World => wr
    obtain ⟨j, rfl, hj, ⟨mv, T, gb, hT, hO⟩, hb⟩ := hrel
    have HT := Lib.hid hT
    have HO := Lib.hid hO
    have HB := Lib.hid hb
    clear hT hO hb
    by_cases hlj : j < n
    · have HBW : Hid (Below w.heap.size w wr) := Lib.hid (HB1.out.trans (HB.out.mono (by rw [HBS.out]; exact HB1.out.size)))
      obtain ⟨g, off, rfl, _, hc⟩ := (HA.out.later HBW.out).cell (by omega)
      obtain ⟨k0, k1, k2, k3⟩ := hc j (by omega)
      obtain ⟨o1, o2, o3⟩ := HOK.out j (by omega)
      have hjI : (j : Int) < (n : Int) := by omega
      generalize hfj : f j = fj at *
      obtain ⟨q, a1, a2, a3⟩ := fj
      have HA3 := Lib.hid ((HB.out.alloc (by have h1 := HT.out.lo; have h2 := HT.out.cells.2.2; omega) (.cells #[.int .u8 q, .int .i64 a1, .int .i64 a2, .int .i64 a3] 34)))
      have HT3 := Lib.hid (HT.out.later ((Below.refl _ _).alloc (Nat.le_refl _) (.cells #[.int .u8 q, .int .i64 a1, .int .i64 a2, .int .i64 a3] 34)))
      have HDO := Lib.hid (does_any bs bs j mv T gb q (q % 3) a1 a2 a3 (wr.alloc (.cells #[.int .u8 q, .int .i64 a1, .int .i64 a2, .int .i64 a3] 34)) (HT.out.later ((Below.refl _ _).alloc (Nat.le_refl _) _)) o1 rfl o2 o3 (by omega) HO.out)
      clear hc o1 o2 o3
      go_wp2_with fail
      refine HDO.out.mono ?_
      rintro e w3 ⟨rfl, mv', gb', h1, h2⟩
      have H1 := Lib.hid h1
      have HB4 := Lib.hid (HA3.out.trans (HT3.out.below h2))
      clear h1 h2
      go_wp2_with fail
      go_roundw
      case rel => exact ⟨j + 1, by go_num, by omega, ⟨mv', _, gb', H1.out, act_ord HO.out⟩, HB4.out⟩
      case measure => simp [intOf]; omega
    · obtain rfl : j = n := by omega
      have hjj : ¬ ((j : Int) < (j : Int)) := by omega
      go_wp2_with fail
      refine (taken_any bs bs j mv T gb x wr HT.out HXX.out).mono ?_
      have HSM : Hid ((T x).length ≤ 200) := Lib.hid (Nat.le_trans (HT.out.small x) hn2)
      have HFF := Lib.hid (fg_filter m (HO.out x))
      generalize hL : T x = L at *
      have HL := Lib.hid hL
      clear hL
      rintro e w3 ⟨A3, c3, rfl, ho3, hb3⟩
      have HO3 := Lib.hid ho3
      have HB3 := Lib.hid hb3
      have hq := ho3.wt.size
      have hq1 := hq.1
      have hq2 := hq.2
      clear ho3 hb3 hq
      go_wp2_with fail
      go_loopw [11, 33] (fun ov iv wq => ∃ (i : Nat) (O : List (Int × Int)) (A' : Option Addr) (c' : Nat), ov = .slice A' O.length c' ∧ iv = .int .i64 (i : Int) ∧ i ≤ L.length ∧ Hid (O = (L.take i).filter fun p => decide (m < p.2)) ∧ Wow wq w3.heap.size (.slice A' O.length c') O ∧ Below w3.heap.size w3 wq) (fun _ iv _ => L.length - (intOf iv).toNat)
      case atStart => exact ⟨0, [], none, 0, rfl, rfl, Nat.zero_le _, Lib.hid rfl, Wow.nil _ _, Below.refl _ _⟩
      case round =>
        rename World => wq
        obtain ⟨i, O, A', c', rfl, rfl, hi, HI, ho, hb⟩ := hrel
        have HOO := Lib.hid ho
        have HBB := Lib.hid hb
        have hOl : O.length ≤ 200 := by
          rw [HI.out]
          have h1 := List.length_filter_le (fun p : Int × Int => decide (m < p.2)) (L.take i)
          rw [List.length_take] at h1
          have := HSM.out
          omega
        have hOs := ho.wt.size
        have hO1 := hOs.1
        have hO2 := hOs.2
        clear ho hb hOs
        by_cases hli : i < L.length
        · obtain ⟨g, off, rfl, hg, hc⟩ := (HO3.out.wt.later HBB.out).cell (by omega)
          obtain ⟨k1, k2⟩ := hc i hli
          have HTS := Lib.hid (take_snoc L i hli)
          have hiI : (i : Int) < (L.length : Int) := by omega
          clear hc
          generalize hp : L.getD i (0, 0) = p at *
          obtain ⟨px, py⟩ := p
          clear hp
          have HA5 := Lib.hid ((Below.refl wq.heap.size wq).alloc (Nat.le_refl _) (.cells #[.int .i64 px, .int .i64 py] 32))
          by_cases hf : m < py
          · have df : decide (m < py) = true := decide_eq_true hf
            have HNO : Hid (O ++ [(px, py)] = (L.take (i + 1)).filter fun p => decide (m < p.2)) := Lib.hid (by rw [HTS.out, List.filter_append, ← HI.out]; simp [hf])
            have HA6 := Lib.hid (HA5.out.alloc (by simp) (.cells #[.int .i64 px, .int .i64 py] 32))
            have HW6 := Lib.hid (by
              have := Wt.one (wq.alloc (.cells #[.int .i64 px, .int .i64 py] 32)) px py
              rw [show (wq.alloc (.cells #[.int .i64 px, .int .i64 py] 32)).heap.size = wq.heap.size + 1 from alloc_size _ _] at this
              exact this)
            have HS6 : Hid (w3.heap.size ≤ ((wq.alloc (.cells #[.int .i64 px, .int .i64 py] 32)).alloc (.cells #[.int .i64 px, .int .i64 py] 32)).heap.size) := Lib.hid (Nat.le_trans HBB.out.size HA6.out.size)
            clear hf
            go_wp2_with (at_builtin; refine app_wins rfl _ _ rfl w3.heap.size _ O rfl (HOO.out.later HA6.out) (some ⟨wq.heap.size + 1, 0, none⟩) 1 1 [(px, py)] rfl HW6.out (by omega) HS6.out ?_; intro A6 c6 w6 ho6 hb6 _ _; have HO6 := Lib.hid ho6; have HB6 := Lib.hid ((HBB.out.trans (HA6.out.mono HBB.out.size)).trans hb6); clear ho6 hb6)
            go_roundw
            case rel => exact ⟨i + 1, O ++ [(px, py)], A6, c6, by simp, by go_num, by omega, Lib.hid HNO.out, HO6.out, HB6.out⟩
            case measure => simp [intOf]; omega
          · have df : decide (m < py) = false := decide_eq_false hf
            have HNO : Hid (O = (L.take (i + 1)).filter fun p => decide (m < p.2)) := Lib.hid (by rw [HTS.out, List.filter_append, ← HI.out]; simp [hf])
            clear hf
            go_wp2_with fail
            go_roundw
            case rel => exact ⟨i + 1, O, A', c', rfl, by go_num, by omega, Lib.hid HNO.out, HOO.out.later HA5.out, HBB.out.trans (HA5.out.mono HBB.out.size)⟩
            case measure => simp [intOf]; omega
        · obtain rfl : i = L.length := by omega
          have HOE : Hid (O = fg L m) := Lib.hid (by rw [HI.out, List.take_length, HFF.out])
          have HTQ := Lib.hid ((HT.out.later HB3.out).later HBB.out)
          go_wp2_with fail
          refine (forget_any bs bs j mv T gb m wq HTQ.out HMM.out (by omega)).mono ?_
          rintro e w5 ⟨rfl, mv', gb', h1, h2⟩
          have H1 := Lib.hid h1
          have HB5 := Lib.hid (HTQ.out.below h2)
          have hOW : Wow w5 w3.heap.size (.slice A' O.length c') O := ownsRow_same HOO.out (fun k hk => h2.block k (World.ownsRow.lt HOO.out k hk).2 (fun hF => by
            have h3 := (World.ownsRow.lt HOO.out k hk).1
            have h4 := ((HT.out.later HB3.out).foot k hF).2
            omega))
          have HOW := Lib.hid hOW
          clear h1 h2 hOW
          go_wp2_with fail
          refine (taken_any bs bs (j + 1) mv' (fun y => fg (T y) m) gb' x w5 H1.out HXX.out).mono ?_
          rw [HL.out]
          rintro e w6 ⟨A6, c6, rfl, ho6, hb6⟩
          have HO6 := Lib.hid ho6
          have HB6 := Lib.hid hb6
          clear ho6 hb6
          go_wp2_with fail
          refine (same_any A6 A' (fg L m).length O.length c6 c' (fg L m) O w6 HO6.out.wt (HOW.out.later HB6.out).wt (by rw [← HOE.out]; omega)).mono ?_
          rintro e w7 ⟨he, hb7⟩
          rw [HOE.out, show decide (fg L m = fg L m) = true from decide_eq_true rfl] at he
          subst he
          have HB7 := Lib.hid hb7
          clear hb7
          go_wp2_with fail
          go_ret
          refine ⟨rfl, ?_⟩
          have z1 := HB1.out.size
          have q2 := HB.out
          rw [HBS.out] at q2
          have z2 := Nat.le_trans z1 q2.size
          have z3 := Nat.le_trans z2 HB3.out.size
          have z4 := Nat.le_trans z3 HBB.out.size
          have z5 := Nat.le_trans z4 HB5.out.size
          have z6 := Nat.le_trans z5 HB6.out.size
          exact HB1.out.trans ((q2.mono z1).trans ((HB3.out.mono z2).trans ((HBB.out.mono z3).trans ((HB5.out.mono (by rw [HBS.out]; exact z1)).trans ((HB6.out.mono z5).trans (HB7.out.mono z6))))))
end Go.Proofs.Ytfedfgfiaajpjaa.Wn
