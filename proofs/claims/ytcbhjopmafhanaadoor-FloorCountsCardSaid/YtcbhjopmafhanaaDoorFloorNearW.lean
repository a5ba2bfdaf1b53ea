/-
  FloorNear: its walk.
-/
import Derived.Test.YtcbhjopmafhanaaDoorFloorRightsW
set_option linter.unusedVariables false
namespace Go.Proofs.YtcbhjopmafhanaaDoor
open Go.RowKit Fl

theorem out_cases {R : List (List UInt8)} {W H : Int} {c : ByteArray} {row : Nat} {err : Int} (h : POut R W H c row err) : (err = 30 ∧ W = 0 ∧ H = 0 ∧ c = ⟨#[]⟩) ∨ (err = 0 ∧ row = 0 ∧ Right W H c) := by
  rcases h with ⟨a1, a2, a3, rfl, rfl, rfl, rfl⟩ | ⟨a1, a2, rfl, rfl, rfl, rfl, rfl⟩ | ⟨a1, a2, rfl, rfl, rfl, rfl, rfl⟩
  · exact .inl ⟨rfl, rfl, rfl, rfl⟩
  · exact .inr ⟨rfl, rfl, a2⟩
  · exact .inl ⟨rfl, rfl, rfl, rfl⟩
/-- Is a number on a list? -/
def onL (l : List Nat) (y : Nat) : Bool := l.any fun b => b == y
theorem onL_iff (l : List Nat) (y : Nat) : onL l y = true ↔ y ∈ l := by
  unfold onL
  rw [List.any_eq_true]
  constructor
  · rintro ⟨x, hx, e⟩
    rw [beq_iff_eq] at e
    subst e; exact hx
  · intro h
    exact ⟨y, h, by simp⟩
theorem onL_take (l : List Nat) (y k : Nat) (h : k < l.length) : onL (l.take (k + 1)) y = (onL (l.take k) y || l.getD k 0 == y) := by
  unfold onL
  rw [List.take_succ_eq_append_getElem h, List.any_append, List.getD, List.getElem?_eq_getElem h]
  simp
/-- What is near, of a right floor. -/
theorem near_mem {a b : Nat} {s : ByteArray} {xs : List Nat} {x y : Nat} (hx : x < s.size) (hR : Right (a : Int) (b : Int) s) (h1 : OnFloor (a : Int) (b : Int) s (x : Int) → xs = nears (a : Int) (b : Int) s (x : Int)) (h2 : ¬ OnFloor (a : Int) (b : Int) s (x : Int) → xs = []) :
    y ∈ xs ↔ at_ s x ≠ 35 ∧ y ∈ side a b x ∧ at_ s y ≠ 35 := by
  have hb : bAt s (x : Int) = at_ s x := by unfold bAt; rw [if_pos (by omega), Int.toNat_natCast]
  by_cases h : at_ s x = 35
  · rw [h2 (fun k => k.2 (by rw [hb]; exact h))]
    simp [h]
  · rw [h1 ⟨hR, by rw [hb]; exact h⟩]
    show y ∈ (side a b x).filter (fun b => at_ s b != 35) ↔ _
    rw [List.mem_filter]
    simp [h]

set_option maxHeartbeats 8000000 in
theorem floorNear_walk (s : ByteArray) (hs : s.size ≤ maxLen) (n1 : Nat) (hn1 : n1 ≤ 255) (n2 : Nat) (hn2 : n2 ≤ 255) (w : World) :
    Calls Tryd.prog 7 #[.string s, .int .u8 (n1 : Int), .int .u8 (n2 : Int)] w fun e w' => e = .returned (.bool true) ∧ Below w.heap.size w w' := by
  have hs' := hs
  unfold maxLen at hs'
  go_enter Tryd.func7, Tryd.ntmps7
  go_wp2_with fail
  refine (shown_any _).mono ?_
  rintro e w1 ⟨rfl, hb1⟩
  have HB1 := Lib.hid hb1
  clear hb1
  by_cases hl : 2000 < s.size
  · have hd : decide (2000 < (s.size : Int)) = true := by simp; omega
    go_wp2_with fail
    go_ret
    exact ⟨rfl, HB1.out⟩
  · have hd : decide (2000 < (s.size : Int)) = false := by simp; omega
    go_wp2_with fail
    refine (parse_any s (by omega) _).mono ?_
    rintro e w2 ⟨W, H, c, row, err, rfl, ho, hb2⟩
    have HB2 := Lib.hid (HB1.out.trans (hb2.mono HB1.out.size))
    have HX2 := Lib.hid (Box.start w2 W H c 24)
    have k0 := HX2.out.c0
    have k1 := HX2.out.c1
    have k2 := HX2.out.c2
    have HBA := Lib.hid (HB2.out.alloc HB2.out.size (.cells #[.int .i64 W, .int .i64 H, .string c] 24))
    have hoc := out_cases ho
    clear ho hb2
    rcases hoc with ⟨rfl, rfl, rfl, rfl⟩ | ⟨rfl, rfl, hR⟩
    · go_wp2_with fail
      go_ret
      exact ⟨rfl, HBA.out⟩
    · have HR := Lib.hid hR
      obtain ⟨a, b, rfl, rfl, hS, hRN⟩ := rightNat hR
      have hm := le_mul16 hS.w2 hS.h2
      have hp := hS.pos
      have HSZ := Lib.hid hS.sz
      have HS := Lib.hid hS
      have ha16 := hS.w2
      have hb16 := hS.h2
      obtain ⟨N, hN⟩ : ∃ N, N = a * b := ⟨_, rfl⟩
      rw [← hN] at hm hp
      have hmul : (a : Int) * (b : Int) = (N : Int) := by rw [hN, Int.natCast_mul]
      have HN : Hid (N = c.size) := Lib.hid (by rw [hN, hS.sz])
      have hcs : c.size ≤ maxLen := by have := hS.le; unfold maxLen; omega
      clear hS hRN hR hN
      obtain ⟨x, hx⟩ : ∃ x, x = n1 % N := ⟨_, rfl⟩
      obtain ⟨y, hy⟩ : ∃ y, y = n2 % N := ⟨_, rfl⟩
      have hxl : x < N := by rw [hx]; exact Nat.mod_lt _ hp
      have hyl : y < N := by rw [hy]; exact Nat.mod_lt _ hp
      have mx : (n1 : Int) % (N : Int) = (x : Int) := by rw [hx]; rfl
      have my : (n2 : Int) % (N : Int) = (y : Int) := by rw [hy]; rfl
      have tx : (n1 : Int).tmod (N : Int) = (x : Int) := by rw [Int.tmod_eq_emod_of_nonneg (by omega)]; exact mx
      have ty : (n2 : Int).tmod (N : Int) = (y : Int) := by rw [Int.tmod_eq_emod_of_nonneg (by omega)]; exact my
      have wN : IntKind.i64.wrap (N : Int) = (N : Int) := IntWalk.i64_in _ (by omega)
      have w1' : IntKind.i64.wrap (n1 : Int) = (n1 : Int) := IntWalk.i64_in _ (by omega)
      have w2' : IntKind.i64.wrap (n2 : Int) = (n2 : Int) := IntWalk.i64_in _ (by omega)
      have nz : ¬ (N : Int) = 0 := by omega
      clear hx hy
      go_wp2_with fail
      go_big_quiet (fail)
      clear tx ty wN w1' w2' mx my
      have HNX := Lib.hid (fun wx => near_any (a : Int) (b : Int) c hcs (x : Int) wx)
      have HNY := Lib.hid (fun wx => near_any (a : Int) (b : Int) c hcs (y : Int) wx)
      go_wp2_with fail
      refine (HNX.out _).mono ?_
      rintro e w3 ⟨A, n, cap, xs, rfl, hn, p1, p2, ho, hb⟩
      have hB3 := HBA.out.trans (below_drewN w.heap.size _ nq)
      have HB3 := Lib.hid (hB3.trans (hb.mono hB3.size))
      have HX3 := Lib.hid ((HX2.out.after (below_drewN _ _ nq)).after hb)
      have HO := Lib.hid ho
      have HL := Lib.hid hn
      have HQ := Lib.hid (fun z => near_mem (y := z) (by rw [← HN.out]; exact hxl) HR.out p1 p2)
      have hn4 : n ≤ 4 := by
        rw [hn]
        by_cases q : OnFloor (a : Int) (b : Int) c (x : Int)
        · rw [p1 q]; show ((side a b x).filter (fun b => at_ c b != 35)).length ≤ 4; exact Nat.le_trans (List.length_filter_le _ _) (side_len _ _ _)
        · rw [p2 q]; simp
      have hxs : ∀ z, z ∈ xs → z < N := fun z hz => by
        have := (HQ.out z).1 hz
        rw [HN.out, HS.out.sz]
        exact side_lt HS.out.w1 (by rw [← HS.out.sz, ← HN.out]; exact hxl) this.2.1
      have HXS := Lib.hid hxs
      clear p1 p2 ho hn hb hB3 hxs HNX HX2 HBA k0 k1 k2
      go_wp2_with fail
      go_loopw [13, 65] (fun tv iv wr => ∃ (k : Nat) (t : Bool), k ≤ n ∧ iv = .int .i64 (k : Int) ∧ tv = .bool t ∧ t = onL (xs.take k) y ∧ Box w2 (a : Int) (b : Int) c wr ∧ Below w.heap.size w wr ∧ ∃ B1, Own wr B1 (.slice A n cap) xs) (fun _ iv _ => n - (intOf iv).toNat)
      case atStart => exact ⟨0, false, Nat.zero_le _, rfl, rfl, by simp [onL], HX3.out, HB3.out, _, HO.out⟩
      case round =>
        rename World => wr
        obtain ⟨k, t, hk, rfl, rfl, ht, hX, hB, B1, hO⟩ := hrel
        have HXr := Lib.hid hX
        have HBr := Lib.hid hB
        have HOr := Lib.hid hO
        have HT := Lib.hid ht
        clear hX hB hO ht
        by_cases hlt : k < n
        · have hkx : k < xs.length := by rw [← HL.out]; exact hlt
          obtain ⟨g, rfl, hg, hc⟩ := HOr.out.at k hkx
          have b1 := HXS.out _ (getD_mem hkx)
          obtain ⟨z, hzq⟩ : ∃ z, z = xs.getD k 0 := ⟨_, rfl⟩
          have HTK := Lib.hid (onL_take xs y k hkx)
          rw [← hzq] at hc b1
          have HZQ := Lib.hid hzq
          clear hzq hkx
          cases t with
          | true =>
            go_wp2_with fail
            go_roundw
            case rel => exact ⟨k + 1, true, by omega, by go_num, rfl, by rw [HTK.out, ← HT.out, Bool.true_or], HXr.out, HBr.out, _, HOr.out⟩
            case measure => simp [intOf]; omega
          | false =>
            by_cases he : z = y
            · have hb : ((z : Int) == (y : Int)) = true := by rw [beq_iff_eq]; omega
              have HE := Lib.hid he
              clear he
              go_wp2_with fail
              go_roundw
              case rel => exact ⟨k + 1, true, by omega, by go_num, rfl, by rw [HTK.out, ← HT.out, ← HZQ.out, HE.out]; simp, HXr.out, HBr.out, _, HOr.out⟩
              case measure => simp [intOf]; omega
            · have hb : ((z : Int) == (y : Int)) = false := by rw [beq_eq_false_iff_ne]; omega
              have HE := Lib.hid he
              clear he
              go_wp2_with fail
              go_roundw
              case rel => exact ⟨k + 1, false, by omega, by go_num, rfl, by rw [HTK.out, ← HT.out, ← HZQ.out, Bool.false_or]; simp [HE.out], HXr.out, HBr.out, _, HOr.out⟩
              case measure => simp [intOf]; omega
        · obtain rfl : k = n := by omega
          have e0 := HXr.out.c0
          have e1 := HXr.out.c1
          have e2 := HXr.out.c2
          go_wp2_with fail
          refine (HNY.out _).mono ?_
          rintro e w4 ⟨A2, m, cap2, ys, rfl, hm2, p1, p2, ho, hb⟩
          have HB4 := Lib.hid (HBr.out.trans (hb.mono HBr.out.size))
          have HX4 := Lib.hid (HXr.out.after hb)
          have HO4 := Lib.hid ho
          have HL4 := Lib.hid hm2
          have HQ4 := Lib.hid (fun z => near_mem (y := z) (by rw [← HN.out]; exact hyl) HR.out p1 p2)
          have hm4 : m ≤ 4 := by
            rw [hm2]
            by_cases q : OnFloor (a : Int) (b : Int) c (y : Int)
            · rw [p1 q]; show ((side a b y).filter (fun b => at_ c b != 35)).length ≤ 4; exact Nat.le_trans (List.length_filter_le _ _) (side_len _ _ _)
            · rw [p2 q]; simp
          have hxs : ∀ z, z ∈ ys → z < N := fun z hz => by
            have := (HQ4.out z).1 hz
            rw [HN.out, HS.out.sz]
            exact side_lt HS.out.w1 (by rw [← HS.out.sz, ← HN.out]; exact hyl) this.2.1
          have HYS := Lib.hid hxs
          have HTT : Hid (t = onL xs y) := Lib.hid (by have h := HT.out; rw [HL.out, List.take_length] at h; exact h)
          clear p1 p2 ho hm2 hb hxs HNY e0 e1 e2 HT HXr HBr HOr
          go_wp2_with fail
          go_loopw [14, 80] (fun tv iv wr => ∃ (k : Nat) (t2 : Bool), k ≤ m ∧ iv = .int .i64 (k : Int) ∧ tv = .bool t2 ∧ t2 = onL (ys.take k) x ∧ Box w2 (a : Int) (b : Int) c wr ∧ Below w.heap.size w wr ∧ ∃ B1, Own wr B1 (.slice A2 m cap2) ys) (fun _ iv _ => m - (intOf iv).toNat)
          case atStart => exact ⟨0, false, Nat.zero_le _, rfl, rfl, by simp [onL], HX4.out, HB4.out, _, HO4.out⟩
          case round =>
            rename World => wq
            obtain ⟨k, t2, hk, rfl, rfl, ht, hX, hB, B1, hO⟩ := hrel
            have HXr := Lib.hid hX
            have HBr := Lib.hid hB
            have HOr := Lib.hid hO
            have HT := Lib.hid ht
            clear hX hB hO ht
            by_cases hlt : k < m
            · have hkx : k < ys.length := by rw [← HL4.out]; exact hlt
              obtain ⟨g, rfl, hg, hc⟩ := HOr.out.at k hkx
              have b1 := HYS.out _ (getD_mem hkx)
              obtain ⟨z, hzq⟩ : ∃ z, z = ys.getD k 0 := ⟨_, rfl⟩
              have HTK := Lib.hid (onL_take ys x k hkx)
              rw [← hzq] at hc b1
              have HZQ := Lib.hid hzq
              clear hzq hkx
              cases t2 with
              | true =>
                go_wp2_with fail
                go_roundw
                case rel => exact ⟨k + 1, true, by omega, by go_num, rfl, by rw [HTK.out, ← HT.out, Bool.true_or], HXr.out, HBr.out, _, HOr.out⟩
                case measure => simp [intOf]; omega
              | false =>
                by_cases he : z = x
                · have hb : ((z : Int) == (x : Int)) = true := by rw [beq_iff_eq]; omega
                  have HE := Lib.hid he
                  clear he
                  go_wp2_with fail
                  go_roundw
                  case rel => exact ⟨k + 1, true, by omega, by go_num, rfl, by rw [HTK.out, ← HT.out, ← HZQ.out, HE.out]; simp, HXr.out, HBr.out, _, HOr.out⟩
                  case measure => simp [intOf]; omega
                · have hb : ((z : Int) == (x : Int)) = false := by rw [beq_eq_false_iff_ne]; omega
                  have HE := Lib.hid he
                  clear he
                  go_wp2_with fail
                  go_roundw
                  case rel => exact ⟨k + 1, false, by omega, by go_num, rfl, by rw [HTK.out, ← HT.out, ← HZQ.out, Bool.false_or]; simp [HE.out], HXr.out, HBr.out, _, HOr.out⟩
                  case measure => simp [intOf]; omega
            · obtain rfl : k = m := by omega
              have HT2 : Hid (t2 = onL ys x) := Lib.hid (by have h := HT.out; rw [HL4.out, List.take_length] at h; exact h)
              have hxa : x < a * b := by rw [← HSZ.out, ← HN.out]; exact hxl
              have hya : y < a * b := by rw [← HSZ.out, ← HN.out]; exact hyl
              have hw1 := HS.out.w1
              have hsym : t = t2 := by
                rw [HTT.out, HT2.out, Bool.eq_iff_iff, onL_iff, onL_iff, HQ.out, HQ4.out]
                constructor
                · rintro ⟨h1, h2, h3⟩
                  exact ⟨h3, side_sym hw1 hxa h2, h1⟩
                · rintro ⟨h1, h2, h3⟩
                  exact ⟨h3, side_sym hw1 hya h2, h1⟩
              have hne : t = true → x ≠ y := fun h e => by
                rw [HTT.out, onL_iff, HQ.out] at h
                rw [← e] at h
                exact side_ne hw1 hxa h.2.1
              clear hxa hya HTT HT2 HT HQ HQ4
              subst hsym
              cases t with
              | true =>
                have hb : ((x : Int) != (y : Int)) = true := by have := hne rfl; rw [bne_iff_ne]; omega
                clear hne
                go_wp2_with fail
                go_ret
                exact ⟨rfl, HBr.out⟩
              | false =>
                clear hne
                by_cases he : x = y
                · have hb : ((x : Int) != (y : Int)) = false := by rw [bne_eq_false_iff_eq]; omega
                  clear he
                  go_wp2_with fail
                  go_ret
                  exact ⟨rfl, HBr.out⟩
                · have hb : ((x : Int) != (y : Int)) = true := by rw [bne_iff_ne]; omega
                  clear he
                  go_wp2_with fail
                  go_ret
                  exact ⟨rfl, HBr.out⟩

end Go.Proofs.YtcbhjopmafhanaaDoor
