/-
  The statement BitsTakes: its walk.
-/
import Derived.Test.YtbdlcmpljhbebaaBitsV5
set_option linter.unusedVariables false
namespace Go.Proofs.Ytbdlcmpljhbebaa
open Go.RowKit Bp

theorem Rv.lower {B B' : Nat} {w : World} {b : Nat} {v : Value} {zs : List Nat} {p : Nat} {f : Int} (h : Rv B w b v zs p f) (hb : B' ≤ B) : Rv B' w b v zs p f :=
  ⟨h.box, ownsRow_lower h.row hb, h.ne, Nat.le_trans hb h.base, h.at_le, h.few⟩
theorem Bo.vcells {w0 : World} {C T : Nat} {X w : World} {rb vb : Nat} {zs : List Nat} {p : Nat} {f : Int} {q : Nat} {g : Int} (h : Bo w0 C T X w rb vb zs p f q g) :
    ∃ la lc, w.cell? ⟨vb, 0, none⟩ = some (.slice la (8 * zs.length) lc) ∧ w.cell? ⟨vb, 1, none⟩ = some (.int .i64 (q : Int)) := by
  obtain ⟨v, lv, _, h2, _⟩ := h
  obtain ⟨la, lc, rfl⟩ := ownsRow_shape h2.row
  exact ⟨la, lc, h2.cells.1, h2.cells.2.1⟩
theorem bo_start {w w2 w3 w4 : World} {rb vb : Nat} {v lv : Value} {zs : List Nat} (hB : Below w.heap.size w w2) (h1 : Rd w2.heap.size w3 rb v zs 0 0) (hb3 : Below w2.heap.size w2 w3) (h2 : Rv w3.heap.size w4 vb lv zs 0 0) (hb4 : Below w3.heap.size w3 w4) :
    Bo w w2.heap.size w4.heap.size w4 w4 rb vb zs 0 0 0 0 :=
  ⟨v, lv, h1.frame (fun k hk => hb4.block k (h1.lt hk).2), h2.lower hb3.size, fun k a b => by have := (h1.lt a).2; have := (h2.lt b).1; omega, fun k a => Nat.lt_of_lt_of_le (h1.lt a).2 hb4.size, fun k a => (h2.lt a).2, hB.size,
    (hB.trans (hb3.mono hB.size)).trans (hb4.mono (Nat.le_trans hB.size hb3.size)), Nat.le_refl _, fun _ _ _ => rfl⟩
theorem ret_bool1 {a b : Bool} (h : a = b) : Ending.returned (.bool a) = .returned (.bool b) := by rw [h]
theorem left_at {w0 : World} {C T : Nat} {X w : World} {rb vb : Nat} {zs : List Nat} {p : Nat} {f : Int} {q : Nat} {g : Int} (h : Bo w0 C T X w rb vb zs p f q g) {nn : Nat} (hn : nn = 8 * zs.length) :
    Calls Try.prog 19 #[.pointer (some ⟨rb, 0, none⟩)] w fun e w' => e = .returned (.int .i64 ((nn : Int) - (p : Int))) ∧ w.drew = w' := by
  refine (bo_left h).mono ?_
  rintro e w' ⟨rfl, rfl⟩
  exact ⟨by rw [show (zs.length : Int) * 8 - (p : Int) = (nn : Int) - (p : Int) by omega], rfl⟩
theorem Bo.grow {w0 : World} {C T : Nat} {X w : World} {rb vb : Nat} {zs : List Nat} {p : Nat} {f : Int} {q : Nat} {g : Int} (h : Bo w0 C T X w rb vb zs p f q g) : X.heap.size ≤ w.heap.size := by
  obtain ⟨_, _, _, _, _, _, _, _, _, h8, _⟩ := h
  exact h8
theorem xor85 (z : Nat) (hz : z ≤ 255) : ∃ y : Nat, bits BinOp.xor IntKind.u8 (z : Int) 85 = (y : Int) ∧ y ≤ 255 := by
  have h1 := u8_xor_nat z 85 (by omega) (by omega)
  refine ⟨z ^^^ 85, h1, ?_⟩
  have : z ^^^ 85 < 2 ^ 8 := Nat.xor_lt_two_pow (by omega) (by omega)
  omega

set_option maxRecDepth 100000 in
set_option maxHeartbeats 4000000 in
theorem bitsTakes_walk (ao : Option Addr) (len cap : Nat) (f : Nat → Nat) (bo : Option Addr) (len2 cap2 : Nat) (q : Nat → Bool × Int) (w : World)
    (hA : ArgIn (fun z : Nat => Value.int .u8 (z : Int)) w ao len cap f) (hf : ∀ i, i < len → f i ≤ 255) (hQ : ArgRows 2 (takeCell q) w bo len2 cap2) (hq : ∀ i, i < len2 → -9223372036854775808 ≤ (q i).2 ∧ (q i).2 ≤ 9223372036854775807) :
    Calls Try.prog 3 #[.slice ao len cap, .slice bo len2 cap2] w fun e w' => e = .returned (.bool true) ∧ Below w.heap.size w w' := by
  obtain ⟨m, hm0⟩ : ∃ m, m = min len 1000 := ⟨_, rfl⟩
  have hm : min (len : Int) 1000 = (m : Int) := by omega
  have hm1 : m ≤ 1000 := by omega
  have hm2 : m ≤ len := by omega
  have HY := Lib.hid (By.arg hA hf m hm2)
  have hle := hA.le
  have hmx := hA.max
  have hle2 := hQ.le
  have hmx2 := hQ.max
  unfold maxLen at hmx hmx2
  generalize listOf f m = zs at *
  have s1 := fun wx => slice_h ao len cap m wx (by omega)
  have HA := Lib.hid hQ
  have HF := Lib.hid hq
  clear hm0 hA hf hQ hq
  go_enter Try.func3, Try.ntmps3
  go_wp2_with fail
  refine (shown_any _).mono ?_
  rintro e w1 ⟨rfl, hb1⟩
  have HB1 := Lib.hid hb1
  have hs1 := hb1.size
  have HE0 : Hid ((w1.alloc (.cells #[] 5)).ownsRow w1.heap.size 5 1 (.slice (some ⟨w1.heap.size, 0, none⟩) 0 0) 0 (bc [])) := Lib.hid (World.ownsRow_made w1 #[] 0 (Nat.le_refl _) (Nat.zero_le _) rfl)
  have HYa := Lib.hid (HY.out.below (hb1.alloc hs1 (.cells #[] 5)))
  clear hb1
  go_wp2_with (at_builtin; refine app_by rfl _ _ rfl w1.heap.size _ 0 [] rfl HE0.out w.heap.size _ _ _ _ rfl HYa.out (by omega) (by simp) ?_)
  intro v2 w2 ho2 hb2
  obtain ⟨A2, c2, hv2⟩ := ownsRow_shape ho2
  subst hv2
  have HO2 := Lib.hid ho2
  have HB2 : Hid (Below w.heap.size w w2) := Lib.hid ((HB1.out.alloc hs1 _).trans (hb2.mono hs1))
  have hzl : zs.length = m := HY.out.len
  have HZL := Lib.hid hzl
  have HZB := Lib.hid HY.out.byte
  clear ho2 hb2 hm s1 HE0 HYa hzl
  go_wp2_with fail
  refine (newReader_any _ zs _ (bytesAt_all HO2.out) (by rw [HZL.out]; omega) HZB.out).mono ?_
  rintro e w3 ⟨rb, rv, rfl, hR3, hb3⟩
  have HR3 := Lib.hid hR3
  have HB3 := Lib.hid hb3
  have HO3 := Lib.hid (ownsRow_same HO2.out (fun k hk => hb3.block k (HO2.out.lt k hk).2))
  clear hR3 hb3
  go_wp2_with fail
  refine (refOf_any w1.heap.size _ zs _ (by rw [HZL.out]; exact HO3.out) (by rw [HZL.out]; omega) HZB.out).mono ?_
  rintro e w4 ⟨vb, lv, rfl, hV4, hb4⟩
  have HBo := Lib.hid (bo_start HB2.out HR3.out HB3.out hV4 hb4)
  have HO4 := Lib.hid (ownsRow_same HO3.out (fun k hk => hb4.block k (HO3.out.lt k hk).2))
  have HGL : Hid (∀ k, (Value.slice A2 m c2).ownBlock = some k → k < w2.heap.size) := Lib.hid (fun k hk => (HO2.out.lt k hk).2)
  have HTL : Hid (w2.heap.size ≤ w4.heap.size) := Lib.hid (Nat.le_trans HB3.out.size hb4.size)
  clear hV4 hb4 HR3 HB3 HO3 HO2 HB1
  have hTW : w4.heap.size ≤ w4.heap.size := Nat.le_refl _
  have HBT : ∃ T, T ≤ w4.heap.size ∧ w2.heap.size ≤ T ∧ Bo w w2.heap.size T w4 w4 rb vb zs 0 0 0 0 := ⟨_, hTW, HTL.out, HBo.out⟩
  clear HTL HBo hTW
  obtain ⟨T, hTW, hTL, hBo⟩ := HBT
  have HTL := Lib.hid hTL
  have HBo := Lib.hid hBo
  clear hTL hBo
  generalize w2.heap.size = C at *
  go_wp2
  go_loopw [29] (fun iv wr => ∃ (k : Nat) (ys : List Nat), k ≤ m ∧ iv = .int .i64 (k : Int) ∧ wr.ownsRow w1.heap.size 5 1 (.slice A2 m c2) m (bc ys) ∧ (∀ y ∈ ys, y ≤ 255) ∧ T ≤ wr.heap.size ∧ Bo w C T wr wr rb vb zs 0 0 0 0) (fun iv _ => m - (intOf iv).toNat)
  case atStart => exact ⟨0, zs, Nat.zero_le _, rfl, HO4.out, HZB.out, hTW, HBo.out⟩
  case round =>
    obtain ⟨k, ys, hk, rfl, ho, hyb, hTr, hbo⟩ := hrel
    clear hTW
    have HO := Lib.hid ho
    have HYB := Lib.hid hyb
    have HBk := Lib.hid hbo
    have hyl : ys.length = m := by have := ho.1; rw [bc_length] at this; omega
    clear ho hyb hbo HO4 HBo
    by_cases hlt : k < m
    · obtain ⟨gB, cB, hsh⟩ := shape_of HO.out (by omega)
      simp only [Value.slice.injEq, true_and] at hsh
      obtain ⟨rfl, rfl⟩ := hsh
      have hgB := (HO.out.lt gB rfl).1
      have hgC := HGL.out gB rfl
      have cj : wr.cell? ⟨gB, k, none⟩ = some (.int .u8 ((ys.getD k 0 : Nat) : Int)) := by
        rw [HO.out.cellAt _ (by omega)]
        simp [bc, List.getD, List.getElem?_eq_getElem (show k < ys.length by omega)]
      have fj : wr.frozen? ⟨gB, k, none⟩ = false := HO.out.frozenAt _
      have hz : ys.getD k 0 ≤ 255 := by
        rw [List.getD, List.getElem?_eq_getElem (show k < ys.length by omega)]
        exact HYB.out _ (List.getElem_mem _)
      obtain ⟨y, hy, hy2⟩ := xor85 (ys.getD k 0) hz
      generalize ys.getD k 0 = zj at *
      have ST : Hid ((wr.setCell ⟨gB, k, none⟩ (.int .u8 (y : Int))).ownsRow w1.heap.size 5 1 (.slice (some ⟨gB, 0, none⟩) m c2) m (bc (ys.set k y))) := Lib.hid (by
        have h1 := (HO.out.stored k (.int .u8 (y : Int))).1
        rw [bc_set] at h1
        exact h1)
      have SB : Hid (Bo w C T (wr.setCell ⟨gB, k, none⟩ (.int .u8 (y : Int))) (wr.setCell ⟨gB, k, none⟩ (.int .u8 (y : Int))) rb vb zs 0 0 0 0) := Lib.hid
        (Bo.here (HBk.out.keep (w' := wr.setCell ⟨gB, k, none⟩ (.int .u8 (y : Int))) (fun j hj _ => Below.heap_setCell _ _ _ _ (by simp only; omega)) ((Below.refl _ _).setCell (p := ⟨gB, k, none⟩) (Nat.le_trans hs1 hgB) _) (fun j hj _ => Below.heap_setCell _ _ _ _ (by have := HTL.out; simp only; omega))))
      have SZ : Hid (∀ z ∈ ys.set k y, z ≤ 255) := Lib.hid fun z hz => by
        rcases List.mem_or_eq_of_mem_set hz with x | x
        · exact HYB.out z x
        · omega
      have hjn : (k : Int) < (m : Int) := by omega
      clear HO HYB HBk hyl
      go_wp2
      go_roundw
      case rel => exact ⟨k + 1, ys.set k y, by omega, by go_num, ST.out, SZ.out, by simpa using hTr, SB.out⟩
      case measure => simp [intOf]; omega
    · obtain rfl : k = m := by omega
      clear HO HYB hyl
      have HNN0 : ∃ nn : Nat, nn = 8 * zs.length := ⟨_, rfl⟩
      obtain ⟨nn, hnn⟩ := HNN0
      have HNN := Lib.hid hnn
      have hnb : nn ≤ 8000 := by rw [hnn, HZL.out]; omega
      clear hnn
      go_wp2
      go_loopw [41] (fun iv wq => ∃ (j pp : Nat) (ff : Int), j ≤ len2 ∧ j ≤ 300 ∧ iv = .int .i64 (j : Int) ∧ pp ≤ 8 * zs.length ∧ T ≤ wq.heap.size ∧ Bo w C T wq wq rb vb zs pp ff pp ff) (fun iv _ => len2 - (intOf iv).toNat)
      case atStart => exact ⟨0, 0, 0, Nat.zero_le _, by omega, rfl, Nat.zero_le _, hTr, HBk.out⟩
      case round =>
        rename_i wo _ _ _ _
        obtain ⟨j, pp, ff, hj1, hj2, rfl, hpp, hTj, hbo⟩ := hrel
        clear hTr
        have HBj := Lib.hid hbo
        clear hbo HBk
        by_cases hgo : j < len2 ∧ j < 300
        · obtain ⟨hg1, hg2⟩ := hgo
          obtain ⟨g, off, hao, hg, hc⟩ := HA.out.cell j hg1
          subst hao
          have hc0 := (HBj.out.below.cell (p := ⟨g, off + j * 2 + 0, none⟩) hg).trans (hc 0 (by omega))
          have hc1 := (HBj.out.below.cell (p := ⟨g, off + j * 2 + 1, none⟩) hg).trans (hc 1 (by omega))
          unfold takeCell at hc0 hc1
          simp only [Nat.add_zero, if_pos, if_neg (show ¬ (1 = 0) by decide)] at hc0 hc1
          have hqb := HF.out j hg1
          generalize q j = qj at *
          obtain ⟨cb, mm⟩ := qj
          simp only at hc0 hc1 hqb
          clear hc
          have HBa := Lib.hid (HBj.out.alloc (.cells #[.bool cb, .int .i64 mm] 30))
          have hTa : T ≤ wr.heap.size := hTj
          cases cb
          · obtain ⟨N, p2, f2, hP, hp2⟩ := get_pair zs pp ff mm hpp
            have HP := Lib.hid hP
            clear hP
            go_wp2
            refine wp_region_held_drew (S := fun w' => w'.cell? ⟨wr.heap.size, 1, none⟩ = some (.int .i64 mm)) (by kernel_rfl) (by simp) (fun hS0 => ?_)
            (refine wpAnyH_take (i := 0) (oi := ⟨some 55, _, _, _, _, _⟩) (v := .pointer (some ⟨rb, 0, none⟩)) rfl (by kernel_rfl) (by kernel_rfl) (by kernel_rfl) (fun _ _ _ h => h) (Or.inl ⟨by rfl, ?_⟩) (by assumption) ?_; (intro w hSw; (try dsimp only at hSw); go_simp); (try simp only [Act.put, List.setIfInBounds_toArray, List.set_cons_zero, List.set_cons_succ]))
            (refine wpAnyH_take (i := 1) (oi := ⟨some 56, _, _, _, _, _⟩) (v := .pointer (some ⟨wr.heap.size, 1, none⟩)) rfl (by kernel_rfl) (by kernel_rfl) (by kernel_rfl) (fun _ _ _ h => h) (Or.inl ⟨by rfl, ?_⟩) (by assumption) ?_; (intro w hSw; (try dsimp only at hSw); go_simp); (try simp only [Act.put, List.setIfInBounds_toArray, List.set_cons_zero, List.set_cons_succ]))
            (refine wpAnyH_take (i := 2) (oi := ⟨some 57, _, _, _, _, _⟩) (v := .int .i64 mm) rfl (by kernel_rfl) (by kernel_rfl) (by kernel_rfl) (fun _ _ _ h => h) (Or.inl ⟨by rfl, ?_⟩) (by assumption) ?_; (intro w hSw; (try dsimp only at hSw); go_simp); (try simp only [Act.put, List.setIfInBounds_toArray, List.set_cons_zero, List.set_cons_succ]))
            (refine wpAnyH_take (i := 4) (oi := ⟨some 59, _, _, _, _, _⟩) (v := .pointer (some ⟨vb, 0, none⟩)) rfl (by kernel_rfl) (by kernel_rfl) (by kernel_rfl) (fun _ _ _ h => h) (Or.inl ⟨by rfl, ?_⟩) (by assumption) ?_; (intro w hSw; (try dsimp only at hSw); go_simp); (try simp only [Act.put, List.setIfInBounds_toArray, List.set_cons_zero, List.set_cons_succ]))
            (refine wpAnyH_take (i := 5) (oi := ⟨some 60, _, _, _, _, _⟩) (v := .pointer (some ⟨wr.heap.size, 1, none⟩)) rfl (by kernel_rfl) (by kernel_rfl) (by kernel_rfl) (fun _ _ _ h => h) (Or.inl ⟨by rfl, ?_⟩) (by assumption) ?_; (intro w hSw; (try dsimp only at hSw); go_simp); (try simp only [Act.put, List.setIfInBounds_toArray, List.set_cons_zero, List.set_cons_succ]))
            (refine wpAnyH_take (i := 6) (oi := ⟨some 61, _, _, _, _, _⟩) (v := .int .i64 mm) rfl (by kernel_rfl) (by kernel_rfl) (by kernel_rfl) (fun _ _ _ h => h) (Or.inl ⟨by rfl, ?_⟩) (by assumption) ?_; (intro w hSw; (try dsimp only at hSw); go_simp); (try simp only [Act.put, List.setIfInBounds_toArray, List.set_cons_zero, List.set_cons_succ]))
            refine wpAnyH_ready (rs := [3]) (by kernel_rfl) (by simp) ?_
            refine AllReadyH.cons (o := ⟨some 58, _, _, _, _, _⟩) rfl (fun K hK => ?_) AllReadyH.nil
            go_simp
            refine (HP.out.code w C T _ _ rb vb pp ff (by exact HBa.out.drew)).mono ?_
            rintro e w5 ⟨rfl, hb5⟩
            have HB5 := Lib.hid hb5
            clear hb5
            refine hK.out _ _ (by exact (HB5.out.cell hTa (by simp) 1).trans (by simp)) (fun hS1 => ?_)
            clear hK hS0
            refine wpAnyH_ready (rs := [7]) (by kernel_rfl) (by simp) ?_
            refine AllReadyH.cons (o := ⟨some 62, _, _, _, _, _⟩) rfl (fun K hK => ?_) AllReadyH.nil
            go_simp
            refine (HP.out.doc w C T _ _ rb vb p2 f2 (by exact HB5.out)).mono ?_
            rintro e w6 ⟨rfl, hb6⟩
            have HB6 := Lib.hid hb6
            clear hb6
            refine hK.out _ _ (by exact (HB6.out.cell hTa (by simp) 1).trans (by simp)) (fun hS2 => ?_)
            clear hK hS1
            have hnb0 : (((N : Nat) : Int) == ((N : Nat) : Int)) = true := by simp
            (refine wpAnyH_take (i := 8) (oi := ⟨some 63, _, _, _, _, _⟩) (v := .bool true) rfl (by kernel_rfl) (by kernel_rfl) (by kernel_rfl) (fun _ _ _ h => h) (Or.inl ⟨by rfl, ?_⟩) (by assumption) ?_; (intro w hSw; (try dsimp only at hSw); go_simp); (try simp only [Act.put, List.setIfInBounds_toArray, List.set_cons_zero, List.set_cons_succ]))
            (refine wpAnyH_take (i := 9) (oi := ⟨some 12, _, _, _, _, _⟩) (v := .bool true) rfl (by kernel_rfl) (by kernel_rfl) (by kernel_rfl) (fun _ _ _ h => h) (Or.inl ⟨by rfl, ?_⟩) (by assumption) ?_; (intro w hSw; (try dsimp only at hSw); go_simp); (try simp only [Act.put, List.setIfInBounds_toArray, List.set_cons_zero, List.set_cons_succ]))
            refine wpAnyH_done (by kernel_rfl) ?_ _
            clear hnb0
            obtain ⟨la, lc, l0, l1⟩ := HB6.out.vcells
            rw [← HNN.out] at l0
            obtain ⟨E2, hE2⟩ := ends_pair zs p2 f2 hp2
            have HE2 := Lib.hid hE2
            have HLf := Lib.hid (left_at HB6.out.drew HNN.out)
            have hp3 : p2 ≤ nn := by rw [HNN.out]; exact hp2
            have hwr : IntKind.i64.wrap ((nn : Int) - (p2 : Int)) = (nn : Int) - (p2 : Int) := IntWalk.i64_in _ (by omega)
            have hnb1 : (((N : Nat) : Int) == ((N : Nat) : Int)) = true := by simp
            have hnb2 : (((nn : Int) - (p2 : Int)) != ((nn : Int) - (p2 : Int))) = false := by simp
            have hnb3 : (E2 != E2) = false := by simp
            clear hE2
            go_wp2_with fail
            refine wp_region_held_drew (S := fun w' => w'.cell? ⟨vb, 0, none⟩ = some (.slice la nn lc) ∧ w'.cell? ⟨vb, 1, none⟩ = some (.int .i64 (p2 : Int))) (by kernel_rfl) (by exact ⟨l0, l1⟩) (fun hS0 => ?_)
            (refine wpAnyH_take (i := 0) (oi := ⟨some 64, _, _, _, _, _⟩) (v := .bool true) rfl (by kernel_rfl) (by kernel_rfl) (by kernel_rfl) (fun _ _ _ h => h) (Or.inl ⟨by rfl, ?_⟩) (by assumption) ?_; (intro w hSw; (try dsimp only at hSw); go_simp); (try simp only [Act.put, List.setIfInBounds_toArray, List.set_cons_zero, List.set_cons_succ]))
            (refine wpAnyH_take (i := 1) (oi := ⟨some 65, _, _, _, _, _⟩) (v := .bool false) rfl (by kernel_rfl) (by kernel_rfl) (by kernel_rfl) (fun _ _ _ h => h) (Or.inl ⟨by rfl, ?_⟩) (by assumption) ?_; (intro w hSw; (try dsimp only at hSw); go_simp); (try simp only [Act.put, List.setIfInBounds_toArray, List.set_cons_zero, List.set_cons_succ]))
            (refine wpAnyH_take (i := 2) (oi := ⟨some 66, _, _, _, _, _⟩) (v := .bool false) rfl (by kernel_rfl) (by kernel_rfl) (by kernel_rfl) (fun _ _ _ h => h) (Or.inl ⟨by rfl, ?_⟩) (by assumption) ?_; (intro w hSw; (try dsimp only at hSw); go_simp); (try simp only [Act.put, List.setIfInBounds_toArray, List.set_cons_zero, List.set_cons_succ]))
            (refine wpAnyH_take (i := 3) (oi := ⟨some 67, _, _, _, _, _⟩) (v := .pointer (some ⟨rb, 0, none⟩)) rfl (by kernel_rfl) (by kernel_rfl) (by kernel_rfl) (fun _ _ _ h => h) (Or.inl ⟨by rfl, ?_⟩) (by assumption) ?_; (intro w hSw; (try dsimp only at hSw); go_simp); (try simp only [Act.put, List.setIfInBounds_toArray, List.set_cons_zero, List.set_cons_succ]))
            (refine wpAnyH_take (i := 5) (oi := ⟨some 69, _, _, _, _, _⟩) (v := .pointer (some ⟨vb, 0, none⟩)) rfl (by kernel_rfl) (by kernel_rfl) (by kernel_rfl) (fun _ _ _ h => h) (Or.inl ⟨by rfl, ?_⟩) (by assumption) ?_; (intro w hSw; (try dsimp only at hSw); go_simp); (try simp only [Act.put, List.setIfInBounds_toArray, List.set_cons_zero, List.set_cons_succ]))
            (refine wpAnyH_take (i := 6) (oi := ⟨some 70, _, _, _, _, _⟩) (v := .pointer (some ⟨vb, 0, none⟩)) rfl (by kernel_rfl) (by kernel_rfl) (by kernel_rfl) (fun _ _ _ h => h) (Or.inl ⟨by rfl, ?_⟩) (by assumption) ?_; (intro w hSw; (try dsimp only at hSw); go_simp); (try simp only [Act.put, List.setIfInBounds_toArray, List.set_cons_zero, List.set_cons_succ]))
            (refine wpAnyH_take (i := 7) (oi := ⟨some 71, _, _, _, _, _⟩) (v := .pointer (some ⟨vb, 0, none⟩)) rfl (by kernel_rfl) (by kernel_rfl) (by kernel_rfl) (fun _ _ _ h => h) (Or.inl ⟨by rfl, ?_⟩) (by assumption) ?_; (intro w hSw; (try dsimp only at hSw); go_simp); (try simp only [Act.put, List.setIfInBounds_toArray, List.set_cons_zero, List.set_cons_succ]))
            (refine wpAnyH_take (i := 8) (oi := ⟨some 72, _, _, _, _, _⟩) (v := .slice la nn lc) rfl (by kernel_rfl) (by kernel_rfl) (by kernel_rfl) (fun _ _ _ h => h) (Or.inl ⟨by rfl, ?_⟩) (by assumption) ?_; (intro w hSw; (try dsimp only at hSw); go_simp); (try simp only [Act.put, List.setIfInBounds_toArray, List.set_cons_zero, List.set_cons_succ]))
            (refine wpAnyH_take (i := 9) (oi := ⟨some 73, _, _, _, _, _⟩) (v := .int .i64 (nn : Int)) rfl (by kernel_rfl) (by kernel_rfl) (by kernel_rfl) (fun _ _ _ h => h) (Or.inl ⟨by rfl, ?_⟩) (by assumption) ?_; (intro w hSw; (try dsimp only at hSw); go_simp); (try simp only [Act.put, List.setIfInBounds_toArray, List.set_cons_zero, List.set_cons_succ]))
            (refine wpAnyH_take (i := 10) (oi := ⟨some 74, _, _, _, _, _⟩) (v := .pointer (some ⟨vb, 0, none⟩)) rfl (by kernel_rfl) (by kernel_rfl) (by kernel_rfl) (fun _ _ _ h => h) (Or.inl ⟨by rfl, ?_⟩) (by assumption) ?_; (intro w hSw; (try dsimp only at hSw); go_simp); (try simp only [Act.put, List.setIfInBounds_toArray, List.set_cons_zero, List.set_cons_succ]))
            (refine wpAnyH_take (i := 11) (oi := ⟨some 75, _, _, _, _, _⟩) (v := .pointer (some ⟨vb, 0, none⟩)) rfl (by kernel_rfl) (by kernel_rfl) (by kernel_rfl) (fun _ _ _ h => h) (Or.inl ⟨by rfl, ?_⟩) (by assumption) ?_; (intro w hSw; (try dsimp only at hSw); go_simp); (try simp only [Act.put, List.setIfInBounds_toArray, List.set_cons_zero, List.set_cons_succ]))
            (refine wpAnyH_take (i := 12) (oi := ⟨some 76, _, _, _, _, _⟩) (v := .pointer (some ⟨vb, 1, none⟩)) rfl (by kernel_rfl) (by kernel_rfl) (by kernel_rfl) (fun _ _ _ h => h) (Or.inl ⟨by rfl, ?_⟩) (by assumption) ?_; (intro w hSw; (try dsimp only at hSw); go_simp); (try simp only [Act.put, List.setIfInBounds_toArray, List.set_cons_zero, List.set_cons_succ]))
            (refine wpAnyH_take (i := 13) (oi := ⟨some 77, _, _, _, _, _⟩) (v := .int .i64 (p2 : Int)) rfl (by kernel_rfl) (by kernel_rfl) (by kernel_rfl) (fun _ _ _ h => h) (Or.inl ⟨by rfl, ?_⟩) (by assumption) ?_; (intro w hSw; (try dsimp only at hSw); go_simp); (try simp only [Act.put, List.setIfInBounds_toArray, List.set_cons_zero, List.set_cons_succ]))
            (refine wpAnyH_take (i := 14) (oi := ⟨some 78, _, _, _, _, _⟩) (v := .int .i64 ((nn : Int) - (p2 : Int))) rfl (by kernel_rfl) (by kernel_rfl) (by kernel_rfl) (fun _ _ _ h => h) (Or.inl ⟨by rfl, ?_⟩) (by assumption) ?_; (intro w hSw; (try dsimp only at hSw); go_simp); (try simp only [Act.put, List.setIfInBounds_toArray, List.set_cons_zero, List.set_cons_succ]))
            refine wpAnyH_ready (rs := [4]) (by kernel_rfl) (by simp) ?_
            refine AllReadyH.cons (o := ⟨some 68, _, _, _, _, _⟩) rfl (fun K hK => ?_) AllReadyH.nil
            go_simp
            refine HLf.out.mono ?_
            rintro e w7 ⟨rfl, rfl⟩
            refine hK.out _ _ (by exact ⟨l0, l1⟩) (fun hS1 => ?_)
            clear hK hS0
            (refine wpAnyH_take (i := 15) (oi := ⟨some 79, _, _, _, _, _⟩) (v := .bool false) rfl (by kernel_rfl) (by kernel_rfl) (by kernel_rfl) (fun _ _ _ h => h) (Or.inl ⟨by rfl, ?_⟩) (by assumption) ?_; (intro w hSw; (try dsimp only at hSw); go_simp); (try simp only [Act.put, List.setIfInBounds_toArray, List.set_cons_zero, List.set_cons_succ]))
            (refine wpAnyH_take (i := 16) (oi := ⟨some 80, _, _, _, _, _⟩) (v := .bool false) rfl (by kernel_rfl) (by kernel_rfl) (by kernel_rfl) (fun _ _ _ h => h) (Or.inl ⟨by rfl, ?_⟩) (by assumption) ?_; (intro w hSw; (try dsimp only at hSw); go_simp); (try simp only [Act.put, List.setIfInBounds_toArray, List.set_cons_zero, List.set_cons_succ]))
            (refine wpAnyH_take (i := 17) (oi := ⟨some 81, _, _, _, _, _⟩) (v := .bool false) rfl (by kernel_rfl) (by kernel_rfl) (by kernel_rfl) (fun _ _ _ h => h) (Or.inl ⟨by rfl, ?_⟩) (by assumption) ?_; (intro w hSw; (try dsimp only at hSw); go_simp); (try simp only [Act.put, List.setIfInBounds_toArray, List.set_cons_zero, List.set_cons_succ]))
            (refine wpAnyH_take (i := 18) (oi := ⟨some 82, _, _, _, _, _⟩) (v := .pointer (some ⟨rb, 0, none⟩)) rfl (by kernel_rfl) (by kernel_rfl) (by kernel_rfl) (fun _ _ _ h => h) (Or.inl ⟨by rfl, ?_⟩) (by assumption) ?_; (intro w hSw; (try dsimp only at hSw); go_simp); (try simp only [Act.put, List.setIfInBounds_toArray, List.set_cons_zero, List.set_cons_succ]))
            (refine wpAnyH_take (i := 20) (oi := ⟨some 84, _, _, _, _, _⟩) (v := .pointer (some ⟨vb, 0, none⟩)) rfl (by kernel_rfl) (by kernel_rfl) (by kernel_rfl) (fun _ _ _ h => h) (Or.inl ⟨by rfl, ?_⟩) (by assumption) ?_; (intro w hSw; (try dsimp only at hSw); go_simp); (try simp only [Act.put, List.setIfInBounds_toArray, List.set_cons_zero, List.set_cons_succ]))
            refine wpAnyH_ready (rs := [19]) (by kernel_rfl) (by simp) ?_
            refine AllReadyH.cons (o := ⟨some 83, _, _, _, _, _⟩) rfl (fun K hK => ?_) AllReadyH.nil
            go_simp
            refine (HE2.out.code w C T _ _ rb vb (by exact HB6.out.drew.drew)).mono ?_
            rintro e w8 ⟨rfl, hb8, hv8⟩
            have HB8 := Lib.hid hb8
            have HV8 := Lib.hid hv8
            clear hb8 hv8
            refine hK.out _ _ (by exact ⟨HV8.out.1.trans l0, HV8.out.2.trans l1⟩) (fun hS2 => ?_)
            clear hK hS1
            refine wpAnyH_ready (rs := [21]) (by kernel_rfl) (by simp) ?_
            refine AllReadyH.cons (o := ⟨some 85, _, _, _, _, _⟩) rfl (fun K hK => ?_) AllReadyH.nil
            go_simp
            refine (HE2.out.doc w C T _ _ rb vb (by exact HB8.out)).mono ?_
            rintro e w9 ⟨rfl, hb9, hv9⟩
            have HB9 := Lib.hid hb9
            have HV9 := Lib.hid hv9
            clear hb9 hv9
            refine hK.out _ _ (by exact ⟨HV9.out.1.trans (HV8.out.1.trans l0), HV9.out.2.trans (HV8.out.2.trans l1)⟩) (fun hS3 => ?_)
            clear hK hS2
            (refine wpAnyH_take (i := 22) (oi := ⟨some 86, _, _, _, _, _⟩) (v := .bool false) rfl (by kernel_rfl) (by kernel_rfl) (by kernel_rfl) (fun _ _ _ h => h) (Or.inl ⟨by rfl, ?_⟩) (by assumption) ?_; (intro w hSw; (try dsimp only at hSw); go_simp); (try simp only [Act.put, List.setIfInBounds_toArray, List.set_cons_zero, List.set_cons_succ]))
            (refine wpAnyH_take (i := 23) (oi := ⟨some 87, _, _, _, _, _⟩) (v := .bool false) rfl (by kernel_rfl) (by kernel_rfl) (by kernel_rfl) (fun _ _ _ h => h) (Or.inl ⟨by rfl, ?_⟩) (by assumption) ?_; (intro w hSw; (try dsimp only at hSw); go_simp); (try simp only [Act.put, List.setIfInBounds_toArray, List.set_cons_zero, List.set_cons_succ]))
            refine wpAnyH_done (by kernel_rfl) ?_ _
            clear hnb1 hnb2 hwr
            go_wp2
            go_roundw
            case rel => exact ⟨j + 1, p2, f2, by omega, by omega, by go_num, hp2, (by have := HB9.out.grow; simp at this; omega), HB9.out.here⟩
            case measure => simp [intOf]; omega
          · obtain ⟨N, p2, f2, hP, hp2⟩ := count_pair zs pp ff hpp
            have HP := Lib.hid hP
            clear hP
            go_wp2_with fail
            refine (HP.out.code w C T _ _ rb vb pp ff (by exact HBa.out)).mono ?_
            rintro e w5 ⟨rfl, hb5⟩
            have HB5 := Lib.hid hb5
            clear hb5
            go_wp2_with fail
            refine (HP.out.doc w C T _ _ rb vb p2 f2 (by exact HB5.out)).mono ?_
            rintro e w6 ⟨rfl, hb6⟩
            have HB6 := Lib.hid hb6
            clear hb6
            obtain ⟨la, lc, l0, l1⟩ := HB6.out.vcells
            rw [← HNN.out] at l0
            obtain ⟨E2, hE2⟩ := ends_pair zs p2 f2 hp2
            have HE2 := Lib.hid hE2
            have HLf := Lib.hid (left_at HB6.out.drew HNN.out)
            have hp3 : p2 ≤ nn := by rw [HNN.out]; exact hp2
            have hwr : IntKind.i64.wrap ((nn : Int) - (p2 : Int)) = (nn : Int) - (p2 : Int) := IntWalk.i64_in _ (by omega)
            have hnb1 : (((N : Nat) : Int) == ((N : Nat) : Int)) = true := by simp
            have hnb2 : (((nn : Int) - (p2 : Int)) != ((nn : Int) - (p2 : Int))) = false := by simp
            have hnb3 : (E2 != E2) = false := by simp
            clear hE2
            go_wp2_with fail
            refine wp_region_held_drew (S := fun w' => w'.cell? ⟨vb, 0, none⟩ = some (.slice la nn lc) ∧ w'.cell? ⟨vb, 1, none⟩ = some (.int .i64 (p2 : Int))) (by kernel_rfl) (by exact ⟨l0, l1⟩) (fun hS0 => ?_)
            (refine wpAnyH_take (i := 0) (oi := ⟨some 64, _, _, _, _, _⟩) (v := .bool true) rfl (by kernel_rfl) (by kernel_rfl) (by kernel_rfl) (fun _ _ _ h => h) (Or.inl ⟨by rfl, ?_⟩) (by assumption) ?_; (intro w hSw; (try dsimp only at hSw); go_simp); (try simp only [Act.put, List.setIfInBounds_toArray, List.set_cons_zero, List.set_cons_succ]))
            (refine wpAnyH_take (i := 1) (oi := ⟨some 65, _, _, _, _, _⟩) (v := .bool false) rfl (by kernel_rfl) (by kernel_rfl) (by kernel_rfl) (fun _ _ _ h => h) (Or.inl ⟨by rfl, ?_⟩) (by assumption) ?_; (intro w hSw; (try dsimp only at hSw); go_simp); (try simp only [Act.put, List.setIfInBounds_toArray, List.set_cons_zero, List.set_cons_succ]))
            (refine wpAnyH_take (i := 2) (oi := ⟨some 66, _, _, _, _, _⟩) (v := .bool false) rfl (by kernel_rfl) (by kernel_rfl) (by kernel_rfl) (fun _ _ _ h => h) (Or.inl ⟨by rfl, ?_⟩) (by assumption) ?_; (intro w hSw; (try dsimp only at hSw); go_simp); (try simp only [Act.put, List.setIfInBounds_toArray, List.set_cons_zero, List.set_cons_succ]))
            (refine wpAnyH_take (i := 3) (oi := ⟨some 67, _, _, _, _, _⟩) (v := .pointer (some ⟨rb, 0, none⟩)) rfl (by kernel_rfl) (by kernel_rfl) (by kernel_rfl) (fun _ _ _ h => h) (Or.inl ⟨by rfl, ?_⟩) (by assumption) ?_; (intro w hSw; (try dsimp only at hSw); go_simp); (try simp only [Act.put, List.setIfInBounds_toArray, List.set_cons_zero, List.set_cons_succ]))
            (refine wpAnyH_take (i := 5) (oi := ⟨some 69, _, _, _, _, _⟩) (v := .pointer (some ⟨vb, 0, none⟩)) rfl (by kernel_rfl) (by kernel_rfl) (by kernel_rfl) (fun _ _ _ h => h) (Or.inl ⟨by rfl, ?_⟩) (by assumption) ?_; (intro w hSw; (try dsimp only at hSw); go_simp); (try simp only [Act.put, List.setIfInBounds_toArray, List.set_cons_zero, List.set_cons_succ]))
            (refine wpAnyH_take (i := 6) (oi := ⟨some 70, _, _, _, _, _⟩) (v := .pointer (some ⟨vb, 0, none⟩)) rfl (by kernel_rfl) (by kernel_rfl) (by kernel_rfl) (fun _ _ _ h => h) (Or.inl ⟨by rfl, ?_⟩) (by assumption) ?_; (intro w hSw; (try dsimp only at hSw); go_simp); (try simp only [Act.put, List.setIfInBounds_toArray, List.set_cons_zero, List.set_cons_succ]))
            (refine wpAnyH_take (i := 7) (oi := ⟨some 71, _, _, _, _, _⟩) (v := .pointer (some ⟨vb, 0, none⟩)) rfl (by kernel_rfl) (by kernel_rfl) (by kernel_rfl) (fun _ _ _ h => h) (Or.inl ⟨by rfl, ?_⟩) (by assumption) ?_; (intro w hSw; (try dsimp only at hSw); go_simp); (try simp only [Act.put, List.setIfInBounds_toArray, List.set_cons_zero, List.set_cons_succ]))
            (refine wpAnyH_take (i := 8) (oi := ⟨some 72, _, _, _, _, _⟩) (v := .slice la nn lc) rfl (by kernel_rfl) (by kernel_rfl) (by kernel_rfl) (fun _ _ _ h => h) (Or.inl ⟨by rfl, ?_⟩) (by assumption) ?_; (intro w hSw; (try dsimp only at hSw); go_simp); (try simp only [Act.put, List.setIfInBounds_toArray, List.set_cons_zero, List.set_cons_succ]))
            (refine wpAnyH_take (i := 9) (oi := ⟨some 73, _, _, _, _, _⟩) (v := .int .i64 (nn : Int)) rfl (by kernel_rfl) (by kernel_rfl) (by kernel_rfl) (fun _ _ _ h => h) (Or.inl ⟨by rfl, ?_⟩) (by assumption) ?_; (intro w hSw; (try dsimp only at hSw); go_simp); (try simp only [Act.put, List.setIfInBounds_toArray, List.set_cons_zero, List.set_cons_succ]))
            (refine wpAnyH_take (i := 10) (oi := ⟨some 74, _, _, _, _, _⟩) (v := .pointer (some ⟨vb, 0, none⟩)) rfl (by kernel_rfl) (by kernel_rfl) (by kernel_rfl) (fun _ _ _ h => h) (Or.inl ⟨by rfl, ?_⟩) (by assumption) ?_; (intro w hSw; (try dsimp only at hSw); go_simp); (try simp only [Act.put, List.setIfInBounds_toArray, List.set_cons_zero, List.set_cons_succ]))
            (refine wpAnyH_take (i := 11) (oi := ⟨some 75, _, _, _, _, _⟩) (v := .pointer (some ⟨vb, 0, none⟩)) rfl (by kernel_rfl) (by kernel_rfl) (by kernel_rfl) (fun _ _ _ h => h) (Or.inl ⟨by rfl, ?_⟩) (by assumption) ?_; (intro w hSw; (try dsimp only at hSw); go_simp); (try simp only [Act.put, List.setIfInBounds_toArray, List.set_cons_zero, List.set_cons_succ]))
            (refine wpAnyH_take (i := 12) (oi := ⟨some 76, _, _, _, _, _⟩) (v := .pointer (some ⟨vb, 1, none⟩)) rfl (by kernel_rfl) (by kernel_rfl) (by kernel_rfl) (fun _ _ _ h => h) (Or.inl ⟨by rfl, ?_⟩) (by assumption) ?_; (intro w hSw; (try dsimp only at hSw); go_simp); (try simp only [Act.put, List.setIfInBounds_toArray, List.set_cons_zero, List.set_cons_succ]))
            (refine wpAnyH_take (i := 13) (oi := ⟨some 77, _, _, _, _, _⟩) (v := .int .i64 (p2 : Int)) rfl (by kernel_rfl) (by kernel_rfl) (by kernel_rfl) (fun _ _ _ h => h) (Or.inl ⟨by rfl, ?_⟩) (by assumption) ?_; (intro w hSw; (try dsimp only at hSw); go_simp); (try simp only [Act.put, List.setIfInBounds_toArray, List.set_cons_zero, List.set_cons_succ]))
            (refine wpAnyH_take (i := 14) (oi := ⟨some 78, _, _, _, _, _⟩) (v := .int .i64 ((nn : Int) - (p2 : Int))) rfl (by kernel_rfl) (by kernel_rfl) (by kernel_rfl) (fun _ _ _ h => h) (Or.inl ⟨by rfl, ?_⟩) (by assumption) ?_; (intro w hSw; (try dsimp only at hSw); go_simp); (try simp only [Act.put, List.setIfInBounds_toArray, List.set_cons_zero, List.set_cons_succ]))
            refine wpAnyH_ready (rs := [4]) (by kernel_rfl) (by simp) ?_
            refine AllReadyH.cons (o := ⟨some 68, _, _, _, _, _⟩) rfl (fun K hK => ?_) AllReadyH.nil
            go_simp
            refine HLf.out.mono ?_
            rintro e w7 ⟨rfl, rfl⟩
            refine hK.out _ _ (by exact ⟨l0, l1⟩) (fun hS1 => ?_)
            clear hK hS0
            (refine wpAnyH_take (i := 15) (oi := ⟨some 79, _, _, _, _, _⟩) (v := .bool false) rfl (by kernel_rfl) (by kernel_rfl) (by kernel_rfl) (fun _ _ _ h => h) (Or.inl ⟨by rfl, ?_⟩) (by assumption) ?_; (intro w hSw; (try dsimp only at hSw); go_simp); (try simp only [Act.put, List.setIfInBounds_toArray, List.set_cons_zero, List.set_cons_succ]))
            (refine wpAnyH_take (i := 16) (oi := ⟨some 80, _, _, _, _, _⟩) (v := .bool false) rfl (by kernel_rfl) (by kernel_rfl) (by kernel_rfl) (fun _ _ _ h => h) (Or.inl ⟨by rfl, ?_⟩) (by assumption) ?_; (intro w hSw; (try dsimp only at hSw); go_simp); (try simp only [Act.put, List.setIfInBounds_toArray, List.set_cons_zero, List.set_cons_succ]))
            (refine wpAnyH_take (i := 17) (oi := ⟨some 81, _, _, _, _, _⟩) (v := .bool false) rfl (by kernel_rfl) (by kernel_rfl) (by kernel_rfl) (fun _ _ _ h => h) (Or.inl ⟨by rfl, ?_⟩) (by assumption) ?_; (intro w hSw; (try dsimp only at hSw); go_simp); (try simp only [Act.put, List.setIfInBounds_toArray, List.set_cons_zero, List.set_cons_succ]))
            (refine wpAnyH_take (i := 18) (oi := ⟨some 82, _, _, _, _, _⟩) (v := .pointer (some ⟨rb, 0, none⟩)) rfl (by kernel_rfl) (by kernel_rfl) (by kernel_rfl) (fun _ _ _ h => h) (Or.inl ⟨by rfl, ?_⟩) (by assumption) ?_; (intro w hSw; (try dsimp only at hSw); go_simp); (try simp only [Act.put, List.setIfInBounds_toArray, List.set_cons_zero, List.set_cons_succ]))
            (refine wpAnyH_take (i := 20) (oi := ⟨some 84, _, _, _, _, _⟩) (v := .pointer (some ⟨vb, 0, none⟩)) rfl (by kernel_rfl) (by kernel_rfl) (by kernel_rfl) (fun _ _ _ h => h) (Or.inl ⟨by rfl, ?_⟩) (by assumption) ?_; (intro w hSw; (try dsimp only at hSw); go_simp); (try simp only [Act.put, List.setIfInBounds_toArray, List.set_cons_zero, List.set_cons_succ]))
            refine wpAnyH_ready (rs := [19]) (by kernel_rfl) (by simp) ?_
            refine AllReadyH.cons (o := ⟨some 83, _, _, _, _, _⟩) rfl (fun K hK => ?_) AllReadyH.nil
            go_simp
            refine (HE2.out.code w C T _ _ rb vb (by exact HB6.out.drew.drew)).mono ?_
            rintro e w8 ⟨rfl, hb8, hv8⟩
            have HB8 := Lib.hid hb8
            have HV8 := Lib.hid hv8
            clear hb8 hv8
            refine hK.out _ _ (by exact ⟨HV8.out.1.trans l0, HV8.out.2.trans l1⟩) (fun hS2 => ?_)
            clear hK hS1
            refine wpAnyH_ready (rs := [21]) (by kernel_rfl) (by simp) ?_
            refine AllReadyH.cons (o := ⟨some 85, _, _, _, _, _⟩) rfl (fun K hK => ?_) AllReadyH.nil
            go_simp
            refine (HE2.out.doc w C T _ _ rb vb (by exact HB8.out)).mono ?_
            rintro e w9 ⟨rfl, hb9, hv9⟩
            have HB9 := Lib.hid hb9
            have HV9 := Lib.hid hv9
            clear hb9 hv9
            refine hK.out _ _ (by exact ⟨HV9.out.1.trans (HV8.out.1.trans l0), HV9.out.2.trans (HV8.out.2.trans l1)⟩) (fun hS3 => ?_)
            clear hK hS2
            (refine wpAnyH_take (i := 22) (oi := ⟨some 86, _, _, _, _, _⟩) (v := .bool false) rfl (by kernel_rfl) (by kernel_rfl) (by kernel_rfl) (fun _ _ _ h => h) (Or.inl ⟨by rfl, ?_⟩) (by assumption) ?_; (intro w hSw; (try dsimp only at hSw); go_simp); (try simp only [Act.put, List.setIfInBounds_toArray, List.set_cons_zero, List.set_cons_succ]))
            (refine wpAnyH_take (i := 23) (oi := ⟨some 87, _, _, _, _, _⟩) (v := .bool false) rfl (by kernel_rfl) (by kernel_rfl) (by kernel_rfl) (fun _ _ _ h => h) (Or.inl ⟨by rfl, ?_⟩) (by assumption) ?_; (intro w hSw; (try dsimp only at hSw); go_simp); (try simp only [Act.put, List.setIfInBounds_toArray, List.set_cons_zero, List.set_cons_succ]))
            refine wpAnyH_done (by kernel_rfl) ?_ _
            clear hnb1 hnb2 hwr
            go_wp2
            go_roundw
            case rel => exact ⟨j + 1, p2, f2, by omega, by omega, by go_num, hp2, (by have := HB9.out.grow; simp at this; omega), HB9.out.here⟩
            case measure => simp [intOf]; omega
        · obtain ⟨E, hE⟩ := end_pair zs pp ff hpp
          have HE := Lib.hid hE
          clear hE
          have hex : j = len2 ∨ (j < len2 ∧ 300 ≤ j) := by omega
          clear hgo
          rcases hex with rfl | ⟨hx1, hx2⟩
          · have hBoX := HBj.out
            have HBe := Lib.hid hBoX
            clear hBoX
            go_wp2_with fail
            refine (HE.out.code w C T _ _ rb vb pp ff (by exact HBe.out)).mono ?_
            rintro e w7 ⟨rfl, hb7⟩
            have HB7 := Lib.hid hb7
            clear hb7
            go_wp2_with fail
            refine (HE.out.doc w C T _ _ rb vb pp ff (by exact HB7.out)).mono ?_
            rintro e w8 ⟨rfl, hb8⟩
            have HB8 := Lib.hid hb8.below
            clear hb8
            go_wp2
            go_ret
            exact ⟨ret_bool1 (by simp), HB8.out⟩
          · obtain ⟨g, off, hao, hg, hc⟩ := HA.out.cell j hx1
            subst hao
            have hc0 := (HBj.out.below.cell (p := ⟨g, off + j * 2 + 0, none⟩) hg).trans (hc 0 (by omega))
            have hc1 := (HBj.out.below.cell (p := ⟨g, off + j * 2 + 1, none⟩) hg).trans (hc 1 (by omega))
            unfold takeCell at hc0 hc1
            simp only [Nat.add_zero, if_pos, if_neg (show ¬ (1 = 0) by decide)] at hc0 hc1
            generalize q j = qj at *
            obtain ⟨cb, mm⟩ := qj
            simp only at hc0 hc1
            clear hc
            have hBoX := HBj.out.alloc (.cells #[.bool cb, .int .i64 mm] 30)
            have HBe := Lib.hid hBoX
            clear hBoX
            go_wp2_with fail
            refine (HE.out.code w C T _ _ rb vb pp ff (by exact HBe.out)).mono ?_
            rintro e w7 ⟨rfl, hb7⟩
            have HB7 := Lib.hid hb7
            clear hb7
            go_wp2_with fail
            refine (HE.out.doc w C T _ _ rb vb pp ff (by exact HB7.out)).mono ?_
            rintro e w8 ⟨rfl, hb8⟩
            have HB8 := Lib.hid hb8.below
            clear hb8
            go_wp2
            go_ret
            exact ⟨ret_bool1 (by simp), HB8.out⟩

end Go.Proofs.Ytbdlcmpljhbebaa
