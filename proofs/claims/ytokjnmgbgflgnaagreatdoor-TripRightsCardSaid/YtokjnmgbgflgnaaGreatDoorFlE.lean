/-
  Whether lanes are joined: joined.
-/
import Derived.Test.YtokjnmgbgflgnaaGreatDoorFlM
import Derived.Test.YtokjnmgbgflgnaaGreatDoorFlPlain
import Derived.Deep.RegionHeld3
set_option linter.unusedVariables false
set_option maxRecDepth 100000
namespace Go.Proofs.YtokjnmgbgflgnaaGreatDoor
open Go.RowKit Fl Go.Maps

/-- Where the cut l .. of room up to m lies. -/
def cutA (A : Option Addr) (l m : Nat) : Option Addr := if m = l then A else A.map (·.add l)
theorem slice_l (A : Option Addr) (n cap l : Nat) (w : World) (h : l ≤ n) : (Instr.slice 24 (.slice A n cap) (some (.int .i64 (l : Int))) none none).run Tryz.prog w = .ok (.slice (cutA A l cap) (n - l) (cap - l)) w := by
  rw [run_slice_l w 24 A n cap Tryz.underlying24 .i64 (l : Int) (by omega) (by omega)]
  simp [go_sem, cutA, Tryz.sizeOf3]
theorem run_makeMap_hint (n : Int) (w : World) : (Instr.makeMap 67 (some (.int .i64 n))).run Tryz.prog w = .ok (.map (some w.heap.size)) (w.alloc (.map #[] 0)) := by
  simp [Instr.makeMap, run_underlying Tryz.underlying67, Result.andThen, asInt, asIntOf]
theorem zeroUnit (w : World) : (zeroValue 68).run Tryz.prog w = .ok (.agg #[]) w := by kernel_rfl
theorem own_one (w : World) (base : Nat) (x : Nat) (X : Int) (hX : X = x) (hb : base ≤ w.heap.size) : Own (w.alloc (.cells #[.int .i64 X] 3)) base (.slice (some ⟨w.heap.size, 0, none⟩) 1 1) [x] := by
  subst hX
  exact ⟨rfl, .inr ⟨w.heap.size, 1, _, rfl, hb, heap_alloc_new w _, Nat.le_refl _, by unfold maxLen; omega, rfl, rfl⟩⟩
/-- A list and a map lie in other blocks. -/
theorem own_map_ne {w : World} {base : Nat} {v : Value} {xs : List Nat} {P : Program} {k : TypeId} {R : Value → Option (DataW Unit × List MemPlace)} {u : DataW Unit} {b n : Nat} {l : List Nat} (h : Own w base v xs) (hm : SetOf P k R u w b n l) : some b ≠ v.ownBlock := by
  intro e
  obtain ⟨D, ⟨es, clock, hb, _⟩, _⟩ := hm
  rcases h.2 with ⟨rfl, _⟩ | ⟨g, cap, cur, rfl, _, hg, _⟩
  · simp [Value.ownBlock] at e
  · simp [Value.ownBlock] at e
    subst e
    rw [hb] at hg
    cases hg

/-- What lies there while what is reached grows. -/
structure Sp (w : World) (W H : Int) (s : ByteArray) (n : Nat) (R M : List Nat) (v : Value) (wr : World) : Prop where
  box : Box w W H s wr
  own : ∃ A m cap, v = .slice A m cap ∧ m = R.length ∧ Own wr (w.heap.size + 1) v R
  set : SetOf Tryz.prog 3 unitElem (.agg []) wr (w.heap.size + 1) n M

/-- Behind a blank and a strike: the box, the lists. -/
theorem after_del {w wq w5 : World} {W H : Int} {s : ByteArray} {o : Obj} {v v3 : Value} {B3 n : Nat} {R M l : List Nat} (hB : Box w W H s wq) (hO : Own wq (w.heap.size + 1) v R) (hM : SetOf Tryz.prog 3 unitElem (.agg []) wq (w.heap.size + 1) n M) (hS : Own wq B3 v3 l)
    (hg : (wq.alloc o).grownBy w5 (some (w.heap.size + 1))) : Box w W H s w5 ∧ Own w5 (w.heap.size + 1) v R ∧ Own w5 B3 v3 l := by
  have hal := (Below.refl wq.heap.size wq).alloc (Nat.le_refl _) o
  refine ⟨(hB.after hal).later (Below.grown (Below.refl _ _) hg (Nat.le_trans hB.lt hal.size) (fun j hj => by cases hj; exact Nat.le_refl _)), ?_, ?_⟩
  · exact World.ownsRow.kept (hO.later hal) hg (Or.inr (own_map_ne (hO.later hal) (hM.later hal)).symm)
  · exact World.ownsRow.kept (hS.later hal) hg (Or.inr (own_map_ne (hS.later hal) (hM.later hal)).symm)

set_option maxHeartbeats 4000000 in
theorem joined_any (W H : Nat) (s : ByteArray) (A : Option Addr) (n cap B : Nat) (a : Nat) (r : List Nat) (w : World) (hS : Sides W H s) (hn : n = (a :: r).length) (ho : Own w B (.slice A n cap) (a :: r)) (hp : pick isL (at_ s) (W * H) = a :: r) :
    Calls Tryz.prog 97 #[.agg #[.int .i64 (W : Int), .int .i64 (H : Int), .string s], .slice A n cap] w (Told (Joined W H (at_ s)) w) := by
  have h256 := hS.le
  have hlen : n ≤ 256 := by rw [hn, ← hp]; have := pick_le isL (at_ s) (W * H); have := hS.sz; omega
  have hn1 : 1 ≤ n := by rw [hn]; simp
  have hcap : n ≤ cap ∧ cap ≤ maxLen := ho.cap hn
  have hmx := hcap.2
  unfold maxLen at hmx
  have HS := Lib.hid hS
  have HP := Lib.hid hp
  have HND : Hid (a :: r).Nodup := Lib.hid (by rw [← hp]; exact pick_nodup _ _ _)
  have HLT : Hid (∀ x, x ∈ a :: r → x < W * H) := Lib.hid (fun x hx => (mem_pick.1 (by rw [hp]; exact hx)).1)
  have HLA : Hid (∀ x, x ∈ a :: r → isL (at_ s x) = true) := Lib.hid (fun x hx => (mem_pick.1 (by rw [hp]; exact hx)).2)
  have h256' : Hid (W * H ≤ 256) := Lib.hid (le_mul16 hS.w2 hS.h2)
  have HN := Lib.hid hn
  obtain ⟨g, rfl, hg, _⟩ := ho.at 0 (by simp)
  have hcell : Hid (∀ j, j < n → w.cell? ⟨g, j, none⟩ = some (.int .i64 (((a :: r).getD j 0 : Nat) : Int))) := Lib.hid (fun j hj => by
    obtain ⟨g', e, _, hc⟩ := ho.at j (by rw [← hn]; exact hj)
    simp only [Option.some.injEq, Addr.mk.injEq, and_true] at e
    rw [e]; exact hc)
  have c00 : w.cell? ⟨g, 0, none⟩ = some (.int .i64 (a : Int)) := hcell.out 0 (by omega)
  obtain ⟨A2, hA2⟩ : ∃ A2, A2 = cutA (some ⟨g, 0, none⟩) 1 cap := ⟨_, rfl⟩
  have hsl : ∀ wx : World, (Instr.slice 24 (.slice (some ⟨g, 0, none⟩) n cap) (some (.int .i64 1)) none none).run Tryz.prog wx = .ok (.slice A2 (n - 1) (cap - 1)) wx := fun wx => by
    have := slice_l (some ⟨g, 0, none⟩) n cap 1 wx hn1
    rw [← hA2] at this
    exact this
  have hcut : Hid (∀ j, j < n - 1 → A2 = some ⟨g, 1, none⟩) := Lib.hid (fun j hj => by rw [hA2]; unfold cutA; rw [if_neg (by omega)]; simp [Addr.add])
  have hmm := run_makeMap_hint
  clear hS hp hn ho hcap hA2
  go_enter Tryz.func97, Tryz.ntmps97
  go_wp2
  go_loopw [20] (fun iv wr => ∃ k : Nat, k ≤ n - 1 ∧ iv = .int .i64 (k : Int) ∧ Box w W H s wr ∧ SetOf Tryz.prog 3 unitElem (.agg []) wr (w.heap.size + 1) k (r.take k)) (fun iv _ => n - (intOf iv).toNat)
  case atStart => 
    refine ⟨0, Nat.zero_le _, rfl, (Box.start w W H s 23).later ((Below.refl _ _).alloc (by simp) _), ?_⟩
    have := SetOf.made Tryz.prog 3 unitElem (.agg []) (w.alloc (.cells #[.int .i64 (W : Int), .int .i64 (H : Int), .string s] 23))
    simpa using this
  case round =>
    obtain ⟨k, hk, rfl, hB, hM⟩ := hrel
    have HB := Lib.hid hB
    have HM := Lib.hid hM
    clear hB hM
    by_cases hlt : k < n - 1
    · have hA := hcut.out k hlt
      subst hA
      have hkr : k < r.length := by have := HN.out; simp at this; omega
      have hc1 : wr.cell? ⟨g, 1 + k, none⟩ = some (.int .i64 ((r.getD k 0 : Nat) : Int)) := by
        rw [HB.out.below.cell (p := ⟨g, 1 + k, none⟩) hg, hcell.out (1 + k) (by omega), Nat.add_comm 1 k]
        rfl
      have hmr : r.getD k 0 ∈ r := by rw [List.getD, List.getElem?_eq_getElem hkr]; exact List.getElem_mem hkr
      have hyb : r.getD k 0 ≤ 1048576 := by have := HLT.out _ (List.mem_cons_of_mem _ hmr); have := h256'.out; omega
      have HNI : Hid (r.getD k 0 ∉ r.take k) := Lib.hid (not_mem_take (List.nodup_cons.1 HND.out).2 hkr)
      have HTK : Hid (r.take (k + 1) = r.take k ++ [r.getD k 0]) := Lib.hid (by rw [List.take_succ_eq_append_getElem hkr, List.getD, List.getElem?_eq_getElem hkr]; rfl)
      clear hmr
      generalize r.getD k 0 = y at *
      go_wp2_with (at_mapUpdate; refine set_put _ rfl _ _ _ 67 rfl 68 Tryz.underlying3 Tryz.underlying67 rfl HM.out (by omega) _ y rfl hyb rfl _ rfl unitElem_mk HNI.out ?_; intro w1 hm1 hg1)
      go_roundw
      case rel => exact ⟨k + 1, by omega, by go_num, HB.out.later (Below.grown (Below.refl _ _) hg1 HB.out.lt (fun j hj => by cases hj; exact Nat.le_refl _)), by rw [HTK.out]; exact hm1⟩
      case measure => simp [intOf]; omega
    · obtain rfl : k = n - 1 := by omega
      have HT : Hid (r.take (n - 1) = r) := Lib.hid (List.take_of_length_le (by have := HN.out; simp at this; omega))
      have c01 : wr.cell? ⟨g, 0, none⟩ = some (.int .i64 (a : Int)) := (HB.out.below.cell (p := ⟨g, 0, none⟩) hg).trans c00
      have hsz := HB.out.lt
      have HW0 := Lib.hid (Wv.start W H (at_ s) a r HND.out)
      have HM0 : Hid (SetOf Tryz.prog 3 unitElem (.agg []) wr (w.heap.size + 1) n r) := Lib.hid (by have := HM.out.mono (show n - 1 ≤ n by omega); rw [HT.out] at this; exact this)
      clear HM
      go_wp2
      go_loopw [8, 9] (fun v iv wq => ∃ (i : Nat) (R M : List Nat), i ≤ R.length ∧ iv = .int .i64 (i : Int) ∧ Wv W H (at_ s) a r i R M ∧ Sp w W H s n R M v wq) (fun _ iv _ => n + 1 - (intOf iv).toNat)
      case atStart =>
        exact ⟨0, [a], r, by simp, rfl, HW0.out, (HB.out.after ((Below.refl _ _).alloc (Nat.le_refl _) _)), ⟨_, _, _, rfl, rfl, own_one wr (w.heap.size + 1) a _ rfl (by omega)⟩, HM0.out.later ((Below.refl _ _).alloc (Nat.le_refl _) _)⟩
      case round =>
        rename World => wo
        obtain ⟨i, R, M, hi, rfl, hW, hB2, ⟨A, m, c, rfl, hm, hO⟩, hM2⟩ := hrel
        have hRl := hW.len
        have hRn : R.length ≤ n := by rw [HN.out]; omega
        have HW := Lib.hid hW
        have HB2 := Lib.hid hB2
        have HO := Lib.hid hO
        have HM2 := Lib.hid hM2
        have HRM := Lib.hid hm
        clear hW hB2 hO hM2 HW0 HM0 HB hRl
        by_cases hlt2 : i < R.length
        · have hi2 : i < m := by rw [HRM.out]; exact hlt2
          obtain ⟨gr, rfl, hgr, hcr⟩ := HO.out.at i hlt2
          have hmem := getD_mem hlt2
          have HIN := Lib.hid (HLT.out _ (HW.out.sub _ hmem))
          have hcb : R.getD i 0 ≤ 256 := by have := HIN.out; have := h256'.out; omega
          have hm2 : m ≤ 256 := by rw [HRM.out]; omega
          clear hm hmem
          obtain ⟨d, hd⟩ : ∃ d, d = R.getD i 0 := ⟨_, rfl⟩
          rw [← hd] at HIN hcr hcb
          have HD := Lib.hid hd
          clear hd
          have k0 := HB2.out.c0
          have k1 := HB2.out.c1
          have k2 := HB2.out.c2
          have hsz := HB2.out.lt
          have HBE := Lib.hid (fun wx => beside_any W H d s wx HS.out.w1 HS.out.w2 HS.out.h1 HS.out.h2 HIN.out)
          go_upto_region 11 with (fail)
          go_cut [43, 44, 45] (fun v lv iv wc => ∃ A2 n2 c2, v = .slice A2 n2 c2 ∧ lv = .int .i64 (n2 : Int) ∧ iv = .int .i64 0 ∧ n2 = (side W H d).length ∧ Own wc wo.heap.size (.slice A2 n2 c2) (side W H d) ∧ Below wo.heap.size wo wc)
          case first =>
            go_region_held3 (fun w' => w'.cell? ⟨w.heap.size, 0, none⟩ = some (.int .i64 (W : Int)) ∧ w'.cell? ⟨w.heap.size, 1, none⟩ = some (.int .i64 (H : Int)) ∧ w'.cell? ⟨w.heap.size, 2, none⟩ = some (.string s) ∧ w'.cell? ⟨gr, i, none⟩ = some (.int .i64 (d : Int))) (go_keep)
              ((go_at_call 47; refine (HBE.out _).mono ?_; rintro e w2 ⟨A2, n2, c2, rfl, hn2, ho2, hb2⟩; have HN2 := Lib.hid hn2; clear hn2; have e0 : w2.cell? ⟨w.heap.size, 0, none⟩ = some (.int .i64 (W : Int)) := (hb2.cell (p := ⟨w.heap.size, 0, none⟩) hsz).trans k0; have e1 : w2.cell? ⟨w.heap.size, 1, none⟩ = some (.int .i64 (H : Int)) := (hb2.cell (p := ⟨w.heap.size, 1, none⟩) hsz).trans k1; have e2 : w2.cell? ⟨w.heap.size, 2, none⟩ = some (.string s) := (hb2.cell (p := ⟨w.heap.size, 2, none⟩) hsz).trans k2; have e3 : w2.cell? ⟨gr, i, none⟩ = some (.int .i64 (d : Int)) := (hb2.cell (p := ⟨gr, i, none⟩) hgr).trans hcr))
            all_goals
              go_wp2_with fail
              go_meet
              exact ⟨_, _, _, rfl, rfl, rfl, HN2.out, ho2, (Below.refl wo.heap.size wo).drew.trans hb2⟩
          case rest =>
            obtain ⟨A3, n3, c3, rfl, rfl, rfl, hn3, ho3, hb3⟩ := hcut
            have HBc := Lib.hid (HB2.out.after hb3)
            have HOc := Lib.hid (HO.out.later hb3)
            have HMc := Lib.hid (HM2.out.later hb3)
            have HSD := Lib.hid ho3
            have HN3 := Lib.hid hn3
            have hn34 : n3 ≤ 4 := by rw [hn3]; exact side_len W H d
            have hszc := Nat.le_trans hsz hb3.size
            have HAP : Hid ((Value.slice (some ⟨gr, 0, none⟩) m c).ownBlock = none ∨ (Value.slice (some ⟨gr, 0, none⟩) m c).ownBlock ≠ (Value.slice A3 n3 c3).ownBlock) := Lib.hid (Or.inr (fun e => by
              have h1 := own_ge ho3 gr (by rw [← e]; rfl)
              exact absurd hgr (Nat.not_lt.2 h1)))
            clear k0 k1 k2 hcr hn3 ho3 hb3 HB2 HO HM2 HBE
            go_wp2
            go_loopw [8, 45] (fun v qv wq => ∃ (q : Nat) (R' M' : List Nat), q ≤ n3 ∧ qv = .int .i64 (q : Int) ∧ Wv W H (at_ s) a r i R' M' ∧ Sp w W H s n R' M' v wq ∧ Own wq wo.heap.size (.slice A3 n3 c3) (side W H d) ∧ (v.ownBlock = none ∨ v.ownBlock ≠ (Value.slice A3 n3 c3).ownBlock) ∧ i < R'.length ∧ R'.getD i 0 = d ∧ ∀ j, j < q → (side W H d).getD j 0 ∉ M') (fun _ qv _ => n3 - (intOf qv).toNat)
            case atStart => exact ⟨0, R, M, Nat.zero_le _, rfl, HW.out, ⟨HBc.out, ⟨_, _, _, rfl, HRM.out, HOc.out⟩, HMc.out⟩, HSD.out, HAP.out, hlt2, HD.out.symm, fun j hj => by omega⟩
            case round =>
              rename World => wq
              obtain ⟨q, R', M', hq, rfl, hW', ⟨hBx, ⟨A', m', c', rfl, hm', hO'⟩, hM'⟩, hSd, hAp, hiR, hRd, hj⟩ := hrel
              have hRl := hW'.len
              have hRn' : R'.length ≤ n := by rw [HN.out]; omega
              have hmn : m' ≤ 256 := by rw [hm']; omega
              have kk := hBx.lt
              have HW' := Lib.hid hW'
              have HBx := Lib.hid hBx
              have HO' := Lib.hid hO'
              have HM' := Lib.hid hM'
              have HSd := Lib.hid hSd
              have HAp := Lib.hid hAp
              have HRd := Lib.hid hRd
              have HJ := Lib.hid hj
              have Hm' := Lib.hid hm'
              clear hW' hBx hO' hM' hSd hAp hRd hj hm' hRl
              by_cases hlt3 : q < n3
              · have hq3 : q < (side W H d).length := by rw [← HN3.out]; exact hlt3
                obtain ⟨g3, rfl, hg3, hc3⟩ := HSd.out.at q hq3
                have HYS := Lib.hid (getD_mem hq3)
                have HYL := Lib.hid (side_lt HS.out.w1 HIN.out HYS.out)
                obtain ⟨y, hy⟩ : ∃ y, y = (side W H d).getD q 0 := ⟨_, rfl⟩
                rw [← hy] at hc3 HYS HYL
                have hyb : y ≤ 1048576 := by have := HYL.out; have := h256'.out; omega
                have HY := Lib.hid hy
                clear hy hq3
                by_cases hin : y ∈ M'
                · have hdt : decide (y ∈ M') = true := decide_eq_true hin
                  have HIn := Lib.hid hin
                  clear hin
                  have HMa := Lib.hid (HM'.out.later ((Below.refl wq.heap.size wq).alloc (Nat.le_refl _) (.cells #[] 68)))
                  go_wp2_with (first
                    | (at_lookup; refine set_in _ rfl _ _ 67 rfl 68 Tryz.underlying3 Tryz.underlying67 (zeroUnit _) rfl HM'.out _ y rfl hyb rfl ?_)
                    | (at_delete; refine set_del _ rfl _ _ 67 rfl 68 Tryz.underlying3 Tryz.underlying67 rfl HMa.out HW'.out.nd _ y rfl hyb rfl HIn.out ?_; intro w5 hm5 hg5; have HK := Lib.hid (after_del HBx.out HO'.out HM'.out HSd.out hg5); have hz5 := HK.out.1.lt; have HM5 := Lib.hid hm5; clear hm5 hg5)
                    | (at_builtin; refine app_int2 rfl _ _ rfl (w.heap.size + 1) (.slice A' m' c') R' rfl y _ rfl _ rfl HK.out.2.1 rfl (by omega) hz5 ?_; intro A6 c6 n6 w6 hn6 ho6 hb6 hg6 hat6; have HN6 := Lib.hid hn6; clear hn6))
                  go_roundw
                  case rel =>
                    have hne := own_map_ne HK.out.2.1 HM5.out
                    refine ⟨q + 1, R' ++ [y], M'.erase y, by omega, by go_num, HW'.out.step HLA.out hiR y (by rw [HRd.out]; exact HYS.out) HIn.out, ⟨HK.out.1.later hb6, ⟨_, _, _, rfl, HN6.out, ho6⟩, HM5.out.kept hg6 hne⟩, ?_, ?_, ?_, ?_, ?_⟩
                    · exact World.ownsRow.kept HK.out.2.2 hg6 (by rcases HAp.out with h | h; exact Or.inr (by rw [h]; intro e; cases e); exact Or.inr (fun e => h e.symm))
                    · rcases hat6 with h | h
                      · rw [h]; exact HAp.out
                      · rw [h]
                        refine Or.inr (fun e => ?_)
                        have := HK.out.2.2.lt (w5.heap.size + 1) e.symm
                        omega
                    · rw [List.length_append]; omega
                    · rw [getD_app hiR]; exact HRd.out
                    · intro j hj hm
                      rcases Nat.lt_succ_iff_lt_or_eq.1 hj with h | h
                      · exact HJ.out j h (List.mem_of_mem_erase hm)
                      · subst h
                        rw [← HY.out] at hm
                        exact HW'.out.nd.not_mem_erase hm
                  case measure => simp [intOf]; omega
                · have hdt : decide (y ∈ M') = false := decide_eq_false hin
                  have HIn := Lib.hid hin
                  clear hin
                  go_wp2_with (at_lookup; refine set_in _ rfl _ _ 67 rfl 68 Tryz.underlying3 Tryz.underlying67 (zeroUnit _) rfl HM'.out _ y rfl hyb rfl ?_)
                  go_roundw
                  case rel =>
                    have hal := (Below.refl wq.heap.size wq).alloc (Nat.le_refl _) (.cells #[] 68)
                    refine ⟨q + 1, R', M', by omega, by go_num, HW'.out, ⟨HBx.out.after hal, ⟨_, _, _, rfl, Hm'.out, HO'.out.later hal⟩, HM'.out.later hal⟩, HSd.out.later hal, HAp.out, hiR, HRd.out, ?_⟩
                    intro j hj hm
                    rcases Nat.lt_succ_iff_lt_or_eq.1 hj with h | h
                    · exact HJ.out j h hm
                    · subst h
                      rw [← HY.out] at hm
                      exact HIn.out hm
                  case measure => simp [intOf]; omega
              · obtain rfl : q = n3 := by omega
                go_wp2
                go_roundw
                case rel =>
                  refine ⟨i + 1, R', M', by omega, by go_num, HW'.out.next (fun y hy hm => ?_), HBx.out, ⟨_, _, _, rfl, Hm'.out, HO'.out⟩, HM'.out⟩
                  rw [HRd.out] at hy
                  obtain ⟨j, hj, e⟩ := mem_getD hy
                  exact HJ.out j (by rw [HN3.out]; exact hj) (by rw [e]; exact hm)
                case measure => simp [intOf]; omega
        · have hi2 : ¬ i < m := by rw [HRM.out]; exact hlt2
          have HF := Lib.hid (HW.out.finish (by omega) HS.out.w1 HP.out)
          clear hm
          go_wp2_with (at_len; refine set_len _ rfl _ 67 rfl 68 Tryz.underlying67 rfl HM2.out ?_)
          go_ret
          exact ⟨_, rfl, by rw [← HF.out]; simp, HB2.out.below⟩

end Go.Proofs.YtokjnmgbgflgnaaGreatDoor
