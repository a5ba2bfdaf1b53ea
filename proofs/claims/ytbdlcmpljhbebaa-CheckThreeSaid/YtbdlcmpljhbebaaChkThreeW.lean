/-
  The statement CheckThree: its walk.
-/
import Derived.Test.YtbdlcmpljhbebaaChkSumsW
import Derived.Laws.MakeOwn
import Derived.OwnWalk
set_option linter.unusedVariables false
namespace Go.Proofs.Ytbdlcmpljhbebaa
open Go.RowKit Bp Ck

theorem made_zero (m : Nat) : (madeCells #[Value.int .u8 0] m).toList = bc (List.replicate m 0) := by
  apply List.ext_getElem
  · rw [bc_length, List.length_replicate, Array.length_toList, size_madeCells]
  · intro i h1 h2
    simp [madeCells, bc, Nat.mod_one]
theorem min_four (ts : Array TypeId) (t : TypeId) (a b c d m : Int) (h : min (min (min a b) c) d = m) (w : World) : (Builtin.min_ ts t #[.int .i64 a, .int .i64 b, .int .i64 c, .int .i64 d]).run Try.prog w = .ok (.int .i64 m) w := by
  subst h
  have e : ∀ x y : Int, (if y < x then y else x) = min x y := fun x y => by split <;> omega
  simp [Builtin.min_, Builtin.min2, e]
theorem sum_quiet {B : Nat} {w : World} {A : Option Addr} {n cap : Nat} {zs : List Nat} (h : By B w A n cap zs) (q : Nat) :
    Calls Try.prog 23 #[.slice A n cap] (w.drewN q) fun e w' => e = .returned (.int .u16 ((crc zs : Nat) : Int)) ∧ ∃ m, w' = (w.drewN q).drewN m := by
  have hb : By B (w.drewN q) A n cap zs := h.below ⟨rfl, rfl, rfl, Nat.le_refl _, fun _ _ => rfl⟩
  refine (sum_any hb).mono ?_
  rintro e w' ⟨rfl, rfl⟩
  exact ⟨rfl, 0, rfl⟩
theorem xor_three (x y z : Nat) (hx : x ≤ 255) (hy : y ≤ 255) (hz : z ≤ 255) : bits BinOp.xor IntKind.u8 (bits BinOp.xor IntKind.u8 (x : Int) (y : Int)) (z : Int) = ((x ^^^ y ^^^ z : Nat) : Int) := by
  have h : x ^^^ y < 2 ^ 8 := Nat.xor_lt_two_pow (by omega) (by omega)
  rw [u8_xor_nat x y (by omega) (by omega), u8_xor_nat (x ^^^ y) z (by omega) (by omega)]
theorem xr_getD (a b : List Nat) (k : Nat) (h1 : k < a.length) (h2 : k < b.length) : (xr a b).getD k 0 = a.getD k 0 ^^^ b.getD k 0 := by
  simp [xr, List.getD, List.getElem?_zipWith, List.getElem?_eq_getElem h1, List.getElem?_eq_getElem h2]
theorem xr_len (a b : List Nat) (h : a.length = b.length) : (xr a b).length = a.length := by simp [xr]; omega
theorem xor16_three (x y z : Nat) (hx : x < 65536) (hy : y < 65536) (hz : z < 65536) : bits BinOp.xor IntKind.u16 (bits BinOp.xor IntKind.u16 (x : Int) (y : Int)) (z : Int) = ((x ^^^ y ^^^ z : Nat) : Int) := by
  have h : x ^^^ y < 2 ^ 16 := Nat.xor_lt_two_pow (by omega) (by omega)
  rw [u16_xor_nat x y (by omega) (by omega), u16_xor_nat (x ^^^ y) z (by omega) (by omega)]
/-- One more is as it must be. -/
theorem take_set (ds T : List Nat) (k x : Nat) (h : ds.take k = T.take k) (hk : k < ds.length) (hx : T.getD k 0 = x) (hT : k < T.length) : (ds.set k x).take (k + 1) = T.take (k + 1) := by
  rw [List.take_succ_eq_append_getElem (by simpa using hk), List.take_succ_eq_append_getElem hT, List.take_set_of_le (Nat.le_refl _), h]
  simp only [List.getElem_set_self]
  rw [List.getD, List.getElem?_eq_getElem hT] at hx
  simp at hx
  rw [hx]
theorem xr_byte (a b : List Nat) (ha : ∀ z ∈ a, z ≤ 255) (hb : ∀ z ∈ b, z ≤ 255) : ∀ z ∈ xr a b, z ≤ 255 := by
  intro z hz
  obtain ⟨i, hi, rfl⟩ := List.getElem_of_mem hz
  have h1 : i < a.length ∧ i < b.length := by simp [xr] at hi; omega
  have e : (xr a b)[i] = a[i] ^^^ b[i] := by simp [xr]
  rw [e]
  have := ha _ (List.getElem_mem h1.1)
  have := hb _ (List.getElem_mem h1.2)
  have : a[i] ^^^ b[i] < 2 ^ 8 := Nat.xor_lt_two_pow (by omega) (by omega)
  omega

set_option maxHeartbeats 2000000 in
theorem checkThree_walk (ao : Option Addr) (la ca : Nat) (f : Nat → Nat) (bo : Option Addr) (lb cb : Nat) (q : Nat → Nat) (co : Option Addr) (lc cc : Nat) (p : Nat → Nat) (w : World)
    (hA : ArgIn (fun z : Nat => Value.int .u8 (z : Int)) w ao la ca f) (hf : ∀ i, i < la → f i ≤ 255) (hQ : ArgIn (fun z : Nat => Value.int .u8 (z : Int)) w bo lb cb q) (hq : ∀ i, i < lb → q i ≤ 255)
    (hP : ArgIn (fun z : Nat => Value.int .u8 (z : Int)) w co lc cc p) (hp : ∀ i, i < lc → p i ≤ 255) :
    Calls Try.prog 10 #[.slice ao la ca, .slice bo lb cb, .slice co lc cc] w fun e w' => e = .returned (.bool true) ∧ Below w.heap.size w w' := by
  obtain ⟨m, hm⟩ : ∃ m : Nat, m = min (min (min la lb) lc) 10000 := ⟨_, rfl⟩
  have hmm : min (min (min (la : Int) (lb : Int)) (lc : Int)) 10000 = (m : Int) := by omega
  have hm1 : m ≤ 10000 := by omega
  have hma : m ≤ la := by omega
  have hmb : m ≤ lb := by omega
  have hmc : m ≤ lc := by omega
  clear hm
  have H1 := Lib.hid (By.arg hA hf m hma)
  have H2 := Lib.hid (By.arg hQ hq m hmb)
  have H3 := Lib.hid (By.arg hP hp m hmc)
  have hla := hA.le
  have hlb := hQ.le
  have hlc := hP.le
  have hxa := hA.max
  have hxb := hQ.max
  have hxc := hP.max
  unfold maxLen at hxa hxb hxc
  generalize listOf f m = xs at *
  generalize listOf q m = ys at *
  generalize listOf p m = zs at *
  clear hA hf hQ hq hP hp
  go_enter Try.func10, Try.ntmps10
  go_wp2_with fail
  refine (shown2_any _).mono ?_
  rintro e w1 ⟨rfl, hb1⟩
  have HB1 := Lib.hid hb1
  clear hb1
  obtain ⟨i0, hi, hz0, hz1, hz2⟩ := info_parts Try.infoU8
  have hmin := fun ts t W => min_four ts t (la : Int) (lb : Int) (lc : Int) 10000 (m : Int) hmm W
  have hs1 := HB1.out.size
  have l1 := H1.out.len
  have l2 := H2.out.len
  have l3 := H3.out.len
  have HL1 := Lib.hid l1
  have HL2 := Lib.hid l2
  have HL3 := Lib.hid l3
  obtain ⟨T, hT⟩ : ∃ T, T = xr (xr xs ys) zs := ⟨_, rfl⟩
  have hTl : T.length = m := by rw [hT, xr_len _ _ (by rw [xr_len _ _ (by omega)]; omega), xr_len _ _ (by omega)]; omega
  have HT := Lib.hid hT
  have HTl := Lib.hid hTl
  clear hmm l1 l2 l3 hT hTl
  go_wp2_with (at_make; refine wpList_make_full _ rfl _ _ 22 rfl w.heap.size 5 i0 (.int .u8 0) 1 Try.underlying22 hi hz0 hz1 .i64 .i64 _ _ m rfl rfl rfl rfl (by rw [hz2]; omega) (by unfold maxLen; omega) hs1 ?_)
  intro w2 ho2 hg2
  rw [made_zero] at ho2
  have HB2 := Lib.hid (Below.grown HB1.out hg2 hs1 (fun k hk => by cases hk))
  have HO2 := Lib.hid ho2
  have HG : Hid (w.heap.size ≤ w1.heap.size) := Lib.hid hs1
  clear ho2 hg2
  obtain ⟨g, hgd⟩ : ∃ g, g = w1.heap.size := ⟨_, rfl⟩
  rw [← hgd] at HO2 HG ⊢
  clear hgd hmin HB1 hs1
  go_wp2
  go_loopw [23] (fun i wr => ∃ (k : Nat) (ds : List Nat), k ≤ m ∧ i = .int .i64 (k : Int) ∧ ds.take k = T.take k ∧ wr.ownsRow w.heap.size 5 1 (.slice (some ⟨g, 0, none⟩) m m) m (bc ds) ∧ Below w.heap.size w wr) (fun i _ => m - (intOf i).toNat)
  case atStart => exact ⟨0, _, Nat.zero_le _, rfl, by simp, HO2.out, HB2.out⟩
  case round =>
    obtain ⟨k, ds, hk, rfl, htk, ho, hb⟩ := hrel
    have hdl : ds.length = m := by have := ho.1; rw [bc_length] at this; omega
    have HO := Lib.hid ho
    have HB := Lib.hid hb
    have HTK := Lib.hid htk
    have HDL := Lib.hid hdl
    clear htk ho hb hdl HO2 HB2
    by_cases hlt : k < m
    · obtain ⟨g1, o1, rfl, hg1, e1⟩ := (H1.out.below HB.out).cell (by omega)
      obtain ⟨g2, o2, rfl, hg2, e2⟩ := (H2.out.below HB.out).cell (by omega)
      obtain ⟨g3, o3, rfl, hg3, e3⟩ := (H3.out.below HB.out).cell (by omega)
      have c1 := e1 k hlt
      have c2 := e2 k hlt
      have c3 := e3 k hlt
      clear e1 e2 e3
      have b1 := getD_byte xs k H1.out.byte
      have b2 := getD_byte ys k H2.out.byte
      have b3 := getD_byte zs k H3.out.byte
      have HTX : Hid (T.getD k 0 = xs.getD k 0 ^^^ ys.getD k 0 ^^^ zs.getD k 0) := Lib.hid (by
        rw [HT.out, xr_getD _ _ _ (by rw [xr_len _ _ (by rw [HL1.out, HL2.out]), HL1.out]; exact hlt) (by rw [HL3.out]; exact hlt), xr_getD _ _ _ (by rw [HL1.out]; exact hlt) (by rw [HL2.out]; exact hlt)])
      have hge : w.heap.size ≤ g := (HO.out.lt g rfl).1
      have cd : wr.cell? ⟨g, k, none⟩ = some (.int .u8 ((ds.getD k 0 : Nat) : Int)) := by
        rw [HO.out.cellAt k (by omega)]
        simp [bc, List.getD, List.getElem?_eq_getElem (show k < ds.length by rw [HDL.out]; exact hlt)]
      have fd : wr.frozen? ⟨g, k, none⟩ = false := HO.out.frozenAt k
      generalize xs.getD k 0 = x at *
      generalize ys.getD k 0 = y at *
      generalize zs.getD k 0 = z at *
      generalize ds.getD k 0 = dd at *
      have HX := Lib.hid (xor_three x y z b1 b2 b3)
      have n1 : ¬ g1 = g := by omega
      have n2 : ¬ g2 = g := by omega
      have n3 : ¬ g3 = g := by omega
      have i1 : (k : Int) < (la : Int) := by omega
      have i2 : (k : Int) < (lb : Int) := by omega
      have i3 : (k : Int) < (lc : Int) := by omega
      have i4 : (k : Int) < (m : Int) := by omega
      go_wp2
      go_region
      rw [HX.out]
      go_wp2
      go_roundw
      case rel =>
        refine ⟨k + 1, ds.set k (x ^^^ y ^^^ z), by omega, by go_num, take_set ds T k _ HTK.out (by rw [HDL.out]; exact hlt) HTX.out (by rw [HTl.out]; exact hlt), ?_, ?_⟩
        · have := (HO.out.stored k (.int .u8 ((x ^^^ y ^^^ z : Nat) : Int))).1
          rw [bc_set] at this
          exact this
        · exact (HB.out.setCell (p := ⟨g, k, none⟩) hge _).drew
      case measure => simp [intOf]; omega
    · obtain rfl : k = m := by omega
      have hds : ds = T := by
        have := HTK.out
        rw [List.take_of_length_le (by rw [HDL.out]; exact Nat.le_refl _), List.take_of_length_le (by rw [HTl.out]; exact Nat.le_refl _)] at this
        exact this
      have hTb : ∀ t ∈ T, t ≤ 255 := by rw [HT.out]; exact xr_byte _ _ (xr_byte _ _ H1.out.byte H2.out.byte) H3.out.byte
      have hcr := crc_three xs ys zs (by rw [HL1.out, HL2.out]) (by rw [HL2.out, HL3.out])
      rw [← HT.out] at hcr
      have Y1 := Lib.hid (H1.out.below HB.out)
      have Y2 := Lib.hid (H2.out.below HB.out)
      have Y3 := Lib.hid (H3.out.below HB.out)
      have Y4 : Hid (By wr.heap.size wr (some ⟨g, 0, none⟩) k k T) := Lib.hid (by have := HO.out; rw [hds] at this; exact By.own this hTb)
      have t1 := crc_lt xs H1.out.byte
      have t2 := crc_lt ys H2.out.byte
      have t3 := crc_lt zs H3.out.byte
      have HX := Lib.hid (xor16_three _ _ _ t1 t2 t3)
      have HCR := Lib.hid hcr
      have s1 := fun wx => slice_h ao la ca k wx (by omega)
      have s2 := fun wx => slice_h bo lb cb k wx (by omega)
      have s3 := fun wx => slice_h co lc cc k wx (by omega)
      clear hds hTb hcr t1 t2 t3 H1 H2 H3 HO HTK HDL HL1 HL2 HL3 HT HTl
      go_wp2
      go_quiet ((go_at_call 23; first | (with_reducible exact Calls.quiet_of (sum_quiet Y1.out _)) | (with_reducible exact Calls.quiet_of (sum_quiet Y2.out _)) | (with_reducible exact Calls.quiet_of (sum_quiet Y3.out _)) | (with_reducible exact Calls.quiet_of (sum_quiet Y4.out _))))
      rw [HX.out, HCR.out]
      go_wp2
      go_ret
      exact ⟨ret_bool (by simp), HB.out.trans ⟨rfl, rfl, rfl, Nat.le_refl _, fun _ _ => rfl⟩⟩

end Go.Proofs.Ytbdlcmpljhbebaa
