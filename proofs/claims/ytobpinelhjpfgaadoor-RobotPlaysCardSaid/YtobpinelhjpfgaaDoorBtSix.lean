/-
  The document's answer for layer 1: numbers and counts as lists of bits.
  The document's answer for layer 1: a count's bits; bits as bytes.
  The document's answer for layer 1: bits as bytes.
-/
import Derived.Test.YtobpinelhjpfgaaDoorBtFou
import Derived.Laws.AppendOwnNone
set_option linter.unusedVariables false
set_option maxRecDepth 100000
section
namespace Go.Proofs.YtobpinelhjpfgaaDoor
open Go.RowKit Bp

theorem Tryd.infoBool : (Tryd.prog.info? 4).map (fun i => (i.zero, i.size, i.bytes)) = some (some (.bool false), 1, 1) := by kernel_rfl

/-- Bits as cells. -/
def bb (l : List Bool) : List Value := l.map Value.bool
theorem bb_length (l : List Bool) : (bb l).length = l.length := by simp [bb]
theorem bb_one (l : List Bool) : ∀ u ∈ bb l, u.oneCell' = true := by
  intro u hu
  simp only [bb, List.mem_map] at hu
  obtain ⟨x, _, rfl⟩ := hu
  rfl
theorem bb_app (l k : List Bool) : bb (l ++ k) = bb l ++ bb k := by simp [bb]
theorem bitsOf_cons (n m : Nat) : bitsOf n (m + 1) = (n / 2 ^ m % 2 == 1) :: bitsOf n m := by
  induction m generalizing n with
  | zero => simp [bitsOf]
  | succ m ih => rw [bitsOf_succ, ih (n / 2), bitsOf_succ n m, Nat.div_div_eq_div_mul, ← Nat.pow_succ']; rfl

/-- A list of bits of its own, at v. -/
def BL (B : Nat) (w0 w : World) (v : Value) (l : List Bool) : Prop := w.ownsRow B 4 1 v l.length (bb l) ∧ Below B w0 w
/-- What stands at v: nothing where there is nothing, else a row. -/
def Shape (v : Value) (n : Nat) : Prop := (n = 0 ∧ v = .slice none 0 0) ∨ (0 < n ∧ ∃ g cap, v = .slice (some ⟨g, 0, none⟩) n cap)

theorem odd_bit (y : Nat) : ((y : Int) % 2 == 1) = (y % 2 == 1) := by
  rw [Bool.eq_iff_iff, beq_iff_eq, beq_iff_eq]; omega

set_option maxHeartbeats 1000000 in
theorem refBits_any (n m : Nat) (hn : n < 18446744073709551616) (hm : m ≤ 64) (w : World) :
    Calls Tryd.prog 55 #[.int .u64 (n : Int), .int .i64 (m : Int)] w fun e w' => ∃ v, e = .returned v ∧ Shape v m ∧ w'.ownsRow w.heap.size 4 1 v m (bb (bitsOf n m)) ∧ Below w.heap.size w w' := by
  obtain ⟨i0, hi, hz0, hz1, hz2⟩ := info_parts Tryd.infoBool
  go_enter Tryd.func55, Tryd.ntmps55
  go_wp2
  go_loopw [0, 5, 6] (fun nv lv iv wr => ∃ i : Nat, i ≤ m ∧ iv = .int .i64 (i : Int) ∧ nv = .int .u64 ((n / 2 ^ i : Nat) : Int) ∧ Shape lv i ∧ wr.ownsRow w.heap.size 4 1 lv i (bb (bitsOf n i)) ∧ Below w.heap.size w wr) (fun _ _ iv _ => m - (intOf iv).toNat)
  case atStart => exact ⟨0, Nat.zero_le _, rfl, by simp, .inl ⟨rfl, rfl⟩, World.ownsRow_nil _ _ _ _, Below.refl _ _⟩
  case round =>
    obtain ⟨i, hik, rfl, rfl, hS, hO, hB⟩ := hrel
    have HO := Lib.hid hO
    have HB := Lib.hid hB
    clear hO hB
    by_cases hlt : i < m
    · have hle : n / 2 ^ i ≤ n := Nat.div_le_self _ _
      have HN : Hid (n / 2 ^ (i + 1) = n / 2 ^ i / 2) := Lib.hid (by rw [Nat.pow_succ, Nat.div_div_eq_div_mul])
      have HC : Hid (bb (bitsOf n (i + 1)) = [Value.bool ((((n / 2 ^ i : Nat) : Int)) % 2 == 1)] ++ bb (bitsOf n i)) := Lib.hid (by rw [bitsOf_cons, odd_bit]; rfl)
      have hsz := HB.out.size
      generalize n / 2 ^ i = y at *
      have HL : Hid ((wr.alloc (.cells #[Value.bool ((y : Int) % 2 == 1)] 4)).ownsRow w.heap.size 4 1 (.slice (some ⟨wr.heap.size, 0, none⟩) 1 1) 1 [Value.bool ((y : Int) % 2 == 1)]) := Lib.hid (World.ownsRow_lit wr #[Value.bool ((y : Int) % 2 == 1)] 1 hsz (by unfold maxLen; omega) rfl)
      have HG : Hid (Below w.heap.size w (wr.alloc (.cells #[Value.bool ((y : Int) % 2 == 1)] 4))) := Lib.hid (HB.out.alloc hsz _)
      rcases hS with ⟨h0, hv⟩ | ⟨h0, g, cap, hv⟩
      · subst hv h0
        go_wp2_with (at_builtin; refine wpList_append_own_none rfl _ _ 91 rfl w.heap.size 4 i0 1 Tryd.underlying91 hi _ _ _ rfl HL.out rfl ?_)
        go_roundw
        case rel => exact ⟨1, by omega, by go_num, by rw [HN.out]; go_num, .inr ⟨by omega, _, _, rfl⟩, by rw [HC.out]; exact HL.out, HG.out⟩
        case measure => simp [intOf]; omega
      · subst hv
        have HX : Hid (∀ j u, (bb (bitsOf n i))[j]? = some u → (wr.alloc (.cells #[Value.bool ((y : Int) % 2 == 1)] 4)).cell? ((⟨g, 0, none⟩ : Addr).add j) = some u) := Lib.hid fun j u hj => by
          have := HO.out.cells (g := g) rfl j u hj
          rw [World.cell?_alloc_lt _ _ _ (World.block_lt_of_cell? wr _ this)]; exact this
        go_wp2_with (at_builtin; refine wpList_append_own_at _ rfl _ _ 91 rfl w.heap.size 4 i0 (.bool false) 1 1 Tryd.underlying91 hi hz0 hz1 hz2 rfl (by decide) _ _ _ rfl HL.out ⟨g, 0, none⟩ i cap (bb (bitsOf n i)) rfl (by rw [bb_length, bitsOf_length]; omega) HX.out (bb_one _) (by unfold maxLen; omega) (by omega) (by simp; omega) ?_; intro v' w1 hown' hgrow hne hat)
        have hrow : ∀ k, (Value.slice (some ⟨wr.heap.size, 0, none⟩) 1 1).ownBlock = some k → w.heap.size ≤ k := fun k hk => by
          have : wr.heap.size = k := by simpa [Value.ownBlock] using hk
          omega
        have RB : Hid (Below w.heap.size w w1) := Lib.hid (Below.grown HG.out hgrow (by simp; omega) hrow)
        have RO : Hid (w1.ownsRow w.heap.size 4 1 v' (i + 1) (bb (bitsOf n (i + 1)))) := Lib.hid (by rw [HC.out, Nat.add_comm i 1]; exact hown')
        obtain ⟨g', cap', hv'⟩ : ∃ g' cap', v' = .slice (some ⟨g', 0, none⟩) (i + 1) cap' := by
          rcases RO.out.2 with ⟨_, x⟩ | ⟨g', cap', cur, x, _⟩
          · omega
          · exact ⟨g', cap', x⟩
        subst hv'
        clear hown' hgrow hne hat hrow HX HL HG HO HB
        go_wp2
        go_roundw
        case rel => exact ⟨i + 1, by omega, by go_num, by rw [HN.out]; go_num, .inr ⟨by omega, _, _, rfl⟩, RO.out, RB.out⟩
        case measure => simp [intOf]; omega
    · obtain rfl : i = m := by omega
      go_wp2
      go_ret
      exact ⟨_, rfl, hS, HO.out, HB.out⟩

theorem refBits_int (n m : Nat) (N M : Int) (hn : n < 18446744073709551616) (hm : m ≤ 64) (w : World) (hN : N = n) (hM : M = m) :
    Calls Tryd.prog 55 #[.int .u64 N, .int .i64 M] w fun e w' => ∃ v, e = .returned v ∧ Shape v m ∧ w'.ownsRow w.heap.size 4 1 v m (bb (bitsOf n m)) ∧ Below w.heap.size w w' := by
  subst hN hM; exact refBits_any n m hn hm w

end Go.Proofs.YtobpinelhjpfgaaDoor
end

section
namespace Go.Proofs.YtobpinelhjpfgaaDoor
open Go.RowKit Bp

/-- Appending to a list of its own: what there is behind it. -/
theorem shape_of {w : World} {B : Nat} {e : TypeId} {v : Value} {n : Nat} {xs : List Value} (h : w.ownsRow B e 1 v n xs) (hn : 0 < n) : ∃ g cap, v = .slice (some ⟨g, 0, none⟩) n cap := by
  rcases h.2 with ⟨_, x⟩ | ⟨g, cap, cur, x, _⟩
  · omega
  · exact ⟨g, cap, x⟩
theorem own_ge {w : World} {B : Nat} {e : TypeId} {v : Value} {n : Nat} {xs : List Value} (h : w.ownsRow B e 1 v n xs) : ∀ k, v.ownBlock = some k → B ≤ k := fun k hk => (h.lt k hk).1

set_option maxHeartbeats 2000000 in
theorem refCount_any (n : Nat) (hn : n + 1 < 18446744073709551616) (w : World) :
    Calls Tryd.prog 54 #[.int .u64 (n : Int)] w fun e w' => ∃ g cap, e = .returned (.slice (some ⟨g, 0, none⟩) (2 * kz n + 1) cap) ∧ w'.ownsRow w.heap.size 4 1 (.slice (some ⟨g, 0, none⟩) (2 * kz n + 1) cap) (2 * kz n + 1) (bb (countBits n)) ∧ Below w.heap.size w w' := by
  obtain ⟨i0, hi, hz0, hz1, hz2⟩ := info_parts Tryd.infoBool
  have hk63 := kz_63 n hn
  go_enter Tryd.func54, Tryd.ntmps54
  go_wp2
  go_loop [3, 4] (fun kk mm => ∃ j : Nat, j ≤ kz n ∧ 2 ^ j ≤ n + 1 ∧ kk = .int .i64 (j : Int) ∧ mm = .int .u64 (((n + 1) / 2 ^ j : Nat) : Int)) (fun kk _ => 64 - (intOf kk).toNat)
  case atStart => exact ⟨0, by omega, by simp, rfl, by simp⟩
  case round =>
    obtain ⟨j, hj, hp, rfl, rfl⟩ := hrel
    have hle' : (n + 1) / 2 ^ j ≤ n + 1 := Nat.div_le_self _ _
    have HN : Hid ((n + 1) / 2 ^ (j + 1) = (n + 1) / 2 ^ j / 2) := Lib.hid (by rw [Nat.pow_succ, Nat.div_div_eq_div_mul])
    by_cases h1 : 1 < (n + 1) / 2 ^ j
    · have hmm := half_more (n + 1) j h1
      have hj1 : j + 1 ≤ kz n := by
        rcases Nat.lt_or_ge (kz n) (j + 1) with z | z
        · have h2 := kz_lt n
          have h3 : (2 : Nat) ^ (kz n + 1) ≤ 2 ^ (j + 1) := Nat.pow_le_pow_right (by decide) z
          omega
        · exact z
      have HM := Lib.hid hmm
      clear hmm hp
      generalize (n + 1) / 2 ^ j = x at *
      go_wp2
      go_round
      case rel => exact ⟨j + 1, hj1, HM.out, by go_num, by rw [HN.out]; go_num⟩
      case measure => simp [intOf]; omega
    · have hjk := half_end n j hp (by omega)
      subst hjk
      clear hp HN hle'
      generalize (n + 1) / 2 ^ kz n = x at *
      go_wp2
      go_loopw [5, 6] (fun lv iv wr => ∃ i : Nat, i ≤ kz n ∧ iv = .int .i64 (i : Int) ∧ wr.ownsRow w.heap.size 4 1 lv i (bb (List.replicate i false)) ∧ Below w.heap.size w wr) (fun _ iv _ => kz n - (intOf iv).toNat)
      case atStart => exact ⟨0, Nat.zero_le _, rfl, World.ownsRow_nil _ _ _ _, Below.refl _ _⟩
      case round =>
        obtain ⟨i, hik, rfl, hO, hB⟩ := hrel
        have hsz := hB.size
        have HO := Lib.hid hO
        have HB := Lib.hid hB
        clear hO hB
        by_cases hlt : i < kz n
        · go_wp2_with (at_builtin; refine wpList_append_own_at _ rfl _ _ 91 rfl w.heap.size 4 i0 (.bool false) 1 1 Tryd.underlying91 hi hz0 hz1 hz2 rfl (by decide) _ _ _ rfl (HO.out.alloc _) ⟨wr.heap.size, 0, none⟩ 1 1 [.bool false] rfl rfl (cell_one_new _ _ _) (bb_one [false]) (by unfold maxLen; omega) (by omega) (by simp; omega) ?_; intro v' w1 hown' hgrow hne hat)
          have RB : Hid (Below w.heap.size w w1) := Lib.hid (Below.grown (HB.out.alloc hsz _) hgrow (by simp; omega) (own_ge HO.out))
          have RO : Hid (w1.ownsRow w.heap.size 4 1 v' (i + 1) (bb (List.replicate (i + 1) false))) := Lib.hid (by rw [List.replicate_succ', bb_app]; exact hown')
          obtain ⟨g', cap', hv'⟩ := shape_of RO.out (by omega)
          subst hv'
          clear hown' hgrow hne hat HO HB
          go_wp2
          go_roundw
          case rel => exact ⟨i + 1, by omega, by go_num, RO.out, RB.out⟩
          case measure => simp [intOf]; omega
        · obtain rfl : i = kz n := by omega
          clear hlt hik
          go_wp2_with fail
          refine (refBits_int (n + 1) (kz n + 1) ((n : Int) + 1) ((kz n : Int) + 1) (by omega) (by omega) wr (by omega) (by omega)).mono ?_
          rintro e w1 ⟨v2, rfl, hS2, hO2, hB2⟩
          obtain ⟨g2, cap2, hv2⟩ := shape_of hO2 (by omega)
          subst hv2
          have HO2 := Lib.hid hO2
          have HO1 : Hid (w1.ownsRow w.heap.size 4 1 _ (kz n) (bb (List.replicate (kz n) false))) := Lib.hid (ownsRow_same HO.out (fun k hk => hB2.block k (HO.out.lt k hk).2))
          have HB1 : Hid (Below w.heap.size w w1) := Lib.hid (HB.out.trans (hB2.mono hsz))
          have hsz1 := HB1.out.size
          clear hO2 hB2 hS2 HO HB
          go_wp2_with (at_builtin; refine wpList_append_own_at _ rfl _ _ 91 rfl w.heap.size 4 i0 (.bool false) 1 1 Tryd.underlying91 hi hz0 hz1 hz2 rfl (by decide) _ _ _ rfl HO1.out ⟨g2, 0, none⟩ (kz n + 1) cap2 (bb (bitsOf (n + 1) (kz n + 1))) rfl (by rw [bb_length, bitsOf_length]; omega) (HO2.out.cells (g := g2) rfl) (bb_one _) (by unfold maxLen; omega) (by omega) (by omega) ?_; intro v' w2 hown' hgrow hne hat)
          have RB : Hid (Below w.heap.size w w2) := Lib.hid (Below.grown HB1.out hgrow (by omega) (own_ge HO1.out))
          have RO : Hid (w2.ownsRow w.heap.size 4 1 v' (2 * kz n + 1) (bb (countBits n))) := Lib.hid (by
            unfold countBits
            rw [bb_app, show 2 * kz n + 1 = kz n + (kz n + 1) by omega]
            exact hown')
          obtain ⟨g', cap', hv'⟩ := shape_of RO.out (by omega)
          subst hv'
          clear hown' hgrow hne hat HO1 HB1 HO2
          go_wp2
          go_ret
          exact ⟨g', cap', rfl, RO.out, RB.out⟩

end Go.Proofs.YtobpinelhjpfgaaDoor
end

section
namespace Go.Proofs.YtobpinelhjpfgaaDoor
open Go.RowKit Bp

/-- The bytes, with room for one bit more. -/
def grow (bs : List Bool) : List Nat := if bs.length % 8 = 0 then pack bs ++ [0] else pack bs
theorem grow_len (bs : List Bool) : (grow bs).length = bs.length / 8 + 1 := by
  unfold grow
  split
  · rw [List.length_append, pack_length]; simp [nb]; omega
  · rw [pack_length]; unfold nb; omega
theorem byteAt_zero (bs : List Bool) (h : bs.length % 8 = 0) : byteAt bs (bs.length / 8) = 0 := by
  unfold byteAt
  rw [bitN_ge _ _ (by omega), bitN_ge _ (8 * (bs.length / 8) + 1) (by omega), bitN_ge _ (8 * (bs.length / 8) + 2) (by omega), bitN_ge _ (8 * (bs.length / 8) + 3) (by omega), bitN_ge _ (8 * (bs.length / 8) + 4) (by omega), bitN_ge _ (8 * (bs.length / 8) + 5) (by omega), bitN_ge _ (8 * (bs.length / 8) + 6) (by omega), bitN_ge _ (8 * (bs.length / 8) + 7) (by omega)]
theorem grow_get (bs : List Bool) : (grow bs).getD (bs.length / 8) 0 = byteAt bs (bs.length / 8) := by
  unfold grow
  split
  · rename_i h
    have hl : (pack bs).length = bs.length / 8 := by rw [pack_length]; unfold nb; omega
    rw [byteAt_zero bs h, List.getD, List.getElem?_append_right (by omega), hl, Nat.sub_self]
    rfl
  · rw [pack_getD _ _ (by unfold nb; omega)]
theorem grow_set (bs : List Bool) (y : Nat) : (grow bs).set (bs.length / 8) y = if bs.length % 8 = 0 then pack bs ++ [y] else (pack bs).set (bs.length / 8) y := by
  unfold grow
  split
  · rename_i h
    have hl : (pack bs).length = bs.length / 8 := by rw [pack_length]; unfold nb; omega
    rw [← hl]; simp
  · rfl
theorem pack_true (bs : List Bool) : pack (bs ++ [true]) = (grow bs).set (bs.length / 8) (byteAt bs (bs.length / 8) + pw (bs.length % 8)) := by
  rw [grow_set]
  split
  · rename_i h
    rw [pack_snoc_new bs true h, byteAt_zero bs h, h]; rfl
  · rename_i h
    rw [pack_snoc_in bs true h, bn_true, Nat.one_mul]
theorem pack_false (bs : List Bool) : pack (bs ++ [false]) = grow bs := by
  unfold grow
  split
  · rename_i h
    rw [pack_snoc_new bs false h]; rfl
  · rename_i h
    rw [pack_snoc_in bs false h, bn_false, Nat.zero_mul, Nat.add_zero]
    apply List.ext_getElem?
    intro i
    by_cases hi : i = bs.length / 8
    · subst hi
      have hlt : bs.length / 8 < nb bs.length := by unfold nb; omega
      rw [List.getElem?_set_self (by rw [pack_length]; exact hlt), pack_get _ _ hlt]
    · rw [List.getElem?_set_ne (by omega)]
theorem grow_byte_le (bs : List Bool) : byteAt bs (bs.length / 8) + pw (bs.length % 8) ≤ 255 := by
  have h := byteAt_le (bs ++ [true]) (bs.length / 8)
  rw [byteAt_snoc_same, bn_true, Nat.one_mul] at h
  exact h
theorem pw_half (j : Nat) : j < 7 → pw (j + 1) = pw j / 2 := fun h => by
  have : j = 0 ∨ j = 1 ∨ j = 2 ∨ j = 3 ∨ j = 4 ∨ j = 5 ∨ j = 6 := by omega
  rcases this with rfl | rfl | rfl | rfl | rfl | rfl | rfl <;> rfl
theorem pw_le (j : Nat) : pw j ≤ 128 := by
  unfold pw
  have : (2 : Nat) ^ (7 - j) ≤ 2 ^ 7 := Nat.pow_le_pow_right (by decide) (by omega)
  omega

set_option maxHeartbeats 4000000 in
theorem refBytes_any (v : Value) (l : List Bool) (w : World) (C : Nat) (hv : w.ownsRow C 4 1 v l.length (bb l)) (hl : l.length ≤ 1048576) :
    Calls Tryd.prog 57 #[v] w fun e w' => ∃ v', e = .returned v' ∧ w'.ownsRow w.heap.size 5 1 v' (nb l.length) (bc (pack l)) ∧ Below w.heap.size w w' := by
  obtain ⟨i0, hi, hz0, hz1, hz2⟩ := info_parts Tryd.infoU8
  obtain ⟨va, vcap, rfl⟩ := ownsRow_shape hv
  have HV := Lib.hid hv
  clear hv
  go_enter Tryd.func57, Tryd.ntmps57
  go_wp2
  go_loopw [3, 4] (fun bv iv wr => ∃ i : Nat, i ≤ l.length ∧ iv = .int .i64 (i : Int) ∧ wr.ownsRow w.heap.size 5 1 bv (nb i) (bc (pack (l.take i))) ∧ Below w.heap.size w wr) (fun _ iv _ => l.length - (intOf iv).toNat)
  case atStart => exact ⟨0, Nat.zero_le _, rfl, by rw [List.take_zero]; exact World.ownsRow_nil _ _ _ _, Below.refl _ _⟩
  case round =>
    obtain ⟨i, hik, rfl, hO, hB⟩ := hrel
    have hsz := hB.size
    have HO := Lib.hid hO
    have HB := Lib.hid hB
    clear hO hB
    by_cases hlt : i < l.length
    · obtain ⟨g, cap, hva⟩ : ∃ g cap, Value.slice va l.length vcap = .slice (some ⟨g, 0, none⟩) l.length cap := shape_of HV.out (by omega)
      simp only [Value.slice.injEq, true_and] at hva
      obtain ⟨rfl, rfl⟩ := hva
      have hg : g < w.heap.size := (HV.out.lt g rfl).2
      obtain ⟨x, hx⟩ : ∃ x, l[i] = x := ⟨_, rfl⟩
      have hcell : Hid (w.cell? ⟨g, i, none⟩ = some (.bool x)) := Lib.hid (by rw [HV.out.cellAt _ (by omega)]; simp [bb, List.getElem?_eq_getElem hlt, hx])
      have HT : Hid (l.take (i + 1) = l.take i ++ [x]) := Lib.hid (by rw [List.take_succ_eq_append_getElem hlt, hx])
      have hbl : (l.take i).length = i := by rw [List.length_take]; omega
      clear hx
      generalize l.take i = bs at *
      have HBL := Lib.hid hbl
      clear hbl
      by_cases h8 : i % 8 = 0
      · have t8 : (((i : Int) % 8) == 0) = true := by rw [beq_iff_eq]; omega
        have q0 : ((i : Int) / 8).toNat = i / 8 := by omega
        have hnb : nb i = i / 8 := by unfold nb; omega
        have HO8 : Hid (wr.ownsRow w.heap.size 5 1 _ (i / 8) (bc (pack bs))) := Lib.hid (by rw [← hnb]; exact HO.out)
        clear HO hnb
        go_wp2_with (at_builtin; refine wpList_append_own_at _ rfl _ _ 35 rfl w.heap.size 5 i0 (.int .u8 0) 1 1 Tryd.underlying35 hi hz0 hz1 hz2 rfl (by decide) _ _ _ rfl (HO8.out.alloc _) ⟨wr.heap.size, 0, none⟩ 1 1 [.int .u8 0] rfl rfl (cell_one_new _ _ _) (bc_one [0]) (by unfold maxLen; omega) (by omega) (by simp; omega) ?_)
        intro v' W1 hown' hgrow hne hat
        have RB : Hid (Below w.heap.size w W1) := Lib.hid (Below.grown (HB.out.alloc hsz _) hgrow (by simp; omega) (own_ge HO8.out))
        have RO : Hid (W1.ownsRow w.heap.size 5 1 v' (i / 8 + 1) (bc (grow bs))) := Lib.hid (by
          unfold grow
          rw [if_pos (by rw [HBL.out]; exact h8), bc_app]
          exact hown')
        obtain ⟨b1, c1, hv'⟩ := shape_of RO.out (by omega)
        subst hv'
        clear hown' hgrow hne hat HO8 HB
        have hgb : ∀ WX : World, Below w.heap.size w WX → WX.cell? ⟨g, i, none⟩ = some (.bool x) := fun WX hX => (hX.cell (p := ⟨g, i, none⟩) hg).trans hcell.out
        have cx := hgb W1 RB.out
        have hyle := grow_byte_le bs
        have hlen2 := grow_len bs
        have HQ : Hid ((grow bs).getD (bs.length / 8) 0 = byteAt bs (bs.length / 8)) := Lib.hid (grow_get bs)
        cases x
        · have RR : Hid (W1.ownsRow w.heap.size 5 1 (.slice (some ⟨b1, 0, none⟩) (i / 8 + 1) c1) (nb (i + 1)) (bc (pack (l.take (i + 1))))) := Lib.hid (by
            rw [HT.out, pack_false, show nb (i + 1) = i / 8 + 1 by unfold nb; omega]; exact RO.out)
          clear hgb
          go_wp2
          go_roundw
          case rel => exact ⟨i + 1, by omega, by go_num, RR.out, RB.out⟩
          case measure => simp [intOf]; omega
        · have cb : W1.cell? ⟨b1, i / 8, none⟩ = some (.int .u8 (byteAt bs (bs.length / 8) : Int)) := by
            rw [RO.out.cellAt _ (by omega)]
            have e : (grow bs)[i / 8]? = some (byteAt bs (bs.length / 8)) := by
              have h1 := HQ.out
              rw [HBL.out] at h1 hlen2 ⊢
              rw [List.getD, List.getElem?_eq_getElem (by omega)] at h1
              rw [List.getElem?_eq_getElem (by omega)]
              simpa using h1
            simp [bc, e]
          have fb : W1.frozen? ⟨b1, i / 8, none⟩ = false := RO.out.frozenAt _
          have ST : Hid ((W1.setCell ⟨b1, i / 8, none⟩ (.int .u8 ((byteAt bs (bs.length / 8) : Int) + (pw (i % 8) : Int)))).ownsRow w.heap.size 5 1 (.slice (some ⟨b1, 0, none⟩) (i / 8 + 1) c1) (nb (i + 1)) (bc (pack (l.take (i + 1))))) := Lib.hid (by
            have h1 := (RO.out.stored (i / 8) (.int .u8 ((byteAt bs (bs.length / 8) + pw (i % 8) : Nat) : Int))).1
            rw [bc_set] at h1
            rw [HT.out, pack_true, HBL.out, show nb (i + 1) = i / 8 + 1 by unfold nb; omega]
            rw [HBL.out] at h1
            simpa using h1)
          have hb1 : w.heap.size ≤ b1 := (RO.out.lt b1 rfl).1
          have SB : Hid (Below w.heap.size w (W1.setCell ⟨b1, i / 8, none⟩ (.int .u8 ((byteAt bs (bs.length / 8) : Int) + (pw (i % 8) : Int))))) := Lib.hid (RB.out.setCell (p := ⟨b1, i / 8, none⟩) hb1 _)
          have hyb : byteAt bs (bs.length / 8) + pw (i % 8) ≤ 255 := by rw [HBL.out] at hyle ⊢; exact hyle
          generalize byteAt bs (bs.length / 8) = yb at *
          clear hgb hlen2
          go_wp2
          go_loop [5, 6] (fun pv kv => ∃ j : Nat, j ≤ i % 8 ∧ pv = .int .u8 (pw j : Int) ∧ kv = .int .i64 (j : Int)) (fun _ kv => 8 - (intOf kv).toNat)
          case atStart => exact ⟨0, Nat.zero_le _, rfl, rfl⟩
          case round =>
            obtain ⟨j, hj, rfl, rfl⟩ := hrel
            have hpw := pw_half j
            have hpl := pw_le j
            have HP : Hid (j < 7 → pw (j + 1) = pw j / 2) := Lib.hid hpw
            clear hpw
            by_cases hjl : j < i % 8
            · exact absurd hjl (by omega)
            · obtain rfl : j = i % 8 := by omega
              generalize pw (i % 8) = pj at *
              go_wp2
              go_roundw
              case rel => exact ⟨i + 1, by omega, by go_num, ST.out, SB.out⟩
              case measure => simp [intOf]; omega
      · have t8 : (((i : Int) % 8) == 0) = false := by rw [beq_eq_false_iff_ne]; omega
        have q0 : ((i : Int) / 8).toNat = i / 8 := by omega
        have hnb : nb i = i / 8 + 1 := by unfold nb; omega
        obtain ⟨W1, hW1⟩ : ∃ W1, W1 = wr := ⟨_, rfl⟩
        subst hW1
        have RB := HB
        have RO : Hid (W1.ownsRow w.heap.size 5 1 _ (i / 8 + 1) (bc (grow bs))) := Lib.hid (by
          unfold grow
          rw [if_neg (by rw [HBL.out]; exact h8), ← hnb]
          exact HO.out)
        obtain ⟨b1, c1, hv'⟩ := shape_of RO.out (by omega)
        subst hv'
        clear HO HB hnb
        have hgb : ∀ WX : World, Below w.heap.size w WX → WX.cell? ⟨g, i, none⟩ = some (.bool x) := fun WX hX => (hX.cell (p := ⟨g, i, none⟩) hg).trans hcell.out
        have cx := hgb W1 RB.out
        have hyle := grow_byte_le bs
        have hlen2 := grow_len bs
        have HQ : Hid ((grow bs).getD (bs.length / 8) 0 = byteAt bs (bs.length / 8)) := Lib.hid (grow_get bs)
        cases x
        · have RR : Hid (W1.ownsRow w.heap.size 5 1 (.slice (some ⟨b1, 0, none⟩) (i / 8 + 1) c1) (nb (i + 1)) (bc (pack (l.take (i + 1))))) := Lib.hid (by
            rw [HT.out, pack_false, show nb (i + 1) = i / 8 + 1 by unfold nb; omega]; exact RO.out)
          clear hgb
          go_wp2
          go_roundw
          case rel => exact ⟨i + 1, by omega, by go_num, RR.out, RB.out⟩
          case measure => simp [intOf]; omega
        · have cb : W1.cell? ⟨b1, i / 8, none⟩ = some (.int .u8 (byteAt bs (bs.length / 8) : Int)) := by
            rw [RO.out.cellAt _ (by omega)]
            have e : (grow bs)[i / 8]? = some (byteAt bs (bs.length / 8)) := by
              have h1 := HQ.out
              rw [HBL.out] at h1 hlen2 ⊢
              rw [List.getD, List.getElem?_eq_getElem (by omega)] at h1
              rw [List.getElem?_eq_getElem (by omega)]
              simpa using h1
            simp [bc, e]
          have fb : W1.frozen? ⟨b1, i / 8, none⟩ = false := RO.out.frozenAt _
          have ST : Hid ((W1.setCell ⟨b1, i / 8, none⟩ (.int .u8 ((byteAt bs (bs.length / 8) : Int) + (pw (i % 8) : Int)))).ownsRow w.heap.size 5 1 (.slice (some ⟨b1, 0, none⟩) (i / 8 + 1) c1) (nb (i + 1)) (bc (pack (l.take (i + 1))))) := Lib.hid (by
            have h1 := (RO.out.stored (i / 8) (.int .u8 ((byteAt bs (bs.length / 8) + pw (i % 8) : Nat) : Int))).1
            rw [bc_set] at h1
            rw [HT.out, pack_true, HBL.out, show nb (i + 1) = i / 8 + 1 by unfold nb; omega]
            rw [HBL.out] at h1
            simpa using h1)
          have hb1 : w.heap.size ≤ b1 := (RO.out.lt b1 rfl).1
          have SB : Hid (Below w.heap.size w (W1.setCell ⟨b1, i / 8, none⟩ (.int .u8 ((byteAt bs (bs.length / 8) : Int) + (pw (i % 8) : Int))))) := Lib.hid (RB.out.setCell (p := ⟨b1, i / 8, none⟩) hb1 _)
          have hyb : byteAt bs (bs.length / 8) + pw (i % 8) ≤ 255 := by rw [HBL.out] at hyle ⊢; exact hyle
          generalize byteAt bs (bs.length / 8) = yb at *
          clear hgb hlen2
          go_wp2
          go_loop [5, 6] (fun pv kv => ∃ j : Nat, j ≤ i % 8 ∧ pv = .int .u8 (pw j : Int) ∧ kv = .int .i64 (j : Int)) (fun _ kv => 8 - (intOf kv).toNat)
          case atStart => exact ⟨0, Nat.zero_le _, rfl, rfl⟩
          case round =>
            obtain ⟨j, hj, rfl, rfl⟩ := hrel
            have hpw := pw_half j
            have hpl := pw_le j
            have HP : Hid (j < 7 → pw (j + 1) = pw j / 2) := Lib.hid hpw
            clear hpw
            by_cases hjl : j < i % 8
            · generalize hpp : pw j = pj at *
              clear hpp
              go_wp2
              go_round
              case rel => exact ⟨j + 1, by omega, by rw [HP.out (by omega)]; go_num, by go_num⟩
              case measure => simp [intOf]; omega
            · obtain rfl : j = i % 8 := by omega
              generalize pw (i % 8) = pj at *
              go_wp2
              go_roundw
              case rel => exact ⟨i + 1, by omega, by go_num, ST.out, SB.out⟩
              case measure => simp [intOf]; omega
    · obtain rfl : i = l.length := by omega
      go_wp2
      go_ret
      exact ⟨_, rfl, by simpa using HO.out, HB.out⟩

end Go.Proofs.YtobpinelhjpfgaaDoor
end
