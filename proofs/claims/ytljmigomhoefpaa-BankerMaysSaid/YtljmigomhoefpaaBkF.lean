/-
  Layer 8: the order (order), for both closures (written by tools/bkgen2.py).
-/
import Derived.Test.YtljmigomhoefpaaBkE
set_option linter.unusedVariables false
set_option maxRecDepth 100000
namespace Go.Proofs.Ytljmigomhoefpaa.Bk
open Go.RowKit Go.Maps

def lenV : Value → Nat
  | .slice _ n _ => n
  | _ => 0
theorem Iw.other {w w' : World} {base g : Nat} {v : Value} {L : List Int} (h : Iw w base v L) (hg : w.grownBy w' (some g)) (hv : v.ownBlock ≠ some g) : Iw w' base v L :=
  ownsRow_same h (fun k hk => hg.block k (World.ownsRow.lt h k hk).2 (fun e => hv (by rw [hk, e])))
theorem Iw.kept {w w' : World} {base : Nat} {v v2 : Value} {L : List Int} (h : Iw w base v L) (hg : w.grownBy w' v2.ownBlock) (hv : ∀ k, v.ownBlock = some k → v2.ownBlock ≠ some k) : Iw w' base v L :=
  ownsRow_same h (fun k hk => hg.block k (World.ownsRow.lt h k hk).2 (fun e => hv k hk e.symm))
theorem delete1_any (base g c : Nat) (S : List Nat) (i n : Nat) (w : World) (h : Iw w base (.slice (some ⟨g, 0, none⟩) n c) (nz S)) (hi : i < n) (hn : S.length = n) (hl : n ≤ 8) :
    Calls Try.prog 33 #[.slice (some ⟨g, 0, none⟩) n c, .int .i64 (i : Int), .int .i64 ((i : Int) + 1)] w fun e w' => e = .returned (.slice (some ⟨g, 0, none⟩) (n - 1) c) ∧ Iw w' base (.slice (some ⟨g, 0, none⟩) (n - 1) c) (nz (S.eraseIdx i)) ∧ w.grownBy w' (some g) := by
  have h1 := delete_any base g c (nz S) i (i + 1) n w h (by omega) (by omega) (by rw [nz_length]; exact hn) (by rw [nz_length]; omega)
  have e : i + (n - (i + 1)) = n - 1 := by omega
  have e2 : (nz S).take i ++ (nz S).drop (i + 1) = nz (S.eraseIdx i) := by
    rw [List.eraseIdx_eq_take_drop_succ]; simp [nz]
  rw [e, e2] at h1
  exact h1
/-- The places so far, nothing behind them. -/
def fil (n j : Nat) : List Int := nz (List.range j) ++ List.replicate (n - j) 0
theorem fil_length {n j : Nat} (h : j ≤ n) : (fil n j).length = n := by simp [fil, nz]; omega
theorem fil_all (n : Nat) : fil n n = nz (List.range n) := by simp [fil]
theorem fil_put {n j : Nat} (h : j < n) : (ivs (fil n j)).set j (.int .i64 (j : Int)) = ivs (fil n (j + 1)) := by
  unfold ivs fil nz
  rw [List.range_succ, List.map_append, List.map_append, List.map_append, List.map_append]
  rw [List.set_append_right _ _ (by simp)]
  have e : n - j = (n - (j + 1)) + 1 := by omega
  simp [e, List.replicate_succ]
theorem made_fil {w1 : World} {base g n : Nat} (h : w1.ownsRow base 3 1 (.slice (some ⟨g, 0, none⟩) n n) n (madeCells (Value.int .i64 0).cells (n * 1)).toList) : Iw w1 base (.slice (some ⟨g, 0, none⟩) n n) (fil n 0) := by
  unfold Iw
  rw [fil_length (Nat.zero_le _)]
  have e : (madeCells (Value.int .i64 0).cells (n * 1)).toList = ivs (fil n 0) := by
    have hc : (Value.int .i64 0).cells = #[.int .i64 0] := by kernel_rfl
    apply List.ext_getElem
    · simp [madeCells, fil, nz, ivs]
    · intro i h1 h2
      simp [madeCells, hc, fil, nz, ivs, Nat.mod_one]
  rw [e] at h
  exact h
theorem blk_fil {w1 : World} {base g n j : Nat} (h : Iw w1 base (.slice (some ⟨g, 0, none⟩) n n) (fil n j)) (hj : j ≤ n) : Blk w1 g (ivs (fil n j)) := by
  obtain ⟨_, X, hX, _, _, _, hXl, hXt⟩ := h.blk
  rw [← hXt, List.take_of_length_le (by rw [fil_length hj, hXl]; exact Nat.le_refl _)]; exact hX
theorem fil_blk {w1 : World} {base g n : Nat} (h : Blk w1 g (ivs (fil n n))) (hb : base ≤ g) (hn : n ≤ 8) : Iw w1 base (.slice (some ⟨g, 0, none⟩) n n) (nz (List.range n)) := by
  rw [fil_all] at h
  have := Iw.ofBlk (L := nz (List.range n)) (c := n) (X := ivs (nz (List.range n))) (base := base) h hb (by simp [nz]) (by unfold maxLen; omega) (by simp [ivs, nz]) (List.take_of_length_le (by simp [ivs, nz]))
  rwa [nz_length, List.length_range] at this
/-- An order is told. -/
def OrderTold (nd : Nat → List Int) (hd : Nat → Int → Bool) (n : Nat) (w : World) (e : Ending) (w' : World) : Prop :=
  Below w.heap.size w w' ∧ ((e = .returned (.tuple #[.slice none 0 0, .bool false]) ∧ ord nd hd n (List.range n) = none) ∨ ∃ A m c o, e = .returned (.tuple #[.slice A m c, .bool true]) ∧ m = o.length ∧ ord nd hd n (List.range n) = some o ∧ Iw w' w.heap.size (.slice A m c) (nz o))
/-- The search under way. -/
structure Os (nd : Nat → List Int) (hd : Nat → Int → Bool) (n : Nat) (w : World) (gl cl m : Nat) (vd : Value) (S D : List Nat) (wr : World) : Prop where
  below : Below w.heap.size w wr
  left : Iw wr w.heap.size (.slice (some ⟨gl, 0, none⟩) m cl) (nz S)
  done : Iw wr w.heap.size vd (nz D)
  apart : vd.ownBlock ≠ some gl
  len : S.length = m
  few : m + D.length = n
  lt : ∀ a ∈ S, a < n
  ord : ord nd hd n (List.range n) = (Bk.ord nd hd m S).map (D ++ ·)

set_option maxHeartbeats 4000000 in
theorem orderH_any (bx : Nat) (hd : Nat → Int → Bool) (A : Option Addr) (n cap : Nat) (C : Cm) (w : World) (hC : Cl w.heap.size w A n cap C) (hn : n ≤ 8) (hz : ∀ a, a < n → ∀ z ∈ need C a, Zn z)
    (hA : ∀ wx, Below w.heap.size w wx → AskH wx bx hd n) :
    Calls Try.prog 23 #[.slice A n cap, .func (.func 30) #[] #[.pointer (some ⟨bx, 0, none⟩)]] w (OrderTold (need C) hd n w) := by
  have HC := Lib.hid hC
  have HA := Lib.hid hA
  have HZ := Lib.hid hz
  clear hC hz hA
  obtain ⟨i0, hi, hz0, hz1, hz2⟩ := info_parts Try.infoInt8
  go_enter Try.func23, Try.ntmps23
  go_wp2_with (at_make; go_must (refine wpList_make_full _ rfl _ _ 24 rfl w.heap.size 3 i0 (.int .i64 0) 1 Try.underlying24 hi hz0 hz1 .i64 .i64 _ _ n rfl rfl rfl rfl (by rw [hz2]; omega) (by unfold maxLen; omega) (by simp) ?_); intro w1 ho1 hg1; have hO1 := made_fil ho1; have hB1 : Below w.heap.size w w1 := (Below.grown (Below.refl _ w) hg1 (by simp) (fun k hk => by cases hk)); have HO1 := Lib.hid hO1; have HB1 := Lib.hid hB1; clear ho1 hg1 hO1 hB1)
  clear hi hz0 hz1 hz2
  have HK1 : Hid (Blk w1 w.heap.size (ivs (fil n 0)) ∧ Below w.heap.size w w1) := Lib.hid ⟨blk_fil HO1.out (Nat.zero_le _), HB1.out⟩
  clear HO1 HB1
  go_loopw [16] (fun iv wr => ∃ j : Nat, j ≤ n ∧ iv = .int .i64 (j : Int) ∧ Hid (Blk wr w.heap.size (ivs (fil n j)) ∧ Below w.heap.size w wr)) (fun iv _ => n - (intOf iv).toNat)
  case atStart => exact ⟨0, Nat.zero_le _, rfl, HK1⟩
  case round =>
    rename World => wr
    obtain ⟨j, hj, rfl, HJ⟩ := hrel
    by_cases hlt : j < n
    · have hcj : wr.cell? ⟨w.heap.size, j, none⟩ = some (.int .i64 ((fil n j).getD j 0)) := by rw [(HJ.out.1.cell j).1, ivs_get (by rw [fil_length hj]; exact hlt)]
      have hfj := (HJ.out.1.cell j).2
      generalize (fil n j).getD j 0 = x at hcj
      have HN : Hid (Blk (wr.setCell ⟨w.heap.size, j, none⟩ (.int .i64 (j : Int))) w.heap.size (ivs (fil n (j + 1))) ∧ Below w.heap.size w (wr.setCell ⟨w.heap.size, j, none⟩ (.int .i64 (j : Int)))) := Lib.hid ⟨by
        rw [← fil_put hlt]
        have := Blk.setCells [.int .i64 (j : Int)] j _ wr HJ.out.1 (by simp [ivs, fil_length hj]; omega)
        rwa [← splice_cons _ _ _ _ (by simp [ivs, fil_length hj]; omega), splice_nil] at this, HJ.out.2.setCell (by simp) _⟩
      go_wp2_with fail
      go_roundw
      case rel => exact ⟨j + 1, by omega, by go_num, HN⟩
      case measure => simp [intOf]; omega
    · obtain rfl : j = n := by omega
      have HS0 : Hid (Os (need C) hd j w w.heap.size j j (.slice none 0 0) (List.range j) [] wr) := Lib.hid ⟨HJ.out.2, fil_blk HJ.out.1 (Nat.le_refl _) hn, Iw.nil _ _, by simp [Value.ownBlock], by simp, by simp, fun a ha => by simpa using ha, by simp⟩
      clear HK1 HJ
      go_wp2_with fail
      go_loopw [6, 7] (fun dv lv wy => ∃ (gl cl m : Nat) (S D : List Nat) (Ad : Option Addr) (nd cd : Nat), dv = .slice Ad nd cd ∧ lv = .slice (some ⟨gl, 0, none⟩) m cl ∧ Hid (Os (need C) hd j w gl cl m (.slice Ad nd cd) S D wy)) (fun _ lv _ => lenV lv)
      case atStart => exact ⟨_, _, _, _, _, _, _, _, rfl, rfl, HS0⟩
      case round =>
        rename World => wy
        obtain ⟨gl, cl, m, S, D, Ad, nd, cd, rfl, rfl, HS⟩ := hrel
        have hsm := HS.out.few
        have hsz := Gt.size (HS.out.left.lt.2)
        have hsz1 := hsz.1
        have hsz2 := hsz.2
        by_cases hm : 0 < m
        · have hm8 : m ≤ 8 := by omega
          go_wp2_with fail
          refine (nextH_any bx hd A j cap C _ m cl S wy ((HC.out.below HS.out.below).raise HS.out.below.size) hn HZ.out HS.out.left.lt.2 HS.out.lt hm8 (HA.out _ HS.out.below)).mono ?_
          rintro e w' ⟨rfl, hh⟩
          rcases hh with ⟨rfl, hno⟩ | ⟨i, rfl, hf, hil⟩
          · have HNO : Hid (ord (need C) hd j (List.range j) = none) := Lib.hid (by
              rw [HS.out.ord]
              obtain ⟨m', rfl⟩ : ∃ m', m = m' + 1 := ⟨m - 1, by omega⟩
              simp [ord, hno])
            clear hno
            go_wp2_with fail
            go_ret2
            exact ⟨HS.out.below, .inl ⟨rfl, HNO.out⟩⟩
          · have him : i < m := by rw [HS.out.len] at hil; exact hil
            obtain ⟨g9, o9, e9, hg9, q1⟩ := HS.out.left.lt.2.cell him
            injection e9 with e9
            injection e9 with e10 e11
            subst e10 e11
            rw [nz_get hil, Nat.zero_add] at q1
            obtain ⟨x, hx⟩ : ∃ x, x = S.getD i 0 := ⟨_, rfl⟩
            rw [← hx] at q1
            have HX := Lib.hid hx
            have HF := Lib.hid hf
            have HIL := Lib.hid hil
            have hDl : D.length + 1 ≤ 8 := by omega
            have hbas := HS.out.below.size
            clear hx hf hil hg9
            go_wp2_with (at_builtin; go_loud (refine app_ints rfl _ _ rfl w.heap.size (.slice Ad nd cd) (nz D) rfl (Iw.later HS.out.done ((Below.refl _ _).alloc (Nat.le_refl _) _)) (some ⟨wy.heap.size, 0, none⟩) 1 1 [(x : Int)] rfl (Lt.one wy (x : Int)) (by rw [nz_length]; omega) (by simp; omega) ?_; intro A' n' c' w2 hn2 ho2 hb2 hg2 hd2; have HO2 := Lib.hid ho2; have HB2 := Lib.hid hb2; have HG2 := Lib.hid hg2; have HD2 := Lib.hid hd2; have HN2 := Lib.hid hn2; clear ho2 hb2 hg2 hd2 hn2))
            have hsz9 : gl < wy.heap.size := (World.ownsRow.lt HS.out.left gl rfl).2
            have HS2 : Hid (Iw w2 w.heap.size (.slice (some ⟨gl, 0, none⟩) m cl) (nz S)) := Lib.hid (by
              refine ownsRow_same HS.out.left (fun k hk => ?_)
              obtain rfl : gl = k := by simpa [Value.ownBlock] using hk
              exact (HG2.out.block gl (by simp; omega) (fun e => HS.out.apart e.symm)).trans (Below.heap_alloc _ _ _ hsz9))
            have HAP : Hid ((Value.slice A' n' c').ownBlock ≠ some gl) := Lib.hid (by
              rcases HD2.out with e | e
              · rw [e]; exact HS.out.apart
              · rw [e]; simp; omega)
            have HSL := Lib.hid HS.out.len
            have hmm := HS.out.len
            clear q1
            clear hmm
            go_wp2_with fail
            refine (delete1_any w.heap.size gl cl S i m w2 HS2.out him HSL.out hm8).mono ?_
            rintro e w3 ⟨rfl, ho3, hg3⟩
            have HS3 : Hid (Os (need C) hd j w gl cl (m - 1) (.slice A' n' c') (S.eraseIdx i) (D ++ [x]) w3) := Lib.hid (by
              have hb3 : Below w.heap.size w w2 := HS.out.below.trans (((Below.refl _ _).alloc hbas _).trans HB2.out)
              refine ⟨hb3.grown hg3 hb3.size (fun k hk => (by (have e9 : gl = k := by simpa using hk); rw [← e9]; exact (World.ownsRow.lt HS.out.left gl rfl).1)), ho3, ?_, HAP.out, ?_, ?_, fun a ha => HS.out.lt a (List.mem_of_mem_eraseIdx ha), ?_⟩
              · have := Iw.other HO2.out hg3 HAP.out
                simpa [nz] using this
              · rw [List.length_eraseIdx, HS.out.len]; simp [him]
              · rw [List.length_append, List.length_singleton]; omega
              · rw [HS.out.ord, show m = (m - 1) + 1 by omega, ord, HF.out, HX.out]
                simp [Function.comp_def])
            go_wp2_with fail
            go_roundw
            case rel => exact ⟨_, _, _, _, _, _, _, _, rfl, rfl, HS3⟩
            case measure => simp [lenV]; omega
        · obtain rfl : m = 0 := by omega
          obtain rfl : S = [] := List.length_eq_zero_iff.1 HS.out.len
          have HOO : Hid (ord (need C) hd j (List.range j) = some D) := Lib.hid (by rw [HS.out.ord]; simp [ord])
          have HDL : Hid (nd = D.length) := Lib.hid (by have := HS.out.done.lt.1; rwa [nz_length] at this)
          go_wp2_with fail
          go_ret2
          exact ⟨HS.out.below, .inr ⟨_, _, _, D, rfl, HDL.out, HOO.out, HS.out.done⟩⟩

set_option maxHeartbeats 4000000 in
theorem orderM_any (b1 b2 b3 : Nat) (hd : Nat → Int → Bool) (A : Option Addr) (n cap : Nat) (C : Cm) (w : World) (hC : Cl w.heap.size w A n cap C) (hn : n ≤ 8) (hz : ∀ a, a < n → ∀ z ∈ need C a, Zn z)
    (hA : ∀ wx, Below w.heap.size w wx → AskM wx b1 b2 b3 hd n) :
    Calls Try.prog 23 #[.slice A n cap, .func (.func 28) #[] #[.pointer (some ⟨b1, 0, none⟩), .pointer (some ⟨b2, 0, none⟩), .pointer (some ⟨b3, 0, none⟩)]] w (OrderTold (need C) hd n w) := by
  have HC := Lib.hid hC
  have HA := Lib.hid hA
  have HZ := Lib.hid hz
  clear hC hz hA
  obtain ⟨i0, hi, hz0, hz1, hz2⟩ := info_parts Try.infoInt8
  go_enter Try.func23, Try.ntmps23
  go_wp2_with (at_make; go_must (refine wpList_make_full _ rfl _ _ 24 rfl w.heap.size 3 i0 (.int .i64 0) 1 Try.underlying24 hi hz0 hz1 .i64 .i64 _ _ n rfl rfl rfl rfl (by rw [hz2]; omega) (by unfold maxLen; omega) (by simp) ?_); intro w1 ho1 hg1; have hO1 := made_fil ho1; have hB1 : Below w.heap.size w w1 := (Below.grown (Below.refl _ w) hg1 (by simp) (fun k hk => by cases hk)); have HO1 := Lib.hid hO1; have HB1 := Lib.hid hB1; clear ho1 hg1 hO1 hB1)
  clear hi hz0 hz1 hz2
  have HK1 : Hid (Blk w1 w.heap.size (ivs (fil n 0)) ∧ Below w.heap.size w w1) := Lib.hid ⟨blk_fil HO1.out (Nat.zero_le _), HB1.out⟩
  clear HO1 HB1
  go_loopw [16] (fun iv wr => ∃ j : Nat, j ≤ n ∧ iv = .int .i64 (j : Int) ∧ Hid (Blk wr w.heap.size (ivs (fil n j)) ∧ Below w.heap.size w wr)) (fun iv _ => n - (intOf iv).toNat)
  case atStart => exact ⟨0, Nat.zero_le _, rfl, HK1⟩
  case round =>
    rename World => wr
    obtain ⟨j, hj, rfl, HJ⟩ := hrel
    by_cases hlt : j < n
    · have hcj : wr.cell? ⟨w.heap.size, j, none⟩ = some (.int .i64 ((fil n j).getD j 0)) := by rw [(HJ.out.1.cell j).1, ivs_get (by rw [fil_length hj]; exact hlt)]
      have hfj := (HJ.out.1.cell j).2
      generalize (fil n j).getD j 0 = x at hcj
      have HN : Hid (Blk (wr.setCell ⟨w.heap.size, j, none⟩ (.int .i64 (j : Int))) w.heap.size (ivs (fil n (j + 1))) ∧ Below w.heap.size w (wr.setCell ⟨w.heap.size, j, none⟩ (.int .i64 (j : Int)))) := Lib.hid ⟨by
        rw [← fil_put hlt]
        have := Blk.setCells [.int .i64 (j : Int)] j _ wr HJ.out.1 (by simp [ivs, fil_length hj]; omega)
        rwa [← splice_cons _ _ _ _ (by simp [ivs, fil_length hj]; omega), splice_nil] at this, HJ.out.2.setCell (by simp) _⟩
      go_wp2_with fail
      go_roundw
      case rel => exact ⟨j + 1, by omega, by go_num, HN⟩
      case measure => simp [intOf]; omega
    · obtain rfl : j = n := by omega
      have HS0 : Hid (Os (need C) hd j w w.heap.size j j (.slice none 0 0) (List.range j) [] wr) := Lib.hid ⟨HJ.out.2, fil_blk HJ.out.1 (Nat.le_refl _) hn, Iw.nil _ _, by simp [Value.ownBlock], by simp, by simp, fun a ha => by simpa using ha, by simp⟩
      clear HK1 HJ
      go_wp2_with fail
      go_loopw [6, 7] (fun dv lv wy => ∃ (gl cl m : Nat) (S D : List Nat) (Ad : Option Addr) (nd cd : Nat), dv = .slice Ad nd cd ∧ lv = .slice (some ⟨gl, 0, none⟩) m cl ∧ Hid (Os (need C) hd j w gl cl m (.slice Ad nd cd) S D wy)) (fun _ lv _ => lenV lv)
      case atStart => exact ⟨_, _, _, _, _, _, _, _, rfl, rfl, HS0⟩
      case round =>
        rename World => wy
        obtain ⟨gl, cl, m, S, D, Ad, nd, cd, rfl, rfl, HS⟩ := hrel
        have hsm := HS.out.few
        have hsz := Gt.size (HS.out.left.lt.2)
        have hsz1 := hsz.1
        have hsz2 := hsz.2
        by_cases hm : 0 < m
        · have hm8 : m ≤ 8 := by omega
          go_wp2_with fail
          refine (nextM_any b1 b2 b3 hd A j cap C _ m cl S wy ((HC.out.below HS.out.below).raise HS.out.below.size) hn HZ.out HS.out.left.lt.2 HS.out.lt hm8 (HA.out _ HS.out.below)).mono ?_
          rintro e w' ⟨rfl, hh⟩
          rcases hh with ⟨rfl, hno⟩ | ⟨i, rfl, hf, hil⟩
          · have HNO : Hid (ord (need C) hd j (List.range j) = none) := Lib.hid (by
              rw [HS.out.ord]
              obtain ⟨m', rfl⟩ : ∃ m', m = m' + 1 := ⟨m - 1, by omega⟩
              simp [ord, hno])
            clear hno
            go_wp2_with fail
            go_ret2
            exact ⟨HS.out.below, .inl ⟨rfl, HNO.out⟩⟩
          · have him : i < m := by rw [HS.out.len] at hil; exact hil
            obtain ⟨g9, o9, e9, hg9, q1⟩ := HS.out.left.lt.2.cell him
            injection e9 with e9
            injection e9 with e10 e11
            subst e10 e11
            rw [nz_get hil, Nat.zero_add] at q1
            obtain ⟨x, hx⟩ : ∃ x, x = S.getD i 0 := ⟨_, rfl⟩
            rw [← hx] at q1
            have HX := Lib.hid hx
            have HF := Lib.hid hf
            have HIL := Lib.hid hil
            have hDl : D.length + 1 ≤ 8 := by omega
            have hbas := HS.out.below.size
            clear hx hf hil hg9
            go_wp2_with (at_builtin; go_loud (refine app_ints rfl _ _ rfl w.heap.size (.slice Ad nd cd) (nz D) rfl (Iw.later HS.out.done ((Below.refl _ _).alloc (Nat.le_refl _) _)) (some ⟨wy.heap.size, 0, none⟩) 1 1 [(x : Int)] rfl (Lt.one wy (x : Int)) (by rw [nz_length]; omega) (by simp; omega) ?_; intro A' n' c' w2 hn2 ho2 hb2 hg2 hd2; have HO2 := Lib.hid ho2; have HB2 := Lib.hid hb2; have HG2 := Lib.hid hg2; have HD2 := Lib.hid hd2; have HN2 := Lib.hid hn2; clear ho2 hb2 hg2 hd2 hn2))
            have hsz9 : gl < wy.heap.size := (World.ownsRow.lt HS.out.left gl rfl).2
            have HS2 : Hid (Iw w2 w.heap.size (.slice (some ⟨gl, 0, none⟩) m cl) (nz S)) := Lib.hid (by
              refine ownsRow_same HS.out.left (fun k hk => ?_)
              obtain rfl : gl = k := by simpa [Value.ownBlock] using hk
              exact (HG2.out.block gl (by simp; omega) (fun e => HS.out.apart e.symm)).trans (Below.heap_alloc _ _ _ hsz9))
            have HAP : Hid ((Value.slice A' n' c').ownBlock ≠ some gl) := Lib.hid (by
              rcases HD2.out with e | e
              · rw [e]; exact HS.out.apart
              · rw [e]; simp; omega)
            have HSL := Lib.hid HS.out.len
            have hmm := HS.out.len
            clear q1
            clear hmm
            go_wp2_with fail
            refine (delete1_any w.heap.size gl cl S i m w2 HS2.out him HSL.out hm8).mono ?_
            rintro e w3 ⟨rfl, ho3, hg3⟩
            have HS3 : Hid (Os (need C) hd j w gl cl (m - 1) (.slice A' n' c') (S.eraseIdx i) (D ++ [x]) w3) := Lib.hid (by
              have hb3 : Below w.heap.size w w2 := HS.out.below.trans (((Below.refl _ _).alloc hbas _).trans HB2.out)
              refine ⟨hb3.grown hg3 hb3.size (fun k hk => (by (have e9 : gl = k := by simpa using hk); rw [← e9]; exact (World.ownsRow.lt HS.out.left gl rfl).1)), ho3, ?_, HAP.out, ?_, ?_, fun a ha => HS.out.lt a (List.mem_of_mem_eraseIdx ha), ?_⟩
              · have := Iw.other HO2.out hg3 HAP.out
                simpa [nz] using this
              · rw [List.length_eraseIdx, HS.out.len]; simp [him]
              · rw [List.length_append, List.length_singleton]; omega
              · rw [HS.out.ord, show m = (m - 1) + 1 by omega, ord, HF.out, HX.out]
                simp [Function.comp_def])
            go_wp2_with fail
            go_roundw
            case rel => exact ⟨_, _, _, _, _, _, _, _, rfl, rfl, HS3⟩
            case measure => simp [lenV]; omega
        · obtain rfl : m = 0 := by omega
          obtain rfl : S = [] := List.length_eq_zero_iff.1 HS.out.len
          have HOO : Hid (ord (need C) hd j (List.range j) = some D) := Lib.hid (by rw [HS.out.ord]; simp [ord])
          have HDL : Hid (nd = D.length) := Lib.hid (by have := HS.out.done.lt.1; rwa [nz_length] at this)
          go_wp2_with fail
          go_ret2
          exact ⟨HS.out.below, .inr ⟨_, _, _, D, rfl, HDL.out, HOO.out, HS.out.done⟩⟩
end Go.Proofs.Ytljmigomhoefpaa.Bk
