/-
  Lists of numbers of one's own; a floor that lies boxed; the cells beside one.
-/
import Derived.Test.YtokjnmgbgflgnaaGreatDoorFlA
import Derived.Deep.CutRange
import Derived.Deep.DeepCutAuto
import Derived.IntWalk
set_option linter.unusedVariables false
set_option maxRecDepth 100000
namespace Go.Proofs.YtokjnmgbgflgnaaGreatDoor
open Go.RowKit Fl

theorem shape_of {w : World} {B : Nat} {e : TypeId} {v : Value} {n : Nat} {xs : List Value} (h : w.ownsRow B e 1 v n xs) (hn : 0 < n) : ∃ g cap, v = .slice (some ⟨g, 0, none⟩) n cap := by
  rcases h.2 with ⟨_, x⟩ | ⟨g, cap, cur, x, _⟩
  · omega
  · exact ⟨g, cap, x⟩
theorem own_ge {w : World} {B : Nat} {e : TypeId} {v : Value} {n : Nat} {xs : List Value} (h : w.ownsRow B e 1 v n xs) : ∀ k, v.ownBlock = some k → B ≤ k := fun k hk => (h.lt k hk).1
theorem ownsRow_shape {w : World} {base : Nat} {e : TypeId} {size : Nat} {v : Value} {n : Nat} {xs : List Value} (h : w.ownsRow base e size v n xs) : ∃ a cap, v = .slice a n cap := by
  rcases h.2 with ⟨rfl, rfl⟩ | ⟨g, cap, cur, rfl, _⟩
  · exact ⟨_, _, rfl⟩
  · exact ⟨_, _, rfl⟩
theorem ownsRow_lower {w : World} {base base' : Nat} {e : TypeId} {size : Nat} {v : Value} {n : Nat} {xs : List Value} (h : w.ownsRow base e size v n xs) (hb : base' ≤ base) : w.ownsRow base' e size v n xs := by
  obtain ⟨h1, h2⟩ := h
  refine ⟨h1, ?_⟩
  rcases h2 with h2 | ⟨g, cap, cur, rfl, hg, r⟩
  · exact .inl h2
  · exact .inr ⟨g, cap, cur, rfl, by omega, r⟩
theorem ownsRow_cap {w : World} {base : Nat} {e : TypeId} {size : Nat} {a : Option Addr} {n cap : Nat} {xs : List Value} (h : w.ownsRow base e size (.slice a n cap) n xs) : n ≤ cap ∧ cap ≤ maxLen := by
  rcases h.2 with ⟨e1, rfl⟩ | ⟨g, c, cur, e1, _, _, h1, h2, _⟩
  · simp only [Value.slice.injEq] at e1; obtain ⟨rfl, _, rfl⟩ := e1; exact ⟨Nat.le_refl _, Nat.zero_le _⟩
  · simp only [Value.slice.injEq] at e1; obtain ⟨rfl, _, rfl⟩ := e1; exact ⟨h1, h2⟩
/-- What is owned stays so while nothing that was there is written. -/
theorem own_later {w w' : World} {base : Nat} {e : TypeId} {size : Nat} {v : Value} {n : Nat} {xs : List Value} (h : w.ownsRow base e size v n xs) (hb : Below w.heap.size w w') : w'.ownsRow base e size v n xs :=
  ownsRow_same h (fun k hk => hb.block k (h.lt k hk).2)

/-- Integers as cells. -/
def ic (l : List Nat) : List Value := l.map fun n : Nat => Value.int .i64 (n : Int)
theorem ic_length (l : List Nat) : (ic l).length = l.length := by simp [ic]
theorem Tryz.infoInt : (Tryz.prog.info? 3).map (fun i => (i.zero, i.size, i.bytes)) = some (some (.int .i64 0), 1, 8) := by kernel_rfl
/-- The list of numbers xs is owned at v. -/
def Own (w : World) (base : Nat) (v : Value) (xs : List Nat) : Prop := w.ownsRow base 3 1 v xs.length (ic xs)
theorem Own.later {w w' : World} {base : Nat} {v : Value} {xs : List Nat} (h : Own w base v xs) (hb : Below w.heap.size w w') : Own w' base v xs := own_later h hb
theorem Own.lower {w : World} {base base' : Nat} {v : Value} {xs : List Nat} (h : Own w base v xs) (hb : base' ≤ base) : Own w base' v xs := ownsRow_lower h hb
theorem Own.nil (w : World) (base : Nat) : Own w base (.slice none 0 0) [] := World.ownsRow_nil _ _ _ _
theorem Own.cap {w : World} {base : Nat} {a : Option Addr} {n cap : Nat} {xs : List Nat} (h : Own w base (.slice a n cap) xs) (hn : n = xs.length) : n ≤ cap ∧ cap ≤ maxLen := by subst hn; exact ownsRow_cap h
/-- The cell of an element. -/
theorem Own.at {w : World} {base : Nat} {a : Option Addr} {n cap : Nat} {xs : List Nat} (h : Own w base (.slice a n cap) xs) (i : Nat) (hi : i < xs.length) :
    ∃ g, a = some ⟨g, 0, none⟩ ∧ g < w.heap.size ∧ w.cell? ⟨g, i, none⟩ = some (.int .i64 ((xs.getD i 0 : Nat) : Int)) := by
  obtain ⟨g, c, hv⟩ := shape_of h (by omega)
  simp only [Value.slice.injEq] at hv
  obtain ⟨rfl, rfl, rfl⟩ := hv
  refine ⟨g, rfl, (h.lt g rfl).2, ?_⟩
  rw [h.cellAt _ (by omega)]
  simp [ic, List.getD, List.getElem?_eq_getElem hi]

/-- A number is appended to a row of one's own: just that row grows. -/
theorem app_int2 {w : World} {ops : Array Oper} {rest : List Oper} {o : Oper} {a : Act} {Q : Exit → Act → World → Prop} (hgd : o.guard = none) (s x : Operand)
    (ho : o.op = .call { callee := .builtin .append, args := #[s, x], argTypes := #[24, 24] })
    (base : Nat) (v : Value) (xs : List Nat) (hs : a.eval s = v) (y : Nat) (Y : Int) (hY : Y = y) (w0 : World) (hw : w = w0.alloc (.cells #[.int .i64 Y] 3)) (hown : Own w0 base v xs)
    (hx : a.eval x = .slice (some ⟨w0.heap.size, 0, none⟩) 1 1) (hf : xs.length ≤ 1048576) (hbase : base ≤ w0.heap.size)
    (h : ∀ A' c' n' w', n' = (xs ++ [y]).length → Own w' base (.slice A' n' c') (xs ++ [y]) → Below base w0 w' → w0.grownBy w' v.ownBlock → ((Value.slice A' n' c').ownBlock = v.ownBlock ∨ (Value.slice A' n' c').ownBlock = some (w0.heap.size + 1)) → wpList Tryz.prog ops Q rest (a.put o.dst (.slice A' n' c')) w') : wpList Tryz.prog ops Q (o :: rest) a w := by
  obtain ⟨i0, hi, hz0, hz1, hz2⟩ := info_parts Tryz.infoInt
  subst hY
  subst hw
  refine wpList_append_own_at _ hgd s x 24 ho base 3 i0 (.int .i64 0) 1 8 Tryz.underlying24 hi hz0 hz1 hz2 rfl (by decide) v xs.length (ic xs) hs (World.ownsRow.alloc hown _) ⟨w0.heap.size, 0, none⟩ 1 1 [.int .i64 (y : Int)] hx rfl ?_ ?_ (by unfold maxLen; omega) (by omega) (by simp; omega) ?_
  · intro j u hj
    match j, hj with
    | 0, hj => simp at hj; subst hj; simp [Addr.add]
  · intro u hu; simp at hu; subst hu; rfl
  intro v' w' h1 h2 h3 h4
  obtain ⟨A', c', rfl⟩ := ownsRow_shape h1
  rw [show xs.length + 1 = (xs ++ [y]).length by simp] at h1 ⊢
  refine h A' c' _ w' rfl (by unfold Own; simpa [ic] using h1) (Below.grown ((Below.refl _ _).alloc hbase _) h2 (by simp; omega) (fun k hk => (World.ownsRow.lt hown k hk).1)) ?_ (by simpa [Value.ownBlock] using h4)
  exact ⟨h2.os, h2.tape, h2.output, by have := h2.size; simp at this; omega, fun k hk hne => (h2.block k (by simp; omega) hne).trans (Below.heap_alloc _ _ _ hk)⟩

/-- A number is appended to a row of one's own: just that row grows. -/
theorem app_int {w : World} {ops : Array Oper} {rest : List Oper} {o : Oper} {a : Act} {Q : Exit → Act → World → Prop} (hgd : o.guard = none) (s x : Operand)
    (ho : o.op = .call { callee := .builtin .append, args := #[s, x], argTypes := #[24, 24] })
    (base : Nat) (v : Value) (xs : List Nat) (hs : a.eval s = v) (y : Nat) (Y : Int) (hY : Y = y) (w0 : World) (hw : w = w0.alloc (.cells #[.int .i64 Y] 3)) (hown : Own w0 base v xs)
    (hx : a.eval x = .slice (some ⟨w0.heap.size, 0, none⟩) 1 1) (hf : xs.length ≤ 1048576) (hbase : base ≤ w0.heap.size)
    (h : ∀ A' c' n' w', n' = (xs ++ [y]).length → Own w' base (.slice A' n' c') (xs ++ [y]) → Below base w0 w' → w0.grownBy w' v.ownBlock → wpList Tryz.prog ops Q rest (a.put o.dst (.slice A' n' c')) w') : wpList Tryz.prog ops Q (o :: rest) a w :=
  app_int2 hgd s x ho base v xs hs y Y hY w0 hw hown hx hf hbase (fun A' c' n' w' h1 h2 h3 h4 _ => h A' c' n' w' h1 h2 h3 h4)

/-- A floor lies boxed in the first new block, and what was there is as it was. -/
structure Box (w : World) (W H : Int) (s : ByteArray) (wx : World) : Prop where
  c0 : wx.cell? ⟨w.heap.size, 0, none⟩ = some (.int .i64 W)
  c1 : wx.cell? ⟨w.heap.size, 1, none⟩ = some (.int .i64 H)
  c2 : wx.cell? ⟨w.heap.size, 2, none⟩ = some (.string s)
  lt : w.heap.size + 1 ≤ wx.heap.size
  below : Below w.heap.size w wx
theorem Box.start (w : World) (W H : Int) (s : ByteArray) (t : TypeId) : Box w W H s (w.alloc (.cells #[.int .i64 W, .int .i64 H, .string s] t)) :=
  ⟨by simp [World.cell?_alloc_new], by simp [World.cell?_alloc_new], by simp [World.cell?_alloc_new], by simp, (Below.refl _ _).alloc (Nat.le_refl _) _⟩
theorem Box.later {w wx wy : World} {W H : Int} {s : ByteArray} (h : Box w W H s wx) (hb : Below (w.heap.size + 1) wx wy) : Box w W H s wy :=
  ⟨(hb.cell (p := ⟨w.heap.size, 0, none⟩) (by simp)).trans h.c0, (hb.cell (p := ⟨w.heap.size, 1, none⟩) (by simp)).trans h.c1, (hb.cell (p := ⟨w.heap.size, 2, none⟩) (by simp)).trans h.c2, Nat.le_trans h.lt hb.size, h.below.trans (hb.mono (by omega))⟩
theorem Box.after {w wx wy : World} {W H : Int} {s : ByteArray} (h : Box w W H s wx) (hb : Below wx.heap.size wx wy) : Box w W H s wy := h.later (hb.mono h.lt)
theorem Box.drew {w wx : World} {W H : Int} {s : ByteArray} (h : Box w W H s wx) : Box w W H s wx.drew := h.later (Below.refl _ _).drew

theorem below_drewN (B : Nat) (w : World) (n : Nat) : Below B w (w.drewN n) := ⟨rfl, rfl, rfl, Nat.le_refl _, fun _ _ => rfl⟩
/-- A list of numbers of the call's own is told. -/
def Ints (l : List Nat) (w : World) (e : Ending) (w' : World) : Prop := ∃ a n cap, e = .returned (.slice a n cap) ∧ n = l.length ∧ Own w' w.heap.size (.slice a n cap) l ∧ Below w.heap.size w w'
/-- A truth is told. -/
def Told (P : Prop) (w : World) (e : Ending) (w' : World) : Prop := ∃ b : Bool, e = .returned (.bool b) ∧ (b = true ↔ P) ∧ Below w.heap.size w w'

/-- So much of a list is laid, the floor's box beside it. -/
def Part (w : World) (W H : Int) (s : ByteArray) (l : List Nat) (v : Value) (wc : World) : Prop := ∃ a n cap, v = .slice a n cap ∧ n = l.length ∧ Own wc (w.heap.size + 1) (.slice a n cap) l ∧ Box w W H s wc
theorem Part.add {w wc wd : World} {W H : Int} {s : ByteArray} {l : List Nat} {A : Option Addr} {n c y : Nat} (hB : Box w W H s wc) (hn : n = (l ++ [y]).length)
    (ho : Own wd (w.heap.size + 1) (.slice A n c) (l ++ [y])) (hb : Below (w.heap.size + 1) wc wd) : Part w W H s (l ++ [y]) (.slice A n c) wd := ⟨A, n, c, rfl, hn, ho, hB.later hb⟩

set_option maxHeartbeats 4000000 in
theorem beside_any (W H c : Nat) (s : ByteArray) (w : World) (hW : 1 ≤ W) (hW2 : W ≤ 16) (hH : 1 ≤ H) (hH2 : H ≤ 16) (hc : c < W * H) :
    Calls Tryz.prog 47 #[.agg #[.int .i64 (W : Int), .int .i64 (H : Int), .string s], .int .i64 (c : Int)] w (Ints (side W H c) w) := by
  have hm := le_mul16 hW2 hH2
  have hc2 : c < 256 := by omega
  have HC := Lib.hid hc
  clear hc hm
  obtain ⟨i0, hi, hz0, hz1, hz2⟩ := info_parts Tryz.infoInt
  obtain ⟨x, hx⟩ : ∃ x, x = c % W := ⟨_, rfl⟩
  obtain ⟨y, hy⟩ : ∃ y, y = c / W := ⟨_, rfl⟩
  have hxm : (c : Int) % (W : Int) = (x : Int) := by rw [hx]; rfl
  have hyq : (c : Int) / (W : Int) = (y : Int) := by rw [hy]; rfl
  have hyb : y < 256 := by rw [hy]; exact Nat.lt_of_le_of_lt (Nat.div_le_self _ _) hc2
  have hxb : x < 256 := by rw [hx]; exact Nat.lt_of_le_of_lt (Nat.mod_le _ _) hc2
  have hle : 0 < y → W ≤ c := fun h => le_div_mul (by rw [← hy]; exact h)
  have hle2 : 0 < x → 1 ≤ c := fun h => by rw [hx] at h; rcases Nat.eq_zero_or_pos c with h0 | h0; (subst h0; simp at h); exact h0
  have hyw : wrap64 ((y : Nat) : Int) = (y : Int) := by unfold wrap64; omega
  have U := Lib.hid (show up W c = if 0 < y then [c - W] else [] by unfold up; rw [hy])
  have R := Lib.hid (show rt W c = if x + 1 < W then [c + 1] else [] by unfold rt; rw [hx])
  have D := Lib.hid (show dn W H c = if y + 1 < H then [c + W] else [] by unfold dn; rw [hy])
  have L := Lib.hid (show lf W c = if 0 < x then [c - 1] else [] by unfold lf; rw [hx])
  clear hx hy
  have HLE := Lib.hid hle
  have HLE2 := Lib.hid hle2
  clear hle hle2
  go_enter Tryz.func47, Tryz.ntmps47
  go_wp2
  go_quiet (fail)
  go_upto_if 18 with (at_make; refine wpList_make_own _ rfl _ _ 24 rfl (w.heap.size + 1) 3 i0 (.int .i64 0) 1 Tryz.underlying24 hi hz0 hz1 .i64 .i64 4 4 rfl rfl rfl (by omega) (by unfold maxLen; omega) (by simp) ?_; intro w1 ho1 hg1)
  have HO : Hid (Own w1 (w.heap.size + 1) (.slice (some ⟨w.heap.size + 1, 0, none⟩) 0 4) []) := Lib.hid (by unfold Own; simpa [ic] using ho1)
  have HB : Hid (Box w W H s w1) := Lib.hid (((Box.start w W H s 23).later (below_drewN _ _ nq)).later (Below.grown (Below.refl _ _) hg1 (by simp) (fun k hk => by cases hk)))
  clear ho1 hg1 hxm hyq hyw
  go_cut [7] (Part w W H s (up W c))
  case first =>
    have k0 := HB.out.c0
    by_cases h : 0 < y
    · have hle := HLE.out h
      have hsz := HB.out.lt
      go_wp2_with (at_builtin; refine app_int rfl _ _ rfl (w.heap.size + 1) _ [] rfl (c - W) _ (by omega) _ rfl HO.out rfl (by simp) (by omega) ?_; intro A' c' n' w2 hn2 ho2 hb2 hg2; have HN2 := Lib.hid hn2; clear hn2)
      go_meet
      rw [U.out, if_pos h]
      exact Part.add HB.out HN2.out ho2 hb2
    · go_wp2
      go_meet
      rw [U.out, if_neg h]
      exact ⟨_, _, _, rfl, rfl, HO.out, HB.out⟩
  case rest =>
    obtain ⟨a, n, cap, rfl, hn, ho, hB⟩ := hcut
    have hsl := side_len W H c
    rw [side] at hsl
    simp only [List.length_append] at hsl
    have hl : (up W c).length ≤ 1048576 := by omega
    have kkc0 := hB.c0
    have hsz := hB.lt
    have HO := Lib.hid ho
    have HB := Lib.hid hB
    have HN := Lib.hid hn
    clear hsl ho hB hn
    go_upto_if 30 with (fail)
    go_cut [7] (Part w W H s (up W c ++ rt W c))
    case first =>
      by_cases h : x + 1 < W
      · have hle := hW
        go_wp2_with (at_builtin; refine app_int rfl _ _ rfl (w.heap.size + 1) _ (up W c) rfl (c + 1) _ (by omega) _ rfl HO.out rfl hl (by omega) ?_; intro A' c' n' w2 hn2 ho2 hb2 hg2; have HN2 := Lib.hid hn2; clear hn2)
        go_meet
        rw [R.out, if_pos h]
        exact Part.add HB.out HN2.out ho2 hb2
      · go_wp2
        go_meet
        rw [R.out, if_neg h, List.append_nil]
        exact ⟨_, _, _, rfl, HN.out, HO.out, HB.out⟩
    case rest =>
      obtain ⟨a, n, cap, rfl, hn, ho, hB⟩ := hcut
      have hsl := side_len W H c
      rw [side] at hsl
      simp only [List.length_append] at hsl
      have hl : (up W c ++ rt W c).length ≤ 1048576 := by simp only [List.length_append]; omega
      have kkc0 := hB.c0
      have kkc1 := hB.c1
      have hsz := hB.lt
      have HO := Lib.hid ho
      have HB := Lib.hid hB
      have HN := Lib.hid hn
      clear hsl ho hB hn
      go_upto_if 40 with (fail)
      go_cut [7] (Part w W H s (up W c ++ rt W c ++ dn W H c))
      case first =>
        by_cases h : y + 1 < H
        · have hle := hW
          go_wp2_with (at_builtin; refine app_int rfl _ _ rfl (w.heap.size + 1) _ (up W c ++ rt W c) rfl (c + W) _ (by omega) _ rfl HO.out rfl hl (by omega) ?_; intro A' c' n' w2 hn2 ho2 hb2 hg2; have HN2 := Lib.hid hn2; clear hn2)
          go_meet
          rw [D.out, if_pos h]
          exact Part.add HB.out HN2.out ho2 hb2
        · go_wp2
          go_meet
          rw [D.out, if_neg h, List.append_nil]
          exact ⟨_, _, _, rfl, HN.out, HO.out, HB.out⟩
      case rest =>
        obtain ⟨a, n, cap, rfl, hn, ho, hB⟩ := hcut
        have hsl := side_len W H c
        rw [side] at hsl
        simp only [List.length_append] at hsl
        have hl : (up W c ++ rt W c ++ dn W H c).length ≤ 1048576 := by simp only [List.length_append]; omega
        have hsz := hB.lt
        have HO := Lib.hid ho
        have HB := Lib.hid hB
        have HN := Lib.hid hn
        clear hsl ho hB hn
        go_upto_if 49 with (fail)
        go_cut [7] (Part w W H s (up W c ++ rt W c ++ dn W H c ++ lf W c))
        case first =>
          by_cases h : 0 < x
          · have hle := HLE2.out h
            go_wp2_with (at_builtin; refine app_int rfl _ _ rfl (w.heap.size + 1) _ (up W c ++ rt W c ++ dn W H c) rfl (c - 1) _ (by omega) _ rfl HO.out rfl hl (by omega) ?_; intro A' c' n' w2 hn2 ho2 hb2 hg2; have HN2 := Lib.hid hn2; clear hn2)
            go_meet
            rw [L.out, if_pos h]
            exact Part.add HB.out HN2.out ho2 hb2
          · go_wp2
            go_meet
            rw [L.out, if_neg h, List.append_nil]
            exact ⟨_, _, _, rfl, HN.out, HO.out, HB.out⟩
        case rest =>
          obtain ⟨a, n, cap, rfl, hn, ho, hB⟩ := hcut
          have HO := Lib.hid ho
          have HB := Lib.hid hB
          have HN := Lib.hid hn
          clear ho hB hn
          go_wp2
          go_ret
          exact ⟨_, _, _, rfl, HN.out, HO.out.lower (Nat.le_succ _), HB.out.below⟩

end Go.Proofs.YtokjnmgbgflgnaaGreatDoor
