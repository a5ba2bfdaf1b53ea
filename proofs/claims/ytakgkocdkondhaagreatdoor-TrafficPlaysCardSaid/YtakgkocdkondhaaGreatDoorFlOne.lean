/-
  Lists of numbers in memory; bytes of a string; the leaves of layer 3: isLane, isDock, sideRight, bytesRight, and the document's lane, dock.
  Lists of numbers of one's own; a floor that lies boxed; the cells beside one.
  The cells whose bytes are so; the byte at a cell; whether a lane is beside a cell.
  Whether the docks are right: docksRight.
  A map whose keys are numbers, as a list of those that are in it: made, asked, put, struck, counted.
  Whether lanes are joined: joined.
  Whether lanes are right: lanesRight; whether a floor is right: Right.
  What is told of a floor: Robots, Zone, Near, Lanes.
-/
import Derived.Test.YtakgkocdkondhaaGreatDoorRows
import Derived.Test.YtakgkocdkondhaaGreatDoorFlPlain
import Derived.Test.YtakgkocdkondhaaGreatDoorArgs
import Derived.WalkKit
import Derived.WalkSpells
import Derived.WalkLawsBesides
import Derived.RegionTactic
import Derived.Maps.AppendAt
import Derived.Lib.Hide
import Derived.Deep.QuietTactic
import Derived.BigQuiet
import Derived.ChangeAlike
import Derived.Deep.CutRange
import Derived.Deep.DeepCutAuto
import Derived.IntWalk
import Derived.Maps.OwnSet
import Derived.Maps.Views
import Derived.Deep.RegionHeld3
set_option linter.unusedVariables false
set_option maxRecDepth 100000
section
namespace Go.Proofs.YtakgkocdkondhaaGreatDoor
open Go.RowKit Fl

theorem ret_int {k : IntKind} {a b : Int} (h : a = b) : Ending.returned (.int k a) = .returned (.int k b) := by rw [h]
theorem ret_bool {a b : Bool} (h : a = b) : Ending.returned (.bool a) = .returned (.bool b) := by rw [h]
theorem at_get (s : ByteArray) (k : Nat) (h : k < s.size) : s[k].toNat = at_ s k := by
  unfold at_
  rw [List.getD, List.getElem?_eq_getElem (by simpa using h)]
  rfl
theorem at_lt (s : ByteArray) (k : Nat) : at_ s k < 256 := by unfold at_; exact UInt8.toNat_lt _

theorem isLane_any (c : Nat) (w : World) : Calls Tryz.prog 60 #[.int .u8 (c : Int)] w fun e w' => e = .returned (.bool (isL c)) ∧ w = w' := by
  by_cases h1 : 97 ≤ c
  · have d1 : decide (97 ≤ (c : Int)) = true := by simp; omega
    have HH : Hid (isL c = decide ((c : Int) < 123)) := Lib.hid (by unfold isL; rw [decide_eq_true h1, Bool.true_and, decide_eq_decide]; omega)
    go_enter Tryz.func60, Tryz.ntmps60
    go_wp2
    go_ret
    exact ⟨ret_bool HH.out.symm, rfl⟩
  · have d1 : decide (97 ≤ (c : Int)) = false := by simp; omega
    have HH : Hid (isL c = false) := Lib.hid (by unfold isL; rw [decide_eq_false h1]; rfl)
    go_enter Tryz.func60, Tryz.ntmps60
    go_wp2
    go_ret
    exact ⟨ret_bool HH.out.symm, rfl⟩
theorem isDock_any (c : Nat) (w : World) : Calls Tryz.prog 58 #[.int .u8 (c : Int)] w fun e w' => e = .returned (.bool (isD c)) ∧ w = w' := by
  by_cases h1 : 48 ≤ c
  · have d1 : decide (48 ≤ (c : Int)) = true := by simp; omega
    have HH : Hid (isD c = decide ((c : Int) < 56)) := Lib.hid (by unfold isD; rw [decide_eq_true h1, Bool.true_and, decide_eq_decide]; omega)
    go_enter Tryz.func58, Tryz.ntmps58
    go_wp2
    go_ret
    exact ⟨ret_bool HH.out.symm, rfl⟩
  · have d1 : decide (48 ≤ (c : Int)) = false := by simp; omega
    have HH : Hid (isD c = false) := Lib.hid (by unfold isD; rw [decide_eq_false h1]; rfl)
    go_enter Tryz.func58, Tryz.ntmps58
    go_wp2
    go_ret
    exact ⟨ret_bool HH.out.symm, rfl⟩
theorem rlane_any (c : Nat) (w : World) : Calls Tryz.prog 86 #[.int .u8 (c : Int)] w fun e w' => e = .returned (.bool (isL c)) ∧ w = w' := by
  by_cases h1 : 97 ≤ c
  · have d1 : decide (97 ≤ (c : Int)) = true := by simp; omega
    have HH : Hid (isL c = decide ((c : Int) ≤ 122)) := Lib.hid (by unfold isL; rw [decide_eq_true h1, Bool.true_and, decide_eq_decide]; omega)
    go_enter Tryz.func86, Tryz.ntmps86
    go_wp2
    go_ret
    exact ⟨ret_bool HH.out.symm, rfl⟩
  · have d1 : decide (97 ≤ (c : Int)) = false := by simp; omega
    have HH : Hid (isL c = false) := Lib.hid (by unfold isL; rw [decide_eq_false h1]; rfl)
    go_enter Tryz.func86, Tryz.ntmps86
    go_wp2
    go_ret
    exact ⟨ret_bool HH.out.symm, rfl⟩
theorem rdock_any (c : Nat) (w : World) : Calls Tryz.prog 85 #[.int .u8 (c : Int)] w fun e w' => e = .returned (.bool (isD c)) ∧ w = w' := by
  by_cases h1 : 48 ≤ c
  · have d1 : decide (48 ≤ (c : Int)) = true := by simp; omega
    have HH : Hid (isD c = decide ((c : Int) ≤ 55)) := Lib.hid (by unfold isD; rw [decide_eq_true h1, Bool.true_and, decide_eq_decide]; omega)
    go_enter Tryz.func85, Tryz.ntmps85
    go_wp2
    go_ret
    exact ⟨ret_bool HH.out.symm, rfl⟩
  · have d1 : decide (48 ≤ (c : Int)) = false := by simp; omega
    have HH : Hid (isD c = false) := Lib.hid (by unfold isD; rw [decide_eq_false h1]; rfl)
    go_enter Tryz.func85, Tryz.ntmps85
    go_wp2
    go_ret
    exact ⟨ret_bool HH.out.symm, rfl⟩

def okSide (n : Int) : Bool := decide (1 ≤ n) && decide (n ≤ 16)
theorem sideRight_any (n : Int) (w : World) : Calls Tryz.prog 74 #[.int .i64 n] w fun e w' => e = .returned (.bool (okSide n)) ∧ w = w' := by
  by_cases h1 : 1 ≤ n
  · have d1 : decide (1 ≤ n) = true := by simp; omega
    have HH : Hid (okSide n = decide (n ≤ 16)) := Lib.hid (by unfold okSide; rw [d1, Bool.true_and])
    go_enter Tryz.func74, Tryz.ntmps74
    go_wp2
    go_ret
    exact ⟨ret_bool HH.out.symm, rfl⟩
  · have d1 : decide (1 ≤ n) = false := by simp; omega
    have HH : Hid (okSide n = false) := Lib.hid (by unfold okSide; rw [d1]; rfl)
    go_enter Tryz.func74, Tryz.ntmps74
    go_wp2
    go_ret
    exact ⟨ret_bool HH.out.symm, rfl⟩

def okAll (s : ByteArray) : Bool := (List.range s.size).all fun i => okc (at_ s i)
theorem okAll_iff (s : ByteArray) : okAll s = true ↔ ∀ i, i < s.size → okc (at_ s i) = true := by simp [okAll]
theorem okAll_no {s : ByteArray} {k : Nat} (hk : k < s.size) (h : okc (at_ s k) = false) : okAll s = false := by
  rw [Bool.eq_false_iff]
  intro e
  have := (okAll_iff s).1 e k hk
  rw [h] at this
  cases this
theorem okc_of (c : Nat) (h : c = 35 ∨ isL c = true ∨ isD c = true) : okc c = true := by
  unfold okc
  rcases h with rfl | h | h
  · rfl
  · rw [h]; simp
  · rw [h]; simp
theorem okc_not (c : Nat) (h : c ≠ 35) (h1 : isL c = false) (h2 : isD c = false) : okc c = false := by
  unfold okc
  rw [h1, h2, beq_eq_false_iff_ne.2 h]; rfl

set_option maxHeartbeats 1000000 in
theorem bytesRight_any (s : ByteArray) (hs : s.size ≤ maxLen) (w : World) : Calls Tryz.prog 75 #[.string s] w fun e w' => e = .returned (.bool (okAll s)) ∧ w = w' := by
  unfold maxLen at hs
  go_enter Tryz.func75, Tryz.ntmps75
  go_wp2
  go_loop [7] (fun i => ∃ k : Nat, k ≤ s.size ∧ i = .int .i64 (k : Int) ∧ ∀ j, j < k → okc (at_ s j) = true) (fun i => s.size - (intOf i).toNat)
  case atStart => exact ⟨0, Nat.zero_le _, rfl, fun j hj => by omega⟩
  case round =>
    obtain ⟨k, hk, rfl, hj⟩ := hrel
    have HJ := Lib.hid hj
    clear hj
    by_cases hlt : k < s.size
    · have HZ := Lib.hid (at_get s k hlt)
      by_cases h35 : s[k].toNat = 35
      · have hb : ((s[k].toNat : Int) != 35) = false := by rw [bne_eq_false_iff_eq]; omega
        have HO : Hid (okc (at_ s k) = true) := Lib.hid (by rw [← HZ.out]; exact okc_of _ (.inl h35))
        clear h35
        go_wp2
        go_round
        case rel => exact ⟨k + 1, by omega, by go_num, fun j hj => by rcases Nat.lt_succ_iff_lt_or_eq.1 hj with h | h; exact HJ.out j h; rw [h]; exact HO.out⟩
        case measure => simp [intOf]; omega
      · have hb : ((s[k].toNat : Int) != 35) = true := by rw [bne_iff_ne]; omega
        cases h1 : isL s[k].toNat with
        | true =>
          have HO : Hid (okc (at_ s k) = true) := Lib.hid (by rw [← HZ.out]; exact okc_of _ (.inr (.inl h1)))
          clear h35
          go_wp2_with (go_at_call 60; refine (isLane_any _ _).mono ?_; rintro e w' ⟨rfl, rfl⟩)
          go_round
          case rel => exact ⟨k + 1, by omega, by go_num, fun j hj => by rcases Nat.lt_succ_iff_lt_or_eq.1 hj with h | h; exact HJ.out j h; rw [h]; exact HO.out⟩
          case measure => simp [intOf]; omega
        | false =>
          cases h2 : isD s[k].toNat with
          | true =>
            have HO : Hid (okc (at_ s k) = true) := Lib.hid (by rw [← HZ.out]; exact okc_of _ (.inr (.inr h2)))
            clear h35
            go_wp2_with (first | (go_at_call 60; refine (isLane_any _ _).mono ?_; rintro e w' ⟨rfl, rfl⟩) | (go_at_call 58; refine (isDock_any _ _).mono ?_; rintro e w' ⟨rfl, rfl⟩))
            go_round
            case rel => exact ⟨k + 1, by omega, by go_num, fun j hj => by rcases Nat.lt_succ_iff_lt_or_eq.1 hj with h | h; exact HJ.out j h; rw [h]; exact HO.out⟩
            case measure => simp [intOf]; omega
          | false =>
            have HO : Hid (okAll s = false) := Lib.hid (okAll_no hlt (by rw [← HZ.out]; exact okc_not _ h35 h1 h2))
            clear h35
            go_wp2_with (first | (go_at_call 60; refine (isLane_any _ _).mono ?_; rintro e w' ⟨rfl, rfl⟩) | (go_at_call 58; refine (isDock_any _ _).mono ?_; rintro e w' ⟨rfl, rfl⟩))
            go_ret
            exact ⟨ret_bool HO.out.symm, rfl⟩
    · go_wp2
      go_ret
      exact ⟨ret_bool ((okAll_iff s).2 fun i hi => HJ.out i (by omega)).symm, rfl⟩

end Go.Proofs.YtakgkocdkondhaaGreatDoor
end

section
namespace Go.Proofs.YtakgkocdkondhaaGreatDoor
open Go.RowKit Fl

theorem shape_of {w : World} {B : Nat} {e : TypeId} {v : Value} {n : Nat} {xs : List Value} (h : w.ownsRow B e 1 v n xs) (hn : 0 < n) : ∃ g cap, v = .slice (some ⟨g, 0, none⟩) n cap := by
  rcases h.2 with ⟨_, x⟩ | ⟨g, cap, cur, x, _⟩
  · omega
  · exact ⟨g, cap, x⟩
theorem own_ge {w : World} {B : Nat} {e : TypeId} {v : Value} {n : Nat} {xs : List Value} (h : w.ownsRow B e 1 v n xs) : ∀ k, v.ownBlock = some k → B ≤ k := fun k hk => (h.lt k hk).1
theorem ownsRow_shape {w : World} {base : Nat} {e : TypeId} {size : Nat} {v : Value} {n : Nat} {xs : List Value} (h : w.ownsRow base e size v n xs) : ∃ a cap, v = .slice a n cap := by
  rcases h.2 with ⟨rfl, rfl⟩ | ⟨g, cap, cur, rfl, _⟩
  · exact ⟨_, _, rfl⟩
  · exact ⟨_, _, rfl⟩
theorem ownsRow_lower {w : World} {base base' : Nat} {e : TypeId} {size : Nat} {v : Value} {n : Nat} {xs : List Value} (h : w.ownsRow base e size v n xs) (hb : base' ≤ base) : w.ownsRow base' e size v n xs := by
  obtain ⟨h1, h2⟩ := h
  refine ⟨h1, ?_⟩
  rcases h2 with h2 | ⟨g, cap, cur, rfl, hg, r⟩
  · exact .inl h2
  · exact .inr ⟨g, cap, cur, rfl, by omega, r⟩
theorem ownsRow_cap {w : World} {base : Nat} {e : TypeId} {size : Nat} {a : Option Addr} {n cap : Nat} {xs : List Value} (h : w.ownsRow base e size (.slice a n cap) n xs) : n ≤ cap ∧ cap ≤ maxLen := by
  rcases h.2 with ⟨e1, rfl⟩ | ⟨g, c, cur, e1, _, _, h1, h2, _⟩
  · simp only [Value.slice.injEq] at e1; obtain ⟨rfl, _, rfl⟩ := e1; exact ⟨Nat.le_refl _, Nat.zero_le _⟩
  · simp only [Value.slice.injEq] at e1; obtain ⟨rfl, _, rfl⟩ := e1; exact ⟨h1, h2⟩
/-- What is owned stays so while nothing that was there is written. -/
theorem own_later {w w' : World} {base : Nat} {e : TypeId} {size : Nat} {v : Value} {n : Nat} {xs : List Value} (h : w.ownsRow base e size v n xs) (hb : Below w.heap.size w w') : w'.ownsRow base e size v n xs :=
  ownsRow_same h (fun k hk => hb.block k (h.lt k hk).2)

/-- Integers as cells. -/
def ic (l : List Nat) : List Value := l.map fun n : Nat => Value.int .i64 (n : Int)
theorem Tryz.infoInt : (Tryz.prog.info? 3).map (fun i => (i.zero, i.size, i.bytes)) = some (some (.int .i64 0), 1, 8) := by kernel_rfl
/-- The list of numbers xs is owned at v. -/
def Own (w : World) (base : Nat) (v : Value) (xs : List Nat) : Prop := w.ownsRow base 3 1 v xs.length (ic xs)
theorem Own.later {w w' : World} {base : Nat} {v : Value} {xs : List Nat} (h : Own w base v xs) (hb : Below w.heap.size w w') : Own w' base v xs := own_later h hb
theorem Own.lower {w : World} {base base' : Nat} {v : Value} {xs : List Nat} (h : Own w base v xs) (hb : base' ≤ base) : Own w base' v xs := ownsRow_lower h hb
theorem Own.nil (w : World) (base : Nat) : Own w base (.slice none 0 0) [] := World.ownsRow_nil _ _ _ _
theorem Own.cap {w : World} {base : Nat} {a : Option Addr} {n cap : Nat} {xs : List Nat} (h : Own w base (.slice a n cap) xs) (hn : n = xs.length) : n ≤ cap ∧ cap ≤ maxLen := by subst hn; exact ownsRow_cap h
/-- The cell of an element. -/
theorem Own.at {w : World} {base : Nat} {a : Option Addr} {n cap : Nat} {xs : List Nat} (h : Own w base (.slice a n cap) xs) (i : Nat) (hi : i < xs.length) :
    ∃ g, a = some ⟨g, 0, none⟩ ∧ g < w.heap.size ∧ w.cell? ⟨g, i, none⟩ = some (.int .i64 ((xs.getD i 0 : Nat) : Int)) := by
  obtain ⟨g, c, hv⟩ := shape_of h (by omega)
  simp only [Value.slice.injEq] at hv
  obtain ⟨rfl, rfl, rfl⟩ := hv
  refine ⟨g, rfl, (h.lt g rfl).2, ?_⟩
  rw [h.cellAt _ (by omega)]
  simp [ic, List.getD, List.getElem?_eq_getElem hi]

/-- A number is appended to a row of one's own: just that row grows. -/
theorem app_int2 {w : World} {ops : Array Oper} {rest : List Oper} {o : Oper} {a : Act} {Q : Exit → Act → World → Prop} (hgd : o.guard = none) (s x : Operand)
    (ho : o.op = .call { callee := .builtin .append, args := #[s, x], argTypes := #[46, 46] })
    (base : Nat) (v : Value) (xs : List Nat) (hs : a.eval s = v) (y : Nat) (Y : Int) (hY : Y = y) (w0 : World) (hw : w = w0.alloc (.cells #[.int .i64 Y] 3)) (hown : Own w0 base v xs)
    (hx : a.eval x = .slice (some ⟨w0.heap.size, 0, none⟩) 1 1) (hf : xs.length ≤ 1048576) (hbase : base ≤ w0.heap.size)
    (h : ∀ A' c' n' w', n' = (xs ++ [y]).length → Own w' base (.slice A' n' c') (xs ++ [y]) → Below base w0 w' → w0.grownBy w' v.ownBlock → ((Value.slice A' n' c').ownBlock = v.ownBlock ∨ (Value.slice A' n' c').ownBlock = some (w0.heap.size + 1)) → wpList Tryz.prog ops Q rest (a.put o.dst (.slice A' n' c')) w') : wpList Tryz.prog ops Q (o :: rest) a w := by
  obtain ⟨i0, hi, hz0, hz1, hz2⟩ := info_parts Tryz.infoInt
  subst hY
  subst hw
  refine wpList_append_own_at _ hgd s x 46 ho base 3 i0 (.int .i64 0) 1 8 Tryz.underlying46 hi hz0 hz1 hz2 rfl (by decide) v xs.length (ic xs) hs (World.ownsRow.alloc hown _) ⟨w0.heap.size, 0, none⟩ 1 1 [.int .i64 (y : Int)] hx rfl ?_ ?_ (by unfold maxLen; omega) (by omega) (by simp; omega) ?_
  · intro j u hj
    match j, hj with
    | 0, hj => simp at hj; subst hj; simp [Addr.add]
  · intro u hu; simp at hu; subst hu; rfl
  intro v' w' h1 h2 h3 h4
  obtain ⟨A', c', rfl⟩ := ownsRow_shape h1
  rw [show xs.length + 1 = (xs ++ [y]).length by simp] at h1 ⊢
  refine h A' c' _ w' rfl (by unfold Own; simpa [ic] using h1) (Below.grown ((Below.refl _ _).alloc hbase _) h2 (by simp; omega) (fun k hk => (World.ownsRow.lt hown k hk).1)) ?_ (by simpa [Value.ownBlock] using h4)
  exact ⟨h2.os, h2.tape, h2.output, by have := h2.size; simp at this; omega, fun k hk hne => (h2.block k (by simp; omega) hne).trans (Below.heap_alloc _ _ _ hk)⟩

/-- A number is appended to a row of one's own: just that row grows. -/
theorem app_int {w : World} {ops : Array Oper} {rest : List Oper} {o : Oper} {a : Act} {Q : Exit → Act → World → Prop} (hgd : o.guard = none) (s x : Operand)
    (ho : o.op = .call { callee := .builtin .append, args := #[s, x], argTypes := #[46, 46] })
    (base : Nat) (v : Value) (xs : List Nat) (hs : a.eval s = v) (y : Nat) (Y : Int) (hY : Y = y) (w0 : World) (hw : w = w0.alloc (.cells #[.int .i64 Y] 3)) (hown : Own w0 base v xs)
    (hx : a.eval x = .slice (some ⟨w0.heap.size, 0, none⟩) 1 1) (hf : xs.length ≤ 1048576) (hbase : base ≤ w0.heap.size)
    (h : ∀ A' c' n' w', n' = (xs ++ [y]).length → Own w' base (.slice A' n' c') (xs ++ [y]) → Below base w0 w' → w0.grownBy w' v.ownBlock → wpList Tryz.prog ops Q rest (a.put o.dst (.slice A' n' c')) w') : wpList Tryz.prog ops Q (o :: rest) a w :=
  app_int2 hgd s x ho base v xs hs y Y hY w0 hw hown hx hf hbase (fun A' c' n' w' h1 h2 h3 h4 _ => h A' c' n' w' h1 h2 h3 h4)

/-- A floor lies boxed in the first new block, and what was there is as it was. -/
structure Box (w : World) (W H : Int) (s : ByteArray) (wx : World) : Prop where
  c0 : wx.cell? ⟨w.heap.size, 0, none⟩ = some (.int .i64 W)
  c1 : wx.cell? ⟨w.heap.size, 1, none⟩ = some (.int .i64 H)
  c2 : wx.cell? ⟨w.heap.size, 2, none⟩ = some (.string s)
  lt : w.heap.size + 1 ≤ wx.heap.size
  below : Below w.heap.size w wx
theorem Box.start (w : World) (W H : Int) (s : ByteArray) (t : TypeId) : Box w W H s (w.alloc (.cells #[.int .i64 W, .int .i64 H, .string s] t)) :=
  ⟨by simp [World.cell?_alloc_new], by simp [World.cell?_alloc_new], by simp [World.cell?_alloc_new], by simp, (Below.refl _ _).alloc (Nat.le_refl _) _⟩
theorem Box.later {w wx wy : World} {W H : Int} {s : ByteArray} (h : Box w W H s wx) (hb : Below (w.heap.size + 1) wx wy) : Box w W H s wy :=
  ⟨(hb.cell (p := ⟨w.heap.size, 0, none⟩) (by simp)).trans h.c0, (hb.cell (p := ⟨w.heap.size, 1, none⟩) (by simp)).trans h.c1, (hb.cell (p := ⟨w.heap.size, 2, none⟩) (by simp)).trans h.c2, Nat.le_trans h.lt hb.size, h.below.trans (hb.mono (by omega))⟩
theorem Box.after {w wx wy : World} {W H : Int} {s : ByteArray} (h : Box w W H s wx) (hb : Below wx.heap.size wx wy) : Box w W H s wy := h.later (hb.mono h.lt)
theorem Box.drew {w wx : World} {W H : Int} {s : ByteArray} (h : Box w W H s wx) : Box w W H s wx.drew := h.later (Below.refl _ _).drew

theorem below_drewN (B : Nat) (w : World) (n : Nat) : Below B w (w.drewN n) := ⟨rfl, rfl, rfl, Nat.le_refl _, fun _ _ => rfl⟩
/-- A list of numbers of the call's own is told. -/
def Ints (l : List Nat) (w : World) (e : Ending) (w' : World) : Prop := ∃ a n cap, e = .returned (.slice a n cap) ∧ n = l.length ∧ Own w' w.heap.size (.slice a n cap) l ∧ Below w.heap.size w w'
/-- A truth is told. -/
def Told (P : Prop) (w : World) (e : Ending) (w' : World) : Prop := ∃ b : Bool, e = .returned (.bool b) ∧ (b = true ↔ P) ∧ Below w.heap.size w w'

/-- So much of a list is laid, the floor's box beside it. -/
def Part (w : World) (W H : Int) (s : ByteArray) (l : List Nat) (v : Value) (wc : World) : Prop := ∃ a n cap, v = .slice a n cap ∧ n = l.length ∧ Own wc (w.heap.size + 1) (.slice a n cap) l ∧ Box w W H s wc
theorem Part.add {w wc wd : World} {W H : Int} {s : ByteArray} {l : List Nat} {A : Option Addr} {n c y : Nat} (hB : Box w W H s wc) (hn : n = (l ++ [y]).length)
    (ho : Own wd (w.heap.size + 1) (.slice A n c) (l ++ [y])) (hb : Below (w.heap.size + 1) wc wd) : Part w W H s (l ++ [y]) (.slice A n c) wd := ⟨A, n, c, rfl, hn, ho, hB.later hb⟩

set_option maxHeartbeats 4000000 in
theorem beside_any (W H c : Nat) (s : ByteArray) (w : World) (hW : 1 ≤ W) (hW2 : W ≤ 16) (hH : 1 ≤ H) (hH2 : H ≤ 16) (hc : c < W * H) :
    Calls Tryz.prog 130 #[.agg #[.int .i64 (W : Int), .int .i64 (H : Int), .string s], .int .i64 (c : Int)] w (Ints (side W H c) w) := by
  have hm := le_mul16 hW2 hH2
  have hc2 : c < 256 := by omega
  have HC := Lib.hid hc
  clear hc hm
  obtain ⟨i0, hi, hz0, hz1, hz2⟩ := info_parts Tryz.infoInt
  obtain ⟨x, hx⟩ : ∃ x, x = c % W := ⟨_, rfl⟩
  obtain ⟨y, hy⟩ : ∃ y, y = c / W := ⟨_, rfl⟩
  have hxm : (c : Int) % (W : Int) = (x : Int) := by rw [hx]; rfl
  have hyq : (c : Int) / (W : Int) = (y : Int) := by rw [hy]; rfl
  have hyb : y < 256 := by rw [hy]; exact Nat.lt_of_le_of_lt (Nat.div_le_self _ _) hc2
  have hxb : x < 256 := by rw [hx]; exact Nat.lt_of_le_of_lt (Nat.mod_le _ _) hc2
  have hle : 0 < y → W ≤ c := fun h => le_div_mul (by rw [← hy]; exact h)
  have hle2 : 0 < x → 1 ≤ c := fun h => by rw [hx] at h; rcases Nat.eq_zero_or_pos c with h0 | h0; (subst h0; simp at h); exact h0
  have hyw : wrap64 ((y : Nat) : Int) = (y : Int) := by unfold wrap64; omega
  have U := Lib.hid (show up W c = if 0 < y then [c - W] else [] by unfold up; rw [hy])
  have R := Lib.hid (show rt W c = if x + 1 < W then [c + 1] else [] by unfold rt; rw [hx])
  have D := Lib.hid (show dn W H c = if y + 1 < H then [c + W] else [] by unfold dn; rw [hy])
  have L := Lib.hid (show lf W c = if 0 < x then [c - 1] else [] by unfold lf; rw [hx])
  clear hx hy
  have HLE := Lib.hid hle
  have HLE2 := Lib.hid hle2
  clear hle hle2
  go_enter Tryz.func130, Tryz.ntmps130
  go_wp2
  go_quiet (fail)
  go_upto_if 18 with (at_make; refine wpList_make_own _ rfl _ _ 46 rfl (w.heap.size + 1) 3 i0 (.int .i64 0) 1 Tryz.underlying46 hi hz0 hz1 .i64 .i64 4 4 rfl rfl rfl (by omega) (by unfold maxLen; omega) (by simp) ?_; intro w1 ho1 hg1)
  have HO : Hid (Own w1 (w.heap.size + 1) (.slice (some ⟨w.heap.size + 1, 0, none⟩) 0 4) []) := Lib.hid (by unfold Own; simpa [ic] using ho1)
  have HB : Hid (Box w W H s w1) := Lib.hid (((Box.start w W H s 25).later (below_drewN _ _ nq)).later (Below.grown (Below.refl _ _) hg1 (by simp) (fun k hk => by cases hk)))
  clear ho1 hg1 hxm hyq hyw
  go_cut [7] (Part w W H s (up W c))
  case first =>
    have k0 := HB.out.c0
    by_cases h : 0 < y
    · have hle := HLE.out h
      have hsz := HB.out.lt
      go_wp2_with (at_builtin; refine app_int rfl _ _ rfl (w.heap.size + 1) _ [] rfl (c - W) _ (by omega) _ rfl HO.out rfl (by simp) (by omega) ?_; intro A' c' n' w2 hn2 ho2 hb2 hg2; have HN2 := Lib.hid hn2; clear hn2)
      go_meet
      rw [U.out, if_pos h]
      exact Part.add HB.out HN2.out ho2 hb2
    · go_wp2
      go_meet
      rw [U.out, if_neg h]
      exact ⟨_, _, _, rfl, rfl, HO.out, HB.out⟩
  case rest =>
    obtain ⟨a, n, cap, rfl, hn, ho, hB⟩ := hcut
    have hsl := side_len W H c
    rw [side] at hsl
    simp only [List.length_append] at hsl
    have hl : (up W c).length ≤ 1048576 := by omega
    have kkc0 := hB.c0
    have hsz := hB.lt
    have HO := Lib.hid ho
    have HB := Lib.hid hB
    have HN := Lib.hid hn
    clear hsl ho hB hn
    go_upto_if 30 with (fail)
    go_cut [7] (Part w W H s (up W c ++ rt W c))
    case first =>
      by_cases h : x + 1 < W
      · have hle := hW
        go_wp2_with (at_builtin; refine app_int rfl _ _ rfl (w.heap.size + 1) _ (up W c) rfl (c + 1) _ (by omega) _ rfl HO.out rfl hl (by omega) ?_; intro A' c' n' w2 hn2 ho2 hb2 hg2; have HN2 := Lib.hid hn2; clear hn2)
        go_meet
        rw [R.out, if_pos h]
        exact Part.add HB.out HN2.out ho2 hb2
      · go_wp2
        go_meet
        rw [R.out, if_neg h, List.append_nil]
        exact ⟨_, _, _, rfl, HN.out, HO.out, HB.out⟩
    case rest =>
      obtain ⟨a, n, cap, rfl, hn, ho, hB⟩ := hcut
      have hsl := side_len W H c
      rw [side] at hsl
      simp only [List.length_append] at hsl
      have hl : (up W c ++ rt W c).length ≤ 1048576 := by simp only [List.length_append]; omega
      have kkc0 := hB.c0
      have kkc1 := hB.c1
      have hsz := hB.lt
      have HO := Lib.hid ho
      have HB := Lib.hid hB
      have HN := Lib.hid hn
      clear hsl ho hB hn
      go_upto_if 40 with (fail)
      go_cut [7] (Part w W H s (up W c ++ rt W c ++ dn W H c))
      case first =>
        by_cases h : y + 1 < H
        · have hle := hW
          go_wp2_with (at_builtin; refine app_int rfl _ _ rfl (w.heap.size + 1) _ (up W c ++ rt W c) rfl (c + W) _ (by omega) _ rfl HO.out rfl hl (by omega) ?_; intro A' c' n' w2 hn2 ho2 hb2 hg2; have HN2 := Lib.hid hn2; clear hn2)
          go_meet
          rw [D.out, if_pos h]
          exact Part.add HB.out HN2.out ho2 hb2
        · go_wp2
          go_meet
          rw [D.out, if_neg h, List.append_nil]
          exact ⟨_, _, _, rfl, HN.out, HO.out, HB.out⟩
      case rest =>
        obtain ⟨a, n, cap, rfl, hn, ho, hB⟩ := hcut
        have hsl := side_len W H c
        rw [side] at hsl
        simp only [List.length_append] at hsl
        have hl : (up W c ++ rt W c ++ dn W H c).length ≤ 1048576 := by simp only [List.length_append]; omega
        have hsz := hB.lt
        have HO := Lib.hid ho
        have HB := Lib.hid hB
        have HN := Lib.hid hn
        clear hsl ho hB hn
        go_upto_if 49 with (fail)
        go_cut [7] (Part w W H s (up W c ++ rt W c ++ dn W H c ++ lf W c))
        case first =>
          by_cases h : 0 < x
          · have hle := HLE2.out h
            go_wp2_with (at_builtin; refine app_int rfl _ _ rfl (w.heap.size + 1) _ (up W c ++ rt W c ++ dn W H c) rfl (c - 1) _ (by omega) _ rfl HO.out rfl hl (by omega) ?_; intro A' c' n' w2 hn2 ho2 hb2 hg2; have HN2 := Lib.hid hn2; clear hn2)
            go_meet
            rw [L.out, if_pos h]
            exact Part.add HB.out HN2.out ho2 hb2
          · go_wp2
            go_meet
            rw [L.out, if_neg h, List.append_nil]
            exact ⟨_, _, _, rfl, HN.out, HO.out, HB.out⟩
        case rest =>
          obtain ⟨a, n, cap, rfl, hn, ho, hB⟩ := hcut
          have HO := Lib.hid ho
          have HB := Lib.hid hB
          have HN := Lib.hid hn
          clear ho hB hn
          go_wp2
          go_ret
          exact ⟨_, _, _, rfl, HN.out, HO.out.lower (Nat.le_succ _), HB.out.below⟩

end Go.Proofs.YtakgkocdkondhaaGreatDoor
end

section
namespace Go.Proofs.YtakgkocdkondhaaGreatDoor
open Go.RowKit Fl

set_option maxHeartbeats 1000000 in
theorem cellsLane_any (W H : Int) (s : ByteArray) (hs : s.size ≤ 256) (w : World) :
    Calls Tryz.prog 57 #[.agg #[.int .i64 W, .int .i64 H, .string s], .func (.func 60) #[] #[]] w (Ints (pick isL (at_ s) s.size) w) := by
  go_enter Tryz.func57, Tryz.ntmps57
  go_wp2
  go_loopw [5, 10] (fun v i wr => ∃ k : Nat, k ≤ s.size ∧ i = .int .i64 (k : Int) ∧ Part w W H s (pick isL (at_ s) k) v wr) (fun _ i _ => s.size - (intOf i).toNat)
  case atStart => exact ⟨0, Nat.zero_le _, rfl, _, _, _, rfl, rfl, Own.nil _ _, Box.start w W H s 25⟩
  case round =>
    obtain ⟨k, hk, rfl, a, n, cap, rfl, hn, ho, hB⟩ := hrel
    have hpl := pick_le isL (at_ s) k
    have HP := Lib.hid (pick_succ isL (at_ s) k)
    have kk := hB.c2
    have hsz := hB.lt
    have HO := Lib.hid ho
    have HB := Lib.hid hB
    have HN := Lib.hid hn
    clear ho hB hn
    generalize hq : pick isL (at_ s) k = l at *
    have HQ := Lib.hid hq
    clear hq
    by_cases hlt : k < s.size
    · have HZ := Lib.hid (at_get s k hlt)
      cases h1 : isL s[k].toNat with
      | true =>
        have HT : Hid (pick isL (at_ s) (k + 1) = l ++ [k]) := Lib.hid (by rw [HP.out, if_pos (by rw [← HZ.out]; exact h1)])
        go_wp2_with (first | (go_at_call 60; refine (isLane_any _ _).mono ?_; rintro e w' ⟨rfl, rfl⟩) | (at_builtin; refine app_int rfl _ _ rfl (w.heap.size + 1) _ l rfl k _ rfl _ rfl HO.out rfl (by omega) (by omega) ?_; intro A' c' n' w2 hn2 ho2 hb2 hg2; have HN2 := Lib.hid hn2; clear hn2))
        go_roundw
        case rel => exact ⟨k + 1, by omega, by go_num, by rw [HT.out]; exact Part.add HB.out HN2.out ho2 hb2⟩
        case measure => simp [intOf]; omega
      | false =>
        have HT : Hid (pick isL (at_ s) (k + 1) = l) := Lib.hid (by rw [HP.out, if_neg (by rw [← HZ.out, h1]; decide), List.append_nil])
        go_wp2_with (go_at_call 60; refine (isLane_any _ _).mono ?_; rintro e w' ⟨rfl, rfl⟩)
        go_roundw
        case rel => exact ⟨k + 1, by omega, by go_num, by rw [HT.out]; exact ⟨_, _, _, rfl, HN.out, HO.out, HB.out⟩⟩
        case measure => simp [intOf]; omega
    · obtain rfl : k = s.size := by omega
      go_wp2
      go_ret
      exact ⟨_, _, _, rfl, by rw [HQ.out]; exact HN.out, by rw [HQ.out]; exact HO.out.lower (Nat.le_succ _), HB.out.below⟩

set_option maxHeartbeats 1000000 in
theorem cellsDock_any (W H : Int) (s : ByteArray) (hs : s.size ≤ 256) (w : World) :
    Calls Tryz.prog 57 #[.agg #[.int .i64 W, .int .i64 H, .string s], .func (.func 58) #[] #[]] w (Ints (pick isD (at_ s) s.size) w) := by
  go_enter Tryz.func57, Tryz.ntmps57
  go_wp2
  go_loopw [5, 10] (fun v i wr => ∃ k : Nat, k ≤ s.size ∧ i = .int .i64 (k : Int) ∧ Part w W H s (pick isD (at_ s) k) v wr) (fun _ i _ => s.size - (intOf i).toNat)
  case atStart => exact ⟨0, Nat.zero_le _, rfl, _, _, _, rfl, rfl, Own.nil _ _, Box.start w W H s 25⟩
  case round =>
    obtain ⟨k, hk, rfl, a, n, cap, rfl, hn, ho, hB⟩ := hrel
    have hpl := pick_le isD (at_ s) k
    have HP := Lib.hid (pick_succ isD (at_ s) k)
    have kk := hB.c2
    have hsz := hB.lt
    have HO := Lib.hid ho
    have HB := Lib.hid hB
    have HN := Lib.hid hn
    clear ho hB hn
    generalize hq : pick isD (at_ s) k = l at *
    have HQ := Lib.hid hq
    clear hq
    by_cases hlt : k < s.size
    · have HZ := Lib.hid (at_get s k hlt)
      cases h1 : isD s[k].toNat with
      | true =>
        have HT : Hid (pick isD (at_ s) (k + 1) = l ++ [k]) := Lib.hid (by rw [HP.out, if_pos (by rw [← HZ.out]; exact h1)])
        go_wp2_with (first | (go_at_call 58; refine (isDock_any _ _).mono ?_; rintro e w' ⟨rfl, rfl⟩) | (at_builtin; refine app_int rfl _ _ rfl (w.heap.size + 1) _ l rfl k _ rfl _ rfl HO.out rfl (by omega) (by omega) ?_; intro A' c' n' w2 hn2 ho2 hb2 hg2; have HN2 := Lib.hid hn2; clear hn2))
        go_roundw
        case rel => exact ⟨k + 1, by omega, by go_num, by rw [HT.out]; exact Part.add HB.out HN2.out ho2 hb2⟩
        case measure => simp [intOf]; omega
      | false =>
        have HT : Hid (pick isD (at_ s) (k + 1) = l) := Lib.hid (by rw [HP.out, if_neg (by rw [← HZ.out, h1]; decide), List.append_nil])
        go_wp2_with (go_at_call 58; refine (isDock_any _ _).mono ?_; rintro e w' ⟨rfl, rfl⟩)
        go_roundw
        case rel => exact ⟨k + 1, by omega, by go_num, by rw [HT.out]; exact ⟨_, _, _, rfl, HN.out, HO.out, HB.out⟩⟩
        case measure => simp [intOf]; omega
    · obtain rfl : k = s.size := by omega
      go_wp2
      go_ret
      exact ⟨_, _, _, rfl, by rw [HQ.out]; exact HN.out, by rw [HQ.out]; exact HO.out.lower (Nat.le_succ _), HB.out.below⟩

/-- The byte at a cell, or a wall's. -/
def bAt (s : ByteArray) (c : Int) : Nat := if 0 ≤ c ∧ c < s.size then at_ s c.toNat else 35
/-- A byte is told. -/
def ByteTold (n : Nat) (w : World) (e : Ending) (w' : World) : Prop := e = .returned (.int .u8 (n : Int)) ∧ Below w.heap.size w w'
theorem byteAt_any (W H : Int) (s : ByteArray) (hs : s.size ≤ 256) (c : Int) (w : World) :
    Calls Tryz.prog 61 #[.agg #[.int .i64 W, .int .i64 H, .string s], .int .i64 c] w (ByteTold (bAt s c) w) := by
  by_cases h0 : c < 0
  · have d0 : decide (c < 0) = true := by simpa using h0
    have HH : Hid (bAt s c = 35) := Lib.hid (by unfold bAt; rw [if_neg (by omega)])
    go_enter Tryz.func61, Tryz.ntmps61
    go_wp2
    go_ret
    exact ⟨ret_int (by rw [HH.out]; rfl), (Below.refl _ _).alloc (Nat.le_refl _) _⟩
  · obtain ⟨k, rfl⟩ := Int.eq_ofNat_of_zero_le (by omega : 0 ≤ c)
    have d0 : decide ((k : Int) < 0) = false := by simp
    by_cases h1 : k < s.size
    · have HH : Hid (((bAt s (k : Int) : Nat) : Int) = s[k].toNat) := Lib.hid (by unfold bAt; rw [if_pos (by omega), Int.toNat_natCast, ← at_get s k h1])
      go_enter Tryz.func61, Tryz.ntmps61
      go_wp2
      go_ret
      exact ⟨ret_int HH.out.symm, (Below.refl _ _).alloc (Nat.le_refl _) _⟩
    · have HH : Hid (bAt s (k : Int) = 35) := Lib.hid (by unfold bAt; rw [if_neg (by omega)])
      go_enter Tryz.func61, Tryz.ntmps61
      go_wp2
      go_ret
      exact ⟨ret_int (by rw [HH.out]; rfl), (Below.refl _ _).alloc (Nat.le_refl _) _⟩

set_option maxHeartbeats 1000000 in
theorem besideLane_any (W H c : Nat) (s : ByteArray) (w : World) (hS : Sides W H s) (hc : c < W * H) :
    Calls Tryz.prog 107 #[.agg #[.int .i64 (W : Int), .int .i64 (H : Int), .string s], .int .i64 (c : Int)] w (Told (ByLane W H (at_ s) c) w) := by
  have h256 := hS.le
  have hin : ∀ b, b ∈ side W H c → b < s.size := fun b hb => by rw [hS.sz]; exact side_lt hS.w1 hc hb
  have HS := Lib.hid hS
  have HC := Lib.hid hc
  have HI := Lib.hid hin
  have HL := Lib.hid (side_len W H c)
  clear hS hc hin
  go_enter Tryz.func107, Tryz.ntmps107
  go_wp2_with fail
  refine (beside_any W H c s _ HS.out.w1 HS.out.w2 HS.out.h1 HS.out.h2 HC.out).mono ?_
  rintro e w1 ⟨a, n, cap, rfl, hn, ho, hb⟩
  have HB := Lib.hid ((Box.start w (W : Int) (H : Int) s 25).after hb)
  have kk := HB.out.c2
  have hn4 : n ≤ 4 := by rw [hn]; exact HL.out
  have HO := Lib.hid ho
  have HN := Lib.hid hn
  clear ho hn hb
  go_wp2
  go_loop [11] (fun i => ∃ k : Nat, k ≤ n ∧ i = .int .i64 (k : Int) ∧ ∀ j, j < k → isL (at_ s ((side W H c).getD j 0)) = false) (fun i => n - (intOf i).toNat)
  case atStart => exact ⟨0, Nat.zero_le _, rfl, fun j hj => by omega⟩
  case round =>
    obtain ⟨k, hk, rfl, hj⟩ := hrel
    have HJ := Lib.hid hj
    clear hj
    by_cases hlt : k < n
    · have hlt' : k < (side W H c).length := by rw [← HN.out]; exact hlt
      obtain ⟨g, rfl, hg, hcell⟩ := HO.out.at k hlt'
      have hmem : (side W H c).getD k 0 ∈ side W H c := by rw [List.getD, List.getElem?_eq_getElem hlt']; exact List.getElem_mem hlt'
      have hin := HI.out _ hmem
      have HM := Lib.hid hmem
      obtain ⟨b, hbq⟩ : ∃ b, b = (side W H c).getD k 0 := ⟨_, rfl⟩
      rw [← hbq] at hcell hin
      have HQ := Lib.hid hbq
      clear hbq hmem hlt'
      have HZ := Lib.hid (at_get s b hin)
      cases h1 : isL s[b].toNat with
      | true =>
        go_wp2_with (go_at_call 60; refine (isLane_any _ _).mono ?_; rintro e w' ⟨rfl, rfl⟩)
        go_ret
        exact ⟨true, rfl, iff_of_true rfl ⟨b, by rw [HQ.out]; exact HM.out, by rw [← HZ.out]; exact h1⟩, HB.out.below⟩
      | false =>
        have HO2 : Hid (isL (at_ s ((side W H c).getD k 0)) = false) := Lib.hid (by rw [← HQ.out, ← HZ.out]; exact h1)
        go_wp2_with (go_at_call 60; refine (isLane_any _ _).mono ?_; rintro e w' ⟨rfl, rfl⟩)
        go_round
        case rel => exact ⟨k + 1, by omega, by go_num, fun j hj => by rcases Nat.lt_succ_iff_lt_or_eq.1 hj with h | h; exact HJ.out j h; rw [h]; exact HO2.out⟩
        case measure => simp [intOf]; omega
    · go_wp2
      go_ret
      refine ⟨false, rfl, iff_of_false (by decide) ?_, HB.out.below⟩
      rintro ⟨b, hb1, hb2⟩
      obtain ⟨j, hj, rfl⟩ := List.mem_iff_getElem.1 hb1
      have := HJ.out j (by have := HN.out; omega)
      rw [List.getD, List.getElem?_eq_getElem hj] at this
      rw [show (some ((side W H c)[j])).getD 0 = (side W H c)[j] from rfl, hb2] at this
      cases this

end Go.Proofs.YtakgkocdkondhaaGreatDoor
end

section
namespace Go.Proofs.YtakgkocdkondhaaGreatDoor
open Go.RowKit Fl

/-- Eight counts lie in block B. -/
def Tally (B : Nat) (f : Nat → Nat) (wr : World) : Prop := B < wr.heap.size ∧ ∀ r, r < 8 → wr.cell? ⟨B, r, none⟩ = some (.int .i64 (f r : Int)) ∧ wr.frozen? ⟨B, r, none⟩ = false
theorem Tally.later {B : Nat} {f : Nat → Nat} {wr wx : World} (h : Tally B f wr) (hb : Below wr.heap.size wr wx) : Tally B f wx :=
  ⟨Nat.lt_of_lt_of_le h.1 hb.size, fun r hr => ⟨(hb.cell (p := ⟨B, r, none⟩) h.1).trans (h.2 r hr).1, (hb.frozen (p := ⟨B, r, none⟩) h.1).trans (h.2 r hr).2⟩⟩
theorem Tally.up {B : Nat} {f g : Nat → Nat} {wr : World} (h : Tally B f wr) (r : Nat) (hr : r < 8) (hg : g r = f r + 1) (hg2 : ∀ q, q ≠ r → g q = f q) (Y : Int) (hY : Y = (f r : Int) + 1) : Tally B g (wr.setCell ⟨B, r, none⟩ (.int .i64 Y)) := by
  subst hY
  refine ⟨by simpa [World.setCell] using h.1, fun q hq => ⟨?_, by rw [World.frozen?_setCell]; exact (h.2 q hq).2⟩⟩
  by_cases e : q = r
  · subst e
    rw [World.cell?_setCell_same (h := (h.2 q hq).1), hg]
    rfl
  · rw [World.cell?_setCell_other (h := (fun e2 => e (by simpa using e2.symm) : (⟨B, r, none⟩ : Addr) ≠ ⟨B, q, none⟩)), hg2 q e]
    exact (h.2 q hq).1
theorem Tally.made (w : World) (t : TypeId) (cs : Array Value) (hc : ∀ r, r < 8 → cs[r]? = some (.int .i64 0)) : Tally w.heap.size (fun _ => 0) (w.alloc (.cells cs t)) :=
  ⟨by simp, fun r hr => ⟨by rw [World.cell?_alloc_new]; exact hc r hr, World.frozen?_alloc_new _ _ _ _⟩⟩
theorem Own.put {w : World} {base : Nat} {v : Value} {xs : List Nat} (h : Own w base v xs) (b o : Nat) (u : Value) (hne : ∀ k, v.ownBlock = some k → k ≠ b) : Own (w.setCell ⟨b, o, none⟩ u) base v xs :=
  ownsRow_same h (fun k hk => Below.heap_setCell _ _ _ _ (hne k hk))

set_option maxHeartbeats 4000000 in
theorem docksRight_any (W H : Nat) (s : ByteArray) (w : World) (hS : Sides W H s) :
    Calls Tryz.prog 76 #[.agg #[.int .i64 (W : Int), .int .i64 (H : Int), .string s]] w (Told (DocksOk W H (at_ s)) w) := by
  have h256 := hS.le
  have HS := Lib.hid hS
  have HD : Hid (pick isD (at_ s) s.size = docks W H (at_ s)) := Lib.hid (by rw [hS.sz]; rfl)
  have HL := Lib.hid (pick_le isD (at_ s) s.size)
  have HSZ := Lib.hid hS.sz
  clear hS
  go_enter Tryz.func76, Tryz.ntmps76
  go_wp2_with fail
  refine (cellsDock_any (W : Int) (H : Int) s h256 _).mono ?_
  rintro e w1 ⟨a, n, cap, rfl, hn, ho, hb⟩
  rw [HD.out] at hn ho
  have HB1 := Lib.hid ((Box.start w (W : Int) (H : Int) s 25).after hb)
  have hn2 : n ≤ 256 := by rw [hn, ← HD.out]; have := HL.out; omega
  have HO1 := Lib.hid ho
  have HN := Lib.hid hn
  clear ho hn hb
  go_wp2_with fail
  go_loopw [12] (fun iv wr => ∃ k : Nat, k ≤ n ∧ iv = .int .i64 (k : Int) ∧ Box w W H s wr ∧ Tally w1.heap.size (cn (at_ s) ((docks W H (at_ s)).take k)) wr ∧ Own wr w.heap.size (.slice a n cap) (docks W H (at_ s)) ∧ ∀ j, j < k → ByLane W H (at_ s) ((docks W H (at_ s)).getD j 0)) (fun iv _ => n - (intOf iv).toNat)
  case atStart =>
    have hal := fun o => (Below.refl w1.heap.size w1).alloc (Nat.le_refl _) o
    refine ⟨0, Nat.zero_le _, rfl, HB1.out.after (hal _), Tally.made w1 _ _ ?_, (HO1.out.later (hal _)).lower (by simp), fun j hj => by omega⟩
    intro r hr
    have hr8 : r = 0 ∨ r = 1 ∨ r = 2 ∨ r = 3 ∨ r = 4 ∨ r = 5 ∨ r = 6 ∨ r = 7 := by omega
    rcases hr8 with rfl | rfl | rfl | rfl | rfl | rfl | rfl | rfl <;> rfl
  case round =>
    obtain ⟨k, hk, rfl, hB, hT, hO, hj⟩ := hrel
    have HB := Lib.hid hB
    have HT := Lib.hid hT
    have HO := Lib.hid hO
    have HJ := Lib.hid hj
    have hkk := hB.lt
    have hmb := hT.1
    have HG : Hid (∀ g, (Value.slice a n cap).ownBlock = some g → g ≠ w1.heap.size) := Lib.hid (fun g hg => Nat.ne_of_lt (HO1.out.lt g hg).2)
    clear hB hT hO hj
    by_cases hlt : k < n
    · have hk' : k < (docks W H (at_ s)).length := by rw [← HN.out]; exact hlt
      obtain ⟨g, rfl, hg, hc⟩ := HO.out.at k hk'
      have hmem := getD_mem hk'
      have hd := docks_isD hmem
      have HTK : Hid ((docks W H (at_ s)).take (k + 1) = (docks W H (at_ s)).take k ++ [(docks W H (at_ s)).getD k 0]) := Lib.hid (by rw [List.take_succ_eq_append_getElem hk', List.getD, List.getElem?_eq_getElem hk']; rfl)
      obtain ⟨d, hdq⟩ : ∃ d, d = (docks W H (at_ s)).getD k 0 := ⟨_, rfl⟩
      rw [← hdq] at hc hd hmem HTK
      have hds : d < s.size := by rw [HSZ.out]; exact hd.1
      obtain ⟨r, hr, hzr⟩ := isD_of hd.2
      have hq : ((s[d].toNat : Int) - 48) = (r : Int) := by rw [at_get s d hds, hzr]; omega
      have hlo : 48 ≤ s[d].toNat := by rw [at_get s d hds, hzr]; omega
      have hhi : s[d].toNat < 56 := by rw [at_get s d hds, hzr]; omega
      have HZR := Lib.hid hzr
      have HDQ := Lib.hid hdq
      have HDL := Lib.hid hd.1
      have HME := Lib.hid hmem
      clear hd hdq hzr hmem hk'
      have kk2 := HB.out.c2
      have ct := (HT.out.2 r hr).1
      have ft := (HT.out.2 r hr).2
      have HW2 : Hid (Below (w.heap.size + 1) wr (wr.setCell ⟨w1.heap.size, r, none⟩ (.int .i64 ((cn (at_ s) ((docks W H (at_ s)).take k) r : Int) + 1)))) := Lib.hid ((Below.refl _ _).setCell (p := ⟨w1.heap.size, r, none⟩) HB1.out.lt _)
      have hcb : cn (at_ s) ((docks W H (at_ s)).take k) r ≤ 256 := by
        have := List.length_filter_le (fun i => at_ s i == 48 + r) ((docks W H (at_ s)).take k)
        rw [List.length_take] at this
        unfold cn
        omega
      have HT2 := Lib.hid (HT.out.up (g := cn (at_ s) ((docks W H (at_ s)).take (k + 1))) r hr (by rw [HTK.out, cn_snoc, if_pos HZR.out]) (fun q hq => by rw [HTK.out, cn_snoc, if_neg (by rw [HZR.out]; omega)]) _ rfl)
      have HO2 := Lib.hid (HO.out.put w1.heap.size r (.int .i64 ((cn (at_ s) ((docks W H (at_ s)).take k) r : Int) + 1)) HG.out)
      have HBX := Lib.hid (HB.out.later HW2.out)
      generalize cn (at_ s) ((docks W H (at_ s)).take k) r = x at *
      have e0 := HBX.out.c0
      have e1 := HBX.out.c1
      have e2 := HBX.out.c2
      go_wp2_with fail
      refine (besideLane_any W H d s _ HS.out HDL.out).mono ?_
      rintro e w2 ⟨b, rfl, hbl, hb2⟩
      have HB2 := Lib.hid (HBX.out.after hb2)
      have HT3 := Lib.hid (HT2.out.later hb2)
      have HO3 := Lib.hid (HO2.out.later hb2)
      have HBL := Lib.hid hbl
      clear hbl hb2 e0 e1 e2 ct ft hc kk2 HW2 HT2 HO2 HBX
      cases b
      · go_wp2_with fail
        go_ret
        refine ⟨false, rfl, iff_of_false (by decide) (fun h => ?_), HB2.out.below⟩
        have := HBL.out.2 (h.near d HME.out)
        cases this
      · go_wp2_with fail
        go_roundw
        case rel =>
          refine ⟨k + 1, by omega, by go_num, HB2.out, HT3.out, HO3.out, fun j hj => ?_⟩
          rcases Nat.lt_succ_iff_lt_or_eq.1 hj with h | h
          · exact HJ.out j h
          · subst h; rw [← HDQ.out]; exact HBL.out.1 (by trivial)
        case measure => simp [intOf]; omega
    · obtain rfl : k = n := by omega
      have HT2 : Hid (Tally w1.heap.size (cn (at_ s) (docks W H (at_ s))) wr) := Lib.hid (by have := HT.out; rw [List.take_of_length_le (by rw [← HN.out]; exact Nat.le_refl _)] at this; exact this)
      have HNE : Hid (∀ d, d ∈ docks W H (at_ s) → ByLane W H (at_ s) d) := Lib.hid (fun d hd => by
        obtain ⟨j, hj, e⟩ := mem_getD hd
        rw [← e]
        exact HJ.out j (by rw [HN.out]; exact hj))
      clear HT HJ hk
      by_cases h8 : k ≤ 8
      · have hm : min (docks W H (at_ s)).length 8 = k := by rw [← HN.out]; omega
        have HM := Lib.hid hm
        clear hm
        go_wp2_with fail
        go_loop [33] (fun iv => ∃ r : Nat, r ≤ k ∧ iv = .int .i64 (r : Int) ∧ ∀ q, q < r → cn (at_ s) (docks W H (at_ s)) q = 1) (fun iv => 8 - (intOf iv).toNat)
        case atStart => exact ⟨0, Nat.zero_le _, rfl, fun q hq => by omega⟩
        case round =>
          obtain ⟨r, hr, rfl, hq⟩ := hrel
          have HQ := Lib.hid hq
          clear hq
          by_cases hlt2 : r < k
          · have ct := (HT2.out.2 r (by omega)).1
            have HNO := Lib.hid (docks_not (W := W) (H := H) (z := at_ s) (r := r) (by rw [HM.out]; exact hlt2))
            by_cases h1 : cn (at_ s) (docks W H (at_ s)) r = 1
            · rw [h1] at ct
              have H1 := Lib.hid h1
              clear h1
              go_wp2_with fail
              go_round
              case rel => exact ⟨r + 1, by omega, by go_num, fun q hq => by rcases Nat.lt_succ_iff_lt_or_eq.1 hq with h | h; exact HQ.out q h; rw [h]; exact H1.out⟩
              case measure => simp [intOf]; omega
            · have HN1 := Lib.hid (HNO.out h1)
              generalize cn (at_ s) (docks W H (at_ s)) r = x at *
              have hb : ((x : Int) != 1) = true := by rw [bne_iff_ne]; omega
              clear h1
              go_wp2_with fail
              go_ret
              exact ⟨false, rfl, iff_of_false (by decide) HN1.out, HB.out.below⟩
          · obtain rfl : r = k := by omega
            have HA := Lib.hid (docks_all (W := W) (H := H) (z := at_ s) (by rw [HM.out]; exact HQ.out) HNE.out)
            go_wp2_with fail
            go_ret
            exact ⟨_, rfl, by rw [HA.out, ← HN.out]; simp; omega, HB.out.below⟩
      · have hm : min (docks W H (at_ s)).length 8 = 8 := by rw [← HN.out]; omega
        have HM := Lib.hid hm
        clear hm
        go_wp2_with fail
        go_loop [33] (fun iv => ∃ r : Nat, r ≤ 8 ∧ iv = .int .i64 (r : Int) ∧ ∀ q, q < r → cn (at_ s) (docks W H (at_ s)) q = 1) (fun iv => 8 - (intOf iv).toNat)
        case atStart => exact ⟨0, Nat.zero_le _, rfl, fun q hq => by omega⟩
        case round =>
          obtain ⟨r, hr, rfl, hq⟩ := hrel
          have HQ := Lib.hid hq
          clear hq
          by_cases hlt2 : r < 8
          · have ct := (HT2.out.2 r (by omega)).1
            have HNO := Lib.hid (docks_not (W := W) (H := H) (z := at_ s) (r := r) (by rw [HM.out]; exact hlt2))
            by_cases h1 : cn (at_ s) (docks W H (at_ s)) r = 1
            · rw [h1] at ct
              have H1 := Lib.hid h1
              clear h1
              go_wp2_with fail
              go_round
              case rel => exact ⟨r + 1, by omega, by go_num, fun q hq => by rcases Nat.lt_succ_iff_lt_or_eq.1 hq with h | h; exact HQ.out q h; rw [h]; exact H1.out⟩
              case measure => simp [intOf]; omega
            · have HN1 := Lib.hid (HNO.out h1)
              generalize cn (at_ s) (docks W H (at_ s)) r = x at *
              have hb : ((x : Int) != 1) = true := by rw [bne_iff_ne]; omega
              clear h1
              go_wp2_with fail
              go_ret
              exact ⟨false, rfl, iff_of_false (by decide) HN1.out, HB.out.below⟩
          · obtain rfl : r = 8 := by omega
            have HA := Lib.hid (docks_all (W := W) (H := H) (z := at_ s) (by rw [HM.out]; exact HQ.out) HNE.out)
            go_wp2_with fail
            go_ret
            exact ⟨_, rfl, by rw [HA.out, ← HN.out]; simp; omega, HB.out.below⟩

end Go.Proofs.YtakgkocdkondhaaGreatDoor
end

section
namespace Go.Proofs.YtakgkocdkondhaaGreatDoor
open Go.RowKit Fl Go.Maps

def ky (x : Nat) : Lit := .int .i64 (x : Int)
theorem ky_inj {x y : Nat} (h : ky x = ky y) : x = y := by
  simp only [ky, Lit.int.injEq, true_and] at h
  omega
theorem ky_wf (x : Nat) (h : x ≤ 1048576) : (Lit.int .i64 (x : Int)).wf = true := WalkArith.wf_i64 (by omega)
theorem ky_key (x : Nat) : WideAt.IsKeyLit (ky x) := trivial

/-- Block b is a map that holds just the keys l, each with the element u. -/
def SetOf (P : Program) (k : TypeId) (R : Value → Option (DataW Unit × List MemPlace)) (u : DataW Unit) (w : World) (b n : Nat) (l : List Nat) : Prop :=
  ∃ D : DataW Unit, w.ownsMap P k R b n D ∧ (∀ x : Nat, has D (ky x) = decide (x ∈ l)) ∧ (∀ x, x ∈ l → ∀ z, D.atKey (ky x) z = u) ∧ size D = l.length

section
variable {P : Program} {k : TypeId} {R : Value → Option (DataW Unit × List MemPlace)} {u : DataW Unit} {w : World} {b n : Nat} {l : List Nat}
theorem SetOf.made (P : Program) (k : TypeId) (R : Value → Option (DataW Unit × List MemPlace)) (u : DataW Unit) (w : World) : SetOf P k R u (w.alloc (.map #[] 0)) w.heap.size 0 [] :=
  ⟨.map [], World.ownsMap_made w P k R, fun x => by simp [has], fun x h z => absurd h (by simp), rfl⟩
theorem SetOf.kept {w' : World} {row : Option Nat} (h : SetOf P k R u w b n l) (hg : w.grownBy w' row) (hne : some b ≠ row) : SetOf P k R u w' b n l := by
  obtain ⟨D, h1, h2⟩ := h
  exact ⟨D, h1.kept hg hne, h2⟩
theorem SetOf.mono (h : SetOf P k R u w b n l) {n' : Nat} (hn : n ≤ n') : SetOf P k R u w b n' l := by
  obtain ⟨D, h1, h2⟩ := h
  exact ⟨D, h1.mono hn, h2⟩
theorem SetOf.later {w' : World} (h : SetOf P k R u w b n l) (hb : Below w.heap.size w w') : SetOf P k R u w' b n l :=
  h.kept (row := none) ⟨hb.os, hb.tape, hb.output, hb.size, fun i hi _ => hb.block i hi⟩ (by simp)
end

section
variable {P : Program} (w : World) {ops : Array Oper} {rest : List Oper} {o : Oper} {a : Act} {Q : Exit → Act → World → Prop} {k : TypeId} {R : Value → Option (DataW Unit × List MemPlace)} {u : DataW Unit} {b n : Nat} {l : List Nat}

/-- A number that is not in it is put. -/
theorem set_put (hg : o.guard = none) (m x v : Operand) (t : TypeId) (hop : o.op = Op.mapUpdate t m x v) (e : TypeId) (hk : P.underlying k = some (.int .i64)) (ht : P.underlying t = some (.map k e))
    (hm : a.eval m = .map (some b)) (h : SetOf P k R u w b n l) (hn : n ≤ 1048576) (X : Int) (y : Nat) (hX : X = y) (hy : y ≤ 1048576) (hx : a.eval x = .int .i64 X) (val : Value) (hv : a.eval v = val) (hu : R val = some (u, [])) (hnew : y ∉ l)
    (hK : ∀ w', SetOf P k R u w' b (n + 1) (l ++ [y]) → w.grownBy w' (some b) → wpList P ops Q rest (a.put o.dst undef) w') : wpList P ops Q (o :: rest) a w := by
  subst hX
  obtain ⟨D, h1, h2, h3, h4⟩ := h
  have hM := h1.isMap
  have hT := h1.tidy (int_keyed hk)
  have hD : has D (ky y) = false := by rw [h2]; exact decide_eq_false hnew
  refine wpList_mapUpdate_own w hg m x v t hop k e (int_keyed hk) ht R b n D hm h1 (by unfold maxLen; omega) _ val (ky y) hx hv (keyOf_int_mk hk (ky_wf y hy)) u [] hu ?_
  intro w' hw' hgr
  refine hK w' ⟨D.put (ky y) u, hw', fun x => ?_, fun x hx z => ?_, ?_⟩ hgr
  · by_cases e : x = y
    · subst e
      rw [has_put_same hM (ky_key x) u]
      simp
    · rw [has_put_other (fun h => e (ky_inj h)) u, h2]
      simp [e]
  · by_cases e : x = y
    · subst e
      exact atKey_put_same hM (ky_key x) u z
    · rw [atKey_put_other (fun h => e (ky_inj h)) u z]
      exact h3 x (by simpa [e] using hx) z
  · rw [size_put hT u, hD, List.length_append, h4]
    rfl

/-- A number that is in it is struck. -/
theorem set_del (hg : o.guard = none) (m x : Operand) (t : TypeId) (hop : o.op = Op.call { callee := Callee.builtin Builtin.delete, args := #[m, x], argTypes := #[t, k] }) (e : TypeId) (hk : P.underlying k = some (.int .i64)) (ht : P.underlying t = some (.map k e))
    (hm : a.eval m = .map (some b)) (h : SetOf P k R u w b n l) (hl : l.Nodup) (X : Int) (y : Nat) (hX : X = y) (hy : y ≤ 1048576) (hx : a.eval x = .int .i64 X) (hin : y ∈ l)
    (hK : ∀ w', SetOf P k R u w' b n (l.erase y) → w.grownBy w' (some b) → wpList P ops Q rest (a.put o.dst (.tuple #[])) w') : wpList P ops Q (o :: rest) a w := by
  subst hX
  obtain ⟨D, h1, h2, h3, h4⟩ := h
  have hT := h1.tidy (int_keyed hk)
  have hD : has D (ky y) = true := by rw [h2]; exact decide_eq_true hin
  refine wpList_delete_own w hg m x t k hop e (int_keyed hk) ht R b n D hm h1 _ (ky y) hx (keyOf_int_mk hk (ky_wf y hy)) ?_
  intro w' hw' hgr
  refine hK w' ⟨D.del (ky y), hw', fun x => ?_, fun x hx z => ?_, ?_⟩ hgr.grown
  · by_cases e : x = y
    · subst e
      rw [has_del_same]
      exact (decide_eq_false (hl.not_mem_erase)).symm
    · rw [has_del_other (fun h => e (ky_inj h)), h2, decide_eq_decide]
      exact (List.mem_erase_of_ne e).symm
  · have hne : x ≠ y := fun e => by subst e; exact hl.not_mem_erase hx
    rw [atKey_del_other (fun h => hne (ky_inj h)) z]
    exact h3 x (List.mem_of_mem_erase hx) z
  · have := size_del hT (k := ky y)
    rw [hD, if_pos rfl] at this
    rw [List.length_erase_of_mem hin]
    omega

/-- Is a number in it? (a set of nothings) -/
theorem set_in (hg : o.guard = none) (m x : Operand) (t : TypeId) (hop : o.op = Op.lookup t m x true) (e : TypeId) (hk : P.underlying k = some (.int .i64)) (ht : P.underlying t = some (.map k e)) (hz : (zeroValue e).run P w = .ok (.agg #[]) w)
    (hm : a.eval m = .map (some b)) (h : SetOf P k unitElem u w b n l) (X : Int) (y : Nat) (hX : X = y) (hy : y ≤ 1048576) (hx : a.eval x = .int .i64 X)
    (hK : wpList P ops Q rest (a.put o.dst (.tuple #[.agg #[], .bool (decide (y ∈ l))])) w) : wpList P ops Q (o :: rest) a w := by
  subst hX
  obtain ⟨D, h1, h2, h3, h4⟩ := h
  refine wpList_lookup_own_unit w hg m x t hop k e (int_keyed hk) ht hz b n D hm h1 _ (ky y) hx (keyOf_int_mk hk (ky_wf y hy)) ?_
  rw [h2]
  exact hK

/-- How many there are. -/
theorem set_len (hg : o.guard = none) (m : Operand) (t : TypeId) (hop : o.op = Op.call { callee := Callee.builtin Builtin.len, args := #[m], argTypes := #[t] }) (e : TypeId) (ht : P.underlying t = some (.map k e))
    (hm : a.eval m = .map (some b)) (h : SetOf P k R u w b n l) (hK : wpList P ops Q rest (a.put o.dst (.int .i64 (l.length : Int))) w) : wpList P ops Q (o :: rest) a w := by
  obtain ⟨D, h1, h2, h3, h4⟩ := h
  refine wpList_len_own w hg m t hop k e ht R b n D hm h1 ?_
  rw [h4]
  exact hK
end

end Go.Proofs.YtakgkocdkondhaaGreatDoor
end

section
namespace Go.Proofs.YtakgkocdkondhaaGreatDoor
open Go.RowKit Fl Go.Maps

/-- Where the cut l .. of room up to m lies. -/
def cutA (A : Option Addr) (l m : Nat) : Option Addr := if m = l then A else A.map (·.add l)
theorem slice_l (A : Option Addr) (n cap l : Nat) (w : World) (h : l ≤ n) : (Instr.slice 46 (.slice A n cap) (some (.int .i64 (l : Int))) none none).run Tryz.prog w = .ok (.slice (cutA A l cap) (n - l) (cap - l)) w := by
  rw [run_slice_l w 46 A n cap Tryz.underlying46 .i64 (l : Int) (by omega) (by omega)]
  simp [go_sem, cutA, Tryz.sizeOf3]
theorem run_makeMap_hint (n : Int) (w : World) : (Instr.makeMap 166 (some (.int .i64 n))).run Tryz.prog w = .ok (.map (some w.heap.size)) (w.alloc (.map #[] 0)) := by
  simp [Instr.makeMap, run_underlying Tryz.underlying166, Result.andThen, asInt, asIntOf]
theorem zeroUnit (w : World) : (zeroValue 167).run Tryz.prog w = .ok (.agg #[]) w := by kernel_rfl
theorem own_one (w : World) (base : Nat) (x : Nat) (X : Int) (hX : X = x) (hb : base ≤ w.heap.size) : Own (w.alloc (.cells #[.int .i64 X] 3)) base (.slice (some ⟨w.heap.size, 0, none⟩) 1 1) [x] := by
  subst hX
  exact ⟨rfl, .inr ⟨w.heap.size, 1, _, rfl, hb, heap_alloc_new w _, Nat.le_refl _, by unfold maxLen; omega, rfl, rfl⟩⟩
/-- A list and a map lie in other blocks. -/
theorem own_map_ne {w : World} {base : Nat} {v : Value} {xs : List Nat} {P : Program} {k : TypeId} {R : Value → Option (DataW Unit × List MemPlace)} {u : DataW Unit} {b n : Nat} {l : List Nat} (h : Own w base v xs) (hm : SetOf P k R u w b n l) : some b ≠ v.ownBlock := by
  intro e
  obtain ⟨D, ⟨es, clock, hb, _⟩, _⟩ := hm
  rcases h.2 with ⟨rfl, _⟩ | ⟨g, cap, cur, rfl, _, hg, _⟩
  · simp [Value.ownBlock] at e
  · simp [Value.ownBlock] at e
    subst e
    rw [hb] at hg
    cases hg

/-- What lies there while what is reached grows. -/
structure Sp (w : World) (W H : Int) (s : ByteArray) (n : Nat) (R M : List Nat) (v : Value) (wr : World) : Prop where
  box : Box w W H s wr
  own : ∃ A m cap, v = .slice A m cap ∧ m = R.length ∧ Own wr (w.heap.size + 1) v R
  set : SetOf Tryz.prog 3 unitElem (.agg []) wr (w.heap.size + 1) n M

/-- Behind a blank and a strike: the box, the lists. -/
theorem after_del {w wq w5 : World} {W H : Int} {s : ByteArray} {o : Obj} {v v3 : Value} {B3 n : Nat} {R M l : List Nat} (hB : Box w W H s wq) (hO : Own wq (w.heap.size + 1) v R) (hM : SetOf Tryz.prog 3 unitElem (.agg []) wq (w.heap.size + 1) n M) (hS : Own wq B3 v3 l)
    (hg : (wq.alloc o).grownBy w5 (some (w.heap.size + 1))) : Box w W H s w5 ∧ Own w5 (w.heap.size + 1) v R ∧ Own w5 B3 v3 l := by
  have hal := (Below.refl wq.heap.size wq).alloc (Nat.le_refl _) o
  refine ⟨(hB.after hal).later (Below.grown (Below.refl _ _) hg (Nat.le_trans hB.lt hal.size) (fun j hj => by cases hj; exact Nat.le_refl _)), ?_, ?_⟩
  · exact World.ownsRow.kept (hO.later hal) hg (Or.inr (own_map_ne (hO.later hal) (hM.later hal)).symm)
  · exact World.ownsRow.kept (hS.later hal) hg (Or.inr (own_map_ne (hS.later hal) (hM.later hal)).symm)

set_option maxHeartbeats 4000000 in
theorem joined_any (W H : Nat) (s : ByteArray) (A : Option Addr) (n cap B : Nat) (a : Nat) (r : List Nat) (w : World) (hS : Sides W H s) (hn : n = (a :: r).length) (ho : Own w B (.slice A n cap) (a :: r)) (hp : pick isL (at_ s) (W * H) = a :: r) :
    Calls Tryz.prog 108 #[.agg #[.int .i64 (W : Int), .int .i64 (H : Int), .string s], .slice A n cap] w (Told (Joined W H (at_ s)) w) := by
  have h256 := hS.le
  have hlen : n ≤ 256 := by rw [hn, ← hp]; have := pick_le isL (at_ s) (W * H); have := hS.sz; omega
  have hn1 : 1 ≤ n := by rw [hn]; simp
  have hcap : n ≤ cap ∧ cap ≤ maxLen := ho.cap hn
  have hmx := hcap.2
  unfold maxLen at hmx
  have HS := Lib.hid hS
  have HP := Lib.hid hp
  have HND : Hid (a :: r).Nodup := Lib.hid (by rw [← hp]; exact pick_nodup _ _ _)
  have HLT : Hid (∀ x, x ∈ a :: r → x < W * H) := Lib.hid (fun x hx => (mem_pick.1 (by rw [hp]; exact hx)).1)
  have HLA : Hid (∀ x, x ∈ a :: r → isL (at_ s x) = true) := Lib.hid (fun x hx => (mem_pick.1 (by rw [hp]; exact hx)).2)
  have h256' : Hid (W * H ≤ 256) := Lib.hid (le_mul16 hS.w2 hS.h2)
  have HN := Lib.hid hn
  obtain ⟨g, rfl, hg, _⟩ := ho.at 0 (by simp)
  have hcell : Hid (∀ j, j < n → w.cell? ⟨g, j, none⟩ = some (.int .i64 (((a :: r).getD j 0 : Nat) : Int))) := Lib.hid (fun j hj => by
    obtain ⟨g', e, _, hc⟩ := ho.at j (by rw [← hn]; exact hj)
    simp only [Option.some.injEq, Addr.mk.injEq, and_true] at e
    rw [e]; exact hc)
  have c00 : w.cell? ⟨g, 0, none⟩ = some (.int .i64 (a : Int)) := hcell.out 0 (by omega)
  obtain ⟨A2, hA2⟩ : ∃ A2, A2 = cutA (some ⟨g, 0, none⟩) 1 cap := ⟨_, rfl⟩
  have hsl : ∀ wx : World, (Instr.slice 46 (.slice (some ⟨g, 0, none⟩) n cap) (some (.int .i64 1)) none none).run Tryz.prog wx = .ok (.slice A2 (n - 1) (cap - 1)) wx := fun wx => by
    have := slice_l (some ⟨g, 0, none⟩) n cap 1 wx hn1
    rw [← hA2] at this
    exact this
  have hcut : Hid (∀ j, j < n - 1 → A2 = some ⟨g, 1, none⟩) := Lib.hid (fun j hj => by rw [hA2]; unfold cutA; rw [if_neg (by omega)]; simp [Addr.add])
  have hmm := run_makeMap_hint
  clear hS hp hn ho hcap hA2
  go_enter Tryz.func108, Tryz.ntmps108
  go_wp2
  go_loopw [20] (fun iv wr => ∃ k : Nat, k ≤ n - 1 ∧ iv = .int .i64 (k : Int) ∧ Box w W H s wr ∧ SetOf Tryz.prog 3 unitElem (.agg []) wr (w.heap.size + 1) k (r.take k)) (fun iv _ => n - (intOf iv).toNat)
  case atStart => 
    refine ⟨0, Nat.zero_le _, rfl, (Box.start w W H s 25).later ((Below.refl _ _).alloc (by simp) _), ?_⟩
    have := SetOf.made Tryz.prog 3 unitElem (.agg []) (w.alloc (.cells #[.int .i64 (W : Int), .int .i64 (H : Int), .string s] 25))
    simpa using this
  case round =>
    obtain ⟨k, hk, rfl, hB, hM⟩ := hrel
    have HB := Lib.hid hB
    have HM := Lib.hid hM
    clear hB hM
    by_cases hlt : k < n - 1
    · have hA := hcut.out k hlt
      subst hA
      have hkr : k < r.length := by have := HN.out; simp at this; omega
      have hc1 : wr.cell? ⟨g, 1 + k, none⟩ = some (.int .i64 ((r.getD k 0 : Nat) : Int)) := by
        rw [HB.out.below.cell (p := ⟨g, 1 + k, none⟩) hg, hcell.out (1 + k) (by omega), Nat.add_comm 1 k]
        rfl
      have hmr : r.getD k 0 ∈ r := by rw [List.getD, List.getElem?_eq_getElem hkr]; exact List.getElem_mem hkr
      have hyb : r.getD k 0 ≤ 1048576 := by have := HLT.out _ (List.mem_cons_of_mem _ hmr); have := h256'.out; omega
      have HNI : Hid (r.getD k 0 ∉ r.take k) := Lib.hid (not_mem_take (List.nodup_cons.1 HND.out).2 hkr)
      have HTK : Hid (r.take (k + 1) = r.take k ++ [r.getD k 0]) := Lib.hid (by rw [List.take_succ_eq_append_getElem hkr, List.getD, List.getElem?_eq_getElem hkr]; rfl)
      clear hmr
      generalize r.getD k 0 = y at *
      go_wp2_with (at_mapUpdate; refine set_put _ rfl _ _ _ 166 rfl 167 Tryz.underlying3 Tryz.underlying166 rfl HM.out (by omega) _ y rfl hyb rfl _ rfl unitElem_mk HNI.out ?_; intro w1 hm1 hg1)
      go_roundw
      case rel => exact ⟨k + 1, by omega, by go_num, HB.out.later (Below.grown (Below.refl _ _) hg1 HB.out.lt (fun j hj => by cases hj; exact Nat.le_refl _)), by rw [HTK.out]; exact hm1⟩
      case measure => simp [intOf]; omega
    · obtain rfl : k = n - 1 := by omega
      have HT : Hid (r.take (n - 1) = r) := Lib.hid (List.take_of_length_le (by have := HN.out; simp at this; omega))
      have c01 : wr.cell? ⟨g, 0, none⟩ = some (.int .i64 (a : Int)) := (HB.out.below.cell (p := ⟨g, 0, none⟩) hg).trans c00
      have hsz := HB.out.lt
      have HW0 := Lib.hid (Wv.start W H (at_ s) a r HND.out)
      have HM0 : Hid (SetOf Tryz.prog 3 unitElem (.agg []) wr (w.heap.size + 1) n r) := Lib.hid (by have := HM.out.mono (show n - 1 ≤ n by omega); rw [HT.out] at this; exact this)
      clear HM
      go_wp2
      go_loopw [8, 9] (fun v iv wq => ∃ (i : Nat) (R M : List Nat), i ≤ R.length ∧ iv = .int .i64 (i : Int) ∧ Wv W H (at_ s) a r i R M ∧ Sp w W H s n R M v wq) (fun _ iv _ => n + 1 - (intOf iv).toNat)
      case atStart =>
        exact ⟨0, [a], r, by simp, rfl, HW0.out, (HB.out.after ((Below.refl _ _).alloc (Nat.le_refl _) _)), ⟨_, _, _, rfl, rfl, own_one wr (w.heap.size + 1) a _ rfl (by omega)⟩, HM0.out.later ((Below.refl _ _).alloc (Nat.le_refl _) _)⟩
      case round =>
        rename World => wo
        obtain ⟨i, R, M, hi, rfl, hW, hB2, ⟨A, m, c, rfl, hm, hO⟩, hM2⟩ := hrel
        have hRl := hW.len
        have hRn : R.length ≤ n := by rw [HN.out]; omega
        have HW := Lib.hid hW
        have HB2 := Lib.hid hB2
        have HO := Lib.hid hO
        have HM2 := Lib.hid hM2
        have HRM := Lib.hid hm
        clear hW hB2 hO hM2 HW0 HM0 HB hRl
        by_cases hlt2 : i < R.length
        · have hi2 : i < m := by rw [HRM.out]; exact hlt2
          obtain ⟨gr, rfl, hgr, hcr⟩ := HO.out.at i hlt2
          have hmem := getD_mem hlt2
          have HIN := Lib.hid (HLT.out _ (HW.out.sub _ hmem))
          have hcb : R.getD i 0 ≤ 256 := by have := HIN.out; have := h256'.out; omega
          have hm2 : m ≤ 256 := by rw [HRM.out]; omega
          clear hm hmem
          obtain ⟨d, hd⟩ : ∃ d, d = R.getD i 0 := ⟨_, rfl⟩
          rw [← hd] at HIN hcr hcb
          have HD := Lib.hid hd
          clear hd
          have k0 := HB2.out.c0
          have k1 := HB2.out.c1
          have k2 := HB2.out.c2
          have hsz := HB2.out.lt
          have HBE := Lib.hid (fun wx => beside_any W H d s wx HS.out.w1 HS.out.w2 HS.out.h1 HS.out.h2 HIN.out)
          go_upto_region 11 with (fail)
          go_cut [43, 44, 45] (fun v lv iv wc => ∃ A2 n2 c2, v = .slice A2 n2 c2 ∧ lv = .int .i64 (n2 : Int) ∧ iv = .int .i64 0 ∧ n2 = (side W H d).length ∧ Own wc wo.heap.size (.slice A2 n2 c2) (side W H d) ∧ Below wo.heap.size wo wc)
          case first =>
            go_region_held3 (fun w' => w'.cell? ⟨w.heap.size, 0, none⟩ = some (.int .i64 (W : Int)) ∧ w'.cell? ⟨w.heap.size, 1, none⟩ = some (.int .i64 (H : Int)) ∧ w'.cell? ⟨w.heap.size, 2, none⟩ = some (.string s) ∧ w'.cell? ⟨gr, i, none⟩ = some (.int .i64 (d : Int))) (go_keep)
              ((go_at_call 130; refine (HBE.out _).mono ?_; rintro e w2 ⟨A2, n2, c2, rfl, hn2, ho2, hb2⟩; have HN2 := Lib.hid hn2; clear hn2; have e0 : w2.cell? ⟨w.heap.size, 0, none⟩ = some (.int .i64 (W : Int)) := (hb2.cell (p := ⟨w.heap.size, 0, none⟩) hsz).trans k0; have e1 : w2.cell? ⟨w.heap.size, 1, none⟩ = some (.int .i64 (H : Int)) := (hb2.cell (p := ⟨w.heap.size, 1, none⟩) hsz).trans k1; have e2 : w2.cell? ⟨w.heap.size, 2, none⟩ = some (.string s) := (hb2.cell (p := ⟨w.heap.size, 2, none⟩) hsz).trans k2; have e3 : w2.cell? ⟨gr, i, none⟩ = some (.int .i64 (d : Int)) := (hb2.cell (p := ⟨gr, i, none⟩) hgr).trans hcr))
            all_goals
              go_wp2_with fail
              go_meet
              exact ⟨_, _, _, rfl, rfl, rfl, HN2.out, ho2, (Below.refl wo.heap.size wo).drew.trans hb2⟩
          case rest =>
            obtain ⟨A3, n3, c3, rfl, rfl, rfl, hn3, ho3, hb3⟩ := hcut
            have HBc := Lib.hid (HB2.out.after hb3)
            have HOc := Lib.hid (HO.out.later hb3)
            have HMc := Lib.hid (HM2.out.later hb3)
            have HSD := Lib.hid ho3
            have HN3 := Lib.hid hn3
            have hn34 : n3 ≤ 4 := by rw [hn3]; exact side_len W H d
            have hszc := Nat.le_trans hsz hb3.size
            have HAP : Hid ((Value.slice (some ⟨gr, 0, none⟩) m c).ownBlock = none ∨ (Value.slice (some ⟨gr, 0, none⟩) m c).ownBlock ≠ (Value.slice A3 n3 c3).ownBlock) := Lib.hid (Or.inr (fun e => by
              have h1 := own_ge ho3 gr (by rw [← e]; rfl)
              exact absurd hgr (Nat.not_lt.2 h1)))
            clear k0 k1 k2 hcr hn3 ho3 hb3 HB2 HO HM2 HBE
            go_wp2
            go_loopw [8, 45] (fun v qv wq => ∃ (q : Nat) (R' M' : List Nat), q ≤ n3 ∧ qv = .int .i64 (q : Int) ∧ Wv W H (at_ s) a r i R' M' ∧ Sp w W H s n R' M' v wq ∧ Own wq wo.heap.size (.slice A3 n3 c3) (side W H d) ∧ (v.ownBlock = none ∨ v.ownBlock ≠ (Value.slice A3 n3 c3).ownBlock) ∧ i < R'.length ∧ R'.getD i 0 = d ∧ ∀ j, j < q → (side W H d).getD j 0 ∉ M') (fun _ qv _ => n3 - (intOf qv).toNat)
            case atStart => exact ⟨0, R, M, Nat.zero_le _, rfl, HW.out, ⟨HBc.out, ⟨_, _, _, rfl, HRM.out, HOc.out⟩, HMc.out⟩, HSD.out, HAP.out, hlt2, HD.out.symm, fun j hj => by omega⟩
            case round =>
              rename World => wq
              obtain ⟨q, R', M', hq, rfl, hW', ⟨hBx, ⟨A', m', c', rfl, hm', hO'⟩, hM'⟩, hSd, hAp, hiR, hRd, hj⟩ := hrel
              have hRl := hW'.len
              have hRn' : R'.length ≤ n := by rw [HN.out]; omega
              have hmn : m' ≤ 256 := by rw [hm']; omega
              have kk := hBx.lt
              have HW' := Lib.hid hW'
              have HBx := Lib.hid hBx
              have HO' := Lib.hid hO'
              have HM' := Lib.hid hM'
              have HSd := Lib.hid hSd
              have HAp := Lib.hid hAp
              have HRd := Lib.hid hRd
              have HJ := Lib.hid hj
              have Hm' := Lib.hid hm'
              clear hW' hBx hO' hM' hSd hAp hRd hj hm' hRl
              by_cases hlt3 : q < n3
              · have hq3 : q < (side W H d).length := by rw [← HN3.out]; exact hlt3
                obtain ⟨g3, rfl, hg3, hc3⟩ := HSd.out.at q hq3
                have HYS := Lib.hid (getD_mem hq3)
                have HYL := Lib.hid (side_lt HS.out.w1 HIN.out HYS.out)
                obtain ⟨y, hy⟩ : ∃ y, y = (side W H d).getD q 0 := ⟨_, rfl⟩
                rw [← hy] at hc3 HYS HYL
                have hyb : y ≤ 1048576 := by have := HYL.out; have := h256'.out; omega
                have HY := Lib.hid hy
                clear hy hq3
                by_cases hin : y ∈ M'
                · have hdt : decide (y ∈ M') = true := decide_eq_true hin
                  have HIn := Lib.hid hin
                  clear hin
                  have HMa := Lib.hid (HM'.out.later ((Below.refl wq.heap.size wq).alloc (Nat.le_refl _) (.cells #[] 167)))
                  go_wp2_with (first
                    | (at_lookup; refine set_in _ rfl _ _ 166 rfl 167 Tryz.underlying3 Tryz.underlying166 (zeroUnit _) rfl HM'.out _ y rfl hyb rfl ?_)
                    | (at_delete; refine set_del _ rfl _ _ 166 rfl 167 Tryz.underlying3 Tryz.underlying166 rfl HMa.out HW'.out.nd _ y rfl hyb rfl HIn.out ?_; intro w5 hm5 hg5; have HK := Lib.hid (after_del HBx.out HO'.out HM'.out HSd.out hg5); have hz5 := HK.out.1.lt; have HM5 := Lib.hid hm5; clear hm5 hg5)
                    | (at_builtin; refine app_int2 rfl _ _ rfl (w.heap.size + 1) (.slice A' m' c') R' rfl y _ rfl _ rfl HK.out.2.1 rfl (by omega) hz5 ?_; intro A6 c6 n6 w6 hn6 ho6 hb6 hg6 hat6; have HN6 := Lib.hid hn6; clear hn6))
                  go_roundw
                  case rel =>
                    have hne := own_map_ne HK.out.2.1 HM5.out
                    refine ⟨q + 1, R' ++ [y], M'.erase y, by omega, by go_num, HW'.out.step HLA.out hiR y (by rw [HRd.out]; exact HYS.out) HIn.out, ⟨HK.out.1.later hb6, ⟨_, _, _, rfl, HN6.out, ho6⟩, HM5.out.kept hg6 hne⟩, ?_, ?_, ?_, ?_, ?_⟩
                    · exact World.ownsRow.kept HK.out.2.2 hg6 (by rcases HAp.out with h | h; exact Or.inr (by rw [h]; intro e; cases e); exact Or.inr (fun e => h e.symm))
                    · rcases hat6 with h | h
                      · rw [h]; exact HAp.out
                      · rw [h]
                        refine Or.inr (fun e => ?_)
                        have := HK.out.2.2.lt (w5.heap.size + 1) e.symm
                        omega
                    · rw [List.length_append]; omega
                    · rw [getD_app hiR]; exact HRd.out
                    · intro j hj hm
                      rcases Nat.lt_succ_iff_lt_or_eq.1 hj with h | h
                      · exact HJ.out j h (List.mem_of_mem_erase hm)
                      · subst h
                        rw [← HY.out] at hm
                        exact HW'.out.nd.not_mem_erase hm
                  case measure => simp [intOf]; omega
                · have hdt : decide (y ∈ M') = false := decide_eq_false hin
                  have HIn := Lib.hid hin
                  clear hin
                  go_wp2_with (at_lookup; refine set_in _ rfl _ _ 166 rfl 167 Tryz.underlying3 Tryz.underlying166 (zeroUnit _) rfl HM'.out _ y rfl hyb rfl ?_)
                  go_roundw
                  case rel =>
                    have hal := (Below.refl wq.heap.size wq).alloc (Nat.le_refl _) (.cells #[] 167)
                    refine ⟨q + 1, R', M', by omega, by go_num, HW'.out, ⟨HBx.out.after hal, ⟨_, _, _, rfl, Hm'.out, HO'.out.later hal⟩, HM'.out.later hal⟩, HSd.out.later hal, HAp.out, hiR, HRd.out, ?_⟩
                    intro j hj hm
                    rcases Nat.lt_succ_iff_lt_or_eq.1 hj with h | h
                    · exact HJ.out j h hm
                    · subst h
                      rw [← HY.out] at hm
                      exact HIn.out hm
                  case measure => simp [intOf]; omega
              · obtain rfl : q = n3 := by omega
                go_wp2
                go_roundw
                case rel =>
                  refine ⟨i + 1, R', M', by omega, by go_num, HW'.out.next (fun y hy hm => ?_), HBx.out, ⟨_, _, _, rfl, Hm'.out, HO'.out⟩, HM'.out⟩
                  rw [HRd.out] at hy
                  obtain ⟨j, hj, e⟩ := mem_getD hy
                  exact HJ.out j (by rw [HN3.out]; exact hj) (by rw [e]; exact hm)
                case measure => simp [intOf]; omega
        · have hi2 : ¬ i < m := by rw [HRM.out]; exact hlt2
          have HF := Lib.hid (HW.out.finish (by omega) HS.out.w1 HP.out)
          clear hm
          go_wp2_with (at_len; refine set_len _ rfl _ 166 rfl 167 Tryz.underlying166 rfl HM2.out ?_)
          go_ret
          exact ⟨_, rfl, by rw [← HF.out]; simp, HB2.out.below⟩

end Go.Proofs.YtakgkocdkondhaaGreatDoor
end

section
namespace Go.Proofs.YtakgkocdkondhaaGreatDoor
open Go.RowKit Fl

set_option maxHeartbeats 1000000 in
theorem lanesRight_any (W H : Nat) (s : ByteArray) (w : World) (hS : Sides W H s) :
    Calls Tryz.prog 77 #[.agg #[.int .i64 (W : Int), .int .i64 (H : Int), .string s]] w (Told (Joined W H (at_ s)) w) := by
  have h256 := hS.le
  have HS := Lib.hid hS
  have HL := Lib.hid (pick_le isL (at_ s) s.size)
  have HSZ := Lib.hid hS.sz
  clear hS
  go_enter Tryz.func77, Tryz.ntmps77
  go_wp2_with fail
  refine (cellsLane_any (W : Int) (H : Int) s h256 _).mono ?_
  rintro e w1 ⟨a, n, cap, rfl, hn, ho, hb⟩
  have HB1 := Lib.hid ((Box.start w (W : Int) (H : Int) s 25).after hb)
  have hn2 : n ≤ 256 := by rw [hn]; have := HL.out; omega
  have e0 := HB1.out.c0
  have e1 := HB1.out.c1
  have e2 := HB1.out.c2
  rw [HSZ.out] at hn ho
  cases hp : pick isL (at_ s) (W * H) with
  | nil =>
    rw [hp] at hn
    obtain rfl : n = 0 := hn
    have HP := Lib.hid hp
    clear hp ho hb
    go_wp2_with fail
    go_ret
    refine ⟨false, rfl, iff_of_false (by decide) ?_, HB1.out.below⟩
    rintro ⟨x, y, h, _⟩
    rw [HP.out] at h
    cases h
  | cons x r =>
    have hn1 : 1 ≤ n := by rw [hn, hp]; simp
    rw [hp] at hn ho
    have HJ := Lib.hid (joined_any W H s a n cap _ x r w1 HS.out hn ho hp)
    clear hp ho hb hn
    go_wp2_with fail
    refine HJ.out.mono ?_
    rintro e w2 ⟨b, rfl, hbl, hb2⟩
    have HB2 := Lib.hid (HB1.out.after hb2)
    have HBL := Lib.hid hbl
    clear hbl hb2 e0 e1 e2
    go_wp2_with fail
    go_ret
    exact ⟨b, rfl, HBL.out, HB2.out.below⟩

theorem okSide_iff (n : Int) : okSide n = true ↔ 1 ≤ n ∧ n ≤ 16 := by unfold okSide; simp
theorem right_nat {a b : Nat} {s : ByteArray} : Right (a : Int) (b : Int) s ↔ Sides a b s ∧ RightN a b (at_ s) := by
  constructor
  · rintro ⟨w, h, h1, h2, h3, h4⟩
    obtain rfl : a = w := by omega
    obtain rfl : b = h := by omega
    exact ⟨h3, h4⟩
  · rintro ⟨h1, h2⟩
    exact ⟨a, b, rfl, rfl, h1, h2⟩

set_option maxHeartbeats 2000000 in
theorem right_any (W H : Int) (s : ByteArray) (hs : s.size ≤ maxLen) (w : World) :
    Calls Tryz.prog 37 #[.agg #[.int .i64 W, .int .i64 H, .string s]] w (Told (Right W H s) w) := by
  have hs' := hs
  unfold maxLen at hs'
  have HA := Lib.hid ((Below.refl w.heap.size w).alloc (Nat.le_refl _) (.cells #[.int .i64 W, .int .i64 H, .string s] 25))
  have hside : ∀ {n : Int} {k : Nat}, n = k → 1 ≤ k → k ≤ 16 → okSide n = true := fun e h1 h2 => (okSide_iff _).2 (by omega)
  cases h1 : okSide W with
  | false =>
    have HN : Hid (¬ Right W H s) := Lib.hid (by rintro ⟨x, y, e1, e2, h3, _⟩; rw [hside e1 h3.w1 h3.w2] at h1; cases h1)
    clear hside
    go_enter Tryz.func37, Tryz.ntmps37
    go_wp2_with (go_at_call 74; refine (sideRight_any _ _).mono ?_; rintro e w' ⟨rfl, rfl⟩)
    go_ret
    exact ⟨false, rfl, iff_of_false (by decide) HN.out, HA.out⟩
  | true =>
    cases h2 : okSide H with
    | false =>
      have HN : Hid (¬ Right W H s) := Lib.hid (by rintro ⟨x, y, e1, e2, h3, _⟩; rw [hside e2 h3.h1 h3.h2] at h2; cases h2)
      clear hside
      go_enter Tryz.func37, Tryz.ntmps37
      go_wp2_with (go_at_call 74; refine (sideRight_any _ _).mono ?_; rintro e w' ⟨rfl, rfl⟩)
      go_ret
      exact ⟨false, rfl, iff_of_false (by decide) HN.out, HA.out⟩
    | true =>
      have k1 := (okSide_iff W).1 h1
      have k2 := (okSide_iff H).1 h2
      obtain ⟨a, rfl⟩ := Int.eq_ofNat_of_zero_le (by omega : 0 ≤ W)
      obtain ⟨b, rfl⟩ := Int.eq_ofNat_of_zero_le (by omega : 0 ≤ H)
      have hm := le_mul16 (W := a) (H := b) (by omega) (by omega)
      have p1 : (a : Int) * (b : Int) ≤ 256 := by rw [← Int.natCast_mul]; omega
      have p0 : 0 ≤ (a : Int) * (b : Int) := by rw [← Int.natCast_mul]; omega
      clear hside
      by_cases hz : s.size = a * b
      · have hq : ((s.size : Int) == (a : Int) * (b : Int)) = true := by rw [beq_iff_eq, hz, Int.natCast_mul]
        have HS : Hid (Sides a b s) := Lib.hid ⟨by omega, by omega, by omega, by omega, hz⟩
        clear hz hm
        cases h3 : okAll s with
        | false =>
          have HN : Hid (¬ Right (a : Int) (b : Int) s) := Lib.hid (by
            rw [right_nat]
            rintro ⟨h4, h5⟩
            rw [(okAll_iff s).2 (by rw [h4.sz]; exact h5.bytes)] at h3
            cases h3)
          go_enter Tryz.func37, Tryz.ntmps37
          go_wp2_with (first
            | (go_at_call 74; refine (sideRight_any _ _).mono ?_; rintro e w' ⟨rfl, rfl⟩)
            | (go_at_call 75; refine (bytesRight_any s hs _).mono ?_; rintro e w' ⟨rfl, rfl⟩))
          go_ret
          exact ⟨false, rfl, iff_of_false (by decide) HN.out, HA.out⟩
        | true =>
          have HBY := Lib.hid ((okAll_iff s).1 h3)
          go_enter Tryz.func37, Tryz.ntmps37
          go_wp2_with (first
            | (go_at_call 74; refine (sideRight_any _ _).mono ?_; rintro e w' ⟨rfl, rfl⟩)
            | (go_at_call 75; refine (bytesRight_any s hs _).mono ?_; rintro e w' ⟨rfl, rfl⟩))
          refine (docksRight_any a b s _ HS.out).mono ?_
          rintro e w1 ⟨b1, rfl, hb1, hbw⟩
          have HB1 := Lib.hid ((Box.start w (a : Int) (b : Int) s 25).after hbw)
          have HD := Lib.hid hb1
          have e0 := HB1.out.c0
          have e1 := HB1.out.c1
          have e2 := HB1.out.c2
          clear hb1 hbw h1 h2 h3
          cases b1
          · go_wp2_with fail
            go_ret
            refine ⟨false, rfl, iff_of_false (by decide) ?_, HB1.out.below⟩
            rw [right_nat]
            exact fun h => by have := HD.out.2 h.2.docks; cases this
          · go_wp2_with fail
            refine (lanesRight_any a b s _ HS.out).mono ?_
            rintro e w2 ⟨b2, rfl, hb2, hbw2⟩
            have HB2 := Lib.hid (HB1.out.after hbw2)
            have HL := Lib.hid hb2
            clear hb2 hbw2 e0 e1 e2
            go_wp2_with fail
            go_ret
            refine ⟨b2, rfl, ?_, HB2.out.below⟩
            rw [HL.out, right_nat]
            exact ⟨fun h => ⟨HS.out, ⟨by rw [← HS.out.sz]; exact HBY.out, HD.out.1 (by trivial), h⟩⟩, fun h => h.2.lanes⟩
      · have hq : ((s.size : Int) == (a : Int) * (b : Int)) = false := by rw [beq_eq_false_iff_ne, ← Int.natCast_mul]; omega
        have HN : Hid (¬ Right (a : Int) (b : Int) s) := Lib.hid (by rw [right_nat]; exact fun h => hz h.1.sz)
        clear hz
        go_enter Tryz.func37, Tryz.ntmps37
        go_wp2_with (go_at_call 74; refine (sideRight_any _ _).mono ?_; rintro e w' ⟨rfl, rfl⟩)
        go_ret
        exact ⟨false, rfl, iff_of_false (by decide) HN.out, HA.out⟩

end Go.Proofs.YtakgkocdkondhaaGreatDoor
end

section
namespace Go.Proofs.YtakgkocdkondhaaGreatDoor
open Go.RowKit Fl

theorem ret_two {a b : Int} {c d : Bool} (h : a = b) (k : c = d) : Ending.returned (.tuple #[.int .i64 a, .bool c]) = .returned (.tuple #[.int .i64 b, .bool d]) := by rw [h, k]
/-- A number is told: that of a floor that is right, or another one. -/
def NumTold (P : Prop) (a b : Nat) (w : World) (e : Ending) (w' : World) : Prop := ∃ n : Nat, e = .returned (.int .i64 (n : Int)) ∧ (P → n = a) ∧ (¬ P → n = b) ∧ Below w.heap.size w w'
/-- A number and a truth are told. -/
def PairTold (P : Prop) (a : Nat) (w : World) (e : Ending) (w' : World) : Prop := ∃ (n : Nat) (b : Bool), e = .returned (.tuple #[.int .i64 (n : Int), .bool b]) ∧ (P → n = a ∧ b = true) ∧ (¬ P → n = 0 ∧ b = false) ∧ Below w.heap.size w w'
/-- A list is told: that of a floor that is right, or none. -/
def IntsIf (P : Prop) (l : List Nat) (w : World) (e : Ending) (w' : World) : Prop := ∃ a n cap xs, e = .returned (.slice a n cap) ∧ n = xs.length ∧ (P → xs = l) ∧ (¬ P → xs = []) ∧ Own w' w.heap.size (.slice a n cap) xs ∧ Below w.heap.size w w'

/-- A right floor's sides, as numbers. -/
theorem rightNat {W H : Int} {s : ByteArray} (h : Right W H s) : ∃ a b : Nat, W = a ∧ H = b ∧ Sides a b s ∧ RightN a b (at_ s) := h
theorem rightLe {W H : Int} {s : ByteArray} (h : Right W H s) : s.size ≤ 256 := by obtain ⟨a, b, _, _, h1, _⟩ := h; exact h1.le

set_option maxHeartbeats 1000000 in
theorem robots_any (W H : Int) (s : ByteArray) (hs : s.size ≤ maxLen) (w : World) :
    Calls Tryz.prog 25 #[.agg #[.int .i64 W, .int .i64 H, .string s]] w (NumTold (Right W H s) (pick isD (at_ s) s.size).length 0 w) := by
  go_enter Tryz.func25, Tryz.ntmps25
  go_wp2_with fail
  refine (right_any W H s hs _).mono ?_
  rintro e w1 ⟨b, rfl, hb, hbw⟩
  have HB := Lib.hid ((Box.start w W H s 25).after hbw)
  have HR := Lib.hid hb
  have e0 := HB.out.c0
  have e1 := HB.out.c1
  have e2 := HB.out.c2
  clear hb hbw
  cases b
  · go_wp2_with fail
    go_ret
    exact ⟨0, rfl, (fun h => by have := HR.out.2 h; cases this), fun _ => rfl, HB.out.below⟩
  · have HRR := Lib.hid (HR.out.1 (by trivial))
    have HC := Lib.hid (cellsDock_any W H s (rightLe HRR.out) w1)
    go_wp2_with fail
    refine HC.out.mono ?_
    rintro e w2 ⟨a, n, cap, rfl, hn, ho, hb2⟩
    have HN := Lib.hid hn
    have HB2 := Lib.hid (HB.out.after hb2)
    clear hn ho hb2 e0 e1 e2
    go_wp2_with fail
    go_ret
    exact ⟨n, rfl, fun _ => HN.out, fun h => absurd HRR.out h, HB2.out.below⟩

set_option maxHeartbeats 1000000 in
theorem lanes_any (W H : Int) (s : ByteArray) (hs : s.size ≤ maxLen) (w : World) :
    Calls Tryz.prog 71 #[.agg #[.int .i64 W, .int .i64 H, .string s]] w (IntsIf (Right W H s) (pick isL (at_ s) s.size) w) := by
  go_enter Tryz.func71, Tryz.ntmps71
  go_wp2_with fail
  refine (right_any W H s hs _).mono ?_
  rintro e w1 ⟨b, rfl, hb, hbw⟩
  have HB := Lib.hid ((Box.start w W H s 25).after hbw)
  have HR := Lib.hid hb
  have e0 := HB.out.c0
  have e1 := HB.out.c1
  have e2 := HB.out.c2
  clear hb hbw
  cases b
  · go_wp2_with fail
    go_ret
    exact ⟨none, 0, 0, [], rfl, rfl, (fun h => by have := HR.out.2 h; cases this), fun _ => rfl, Own.nil _ _, HB.out.below⟩
  · have HRR := Lib.hid (HR.out.1 (by trivial))
    have HC := Lib.hid (cellsLane_any W H s (rightLe HRR.out) w1)
    go_wp2_with fail
    refine HC.out.mono ?_
    rintro e w2 ⟨a, n, cap, rfl, hn, ho, hb2⟩
    have HN := Lib.hid hn
    have HO := Lib.hid (ho.lower (Nat.le_trans (Nat.le_succ _) HB.out.lt))
    have HB2 := Lib.hid (HB.out.after hb2)
    clear hn ho hb2 e0 e1 e2
    go_wp2_with fail
    go_ret
    exact ⟨a, n, cap, _, rfl, HN.out, fun _ => rfl, fun h => absurd HRR.out h, HO.out, HB2.out.below⟩

/-- A lane's place among a floor's cells. -/
def OnLane (W H : Int) (s : ByteArray) (c : Int) : Prop := Right W H s ∧ isL (bAt s c) = true
theorem bAt_in {s : ByteArray} {c : Int} (h : bAt s c ≠ 35) : ∃ k : Nat, c = k ∧ k < s.size ∧ bAt s c = at_ s k := by
  unfold bAt at h ⊢
  split at h
  · rename_i k
    obtain ⟨j, rfl⟩ := Int.eq_ofNat_of_zero_le k.1
    exact ⟨j, rfl, by omega, by rw [if_pos k, Int.toNat_natCast]⟩
  · exact absurd rfl h

set_option maxHeartbeats 1000000 in
theorem zone_any (W H : Int) (s : ByteArray) (hs : s.size ≤ maxLen) (c : Int) (w : World) :
    Calls Tryz.prog 27 #[.agg #[.int .i64 W, .int .i64 H, .string s], .int .i64 c] w (PairTold (OnLane W H s c) (bAt s c - 97) w) := by
  go_enter Tryz.func27, Tryz.ntmps27
  go_wp2_with fail
  refine (right_any W H s hs _).mono ?_
  rintro e w1 ⟨b, rfl, hb, hbw⟩
  have HB := Lib.hid ((Box.start w W H s 25).after hbw)
  have HR := Lib.hid hb
  have e0 := HB.out.c0
  have e1 := HB.out.c1
  have e2 := HB.out.c2
  clear hb hbw
  cases b
  · go_wp2_with fail
    go_ret2
    exact ⟨0, false, rfl, (fun h => by have := HR.out.2 h.1; cases this), fun _ => ⟨rfl, rfl⟩, HB.out.below⟩
  · have HRR := Lib.hid (HR.out.1 (by trivial))
    have HC := Lib.hid (byteAt_any W H s (rightLe HRR.out) c w1)
    go_wp2_with fail
    refine HC.out.mono ?_
    rintro e w2 ⟨rfl, hb2⟩
    have HB2 := Lib.hid (HB.out.after hb2)
    have k2 := HB2.out.c2
    clear hb2 e0 e1 e2
    cases hl : isL (bAt s c) with
    | false =>
      go_wp2_with (go_at_call 60; refine (isLane_any _ _).mono ?_; rintro e w' ⟨rfl, rfl⟩)
      go_ret2
      exact ⟨0, false, rfl, (fun h => by have := h.2; rw [hl] at this; cases this), fun _ => ⟨rfl, rfl⟩, HB2.out.below⟩
    | true =>
      obtain ⟨k, rfl, hk, hbk⟩ := bAt_in (s := s) (c := c) (by intro e; rw [e] at hl; cases hl)
      rw [hbk] at hl ⊢
      have HL := Lib.hid hl
      have hl2 : isL s[k].toNat = true := by rw [at_get s k hk]; exact hl
      have hlo : 97 ≤ s[k].toNat := by unfold isL at hl2; simp only [Bool.and_eq_true, decide_eq_true_eq] at hl2; exact hl2.1
      have hhi : s[k].toNat < 123 := by unfold isL at hl2; simp only [Bool.and_eq_true, decide_eq_true_eq] at hl2; exact hl2.2
      have HZ := Lib.hid (at_get s k hk)
      have HBK := Lib.hid hbk
      clear hl2 hbk
      go_wp2_with (go_at_call 60; refine (isLane_any _ _).mono ?_; rintro e w' ⟨rfl, rfl⟩)
      go_ret2
      refine ⟨at_ s k - 97, true, ret_two (by rw [← HZ.out]; omega) rfl, fun _ => ⟨by rw [HBK.out], rfl⟩, fun h => absurd ⟨HRR.out, by rw [HBK.out]; exact HL.out⟩ h, HB2.out.below⟩

/-- A cell that is no wall. -/
def OnFloor (W H : Int) (s : ByteArray) (c : Int) : Prop := Right W H s ∧ bAt s c ≠ 35
/-- What is near to a cell. -/
def nearL (W H : Nat) (z : Nat → Nat) (c : Nat) : List Nat := (side W H c).filter fun b => z b != 35
def nears (W H : Int) (s : ByteArray) (c : Int) : List Nat := nearL W.toNat H.toNat (at_ s) c.toNat
theorem nearL_take (W H : Nat) (z : Nat → Nat) (c k : Nat) (h : k < (side W H c).length) : ((side W H c).take (k + 1)).filter (fun b => z b != 35) = ((side W H c).take k).filter (fun b => z b != 35) ++ if z ((side W H c).getD k 0) = 35 then [] else [(side W H c).getD k 0] := by
  rw [List.take_succ_eq_append_getElem h, List.filter_append, List.getD, List.getElem?_eq_getElem h]
  by_cases e : z ((side W H c)[k]) = 35 <;> simp [e]

set_option maxHeartbeats 2000000 in
theorem near_any (W H : Int) (s : ByteArray) (hs : s.size ≤ maxLen) (c : Int) (w : World) :
    Calls Tryz.prog 149 #[.agg #[.int .i64 W, .int .i64 H, .string s], .int .i64 c] w (IntsIf (OnFloor W H s c) (nears W H s c) w) := by
  go_enter Tryz.func149, Tryz.ntmps149
  go_wp2_with fail
  refine (right_any W H s hs _).mono ?_
  rintro e w1 ⟨b, rfl, hb, hbw⟩
  have HB := Lib.hid ((Box.start w W H s 25).after hbw)
  have HR := Lib.hid hb
  have e0 := HB.out.c0
  have e1 := HB.out.c1
  have e2 := HB.out.c2
  clear hb hbw
  cases b
  · go_wp2_with fail
    go_ret
    exact ⟨none, 0, 0, [], rfl, rfl, (fun h => by have := HR.out.2 h.1; cases this), fun _ => rfl, Own.nil _ _, HB.out.below⟩
  · have HRR := Lib.hid (HR.out.1 (by trivial))
    have h256 := (rightLe HRR.out)
    have HC := Lib.hid (byteAt_any W H s h256 c w1)
    go_wp2_with fail
    refine HC.out.mono ?_
    rintro e w2 ⟨rfl, hb2⟩
    have HB2 := Lib.hid (HB.out.after hb2)
    have k0 := HB2.out.c0
    have k1 := HB2.out.c1
    have k2 := HB2.out.c2
    clear hb2 e0 e1 e2
    by_cases h35 : bAt s c = 35
    · have HN : Hid (¬ OnFloor W H s c) := Lib.hid (fun h => h.2 h35)
      rw [h35]
      go_wp2_with fail
      go_ret
      exact ⟨none, 0, 0, [], rfl, rfl, fun h => absurd h HN.out, fun _ => rfl, Own.nil _ _, HB2.out.below⟩
    · have hb : (((bAt s c : Nat) : Int) == 35) = false := by rw [beq_eq_false_iff_ne]; omega
      have HY : Hid (OnFloor W H s c) := Lib.hid ⟨HRR.out, h35⟩
      obtain ⟨k, rfl, hk, hbk⟩ := bAt_in h35
      obtain ⟨W', H', rfl, rfl, hS, hRN⟩ := rightNat HRR.out
      have HS := Lib.hid hS
      have hkc : k < W' * H' := by rw [← hS.sz]; exact hk
      have HIN : Hid (∀ b, b ∈ side W' H' k → b < s.size) := Lib.hid (fun b hb => by rw [HS.out.sz]; exact side_lt HS.out.w1 hkc hb)
      have HBE := Lib.hid (fun wx => beside_any W' H' k s wx HS.out.w1 HS.out.w2 HS.out.h1 HS.out.h2 hkc)
      have HNE : Hid (nears (W' : Int) (H' : Int) s (k : Int) = (side W' H' k).filter fun b => at_ s b != 35) := Lib.hid rfl
      have HSL := Lib.hid (side_len W' H' k)
      have HNT := Lib.hid (fun j => nearL_take W' H' (at_ s) k j)
      generalize bAt s (k : Int) = y at *
      clear hS hRN hkc hbk h35
      go_wp2_with fail
      refine (HBE.out _).mono ?_
      rintro e w3 ⟨a, n, cap, rfl, hn, ho, hb3⟩
      have HB3 := Lib.hid (HB2.out.after hb3)
      have HO := Lib.hid ho
      have HN := Lib.hid hn
      have hn4 : n ≤ 4 := by rw [hn]; exact HSL.out
      clear k0 k1 k2 ho hn hb3 HB2 HB hb
      generalize side W' H' k = L at *
      go_wp2_with fail
      go_loopw [5, 21] (fun v iv wr => ∃ j : Nat, j ≤ n ∧ iv = .int .i64 (j : Int) ∧ Part w W' H' s ((L.take j).filter fun b => at_ s b != 35) v wr ∧ Own wr w2.heap.size (.slice a n cap) L ∧ (v.ownBlock = none ∨ v.ownBlock ≠ (Value.slice a n cap).ownBlock)) (fun _ iv _ => n - (intOf iv).toNat)
      case atStart => exact ⟨0, Nat.zero_le _, rfl, ⟨_, _, _, rfl, rfl, Own.nil _ _, HB3.out⟩, HO.out, .inl rfl⟩
      case round =>
        rename World => wr
        obtain ⟨j, hj, rfl, ⟨a4, n4, c4, rfl, hn4', ho4, hB4⟩, hO4, hAp⟩ := hrel
        have HO4 := Lib.hid ho4
        have HB4 := Lib.hid hB4
        have HOL := Lib.hid hO4
        have HAp := Lib.hid hAp
        have HN4 := Lib.hid hn4'
        have kk := hB4.c2
        have hz := hB4.lt
        clear ho4 hB4 hO4 hAp hn4'
        by_cases hlt : j < n
        · have hjL : j < L.length := by rw [← HN.out]; exact hlt
          obtain ⟨g, rfl, hg, hc⟩ := HOL.out.at j hjL
          have hin := HIN.out _ (getD_mem hjL)
          have HT := Lib.hid (HNT.out j hjL)
          have hfl : ((L.take j).filter fun b => at_ s b != 35).length ≤ 4 := by
            have := List.length_filter_le (fun b => at_ s b != 35) (L.take j)
            rw [List.length_take] at this
            omega
          generalize L.getD j 0 = d at *
          have HZ := Lib.hid (at_get s d hin)
          clear hjL
          by_cases h35 : s[d].toNat = 35
          · have hb : ((s[d].toNat : Int) != 35) = false := by rw [bne_eq_false_iff_eq]; omega
            have HTE : Hid ((L.take (j + 1)).filter (fun b => at_ s b != 35) = (L.take j).filter (fun b => at_ s b != 35)) := Lib.hid (by rw [HT.out, if_pos (by rw [← HZ.out]; exact h35), List.append_nil])
            clear h35
            go_wp2_with fail
            go_roundw
            case rel => exact ⟨j + 1, by omega, by go_num, by rw [HTE.out]; exact ⟨_, _, _, rfl, HN4.out, HO4.out, HB4.out⟩, HOL.out, HAp.out⟩
            case measure => simp [intOf]; omega
          · have hb : ((s[d].toNat : Int) != 35) = true := by rw [bne_iff_ne]; omega
            have HTE : Hid ((L.take (j + 1)).filter (fun b => at_ s b != 35) = (L.take j).filter (fun b => at_ s b != 35) ++ [d]) := Lib.hid (by rw [HT.out, if_neg (by rw [← HZ.out]; exact h35)])
            clear h35
            go_wp2_with (at_builtin; refine app_int2 rfl _ _ rfl (w.heap.size + 1) (.slice a4 n4 c4) ((L.take j).filter fun b => at_ s b != 35) rfl d _ rfl _ rfl HO4.out rfl (by omega) hz ?_; intro A6 c6 n6 w6 hn6 ho6 hb6 hg6 hat6; have HN6 := Lib.hid hn6; clear hn6)
            go_roundw
            case rel =>
              refine ⟨j + 1, by omega, by go_num, by rw [HTE.out]; exact Part.add HB4.out HN6.out ho6 hb6, ?_, ?_⟩
              · exact World.ownsRow.kept HOL.out hg6 (by rcases HAp.out with h | h; exact Or.inr (by rw [h]; intro e; cases e); exact Or.inr (fun e => h e.symm))
              · rcases hat6 with h | h
                · rw [h]; exact HAp.out
                · rw [h]
                  refine Or.inr (fun e => ?_)
                  have := HOL.out.lt _ e.symm
                  omega
            case measure => simp [intOf]; omega
        · obtain rfl : j = n := by omega
          have HTF : Hid (L.take j = L) := Lib.hid (List.take_of_length_le (by rw [← HN.out]; exact Nat.le_refl _))
          go_wp2_with fail
          go_ret
          exact ⟨a4, n4, c4, _, rfl, HN4.out, fun _ => by rw [HNE.out, HTF.out], fun h => absurd HY.out h, HO4.out.lower (Nat.le_succ _), HB4.out.below⟩

end Go.Proofs.YtakgkocdkondhaaGreatDoor
end
