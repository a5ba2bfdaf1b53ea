/-
  Bytes of one's own; a robot's dock; a floor's text.
-/
import Derived.Test.YtokjnmgbgflgnaaGreatDoorFlG
import Derived.Test.YtokjnmgbgflgnaaGreatDoorFlS
import Derived.Lib.AppendStr
import Derived.Laws.BytesArg
set_option linter.unusedVariables false
set_option maxRecDepth 100000
namespace Go.Proofs.YtokjnmgbgflgnaaGreatDoor
open Go.RowKit Fl

/-! ### bytes of one's own -/
def uc (l : List UInt8) : List Value := l.map fun b => Value.int .u8 (b.toNat : Int)
def OwnB (w : World) (base : Nat) (v : Value) (l : List UInt8) : Prop := w.ownsRow base 5 1 v l.length (uc l)
theorem OwnB.nil (w : World) (base : Nat) : OwnB w base (.slice none 0 0) [] := World.ownsRow_nil _ _ _ _
theorem OwnB.later {w w' : World} {base : Nat} {v : Value} {l : List UInt8} (h : OwnB w base v l) (hb : Below w.heap.size w w') : OwnB w' base v l := own_later h hb
theorem Tryz.infoU8 : (Tryz.prog.info? 5).map (fun i => (i.zero, i.size, i.bytes)) = some (some (.int .u8 0), 1, 1) := by kernel_rfl
/-- A text is appended to bytes of one's own. -/
theorem app_str {w : World} {ops : Array Oper} {rest : List Oper} {o : Oper} {a : Act} {Q : Exit → Act → World → Prop} (hgd : o.guard = none) (sl x : Operand)
    (ho : o.op = .call { callee := .builtin .append, args := #[sl, x], argTypes := #[95, 9] })
    (base : Nat) (v : Value) (l : List UInt8) (hs : a.eval sl = v) (hown : OwnB w base v l) (s : ByteArray) (hx : a.eval x = .string s) (hf : l.length + s.size ≤ 1048576) (hbase : base ≤ w.heap.size)
    (h : ∀ A' c' n' w', n' = (l ++ s.data.toList).length → OwnB w' base (.slice A' n' c') (l ++ s.data.toList) → Below base w w' → wpList Tryz.prog ops Q rest (a.put o.dst (.slice A' n' c')) w') : wpList Tryz.prog ops Q (o :: rest) a w := by
  obtain ⟨i0, hi, hz0, hz1, hz2⟩ := info_parts Tryz.infoU8
  refine Lib.wpList_append_own_string _ hgd sl x 95 9 ho base 5 i0 Tryz.underlying95 Tryz.underlying9 hi hz0 hz1 hz2 v l.length (uc l) hs hown s hx (by unfold maxLen; omega) (by omega) hbase ?_
  intro v' w' h1 h2 h3
  have hl : s.data.toList.length = s.size := by rw [Array.length_toList]; rfl
  have h1' : OwnB w' base v' (l ++ s.data.toList) := by
    unfold OwnB uc
    rw [List.length_append, hl, List.map_append]
    exact h1
  obtain ⟨A', c', rfl⟩ := ownsRow_shape h1'
  exact h A' c' _ w' rfl h1' (Below.grown (Below.refl _ _) h2 hbase (fun k hk => (World.ownsRow.lt hown k hk).1))
theorem nums_str (l : List UInt8) : strOfNums (l.map fun b => (b.toNat : Int)) = ⟨l.toArray⟩ := by
  unfold strOfNums
  congr 2
  rw [List.map_map]
  conv => rhs; rw [← List.map_id l]
  apply List.map_congr_left
  intro b _
  simp
/-- Bytes of one's own, told as a text. -/
theorem OwnB.conv {w : World} {base : Nat} {a : Option Addr} {n cap : Nat} {l : List UInt8} (h : OwnB w base (.slice a n cap) l) (hn : n = l.length) :
    (convert 95 9 (.slice a n cap)).run Tryz.prog w = .ok (.string ⟨l.toArray⟩) w := by
  subst hn
  rcases h.2 with ⟨e, h0⟩ | ⟨g, cap', cur, e, hg, hh, hnc, hcm, _⟩
  · simp only [Value.slice.injEq] at e
    obtain ⟨rfl, -, rfl⟩ := e
    have : l = [] := List.eq_nil_of_length_eq_zero h0
    subst this
    exact run_convert_bytes_nil w _ _ Tryz.underlying95 Tryz.underlying5 0 0 _ Tryz.underlying9
  · simp only [Value.slice.injEq] at e
    obtain ⟨rfl, -, rfl⟩ := e
    rw [← nums_str]
    refine run_convert_bytes_arg w _ _ Tryz.underlying95 Tryz.underlying5 g 0 l.length cap (l.map fun b => (b.toNat : Int)) (by simp) (fun i hi => ?_) _ Tryz.underlying9
    rw [Nat.zero_add, World.ownsRow.cellAt h i (by omega)]
    simp [uc, List.getD, List.getElem?_eq_getElem (show i < l.length by omega)]

/-! ### a robot's dock -/
/-- The first cell with that byte. -/
def IsFirst (s : ByteArray) (c d : Nat) : Prop := d < s.size ∧ at_ s d = c ∧ ∀ j, j < d → at_ s j ≠ c
theorem IsFirst.one {s : ByteArray} {c d e : Nat} (h : IsFirst s c d) (k : IsFirst s c e) : d = e := by
  rcases Nat.lt_trichotomy d e with x | x | x
  · exact absurd h.2.1 (k.2.2 d x)
  · exact x
  · exact absurd k.2.1 (h.2.2 e x)
theorem indexByte_at (c : UInt8) : ∀ (l : List UInt8) (i : Nat), l[i]? = some c → (∀ j, j < i → l[j]? ≠ some c) → Lib.indexByte l c = i
  | [], i, h, _ => by simp at h
  | b :: l, 0, h, _ => by
    simp at h
    subst h
    unfold Lib.indexByte
    simp
  | b :: l, i + 1, h, hn => by
    have h0 : (b == c) = false := by rw [beq_eq_false_iff_ne]; exact fun e => hn 0 (by omega) (by simp [e])
    have ih := indexByte_at c l i (by simpa using h) (fun j hj => by have := hn (j + 1) (by omega); simpa using this)
    unfold Lib.indexByte
    rw [h0, ih]
    have : ((i : Int) == -1) = false := by rw [beq_eq_false_iff_ne]; omega
    simp [this]
theorem at_some {s : ByteArray} {j : Nat} (h : j < s.size) : s.data.toList[j]? = some (UInt8.ofNat (at_ s j)) := by
  have hl : j < s.data.toList.length := by rw [Array.length_toList]; exact h
  unfold at_
  rw [List.getD, List.getElem?_eq_getElem hl]
  simp
theorem first_index {s : ByteArray} {c d : Nat} (hc : c < 256) (h : IsFirst s c d) : Lib.indexByte s.data.toList (UInt8.ofNat c) = d := by
  apply indexByte_at
  · rw [at_some h.1, h.2.1]
  · intro j hj e
    rw [at_some (Nat.lt_trans hj h.1)] at e
    have := congrArg UInt8.toNat (Option.some.inj e)
    have h2 := at_lt s j
    rw [UInt8.toNat_ofNat_of_lt' (by simpa using h2), UInt8.toNat_ofNat_of_lt' (by simpa using hc)] at this
    exact h.2.2 j hj this
theorem first_some (s : ByteArray) (c : Nat) (h : ∃ d, d < s.size ∧ at_ s d = c) : ∃ d, IsFirst s c d := by
  obtain ⟨d, h1, h2⟩ := h
  induction d using Nat.strongRecOn with
  | _ d ih =>
    by_cases k : ∃ j, j < d ∧ at_ s j = c
    · obtain ⟨j, hj, e⟩ := k
      exact ih j hj (by omega) e
    · exact ⟨d, h1, h2, fun j hj e => k ⟨j, hj, e⟩⟩
theorem right_first {W H : Int} {s : ByteArray} (h : Right W H s) (r : Nat) (hr : r < (pick isD (at_ s) s.size).length) : r < 8 ∧ ∃ d, IsFirst s (48 + r) d := by
  obtain ⟨a, b, rfl, rfl, hS, hR⟩ := rightNat h
  rw [hS.sz] at hr
  have hd : r < (docks a b (at_ s)).length := hr
  refine ⟨by have := hR.docks.few; omega, first_some s _ ?_⟩
  have h1 := hR.docks.once r hd
  obtain ⟨x, hx⟩ := List.exists_mem_of_length_pos (show 0 < (pick (fun c => c == 48 + r) (at_ s) (a * b)).length by unfold cnt at h1; omega)
  obtain ⟨h2, h3⟩ := mem_pick.1 hx
  exact ⟨x, by rw [hS.sz]; exact h2, by simpa using h3⟩

/-- A robot of a right floor. -/
def IsRobot (W H : Int) (s : ByteArray) (r : Int) : Prop := Right W H s ∧ 0 ≤ r ∧ r < (pick isD (at_ s) s.size).length
def DockTold (W H : Int) (s : ByteArray) (r : Int) (w : World) (e : Ending) (w' : World) : Prop := ∃ (n : Nat) (b : Bool), e = .returned (.tuple #[.int .i64 (n : Int), .bool b]) ∧ (IsRobot W H s r → IsFirst s (48 + r.toNat) n ∧ b = true) ∧ (¬ IsRobot W H s r → n = 0 ∧ b = false) ∧ Below w.heap.size w w'

set_option maxHeartbeats 1000000 in
theorem dock_any (W H : Int) (s : ByteArray) (hs : s.size ≤ maxLen) (r : Int) (w : World) :
    Calls Tryz.prog 22 #[.agg #[.int .i64 W, .int .i64 H, .string s], .int .i64 r] w (DockTold W H s r w) := by
  by_cases h0 : r < 0
  · have d0 : decide (r < 0) = true := by simpa using h0
    have HN : Hid (¬ IsRobot W H s r) := Lib.hid (fun h => by have := h.2.1; omega)
    go_enter Tryz.func22, Tryz.ntmps22
    go_wp2_with fail
    go_ret2
    exact ⟨0, false, rfl, fun h => absurd h HN.out, fun _ => ⟨rfl, rfl⟩, (Below.refl _ _).alloc (Nat.le_refl _) _⟩
  · obtain ⟨k, rfl⟩ := Int.eq_ofNat_of_zero_le (by omega : 0 ≤ r)
    have d0 : decide ((k : Int) < 0) = false := by simp
    clear h0
    go_enter Tryz.func22, Tryz.ntmps22
    go_wp2_with fail
    refine (robots_any W H s hs _).mono ?_
    rintro e w1 ⟨n, rfl, h1, h2, hb⟩
    have HB := Lib.hid ((Box.start w W H s 23).after hb)
    have H1 := Lib.hid h1
    have H2 := Lib.hid h2
    have e2 := HB.out.c2
    clear h1 h2 hb
    by_cases hk : n ≤ k
    · have HN : Hid (¬ IsRobot W H s (k : Int)) := Lib.hid (fun h => by have h3 := H1.out h.1; have h4 := h.2.2; omega)
      have hd : decide (n ≤ k) = true := by simpa using hk
      go_wp2_with fail
      go_ret2
      exact ⟨0, false, rfl, fun h => absurd h HN.out, fun _ => ⟨rfl, rfl⟩, HB.out.below⟩
    · have HR : Hid (Right W H s) := Lib.hid (by
        apply Classical.byContradiction
        intro h
        have := H2.out h
        omega)
      have hlt : k < (pick isD (at_ s) s.size).length := by rw [← H1.out HR.out]; omega
      obtain ⟨h8, d, hd⟩ := right_first HR.out k hlt
      have HY : Hid (IsRobot W H s (k : Int)) := Lib.hid ⟨HR.out, by omega, by omega⟩
      have HF : Hid (Lib.indexByte s.data.toList ((48 + (k : Int)).toNat.toUInt8) = d) := Lib.hid (by
        have e : (48 + (k : Int)).toNat.toUInt8 = UInt8.ofNat (48 + k) := by
          rw [show (48 + (k : Int)).toNat = 48 + k by omega]
        rw [e]
        exact first_index (by omega) hd)
      have HD := Lib.hid hd
      have hdn : decide (n ≤ k) = false := by simpa using hk
      clear hd hlt
      go_wp2_with (go_at_call 45; refine (indexByte_any _ _ _).mono ?_; rintro e w' ⟨rfl, rfl⟩)
      go_ret2
      exact ⟨d, true, ret_two (by rw [HF.out]) rfl, fun _ => ⟨HD.out, rfl⟩, fun h => absurd HY.out h, HB.out.below⟩

/-! ### a floor's text -/
/-- The first so many rows of a text, each with a byte 10 behind it. -/
def txt (W : Nat) (l : List UInt8) : Nat → List UInt8
  | 0 => []
  | y + 1 => txt W l y ++ (l.drop (y * W)).take W ++ [10]
def StrTold (P : Prop) (l : List UInt8) (w : World) (e : Ending) (w' : World) : Prop := ∃ t : ByteArray, e = .returned (.string t) ∧ (P → t = ⟨l.toArray⟩) ∧ (¬ P → t = ⟨#[]⟩) ∧ Below w.heap.size w w'
theorem txt_len (W : Nat) (l : List UInt8) (y : Nat) (h : y * W ≤ l.length) : (txt W l y).length = y * (W + 1) := by
  induction y with
  | zero => simp [txt]
  | succ y ih =>
    have h2 : y * W + W ≤ l.length := by rw [← Nat.succ_mul]; exact h
    rw [txt, List.length_append, List.length_append, ih (by omega), List.length_take, List.length_drop, Nat.min_eq_left (by omega), Nat.succ_mul]
    simp
    omega
def sTxt (W H : Int) (s : ByteArray) : List UInt8 := txt W.toNat s.data.toList H.toNat


end Go.Proofs.YtokjnmgbgflgnaaGreatDoor
