/-
  Library functions: the index of a byte, a suffix trimmed, a text split at a byte 10.
  Bytes of one's own; a robot's dock; a floor's text.
  Rows of a text, in plain words: cut at each byte 10; the document's rows; so many pieces at most; what a text is parsed as.
  A text's rows: rowsOf, rowRight, join.
  A text is parsed: Parse.
-/
import Derived.Test.YtakgkocdkondhaaGreatDoorFlLay
import Derived.Test.YtakgkocdkondhaaGreatDoorFlOne
import Derived.Lib.AppendStr
import Derived.Laws.BytesArg
import Derived.Test.YtakgkocdkondhaaGreatDoorFlPlain
import Derived.Lib.Split
import Derived.Lib.Strings
set_option linter.unusedVariables false
set_option maxRecDepth 100000
section
namespace Go.Proofs.YtakgkocdkondhaaGreatDoor
open Go.RowKit Fl Go.Shelf

theorem indexByte_any (s : ByteArray) (c : Int) (w : World) :
    Calls Tryz.prog 62 #[.string s, .int .u8 c] w fun e w' => e = .returned (.int .i64 (Lib.indexByte s.data.toList c.toNat.toUInt8)) ∧ w = w' :=
  (Any.strings_IndexByte Tryz.lays137 s c w).mono fun e w' ⟨h1, h2⟩ => ⟨h1, h2.symm⟩
def nl : ByteArray := ⟨#[10]⟩
theorem trim_any (s : ByteArray) (w : World) (hs : s.size ≤ 9223372036854775807) :
    Calls Tryz.prog 115 #[.string s, .string nl] w fun e w' => e = .returned (.string ⟨(Lib.trimSuffix s.data.toList [10]).toArray⟩) ∧ w = w' :=
  (Any.strings_TrimSuffix Tryz.lays102 s nl w hs).mono fun e w' ⟨h1, h2⟩ => ⟨h1, h2.symm⟩

theorem index_one (c : UInt8) : ∀ s : List UInt8, Lib.index s [c] = Lib.indexByte s c
  | [] => rfl
  | b :: l => by
    rw [Lib.index, Lib.indexByte, index_one c l]
    have e : [c].isPrefixOf (b :: l) = (b == c) := by
      simp only [List.isPrefixOf, Bool.and_true]
      rw [Bool.eq_iff_iff, beq_iff_eq, beq_iff_eq]
      exact ⟨Eq.symm, Eq.symm⟩
    rw [e]
/-- How many pieces a split into at most n of a text has room for. -/
def room (n : Nat) (s : ByteArray) : Nat := min n (s.size + 1)
def pieces (n : Nat) (s : ByteArray) : List ByteArray := Lib.splitB nl 0 (room n s - 1) s
theorem genSplit_any (s : ByteArray) (n : Nat) (hn : 1 ≤ n) (hn2 : n ≤ 1000) (w : World) (hs : s.size < 4294967281) :
    Calls Tryz.prog 131 #[.string s, .string nl, .int .i64 0, .int .i64 (n : Int)] w fun e w' =>
      e = .returned (.slice (some ⟨w.heap.size, 0, none⟩) (pieces n s).length (room n s)) ∧ w' = w.alloc (.cells (Lib.cellsOf (pieces n s) (room n s)) 9) :=
  Any.strings_genSplit_core Tryz.lays221 (by kernel_rfl) s nl 0 (n : Int) (room n s) w hs (by decide) (by decide)
    (fun x c hx => by
      refine (Any.strings_Index_one { Tryz.lays221 with } x 10 _).mono fun e w' ⟨h1, h2⟩ => ⟨?_, h2⟩
      rw [h1]
      show _ = Ending.returned (Value.int .i64 (Lib.index x.data.toList [10]))
      rw [index_one])
    (by
      refine (Any.strings_Count_one { Tryz.lays221 with } s 10 w).mono fun e w' ⟨h1, h2⟩ => ⟨?_, h2⟩
      rw [h1]
      show _ = Ending.returned (Value.int .i64 ((Lib.count s.data.toList [10] : Nat) : Int))
      rw [Lib.count_one]
      rfl)
    (by omega) (by omega) (by unfold room; rw [if_neg (by omega)]; omega)
theorem splitN_any (s : ByteArray) (w : World) (hs : s.size < 4294967281) :
    Calls Tryz.prog 114 #[.string s, .string nl, .int .i64 17] w fun e w' =>
      e = .returned (.slice (some ⟨w.heap.size, 0, none⟩) (pieces 17 s).length (room 17 s)) ∧ w' = w.alloc (.cells (Lib.cellsOf (pieces 17 s) (room 17 s)) 9) := by
  have HG := Lib.hid (genSplit_any s 17 (by omega) (by omega) w hs)
  generalize nl = sep at *
  go_enter Tryz.func114, Tryz.ntmps114
  go_wp2_with fail
  refine HG.out.mono ?_
  rintro e w1 ⟨rfl, h1⟩
  have H1 := Lib.hid h1
  clear h1
  go_wp2_with fail
  go_ret
  exact ⟨rfl, H1.out⟩

end Go.Proofs.YtakgkocdkondhaaGreatDoor
end

section
namespace Go.Proofs.YtakgkocdkondhaaGreatDoor
open Go.RowKit Fl

/-! ### bytes of one's own -/
def uc (l : List UInt8) : List Value := l.map fun b => Value.int .u8 (b.toNat : Int)
def OwnB (w : World) (base : Nat) (v : Value) (l : List UInt8) : Prop := w.ownsRow base 5 1 v l.length (uc l)
theorem OwnB.nil (w : World) (base : Nat) : OwnB w base (.slice none 0 0) [] := World.ownsRow_nil _ _ _ _
theorem Tryz.infoU8 : (Tryz.prog.info? 5).map (fun i => (i.zero, i.size, i.bytes)) = some (some (.int .u8 0), 1, 1) := by kernel_rfl
/-- A text is appended to bytes of one's own. -/
theorem app_str {w : World} {ops : Array Oper} {rest : List Oper} {o : Oper} {a : Act} {Q : Exit → Act → World → Prop} (hgd : o.guard = none) (sl x : Operand)
    (ho : o.op = .call { callee := .builtin .append, args := #[sl, x], argTypes := #[160, 9] })
    (base : Nat) (v : Value) (l : List UInt8) (hs : a.eval sl = v) (hown : OwnB w base v l) (s : ByteArray) (hx : a.eval x = .string s) (hf : l.length + s.size ≤ 1048576) (hbase : base ≤ w.heap.size)
    (h : ∀ A' c' n' w', n' = (l ++ s.data.toList).length → OwnB w' base (.slice A' n' c') (l ++ s.data.toList) → Below base w w' → wpList Tryz.prog ops Q rest (a.put o.dst (.slice A' n' c')) w') : wpList Tryz.prog ops Q (o :: rest) a w := by
  obtain ⟨i0, hi, hz0, hz1, hz2⟩ := info_parts Tryz.infoU8
  refine Lib.wpList_append_own_string _ hgd sl x 160 9 ho base 5 i0 Tryz.underlying160 Tryz.underlying9 hi hz0 hz1 hz2 v l.length (uc l) hs hown s hx (by unfold maxLen; omega) (by omega) hbase ?_
  intro v' w' h1 h2 h3
  have hl : s.data.toList.length = s.size := by rw [Array.length_toList]; rfl
  have h1' : OwnB w' base v' (l ++ s.data.toList) := by
    unfold OwnB uc
    rw [List.length_append, hl, List.map_append]
    exact h1
  obtain ⟨A', c', rfl⟩ := ownsRow_shape h1'
  exact h A' c' _ w' rfl h1' (Below.grown (Below.refl _ _) h2 hbase (fun k hk => (World.ownsRow.lt hown k hk).1))
theorem nums_str (l : List UInt8) : strOfNums (l.map fun b => (b.toNat : Int)) = ⟨l.toArray⟩ := by
  unfold strOfNums
  congr 2
  rw [List.map_map]
  conv => rhs; rw [← List.map_id l]
  apply List.map_congr_left
  intro b _
  simp
/-- Bytes of one's own, told as a text. -/
theorem OwnB.conv {w : World} {base : Nat} {a : Option Addr} {n cap : Nat} {l : List UInt8} (h : OwnB w base (.slice a n cap) l) (hn : n = l.length) :
    (convert 160 9 (.slice a n cap)).run Tryz.prog w = .ok (.string ⟨l.toArray⟩) w := by
  subst hn
  rcases h.2 with ⟨e, h0⟩ | ⟨g, cap', cur, e, hg, hh, hnc, hcm, _⟩
  · simp only [Value.slice.injEq] at e
    obtain ⟨rfl, -, rfl⟩ := e
    have : l = [] := List.eq_nil_of_length_eq_zero h0
    subst this
    exact run_convert_bytes_nil w _ _ Tryz.underlying160 Tryz.underlying5 0 0 _ Tryz.underlying9
  · simp only [Value.slice.injEq] at e
    obtain ⟨rfl, -, rfl⟩ := e
    rw [← nums_str]
    refine run_convert_bytes_arg w _ _ Tryz.underlying160 Tryz.underlying5 g 0 l.length cap (l.map fun b => (b.toNat : Int)) (by simp) (fun i hi => ?_) _ Tryz.underlying9
    rw [Nat.zero_add, World.ownsRow.cellAt h i (by omega)]
    simp [uc, List.getD, List.getElem?_eq_getElem (show i < l.length by omega)]

/-! ### a robot's dock -/
/-- The first cell with that byte. -/
def IsFirst (s : ByteArray) (c d : Nat) : Prop := d < s.size ∧ at_ s d = c ∧ ∀ j, j < d → at_ s j ≠ c
theorem IsFirst.one {s : ByteArray} {c d e : Nat} (h : IsFirst s c d) (k : IsFirst s c e) : d = e := by
  rcases Nat.lt_trichotomy d e with x | x | x
  · exact absurd h.2.1 (k.2.2 d x)
  · exact x
  · exact absurd k.2.1 (h.2.2 e x)
theorem indexByte_at (c : UInt8) : ∀ (l : List UInt8) (i : Nat), l[i]? = some c → (∀ j, j < i → l[j]? ≠ some c) → Lib.indexByte l c = i
  | [], i, h, _ => by simp at h
  | b :: l, 0, h, _ => by
    simp at h
    subst h
    unfold Lib.indexByte
    simp
  | b :: l, i + 1, h, hn => by
    have h0 : (b == c) = false := by rw [beq_eq_false_iff_ne]; exact fun e => hn 0 (by omega) (by simp [e])
    have ih := indexByte_at c l i (by simpa using h) (fun j hj => by have := hn (j + 1) (by omega); simpa using this)
    unfold Lib.indexByte
    rw [h0, ih]
    have : ((i : Int) == -1) = false := by rw [beq_eq_false_iff_ne]; omega
    simp [this]
theorem at_some {s : ByteArray} {j : Nat} (h : j < s.size) : s.data.toList[j]? = some (UInt8.ofNat (at_ s j)) := by
  have hl : j < s.data.toList.length := by rw [Array.length_toList]; exact h
  unfold at_
  rw [List.getD, List.getElem?_eq_getElem hl]
  simp
theorem first_index {s : ByteArray} {c d : Nat} (hc : c < 256) (h : IsFirst s c d) : Lib.indexByte s.data.toList (UInt8.ofNat c) = d := by
  apply indexByte_at
  · rw [at_some h.1, h.2.1]
  · intro j hj e
    rw [at_some (Nat.lt_trans hj h.1)] at e
    have := congrArg UInt8.toNat (Option.some.inj e)
    have h2 := at_lt s j
    rw [UInt8.toNat_ofNat_of_lt' (by simpa using h2), UInt8.toNat_ofNat_of_lt' (by simpa using hc)] at this
    exact h.2.2 j hj this
theorem first_some (s : ByteArray) (c : Nat) (h : ∃ d, d < s.size ∧ at_ s d = c) : ∃ d, IsFirst s c d := by
  obtain ⟨d, h1, h2⟩ := h
  induction d using Nat.strongRecOn with
  | _ d ih =>
    by_cases k : ∃ j, j < d ∧ at_ s j = c
    · obtain ⟨j, hj, e⟩ := k
      exact ih j hj (by omega) e
    · exact ⟨d, h1, h2, fun j hj e => k ⟨j, hj, e⟩⟩
theorem right_first {W H : Int} {s : ByteArray} (h : Right W H s) (r : Nat) (hr : r < (pick isD (at_ s) s.size).length) : r < 8 ∧ ∃ d, IsFirst s (48 + r) d := by
  obtain ⟨a, b, rfl, rfl, hS, hR⟩ := rightNat h
  rw [hS.sz] at hr
  have hd : r < (docks a b (at_ s)).length := hr
  refine ⟨by have := hR.docks.few; omega, first_some s _ ?_⟩
  have h1 := hR.docks.once r hd
  obtain ⟨x, hx⟩ := List.exists_mem_of_length_pos (show 0 < (pick (fun c => c == 48 + r) (at_ s) (a * b)).length by unfold cnt at h1; omega)
  obtain ⟨h2, h3⟩ := mem_pick.1 hx
  exact ⟨x, by rw [hS.sz]; exact h2, by simpa using h3⟩

/-- A robot of a right floor. -/
def IsRobot (W H : Int) (s : ByteArray) (r : Int) : Prop := Right W H s ∧ 0 ≤ r ∧ r < (pick isD (at_ s) s.size).length
def DockTold (W H : Int) (s : ByteArray) (r : Int) (w : World) (e : Ending) (w' : World) : Prop := ∃ (n : Nat) (b : Bool), e = .returned (.tuple #[.int .i64 (n : Int), .bool b]) ∧ (IsRobot W H s r → IsFirst s (48 + r.toNat) n ∧ b = true) ∧ (¬ IsRobot W H s r → n = 0 ∧ b = false) ∧ Below w.heap.size w w'

set_option maxHeartbeats 1000000 in
theorem dock_any (W H : Int) (s : ByteArray) (hs : s.size ≤ maxLen) (r : Int) (w : World) :
    Calls Tryz.prog 30 #[.agg #[.int .i64 W, .int .i64 H, .string s], .int .i64 r] w (DockTold W H s r w) := by
  by_cases h0 : r < 0
  · have d0 : decide (r < 0) = true := by simpa using h0
    have HN : Hid (¬ IsRobot W H s r) := Lib.hid (fun h => by have := h.2.1; omega)
    go_enter Tryz.func30, Tryz.ntmps30
    go_wp2_with fail
    go_ret2
    exact ⟨0, false, rfl, fun h => absurd h HN.out, fun _ => ⟨rfl, rfl⟩, (Below.refl _ _).alloc (Nat.le_refl _) _⟩
  · obtain ⟨k, rfl⟩ := Int.eq_ofNat_of_zero_le (by omega : 0 ≤ r)
    have d0 : decide ((k : Int) < 0) = false := by simp
    clear h0
    go_enter Tryz.func30, Tryz.ntmps30
    go_wp2_with fail
    refine (robots_any W H s hs _).mono ?_
    rintro e w1 ⟨n, rfl, h1, h2, hb⟩
    have HB := Lib.hid ((Box.start w W H s 25).after hb)
    have H1 := Lib.hid h1
    have H2 := Lib.hid h2
    have e2 := HB.out.c2
    clear h1 h2 hb
    by_cases hk : n ≤ k
    · have HN : Hid (¬ IsRobot W H s (k : Int)) := Lib.hid (fun h => by have h3 := H1.out h.1; have h4 := h.2.2; omega)
      have hd : decide (n ≤ k) = true := by simpa using hk
      go_wp2_with fail
      go_ret2
      exact ⟨0, false, rfl, fun h => absurd h HN.out, fun _ => ⟨rfl, rfl⟩, HB.out.below⟩
    · have HR : Hid (Right W H s) := Lib.hid (by
        apply Classical.byContradiction
        intro h
        have := H2.out h
        omega)
      have hlt : k < (pick isD (at_ s) s.size).length := by rw [← H1.out HR.out]; omega
      obtain ⟨h8, d, hd⟩ := right_first HR.out k hlt
      have HY : Hid (IsRobot W H s (k : Int)) := Lib.hid ⟨HR.out, by omega, by omega⟩
      have HF : Hid (Lib.indexByte s.data.toList ((48 + (k : Int)).toNat.toUInt8) = d) := Lib.hid (by
        have e : (48 + (k : Int)).toNat.toUInt8 = UInt8.ofNat (48 + k) := by
          rw [show (48 + (k : Int)).toNat = 48 + k by omega]
        rw [e]
        exact first_index (by omega) hd)
      have HD := Lib.hid hd
      have hdn : decide (n ≤ k) = false := by simpa using hk
      clear hd hlt
      go_wp2_with (go_at_call 62; refine (indexByte_any _ _ _).mono ?_; rintro e w' ⟨rfl, rfl⟩)
      go_ret2
      exact ⟨d, true, ret_two (by rw [HF.out]) rfl, fun _ => ⟨HD.out, rfl⟩, fun h => absurd HY.out h, HB.out.below⟩

/-! ### a floor's text -/
/-- The first so many rows of a text, each with a byte 10 behind it. -/
def txt (W : Nat) (l : List UInt8) : Nat → List UInt8
  | 0 => []
  | y + 1 => txt W l y ++ (l.drop (y * W)).take W ++ [10]
def StrTold (P : Prop) (l : List UInt8) (w : World) (e : Ending) (w' : World) : Prop := ∃ t : ByteArray, e = .returned (.string t) ∧ (P → t = ⟨l.toArray⟩) ∧ (¬ P → t = ⟨#[]⟩) ∧ Below w.heap.size w w'
def sTxt (W H : Int) (s : ByteArray) : List UInt8 := txt W.toNat s.data.toList H.toNat


end Go.Proofs.YtakgkocdkondhaaGreatDoor
end

section
namespace Go.Proofs.YtakgkocdkondhaaGreatDoor.Fl
open Go

/-- Cut at each byte 10; 'cur' stands ahead already. -/
def cutA (cur : List UInt8) : List UInt8 → List (List UInt8)
  | [] => [cur]
  | c :: l => if c = 10 then cur :: cutA [] l else cutA (cur ++ [c]) l
def cut10 (l : List UInt8) : List (List UInt8) := cutA [] l
theorem cutA_nl (cur m : List UInt8) : cutA cur (m ++ [10]) = cutA cur m ++ [[]] := by
  induction m generalizing cur with
  | nil => simp [cutA]
  | cons c m ih =>
    simp only [List.cons_append, cutA]
    split
    · rw [ih]; rfl
    · rw [ih]
theorem cutA_last (cur m : List UInt8) (c : UInt8) (h : c ≠ 10) : ∃ L p, cutA cur (m ++ [c]) = L ++ [p ++ [c]] := by
  induction m generalizing cur with
  | nil => exact ⟨[], cur, by simp [cutA, h]⟩
  | cons d m ih =>
    simp only [List.cons_append, cutA]
    split
    · obtain ⟨L, p, e⟩ := ih []
      exact ⟨cur :: L, p, by rw [e]; rfl⟩
    · exact ih _
theorem cutA_free (cur l : List UInt8) (h : (10 : UInt8) ∉ l) : cutA cur l = [cur ++ l] := by
  induction l generalizing cur with
  | nil => simp [cutA]
  | cons c l ih =>
    simp only [List.mem_cons, not_or] at h
    rw [cutA, if_neg (fun e => h.1 e.symm), ih _ h.2]
    simp
theorem cutA_at (cur p q : List UInt8) (h : (10 : UInt8) ∉ p) : cutA cur (p ++ 10 :: q) = (cur ++ p) :: cut10 q := by
  induction p generalizing cur with
  | nil => simp [cutA, cut10]
  | cons c p ih =>
    simp only [List.mem_cons, not_or] at h
    rw [List.cons_append, cutA, if_neg (fun e => h.1 e.symm), ih _ h.2]
    simp
theorem cutA_pos (cur l : List UInt8) : 1 ≤ (cutA cur l).length := by
  induction l generalizing cur with
  | nil => simp [cutA]
  | cons c l ih =>
    rw [cutA]
    split
    · simp
    · exact ih _
theorem cutA_le (cur l : List UInt8) : (cutA cur l).length ≤ l.length + 1 := by
  induction l generalizing cur with
  | nil => simp [cutA]
  | cons c l ih =>
    rw [cutA]
    split
    · have := ih []
      simp; omega
    · have := ih (cur ++ [c])
      simp; omega

/-- The document's rows, the first i bytes looked at: those that are done, where the next one begins. -/
def rd (l : List UInt8) : Nat → List (List UInt8) × Nat
  | 0 => ([], 0)
  | i + 1 => if l.getD i 0 = 10 then ((rd l i).1 ++ [(l.drop (rd l i).2).take (i - (rd l i).2)], i + 1) else rd l i
theorem rd_le (l : List UInt8) (i : Nat) : (rd l i).2 ≤ i := by
  induction i with
  | zero => simp [rd]
  | succ i ih => rw [rd]; split <;> omega
def rowsL (l : List UInt8) : List (List UInt8) := if (rd l l.length).2 < l.length then (rd l l.length).1 ++ [l.drop (rd l l.length).2] else (rd l l.length).1
theorem rd_cut (l : List UInt8) (i : Nat) (hi : i ≤ l.length) : cut10 l = (rd l i).1 ++ cutA ((l.drop (rd l i).2).take (i - (rd l i).2)) (l.drop i) := by
  induction i with
  | zero => simp [rd, cut10]
  | succ i ih =>
    have hlt : i < l.length := by omega
    have h := ih (by omega)
    have hle := rd_le l i
    rw [List.drop_eq_getElem_cons hlt, cutA] at h
    have hg : l.getD i 0 = l[i] := by rw [List.getD, List.getElem?_eq_getElem hlt]; rfl
    rw [rd, hg]
    by_cases e : l[i] = 10
    · rw [if_pos e] at h ⊢
      rw [h]
      simp
    · rw [if_neg e] at h ⊢
      rw [h]
      congr 2
      have h2 : i + 1 - (rd l i).2 = (i - (rd l i).2) + 1 := by omega
      rw [h2, List.take_succ_eq_append_getElem (by rw [List.length_drop]; omega), List.getElem_drop]
      congr 3
      omega
theorem rows_cut (l : List UInt8) : cut10 l = (rd l l.length).1 ++ [l.drop (rd l l.length).2] := by
  have h := rd_cut l l.length (Nat.le_refl _)
  rw [List.drop_length, cutA] at h
  rw [h, List.take_of_length_le (by rw [List.length_drop]; exact Nat.le_refl _)]
def trim (l : List UInt8) : List UInt8 := Lib.trimSuffix l [10]
theorem trim_snoc (m : List UInt8) : trim (m ++ [10]) = m := by
  unfold trim Lib.trimSuffix Lib.hasSuffix
  rw [if_pos (by rw [List.isSuffixOf_iff_suffix]; exact ⟨m, rfl⟩)]
  simp
theorem trim_other (m : List UInt8) (c : UInt8) (h : c ≠ 10) : trim (m ++ [c]) = m ++ [c] := by
  unfold trim Lib.trimSuffix Lib.hasSuffix
  rw [if_neg]
  rw [List.isSuffixOf_iff_suffix]
  rintro ⟨t, e⟩
  have := List.append_inj_right' e rfl
  simp at this
  exact h this.symm
theorem rows_trim (l : List UInt8) (h : l ≠ []) : rowsL l = cut10 (trim l) := by
  have hc := rows_cut l
  unfold rowsL
  rcases List.eq_nil_or_concat l with rfl | ⟨m, c, rfl⟩
  · exact absurd rfl h
  · rw [List.concat_eq_append] at hc ⊢
    by_cases e : c = 10
    · subst e
      rw [trim_snoc]
      have h2 : cut10 (m ++ [10]) = cut10 m ++ [[]] := cutA_nl [] m
      rw [h2] at hc
      have h3 := List.append_inj_right' hc rfl
      have h4 := List.append_inj_left' hc rfl
      simp only [List.cons.injEq, and_true] at h3
      have h5 : (m ++ [10]).length ≤ (rd (m ++ [10]) (m ++ [10]).length).2 := by
        rw [← List.drop_eq_nil_iff]; exact h3.symm
      rw [if_neg (by omega), ← h4]
    · rw [trim_other m c e]
      obtain ⟨L, p, h2⟩ := cutA_last [] m c e
      have h2' : cut10 (m ++ [c]) = L ++ [p ++ [c]] := h2
      rw [h2'] at hc
      have h3 := List.append_inj_right' hc rfl
      simp only [List.cons.injEq, and_true] at h3
      rw [if_pos, h2', ← hc]
      apply Nat.lt_of_not_le
      intro k
      rw [List.drop_eq_nil_iff.2 k] at h3
      simp at h3

/-! ### so many pieces at most -/
theorem index_free (l : List UInt8) (h : Lib.index l [10] = -1) : (10 : UInt8) ∉ l := by
  induction l with
  | nil => simp
  | cons c l ih =>
    unfold Lib.index at h
    by_cases e : [10].isPrefixOf (c :: l) = true
    · rw [if_pos e] at h; cases h
    · rw [if_neg e] at h
      have hc : c ≠ 10 := by rintro rfl; exact e (by simp [List.isPrefixOf])
      by_cases k : (Lib.index l [10] == -1) = true
      · rw [List.mem_cons, not_or]
        exact ⟨fun e => hc e.symm, ih (by simpa using k)⟩
      · rw [if_neg k] at h
        have := Lib.index_ge l [10]
        have k' : Lib.index l [10] ≠ -1 := by simpa using k
        omega
theorem index_hit (l : List UInt8) (i : Nat) (h : Lib.index l [10] = i) : l = l.take i ++ 10 :: l.drop (i + 1) ∧ (10 : UInt8) ∉ l.take i := by
  induction l generalizing i with
  | nil => unfold Lib.index at h; simp at h
  | cons c l ih =>
    unfold Lib.index at h
    by_cases e : [10].isPrefixOf (c :: l) = true
    · rw [if_pos e] at h
      obtain rfl : i = 0 := by omega
      have hc : c = 10 := by have e2 := e; simp [List.isPrefixOf] at e2; exact e2.symm
      subst hc
      simp
    · rw [if_neg e] at h
      have hc : c ≠ 10 := by rintro rfl; exact e (by simp [List.isPrefixOf])
      by_cases k : (Lib.index l [10] == -1) = true
      · rw [if_pos k] at h; omega
      · rw [if_neg k] at h
        obtain ⟨j, rfl⟩ : ∃ j, i = j + 1 := ⟨i - 1, by have := Lib.index_ge l [10]; have k' : Lib.index l [10] ≠ -1 := by simpa using k
                                                       omega⟩
        obtain ⟨h1, h2⟩ := ih j (by omega)
        refine ⟨?_, ?_⟩
        · simp only [List.take_succ_cons, List.drop_succ_cons, List.cons_append]
          exact congrArg _ h1
        · rw [List.take_succ_cons, List.mem_cons, not_or]
          exact ⟨fun e => hc e.symm, h2⟩
/-- The pieces are those of the cut, but for the last one. -/
theorem pieces_cut (k : Nat) (l : List UInt8) : (Lib.splitK [10] 0 k l).length = min (k + 1) (cut10 l).length ∧ (∀ i, i < k → (Lib.splitK [10] 0 k l)[i]? = (cut10 l)[i]?) ∧ ((cut10 l).length ≤ k + 1 → Lib.splitK [10] 0 k l = cut10 l) := by
  induction k generalizing l with
  | zero =>
    have h1 := cutA_pos [] l
    refine ⟨by simp [Lib.splitK, cut10]; omega, fun i hi => by omega, fun h => ?_⟩
    by_cases e : (10 : UInt8) ∈ l
    · exfalso
      obtain ⟨i, hi⟩ : ∃ i : Nat, Lib.index l [10] = i := by
        have h2 := Lib.index_ge l [10]
        rcases Int.lt_or_le (Lib.index l [10]) 0 with h3 | h3
        · exact absurd e (index_free l (by omega))
        · exact ⟨(Lib.index l [10]).toNat, by omega⟩
      obtain ⟨h4, h5⟩ := index_hit l i hi
      have h6 : cut10 l = ([] ++ l.take i) :: cut10 (l.drop (i + 1)) := by
        have := cutA_at [] (l.take i) (l.drop (i + 1)) h5
        rw [← h4] at this
        exact this
      rw [h6] at h
      have := cutA_pos [] (l.drop (i + 1))
      have h9 : (cutA [] (l.drop (i + 1))).length + 1 ≤ 0 + 1 := h
      omega
    · have h7 : cut10 l = [[] ++ l] := cutA_free [] l e
      rw [h7]
      rfl
  | succ k ih =>
    unfold Lib.splitK
    by_cases e : (Lib.index l [10] == -1) = true
    · rw [if_pos e]
      have h7 : cut10 l = [[] ++ l] := cutA_free [] l (index_free l (by simpa using e))
      rw [h7]
      refine ⟨by simp, fun i hi => rfl, fun _ => rfl⟩
    · rw [if_neg e]
      obtain ⟨i, hi⟩ : ∃ i : Nat, Lib.index l [10] = i := by
        have h2 := Lib.index_ge l [10]
        have h3 : Lib.index l [10] ≠ -1 := by simpa using e
        exact ⟨(Lib.index l [10]).toNat, by omega⟩
      obtain ⟨h4, h5⟩ := index_hit l i hi
      have h6 : cut10 l = l.take i :: cut10 (l.drop (i + 1)) := by
        have := cutA_at [] (l.take i) (l.drop (i + 1)) h5
        rw [← h4] at this
        exact this
      rw [hi, Int.toNat_natCast, h6]
      obtain ⟨a1, a2, a3⟩ := ih (l.drop (i + 1))
      refine ⟨?_, fun j hj => ?_, fun h => ?_⟩
      · simp only [List.length_cons, List.length_nil, Nat.zero_add, Nat.add_zero] at a1 ⊢
        rw [a1]
        omega
      · cases j with
        | zero => rfl
        | succ j => simp only [List.getElem?_cons_succ]; exact a2 j (by omega)
      · simp only [List.length_cons] at h
        have := a3 (by omega)
        show l.take (i + 0) :: _ = _
        rw [Nat.add_zero]
        exact congrArg _ this

/-! ### what a text is parsed as -/
def w0 (R : List (List UInt8)) : Nat := (R.getD 0 []).length
def rowOk (n : Nat) (p : List UInt8) : Bool := decide (1 ≤ p.length) && decide (p.length ≤ 16) && decide (p.length = n) && p.all fun c => okc c.toNat
def bad (R : List (List UInt8)) (i : Nat) : Bool := decide (16 ≤ i) || !rowOk (w0 R) (R.getD i [])
def cells (R : List (List UInt8)) : ByteArray := ⟨R.flatten.toArray⟩
/-- The outcome. -/
def POut (R : List (List UInt8)) (W H : Int) (c : ByteArray) (row : Nat) (err : Int) : Prop :=
  (row < R.length ∧ bad R row = true ∧ (∀ j, j < row → bad R j = false) ∧ W = 0 ∧ H = 0 ∧ c = ⟨#[]⟩ ∧ err = 30) ∨
  ((∀ j, j < R.length → bad R j = false) ∧ Right (w0 R) R.length (cells R) ∧ W = w0 R ∧ H = R.length ∧ c = cells R ∧ row = 0 ∧ err = 0) ∨
  ((∀ j, j < R.length → bad R j = false) ∧ ¬ Right (w0 R) R.length (cells R) ∧ W = 0 ∧ H = 0 ∧ c = ⟨#[]⟩ ∧ row = R.length ∧ err = 30)
theorem POut.one {R : List (List UInt8)} {W H W' H' : Int} {c c' : ByteArray} {row row' : Nat} {err err' : Int} (h : POut R W H c row err) (k : POut R W' H' c' row' err') : W = W' ∧ H = H' ∧ c = c' ∧ row = row' ∧ err = err' := by
  rcases h with ⟨a1, a2, a3, rfl, rfl, rfl, rfl⟩ | ⟨a1, a2, rfl, rfl, rfl, rfl, rfl⟩ | ⟨a1, a2, rfl, rfl, rfl, rfl, rfl⟩ <;> rcases k with ⟨b1, b2, b3, rfl, rfl, rfl, rfl⟩ | ⟨b1, b2, rfl, rfl, rfl, rfl, rfl⟩ | ⟨b1, b2, rfl, rfl, rfl, rfl, rfl⟩
  · refine ⟨rfl, rfl, rfl, ?_, rfl⟩
    rcases Nat.lt_trichotomy row row' with x | x | x
    · have := b3 row x; rw [a2] at this; cases this
    · exact x
    · have := a3 row' x; rw [b2] at this; cases this
  · have := b1 row a1; rw [a2] at this; cases this
  · have := b1 row a1; rw [a2] at this; cases this
  · have := a1 row' b1; rw [b2] at this; cases this
  · exact ⟨rfl, rfl, rfl, rfl, rfl⟩
  · exact absurd a2 b2
  · have := a1 row' b1; rw [b2] at this; cases this
  · exact absurd b2 a2
  · exact ⟨rfl, rfl, rfl, rfl, rfl⟩
/-- Rows that are the document's but for what lies behind 16 of them. -/
theorem POut.of {R R' : List (List UInt8)} (h1 : R'.length = min 17 R.length) (h2 : ∀ i, i < 16 → R'[i]? = R[i]?) (h3 : R.length ≤ 17 → R' = R) {W H : Int} {c : ByteArray} {row : Nat} {err : Int} (h : POut R' W H c row err) : POut R W H c row err := by
  have hw : w0 R' = w0 R := by unfold w0; rw [List.getD, List.getD, h2 0 (by omega)]
  have hb : ∀ i, i ≤ 16 → bad R' i = bad R i := by
    intro i hi
    unfold bad
    rcases Nat.lt_or_ge i 16 with k | k
    · rw [hw, List.getD, List.getD, h2 i k]
    · rw [decide_eq_true k]; rfl
  rcases Nat.lt_or_ge 17 R.length with k | k
  · have hl : R'.length = 17 := by omega
    rcases h with ⟨a1, a2, a3, r⟩ | ⟨a1, r⟩ | ⟨a1, r⟩
    · exact .inl ⟨by omega, by rw [← hb row (by omega)]; exact a2, fun j hj => by rw [← hb j (by omega)]; exact a3 j hj, r⟩
    · have := a1 16 (by omega)
      unfold bad at this
      simp at this
    · have := a1 16 (by omega)
      unfold bad at this
      simp at this
  · rw [h3 k] at h; exact h
theorem POut.nil {W H : Int} {c : ByteArray} {row : Nat} {err : Int} (h : POut [[]] W H c row err) : POut [] W H c row err := by
  have hb : bad [[]] 0 = true := rfl
  have hr : ¬ Right (w0 []) (([] : List (List UInt8)).length) (cells []) := by
    rintro ⟨a, b, e1, e2, h, _⟩
    have := h.w1
    have e : w0 [] = 0 := rfl
    rw [e] at e1
    omega
  rcases h with ⟨a1, a2, a3, r⟩ | ⟨a1, r⟩ | ⟨a1, r⟩
  · have : row = 0 := by simpa using a1
    subst this
    obtain ⟨rfl, rfl, rfl, rfl⟩ := r
    exact .inr (.inr ⟨fun j hj => by simp at hj, hr, rfl, rfl, rfl, rfl, rfl⟩)
  · have := a1 0 (by simp); rw [hb] at this; cases this
  · have := a1 0 (by simp); rw [hb] at this; cases this

end Go.Proofs.YtakgkocdkondhaaGreatDoor.Fl
end

section
namespace Go.Proofs.YtakgkocdkondhaaGreatDoor
open Go.RowKit Fl

/-- The texts P lie in block g. -/
structure Strs (w : World) (g : Nat) (P : List ByteArray) : Prop where
  lt : g < w.heap.size
  cell : ∀ i, i < P.length → w.cell? ⟨g, i, none⟩ = some (.string (P.getD i ⟨#[]⟩))
theorem Strs.later {w w' : World} {g : Nat} {P : List ByteArray} (h : Strs w g P) (hb : Below w.heap.size w w') : Strs w' g P :=
  ⟨Nat.lt_of_lt_of_le h.lt hb.size, fun i hi => (hb.cell (p := ⟨g, i, none⟩) h.lt).trans (h.cell i hi)⟩
/-- The rows as lists of bytes. -/
def listsOf (P : List ByteArray) : List (List UInt8) := P.map fun p => p.data.toList
theorem lists_len (P : List ByteArray) : (listsOf P).length = P.length := by simp [listsOf]
theorem lists_get (P : List ByteArray) (i : Nat) : (listsOf P).getD i [] = (P.getD i ⟨#[]⟩).data.toList := by
  unfold listsOf
  rw [List.getD, List.getD, List.getElem?_map]
  cases P[i]? <;> rfl
theorem size_list (p : ByteArray) : p.data.toList.length = p.size := by rw [Array.length_toList]; rfl

def trimB (s : ByteArray) : ByteArray := ⟨(trim s.data.toList).toArray⟩
theorem trimB_list (s : ByteArray) : (trimB s).data.toList = trim s.data.toList := by simp [trimB]
theorem trim_le (l : List UInt8) : (trim l).length ≤ l.length := by
  unfold trim Lib.trimSuffix
  split
  · rw [List.length_take]; omega
  · exact Nat.le_refl _
theorem trimB_le (s : ByteArray) : (trimB s).size ≤ s.size := by
  rw [← size_list, ← size_list, trimB_list]; exact trim_le _
theorem rows_pieces (t : ByteArray) : (listsOf (pieces 17 t)).length = min 17 (cut10 t.data.toList).length ∧ (∀ i, i < 16 → (listsOf (pieces 17 t))[i]? = (cut10 t.data.toList)[i]?) ∧ ((cut10 t.data.toList).length ≤ 17 → listsOf (pieces 17 t) = cut10 t.data.toList) := by
  have e : listsOf (pieces 17 t) = Lib.splitK [10] 0 (room 17 t - 1) t.data.toList := Lib.splitB_data nl 0 (room 17 t - 1) t
  rw [e]
  obtain ⟨a1, a2, a3⟩ := pieces_cut (room 17 t - 1) t.data.toList
  have hle := cutA_le [] t.data.toList
  rw [size_list] at hle
  have hle2 : (cut10 t.data.toList).length ≤ t.size + 1 := hle
  unfold room at *
  rcases Nat.lt_or_ge t.size 17 with k | k
  · have h3 := a3 (by omega)
    exact ⟨by rw [a1]; omega, fun i hi => by rw [h3], fun _ => h3⟩
  · exact ⟨by rw [a1]; omega, fun i hi => a2 i (by omega), fun h => a3 (by omega)⟩
theorem pieces_le (t : ByteArray) : (pieces 17 t).length ≤ 17 := by
  have h := (rows_pieces t).1
  rw [lists_len] at h
  omega
theorem pieces_pos (t : ByteArray) : 1 ≤ (pieces 17 t).length := by
  have h := (rows_pieces t).1
  have := cutA_pos [] t.data.toList
  rw [lists_len] at h
  unfold cut10 at h
  omega

def RowsTold (P : List ByteArray) (w : World) (e : Ending) (w' : World) : Prop := ∃ g c, e = .returned (.slice (some ⟨g, 0, none⟩) P.length c) ∧ Strs w' g P ∧ Below w.heap.size w w'
theorem rowsOf_any (s : ByteArray) (hs : s.size ≤ 2000) (w : World) :
    Calls Tryz.prog 82 #[.string s] w (RowsTold (pieces 17 (trimB s)) w) := by
  have hle := trimB_le s
  have HT := Lib.hid (trim_any s w (by omega))
  have HS := Lib.hid (splitN_any (trimB s) w (by omega))
  have HLE := Lib.hid (pieces_le (trimB s))
  have HQ : Hid ((⟨(Lib.trimSuffix s.data.toList [10]).toArray⟩ : ByteArray) = trimB s) := Lib.hid rfl
  rw [show nl = ⟨#[10]⟩ from rfl] at HT HS
  go_enter Tryz.func82, Tryz.ntmps82
  go_wp2_with fail
  refine HT.out.mono ?_
  rintro e w1 ⟨rfl, rfl⟩
  rw [HQ.out]
  go_wp2_with fail
  refine HS.out.mono ?_
  rintro e w2 ⟨rfl, h2⟩
  have H2 := Lib.hid h2
  clear h2
  go_wp2_with fail
  go_ret
  refine ⟨w.heap.size, _, rfl, ?_, ?_⟩
  · rw [H2.out]
    refine ⟨by simp, fun i hi => ?_⟩
    rw [World.cell?_alloc_new]
    unfold Lib.cellsOf
    rw [List.getElem?_toArray, List.getElem?_append_left (by simpa using hi), List.getElem?_map, List.getD, List.getElem?_eq_getElem hi]
    rfl
  · rw [H2.out]
    exact (Below.refl _ _).alloc (Nat.le_refl _) _

theorem okAll_list (p : ByteArray) : okAll p = p.data.toList.all fun c => okc c.toNat := by
  rw [Bool.eq_iff_iff, okAll_iff, List.all_eq_true]
  constructor
  · intro h x hx
    obtain ⟨i, hi, rfl⟩ := List.mem_iff_getElem.1 hx
    have := h i (by rw [← size_list]; exact hi)
    unfold at_ at this
    rw [List.getD, List.getElem?_eq_getElem hi] at this
    exact this
  · intro h i hi
    have hi' : i < p.data.toList.length := by rw [size_list]; exact hi
    unfold at_
    rw [List.getD, List.getElem?_eq_getElem hi']
    exact h _ (List.getElem_mem hi')

theorem rowRight_is (p : ByteArray) (hp : p.size ≤ maxLen) (n : Nat) (b : Bool) (w : World) (h : rowOk n p.data.toList = b) :
    Calls Tryz.prog 83 #[.string p, .int .i64 (n : Int)] w fun e w' => e = .returned (.bool b) ∧ w = w' := by
  have hp' := hp
  unfold maxLen at hp'
  unfold rowOk at h
  rw [size_list, ← okAll_list] at h
  have hb : b = (okSide (p.size : Int) && decide (p.size = n) && okAll p) := by
    rw [← h]
    unfold okSide
    have e1 : decide ((1 : Int) ≤ (p.size : Int)) = decide (1 ≤ p.size) := by rw [decide_eq_decide]; omega
    have e2 : decide ((p.size : Int) ≤ 16) = decide (p.size ≤ 16) := by rw [decide_eq_decide]; omega
    rw [e1, e2]
  have HB := Lib.hid hb
  clear h hb
  cases h1 : okSide (p.size : Int) with
  | false =>
    have HE : Hid (b = false) := Lib.hid (by rw [HB.out, h1]; rfl)
    go_enter Tryz.func83, Tryz.ntmps83
    go_wp2_with (go_at_call 74; refine (sideRight_any _ _).mono ?_; rintro e w' ⟨rfl, rfl⟩)
    go_ret
    exact ⟨ret_bool HE.out.symm, rfl⟩
  | true =>
    by_cases h2 : p.size = n
    · have hq : ((p.size : Int) == (n : Int)) = true := by rw [beq_iff_eq, h2]
      have HE : Hid (b = okAll p) := Lib.hid (by rw [HB.out, h1, decide_eq_true h2]; rfl)
      clear h2
      go_enter Tryz.func83, Tryz.ntmps83
      go_wp2_with (first
        | (go_at_call 74; refine (sideRight_any _ _).mono ?_; rintro e w' ⟨rfl, rfl⟩)
        | (go_at_call 75; refine (bytesRight_any p hp _).mono ?_; rintro e w' ⟨rfl, rfl⟩))
      go_ret
      exact ⟨ret_bool HE.out.symm, rfl⟩
    · have hq : ((p.size : Int) == (n : Int)) = false := by rw [beq_eq_false_iff_ne]; omega
      have HE : Hid (b = false) := Lib.hid (by rw [HB.out, h1, decide_eq_false h2]; rfl)
      clear h2
      go_enter Tryz.func83, Tryz.ntmps83
      go_wp2_with (go_at_call 74; refine (sideRight_any _ _).mono ?_; rintro e w' ⟨rfl, rfl⟩)
      go_ret
      exact ⟨ret_bool HE.out.symm, rfl⟩

theorem flat_take (P : List ByteArray) (i : Nat) (h : i < P.length) : (listsOf (P.take (i + 1))).flatten = (listsOf (P.take i)).flatten ++ (P.getD i ⟨#[]⟩).data.toList := by
  unfold listsOf
  rw [List.take_succ_eq_append_getElem h, List.map_append, List.flatten_append, List.getD, List.getElem?_eq_getElem h]
  simp
theorem flat_le (P : List ByteArray) (hp : ∀ i, i < P.length → (P.getD i ⟨#[]⟩).size ≤ 16) (i : Nat) (h : i ≤ P.length) : (listsOf (P.take i)).flatten.length ≤ i * 16 := by
  induction i with
  | zero => simp [listsOf]
  | succ i ih =>
    rw [flat_take P i (by omega), List.length_append, size_list]
    have := ih (by omega)
    have := hp i (by omega)
    omega
def JoinTold (P : List ByteArray) (w : World) (e : Ending) (w' : World) : Prop := e = .returned (.string (cells (listsOf P))) ∧ Below w.heap.size w w'
set_option maxHeartbeats 1000000 in
theorem join_any (g c : Nat) (P : List ByteArray) (w : World) (h : Strs w g P) (hl : P.length ≤ 17) (hp : ∀ i, i < P.length → (P.getD i ⟨#[]⟩).size ≤ 16) :
    Calls Tryz.prog 84 #[.slice (some ⟨g, 0, none⟩) P.length c] w (JoinTold P w) := by
  have HS := Lib.hid h
  have HP := Lib.hid hp
  clear h hp
  go_enter Tryz.func84, Tryz.ntmps84
  go_wp2_with fail
  go_loopw [3, 8] (fun v iv wr => ∃ i : Nat, i ≤ P.length ∧ iv = .int .i64 (i : Int) ∧ Below w.heap.size w wr ∧ ∃ A n c, v = .slice A n c ∧ n = ((listsOf (P.take i)).flatten).length ∧ OwnB wr w.heap.size (.slice A n c) ((listsOf (P.take i)).flatten)) (fun _ iv _ => P.length - (intOf iv).toNat)
  case atStart => exact ⟨0, Nat.zero_le _, rfl, Below.refl _ _, _, _, _, rfl, rfl, OwnB.nil _ _⟩
  case round =>
    rename World => wr
    obtain ⟨i, hi, rfl, hB, A, n, c2, rfl, hn, ho⟩ := hrel
    have HB := Lib.hid hB
    have HO := Lib.hid ho
    have HN := Lib.hid hn
    have hfl := flat_le P HP.out i hi
    have hz := hB.size
    clear hB ho hn
    by_cases hlt : i < P.length
    · have hc := (HS.out.later HB.out).cell i hlt
      have hps := HP.out i hlt
      have HF := Lib.hid (flat_take P i hlt)
      generalize P.getD i ⟨#[]⟩ = p at *
      generalize (listsOf (P.take i)).flatten = l at *
      go_wp2_with (at_builtin; refine app_str rfl _ _ rfl w.heap.size _ l rfl HO.out p rfl (by omega) hz ?_; intro A5 c5 n5 w5 hn5 ho5 hb5; have HN5 := Lib.hid hn5; clear hn5)
      go_roundw
      case rel => exact ⟨i + 1, by omega, by go_num, HB.out.trans hb5, A5, n5, c5, rfl, by rw [HF.out]; exact HN5.out, by rw [HF.out]; exact ho5⟩
      case measure => simp [intOf]; omega
    · obtain rfl : i = P.length := by omega
      have hcv := HO.out.conv HN.out
      have HE : Hid ((⟨((listsOf (P.take P.length)).flatten).toArray⟩ : ByteArray) = cells (listsOf P)) := Lib.hid (by rw [List.take_length]; rfl)
      rw [HE.out] at hcv
      go_wp2_with fail
      go_ret
      exact ⟨rfl, HB.out⟩

end Go.Proofs.YtakgkocdkondhaaGreatDoor
end

section
namespace Go.Proofs.YtakgkocdkondhaaGreatDoor
open Go.RowKit Fl

/-- What a text is parsed as is told. -/
def PTold (R : List (List UInt8)) (w : World) (e : Ending) (w' : World) : Prop :=
  ∃ (W H : Int) (c : ByteArray) (row : Nat) (err : Int), e = .returned (.tuple #[.agg #[.int .i64 W, .int .i64 H, .string c], .int .i64 (row : Int), .int .i64 err]) ∧ POut R W H c row err ∧ Below w.heap.size w w'
theorem out_rows {s : ByteArray} {W H : Int} {c : ByteArray} {row : Nat} {err : Int} (h : POut (listsOf (pieces 17 (trimB s))) W H c row err) : POut (rowsL s.data.toList) W H c row err := by
  obtain ⟨a1, a2, a3⟩ := rows_pieces (trimB s)
  rw [trimB_list] at a1 a2 a3
  by_cases hl : s.data.toList = []
  · rw [hl] at a3 ⊢
    have h3 := a3 (by decide)
    rw [h3] at h
    exact POut.nil h
  · rw [rows_trim _ hl]
    exact POut.of a1 a2 a3 h
/-- The answer's block, the rows' block. -/
structure PB (w wr : World) (g : Nat) (P : List ByteArray) : Prop where
  box : Box w 0 0 ⟨#[]⟩ wr
  strs : Strs wr g P
  fz : ∀ o, wr.frozen? ⟨w.heap.size, o, none⟩ = false
theorem PB.later {w wr wx : World} {g : Nat} {P : List ByteArray} (h : PB w wr g P) (hb : Below wr.heap.size wr wx) : PB w wx g P :=
  ⟨h.box.after hb, h.strs.later hb, fun o => (hb.frozen (p := ⟨w.heap.size, o, none⟩) h.box.lt).trans (h.fz o)⟩
theorem row_all {P : List ByteArray} {j : Nat} (h : bad (listsOf P) j = false) : j < 16 ∧ rowOk (P.getD 0 ⟨#[]⟩).size (P.getD j ⟨#[]⟩).data.toList = true := by
  unfold bad at h
  rw [lists_get] at h
  have e : w0 (listsOf P) = (P.getD 0 ⟨#[]⟩).size := by unfold w0; rw [lists_get, size_list]
  rw [e] at h
  simp only [Bool.or_eq_false_iff, decide_eq_false_iff_not, Bool.not_eq_false'] at h
  exact ⟨by omega, h.2⟩
theorem w0_size (P : List ByteArray) : w0 (listsOf P) = (P.getD 0 ⟨#[]⟩).size := by unfold w0; rw [lists_get, size_list]
theorem bad_of {P : List ByteArray} {j : Nat} (h : 16 ≤ j ∨ rowOk (P.getD 0 ⟨#[]⟩).size (P.getD j ⟨#[]⟩).data.toList = false) : bad (listsOf P) j = true := by
  unfold bad
  rw [lists_get, w0_size]
  rcases h with h | h
  · rw [decide_eq_true h]; rfl
  · rw [h]; simp
theorem bad_not {P : List ByteArray} {j : Nat} (h1 : j < 16) (h : rowOk (P.getD 0 ⟨#[]⟩).size (P.getD j ⟨#[]⟩).data.toList = true) : bad (listsOf P) j = false := by
  unfold bad
  rw [lists_get, w0_size, h, decide_eq_false (by omega)]
  rfl

theorem split_size (k : Nat) (s p : ByteArray) (h : p ∈ Lib.splitB nl 0 k s) : p.size ≤ s.size := by
  induction k generalizing s with
  | zero =>
    rw [Lib.splitB, List.mem_singleton] at h
    subst h; exact Nat.le_refl _
  | succ k ih =>
    unfold Lib.splitB at h
    split at h
    · rw [List.mem_singleton] at h
      subst h; exact Nat.le_refl _
    · rcases List.mem_cons.1 h with rfl | h2
      · rw [ByteArray.size_extract]; omega
      · have := ih _ h2
        rw [ByteArray.size_extract] at this
        omega
/-- The answer is laid. -/
theorem put3 {w wq : World} {W H W' H' : Int} {c c' : ByteArray} (h : Box w W H c wq) :
    let wz := ((wq.setCell ⟨w.heap.size, 0, none⟩ (.int .i64 W')).setCell ⟨w.heap.size, 1, none⟩ (.int .i64 H')).setCell ⟨w.heap.size, 2, none⟩ (.string c')
    wz.cell? ⟨w.heap.size, 0, none⟩ = some (.int .i64 W') ∧ wz.cell? ⟨w.heap.size, 1, none⟩ = some (.int .i64 H') ∧ wz.cell? ⟨w.heap.size, 2, none⟩ = some (.string c') ∧ Below w.heap.size w wz := by
  intro wz
  have n01 : (⟨w.heap.size, 0, none⟩ : Addr) ≠ ⟨w.heap.size, 1, none⟩ := by simp
  have n02 : (⟨w.heap.size, 0, none⟩ : Addr) ≠ ⟨w.heap.size, 2, none⟩ := by simp
  have n12 : (⟨w.heap.size, 1, none⟩ : Addr) ≠ ⟨w.heap.size, 2, none⟩ := by simp
  refine ⟨?_, ?_, ?_, ((h.below.setCell (p := ⟨w.heap.size, 0, none⟩) (Nat.le_refl _) _).setCell (p := ⟨w.heap.size, 1, none⟩) (Nat.le_refl _) _).setCell (p := ⟨w.heap.size, 2, none⟩) (Nat.le_refl _) _⟩
  · rw [World.cell?_setCell_other (h := n02.symm), World.cell?_setCell_other (h := n01.symm), World.cell?_setCell_same (h := h.c0)]
  · rw [World.cell?_setCell_other (h := n12.symm), World.cell?_setCell_same (u := .int .i64 H) (h := by rw [World.cell?_setCell_other (h := n01)]; exact h.c1)]
  · rw [World.cell?_setCell_same (u := .string c) (h := by rw [World.cell?_setCell_other (h := n12), World.cell?_setCell_other (h := n02)]; exact h.c2)]

set_option maxHeartbeats 4000000 in
theorem parse_any (s : ByteArray) (hs : s.size ≤ 2000) (w : World) : Calls Tryz.prog 39 #[.string s] w (PTold (rowsL s.data.toList) w) := by
  have HO := Lib.hid (fun (W H : Int) (c : ByteArray) (row : Nat) (err : Int) => out_rows (s := s) (W := W) (H := H) (c := c) (row := row) (err := err))
  have HRO := Lib.hid (fun wx => rowsOf_any s hs wx)
  have hpl := pieces_le (trimB s)
  have hpp := pieces_pos (trimB s)
  have HSZ : Hid (∀ i, i < (pieces 17 (trimB s)).length → ((pieces 17 (trimB s)).getD i ⟨#[]⟩).size ≤ maxLen) := Lib.hid (fun i hi => by
    have h1 : (pieces 17 (trimB s)).getD i ⟨#[]⟩ ∈ pieces 17 (trimB s) := by rw [List.getD, List.getElem?_eq_getElem hi]; exact List.getElem_mem hi
    have h2 := split_size _ _ _ h1
    have h3 := trimB_le s
    unfold maxLen
    omega)
  generalize pieces 17 (trimB s) = P at *
  go_enter Tryz.func39, Tryz.ntmps39
  go_wp2_with fail
  refine (HRO.out _).mono ?_
  rintro e w1 ⟨g, c, rfl, hst, hb⟩
  have HPB : Hid (PB w w1 g P) := Lib.hid ⟨(Box.start w 0 0 ⟨#[]⟩ 25).after hb, hst, fun o => (hb.frozen (p := ⟨w.heap.size, o, none⟩) (by simp)).trans (World.frozen?_alloc_new _ _ _ _)⟩
  clear hst hb HRO
  go_wp2_with fail
  go_loopw [12] (fun iv wr => ∃ y : Nat, y ≤ P.length ∧ iv = .int .i64 (y : Int) ∧ PB w wr g P ∧ ∀ j, j < y → bad (listsOf P) j = false) (fun iv _ => P.length - (intOf iv).toNat)
  case atStart => exact ⟨0, Nat.zero_le _, rfl, HPB.out, fun j hj => by omega⟩
  case round =>
    rename World => wr
    obtain ⟨y, hy, rfl, hPB, hJ⟩ := hrel
    have HB := Lib.hid hPB
    have HJ := Lib.hid hJ
    have k0 := hPB.box.c0
    have k1 := hPB.box.c1
    have k2 := hPB.box.c2
    have f0 := hPB.fz 0
    have f1 := hPB.fz 1
    have f2 := hPB.fz 2
    have hz := hPB.box.lt
    clear hPB hJ
    by_cases hlt : y < P.length
    · have cy := HB.out.strs.cell y hlt
      have c0 := HB.out.strs.cell 0 (by omega)
      have i1 : (y : Int) < (P.length : Int) := by omega
      by_cases h16 : 16 ≤ y
      · have d16 : decide (16 ≤ y) = true := by simpa using h16
        have d16' : decide (16 ≤ (y : Int)) = true := by simp; omega
        have HBD := Lib.hid (bad_of (P := P) (.inl h16))
        go_wp2_with fail
        go_big_quiet (fail)
        go_wp2_with fail
        obtain ⟨z0, z1, z2, zb⟩ := put3 (W' := 0) (H' := 0) (c' := ⟨#[]⟩) (HB.out.box.later (below_drewN _ _ nq))
        exact bodyPost_ret (v := .tuple #[.agg #[.int .i64 0, .int .i64 0, .string ⟨#[]⟩], .int .i64 (y : Int), .int .i64 30]) (by simp [results, Tryz.results39, go_sem, z0, z1, z2]) rfl ⟨0, 0, _, y, 30, rfl, HO.out _ _ _ _ _ (.inl ⟨by rw [lists_len]; exact hlt, HBD.out, HJ.out, rfl, rfl, rfl, rfl⟩), zb⟩
      · have d16 : decide (16 ≤ y) = false := by simpa using h16
        have d16' : decide (16 ≤ (y : Int)) = false := by simp; omega
        have hpy := HSZ.out y hlt
        have hp0 := HSZ.out 0 (by omega)
        have HBF := Lib.hid (fun h => bad_of (P := P) (j := y) (.inr h))
        have HBT := Lib.hid (fun h => bad_not (P := P) (j := y) (by omega) h)
        generalize P.getD y ⟨#[]⟩ = p at *
        generalize P.getD 0 ⟨#[]⟩ = p0 at *
        have hp0' := hp0
        unfold maxLen at hp0'
        cases hok : rowOk p0.size p.data.toList with
        | false =>
          have HBD := Lib.hid (HBF.out hok)
          go_wp2_with fail
          go_big_quiet ((go_at_call 83; exact Calls.quiet_of_same ((rowRight_is p hpy p0.size false _ hok).mono (fun e w' ⟨h, k⟩ => ⟨h, k.symm⟩))))
          go_wp2_with fail
          obtain ⟨z0, z1, z2, zb⟩ := put3 (W' := 0) (H' := 0) (c' := ⟨#[]⟩) (HB.out.box.later (below_drewN _ _ nq))
          exact bodyPost_ret (v := .tuple #[.agg #[.int .i64 0, .int .i64 0, .string ⟨#[]⟩], .int .i64 (y : Int), .int .i64 30]) (by simp [results, Tryz.results39, go_sem, z0, z1, z2]) rfl ⟨0, 0, _, y, 30, rfl, HO.out _ _ _ _ _ (.inl ⟨by rw [lists_len]; exact hlt, HBD.out, HJ.out, rfl, rfl, rfl, rfl⟩), zb⟩
        | true =>
          have HBD := Lib.hid (HBT.out hok)
          go_wp2_with fail
          go_big_quiet ((go_at_call 83; exact Calls.quiet_of_same ((rowRight_is p hpy p0.size true _ hok).mono (fun e w' ⟨h, k⟩ => ⟨h, k.symm⟩))))
          go_wp2_with fail
          go_roundw
          case rel => exact ⟨y + 1, by omega, by go_num, HB.out.later (below_drewN _ _ _), fun j hj => by rcases Nat.lt_succ_iff_lt_or_eq.1 hj with h | h; exact HJ.out j h; rw [h]; exact HBD.out⟩
          case measure => simp [intOf]; omega
    · obtain rfl : y = P.length := by omega
      have c0 := HB.out.strs.cell 0 (by omega)
      have i1 : (0 : Int) < (P.length : Int) := by omega
      have i2 : 0 < P.length := by omega
      have HRW : Hid (∀ i, i < P.length → (P.getD i ⟨#[]⟩).size ≤ 16) := Lib.hid (fun i hi => by
        have h := (row_all (HJ.out i hi)).2
        unfold rowOk at h
        rw [size_list] at h
        simp only [Bool.and_eq_true, decide_eq_true_eq] at h
        exact h.1.1.2)
      have HW0 : Hid (((w0 (listsOf P) : Nat) : Int) = ((P.getD 0 ⟨#[]⟩).size : Int)) := Lib.hid (by rw [w0_size])
      have HCS : Hid ((cells (listsOf P)).size ≤ maxLen) := Lib.hid (by
        have h := flat_le P HRW.out P.length (Nat.le_refl _)
        rw [List.take_length] at h
        have e : (cells (listsOf P)).size = (listsOf P).flatten.length := by rw [← size_list]; simp [cells]
        rw [e]
        unfold maxLen
        omega)
      have hp0 := HRW.out 0 (by omega)
      have hgl := HB.out.strs.lt
      generalize P.getD 0 ⟨#[]⟩ = p0 at *
      have HJN := Lib.hid (fun wx h => join_any g c P wx h hpl HRW.out)
      have hne := World.new_ne wr _ c0
      have hne1 : wr.heap.size ≠ g := by omega
      have hne2 : g ≠ wr.heap.size := by omega
      go_upto_region 8 with (fail)
      go_cut [7] (fun v wc => ∃ g7 : Nat, v = .pointer (some ⟨g7, 0, none⟩) ∧ wc.cell? ⟨g7, 0, none⟩ = some (.int .i64 (p0.size : Int)) ∧ wc.cell? ⟨g7, 1, none⟩ = some (.int .i64 (P.length : Int)) ∧ wc.cell? ⟨g7, 2, none⟩ = some (.string (cells (listsOf P))) ∧ g7 < wc.heap.size ∧ w.heap.size < g7 ∧ PB w wc g P)
      case first =>
        go_region_held3 (fun w' => w'.cell? ⟨g, 0, none⟩ = some (.string p0)) (go_keep)
          ((go_at_call 84; refine (HJN.out _ (by first | exact HB.out.strs.later ((Below.refl _ _).drew) | exact HB.out.strs.later (((Below.refl _ _).alloc (Nat.le_refl _) _).drew))).mono ?_; rintro e w2 ⟨rfl, hb2⟩; have e0 : w2.cell? ⟨g, 0, none⟩ = some (.string p0) := ((hb2.cell (p := ⟨g, 0, none⟩) (by simp; omega)).trans (by simp [World.cell?_alloc_lt, hgl, c0])); have hcl := fun (b o : Nat) (h : b < _) => hb2.cell (p := ⟨b, o, none⟩) h; have hfl := fun (b o : Nat) (h : b < _) => hb2.frozen (p := ⟨b, o, none⟩) h; have hsz2 := hb2.size; simp at hsz2))
        all_goals
          go_wp2_with fail
          go_meet
          first
            | exact ⟨w2.heap.size, rfl, by simp [World.cell?_alloc_new], by simp [World.cell?_alloc_new], by simp [World.cell?_alloc_new], by simp, Nat.lt_of_lt_of_le hz (show wr.heap.size ≤ w2.heap.size from hb2.size), HB.out.later (((Below.refl wr.heap.size wr).drew.trans hb2).alloc (show wr.heap.size ≤ w2.heap.size from hb2.size) _)⟩
            | (obtain ⟨z0, z1, z2, zb⟩ := put3 (W' := (p0.size : Int)) (H' := (P.length : Int)) (c' := cells (listsOf P)) ((Box.start wr 0 0 ⟨#[]⟩ 25).drew.after hb2)
               exact ⟨wr.heap.size, rfl, z0, z1, z2, (by have h := ((Box.start wr 0 0 ⟨#[]⟩ 25).drew.after hb2).lt; simp [World.setCell]; omega), hz, HB.out.later zb⟩)
      case rest =>
        obtain ⟨g7, rfl, q0, q1, q2, hg7, hw7, hPB⟩ := hcut
        have HB := Lib.hid hPB
        have HRI := Lib.hid (fun wx => right_any (p0.size : Int) (P.length : Int) (cells (listsOf P)) HCS.out wx)
        have HWE : Hid (Right (p0.size : Int) (P.length : Int) (cells (listsOf P)) ↔ Right (w0 (listsOf P) : Int) ((listsOf P).length : Int) (cells (listsOf P))) := Lib.hid (by rw [HW0.out, lists_len])
        have HAL : Hid (∀ j, j < (listsOf P).length → bad (listsOf P) j = false) := Lib.hid (by rw [lists_len]; exact HJ.out)
        have HCE : Hid (cells (listsOf P) = cells (listsOf P)) := Lib.hid rfl
        clear hPB k0 k1 k2 f0 f1 f2 c0 hgl hne hne1 hne2
        generalize hcq : cells (listsOf P) = cc at *
        have HCQ := Lib.hid hcq
        clear hcq
        go_wp2_with fail
        refine (HRI.out _).mono ?_
        rintro e w4 ⟨b, rfl, hb4, hw4⟩
        have HB4 := Lib.hid (HB.out.later hw4)
        have r0 := (hw4.cell (p := ⟨g7, 0, none⟩) hg7).trans q0
        have r1 := (hw4.cell (p := ⟨g7, 1, none⟩) hg7).trans q1
        have r2 := (hw4.cell (p := ⟨g7, 2, none⟩) hg7).trans q2
        have k0 := HB4.out.box.c0
        have k1 := HB4.out.box.c1
        have k2 := HB4.out.box.c2
        have f0 := HB4.out.fz 0
        have f1 := HB4.out.fz 1
        have f2 := HB4.out.fz 2
        have HRB := Lib.hid hb4
        clear hb4 hw4 q0 q1 q2 hg7 HRI
        cases b
        · have HNo : Hid (¬ Right (w0 (listsOf P) : Int) ((listsOf P).length : Int) cc) := Lib.hid (fun h => by have := HRB.out.2 (HWE.out.2 h); cases this)
          go_wp2_with fail
          obtain ⟨z0, z1, z2, zb⟩ := put3 (W' := 0) (H' := 0) (c' := ⟨#[]⟩) HB4.out.box
          exact bodyPost_ret (v := .tuple #[.agg #[.int .i64 0, .int .i64 0, .string ⟨#[]⟩], .int .i64 (P.length : Int), .int .i64 30]) (by simp [results, Tryz.results39, go_sem, z0, z1, z2]) rfl ⟨0, 0, _, P.length, 30, rfl, HO.out _ _ _ _ _ (.inr (.inr ⟨HAL.out, by rw [HCQ.out]; exact HNo.out, rfl, rfl, rfl, (lists_len P).symm, rfl⟩)), zb⟩
        · have HYe : Hid (Right (w0 (listsOf P) : Int) ((listsOf P).length : Int) cc) := Lib.hid (HWE.out.1 (HRB.out.1 (by trivial)))
          go_wp2_with fail
          obtain ⟨z0, z1, z2, zb⟩ := put3 (W' := (p0.size : Int)) (H' := (P.length : Int)) (c' := cc) HB4.out.box
          exact bodyPost_ret (v := .tuple #[.agg #[.int .i64 (p0.size : Int), .int .i64 (P.length : Int), .string cc], .int .i64 0, .int .i64 0]) (by simp [results, Tryz.results39, go_sem, z0, z1, z2]) rfl ⟨_, _, _, 0, 0, rfl, HO.out _ _ _ _ _ (.inr (.inl ⟨HAL.out, by rw [HCQ.out]; exact HYe.out, HW0.out.symm, by rw [lists_len], HCQ.out.symm, rfl, rfl⟩)), zb⟩

end Go.Proofs.YtakgkocdkondhaaGreatDoor
end
