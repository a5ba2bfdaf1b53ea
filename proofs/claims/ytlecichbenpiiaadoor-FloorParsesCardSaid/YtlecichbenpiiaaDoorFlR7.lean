/-
  The document's answers for layer 3: Rows.
-/
import Derived.Test.YtlecichbenpiiaaDoorFlH
import Derived.Test.YtlecichbenpiiaaDoorFlR3
set_option linter.unusedVariables false
namespace Go.Proofs.YtlecichbenpiiaaDoor
open Go.RowKit Fl

theorem Tryd.infoStr : (Tryd.prog.info? 9).map (fun i => (i.zero, i.size, i.bytes)) = some (some (.string ByteArray.empty), 1, 16) := by kernel_rfl
/-- The texts P are owned at v. -/
def OwnS (w : World) (base : Nat) (v : Value) (P : List ByteArray) : Prop := w.ownsRow base 9 1 v P.length (P.map Value.string)
theorem OwnS.nil (w : World) (base : Nat) : OwnS w base (.slice none 0 0) [] := World.ownsRow_nil _ _ _ _
theorem OwnS.later {w w' : World} {base : Nat} {v : Value} {P : List ByteArray} (h : OwnS w base v P) (hb : Below w.heap.size w w') : OwnS w' base v P := own_later h hb
theorem OwnS.at {w : World} {base : Nat} {a : Option Addr} {n cap : Nat} {P : List ByteArray} (h : OwnS w base (.slice a n cap) P) (i : Nat) (hi : i < P.length) :
    ∃ g, a = some ⟨g, 0, none⟩ ∧ base ≤ g ∧ g < w.heap.size ∧ w.cell? ⟨g, i, none⟩ = some (.string (P.getD i ⟨#[]⟩)) := by
  obtain ⟨g, c, hv⟩ := shape_of h (by omega)
  simp only [Value.slice.injEq] at hv
  obtain ⟨rfl, rfl, rfl⟩ := hv
  have hlt := World.ownsRow.lt h g rfl
  refine ⟨g, rfl, hlt.1, hlt.2, ?_⟩
  rw [World.ownsRow.cellAt h _ (by omega), List.getElem?_map, List.getD, List.getElem?_eq_getElem hi]
  rfl
/-- A text is appended to texts of one's own. -/
theorem app_s {w : World} {ops : Array Oper} {rest : List Oper} {o : Oper} {a : Act} {Q : Exit → Act → World → Prop} (hgd : o.guard = none) (s x : Operand)
    (ho : o.op = .call { callee := .builtin .append, args := #[s, x], argTypes := #[42, 42] })
    (base : Nat) (v : Value) (P : List ByteArray) (hs : a.eval s = v) (y : ByteArray) (w0 : World) (hw : w = w0.alloc (.cells #[.string y] 9)) (hown : OwnS w0 base v P)
    (hx : a.eval x = .slice (some ⟨w0.heap.size, 0, none⟩) 1 1) (hf : P.length ≤ 1048576) (hbase : base ≤ w0.heap.size)
    (h : ∀ A' c' n' w', n' = (P ++ [y]).length → OwnS w' base (.slice A' n' c') (P ++ [y]) → Below base w0 w' → wpList Tryd.prog ops Q rest (a.put o.dst (.slice A' n' c')) w') : wpList Tryd.prog ops Q (o :: rest) a w := by
  obtain ⟨i0, hi, hz0, hz1, hz2⟩ := info_parts Tryd.infoStr
  subst hw
  refine wpList_append_own_at _ hgd s x 42 ho base 9 i0 (.string ByteArray.empty) 1 16 Tryd.underlying42 hi hz0 hz1 hz2 rfl (by decide) v P.length (P.map Value.string) hs (World.ownsRow.alloc hown _) ⟨w0.heap.size, 0, none⟩ 1 1 [.string y] hx rfl ?_ ?_ (by unfold maxLen; omega) (by omega) (by simp; omega) ?_
  · intro j u hj
    match j, hj with
    | 0, hj => simp at hj; subst hj; simp [Addr.add]
  · intro u hu; simp at hu; subst hu; rfl
  intro v' w' h1 h2 h3 h4
  obtain ⟨A', c', rfl⟩ := ownsRow_shape h1
  rw [show P.length + 1 = (P ++ [y]).length by simp] at h1 ⊢
  exact h A' c' _ w' rfl (by unfold OwnS; simpa using h1) (Below.grown ((Below.refl _ _).alloc hbase _) h2 (by simp; omega) (fun k hk => (World.ownsRow.lt hown k hk).1))

def RowsOwn (R : List (List UInt8)) (w : World) (e : Ending) (w' : World) : Prop := ∃ A n c P, e = .returned (.slice A n c) ∧ n = P.length ∧ OwnS w' w.heap.size (.slice A n c) P ∧ listsOf P = R ∧ Below w.heap.size w w'
theorem lists_snoc (P : List ByteArray) (x : ByteArray) : listsOf (P ++ [x]) = listsOf P ++ [x.data.toList] := by simp [listsOf]

set_option maxHeartbeats 2000000 in
theorem rrows_any (s : ByteArray) (hs : s.size ≤ 2000) (w : World) : Calls Tryd.prog 31 #[.string s] w (RowsOwn (rowsL s.data.toList) w) := by
  have HSL := Lib.hid (size_list s)
  go_enter Tryd.func31, Tryd.ntmps31
  go_wp2_with fail
  go_loopw [3, 4, 5] (fun v fv iv wr => ∃ i : Nat, i ≤ s.size ∧ iv = .int .i64 (i : Int) ∧ fv = .int .i64 ((rd s.data.toList i).2 : Int) ∧ Below w.heap.size w wr ∧ ∃ A n c P, v = .slice A n c ∧ n = P.length ∧ OwnS wr w.heap.size (.slice A n c) P ∧ listsOf P = (rd s.data.toList i).1) (fun _ _ iv _ => s.size - (intOf iv).toNat)
  case atStart => exact ⟨0, Nat.zero_le _, rfl, rfl, Below.refl _ _, _, _, _, [], rfl, rfl, OwnS.nil _ _, rfl⟩
  case round =>
    rename World => wr
    obtain ⟨i, hi, rfl, rfl, hB, A, n, c, P, rfl, hn, ho, hP⟩ := hrel
    have HB := Lib.hid hB
    have HO := Lib.hid ho
    have HN := Lib.hid hn
    have HP := Lib.hid hP
    have hle := rd_le s.data.toList i
    have hz := hB.size
    have hpl : P.length ≤ 2000 := by
      have h1 := rd_len s.data.toList i
      rw [← hP, lists_len] at h1
      omega
    clear hB ho hn hP
    by_cases hlt : i < s.size
    · have hlt' : i < s.data.toList.length := by rw [HSL.out]; exact hlt
      have HG : Hid ((s.data.toList.getD i 0).toNat = s[i].toNat) := Lib.hid (by rw [at_get s i hlt]; rfl)
      have HRD : Hid (rd s.data.toList (i + 1) = if s.data.toList.getD i 0 = 10 then ((rd s.data.toList i).1 ++ [(s.data.toList.drop (rd s.data.toList i).2).take (i - (rd s.data.toList i).2)], i + 1) else rd s.data.toList i) := Lib.hid rfl
      generalize hrq : rd s.data.toList i = q at *
      obtain ⟨L, f⟩ := q
      have HRQ := Lib.hid hrq
      clear hrq
      simp only at hle
      have HPL : Hid (listsOf P = L) := HP
      by_cases h10 : s[i].toNat = 10
      · have hb : ((s[i].toNat : Int) == 10) = true := by rw [beq_iff_eq]; omega
        have HR1 : Hid (rd s.data.toList (i + 1) = (L ++ [(s.data.toList.drop f).take (i - f)], i + 1)) := Lib.hid (by
          rw [HRD.out, if_pos]
          apply UInt8.toNat_inj.1
          rw [HG.out, h10]; rfl)
        have HX : Hid ((s.extract f i).data.toList = (s.data.toList.drop f).take (i - f)) := Lib.hid (Lib.extract_data _ _ _)
        clear h10
        go_wp2_with (at_builtin; refine app_s rfl _ _ rfl w.heap.size _ P rfl (s.extract f i) _ rfl HO.out rfl (by omega) hz ?_; intro A5 c5 n5 w5 hn5 ho5 hb5; have HN5 := Lib.hid hn5; clear hn5)
        go_roundw
        case rel => exact ⟨i + 1, by omega, by go_num, by rw [HR1.out]; go_num, HB.out.trans hb5, A5, n5, c5, _, rfl, HN5.out, ho5, by rw [HR1.out, lists_snoc, HPL.out, HX.out]⟩
        case measure => simp [intOf]; omega
      · have hb : ((s[i].toNat : Int) == 10) = false := by rw [beq_eq_false_iff_ne]; omega
        have HR1 : Hid (rd s.data.toList (i + 1) = (L, f)) := Lib.hid (by
          rw [HRD.out, if_neg]
          intro e
          rw [e] at HG
          exact h10 HG.out.symm)
        clear h10
        go_wp2_with fail
        go_roundw
        case rel => exact ⟨i + 1, by omega, by go_num, by rw [HR1.out], HB.out, A, n, c, P, rfl, HN.out, HO.out, by rw [HR1.out]; exact HPL.out⟩
        case measure => simp [intOf]; omega
    · obtain rfl : i = s.size := by omega
      have HRL : Hid (rowsL s.data.toList = if (rd s.data.toList s.size).2 < s.size then (rd s.data.toList s.size).1 ++ [s.data.toList.drop (rd s.data.toList s.size).2] else (rd s.data.toList s.size).1) := Lib.hid (by unfold rowsL; rw [HSL.out])
      generalize hrq : rd s.data.toList s.size = q at *
      obtain ⟨L, f⟩ := q
      clear hrq
      simp only at hle
      have HPL : Hid (listsOf P = L) := HP
      by_cases hf : f < s.size
      · have HX : Hid ((s.extract f s.size).data.toList = s.data.toList.drop f) := Lib.hid (by rw [Lib.extract_data, List.take_of_length_le (by rw [List.length_drop, HSL.out]; exact Nat.le_refl _)])
        have HRR : Hid (rowsL s.data.toList = L ++ [s.data.toList.drop f]) := Lib.hid (by rw [HRL.out, if_pos hf])
        go_wp2_with (at_builtin; refine app_s rfl _ _ rfl w.heap.size _ P rfl (s.extract f s.size) _ rfl HO.out rfl (by omega) hz ?_; intro A5 c5 n5 w5 hn5 ho5 hb5; have HN5 := Lib.hid hn5; have HO5 := Lib.hid ho5; have HB5 := Lib.hid (HB.out.trans hb5); clear hn5 ho5 hb5)
        go_ret
        exact ⟨A5, n5, c5, _, rfl, HN5.out, HO5.out, by rw [HRR.out, lists_snoc, HPL.out, HX.out], HB5.out⟩
      · have HRR : Hid (rowsL s.data.toList = L) := Lib.hid (by rw [HRL.out, if_neg hf])
        go_wp2_with fail
        go_ret
        exact ⟨A, n, c, P, rfl, HN.out, HO.out, by rw [HRR.out]; exact HPL.out, HB.out⟩

end Go.Proofs.YtlecichbenpiiaaDoor
