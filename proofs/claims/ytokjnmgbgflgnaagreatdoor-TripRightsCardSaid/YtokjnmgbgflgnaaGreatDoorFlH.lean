/-
  A text's rows: rowsOf, rowRight, join.
-/
import Derived.Test.YtokjnmgbgflgnaaGreatDoorFlT
import Derived.Test.YtokjnmgbgflgnaaGreatDoorFlPlain6
set_option linter.unusedVariables false
set_option maxRecDepth 100000
namespace Go.Proofs.YtokjnmgbgflgnaaGreatDoor
open Go.RowKit Fl

/-- The texts P lie in block g. -/
structure Strs (w : World) (g : Nat) (P : List ByteArray) : Prop where
  lt : g < w.heap.size
  cell : ∀ i, i < P.length → w.cell? ⟨g, i, none⟩ = some (.string (P.getD i ⟨#[]⟩))
theorem Strs.later {w w' : World} {g : Nat} {P : List ByteArray} (h : Strs w g P) (hb : Below w.heap.size w w') : Strs w' g P :=
  ⟨Nat.lt_of_lt_of_le h.lt hb.size, fun i hi => (hb.cell (p := ⟨g, i, none⟩) h.lt).trans (h.cell i hi)⟩
/-- The rows as lists of bytes. -/
def listsOf (P : List ByteArray) : List (List UInt8) := P.map fun p => p.data.toList
theorem lists_len (P : List ByteArray) : (listsOf P).length = P.length := by simp [listsOf]
theorem lists_get (P : List ByteArray) (i : Nat) : (listsOf P).getD i [] = (P.getD i ⟨#[]⟩).data.toList := by
  unfold listsOf
  rw [List.getD, List.getD, List.getElem?_map]
  cases P[i]? <;> rfl
theorem size_list (p : ByteArray) : p.data.toList.length = p.size := by rw [Array.length_toList]; rfl

def trimB (s : ByteArray) : ByteArray := ⟨(trim s.data.toList).toArray⟩
theorem trimB_list (s : ByteArray) : (trimB s).data.toList = trim s.data.toList := by simp [trimB]
theorem trim_le (l : List UInt8) : (trim l).length ≤ l.length := by
  unfold trim Lib.trimSuffix
  split
  · rw [List.length_take]; omega
  · exact Nat.le_refl _
theorem trimB_le (s : ByteArray) : (trimB s).size ≤ s.size := by
  rw [← size_list, ← size_list, trimB_list]; exact trim_le _
theorem rows_pieces (t : ByteArray) : (listsOf (pieces 17 t)).length = min 17 (cut10 t.data.toList).length ∧ (∀ i, i < 16 → (listsOf (pieces 17 t))[i]? = (cut10 t.data.toList)[i]?) ∧ ((cut10 t.data.toList).length ≤ 17 → listsOf (pieces 17 t) = cut10 t.data.toList) := by
  have e : listsOf (pieces 17 t) = Lib.splitK [10] 0 (room 17 t - 1) t.data.toList := Lib.splitB_data nl 0 (room 17 t - 1) t
  rw [e]
  obtain ⟨a1, a2, a3⟩ := pieces_cut (room 17 t - 1) t.data.toList
  have hle := cutA_le [] t.data.toList
  rw [size_list] at hle
  have hle2 : (cut10 t.data.toList).length ≤ t.size + 1 := hle
  unfold room at *
  rcases Nat.lt_or_ge t.size 17 with k | k
  · have h3 := a3 (by omega)
    exact ⟨by rw [a1]; omega, fun i hi => by rw [h3], fun _ => h3⟩
  · exact ⟨by rw [a1]; omega, fun i hi => a2 i (by omega), fun h => a3 (by omega)⟩
theorem pieces_le (t : ByteArray) : (pieces 17 t).length ≤ 17 := by
  have h := (rows_pieces t).1
  rw [lists_len] at h
  omega
theorem pieces_pos (t : ByteArray) : 1 ≤ (pieces 17 t).length := by
  have h := (rows_pieces t).1
  have := cutA_pos [] t.data.toList
  rw [lists_len] at h
  unfold cut10 at h
  omega

def RowsTold (P : List ByteArray) (w : World) (e : Ending) (w' : World) : Prop := ∃ g c, e = .returned (.slice (some ⟨g, 0, none⟩) P.length c) ∧ Strs w' g P ∧ Below w.heap.size w w'
theorem rowsOf_any (s : ByteArray) (hs : s.size ≤ 2000) (w : World) :
    Calls Tryz.prog 40 #[.string s] w (RowsTold (pieces 17 (trimB s)) w) := by
  have hle := trimB_le s
  have HT := Lib.hid (trim_any s w (by omega))
  have HS := Lib.hid (splitN_any (trimB s) w (by omega))
  have HLE := Lib.hid (pieces_le (trimB s))
  have HQ : Hid ((⟨(Lib.trimSuffix s.data.toList [10]).toArray⟩ : ByteArray) = trimB s) := Lib.hid rfl
  rw [show nl = ⟨#[10]⟩ from rfl] at HT HS
  go_enter Tryz.func40, Tryz.ntmps40
  go_wp2_with fail
  refine HT.out.mono ?_
  rintro e w1 ⟨rfl, rfl⟩
  rw [HQ.out]
  go_wp2_with fail
  refine HS.out.mono ?_
  rintro e w2 ⟨rfl, h2⟩
  have H2 := Lib.hid h2
  clear h2
  go_wp2_with fail
  go_ret
  refine ⟨w.heap.size, _, rfl, ?_, ?_⟩
  · rw [H2.out]
    refine ⟨by simp, fun i hi => ?_⟩
    rw [World.cell?_alloc_new]
    unfold Lib.cellsOf
    rw [List.getElem?_toArray, List.getElem?_append_left (by simpa using hi), List.getElem?_map, List.getD, List.getElem?_eq_getElem hi]
    rfl
  · rw [H2.out]
    exact (Below.refl _ _).alloc (Nat.le_refl _) _

theorem okAll_list (p : ByteArray) : okAll p = p.data.toList.all fun c => okc c.toNat := by
  rw [Bool.eq_iff_iff, okAll_iff, List.all_eq_true]
  constructor
  · intro h x hx
    obtain ⟨i, hi, rfl⟩ := List.mem_iff_getElem.1 hx
    have := h i (by rw [← size_list]; exact hi)
    unfold at_ at this
    rw [List.getD, List.getElem?_eq_getElem hi] at this
    exact this
  · intro h i hi
    have hi' : i < p.data.toList.length := by rw [size_list]; exact hi
    unfold at_
    rw [List.getD, List.getElem?_eq_getElem hi']
    exact h _ (List.getElem_mem hi')

theorem rowRight_is (p : ByteArray) (hp : p.size ≤ maxLen) (n : Nat) (b : Bool) (w : World) (h : rowOk n p.data.toList = b) :
    Calls Tryz.prog 41 #[.string p, .int .i64 (n : Int)] w fun e w' => e = .returned (.bool b) ∧ w = w' := by
  have hp' := hp
  unfold maxLen at hp'
  unfold rowOk at h
  rw [size_list, ← okAll_list] at h
  have hb : b = (okSide (p.size : Int) && decide (p.size = n) && okAll p) := by
    rw [← h]
    unfold okSide
    have e1 : decide ((1 : Int) ≤ (p.size : Int)) = decide (1 ≤ p.size) := by rw [decide_eq_decide]; omega
    have e2 : decide ((p.size : Int) ≤ 16) = decide (p.size ≤ 16) := by rw [decide_eq_decide]; omega
    rw [e1, e2]
  have HB := Lib.hid hb
  clear h hb
  cases h1 : okSide (p.size : Int) with
  | false =>
    have HE : Hid (b = false) := Lib.hid (by rw [HB.out, h1]; rfl)
    go_enter Tryz.func41, Tryz.ntmps41
    go_wp2_with (go_at_call 66; refine (sideRight_any _ _).mono ?_; rintro e w' ⟨rfl, rfl⟩)
    go_ret
    exact ⟨ret_bool HE.out.symm, rfl⟩
  | true =>
    by_cases h2 : p.size = n
    · have hq : ((p.size : Int) == (n : Int)) = true := by rw [beq_iff_eq, h2]
      have HE : Hid (b = okAll p) := Lib.hid (by rw [HB.out, h1, decide_eq_true h2]; rfl)
      clear h2
      go_enter Tryz.func41, Tryz.ntmps41
      go_wp2_with (first
        | (go_at_call 66; refine (sideRight_any _ _).mono ?_; rintro e w' ⟨rfl, rfl⟩)
        | (go_at_call 67; refine (bytesRight_any p hp _).mono ?_; rintro e w' ⟨rfl, rfl⟩))
      go_ret
      exact ⟨ret_bool HE.out.symm, rfl⟩
    · have hq : ((p.size : Int) == (n : Int)) = false := by rw [beq_eq_false_iff_ne]; omega
      have HE : Hid (b = false) := Lib.hid (by rw [HB.out, h1, decide_eq_false h2]; rfl)
      clear h2
      go_enter Tryz.func41, Tryz.ntmps41
      go_wp2_with (go_at_call 66; refine (sideRight_any _ _).mono ?_; rintro e w' ⟨rfl, rfl⟩)
      go_ret
      exact ⟨ret_bool HE.out.symm, rfl⟩

theorem flat_take (P : List ByteArray) (i : Nat) (h : i < P.length) : (listsOf (P.take (i + 1))).flatten = (listsOf (P.take i)).flatten ++ (P.getD i ⟨#[]⟩).data.toList := by
  unfold listsOf
  rw [List.take_succ_eq_append_getElem h, List.map_append, List.flatten_append, List.getD, List.getElem?_eq_getElem h]
  simp
theorem flat_le (P : List ByteArray) (hp : ∀ i, i < P.length → (P.getD i ⟨#[]⟩).size ≤ 16) (i : Nat) (h : i ≤ P.length) : (listsOf (P.take i)).flatten.length ≤ i * 16 := by
  induction i with
  | zero => simp [listsOf]
  | succ i ih =>
    rw [flat_take P i (by omega), List.length_append, size_list]
    have := ih (by omega)
    have := hp i (by omega)
    omega
def JoinTold (P : List ByteArray) (w : World) (e : Ending) (w' : World) : Prop := e = .returned (.string (cells (listsOf P))) ∧ Below w.heap.size w w'
set_option maxHeartbeats 1000000 in
theorem join_any (g c : Nat) (P : List ByteArray) (w : World) (h : Strs w g P) (hl : P.length ≤ 17) (hp : ∀ i, i < P.length → (P.getD i ⟨#[]⟩).size ≤ 16) :
    Calls Tryz.prog 42 #[.slice (some ⟨g, 0, none⟩) P.length c] w (JoinTold P w) := by
  have HS := Lib.hid h
  have HP := Lib.hid hp
  clear h hp
  go_enter Tryz.func42, Tryz.ntmps42
  go_wp2_with fail
  go_loopw [3, 8] (fun v iv wr => ∃ i : Nat, i ≤ P.length ∧ iv = .int .i64 (i : Int) ∧ Below w.heap.size w wr ∧ ∃ A n c, v = .slice A n c ∧ n = ((listsOf (P.take i)).flatten).length ∧ OwnB wr w.heap.size (.slice A n c) ((listsOf (P.take i)).flatten)) (fun _ iv _ => P.length - (intOf iv).toNat)
  case atStart => exact ⟨0, Nat.zero_le _, rfl, Below.refl _ _, _, _, _, rfl, rfl, OwnB.nil _ _⟩
  case round =>
    rename World => wr
    obtain ⟨i, hi, rfl, hB, A, n, c2, rfl, hn, ho⟩ := hrel
    have HB := Lib.hid hB
    have HO := Lib.hid ho
    have HN := Lib.hid hn
    have hfl := flat_le P HP.out i hi
    have hz := hB.size
    clear hB ho hn
    by_cases hlt : i < P.length
    · have hc := (HS.out.later HB.out).cell i hlt
      have hps := HP.out i hlt
      have HF := Lib.hid (flat_take P i hlt)
      generalize P.getD i ⟨#[]⟩ = p at *
      generalize (listsOf (P.take i)).flatten = l at *
      go_wp2_with (at_builtin; refine app_str rfl _ _ rfl w.heap.size _ l rfl HO.out p rfl (by omega) hz ?_; intro A5 c5 n5 w5 hn5 ho5 hb5; have HN5 := Lib.hid hn5; clear hn5)
      go_roundw
      case rel => exact ⟨i + 1, by omega, by go_num, HB.out.trans hb5, A5, n5, c5, rfl, by rw [HF.out]; exact HN5.out, by rw [HF.out]; exact ho5⟩
      case measure => simp [intOf]; omega
    · obtain rfl : i = P.length := by omega
      have hcv := HO.out.conv HN.out
      have HE : Hid ((⟨((listsOf (P.take P.length)).flatten).toArray⟩ : ByteArray) = cells (listsOf P)) := Lib.hid (by rw [List.take_length]; rfl)
      rw [HE.out] at hcv
      go_wp2_with fail
      go_ret
      exact ⟨rfl, HB.out⟩

end Go.Proofs.YtokjnmgbgflgnaaGreatDoor
