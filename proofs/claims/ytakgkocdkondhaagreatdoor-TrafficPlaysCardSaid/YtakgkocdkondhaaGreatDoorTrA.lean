/-
  Layer 10: acts in memory, of whatever make and of one's own; isPod, isLane, carried, Cost, and the document's Cost.
-/
import Derived.Test.YtakgkocdkondhaaGreatDoorBkA
import Derived.Test.YtakgkocdkondhaaGreatDoorTrPlain
import Derived.Test.YtakgkocdkondhaaGreatDoorFlOne
set_option linter.unusedVariables false
set_option maxRecDepth 100000
namespace Go.Proofs.YtakgkocdkondhaaGreatDoor
namespace Tr
open Go.RowKit
open Bk (Gt gt_own own_later own_lower appG)

theorem Tryz.infoAct : (Tryz.prog.info? 39).map (fun i => (i.zero, i.size, i.bytes)) = some (some (.agg #[.int .u8 0, .int .i64 0, .int .i64 0]), 3, 24) := by kernel_rfl
/-- The cells of acts. -/
def acv : List Ac → List Value
  | [] => []
  | a :: l => .int .u8 (a.1 : Int) :: .int .i64 a.2.1 :: .int .i64 a.2.2 :: acv l
theorem acv_length : ∀ l, (acv l).length = l.length * 3
  | [] => rfl
  | a :: l => by simp [acv, acv_length l]; omega
theorem acv_app : ∀ l m, acv (l ++ m) = acv l ++ acv m
  | [], m => rfl
  | a :: l, m => by simp [acv, acv_app l m]
theorem acv_drop : ∀ (l : List Ac) (i : Nat), acv (l.drop i) = (acv l).drop (i * 3)
  | [], i => by simp [acv]
  | x :: l, 0 => by simp
  | x :: l, i + 1 => by
    rw [show (i + 1) * 3 = i * 3 + 1 + 1 + 1 by omega]
    simp [acv, acv_drop l i]
theorem acv_get : ∀ (l : List Ac) (i : Nat), i < l.length → (acv l)[i * 3]? = some (.int .u8 ((l.getD i (0, 0, 0)).1 : Int)) ∧ (acv l)[i * 3 + 1]? = some (.int .i64 (l.getD i (0, 0, 0)).2.1) ∧ (acv l)[i * 3 + 2]? = some (.int .i64 (l.getD i (0, 0, 0)).2.2)
  | [], i, h => by simp at h
  | x :: l, 0, h => by simp [acv]
  | x :: l, i + 1, h => by
    have ih := acv_get l i (by simpa using h)
    have e1 : (i + 1) * 3 = i * 3 + 3 := by omega
    have e2 : (i + 1) * 3 + 1 = i * 3 + 1 + 3 := by omega
    have e3 : (i + 1) * 3 + 2 = i * 3 + 2 + 3 := by omega
    rw [e3, e2, e1]
    simpa [acv] using ih
theorem acv_one : ∀ (l : List Ac), ∀ u ∈ acv l, u.oneCell' = true
  | [], u, h => by cases h
  | a :: l, u, h => by
    simp only [acv, List.mem_cons] at h
    rcases h with rfl | rfl | rfl | h
    · rfl
    · rfl
    · rfl
    · exact acv_one l u h
/-- Acts at a slice, of whatever make, in a block below B. -/
def Al (B : Nat) (w : World) (A : Option Addr) (n cap : Nat) (L : List Ac) : Prop := Gt 3 B w A n cap (acv L)
section
variable {B B' : Nat} {w w' : World} {A : Option Addr} {n cap : Nat} {L : List Ac}
theorem Al.below (h : Al B w A n cap L) (hb : Below B w w') : Al B w' A n cap L := Gt.below h hb
theorem Al.raise (h : Al B w A n cap L) (hb : B ≤ B') : Al B' w A n cap L := Gt.raise h hb
theorem Al.later (h : Al w.heap.size w A n cap L) (hb : Below w.heap.size w w') : Al w'.heap.size w' A n cap L := Gt.later h hb
theorem Al.len (h : Al B w A n cap L) : L.length = n := by have := Gt.len h; rw [acv_length] at this; omega
theorem Al.size (h : Al B w A n cap L) : n ≤ cap ∧ cap ≤ 9223372036854775807 := Gt.size h
theorem Al.cell (h : Al B w A n cap L) {j : Nat} (hj : j < n) : ∃ g off, A = some ⟨g, off, none⟩ ∧ g < B ∧ w.cell? ⟨g, off + j * 3, none⟩ = some (.int .u8 ((L.getD j (0, 0, 0)).1 : Int)) ∧ w.cell? ⟨g, off + j * 3 + 1, none⟩ = some (.int .i64 (L.getD j (0, 0, 0)).2.1) ∧ w.cell? ⟨g, off + j * 3 + 2, none⟩ = some (.int .i64 (L.getD j (0, 0, 0)).2.2) := by
  obtain ⟨g, off, e, hg, hc⟩ := Gt.cell h (by omega)
  obtain ⟨q0, q1, q2⟩ := acv_get L j (by rw [h.len]; exact hj)
  exact ⟨g, off, e, hg, by rw [hc (j * 3) (by omega), q0], by rw [Nat.add_assoc, hc (j * 3 + 1) (by omega), q1], by rw [Nat.add_assoc, hc (j * 3 + 2) (by omega), q2]⟩
end
theorem Al.nothing (B : Nat) (w : World) : Al B w none 0 0 [] := Gt.nothing 3 B w
/-- Acts of one's own. -/
def Aw (w : World) (base : Nat) (v : Value) (L : List Ac) : Prop := w.ownsRow base 39 3 v L.length (acv L)
theorem Aw.al {w : World} {base : Nat} {A : Option Addr} {n cap : Nat} {L : List Ac} (h : Aw w base (.slice A n cap) L) : n = L.length ∧ Al w.heap.size w A n cap L := by
  obtain ⟨rfl, h2⟩ := gt_own h
  exact ⟨rfl, h2⟩
theorem Aw.later {w w' : World} {base : Nat} {v : Value} {L : List Ac} (h : Aw w base v L) (hb : Below w.heap.size w w') : Aw w' base v L := Bk.own_later h hb
theorem Aw.nil (w : World) (base : Nat) : Aw w base (.slice none 0 0) [] := World.ownsRow_nil _ _ _ _
/-- One act, in a block of its own. -/
theorem Al.one (w : World) (a : Ac) : Al (w.alloc (.cells #[.int .u8 (a.1 : Int), .int .i64 a.2.1, .int .i64 a.2.2] 39)).heap.size (w.alloc (.cells #[.int .u8 (a.1 : Int), .int .i64 a.2.1, .int .i64 a.2.2] 39)) (some ⟨w.heap.size, 0, none⟩) 1 1 [a] := by
  refine ⟨rfl, Nat.le_refl _, by unfold maxLen; omega, fun h => (by cases h), fun _ => ⟨w.heap.size, 0, rfl, by simp, fun j hj => ?_⟩⟩
  rcases (by omega : j = 0 ∨ j = 1 ∨ j = 2) with rfl | rfl | rfl <;> simp [World.cell?_alloc_new, acv]
theorem app_acts {w : World} {ops : Array Oper} {rest : List Oper} {o : Oper} {a : Act} {Q : Exit → Act → World → Prop} (hgd : o.guard = none) (s x : Operand) (ho : o.op = .call { callee := .builtin .append, args := #[s, x], argTypes := #[35, 35] })
    (base : Nat) (v : Value) (xs : List Ac) (hs : a.eval s = v) (hown : Aw w base v xs)
    (A : Option Addr) (m c : Nat) (ys : List Ac) (hx : a.eval x = .slice A m c) (hr : Al w.heap.size w A m c ys) (hb : xs.length + m ≤ 1000000) (hbase : base ≤ w.heap.size)
    (h : ∀ A' n' c' w', n' = (xs ++ ys).length → Aw w' base (.slice A' n' c') (xs ++ ys) → Below base w w' → w.grownBy w' v.ownBlock → ((Value.slice A' n' c').ownBlock = v.ownBlock ∨ (Value.slice A' n' c').ownBlock = some w.heap.size) → wpList Tryz.prog ops Q rest (a.put o.dst (.slice A' n' c')) w') : wpList Tryz.prog ops Q (o :: rest) a w := by
  obtain ⟨i0, hi, hz0, hz1, hz2⟩ := info_parts Tryz.infoAct
  refine appG 35 39 i0 _ 3 24 Tryz.underlying35 hi hz0 hz1 hz2 rfl (by decide) (by decide) hgd s x ho base v xs.length (acv xs) hs hown A m c (acv ys) hx hr (acv_one ys) hb hbase ?_
  intro A' c' w' h1 h2 h3 h4
  have e : xs.length + m = (xs ++ ys).length := by rw [List.length_append, hr.len]
  refine h A' _ c' w' e (by unfold Aw; rw [acv_app, ← e]; exact h1) h2 h3 h4

/-! ### The leaves -/
/-- A truth is told. -/
def Says (P : Prop) (w : World) (e : Ending) (w' : World) : Prop := ∃ b : Bool, e = .returned (.bool b) ∧ (b = true ↔ P) ∧ Below w.heap.size w w'
theorem isPod_any (n : Int) (w : World) : Calls Tryz.prog 105 #[.int .i64 n] w fun e w' => e = .returned (.bool (isP n)) ∧ w' = w := by
  by_cases h0 : 0 ≤ n
  · have d0 : decide (0 ≤ n) = true := by simpa using h0
    go_enter Tryz.func105, Tryz.ntmps105
    go_wp2_with fail
    go_ret
    exact ⟨ret_bool (by unfold isP; rw [d0, Bool.true_and]), rfl⟩
  · have d0 : decide (0 ≤ n) = false := by simpa using h0
    go_enter Tryz.func105, Tryz.ntmps105
    go_wp2_with fail
    go_ret
    exact ⟨ret_bool (by unfold isP; rw [d0]; rfl), rfl⟩
theorem isLane_any (W H : Int) (s : ByteArray) (hs : s.size ≤ maxLen) (c : Int) (w : World) : Calls Tryz.prog 70 #[.agg #[.int .i64 W, .int .i64 H, .string s], .int .i64 c] w (Says (OnLane W H s c) w) := by
  have HZ := Lib.hid (fun wx => zone_any W H s hs c wx)
  go_enter Tryz.func70, Tryz.ntmps70
  go_wp2_with fail
  refine (HZ.out _).mono ?_
  rintro e w1 ⟨n, b, rfl, h1, h2, hb⟩
  have HX := Lib.hid ((Box.start w W H s 25).after hb)
  have H1 := Lib.hid h1
  have H2 := Lib.hid h2
  clear h1 h2 hb
  go_wp2_with fail
  go_ret
  refine ⟨b, rfl, ⟨fun e => Classical.byContradiction fun k => ?_, fun k => (H1.out k).2⟩, HX.out.below⟩
  have := (H2.out k).2
  rw [this] at e; cases e

/-- A number is told. -/
def Num (x : Int) (w : World) (e : Ending) (w' : World) : Prop := e = .returned (.int .i64 x) ∧ Below w.heap.size w w'
set_option maxHeartbeats 1000000 in
theorem carried_any (A : Option Addr) (n cap : Nat) (L : List Ac) (w : World) (h : Al w.heap.size w A n cap L) : Calls Tryz.prog 72 #[.slice A n cap] w (Num (carr L) w) := by
  have HL := Lib.hid h
  have hlen := h.len
  have hcap := h.size
  obtain ⟨hc1, hc2⟩ := hcap
  clear h
  go_enter Tryz.func72, Tryz.ntmps72
  go_wp2_with fail
  go_loopw [7] (fun iv wr => ∃ i : Nat, i ≤ n ∧ iv = .int .i64 (i : Int) ∧ Hid (carr L = carr (L.drop i)) ∧ Hid (Below w.heap.size w wr)) (fun iv _ => n - (intOf iv).toNat)
  case atStart => exact ⟨0, Nat.zero_le _, rfl, Lib.hid rfl, Lib.hid (Below.refl _ _)⟩
  case round =>
    rename World => wr
    obtain ⟨i, hi, rfl, HC, HB⟩ := hrel
    by_cases hlt : i < n
    · obtain ⟨g, off, rfl, hg, k0, k1, k2⟩ := (HL.out.below HB.out).cell hlt
      have HD := Lib.hid (HC.out.trans (carr_drop L i (by omega)))
      have hlI : (i : Int) < (n : Int) := by omega
      have hg2 : g < wr.heap.size := Nat.lt_of_lt_of_le hg HB.out.size
      generalize L.getD i (0, 0, 0) = a at *
      obtain ⟨k, c, p⟩ := a
      have k0 : wr.cell? ⟨g, off + i * 3, none⟩ = some (.int .u8 (k : Int)) := k0
      have k1 : wr.cell? ⟨g, off + i * 3 + 1, none⟩ = some (.int .i64 c) := k1
      have k2 : wr.cell? ⟨g, off + i * 3 + 2, none⟩ = some (.int .i64 p) := k2
      have HBA := Lib.hid (HB.out.trans (((Below.refl wr.heap.size wr).alloc (Nat.le_refl _) (.cells #[.int .u8 (k : Int), .int .i64 c, .int .i64 p] 39)).mono HB.out.size))
      have HD : Hid (carr L = if k = 2 then -1 else if k = 3 then p else carr (L.drop (i + 1))) := HD
      by_cases e2 : k = 2
      · subst e2
        go_wp2_with fail
        go_ret
        exact ⟨ret_int (by rw [HD.out, if_pos trivial]), HBA.out⟩
      · by_cases e3 : k = 3
        · subst e3
          go_wp2_with fail
          go_ret
          exact ⟨ret_int (by rw [HD.out, if_neg (by omega), if_pos trivial]), HBA.out⟩
        · have d2 : ((k : Int) == 2) = false := by rw [beq_eq_false_iff_ne]; omega
          have d3 : ((k : Int) == 3) = false := by rw [beq_eq_false_iff_ne]; omega
          have HD2 : Hid (carr L = carr (L.drop (i + 1))) := Lib.hid (by rw [HD.out, if_neg e2, if_neg e3])
          go_wp2_with fail
          go_roundw
          case rel => exact ⟨i + 1, by omega, by go_num, HD2, HBA⟩
          case measure => simp [intOf]; omega
    · obtain rfl : i = n := by omega
      have HD : Hid (carr L = -1) := Lib.hid (by rw [HC.out, carr_none L i (by omega)])
      go_wp2_with fail
      go_ret
      exact ⟨ret_int (by rw [HD.out]), HB.out⟩
end Tr
end Go.Proofs.YtakgkocdkondhaaGreatDoor
