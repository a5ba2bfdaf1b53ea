/-
  The heap: which of two entries is before the other one, and where an entry has to go.
-/
import Derived.Test.YtbpcigcfdkamaaaHpPlain
import Derived.Test.YtbpcigcfdkamaaaFrame
import Derived.WalkKit
import Derived.WalkSpells
import Derived.WalkLawsBesides
import Derived.RegionTactic
import Derived.Deep.QuietTactic
import Derived.BigQuiet
import Derived.StillTailTactics
import Derived.Maps.AppendAt
import Derived.Lib.Hide
import Derived.ChangeAlike
set_option linter.unusedVariables false
set_option maxRecDepth 100000
namespace Go.Proofs.Ytbpcigcfdkamaaa
open Go.RowKit E

theorem Try.infoEntry : (Try.prog.info? 54).map (fun i => (i.zero, i.size, i.bytes)) = some (some (.agg #[.int .i64 0, .int .i64 0, .int .i64 0]), 3, 24) := by kernel_rfl

/-- An entry's cells, and the cells of many. -/
def e3 (x : E) : List Value := [.int .i64 x.k, .int .i64 x.v, .int .i64 x.t]
def ec : List E → List Value
  | [] => []
  | x :: l => e3 x ++ ec l
theorem ec_length : ∀ l : List E, (ec l).length = l.length * 3
  | [] => rfl
  | x :: l => by simp [ec, e3, ec_length l]; omega
theorem ec_app : ∀ l m : List E, ec (l ++ m) = ec l ++ ec m
  | [], m => rfl
  | x :: l, m => by simp [ec, ec_app l m]
theorem ec_get : ∀ (l : List E) (i : Nat), i < l.length → (ec l)[i * 3]? = some (.int .i64 (gt l i).k) ∧ (ec l)[i * 3 + 1]? = some (.int .i64 (gt l i).v) ∧ (ec l)[i * 3 + 2]? = some (.int .i64 (gt l i).t)
  | [], i, h => by simp at h
  | x :: l, 0, h => by simp [ec, e3, gt]
  | x :: l, i + 1, h => by
    have ih := ec_get l i (by simpa using h)
    have e : gt (x :: l) (i + 1) = gt l i := by simp [gt]
    have e1 : (i + 1) * 3 = i * 3 + 3 := by omega
    have e2 : (i + 1) * 3 + 1 = i * 3 + 1 + 3 := by omega
    have e4 : (i + 1) * 3 + 2 = i * 3 + 2 + 3 := by omega
    rw [e, e2, e4, e1]
    simpa [ec, e3] using ih
/-- An entry as a value. -/
def ev (x : E) : Value := .agg #[.int .i64 x.k, .int .i64 x.v, .int .i64 x.t]

/-- Whether something is so is told; nothing that was there is written. -/
def Tells (b : Bool) (w : World) (e : Ending) (w' : World) : Prop := e = .returned (.bool b) ∧ Below w.heap.size w w'
def TellsN (n : Nat) (w : World) (e : Ending) (w' : World) : Prop := e = .returned (.int .i64 (n : Int)) ∧ Below w.heap.size w w'

theorem ebefore_any (a b : E) (w : World) : Calls Try.prog 28 #[ev a, ev b] w (Tells (lt a b) w) := by
  obtain ⟨ak, av, at'⟩ := a
  obtain ⟨bk, bv, bt⟩ := b
  unfold ev
  have HB : Hid (∀ x y : Obj, Below w.heap.size w ((w.alloc x).alloc y)) := Lib.hid fun x y => ((Below.refl _ _).alloc (Nat.le_refl _) _).alloc (by simp) _
  go_enter Try.func28, Try.ntmps28
  go_wp2
  · rename_i h
    have h' : ¬ ak = bk := by simpa using h
    go_ret
    exact ⟨by simp [lt, h'], HB.out _ _⟩
  · rename_i h
    have h' : ak = bk := by simpa using h
    go_ret
    exact ⟨by simp [lt, h'], HB.out _ _⟩

/-- A tree's entries lie at a slice. -/
structure Tree (w : World) (g n cap : Nat) (l : List E) : Prop where
  row : w.ownsRow 0 54 3 (.slice (some ⟨g, 0, none⟩) n cap) n (ec l)
  len : l.length = n
theorem Tree.same {w w' : World} {g n cap : Nat} {l : List E} (h : Tree w g n cap l) (hb : w'.heap[g]? = w.heap[g]?) : Tree w' g n cap l :=
  ⟨ownsRow_same h.row (fun k hk => by have : k = g := by simpa [Value.ownBlock] using hk.symm
                                      subst this; exact hb), h.len⟩
theorem Tree.below {w w' : World} {g n cap : Nat} {l : List E} (h : Tree w g n cap l) (hb : Below w.heap.size w w') : Tree w' g n cap l :=
  h.same (hb.block g (h.row.lt g rfl).2)
theorem Tree.cells {w : World} {g n cap : Nat} {l : List E} (h : Tree w g n cap l) (i : Nat) (hi : i < n) :
    w.cell? ⟨g, i * 3, none⟩ = some (.int .i64 (gt l i).k) ∧ w.cell? ⟨g, i * 3 + 1, none⟩ = some (.int .i64 (gt l i).v) ∧ w.cell? ⟨g, i * 3 + 2, none⟩ = some (.int .i64 (gt l i).t) := by
  have := ec_get l i (by rw [h.len]; exact hi)
  rw [h.row.cellAt _ (by omega), h.row.cellAt _ (by omega), h.row.cellAt _ (by omega)]
  exact this
theorem Tree.max {w : World} {g n cap : Nat} {l : List E} (h : Tree w g n cap l) : n ≤ 9223372036854775807 := by
  rcases h.row.2 with ⟨h, _⟩ | ⟨g', cap', cur, h, hg, hh, h1, h2, _⟩
  · cases h
  · unfold maxLen at h2; omega

theorem tbefore_any (g n cap i j : Nat) (l : List E) (w : World) (h : Tree w g n cap l) (hi : i < n) (hj : j < n) :
    Calls Try.prog 27 #[.slice (some ⟨g, 0, none⟩) n cap, .int .i64 (i : Int), .int .i64 (j : Int)] w (Tells (lt (gt l i) (gt l j)) w) := by
  obtain ⟨c0, c1, c2⟩ := h.cells i hi
  obtain ⟨d0, d1, d2⟩ := h.cells j hj
  have hmax := h.max
  clear h
  go_enter Try.func27, Try.ntmps27
  go_wp2
  go_still_tail 8, (by kernel_rfl)
  change wpList _ _ _ _ _ w.drew
  have hB : Below w.heap.size w w.drew := (Below.refl _ w).drew
  generalize w.drew = w2 at hB ⊢
  have HB := Lib.hid hB
  clear hB
  go_wp2_with fail
  refine (ebefore_any (gt l i) (gt l j) _).mono ?_
  rintro e w3 ⟨rfl, hb⟩
  have HB3 := Lib.hid (HB.out.trans (hb.mono HB.out.size))
  clear hb
  go_wp2
  go_ret
  exact ⟨rfl, HB3.out⟩

theorem tbefore_int (g n cap i j : Nat) (l : List E) (w : World) (h : Tree w g n cap l) (hi : i < n) (hj : j < n) (I J : Int) (hI : I = i) (hJ : J = j) :
    Calls Try.prog 27 #[.slice (some ⟨g, 0, none⟩) n cap, .int .i64 I, .int .i64 J] w (Tells (lt (gt l i) (gt l j)) w) := by
  subst hI hJ; exact tbefore_any g n cap i j l w h hi hj

theorem half_any (i : Nat) : ((i : Int) - 1).tdiv 2 = (((i - 1) / 2 : Nat) : Int) := by
  by_cases h : i = 0
  · subst h; rfl
  · rw [Int.tdiv_eq_ediv_of_nonneg (by omega)]; omega

theorem above_any (g n cap i : Nat) (l : List E) (w : World) (h : Tree w g n cap l) (hi : i < n) :
    Calls Try.prog 25 #[.slice (some ⟨g, 0, none⟩) n cap, .int .i64 (i : Int)] w (TellsN (up l i) w) := by
  have hmax := h.max
  have HT := Lib.hid h
  clear h
  have h2 := half_any i
  obtain ⟨j, hj⟩ : ∃ j, j = (i - 1) / 2 := ⟨_, rfl⟩
  have HU : Hid (up l i = if lt (gt l i) (gt l j) then j else i) := Lib.hid (by rw [hj]; rfl)
  rw [← hj] at h2
  have hjn : j < n := by omega
  have H2 := Lib.hid h2
  clear h2 hj
  go_enter Try.func25, Try.ntmps25
  go_wp2_with fail
  refine (tbefore_int g n cap i j l w HT.out hi hjn _ _ rfl H2.out).mono ?_
  rintro e w3 ⟨rfl, hb⟩
  have HB := Lib.hid hb
  clear hb
  cases hq : lt (gt l i) (gt l j)
  · have HU2 : Hid (up l i = i) := Lib.hid (by rw [HU.out, hq]; rfl)
    clear HU
    go_wp2
    go_ret
    exact ⟨by rw [HU2.out]; rfl, HB.out⟩
  · have HU2 : Hid (up l i = j) := Lib.hid (by rw [HU.out, hq]; rfl)
    clear HU
    go_wp2
    go_ret
    exact ⟨by rw [HU2.out, ← H2.out]; rfl, HB.out⟩

theorem least_any (g n cap a f m : Nat) (l : List E) (w : World) (h : Tree w g n cap l) (ha : a < n ∨ m ≤ f) (hf : m ≤ n) :
    Calls Try.prog 26 #[.int .i64 (a : Int), .int .i64 (f : Int), .int .i64 (m : Int), .func (.func 27) #[.slice (some ⟨g, 0, none⟩) n cap] #[]] w (TellsN (lst l a f (m - f)) w) := by
  have hmax := h.max
  have HT := Lib.hid h
  clear h
  obtain ⟨r, hr⟩ : ∃ r, r = lst l a f (m - f) := ⟨_, rfl⟩
  rw [← hr]
  have HR := Lib.hid hr
  clear hr
  go_enter Try.func26, Try.ntmps26
  go_wp2
  go_loopw [0, 9] (fun av iv wr => ∃ a' c : Nat, (a' < n ∨ m ≤ c) ∧ av = .int .i64 (a' : Int) ∧ iv = .int .i64 (c : Int) ∧ lst l a' c (m - c) = r ∧ Below w.heap.size w wr) (fun _ iv _ => m - (intOf iv).toNat)
  case atStart => exact ⟨a, f, ha, rfl, rfl, HR.out.symm, Below.refl _ _⟩
  case round =>
    obtain ⟨a', c, ha', rfl, rfl, hl, hB⟩ := hrel
    have HB := Lib.hid hB
    have HL := Lib.hid hl
    clear hB hl HR
    by_cases hlt : c < m
    · go_wp2_with fail
      refine (tbefore_int g n cap c a' l wr (HT.out.below HB.out) (by omega) (by omega) _ _ rfl rfl).mono ?_
      rintro e w3 ⟨rfl, hb⟩
      have HB3 := Lib.hid (HB.out.trans (hb.mono HB.out.size))
      clear hb
      have HL2 : Hid (lst l (if lt (gt l c) (gt l a') then c else a') (c + 1) (m - (c + 1)) = r) := Lib.hid (by
        have := HL.out
        have e : m - c = (m - (c + 1)) + 1 := by omega
        rw [e] at this
        exact this)
      cases hq : lt (gt l c) (gt l a')
      · have HL3 : Hid (lst l a' (c + 1) (m - (c + 1)) = r) := Lib.hid (by rw [← HL2.out, hq]; rfl)
        clear HL HL2
        go_wp2
        go_roundw
        case rel => exact ⟨a', c + 1, by omega, rfl, by go_num, HL3.out, HB3.out⟩
        case measure => simp [intOf]; omega
      · have HL3 : Hid (lst l c (c + 1) (m - (c + 1)) = r) := Lib.hid (by rw [← HL2.out, hq]; rfl)
        clear HL HL2
        go_wp2
        go_roundw
        case rel => exact ⟨c, c + 1, by omega, rfl, by go_num, HL3.out, HB3.out⟩
        case measure => simp [intOf]; omega
    · have HL3 : Hid (a' = r) := Lib.hid (by
        have := HL.out
        have e : m - c = 0 := by omega
        rw [e] at this
        exact this)
      clear HL
      go_wp2
      go_ret
      exact ⟨by rw [HL3.out]; rfl, HB.out⟩

end Go.Proofs.Ytbpcigcfdkamaaa
