/-
  The heap: which of two entries is before the other one, and where an entry has to go.
  The heap: an entry settles, up or down.
  The heap: made, asked how many there are, asked for the least.
  The heap: an item is pushed.
  The heap: the least item is taken out.
  The heap: the document's examples.
-/
import Derived.Test.YtokjnmgbgflgnaaGreatDoorHpPlain
import Derived.Test.YtokjnmgbgflgnaaGreatDoorFrame
import Derived.WalkKit
import Derived.WalkSpells
import Derived.WalkLawsBesides
import Derived.RegionTactic
import Derived.Deep.QuietTactic
import Derived.BigQuiet
import Derived.StillTailTactics
import Derived.Maps.AppendAt
import Derived.Lib.Hide
import Derived.ChangeAlike
import Derived.Deep.AppendLies
import Derived.Deep.RegionLaw
import Derived.Deep.CutRange
import Derived.Deep.DeepCutAuto
import Derived.BigRegion
import Derived.WalkSmall
set_option linter.unusedVariables false
set_option maxRecDepth 100000
section
namespace Go.Proofs.YtokjnmgbgflgnaaGreatDoor
open Go.RowKit E

theorem Tryz.infoEntry : (Tryz.prog.info? 134).map (fun i => (i.zero, i.size, i.bytes)) = some (some (.agg #[.int .i64 0, .int .i64 0, .int .i64 0]), 3, 24) := by kernel_rfl

/-- An entry's cells, and the cells of many. -/
def e3 (x : E) : List Value := [.int .i64 x.k, .int .i64 x.v, .int .i64 x.t]
def ec : List E → List Value
  | [] => []
  | x :: l => e3 x ++ ec l
theorem ec_length : ∀ l : List E, (ec l).length = l.length * 3
  | [] => rfl
  | x :: l => by simp [ec, e3, ec_length l]; omega
theorem ec_app : ∀ l m : List E, ec (l ++ m) = ec l ++ ec m
  | [], m => rfl
  | x :: l, m => by simp [ec, ec_app l m]
theorem ec_get : ∀ (l : List E) (i : Nat), i < l.length → (ec l)[i * 3]? = some (.int .i64 (gt l i).k) ∧ (ec l)[i * 3 + 1]? = some (.int .i64 (gt l i).v) ∧ (ec l)[i * 3 + 2]? = some (.int .i64 (gt l i).t)
  | [], i, h => by simp at h
  | x :: l, 0, h => by simp [ec, e3, gt]
  | x :: l, i + 1, h => by
    have ih := ec_get l i (by simpa using h)
    have e : gt (x :: l) (i + 1) = gt l i := by simp [gt]
    have e1 : (i + 1) * 3 = i * 3 + 3 := by omega
    have e2 : (i + 1) * 3 + 1 = i * 3 + 1 + 3 := by omega
    have e4 : (i + 1) * 3 + 2 = i * 3 + 2 + 3 := by omega
    rw [e, e2, e4, e1]
    simpa [ec, e3] using ih
/-- An entry as a value. -/
def ev (x : E) : Value := .agg #[.int .i64 x.k, .int .i64 x.v, .int .i64 x.t]

/-- Whether something is so is told; nothing that was there is written. -/
def Tells (b : Bool) (w : World) (e : Ending) (w' : World) : Prop := e = .returned (.bool b) ∧ Below w.heap.size w w'
def TellsN (n : Nat) (w : World) (e : Ending) (w' : World) : Prop := e = .returned (.int .i64 (n : Int)) ∧ Below w.heap.size w w'

theorem ebefore_any (a b : E) (w : World) : Calls Tryz.prog 131 #[ev a, ev b] w (Tells (lt a b) w) := by
  obtain ⟨ak, av, at'⟩ := a
  obtain ⟨bk, bv, bt⟩ := b
  unfold ev
  have HB : Hid (∀ x y : Obj, Below w.heap.size w ((w.alloc x).alloc y)) := Lib.hid fun x y => ((Below.refl _ _).alloc (Nat.le_refl _) _).alloc (by simp) _
  go_enter Tryz.func131, Tryz.ntmps131
  go_wp2
  · rename_i h
    have h' : ¬ ak = bk := by simpa using h
    go_ret
    exact ⟨by simp [lt, h'], HB.out _ _⟩
  · rename_i h
    have h' : ak = bk := by simpa using h
    go_ret
    exact ⟨by simp [lt, h'], HB.out _ _⟩

/-- A tree's entries lie at a slice. -/
structure Tree (w : World) (g n cap : Nat) (l : List E) : Prop where
  row : w.ownsRow 0 134 3 (.slice (some ⟨g, 0, none⟩) n cap) n (ec l)
  len : l.length = n
theorem Tree.same {w w' : World} {g n cap : Nat} {l : List E} (h : Tree w g n cap l) (hb : w'.heap[g]? = w.heap[g]?) : Tree w' g n cap l :=
  ⟨ownsRow_same h.row (fun k hk => by have : k = g := by simpa [Value.ownBlock] using hk.symm
                                      subst this; exact hb), h.len⟩
theorem Tree.below {w w' : World} {g n cap : Nat} {l : List E} (h : Tree w g n cap l) (hb : Below w.heap.size w w') : Tree w' g n cap l :=
  h.same (hb.block g (h.row.lt g rfl).2)
theorem Tree.cells {w : World} {g n cap : Nat} {l : List E} (h : Tree w g n cap l) (i : Nat) (hi : i < n) :
    w.cell? ⟨g, i * 3, none⟩ = some (.int .i64 (gt l i).k) ∧ w.cell? ⟨g, i * 3 + 1, none⟩ = some (.int .i64 (gt l i).v) ∧ w.cell? ⟨g, i * 3 + 2, none⟩ = some (.int .i64 (gt l i).t) := by
  have := ec_get l i (by rw [h.len]; exact hi)
  rw [h.row.cellAt _ (by omega), h.row.cellAt _ (by omega), h.row.cellAt _ (by omega)]
  exact this
theorem Tree.max {w : World} {g n cap : Nat} {l : List E} (h : Tree w g n cap l) : n ≤ 9223372036854775807 := by
  rcases h.row.2 with ⟨h, _⟩ | ⟨g', cap', cur, h, hg, hh, h1, h2, _⟩
  · cases h
  · unfold maxLen at h2; omega

theorem tbefore_any (g n cap i j : Nat) (l : List E) (w : World) (h : Tree w g n cap l) (hi : i < n) (hj : j < n) :
    Calls Tryz.prog 120 #[.slice (some ⟨g, 0, none⟩) n cap, .int .i64 (i : Int), .int .i64 (j : Int)] w (Tells (lt (gt l i) (gt l j)) w) := by
  obtain ⟨c0, c1, c2⟩ := h.cells i hi
  obtain ⟨d0, d1, d2⟩ := h.cells j hj
  have hmax := h.max
  clear h
  go_enter Tryz.func120, Tryz.ntmps120
  go_wp2
  go_still_tail 8, (by kernel_rfl)
  change wpList _ _ _ _ _ w.drew
  have hB : Below w.heap.size w w.drew := (Below.refl _ w).drew
  generalize w.drew = w2 at hB ⊢
  have HB := Lib.hid hB
  clear hB
  go_wp2_with fail
  refine (ebefore_any (gt l i) (gt l j) _).mono ?_
  rintro e w3 ⟨rfl, hb⟩
  have HB3 := Lib.hid (HB.out.trans (hb.mono HB.out.size))
  clear hb
  go_wp2
  go_ret
  exact ⟨rfl, HB3.out⟩

theorem tbefore_int (g n cap i j : Nat) (l : List E) (w : World) (h : Tree w g n cap l) (hi : i < n) (hj : j < n) (I J : Int) (hI : I = i) (hJ : J = j) :
    Calls Tryz.prog 120 #[.slice (some ⟨g, 0, none⟩) n cap, .int .i64 I, .int .i64 J] w (Tells (lt (gt l i) (gt l j)) w) := by
  subst hI hJ; exact tbefore_any g n cap i j l w h hi hj

theorem half_any (i : Nat) : ((i : Int) - 1).tdiv 2 = (((i - 1) / 2 : Nat) : Int) := by
  by_cases h : i = 0
  · subst h; rfl
  · rw [Int.tdiv_eq_ediv_of_nonneg (by omega)]; omega

theorem above_any (g n cap i : Nat) (l : List E) (w : World) (h : Tree w g n cap l) (hi : i < n) :
    Calls Tryz.prog 103 #[.slice (some ⟨g, 0, none⟩) n cap, .int .i64 (i : Int)] w (TellsN (up l i) w) := by
  have hmax := h.max
  have HT := Lib.hid h
  clear h
  have h2 := half_any i
  obtain ⟨j, hj⟩ : ∃ j, j = (i - 1) / 2 := ⟨_, rfl⟩
  have HU : Hid (up l i = if lt (gt l i) (gt l j) then j else i) := Lib.hid (by rw [hj]; rfl)
  rw [← hj] at h2
  have hjn : j < n := by omega
  have H2 := Lib.hid h2
  clear h2 hj
  go_enter Tryz.func103, Tryz.ntmps103
  go_wp2_with fail
  refine (tbefore_int g n cap i j l w HT.out hi hjn _ _ rfl H2.out).mono ?_
  rintro e w3 ⟨rfl, hb⟩
  have HB := Lib.hid hb
  clear hb
  cases hq : lt (gt l i) (gt l j)
  · have HU2 : Hid (up l i = i) := Lib.hid (by rw [HU.out, hq]; rfl)
    clear HU
    go_wp2
    go_ret
    exact ⟨by rw [HU2.out]; rfl, HB.out⟩
  · have HU2 : Hid (up l i = j) := Lib.hid (by rw [HU.out, hq]; rfl)
    clear HU
    go_wp2
    go_ret
    exact ⟨by rw [HU2.out, ← H2.out]; rfl, HB.out⟩

theorem least_any (g n cap a f m : Nat) (l : List E) (w : World) (h : Tree w g n cap l) (ha : a < n ∨ m ≤ f) (hf : m ≤ n) :
    Calls Tryz.prog 122 #[.int .i64 (a : Int), .int .i64 (f : Int), .int .i64 (m : Int), .func (.func 120) #[.slice (some ⟨g, 0, none⟩) n cap] #[]] w (TellsN (lst l a f (m - f)) w) := by
  have hmax := h.max
  have HT := Lib.hid h
  clear h
  obtain ⟨r, hr⟩ : ∃ r, r = lst l a f (m - f) := ⟨_, rfl⟩
  rw [← hr]
  have HR := Lib.hid hr
  clear hr
  go_enter Tryz.func122, Tryz.ntmps122
  go_wp2
  go_loopw [0, 9] (fun av iv wr => ∃ a' c : Nat, (a' < n ∨ m ≤ c) ∧ av = .int .i64 (a' : Int) ∧ iv = .int .i64 (c : Int) ∧ lst l a' c (m - c) = r ∧ Below w.heap.size w wr) (fun _ iv _ => m - (intOf iv).toNat)
  case atStart => exact ⟨a, f, ha, rfl, rfl, HR.out.symm, Below.refl _ _⟩
  case round =>
    obtain ⟨a', c, ha', rfl, rfl, hl, hB⟩ := hrel
    have HB := Lib.hid hB
    have HL := Lib.hid hl
    clear hB hl HR
    by_cases hlt : c < m
    · go_wp2_with fail
      refine (tbefore_int g n cap c a' l wr (HT.out.below HB.out) (by omega) (by omega) _ _ rfl rfl).mono ?_
      rintro e w3 ⟨rfl, hb⟩
      have HB3 := Lib.hid (HB.out.trans (hb.mono HB.out.size))
      clear hb
      have HL2 : Hid (lst l (if lt (gt l c) (gt l a') then c else a') (c + 1) (m - (c + 1)) = r) := Lib.hid (by
        have := HL.out
        have e : m - c = (m - (c + 1)) + 1 := by omega
        rw [e] at this
        exact this)
      cases hq : lt (gt l c) (gt l a')
      · have HL3 : Hid (lst l a' (c + 1) (m - (c + 1)) = r) := Lib.hid (by rw [← HL2.out, hq]; rfl)
        clear HL HL2
        go_wp2
        go_roundw
        case rel => exact ⟨a', c + 1, by omega, rfl, by go_num, HL3.out, HB3.out⟩
        case measure => simp [intOf]; omega
      · have HL3 : Hid (lst l c (c + 1) (m - (c + 1)) = r) := Lib.hid (by rw [← HL2.out, hq]; rfl)
        clear HL HL2
        go_wp2
        go_roundw
        case rel => exact ⟨c, c + 1, by omega, rfl, by go_num, HL3.out, HB3.out⟩
        case measure => simp [intOf]; omega
    · have HL3 : Hid (a' = r) := Lib.hid (by
        have := HL.out
        have e : m - c = 0 := by omega
        rw [e] at this
        exact this)
      clear HL
      go_wp2
      go_ret
      exact ⟨by rw [HL3.out]; rfl, HB.out⟩

end Go.Proofs.YtokjnmgbgflgnaaGreatDoor
end

section
namespace Go.Proofs.YtokjnmgbgflgnaaGreatDoor
open Go.RowKit E

theorem least_int (g n cap a f m : Nat) (l : List E) (w : World) (h : Tree w g n cap l) (ha : a < n ∨ m ≤ f) (hf : m ≤ n) (F M : Int) (hF : F = f) (hM : M = m) :
    Calls Tryz.prog 122 #[.int .i64 (a : Int), .int .i64 F, .int .i64 M, .func (.func 120) #[.slice (some ⟨g, 0, none⟩) n cap] #[]] w (TellsN (lst l a f (m - f)) w) := by
  subst hF hM; exact least_any g n cap a f m l w h ha hf

theorem below_any (g n cap i : Nat) (l : List E) (w : World) (h : Tree w g n cap l) (hi : i < n ∨ i = 0) (hs : n ≤ 1000000) :
    Calls Tryz.prog 105 #[.slice (some ⟨g, 0, none⟩) n cap, .int .i64 (i : Int)] w (TellsN (dn l i) w) := by
  have HT := Lib.hid h
  have HD : Hid (dn l i = lst l i (2 * i + 1) (min (2 * i + 3) n - (2 * i + 1))) := Lib.hid (by unfold dn; rw [h.len])
  clear h
  obtain ⟨r, hr⟩ : ∃ r, r = dn l i := ⟨_, rfl⟩
  rw [← hr] at HD ⊢
  have HA : Hid (i < n ∨ min (2 * i + 3) n ≤ 2 * i + 1) := Lib.hid (by omega)
  have hi2 : (i : Int) ≤ 1000000 := by omega
  clear hr hi
  by_cases h : 2 * (i : Int) + 1 + 2 ≤ (n : Int)
  · go_enter Tryz.func105, Tryz.ntmps105
    go_wp2_with (go_at_call 122; refine (least_int g n cap i (2 * i + 1) (min (2 * i + 3) n) l w HT.out HA.out (by omega) _ _ (by omega) (by omega)).mono ?_; rintro e w3 ⟨rfl, hb⟩; rw [← HD.out]; have HB := Lib.hid hb; clear hb HD)
    go_ret
    exact ⟨rfl, HB.out⟩
  · go_enter Tryz.func105, Tryz.ntmps105
    go_wp2_with (go_at_call 122; refine (least_int g n cap i (2 * i + 1) (min (2 * i + 3) n) l w HT.out HA.out (by omega) _ _ (by omega) (by omega)).mono ?_; rintro e w3 ⟨rfl, hb⟩; rw [← HD.out]; have HB := Lib.hid hb; clear hb HD)
    go_ret
    exact ⟨rfl, HB.out⟩

theorem ec_set : ∀ (l : List E) (i : Nat) (x : E), ec (l.set i x) = (((ec l).set (i * 3) (.int .i64 x.k)).set (i * 3 + 1) (.int .i64 x.v)).set (i * 3 + 2) (.int .i64 x.t)
  | [], i, x => by simp [ec]
  | a :: l, 0, x => by simp [ec, e3]
  | a :: l, i + 1, x => by
    have e1 : (i + 1) * 3 = i * 3 + 1 + 1 + 1 := by omega
    rw [List.set_cons_succ, ec, ec_set l i x, e1]
    simp [ec, e3]

theorem Tree.put {w : World} {g n cap : Nat} {l : List E} (h : Tree w g n cap l) (i : Nat) (x : E) :
    Tree (((w.setCell ⟨g, i * 3, none⟩ (.int .i64 x.k)).setCell ⟨g, i * 3 + 1, none⟩ (.int .i64 x.v)).setCell ⟨g, i * 3 + 2, none⟩ (.int .i64 x.t)) g n cap (l.set i x) := by
  refine ⟨?_, by simp [h.len]⟩
  have r1 := (h.row.stored (i * 3) (.int .i64 x.k)).1
  have r2 := (r1.stored (i * 3 + 1) (.int .i64 x.v)).1
  have r3 := (r2.stored (i * 3 + 2) (.int .i64 x.t)).1
  rw [ec_set]
  exact r3

/-- Only the block of the tree is written. -/
def OnlyB (g : Nat) : Nat → Prop := fun k => k = g
theorem Turn.three {F F' : Nat → Prop} {w w' : World} (h : Turn F F' w w') {g : Nat} (o1 o2 o3 : Nat) (u1 u2 u3 : Value) (hg : F' g) : Turn F F' w (((w'.setCell ⟨g, o1, none⟩ u1).setCell ⟨g, o2, none⟩ u2).setCell ⟨g, o3, none⟩ u3) :=
  ((h.put u1 hg).put u2 hg).put u3 hg

theorem settle_up (nx : List E → Nat → Nat) (m : Nat → Nat) (g n cap i : Nat) (l : List E) (w : World) (h : Tree w g n cap l) (hi : i < n ∨ i = 0)
    (hN : ∀ (l : List E) (w : World) (i : Nat), Tree w g n cap l → i < n ∨ i = 0 → Calls Tryz.prog 103 #[.slice (some ⟨g, 0, none⟩) n cap, .int .i64 (i : Int)] w (TellsN (nx l i) w))
    (hb : ∀ (l : List E) (i : Nat), l.length = n → i < n ∨ i = 0 → nx l i ≠ i → nx l i < n ∧ i < n ∧ m (nx l i) < m i) :
    Calls Tryz.prog 102 #[.slice (some ⟨g, 0, none⟩) n cap, .int .i64 (i : Int), .func (.func 103) #[] #[]] w fun e w' => e = .returned (.tuple #[]) ∧ ∃ l', Stl nx l i l' ∧ Tree w' g n cap l' ∧ Turn (OnlyB g) (OnlyB g) w w' := by
  have hmax := h.max
  have HT := Lib.hid h
  have HN := Lib.hid hN
  have HB := Lib.hid hb
  clear h hN hb
  go_enter Tryz.func102, Tryz.ntmps102
  go_wp2_with fail
  refine (HN.out l w i HT.out hi).mono ?_
  rintro e w1 ⟨rfl, hb⟩
  have HT1 := Lib.hid (HT.out.below hb)
  have HW1 := Lib.hid (Turn.ofBelow hb (OnlyB g))
  clear hb
  obtain ⟨t0, ht0⟩ : ∃ t, t = nx l i := ⟨_, rfl⟩
  rw [← ht0]
  have HT0 := Lib.hid ht0
  clear ht0
  go_wp2
  go_loopw [1, 6] (fun av tv wr => ∃ (i1 t : Nat) (l1 : List E), (i1 < n ∨ i1 = 0) ∧ av = .int .i64 (i1 : Int) ∧ tv = .int .i64 (t : Int) ∧ t = nx l1 i1 ∧ Tree wr g n cap l1 ∧ (∀ l', Stl nx l1 i1 l' → Stl nx l i l') ∧ Turn (OnlyB g) (OnlyB g) w wr) (fun av _ _ => m (intOf av).toNat)
  case atStart => exact ⟨i, t0, l, hi, rfl, rfl, HT0.out, HT1.out, fun _ h => h, HW1.out⟩
  case round =>
    obtain ⟨i1, t, l1, hi1, rfl, rfl, ht, hT, hS, hW⟩ := hrel
    by_cases hne : t = i1
    · have HF := Lib.hid (hS l1 (.stop _ _ (ht.symm.trans hne)))
      have HT2 := Lib.hid hT
      have HW2 := Lib.hid hW
      clear hT hS hW ht HT1 HW1
      have hq : ((t : Int) != (i1 : Int)) = false := by simp [hne]
      clear hne
      go_wp2
      go_end0
      exact ⟨rfl, l1, HF.out, HT2.out, HW2.out⟩
    · obtain ⟨htn, hin, hmm⟩ := HB.out l1 i1 hT.len hi1 (by rw [← ht]; exact hne)
      rw [← ht] at htn
      have hne' : ¬ ((t : Int) = (i1 : Int)) := by omega
      obtain ⟨c0, c1, c2⟩ := hT.cells t htn
      obtain ⟨d0, d1, d2⟩ := hT.cells i1 hin
      have f0 : ∀ j, wr.frozen? ⟨g, j, none⟩ = false := fun j => hT.row.frozenAt j
      have fa := f0 (t * 3)
      have fb := f0 (t * 3 + 1)
      have fc := f0 (t * 3 + 2)
      have fd := f0 (i1 * 3)
      have fe := f0 (i1 * 3 + 1)
      have ff := f0 (i1 * 3 + 2)
      have HST := Lib.hid hS
      have HT2 := Lib.hid hT
      have HW2 := Lib.hid hW
      have HTT := Lib.hid ht
      clear f0 hT hS hW ht HT1 HW1
      have hq : ((t : Int) != (i1 : Int)) = true := by simpa using hne'
      have HNE := Lib.hid hne
      clear hne
      go_wp2
      go_region
      have HT3 := Lib.hid ((HT2.out.put i1 (gt l1 t)).put t (gt l1 i1))
      have HW3 : Hid (Turn (OnlyB g) (OnlyB g) w _) := Lib.hid (((HW2.out.three (i1 * 3) (i1 * 3 + 1) (i1 * 3 + 2) (.int .i64 (gt l1 t).k) (.int .i64 (gt l1 t).v) (.int .i64 (gt l1 t).t) rfl).three (t * 3) (t * 3 + 1) (t * 3 + 2) (.int .i64 (gt l1 i1).k) (.int .i64 (gt l1 i1).v) (.int .i64 (gt l1 i1).t) rfl).drew)
      have HS3 : Hid (∀ l', Stl nx (swp l1 i1 t) t l' → Stl nx l i l') := Lib.hid (fun l' hl => HST.out l' (.step _ _ _ (by rw [← HTT.out]; exact HNE.out) (by rw [← HTT.out]; exact hl)))
      have hls : (swp l1 i1 t).length = n := by rw [swp_length]; exact HT2.out.len
      have HLS := Lib.hid hls
      obtain ⟨w5, hw5⟩ : ∃ w5, w5 = ((((((wr.setCell ⟨g, i1 * 3, none⟩ (.int .i64 (gt l1 t).k)).setCell ⟨g, i1 * 3 + 1, none⟩ (.int .i64 (gt l1 t).v)).setCell ⟨g, i1 * 3 + 2, none⟩ (.int .i64 (gt l1 t).t)).setCell ⟨g, t * 3, none⟩ (.int .i64 (gt l1 i1).k)).setCell ⟨g, t * 3 + 1, none⟩ (.int .i64 (gt l1 i1).v)).setCell ⟨g, t * 3 + 2, none⟩ (.int .i64 (gt l1 i1).t)).drew := ⟨_, rfl⟩
      have HT4 : Hid (Tree w5 g n cap (swp l1 i1 t)) := Lib.hid (by rw [hw5]; exact ⟨HT3.out.row.drew, HT3.out.len⟩)
      have HW4 : Hid (Turn (OnlyB g) (OnlyB g) w w5) := Lib.hid (by rw [hw5]; exact HW3.out)
      rw [← hw5]
      clear hw5 HT3 HW3 c0 c1 c2 d0 d1 d2 fa fb fc fd fe ff hls
      go_wp2_with fail
      refine (HN.out _ _ t HT4.out (.inl htn)).mono ?_
      rintro e w6 ⟨rfl, hb⟩
      have HT6 := Lib.hid (HT4.out.below hb)
      have HW6 := Lib.hid (HW4.out.trans (Turn.ofBelow hb (OnlyB g)))
      clear hb
      obtain ⟨t2, ht2⟩ : ∃ t2, t2 = nx (swp l1 i1 t) t := ⟨_, rfl⟩
      rw [← ht2]
      have HT2' := Lib.hid ht2
      have hmm' : m t < m i1 := by rw [HTT.out]; exact hmm
      clear ht2 hmm
      go_wp2
      go_roundw
      case rel => exact ⟨t, t2, _, .inl htn, rfl, rfl, HT2'.out, HT6.out, HS3.out, HW6.out⟩
      case measure => simp [intOf]; exact hmm'

theorem settle_dn (nx : List E → Nat → Nat) (m : Nat → Nat) (g n cap i : Nat) (l : List E) (w : World) (h : Tree w g n cap l) (hi : i < n ∨ i = 0)
    (hN : ∀ (l : List E) (w : World) (i : Nat), Tree w g n cap l → i < n ∨ i = 0 → Calls Tryz.prog 105 #[.slice (some ⟨g, 0, none⟩) n cap, .int .i64 (i : Int)] w (TellsN (nx l i) w))
    (hb : ∀ (l : List E) (i : Nat), l.length = n → i < n ∨ i = 0 → nx l i ≠ i → nx l i < n ∧ i < n ∧ m (nx l i) < m i) :
    Calls Tryz.prog 102 #[.slice (some ⟨g, 0, none⟩) n cap, .int .i64 (i : Int), .func (.func 105) #[] #[]] w fun e w' => e = .returned (.tuple #[]) ∧ ∃ l', Stl nx l i l' ∧ Tree w' g n cap l' ∧ Turn (OnlyB g) (OnlyB g) w w' := by
  have hmax := h.max
  have HT := Lib.hid h
  have HN := Lib.hid hN
  have HB := Lib.hid hb
  clear h hN hb
  go_enter Tryz.func102, Tryz.ntmps102
  go_wp2_with fail
  refine (HN.out l w i HT.out hi).mono ?_
  rintro e w1 ⟨rfl, hb⟩
  have HT1 := Lib.hid (HT.out.below hb)
  have HW1 := Lib.hid (Turn.ofBelow hb (OnlyB g))
  clear hb
  obtain ⟨t0, ht0⟩ : ∃ t, t = nx l i := ⟨_, rfl⟩
  rw [← ht0]
  have HT0 := Lib.hid ht0
  clear ht0
  go_wp2
  go_loopw [1, 6] (fun av tv wr => ∃ (i1 t : Nat) (l1 : List E), (i1 < n ∨ i1 = 0) ∧ av = .int .i64 (i1 : Int) ∧ tv = .int .i64 (t : Int) ∧ t = nx l1 i1 ∧ Tree wr g n cap l1 ∧ (∀ l', Stl nx l1 i1 l' → Stl nx l i l') ∧ Turn (OnlyB g) (OnlyB g) w wr) (fun av _ _ => m (intOf av).toNat)
  case atStart => exact ⟨i, t0, l, hi, rfl, rfl, HT0.out, HT1.out, fun _ h => h, HW1.out⟩
  case round =>
    obtain ⟨i1, t, l1, hi1, rfl, rfl, ht, hT, hS, hW⟩ := hrel
    by_cases hne : t = i1
    · have HF := Lib.hid (hS l1 (.stop _ _ (ht.symm.trans hne)))
      have HT2 := Lib.hid hT
      have HW2 := Lib.hid hW
      clear hT hS hW ht HT1 HW1
      have hq : ((t : Int) != (i1 : Int)) = false := by simp [hne]
      clear hne
      go_wp2
      go_end0
      exact ⟨rfl, l1, HF.out, HT2.out, HW2.out⟩
    · obtain ⟨htn, hin, hmm⟩ := HB.out l1 i1 hT.len hi1 (by rw [← ht]; exact hne)
      rw [← ht] at htn
      have hne' : ¬ ((t : Int) = (i1 : Int)) := by omega
      obtain ⟨c0, c1, c2⟩ := hT.cells t htn
      obtain ⟨d0, d1, d2⟩ := hT.cells i1 hin
      have f0 : ∀ j, wr.frozen? ⟨g, j, none⟩ = false := fun j => hT.row.frozenAt j
      have fa := f0 (t * 3)
      have fb := f0 (t * 3 + 1)
      have fc := f0 (t * 3 + 2)
      have fd := f0 (i1 * 3)
      have fe := f0 (i1 * 3 + 1)
      have ff := f0 (i1 * 3 + 2)
      have HST := Lib.hid hS
      have HT2 := Lib.hid hT
      have HW2 := Lib.hid hW
      have HTT := Lib.hid ht
      clear f0 hT hS hW ht HT1 HW1
      have hq : ((t : Int) != (i1 : Int)) = true := by simpa using hne'
      have HNE := Lib.hid hne
      clear hne
      go_wp2
      go_region
      have HT3 := Lib.hid ((HT2.out.put i1 (gt l1 t)).put t (gt l1 i1))
      have HW3 : Hid (Turn (OnlyB g) (OnlyB g) w _) := Lib.hid (((HW2.out.three (i1 * 3) (i1 * 3 + 1) (i1 * 3 + 2) (.int .i64 (gt l1 t).k) (.int .i64 (gt l1 t).v) (.int .i64 (gt l1 t).t) rfl).three (t * 3) (t * 3 + 1) (t * 3 + 2) (.int .i64 (gt l1 i1).k) (.int .i64 (gt l1 i1).v) (.int .i64 (gt l1 i1).t) rfl).drew)
      have HS3 : Hid (∀ l', Stl nx (swp l1 i1 t) t l' → Stl nx l i l') := Lib.hid (fun l' hl => HST.out l' (.step _ _ _ (by rw [← HTT.out]; exact HNE.out) (by rw [← HTT.out]; exact hl)))
      have hls : (swp l1 i1 t).length = n := by rw [swp_length]; exact HT2.out.len
      have HLS := Lib.hid hls
      obtain ⟨w5, hw5⟩ : ∃ w5, w5 = ((((((wr.setCell ⟨g, i1 * 3, none⟩ (.int .i64 (gt l1 t).k)).setCell ⟨g, i1 * 3 + 1, none⟩ (.int .i64 (gt l1 t).v)).setCell ⟨g, i1 * 3 + 2, none⟩ (.int .i64 (gt l1 t).t)).setCell ⟨g, t * 3, none⟩ (.int .i64 (gt l1 i1).k)).setCell ⟨g, t * 3 + 1, none⟩ (.int .i64 (gt l1 i1).v)).setCell ⟨g, t * 3 + 2, none⟩ (.int .i64 (gt l1 i1).t)).drew := ⟨_, rfl⟩
      have HT4 : Hid (Tree w5 g n cap (swp l1 i1 t)) := Lib.hid (by rw [hw5]; exact ⟨HT3.out.row.drew, HT3.out.len⟩)
      have HW4 : Hid (Turn (OnlyB g) (OnlyB g) w w5) := Lib.hid (by rw [hw5]; exact HW3.out)
      rw [← hw5]
      clear hw5 HT3 HW3 c0 c1 c2 d0 d1 d2 fa fb fc fd fe ff hls
      go_wp2_with fail
      refine (HN.out _ _ t HT4.out (.inl htn)).mono ?_
      rintro e w6 ⟨rfl, hb⟩
      have HT6 := Lib.hid (HT4.out.below hb)
      have HW6 := Lib.hid (HW4.out.trans (Turn.ofBelow hb (OnlyB g)))
      clear hb
      obtain ⟨t2, ht2⟩ : ∃ t2, t2 = nx (swp l1 i1 t) t := ⟨_, rfl⟩
      rw [← ht2]
      have HT2' := Lib.hid ht2
      have hmm' : m t < m i1 := by rw [HTT.out]; exact hmm
      clear ht2 hmm
      go_wp2
      go_roundw
      case rel => exact ⟨t, t2, _, .inl htn, rfl, rfl, HT2'.out, HT6.out, HS3.out, HW6.out⟩
      case measure => simp [intOf]; exact hmm'

end Go.Proofs.YtokjnmgbgflgnaaGreatDoor
end

section
namespace Go.Proofs.YtokjnmgbgflgnaaGreatDoor
open Go.RowKit E

/-- A heap lies in block b, its tree at v; in order it has the entries M, and n were pushed. -/
structure HAt (w : World) (b : Nat) (v : Value) (M : List E) (n : Nat) : Prop where
  box : w.heap[b]? = some (.cells #[v, .int .i64 (n : Int)] 127 (0, 0))
  row : ∃ es, Abs es M n ∧ w.ownsRow (b + 1) 134 3 v es.length (ec es)
  few : M.length ≤ n ∧ n ≤ 1000000
/-- The heap's blocks. -/
def HF (b : Nat) (v : Value) : Nat → Prop := fun k => k = b ∨ v.ownBlock = some k

theorem HAt.lt {w : World} {b : Nat} {v : Value} {M : List E} {n : Nat} (h : HAt w b v M n) : b < w.heap.size := lt_of_heap h.box
theorem HAt.cells {w : World} {b : Nat} {v : Value} {M : List E} {n : Nat} (h : HAt w b v M n) :
    w.cell? ⟨b, 0, none⟩ = some v ∧ w.cell? ⟨b, 1, none⟩ = some (.int .i64 (n : Int)) ∧ w.frozen? ⟨b, 0, none⟩ = false ∧ w.frozen? ⟨b, 1, none⟩ = false :=
  ⟨by rw [cell_of_row w b 0 _ _ _ h.box]; rfl, by rw [cell_of_row w b 1 _ _ _ h.box]; rfl, frozen_of_row w b 0 _ _ h.box, frozen_of_row w b 1 _ _ h.box⟩
theorem HAt.owned {w : World} {b : Nat} {v : Value} {M : List E} {n : Nat} (h : HAt w b v M n) : ∀ k, HF b v k → b ≤ k ∧ k < w.heap.size := by
  obtain ⟨es, _, hr⟩ := h.row
  intro k hk
  rcases hk with rfl | hk
  · exact ⟨Nat.le_refl _, h.lt⟩
  · have := hr.lt k hk; omega
theorem HAt.same {w w' : World} {b : Nat} {v : Value} {M : List E} {n : Nat} (h : HAt w b v M n) (hb : ∀ k, HF b v k → w'.heap[k]? = w.heap[k]?) : HAt w' b v M n := by
  obtain ⟨es, ha, hr⟩ := h.row
  exact ⟨by rw [hb b (.inl rfl)]; exact h.box, ⟨es, ha, ownsRow_same hr (fun k hk => hb k (.inr hk))⟩, h.few⟩
theorem HAt.below {w w' : World} {b : Nat} {v : Value} {M : List E} {n : Nat} (h : HAt w b v M n) (hb : Below w.heap.size w w') : HAt w' b v M n :=
  h.same fun k hk => hb.block k (h.owned k hk).2
/-- The tree's value. -/
theorem HAt.tree {w : World} {b : Nat} {v : Value} {M : List E} {n : Nat} (h : HAt w b v M n) :
    (v = .slice none 0 0 ∧ M = []) ∨ ∃ g cap es, v = .slice (some ⟨g, 0, none⟩) M.length cap ∧ b < g ∧ Abs es M n ∧ Tree w g M.length cap es := by
  obtain ⟨es, ha, hr⟩ := h.row
  have hl := ha.length
  rcases hr.2 with ⟨h1, h2⟩ | ⟨g, cap, cur, h1, hg, hrest⟩
  · left
    refine ⟨h1, ?_⟩
    cases M with
    | nil => rfl
    | cons a t => simp at hl; omega
  · right
    subst h1
    rw [hl] at hr
    refine ⟨g, cap, es, by rw [hl], by omega, ha, ⟨?_, hl⟩⟩
    obtain ⟨q1, q2⟩ := hr
    rcases q2 with ⟨q, _⟩ | ⟨g', cap', cur', q, hg', r⟩
    · cases q
    · exact ⟨q1, .inr ⟨g', cap', cur', q, Nat.zero_le _, r⟩⟩

theorem new_any (w : World) : Calls Tryz.prog 72 #[] w fun e w' => e = .returned (.pointer (some ⟨w.heap.size, 0, none⟩)) ∧ HAt w' w.heap.size (.slice none 0 0) [] 0 ∧ Below w.heap.size w w' ∧ w.heap.size < w'.heap.size := by
  go_enter Tryz.func72, Tryz.ntmps72
  go_wp2
  go_ret
  refine ⟨rfl, ⟨?_, ⟨[], Abs.nil, World.ownsRow_nil _ _ _ _⟩, by simp⟩, (Below.refl _ w).alloc (Nat.le_refl _) _, by simp⟩
  exact heap_alloc_new w _

theorem len_any (b : Nat) (v : Value) (M : List E) (n : Nat) (w : World) (h : HAt w b v M n) :
    Calls Tryz.prog 121 #[.pointer (some ⟨b, 0, none⟩)] w fun e w' => e = .returned (.int .i64 (M.length : Int)) ∧ w = w' := by
  obtain ⟨c0, c1, f0, f1⟩ := h.cells
  rcases h.tree with ⟨rfl, rfl⟩ | ⟨g, cap, es, rfl, hbg, ha, hT⟩
  · clear h
    go_enter Tryz.func121, Tryz.ntmps121
    go_wp2
    go_ret
    exact ⟨rfl, rfl⟩
  · clear h ha hT
    go_enter Tryz.func121, Tryz.ntmps121
    go_wp2
    go_ret
    exact ⟨rfl, rfl⟩
theorem len_nil (w : World) : Calls Tryz.prog 121 #[.pointer none] w fun e w' => e = .returned (.int .i64 0) ∧ w = w' := by
  go_enter Tryz.func121, Tryz.ntmps121
  go_wp2
  go_ret
  exact ⟨rfl, rfl⟩

/-- An item and whether there is one. -/
def Item? (M : List E) : Value := match M with
  | [] => .tuple #[.agg #[.int .i64 0, .int .i64 0], .bool false]
  | m :: _ => .tuple #[.agg #[.int .i64 m.k, .int .i64 m.v], .bool true]

theorem peek_nil (w : World) : Calls Tryz.prog 104 #[.pointer none] w fun e w' => e = .returned (Item? []) ∧ Below w.heap.size w w' := by
  have HB : Hid (∀ x : Obj, Below w.heap.size w (w.alloc x)) := Lib.hid fun x => (Below.refl _ w).alloc (Nat.le_refl _) _
  go_enter Tryz.func104, Tryz.ntmps104
  go_wp2_with (go_at_call 121; refine (len_nil _).mono ?_; rintro e w' ⟨rfl, rfl⟩)
  exact bodyPost_ret (v := Item? []) (by simp [results, Tryz.results104, go_sem, Item?]) rfl ⟨rfl, HB.out _⟩

theorem peek_any (b : Nat) (v : Value) (M : List E) (n : Nat) (w : World) (h : HAt w b v M n) :
    Calls Tryz.prog 104 #[.pointer (some ⟨b, 0, none⟩)] w fun e w' => e = .returned (Item? M) ∧ Below w.heap.size w w' := by
  have HB : Hid (∀ x : Obj, Below w.heap.size w (w.alloc x)) := Lib.hid fun x => (Below.refl _ w).alloc (Nat.le_refl _) _
  have HH : Hid (∀ x : Obj, HAt (w.alloc x) b v M n) := Lib.hid fun x => h.below (HB.out x)
  obtain ⟨c0, c1, f0, f1⟩ := h.cells
  have hlt := h.lt
  cases M with
  | nil =>
    clear h c0 c1
    go_enter Tryz.func104, Tryz.ntmps104
    go_wp2_with (go_at_call 121; refine (len_any b v [] n _ (HH.out _)).mono ?_; rintro e w' ⟨rfl, rfl⟩)
    exact bodyPost_ret (v := Item? []) (by simp [results, Tryz.results104, go_sem, Item?]) rfl ⟨rfl, HB.out _⟩
  | cons m M =>
    obtain ⟨g, cap, es, rfl, hbg, ha, hT⟩ : ∃ g cap es, v = .slice (some ⟨g, 0, none⟩) (M.length + 1) cap ∧ b < g ∧ Abs es (m :: M) n ∧ Tree w g (M.length + 1) cap es := by
      rcases h.tree with ⟨_, h2⟩ | h2
      · cases h2
      · exact h2
    obtain ⟨d0, d1, d2⟩ := hT.cells 0 (by omega)
    rw [ha.root] at d0 d1 d2
    have hg := (hT.row.lt g rfl).2
    have hmax := hT.max
    clear h ha hT
    go_enter Tryz.func104, Tryz.ntmps104
    go_wp2_with (go_at_call 121; refine (len_any b _ (m :: M) n _ (HH.out _)).mono ?_; rintro e w' ⟨rfl, rfl⟩)
    exact bodyPost_ret (v := Item? (m :: M)) (by simp [results, Tryz.results104, go_sem, Item?]) rfl ⟨rfl, HB.out _⟩

end Go.Proofs.YtokjnmgbgflgnaaGreatDoor
end

section
namespace Go.Proofs.YtokjnmgbgflgnaaGreatDoor
open Go.RowKit E

theorem push_nil (x y : Int) (w : World) : Calls Tryz.prog 75 #[.pointer none, .agg #[.int .i64 x, .int .i64 y]] w fun e w' => e = .returned (.tuple #[]) ∧ Below w.heap.size w w' := by
  have HB : Hid (∀ x : Obj, Below w.heap.size w (w.alloc x)) := Lib.hid fun x => (Below.refl _ w).alloc (Nat.le_refl _) _
  go_enter Tryz.func75, Tryz.ntmps75
  go_wp2
  exact bodyPost_ret (v := .tuple #[]) (by simp [results, Tryz.results75, go_sem]) rfl ⟨rfl, HB.out _⟩

/-- An entry was appended to the heap's tree, which lies now at block g. -/
structure Pushed (w : World) (b : Nat) (v : Value) (n : Nat) (l : List E) (g c : Nat) (wc : World) : Prop where
  box : wc.heap[b]? = some (.cells #[.slice (some ⟨g, 0, none⟩) l.length c, .int .i64 (n : Int)] 127 (0, 0))
  row : wc.ownsRow (b + 1) 134 3 (.slice (some ⟨g, 0, none⟩) l.length c) l.length (ec l)
  turn : Turn (HF b v) (HF b (.slice (some ⟨g, 0, none⟩) l.length c)) w wc

theorem pushed_of {w w6 : World} {X Y : Obj} {b n g c : Nat} {v : Value} {es : List E} {x y : Int} (hb : w.heap[b]? = some (.cells #[v, .int .i64 (n : Int)] 127 (0, 0))) (hne : some b ≠ v.ownBlock)
    (ho : w6.ownsRow (b + 1) 134 3 (.slice (some ⟨g, 0, none⟩) (es.length + 1) c) (es.length + 1) (ec es ++ [.int .i64 x, .int .i64 y, .int .i64 (n : Int)]))
    (hg : ((w.alloc X).alloc Y).drew.grownBy w6 v.ownBlock) (hat : v.ownBlock = some g ∨ g = w.heap.size + 2) :
    Pushed w b v n (es ++ [⟨x, y, n⟩]) g c (w6.setCell ⟨b, 0, none⟩ (.slice (some ⟨g, 0, none⟩) (es.length + 1) c)) := by
  have hlb := lt_of_heap hb
  have hbox : w6.heap[b]? = some (.cells #[v, .int .i64 (n : Int)] 127 (0, 0)) := by
    rw [hg.block b (by simp [World.drew]; omega) hne]
    show ((w.alloc X).alloc Y).heap[b]? = _
    rw [Below.heap_alloc _ _ _ (by simp; omega), Below.heap_alloc _ _ _ hlb]; exact hb
  have hgb := (ho.lt g rfl).1
  have hl : (es ++ [(⟨x, y, n⟩ : E)]).length = es.length + 1 := by simp
  refine ⟨?_, ?_, ?_⟩
  · have := heap_setCell_same w6 b 0 _ _ (.slice (some ⟨g, 0, none⟩) (es.length + 1) c) hbox
    rw [hl, this]; simp
  · rw [hl, ec_app]
    exact ownsRow_setCell_below ho (a := ⟨b, 0, none⟩) (by simp) _
  · have t1 : Turn (HF b v) (HF b v) w ((w.alloc X).alloc Y).drew := (((Turn.refl _ w).more X).more Y).drew
    have t2 : Turn (HF b v) (HF b v) w w6 := t1.trans (Turn.grown hg (fun k hk => .inr hk))
    have t3 : Turn (HF b v) (HF b (.slice (some ⟨g, 0, none⟩) (es.length + 1) c)) w w6 := t2.sub fun k hk => by
      rcases hk with hk | hk
      · exact .inl (.inl hk)
      · have : k = g := by simpa [Value.ownBlock] using hk.symm
        subst this
        rcases hat with e | e
        · exact .inl (.inr e)
        · exact .inr (by omega)
    rw [hl]
    exact t3.put _ (.inl rfl)

theorem pushed_end {w wc w7 w8 : World} {b n g c : Nat} {v : Value} {M es l' : List E} {x y : Int} (ha : Abs es M n) (hf : M.length ≤ n ∧ n < 1000000) (hp : Pushed w b v n (es ++ [⟨x, y, n⟩]) g c wc)
    (h7 : w7 = wc.setCell ⟨b, 1, none⟩ (.int .i64 ((n : Int) + 1))) (hs : Stl up (es ++ [⟨x, y, n⟩]) es.length l') (ht : Tree w8 g (es.length + 1) c l') (hw : Turn (OnlyB g) (OnlyB g) w7.drew w8) :
    ∃ v', HAt w8 b v' (ins ⟨x, y, n⟩ M) (n + 1) ∧ Turn (HF b v) (HF b v') w w8 := by
  have hl : (es ++ [(⟨x, y, n⟩ : E)]).length = es.length + 1 := by simp
  obtain ⟨h1, h2, h3⟩ := hp
  rw [hl] at h1 h2 h3
  have hgb := (h2.lt g rfl).1
  have hb7 : w7.heap[b]? = some (.cells #[.slice (some ⟨g, 0, none⟩) (es.length + 1) c, .int .i64 ((n : Int) + 1)] 127 (0, 0)) := by
    rw [h7, heap_setCell_same wc b 1 _ _ _ h1]; simp
  have hlb : b < w7.heap.size := lt_of_heap hb7
  have hb8 : w8.heap[b]? = some (.cells #[.slice (some ⟨g, 0, none⟩) (es.length + 1) c, .int .i64 ((n : Int) + 1)] 127 (0, 0)) := by
    rw [hw.block b hlb (fun e => by unfold OnlyB at e; omega)]; exact hb7
  refine ⟨.slice (some ⟨g, 0, none⟩) (es.length + 1) c, ⟨by rw [hb8]; simp, ⟨l', ha.push rfl hs, ?_⟩, by rw [ins_length]; omega⟩, ?_⟩
  · rw [ht.len]
    obtain ⟨q1, q2⟩ := ht.row
    rcases q2 with ⟨q, _⟩ | ⟨g', cap', cur', q, hg', r⟩
    · cases q
    · have : g' = g := by injection q with q; injection q with q; injection q with q; exact q.symm
      exact ⟨q1, .inr ⟨g', cap', cur', q, by omega, r⟩⟩
  · have t7 : Turn (HF b v) (HF b (.slice (some ⟨g, 0, none⟩) (es.length + 1) c)) w w7.drew := by rw [h7]; exact (h3.put _ (.inl rfl)).drew
    refine t7.trans ⟨hw.os, hw.tape, hw.output, hw.size, fun k hk hn => hw.block k hk (fun e => hn (.inr (by unfold OnlyB at e; rw [e]; rfl))), fun k hk => .inl hk⟩

set_option maxHeartbeats 400000 in
theorem push_any (b : Nat) (v : Value) (M : List E) (n : Nat) (x y : Int) (w : World) (h : HAt w b v M n) (hn : n < 1000000) :
    Calls Tryz.prog 75 #[.pointer (some ⟨b, 0, none⟩), .agg #[.int .i64 x, .int .i64 y]] w fun e w' => e = .returned (.tuple #[]) ∧ ∃ v', HAt w' b v' (ins ⟨x, y, n⟩ M) (n + 1) ∧ Turn (HF b v) (HF b v') w w' := by
  obtain ⟨i0, hi, hz0, hz1, hz2⟩ := info_parts Tryz.infoEntry
  obtain ⟨c0, c1, f0, f1⟩ := h.cells
  have hlt := h.lt
  obtain ⟨es, ha, hr⟩ := h.row
  have hl := ha.length
  have hml := h.few.1
  obtain ⟨X, hX⟩ : ∃ X : Obj, X = .cells #[.int .i64 x, .int .i64 y] 131 := ⟨_, rfl⟩
  obtain ⟨Y, hY⟩ : ∃ Y : Obj, Y = .cells #[.int .i64 x, .int .i64 y, .int .i64 (n : Int)] 134 := ⟨_, rfl⟩
  have HL : Hid (((w.alloc X).alloc Y).ownsRow (b + 1) 134 3 v es.length (ec es)) := Lib.hid ((hr.alloc _).alloc _)
  have HN : Hid (∀ j u, ([.int .i64 x, .int .i64 y, .int .i64 (n : Int)] : List Value)[j]? = some u → ((w.alloc X).alloc Y).cell? ((⟨w.heap.size + 1, 0, none⟩ : Addr).add j) = some u) := Lib.hid (by
    intro j u hj
    subst hY
    match j, hj with
    | 0, hj => simp at hj; subst hj; simp [Addr.add]
    | 1, hj => simp at hj; subst hj; simp [Addr.add]
    | 2, hj => simp at hj; subst hj; simp [Addr.add])
  have HC : Hid (∀ u ∈ ([.int .i64 x, .int .i64 y, .int .i64 (n : Int)] : List Value), u.oneCell' = true) := Lib.hid (by intro u hu; simp at hu; rcases hu with rfl | rfl | rfl <;> rfl)
  have HNE : Hid (some b ≠ v.ownBlock) := Lib.hid (fun e => by have := (hr.lt b e.symm).1; omega)
  have HBK : Hid (b < ((w.alloc X).alloc Y).heap.size) := Lib.hid (by simp; omega)
  have HSZ : Hid (b + 1 ≤ ((w.alloc X).alloc Y).heap.size) := Lib.hid (by simp; omega)
  have HC0 : Hid (((w.alloc X).alloc Y).cell? ⟨b, 0, none⟩ = some v) := Lib.hid (((((Below.refl w.heap.size w).alloc (Nat.le_refl _) _).alloc (by simp) _).cell (p := ⟨b, 0, none⟩) hlt).trans c0)
  have HF0 : Hid (((w.alloc X).alloc Y).frozen? ⟨b, 0, none⟩ = false) := Lib.hid (((((Below.refl w.heap.size w).alloc (Nat.le_refl _) _).alloc (by simp) _).frozen (p := ⟨b, 0, none⟩) hlt).trans f0)
  have HH := Lib.hid h
  have HA := Lib.hid ha
  subst hX hY
  clear h hr ha
  go_enter Tryz.func75, Tryz.ntmps75
  go_wp2
  go_upto_region 2 with (fail)
  go_cut [18] (fun t wc => ∃ g c, Pushed w b v n (es ++ [⟨x, y, n⟩]) g c wc)
  case first =>
    go_region_law (refine step_append_lies _ (by rfl) _ _ _ (by rfl) (b + 1) 134 i0 _ 3 24 Tryz.underlying125 hi hz0 hz1 hz2 rfl (by omega) v es.length (ec es) (by rfl) HL.out ⟨w.heap.size + 1, 0, none⟩ 1 1 [.int .i64 x, .int .i64 y, .int .i64 (n : Int)] (by rfl) (by rfl) HN.out HC.out (by omega) (by unfold maxLen; omega) (by omega) HSZ.out (w.heap.size + 2) (by simp) ?_; intro g6 c6 w6 hown6 hgrow6 hat6 hlt6; have d0 := (World.cell?_of_block (a := ⟨b, 0, none⟩) (hgrow6.block b HBK.out HNE.out)).trans HC0.out; have d1 := (World.frozen?_of_block (a := ⟨b, 0, none⟩) (hgrow6.block b HBK.out HNE.out)).trans HF0.out; have HO6 := Lib.hid hown6; have HG6 := Lib.hid hgrow6; clear hown6 hgrow6)
    all_goals (go_wp2_with fail; go_meet; rw [← hl]; exact ⟨g6, c6, pushed_of HH.out.box HNE.out HO6.out HG6.out hat6⟩)
  case rest =>
    obtain ⟨g, c, hP⟩ := hcut
    have hll : (es ++ [(⟨x, y, n⟩ : E)]).length = es.length + 1 := by simp
    have hb0 := hP.box
    rw [hll] at hb0
    have e0 : wc.cell? ⟨b, 0, none⟩ = some (.slice (some ⟨g, 0, none⟩) (es.length + 1) c) := by rw [cell_of_row wc b 0 _ _ _ hb0]; rfl
    have e1 : wc.cell? ⟨b, 1, none⟩ = some (.int .i64 (n : Int)) := by rw [cell_of_row wc b 1 _ _ _ hb0]; rfl
    have k0 := frozen_of_row wc b 0 _ _ hb0
    have k1 := frozen_of_row wc b 1 _ _ hb0
    have hT : Tree wc g (es.length + 1) c (es ++ [⟨x, y, n⟩]) := by
      have hr := hP.row
      rw [hll] at hr
      obtain ⟨q1, q2⟩ := hr
      rcases q2 with ⟨q, _⟩ | ⟨g', cap', cur', q, hg', r⟩
      · cases q
      · exact ⟨⟨q1, .inr ⟨g', cap', cur', q, Nat.zero_le _, r⟩⟩, hll⟩
    have hgb : b < g := (hP.row.lt g rfl).1
    obtain ⟨w7, hw7⟩ : ∃ w7, w7 = wc.setCell ⟨b, 1, none⟩ (.int .i64 ((n : Int) + 1)) := ⟨_, rfl⟩
    have HT7 : Hid (Tree w7.drew g (es.length + 1) c (es ++ [⟨x, y, n⟩])) := Lib.hid (hT.same (by
      rw [hw7]; exact Below.heap_setCell wc _ _ _ (by show g ≠ b; omega)))
    have HW7 := Lib.hid hw7
    have e70 : w7.cell? ⟨b, 0, none⟩ = some (.slice (some ⟨g, 0, none⟩) (es.length + 1) c) := by
      rw [hw7, cell_of_row _ b 0 _ _ _ (heap_setCell_same wc b 1 _ _ (.int .i64 ((n : Int) + 1)) hb0)]; simp
    have hln : es.length ≤ n := by omega
    have HP := Lib.hid hP
    have HLM : Hid (M.length ≤ n ∧ n < 1000000) := Lib.hid ⟨hml, hn⟩
    clear hl hml
    clear hP hT hb0 HN HC HL HNE HBK HSZ HC0 HF0 c0 c1 f0 f1 hll
    go_upto_region 4 with (fail)
    rw [← hw7]
    clear hw7
    go_still_tail 10, (by kernel_rfl)
    change wpList _ _ _ _ _ w7.drew
    go_wp2_with fail
    refine (settle_up up id g (es.length + 1) c es.length _ w7.drew HT7.out (.inl (by omega)) (fun l w i ht hi => above_any g _ c i l w ht (by omega)) (fun l i hl hi hne => by
      obtain ⟨q1, q2, q3⟩ := up_ne hne
      rw [q2]; exact ⟨by omega, by omega, by show (i - 1) / 2 < i; omega⟩)).mono ?_
    rintro e w8 ⟨rfl, l', hs, ht, hw⟩
    have HE := Lib.hid (pushed_end HA.out HLM.out HP.out HW7.out hs ht hw)
    clear hs ht hw HT7 HW7 HP e0 e1 k0 k1 e70
    go_wp2
    go_end0
    exact ⟨rfl, HE.out⟩

end Go.Proofs.YtokjnmgbgflgnaaGreatDoor
end

section
namespace Go.Proofs.YtokjnmgbgflgnaaGreatDoor
open Go.RowKit E

/-- The tree's base, raised. -/
theorem Tree.raise {w : World} {g n cap base : Nat} {l : List E} (h : Tree w g n cap l) (hb : base ≤ g) : w.ownsRow base 134 3 (.slice (some ⟨g, 0, none⟩) n cap) n (ec l) := by
  obtain ⟨q1, q2⟩ := h.row
  rcases q2 with ⟨q, _⟩ | ⟨g', cap', cur', q, hg', r⟩
  · cases q
  · have : g' = g := by injection q with q; injection q with q; injection q with q; exact q.symm
    exact ⟨q1, .inr ⟨g', cap', cur', q, by omega, r⟩⟩
theorem Tree.cut {w : World} {g k cap : Nat} {l : List E} (h : Tree w g (k + 1) cap l) : Tree w g k cap (l.take k) := by
  have hl := h.len
  have h1 := h.row
  have e : l = l.take k ++ l.drop k := (List.take_append_drop k l).symm
  rw [e, ec_app] at h1
  have h2 := ownsRow_pop (by rw [ec_length]; simp; omega) h1
  exact ⟨h2, by simp; omega⟩

theorem two_cells {w : World} {A : Nat} {x y : Value} {T : TypeId} (u v : Value) (h : w.heap[A]? = some (.cells #[x, y] T (0, 0))) :
    ((w.setCell ⟨A, 0, none⟩ u).setCell ⟨A, 1, none⟩ v).heap[A]? = some (.cells #[u, v] T (0, 0)) := by
  rw [heap_setCell_same _ A 1 _ _ v (heap_setCell_same w A 0 _ _ u h)]; simp
theorem two_read {w : World} {A : Nat} {x y : Value} {T : TypeId} (h : w.heap[A]? = some (.cells #[x, y] T (0, 0))) : w.cell? ⟨A, 0, none⟩ = some x ∧ w.cell? ⟨A, 1, none⟩ = some y ∧ w.frozen? ⟨A, 0, none⟩ = false ∧ w.frozen? ⟨A, 1, none⟩ = false :=
  ⟨by rw [cell_of_row w A 0 _ _ _ h]; rfl, by rw [cell_of_row w A 1 _ _ _ h]; rfl, frozen_of_row w A 0 _ _ h, frozen_of_row w A 1 _ _ h⟩

theorem pop_nil (w : World) : Calls Tryz.prog 76 #[.pointer none] w fun e w' => e = .returned (Item? []) ∧ Below w.heap.size w w' := by
  have HB : Hid (∀ x : Obj, Below w.heap.size w (w.alloc x)) := Lib.hid fun x => (Below.refl _ w).alloc (Nat.le_refl _) _
  go_enter Tryz.func76, Tryz.ntmps76
  go_wp2_with fail
  refine (peek_nil _).mono ?_
  rintro e w3 ⟨rfl, hb⟩
  simp only [Item?]
  have HB3 := Lib.hid ((HB.out _).trans (hb.mono (HB.out _).size))
  have hblk : w3.heap[w.heap.size]? = some (.cells #[.int .i64 0, .int .i64 0] 131 (0, 0)) := by rw [hb.block w.heap.size (by simp)]; exact heap_alloc_new w _
  obtain ⟨c0, c1, f0, f1⟩ := two_read hblk
  have HK := Lib.hid hblk
  have hlt : w.heap.size < w3.heap.size := Nat.lt_of_lt_of_le (by simp) hb.size
  have hne : ¬ w3.heap.size = w.heap.size := by omega
  have hne2 : ¬ w.heap.size = w3.heap.size := by omega
  clear hb hblk
  go_wp2
  obtain ⟨z0, z1, _, _⟩ := two_read (w := ((w3.setCell ⟨w.heap.size, 0, none⟩ (.int .i64 0)).setCell ⟨w.heap.size, 1, none⟩ (.int .i64 0)).alloc (.cells #[.int .i64 0, .int .i64 0] 131)) (A := w.heap.size) (by
    rw [Below.heap_alloc _ _ _ (by simpa [World.setCell] using hlt)]
    exact two_cells (.int .i64 0) (.int .i64 0) HK.out)
  exact bodyPost_ret (v := Item? []) (by simp [results, Tryz.results76, go_sem, Item?, z0, z1]) rfl ⟨rfl, ((HB3.out.setCell (p := ⟨w.heap.size, 0, none⟩) (Nat.le_refl _) _).setCell (p := ⟨w.heap.size, 1, none⟩) (Nat.le_refl _) _).alloc (by simp [World.setCell]; omega) _⟩

theorem pop_none (b : Nat) (v : Value) (n : Nat) (w : World) (h : HAt w b v [] n) :
    Calls Tryz.prog 76 #[.pointer (some ⟨b, 0, none⟩)] w fun e w' => e = .returned (Item? []) ∧ Below w.heap.size w w' := by
  have HB : Hid (∀ x : Obj, Below w.heap.size w (w.alloc x)) := Lib.hid fun x => (Below.refl _ w).alloc (Nat.le_refl _) _
  have HH : Hid (∀ x : Obj, HAt (w.alloc x) b v [] n) := Lib.hid fun x => h.below (HB.out x)
  go_enter Tryz.func76, Tryz.ntmps76
  go_wp2_with fail
  refine (peek_any b v [] n _ (HH.out _)).mono ?_
  rintro e w3 ⟨rfl, hb⟩
  simp only [Item?]
  have HB3 := Lib.hid ((HB.out _).trans (hb.mono (HB.out _).size))
  have hblk : w3.heap[w.heap.size]? = some (.cells #[.int .i64 0, .int .i64 0] 131 (0, 0)) := by rw [hb.block w.heap.size (by simp)]; exact heap_alloc_new w _
  obtain ⟨c0, c1, f0, f1⟩ := two_read hblk
  have HK := Lib.hid hblk
  have hlt : w.heap.size < w3.heap.size := Nat.lt_of_lt_of_le (by simp) hb.size
  have hne : ¬ w3.heap.size = w.heap.size := by omega
  have hne2 : ¬ w.heap.size = w3.heap.size := by omega
  clear hb hblk
  go_wp2
  obtain ⟨z0, z1, _, _⟩ := two_read (w := ((w3.setCell ⟨w.heap.size, 0, none⟩ (.int .i64 0)).setCell ⟨w.heap.size, 1, none⟩ (.int .i64 0)).alloc (.cells #[.int .i64 0, .int .i64 0] 131)) (A := w.heap.size) (by
    rw [Below.heap_alloc _ _ _ (by simpa [World.setCell] using hlt)]
    exact two_cells (.int .i64 0) (.int .i64 0) HK.out)
  exact bodyPost_ret (v := Item? []) (by simp [results, Tryz.results76, go_sem, Item?, z0, z1]) rfl ⟨rfl, ((HB3.out.setCell (p := ⟨w.heap.size, 0, none⟩) (Nat.le_refl _) _).setCell (p := ⟨w.heap.size, 1, none⟩) (Nat.le_refl _) _).alloc (by simp [World.setCell]; omega) _⟩

/-- The last entry of the heap's tree was laid at its head as well; the item that is handed out lies in block C, that of the result in block A. -/
structure Popped (w : World) (b g cap n k A C : Nat) (m : E) (l : List E) (w5 : World) : Prop where
  box : w5.heap[b]? = some (.cells #[.slice (some ⟨g, 0, none⟩) (k + 1) cap, .int .i64 (n : Int)] 127 (0, 0))
  tree : Tree w5 g (k + 1) cap l
  res : w5.heap[A]? = some (.cells #[.int .i64 0, .int .i64 0] 131 (0, 0))
  item : w5.heap[C]? = some (.cells #[.int .i64 m.k, .int .i64 m.v] 131 (0, 0))
  turn : Turn (HF b (.slice (some ⟨g, 0, none⟩) (k + 1) cap)) (HF b (.slice (some ⟨g, 0, none⟩) (k + 1) cap)) w w5

theorem popped_of {w w3 : World} {b g cap n k : Nat} {m : E} {es M : List E} (hh : HAt w3 b (.slice (some ⟨g, 0, none⟩) (k + 1) cap) (m :: M) n) (ht : Tree w3 g (k + 1) cap es) (hb : Below w.heap.size w w3) (hbg : b < g) (hg : g < w.heap.size)
    (hr : w3.heap[w.heap.size]? = some (.cells #[.int .i64 0, .int .i64 0] 131 (0, 0))) (x : E) :
    Popped w b g cap n k w.heap.size w3.heap.size m (es.set 0 x) ((((w3.setCell ⟨g, 0, none⟩ (.int .i64 x.k)).setCell ⟨g, 1, none⟩ (.int .i64 x.v)).setCell ⟨g, 2, none⟩ (.int .i64 x.t)).alloc (.cells #[.int .i64 m.k, .int .i64 m.v] 131)).drew := by
  obtain ⟨wt, hwt⟩ : ∃ wt, wt = ((w3.setCell ⟨g, 0, none⟩ (.int .i64 x.k)).setCell ⟨g, 1, none⟩ (.int .i64 x.v)).setCell ⟨g, 2, none⟩ (.int .i64 x.t) := ⟨_, rfl⟩
  have hsz : wt.heap.size = w3.heap.size := by rw [hwt]; simp [World.setCell]
  have hold : ∀ k, k ≠ g → wt.heap[k]? = w3.heap[k]? := by
    intro k hk
    rw [hwt, Below.heap_setCell _ _ _ _ hk, Below.heap_setCell _ _ _ _ hk, Below.heap_setCell _ _ _ _ hk]
  have h3 := hb.size
  have hlr := lt_of_heap hr
  have hput := ht.put 0 x
  have hput' : Tree wt g (k + 1) cap (es.set 0 x) := by rw [hwt]; exact hput
  rw [← hwt]
  have ha : ∀ k, k < w3.heap.size → (wt.alloc (.cells #[.int .i64 m.k, .int .i64 m.v] 131)).drew.heap[k]? = wt.heap[k]? := fun k hk => Below.heap_alloc _ _ _ (by omega)
  have t1 : Turn (HF b (.slice (some ⟨g, 0, none⟩) (k + 1) cap)) (HF b (.slice (some ⟨g, 0, none⟩) (k + 1) cap)) w w3 := Turn.ofBelow hb _
  have t2 : Turn (HF b (.slice (some ⟨g, 0, none⟩) (k + 1) cap)) (HF b (.slice (some ⟨g, 0, none⟩) (k + 1) cap)) w wt := by rw [hwt]; exact t1.three 0 1 2 _ _ _ (.inr rfl)
  refine ⟨?_, ?_, ?_, ?_, (t2.more _).drew⟩
  · rw [ha b (by omega), hold b (by omega)]; exact hh.box
  · exact hput'.same (ha g (by omega))
  · rw [ha _ hlr, hold _ (by omega)]; exact hr
  · rw [← hsz]; exact heap_alloc_new wt _

theorem popped_end {w w5 w7 : World} {b g cap n A C : Nat} {m : E} {es M l' : List E} (hA : A = w.heap.size) (ha : Abs es (m :: M) n) (hf : M.length ≤ n ∧ n ≤ 1000000) (hp : Popped w b g cap n M.length A C m (es.set 0 (gt es M.length)) w5) (hbg : b < g) (hg : g < w.heap.size) (hC : A < C)
    (hs : Stl dn ((es.set 0 (gt es M.length)).take M.length) 0 l') (ht : Tree w7 g M.length cap l') (hw : Turn (OnlyB g) (OnlyB g) (w5.setCell ⟨b, 0, none⟩ (.slice (some ⟨g, 0, none⟩) M.length cap)) w7) :
    (w7.heap[C]? = some (.cells #[.int .i64 m.k, .int .i64 m.v] 131 (0, 0)) ∧ w7.heap[A]? = some (.cells #[.int .i64 0, .int .i64 0] 131 (0, 0))) ∧
    ∃ v', HAt ((w7.setCell ⟨A, 0, none⟩ (.int .i64 m.k)).setCell ⟨A, 1, none⟩ (.int .i64 m.v)) b v' M n ∧ Turn (HF b (.slice (some ⟨g, 0, none⟩) (M.length + 1) cap)) (HF b v') w ((w7.setCell ⟨A, 0, none⟩ (.int .i64 m.k)).setCell ⟨A, 1, none⟩ (.int .i64 m.v)) := by
  have hlen := ha.length
  simp at hlen
  have hsz5 : (w5.setCell ⟨b, 0, none⟩ (.slice (some ⟨g, 0, none⟩) M.length cap)).heap.size = w5.heap.size := by simp [World.setCell]
  have h7 : ∀ k, k < w5.heap.size → k ≠ g → w7.heap[k]? = (w5.setCell ⟨b, 0, none⟩ (.slice (some ⟨g, 0, none⟩) M.length cap)).heap[k]? := fun k hk hn => hw.block k (by omega) (fun e => hn e)
  have hlC := lt_of_heap hp.item
  have hlA := lt_of_heap hp.res
  have hlb := lt_of_heap hp.box
  have h7C : w7.heap[C]? = some (.cells #[.int .i64 m.k, .int .i64 m.v] 131 (0, 0)) := by
    rw [h7 C hlC (by omega), Below.heap_setCell _ _ _ _ (by show C ≠ b; omega)]; exact hp.item
  have h7A : w7.heap[A]? = some (.cells #[.int .i64 0, .int .i64 0] 131 (0, 0)) := by
    rw [h7 A hlA (by omega), Below.heap_setCell _ _ _ _ (by show A ≠ b; omega)]; exact hp.res
  have h7b : w7.heap[b]? = some (.cells #[.slice (some ⟨g, 0, none⟩) M.length cap, .int .i64 (n : Int)] 127 (0, 0)) := by
    rw [h7 b hlb (by omega), heap_setCell_same _ b 0 _ _ _ hp.box]; simp
  have hold : ∀ k, k ≠ A → ((w7.setCell ⟨A, 0, none⟩ (.int .i64 m.k)).setCell ⟨A, 1, none⟩ (.int .i64 m.v)).heap[k]? = w7.heap[k]? := fun k hk => by
    rw [Below.heap_setCell _ _ _ _ hk, Below.heap_setCell _ _ _ _ hk]
  refine ⟨⟨h7C, h7A⟩, .slice (some ⟨g, 0, none⟩) M.length cap, ⟨by rw [hold b (by omega)]; exact h7b, ⟨l', ha.pop hlen hs, ?_⟩, hf⟩, ?_⟩
  · rw [ht.len]; exact (ht.same (hold g (by omega))).raise (by omega)
  · have t5 : Turn (HF b (.slice (some ⟨g, 0, none⟩) (M.length + 1) cap)) (HF b (.slice (some ⟨g, 0, none⟩) (M.length + 1) cap)) w (w5.setCell ⟨b, 0, none⟩ (.slice (some ⟨g, 0, none⟩) M.length cap)) := hp.turn.put _ (.inl rfl)
    have t7 : Turn (HF b (.slice (some ⟨g, 0, none⟩) (M.length + 1) cap)) (HF b (.slice (some ⟨g, 0, none⟩) (M.length + 1) cap)) w w7 :=
      t5.trans ⟨hw.os, hw.tape, hw.output, hw.size, fun k hk hn => hw.block k hk (fun e => hn (.inr (by unfold OnlyB at e; rw [e]; rfl))), fun k hk => .inl hk⟩
    refine ⟨t7.os, t7.tape, t7.output, by have := t7.size; simpa [World.setCell] using this, fun k hk hn => ?_, fun k hk => .inl (by rcases hk with h | h; exact .inl h; exact .inr h)⟩
    rw [hold k (by omega)]
    exact t7.block k hk hn

set_option maxHeartbeats 400000 in
theorem pop_some (b : Nat) (v : Value) (m : E) (M : List E) (n : Nat) (w : World) (h : HAt w b v (m :: M) n) :
    Calls Tryz.prog 76 #[.pointer (some ⟨b, 0, none⟩)] w fun e w' => e = .returned (Item? (m :: M)) ∧ ∃ v', HAt w' b v' M n ∧ Turn (HF b v) (HF b v') w w' := by
  obtain ⟨g, cap, es, rfl, hbg, ha, hT⟩ : ∃ g cap es, v = .slice (some ⟨g, 0, none⟩) (M.length + 1) cap ∧ b < g ∧ Abs es (m :: M) n ∧ Tree w g (M.length + 1) cap es := by
    rcases h.tree with ⟨_, h2⟩ | h2
    · cases h2
    · exact h2
  have hlg := (hT.row.lt g rfl).2
  have hlb := h.lt
  have hmax := hT.max
  have HB : Hid (∀ x : Obj, Below w.heap.size w (w.alloc x)) := Lib.hid fun x => (Below.refl _ w).alloc (Nat.le_refl _) _
  have HH : Hid (∀ x : Obj, HAt (w.alloc x) b (.slice (some ⟨g, 0, none⟩) (M.length + 1) cap) (m :: M) n) := Lib.hid fun x => h.below (HB.out x)
  have HT := Lib.hid hT
  have HA := Lib.hid ha
  have HW := Lib.hid h
  clear hT ha h
  go_enter Tryz.func76, Tryz.ntmps76
  go_wp2_with fail
  refine (peek_any b _ (m :: M) n _ (HH.out _)).mono ?_
  rintro e w3 ⟨rfl, hb⟩
  simp only [Item?]
  have hB3 := (HB.out (.cells #[.int .i64 0, .int .i64 0] 131)).trans (hb.mono (HB.out _).size)
  have HB3 := Lib.hid hB3
  have hblk : w3.heap[w.heap.size]? = some (.cells #[.int .i64 0, .int .i64 0] 131 (0, 0)) := by rw [hb.block w.heap.size (by simp)]; exact heap_alloc_new w _
  obtain ⟨c0, c1, f0, f1⟩ := two_read hblk
  have HK := Lib.hid hblk
  have hlt : w.heap.size < w3.heap.size := Nat.lt_of_lt_of_le (by simp) hb.size
  have hne : ¬ w3.heap.size = w.heap.size := by omega
  have hne2 : ¬ w.heap.size = w3.heap.size := by omega
  have hW3 := HW.out.below hB3
  have HW3 := Lib.hid hW3
  have hT3 := HT.out.below hB3
  have HT3 := Lib.hid hT3
  obtain ⟨b0, b1, b2, b3⟩ := hW3.cells
  obtain ⟨d0, d1, d2⟩ := hT3.cells M.length (by omega)
  have hb3 : b < w3.heap.size := by omega
  have hg3 : g < w3.heap.size := by omega
  have a0 : w3.cell? ⟨g, 0, none⟩ = some (.int .i64 (gt es 0).k) := (hT3.cells 0 (by omega)).1
  have a1 : w3.cell? ⟨g, 1, none⟩ = some (.int .i64 (gt es 0).v) := (hT3.cells 0 (by omega)).2.1
  have a2 : w3.cell? ⟨g, 2, none⟩ = some (.int .i64 (gt es 0).t) := (hT3.cells 0 (by omega)).2.2
  have k0 : w3.frozen? ⟨g, 0, none⟩ = false := hT3.row.frozenAt _
  have k1 : w3.frozen? ⟨g, 1, none⟩ = false := hT3.row.frozenAt _
  have k2 : w3.frozen? ⟨g, 2, none⟩ = false := hT3.row.frozenAt _
  have hbg' : ¬ g = b := by omega
  have hbg2 : ¬ b = g := by omega
  have n1 : ¬ w3.heap.size = g := by omega
  have n2 : ¬ g = w3.heap.size := by omega
  have n3 : ¬ w3.heap.size = b := by omega
  have n4 : ¬ b = w3.heap.size := by omega
  have hM : (M.length : Int) ≤ 1000000 := by have := HW.out.few; simp at this; omega
  clear hb hblk hB3 hW3 hT3
  go_wp2
  go_region
  have hp := popped_of HW3.out HT3.out HB3.out hbg hlg HK.out (gt es M.length)
  generalize hw5 : ((((w3.setCell ⟨g, 0, none⟩ (.int .i64 (gt es M.length).k)).setCell ⟨g, 1, none⟩ (.int .i64 (gt es M.length).v)).setCell ⟨g, 2, none⟩ (.int .i64 (gt es M.length).t)).alloc (.cells #[.int .i64 m.k, .int .i64 m.v] 131)).drew = w5 at hp ⊢
  obtain ⟨C, hC⟩ : ∃ C, C = w3.heap.size := ⟨_, rfl⟩
  obtain ⟨A, hA⟩ : ∃ A, A = w.heap.size := ⟨_, rfl⟩
  rw [← hC, ← hA] at hp ⊢
  have hAC : A < C := by omega
  have hAb : ¬ A = b := by omega
  have hAg : ¬ A = g := by omega
  have hCb : ¬ C = b := by omega
  have hCg : ¬ C = g := by omega
  have hbA : ¬ b = A := by omega
  have hgA : ¬ g = A := by omega
  have e0 : w5.cell? ⟨b, 0, none⟩ = some (.slice (some ⟨g, 0, none⟩) (M.length + 1) cap) := by rw [cell_of_row w5 b 0 _ _ _ hp.box]; rfl
  have e1 := frozen_of_row w5 b 0 _ _ hp.box
  have hcap : M.length + 1 ≤ cap := by
    rcases hp.tree.row.2 with ⟨q, _⟩ | ⟨g', cap', cur', q, hg', hh, hc, _⟩
    · cases q
    · injection q with _ _ q; omega
  have HP := Lib.hid hp
  clear hw5 hp hC b0 b1 b2 b3 d0 d1 d2 a0 a1 a2 k0 k1 k2 c0 c1 f0 f1 HK HT3 HW3 HB3 HB HH hne hne2 hlt n1 n2 n3 n4 hb3 hg3
  go_wp2_with fail
  have hTc : Tree (w5.setCell ⟨b, 0, none⟩ (.slice (some ⟨g, 0, none⟩) M.length cap)) g M.length cap ((es.set 0 (gt es M.length)).take M.length) := HP.out.tree.cut.same (Below.heap_setCell _ _ _ _ hbg')
  refine (settle_dn dn (fun i => M.length - i) g M.length cap 0 _ _ hTc (.inr rfl) (fun l w i ht hi => below_any g _ cap i l w ht hi (by omega)) (fun l i hl hi hne => by
    rcases dn_cases l i with q | ⟨q1, q2⟩ | ⟨q1, q2⟩
    · exact absurd q hne
    · rw [q1]; exact ⟨by omega, by omega, by show M.length - (2 * i + 1) < M.length - i; omega⟩
    · rw [q1]; exact ⟨by omega, by omega, by show M.length - (2 * i + 2) < M.length - i; omega⟩)).mono ?_
  rintro e w7 ⟨rfl, l', hs, ht, hw⟩
  have hend := popped_end hA HA.out (by have := HW.out.few; simp at this; omega) HP.out hbg hlg hAC hs ht hw
  obtain ⟨⟨q1, q2⟩, q3⟩ := hend
  obtain ⟨i0, i1, i2, i3⟩ := two_read q1
  obtain ⟨r0, r1, r2, r3⟩ := two_read q2
  obtain ⟨z0, z1, _, _⟩ := two_read (two_cells (.int .i64 m.k) (.int .i64 m.v) q2)
  have HE := Lib.hid q3
  clear hTc hs ht hw q1 q2 q3 HP e0 e1 hA HT HA HW hlg hlb
  go_wp2
  exact bodyPost_ret (v := Item? (m :: M)) (by simp [results, Tryz.results76, go_sem, Item?, z0, z1]) rfl ⟨rfl, HE.out⟩

/-- What taking out comes to: the least is out. -/
def PopTold (b : Nat) (v : Value) (M : List E) (n : Nat) (w : World) (e : Ending) (w' : World) : Prop :=
  e = .returned (Item? M) ∧ ∃ v', HAt w' b v' M.tail n ∧ Turn (HF b v) (HF b v') w w'

theorem pop_any (b : Nat) (v : Value) (M : List E) (n : Nat) (w : World) (h : HAt w b v M n) :
    Calls Tryz.prog 76 #[.pointer (some ⟨b, 0, none⟩)] w (PopTold b v M n w) := by
  cases M with
  | nil =>
    refine (pop_none b v n w h).mono ?_
    rintro e w' ⟨rfl, hb⟩
    exact ⟨rfl, v, h.below hb, Turn.ofBelow hb _⟩
  | cons m M => exact pop_some b v m M n w h

end Go.Proofs.YtokjnmgbgflgnaaGreatDoor
end

section
namespace Go.Proofs.YtokjnmgbgflgnaaGreatDoor
open Go.RowKit E

theorem HAt.more {w : World} {b : Nat} {v : Value} {M : List E} {n : Nat} (h : HAt w b v M n) (o : Obj) : HAt (w.alloc o) b v M n := h.below ((Below.refl _ w).alloc (Nat.le_refl _) o)

/-- A heap that was changed since W, and nothing else that lay there but the heap's blocks. -/
def Since (W : World) (b : Nat) (v0 : Value) (M : List E) (n : Nat) (w : World) : Prop := ∃ v, HAt w b v M n ∧ Turn (HF b v0) (HF b v) W w
theorem Since.start {W : World} {b : Nat} {v : Value} {M : List E} {n : Nat} (h : HAt W b v M n) : Since W b v M n W := ⟨v, h, Turn.refl _ _⟩
theorem Since.more {W w : World} {b : Nat} {v0 : Value} {M : List E} {n : Nat} (h : Since W b v0 M n w) (o : Obj) : Since W b v0 M n (w.alloc o) := by
  obtain ⟨v, h1, h2⟩ := h; exact ⟨v, h1.more o, h2.more o⟩
theorem Since.drew {W w : World} {b : Nat} {v0 : Value} {M : List E} {n : Nat} (h : Since W b v0 M n w) : Since W b v0 M n w.drew := by
  obtain ⟨v, h1, h2⟩ := h; exact ⟨v, ⟨h1.box, h1.row, h1.few⟩, h2.drew⟩
theorem Since.below {W w w' : World} {b : Nat} {v0 : Value} {M : List E} {n : Nat} (h : Since W b v0 M n w) (hb : Below w.heap.size w w') : Since W b v0 M n w' := by
  obtain ⟨v, h1, h2⟩ := h; exact ⟨v, h1.below hb, h2.trans (Turn.ofBelow hb _)⟩
/-- A block of the call's own, made since W, is written. -/
theorem Since.put {W w : World} {b : Nat} {v0 : Value} {M : List E} {n : Nat} (h : Since W b v0 M n w) {A o : Nat} (u : Value) (hA : W.heap.size ≤ A) (hne : ∀ v, HAt w b v M n → ¬ HF b v A) : Since W b v0 M n (w.setCell ⟨A, o, none⟩ u) := by
  obtain ⟨v, h1, h2⟩ := h
  refine ⟨v, h1.same fun k hk => Below.heap_setCell _ _ _ _ (fun e => hne v h1 (by have : k = A := e; rw [← this]; exact hk)), h2.os, h2.tape, h2.output, by simpa [World.setCell] using h2.size, fun k hk hn => ?_, h2.foot⟩
  rw [Below.heap_setCell _ _ _ _ (by show k ≠ A; omega)]; exact h2.block k hk hn
theorem Since.old {W w : World} {b : Nat} {v0 : Value} {M : List E} {n : Nat} (h : Since W b v0 M n w) (k : Nat) (hk : k < W.heap.size) (hn : ¬ HF b v0 k) : w.heap[k]? = W.heap[k]? := by
  obtain ⟨v, h1, h2⟩ := h; exact h2.block k hk hn
theorem Since.size {W w : World} {b : Nat} {v0 : Value} {M : List E} {n : Nat} (h : Since W b v0 M n w) : W.heap.size ≤ w.heap.size := by
  obtain ⟨v, h1, h2⟩ := h; exact h2.size
theorem Since.belowOf {W w : World} {b : Nat} {v0 : Value} {M : List E} {n : Nat} (h : Since W b v0 M n w) (B : Nat) (hB : B ≤ W.heap.size) (hb : ∀ k, HF b v0 k → B ≤ k) : Below B W w := by
  obtain ⟨v, h1, h2⟩ := h; exact h2.below B hB hb
theorem Since.trans {W w w' : World} {b : Nat} {v0 v : Value} {M M' : List E} {n n' : Nat} (h1 : HAt w b v M n) (h2 : Turn (HF b v0) (HF b v) W w) (h : Since w b v M' n' w') : Since W b v0 M' n' w' := by
  obtain ⟨v', h3, h4⟩ := h; exact ⟨v', h3, h2.trans h4⟩

theorem push_later (W : World) (b : Nat) (v0 : Value) (M : List E) (n : Nat) (x y : Int) (w w1 : World) (h : Since W b v0 M n w) (hb : Below w.heap.size w w1) (hn : n < 1000000) :
    Calls Tryz.prog 75 #[.pointer (some ⟨b, 0, none⟩), .agg #[.int .i64 x, .int .i64 y]] w1 fun e w' => e = .returned (.tuple #[]) ∧ Since W b v0 (ins ⟨x, y, n⟩ M) (n + 1) w' ∧ (∀ k, w.heap.size ≤ k → k < w1.heap.size → w'.heap[k]? = w1.heap[k]?) ∧ w1.heap.size ≤ w'.heap.size := by
  obtain ⟨v, h1, h2⟩ := h
  refine (push_any b v M n x y w1 (h1.below hb) hn).mono ?_
  rintro e w' ⟨rfl, v', h3, h4⟩
  exact ⟨rfl, ⟨v', h3, (h2.trans (Turn.ofBelow hb _)).trans h4⟩, fun k hk hk1 => h4.block k hk1 (fun e => by have := (h1.owned k e).2; omega), h4.size⟩
theorem pop_later (W : World) (b : Nat) (v0 : Value) (M : List E) (n : Nat) (w w1 : World) (h : Since W b v0 M n w) (hb : Below w.heap.size w w1) :
    Calls Tryz.prog 76 #[.pointer (some ⟨b, 0, none⟩)] w1 fun e w' => e = .returned (Item? M) ∧ Since W b v0 M.tail n w' ∧ (∀ k, w.heap.size ≤ k → k < w1.heap.size → w'.heap[k]? = w1.heap[k]?) ∧ w1.heap.size ≤ w'.heap.size := by
  obtain ⟨v, h1, h2⟩ := h
  refine (pop_any b v M n w1 (h1.below hb)).mono ?_
  rintro e w' ⟨rfl, v', h3, h4⟩
  exact ⟨rfl, ⟨v', h3, (h2.trans (Turn.ofBelow hb _)).trans h4⟩, fun k hk hk1 => h4.block k hk1 (fun e => by have := (h1.owned k e).2; omega), h4.size⟩
theorem len_since (W : World) (b : Nat) (v0 : Value) (M : List E) (n : Nat) (w : World) (h : Since W b v0 M n w) :
    Calls Tryz.prog 121 #[.pointer (some ⟨b, 0, none⟩)] w fun e w' => e = .returned (.int .i64 (M.length : Int)) ∧ w = w' := by
  obtain ⟨v, h1, h2⟩ := h; exact len_any b v M n w h1
theorem peek_since (W : World) (b : Nat) (v0 : Value) (M : List E) (n : Nat) (w : World) (h : Since W b v0 M n w) :
    Calls Tryz.prog 104 #[.pointer (some ⟨b, 0, none⟩)] w fun e w' => e = .returned (Item? M) ∧ Below w.heap.size w w' := by
  obtain ⟨v, h1, h2⟩ := h; exact peek_any b v M n w h1

/-- What the example's heap has when so many were pushed, and when so many were taken out. -/
def sM : Nat → List E
  | 0 => []
  | 1 => [⟨3, 0, 0⟩]
  | 2 => [⟨1, 1, 1⟩, ⟨3, 0, 0⟩]
  | 3 => [⟨1, 1, 1⟩, ⟨3, 0, 0⟩, ⟨3, 2, 2⟩]
  | _ => [⟨1, 1, 1⟩, ⟨2, 3, 3⟩, ⟨3, 0, 0⟩, ⟨3, 2, 2⟩]
def sD : Nat → List E
  | 0 => [⟨1, 1, 1⟩, ⟨2, 3, 3⟩, ⟨3, 0, 0⟩, ⟨3, 2, 2⟩]
  | 1 => [⟨2, 3, 3⟩, ⟨3, 0, 0⟩, ⟨3, 2, 2⟩]
  | 2 => [⟨3, 0, 0⟩, ⟨3, 2, 2⟩]
  | 3 => [⟨3, 2, 2⟩]
  | _ => []


end Go.Proofs.YtokjnmgbgflgnaaGreatDoor
end
