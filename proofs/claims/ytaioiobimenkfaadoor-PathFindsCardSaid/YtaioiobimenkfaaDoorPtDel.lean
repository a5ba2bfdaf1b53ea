/-
  Layer 5: the cells that are not blocked (DeleteFunc).
-/
import Derived.Test.YtaioiobimenkfaaDoorPtA
import Derived.Lib.SliceRun
import Derived.Shelf.Abstract
set_option linter.unusedVariables false
set_option maxRecDepth 100000
namespace Go.Proofs.YtaioiobimenkfaaDoor
open Go.RowKit Fl Pt

/-- Is a cell shut? -/
theorem shut_any (G gs N y : Nat) (b : Bool) (w : World) (hN : N ≤ 256) (h1 : w.cell? ⟨G, 4, none⟩ = some (.slice (some ⟨gs, 0, none⟩) N N)) (h2 : w.cell? ⟨gs, y, none⟩ = some (.bool b)) (hy : y < N) :
    Calls Tryd.prog 51 #[.int .i64 (y : Int), .pointer (some ⟨G, 0, none⟩)] w fun e w' => e = .returned (.bool b) ∧ w = w' := by
  go_enter Tryd.func51, Tryd.ntmps51
  go_wp2
  go_ret
  exact ⟨rfl, rfl⟩

def iv (xs : List Nat) (x : Nat) : Value := .int .i64 ((xs.getD x 0 : Nat) : Int)
/-- Told of each of the list's numbers, whatever else is done to its block. -/
def Pred (G : Nat) (P : Nat → Bool) (xs : List Nat) (w : World) : Prop := ∀ y, y ∈ xs → Calls Tryd.prog 51 #[.int .i64 (y : Int), .pointer (some ⟨G, 0, none⟩)] w fun e w' => e = .returned (.bool (P y)) ∧ w = w'
def shutV (G : Nat) : Value := .func (.func 51) #[] #[.pointer (some ⟨G, 0, none⟩)]

/-- The first of those that are so, or -1. -/
def IdxTold (P : Nat → Bool) (xs : List Nat) (w : World) (e : Ending) (w' : World) : Prop :=
  w = w' ∧ ((e = .returned (.int .i64 (-1)) ∧ ∀ j, j < xs.length → P (xs.getD j 0) = false) ∨ ∃ i : Nat, e = .returned (.int .i64 (i : Int)) ∧ i < xs.length ∧ P (xs.getD i 0) = true ∧ ∀ j, j < i → P (xs.getD j 0) = false)

set_option maxHeartbeats 1000000 in
theorem indexFunc_any (G g cap n : Nat) (P : Nat → Bool) (xs : List Nat) (w : World) (hn : n = xs.length) (h256 : n ≤ 256) (hc : Cells g n (iv xs) w) (hP : Pred G P xs w) :
    Calls Tryd.prog 69 #[.slice (some ⟨g, 0, none⟩) n cap, .func (.func 51) #[] #[.pointer (some ⟨G, 0, none⟩)]] w (IdxTold P xs w) := by
  have HC := Lib.hid hc
  have HP := Lib.hid hP
  have HN := Lib.hid hn
  clear hc hP hn
  go_enter Tryd.func69, Tryd.ntmps69
  go_wp2
  go_loop [8] (fun v => ∃ j : Nat, j ≤ n ∧ v = .int .i64 (j : Int) ∧ Hid (∀ i, i < j → P (xs.getD i 0) = false)) (fun v => n - (intOf v).toNat)
  case atStart => exact ⟨0, Nat.zero_le _, rfl, Lib.hid (fun i hi => by omega)⟩
  case round =>
    obtain ⟨j, hj, rfl, HJ⟩ := hrel
    by_cases hlt : j < n
    · have hcj := (HC.out.2 j hlt).1
      have hjx : j < xs.length := by rw [← HN.out]; exact hlt
      have HQ := Lib.hid (HP.out (xs.getD j 0) (getD_mem hjx))
      have HXJ : Hid (∃ y, y = xs.getD j 0) := Lib.hid ⟨_, rfl⟩
      obtain ⟨y, hy⟩ := HXJ.out
      unfold iv at hcj
      rw [← hy] at hcj HQ
      have HY := Lib.hid hy
      clear hy HXJ hjx
      cases hp : P y with
      | false =>
        have HPP := Lib.hid hp
        rw [hp] at HQ
        clear hp
        go_wp2_with (go_at_call 51; refine HQ.out.mono ?_; rintro e w' ⟨rfl, rfl⟩)
        go_round
        case rel =>
          refine ⟨j + 1, by omega, by go_num, Lib.hid (fun i hi => ?_)⟩
          by_cases e : i = j
          · subst e; rw [← HY.out]; exact HPP.out
          · exact HJ.out i (by omega)
        case measure => simp [intOf]; omega
      | true =>
        have HPP := Lib.hid hp
        rw [hp] at HQ
        clear hp
        go_wp2_with (go_at_call 51; refine HQ.out.mono ?_; rintro e w' ⟨rfl, rfl⟩)
        go_ret
        exact ⟨rfl, .inr ⟨j, rfl, by rw [← HN.out]; exact hlt, by rw [← HY.out]; exact HPP.out, HJ.out⟩⟩
    · obtain rfl : j = n := by omega
      go_wp2
      go_ret
      exact ⟨rfl, .inl ⟨rfl, fun i hi => HJ.out i (by rw [HN.out]; exact hi)⟩⟩

/-- Those of the first so many that stay. -/
def kp (P : Nat → Bool) (xs : List Nat) (j : Nat) : List Nat := (xs.take j).filter fun y => !P y
theorem kp_succ {P : Nat → Bool} {xs : List Nat} {j : Nat} (h : j < xs.length) : kp P xs (j + 1) = kp P xs j ++ if P (xs.getD j 0) = true then [] else [xs.getD j 0] := by
  unfold kp
  rw [List.take_succ_eq_append_getElem h, List.filter_append, List.getD, List.getElem?_eq_getElem h]
  cases e : P xs[j] <;> simp [e]
theorem kp_le (P : Nat → Bool) (xs : List Nat) (j : Nat) : (kp P xs j).length ≤ j := Nat.le_trans (List.length_filter_le _ _) (List.length_take_le _ _)
theorem kp_all {P : Nat → Bool} {xs : List Nat} {j : Nat} (h : ∀ i, i < j → P (xs.getD i 0) = false) (hj : j ≤ xs.length) : kp P xs j = xs.take j := by
  unfold kp
  rw [List.filter_eq_self]
  intro y hy
  obtain ⟨i, hi, rfl⟩ := List.getElem_of_mem hy
  have hi' : i < j := by simp at hi; omega
  have := h i hi'
  rw [List.getD, List.getElem?_eq_getElem (by omega : i < xs.length)] at this
  simpa using this
theorem kp_full (P : Nat → Bool) (xs : List Nat) : kp P xs xs.length = xs.filter fun y => !P y := by unfold kp; rw [List.take_length]
/-- What has become of the list's block. -/
structure Kept (g n : Nat) (P : Nat → Bool) (xs : List Nat) (i j : Nat) (w wr : World) : Prop where
  cnt : i = (kp P xs j).length
  lt : i < j
  turn : Turn (fun k => k = g) (fun k => k = g) w wr
  cells : ∃ f, Cells g n f wr ∧ (∀ x, x < i → f x = iv (kp P xs j) x) ∧ ∀ x, j ≤ x → x < n → f x = iv xs x
theorem Kept.skip {g n : Nat} {P : Nat → Bool} {xs : List Nat} {i j : Nat} {w wr : World} (h : Kept g n P xs i j w wr) (hj : j < xs.length) (hp : P (xs.getD j 0) = true) : Kept g n P xs i (j + 1) w wr := by
  obtain ⟨h1, h2, h3, f, h4, h5, h6⟩ := h
  have e : kp P xs (j + 1) = kp P xs j := by rw [kp_succ hj, if_pos hp, List.append_nil]
  exact ⟨by rw [e]; exact h1, by omega, h3, f, h4, by rw [e]; exact h5, fun x hx hn => h6 x (by omega) hn⟩
theorem Kept.put {g n : Nat} {P : Nat → Bool} {xs : List Nat} {i j : Nat} {w wr : World} (h : Kept g n P xs i j w wr) (hn : n = xs.length) (hj : j < xs.length) (hp : P (xs.getD j 0) = false) : Kept g n P xs (i + 1) (j + 1) w (wr.setCell ⟨g, i, none⟩ (.int .i64 ((xs.getD j 0 : Nat) : Int))) := by
  obtain ⟨h1, h2, h3, f, h4, h5, h6⟩ := h
  have e : kp P xs (j + 1) = kp P xs j ++ [xs.getD j 0] := by rw [kp_succ hj, if_neg (by rw [hp]; simp)]
  refine ⟨by rw [e, List.length_append, ← h1]; rfl, by omega, h3.put _ rfl, fun x => if x = i then .int .i64 ((xs.getD j 0 : Nat) : Int) else f x, h4.put i _ (by omega) (fun x _ => rfl), fun x hx => ?_, fun x hx hxn => ?_⟩
  · show (if x = i then _ else f x) = _
    unfold iv
    rw [e]
    by_cases ex : x = i
    · subst ex
      rw [if_pos rfl, h1]
      congr 2
      simp [List.getD]
    · rw [if_neg ex, h5 x (by omega)]
      unfold iv
      congr 2
      rw [List.getD, List.getD, List.getElem?_append_left (by omega)]
  · show (if x = i then _ else f x) = _
    rw [if_neg (by omega), h6 x (by omega) hxn]

/-- Those that are not so, in the block of the list. -/
def DelTold (g n cap : Nat) (ys : List Nat) (w : World) (e : Ending) (w' : World) : Prop :=
  e = .returned (.slice (some ⟨g, 0, none⟩) ys.length cap) ∧ ys.length ≤ n ∧ (∃ f, Cells g n f w' ∧ ∀ x, x < ys.length → f x = iv ys x) ∧ Turn (fun k => k = g) (fun k => k = g) w w'

theorem Cells.puts {b n : Nat} : ∀ (vs : List Value) (o : Nat) {f : Nat → Value} {w : World}, Cells b n f w → o + vs.length ≤ n → ∃ f', Cells b n f' (w.setCells b o vs) ∧ ∀ x, x < o → f' x = f x
  | [], o, f, w, h, _ => ⟨f, h, fun _ _ => rfl⟩
  | v :: vs, o, f, w, h, hl => by
    simp only [List.length_cons] at hl
    obtain ⟨f', h1, h2⟩ := (h.put o v (by omega) (g := fun x => if x = o then v else f x) (fun _ _ => rfl)).puts vs (o + 1) (by omega)
    exact ⟨f', h1, fun x hx => by rw [h2 x (by omega)]; show (if x = o then v else f x) = _; rw [if_neg (by omega)]⟩
theorem turn_setCells (b : Nat) : ∀ (vs : List Value) (o : Nat) (w : World), Turn (fun k => k = b) (fun k => k = b) w (w.setCells b o vs)
  | [], _, _ => Turn.refl _ _
  | v :: vs, o, w => (Turn.setCell (F := fun k => k = b) w ⟨b, o, none⟩ v rfl).trans (turn_setCells b vs (o + 1) _)

theorem zero_int (w : World) : (zeroValue 3).run Tryd.prog w = .ok (.int .i64 0) w := by kernel_rfl
set_option maxHeartbeats 2000000 in
theorem deleteFunc_any (G g cap n : Nat) (P : Nat → Bool) (xs : List Nat) (w : World) (hn : n = xs.length) (h256 : 1 ≤ n ∧ n ≤ 256) (hcap : n ≤ cap ∧ cap ≤ maxLen) (hc : Cells g n (iv xs) w) (hP : ∀ wx, Turn (fun k => k = g) (fun k => k = g) w wx → Pred G P xs wx) :
    Calls Tryd.prog 52 #[.slice (some ⟨g, 0, none⟩) n cap, .func (.func 51) #[] #[.pointer (some ⟨G, 0, none⟩)]] w (DelTold g n cap (xs.filter fun y => !P y) w) := by
  obtain ⟨hn1, hn2⟩ := h256
  obtain ⟨hc1, hc2⟩ := hcap
  unfold maxLen at hc2
  have HIX := Lib.hid (indexFunc_any G g cap n P xs w hn hn2 hc (hP w (Turn.refl _ _)))
  have HC := Lib.hid hc
  have HP := Lib.hid hP
  have HN := Lib.hid hn
  clear hc hP hn
  go_enter Tryd.func52, Tryd.ntmps52
  go_wp2_with fail
  refine HIX.out.mono ?_
  rintro e w1 ⟨rfl, ⟨rfl, hall⟩ | ⟨i0, rfl, hi0, hp0, hb0⟩⟩
  · have HALL := Lib.hid hall
    clear hall
    go_wp2_with fail
    go_ret
    have e : (xs.filter fun y => !P y) = xs := by
      have := kp_all HALL.out (Nat.le_refl _)
      rw [kp_full, List.take_length] at this
      exact this
    exact ⟨by rw [e, ← HN.out]; rfl, by rw [e, HN.out]; exact Nat.le_refl _, ⟨iv xs, HC.out, fun x hx => by rw [e]⟩, Turn.refl _ _⟩
  · have hi0n : i0 < n := by rw [HN.out]; exact hi0
    have HI0 := Lib.hid hi0
    have HP0 := Lib.hid hp0
    have HB0 := Lib.hid hb0
    have hne : ((i0 : Int) == -1) = false := beq_eq_false_iff_ne.2 (by omega)
    clear hi0 hp0 hb0
    go_wp2_with fail
    clear hne
    go_loopw [5, 6] (fun a5 a6 wr => ∃ i j : Nat, j ≤ n ∧ i < j ∧ a5 = .int .i64 (i : Int) ∧ a6 = .int .i64 (j : Int) ∧ Hid (Kept g n P xs i j w wr)) (fun _ a6 _ => n - (intOf a6).toNat)
    case atStart =>
      refine ⟨i0, i0 + 1, by omega, by omega, rfl, by go_num, Lib.hid ?_⟩
      have e : kp P xs (i0 + 1) = xs.take i0 := by rw [kp_succ HI0.out, if_pos HP0.out, List.append_nil, kp_all HB0.out (Nat.le_of_lt HI0.out)]
      have hi := HI0.out
      refine ⟨by rw [e, List.length_take]; omega, by omega, Turn.refl _ _, iv xs, HC.out, fun x hx => ?_, fun _ _ _ => rfl⟩
      rw [e]
      unfold iv
      congr 2
      rw [List.getD, List.getD, List.getElem?_take_of_lt hx]
    case round =>
      rename World => wr
      obtain ⟨i, j, hj, hij, rfl, rfl, HK⟩ := hrel
      by_cases hlt : j < n
      · obtain ⟨f, hF, hlo, hhi⟩ := HK.out.cells
        have hcj := (hF.2 j hlt).1
        have hci := (hF.2 i (by omega)).1
        have hfi := (hF.2 i (by omega)).2
        rw [hhi j (Nat.le_refl _) hlt] at hcj
        have hjx : j < xs.length := by rw [← HN.out]; exact hlt
        have HQ := Lib.hid (HP.out wr HK.out.turn (xs.getD j 0) (getD_mem hjx))
        have HSK := Lib.hid (fun h => HK.out.skip hjx h)
        have HPU := Lib.hid (fun h => HK.out.put HN.out hjx h)
        unfold iv at hcj
        clear hF hlo hhi hjx
        generalize xs.getD j 0 = y at *
        cases hp : P y with
        | false =>
          have HPP := Lib.hid hp
          rw [hp] at HQ
          clear hp
          go_wp2_with (go_at_call 51; refine HQ.out.mono ?_; rintro e w' ⟨rfl, rfl⟩)
          go_roundw
          case rel => exact ⟨i + 1, j + 1, by omega, by omega, by go_num, by go_num, Lib.hid (HPU.out HPP.out)⟩
          case measure => simp [intOf]; omega
        | true =>
          have HPP := Lib.hid hp
          rw [hp] at HQ
          clear hp
          go_wp2_with (go_at_call 51; refine HQ.out.mono ?_; rintro e w' ⟨rfl, rfl⟩)
          go_roundw
          case rel => exact ⟨i, j + 1, by omega, by omega, rfl, by go_num, Lib.hid (HSK.out HPP.out)⟩
          case measure => simp [intOf]; omega
      · obtain rfl : j = n := by omega
        have hcl : ∀ ty, (Builtin.clear_ #[24] ty #[.slice (some ⟨g, 0 + i, none⟩) (j - i) (cap - i)]).run Tryd.prog wr = .ok (.tuple #[]) (wr.setCells g (0 + i) (List.replicate (j - i) (.int .i64 0))) := fun ty => by
          obtain ⟨f, hF, _, _⟩ := HK.out.cells
          refine Lib.run_clear_slice wr _ _ ty _ Tryd.underlying24 zero_int rfl rfl g (0 + i) _ _ (by omega) (fun t ht => ?_) (fun t ht => ?_)
          · rw [Nat.zero_add, (hF.2 (i + t) (by omega)).1]; rfl
          · rw [Nat.zero_add]; exact (hF.2 (i + t) (by omega)).2
        rw [Nat.zero_add] at hcl
        have hci : ¬ cap = i := by omega
        go_wp2
        go_ret
        obtain ⟨h1, h2, h3, f, h4, h5, h6⟩ := HK.out
        obtain ⟨f', h7, h8⟩ := h4.puts (List.replicate (j - i) (.int .i64 0)) i (by simp; omega)
        have e : kp P xs j = xs.filter fun y => !P y := by rw [HN.out]; exact kp_full P xs
        rw [e] at h1 h5
        refine ⟨by rw [← h1]; rfl, by omega, ⟨f', h7, fun x hx => ?_⟩, h3.trans (turn_setCells _ _ _ _)⟩
        rw [h8 x (by omega)]
        exact h5 x (by omega)
end Go.Proofs.YtaioiobimenkfaaDoor
