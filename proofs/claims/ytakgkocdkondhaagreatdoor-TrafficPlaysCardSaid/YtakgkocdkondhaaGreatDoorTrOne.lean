/-
  Layer 10: acts laid into a block; a way as acts.
  Layer 10: slices.Grow of nothing and slices.Concat, at acts.
  Layer 10: Make.
  Layer 10: Same, the document's examples, small.
-/
import Derived.Test.YtakgkocdkondhaaGreatDoorTrA
import Derived.Test.YtakgkocdkondhaaGreatDoorPtFind
import Derived.Lib.AppendZeros
import Derived.Test.YtakgkocdkondhaaGreatDoorTrE
import Derived.Test.YtakgkocdkondhaaGreatDoorTrFg
import Derived.Test.YtakgkocdkondhaaGreatDoorPtTwo
import Derived.Test.YtakgkocdkondhaaGreatDoorFlTwo
set_option linter.unusedVariables false
set_option maxRecDepth 100000
section
section
namespace Go.Proofs.YtakgkocdkondhaaGreatDoor
namespace Tr
open Go.RowKit Fl Pt
open Bk (Gt)

/-- A block holds acts. -/
def AcB (g n : Nat) (M : List Ac) (w : World) : Prop := M.length = n ∧ Cells g (n * 3) (fun x => (acv M).getD x undef) w
/-- So much of a way is laid. -/
def laid (P : List Nat) (i : Nat) : List Ac := gos (P.take i) ++ List.replicate (P.length - i) (0, 0, 0)
/-- A way is told as acts. -/
def GoesTold (W H : Int) (s : ByteArray) (c t : Int) (B : Nat → Bool) (w : World) (e : Ending) (w' : World) : Prop :=
  ∃ A n cap P er, e = .returned (.tuple #[.slice A n cap, .int .i64 er]) ∧ n = P.length ∧ (P.length ≤ 256 ∧ (er = 0 ∨ er = 1 ∨ er = 2)) ∧ Al w'.heap.size w' A n cap (gos P) ∧ Below w.heap.size w w' ∧ WayIs W H s c t B P er
end Tr
end Go.Proofs.YtakgkocdkondhaaGreatDoor
end

section
namespace Go.Proofs.YtakgkocdkondhaaGreatDoor
namespace Tr
open Go.RowKit Fl Pt
open Bk (Gt)


/-- Lists of acts at a slice. -/
structure All (B : Nat) (w : World) (A : Option Addr) (n cap : Nat) (Ls : List (List Ac)) : Prop where
  len : Ls.length = n
  le : n ≤ cap ∧ cap ≤ 9223372036854775807
  cell : ∀ j, j < n → ∃ g off A' n' c', A = some ⟨g, off, none⟩ ∧ g < B ∧ w.cell? ⟨g, off + j, none⟩ = some (.slice A' n' c') ∧ Al B w A' n' c' (Ls.getD j [])
end Tr
end Go.Proofs.YtakgkocdkondhaaGreatDoor
end
end

section
namespace Go.Proofs.YtakgkocdkondhaaGreatDoor
namespace Tr
open Go.RowKit Fl Pt
open Bk (Gt)

/-- Whether there may be a trip. -/
def MayTrip (W H : Int) (s : ByteArray) (r pod a b : Int) : Prop := IsRobot W H s r ∧ isP pod = true ∧ laneB s a = true ∧ laneB s b = true
/-- The trip, or why there is none. -/
def MakeIs (W H : Int) (s : ByteArray) (r pod a b : Int) (B : Nat → Bool) (L : List Ac) (er : Int) : Prop :=
  (¬ MayTrip W H s r pod a b ∧ L = [] ∧ er = 1) ∨
  (MayTrip W H s r pod a b ∧ ∃ (d : Nat) (x y z : List Nat), IsFirst s (48 + r.toNat) d ∧ WayIs W H s (d : Int) a B x 0 ∧ WayIs W H s a b B y 0 ∧ WayIs W H s b (d : Int) B z 0 ∧ L = tripL x y z a b pod ∧ er = 0) ∨
  (MayTrip W H s r pod a b ∧ ∃ (d : Nat), IsFirst s (48 + r.toNat) d ∧ (WayIs W H s (d : Int) a B [] 2 ∨ WayIs W H s a b B [] 2 ∨ WayIs W H s b (d : Int) B [] 2) ∧ L = [] ∧ er = 2)
theorem MakeIs.uniq {W H : Int} {s : ByteArray} {r pod a b : Int} {B : Nat → Bool} {L M : List Ac} {e f : Int} (h : MakeIs W H s r pod a b B L e) (k : MakeIs W H s r pod a b B M f) : L = M ∧ e = f := by
  rcases h with ⟨h0, rfl, rfl⟩ | ⟨h0, d, x, y, z, hd, h1, h2, h3, rfl, rfl⟩ | ⟨h0, d, hd, h1, rfl, rfl⟩ <;> rcases k with ⟨k0, rfl, rfl⟩ | ⟨k0, d', x', y', z', kd, k1, k2, k3, rfl, rfl⟩ | ⟨k0, d', kd, k1, rfl, rfl⟩
  · exact ⟨rfl, rfl⟩
  · exact absurd k0 h0
  · exact absurd k0 h0
  · exact absurd h0 k0
  · obtain rfl := hd.one kd
    rw [(h1.uniq k1).1, (h2.uniq k2).1, (h3.uniq k3).1]
    exact ⟨rfl, rfl⟩
  · obtain rfl := hd.one kd
    rcases k1 with k1 | k1 | k1
    · have := (h1.uniq k1).2; omega
    · have := (h2.uniq k1).2; omega
    · have := (h3.uniq k1).2; omega
  · exact absurd h0 k0
  · obtain rfl := hd.one kd
    rcases h1 with h1 | h1 | h1
    · have := (h1.uniq k1).2; omega
    · have := (h1.uniq k2).2; omega
    · have := (h1.uniq k3).2; omega
  · exact ⟨rfl, rfl⟩
theorem way_02 {W H : Int} {s : ByteArray} {c t : Int} {B : Nat → Bool} {P : List Nat} {er : Int} (h : WayIs W H s c t B P er) (hc : OnFloor W H s c) (ht : OnFloor W H s t) : er = 0 ∨ (er = 2 ∧ P = []) := by
  rcases h with ⟨_, _, e, _⟩ | ⟨_, _, e, e2, _⟩ | ⟨k, _⟩
  · exact .inl e
  · exact .inr ⟨e, e2⟩
  · exact absurd ⟨hc, ht⟩ k
theorem lane_on {W H : Int} {s : ByteArray} {c : Int} (hr : Right W H s) (h : laneB s c = true) : OnFloor W H s c := ⟨hr, fun e => by unfold laneB at h; rw [e] at h; revert h; decide⟩
theorem dock_on {W H : Int} {s : ByteArray} {r : Int} {d : Nat} (hr : IsRobot W H s r) (hd : IsFirst s (48 + r.toNat) d) : OnFloor W H s (d : Int) := (on_dock hr.1 hd (rob_lt hr) (.inl rfl)).2
/-- A trip is told. -/
def MakeTold (W H : Int) (s : ByteArray) (r pod a b : Int) (B : Nat → Bool) (w : World) (e : Ending) (w' : World) : Prop :=
  ∃ A n cap L er, e = .returned (.tuple #[.slice A n cap, .int .i64 er]) ∧ MakeIs W H s r pod a b B L er ∧ L.length ≤ 770 ∧ (er = 0 ∨ er = 1 ∨ er = 2) ∧ Al w'.heap.size w' A n cap L ∧ Below w.heap.size w w'
end Tr
end Go.Proofs.YtakgkocdkondhaaGreatDoor
end

section
namespace Go.Proofs.YtakgkocdkondhaaGreatDoor
namespace Tr
open Go.RowKit Fl Pt
open Bk (Gt)

theorem ext_ac {L M : List Ac} (hl : L.length = M.length) (h : ∀ t, t < L.length → L.getD t (0, 0, 0) = M.getD t (0, 0, 0)) : L = M :=
  List.ext_getElem hl fun i h1 h2 => by
    have := h i h1
    rw [List.getD_eq_getElem?_getD, List.getD_eq_getElem?_getD, List.getElem?_eq_getElem h1, List.getElem?_eq_getElem h2] at this
    simpa using this
set_option maxHeartbeats 4000000 in
theorem same_any (A A' : Option Addr) (n n' c c' : Nat) (L M : List Ac) (w : World) (h1 : Al w.heap.size w A n c L) (h2 : Al w.heap.size w A' n' c' M) :
    Calls Tryz.prog 24 #[.slice A n c, .slice A' n' c'] w fun e w' => e = .returned (.bool (decide (L = M))) ∧ Below w.heap.size w w' := by
  have H1 := Lib.hid h1
  have H2 := Lib.hid h2
  have HL1 := Lib.hid h1.len
  have HL2 := Lib.hid h2.len
  have hs := h1.size
  have hs1 := hs.1
  have hs2 := hs.2
  have hs' := h2.size
  have hs3 := hs'.1
  have hs4 := hs'.2
  clear h1 h2 hs hs'
  by_cases hnn : n = n'
  · subst hnn
    go_enter Tryz.func24, Tryz.ntmps24
    go_wp2_with fail
    go_loopw [5] (fun iv wr => ∃ (j : Nat), iv = .int .i64 (j : Int) ∧ j ≤ n ∧ Hid (∀ t, t < j → L.getD t (0, 0, 0) = M.getD t (0, 0, 0)) ∧ Below w.heap.size w wr) (fun iv _ => n - (intOf iv).toNat)
    case atStart => exact ⟨0, rfl, Nat.zero_le _, Lib.hid (fun t ht => by omega), Below.refl _ _⟩
    case round =>
      rename World => wr
      obtain ⟨j, rfl, hj, HI, hb⟩ := hrel
      have HB := Lib.hid hb
      clear hb
      by_cases hlj : j < n
      · obtain ⟨g1, o1, rfl, _, k1, k2, k3⟩ := (H1.out.later HB.out).cell hlj
        obtain ⟨g2, o2, rfl, _, k4, k5, k6⟩ := (H2.out.later HB.out).cell hlj
        have hjI : (j : Int) < (n : Int) := by omega
        by_cases he : L.getD j (0, 0, 0) = M.getD j (0, 0, 0)
        · have HI2 : Hid (∀ t, t < j + 1 → L.getD t (0, 0, 0) = M.getD t (0, 0, 0)) := Lib.hid (fun t ht => by
            rcases (by omega : t < j ∨ t = j) with q | q
            · exact HI.out t q
            · rw [q]; exact he)
          rw [← he] at k4 k5 k6
          clear he
          generalize L.getD j (0, 0, 0) = p at *
          obtain ⟨p1, p2, p3⟩ := p
          generalize hkk : (((p1, p2, p3) : Ac).1 : Int) = kk at *
          clear hkk
          go_wp2_with fail
          go_big_quiet (fail)
          go_wp2_with fail
          go_roundw
          case rel => exact ⟨j + 1, by go_num, by omega, HI2, HB.out.trans (below_drewN _ _ _)⟩
          case measure => simp [intOf]; omega
        · have HD : Hid (decide (L = M) = false) := Lib.hid (decide_eq_false (fun e => he (by rw [e])))
          obtain ⟨p1, hp1⟩ : ∃ p1 : Int, p1 = ((L.getD j (0, 0, 0)).1 : Int) := ⟨_, rfl⟩
          obtain ⟨p2, hp2⟩ : ∃ p2, p2 = (L.getD j (0, 0, 0)).2.1 := ⟨_, rfl⟩
          obtain ⟨p3, hp3⟩ : ∃ p3, p3 = (L.getD j (0, 0, 0)).2.2 := ⟨_, rfl⟩
          obtain ⟨q1, hq1⟩ : ∃ q1 : Int, q1 = ((M.getD j (0, 0, 0)).1 : Int) := ⟨_, rfl⟩
          obtain ⟨q2, hq2⟩ : ∃ q2, q2 = (M.getD j (0, 0, 0)).2.1 := ⟨_, rfl⟩
          obtain ⟨q3, hq3⟩ : ∃ q3, q3 = (M.getD j (0, 0, 0)).2.2 := ⟨_, rfl⟩
          have hcs : p1 ≠ q1 ∨ (p1 = q1 ∧ (p2 ≠ q2 ∨ (p2 = q2 ∧ p3 ≠ q3))) := by
            by_cases e1 : p1 = q1
            · refine .inr ⟨e1, ?_⟩
              by_cases e2 : p2 = q2
              · refine .inr ⟨e2, fun e3 => he (Prod.ext ?_ (Prod.ext (by rw [← hp2, ← hq2, e2]) (by rw [← hp3, ← hq3, e3])))⟩
                have : ((L.getD j (0, 0, 0)).1 : Int) = ((M.getD j (0, 0, 0)).1 : Int) := by rw [← hp1, ← hq1, e1]
                omega
              · exact .inl e2
            · exact .inl e1
          rw [← hp1] at k1
          rw [← hp2] at k2
          rw [← hp3] at k3
          rw [← hq1] at k4
          rw [← hq2] at k5
          rw [← hq3] at k6
          clear hp1 hp2 hp3 hq1 hq2 hq3 he
          rcases hcs with e1 | ⟨rfl, e1 | ⟨rfl, e1⟩⟩
          · have d1 : (p1 == q1) = false := by rw [beq_eq_false_iff_ne]; exact e1
            go_wp2_with fail
            go_big_quiet (fail)
            go_wp2_with fail
            go_ret
            exact ⟨by rw [HD.out]; rfl, HB.out.trans (below_drewN _ _ _)⟩
          · have d1 : (p2 == q2) = false := by rw [beq_eq_false_iff_ne]; exact e1
            go_wp2_with fail
            go_big_quiet (fail)
            go_wp2_with fail
            go_ret
            exact ⟨by rw [HD.out]; rfl, HB.out.trans (below_drewN _ _ _)⟩
          · have d1 : (p3 == q3) = false := by rw [beq_eq_false_iff_ne]; exact e1
            go_wp2_with fail
            go_big_quiet (fail)
            go_wp2_with fail
            go_ret
            exact ⟨by rw [HD.out]; rfl, HB.out.trans (below_drewN _ _ _)⟩
      · obtain rfl : j = n := by omega
        have HD : Hid (decide (L = M) = true) := Lib.hid (decide_eq_true (ext_ac (by rw [HL1.out, HL2.out]) (fun t ht => HI.out t (by rw [← HL1.out]; exact ht))))
        go_wp2_with fail
        go_ret
        exact ⟨by rw [HD.out]; rfl, HB.out⟩
  · have HD : Hid (decide (L = M) = false) := Lib.hid (decide_eq_false (fun e => hnn (by rw [← HL1.out, ← HL2.out, e])))
    have hd : ((n : Int) == (n' : Int)) = false := by rw [beq_eq_false_iff_ne]; omega
    rw [HD.out]
    go_enter Tryz.func24, Tryz.ntmps24
    go_wp2_with fail
    go_ret
    exact ⟨rfl, Below.refl _ _⟩

/-! ### The examples -/
def s10 : ByteArray := ⟨#[48, 97, 97, 98, 49, 10]⟩
def c10 : ByteArray := ⟨#[48, 97, 97, 98, 49]⟩
theorem rows10 : rowsL s10.data.toList = [[48, 97, 97, 98, 49]] := by decide
theorem right10 : Right 5 1 c10 := by
  refine ⟨5, 1, rfl, rfl, ⟨by decide, by decide, by decide, by decide, rfl⟩, ⟨by decide, ⟨by decide, by decide, ?_, ?_⟩, ⟨1, [2, 3], by decide, ?_⟩⟩⟩
  · intro r hr
    have h1 : (docks 5 1 (at_ c10)).length = 2 := by decide
    have : r = 0 ∨ r = 1 := by omega
    rcases this with rfl | rfl <;> decide
  · intro d hd
    have h1 : docks 5 1 (at_ c10) = [0, 4] := by decide
    rw [h1] at hd
    simp only [List.mem_cons, List.not_mem_nil, or_false] at hd
    rcases hd with rfl | rfl
    · exact ⟨1, by decide, by decide⟩
    · exact ⟨3, by decide, by decide⟩
  · have r1 : Rch 5 1 (at_ c10) 1 1 := Rch.refl _ _ _ 1
    have r2 := r1.step (c := 2) (by decide) (by decide)
    have r3 := r2.step (c := 3) (by decide) (by decide)
    intro l hl
    simp only [List.mem_cons, List.not_mem_nil, or_false] at hl
    rcases hl with rfl | rfl | rfl <;> assumption
theorem out10 {W H : Int} {c : ByteArray} {row : Nat} {err : Int} (h : POut (rowsL s10.data.toList) W H c row err) : W = 5 ∧ H = 1 ∧ c = c10 ∧ row = 0 ∧ err = 0 := by
  rw [rows10] at h
  refine POut.one h (.inr (.inl ⟨?_, right10, rfl, rfl, rfl, rfl, rfl⟩))
  intro j hj
  have : j = 0 := by simp at hj; omega
  subst this; decide
def Bn : Nat → Bool := mk (fun _ => 0) 0
def Ea (x : Nat) : Nat := [2, 1, 0, 1, 2].getD x 50
def Eb (x : Nat) : Nat := [3, 2, 1, 0, 1].getD x 50
def Ec (x : Nat) : Nat := [0, 1, 2, 3, 4].getD x 50
def L10 : List Ac := [(1, 1, 0), (1, 2, 0), (2, 2, 5), (1, 3, 0), (3, 3, 5), (1, 2, 0), (1, 1, 0), (1, 0, 0)]
/-- A case: a floor, a robot, a pod, where it is carried from and to, cells that are blocked. -/
def caseV (W H : Int) (s : ByteArray) (r pod a b : Int) (A : Option Addr) (n cap : Nat) : Value := .agg #[.int .i64 W, .int .i64 H, .string s, .int .i64 r, .int .i64 pod, .int .i64 a, .int .i64 b, .slice A n cap]
section
variable {D : Nat} {W H : Int} {s : ByteArray} {r pod a b : Int} {A : Option Addr} {n cap : Nat} {w w' : World}
end
end Tr
end Go.Proofs.YtakgkocdkondhaaGreatDoor
end
