/-
  Layer 10: acts laid into a block; a way as acts.
  Layer 10: slices.Grow of nothing and slices.Concat, at acts.
  Layer 10: Make.
  Layer 10: Same, the document's examples, small.
-/
import Derived.Test.YtellaeihcignaaaGreatDoorTrA
import Derived.Test.YtellaeihcignaaaGreatDoorPtFind
import Derived.Lib.AppendZeros
import Derived.Test.YtellaeihcignaaaGreatDoorTrE
import Derived.Test.YtellaeihcignaaaGreatDoorTrFg
import Derived.Test.YtellaeihcignaaaGreatDoorPtTwo
import Derived.Test.YtellaeihcignaaaGreatDoorFlTwo
set_option linter.unusedVariables false
set_option maxRecDepth 100000
section
section
namespace Go.Proofs.YtellaeihcignaaaGreatDoor
namespace Tr
open Go.RowKit Fl Pt
open Bk (Gt)

theorem acv_getD (l : List Ac) (x : Nat) (h : x < l.length) : (acv l).getD (x * 3) undef = .int .u8 ((l.getD x (0, 0, 0)).1 : Int) ∧ (acv l).getD (x * 3 + 1) undef = .int .i64 (l.getD x (0, 0, 0)).2.1 ∧ (acv l).getD (x * 3 + 2) undef = .int .i64 (l.getD x (0, 0, 0)).2.2 := by
  obtain ⟨q0, q1, q2⟩ := acv_get l x h
  exact ⟨by rw [List.getD, q0]; rfl, by rw [List.getD, q1]; rfl, by rw [List.getD, q2]; rfl⟩
theorem getD_setA (l : List Ac) (i x : Nat) (a : Ac) (h : i < l.length) : (l.set i a).getD x (0, 0, 0) = if x = i then a else l.getD x (0, 0, 0) := by
  rw [List.getD, List.getElem?_set]
  by_cases e : i = x
  · subst e; rw [if_pos rfl, if_pos h, if_pos rfl]; rfl
  · rw [if_neg e, if_neg (fun q => e q.symm)]; rfl
theorem acv_set (l : List Ac) (i : Nat) (a : Ac) (h : i < l.length) (x : Nat) (hx : x < l.length * 3) : (acv (l.set i a)).getD x undef = if x = i * 3 + 2 then .int .i64 a.2.2 else if x = i * 3 + 1 then .int .i64 a.2.1 else if x = i * 3 then .int .u8 (a.1 : Int) else (acv l).getD x undef := by
  obtain ⟨y, r, hr, rfl⟩ : ∃ y r, r < 3 ∧ x = y * 3 + r := ⟨x / 3, x % 3, Nat.mod_lt _ (by decide), by omega⟩
  have hy : y < l.length := by omega
  obtain ⟨p0, p1, p2⟩ := acv_getD (l.set i a) y (by rw [List.length_set]; exact hy)
  obtain ⟨q0, q1, q2⟩ := acv_getD l y hy
  rw [getD_setA l i y a h] at p0 p1 p2
  rcases (by omega : r = 0 ∨ r = 1 ∨ r = 2) with rfl | rfl | rfl
  · rw [if_neg (by omega), if_neg (by omega), Nat.add_zero]
    by_cases e : y = i
    · subst e; rw [if_pos rfl, p0, if_pos rfl]
    · rw [if_neg (by omega), p0, if_neg e, q0]
  · rw [if_neg (by omega)]
    by_cases e : y = i
    · subst e; rw [if_pos rfl, p1, if_pos rfl]
    · rw [if_neg (by omega), if_neg (by omega), p1, if_neg e, q1]
  · by_cases e : y = i
    · subst e; rw [if_pos rfl, p2, if_pos rfl]
    · rw [if_neg (by omega), if_neg (by omega), if_neg (by omega), p2, if_neg e, q2]
/-- A block holds acts. -/
def AcB (g n : Nat) (M : List Ac) (w : World) : Prop := M.length = n ∧ Cells g (n * 3) (fun x => (acv M).getD x undef) w
theorem AcB.later {g n : Nat} {M : List Ac} {w w' : World} (h : AcB g n M w) (hb : Below w.heap.size w w') : AcB g n M w' := ⟨h.1, h.2.later hb⟩
theorem AcB.put {g n : Nat} {M : List Ac} {w : World} (h : AcB g n M w) (i : Nat) (hi : i < n) (a : Ac) : AcB g n (M.set i a) (((w.setCell ⟨g, i * 3, none⟩ (.int .u8 (a.1 : Int))).setCell ⟨g, i * 3 + 1, none⟩ (.int .i64 a.2.1)).setCell ⟨g, i * 3 + 2, none⟩ (.int .i64 a.2.2)) := by
  obtain ⟨rfl, hc⟩ := h
  refine ⟨List.length_set, ?_⟩
  have h0 := hc.put (i * 3) (.int .u8 (a.1 : Int)) (by omega) (g := fun x => if x = i * 3 then .int .u8 (a.1 : Int) else (acv M).getD x undef) (fun x hx => rfl)
  have h1 := h0.put (i * 3 + 1) (.int .i64 a.2.1) (by omega) (g := fun x => if x = i * 3 + 1 then .int .i64 a.2.1 else if x = i * 3 then .int .u8 (a.1 : Int) else (acv M).getD x undef) (fun x hx => rfl)
  have h2 := h1.put (i * 3 + 2) (.int .i64 a.2.2) (by omega) (g := fun x => if x = i * 3 + 2 then .int .i64 a.2.2 else if x = i * 3 + 1 then .int .i64 a.2.1 else if x = i * 3 then .int .u8 (a.1 : Int) else (acv M).getD x undef) (fun x hx => rfl)
  exact h2.congr (fun x hx => (acv_set M i a hi x hx).symm)
theorem AcB.al {g n : Nat} {M : List Ac} {w : World} (h : AcB g n M w) (hn : n ≤ 1000000) : Al w.heap.size w (some ⟨g, 0, none⟩) n n M := by
  obtain ⟨rfl, hc⟩ := h
  refine ⟨acv_length M, Nat.le_refl _, by unfold maxLen; omega, (fun e => by cases e), fun _ => ⟨g, 0, rfl, hc.1, fun j hj => ?_⟩⟩
  rw [Nat.zero_add, (hc.2 j hj).1]
  show some ((acv M).getD j undef) = _
  rw [List.getD, List.getElem?_eq_getElem (by rw [acv_length]; exact hj)]; rfl
theorem made_acv (n : Nat) : (madeCells (Value.agg #[.int .u8 0, .int .i64 0, .int .i64 0]).cells (n * 3)).toList = acv (List.replicate n (0, 0, 0)) := by
  cases n with
  | zero => simp [madeCells, acv]
  | succ n =>
    have hsz : (Value.agg #[.int .u8 0, .int .i64 0, .int .i64 0]).cells = #[.int .u8 0, .int .i64 0, .int .i64 0] := rfl
    apply List.ext_getElem?
    intro j
    rw [hsz]
    by_cases hj : j < (n + 1) * 3
    · have h1 : (acv (List.replicate (n + 1) ((0, 0, 0) : Ac))).getD j undef = (#[.int .u8 0, .int .i64 0, .int .i64 0] : Array Value)[j % 3]! := by
        obtain ⟨y, r, hr, rfl⟩ : ∃ y r, r < 3 ∧ j = y * 3 + r := ⟨j / 3, j % 3, Nat.mod_lt _ (by decide), by omega⟩
        obtain ⟨q0, q1, q2⟩ := acv_getD (List.replicate (n + 1) ((0, 0, 0) : Ac)) y (by rw [List.length_replicate]; omega)
        have e : (List.replicate (n + 1) ((0, 0, 0) : Ac)).getD y (0, 0, 0) = (0, 0, 0) := by
          rw [List.getD, List.getElem?_replicate]
          split <;> rfl
        rw [e] at q0 q1 q2
        rcases (by omega : r = 0 ∨ r = 1 ∨ r = 2) with rfl | rfl | rfl
        · rw [show (y * 3 + 0) % 3 = 0 by omega]; exact q0
        · rw [show (y * 3 + 1) % 3 = 1 by omega]; exact q1
        · rw [show (y * 3 + 2) % 3 = 2 by omega]; exact q2
      have hl : j < (acv (List.replicate (n + 1) ((0, 0, 0) : Ac))).length := by rw [acv_length, List.length_replicate]; exact hj
      rw [List.getD, List.getElem?_eq_getElem hl] at h1
      rw [List.getElem?_eq_getElem hl, show (acv (List.replicate (n + 1) ((0, 0, 0) : Ac)))[j] = _ from h1]
      simp [madeCells, hj]
    · rw [List.getElem?_eq_none (by simp [madeCells]; omega), List.getElem?_eq_none (by rw [acv_length, List.length_replicate]; omega)]
theorem AcB.made {w1 : World} {base g n : Nat} {e : TypeId} (h : w1.ownsRow base e 3 (.slice (some ⟨g, 0, none⟩) n n) n (madeCells (Value.agg #[.int .u8 0, .int .i64 0, .int .i64 0]).cells (n * 3)).toList) : AcB g n (List.replicate n (0, 0, 0)) w1 := by
  rw [made_acv] at h
  refine ⟨List.length_replicate, (h.lt g rfl).2, fun x hx => ⟨?_, h.frozenAt x⟩⟩
  have hl : x < (acv (List.replicate n ((0, 0, 0) : Ac))).length := by rw [acv_length, List.length_replicate]; exact hx
  rw [h.cellAt x hx, List.getElem?_eq_getElem hl]
  show _ = some ((acv (List.replicate n ((0, 0, 0) : Ac))).getD x undef)
  rw [List.getD, List.getElem?_eq_getElem hl]; rfl
/-- So much of a way is laid. -/
def laid (P : List Nat) (i : Nat) : List Ac := gos (P.take i) ++ List.replicate (P.length - i) (0, 0, 0)
theorem laid_zero (P : List Nat) : laid P 0 = List.replicate P.length (0, 0, 0) := by simp [laid, gos]
theorem laid_all (P : List Nat) : laid P P.length = gos P := by simp [laid]
theorem laid_succ (P : List Nat) (i : Nat) (h : i < P.length) : (laid P i).set i (1, ((P.getD i 0 : Nat) : Int), 0) = laid P (i + 1) := by
  unfold laid
  have e : P.length - i = (P.length - (i + 1)) + 1 := by omega
  rw [e, List.replicate_succ, take_snoc P i 0 h]
  have hl : (gos (P.take i)).length = i := by rw [gos_length, List.length_take]; omega
  rw [List.set_append_right _ _ (by rw [hl]; exact Nat.le_refl _), hl, Nat.sub_self]
  simp [gos, List.append_assoc]
/-- A way is told as acts. -/
def GoesTold (W H : Int) (s : ByteArray) (c t : Int) (B : Nat → Bool) (w : World) (e : Ending) (w' : World) : Prop :=
  ∃ A n cap P er, e = .returned (.tuple #[.slice A n cap, .int .i64 er]) ∧ n = P.length ∧ (P.length ≤ 256 ∧ (er = 0 ∨ er = 1 ∨ er = 2)) ∧ Al w'.heap.size w' A n cap (gos P) ∧ Below w.heap.size w w' ∧ WayIs W H s c t B P er
end Tr
end Go.Proofs.YtellaeihcignaaaGreatDoor
end

section
namespace Go.Proofs.YtellaeihcignaaaGreatDoor
namespace Tr
open Go.RowKit Fl Pt
open Bk (Gt)


/-- Lists of acts at a slice. -/
structure All (B : Nat) (w : World) (A : Option Addr) (n cap : Nat) (Ls : List (List Ac)) : Prop where
  len : Ls.length = n
  le : n ≤ cap ∧ cap ≤ 9223372036854775807
  cell : ∀ j, j < n → ∃ g off A' n' c', A = some ⟨g, off, none⟩ ∧ g < B ∧ w.cell? ⟨g, off + j, none⟩ = some (.slice A' n' c') ∧ Al B w A' n' c' (Ls.getD j [])
theorem All.below {B : Nat} {w w' : World} {A : Option Addr} {n cap : Nat} {Ls : List (List Ac)} (h : All B w A n cap Ls) (hb : Below B w w') : All B w' A n cap Ls :=
  ⟨h.len, h.le, fun j hj => by
    obtain ⟨g, off, A', n', c', h1, h2, h3, h4⟩ := h.cell j hj
    exact ⟨g, off, A', n', c', h1, h2, (hb.cell (p := ⟨g, off + j, none⟩) h2).trans h3, h4.below hb⟩⟩
theorem flat_take (Ls : List (List Ac)) (i : Nat) (h : i < Ls.length) : (Ls.take (i + 1)).flatten = (Ls.take i).flatten ++ Ls.getD i [] := by
  rw [take_snoc Ls i [] h, List.flatten_append]
  simp
theorem flat_le (Ls : List (List Ac)) (i : Nat) : ((Ls.take i).flatten).length ≤ Ls.flatten.length := by
  conv => rhs; rw [← List.take_append_drop i Ls, List.flatten_append, List.length_append]
  omega
end Tr
end Go.Proofs.YtellaeihcignaaaGreatDoor
end
end

section
namespace Go.Proofs.YtellaeihcignaaaGreatDoor
namespace Tr
open Go.RowKit Fl Pt
open Bk (Gt)

/-- Whether there may be a trip. -/
def MayTrip (W H : Int) (s : ByteArray) (r pod a b : Int) : Prop := IsRobot W H s r ∧ isP pod = true ∧ laneB s a = true ∧ laneB s b = true
/-- The trip, or why there is none. -/
def MakeIs (W H : Int) (s : ByteArray) (r pod a b : Int) (B : Nat → Bool) (L : List Ac) (er : Int) : Prop :=
  (¬ MayTrip W H s r pod a b ∧ L = [] ∧ er = 1) ∨
  (MayTrip W H s r pod a b ∧ ∃ (d : Nat) (x y z : List Nat), IsFirst s (48 + r.toNat) d ∧ WayIs W H s (d : Int) a B x 0 ∧ WayIs W H s a b B y 0 ∧ WayIs W H s b (d : Int) B z 0 ∧ L = tripL x y z a b pod ∧ er = 0) ∨
  (MayTrip W H s r pod a b ∧ ∃ (d : Nat), IsFirst s (48 + r.toNat) d ∧ (WayIs W H s (d : Int) a B [] 2 ∨ WayIs W H s a b B [] 2 ∨ WayIs W H s b (d : Int) B [] 2) ∧ L = [] ∧ er = 2)
theorem MakeIs.uniq {W H : Int} {s : ByteArray} {r pod a b : Int} {B : Nat → Bool} {L M : List Ac} {e f : Int} (h : MakeIs W H s r pod a b B L e) (k : MakeIs W H s r pod a b B M f) : L = M ∧ e = f := by
  rcases h with ⟨h0, rfl, rfl⟩ | ⟨h0, d, x, y, z, hd, h1, h2, h3, rfl, rfl⟩ | ⟨h0, d, hd, h1, rfl, rfl⟩ <;> rcases k with ⟨k0, rfl, rfl⟩ | ⟨k0, d', x', y', z', kd, k1, k2, k3, rfl, rfl⟩ | ⟨k0, d', kd, k1, rfl, rfl⟩
  · exact ⟨rfl, rfl⟩
  · exact absurd k0 h0
  · exact absurd k0 h0
  · exact absurd h0 k0
  · obtain rfl := hd.one kd
    rw [(h1.uniq k1).1, (h2.uniq k2).1, (h3.uniq k3).1]
    exact ⟨rfl, rfl⟩
  · obtain rfl := hd.one kd
    rcases k1 with k1 | k1 | k1
    · have := (h1.uniq k1).2; omega
    · have := (h2.uniq k1).2; omega
    · have := (h3.uniq k1).2; omega
  · exact absurd h0 k0
  · obtain rfl := hd.one kd
    rcases h1 with h1 | h1 | h1
    · have := (h1.uniq k1).2; omega
    · have := (h1.uniq k2).2; omega
    · have := (h1.uniq k3).2; omega
  · exact ⟨rfl, rfl⟩
theorem way_02 {W H : Int} {s : ByteArray} {c t : Int} {B : Nat → Bool} {P : List Nat} {er : Int} (h : WayIs W H s c t B P er) (hc : OnFloor W H s c) (ht : OnFloor W H s t) : er = 0 ∨ (er = 2 ∧ P = []) := by
  rcases h with ⟨_, _, e, _⟩ | ⟨_, _, e, e2, _⟩ | ⟨k, _⟩
  · exact .inl e
  · exact .inr ⟨e, e2⟩
  · exact absurd ⟨hc, ht⟩ k
theorem lane_on {W H : Int} {s : ByteArray} {c : Int} (hr : Right W H s) (h : laneB s c = true) : OnFloor W H s c := ⟨hr, fun e => by unfold laneB at h; rw [e] at h; revert h; decide⟩
theorem dock_on {W H : Int} {s : ByteArray} {r : Int} {d : Nat} (hr : IsRobot W H s r) (hd : IsFirst s (48 + r.toNat) d) : OnFloor W H s (d : Int) := (on_dock hr.1 hd (rob_lt hr) (.inl rfl)).2
/-- A way's cells are cells. -/
theorem way_lt {W H : Int} {s : ByteArray} {c t : Int} {B : Nat → Bool} {P : List Nat} {er : Int} (h : WayIs W H s c t B P er) (i : Nat) (hi : i < P.length) : P.getD i 0 < s.size := by
  rcases h with ⟨hc, _, _, hg, _⟩ | ⟨_, _, _, e2, _⟩ | ⟨_, _, e2⟩
  · obtain ⟨a, b, k, rfl, rfl, rfl, hk, _, hS, _⟩ := onFloor_some hc
    have hall : ∀ i, i ≤ P.length → (k :: P).getD i 0 < a * b := by
      intro i
      induction i with
      | zero => intro _; rw [← hS.sz]; exact hk
      | succ i ih =>
        intro hi
        exact nr_lt hS.w1 (ih (by omega)) (gr_cells hg i (by omega)).2.2
    have := hall (i + 1) (by omega)
    rw [hS.sz]; exact this
  · rw [e2] at hi; simp at hi
  · rw [e2] at hi; simp at hi
theorem gos_iw {P : List Nat} {N : Nat} (hN : N ≤ 1000000) (h : ∀ i, i < P.length → P.getD i 0 < N) : ∀ a, a ∈ gos P → IW a.2.1 := by
  intro a ha
  unfold gos at ha
  obtain ⟨c, hc, rfl⟩ := List.mem_map.1 ha
  obtain ⟨i, hi, rfl⟩ := List.getElem_of_mem hc
  have := h i hi
  rw [List.getD, List.getElem?_eq_getElem hi, Option.getD_some] at this
  exact IW_nat (by omega)
theorem make_iw {W H : Int} {s : ByteArray} {r pod a b : Int} {B : Nat → Bool} {L : List Ac} {er : Int} (h : MakeIs W H s r pod a b B L er) : ∀ x, x ∈ L → IW x.2.1 := by
  intro x hx
  rcases h with ⟨_, rfl, _⟩ | ⟨h0, d, p, q, u, hd, h1, h2, h3, rfl, _⟩ | ⟨_, d, _, _, rfl, _⟩
  · cases hx
  · have hR := h0.1.1
    have h256 := rightLe hR
    have hw : ∀ {c : Int}, laneB s c = true → IW c := fun h => (on_dock hR hd (rob_lt h0.1) (.inr h)).1
    unfold tripL at hx
    rcases List.mem_append.1 hx with hx | hx
    · exact gos_iw (by omega) (way_lt h1) x hx
    · rcases List.mem_cons.1 hx with rfl | hx
      · exact hw h0.2.2.1
      · rcases List.mem_append.1 hx with hx | hx
        · exact gos_iw (by omega) (way_lt h2) x hx
        · rcases List.mem_cons.1 hx with rfl | hx
          · exact hw h0.2.2.2
          · exact gos_iw (by omega) (way_lt h3) x hx
  · cases hx
/-- A trip is told. -/
def MakeTold (W H : Int) (s : ByteArray) (r pod a b : Int) (B : Nat → Bool) (w : World) (e : Ending) (w' : World) : Prop :=
  ∃ A n cap L er, e = .returned (.tuple #[.slice A n cap, .int .i64 er]) ∧ MakeIs W H s r pod a b B L er ∧ L.length ≤ 770 ∧ (er = 0 ∨ er = 1 ∨ er = 2) ∧ Al w'.heap.size w' A n cap L ∧ Below w.heap.size w w'
theorem concat_five {w : World} {B : Nat} {A1 A2 A3 A4 A5 : Option Addr} {n1 n2 n3 n4 n5 c1 c2 c3 c4 c5 : Nat} {L1 L2 L3 L4 L5 : List Ac} (h1 : Al w.heap.size w A1 n1 c1 L1) (h2 : Al w.heap.size w A2 n2 c2 L2) (h3 : Al w.heap.size w A3 n3 c3 L3) (h4 : Al w.heap.size w A4 n4 c4 L4) (h5 : Al w.heap.size w A5 n5 c5 L5) :
    All (w.alloc (.cells #[.slice A1 n1 c1, .slice A2 n2 c2, .slice A3 n3 c3, .slice A4 n4 c4, .slice A5 n5 c5] 35)).heap.size (w.alloc (.cells #[.slice A1 n1 c1, .slice A2 n2 c2, .slice A3 n3 c3, .slice A4 n4 c4, .slice A5 n5 c5] 35)) (some ⟨w.heap.size, 0, none⟩) 5 5 [L1, L2, L3, L4, L5] := by
  have hb := (Below.refl w.heap.size w).alloc (Nat.le_refl _) (.cells #[.slice A1 n1 c1, .slice A2 n2 c2, .slice A3 n3 c3, .slice A4 n4 c4, .slice A5 n5 c5] 35)
  refine ⟨rfl, ⟨Nat.le_refl _, by omega⟩, fun j hj => ?_⟩
  rcases (by omega : j = 0 ∨ j = 1 ∨ j = 2 ∨ j = 3 ∨ j = 4) with rfl | rfl | rfl | rfl | rfl
  · exact ⟨w.heap.size, 0, A1, n1, c1, rfl, by simp, by simp [World.cell?_alloc_new], h1.later hb⟩
  · exact ⟨w.heap.size, 0, A2, n2, c2, rfl, by simp, by simp [World.cell?_alloc_new], h2.later hb⟩
  · exact ⟨w.heap.size, 0, A3, n3, c3, rfl, by simp, by simp [World.cell?_alloc_new], h3.later hb⟩
  · exact ⟨w.heap.size, 0, A4, n4, c4, rfl, by simp, by simp [World.cell?_alloc_new], h4.later hb⟩
  · exact ⟨w.heap.size, 0, A5, n5, c5, rfl, by simp, by simp [World.cell?_alloc_new], h5.later hb⟩
theorem trip_flat (x y z : List Nat) (a b p : Int) : [gos x, [((2 : Nat), a, p)], gos y, [((3 : Nat), b, p)], gos z].flatten = tripL x y z a b p := by
  simp [tripL]
end Tr
end Go.Proofs.YtellaeihcignaaaGreatDoor
end

section
namespace Go.Proofs.YtellaeihcignaaaGreatDoor
namespace Tr
open Go.RowKit Fl Pt
open Bk (Gt)

theorem ext_ac {L M : List Ac} (hl : L.length = M.length) (h : ∀ t, t < L.length → L.getD t (0, 0, 0) = M.getD t (0, 0, 0)) : L = M :=
  List.ext_getElem hl fun i h1 h2 => by
    have := h i h1
    rw [List.getD_eq_getElem?_getD, List.getD_eq_getElem?_getD, List.getElem?_eq_getElem h1, List.getElem?_eq_getElem h2] at this
    simpa using this
set_option maxHeartbeats 4000000 in
theorem same_any (A A' : Option Addr) (n n' c c' : Nat) (L M : List Ac) (w : World) (h1 : Al w.heap.size w A n c L) (h2 : Al w.heap.size w A' n' c' M) :
    Calls Tryz.prog 24 #[.slice A n c, .slice A' n' c'] w fun e w' => e = .returned (.bool (decide (L = M))) ∧ Below w.heap.size w w' := by
  have H1 := Lib.hid h1
  have H2 := Lib.hid h2
  have HL1 := Lib.hid h1.len
  have HL2 := Lib.hid h2.len
  have hs := h1.size
  have hs1 := hs.1
  have hs2 := hs.2
  have hs' := h2.size
  have hs3 := hs'.1
  have hs4 := hs'.2
  clear h1 h2 hs hs'
  by_cases hnn : n = n'
  · subst hnn
    go_enter Tryz.func24, Tryz.ntmps24
    go_wp2_with fail
    go_loopw [5] (fun iv wr => ∃ (j : Nat), iv = .int .i64 (j : Int) ∧ j ≤ n ∧ Hid (∀ t, t < j → L.getD t (0, 0, 0) = M.getD t (0, 0, 0)) ∧ Below w.heap.size w wr) (fun iv _ => n - (intOf iv).toNat)
    case atStart => exact ⟨0, rfl, Nat.zero_le _, Lib.hid (fun t ht => by omega), Below.refl _ _⟩
    case round =>
      rename World => wr
      obtain ⟨j, rfl, hj, HI, hb⟩ := hrel
      have HB := Lib.hid hb
      clear hb
      by_cases hlj : j < n
      · obtain ⟨g1, o1, rfl, _, k1, k2, k3⟩ := (H1.out.later HB.out).cell hlj
        obtain ⟨g2, o2, rfl, _, k4, k5, k6⟩ := (H2.out.later HB.out).cell hlj
        have hjI : (j : Int) < (n : Int) := by omega
        by_cases he : L.getD j (0, 0, 0) = M.getD j (0, 0, 0)
        · have HI2 : Hid (∀ t, t < j + 1 → L.getD t (0, 0, 0) = M.getD t (0, 0, 0)) := Lib.hid (fun t ht => by
            rcases (by omega : t < j ∨ t = j) with q | q
            · exact HI.out t q
            · rw [q]; exact he)
          rw [← he] at k4 k5 k6
          clear he
          generalize L.getD j (0, 0, 0) = p at *
          obtain ⟨p1, p2, p3⟩ := p
          generalize hkk : (((p1, p2, p3) : Ac).1 : Int) = kk at *
          clear hkk
          go_wp2_with fail
          go_big_quiet (fail)
          go_wp2_with fail
          go_roundw
          case rel => exact ⟨j + 1, by go_num, by omega, HI2, HB.out.trans (below_drewN _ _ _)⟩
          case measure => simp [intOf]; omega
        · have HD : Hid (decide (L = M) = false) := Lib.hid (decide_eq_false (fun e => he (by rw [e])))
          obtain ⟨p1, hp1⟩ : ∃ p1 : Int, p1 = ((L.getD j (0, 0, 0)).1 : Int) := ⟨_, rfl⟩
          obtain ⟨p2, hp2⟩ : ∃ p2, p2 = (L.getD j (0, 0, 0)).2.1 := ⟨_, rfl⟩
          obtain ⟨p3, hp3⟩ : ∃ p3, p3 = (L.getD j (0, 0, 0)).2.2 := ⟨_, rfl⟩
          obtain ⟨q1, hq1⟩ : ∃ q1 : Int, q1 = ((M.getD j (0, 0, 0)).1 : Int) := ⟨_, rfl⟩
          obtain ⟨q2, hq2⟩ : ∃ q2, q2 = (M.getD j (0, 0, 0)).2.1 := ⟨_, rfl⟩
          obtain ⟨q3, hq3⟩ : ∃ q3, q3 = (M.getD j (0, 0, 0)).2.2 := ⟨_, rfl⟩
          have hcs : p1 ≠ q1 ∨ (p1 = q1 ∧ (p2 ≠ q2 ∨ (p2 = q2 ∧ p3 ≠ q3))) := by
            by_cases e1 : p1 = q1
            · refine .inr ⟨e1, ?_⟩
              by_cases e2 : p2 = q2
              · refine .inr ⟨e2, fun e3 => he (Prod.ext ?_ (Prod.ext (by rw [← hp2, ← hq2, e2]) (by rw [← hp3, ← hq3, e3])))⟩
                have : ((L.getD j (0, 0, 0)).1 : Int) = ((M.getD j (0, 0, 0)).1 : Int) := by rw [← hp1, ← hq1, e1]
                omega
              · exact .inl e2
            · exact .inl e1
          rw [← hp1] at k1
          rw [← hp2] at k2
          rw [← hp3] at k3
          rw [← hq1] at k4
          rw [← hq2] at k5
          rw [← hq3] at k6
          clear hp1 hp2 hp3 hq1 hq2 hq3 he
          rcases hcs with e1 | ⟨rfl, e1 | ⟨rfl, e1⟩⟩
          · have d1 : (p1 == q1) = false := by rw [beq_eq_false_iff_ne]; exact e1
            go_wp2_with fail
            go_big_quiet (fail)
            go_wp2_with fail
            go_ret
            exact ⟨by rw [HD.out]; rfl, HB.out.trans (below_drewN _ _ _)⟩
          · have d1 : (p2 == q2) = false := by rw [beq_eq_false_iff_ne]; exact e1
            go_wp2_with fail
            go_big_quiet (fail)
            go_wp2_with fail
            go_ret
            exact ⟨by rw [HD.out]; rfl, HB.out.trans (below_drewN _ _ _)⟩
          · have d1 : (p3 == q3) = false := by rw [beq_eq_false_iff_ne]; exact e1
            go_wp2_with fail
            go_big_quiet (fail)
            go_wp2_with fail
            go_ret
            exact ⟨by rw [HD.out]; rfl, HB.out.trans (below_drewN _ _ _)⟩
      · obtain rfl : j = n := by omega
        have HD : Hid (decide (L = M) = true) := Lib.hid (decide_eq_true (ext_ac (by rw [HL1.out, HL2.out]) (fun t ht => HI.out t (by rw [← HL1.out]; exact ht))))
        go_wp2_with fail
        go_ret
        exact ⟨by rw [HD.out]; rfl, HB.out⟩
  · have HD : Hid (decide (L = M) = false) := Lib.hid (decide_eq_false (fun e => hnn (by rw [← HL1.out, ← HL2.out, e])))
    have hd : ((n : Int) == (n' : Int)) = false := by rw [beq_eq_false_iff_ne]; omega
    rw [HD.out]
    go_enter Tryz.func24, Tryz.ntmps24
    go_wp2_with fail
    go_ret
    exact ⟨rfl, Below.refl _ _⟩

/-! ### The examples -/
def s10 : ByteArray := ⟨#[48, 97, 97, 98, 49, 10]⟩
def c10 : ByteArray := ⟨#[48, 97, 97, 98, 49]⟩
theorem rows10 : rowsL s10.data.toList = [[48, 97, 97, 98, 49]] := by decide
theorem right10 : Right 5 1 c10 := by
  refine ⟨5, 1, rfl, rfl, ⟨by decide, by decide, by decide, by decide, rfl⟩, ⟨by decide, ⟨by decide, by decide, ?_, ?_⟩, ⟨1, [2, 3], by decide, ?_⟩⟩⟩
  · intro r hr
    have h1 : (docks 5 1 (at_ c10)).length = 2 := by decide
    have : r = 0 ∨ r = 1 := by omega
    rcases this with rfl | rfl <;> decide
  · intro d hd
    have h1 : docks 5 1 (at_ c10) = [0, 4] := by decide
    rw [h1] at hd
    simp only [List.mem_cons, List.not_mem_nil, or_false] at hd
    rcases hd with rfl | rfl
    · exact ⟨1, by decide, by decide⟩
    · exact ⟨3, by decide, by decide⟩
  · have r1 : Rch 5 1 (at_ c10) 1 1 := Rch.refl _ _ _ 1
    have r2 := r1.step (c := 2) (by decide) (by decide)
    have r3 := r2.step (c := 3) (by decide) (by decide)
    intro l hl
    simp only [List.mem_cons, List.not_mem_nil, or_false] at hl
    rcases hl with rfl | rfl | rfl <;> assumption
theorem out10 {W H : Int} {c : ByteArray} {row : Nat} {err : Int} (h : POut (rowsL s10.data.toList) W H c row err) : W = 5 ∧ H = 1 ∧ c = c10 ∧ row = 0 ∧ err = 0 := by
  rw [rows10] at h
  refine POut.one h (.inr (.inl ⟨?_, right10, rfl, rfl, rfl, rfl, rfl⟩))
  intro j hj
  have : j = 0 := by simp at hj; omega
  subst this; decide
def Bn : Nat → Bool := mk (fun _ => 0) 0
def Ea (x : Nat) : Nat := [2, 1, 0, 1, 2].getD x 50
def Eb (x : Nat) : Nat := [3, 2, 1, 0, 1].getD x 50
def Ec (x : Nat) : Nat := [0, 1, 2, 3, 4].getD x 50
theorem in10 (a : Nat) : ∀ x y, x < 5 → y ∈ nx5 5 1 (at_ c10) a Bn x → y < 5 := fun x y hx hy => nx5_lt (H := 1) (by decide) x y hx hy
theorem pa : ∀ x, x < 5 → ∀ y, y ∈ nx5 5 1 (at_ c10) 0 Bn x → Ea x ≤ Ea y + 1 := by decide +kernel
theorem pb : ∀ x, x < 5 → ∀ y, y ∈ nx5 5 1 (at_ c10) 2 Bn x → Eb x ≤ Eb y + 1 := by decide +kernel
theorem pc : ∀ x, x < 5 → ∀ y, y ∈ nx5 5 1 (at_ c10) 3 Bn x → Ec x ≤ Ec y + 1 := by decide +kernel
theorem ga : Gr (nx5 5 1 (at_ c10) 0 Bn) 2 0 [1, 2] := ⟨⟨[], [], by decide +kernel, by simp⟩, ⟨[], [0], by decide +kernel, by simp⟩, rfl⟩
theorem gb : Gr (nx5 5 1 (at_ c10) 2 Bn) 3 2 [3] := ⟨⟨[], [1], by decide +kernel, by simp⟩, rfl⟩
theorem gc : Gr (nx5 5 1 (at_ c10) 3 Bn) 0 3 [2, 1, 0] := by
  have hp := pot_back (z := 0) (in10 3) pc rfl
  refine ⟨⟨[4], [], by decide +kernel, ?_⟩, ⟨[3], [], by decide +kernel, ?_⟩, ⟨[2], [], by decide +kernel, ?_⟩, rfl⟩
  · intro y hy hw
    obtain rfl := List.mem_singleton.1 hy
    have := hp _ 4 (by decide) hw
    revert this; decide
  · intro y hy hw
    obtain rfl := List.mem_singleton.1 hy
    have := hp _ 3 (by decide) hw
    revert this; decide
  · intro y hy hw
    obtain rfl := List.mem_singleton.1 hy
    have := hp _ 2 (by decide) hw
    revert this; decide
theorem on10 (c : Int) (h : bAt c10 c ≠ 35) : OnFloor 5 1 c10 c := ⟨right10, h⟩
theorem wa : WayIs 5 1 c10 ((0 : Nat) : Int) 2 Bn [1, 2] 0 := .inl ⟨on10 _ (by decide), on10 2 (by decide), rfl, ga, ga.wk, fun m hm => pot_back (z := 2) (in10 0) pa rfl m 0 (by decide) hm⟩
theorem wb : WayIs 5 1 c10 2 3 Bn [3] 0 := .inl ⟨on10 2 (by decide), on10 3 (by decide), rfl, gb, gb.wk, fun m hm => pot_back (z := 3) (in10 2) pb rfl m 2 (by decide) hm⟩
theorem wc : WayIs 5 1 c10 3 ((0 : Nat) : Int) Bn [2, 1, 0] 0 := .inl ⟨on10 3 (by decide), on10 _ (by decide), rfl, gc, gc.wk, fun m hm => pot_back (z := 0) (in10 3) pc rfl m 3 (by decide) hm⟩
def L10 : List Ac := [(1, 1, 0), (1, 2, 0), (2, 2, 5), (1, 3, 0), (3, 3, 5), (1, 2, 0), (1, 1, 0), (1, 0, 0)]
theorem trip10 : MakeIs 5 1 c10 0 5 2 3 Bn L10 0 := .inr (.inl ⟨⟨⟨right10, by decide, by decide⟩, by decide, by decide, by decide⟩, 0, [1, 2], [3], [2, 1, 0], ⟨by decide, by decide, fun j hj => by omega⟩, wa, wb, wc, rfl, rfl⟩)
theorem zon10 : zonL c10 L10 = [0, 1] := by decide
theorem al_lit {w : World} (L : List Ac) {cs : Array Value} (hc : cs = (acv L).toArray) (hl : L.length ≤ 1000000) : Al (w.alloc (.cells cs 39)).heap.size (w.alloc (.cells cs 39)) (some ⟨w.heap.size, 0, none⟩) L.length L.length L := by
  subst hc
  refine ⟨acv_length L, Nat.le_refl _, by unfold maxLen; omega, (fun e => by cases e), fun _ => ⟨w.heap.size, 0, rfl, by simp, fun j hj => ?_⟩⟩
  have h := heap_alloc_new w (.cells (acv L).toArray 39)
  rw [cell_of_row _ _ _ _ _ _ h, Nat.zero_add]
  simp
theorem il_two01 (w : World) : Il (w.alloc (.cells #[.int .i64 0, .int .i64 1] 3)).heap.size (w.alloc (.cells #[.int .i64 0, .int .i64 1] 3)) (some ⟨w.heap.size, 0, none⟩) 2 2 (fun j => [0, 1].getD j 0) := il_lit (l := [0, 1]) (by decide) rfl

/-- A case: a floor, a robot, a pod, where it is carried from and to, cells that are blocked. -/
def caseV (W H : Int) (s : ByteArray) (r pod a b : Int) (A : Option Addr) (n cap : Nat) : Value := .agg #[.int .i64 W, .int .i64 H, .string s, .int .i64 r, .int .i64 pod, .int .i64 a, .int .i64 b, .slice A n cap]
section
variable {D : Nat} {W H : Int} {s : ByteArray} {r pod a b : Int} {A : Option Addr} {n cap : Nat} {w w' : World}
end
end Tr
end Go.Proofs.YtellaeihcignaaaGreatDoor
end
