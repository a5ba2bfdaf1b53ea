/-
  Bytes that lie at a slice, of whatever make: cut, kept, read, told as a string.
-/
import Derived.Test.YtbdlcmpljhbebaaBitsLeftW
import Derived.Test.YtbdlcmpljhbebaaBitsF3
import Derived.Test.YtbdlcmpljhbebaaChkPlain
set_option linter.unusedVariables false
namespace Go.Proofs.Ytbdlcmpljhbebaa
open Go.RowKit Bp Ck

/-- The bytes zs lie at the slice (A, n, cap), in blocks below B. -/
structure By (B : Nat) (w : World) (A : Option Addr) (n cap : Nat) (zs : List Nat) : Prop where
  len : zs.length = n
  le : n ≤ cap
  max : cap ≤ maxLen
  nil : A = none → cap = 0
  byte : ∀ z ∈ zs, z ≤ 255
  cell : 0 < n → ∃ g off, A = some ⟨g, off, none⟩ ∧ g < B ∧ ∀ j, j < n → w.cell? ⟨g, off + j, none⟩ = some (.int .u8 ((zs.getD j 0 : Nat) : Int))

theorem By.below {B : Nat} {w w' : World} {A : Option Addr} {n cap : Nat} {zs : List Nat} (h : By B w A n cap zs) (hb : Below B w w') : By B w' A n cap zs :=
  ⟨h.len, h.le, h.max, h.nil, h.byte, fun hn => by
    obtain ⟨g, off, hA, hg, hc⟩ := h.cell hn
    exact ⟨g, off, hA, hg, fun j hj => (hb.cell (p := ⟨g, off + j, none⟩) hg).trans (hc j hj)⟩⟩
theorem By.mono {B B' : Nat} {w : World} {A : Option Addr} {n cap : Nat} {zs : List Nat} (h : By B w A n cap zs) (hb : B ≤ B') : By B' w A n cap zs :=
  ⟨h.len, h.le, h.max, h.nil, h.byte, fun hn => by
    obtain ⟨g, off, hA, hg, hc⟩ := h.cell hn
    exact ⟨g, off, hA, by omega, hc⟩⟩
theorem By.drew {B : Nat} {w : World} {A : Option Addr} {n cap : Nat} {zs : List Nat} (h : By B w A n cap zs) : By B w.drew A n cap zs := h.below (Below.refl _ _).drew
theorem By.none_ (B : Nat) (w : World) : By B w none 0 0 [] := ⟨rfl, Nat.le_refl _, Nat.zero_le _, fun _ => rfl, by simp, fun h => by omega⟩
/-- What lies in a row of one's own. -/
theorem By.own {base : Nat} {w : World} {A : Option Addr} {n cap : Nat} {zs : List Nat} (h : w.ownsRow base 5 1 (.slice A n cap) n (bc zs)) (hz : ∀ z ∈ zs, z ≤ 255) : By w.heap.size w A n cap zs := by
  have hl : zs.length = n := by have := h.1; rw [bc_length] at this; omega
  rcases h.2 with ⟨e, h0⟩ | ⟨g, cap', cur, e, hg, hh, hnc, hcm, _⟩
  · simp only [Value.slice.injEq] at e
    obtain ⟨rfl, rfl, rfl⟩ := e
    exact ⟨hl, Nat.le_refl _, Nat.zero_le _, fun _ => rfl, hz, fun h => by omega⟩
  · simp only [Value.slice.injEq, true_and] at e
    obtain ⟨rfl, rfl⟩ := e
    refine ⟨hl, hnc, hcm, (fun e => by cases e), hz, fun hn => ⟨g, 0, rfl, lt_of_heap hh, fun j hj => ?_⟩⟩
    rw [Nat.zero_add, h.cellAt j (by omega)]
    simp [bc, List.getD, List.getElem?_eq_getElem (show j < zs.length by omega)]
theorem By.arg {w : World} {ao : Option Addr} {len cap : Nat} {f : Nat → Nat} (hA : ArgIn (fun z : Nat => Value.int .u8 (z : Int)) w ao len cap f) (hf : ∀ i, i < len → f i ≤ 255) (m : Nat) (hm : m ≤ len) :
    By w.heap.size w ao m cap (listOf f m) :=
  ⟨listOf_length f m, Nat.le_trans hm hA.le, hA.max, fun e => (hA.nil e).2, by
    intro z hz
    simp only [listOf, List.mem_map, List.mem_range] at hz
    obtain ⟨i, hi, rfl⟩ := hz
    exact hf i (by omega), fun hn => by
    obtain ⟨g, off, ha, hg, _⟩ := hA.cell 0 (by omega)
    refine ⟨g, off, ha, hg, fun j hj => ?_⟩
    obtain ⟨g', off', ha', hg', hc⟩ := hA.cell j (by omega)
    rw [ha] at ha'
    simp only [Option.some.injEq, Addr.mk.injEq, and_true] at ha'
    obtain ⟨rfl, rfl⟩ := ha'
    rw [hc]
    simp [listOf, List.getD, hj]⟩
theorem By.bytesAt {B : Nat} {w : World} {A : Option Addr} {n cap : Nat} {zs : List Nat} (h : By B w A n cap zs) : BytesAt w (.slice A n cap) zs := by
  cases A with
  | none =>
    have h1 := h.nil rfl
    have h2 := h.le
    have h3 := h.len
    have : zs = [] := List.eq_nil_of_length_eq_zero (by omega)
    subst this
    exact .inl ⟨by rw [h1, show n = 0 by omega], rfl⟩
  | some a =>
    refine .inr ⟨a, cap, by rw [h.len], fun j u hu => ?_⟩
    have hlt : j < n := by have := (List.getElem?_eq_some_iff.1 hu).1; rw [bc_length, h.len] at this; exact this
    obtain ⟨g, off, hA, hg, hc⟩ := h.cell (by omega)
    simp only [Option.some.injEq] at hA
    subst hA
    rw [plain_add, hc j hlt, ← hu]
    have hl := h.len
    simp [bc, List.getD, List.getElem?_eq_getElem (show j < zs.length by omega)]
/-- Where the cut l .. of room up to m lies. -/
def cutA (A : Option Addr) (l m : Nat) : Option Addr := if m = l then A else A.map (·.add l)
theorem By.cut {B : Nat} {w : World} {A : Option Addr} {n cap : Nat} {zs : List Nat} (h : By B w A n cap zs) (l e m : Nat) (h1 : l ≤ e) (h2 : e ≤ n) (h3 : e ≤ m) (h4 : m ≤ cap) :
    By B w (cutA A l m) (e - l) (m - l) ((zs.drop l).take (e - l)) := by
  have hl := h.len
  have hlen : ((zs.drop l).take (e - l)).length = e - l := by rw [List.length_take, List.length_drop]; omega
  refine ⟨hlen, by omega, by have := h.max; omega, fun e0 => ?_, fun z hz => h.byte z (List.mem_of_mem_drop (List.mem_of_mem_take hz)), fun hn => ?_⟩
  · unfold cutA at e0
    split at e0
    · omega
    · cases A with
      | none => have := h.nil rfl; omega
      | some a => cases e0
  · obtain ⟨g, off, hA, hg, hc⟩ := h.cell (by omega)
    subst hA
    unfold cutA
    rw [if_neg (by omega)]
    refine ⟨g, off + l, by simp [plain_add], hg, fun j hj => ?_⟩
    rw [Nat.add_assoc, hc (l + j) (by omega)]
    simp [List.getD, hj]
theorem By.take {B : Nat} {w : World} {A : Option Addr} {n cap : Nat} {zs : List Nat} (h : By B w A n cap zs) (e : Nat) (h2 : e ≤ n) : By B w A e cap (zs.take e) := by
  have hl := h.len
  refine ⟨by rw [List.length_take]; omega, by have := h.le; omega, h.max, h.nil, fun z hz => h.byte z (List.mem_of_mem_take hz), fun hn => ?_⟩
  obtain ⟨g, off, hA, hg, hc⟩ := h.cell (by omega)
  refine ⟨g, off, hA, hg, fun j hj => ?_⟩
  rw [hc j (by omega)]
  simp [List.getD, hj]
/-- The walk's own words for cuts. -/
theorem slice_l (A : Option Addr) (n cap l : Nat) (w : World) (h : l ≤ n) : (Instr.slice 22 (.slice A n cap) (some (.int .i64 (l : Int))) none none).run Try.prog w = .ok (.slice (cutA A l cap) (n - l) (cap - l)) w := by
  rw [run_slice_l w 22 A n cap Try.underlying22 .i64 (l : Int) (by omega) (by omega)]
  simp [go_sem, cutA, Try.sizeOf5]
theorem slice_h (A : Option Addr) (n cap e : Nat) (w : World) (h : e ≤ cap) : (Instr.slice 22 (.slice A n cap) none (some (.int .i64 (e : Int))) none).run Try.prog w = .ok (.slice A e cap) w := by
  rw [run_slice_h w 22 A n cap Try.underlying22 .i64 (e : Int) (by omega) (by omega)]
  cases A <;> simp [go_sem, Try.sizeOf5, Addr.add]
theorem slice_lh (A : Option Addr) (n cap l e : Nat) (w : World) (h0 : l ≤ e) (h : e ≤ cap) : (Instr.slice 22 (.slice A n cap) (some (.int .i64 (l : Int))) (some (.int .i64 (e : Int))) none).run Try.prog w = .ok (.slice (cutA A l cap) (e - l) (cap - l)) w := by
  rw [run_slice_lh w 22 A n cap Try.underlying22 .i64 .i64 (l : Int) (e : Int) (by omega) (by omega) (by omega)]
  simp [go_sem, cutA, Try.sizeOf5]
theorem slice_lhm (A : Option Addr) (n cap l e m : Nat) (w : World) (h0 : l ≤ e) (h1 : e ≤ m) (h : m ≤ cap) : (Instr.slice 22 (.slice A n cap) (some (.int .i64 (l : Int))) (some (.int .i64 (e : Int))) (some (.int .i64 (m : Int)))).run Try.prog w = .ok (.slice (cutA A l m) (e - l) (m - l)) w := by
  rw [run_slice_lhm w 22 A n cap Try.underlying22 .i64 .i64 .i64 (l : Int) (e : Int) (m : Int) (by omega) (by omega) (by omega) (by omega)]
  simp [go_sem, cutA, Try.sizeOf5]
/-- Told as a string. -/
theorem By.conv {B : Nat} {w : World} {A : Option Addr} {n cap : Nat} {zs : List Nat} (h : By B w A n cap zs) :
    (convert 22 9 (.slice A n cap)).run Try.prog w = .ok (.string (strOf zs)) w := by
  have hl := h.len
  rcases Nat.eq_zero_or_pos n with h0 | h0
  · subst h0
    have : zs = [] := List.eq_nil_of_length_eq_zero hl
    subst this
    cases A with
    | none => have := h.nil rfl; subst this; exact run_convert_bytes_nil w _ _ Try.underlying22 Try.underlying5 0 0 _ Try.underlying9
    | some a =>
      have hl0 : (loadCells a 0).run Try.prog w = .ok (([] : List Int).map (Value.int .u8)).toArray w := by
        have := run_loadCells_list (P := Try.prog) w a ([] : List Value) (fun j v hj => by simp at hj)
        simpa using this
      rw [run_convert_bytes_string w 22 9 5 _ 0 cap Try.underlying22 Try.underlying5 Try.underlying9, run_bytesToString w _ 0 cap [] hl0]
      rfl
  · obtain ⟨g, off, hA, hg, hc⟩ := h.cell h0
    subst hA
    refine run_convert_bytes_arg w _ _ Try.underlying22 Try.underlying5 g off n cap (zs.map fun n : Nat => (n : Int)) (by simpa using hl) (fun i hi => ?_) _ Try.underlying9
    rw [hc i hi]
    simp [List.getD, List.getElem?_eq_getElem (show i < zs.length by omega)]
end Go.Proofs.Ytbdlcmpljhbebaa
