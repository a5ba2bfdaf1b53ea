/-
  Layer 8: the program's sets of zones.
  Layer 8: who holds which zone, told by a closure (holder).
  Layer 8: whether one holds a zone, when one is given besides (the closure of May); who can be next (next).
  Layer 8: one number is deleted out of a list of one's own (slices.Delete).
  Layer 8: who can be next (next), and the order (order), for both closures (written by tools/bkgen.py).
  Layer 8: the order (order), for both closures (written by tools/bkgen2.py).
  Layer 8: Right, Order, Safe, May.
-/
import Derived.Test.YtakgkocdkondhaaGreatDoorBkA
import Derived.Deep.RegionLaw
import Derived.Deep.Upon
import Derived.Laws.CopyOwn
import Derived.Laws.EntriesVeiled
set_option linter.unusedVariables false
set_option maxRecDepth 100000
section
namespace Go.Proofs.YtakgkocdkondhaaGreatDoor.Bk
open Go.RowKit

/-- A truth is told, and nothing is touched. -/
def ToldE (P : Prop) (w : World) (e : Ending) (w' : World) : Prop := ∃ b : Bool, e = .returned (.bool b) ∧ (b = true ↔ P) ∧ w = w'
theorem isZone_any (z : Int) (w : World) : Calls Tryz.prog 79 #[.int .i64 z] w (ToldE (Zn z) w) := by
  by_cases h1 : 0 ≤ z
  · by_cases h2 : z < 26
    · have d1 : decide (0 ≤ z) = true := decide_eq_true h1
      have d2 : decide (z < 26) = true := decide_eq_true h2
      have HZ : Hid (Zn z) := Lib.hid ⟨h1, h2⟩
      go_enter Tryz.func79, Tryz.ntmps79
      go_wp2
      go_ret
      exact ⟨true, rfl, iff_of_true rfl HZ.out, rfl⟩
    · have d1 : decide (0 ≤ z) = true := decide_eq_true h1
      have d2 : decide (z < 26) = false := decide_eq_false h2
      have HZ : Hid (¬ Zn z) := Lib.hid (fun h => h2 h.2)
      go_enter Tryz.func79, Tryz.ntmps79
      go_wp2
      go_ret
      exact ⟨false, rfl, iff_of_false (by decide) HZ.out, rfl⟩
  · have d1 : decide (0 ≤ z) = false := decide_eq_false h1
    have HZ : Hid (¬ Zn z) := Lib.hid (fun h => h1 h.1)
    go_enter Tryz.func79, Tryz.ntmps79
    go_wp2
    go_ret
    exact ⟨false, rfl, iff_of_false (by decide) HZ.out, rfl⟩
theorem and_u32 (a b : Nat) (ha : a < 4294967296) (hb : b < 4294967296) : bits .and .u32 (a : Int) (b : Int) = ((a &&& b : Nat) : Int) := by
  have hx : a &&& b < 2 ^ 32 := Nat.and_lt_two_pow _ (by omega)
  have h1 : (BitVec.ofInt 32 (a : Int)).toNat = a := by
    rw [BitVec.ofInt_natCast, BitVec.toNat_ofNat]; exact Nat.mod_eq_of_lt (by omega)
  have h2 : (BitVec.ofInt 32 (b : Int)).toNat = b := by
    rw [BitVec.ofInt_natCast, BitVec.toNat_ofNat]; exact Nat.mod_eq_of_lt (by omega)
  show IntKind.u32.wrap ((BitVec.ofInt 32 (a : Int) &&& BitVec.ofInt 32 (b : Int)).toNat : Int) = _
  rw [BitVec.toNat_and, h1, h2, IntKind.wrap_u32]
  omega
theorem or_u32 (a b : Nat) (ha : a < 4294967296) (hb : b < 4294967296) : bits .or .u32 (a : Int) (b : Int) = ((a ||| b : Nat) : Int) := by
  have hx : a ||| b < 2 ^ 32 := Nat.or_lt_two_pow (by omega) (by omega)
  have h1 : (BitVec.ofInt 32 (a : Int)).toNat = a := by
    rw [BitVec.ofInt_natCast, BitVec.toNat_ofNat]; exact Nat.mod_eq_of_lt (by omega)
  have h2 : (BitVec.ofInt 32 (b : Int)).toNat = b := by
    rw [BitVec.ofInt_natCast, BitVec.toNat_ofNat]; exact Nat.mod_eq_of_lt (by omega)
  show IntKind.u32.wrap ((BitVec.ofInt 32 (a : Int) ||| BitVec.ofInt 32 (b : Int)).toNat : Int) = _
  rw [BitVec.toNat_or, h1, h2, IntKind.wrap_u32]
  omega
theorem has_bit (N z : Nat) (hN : N < 67108864) : (bits BinOp.and IntKind.u32 ((N : Int) / 2 ^ z) 1 == 1) = N.testBit z := by
  have h2 : N / 2 ^ z ≤ N := Nat.div_le_self _ _
  have e : ((N : Int) / 2 ^ z) = ((N / 2 ^ z : Nat) : Int) := by simp
  rw [e, show (1 : Int) = ((1 : Nat) : Int) from rfl, and_u32 _ _ (by omega) (by omega), Nat.and_one_is_mod, Nat.testBit_eq_decide_div_mod_eq]
  generalize N / 2 ^ z % 2 = x
  by_cases h : x = 1
  · subst h; rfl
  · rw [decide_eq_false h, beq_eq_false_iff_ne]; omega
theorem has_any (N z : Nat) (hN : N < 67108864) (hz : z < 26) (w : World) : Calls Tryz.prog 111 #[.int .u32 (N : Int), .int .i64 (z : Int)] w fun e w' => e = .returned (.bool (N.testBit z)) ∧ w = w' := by
  have HB := Lib.hid (has_bit N z hN)
  go_enter Tryz.func111, Tryz.ntmps111
  go_wp2
  go_ret
  exact ⟨ret_bool HB.out, rfl⟩

/-- The set of a list's zones. -/
structure SetIs (N : Nat) (L : List Int) : Prop where
  lt : N < 67108864
  bit : ∀ z : Nat, z < 26 → (N.testBit z = true ↔ (z : Int) ∈ L)
theorem bit_lt {z : Nat} (hz : z < 26) : 2 ^ z < 67108864 := Nat.lt_of_le_of_lt (Nat.pow_le_pow_right (by decide) (by omega : z ≤ 25)) (by decide)
theorem SetIs.nil : SetIs 0 [] := ⟨by decide, fun z hz => by simp⟩
theorem SetIs.snoc {N : Nat} {L : List Int} (h : SetIs N L) {z : Nat} (hz : z < 26) : SetIs (N ||| 2 ^ z) (L ++ [(z : Int)]) := by
  refine ⟨Nat.or_lt_two_pow (n := 26) h.lt (bit_lt hz), fun y hy => ?_⟩
  rw [Nat.testBit_or, Bool.or_eq_true, h.bit y hy, Nat.testBit_two_pow, List.mem_append, List.mem_singleton, decide_eq_true_iff]
  constructor
  · rintro (h | h); exact .inl h; exact .inr (by omega)
  · rintro (h | h); exact .inl h; exact .inr (by omega)
theorem or_set (N z : Nat) (hN : N < 67108864) (hz : z < 26) : bits BinOp.or IntKind.u32 (N : Int) ((2 : Int) ^ z % 4294967296) = ((N ||| 2 ^ z : Nat) : Int) := by
  have := bit_lt hz
  have e : ((2 : Int) ^ z % 4294967296) = ((2 ^ z : Nat) : Int) := by
    have e1 : ((2 : Int) ^ z) = ((2 ^ z : Nat) : Int) := by simp
    rw [e1]; generalize 2 ^ z = p at this ⊢; omega
  rw [e]
  exact or_u32 _ _ (by omega) (by omega)
/-- The set of a list is told, and whether all are zones. -/
def SetTold (L : List Int) (w : World) (e : Ending) (w' : World) : Prop :=
  w = w' ∧ ((e = .returned (.tuple #[.int .u32 0, .bool false]) ∧ ¬ ∀ z ∈ L, Zn z) ∨ ∃ N : Nat, e = .returned (.tuple #[.int .u32 (N : Int), .bool true]) ∧ SetIs N L ∧ ∀ z ∈ L, Zn z)
theorem take_succ_getD {L : List Int} {j : Nat} (h : j < L.length) : L.take (j + 1) = L.take j ++ [L.getD j 0] := by
  rw [List.take_succ_eq_append_getElem h, List.getD, List.getElem?_eq_getElem h]; rfl
set_option maxHeartbeats 1000000 in
theorem setOf_any (A : Option Addr) (n cap B : Nat) (L : List Int) (w : World) (h : Lt B w A n cap L) : Calls Tryz.prog 109 #[.slice A n cap] w (SetTold L w) := by
  have HL := Lib.hid h
  have hs := Gt.size h
  have hs1 := hs.1
  have hs2 := hs.2
  have HN := Lib.hid h.len
  clear h hs
  go_enter Tryz.func109, Tryz.ntmps109
  go_wp2_with fail
  go_loop [9, 4] (fun iv sv => ∃ j N : Nat, j ≤ n ∧ iv = .int .i64 (j : Int) ∧ sv = .int .u32 (N : Int) ∧ N < 67108864 ∧ Hid (SetIs N (L.take j) ∧ ∀ z ∈ L.take j, Zn z)) (fun iv _ => n - (intOf iv).toNat)
  case atStart => exact ⟨0, 0, Nat.zero_le _, rfl, rfl, by decide, Lib.hid ⟨by simpa using SetIs.nil, by simp⟩⟩
  case round =>
    obtain ⟨j, N, hj, rfl, rfl, hN, HI⟩ := hrel
    by_cases hlt : j < n
    · obtain ⟨g, off, rfl, hg, hc⟩ := HL.out.cell hlt
      have HE := Lib.hid (take_succ_getD (L := L) (j := j) (by rw [HN.out]; exact hlt))
      have HM : Hid (L.getD j 0 ∈ L) := Lib.hid (by
        have : j < L.length := by rw [HN.out]; exact hlt
        rw [List.getD, List.getElem?_eq_getElem this]; exact List.getElem_mem _)
      generalize L.getD j 0 = z at *
      by_cases hz : Zn z
      · have HZ := Lib.hid hz
        obtain ⟨y, rfl⟩ := Int.eq_ofNat_of_zero_le hz.1
        have hy : y < 26 := by have := hz.2; omega
        have HS := Lib.hid (HI.out.1.snoc hy)
        have hor := or_set N y hN hy
        have hlt2 := HS.out.lt
        have HOR := Lib.hid hlt2
        clear hz hlt2
        go_wp2_with (go_at_call 79; refine (isZone_any _ _).mono ?_; rintro e w' ⟨b, rfl, hb, rfl⟩; obtain rfl : b = true := hb.2 HZ.out; clear hb)
        go_round
        case rel => exact ⟨j + 1, N ||| 2 ^ y, by omega, by go_num, rfl, HOR.out, Lib.hid ⟨by rw [HE.out]; exact HS.out, by rw [HE.out]; intro z hz; rcases List.mem_append.1 hz with h | h; exact HI.out.2 z h; rw [List.mem_singleton.1 h]; exact HZ.out⟩⟩
        case measure => simp [intOf]; omega
      · have HZ := Lib.hid hz
        clear hz
        go_wp2_with (go_at_call 79; refine (isZone_any _ _).mono ?_; rintro e w' ⟨b, rfl, hb, rfl⟩; obtain rfl : b = false := Bool.eq_false_iff.2 (fun e => HZ.out (hb.1 e)); clear hb)
        go_ret2
        exact ⟨rfl, .inl ⟨rfl, fun h => HZ.out (h z HM.out)⟩⟩
    · obtain rfl : j = n := by omega
      go_wp2_with fail
      go_ret2
      refine ⟨rfl, .inr ⟨N, rfl, ?_, ?_⟩⟩
      · have := HI.out.1; rwa [List.take_of_length_le (by rw [HN.out]; exact Nat.le_refl _)] at this
      · have := HI.out.2; rwa [List.take_of_length_le (by rw [HN.out]; exact Nat.le_refl _)] at this
end Go.Proofs.YtakgkocdkondhaaGreatDoor.Bk
end

section
namespace Go.Proofs.YtakgkocdkondhaaGreatDoor.Bk
open Go.RowKit

theorem Tryz.infoZone8 : (Tryz.prog.info? 152).map (fun i => (i.zero, i.size, i.bytes)) = some (some (.int .u32 0), 1, 4) := by kernel_rfl
/-- n cells of block b. -/
def Cells (b n : Nat) (f : Nat → Value) (w : World) : Prop := b < w.heap.size ∧ ∀ x, x < n → w.cell? ⟨b, x, none⟩ = some (f x) ∧ w.frozen? ⟨b, x, none⟩ = false
theorem Cells.same {b n : Nat} {f : Nat → Value} {w w' : World} (h : Cells b n f w) (hs : w.heap.size ≤ w'.heap.size) (hb : w'.heap[b]? = w.heap[b]?) : Cells b n f w' :=
  ⟨Nat.lt_of_lt_of_le h.1 hs, fun x hx => ⟨(World.cell?_of_block (a := ⟨b, x, none⟩) hb).trans (h.2 x hx).1, (World.frozen?_of_block (a := ⟨b, x, none⟩) hb).trans (h.2 x hx).2⟩⟩
theorem Cells.later {b n : Nat} {f : Nat → Value} {w w' : World} (h : Cells b n f w) (hb : Below w.heap.size w w') : Cells b n f w' := h.same hb.size (hb.block b h.1)
theorem Cells.congr {b n : Nat} {f g : Nat → Value} {w : World} (h : Cells b n f w) (e : ∀ x, x < n → f x = g x) : Cells b n g w := ⟨h.1, fun x hx => by rw [← e x hx]; exact h.2 x hx⟩
theorem Cells.put {b n : Nat} {f g : Nat → Value} {w : World} (h : Cells b n f w) (y : Nat) (v : Value) (hy : y < n) (hg : ∀ x, x < n → g x = if x = y then v else f x) : Cells b n g (w.setCell ⟨b, y, none⟩ v) := by
  refine ⟨by simpa [World.setCell] using h.1, fun q hq => ⟨?_, by rw [World.frozen?_setCell]; exact (h.2 q hq).2⟩⟩
  rw [hg q hq]
  by_cases e : q = y
  · subst e
    rw [if_pos rfl, World.cell?_setCell_same (h := (h.2 q hq).1)]
  · rw [if_neg e, World.cell?_setCell_other (h := (fun e2 => e (by simpa using e2.symm) : (⟨b, y, none⟩ : Addr) ≠ ⟨b, q, none⟩))]
    exact (h.2 q hq).1
theorem Cells.made {w1 : World} {base g n : Nat} {e : TypeId} {u : Value} (hu : u.cells = #[u]) (h : w1.ownsRow base e 1 (.slice (some ⟨g, 0, none⟩) n n) n (madeCells u.cells (n * 1)).toList) : Cells g n (fun _ => u) w1 := by
  refine ⟨(h.lt g rfl).2, fun x hx => ⟨?_, h.frozenAt x⟩⟩
  rw [h.cellAt x (by omega)]
  simp [madeCells, hu, hx, Nat.mod_one]

/-- What all hold, as sets in a block g, boxed in bx. -/
structure Hv (w : World) (bx g : Nat) (f : Nat → Nat) (C : Cm) : Prop where
  box : w.cell? ⟨bx, 0, none⟩ = some (.slice (some ⟨g, 0, none⟩) C.length C.length)
  lt : bx < w.heap.size
  few : C.length ≤ 8
  row : Cells g C.length (fun x => .int .u32 (f x : Int)) w
  set : ∀ j, j < C.length → SetIs (f j) (hold C j)
theorem Hv.later {w w' : World} {bx g : Nat} {f : Nat → Nat} {C : Cm} (h : Hv w bx g f C) (hb : Below w.heap.size w w') : Hv w' bx g f C :=
  ⟨(hb.cell (p := ⟨bx, 0, none⟩) h.lt).trans h.box, Nat.lt_of_lt_of_le h.lt hb.size, h.few, h.row.later hb, h.set⟩
/-- The closure's value. -/
def holdV (bx : Nat) : Value := .func (.func 110) #[] #[.pointer (some ⟨bx, 0, none⟩)]
theorem holder1_any (bx g : Nat) (f : Nat → Nat) (C : Cm) (w : World) (h : Hv w bx g f C) (a : Nat) (ha : a < C.length) (z : Int) (hz : Zn z) :
    Calls Tryz.prog 110 #[.int .i64 (a : Int), .int .i64 z, .pointer (some ⟨bx, 0, none⟩)] w fun e w' => e = .returned (.bool (hb C a z)) ∧ w = w' := by
  obtain ⟨y, rfl⟩ := Int.eq_ofNat_of_zero_le hz.1
  have hy : y < 26 := by have := hz.2; omega
  have c0 := h.box
  have c1 : w.cell? ⟨g, a, none⟩ = some (.int .u32 (f a : Int)) := (h.row.2 a ha).1
  have hs := h.set a ha
  have hl := h.few
  have HB : Hid ((f a).testBit y = hb C a (y : Int)) := Lib.hid (by
    unfold hb
    have := hs.bit y hy
    cases e : (f a).testBit y with
    | true => rw [e] at this; rw [decide_eq_true (this.1 rfl)]
    | false => rw [e] at this; rw [decide_eq_false (fun h => by cases this.2 h)])
  have hlt := hs.lt
  clear hs hz
  generalize C.length = n at *
  generalize f a = N at *
  go_enter Tryz.func110, Tryz.ntmps110
  clear h
  go_wp2_with fail
  refine (has_any N y hlt hy _).mono ?_
  rintro e w' ⟨rfl, rfl⟩
  go_wp2_with fail
  go_ret
  exact ⟨ret_bool HB.out, rfl⟩

/-- What has been seen of the claims. -/
structure Seen (C : Cm) (j N : Nat) (f : Nat → Nat) : Prop where
  lt : N < 67108864
  all : ∀ z : Nat, z < 26 → (N.testBit z = true ↔ ∃ i, i < j ∧ (z : Int) ∈ hold C i)
  set : ∀ i, i < j → SetIs (f i) (hold C i)
  zones : ∀ i, i < j → (∀ z ∈ hold C i, Zn z) ∧ ∀ z ∈ need C i, Zn z
  apart : ∀ i k, i < j → k < j → i ≠ k → ∀ z ∈ hold C i, z ∉ hold C k
theorem Seen.start (C : Cm) (f : Nat → Nat) : Seen C 0 0 f := ⟨by decide, fun z hz => by simp, fun i hi => by omega, fun i hi => by omega, fun i k hi => by omega⟩
theorem Seen.clash {C : Cm} {j N M : Nat} {f : Nat → Nat} (h : Seen C j N f) (hM : SetIs M (hold C j)) (hne : N &&& M ≠ 0) : ∃ i z, i < j ∧ z ∈ hold C i ∧ z ∈ hold C j := by
  obtain ⟨z, hz⟩ := Nat.exists_testBit_of_ne_zero hne
  rw [Nat.testBit_and, Bool.and_eq_true] at hz
  have hz2 : z < 26 := by
    rcases Nat.lt_or_ge z 26 with q | q
    · exact q
    · have : N.testBit z = false := Nat.testBit_lt_two_pow (Nat.lt_of_lt_of_le h.lt (Nat.pow_le_pow_right (by decide) q : 2 ^ 26 ≤ 2 ^ z))
      rw [this] at hz; cases hz.1
  obtain ⟨i, hi, h1⟩ := (h.all z hz2).1 hz.1
  exact ⟨i, z, hi, h1, (hM.bit z hz2).1 hz.2⟩
theorem Seen.next {C : Cm} {j N M : Nat} {f : Nat → Nat} (h : Seen C j N f) (hM : SetIs M (hold C j)) (hz1 : ∀ z ∈ hold C j, Zn z) (hz2 : ∀ z ∈ need C j, Zn z) (h0 : N &&& M = 0) :
    Seen C (j + 1) (N ||| M) (fun i => if i = j then M else f i) := by
  have hno : ∀ i, i < j → ∀ z ∈ hold C i, z ∉ hold C j := fun i hi z hz hz' => by
    have hZ := hz1 z hz'
    obtain ⟨y, rfl⟩ := Int.eq_ofNat_of_zero_le hZ.1
    have hy : y < 26 := by have := hZ.2; omega
    have : (N &&& M).testBit y = true := by rw [Nat.testBit_and, (h.all y hy).2 ⟨i, hi, hz⟩, (hM.bit y hy).2 hz']; rfl
    rw [h0] at this; simp at this
  refine ⟨Nat.or_lt_two_pow (n := 26) h.lt hM.lt, fun z hz => ?_, fun i hi => ?_, fun i hi => ?_, fun i k hi hk hne => ?_⟩
  · rw [Nat.testBit_or, Bool.or_eq_true, h.all z hz, hM.bit z hz]
    constructor
    · rintro (⟨i, hi, h1⟩ | h1)
      · exact ⟨i, by omega, h1⟩
      · exact ⟨j, by omega, h1⟩
    · rintro ⟨i, hi, h1⟩
      rcases Nat.lt_succ_iff_lt_or_eq.1 hi with q | q
      · exact .inl ⟨i, q, h1⟩
      · subst q; exact .inr h1
  · by_cases e : i = j
    · subst e; simpa using hM
    · simpa [e] using h.set i (by omega)
  · by_cases e : i = j
    · subst e; exact ⟨hz1, hz2⟩
    · exact h.zones i (by omega)
  · by_cases e : i = j
    · subst e
      intro z hz hz'
      exact hno k (by omega) z hz' hz
    · by_cases e' : k = j
      · subst e'; exact hno i (by omega)
      · exact h.apart i k (by omega) (by omega) hne
theorem Seen.right {C : Cm} {N : Nat} {f : Nat → Nat} (h : Seen C C.length N f) (h8 : C.length ≤ 8) : Rg C := ⟨h8, h.zones, h.apart⟩
/-- Who holds what is told, of claims that are right. -/
def HolderTold (C : Cm) (w : World) (e : Ending) (w' : World) : Prop :=
  Below w.heap.size w w' ∧ ((¬ Rg C ∧ e = .returned (.tuple #[.nilFunc, .bool false])) ∨ (Rg C ∧ ∃ bx g f, e = .returned (.tuple #[holdV bx, .bool true]) ∧ Hv w' bx g f C))
theorem and_none (N M : Nat) (hN : N < 67108864) (hM : M < 67108864) : (bits BinOp.and IntKind.u32 (N : Int) (M : Int) != 0) = decide (N &&& M ≠ 0) := by
  rw [and_u32 N M (by omega) (by omega)]
  by_cases h : N &&& M = 0
  · rw [h]; rfl
  · rw [decide_eq_true h, bne_iff_ne]; omega
/-- The loop's state. -/
structure Hs (w : World) (bx n : Nat) (C : Cm) (j N : Nat) (wr : World) : Prop where
  below : Below w.heap.size w wr
  box : wr.cell? ⟨bx, 0, none⟩ = some (.slice (some ⟨w.heap.size, 0, none⟩) n n)
  lt : bx < wr.heap.size
  new : w.heap.size < bx
  ex : ∃ f, Cells w.heap.size n (fun x => .int .u32 ((if x < j then f x else 0 : Nat) : Int)) wr ∧ Seen C j N f
theorem Hs.later {w : World} {bx n : Nat} {C : Cm} {j N : Nat} {wr wr' : World} (h : Hs w bx n C j N wr) (hb : Below wr.heap.size wr wr') : Hs w bx n C j N wr' := by
  obtain ⟨h1, h2, h3, h0, f, h4, h5⟩ := h
  exact ⟨h1.trans (hb.mono h1.size), (hb.cell (p := ⟨bx, 0, none⟩) h3).trans h2, Nat.lt_of_lt_of_le h3 hb.size, h0, f, h4.later hb, h5⟩
theorem Hs.put {w : World} {bx n : Nat} {C : Cm} {j N M : Nat} {wr : World} (h : Hs w bx n C j N wr) (hj : j < n) (hM : SetIs M (hold C j)) (hz1 : ∀ z ∈ hold C j, Zn z) (hz2 : ∀ z ∈ need C j, Zn z) (h0 : N &&& M = 0) :
    Hs w bx n C (j + 1) (N ||| M) (wr.setCell ⟨w.heap.size, j, none⟩ (.int .u32 (M : Int))) := by
  obtain ⟨h1, h2, h3, h4, f, h5, h6⟩ := h
  refine ⟨h1.setCell (by simp) _, ?_, by simpa [World.setCell] using h3, h4, _, h5.put j _ hj (fun x hx => ?_), h6.next hM hz1 hz2 h0⟩
  · rw [World.cell?_setCell_other (h := (fun e => by have e : w.heap.size = bx := by simpa using congrArg Addr.block e
                                                     omega))]
    exact h2
  · by_cases e : x = j
    · subst e; simp
    · rw [if_neg e]
      by_cases e2 : x < j
      · rw [if_pos e2, if_pos (by omega), if_neg e]
      · rw [if_neg e2, if_neg (by omega), if_neg e]
set_option maxHeartbeats 2000000 in
theorem holder_any (A : Option Addr) (n cap : Nat) (C : Cm) (w : World) (h : Cl w.heap.size w A n cap C) : Calls Tryz.prog 78 #[.slice A n cap] w (HolderTold C w) := by
  have HC := Lib.hid h
  have hs := h.size
  have hs1 := hs.1
  have hs2 := hs.2
  have HN := Lib.hid h.len
  clear h hs
  obtain ⟨i0, hi, hz0, hz1, hz2⟩ := info_parts Tryz.infoZone8
  by_cases h8 : n ≤ 8
  · go_enter Tryz.func78, Tryz.ntmps78
    go_wp2_with (at_make; go_must (refine wpList_make_full _ rfl _ _ 153 rfl w.heap.size 152 i0 (.int .u32 0) 1 Tryz.underlying153 hi hz0 hz1 .i64 .i64 _ _ n rfl rfl rfl rfl (by rw [hz2]; omega) (by unfold maxLen; omega) (by simp) ?_); intro w1 ho1 hg1; have hA1 : Cells w.heap.size n (fun _ => .int .u32 0) w1 := (by have h := Cells.made rfl ho1; simpa using h); have hB1 : Below w.heap.size w w1 := (Below.grown (Below.refl _ w) hg1 (by simp) (fun k hk => by cases hk)); have HA1 := Lib.hid hA1; have HB1 := Lib.hid hB1; clear ho1 hg1 hA1 hB1)
    have HS1 : Hid (Hs w w1.heap.size n C 0 0 (w1.alloc (.cells #[.slice (some ⟨w.heap.size, 0, none⟩) n n] 153))) := Lib.hid
      ⟨HB1.out.trans ((Below.refl _ w1).alloc HB1.out.size _), by simp [World.cell?_alloc_new], by simp, HA1.out.1, fun _ => 0, (HA1.out.later ((Below.refl _ w1).alloc (Nat.le_refl _) _)).congr (fun x hx => by simp), Seen.start C _⟩
    clear hi hz0 hz1 hz2 HA1 HB1
    generalize w1.heap.size = bx at *
    generalize w1.alloc (.cells #[.slice (some ⟨w.heap.size, 0, none⟩) n n] 153) = w2 at *
    go_loopw [20, 4] (fun iv sv wr => ∃ j N : Nat, j ≤ n ∧ iv = .int .i64 (j : Int) ∧ sv = .int .u32 (N : Int) ∧ Hs w bx n C j N wr) (fun iv _ _ => n - (intOf iv).toNat)
    case atStart => exact ⟨0, 0, Nat.zero_le _, rfl, rfl, HS1.out⟩
    case round =>
      rename World => wr
      obtain ⟨j, N, hj, rfl, rfl, hS⟩ := hrel
      have HS := Lib.hid hS
      clear hS
      by_cases hlt : j < n
      · obtain ⟨g, off, a1, n1, c1, a2, n2, c2, rfl, hg, q1, q2, k1, k2⟩ := (HC.out.below HS.out.below).cell hlt
        have HS2 := Lib.hid (HS.out.later ((Below.refl wr.heap.size wr).alloc (Nat.le_refl _) (.cells #[.slice a1 n1 c1, .slice a2 n2 c2] 64)))
        have hb2 := (Below.refl w.heap.size wr).alloc HS.out.below.size (.cells #[.slice a1 n1 c1, .slice a2 n2 c2] 64)
        have K1 := Lib.hid (Gt.below k1 hb2)
        have K2 := Lib.hid (Gt.below k2 hb2)
        have d1 : (wr.alloc (.cells #[.slice a1 n1 c1, .slice a2 n2 c2] 64)).cell? ⟨wr.heap.size, 0, none⟩ = some (.slice a1 n1 c1) := by simp [World.cell?_alloc_new]
        have d2 : (wr.alloc (.cells #[.slice a1 n1 c1, .slice a2 n2 c2] 64)).cell? ⟨wr.heap.size, 1, none⟩ = some (.slice a2 n2 c2) := by simp [World.cell?_alloc_new]
        clear k1 k2 hb2
        go_wp2_with fail
        refine (setOf_any a1 n1 c1 _ (hold C j) _ K1.out).mono ?_
        rintro e w' ⟨rfl, hh⟩
        have HX : Hid (∀ (M : Nat), SetIs M (hold C j) → N &&& M ≠ 0 → ¬ Rg C) := Lib.hid (fun M hM hne hR => by
          obtain ⟨f, _, hf⟩ := HS.out.ex
          obtain ⟨i, z, hi, h1, h2⟩ := hf.clash hM hne
          exact hR.apart i j (by rw [HN.out]; omega) (by rw [HN.out]; omega) (by omega) z h1 h2)
        have hNlt : N < 67108864 := by obtain ⟨f, _, hf⟩ := HS.out.ex; exact hf.lt
        generalize wr.heap.size = sz at *
        generalize wr.alloc (.cells #[.slice a1 n1 c1, .slice a2 n2 c2] 64) = w3 at *
        clear q1 q2
        rcases hh with ⟨rfl, hno⟩ | ⟨M, rfl, hM, hz1⟩
        · have HR : Hid (¬ Rg C) := Lib.hid (fun h => hno (h.zones j (by rw [HN.out]; exact hlt)).1)
          clear hno
          go_wp2_with fail
          refine (setOf_any a2 n2 c2 _ (need C j) _ K2.out).mono ?_
          rintro e w' ⟨rfl, hh⟩
          rcases hh with ⟨rfl, _⟩ | ⟨M, rfl, _, _⟩
          · go_wp2_with fail
            go_ret2
            exact ⟨HS2.out.below, .inl ⟨HR.out, rfl⟩⟩
          · go_wp2_with fail
            go_ret2
            exact ⟨HS2.out.below, .inl ⟨HR.out, rfl⟩⟩
        · have HM := Lib.hid hM
          have hMlt := hM.lt
          have HZ1 := Lib.hid hz1
          clear hM hz1
          go_wp2_with fail
          refine (setOf_any a2 n2 c2 _ (need C j) _ K2.out).mono ?_
          rintro e w' ⟨rfl, hh⟩
          rcases hh with ⟨rfl, hno⟩ | ⟨M2, rfl, _, hz2⟩
          · have HR : Hid (¬ Rg C) := Lib.hid (fun h => hno (h.zones j (by rw [HN.out]; exact hlt)).2)
            clear hno
            go_wp2_with fail
            go_ret2
            exact ⟨HS2.out.below, .inl ⟨HR.out, rfl⟩⟩
          · have HZ2 := Lib.hid hz2
            clear hz2
            have hand := and_none N M hNlt hMlt
            by_cases h0 : N &&& M = 0
            · rw [show decide (N &&& M ≠ 0) = false by simp [h0]] at hand
              have HS3 := Lib.hid (HS2.out.put hlt HM.out HZ1.out HZ2.out h0)
              have hbox := HS2.out.box
              obtain ⟨f, hf, _⟩ := HS2.out.ex
              obtain ⟨e1, e2⟩ := hf.2 j hlt
              have hor := or_u32 N M (by omega) (by omega)
              clear hf h0 hNlt hMlt
              go_wp2_with fail
              go_roundw
              case rel => exact ⟨j + 1, N ||| M, by omega, by go_num, rfl, HS3.out⟩
              case measure => simp [intOf]; omega
            · rw [show decide (N &&& M ≠ 0) = true by simp [h0]] at hand
              have HR := Lib.hid (HX.out M HM.out h0)
              clear h0
              go_wp2_with fail
              go_ret2
              exact ⟨HS2.out.below, .inl ⟨HR.out, rfl⟩⟩
      · obtain rfl : j = n := by omega
        go_wp2_with fail
        go_ret2
        refine ⟨HS.out.below, .inr ?_⟩
        obtain ⟨f, hf, hS⟩ := HS.out.ex
        obtain rfl := HN.out
        exact ⟨hS.right h8, bx, w.heap.size, f, rfl, ⟨HS.out.box, HS.out.lt, h8, hf.congr (fun x hx => by simp [hx]), hS.set⟩⟩
  · have h8I : (8 : Int) < (n : Int) := by omega
    go_enter Tryz.func78, Tryz.ntmps78
    go_wp2_with fail
    go_ret2
    exact ⟨Below.refl _ _, .inl ⟨fun h => h8 (by rw [← HN.out]; exact h.few), rfl⟩⟩
end Go.Proofs.YtakgkocdkondhaaGreatDoor.Bk
end

section
namespace Go.Proofs.YtakgkocdkondhaaGreatDoor.Bk
open Go.RowKit

/-- The boxes of May's closure. -/
structure Mv (w : World) (b1 b2 b3 bx g : Nat) (f : Nat → Nat) (C : Cm) (who : Nat) (zone : Int) : Prop where
  lt : b1 < w.heap.size ∧ b2 < w.heap.size ∧ b3 < w.heap.size
  c1 : w.cell? ⟨b1, 0, none⟩ = some (.int .i64 (who : Int))
  c2 : w.cell? ⟨b2, 0, none⟩ = some (.int .i64 zone)
  c3 : w.cell? ⟨b3, 0, none⟩ = some (holdV bx)
  hv : Hv w bx g f C
theorem Mv.later {w w' : World} {b1 b2 b3 bx g : Nat} {f : Nat → Nat} {C : Cm} {who : Nat} {zone : Int} (h : Mv w b1 b2 b3 bx g f C who zone) (hb : Below w.heap.size w w') : Mv w' b1 b2 b3 bx g f C who zone :=
  ⟨⟨Nat.lt_of_lt_of_le h.lt.1 hb.size, Nat.lt_of_lt_of_le h.lt.2.1 hb.size, Nat.lt_of_lt_of_le h.lt.2.2 hb.size⟩, (hb.cell (p := ⟨b1, 0, none⟩) h.lt.1).trans h.c1, (hb.cell (p := ⟨b2, 0, none⟩) h.lt.2.1).trans h.c2, (hb.cell (p := ⟨b3, 0, none⟩) h.lt.2.2).trans h.c3, h.hv.later hb⟩
theorem may1_any (b1 b2 b3 bx g : Nat) (f : Nat → Nat) (C : Cm) (who : Nat) (zone : Int) (w : World) (h : Mv w b1 b2 b3 bx g f C who zone) (a : Nat) (ha : a < C.length) (z : Int) (hz : Zn z) :
    Calls Tryz.prog 81 #[.int .i64 (a : Int), .int .i64 z, .pointer (some ⟨b1, 0, none⟩), .pointer (some ⟨b2, 0, none⟩), .pointer (some ⟨b3, 0, none⟩)] w fun e w' => e = .returned (.bool (gv (hb C) who zone a z)) ∧ w = w' := by
  have c1 := h.c1
  have c2 := h.c2
  have c3 := h.c3
  have HH := Lib.hid (holder1_any bx g f C w h.hv a ha z hz)
  have hl := h.hv.few
  have ha8 : a < 8 := by omega
  unfold holdV at c3
  clear h ha hl
  by_cases h1 : a = who
  · subst h1
    have d1 : ((a : Int) == (a : Int)) = true := by simp
    by_cases h2 : z = zone
    · subst h2
      have d2 : (z == z) = true := by simp
      have HG : Hid (gv (hb C) a z a z = true) := Lib.hid (by simp [gv])
      go_enter Tryz.func81, Tryz.ntmps81
      go_wp2_with fail
      go_ret
      exact ⟨ret_bool HG.out.symm, rfl⟩
    · have d2 : (z == zone) = false := by rw [beq_eq_false_iff_ne]; exact h2
      have HG : Hid (gv (hb C) a zone a z = hb C a z) := Lib.hid (by simp [gv, h2])
      clear h2
      go_enter Tryz.func81, Tryz.ntmps81
      go_wp2_with fail
      refine (HH.out).mono ?_
      rintro e w' ⟨rfl, rfl⟩
      go_wp2_with fail
      go_ret
      exact ⟨ret_bool HG.out.symm, rfl⟩
  · have d1 : ((a : Int) == (who : Int)) = false := by rw [beq_eq_false_iff_ne]; omega
    have HG : Hid (gv (hb C) who zone a z = hb C a z) := Lib.hid (by simp [gv, h1])
    clear h1
    go_enter Tryz.func81, Tryz.ntmps81
    go_wp2_with fail
    refine (HH.out).mono ?_
    rintro e w' ⟨rfl, rfl⟩
    go_wp2_with fail
    go_ret
    exact ⟨ret_bool HG.out.symm, rfl⟩
end Go.Proofs.YtakgkocdkondhaaGreatDoor.Bk
end

section
namespace Go.Proofs.YtakgkocdkondhaaGreatDoor.Bk
open Go.RowKit Go.Maps

/-- A block of numbers' cells. -/
def Blk (w : World) (g : Nat) (X : List Value) : Prop := w.heap[g]? = some (.cells X.toArray 3 (0, 0))
theorem take_splice {α : Type} (X cs : List α) (o : Nat) (h : o ≤ X.length) : (splice X o cs).take o = X.take o := by
  unfold splice
  rw [List.take_append_of_le_length (by simp; omega), List.take_take, Nat.min_self]
theorem take_splice_end {α : Type} (X cs : List α) (o : Nat) (h : o ≤ X.length) : (splice X o cs).take (o + cs.length) = X.take o ++ cs := by
  unfold splice
  rw [← List.append_assoc, List.take_append_of_le_length (by simp; omega)]
  exact List.take_of_length_le (by simp; omega)
theorem splice_cons {α : Type} (X r : List α) (o : Nat) (v : α) (h : o < X.length) : splice (X.set o v) (o + 1) r = splice X o (v :: r) := by
  unfold splice
  have e1 : (X.set o v).take (o + 1) = X.take o ++ [v] := by
    rw [List.take_set, List.take_succ_eq_append_getElem h, List.set_append_right _ _ (by simp; omega)]
    simp [Nat.min_eq_left (Nat.le_of_lt h)]
  have e2 : (X.set o v).drop (o + 1 + r.length) = X.drop (o + (v :: r).length) := by
    rw [List.drop_set, if_pos (by omega)]
    congr 1
    simp; omega
  rw [e1, e2, List.append_assoc]
  rfl
theorem splice_nil {α : Type} (X : List α) (o : Nat) : splice X o [] = X := by simp [splice]
theorem Blk.setCells {g : Nat} : ∀ (news : List Value) (o : Nat) (X : List Value) (w : World), Blk w g X → o + news.length ≤ X.length → Blk (w.setCells g o news) g (splice X o news)
  | [], o, X, w, h, _ => by rw [splice_nil]; exact h
  | v :: r, o, X, w, h, hl => by
    simp only [List.length_cons] at hl
    have h1 : Blk (w.setCell ⟨g, o, none⟩ v) g (X.set o v) := by
      unfold Blk
      rw [heap_setCell_same w g o _ _ _ h]
      simp
    rw [← splice_cons X r o v (by omega)]
    exact Blk.setCells r (o + 1) (X.set o v) (w.setCell ⟨g, o, none⟩ v) h1 (by rw [List.length_set]; omega)
theorem setCells_turn (g : Nat) : ∀ (news : List Value) (o : Nat) (w : World), w.grownBy (w.setCells g o news) (some g)
  | [], o, w => ⟨rfl, rfl, rfl, Nat.le_refl _, fun _ _ _ => rfl⟩
  | v :: r, o, w => by
    have h1 := setCells_turn g r (o + 1) (w.setCell ⟨g, o, none⟩ v)
    have hz : (w.setCell ⟨g, o, none⟩ v).heap.size = w.heap.size := by simp [World.setCell]
    exact ⟨h1.os, h1.tape, h1.output, by have := h1.size; rw [hz] at this; exact this, fun k hk hne => (h1.block k (by rw [hz]; exact hk) hne).trans (Below.heap_setCell _ _ _ _ (fun e => hne (by rw [e])))⟩
theorem Blk.cell {w : World} {g : Nat} {X : List Value} (h : Blk w g X) (j : Nat) : w.cell? ⟨g, j, none⟩ = X[j]? ∧ w.frozen? ⟨g, j, none⟩ = false :=
  ⟨by rw [cell_of_row w g j _ _ _ h]; simp, frozen_of_row w g j _ _ h⟩
theorem Iw.blk {w : World} {base g n c : Nat} {L : List Int} (h : Iw w base (.slice (some ⟨g, 0, none⟩) n c) L) : base ≤ g ∧ ∃ X, Blk w g X ∧ n = L.length ∧ n ≤ c ∧ c ≤ maxLen ∧ X.length = c ∧ X.take L.length = ivs L := by
  unfold Iw at h
  rcases h.2 with ⟨q, h0⟩ | ⟨g', cap', cur, q, hg, hh, h1, h2, h3, h4⟩
  · cases q
  · injection q with q1 q2 q3
    injection q1 with q1
    injection q1 with q1
    subst q1 q3
    exact ⟨hg, cur.toList, by unfold Blk; simpa using hh, q2, by omega, h2, by simpa using h3, by simpa using h4⟩
theorem Iw.ofBlk {w : World} {base g c : Nat} {L : List Int} {X : List Value} (h : Blk w g X) (hb : base ≤ g) (hn : L.length ≤ c) (hc : c ≤ maxLen) (hX : X.length = c) (hT : X.take L.length = ivs L) : Iw w base (.slice (some ⟨g, 0, none⟩) L.length c) L :=
  ⟨by simp [ivs], .inr ⟨g, c, X.toArray, rfl, hb, h, hn, hc, by simpa using hX, by simpa using hT⟩⟩
theorem zero_ints (n : Nat) : (Builtin.zeroCells #[.int .i64 0] n).toList = List.replicate n (.int .i64 0) := by
  simp only [Builtin.zeroCells]
  apply List.ext_getElem
  · simp
  · intro i h1 h2
    simp [Nat.mod_one]
theorem run_clear_ints (w : World) (ty : TypeId) (g o n c : Nat) (X : List Value) (h : Blk w g X) (hn : 0 < n) (hf : o + n ≤ X.length) :
    (Builtin.clear_ #[46] ty #[.slice (some ⟨g, o, none⟩) n c]).run Tryz.prog w = .ok (.tuple #[]) (w.setCells g o (List.replicate n (.int .i64 0))) := by
  have hv : ∀ w, (zeroValue 3).run Tryz.prog w = .ok (.int .i64 0) w := fun w => by kernel_rfl
  have hzc := zero_ints n
  have hcells : (Value.int .i64 0).cells = #[.int .i64 0] := by kernel_rfl
  have hst := run_storeCells_cells (P := Tryz.prog) g o (List.replicate n (Value.int .i64 0)) 0 w (fun j hj => by
      rw [List.length_replicate] at hj
      rw [Nat.add_zero, (h.cell (o + j)).1, List.getElem?_eq_getElem (by omega)]; rfl) (fun j hj => (h.cell (o + 0 + j)).2) (by intro v hv'; rw [List.eq_of_mem_replicate hv']; rfl)
  simp only [Nat.add_zero] at hst
  obtain ⟨m, rfl⟩ : ∃ m, n = m + 1 := ⟨n - 1, by omega⟩
  simp [Builtin.clear_, run_underlying Tryz.underlying46, hv, hcells, hzc, hst]
theorem ivs_drop (L : List Int) (i : Nat) : ivs (L.drop i) = (ivs L).drop i := by simp [ivs]
theorem ivs_take (L : List Int) (i : Nat) : ivs (L.take i) = (ivs L).take i := by simp [ivs]
theorem ivs_app (L M : List Int) : ivs (L ++ M) = ivs L ++ ivs M := by simp [ivs]
set_option maxHeartbeats 2000000 in
/-- slices.Delete of some numbers of one's own. -/
theorem delete_any (base g c : Nat) (L : List Int) (i j n : Nat) (w : World) (h : Iw w base (.slice (some ⟨g, 0, none⟩) n c) L) (hij : i < j) (hjn : j ≤ n) (hn : L.length = n) (hl : L.length ≤ 100000) :
    Calls Tryz.prog 113 #[.slice (some ⟨g, 0, none⟩) n c, .int .i64 (i : Int), .int .i64 (j : Int)] w fun e w' => e = .returned (.slice (some ⟨g, 0, none⟩) (i + (n - j)) c) ∧ Iw w' base (.slice (some ⟨g, 0, none⟩) (i + (n - j)) c) (L.take i ++ L.drop j) ∧ w.grownBy w' (some g) := by
  obtain ⟨i0, hi, hz0, hz1, hz2⟩ := info_parts Tryz.infoInt8
  obtain ⟨hbg, X, hX, hnl, hlc, hcm, hXl, hXt⟩ := h.blk
  have hcm' := hcm
  unfold maxLen at hcm'
  have hijI : (i : Int) ≤ (j : Int) := by omega
  have dx : ((i : Int) == (j : Int)) = false := by rw [beq_eq_false_iff_ne]; omega
  have hjI : (j : Int) ≤ (n : Int) := by omega
  have hnc : (n : Int) ≤ (c : Int) := by omega
  have hic : i ≤ c := by omega
  have hjc : j ≤ c := by omega
  have hicI : (i : Int) ≤ (c : Int) := by omega
  have hjcI : (j : Int) ≤ (c : Int) := by omega
  obtain ⟨news, hnews⟩ : ∃ news, news = (ivs L).drop j := ⟨_, rfl⟩
  have hil : (ivs L).length = n := by simp [ivs, hn]
  have hlen : news.length = (n - j) * 1 := by rw [hnews, List.length_drop, hil]; omega
  have hget : ∀ t u, news[t]? = some u → X[j + t]? = some u := fun t u hu => by
    have ht : t < (n - j) * 1 := by have := (List.getElem?_eq_some_iff.1 hu).1; omega
    rw [hnews, List.getElem?_drop, ← hXt, List.getElem?_take, if_pos (by omega)] at hu
    exact hu
  obtain ⟨ad, had, hsrc⟩ : ∃ ad : Addr, (if c = j then (some ⟨g, 0, none⟩ : Option Addr) else some ⟨g, j, none⟩) = some ad ∧ Hid (∀ t u, news[t]? = some u → w.drew.cell? (ad.add t) = some u) := by
    by_cases e : c = j
    · refine ⟨⟨g, 0, none⟩, by simp [e], fun t u hu => ?_⟩
      have ht : t < (n - j) * 1 := by have := (List.getElem?_eq_some_iff.1 hu).1; omega
      omega
    · refine ⟨⟨g, j, none⟩, by simp [e], fun t u hu => ?_⟩
      rw [add_at]
      exact ((hX.cell _).1).trans (hget t u hu)
  have s1 := Lib.hid hlen
  have s2 : Hid (∀ u ∈ news, u.oneCell' = true) := Lib.hid (fun u hu => ivs_one L u (by rw [hnews] at hu; exact List.mem_of_mem_drop hu))
  have s3 : Hid (∀ t, t < news.length → (w.drew.cell? ⟨g, 0 + i * 1 + t, none⟩).isSome = true ∧ w.drew.frozen? ⟨g, 0 + i * 1 + t, none⟩ = false) := Lib.hid (fun t ht => by
    rw [hlen] at ht
    refine ⟨?_, (hX.cell _).2⟩
    show (w.cell? _).isSome = true
    rw [(hX.cell _).1, List.getElem?_eq_getElem (by omega)]; rfl)
  obtain ⟨W1, hW1⟩ : ∃ W1, W1 = w.drew.setCells g (0 + i * 1) news := ⟨_, rfl⟩
  have hX1 : Blk W1 g (splice X i news) := by
    rw [hW1, Nat.zero_add, Nat.mul_one]
    exact Blk.setCells news i X w.drew hX (by omega)
  have hG1 : w.grownBy W1 (some g) := by
    rw [hW1]
    have := setCells_turn g news (0 + i * 1) w.drew
    exact ⟨this.os, this.tape, this.output, this.size, this.block⟩
  have hL1 : (splice X i news).length = c := by rw [length_splice _ _ _ (by omega), hXl]
  have hcl : ∀ ty cc, (Builtin.clear_ #[46] ty #[.slice (some ⟨g, i + (n - j), none⟩) (n - (i + (n - j))) cc]).run Tryz.prog W1 = .ok (.tuple #[]) (W1.setCells g (i + (n - j)) (List.replicate (n - (i + (n - j))) (.int .i64 0))) := fun ty cc =>
    run_clear_ints W1 ty g (i + (n - j)) (n - (i + (n - j))) cc _ hX1 (by omega) (by rw [hL1]; omega)
  obtain ⟨W2, hW2⟩ : ∃ W2, W2 = W1.setCells g (i + (n - j)) (List.replicate (n - (i + (n - j))) (.int .i64 0)) := ⟨_, rfl⟩
  rw [← hW2] at hcl
  have hX2 : Blk W2 g (splice (splice X i news) (i + (n - j)) (List.replicate (n - (i + (n - j))) (.int .i64 0))) := by
    rw [hW2]
    exact Blk.setCells _ _ _ W1 hX1 (by rw [hL1, List.length_replicate]; omega)
  have hG2 : w.grownBy W2 (some g) := by
    have := setCells_turn g (List.replicate (n - (i + (n - j))) (.int .i64 0)) (i + (n - j)) W1
    rw [← hW2] at this
    exact ⟨this.os.trans hG1.os, this.tape.trans hG1.tape, this.output.trans hG1.output, Nat.le_trans hG1.size this.size, fun k hk hne => (this.block k (Nat.lt_of_lt_of_le hk hG1.size) hne).trans (hG1.block k hk hne)⟩
  have hll : (L.take i ++ L.drop j).length = i + (n - j) := by simp; omega
  have HW2 : Hid (Iw W2 base (.slice (some ⟨g, 0, none⟩) (i + (n - j)) c) (L.take i ++ L.drop j) ∧ w.grownBy W2 (some g)) := Lib.hid (by
    refine ⟨?_, hG2⟩
    have := Iw.ofBlk (L := L.take i ++ L.drop j) (c := c) (base := base) hX2 hbg (by rw [hll]; omega) hcm (by rw [length_splice _ _ _ (by rw [hL1, List.length_replicate]; omega), hL1]) (by
      rw [hll, take_splice _ _ _ (by rw [hL1]; omega), show i + (n - j) = i + news.length by rw [hlen]; omega, take_splice_end _ _ _ (by omega), ivs_app, ivs_take, ivs_drop, ← hnews, ← hXt, List.take_take, Nat.min_eq_left (by omega)])
    rw [hll] at this
    exact this)
  have hW : Hid (W1 = w.drew.setCells g (0 + i * 1) news) := Lib.hid hW1
  have hne2 : ¬ c = i + (n - j) := by omega
  clear h hX hXl hXt hget hlen hnews hW1 hX1 hG1 hL1 hX2 hG2 hll hW2 hnl hn hz0 hz2 hcm hil
  go_enter Tryz.func113, Tryz.ntmps113
  go_wp2_with fail
  go_region_law (refine step_append_room rfl (.tmp 22) (.tmp 25) 46 rfl 3 i0 1 Tryz.underlying46 hi hz1 g 0 i c (by simp [Act.eval, Act.put]) ad (n - j) (c - j) news (by simp [Act.eval, Act.put]) s1.out hsrc.out s2.out (by omega) s3.out ?_; rw [← hW.out])
  go_wp2_with fail
  go_ret
  exact ⟨rfl, HW2.out⟩
end Go.Proofs.YtakgkocdkondhaaGreatDoor.Bk
end

section
namespace Go.Proofs.YtakgkocdkondhaaGreatDoor.Bk
open Go.RowKit

/-- Places as numbers. -/
def nz (S : List Nat) : List Int := S.map fun n : Nat => (n : Int)
theorem nz_length (S : List Nat) : (nz S).length = S.length := by simp [nz]
theorem nz_get {S : List Nat} {j : Nat} (h : j < S.length) : (nz S).getD j 0 = ((S.getD j 0 : Nat) : Int) := by simp [nz, List.getD, List.getElem?_eq_getElem h]
theorem getD_mem {α : Type} {L : List α} {d : α} {j : Nat} (h : j < L.length) : L.getD j d ∈ L := by rw [List.getD, List.getElem?_eq_getElem h]; exact List.getElem_mem _
theorem mem_getD {α : Type} {L : List α} {d x : α} (h : x ∈ L) : ∃ j, j < L.length ∧ L.getD j d = x := by
  obtain ⟨j, hj, rfl⟩ := List.getElem_of_mem h
  exact ⟨j, hj, by rw [List.getD, List.getElem?_eq_getElem hj]; rfl⟩
/-- Who can be next is told. -/
def NextTold (nd : Nat → List Int) (hd : Nat → Int → Bool) (S : List Nat) (w : World) (e : Ending) (w' : World) : Prop :=
  w = w' ∧ ((e = .returned (.tuple #[.int .i64 0, .bool false]) ∧ S.findIdx? (can nd hd S) = none) ∨ ∃ i : Nat, e = .returned (.tuple #[.int .i64 (i : Int), .bool true]) ∧ S.findIdx? (can nd hd S) = some i ∧ i < S.length)
theorem find_none {p : Nat → Bool} {S : List Nat} (h : ∀ t, t < S.length → p (S.getD t 0) = false) : S.findIdx? p = none := by
  rw [List.findIdx?_eq_none_iff]
  intro x hx
  obtain ⟨j, hj, rfl⟩ := mem_getD (d := 0) hx
  exact h j hj
theorem find_some {p : Nat → Bool} {S : List Nat} {i : Nat} (hi : i < S.length) (h1 : p (S.getD i 0) = true) (h : ∀ t, t < i → p (S.getD t 0) = false) : S.findIdx? p = some i := by
  rw [List.findIdx?_eq_some_iff_getElem]
  refine ⟨hi, by rw [List.getD, List.getElem?_eq_getElem hi] at h1; exact h1, fun j hj => ?_⟩
  have := h j hj
  rw [List.getD, List.getElem?_eq_getElem (by omega)] at this
  simpa using this

/-- The closure tells it. -/
def AskH (w : World) (bx : Nat) (hd : Nat → Int → Bool) (m : Nat) : Prop := ∀ a : Nat, a < m → ∀ z : Int, Zn z → Calls Tryz.prog 110 #[.int .i64 (a : Int), .int .i64 z, .pointer (some ⟨bx, 0, none⟩)] w fun e w' => e = .returned (.bool (hd a z)) ∧ w = w'
/-- The closure tells it. -/
def AskM (w : World) (b1 b2 b3 : Nat) (hd : Nat → Int → Bool) (m : Nat) : Prop := ∀ a : Nat, a < m → ∀ z : Int, Zn z → Calls Tryz.prog 81 #[.int .i64 (a : Int), .int .i64 z, .pointer (some ⟨b1, 0, none⟩), .pointer (some ⟨b2, 0, none⟩), .pointer (some ⟨b3, 0, none⟩)] w fun e w' => e = .returned (.bool (hd a z)) ∧ w = w'
set_option maxHeartbeats 4000000 in
theorem nextM_any (b1 b2 b3 : Nat) (hd : Nat → Int → Bool) (A : Option Addr) (n cap : Nat) (C : Cm) (A2 : Option Addr) (n2 c2 : Nat) (S : List Nat) (w : World) (hC : Cl w.heap.size w A n cap C) (hn : n ≤ 8) (hz : ∀ a, a < n → ∀ z ∈ need C a, Zn z)
    (hS : Lt w.heap.size w A2 n2 c2 (nz S)) (hlt : ∀ a ∈ S, a < n) (h8 : n2 ≤ 8) (hA : AskM w b1 b2 b3 hd n) :
    Calls Tryz.prog 112 #[.slice A n cap, .slice A2 n2 c2, .func (.func 81) #[] #[.pointer (some ⟨b1, 0, none⟩), .pointer (some ⟨b2, 0, none⟩), .pointer (some ⟨b3, 0, none⟩)]] w (NextTold (need C) hd S w) := by
  have HC := Lib.hid hC
  have HS := Lib.hid hS
  have HA := Lib.hid hA
  have HZ := Lib.hid hz
  have HL := Lib.hid hlt
  have HN : Hid (S.length = n2) := Lib.hid (by have := hS.len; rwa [nz_length] at this)
  clear hC hz hS hlt hA
  go_enter Tryz.func112, Tryz.ntmps112
  go_wp2_with fail
  go_step3
  go_wp2_with fail
  go_step3
  go_wp2_with fail
  go_loop [16] (fun iv => ∃ j : Nat, j ≤ n2 ∧ iv = .int .i64 (j : Int) ∧ Hid (∀ t, t < j → can (need C) hd S (S.getD t 0) = false)) (fun iv => n2 - (intOf iv).toNat)
  case atStart => exact ⟨0, Nat.zero_le _, rfl, Lib.hid (fun t ht => by omega)⟩
  case round =>
    obtain ⟨j, hj, rfl, HJ⟩ := hrel
    by_cases hlt : j < n2
    · obtain ⟨g2, o2, rfl, hg2, q1⟩ := HS.out.cell hlt
      rw [nz_get (by rw [HN.out]; exact hlt)] at q1
      have HM : Hid (S.getD j 0 ∈ S) := Lib.hid (getD_mem (by rw [HN.out]; exact hlt))
      have hwho := HL.out _ HM.out
      obtain ⟨who, hwe⟩ : ∃ who, who = S.getD j 0 := ⟨_, rfl⟩
      rw [← hwe] at q1 HM hwho
      have HW := Lib.hid hwe
      clear hwe
      obtain ⟨g, off, a1, n1, c1, a3, n3, c3, rfl, hg, q2, q3, k1, k2⟩ := HC.out.cell hwho
      have HK := Lib.hid k2
      have HLN := Lib.hid k2.len
      have hs3 := Gt.size k2
      have hs31 := hs3.1
      have hs32 := hs3.2
      clear k1 k2 hs3 q2
      go_wp2_with fail
      go_loop [27] (fun iv => ∃ k : Nat, k ≤ n3 ∧ iv = .int .i64 (k : Int) ∧ Hid (∀ t, t < k → ∀ b ∈ S, b ≠ who → hd b ((need C who).getD t 0) = false)) (fun iv => n3 - (intOf iv).toNat)
      case atStart => exact ⟨0, Nat.zero_le _, rfl, Lib.hid (fun t ht => by omega)⟩
      case round =>
        obtain ⟨k, hk, rfl, HI⟩ := hrel
        by_cases hlt3 : k < n3
        · obtain ⟨g3, o3, rfl, hg3, q4⟩ := HK.out.cell hlt3
          have HZM : Hid ((need C who).getD k 0 ∈ need C who) := Lib.hid (getD_mem (by rw [HLN.out]; exact hlt3))
          obtain ⟨z, hze⟩ : ∃ z, z = (need C who).getD k 0 := ⟨_, rfl⟩
          rw [← hze] at q4 HZM
          have HZE := Lib.hid hze
          have HZZ := Lib.hid (HZ.out who hwho z HZM.out)
          clear hze
          go_wp2_with fail
          go_loop [33] (fun iv => ∃ l : Nat, l ≤ n2 ∧ iv = .int .i64 (l : Int) ∧ Hid (∀ t, t < l → S.getD t 0 ≠ who → hd (S.getD t 0) z = false)) (fun iv => n2 - (intOf iv).toNat)
          case atStart => exact ⟨0, Nat.zero_le _, rfl, Lib.hid (fun t ht => by omega)⟩
          case round =>
            obtain ⟨l, hl, rfl, HO⟩ := hrel
            by_cases hlt4 : l < n2
            · obtain ⟨g4, o4, e4, hg4, q5⟩ := HS.out.cell hlt4
              injection e4 with e4
              injection e4 with e5 e6
              subst e5 e6
              rw [nz_get (by rw [HN.out]; exact hlt4)] at q5
              have HM4 : Hid (S.getD l 0 ∈ S) := Lib.hid (getD_mem (by rw [HN.out]; exact hlt4))
              have hot := HL.out _ HM4.out
              obtain ⟨ot, hoe⟩ : ∃ ot, ot = S.getD l 0 := ⟨_, rfl⟩
              rw [← hoe] at q5 HM4 hot
              have HOE := Lib.hid hoe
              clear hoe
              by_cases he : ot = who
              · have hd1 : ((ot : Int) != (who : Int)) = false := by rw [bne_eq_false_iff_eq]; omega
                have HE := Lib.hid he
                clear he
                go_wp2_with fail
                go_round
                case rel => exact ⟨l + 1, by omega, by go_num, Lib.hid (fun t ht hne => by
                  rcases Nat.lt_succ_iff_lt_or_eq.1 ht with h | h
                  · exact HO.out t h hne
                  · subst h; exact absurd (HOE.out.symm.trans HE.out) hne)⟩
                case measure => simp [intOf]; omega
              · have hd1 : ((ot : Int) != (who : Int)) = true := by rw [bne_iff_ne]; omega
                have HE := Lib.hid he
                have HQ := Lib.hid (HA.out ot hot z HZZ.out)
                clear he
                cases hb : hd ot z with
                | false =>
                  have HB := Lib.hid hb
                  rw [hb] at HQ
                  clear hb
                  go_wp2_with fail
                  refine HQ.out.mono ?_
                  rintro e w' ⟨rfl, rfl⟩
                  go_wp2_with fail
                  go_round
                  case rel => exact ⟨l + 1, by omega, by go_num, Lib.hid (fun t ht hne => by
                    rcases Nat.lt_succ_iff_lt_or_eq.1 ht with h | h
                    · exact HO.out t h hne
                    · subst h; rw [← HOE.out]; exact HB.out)⟩
                  case measure => simp [intOf]; omega
                | true =>
                  have HB := Lib.hid hb
                  rw [hb] at HQ
                  clear hb
                  go_wp2_with fail
                  refine HQ.out.mono ?_
                  rintro e w' ⟨rfl, rfl⟩
                  go_wp2_with fail
                  go_round
                  case rel => exact ⟨j + 1, by omega, by go_num, Lib.hid (fun t ht => by
                    rcases Nat.lt_succ_iff_lt_or_eq.1 ht with h | h
                    · exact HJ.out t h
                    · subst h
                      rw [← HW.out, Bool.eq_false_iff]
                      intro hc
                      have := can_iff.1 hc z HZM.out ot HM4.out HE.out
                      rw [HB.out] at this; cases this)⟩
                  case measure => simp [intOf]; omega
            · obtain rfl : l = n2 := by omega
              go_wp2_with fail
              go_round
              case rel => exact ⟨k + 1, by omega, by go_num, Lib.hid (fun t ht b hb hne => by
                rcases Nat.lt_succ_iff_lt_or_eq.1 ht with h | h
                · exact HI.out t h b hb hne
                · subst h
                  obtain ⟨i, hi, rfl⟩ := mem_getD (d := 0) hb
                  rw [← HZE.out]
                  exact HO.out i (by rw [← HN.out]; exact hi) hne)⟩
              case measure => simp [intOf]; omega
        · obtain rfl : k = n3 := by omega
          have HCAN : Hid (can (need C) hd S (S.getD j 0) = true) := Lib.hid (by
            rw [← HW.out, can_iff]
            intro z hz b hb hne
            obtain ⟨i, hi, rfl⟩ := mem_getD (d := 0) hz
            exact HI.out i (by rw [← HLN.out]; exact hi) b hb hne)
          go_wp2_with fail
          try rw [Exit.noGoto_ret]
          go_ret2
          exact ⟨rfl, .inr ⟨j, rfl, find_some (by rw [HN.out]; exact hlt) HCAN.out HJ.out, by rw [HN.out]; exact hlt⟩⟩
    · obtain rfl : j = n2 := by omega
      go_wp2_with fail
      try rw [Exit.noGoto_ret]
      go_ret2
      exact ⟨rfl, .inl ⟨rfl, find_none (fun t ht => HJ.out t (by rw [← HN.out]; exact ht))⟩⟩
end Go.Proofs.YtakgkocdkondhaaGreatDoor.Bk
end

section
namespace Go.Proofs.YtakgkocdkondhaaGreatDoor.Bk
open Go.RowKit Go.Maps

def lenV : Value → Nat
  | .slice _ n _ => n
  | _ => 0
theorem Iw.other {w w' : World} {base g : Nat} {v : Value} {L : List Int} (h : Iw w base v L) (hg : w.grownBy w' (some g)) (hv : v.ownBlock ≠ some g) : Iw w' base v L :=
  ownsRow_same h (fun k hk => hg.block k (World.ownsRow.lt h k hk).2 (fun e => hv (by rw [hk, e])))
theorem delete1_any (base g c : Nat) (S : List Nat) (i n : Nat) (w : World) (h : Iw w base (.slice (some ⟨g, 0, none⟩) n c) (nz S)) (hi : i < n) (hn : S.length = n) (hl : n ≤ 8) :
    Calls Tryz.prog 113 #[.slice (some ⟨g, 0, none⟩) n c, .int .i64 (i : Int), .int .i64 ((i : Int) + 1)] w fun e w' => e = .returned (.slice (some ⟨g, 0, none⟩) (n - 1) c) ∧ Iw w' base (.slice (some ⟨g, 0, none⟩) (n - 1) c) (nz (S.eraseIdx i)) ∧ w.grownBy w' (some g) := by
  have h1 := delete_any base g c (nz S) i (i + 1) n w h (by omega) (by omega) (by rw [nz_length]; exact hn) (by rw [nz_length]; omega)
  have e : i + (n - (i + 1)) = n - 1 := by omega
  have e2 : (nz S).take i ++ (nz S).drop (i + 1) = nz (S.eraseIdx i) := by
    rw [List.eraseIdx_eq_take_drop_succ]; simp [nz]
  rw [e, e2] at h1
  exact h1
/-- The places so far, nothing behind them. -/
def fil (n j : Nat) : List Int := nz (List.range j) ++ List.replicate (n - j) 0
theorem fil_length {n j : Nat} (h : j ≤ n) : (fil n j).length = n := by simp [fil, nz]; omega
theorem fil_all (n : Nat) : fil n n = nz (List.range n) := by simp [fil]
theorem fil_put {n j : Nat} (h : j < n) : (ivs (fil n j)).set j (.int .i64 (j : Int)) = ivs (fil n (j + 1)) := by
  unfold ivs fil nz
  rw [List.range_succ, List.map_append, List.map_append, List.map_append, List.map_append]
  rw [List.set_append_right _ _ (by simp)]
  have e : n - j = (n - (j + 1)) + 1 := by omega
  simp [e, List.replicate_succ]
theorem made_fil {w1 : World} {base g n : Nat} (h : w1.ownsRow base 3 1 (.slice (some ⟨g, 0, none⟩) n n) n (madeCells (Value.int .i64 0).cells (n * 1)).toList) : Iw w1 base (.slice (some ⟨g, 0, none⟩) n n) (fil n 0) := by
  unfold Iw
  rw [fil_length (Nat.zero_le _)]
  have e : (madeCells (Value.int .i64 0).cells (n * 1)).toList = ivs (fil n 0) := by
    have hc : (Value.int .i64 0).cells = #[.int .i64 0] := by kernel_rfl
    apply List.ext_getElem
    · simp [madeCells, fil, nz, ivs]
    · intro i h1 h2
      simp [madeCells, hc, fil, nz, ivs, Nat.mod_one]
  rw [e] at h
  exact h
theorem blk_fil {w1 : World} {base g n j : Nat} (h : Iw w1 base (.slice (some ⟨g, 0, none⟩) n n) (fil n j)) (hj : j ≤ n) : Blk w1 g (ivs (fil n j)) := by
  obtain ⟨_, X, hX, _, _, _, hXl, hXt⟩ := h.blk
  rw [← hXt, List.take_of_length_le (by rw [fil_length hj, hXl]; exact Nat.le_refl _)]; exact hX
theorem fil_blk {w1 : World} {base g n : Nat} (h : Blk w1 g (ivs (fil n n))) (hb : base ≤ g) (hn : n ≤ 8) : Iw w1 base (.slice (some ⟨g, 0, none⟩) n n) (nz (List.range n)) := by
  rw [fil_all] at h
  have := Iw.ofBlk (L := nz (List.range n)) (c := n) (X := ivs (nz (List.range n))) (base := base) h hb (by simp [nz]) (by unfold maxLen; omega) (by simp [ivs, nz]) (List.take_of_length_le (by simp [ivs, nz]))
  rwa [nz_length, List.length_range] at this
/-- An order is told. -/
def OrderTold (nd : Nat → List Int) (hd : Nat → Int → Bool) (n : Nat) (w : World) (e : Ending) (w' : World) : Prop :=
  Below w.heap.size w w' ∧ ((e = .returned (.tuple #[.slice none 0 0, .bool false]) ∧ ord nd hd n (List.range n) = none) ∨ ∃ A m c o, e = .returned (.tuple #[.slice A m c, .bool true]) ∧ m = o.length ∧ ord nd hd n (List.range n) = some o ∧ Iw w' w.heap.size (.slice A m c) (nz o))
/-- The search under way. -/
structure Os (nd : Nat → List Int) (hd : Nat → Int → Bool) (n : Nat) (w : World) (gl cl m : Nat) (vd : Value) (S D : List Nat) (wr : World) : Prop where
  below : Below w.heap.size w wr
  left : Iw wr w.heap.size (.slice (some ⟨gl, 0, none⟩) m cl) (nz S)
  done : Iw wr w.heap.size vd (nz D)
  apart : vd.ownBlock ≠ some gl
  len : S.length = m
  few : m + D.length = n
  lt : ∀ a ∈ S, a < n
  ord : ord nd hd n (List.range n) = (Bk.ord nd hd m S).map (D ++ ·)

set_option maxHeartbeats 4000000 in
theorem orderM_any (b1 b2 b3 : Nat) (hd : Nat → Int → Bool) (A : Option Addr) (n cap : Nat) (C : Cm) (w : World) (hC : Cl w.heap.size w A n cap C) (hn : n ≤ 8) (hz : ∀ a, a < n → ∀ z ∈ need C a, Zn z)
    (hA : ∀ wx, Below w.heap.size w wx → AskM wx b1 b2 b3 hd n) :
    Calls Tryz.prog 80 #[.slice A n cap, .func (.func 81) #[] #[.pointer (some ⟨b1, 0, none⟩), .pointer (some ⟨b2, 0, none⟩), .pointer (some ⟨b3, 0, none⟩)]] w (OrderTold (need C) hd n w) := by
  have HC := Lib.hid hC
  have HA := Lib.hid hA
  have HZ := Lib.hid hz
  clear hC hz hA
  obtain ⟨i0, hi, hz0, hz1, hz2⟩ := info_parts Tryz.infoInt8
  go_enter Tryz.func80, Tryz.ntmps80
  go_wp2_with (at_make; go_must (refine wpList_make_full _ rfl _ _ 46 rfl w.heap.size 3 i0 (.int .i64 0) 1 Tryz.underlying46 hi hz0 hz1 .i64 .i64 _ _ n rfl rfl rfl rfl (by rw [hz2]; omega) (by unfold maxLen; omega) (by simp) ?_); intro w1 ho1 hg1; have hO1 := made_fil ho1; have hB1 : Below w.heap.size w w1 := (Below.grown (Below.refl _ w) hg1 (by simp) (fun k hk => by cases hk)); have HO1 := Lib.hid hO1; have HB1 := Lib.hid hB1; clear ho1 hg1 hO1 hB1)
  clear hi hz0 hz1 hz2
  have HK1 : Hid (Blk w1 w.heap.size (ivs (fil n 0)) ∧ Below w.heap.size w w1) := Lib.hid ⟨blk_fil HO1.out (Nat.zero_le _), HB1.out⟩
  clear HO1 HB1
  go_loopw [16] (fun iv wr => ∃ j : Nat, j ≤ n ∧ iv = .int .i64 (j : Int) ∧ Hid (Blk wr w.heap.size (ivs (fil n j)) ∧ Below w.heap.size w wr)) (fun iv _ => n - (intOf iv).toNat)
  case atStart => exact ⟨0, Nat.zero_le _, rfl, HK1⟩
  case round =>
    rename World => wr
    obtain ⟨j, hj, rfl, HJ⟩ := hrel
    by_cases hlt : j < n
    · have hcj : wr.cell? ⟨w.heap.size, j, none⟩ = some (.int .i64 ((fil n j).getD j 0)) := by rw [(HJ.out.1.cell j).1, ivs_get (by rw [fil_length hj]; exact hlt)]
      have hfj := (HJ.out.1.cell j).2
      generalize (fil n j).getD j 0 = x at hcj
      have HN : Hid (Blk (wr.setCell ⟨w.heap.size, j, none⟩ (.int .i64 (j : Int))) w.heap.size (ivs (fil n (j + 1))) ∧ Below w.heap.size w (wr.setCell ⟨w.heap.size, j, none⟩ (.int .i64 (j : Int)))) := Lib.hid ⟨by
        rw [← fil_put hlt]
        have := Blk.setCells [.int .i64 (j : Int)] j _ wr HJ.out.1 (by simp [ivs, fil_length hj]; omega)
        rwa [← splice_cons _ _ _ _ (by simp [ivs, fil_length hj]; omega), splice_nil] at this, HJ.out.2.setCell (by simp) _⟩
      go_wp2_with fail
      go_roundw
      case rel => exact ⟨j + 1, by omega, by go_num, HN⟩
      case measure => simp [intOf]; omega
    · obtain rfl : j = n := by omega
      have HS0 : Hid (Os (need C) hd j w w.heap.size j j (.slice none 0 0) (List.range j) [] wr) := Lib.hid ⟨HJ.out.2, fil_blk HJ.out.1 (Nat.le_refl _) hn, Iw.nil _ _, by simp [Value.ownBlock], by simp, by simp, fun a ha => by simpa using ha, by simp⟩
      clear HK1 HJ
      go_wp2_with fail
      go_loopw [6, 7] (fun dv lv wy => ∃ (gl cl m : Nat) (S D : List Nat) (Ad : Option Addr) (nd cd : Nat), dv = .slice Ad nd cd ∧ lv = .slice (some ⟨gl, 0, none⟩) m cl ∧ Hid (Os (need C) hd j w gl cl m (.slice Ad nd cd) S D wy)) (fun _ lv _ => lenV lv)
      case atStart => exact ⟨_, _, _, _, _, _, _, _, rfl, rfl, HS0⟩
      case round =>
        rename World => wy
        obtain ⟨gl, cl, m, S, D, Ad, nd, cd, rfl, rfl, HS⟩ := hrel
        have hsm := HS.out.few
        have hsz := Gt.size (HS.out.left.lt.2)
        have hsz1 := hsz.1
        have hsz2 := hsz.2
        by_cases hm : 0 < m
        · have hm8 : m ≤ 8 := by omega
          go_wp2_with fail
          refine (nextM_any b1 b2 b3 hd A j cap C _ m cl S wy ((HC.out.below HS.out.below).raise HS.out.below.size) hn HZ.out HS.out.left.lt.2 HS.out.lt hm8 (HA.out _ HS.out.below)).mono ?_
          rintro e w' ⟨rfl, hh⟩
          rcases hh with ⟨rfl, hno⟩ | ⟨i, rfl, hf, hil⟩
          · have HNO : Hid (ord (need C) hd j (List.range j) = none) := Lib.hid (by
              rw [HS.out.ord]
              obtain ⟨m', rfl⟩ : ∃ m', m = m' + 1 := ⟨m - 1, by omega⟩
              simp [ord, hno])
            clear hno
            go_wp2_with fail
            go_ret2
            exact ⟨HS.out.below, .inl ⟨rfl, HNO.out⟩⟩
          · have him : i < m := by rw [HS.out.len] at hil; exact hil
            obtain ⟨g9, o9, e9, hg9, q1⟩ := HS.out.left.lt.2.cell him
            injection e9 with e9
            injection e9 with e10 e11
            subst e10 e11
            rw [nz_get hil, Nat.zero_add] at q1
            obtain ⟨x, hx⟩ : ∃ x, x = S.getD i 0 := ⟨_, rfl⟩
            rw [← hx] at q1
            have HX := Lib.hid hx
            have HF := Lib.hid hf
            have HIL := Lib.hid hil
            have hDl : D.length + 1 ≤ 8 := by omega
            have hbas := HS.out.below.size
            clear hx hf hil hg9
            go_wp2_with (at_builtin; go_loud (refine app_ints rfl _ _ rfl w.heap.size (.slice Ad nd cd) (nz D) rfl (Iw.later HS.out.done ((Below.refl _ _).alloc (Nat.le_refl _) _)) (some ⟨wy.heap.size, 0, none⟩) 1 1 [(x : Int)] rfl (Lt.one wy (x : Int)) (by rw [nz_length]; omega) (by simp; omega) ?_; intro A' n' c' w2 hn2 ho2 hb2 hg2 hd2; have HO2 := Lib.hid ho2; have HB2 := Lib.hid hb2; have HG2 := Lib.hid hg2; have HD2 := Lib.hid hd2; have HN2 := Lib.hid hn2; clear ho2 hb2 hg2 hd2 hn2))
            have hsz9 : gl < wy.heap.size := (World.ownsRow.lt HS.out.left gl rfl).2
            have HS2 : Hid (Iw w2 w.heap.size (.slice (some ⟨gl, 0, none⟩) m cl) (nz S)) := Lib.hid (by
              refine ownsRow_same HS.out.left (fun k hk => ?_)
              obtain rfl : gl = k := by simpa [Value.ownBlock] using hk
              exact (HG2.out.block gl (by simp; omega) (fun e => HS.out.apart e.symm)).trans (Below.heap_alloc _ _ _ hsz9))
            have HAP : Hid ((Value.slice A' n' c').ownBlock ≠ some gl) := Lib.hid (by
              rcases HD2.out with e | e
              · rw [e]; exact HS.out.apart
              · rw [e]; simp; omega)
            have HSL := Lib.hid HS.out.len
            have hmm := HS.out.len
            clear q1
            clear hmm
            go_wp2_with fail
            refine (delete1_any w.heap.size gl cl S i m w2 HS2.out him HSL.out hm8).mono ?_
            rintro e w3 ⟨rfl, ho3, hg3⟩
            have HS3 : Hid (Os (need C) hd j w gl cl (m - 1) (.slice A' n' c') (S.eraseIdx i) (D ++ [x]) w3) := Lib.hid (by
              have hb3 : Below w.heap.size w w2 := HS.out.below.trans (((Below.refl _ _).alloc hbas _).trans HB2.out)
              refine ⟨hb3.grown hg3 hb3.size (fun k hk => (by (have e9 : gl = k := by simpa using hk); rw [← e9]; exact (World.ownsRow.lt HS.out.left gl rfl).1)), ho3, ?_, HAP.out, ?_, ?_, fun a ha => HS.out.lt a (List.mem_of_mem_eraseIdx ha), ?_⟩
              · have := Iw.other HO2.out hg3 HAP.out
                simpa [nz] using this
              · rw [List.length_eraseIdx, HS.out.len]; simp [him]
              · rw [List.length_append, List.length_singleton]; omega
              · rw [HS.out.ord, show m = (m - 1) + 1 by omega, ord, HF.out, HX.out]
                simp [Function.comp_def])
            go_wp2_with fail
            go_roundw
            case rel => exact ⟨_, _, _, _, _, _, _, _, rfl, rfl, HS3⟩
            case measure => simp [lenV]; omega
        · obtain rfl : m = 0 := by omega
          obtain rfl : S = [] := List.length_eq_zero_iff.1 HS.out.len
          have HOO : Hid (ord (need C) hd j (List.range j) = some D) := Lib.hid (by rw [HS.out.ord]; simp [ord])
          have HDL : Hid (nd = D.length) := Lib.hid (by have := HS.out.done.lt.1; rwa [nz_length] at this)
          go_wp2_with fail
          go_ret2
          exact ⟨HS.out.below, .inr ⟨_, _, _, D, rfl, HDL.out, HOO.out, HS.out.done⟩⟩
end Go.Proofs.YtakgkocdkondhaaGreatDoor.Bk
end

section
namespace Go.Proofs.YtakgkocdkondhaaGreatDoor.Bk
open Go.RowKit

/-- A truth is told. -/
def Told8 (P : Prop) (w : World) (e : Ending) (w' : World) : Prop := ∃ b : Bool, e = .returned (.bool b) ∧ (b = true ↔ P) ∧ Below w.heap.size w w'
/-- An order is told, or none. -/
def OrdTold (C : Cm) (w : World) (e : Ending) (w' : World) : Prop := ∃ A m c o is, e = .returned (.tuple #[.slice A m c, .bool is]) ∧ m = o.length ∧ OrdIs C o is ∧ Iw w' w.heap.size (.slice A m c) (nz o) ∧ Below w.heap.size w w'
theorem saf_ord {C : Cm} {n : Nat} (hn : C.length = n) (hd : Nat → Int → Bool) : (∃ o, ord (need C) hd n (List.range n) = some o) ↔ Saf (need C) hd (List.range C.length) := by
  subst hn
  exact ord_iff List.nodup_range List.length_range
/-- The boxes of who and zone. -/
structure Bx2 (w : World) (b2 : Nat) (who zone : Int) (w0 : World) : Prop where
  below : Below w.heap.size w w0
  c1 : w0.cell? ⟨w.heap.size, 0, none⟩ = some (.int .i64 who)
  c2 : w0.cell? ⟨b2, 0, none⟩ = some (.int .i64 zone)
  lt : w.heap.size < w0.heap.size ∧ b2 < w0.heap.size
theorem Bx2.later {w : World} {b2 : Nat} {who zone : Int} {w0 w1 : World} (h : Bx2 w b2 who zone w0) (hb : Below w0.heap.size w0 w1) : Bx2 w b2 who zone w1 :=
  ⟨h.below.trans (hb.mono h.below.size), (hb.cell (p := ⟨w.heap.size, 0, none⟩) h.lt.1).trans h.c1, (hb.cell (p := ⟨b2, 0, none⟩) h.lt.2).trans h.c2, Nat.lt_of_lt_of_le h.lt.1 hb.size, Nat.lt_of_lt_of_le h.lt.2 hb.size⟩
theorem Bx2.start (w : World) (who zone : Int) : Bx2 w (w.heap.size + 1) who zone ((w.alloc (.cells #[.int .i64 who] 3)).alloc (.cells #[.int .i64 zone] 3)) := by
  have hb := (Below.refl (w.heap.size + 1) (w.alloc (.cells #[.int .i64 who] 3))).alloc (by simp) (.cells #[.int .i64 zone] 3)
  refine ⟨((Below.refl w.heap.size w).alloc (Nat.le_refl _) (.cells #[.int .i64 who] 3)).alloc (by simp) (.cells #[.int .i64 zone] 3), ?_, ?_, by simp; omega, by simp⟩
  · exact (hb.cell (p := ⟨w.heap.size, 0, none⟩) (by simp)).trans (by simp [World.cell?_alloc_new])
  · simp
set_option maxHeartbeats 2000000 in
theorem may_any (A : Option Addr) (n cap : Nat) (C : Cm) (who zone : Int) (w : World) (h : Cl w.heap.size w A n cap C) : Calls Tryz.prog 38 #[.slice A n cap, .int .i64 who, .int .i64 zone] w (Told8 (MayP C who zone) w) := by
  have HC := Lib.hid h
  have HN := Lib.hid h.len
  have hs := h.size
  have hs1 := hs.1
  have hs2 := hs.2
  have HX0 := Lib.hid (Bx2.start w who zone)
  clear h hs
  go_enter Tryz.func38, Tryz.ntmps38
  go_wp2_with fail
  generalize (w.alloc (.cells #[.int .i64 who] 3)).alloc (.cells #[.int .i64 zone] 3) = w0 at *
  generalize w.heap.size + 1 = b2 at *
  refine (holder_any A n cap C w0 ((HC.out.below HX0.out.below).raise HX0.out.below.size)).mono ?_
  rintro e w1 ⟨hb1, hh⟩
  have HX1 := Lib.hid (HX0.out.later hb1)
  clear hb1 HX0
  rcases hh with ⟨hR, rfl⟩ | ⟨hR, bx, g, f, rfl, hv⟩
  · have HR : Hid (¬ MayP C who zone) := Lib.hid (fun h => hR h.1)
    have HX2 := Lib.hid (HX1.out.later ((Below.refl _ w1).alloc (Nat.le_refl _) (.cells #[.nilFunc] 120)))
    clear hR
    go_wp2_with fail
    go_ret
    exact ⟨false, rfl, iff_of_false (by decide) HR.out, HX2.out.below⟩
  · have HR := Lib.hid hR
    have hA2 := (Below.refl w1.heap.size w1).alloc (Nat.le_refl _) (.cells #[holdV bx] 120)
    have HX2 := Lib.hid (HX1.out.later hA2)
    have HV := Lib.hid (hv.later hA2)
    have c3 : (w1.alloc (.cells #[holdV bx] 120)).cell? ⟨w1.heap.size, 0, none⟩ = some (holdV bx) := by simp [World.cell?_alloc_new]
    have HB3 : Hid (w1.heap.size < (w1.alloc (.cells #[holdV bx] 120)).heap.size) := Lib.hid (by simp)
    unfold holdV at *
    have c1 := HX2.out.c1
    have c2 := HX2.out.c2
    have hn8 : n ≤ 8 := by rw [← HN.out]; exact HR.out.few
    clear hR hv hA2
    by_cases h1 : who < 0
    · have d1 : decide (who < 0) = true := decide_eq_true h1
      have HM : Hid (¬ MayP C who zone) := Lib.hid (fun h => by have := h.2.1; omega)
      go_wp2_with fail
      go_ret
      exact ⟨false, rfl, iff_of_false (by decide) HM.out, HX2.out.below⟩
    · have d1 : decide (who < 0) = false := decide_eq_false h1
      by_cases h2 : (n : Int) ≤ who
      · have d2 : decide ((n : Int) ≤ who) = true := decide_eq_true h2
        have HM : Hid (¬ MayP C who zone) := Lib.hid (fun h => by have := h.2.2.1; rw [HN.out] at this; omega)
        go_wp2_with fail
        go_ret
        exact ⟨false, rfl, iff_of_false (by decide) HM.out, HX2.out.below⟩
      · have d2 : decide ((n : Int) ≤ who) = false := decide_eq_false h2
        by_cases hz : Zn zone
        · have HZ := Lib.hid hz
          clear hz
          go_wp2_with fail
          refine (isZone_any zone _).mono ?_
          rintro e w' ⟨b, rfl, hb, rfl⟩
          obtain rfl : b = true := hb.2 HZ.out
          clear hb
          go_wp2_with fail
          generalize w1.heap.size = b3 at *
          generalize w1.alloc (.cells #[.func (.func 110) #[] #[.pointer (some ⟨bx, 0, none⟩)]] 120) = w2 at *
          obtain ⟨k, rfl⟩ := Int.eq_ofNat_of_zero_le (show 0 ≤ who by omega)
          have hk : k < n := by omega
          have HMV : Hid (Mv w2 w.heap.size b2 b3 bx g f C k zone) := Lib.hid ⟨⟨HX2.out.lt.1, HX2.out.lt.2, HB3.out⟩, HX2.out.c1, HX2.out.c2, c3, HV.out⟩
          clear h1 h2 d1 d2
          go_loop [36] (fun iv => ∃ j : Nat, j ≤ n ∧ iv = .int .i64 (j : Int) ∧ Hid (∀ t, t < j → zone ∉ hold C t)) (fun iv => n - (intOf iv).toNat)
          case atStart => exact ⟨0, Nat.zero_le _, rfl, Lib.hid (fun t ht => by omega)⟩
          case round =>
            obtain ⟨j, hj, rfl, HJ⟩ := hrel
            by_cases hlt : j < n
            · have HQ := Lib.hid (holder1_any bx g f C w2 HV.out j (by rw [HN.out]; exact hlt) zone HZ.out)
              by_cases hin : zone ∈ hold C j
              · rw [show hb C j zone = true from decide_eq_true hin] at HQ
                have HM : Hid (¬ MayP C (k : Int) zone) := Lib.hid (fun h => h.2.2.2.2.1 j (by rw [HN.out]; exact hlt) hin)
                clear hin
                go_wp2_with fail
                refine HQ.out.mono ?_
                rintro e w' ⟨rfl, rfl⟩
                go_wp2_with fail
                go_ret
                exact ⟨false, rfl, iff_of_false (by decide) HM.out, HX2.out.below⟩
              · rw [show hb C j zone = false from decide_eq_false hin] at HQ
                have HI := Lib.hid hin
                clear hin
                go_wp2_with fail
                refine HQ.out.mono ?_
                rintro e w' ⟨rfl, rfl⟩
                go_wp2_with fail
                go_round
                case rel => exact ⟨j + 1, by omega, by go_num, Lib.hid (fun t ht => by
                  rcases Nat.lt_succ_iff_lt_or_eq.1 ht with h | h
                  · exact HJ.out t h
                  · subst h; exact HI.out)⟩
                case measure => simp [intOf]; omega
            · obtain rfl : j = n := by omega
              go_wp2_with fail
              refine (orderM_any w.heap.size b2 b3 (gv (hb C) k zone) A j cap C w2 ((HC.out.below HX2.out.below).raise HX2.out.below.size) hn8 (fun a ha z hz => (HR.out.zones a (by rw [HN.out]; exact ha)).2 z hz) (fun wx hb a ha z hz => may1_any _ _ _ bx g f C k zone wx (HMV.out.later hb) a (by rw [HN.out]; exact ha) z hz)).mono ?_
              rintro e w3 ⟨hb3, hh⟩
              have HS := Lib.hid (saf_ord HN.out (gv (hb C) k zone))
              have HBB := Lib.hid (HX2.out.below.trans (hb3.mono HX2.out.below.size))
              clear hb3
              rcases hh with ⟨rfl, hno⟩ | ⟨A3, m3, c3, o, rfl, hm, ho, hown⟩
              · have HM : Hid (¬ MayP C (k : Int) zone) := Lib.hid (fun h => by
                  have h6 := h.2.2.2.2.2
                  rw [Int.toNat_natCast] at h6
                  obtain ⟨o, ho⟩ := HS.out.2 h6
                  rw [hno] at ho
                  cases ho)
                clear hno
                go_wp2_with fail
                go_ret
                exact ⟨false, rfl, iff_of_false (by decide) HM.out, HBB.out⟩
              · have HM : Hid (MayP C (k : Int) zone) := Lib.hid ⟨HR.out, Int.natCast_nonneg _, by rw [HN.out]; omega, HZ.out, fun j hj => HJ.out j (by rw [← HN.out]; exact hj), by rw [Int.toNat_natCast]; exact HS.out.1 ⟨o, ho⟩⟩
                clear ho hm hown
                go_wp2_with fail
                go_ret
                exact ⟨true, rfl, iff_of_true rfl HM.out, HBB.out⟩
        · have HZ : Hid (¬ Zn zone) := Lib.hid hz
          have HM : Hid (¬ MayP C who zone) := Lib.hid (fun h => hz h.2.2.2.1)
          clear hz
          go_wp2_with fail
          refine (isZone_any zone _).mono ?_
          rintro e w' ⟨b, rfl, hb, rfl⟩
          obtain rfl : b = false := Bool.eq_false_iff.2 (fun e => HZ.out (hb.1 e))
          clear hb
          go_wp2_with fail
          go_ret
          exact ⟨false, rfl, iff_of_false (by decide) HM.out, HX2.out.below⟩
end Go.Proofs.YtakgkocdkondhaaGreatDoor.Bk
end
