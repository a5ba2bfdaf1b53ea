/-
  The reader: what it holds, and its small steps.
  The reader: how many bits 0 stand ahead, and how a number is taken.
  The reader's calls: NewReader, Get, Count, Left, End.
  The reader's calls: Count and End.
-/
import Derived.Test.YtobpinelhjpfgaaDoorBtTwo
import Derived.Deep.QuietTactic
import Derived.BigQuiet
set_option linter.unusedVariables false
section
namespace Go.Proofs.YtobpinelhjpfgaaDoor
open Go.RowKit Bp

/-- A bit of bytes. -/
def rbit (zs : List Nat) (k : Nat) : Nat := zs.getD (k / 8) 0 / pw (k % 8) % 2
theorem rbit_le (zs : List Nat) (k : Nat) : rbit zs k ≤ 1 := by unfold rbit; omega

/-- A reader lies in block b, its bytes zs at v, stands at bit p, its fault is f; all of it lies from block B on. -/
structure Rd (B : Nat) (w : World) (b : Nat) (v : Value) (zs : List Nat) (p : Nat) (f : Int) : Prop where
  box : w.heap[b]? = some (.cells #[v, .int .i64 (p : Int), .int .i64 f] 145 (0, 0))
  row : w.ownsRow B 5 1 v zs.length (bc zs)
  ne : v.ownBlock ≠ some b
  base : B ≤ b
  at_le : p ≤ 8 * zs.length
  few : zs.length ≤ 1048576
  byte : ∀ z ∈ zs, z ≤ 255
/-- The reader's blocks. -/
def RF (b : Nat) (v : Value) : Nat → Prop := fun k => k = b ∨ v.ownBlock = some k

theorem Rd.frame {B : Nat} {w w' : World} {b : Nat} {v : Value} {zs : List Nat} {p : Nat} {f : Int} (h : Rd B w b v zs p f) (hk : ∀ k, RF b v k → w'.heap[k]? = w.heap[k]?) : Rd B w' b v zs p f :=
  ⟨(hk b (.inl rfl)).trans h.box, ownsRow_same h.row (fun k e => hk k (.inr e)), h.ne, h.base, h.at_le, h.few, h.byte⟩
theorem Rd.lt {B : Nat} {w : World} {b : Nat} {v : Value} {zs : List Nat} {p : Nat} {f : Int} (h : Rd B w b v zs p f) {k : Nat} (hk : RF b v k) : B ≤ k ∧ k < w.heap.size := by
  rcases hk with rfl | hk
  · exact ⟨h.base, lt_of_heap h.box⟩
  · exact h.row.lt k hk
theorem Rd.drew {B : Nat} {w : World} {b : Nat} {v : Value} {zs : List Nat} {p : Nat} {f : Int} (h : Rd B w b v zs p f) : Rd B w.drew b v zs p f := h.frame fun _ _ => rfl
theorem Rd.cells {B : Nat} {w : World} {b : Nat} {v : Value} {zs : List Nat} {p : Nat} {f : Int} (h : Rd B w b v zs p f) :
    w.cell? ⟨b, 0, none⟩ = some v ∧ w.cell? ⟨b, 1, none⟩ = some (.int .i64 (p : Int)) ∧ w.cell? ⟨b, 2, none⟩ = some (.int .i64 f) ∧ w.frozen? ⟨b, 1, none⟩ = false ∧ w.frozen? ⟨b, 2, none⟩ = false :=
  ⟨by rw [cell_of_row w b 0 _ _ _ h.box]; rfl, by rw [cell_of_row w b 1 _ _ _ h.box]; rfl, by rw [cell_of_row w b 2 _ _ _ h.box]; rfl, frozen_of_row w b 1 _ _ h.box, frozen_of_row w b 2 _ _ h.box⟩
/-- The reader goes on: the place is stored anew. -/
theorem Rd.move {B : Nat} {w : World} {b : Nat} {v : Value} {zs : List Nat} {p : Nat} {f : Int} (h : Rd B w b v zs p f) (q : Nat) (hq : q ≤ 8 * zs.length) : Rd B (w.setCell ⟨b, 1, none⟩ (.int .i64 (q : Int))) b v zs q f := by
  refine ⟨?_, ownsRow_same h.row (fun k e => Below.heap_setCell _ _ _ _ (fun x => h.ne (by rw [e, x]))), h.ne, h.base, hq, h.few, h.byte⟩
  rw [heap_setCell_same w b 1 _ _ _ h.box]; simp
theorem Rd.faulty {B : Nat} {w : World} {b : Nat} {v : Value} {zs : List Nat} {p : Nat} {f : Int} (h : Rd B w b v zs p f) (g : Int) : Rd B (w.setCell ⟨b, 2, none⟩ (.int .i64 g)) b v zs p g := by
  refine ⟨?_, ownsRow_same h.row (fun k e => Below.heap_setCell _ _ _ _ (fun x => h.ne (by rw [e, x]))), h.ne, h.base, h.at_le, h.few, h.byte⟩
  rw [heap_setCell_same w b 2 _ _ _ h.box]; simp

theorem bit_and (z q : Nat) (hz : z ≤ 255) : bits BinOp.and IntKind.u8 ((z : Int) / 2 ^ q) 1 = ((z / 2 ^ q % 2 : Nat) : Int) := by
  have e : ((z : Int) / 2 ^ q) = ((z / 2 ^ q : Nat) : Int) := by simp
  have hle : z / 2 ^ q ≤ z := Nat.div_le_self _ _
  have e2 := u8_and_nat (z / 2 ^ q) 1 (by omega) (by omega)
  have e3 : ((1 : Nat) : Int) = 1 := rfl
  rw [e3] at e2
  rw [e, e2, Nat.and_one_is_mod]

theorem bit_core (b g n cap k z : Nat) (w : World) (c0 : w.cell? ⟨b, 0, none⟩ = some (.slice (some ⟨g, 0, none⟩) n cap)) (c1 : w.cell? ⟨g, k / 8, none⟩ = some (.int .u8 (z : Int))) (hz : z ≤ 255) (hk : k / 8 < n) (hn : n ≤ 1048576) :
    Calls Tryd.prog 116 #[.pointer (some ⟨b, 0, none⟩), .int .i64 (k : Int)] w fun e w' => e = .returned (.int .u8 ((z / 2 ^ (7 - k % 8) % 2 : Nat) : Int)) ∧ w = w' := by
  have q0 : ((k : Int) / 8).toNat = k / 8 := by omega
  have q1 : (0 : Int) ≤ (k : Int) / 8 := by omega
  have q2 : (k : Int) / 8 < (n : Int) := by omega
  have q3 : (0 : Int) ≤ (k : Int) % 8 := by omega
  have q4 : (k : Int) % 8 ≤ 7 := by omega
  go_enter Tryd.func116, Tryd.ntmps116
  go_wp2
  go_ret
  refine ⟨?_, rfl⟩
  rw [bit_and z (7 - k % 8) hz]
  rfl

theorem rbit_any (B b : Nat) (v : Value) (zs : List Nat) (p k : Nat) (f : Int) (w : World) (h : Rd B w b v zs p f) (hk : k < 8 * zs.length) :
    Calls Tryd.prog 116 #[.pointer (some ⟨b, 0, none⟩), .int .i64 (k : Int)] w fun e w' => e = .returned (.int .u8 (rbit zs k : Int)) ∧ w = w' := by
  rcases h.row.2 with ⟨_, hz⟩ | ⟨g, cap, cur, rfl, hg, hh, hnc, hcm, hcs, htake⟩
  · omega
  · have c1 : w.cell? ⟨g, k / 8, none⟩ = some (.int .u8 ((zs.getD (k / 8) 0 : Nat) : Int)) := by
      rw [h.row.cellAt _ (by omega)]
      simp [bc, List.getD, List.getElem?_eq_getElem (show k / 8 < zs.length by omega)]
    have hz : zs.getD (k / 8) 0 ≤ 255 := by
      rw [List.getD, List.getElem?_eq_getElem (show k / 8 < zs.length by omega)]
      exact h.byte _ (List.getElem_mem _)
    exact bit_core b g zs.length cap k _ w h.cells.1 c1 hz (by omega) h.few

theorem left_core (b n cap : Nat) (a : Option Addr) (p : Int) (w : World) (c0 : w.cell? ⟨b, 0, none⟩ = some (.slice a n cap)) (c1 : w.cell? ⟨b, 1, none⟩ = some (.int .i64 p)) (hn : n ≤ 1048576) (h0 : 0 ≤ p) (h1 : p ≤ 8 * n) :
    Calls Tryd.prog 77 #[.pointer (some ⟨b, 0, none⟩)] w fun e w' => e = .returned (.int .i64 ((n : Int) * 8 - p)) ∧ w.drew = w' := by
  go_enter Tryd.func77, Tryd.ntmps77
  go_wp2
  go_region
  go_wp2
  go_ret
  exact ⟨rfl, rfl⟩

theorem fail_core (b : Nat) (g : Int) (f : Int) (w : World) (c2 : w.cell? ⟨b, 2, none⟩ = some (.int .i64 f)) (f2 : w.frozen? ⟨b, 2, none⟩ = false) :
    Calls Tryd.prog 104 #[.pointer (some ⟨b, 0, none⟩), .int .i64 g] w fun e w' => e = .returned (.int .u64 0) ∧ w.setCell ⟨b, 2, none⟩ (.int .i64 g) = w' := by
  go_enter Tryd.func104, Tryd.ntmps104
  go_wp2
  go_ret
  exact ⟨rfl, rfl⟩

end Go.Proofs.YtobpinelhjpfgaaDoor
end

section
namespace Go.Proofs.YtobpinelhjpfgaaDoor
open Go.RowKit Bp

theorem rleft_any (B b : Nat) (v : Value) (zs : List Nat) (p : Nat) (f : Int) (w : World) (h : Rd B w b v zs p f) :
    Calls Tryd.prog 77 #[.pointer (some ⟨b, 0, none⟩)] w fun e w' => e = .returned (.int .i64 ((zs.length : Int) * 8 - (p : Int))) ∧ w.drew = w' := by
  obtain ⟨a, cap, rfl⟩ := ownsRow_shape h.row
  exact left_core b zs.length cap a p w h.cells.1 h.cells.2.1 h.few (by omega) (by have := h.at_le; omega)

/-- n bits 0 stand from place p on, and that is all that is looked at. -/
structure Zs (zs : List Nat) (p n : Nat) : Prop where
  few : n ≤ 64
  inn : p + n ≤ 8 * zs.length
  zero : ∀ j, j < n → rbit zs (p + j) = 0
  stop : n = 64 ∨ p + n = 8 * zs.length ∨ rbit zs (p + n) = 1

/-- The world has drawn so often, and is as it was. -/
def Drawn (w w' : World) : Prop := ∃ q, w' = w.drewN q

theorem rbit_val (B b : Nat) (v : Value) (zs : List Nat) (p k : Nat) (K X : Int) (f : Int) (w : World) (h : Rd B w b v zs p f) (hk : k < 8 * zs.length) (hK : K = k) (hX : (rbit zs k : Int) = X) :
    Calls Tryd.prog 116 #[.pointer (some ⟨b, 0, none⟩), .int .i64 K] w fun e w' => e = .returned (.int .u8 X) ∧ w = w' := by
  subst hK hX; exact rbit_any B b v zs p k f w h hk

set_option maxHeartbeats 400000 in
theorem rzeros_any (B b : Nat) (v : Value) (zs : List Nat) (p : Nat) (f : Int) (w : World) (h : Rd B w b v zs p f) :
    Calls Tryd.prog 106 #[.pointer (some ⟨b, 0, none⟩)] w fun e w' => ∃ n : Nat, e = .returned (.int .i64 (n : Int)) ∧ Zs zs p n ∧ Rd B w' b v zs p f ∧ Below w.heap.size w w' := by
  have hle := h.at_le
  have hfew := h.few
  go_enter Tryd.func106, Tryd.ntmps106
  go_wp2
  go_loopw [3] (fun i wr => ∃ k : Nat, k ≤ 64 ∧ p + k ≤ 8 * zs.length ∧ i = .int .i64 (k : Int) ∧ (∀ j, j < k → rbit zs (p + j) = 0) ∧ Rd B wr b v zs p f ∧ Below w.heap.size w wr) (fun i _ => 64 - (intOf i).toNat)
  case atStart => exact ⟨0, by omega, by omega, rfl, fun j hj => by omega, h, Below.refl _ _⟩
  case round =>
    obtain ⟨k, hk, hin, rfl, hz, hR, hB⟩ := hrel
    have HZ := Lib.hid hz
    have HR := Lib.hid hR
    have HB := Lib.hid hB
    have c1 := hR.cells.2.1
    clear hz hR hB h
    by_cases h63 : k ≤ 63
    · have t1 : decide ((k : Int) ≤ 63) = true := by simp; omega
      go_wp2_with fail
      refine (rleft_any B b v zs p f _ HR.out).mono ?_
      rintro e w1 ⟨rfl, rfl⟩
      by_cases hend : p + k < 8 * zs.length
      · have t2 : decide ((k : Int) < (zs.length : Int) * 8 - (p : Int)) = true := by simp; omega
        go_wp2_with fail
        by_cases hb : rbit zs (p + k) = 0
        · refine (rbit_val B b v zs p (p + k) ((p : Int) + (k : Int)) 0 f _ HR.out.drew (by omega) (by simp) (by rw [hb]; rfl)).mono ?_
          rintro e w2 ⟨rfl, rfl⟩
          have HZ2 : Hid (∀ j, j < k + 1 → rbit zs (p + j) = 0) := Lib.hid fun j hj => by
            rcases Nat.lt_or_ge j k with x | x
            · exact HZ.out j x
            · obtain rfl : j = k := by omega
              exact hb
          clear hb HZ
          go_wp2
          go_roundw
          case rel => exact ⟨k + 1, by omega, by omega, by go_num, HZ2.out, HR.out.drew, HB.out.drew⟩
          case measure => simp [intOf]; omega
        · have hb1 : rbit zs (p + k) = 1 := by have := rbit_le zs (p + k); omega
          have HB1 := Lib.hid hb1
          refine (rbit_val B b v zs p (p + k) ((p : Int) + (k : Int)) 1 f _ HR.out.drew (by omega) (by simp) (by rw [hb1]; rfl)).mono ?_
          rintro e w2 ⟨rfl, rfl⟩
          clear hb hb1
          go_wp2
          go_ret
          exact ⟨k, rfl, ⟨hk, hin, HZ.out, .inr (.inr HB1.out)⟩, HR.out.drew, HB.out.drew⟩
      · have t2 : decide ((k : Int) < (zs.length : Int) * 8 - (p : Int)) = false := by simp; omega
        go_wp2
        go_ret
        exact ⟨k, rfl, ⟨hk, hin, HZ.out, .inr (.inl (by omega))⟩, HR.out.drew, HB.out.drew⟩
    · have t1 : decide ((k : Int) ≤ 63) = false := by simp; omega
      go_wp2
      go_ret
      exact ⟨k, rfl, ⟨hk, hin, HZ.out, .inl (by omega)⟩, HR.out, HB.out⟩

/-- The number that the next m bits are. -/
def tk (zs : List Nat) (p : Nat) : Nat → Nat
  | 0 => 0
  | m + 1 => 2 * tk zs p m + rbit zs (p + m)
theorem tk_lt (zs : List Nat) (p m : Nat) : tk zs p m < 2 ^ m := by
  induction m with
  | zero => simp [tk]
  | succ m ih => have := rbit_le zs (p + m); rw [tk, Nat.pow_succ]; omega

theorem take_or (n x : Nat) (h : n < 9223372036854775808) (hx : x ≤ 1) : bits BinOp.or IntKind.u64 (IntKind.u64.wrap ((n : Int) * 2)) (x : Int) = ((2 * n + x : Nat) : Int) := by
  rw [IntWalk.u64_in ((n : Int) * 2) (by omega)]
  have e : ((n : Int) * 2) = ((2 * n : Nat) : Int) := by simp; omega
  rw [e, u64_or_nat (2 * n) x (by omega) (by omega)]
  have := Nat.two_pow_add_eq_or_of_lt (i := 1) (b := x) (by omega) n
  simp at this
  rw [this]

set_option maxHeartbeats 400000 in
theorem rtake_any (B b : Nat) (v : Value) (zs : List Nat) (p m : Nat) (f : Int) (w : World) (h : Rd B w b v zs p f) (hm : m ≤ 64) (hin : p + m ≤ 8 * zs.length) :
    Calls Tryd.prog 105 #[.pointer (some ⟨b, 0, none⟩), .int .i64 (m : Int)] w fun e w' => e = .returned (.int .u64 (tk zs p m : Int)) ∧ Rd B w' b v zs (p + m) f ∧ Turn (RF b v) (RF b v) w w' := by
  have hle := h.at_le
  have hfew := h.few
  go_enter Tryd.func105, Tryd.ntmps105
  go_wp2
  go_loopw [5, 7] (fun n i wr => ∃ k : Nat, k ≤ m ∧ i = .int .i64 (k : Int) ∧ n = .int .u64 (tk zs p k : Int) ∧ Rd B wr b v zs (p + k) f ∧ Turn (RF b v) (RF b v) w wr) (fun _ i _ => m - (intOf i).toNat)
  case atStart => exact ⟨0, by omega, rfl, rfl, h, Turn.refl _ _⟩
  case round =>
    obtain ⟨k, hk, rfl, rfl, hR, hT⟩ := hrel
    have HR := Lib.hid hR
    have HT := Lib.hid hT
    have c1 := hR.cells.2.1
    have f1 := hR.cells.2.2.2.1
    have htk := tk_lt zs p k
    clear hR hT h
    by_cases hlt : k < m
    · have hp : tk zs p k < 9223372036854775808 := by
        have : (2 : Nat) ^ k ≤ 2 ^ 63 := Nat.pow_le_pow_right (by decide) (by omega)
        have e : (2 : Nat) ^ 63 = 9223372036854775808 := by decide
        omega
      have HP := Lib.hid hp
      have HN : Hid (tk zs p (k + 1) = 2 * tk zs p k + rbit zs (p + k)) := Lib.hid rfl
      clear hp htk
      generalize tk zs p k = n at *
      go_wp2_with fail
      refine (rbit_val B b v zs (p + k) (p + k) _ (rbit zs (p + k) : Int) f _ HR.out (by omega) rfl rfl).mono ?_
      rintro e w2 ⟨rfl, rfl⟩
      have hx := rbit_le zs (p + k)
      have HO := Lib.hid (take_or n (rbit zs (p + k)) HP.out hx)
      generalize rbit zs (p + k) = x at *
      have hcast : ((p + (k + 1) : Nat) : Int) = (p : Int) + (k : Int) + 1 := by omega
      have hmv := HR.out.move (p + (k + 1)) (by omega)
      rw [hcast] at hmv
      have HM := Lib.hid hmv
      clear hcast hmv
      go_wp2
      go_roundw
      case rel => exact ⟨k + 1, by omega, by go_num, by rw [HN.out, HO.out], HM.out, HT.out.put _ (.inl rfl)⟩
      case measure => simp [intOf]; omega
    · obtain rfl : k = m := by omega
      go_wp2
      go_ret
      exact ⟨rfl, HR.out, HT.out⟩

end Go.Proofs.YtobpinelhjpfgaaDoor
end

section
namespace Go.Proofs.YtobpinelhjpfgaaDoor
open Go.RowKit Bp

/-- The bytes zs lie at the slice value v (of whatever make), in w. -/
def BytesAt (w : World) (v : Value) (zs : List Nat) : Prop :=
  (v = .slice none 0 0 ∧ zs = []) ∨ ∃ a cap, v = .slice (some a) zs.length cap ∧ ∀ j u, (bc zs)[j]? = some u → w.cell? (a.add j) = some u

theorem bc_one (zs : List Nat) : ∀ u ∈ bc zs, u.oneCell' = true := by
  intro u hu
  simp only [bc, List.mem_map] at hu
  obtain ⟨x, _, rfl⟩ := hu
  rfl

set_option maxHeartbeats 400000 in
theorem newReader_any (v : Value) (zs : List Nat) (w : World) (h : BytesAt w v zs) (hf : zs.length ≤ 1048576) (hb : ∀ z ∈ zs, z ≤ 255) :
    Calls Tryd.prog 73 #[v] w fun e w' => ∃ b v', e = .returned (.pointer (some ⟨b, 0, none⟩)) ∧ Rd w.heap.size w' b v' zs 0 0 ∧ Below w.heap.size w w' := by
  rcases h with ⟨rfl, rfl⟩ | ⟨a, cap, rfl, hx⟩
  · have HC := Lib.hid (clone_nil w)
    go_enter Tryd.func73, Tryd.ntmps73
    go_wp2_with (go_at_call 102; refine HC.out.mono ?_; rintro e w' ⟨rfl, rfl⟩)
    go_ret
    refine ⟨w.heap.size, .slice none 0 0, rfl, ⟨heap_alloc_new w _, by exact World.ownsRow_nil _ _ _ _, by simp [Value.ownBlock], Nat.le_refl _, by simp, by simp, by simp⟩, (Below.refl _ _).alloc (Nat.le_refl _) _⟩
  · have HC := Lib.hid (clone_any a zs.length cap (bc zs) w (bc_length zs) hx (bc_one zs) hf)
    clear hx
    have HB := Lib.hid hb
    clear hb
    go_enter Tryd.func73, Tryd.ntmps73
    go_wp2_with fail
    refine HC.out.mono ?_
    rintro e w1 ⟨v1, rfl, ho, hbl⟩
    have HO := Lib.hid ho
    have HBL := Lib.hid hbl
    obtain ⟨a1, cap1, hv1⟩ := ownsRow_shape ho
    rw [hv1] at HO ⊢
    clear ho hbl hv1
    go_wp2
    go_ret
    refine ⟨w1.heap.size, .slice a1 zs.length cap1, rfl, ⟨heap_alloc_new w1 _, HO.out.alloc _, ?_, HBL.out.size, by simp, hf, HB.out⟩, HBL.out.alloc HBL.out.size _⟩
    intro e
    have := (HO.out.lt _ e).2
    omega

/-- What a call of a reader leaves: the reader as told, all else as it was. -/
def RdTo (B : Nat) (w : World) (b : Nat) (v : Value) (zs : List Nat) (p : Nat) (f : Int) (w' : World) : Prop := Rd B w' b v zs p f ∧ Turn (RF b v) (RF b v) w w'

theorem Turn.ofDrew {F : Nat → Prop} (w : World) : Turn F F w w.drew := (Turn.refl F w).drew

theorem get_fault (B b : Nat) (v : Value) (zs : List Nat) (p : Nat) (f m : Int) (w : World) (h : Rd B w b v zs p f) (hf : f ≠ 0) :
    Calls Tryd.prog 74 #[.pointer (some ⟨b, 0, none⟩), .int .i64 m] w fun e w' => e = .returned (.int .u64 0) ∧ w = w' := by
  have c2 := h.cells.2.2.1
  have t1 : (f != 0) = true := by simpa using hf
  clear h
  go_enter Tryd.func74, Tryd.ntmps74
  go_wp2
  go_ret
  exact ⟨rfl, rfl⟩

theorem get_arg (B b : Nat) (v : Value) (zs : List Nat) (p : Nat) (m : Int) (w : World) (h : Rd B w b v zs p 0) (hm : m < 0 ∨ 64 < m) :
    Calls Tryd.prog 74 #[.pointer (some ⟨b, 0, none⟩), .int .i64 m] w fun e w' => e = .returned (.int .u64 0) ∧ RdTo B w b v zs p 1 w' := by
  have hf : (decide (0 ≤ m) && decide (m ≤ 64)) = false := by
    rw [Bool.and_eq_false_iff]; rcases hm with h | h
    · exact .inl (by simpa using h)
    · exact .inr (by simpa using h)
  have hc := fitsWord_any m
  rw [hf] at hc
  have HC := Lib.hid hc
  have c2 := h.cells.2.2.1
  have f2 := h.cells.2.2.2.2
  have HR := Lib.hid h
  clear hc hf h
  go_enter Tryd.func74, Tryd.ntmps74
  go_wp2_with (first | (go_at_call 103; refine (HC.out _).mono ?_; rintro e w' ⟨rfl, rfl⟩) | (go_at_call 104; refine (fail_core b 1 0 _ c2 f2).mono ?_; rintro e w' ⟨rfl, rfl⟩))
  go_ret
  exact ⟨rfl, HR.out.faulty 1, (Turn.refl _ w).put _ (.inl rfl)⟩

theorem get_short (B b : Nat) (v : Value) (zs : List Nat) (p m : Nat) (w : World) (h : Rd B w b v zs p 0) (hm : m ≤ 64) (hs : 8 * zs.length < p + m) :
    Calls Tryd.prog 74 #[.pointer (some ⟨b, 0, none⟩), .int .i64 (m : Int)] w fun e w' => e = .returned (.int .u64 0) ∧ RdTo B w b v zs p 10 w' := by
  have hf : (decide (0 ≤ (m : Int)) && decide ((m : Int) ≤ 64)) = true := by simp; omega
  have hc := fitsWord_any m
  rw [hf] at hc
  have HC := Lib.hid hc
  have c2 := h.cells.2.2.1
  have f2 := h.cells.2.2.2.2
  have HR := Lib.hid h
  have hle := h.at_le
  have hfew := h.few
  have t : (zs.length : Int) * 8 - (p : Int) < (m : Int) := by omega
  clear hc hf h
  go_enter Tryd.func74, Tryd.ntmps74
  go_wp2_with (first | (go_at_call 103; refine (HC.out _).mono ?_; rintro e w' ⟨rfl, rfl⟩) | (go_at_call 77; refine (rleft_any B b v zs p 0 _ HR.out).mono ?_; rintro e w' ⟨rfl, rfl⟩) | (go_at_call 104; refine (fail_core b 10 0 _ HR.out.drew.cells.2.2.1 HR.out.drew.cells.2.2.2.2).mono ?_; rintro e w' ⟨rfl, rfl⟩))
  go_ret
  exact ⟨rfl, HR.out.drew.faulty 10, (Turn.ofDrew w).put _ (.inl rfl)⟩

theorem get_ok (B b : Nat) (v : Value) (zs : List Nat) (p m : Nat) (w : World) (h : Rd B w b v zs p 0) (hm : m ≤ 64) (hs : p + m ≤ 8 * zs.length) :
    Calls Tryd.prog 74 #[.pointer (some ⟨b, 0, none⟩), .int .i64 (m : Int)] w fun e w' => e = .returned (.int .u64 (tk zs p m : Int)) ∧ RdTo B w b v zs (p + m) 0 w' := by
  have hf : (decide (0 ≤ (m : Int)) && decide ((m : Int) ≤ 64)) = true := by simp; omega
  have hc := fitsWord_any m
  rw [hf] at hc
  have HC := Lib.hid hc
  have c2 := h.cells.2.2.1
  have HR := Lib.hid h
  have hle := h.at_le
  have hfew := h.few
  have t : ¬ (zs.length : Int) * 8 - (p : Int) < (m : Int) := by omega
  clear hc hf h
  go_enter Tryd.func74, Tryd.ntmps74
  go_wp2_with (first | (go_at_call 103; refine (HC.out _).mono ?_; rintro e w' ⟨rfl, rfl⟩) | (go_at_call 77; refine (rleft_any B b v zs p 0 _ HR.out).mono ?_; rintro e w' ⟨rfl, rfl⟩) | (go_at_call 105; refine (rtake_any B b v zs p m 0 _ HR.out.drew hm hs).mono ?_; rintro e w3 ⟨rfl, hR3, hT3⟩; have HR3 := Lib.hid hR3; have HT3 := Lib.hid hT3; clear hR3 hT3))
  go_ret
  exact ⟨rfl, HR3.out, (Turn.ofDrew w).trans HT3.out⟩

end Go.Proofs.YtobpinelhjpfgaaDoor
end

section
namespace Go.Proofs.YtobpinelhjpfgaaDoor
open Go.RowKit Bp

theorem Zs.unique {zs : List Nat} {p n m : Nat} (h : Zs zs p n) (k : Zs zs p m) : n = m := by
  rcases Nat.lt_trichotomy n m with x | x | x
  · have h1 := k.zero n x
    have h2 := k.few
    have h3 := k.inn
    rcases h.stop with e | e | e <;> omega
  · exact x
  · have h1 := h.zero m x
    have h2 := h.few
    have h3 := h.inn
    rcases k.stop with e | e | e <;> omega

theorem rzeros_at (B b : Nat) (v : Value) (zs : List Nat) (p n : Nat) (f : Int) (w : World) (h : Rd B w b v zs p f) (hz : Zs zs p n) :
    Calls Tryd.prog 106 #[.pointer (some ⟨b, 0, none⟩)] w fun e w' => e = .returned (.int .i64 (n : Int)) ∧ RdTo B w b v zs p f w' := by
  refine (rzeros_any B b v zs p f w h).mono ?_
  rintro e w' ⟨m, rfl, hm, hR, hB⟩
  obtain rfl := hz.unique hm
  exact ⟨rfl, hR, Turn.ofBelow hB _⟩

theorem count_fault (B b : Nat) (v : Value) (zs : List Nat) (p : Nat) (f : Int) (w : World) (h : Rd B w b v zs p f) (hf : f ≠ 0) :
    Calls Tryd.prog 75 #[.pointer (some ⟨b, 0, none⟩)] w fun e w' => e = .returned (.int .u64 0) ∧ w = w' := by
  have c2 := h.cells.2.2.1
  have t1 : (f != 0) = true := by simpa using hf
  clear h
  go_enter Tryd.func75, Tryd.ntmps75
  go_wp2
  go_ret
  exact ⟨rfl, rfl⟩

set_option maxHeartbeats 400000 in
theorem count_toolong (B b : Nat) (v : Value) (zs : List Nat) (p : Nat) (w : World) (h : Rd B w b v zs p 0) (hz : Zs zs p 64) :
    Calls Tryd.prog 75 #[.pointer (some ⟨b, 0, none⟩)] w fun e w' => e = .returned (.int .u64 0) ∧ RdTo B w b v zs p 4 w' := by
  have c2 := h.cells.2.2.1
  have HR := Lib.hid h
  have HZ := Lib.hid (rzeros_at B b v zs p 64 0 w h hz)
  clear h hz
  go_enter Tryd.func75, Tryd.ntmps75
  go_wp2_with fail
  refine HZ.out.mono ?_
  rintro e w1 ⟨rfl, hR1, hT1⟩
  have HR1 := Lib.hid hR1
  have HT1 := Lib.hid hT1
  clear hR1 hT1 HZ
  go_wp2_with (go_at_call 104; refine (fail_core b 4 0 _ HR1.out.cells.2.2.1 HR1.out.cells.2.2.2.2).mono ?_; rintro e w' ⟨rfl, rfl⟩)
  go_ret
  exact ⟨rfl, HR1.out.faulty 4, HT1.out.put _ (.inl rfl)⟩

set_option maxHeartbeats 400000 in
theorem count_short (B b : Nat) (v : Value) (zs : List Nat) (p n : Nat) (w : World) (h : Rd B w b v zs p 0) (hz : Zs zs p n) (hn : n ≤ 63) (hs : 8 * zs.length < p + (2 * n + 1)) :
    Calls Tryd.prog 75 #[.pointer (some ⟨b, 0, none⟩)] w fun e w' => e = .returned (.int .u64 0) ∧ RdTo B w b v zs p 10 w' := by
  have c2 := h.cells.2.2.1
  have hle := h.at_le
  have hfew := h.few
  have HZ := Lib.hid (rzeros_at B b v zs p n 0 w h hz)
  have t : (zs.length : Int) * 8 - (p : Int) < (n : Int) + (n : Int) + 1 := by omega
  clear h hz
  go_enter Tryd.func75, Tryd.ntmps75
  go_wp2_with fail
  refine HZ.out.mono ?_
  rintro e w1 ⟨rfl, hR1, hT1⟩
  have HR1 := Lib.hid hR1
  have HT1 := Lib.hid hT1
  clear hR1 hT1 HZ
  go_wp2_with (first | (go_at_call 77; refine (rleft_any B b v zs p 0 _ HR1.out).mono ?_; rintro e w' ⟨rfl, rfl⟩) | (go_at_call 104; refine (fail_core b 10 0 _ HR1.out.drew.cells.2.2.1 HR1.out.drew.cells.2.2.2.2).mono ?_; rintro e w' ⟨rfl, rfl⟩))
  go_ret
  exact ⟨rfl, HR1.out.drew.faulty 10, HT1.out.drew.put _ (.inl rfl)⟩

theorem rtake_int (B b : Nat) (v : Value) (zs : List Nat) (p m : Nat) (M : Int) (f : Int) (w : World) (h : Rd B w b v zs p f) (hm : m ≤ 64) (hin : p + m ≤ 8 * zs.length) (hM : M = m) :
    Calls Tryd.prog 105 #[.pointer (some ⟨b, 0, none⟩), .int .i64 M] w fun e w' => e = .returned (.int .u64 (tk zs p m : Int)) ∧ Rd B w' b v zs (p + m) f ∧ Turn (RF b v) (RF b v) w w' := by
  subst hM; exact rtake_any B b v zs p m f w h hm hin

theorem tk_top (zs : List Nat) (p m : Nat) (h : rbit zs p = 1) : 2 ^ m ≤ tk zs p (m + 1) := by
  induction m with
  | zero => simp [tk, h]
  | succ m ih => rw [tk, Nat.pow_succ]; omega

set_option maxHeartbeats 400000 in
theorem rcount_ok (B b : Nat) (v : Value) (zs : List Nat) (p n : Nat) (w : World) (h : Rd B w b v zs p 0) (hz : Zs zs p n) (hn : n ≤ 63) (hs : p + (2 * n + 1) ≤ 8 * zs.length) :
    Calls Tryd.prog 75 #[.pointer (some ⟨b, 0, none⟩)] w fun e w' => e = .returned (.int .u64 ((tk zs (p + n) (n + 1) - 1 : Nat) : Int)) ∧ RdTo B w b v zs (p + (2 * n + 1)) 0 w' := by
  have c2 := h.cells.2.2.1
  have hle := h.at_le
  have hfew := h.few
  have HZ := Lib.hid (rzeros_at B b v zs p n 0 w h hz)
  have t : ¬ (zs.length : Int) * 8 - (p : Int) < (n : Int) + (n : Int) + 1 := by omega
  have h1 : rbit zs (p + n) = 1 := by rcases hz.stop with e | e | e <;> omega
  have hlo := tk_top zs (p + n) n h1
  have hlo2 : 1 ≤ tk zs (p + n) (n + 1) := by have := Nat.two_pow_pos n; omega
  have hhi : tk zs (p + n) (n + 1) < 18446744073709551616 := by
    have h2 := tk_lt zs (p + n) (n + 1)
    have h3 : (2 : Nat) ^ (n + 1) ≤ 2 ^ 64 := Nat.pow_le_pow_right (by decide) (by omega)
    have e : (2 : Nat) ^ 64 = 18446744073709551616 := by decide
    omega
  clear h hz h1 hlo
  go_enter Tryd.func75, Tryd.ntmps75
  go_wp2_with fail
  refine HZ.out.mono ?_
  rintro e w1 ⟨rfl, hR1, hT1⟩
  have HR1 := Lib.hid hR1
  have HT1 := Lib.hid hT1
  have d1 := hR1.cells.2.1
  have e1 := hR1.cells.2.2.2.1
  have hcast : ((p + n : Nat) : Int) = (p : Int) + (n : Int) := by omega
  have hmv := hR1.move (p + n) (by omega)
  rw [hcast] at hmv
  have HM := Lib.hid hmv
  clear hcast hmv hR1 hT1 HZ
  go_wp2_with (go_at_call 77; refine (rleft_any B b v zs p 0 _ HR1.out).mono ?_; rintro e w' ⟨rfl, rfl⟩)
  refine (rtake_int B b v zs (p + n) (n + 1) ((n : Int) + 1) 0 _ HM.out.drew (by omega) (by omega) (by simp)).mono ?_
  rintro e w2 ⟨rfl, hR2, hT2⟩
  have HR2 := Lib.hid hR2
  have HT2 := Lib.hid hT2
  clear hR2 hT2
  have hsub : ((tk zs (p + n) (n + 1) - 1 : Nat) : Int) = (tk zs (p + n) (n + 1) : Int) - 1 := by omega
  have HS := Lib.hid hsub
  clear hsub
  generalize hx : tk zs (p + n) (n + 1) = x at *
  have HX := Lib.hid hx
  clear hx
  go_wp2
  go_ret
  refine ⟨by rw [HX.out, HS.out]; rfl, ?_, (HT1.out.put _ (.inl rfl)).drew.trans HT2.out⟩
  have e : p + n + (n + 1) = p + (2 * n + 1) := by omega
  rw [← e]
  exact HR2.out

theorem end_fault (B b : Nat) (v : Value) (zs : List Nat) (p : Nat) (f : Int) (w : World) (h : Rd B w b v zs p f) (hf : f ≠ 0) :
    Calls Tryd.prog 78 #[.pointer (some ⟨b, 0, none⟩)] w fun e w' => e = .returned (.int .i64 f) ∧ w = w' := by
  have c2 := h.cells.2.2.1
  have t1 : (f != 0) = true := by simpa using hf
  clear h
  go_enter Tryd.func78, Tryd.ntmps78
  go_wp2
  go_ret
  exact ⟨rfl, rfl⟩

set_option maxHeartbeats 400000 in
theorem end_tail (B b : Nat) (v : Value) (zs : List Nat) (p : Nat) (w : World) (h : Rd B w b v zs p 0) (ht : p + 8 ≤ 8 * zs.length) :
    Calls Tryd.prog 78 #[.pointer (some ⟨b, 0, none⟩)] w fun e w' => e = .returned (.int .i64 11) ∧ RdTo B w b v zs p 0 w' := by
  have c2 := h.cells.2.2.1
  have HR := Lib.hid h
  have hle := h.at_le
  have hfew := h.few
  have t : (8 : Int) ≤ (zs.length : Int) * 8 - (p : Int) := by omega
  clear h
  go_enter Tryd.func78, Tryd.ntmps78
  go_wp2_with (go_at_call 77; refine (rleft_any B b v zs p 0 _ HR.out).mono ?_; rintro e w' ⟨rfl, rfl⟩)
  go_ret
  exact ⟨rfl, HR.out.drew, Turn.ofDrew w⟩

set_option maxHeartbeats 400000 in
theorem end_bit (B b : Nat) (v : Value) (zs : List Nat) (p n : Nat) (w : World) (h : Rd B w b v zs p 0) (hz : Zs zs p n) (ht : 8 * zs.length < p + 8) :
    Calls Tryd.prog 78 #[.pointer (some ⟨b, 0, none⟩)] w fun e w' => e = .returned (.int .i64 (if p + n < 8 * zs.length then 11 else 0)) ∧ RdTo B w b v zs p 0 w' := by
  have c2 := h.cells.2.2.1
  have HR := Lib.hid h
  have hle := h.at_le
  have hfew := h.few
  have hn := hz.few
  have hin := hz.inn
  have HZ := Lib.hid (rzeros_at B b v zs p n 0 w.drew h.drew hz)
  have t : (zs.length : Int) * 8 - (p : Int) < 8 := by omega
  clear h hz
  by_cases hlt : p + n < 8 * zs.length
  · rw [if_pos hlt]
    have t2 : (n : Int) < (zs.length : Int) * 8 - (p : Int) := by omega
    go_enter Tryd.func78, Tryd.ntmps78
    go_wp2_with fail
    refine (rleft_any B b v zs p 0 _ HR.out).mono ?_
    rintro e w' ⟨rfl, rfl⟩
    go_wp2_with fail
    refine HZ.out.mono ?_
    rintro e w1 ⟨rfl, hR1, hT1⟩
    have HR1 := Lib.hid hR1
    have HT1 := Lib.hid hT1
    clear hR1 hT1 HZ
    go_wp2_with (go_at_call 77; refine (rleft_any B b v zs p 0 _ HR1.out).mono ?_; rintro e w' ⟨rfl, rfl⟩)
    go_ret
    exact ⟨rfl, HR1.out.drew, ((Turn.ofDrew w).trans HT1.out).drew⟩
  · rw [if_neg hlt]
    have t2 : ¬ (n : Int) < (zs.length : Int) * 8 - (p : Int) := by omega
    go_enter Tryd.func78, Tryd.ntmps78
    go_wp2_with fail
    refine (rleft_any B b v zs p 0 _ HR.out).mono ?_
    rintro e w' ⟨rfl, rfl⟩
    go_wp2_with fail
    refine HZ.out.mono ?_
    rintro e w1 ⟨rfl, hR1, hT1⟩
    have HR1 := Lib.hid hR1
    have HT1 := Lib.hid hT1
    clear hR1 hT1 HZ
    go_wp2_with (go_at_call 77; refine (rleft_any B b v zs p 0 _ HR1.out).mono ?_; rintro e w' ⟨rfl, rfl⟩)
    go_ret
    exact ⟨rfl, HR1.out.drew, ((Turn.ofDrew w).trans HT1.out).drew⟩

end Go.Proofs.YtobpinelhjpfgaaDoor
end
