/-
  Frames: Frame, isFrame, Open.
  Frames: isFrame, Open.
  Lists of bytes at a slice; what stands ahead.
-/
import Derived.Test.YtobpinelhjpfgaaDoorCkOne
import Derived.Deep.QuietTactic
import Derived.BigQuiet
set_option linter.unusedVariables false
set_option maxRecDepth 100000
section
namespace Go.Proofs.YtobpinelhjpfgaaDoor
open Go.RowKit Bp Ck

/-- Bytes are appended to bytes of one's own. -/
theorem app_by {w : World} {ops : Array Oper} {rest : List Oper} {o : Oper} {a : Act} {Q : Exit → Act → World → Prop} (hgd : o.guard = none) (s x : Operand)
    (ho : o.op = .call { callee := .builtin .append, args := #[s, x], argTypes := #[35, 35] })
    (base : Nat) (v : Value) (n : Nat) (xs : List Nat) (hs : a.eval s = v) (hown : w.ownsRow base 5 1 v n (bc xs))
    (B : Nat) (A : Option Addr) (m c : Nat) (zs : List Nat) (hx : a.eval x = .slice A m c) (hr : By B w A m c zs) (hf : n + m ≤ 1048576) (hbase : base ≤ w.heap.size)
    (h : ∀ v' w', w'.ownsRow base 5 1 v' (n + m) (bc (xs ++ zs)) → Below base w w' → wpList Tryd.prog ops Q rest (a.put o.dst v') w') : wpList Tryd.prog ops Q (o :: rest) a w := by
  obtain ⟨i0, hi, hz0, hz1, hz2⟩ := info_parts Tryd.infoU8
  rcases hr.bytesAt with ⟨e, rfl⟩ | ⟨ad, c', e, hcells⟩
  · simp only [Value.slice.injEq] at e
    obtain ⟨rfl, rfl, rfl⟩ := e
    exact wpList_append_own_none hgd s x 35 ho base 5 i0 1 Tryd.underlying35 hi v n (bc xs) hs hown hx (h v w (by simpa using hown) (Below.refl _ _))
  · rw [hr.len] at e
    simp only [Value.slice.injEq, true_and] at e
    obtain ⟨rfl, rfl⟩ := e
    refine wpList_append_own_at w hgd s x 35 ho base 5 i0 (.int .u8 0) 1 1 Tryd.underlying35 hi hz0 hz1 hz2 rfl (by decide) v n (bc xs) hs hown ad m c (bc zs) hx (by rw [bc_length, hr.len]; omega) hcells (bc_one zs) (by unfold maxLen; omega) (by omega) hbase ?_
    intro v' w' h1 h2 h3 h4
    exact h v' w' (by rw [bc_app]; exact h1) (Below.grown (Below.refl _ _) h2 hbase (fun k hk => (hown.lt k hk).1))

/-- A frame of bytes. -/
def hd (zs : List Nat) : List Nat := tw zs.length ++ zs
def frm (zs : List Nat) : List Nat := hd zs ++ tw (crc (hd zs))
theorem tw_len (n : Nat) : (tw n).length = 2 := rfl
theorem hd_len (zs : List Nat) : (hd zs).length = zs.length + 2 := by simp [hd, tw_len]; omega
theorem frm_len (zs : List Nat) : (frm zs).length = zs.length + 4 := by simp [frm, hd_len, tw_len]
theorem hd_byte (zs : List Nat) (h : ∀ z ∈ zs, z ≤ 255) (hl : zs.length < 65536) : ∀ z ∈ hd zs, z ≤ 255 := by
  intro z hz
  rcases List.mem_append.1 hz with x | x
  · exact tw_byte _ hl z x
  · exact h z x
theorem frm_byte (zs : List Nat) (h : ∀ z ∈ zs, z ≤ 255) (hl : zs.length < 65536) : ∀ z ∈ frm zs, z ≤ 255 := by
  intro z hz
  rcases List.mem_append.1 hz with x | x
  · exact hd_byte zs h hl z x
  · exact tw_byte _ (crc_lt _ (hd_byte zs h hl)) z x

theorem frame_long {B : Nat} {w : World} {A : Option Addr} {n cap : Nat} {zs : List Nat} (h : By B w A n cap zs) (hn : 1000 < n) :
    Calls Tryd.prog 90 #[.slice A n cap] w fun e w' => e = .returned (.tuple #[.slice none 0 0, .int .i64 4]) ∧ w = w' := by
  have hle := h.le
  have hmx := h.max
  unfold maxLen at hmx
  clear h
  go_enter Tryd.func90, Tryd.ntmps90
  go_wp2
  go_ret2
  exact ⟨rfl, rfl⟩

set_option maxHeartbeats 1000000 in
theorem frame_ok {B : Nat} {w : World} {A : Option Addr} {n cap : Nat} {zs : List Nat} (h : By B w A n cap zs) (hB : B ≤ w.heap.size) (hn : n ≤ 1000) :
    Calls Tryd.prog 90 #[.slice A n cap] w fun e w' => ∃ g c, e = .returned (.tuple #[.slice (some ⟨g, 0, none⟩) (n + 4) c, .int .i64 0]) ∧ w'.ownsRow w.heap.size 5 1 (.slice (some ⟨g, 0, none⟩) (n + 4) c) (n + 4) (bc (frm zs)) ∧ Below w.heap.size w w' := by
  have HL := Lib.hid h.len
  have HBy := Lib.hid h.byte
  have HH := Lib.hid h
  clear h
  go_enter Tryd.func90, Tryd.ntmps90
  go_wp2_with fail
  refine (lay16_any n (by omega) _).mono ?_
  rintro e w1 ⟨g1, c1, rfl, ho1, hb1⟩
  have HO1 := Lib.hid ho1
  have HB1 := Lib.hid hb1
  have hs1 := hb1.size
  have HH1 := Lib.hid (HH.out.below (hb1.mono hB))
  clear ho1 hb1 HH
  go_wp2_with (at_builtin; refine app_by rfl _ _ rfl w.heap.size _ 2 (tw n) rfl HO1.out B _ _ _ zs rfl HH1.out (by omega) hs1 ?_)
  intro v2 w2 ho2 hb2
  obtain ⟨g2, c2, hv2⟩ := shape_of ho2 (by omega)
  rw [hv2] at ho2 ⊢
  rw [show tw n ++ zs = hd zs by unfold hd; rw [HL.out]] at ho2
  have hs2 := Nat.le_trans hs1 hb2.size
  have HB2 := Lib.hid (HB1.out.trans hb2)
  have HO2 := Lib.hid ho2
  have hby : ∀ z ∈ hd zs, z ≤ 255 := hd_byte zs HBy.out (by rw [HL.out]; omega)
  have HBY := Lib.hid (By.own ho2 hby)
  have hc := crc_lt _ hby
  clear ho2 hb2 hv2 HO1 HB1 HH1 hby
  go_wp2_with fail
  refine (sum_any HBY.out).mono ?_
  rintro e w3 ⟨rfl, rfl⟩
  go_wp2_with fail
  refine (lay16_any _ hc _).mono ?_
  rintro e w4 ⟨g4, c4, rfl, ho4, hb4⟩
  have HB4 := Lib.hid (HB2.out.trans (hb4.mono hs2))
  have hs4 := Nat.le_trans hs2 hb4.size
  have HO4 : Hid (w4.ownsRow w.heap.size 5 1 (.slice (some ⟨g2, 0, none⟩) (2 + n) c2) (2 + n) (bc (hd zs))) := Lib.hid (ownsRow_same HO2.out (fun k hk => hb4.block k (HO2.out.lt k hk).2))
  have HY4 := Lib.hid (By.own ho4 (tw_byte _ hc))
  clear ho4 hb4 HO2 HB2 HBY
  go_wp2_with (at_builtin; refine app_by rfl _ _ rfl w.heap.size _ (2 + n) (hd zs) rfl HO4.out w4.heap.size _ _ _ (tw (crc (hd zs))) rfl HY4.out (by omega) hs4 ?_)
  intro v5 w5 ho5 hb5
  obtain ⟨g5, c5, hv5⟩ := shape_of ho5 (by omega)
  rw [hv5] at ho5 ⊢
  rw [show 2 + n + 2 = n + 4 by omega] at ho5 ⊢
  have HO5 := Lib.hid ho5
  have HB5 := Lib.hid (HB4.out.trans hb5)
  clear ho5 hb5 hv5 HO4 HY4 HB4
  go_wp2
  go_ret2
  exact ⟨g5, c5, rfl, HO5.out, HB5.out⟩

end Go.Proofs.YtobpinelhjpfgaaDoor
end

section
namespace Go.Proofs.YtobpinelhjpfgaaDoor
open Go.RowKit Bp Ck

/-- Are the bytes a frame? -/
def isFrm (f : List Nat) : Bool := decide (4 ≤ f.length) && decide (f.length ≤ 1004) && (f.length == 256 * f.getD 0 0 + f.getD 1 0 + 4) && (crc (f.take (f.length - 2)) == 256 * f.getD (f.length - 2) 0 + f.getD (f.length - 1) 0)
/-- What a frame has. -/
def inn (f : List Nat) : List Nat := (f.drop 2).take (f.length - 4)

theorem isFrame_short {B : Nat} {w : World} {A : Option Addr} {n cap : Nat} {zs : List Nat} (h : By B w A n cap zs) (hn : n < 4) :
    Calls Tryd.prog 100 #[.slice A n cap] w fun e w' => e = .returned (.bool false) ∧ w = w' := by
  have hle := h.le
  clear h
  go_enter Tryd.func100, Tryd.ntmps100
  go_wp2
  go_ret
  exact ⟨rfl, rfl⟩
theorem isFrame_long {B : Nat} {w : World} {A : Option Addr} {n cap : Nat} {zs : List Nat} (h : By B w A n cap zs) (hn : 1004 < n) :
    Calls Tryd.prog 100 #[.slice A n cap] w fun e w' => e = .returned (.bool false) ∧ w = w' := by
  have hle := h.le
  have hmx := h.max
  unfold maxLen at hmx
  clear h
  have h4 : ¬ n < 4 := by omega
  go_enter Tryd.func100, Tryd.ntmps100
  go_wp2
  go_ret
  exact ⟨rfl, rfl⟩
theorem isFrame_other {B : Nat} {w : World} {A : Option Addr} {n cap : Nat} {zs : List Nat} (h : By B w A n cap zs) (h4 : 4 ≤ n) (hn : n ≤ 1004) (hne : n ≠ 256 * zs.getD 0 0 + zs.getD 1 0 + 4) :
    Calls Tryd.prog 100 #[.slice A n cap] w fun e w' => e = .returned (.bool false) ∧ Below w.heap.size w w' := by
  have HF := Lib.hid (frameLen_any h (by omega))
  clear h
  generalize 256 * zs.getD 0 0 + zs.getD 1 0 + 4 = m at *
  have hb : ((n : Int) != (m : Int)) = true := by rw [bne_iff_ne]; omega
  go_enter Tryd.func100, Tryd.ntmps100
  go_wp2_with fail
  refine HF.out.mono ?_
  rintro e w1 ⟨rfl, hB⟩
  have HB := Lib.hid hB
  clear hB
  go_wp2
  go_ret
  exact ⟨rfl, HB.out⟩

theorem ret_bool {a b : Bool} (h : a = b) : Ending.returned (.bool a) = .returned (.bool b) := by rw [h]
theorem beq_nat (a b : Nat) : ((a : Int) == (b : Int)) = (a == b) := by
  by_cases h : a = b
  · subst h; simp
  · rw [beq_eq_false_iff_ne.2 h, beq_eq_false_iff_ne.2 (by omega)]
theorem drop_two (zs : List Nat) (h : 2 ≤ zs.length) : (zs.drop (zs.length - 2)).take (zs.length - (zs.length - 2)) = [zs.getD (zs.length - 2) 0, zs.getD (zs.length - 1) 0] := by
  apply List.ext_getElem?
  intro i
  rw [List.getElem?_take]
  have e : zs.length - (zs.length - 2) = 2 := by omega
  rw [e]
  match i with
  | 0 => simp [List.getD, List.getElem?_eq_getElem (show zs.length - 2 < zs.length by omega)]
  | 1 => simp [List.getD, List.getElem?_eq_getElem (show zs.length - 2 + 1 < zs.length by omega), show zs.length - 1 = zs.length - 2 + 1 by omega]
  | k + 2 => rw [if_neg (by omega)]; simp

set_option maxHeartbeats 1000000 in
theorem isFrame_sum {B : Nat} {w : World} {A : Option Addr} {n cap : Nat} {zs : List Nat} (h : By B w A n cap zs) (hB : B ≤ w.heap.size) (h4 : 4 ≤ n) (hn : n ≤ 1004) (heq : n = 256 * zs.getD 0 0 + zs.getD 1 0 + 4) :
    Calls Tryd.prog 100 #[.slice A n cap] w fun e w' => e = .returned (.bool (crc (zs.take (n - 2)) == 256 * zs.getD (n - 2) 0 + zs.getD (n - 1) 0)) ∧ Below w.heap.size w w' := by
  have hl := h.len
  have hle := h.le
  have hmx := h.max
  unfold maxLen at hmx
  have HF := Lib.hid (frameLen_any h (by omega))
  rw [← heq] at HF
  have HE := Lib.hid heq
  have hS : ∀ W, Below w.heap.size w W → Calls Tryd.prog 113 #[.slice A (n - 2) cap] W fun e w' => e = .returned (.int .u16 ((crc (zs.take (n - 2)) : Nat) : Int)) ∧ W = w' := fun W hW =>
    sum_any ((h.take (n - 2) (by omega)).below (hW.mono hB))
  have hT : ∀ W, Below w.heap.size w W → Calls Tryd.prog 115 #[.slice (cutA A (n - 2) cap) 2 (cap - (n - 2))] W fun e w' => e = .returned (.int .u16 ((256 * zs.getD (n - 2) 0 + zs.getD (n - 1) 0 : Nat) : Int)) ∧ Below W.heap.size W w' := fun W hW => by
    have hc := (h.cut (n - 2) n cap (by omega) (by omega) (by omega) (by omega)).below (hW.mono hB)
    have hd := drop_two zs (by omega)
    rw [hl] at hd
    rw [hd, show n - (n - 2) = 2 by omega] at hc
    exact take16_any hc
  have HS := Lib.hid hS
  have HT := Lib.hid hT
  have s1 : ∀ wx, (Instr.slice 35 (.slice A n cap) none (some (.int .i64 ((n : Int) - 2))) none).run Tryd.prog wx = .ok (.slice A (n - 2) cap) wx := fun wx => by
    have := slice_h A n cap (n - 2) wx (by omega)
    rw [show ((n - 2 : Nat) : Int) = (n : Int) - 2 by omega] at this
    exact this
  have s2 : ∀ wx, (Instr.slice 35 (.slice A n cap) (some (.int .i64 ((n : Int) - 2))) none none).run Tryd.prog wx = .ok (.slice (cutA A (n - 2) cap) 2 (cap - (n - 2))) wx := fun wx => by
    have := slice_l A n cap (n - 2) wx (by omega)
    rw [show ((n - 2 : Nat) : Int) = (n : Int) - 2 by omega, show n - (n - 2) = 2 by omega] at this
    exact this
  clear hS hT heq h
  have hb : ((n : Int) != (n : Int)) = false := by simp
  generalize crc (zs.take (n - 2)) = c at *
  generalize 256 * zs.getD (n - 2) 0 + zs.getD (n - 1) 0 = m at *
  have HL := Lib.hid hl
  clear hl
  go_enter Tryd.func100, Tryd.ntmps100
  go_wp2_with fail
  refine HF.out.mono ?_
  rintro e w1 ⟨rfl, hB1⟩
  have HB1 := Lib.hid hB1
  clear hB1
  go_wp2
  first | (go_region_with (first | (go_at_call 115; refine (HT.out _ (by exact HB1.out.drew)).mono ?_; rintro e w8 ⟨rfl, hB8⟩; have HB8 := Lib.hid (HB1.out.drew.trans (hB8.mono (by exact HB1.out.size))); clear hB8) | (go_at_call 113; refine (HS.out _ (by exact HB8.out)).mono ?_; rintro e w9 ⟨rfl, rfl⟩) | (go_at_call 113; refine (HS.out _ (by exact HB1.out.drew)).mono ?_; rintro e w9 ⟨rfl, rfl⟩))) | fail
  all_goals (go_wp2; go_ret; exact ⟨ret_bool (beq_nat c m), HB8.out⟩)

theorem isFrame_any {B : Nat} {w : World} {A : Option Addr} {n cap : Nat} {zs : List Nat} (h : By B w A n cap zs) (hB : B ≤ w.heap.size) :
    Calls Tryd.prog 100 #[.slice A n cap] w fun e w' => e = .returned (.bool (isFrm zs)) ∧ Below w.heap.size w w' := by
  have hl := h.len
  by_cases h4 : n < 4
  · refine (isFrame_short h h4).mono ?_
    rintro e w' ⟨rfl, rfl⟩
    exact ⟨ret_bool (by unfold isFrm; rw [decide_eq_false (by omega : ¬ 4 ≤ zs.length)]; rfl), Below.refl _ _⟩
  by_cases h5 : 1004 < n
  · refine (isFrame_long h h5).mono ?_
    rintro e w' ⟨rfl, rfl⟩
    exact ⟨ret_bool (by unfold isFrm; rw [decide_eq_false (by omega : ¬ zs.length ≤ 1004)]; simp), Below.refl _ _⟩
  by_cases h6 : n = 256 * zs.getD 0 0 + zs.getD 1 0 + 4
  · refine (isFrame_sum h hB (by omega) (by omega) h6).mono ?_
    rintro e w' ⟨rfl, hb⟩
    refine ⟨ret_bool ?_, hb⟩
    unfold isFrm
    rw [decide_eq_true (by omega : 4 ≤ zs.length), decide_eq_true (by omega : zs.length ≤ 1004), hl, beq_iff_eq.2 h6]
    rfl
  · refine (isFrame_other h (by omega) (by omega) h6).mono ?_
    rintro e w' ⟨rfl, hb⟩
    refine ⟨ret_bool ?_, hb⟩
    unfold isFrm
    rw [hl, beq_eq_false_iff_ne.2 h6]
    simp

theorem isFrm_len {f : List Nat} (h : isFrm f = true) : 4 ≤ f.length ∧ f.length ≤ 1004 := by
  unfold isFrm at h
  simp only [Bool.and_eq_true, decide_eq_true_eq] at h
  exact h.1.1

theorem open_no {B : Nat} {w : World} {A : Option Addr} {n cap : Nat} {zs : List Nat} (h : By B w A n cap zs) (hB : B ≤ w.heap.size) (hf : isFrm zs = false) :
    Calls Tryd.prog 72 #[.slice A n cap] w fun e w' => e = .returned (.tuple #[.slice none 0 0, .bool false]) ∧ Below w.heap.size w w' := by
  have hi := isFrame_any h hB
  rw [hf] at hi
  have HI := Lib.hid hi
  clear hi hf h
  go_enter Tryd.func72, Tryd.ntmps72
  go_wp2_with fail
  refine HI.out.mono ?_
  rintro e w1 ⟨rfl, hb⟩
  have HB := Lib.hid hb
  clear hb
  go_wp2
  go_ret2
  exact ⟨rfl, HB.out⟩

-- What is opened lies in new memory, with no room behind it.
set_option maxHeartbeats 1000000 in
theorem open_yes {B : Nat} {w : World} {A : Option Addr} {n cap : Nat} {zs : List Nat} (h : By B w A n cap zs) (hB : B ≤ w.heap.size) (hf : isFrm zs = true) :
    Calls Tryd.prog 72 #[.slice A n cap] w fun e w' => ∃ A', e = .returned (.tuple #[.slice A' (n - 4) (n - 4), .bool true]) ∧ By w'.heap.size w' A' (n - 4) (n - 4) (inn zs) ∧ (∀ x, A' = some x → w.heap.size ≤ x.block) ∧ Below w.heap.size w w' := by
  have hl := h.len
  obtain ⟨f1, f2⟩ := isFrm_len hf
  have hi := isFrame_any h hB
  rw [hf] at hi
  have HI := Lib.hid hi
  have HH := Lib.hid h
  have HBy := Lib.hid h.byte
  have HL := Lib.hid hl
  have hn4 : 4 ≤ n := by omega
  have hn5 : n ≤ 1004 := by omega
  clear hi hf h hl f1 f2
  go_enter Tryd.func72, Tryd.ntmps72
  go_wp2_with fail
  refine HI.out.mono ?_
  rintro e w1 ⟨rfl, hb⟩
  have HB := Lib.hid hb
  have HH1 := Lib.hid (HH.out.below (hb.mono hB))
  clear hb HI HH
  go_wp2_with fail
  refine (bclone_any HH1.out (by omega) (by omega)).mono ?_
  rintro e w2 ⟨g, c, rfl, ho, hb⟩
  have hy := By.own ho HBy.out
  have hc := hy.le
  have HY := Lib.hid hy
  have hgf : w.heap.size ≤ g := Nat.le_trans HB.out.size (ho.lt g rfl).1
  have HB2 := Lib.hid (HB.out.trans (hb.mono HB.out.size))
  clear ho hb hy HH1 HB
  go_wp2_with fail
  refine (cut_any _ n c 2 (n - 2) _ _ _ (by omega) (by omega) rfl (by omega)).mono ?_
  rintro e w3 ⟨rfl, rfl⟩
  rw [show n - 2 - 2 = n - 4 by omega]
  have HC : Hid (By w2.heap.size w2 (cutA (some ⟨g, 0, none⟩) 2 (n - 2)) (n - 4) (n - 4) (inn zs)) := Lib.hid (by
    have := HY.out.cut 2 (n - 2) (n - 2) (by omega) (by omega) (by omega) (by omega)
    rw [show n - 2 - 2 = n - 4 by omega] at this
    unfold inn
    rw [HL.out]
    exact this)
  go_wp2
  go_ret2
  refine ⟨_, rfl, HC.out, fun x hx => ?_, HB2.out⟩
  unfold cutA at hx
  split at hx
  · simp only [Option.some.injEq] at hx
    subst hx; exact hgf
  · simp only [Option.map_some, Option.some.injEq, plain_add] at hx
    subst hx; exact hgf

end Go.Proofs.YtobpinelhjpfgaaDoor
end

section
namespace Go.Proofs.YtobpinelhjpfgaaDoor
open Go.RowKit Bp Ck

/-- The bytes that must be a frame, if b begins with one. -/
def ahd (b : List Nat) : List Nat := if b.length < 4 then [] else b.take (256 * b.getD 0 0 + b.getD 1 0 + 4)
theorem ahd_len (b : List Nat) : (ahd b).length ≤ b.length := by
  unfold ahd
  split
  · simp
  · rw [List.length_take]; omega


/-- The lists ls lie at the slice (A, n, cap) of slices of bytes. -/
structure Bss (B : Nat) (w : World) (A : Option Addr) (n cap : Nat) (ls : List (List Nat)) : Prop where
  len : ls.length = n
  le : n ≤ cap
  max : cap ≤ maxLen
  cell : 0 < n → ∃ g off, A = some ⟨g, off, none⟩ ∧ g < B ∧ ∀ j, j < n → ∃ A' n' c', w.cell? ⟨g, off + j, none⟩ = some (.slice A' n' c') ∧ By B w A' n' c' (ls.getD j [])

theorem Bss.below {B : Nat} {w w' : World} {A : Option Addr} {n cap : Nat} {ls : List (List Nat)} (h : Bss B w A n cap ls) (hb : Below B w w') : Bss B w' A n cap ls :=
  ⟨h.len, h.le, h.max, fun hn => by
    obtain ⟨g, off, hA, hg, hc⟩ := h.cell hn
    refine ⟨g, off, hA, hg, fun j hj => ?_⟩
    obtain ⟨A', n', c', h1, h2⟩ := hc j hj
    exact ⟨A', n', c', (hb.cell (p := ⟨g, off + j, none⟩) hg).trans h1, h2.below hb⟩⟩
theorem Bss.mono {B B' : Nat} {w : World} {A : Option Addr} {n cap : Nat} {ls : List (List Nat)} (h : Bss B w A n cap ls) (hb : B ≤ B') : Bss B' w A n cap ls :=
  ⟨h.len, h.le, h.max, fun hn => by
    obtain ⟨g, off, hA, hg, hc⟩ := h.cell hn
    refine ⟨g, off, hA, by omega, fun j hj => ?_⟩
    obtain ⟨A', n', c', h1, h2⟩ := hc j hj
    exact ⟨A', n', c', h1, h2.mono hb⟩⟩
theorem Bss.drew {B : Nat} {w : World} {A : Option Addr} {n cap : Nat} {ls : List (List Nat)} (h : Bss B w A n cap ls) : Bss B w.drew A n cap ls := h.below (Below.refl _ _).drew
theorem Bss.take {B : Nat} {w : World} {A : Option Addr} {n cap : Nat} {ls : List (List Nat)} (h : Bss B w A n cap ls) (e : Nat) (h2 : e ≤ n) : Bss B w A e cap (ls.take e) := by
  have hl := h.len
  refine ⟨by rw [List.length_take]; omega, by have := h.le; omega, h.max, fun hn => ?_⟩
  obtain ⟨g, off, hA, hg, hc⟩ := h.cell (by omega)
  refine ⟨g, off, hA, hg, fun j hj => ?_⟩
  obtain ⟨A', n', c', h1, h2⟩ := hc j (by omega)
  refine ⟨A', n', c', h1, ?_⟩
  have : (ls.take e).getD j [] = ls.getD j [] := by simp [List.getD, hj]
  rw [this]; exact h2
theorem Bss.cut {B : Nat} {w : World} {A : Option Addr} {n cap : Nat} {ls : List (List Nat)} (h : Bss B w A n cap ls) (l : Nat) (h1 : l ≤ n) : Bss B w (cutA A l cap) (n - l) (cap - l) (ls.drop l) := by
  have hl := h.len
  have hle := h.le
  refine ⟨by rw [List.length_drop]; omega, by omega, by have := h.max; omega, fun hn => ?_⟩
  obtain ⟨g, off, hA, hg, hc⟩ := h.cell (by omega)
  subst hA
  unfold cutA
  rw [if_neg (by omega)]
  refine ⟨g, off + l, by simp [plain_add], hg, fun j hj => ?_⟩
  obtain ⟨A', n', c', h1, h2⟩ := hc (l + j) (by omega)
  refine ⟨A', n', c', by rw [Nat.add_assoc]; exact h1, ?_⟩
  have : (ls.drop l).getD j [] = ls.getD (l + j) [] := by simp [List.getD]
  rw [this]; exact h2

/-- Bytes do not lie in the block of a row. -/
def Apart (v : Value) (A : Option Addr) (n : Nat) : Prop := 0 < n → ∀ x, A = some x → v.ownBlock ≠ some x.block
/-- A row of one's own of slices of bytes: what each of them reads as. -/
structure Lst (base : Nat) (w : World) (v : Value) (ls : List (List Nat)) : Prop where
  row : ∃ cs : List Value, w.ownsRow base 35 1 v ls.length cs ∧ ∀ j, j < ls.length → ∃ A' n' c', cs[j]? = some (.slice A' n' c') ∧ By w.heap.size w A' n' c' (ls.getD j []) ∧ Apart v A' n'
theorem Lst.none_ (base : Nat) (w : World) : Lst base w (.slice none 0 0) [] := ⟨[], World.ownsRow_nil _ _ _ _, fun j hj => by simp at hj⟩
theorem Lst.bss {base : Nat} {w : World} {v : Value} {ls : List (List Nat)} (h : Lst base w v ls) : ∃ A c, v = .slice A ls.length c ∧ Bss w.heap.size w A ls.length c ls := by
  obtain ⟨cs, ho, hc⟩ := h.row
  have hcl := ho.1
  rcases ho.2 with ⟨rfl, h0⟩ | ⟨g, cap, cur, rfl, hg, hh, hnc, hcm, _⟩
  · have : ls = [] := List.eq_nil_of_length_eq_zero h0
    subst this
    exact ⟨none, 0, rfl, rfl, Nat.le_refl _, Nat.zero_le _, fun h => by simp at h⟩
  · refine ⟨some ⟨g, 0, none⟩, cap, rfl, rfl, hnc, hcm, fun hn => ⟨g, 0, rfl, lt_of_heap hh, fun j hj => ?_⟩⟩
    obtain ⟨A', n', c', h1, h2, _⟩ := hc j hj
    exact ⟨A', n', c', by rw [Nat.zero_add, ho.cellAt j (by omega)]; exact h1, h2⟩
theorem Lst.later {base : Nat} {w w' : World} {v : Value} {ls : List (List Nat)} (h : Lst base w v ls) (hb : Below w.heap.size w w') : Lst base w' v ls := by
  obtain ⟨cs, ho, hc⟩ := h.row
  refine ⟨cs, ownsRow_same ho (fun k hk => hb.block k (ho.lt k hk).2), fun j hj => ?_⟩
  obtain ⟨A', n', c', h1, h2, h3⟩ := hc j hj
  exact ⟨A', n', c', h1, (h2.below hb).mono hb.size, h3⟩

theorem Tryd.infoBs : (Tryd.prog.info? 35).map (fun i => (i.zero, i.size, i.bytes)) = some (some (.slice none 0 0), 1, 24) := by kernel_rfl

/-- A slice of bytes is appended to a row of one's own. -/
theorem app_one {w : World} {ops : Array Oper} {rest : List Oper} {o : Oper} {a : Act} {Q : Exit → Act → World → Prop} (hgd : o.guard = none) (s x : Operand)
    (ho : o.op = .call { callee := .builtin .append, args := #[s, x], argTypes := #[109, 109] })
    (base : Nat) (v : Value) (ls : List (List Nat)) (hs : a.eval s = v) (A : Option Addr) (n c : Nat) (zs : List Nat) (w0 : World) (hw : w = w0.alloc (.cells #[.slice A n c] 35)) (hl : Lst base w0 v ls)
    (hx : a.eval x = .slice (some ⟨w0.heap.size, 0, none⟩) 1 1) (hr : By w0.heap.size w0 A n c zs) (hap : Apart v A n) (hf : ls.length ≤ 1048576) (hbase : base ≤ w0.heap.size)
    (h : ∀ A' c' w', Lst base w' (.slice A' (ls.length + 1) c') (ls ++ [zs]) → Below base w0 w' → wpList Tryd.prog ops Q rest (a.put o.dst (.slice A' (ls.length + 1) c')) w') : wpList Tryd.prog ops Q (o :: rest) a w := by
  obtain ⟨i0, hi, hz0, hz1, hz2⟩ := info_parts Tryd.infoBs
  obtain ⟨cs, hown, hc⟩ := hl.row
  subst hw
  refine wpList_append_own_at _ hgd s x 109 ho base 35 i0 (.slice none 0 0) 1 24 Tryd.underlying109 hi hz0 hz1 hz2 rfl (by decide) v ls.length cs hs (hown.alloc _) ⟨w0.heap.size, 0, none⟩ 1 1 [.slice A n c] hx rfl ?_ ?_ (by unfold maxLen; omega) (by omega) (by simp; omega) ?_
  · intro j u hj
    match j, hj with
    | 0, hj => simp at hj; subst hj; simp [Addr.add]
  · intro u hu; simp at hu; subst hu; rfl
  intro v' w' h1 h2 h3 h4
  obtain ⟨A', c', hv⟩ := ownsRow_shape h1
  subst hv
  have hcl := hown.1
  have hB0 : Below base w0 w' := Below.grown ((Below.refl _ _).alloc hbase _) h2 (by simp; omega) (fun k hk => (hown.lt k hk).1)
  have hBr : ∀ {A2 n2 c2 zs2}, By w0.heap.size w0 A2 n2 c2 zs2 → Apart v A2 n2 → By w'.heap.size w' A2 n2 c2 zs2 ∧ Apart (.slice A' (ls.length + 1) c') A2 n2 := by
    intro A2 n2 c2 zs2 hy hp
    refine ⟨⟨hy.len, hy.le, hy.max, hy.nil, hy.byte, fun hn => ?_⟩, fun hn x hx e => ?_⟩
    · obtain ⟨g, off, hA, hg, hcell⟩ := hy.cell hn
      refine ⟨g, off, hA, Nat.lt_of_lt_of_le hg hB0.size, fun j hj => ?_⟩
      rw [World.cell?_of_block (a := ⟨g, off + j, none⟩) (h2.block g (by simp; omega) (fun e => hp hn _ hA e.symm)), World.cell?_alloc_lt _ _ _ hg]
      exact hcell j hj
    · obtain ⟨g, off, hA, hg, hcell⟩ := hy.cell hn
      rw [hA] at hx
      simp only [Option.some.injEq] at hx
      subst hx
      rcases h4 with h4 | h4
      · rw [h4] at e; exact hp hn _ hA e
      · rw [h4] at e
        simp at e
        omega
  refine h A' c' w' ⟨cs ++ [.slice A n c], by simpa using h1, fun j hj => ?_⟩ hB0
  rw [List.length_append, List.length_singleton] at hj
  rcases Nat.lt_or_ge j ls.length with hj' | hj'
  · obtain ⟨A2, n2, c2, e1, e2, e3⟩ := hc j hj'
    refine ⟨A2, n2, c2, by rw [List.getElem?_append_left (by omega)]; exact e1, ?_⟩
    have : (ls ++ [zs]).getD j [] = ls.getD j [] := by simp [List.getD, List.getElem?_append_left hj']
    rw [this]; exact hBr e2 e3
  · have hj2 : j = ls.length := by omega
    subst hj2
    refine ⟨A, n, c, by rw [List.getElem?_append_right (by omega)]; simp [hcl], ?_⟩
    have : (ls ++ [zs]).getD ls.length [] = zs := by simp [List.getD]
    rw [this]; exact hBr hr hap

end Go.Proofs.YtobpinelhjpfgaaDoor
end
