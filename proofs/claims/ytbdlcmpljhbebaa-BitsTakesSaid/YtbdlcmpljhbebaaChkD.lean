/-
  Frames: Frame, isFrame, Open.
-/
import Derived.Test.YtbdlcmpljhbebaaChkC
import Derived.Deep.QuietTactic
import Derived.BigQuiet
set_option linter.unusedVariables false
namespace Go.Proofs.Ytbdlcmpljhbebaa
open Go.RowKit Bp Ck

/-- Bytes are appended to bytes of one's own. -/
theorem app_by {w : World} {ops : Array Oper} {rest : List Oper} {o : Oper} {a : Act} {Q : Exit → Act → World → Prop} (hgd : o.guard = none) (s x : Operand)
    (ho : o.op = .call { callee := .builtin .append, args := #[s, x], argTypes := #[22, 22] })
    (base : Nat) (v : Value) (n : Nat) (xs : List Nat) (hs : a.eval s = v) (hown : w.ownsRow base 5 1 v n (bc xs))
    (B : Nat) (A : Option Addr) (m c : Nat) (zs : List Nat) (hx : a.eval x = .slice A m c) (hr : By B w A m c zs) (hf : n + m ≤ 1048576) (hbase : base ≤ w.heap.size)
    (h : ∀ v' w', w'.ownsRow base 5 1 v' (n + m) (bc (xs ++ zs)) → Below base w w' → wpList Try.prog ops Q rest (a.put o.dst v') w') : wpList Try.prog ops Q (o :: rest) a w := by
  obtain ⟨i0, hi, hz0, hz1, hz2⟩ := info_parts Try.infoU8
  rcases hr.bytesAt with ⟨e, rfl⟩ | ⟨ad, c', e, hcells⟩
  · simp only [Value.slice.injEq] at e
    obtain ⟨rfl, rfl, rfl⟩ := e
    exact wpList_append_own_none hgd s x 22 ho base 5 i0 1 Try.underlying22 hi v n (bc xs) hs hown hx (h v w (by simpa using hown) (Below.refl _ _))
  · rw [hr.len] at e
    simp only [Value.slice.injEq, true_and] at e
    obtain ⟨rfl, rfl⟩ := e
    refine wpList_append_own_at w hgd s x 22 ho base 5 i0 (.int .u8 0) 1 1 Try.underlying22 hi hz0 hz1 hz2 rfl (by decide) v n (bc xs) hs hown ad m c (bc zs) hx (by rw [bc_length, hr.len]; omega) hcells (bc_one zs) (by unfold maxLen; omega) (by omega) hbase ?_
    intro v' w' h1 h2 h3 h4
    exact h v' w' (by rw [bc_app]; exact h1) (Below.grown (Below.refl _ _) h2 hbase (fun k hk => (hown.lt k hk).1))

/-- A frame of bytes. -/
def hd (zs : List Nat) : List Nat := tw zs.length ++ zs
def frm (zs : List Nat) : List Nat := hd zs ++ tw (crc (hd zs))
theorem tw_len (n : Nat) : (tw n).length = 2 := rfl
theorem hd_len (zs : List Nat) : (hd zs).length = zs.length + 2 := by simp [hd, tw_len]; omega
theorem frm_len (zs : List Nat) : (frm zs).length = zs.length + 4 := by simp [frm, hd_len, tw_len]
theorem hd_byte (zs : List Nat) (h : ∀ z ∈ zs, z ≤ 255) (hl : zs.length < 65536) : ∀ z ∈ hd zs, z ≤ 255 := by
  intro z hz
  rcases List.mem_append.1 hz with x | x
  · exact tw_byte _ hl z x
  · exact h z x
theorem frm_byte (zs : List Nat) (h : ∀ z ∈ zs, z ≤ 255) (hl : zs.length < 65536) : ∀ z ∈ frm zs, z ≤ 255 := by
  intro z hz
  rcases List.mem_append.1 hz with x | x
  · exact hd_byte zs h hl z x
  · exact tw_byte _ (crc_lt _ (hd_byte zs h hl)) z x

theorem frame_long {B : Nat} {w : World} {A : Option Addr} {n cap : Nat} {zs : List Nat} (h : By B w A n cap zs) (hn : 1000 < n) :
    Calls Try.prog 26 #[.slice A n cap] w fun e w' => e = .returned (.tuple #[.slice none 0 0, .int .i64 4]) ∧ w = w' := by
  have hle := h.le
  have hmx := h.max
  unfold maxLen at hmx
  clear h
  go_enter Try.func26, Try.ntmps26
  go_wp2
  go_ret2
  exact ⟨rfl, rfl⟩

set_option maxHeartbeats 1000000 in
theorem frame_ok {B : Nat} {w : World} {A : Option Addr} {n cap : Nat} {zs : List Nat} (h : By B w A n cap zs) (hB : B ≤ w.heap.size) (hn : n ≤ 1000) :
    Calls Try.prog 26 #[.slice A n cap] w fun e w' => ∃ g c, e = .returned (.tuple #[.slice (some ⟨g, 0, none⟩) (n + 4) c, .int .i64 0]) ∧ w'.ownsRow w.heap.size 5 1 (.slice (some ⟨g, 0, none⟩) (n + 4) c) (n + 4) (bc (frm zs)) ∧ Below w.heap.size w w' := by
  have HL := Lib.hid h.len
  have HBy := Lib.hid h.byte
  have HH := Lib.hid h
  clear h
  go_enter Try.func26, Try.ntmps26
  go_wp2_with fail
  refine (lay16_any n (by omega) _).mono ?_
  rintro e w1 ⟨g1, c1, rfl, ho1, hb1⟩
  have HO1 := Lib.hid ho1
  have HB1 := Lib.hid hb1
  have hs1 := hb1.size
  have HH1 := Lib.hid (HH.out.below (hb1.mono hB))
  clear ho1 hb1 HH
  go_wp2_with (at_builtin; refine app_by rfl _ _ rfl w.heap.size _ 2 (tw n) rfl HO1.out B _ _ _ zs rfl HH1.out (by omega) hs1 ?_)
  intro v2 w2 ho2 hb2
  obtain ⟨g2, c2, hv2⟩ := shape_of ho2 (by omega)
  rw [hv2] at ho2 ⊢
  rw [show tw n ++ zs = hd zs by unfold hd; rw [HL.out]] at ho2
  have hs2 := Nat.le_trans hs1 hb2.size
  have HB2 := Lib.hid (HB1.out.trans hb2)
  have HO2 := Lib.hid ho2
  have hby : ∀ z ∈ hd zs, z ≤ 255 := hd_byte zs HBy.out (by rw [HL.out]; omega)
  have HBY := Lib.hid (By.own ho2 hby)
  have hc := crc_lt _ hby
  clear ho2 hb2 hv2 HO1 HB1 HH1 hby
  go_wp2_with fail
  refine (sum_any HBY.out).mono ?_
  rintro e w3 ⟨rfl, rfl⟩
  go_wp2_with fail
  refine (lay16_any _ hc _).mono ?_
  rintro e w4 ⟨g4, c4, rfl, ho4, hb4⟩
  have HB4 := Lib.hid (HB2.out.trans (hb4.mono hs2))
  have hs4 := Nat.le_trans hs2 hb4.size
  have HO4 : Hid (w4.ownsRow w.heap.size 5 1 (.slice (some ⟨g2, 0, none⟩) (2 + n) c2) (2 + n) (bc (hd zs))) := Lib.hid (ownsRow_same HO2.out (fun k hk => hb4.block k (HO2.out.lt k hk).2))
  have HY4 := Lib.hid (By.own ho4 (tw_byte _ hc))
  clear ho4 hb4 HO2 HB2 HBY
  go_wp2_with (at_builtin; refine app_by rfl _ _ rfl w.heap.size _ (2 + n) (hd zs) rfl HO4.out w4.heap.size _ _ _ (tw (crc (hd zs))) rfl HY4.out (by omega) hs4 ?_)
  intro v5 w5 ho5 hb5
  obtain ⟨g5, c5, hv5⟩ := shape_of ho5 (by omega)
  rw [hv5] at ho5 ⊢
  rw [show 2 + n + 2 = n + 4 by omega] at ho5 ⊢
  have HO5 := Lib.hid ho5
  have HB5 := Lib.hid (HB4.out.trans hb5)
  clear ho5 hb5 hv5 HO4 HY4 HB4
  go_wp2
  go_ret2
  exact ⟨g5, c5, rfl, HO5.out, HB5.out⟩

end Go.Proofs.Ytbdlcmpljhbebaa
