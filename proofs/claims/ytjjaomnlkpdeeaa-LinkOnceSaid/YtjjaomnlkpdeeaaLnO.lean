/-
  Layer 14: what always holds of what was told and heard over two networks; what comes to the receiver.
-/
import Derived.Test.YtjjaomnlkpdeeaaLnN
set_option linter.unusedVariables false
set_option maxRecDepth 100000
namespace Go.Proofs.Ytjjaomnlkpdeeaa
namespace Ln
open Go.RowKit Bp Ck
/-- That text is the packet of one of the things. -/
def To (T : List ByteArray) (s : ByteArray) : Prop := ∃ k d, s = strOf (play false (k + 1) d) ∧ Ok false (k + 1) d ∧ T[k]? = some (strOf d)
/-- That text is what was sent back for one of so many. -/
def Fro (n : Nat) (s : ByteArray) : Prop := ∃ k, s = strOf (play true (k + 1) []) ∧ k < n
structure Pl (j : Nat) (z : Zu) : Prop where
  heard : z.heard = z.H.length
  hH : z.H = z.T.take z.H.length
  hle : z.H.length ≤ z.T.length
  lo : z.told ≤ z.heard
  hi : z.heard ≤ z.told + 1
  len : z.T.length = z.told + (if z.pk = [] then 0 else 1)
  pk : z.pk = [] ∨ ∃ d, z.pk = play false (z.told + 1) d ∧ Ok false (z.told + 1) d ∧ z.T[z.told]? = some (strOf d)
  l1 : ∀ s ∈ z.L1, To z.T s
  l2 : ∀ s ∈ z.L2, Fro z.heard s
  few : z.T.length ≤ j
section
variable {j : Nat} {z : Zu}
theorem Pl.more (h : Pl j z) : Pl (j + 1) z := ⟨h.heard, h.hH, h.hle, h.lo, h.hi, h.len, h.pk, h.l1, h.l2, by have := h.few; omega⟩
theorem se_mem {L : List ByteArray} {s x : ByteArray} (h : x ∈ Nw.seL L s) : x ∈ L ∨ x = s := by
  unfold Nw.seL at h
  split at h
  · exact .inl h
  · rcases List.mem_append.1 h with y | y
    · exact .inl y
    · exact .inr (by simpa using y)
theorem ouA_sub {L : List ByteArray} {i : Int} {x : ByteArray} (h : x ∈ Nw.ouA i L) : x ∈ L := by
  unfold Nw.ouA at h
  split at h
  · exact Nw.ou_sub h
  · exact h
/-- A thing is told. -/
theorem Pl.tell (h : Pl j z) (hp : z.pk = []) {d : List Nat} (hok : Ok false (z.told + 1) d) (v' vT' : Value) : Pl (j + 1) { z with v := v', pk := play false (z.told + 1) d, vT := vT', T := z.T ++ [strOf d] } := by
  have hl := h.len
  rw [if_pos hp] at hl
  have hne := play_ne hok
  have hget : ∀ k s, z.T[k]? = some s → (z.T ++ [strOf d])[k]? = some s := fun k s e => by
    rw [List.getElem?_append_left (List.getElem?_eq_some_iff.1 e).1]; exact e
  refine ⟨h.heard, ?_, by show z.H.length ≤ (z.T ++ [strOf d]).length; rw [List.length_append]; have := h.hle; omega, h.lo, h.hi, ?_, .inr ⟨d, rfl, hok, ?_⟩, fun s hs => ?_, h.l2, ?_⟩
  · show z.H = (z.T ++ [strOf d]).take z.H.length
    rw [List.take_append_of_le_length h.hle]; exact h.hH
  · show (z.T ++ [strOf d]).length = z.told + (if play false (z.told + 1) d = [] then 0 else 1)
    rw [if_neg hne, List.length_append]
    simp; omega
  · show (z.T ++ [strOf d])[z.told]? = _
    rw [List.getElem?_append_right (by omega), show z.told - z.T.length = 0 by omega]; rfl
  · obtain ⟨k, d2, e1, e2, e3⟩ := h.l1 s hs
    exact ⟨k, d2, e1, e2, hget _ _ e3⟩
  · show (z.T ++ [strOf d]).length ≤ j + 1
    rw [List.length_append]; have := h.few; simp; omega
/-- The packet is sent. -/
theorem Pl.send (h : Pl j z) (hp : z.pk ≠ []) (v' : Value) (P' : List Value) : Pl j { z with v1 := v', P1 := P', L1 := Nw.seL z.L1 (strOf z.pk) } := by
  refine ⟨h.heard, h.hH, h.hle, h.lo, h.hi, h.len, h.pk, fun s hs => ?_, h.l2, h.few⟩
  rcases se_mem hs with x | rfl
  · exact h.l1 s x
  · obtain e | ⟨d, e1, e2, e3⟩ := h.pk
    · exact absurd e hp
    · exact ⟨z.told, d, by rw [e1], e2, e3⟩
theorem Pl.lose1 (h : Pl j z) (v' : Value) (P' : List Value) (i : Int) : Pl j { z with v1 := v', P1 := P', L1 := Nw.ouA i z.L1 } :=
  ⟨h.heard, h.hH, h.hle, h.lo, h.hi, h.len, h.pk, fun s hs => h.l1 s (ouA_sub hs), h.l2, h.few⟩
theorem Pl.lose2 (h : Pl j z) (v' : Value) (P' : List Value) (i : Int) : Pl j { z with v2 := v', P2 := P', L2 := Nw.ouA i z.L2 } :=
  ⟨h.heard, h.hH, h.hle, h.lo, h.hi, h.len, h.pk, h.l1, fun s hs => h.l2 s (ouA_sub hs), h.few⟩
/-- Something is sent back. -/
theorem Pl.back (h : Pl j z) {n : Nat} (h0 : n ≠ 0) (hn : n ≤ z.heard) (v' : Value) (P' : List Value) : Pl j { z with v2 := v', P2 := P', L2 := Nw.seL z.L2 (strOf (play true n [])) } := by
  refine ⟨h.heard, h.hH, h.hle, h.lo, h.hi, h.len, h.pk, h.l1, fun s hs => ?_, h.few⟩
  rcases se_mem hs with x | rfl
  · exact h.l2 s x
  · exact ⟨n - 1, by rw [show n - 1 + 1 = n by omega], by show n - 1 < z.heard; omega⟩
/-- The next thing is heard. -/
theorem Pl.hear (h : Pl j z) {d : List Nat} (hT : z.T[z.heard]? = some (strOf d)) (vH' : Value) : Pl j { z with heard := z.heard + 1, vH := vH', H := z.H ++ [strOf d] } := by
  have hlt : z.heard < z.T.length := (List.getElem?_eq_some_iff.1 hT).1
  have hh := h.heard
  have hl := h.len
  refine ⟨?_, ?_, ?_, by have := h.lo; show z.told ≤ z.heard + 1; omega, ?_, h.len, h.pk, h.l1, fun s hs => ?_, h.few⟩
  · show z.heard + 1 = (z.H ++ [strOf d]).length
    rw [List.length_append]; simp; omega
  · show z.H ++ [strOf d] = z.T.take (z.H ++ [strOf d]).length
    rw [List.length_append]
    show _ = z.T.take (z.H.length + 1)
    rw [← hh, List.take_succ_eq_append_getElem hlt]
    have e1 : z.T[z.heard] = strOf d := (List.getElem?_eq_some_iff.1 hT).2
    rw [e1]
    conv => lhs; rw [h.hH]
    rw [← hh]
  · show (z.H ++ [strOf d]).length ≤ z.T.length
    rw [List.length_append]; simp; omega
  · show z.heard + 1 ≤ z.told + 1
    split at hl <;> omega
  · obtain ⟨k, e1, e2⟩ := h.l2 s hs
    exact ⟨k, e1, by show k < z.heard + 1; omega⟩
/-- What was sent back comes. -/
theorem Pl.ack (h : Pl j z) (hp : z.pk ≠ []) (hh : z.told < z.heard) (v' : Value) : Pl j { z with v := v', told := z.told + 1, pk := [] } := by
  have hl := h.len
  rw [if_neg hp] at hl
  refine ⟨h.heard, h.hH, h.hle, hh, by have := h.hi; show z.heard ≤ z.told + 1 + 1; omega, ?_, .inl rfl, h.l1, h.l2, h.few⟩
  show z.T.length = z.told + 1 + (if ([] : List Nat) = [] then 0 else 1)
  rw [if_pos rfl]; omega
theorem Pl.same_s (h : Pl j z) (v' : Value) : Pl j { z with v := v' } := ⟨h.heard, h.hH, h.hle, h.lo, h.hi, h.len, h.pk, h.l1, h.l2, h.few⟩
end
/-- What comes to the receiver over the law's own function: it is heard, if it is new, and something is sent back. -/
def HearsTold (w0 : World) (a : Ad) (z : Zu) (j : Nat) (e : Ending) (w' : World) : Prop := e = .returned (.tuple #[]) ∧ ∃ z', On w0 w' a z' ∧ Pl j z' ∧ z'.vT = z.vT ∧ z'.T = z.T
theorem hears_no (A : Option Addr) (n c : Nat) (p5 p9 p7 : Value) (w : World) : Calls Try.prog 30 #[.slice A n c, .bool false, p5, p9, p7] w fun e w' => e = .returned (.tuple #[]) ∧ w = w' := by
  go_enter Try.func30, Try.ntmps30
  go_wp2_with fail
  try simp only [Exit.inBlock, Exit.then]
  refine bodyPost_ret (results_none rfl _ _ _) rfl ?_
  exact ⟨rfl, rfl⟩
theorem cell_at {w : World} {b : Nat} {x : Value} {t : TypeId} (h : w.heap[b]? = some (.cells #[x] t (0, 0))) : w.cell? ⟨b, 0, none⟩ = some x ∧ w.frozen? ⟨b, 0, none⟩ = false := ⟨by rw [cell_of_row _ b 0 _ _ _ h]; rfl, frozen_of_row _ b 0 _ _ h⟩
/-- Bytes that lie in blocks of their own, where a row grows. -/
theorem by_grown {w w' : World} {A : Option Addr} {n c B : Nat} {zs : List Nat} {row : Option Nat} (h : By w.heap.size w A n c zs) (hg : w.grownBy w' row) (hr : ∀ k, row = some k → k < B) (hf : ∀ x, A = some x → B ≤ x.block) (hs : w.heap.size ≤ w'.heap.size) : By w'.heap.size w' A n c zs :=
  ⟨h.len, h.le, h.max, h.nil, h.byte, fun hn => by
    obtain ⟨g, off, hA, hgl, hc⟩ := h.cell hn
    have hk := hg.block g hgl (fun e => by have h1 := hr g e.symm; have h2 : B ≤ g := hf _ hA; omega)
    exact ⟨g, off, hA, Nat.lt_of_lt_of_le hgl hs, fun j hj => (World.cell?_of_block (a := ⟨g, off + j, none⟩) hk).trans (hc j hj)⟩⟩
set_option maxHeartbeats 4000000 in
theorem hears_any {w0 w : World} {a : Ad} {z : Zu} {j : Nat} {A : Option Addr} {n c : Nat} {bs : List Nat} (h : On w0 w a z) (hp : Pl j z) (hj : j ≤ 300) (hy : By w.heap.size w A n c bs) (hto : To z.T (strOf bs)) :
    Calls Try.prog 30 #[.slice A n c, .bool true, .pointer (some ⟨a.b5, 0, none⟩), .pointer (some ⟨a.b9, 0, none⟩), .pointer (some ⟨a.b7, 0, none⟩)] w (HearsTold w0 a z j) := by
  obtain ⟨k, d, e1, hok, hT⟩ := hto
  obtain rfl := strOf_inj hy.byte hok.play_byte e1
  have HR := Lib.hid (rhear_any h.rat hy (Nat.le_refl _))
  have HH := Lib.hid h
  have HP := Lib.hid hp
  have HOK := Lib.hid hok
  have HT := Lib.hid hT
  obtain ⟨c5, -⟩ := cell_at h.x5
  clear h hp hy hok hT e1
  go_enter Try.func30, Try.ntmps30
  go_wp2_with fail
  refine HR.out.mono ?_
  rintro e w1 ⟨ht1, hc⟩
  rcases hc with ⟨n2, d2, A1, c1, A2, c2, his, hans, hlt, rfl, ⟨hy1, hf1⟩, ⟨hy2, hf2⟩, hr1⟩ | ⟨n2, d2, A2, c2, his, hans, hle, rfl, ⟨hy2, hf2⟩, hr1⟩ | ⟨hno, rfl, hr1⟩
  · obtain ⟨_, rfl, rfl⟩ := his.uniq (is_play HOK.out)
    have hn1 : k = z.heard := by
      unfold rAns at hans
      simp only [Bool.and_eq_true, decide_eq_true_eq] at hans
      have h1 := HH.out.rat.num
      rcases Nat.lt_or_ge (z.heard + 1) 18446744073709551616 with x | x
      · rw [Nat.mod_eq_of_lt x] at hans; omega
      · have : (z.heard + 1) % 18446744073709551616 = 0 := by omega
        omega
    subst hn1
    have ho := HH.out.receiver hr1 ht1
    have hb2 : Below w1.heap.size w1 (w1.alloc (.cells #[.string (strOf d2)] 9)) := (Below.refl _ _).alloc (Nat.le_refl _) _
    have HO2 := Lib.hid (ho.later hb2)
    have HSG := Lib.hid (Nw.Sg.one w1 (strOf d2))
    have kc := hy1.conv
    have HY2 := Lib.hid (by_later hy2 hb2)
    have HF2 := Lib.hid hf2
    have hl2 : (play true (z.heard + 1) []).length ≤ 300 := (ok_heard HOK.out.num).size.2
    have hl0 : 0 < (play true (z.heard + 1) []).length := (ok_heard HOK.out.num).size.1
    have hd0 : decide ((0 : Int) < ((play true (z.heard + 1) []).length : Int)) = true := decide_eq_true (by omega)
    obtain ⟨c9, -⟩ := cell_at ho.x9
    have hHl : z.H.length ≤ 300 := by have := HP.out.few; have := HP.out.hle; omega
    have HRL : Hid (∀ k, z.vH.ownBlock = some k → k < w.heap.size) := Lib.hid (fun k hk => (HH.out.sh.kind k hk).1)
    have HBL : Hid (a.b9 < w.heap.size) := Lib.hid (lt_of_heap HH.out.x9)
    clear hy1 hy2 hf1 hf2 hr1 ht1 his hans hb2 ho HR c5
    go_wp2_with (at_builtin; refine Nw.app_strs rfl _ _ rfl w0.heap.size z.vH z.H rfl HO2.out.sh (some ⟨w1.heap.size, 0, none⟩) 1 1 [strOf d2] rfl HSG.out (by omega) HO2.out.below.size ?_; intro A3 n3 c3 w3 hn3 hsw3 hb3 hg3 hx3; obtain ⟨-, -, -, -, -, -, x93⟩ := HO2.out.strs hg3 (sw_kind HO2.out.sh); obtain ⟨q9, f9⟩ := cell_at (x93.trans HO2.out.x9); have HO3 := Lib.hid (HO2.out.hears hsw3 hb3 hg3 hx3); obtain ⟨q7, -⟩ := cell_at HO3.out.x7; have HY3 := Lib.hid (by_keep (w' := w3.setCell ⟨a.b9, 0, none⟩ (.slice A3 n3 c3)) (by_grown HY2.out hg3 HRL.out HF2.out hg3.size) (Nat.le_refl _) (fun x hx => Below.heap_setCell _ _ _ _ (by have h1 := HF2.out x hx; have h2 := HBL.out; show x.block ≠ a.b9; omega))); clear hn3 hsw3 hb3 hg3 hx3 x93 c9)
    have HS := Lib.hid (Nw.Send_any HO3.out.n2 HO3.out.below.size A2 _ c2 _ (by_yb (HY3.out.mono (by simp))) (by omega))
    refine HS.out.mono ?_
    rintro e w4 ⟨v', P', rfl, hn4, ht4⟩
    have HO4 := Lib.hid (HO3.out.net2 hn4 ht4)
    clear hn4 ht4 HS q7 q9 f9
    go_wp2_with fail
    go_end0
    exact ⟨rfl, _, HO4.out, Pl.back (z := { z with heard := z.heard + 1, vH := .slice A3 n3 c3, H := z.H ++ [strOf d2] }) (n := z.heard + 1) (HP.out.hear HT.out _) (Nat.succ_ne_zero _) (Nat.le_refl _) _ _, rfl, rfl⟩
  · obtain ⟨_, rfl, rfl⟩ := his.uniq (is_play HOK.out)
    have ho := HH.out.receiver hr1 ht1
    have HO := Lib.hid ho
    have hl2 : (play true (k + 1) []).length ≤ 300 := (ok_heard HOK.out.num).size.2
    have hl0 : 0 < (play true (k + 1) []).length := (ok_heard HOK.out.num).size.1
    have hd0 : decide ((0 : Int) < ((play true (k + 1) []).length : Int)) = true := decide_eq_true (by omega)
    have HS := Lib.hid (Nw.Send_any ho.n2 ho.below.size A2 _ c2 _ (by_yb hy2) (by omega))
    obtain ⟨c7, -⟩ := cell_at ho.x7
    clear hy2 hf2 hr1 ht1 his hans ho HR c5
    go_wp2_with fail
    refine HS.out.mono ?_
    rintro e w2 ⟨v', P', rfl, hn2, ht2⟩
    have HO2 := Lib.hid (HO.out.net2 hn2 ht2)
    clear hn2 ht2 HS c7
    go_wp2_with fail
    go_end0
    exact ⟨rfl, _, HO2.out, Pl.back (z := { z with heard := z.heard }) (n := k + 1) HP.out (Nat.succ_ne_zero _) hle _ _, rfl, rfl⟩
  · have ho := HH.out.receiver hr1 ht1
    have HO := Lib.hid ho
    clear hr1 ht1 ho HR c5
    go_wp2_with fail
    go_end0
    exact ⟨rfl, _, HO.out, HP.out, rfl, rfl⟩
end Ln
end Go.Proofs.Ytjjaomnlkpdeeaa
