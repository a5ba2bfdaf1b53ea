/-
  Layer 13: Lose, Take, Send.
-/
import Derived.Test.YtobpinelhjpfgaaDoorNwC
set_option linter.unusedVariables false
set_option maxRecDepth 100000
namespace Go.Proofs.YtobpinelhjpfgaaDoor
namespace Nw
open Go.RowKit Go.Maps Bk

theorem step_app_rows {w : World} {ops : Array Oper} {o : Oper} {a : Act} {K : Act → World → Prop} {Q : Exit → Act → World → Prop} {F : Prop} (hgd : o.guard = none) (s x : Operand)
    (ho : o.op = .call { callee := .builtin .append, args := #[s, x], argTypes := #[109, 109] })
    (base : Nat) (v : Value) (xs : List Value) (hs : a.eval s = v) (hown : Rw w base v xs)
    (A : Option Addr) (m c : Nat) (ys : List Value) (hx : a.eval x = .slice A m c) (hr : Gt 1 w.heap.size w A m c ys) (h1 : ∀ u ∈ ys, u.oneCell' = true) (hb : xs.length + m ≤ 1000000) (hbase : base ≤ w.heap.size)
    (h : ∀ A' n' c' w', n' = (xs ++ ys).length → Rw w' base (.slice A' n' c') (xs ++ ys) → w.grownBy w' v.ownBlock → ((Value.slice A' n' c').ownBlock = v.ownBlock ∨ (Value.slice A' n' c').ownBlock = some w.heap.size) → K (a.put o.dst (.slice A' n' c')) w') : if Region.wanted o (yielded ops a.tmps) = true then Oper.wp Tryd.prog o a w K Q else F := by
  have hw : Region.wanted o (yielded ops a.tmps) = true := by simp [Region.wanted, hgd]
  rw [if_pos hw]
  obtain ⟨i0, hi, hz0, hz1, hz2⟩ := info_parts Tryd.infoBytes
  obtain ⟨v', w', hrun, h2, h3, h4⟩ := run_appG 109 35 i0 _ 1 24 Tryd.underlying109 hi hz0 hz1 hz2 rfl (by decide) (by decide) o.type base v xs.length xs hown A m c ys hr h1 hb hbase
  obtain ⟨A', c', rfl⟩ := own_form h2
  have hm : ys.length = m := by simpa using hr.len
  have e : xs.length + m = (xs ++ ys).length := by rw [List.length_append, hm]
  unfold Oper.wp execOp
  simp only [ho, resolve, invoke, builtin, Sem.run_bind, Sem.run_pure, Result.andThen_ok, List.map_toArray, List.map_cons, List.map_nil, hs, hx, hrun]
  exact h A' _ c' w' e (by unfold Rw; rw [← e]; exact h2) h3 h4
/-- What is left, when the packet at a place is gone. -/
def ouA {α : Type} (i : Int) (L : List α) : List α := if isA L.length i = true then ou i.toNat L else L
theorem ou_get {α : Type} (i : Nat) (L : List α) (j : Nat) : (ou i L)[j]? = if j < i then L[j]? else L[j + 1]? := by
  unfold ou
  by_cases hi : i ≤ L.length
  · by_cases h : j < i
    · rw [if_pos h, List.getElem?_append_left (by rw [List.length_take]; omega), List.getElem?_take, if_pos h]
    · rw [if_neg h, List.getElem?_append_right (by rw [List.length_take]; omega), List.getElem?_drop, List.length_take]
      congr 1
      omega
  · rw [List.take_of_length_le (by omega), List.drop_of_length_le (by omega), List.append_nil]
    by_cases h : j < i
    · rw [if_pos h]
    · rw [if_neg h, List.getElem?_eq_none (by omega), List.getElem?_eq_none (by omega)]
theorem ou_bat (i : Nat) (L : List ByteArray) (j : Nat) : bat (ou i L) j = if j < i then bat L j else bat L (j + 1) := by
  unfold bat List.getD
  rw [ou_get]
  split <;> rfl
theorem ou_sub {α : Type} {i : Nat} {L : List α} {x : α} (h : x ∈ ou i L) : x ∈ L := by
  unfold ou at h
  rcases List.mem_append.1 h with h | h
  · exact List.mem_of_mem_take h
  · exact List.mem_of_mem_drop h
/-- What an act leaves, and answers. -/
def ActTold (a : Value) (base g : Nat) (v : Value) (P : List Value) (L : List ByteArray) (w : World) (e : Ending) (w' : World) : Prop := ∃ v' P', e = .returned a ∧ NAt w' base g v' P' L ∧ Turn (NF g v P) (NF g v' P') w w'
/-- The same, and no block of it is new. -/
def GoneTold (a : Value) (base g : Nat) (v : Value) (P : List Value) (L : List ByteArray) (w : World) (e : Ending) (w' : World) : Prop := ∃ v' P', e = .returned a ∧ NAt w' base g v' P' L ∧ Turn (NF g v P) (NF g v' P') w w' ∧ ∀ k, NF g v' P' k → NF g v P k
set_option maxHeartbeats 1000000 in
theorem Lose_any {w : World} {base g : Nat} {v : Value} {P : List Value} {L : List ByteArray} (h : NAt w base g v P L) (i : Int) (h8 : i ≤ 9223372036854775807) : Calls Tryd.prog 48 #[.pointer (some ⟨g, 0, none⟩), .int .i64 i] w (GoneTold (.bool (isA L.length i)) base g v P (ouA i L) w) := by
  obtain ⟨A, c, rfl⟩ := h.form
  have HU := Lib.hid (under_any h.cell0.1)
  have HT := Lib.hid (there_any A L.length c i w)
  obtain ⟨_, hsz1, hsz2⟩ := h.size
  cases hi : isA L.length i with
  | false =>
    have HN : Hid (GoneTold (.bool false) base g (.slice A L.length c) P (ouA i L) w (.returned (.bool false)) w) := Lib.hid (by
      have e : ouA i L = L := by unfold ouA; rw [hi]; rfl
      rw [e]
      exact ⟨_, _, rfl, h, Turn.refl _ _, fun _ h => h⟩)
    rw [hi] at HT
    clear h hi
    go_enter Tryd.func48, Tryd.ntmps48
    go_wp2_with fail
    refine HU.out.mono ?_
    rintro e w1 ⟨rfl, rfl⟩
    go_wp2_with fail
    refine HT.out.mono ?_
    rintro e w1 ⟨rfl, rfl⟩
    go_wp2_with fail
    go_ret
    exact HN.out
  | true =>
    have hi2 : 0 ≤ i ∧ i < (L.length : Int) := of_decide_eq_true hi
    obtain ⟨j, rfl⟩ := Int.eq_ofNat_of_zero_le hi2.1
    have hj : j < L.length := by omega
    have hjI : (j : Int) < (L.length : Int) := hi2.2
    have hlP := h.len
    have HD := Lib.hid (delete_one base A L.length c P j w h.own (by omega) (by have := h.few; omega) h.ones)
    have HO : Hid (ouA (j : Int) L = ou j L) := Lib.hid (by unfold ouA; rw [hi, if_pos rfl]; rfl)
    have HN := Lib.hid h
    obtain ⟨c0, f0⟩ := h.cell0
    have hnk : (Value.slice A L.length c).ownBlock ≠ some g := by
      intro e
      obtain ⟨_, _, c, fz, hh⟩ := own_kind h.own g e
      have := hh.symm.trans h.box
      injection this with this
      injection this with _ this _
      revert this
      decide
    have HK := Lib.hid hnk
    rw [hi] at HT
    rw [HO.out]
    have HJ := Lib.hid hj
    have HW : Hid (∀ w2, w.grownBy w2 (Value.slice A L.length c).ownBlock → w2.heap[g]? = w.heap[g]? ∧ w2.frozen? ⟨g, 0, none⟩ = false ∧ ∃ u, w2.cell? ⟨g, 0, none⟩ = some u) := Lib.hid (fun w2 hg2 => by
      have hb := hg2.block g h.lt (fun e => hnk e.symm)
      have hbx := hb.trans h.box
      exact ⟨hb, frozen_of_row w2 g 0 _ _ hbx, ⟨_, cell_of_row w2 g 0 _ _ _ hbx⟩⟩)
    clear h hi hi2 hj hlP hnk
    generalize hL : L.length = n at *
    go_enter Tryd.func48, Tryd.ntmps48
    go_wp2_with fail
    refine HU.out.mono ?_
    rintro e w1 ⟨rfl, rfl⟩
    go_wp2_with fail
    refine HT.out.mono ?_
    rintro e w1 ⟨rfl, rfl⟩
    go_wp2_with fail
    refine HD.out.mono ?_
    rintro e w2 ⟨rfl, ho2, hg2⟩
    have HO2 := Lib.hid ho2
    have HG2 := Lib.hid hg2
    obtain ⟨hb2, f2, u2, k2⟩ := HW.out w2 hg2
    have HB2 := Lib.hid hb2
    clear ho2 hg2 hb2
    go_wp2_with fail
    go_ret
    have hN := HN.out
    have hJ := HJ.out
    rw [← hL] at hJ hN
    have hlP := hN.len
    have pkeep : ∀ p, p ∈ P → ∀ k, p.ownBlock = some k → w2.heap[k]? = w.heap[k]? := fun p hp k hk => by
      obtain ⟨s, hs⟩ := hN.mem hp
      obtain ⟨hlt, _, cc, fz, hh⟩ := hs.kind k hk
      refine HG2.out.block k hlt (fun e => ?_)
      obtain ⟨_, _, cc2, fz2, hh2⟩ := own_kind hN.own k (by rw [hL]; exact e.symm)
      have := hh.symm.trans hh2
      injection this with this
      injection this with _ this _
      revert this
      decide
    have hsub : ∀ k, NF g (Value.slice A (ou j P).length c) (ou j P) k → NF g (Value.slice A n c) P k := by
      rintro k (rfl | hk | ⟨p, hp, hk⟩)
      · exact .inl rfl
      · exact .inr (.inl (by cases A with | none => cases hk | some a => exact hk))
      · exact .inr (.inr ⟨p, ou_sub hp, hk⟩)
    refine ⟨_, _, rfl, hN.turned (L' := ou j L) HO2.out HB2.out ?_ ?_ ?_ ?_, ?_, hsub⟩
    · have e1 := ou_len (L := P) (i := j) (by omega)
      have e2 := ou_len (L := L) (i := j) hJ
      omega
    · intro t p ht
      have hm : p ∈ P := ou_sub (List.mem_of_getElem? ht)
      rw [ou_get] at ht
      rw [ou_bat]
      by_cases q : t < j
      · rw [if_pos q] at ht ⊢
        exact (hN.pk t p ht).same (pkeep p hm)
      · rw [if_neg q] at ht ⊢
        exact (hN.pk (t + 1) p ht).same (pkeep p hm)
    · have e2 := ou_len (L := L) (i := j) hJ
      have := hN.few
      omega
    · intro s hs
      exact hN.sm s (ou_sub hs)
    · have t1 : Turn (NF g (Value.slice A n c) P) (NF g (Value.slice A n c) P) w w2 := Turn.grown HG2.out (fun k hk => .inr (.inl hk))
      exact (t1.put (b := g) (o := 0) _ (.inl rfl)).sub fun k hk => .inl (hsub k hk)
theorem Lose_nil (i : Int) (w : World) : Calls Tryd.prog 48 #[.pointer none, .int .i64 i] w fun e w' => e = .returned (.bool false) ∧ w = w' := by
  have HU := Lib.hid (under_nil w)
  have HT := Lib.hid (there_any none 0 0 i w)
  have hi : isA 0 i = false := decide_eq_false (fun h => by omega)
  rw [hi] at HT
  clear hi
  go_enter Tryd.func48, Tryd.ntmps48
  go_wp2_with fail
  refine HU.out.mono ?_
  rintro e w1 ⟨rfl, rfl⟩
  go_wp2_with fail
  refine HT.out.mono ?_
  rintro e w1 ⟨rfl, rfl⟩
  go_wp2_with fail
  go_ret
  exact ⟨rfl, rfl⟩
/-- A packet is told, and is gone. -/
def TakeTold (base g : Nat) (v : Value) (P : List Value) (L : List ByteArray) (i : Int) (w : World) (e : Ending) (w' : World) : Prop :=
  ∃ A c v' P', e = .returned (.tuple #[.slice A (gtA L i).size c, .bool (isA L.length i)]) ∧ Yw w' w.heap.size (.slice A (gtA L i).size c) (gtA L i) ∧ NAt w' base g v' P' (ouA i L) ∧ Turn (NF g v P) (NF g v' P') w w' ∧ ∀ k, NF g v' P' k → NF g v P k
theorem Take_any {w : World} {base g : Nat} {v : Value} {P : List Value} {L : List ByteArray} (h : NAt w base g v P L) (i : Int) (h8 : i ≤ 9223372036854775807) : Calls Tryd.prog 46 #[.pointer (some ⟨g, 0, none⟩), .int .i64 i] w (TakeTold base g v P L i w) := by
  have HP := Lib.hid (Peek_any h i)
  have HN := Lib.hid h
  clear h
  go_enter Tryd.func46, Tryd.ntmps46
  go_wp2_with fail
  refine HP.out.mono ?_
  rintro e w1 ⟨A, c, rfl, hy, hb⟩
  have HL := Lib.hid (Lose_any (HN.out.later hb) i h8)
  have HY := Lib.hid hy
  have HB := Lib.hid hb
  clear hy hb HP
  go_wp2_with fail
  refine HL.out.mono ?_
  rintro e w2 ⟨v', P', rfl, hn, ht, hs⟩
  have HT := Lib.hid ht
  have HS := Lib.hid hs
  have HN2 := Lib.hid hn
  clear ht hn hs HL
  go_wp2_with fail
  go_ret2
  refine ⟨A, c, v', P', rfl, ?_, HN2.out, (Turn.ofBelow HB.out _).trans HT.out, HS.out⟩
  refine HY.out.same fun k hk => ?_
  obtain ⟨h1, h2, _⟩ := HY.out.kind k hk
  exact HT.out.block k h1 (fun q => by have := (HN.out.blocks k q).2; omega)
theorem Take_nil (i : Int) (w : World) : Calls Tryd.prog 46 #[.pointer none, .int .i64 i] w fun e w' => e = .returned (.tuple #[.slice none 0 0, .bool false]) ∧ w = w' := by
  have HU := Lib.hid (Peek_nil i w)
  have HT := Lib.hid (Lose_nil i w)
  go_enter Tryd.func46, Tryd.ntmps46
  go_wp2_with fail
  refine HU.out.mono ?_
  rintro e w1 ⟨rfl, rfl⟩
  go_wp2_with fail
  refine HT.out.mono ?_
  rintro e w1 ⟨rfl, rfl⟩
  go_wp2_with fail
  go_ret2
  exact ⟨rfl, rfl⟩
/-- What is under way behind a Send; its answer. -/
def seL (L : List ByteArray) (s : ByteArray) : List ByteArray := if 1024 ≤ L.length then L else L ++ [s]
def seE (L : List ByteArray) : Int := if 1024 ≤ L.length then 4 else 0
theorem Send_nil (A : Option Addr) (n c : Nat) (w : World) : Calls Tryd.prog 42 #[.pointer none, .slice A n c] w fun e w' => e = .returned (.int .i64 2) ∧ w = w' := by
  go_enter Tryd.func42, Tryd.ntmps42
  go_wp2_with fail
  go_ret
  exact ⟨rfl, rfl⟩
theorem later2 {w w1 : World} {o : Obj} (h : Below w.heap.size w w1) : Below w.heap.size w (w1.alloc o) := h.alloc h.size o
theorem one_one (A : Option Addr) (n c : Nat) : ∀ u ∈ [Value.slice A n c], u.oneCell' = true := by intro u hu; rw [List.mem_singleton.1 hu]; rfl
theorem cell_block {w w' : World} {g i : Nat} (h : w'.heap[g]? = w.heap[g]?) : w'.cell? ⟨g, i, none⟩ = w.cell? ⟨g, i, none⟩ := World.cell?_of_block (a := ⟨g, i, none⟩) h
set_option maxHeartbeats 2000000 in
theorem Send_any {w : World} {base g : Nat} {v : Value} {P : List Value} {L : List ByteArray} (h : NAt w base g v P L) (hbw : base ≤ w.heap.size) (A : Option Addr) (n c : Nat) (s : ByteArray) (hy : Yb w.heap.size w A n c s) (hn : n ≤ 100000) :
    Calls Tryd.prog 42 #[.pointer (some ⟨g, 0, none⟩), .slice A n c] w (ActTold (.int .i64 (seE L)) base g v P (seL L s) w) := by
  obtain ⟨B, cb, rfl⟩ := h.form
  obtain ⟨_, hsz1, hsz2⟩ := h.size
  obtain ⟨c0, f0⟩ := h.cell0
  by_cases hl : 1024 ≤ L.length
  · have hE : seE L = 4 := by unfold seE; rw [if_pos hl]
    have hL : seL L s = L := by unfold seL; rw [if_pos hl]
    rw [hE, hL]
    have HN := Lib.hid h
    have d0 : decide ((1024 : Int) ≤ (L.length : Int)) = true := decide_eq_true (by omega)
    clear h hE hL hy
    go_enter Tryd.func42, Tryd.ntmps42
    go_wp2_with fail
    go_ret
    exact ⟨_, _, rfl, HN.out, Turn.refl _ _⟩
  · have hE : seE L = 0 := by unfold seE; rw [if_neg hl]
    have hL : seL L s = L ++ [s] := by unfold seL; rw [if_neg hl]
    rw [hE, hL]
    have d0 : decide ((1024 : Int) ≤ (L.length : Int)) = false := decide_eq_false (by omega)
    have HC := Lib.hid (clone_any A n c s w.drew (hy.later (Below.refl _ w).drew) (by omega))
    have HN := Lib.hid h
    have HS : Hid (s.size ≤ 100000 ∧ L.length < 1024 ∧ base ≤ w.heap.size) := Lib.hid ⟨by rw [hy.size]; exact hn, by omega, hbw⟩
    have hgl := h.lt
    have HD : Hid (Below w.heap.size w w.drew) := Lib.hid (Below.refl _ w).drew
    clear h hE hL hy hl
    generalize hLn : L.length = m at *
    go_enter Tryd.func42, Tryd.ntmps42
    go_wp2_with fail
    go_region_law
      ((first
        | (go_simp; go_at_call 68; refine HC.out.mono ?_; rintro e w1 ⟨A1, c1, rfl, hy1, hb1⟩; have HY1 := Lib.hid hy1; have HB1 : Hid (Below w.heap.size w w1) := Lib.hid (HD.out.trans hb1); have e1 : w1.cell? ⟨g, 0, none⟩ = some (.slice B m cb) := (HB1.out.cell (p := ⟨g, 0, none⟩) hgl).trans c0; have e2 : (w1.alloc (.cells #[.slice A1 s.size c1] 35)).cell? ⟨g, 0, none⟩ = some (.slice B m cb) := ((later2 (o := .cells #[.slice A1 s.size c1] 35) HB1.out).cell (p := ⟨g, 0, none⟩) hgl).trans c0; clear hy1 hb1)
        | (have _k := HY1; refine step_app_rows (by rfl) _ _ (by rfl) base (.slice B m cb) P (by rfl) (HN.out.later (later2 HB1.out)).own (some ⟨w1.heap.size, 0, none⟩) 1 1 [.slice A1 s.size c1] (by rfl) (one_row w1 35 _) (one_one A1 s.size c1) (by have h1 := HS.out.2.1; have h2 := HN.out.len; omega) (by have h1 := HS.out.2.2; have h2 := (later2 (o := .cells #[.slice A1 s.size c1] 35) HB1.out).size; omega) ?_; intro A' n' c' w3 hn3 ho3 hg3 hx3; have HO3 := Lib.hid ho3; have HG3 := Lib.hid hg3; have HX3 := Lib.hid hx3; obtain ⟨kf, ⟨ku, kc⟩, hb33⟩ := kept_box (HN.out.later (later2 (o := .cells #[.slice A1 s.size c1] 35) HB1.out)) hg3; have HB3 := Lib.hid hb33; have e3 : w3.cell? ⟨g, 0, none⟩ = some (.slice B m cb) := (cell_block hb33).trans (((later2 (o := .cells #[.slice A1 s.size c1] 35) HB1.out).cell (p := ⟨g, 0, none⟩) hgl).trans c0); clear hn3 ho3 hg3 hx3 hb33 kc)
        | fail))
    all_goals go_wp2_with fail
    all_goals go_ret
    all_goals
      have HB2 := Lib.hid (later2 (o := .cells #[.slice A1 s.size c1] 35) HB1.out)
      have HY2 := Lib.hid (HY1.out.later ((Below.refl w1.heap.size w1).alloc (Nat.le_refl _) (.cells #[.slice A1 s.size c1] 35)))
      have hN := HN.out.later HB2.out
      have pkeep : ∀ p s', Yw (w1.alloc (.cells #[.slice A1 s.size c1] 35)) base p s' → Yw w3 base p s' := fun p s' hs => hs.same fun k hk => by
        obtain ⟨hlt, _, cc, fz, hh⟩ := hs.kind k hk
        refine HG3.out.block k hlt (fun e => ?_)
        obtain ⟨_, _, cc2, fz2, hh2⟩ := own_kind hN.own k e.symm
        have := hh.symm.trans hh2
        injection this with this
        injection this with _ this _
        revert this
        decide
      have hlP := hN.len
      refine ⟨_, _, rfl, hN.turned (L' := L ++ [s]) HO3.out HB3.out (by simp [hlP]) ?_ (by have := HS.out.2.1; simp; omega) ?_, ?_⟩
      · intro t p ht
        rw [List.getElem?_append] at ht
        by_cases q : t < P.length
        · rw [if_pos q] at ht
          have e : bat (L ++ [s]) t = bat L t := by unfold bat; simp only [List.getD]; rw [List.getElem?_append_left (by omega)]
          rw [e]
          exact pkeep p _ (hN.pk t p ht)
        · rw [if_neg q] at ht
          have ht0 : t - P.length = 0 := by
            have := (List.getElem?_eq_some_iff.1 ht).1
            simp at this
            omega
          rw [ht0] at ht
          simp at ht
          subst ht
          have e : bat (L ++ [s]) t = s := by unfold bat; simp only [List.getD]; rw [List.getElem?_append_right (by omega), show t - L.length = 0 by omega]; rfl
          rw [e]
          exact pkeep _ _ (HY2.out.lower HS.out.2.2)
      · intro x hx
        rcases List.mem_append.1 hx with hx | hx
        · exact hN.sm x hx
        · rw [List.mem_singleton.1 hx]; exact HS.out.1
      · have t3 : Turn (NF g (Value.slice B m cb) P) (NF g (Value.slice B m cb) P) w w3 := (Turn.ofBelow HB2.out _).trans (Turn.grown HG3.out (fun k hk => .inr (.inl hk)))
        refine (t3.put (b := g) (o := 0) (.slice A' n' c') (.inl rfl)).sub ?_
        rintro k (rfl | hk | ⟨p, hp, hk⟩)
        · exact .inl (.inl rfl)
        · rcases HX3.out with e | e
          · exact .inl (.inr (.inl (e.symm.trans hk)))
          · rw [e] at hk
            injection hk with hk
            have := HB2.out.size
            exact .inr (by omega)
        · rcases List.mem_append.1 hp with hp | hp
          · exact .inl (.inr (.inr ⟨p, hp, hk⟩))
          · rw [List.mem_singleton.1 hp] at hk
            exact .inr (HY2.out.kind k hk).2.1
end Nw
end Go.Proofs.YtobpinelhjpfgaaDoor
