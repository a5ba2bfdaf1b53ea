/-
  TopTold: what always holds of what was told and done over two networks.
-/
import Derived.Test.YtobpinelhjpfgaaDoorTtA
set_option linter.unusedVariables false
set_option maxRecDepth 100000
namespace Go.Proofs.YtobpinelhjpfgaaDoor
namespace Tt
open Go.RowKit Go.Maps Bp Ck Ln Rb
open Rc (Aok Shp act_uniq)
def acB (x : Rt) : List Nat := actB x.1 x.2.1 x.2.2
def aok (x : Rt) : Prop := Aok x.1 x.2.1 x.2.2
instance (x : Rt) : Decidable (aok x) := by unfold aok; exact inferInstance
theorem okp {n : Nat} (x : Rt) (hn : n ≤ 100000) : Ok false (n + 1) (acB x) := ok_told (by omega) (by unfold acB; rw [actB_len]; decide) (actB_byte _ _ _)
theorem okh {n : Nat} (hn : n ≤ 100000) : Ok true (n + 1) [] := ok_heard (by omega)
theorem oke {n : Nat} (hn : n ≤ 100000) : Ok false (n + 1) [] := ok_told (by omega) (by simp) (by simp)
/-- What may be under way to the robot, and from it. -/
def ToR (T : List Rt) (hh : Nat) (bs : List Nat) : Prop := (∃ n x, T[n]? = some x ∧ bs = play false (n + 1) (acB x)) ∨ (∃ n, n < hh ∧ bs = play true (n + 1) [])
def FromR (zh d : Nat) (bs : List Nat) : Prop := (∃ n, n < zh ∧ bs = play true (n + 1) []) ∨ (∃ n, n < d ∧ bs = play false (n + 1) [])
def OnL (P : List Nat → Prop) (L : List ByteArray) : Prop := ∀ s ∈ L, ∃ bs, s = strOf bs ∧ (∀ z ∈ bs, z ≤ 255) ∧ bs.length ≤ 300 ∧ P bs
theorem OnL.imp {P Q : List Nat → Prop} {L : List ByteArray} (h : OnL P L) (hq : ∀ bs, P bs → Q bs) : OnL Q L := fun s hs => by
  obtain ⟨bs, e, h1, h2, h3⟩ := h s hs
  exact ⟨bs, e, h1, h2, hq bs h3⟩
theorem OnL.send {P : List Nat → Prop} {L : List ByteArray} (h : OnL P L) {bs : List Nat} (h1 : ∀ z ∈ bs, z ≤ 255) (h2 : bs.length ≤ 300) (h3 : P bs) : OnL P (Nw.seL L (strOf bs)) := fun s hs => by
  unfold Nw.seL at hs
  split at hs
  · exact h s hs
  · rcases List.mem_append.1 hs with x | x
    · exact h s x
    · exact ⟨bs, List.mem_singleton.1 x, h1, h2, h3⟩
theorem OnL.out {P : List Nat → Prop} {L : List ByteArray} (h : OnL P L) (i : Int) : OnL P (Nw.ouA i L) := fun s hs => by
  unfold Nw.ouA at hs
  split at hs
  · exact h s (Nw.ou_sub hs)
  · exact h s hs
theorem OnL.get {P : List Nat → Prop} {L : List ByteArray} (h : OnL P L) {i : Int} (hi : Nw.isA L.length i = true) : ∃ bs, Nw.gtA L i = strOf bs ∧ (∀ z ∈ bs, z ≤ 255) ∧ bs.length ≤ 300 ∧ P bs := by
  have h2 : 0 ≤ i ∧ i < (L.length : Int) := of_decide_eq_true hi
  have hm : Nw.gtA L i ∈ L := by
    unfold Nw.gtA
    rw [if_pos hi]
    exact Nw.bat_mem (by omega)
  exact h _ hm
structure Iv (i : Nat) (z : R) (T D : List Rt) (ts : Nat) (ps : List Nat) (hh : Nat) (L1 L2 : List ByteArray) : Prop where
  gd : Gd i z
  done : D = T.take D.length
  dn : dn z = D.length
  h1 : D.length ≤ z.heard
  h2 : z.heard ≤ T.length
  h3 : T.length ≤ hh + 1
  h4 : hh ≤ D.length
  zt : z.told ≤ hh
  busy : z.k ≠ 0 → z.heard = D.length + 1 ∧ T[D.length]? = some (z.k, z.c, z.p)
  free : z.k = 0 → z.heard = D.length
  link : z.pk ≠ [] → z.pk = play false (z.told + 1) []
  sn : T.length = ts + (if ps = [] then 0 else 1)
  sp : ps ≠ [] → ∃ x, T[ts]? = some x ∧ ps = play false (ts + 1) (acB x)
  ok : ∀ x ∈ T, aok x
  l1 : OnL (ToR T hh) L1
  l2 : OnL (FromR z.heard D.length) L2
  few : T.length ≤ i
section
variable {i : Nat} {z : R} {T D : List Rt} {ts : Nat} {ps : List Nat} {hh : Nat} {L1 L2 : List ByteArray}
theorem Iv.start (dock chg : Int) (hc : chg ≤ 9223372036854775807) : Iv 0 (z0 dock chg) [] [] 0 [] 0 [] [] :=
  ⟨Gd.new hc, rfl, rfl, Nat.le_refl _, Nat.le_refl _, Nat.zero_le _, Nat.le_refl _, Nat.le_refl _, fun e => absurd rfl e, fun _ => rfl, fun e => absurd rfl e, rfl, fun e => absurd rfl e, fun x hx => by simp at hx, fun s hs => by simp at hs, fun s hs => by simp at hs, Nat.le_refl _⟩
theorem Iv.more (h : Iv i z T D ts ps hh L1 L2) (hi : i + 1 ≤ 1000) : Iv (i + 1) z T D ts ps hh L1 L2 :=
  { h with gd := h.gd.more (Nat.le_succ i) hi, few := Nat.le_succ_of_le h.few }
theorem Iv.lot (h : Iv i z T D ts ps hh L1 L2) : T.length ≤ 1000 ∧ D.length ≤ 1000 ∧ hh ≤ 1000 ∧ z.heard ≤ 1000 ∧ ts ≤ 1000 ∧ z.told ≤ 1000 := by
  have h1 := h.few
  have h2 := h.gd.lot
  have h3 := h.h1
  have h4 := h.h2
  have h5 := h.h4
  have h6 := h.sn
  have h7 := h.zt
  omega
theorem Iv.lens (h : Iv i z T D ts ps hh L1 L2) : D.length ≤ T.length ∧ T.length ≤ D.length + 1 := by
  have h3 := h.h1
  have h4 := h.h2
  have h5 := h.h3
  have h6 := h.h4
  omega
theorem Iv.lose1 (h : Iv i z T D ts ps hh L1 L2) (j : Int) : Iv i z T D ts ps hh (Nw.ouA j L1) L2 := { h with l1 := h.l1.out j }
theorem Iv.lose2 (h : Iv i z T D ts ps hh L1 L2) (j : Int) : Iv i z T D ts ps hh L1 (Nw.ouA j L2) := { h with l2 := h.l2.out j }
/-- All that was told was heard to be done. -/
theorem Iv.acked (h : Iv i z T D ts ps hh L1 L2) : Iv i z T D T.length [] hh L1 L2 := { h with sn := rfl, sp := fun e => absurd rfl e }
/-- The next act is told. -/
theorem Iv.tell (h : Iv i z T D T.length [] hh L1 L2) (hm : hh = T.length) (hi : i + 1 ≤ 1000) {x : Rt} (hx : aok x) : Iv (i + 1) z (T ++ [x]) D T.length (play false (T.length + 1) (acB x)) hh L1 L2 := by
  have hl : (T ++ [x]).length = T.length + 1 := by simp
  have hD := h.lens.1
  have get : ∀ n y, T[n]? = some y → (T ++ [x])[n]? = some y := fun n y e => by rw [List.getElem?_append_left (List.getElem?_eq_some_iff.1 e).1]; exact e
  have hne := play_ne (okp (n := T.length) x (by have := h.lot; omega))
  exact ⟨h.gd.more (Nat.le_succ i) hi, by rw [List.take_append_of_le_length hD]; exact h.done, h.dn, h.h1, by rw [hl]; exact Nat.le_succ_of_le h.h2, by rw [hl, hm]; exact Nat.le_refl _, h.h4, h.zt, fun e => ⟨(h.busy e).1, get _ _ (h.busy e).2⟩, h.free, h.link, by rw [hl, if_neg hne], fun _ => ⟨x, by rw [List.getElem?_append_right (Nat.le_refl _), Nat.sub_self]; rfl, rfl⟩,
    fun y hy => by
      rcases List.mem_append.1 hy with q | q
      · exact h.ok y q
      · rw [List.mem_singleton.1 q]; exact hx,
    h.l1.imp (fun bs hb => by
      rcases hb with ⟨n, y, e, f⟩ | q
      · exact .inl ⟨n, y, get _ _ e, f⟩
      · exact .inr q), h.l2, by rw [hl]; exact Nat.succ_le_succ h.few⟩
/-- What is told is sent. -/
theorem Iv.sends (h : Iv i z T D ts ps hh L1 L2) (hp : ps ≠ []) : Iv i z T D ts ps hh (Nw.seL L1 (strOf ps)) L2 := by
  obtain ⟨x, e1, e2⟩ := h.sp hp
  have hok := okp (n := ts) x (by have := h.lot; omega)
  exact { h with l1 := h.l1.send (by rw [e2]; exact hok.play_byte) (by rw [e2]; exact hok.size.2) (.inl ⟨ts, x, e1, e2⟩) }
/-- What the robot tells is sent. -/
theorem Iv.tells (h : Iv i z T D ts ps hh L1 L2) (hp : z.pk ≠ []) : Iv i z T D ts ps hh L1 (Nw.seL L2 (strOf z.pk)) := by
  have e := h.link hp
  have hok := oke (n := z.told) (by have := h.lot; omega)
  have hd := h.dn
  unfold Rb.dn at hd
  rw [if_neg hp] at hd
  exact { h with l2 := h.l2.send (by rw [e]; exact hok.play_byte) (by rw [e]; exact hok.size.2) (.inr ⟨z.told, by omega, e⟩) }
/-- It comes to the robot that what it told was heard. -/
theorem Iv.rheard (h : Iv i z T D ts ps hh L1 L2) {n : Nat} (hn : n < hh) : Iv i (hdD z (play true (n + 1) [])) T D ts ps hh L1 L2 := by
  obtain ⟨g1, g2, g3, g4⟩ := h.gd.heard (play true (n + 1) [])
  cases hb : heB z.told z.pk (play true (n + 1) []) with
  | false =>
    have e : hdD z (play true (n + 1) []) = z := by unfold hdD; rw [hb]; rfl
    rw [e]; exact h
  | true =>
    have e : hdD z (play true (n + 1) []) = { z with told := z.told + 1, pk := [] } := by unfold hdD; rw [hb]; rfl
    have hq : z.told = n := by
      unfold heB at hb
      rw [Bool.and_eq_true, decide_eq_true_eq, decide_eq_true_eq] at hb
      have := (play_inj (okh (n := n) (by have := h.lot; omega)) (okh (n := z.told) (by have := h.lot; omega)) hb.2).2.1
      omega
    rw [e] at g1 g4 ⊢
    exact { h with gd := g1, dn := g4.trans h.dn, zt := by show z.told + 1 ≤ hh; omega, link := fun e => absurd rfl e }
/-- A thing comes to the robot. -/
theorem Iv.rhears (h : Iv i z T D ts ps hh L1 L2) {n : Nat} {x : Rt} (hx : T[n]? = some x) {z' : R} {bb : List Nat} (hr : HearR z (play false (n + 1) (acB x)) z' bb) : bb = play true (n + 1) [] ∧ n < z'.heard ∧ Iv i z' T D ts ps hh L1 L2 := by
  have hnT : n < T.length := (List.getElem?_eq_some_iff.1 hx).1
  have hxT : x ∈ T := List.mem_of_getElem? hx
  have hok := okp (n := n) x (by have := h.lot; omega)
  have hlot := h.lot
  rcases Nat.lt_or_ge n z.heard with hlt | hge
  · have hc : HearR z (play false (n + 1) (acB x)) z (play true (n + 1) []) :=
      ⟨[], false, z.heard, .inr (.inl ⟨n + 1, acB x, is_play hok, by
        unfold rAns
        rw [Nat.mod_eq_of_lt (by omega), decide_eq_true (Nat.succ_ne_zero n), decide_eq_true (by omega)]; rfl, hlt, rfl, rfl, rfl, rfl⟩), .inr ⟨.inl rfl, rfl⟩⟩
    obtain ⟨rfl, rfl⟩ := hr.uniq hc
    exact ⟨rfl, hlt, h⟩
  · have hl := h.lens
    have a1 := h.h1
    have a2 := h.h2
    have hn : n = z.heard := by omega
    have hk : z.k = 0 := by
      by_cases e : z.k = 0
      · exact e
      · have := (h.busy e).1; omega
    have hf := h.free hk
    have hok2 := h.ok x hxT
    have hc : HearR z (play false (n + 1) (acB x)) { z with heard := z.heard + 1, k := x.1, c := x.2.1, p := x.2.2, told := if z.pk = [] then z.told else z.told + 1, pk := [] } (play true (n + 1) []) := by
      subst hn
      exact ⟨acB x, true, z.heard + 1, .inl ⟨z.heard + 1, is_play hok, rans_next (by omega), by omega, rfl, rfl, rfl⟩, .inl ⟨x.1, x.2.1, x.2.2, rfl, hk, hok2, rfl, rfl⟩⟩
    obtain ⟨rfl, rfl⟩ := hr.uniq hc
    obtain ⟨g1, g2, g3, g4⟩ := h.gd.hear hc
    have hd := h.dn
    have hzt : (if z.pk = [] then z.told else z.told + 1) = D.length := by
      unfold Rb.dn at hd
      split
      · rename_i e; rw [if_pos e] at hd; omega
      · rename_i e; rw [if_neg e] at hd; omega
    have h3 := h.h3
    have hl2 : OnL (FromR (z.heard + 1) D.length) L2 := h.l2.imp (fun bs hb => by
      rcases hb with ⟨m, q1, q2⟩ | q
      · exact .inl ⟨m, by omega, q2⟩
      · exact .inr q)
    exact ⟨rfl, by show n < z.heard + 1; omega, { h with gd := g1, dn := g4.trans hd, h1 := by show D.length ≤ z.heard + 1; omega, h2 := by show z.heard + 1 ≤ T.length; omega, zt := by show (if z.pk = [] then z.told else z.told + 1) ≤ hh; omega, busy := fun _ => ⟨by show z.heard + 1 = D.length + 1; omega, by rw [← hf, ← hn]; exact hx⟩, free := fun e => by have e2 : x.1 = 0 := e; have := hok2.1; omega, link := fun e => absurd rfl e, l2 := hl2 }⟩
/-- What is sent back goes onto the network. -/
theorem Iv.answers (h : Iv i z T D ts ps hh L1 L2) {n : Nat} (hn : n < z.heard) : Iv i z T D ts ps hh L1 (Nw.seL L2 (strOf (play true (n + 1) []))) := by
  have hok := okh (n := n) (by have := h.lot; omega)
  exact { h with l2 := h.l2.send hok.play_byte hok.size.2 (.inl ⟨n, hn, rfl⟩) }
theorem Iv.replies (h : Iv i z T D ts ps hh L1 L2) {n : Nat} (hn : n < hh) : Iv i z T D ts ps hh (Nw.seL L1 (strOf (play true (n + 1) []))) L2 := by
  have hok := okh (n := n) (by have := h.lot; omega)
  exact { h with l1 := h.l1.send hok.play_byte hok.size.2 (.inr ⟨n, hn, rfl⟩) }
/-- It comes back that a thing was heard. -/
theorem Iv.sheard (h : Iv i z T D ts ps hh L1 L2) {n : Nat} (hn : n < z.heard) : Iv i z T D (if heB ts ps (play true (n + 1) []) then ts + 1 else ts) (if heB ts ps (play true (n + 1) []) then [] else ps) hh L1 L2 := by
  cases hb : heB ts ps (play true (n + 1) []) with
  | false => exact h
  | true =>
    have hp : ps ≠ [] := by
      unfold heB at hb
      rw [Bool.and_eq_true, decide_eq_true_eq] at hb
      exact hb.1
    have hs := h.sn
    rw [if_neg hp] at hs
    exact { h with sn := by show T.length = ts + 1 + (if ([] : List Nat) = [] then 0 else 1); rw [if_pos rfl]; omega, sp := fun e => absurd rfl e }
/-- A thing comes back: that an act is done. -/
theorem Iv.hhears (h : Iv i z T D ts ps hh L1 L2) {n : Nat} (hn : n < D.length) {bd bb : List Nat} {fr : Bool} {nh : Nat} (hr : Rh hh (play false (n + 1) []) bd fr bb nh) : bb = play true (n + 1) [] ∧ n < nh ∧ Iv i z T D ts ps nh L1 L2 := by
  have hlot := h.lot
  have hl := h.lens
  have h3 := h.h3
  have hok := oke (n := n) (by omega)
  rcases Nat.lt_or_ge n hh with hlt | hge
  · have hc : Rh hh (play false (n + 1) []) [] false (play true (n + 1) []) hh := .inr (.inl ⟨n + 1, [], is_play hok, by
      unfold rAns
      rw [Nat.mod_eq_of_lt (by omega), decide_eq_true (Nat.succ_ne_zero n), decide_eq_true (by omega)]; rfl, hlt, rfl, rfl, rfl, rfl⟩)
    obtain ⟨rfl, rfl, rfl, rfl⟩ := hr.uniq hc
    exact ⟨rfl, hlt, h⟩
  · have h4 := h.h4
    have hn2 : n = hh := by omega
    subst hn2
    have hc : Rh n (play false (n + 1) []) [] true (play true (n + 1) []) (n + 1) := .inl ⟨n + 1, is_play hok, rans_next (by omega), by omega, rfl, rfl, rfl⟩
    obtain ⟨rfl, rfl, rfl, rfl⟩ := hr.uniq hc
    have hl1 : OnL (ToR T (n + 1)) L1 := h.l1.imp (fun bs hb => by
      rcases hb with q | ⟨m, q1, q2⟩
      · exact .inl q
      · exact .inr ⟨m, Nat.lt_succ_of_lt q1, q2⟩)
    exact ⟨rfl, Nat.lt_succ_self n, { h with h3 := Nat.le_succ_of_le h.h3, h4 := hn, zt := Nat.le_succ_of_le h.zt, l1 := hl1 }⟩
/-- The robot steps; an act is not done by it. -/
theorem Iv.steps (h : Iv i z T D ts ps hh L1 L2) (hi : i + 1 ≤ 1000) (hs : (stD z).2 = false) : Iv (i + 1) (stD z).1 T D ts ps hh L1 L2 := by
  obtain ⟨g, hc⟩ := h.gd.step hi
  have hm := h.more hi
  by_cases hk : z.k = 0
  · rw [st_none hk]; exact hm
  · by_cases hk1 : z.k = 1
    · cases ho : z.on with
      | false =>
        rw [st_go hk1 ho] at g ⊢
        by_cases hq : 0 < z.chg
        · rw [lv_yes hq] at g ⊢
          exact { hm with gd := g }
        · rw [lv_no hq]; exact hm
      | true => rw [st_arr hk1 ho] at hs; cases hs
    · rw [st_do hk hk1] at hs; cases hs
/-- The act is done. -/
theorem Iv.does (h : Iv i z T D ts ps hh L1 L2) (hi : i + 1 ≤ 1000) (hs : (stD z).2 = true) : Iv (i + 1) (stD z).1 T (D ++ [(z.k, z.c, z.p)]) ts ps hh L1 L2 := by
  have hm := h.more hi
  have hlot := h.lot
  have hk : z.k ≠ 0 := fun e => by rw [st_none e] at hs; cases hs
  obtain ⟨b1, b2⟩ := h.busy hk
  have hp := h.gd.idle hk
  have h2 := h.h2
  have h3 := h.h3
  have hlen : (D ++ [(z.k, z.c, z.p)]).length = D.length + 1 := by simp
  have hdone : D ++ [(z.k, z.c, z.p)] = T.take (D ++ [(z.k, z.c, z.p)]).length := by
    have hlt : D.length < T.length := (List.getElem?_eq_some_iff.1 b2).1
    have e1 : T[D.length] = (z.k, z.c, z.p) := (List.getElem?_eq_some_iff.1 b2).2
    rw [hlen, List.take_succ_eq_append_getElem hlt, e1]
    conv => lhs; rw [h.done]
  obtain ⟨g, hc⟩ := h.gd.step hi
  have hdn : Rb.dn (stD z).1 = D.length + 1 := by
    rcases hc with ⟨_, _, q, _⟩ | ⟨q, _⟩ | ⟨q, _⟩
    · rw [q, h.dn]
    · rw [q] at hs; cases hs
    · rw [q] at hs; cases hs
  have hform : ∃ y : R, (stD z).1 = dnD y ∧ y.heard = z.heard ∧ y.told = z.told ∧ y.pk = z.pk := by
    by_cases hk1 : z.k = 1
    · cases ho : z.on with
      | false => rw [st_go hk1 ho] at hs; cases hs
      | true => exact ⟨arD z, by rw [st_arr hk1 ho], rfl, rfl, rfl⟩
    · exact ⟨z, by rw [st_do hk hk1], rfl, rfl, rfl⟩
  obtain ⟨y, ey, y1, y2, y3⟩ := hform
  rw [ey] at g hdn ⊢
  have e1 : (dnD y).heard = z.heard := y1
  have e2 : (dnD y).told = z.told := y2
  have hzd : z.told = D.length := by
    have hd := h.dn
    unfold Rb.dn at hd
    rw [if_pos hp] at hd
    exact hd
  have hlk : (dnD y).pk ≠ [] → (dnD y).pk = play false ((dnD y).told + 1) [] := fun _ => by
    show tlP y.told y.pk [] = play false (y.told + 1) []
    rw [y3, hp, tl_new (by rw [y2]; omega)]
  have hl2 : OnL (FromR (dnD y).heard (D ++ [(z.k, z.c, z.p)]).length) L2 := by
    rw [e1, hlen]
    exact h.l2.imp (fun bs hb => by
      rcases hb with q | ⟨m, q1, q2⟩
      · exact .inl q
      · exact .inr ⟨m, Nat.lt_succ_of_lt q1, q2⟩)
  exact { hm with gd := g, done := hdone, dn := by rw [hlen]; exact hdn, h1 := by rw [hlen, e1]; omega, h2 := by rw [e1]; exact h2, h4 := by rw [hlen]; exact Nat.le_succ_of_le h.h4, zt := by rw [e2]; exact h.zt, busy := fun e => absurd rfl e, free := fun _ => by rw [hlen, e1]; exact b1, link := hlk, l2 := hl2 }
end
end Tt
end Go.Proofs.YtobpinelhjpfgaaDoor
