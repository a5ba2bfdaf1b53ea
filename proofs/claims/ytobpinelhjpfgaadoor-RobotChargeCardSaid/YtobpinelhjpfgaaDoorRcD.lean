/-
  Layer 17: fields are taken one by one.
-/
import Derived.Test.YtobpinelhjpfgaaDoorRcC
set_option linter.unusedVariables false
set_option maxRecDepth 100000
namespace Go.Proofs.YtobpinelhjpfgaaDoor
namespace Rc
open Go.RowKit Bp
/-- How some bits are read. -/
def Gr (zs : List Nat) (m p : Nat) (e : Int) (n p' : Nat) (e' : Int) : Prop :=
  (e ≠ 0 ∧ n = 0 ∧ p' = p ∧ e' = e) ∨ (e = 0 ∧ e' = 0 ∧ n < 2 ^ m ∧ Has zs p (bitsOf n m) ∧ p' = p + m) ∨ (e = 0 ∧ e' ≠ 0 ∧ n = 0 ∧ p' = p ∧ 8 * zs.length < p + m)
theorem Gr.fr {zs : List Nat} {f p : Nat} {e : Int} {n p' : Nat} {e' : Int} (hf : f ≠ 0) (h : Gr zs (fw f) p e n p' e') : Fr zs f p e n p' e' := by
  rcases h with h | ⟨a, b, c, d, g⟩ | ⟨a, b, c, d, g⟩
  · exact .inl h
  · refine .inr (.inl ⟨a, b, n, ?_, ?_, ?_, rfl⟩)
    · unfold rg; rw [if_neg hf]; exact c
    · rw [fld_pos _ _ hf]; exact d
    · rw [fld_pos _ _ hf, bitsOf_length]; exact g
  · refine .inr (.inr ⟨a, b, c, d, fun m hm hh => ?_⟩)
    rw [fld_pos _ _ hf] at hh
    have := hh.1
    rw [bitsOf_length] at this
    omega
theorem Gr.lt {zs : List Nat} {m p : Nat} {e : Int} {n p' : Nat} {e' : Int} (h : Gr zs m p e n p' e') : n < 2 ^ m := by
  have := Nat.two_pow_pos m
  rcases h with ⟨_, h, _⟩ | ⟨_, _, h, _⟩ | ⟨_, _, h, _⟩ <;> omega
theorem rdto_refl {C : Nat} {w : World} {b : Nat} {v : Value} {zs : List Nat} {p : Nat} {e : Int} (h : Rd C w b v zs p e) : RdTo C w b v zs p e w := ⟨h, Turn.refl _ _⟩
theorem get_gr {C b : Nat} {v : Value} {zs : List Nat} {p : Nat} {e : Int} {w : World} (h : Rd C w b v zs p e) (m : Nat) (M : Int) (hM : M = m) (hm : m ≤ 8) :
    Calls Tryd.prog 74 #[.pointer (some ⟨b, 0, none⟩), .int .i64 M] w fun r w' => ∃ n p' e', r = .returned (.int .u64 ((n : Nat) : Int)) ∧ Gr zs m p e n p' e' ∧ RdTo C w b v zs p' e' w' := by
  subst hM
  by_cases he : e = 0
  · subst he
    by_cases hs : p + m ≤ 8 * zs.length
    · refine (get_ok C b v zs p m w h (by omega) hs).mono ?_
      rintro r w' ⟨rfl, ht⟩
      exact ⟨_, _, _, rfl, .inr (.inl ⟨rfl, rfl, tk_lt _ _ _, has_tk zs p m hs, rfl⟩), ht⟩
    · refine (get_short C b v zs p m w h (by omega) (by omega)).mono ?_
      rintro r w' ⟨rfl, ht⟩
      exact ⟨0, p, 10, rfl, .inr (.inr ⟨rfl, by decide, rfl, rfl, by omega⟩), ht⟩
  · refine (get_fault C b v zs p e m w h he).mono ?_
    rintro r w' ⟨rfl, rfl⟩
    exact ⟨0, p, e, rfl, .inl ⟨he, rfl, rfl, rfl⟩, rdto_refl h⟩
theorem count_fr {C b : Nat} {v : Value} {zs : List Nat} {p : Nat} {e : Int} {w : World} (h : Rd C w b v zs p e) :
    Calls Tryd.prog 75 #[.pointer (some ⟨b, 0, none⟩)] w fun r w' => ∃ n p' e', r = .returned (.int .u64 ((n : Nat) : Int)) ∧ n + 1 < 18446744073709551616 ∧ Fr zs 0 p e n p' e' ∧ RdTo C w b v zs p' e' w' := by
  by_cases he : e = 0
  · subst he
    obtain ⟨q, hz⟩ := zs_exists zs p h.at_le
    by_cases h64 : q = 64
    · subst h64
      refine (count_toolong C b v zs p w h hz).mono ?_
      rintro r w' ⟨rfl, ht⟩
      refine ⟨0, p, 4, rfl, by decide, .inr (.inr ⟨rfl, by decide, rfl, rfl, fun m hm hh => ?_⟩), ht⟩
      rw [fld_zero] at hh
      obtain ⟨a1, a2, _⟩ := hh.count hm
      have := a1.unique hz
      omega
    · have hq : q ≤ 63 := by have := hz.few; omega
      by_cases hs : p + (2 * q + 1) ≤ 8 * zs.length
      · obtain ⟨e1, e2, e3⟩ := cnt_top hz hq hs
        refine (rcount_ok C b v zs p q w h hz hq hs).mono ?_
        rintro r w' ⟨rfl, ht⟩
        refine ⟨_, _, _, rfl, by omega, .inr (.inl ⟨rfl, rfl, _, ?_, by rw [fld_zero]; exact has_cnt hz hq hs, ?_, rfl⟩), ht⟩
        · show rg 0 _
          unfold rg; rw [if_pos rfl]; omega
        · rw [fld_zero, countBits_length, e2]
      · refine (count_short C b v zs p q w h hz hq (by omega)).mono ?_
        rintro r w' ⟨rfl, ht⟩
        refine ⟨0, p, 10, rfl, by decide, .inr (.inr ⟨rfl, by decide, rfl, rfl, fun m hm hh => ?_⟩), ht⟩
        rw [fld_zero] at hh
        obtain ⟨a1, a2, a3, _⟩ := hh.count hm
        have := a1.unique hz
        omega
  · refine (count_fault C b v zs p e w h he).mono ?_
    rintro r w' ⟨rfl, rfl⟩
    exact ⟨0, p, e, rfl, by decide, .inl ⟨he, rfl, rfl, rfl⟩, rdto_refl h⟩
theorem end_fin {C b : Nat} {v : Value} {zs : List Nat} {p : Nat} {e : Int} {w : World} (h : Rd C w b v zs p e) :
    Calls Tryd.prog 78 #[.pointer (some ⟨b, 0, none⟩)] w fun r w' => ∃ E : Int, r = .returned (.int .i64 E) ∧ (E = 0 ↔ Fin zs p e) ∧ RdTo C w b v zs p e w' := by
  by_cases he : e = 0
  · subst he
    by_cases ht : p + 8 ≤ 8 * zs.length
    · refine (end_tail C b v zs p w h ht).mono ?_
      rintro r w' ⟨rfl, hr⟩
      exact ⟨11, rfl, ⟨fun x => by omega, fun x => by have := x.2.1; omega⟩, hr⟩
    · obtain ⟨q, hz⟩ := zs_exists zs p h.at_le
      refine (end_bit C b v zs p q w h hz (by omega)).mono ?_
      rintro r w' ⟨rfl, hr⟩
      refine ⟨_, rfl, ?_, hr⟩
      have hi := hz.inn
      split
      · rename_i hlt
        refine ⟨fun x => by omega, fun x => ?_⟩
        rcases hz.stop with y | y | y
        · omega
        · omega
        · have := x.2.2 (p + q) (by omega) (by omega)
          omega
      · rename_i hlt
        refine ⟨fun _ => ⟨rfl, by omega, fun j h1 h2 => ?_⟩, fun _ => rfl⟩
        have := hz.zero (j - p) (by omega)
        rwa [show p + (j - p) = j by omega] at this
  · refine (end_fault C b v zs p e w h he).mono ?_
    rintro r w' ⟨rfl, rfl⟩
    exact ⟨e, rfl, ⟨fun x => absurd x he, fun x => absurd x.1 he⟩, rdto_refl h⟩
theorem rdto_box {C : Nat} {w w' : World} {o : Obj} {b : Nat} {v : Value} {zs : List Nat} {p : Nat} {e : Int} (h : RdTo C (w.alloc o) b v zs p e w') : RdTo C w b v zs p e w' := ⟨h.1, (Turn.alloc w o).trans h.2⟩
set_option maxHeartbeats 1000000 in
theorem rfield_0 {C b : Nat} {v : Value} {zs : List Nat} {p : Nat} {e : Int} {w : World} (h : Rd C w b v zs p e) (hS : Shp w) :
    Calls Tryd.prog 99 #[.agg #[.pointer (some ⟨b, 0, none⟩)], .int .i64 0] w fun r w' => ∃ n p' e', r = .returned (.int .i64 ((mn 0 n : Nat) : Int)) ∧ Fr zs 0 p e n p' e' ∧ RdTo C w b v zs p' e' w' := by
  have hc : w.cell? ⟨0, 1, none⟩ = some (.int .i64 0) := hS.cell 1
  have hp := hS.pos
  have hsz := (h.lt (k := b) (.inl rfl)).2
  have hh : ∀ o, Rd C (w.alloc o) b v zs p e := fun o => h.frame (fun k hk => Below.heap_alloc _ _ _ (h.lt hk).2)
  have HH := fun o => Lib.hid (hh o)
  clear h hS hh
  go_enter Tryd.func99, Tryd.ntmps99
  go_wp2_with fail
  refine (count_fr (HH _).out).mono ?_
  rintro r w1 ⟨n, p', e', rfl, hn, hfr, ht⟩
  have HFR := Lib.hid hfr
  have HT := Lib.hid (rdto_box ht)
  have hm : (mn 0 n : Int) = min (n : Int) 1073741825 := by simp only [mn, if_pos]; omega
  have hw : IntKind.i64.wrap (mn 0 n : Int) = (mn 0 n : Int) := IntWalk.i64_in _ ⟨by omega, by omega⟩
  rw [hm] at hw
  have HM := Lib.hid hm
  clear hfr ht hm
  go_wp2
  go_ret
  exact ⟨n, p', e', by rw [HM.out]; rfl, HFR.out, HT.out⟩
set_option maxHeartbeats 1000000 in
theorem rfield_1 {C b : Nat} {v : Value} {zs : List Nat} {p : Nat} {e : Int} {w : World} (h : Rd C w b v zs p e) (hS : Shp w) :
    Calls Tryd.prog 99 #[.agg #[.pointer (some ⟨b, 0, none⟩)], .int .i64 1] w fun r w' => ∃ n p' e', r = .returned (.int .i64 ((mn 1 n : Nat) : Int)) ∧ Fr zs 1 p e n p' e' ∧ RdTo C w b v zs p' e' w' := by
  have hc : w.cell? ⟨0, 3, none⟩ = some (.int .i64 3) := hS.cell 3
  have hp := hS.pos
  have hsz := (h.lt (k := b) (.inl rfl)).2
  have hh : ∀ o, Rd C (w.alloc o) b v zs p e := fun o => h.frame (fun k hk => Below.heap_alloc _ _ _ (h.lt hk).2)
  have HH := fun o => Lib.hid (hh o)
  clear h hS hh
  go_enter Tryd.func99, Tryd.ntmps99
  go_wp2_with fail
  refine (get_gr (HH _).out 3 3 rfl (by decide)).mono ?_
  rintro r w1 ⟨n, p', e', rfl, hgr, ht⟩
  have hn := hgr.lt
  have HFR := Lib.hid (Gr.fr (f := 1) (by decide) hgr)
  have HT := Lib.hid (rdto_box ht)
  have hw : IntKind.i64.wrap (n : Int) = (n : Int) := IntWalk.i64_in _ ⟨by omega, by simp at hn; omega⟩
  clear hgr ht hn
  go_wp2
  go_ret
  exact ⟨n, p', e', rfl, HFR.out, HT.out⟩
set_option maxHeartbeats 1000000 in
theorem rfield_2 {C b : Nat} {v : Value} {zs : List Nat} {p : Nat} {e : Int} {w : World} (h : Rd C w b v zs p e) (hS : Shp w) :
    Calls Tryd.prog 99 #[.agg #[.pointer (some ⟨b, 0, none⟩)], .int .i64 2] w fun r w' => ∃ n p' e', r = .returned (.int .i64 ((mn 2 n : Nat) : Int)) ∧ Fr zs 2 p e n p' e' ∧ RdTo C w b v zs p' e' w' := by
  have hc : w.cell? ⟨0, 5, none⟩ = some (.int .i64 6) := hS.cell 5
  have hp := hS.pos
  have hsz := (h.lt (k := b) (.inl rfl)).2
  have hh : ∀ o, Rd C (w.alloc o) b v zs p e := fun o => h.frame (fun k hk => Below.heap_alloc _ _ _ (h.lt hk).2)
  have HH := fun o => Lib.hid (hh o)
  clear h hS hh
  go_enter Tryd.func99, Tryd.ntmps99
  go_wp2_with fail
  refine (get_gr (HH _).out 6 6 rfl (by decide)).mono ?_
  rintro r w1 ⟨n, p', e', rfl, hgr, ht⟩
  have hn := hgr.lt
  have HFR := Lib.hid (Gr.fr (f := 2) (by decide) hgr)
  have HT := Lib.hid (rdto_box ht)
  have hw : IntKind.i64.wrap (n : Int) = (n : Int) := IntWalk.i64_in _ ⟨by omega, by simp at hn; omega⟩
  clear hgr ht hn
  go_wp2
  go_ret
  exact ⟨n, p', e', rfl, HFR.out, HT.out⟩
set_option maxHeartbeats 1000000 in
theorem rfield_3 {C b : Nat} {v : Value} {zs : List Nat} {p : Nat} {e : Int} {w : World} (h : Rd C w b v zs p e) (hS : Shp w) :
    Calls Tryd.prog 99 #[.agg #[.pointer (some ⟨b, 0, none⟩)], .int .i64 3] w fun r w' => ∃ n p' e', r = .returned (.int .i64 ((mn 3 n : Nat) : Int)) ∧ Fr zs 3 p e n p' e' ∧ RdTo C w b v zs p' e' w' := by
  have hc : w.cell? ⟨0, 7, none⟩ = some (.int .i64 8) := hS.cell 7
  have hp := hS.pos
  have hsz := (h.lt (k := b) (.inl rfl)).2
  have hh : ∀ o, Rd C (w.alloc o) b v zs p e := fun o => h.frame (fun k hk => Below.heap_alloc _ _ _ (h.lt hk).2)
  have HH := fun o => Lib.hid (hh o)
  clear h hS hh
  go_enter Tryd.func99, Tryd.ntmps99
  go_wp2_with fail
  refine (get_gr (HH _).out 8 8 rfl (by decide)).mono ?_
  rintro r w1 ⟨n, p', e', rfl, hgr, ht⟩
  have hn := hgr.lt
  have HFR := Lib.hid (Gr.fr (f := 3) (by decide) hgr)
  have HT := Lib.hid (rdto_box ht)
  have hw : IntKind.i64.wrap (n : Int) = (n : Int) := IntWalk.i64_in _ ⟨by omega, by simp at hn; omega⟩
  clear hgr ht hn
  go_wp2
  go_ret
  exact ⟨n, p', e', rfl, HFR.out, HT.out⟩
set_option maxHeartbeats 1000000 in
theorem rfield_4 {C b : Nat} {v : Value} {zs : List Nat} {p : Nat} {e : Int} {w : World} (h : Rd C w b v zs p e) (hS : Shp w) :
    Calls Tryd.prog 99 #[.agg #[.pointer (some ⟨b, 0, none⟩)], .int .i64 4] w fun r w' => ∃ n p' e', r = .returned (.int .i64 ((mn 4 n : Nat) : Int)) ∧ Fr zs 4 p e n p' e' ∧ RdTo C w b v zs p' e' w' := by
  have hc : w.cell? ⟨0, 9, none⟩ = some (.int .i64 3) := hS.cell 9
  have hp := hS.pos
  have hsz := (h.lt (k := b) (.inl rfl)).2
  have hh : ∀ o, Rd C (w.alloc o) b v zs p e := fun o => h.frame (fun k hk => Below.heap_alloc _ _ _ (h.lt hk).2)
  have HH := fun o => Lib.hid (hh o)
  clear h hS hh
  go_enter Tryd.func99, Tryd.ntmps99
  go_wp2_with fail
  refine (get_gr (HH _).out 3 3 rfl (by decide)).mono ?_
  rintro r w1 ⟨n, p', e', rfl, hgr, ht⟩
  have hn := hgr.lt
  have HFR := Lib.hid (Gr.fr (f := 4) (by decide) hgr)
  have HT := Lib.hid (rdto_box ht)
  have hw : IntKind.i64.wrap (n : Int) = (n : Int) := IntWalk.i64_in _ ⟨by omega, by simp at hn; omega⟩
  clear hgr ht hn
  go_wp2
  go_ret
  exact ⟨n, p', e', rfl, HFR.out, HT.out⟩
theorem rfield_any {C b : Nat} {v : Value} {zs : List Nat} {p : Nat} {e : Int} {w : World} (h : Rd C w b v zs p e) (hS : Shp w) (f : Nat) (hf : f < 5) :
    Calls Tryd.prog 99 #[.agg #[.pointer (some ⟨b, 0, none⟩)], .int .i64 (f : Int)] w fun r w' => ∃ n p' e', r = .returned (.int .i64 ((mn f n : Nat) : Int)) ∧ Fr zs f p e n p' e' ∧ RdTo C w b v zs p' e' w' := by
  have hcs : f = 0 ∨ f = 1 ∨ f = 2 ∨ f = 3 ∨ f = 4 := by omega
  rcases hcs with rfl | rfl | rfl | rfl | rfl
  · exact rfield_0 h hS
  · exact rfield_1 h hS
  · exact rfield_2 h hS
  · exact rfield_3 h hS
  · exact rfield_4 h hS
end Rc
end Go.Proofs.YtobpinelhjpfgaaDoor
