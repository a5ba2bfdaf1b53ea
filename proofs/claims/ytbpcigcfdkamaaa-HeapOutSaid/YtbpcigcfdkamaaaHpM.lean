/-
  A map keyed by items, of how many there are of each; m[x]++ of such a map.
-/
import Derived.Test.YtbpcigcfdkamaaaHpK
import Derived.WideKeyEntry
import Derived.DeepKeys4
set_option linter.unusedVariables false
namespace Go.Proofs.Ytbpcigcfdkamaaa
open Go.ChangeShapes Go.WideShapes Go.ChangeAt Go.RowKit Go.Deep E Go.Maps

theorem law_item0 : Go.WideMaps.KeyLaw Try.prog 32 := deep_law_laid (by kernel_rfl) (m := 2) (by omega) (of_decide_eq_true (by kernel_rfl)) (by kernel_rfl) (by rw [Try.underlying32])
theorem law_item : Keyed Try.prog 32 := Keyed.of_law law_item0
/-- What an item reads as, as a key. -/
def KL (x y : Int) : Lit := .string (keyBytes [.int .i64 x, .int .i64 y])
theorem keyType_item : Try.prog.keyType 32 = true := by kernel_rfl
theorem cells_item : Try.prog.cellsOf 32 = 2 := by kernel_rfl
theorem cells_int : Try.prog.cellsOf 3 = 1 := by kernel_rfl
theorem keyOf_item {x y : Int} (hx : wfI x) (hy : wfI y) : keyOf Try.prog 32 (.agg #[.int .i64 x, .int .i64 y]) = some (KL x y) := by
  unfold wfI at hx hy
  have hf : (Value.agg #[.int .i64 x, .int .i64 y]).formed Try.prog 32 = true := by simp [Value.formed, Try.underlying32, cells_item]
  have hsz : Try.prog.types.size + 1 = (Try.prog.types.size - 1) + 1 + 1 := by kernel_rfl
  have hk : ∀ (d : Nat) (n : Int), (Lit.int .i64 n).wf = true → Try.prog.keyLits (d + 1) 3 [.int .i64 n] = some [.int .i64 n] := fun d n hn => by
    unfold Program.keyLits
    simp [Try.underlying3, hn]
  unfold keyOf
  rw [Try.underlying32]
  simp only [keyType_item, hf, Bool.and_self, if_true]
  rw [hsz]
  generalize Try.prog.types.size - 1 = d
  unfold Program.keyLits
  simp [Try.underlying32, Value.cells, cells_item, cells_int, hk, hx, hy, KL]
theorem KL_inj {x y z u : Int} (hx : wfI x) (hy : wfI y) (hz : wfI z) (hu : wfI u) (h : KL x y = KL z u) : x = z ∧ y = u := by
  have h1 := keyOf_item hx hy
  have h2 := keyOf_item hz hu
  rw [← h] at h2
  have := law_item.inj h1 h2
  simpa using this
theorem keyLits_one {d : Nat} {u : Value} {l : List Lit} (h : Try.prog.keyLits (d + 1) 3 [u] = some l) : ∃ n, u = .int .i64 n ∧ wfI n := by
  obtain ⟨n, e, _⟩ := keyLits_int' Try.underlying3 h
  simp at e
  subst e
  refine ⟨n, rfl, ?_⟩
  unfold Program.keyLits at h
  simp [Try.underlying3] at h
  exact h.1
theorem keyOf_item_inv {v : Value} {kl : Lit} (h : keyOf Try.prog 32 v = some kl) : ∃ p : Int × Int, v = .agg #[.int .i64 p.1, .int .i64 p.2] ∧ wfI p.1 ∧ wfI p.2 ∧ kl = KL p.1 p.2 := by
  have h0 := h
  unfold keyOf at h
  rw [Try.underlying32] at h
  simp only [keyType_item] at h
  by_cases hf : v.formed Try.prog 32 = true
  · have hsz : Try.prog.types.size + 1 = (Try.prog.types.size - 1) + 1 + 1 := by kernel_rfl
    simp only [hf, Bool.and_self, if_true] at h
    rw [hsz] at h
    generalize Try.prog.types.size - 1 = d at h
    obtain ⟨cs, rfl⟩ : ∃ cs, v = .agg cs := by
      cases v <;> simp [Value.formed, Try.underlying32] at hf
      exact ⟨_, rfl⟩
    have hsz2 : cs.toList.length = 2 := by simpa [Value.formed, Try.underlying32, cells_item] using hf
    obtain ⟨u0, u1, rfl⟩ : ∃ u0 u1, cs = #[u0, u1] := by
      obtain ⟨l⟩ := cs
      match l, hsz2 with
      | [u0, u1], _ => exact ⟨u0, u1, rfl⟩
    unfold Program.keyLits at h
    simp [Try.underlying32, cells_item, cells_int, Value.cells] at h
    cases k0 : Try.prog.keyLits (d + 1) 3 [u0] with
    | none => rw [k0] at h; simp at h
    | some l0 =>
      cases k1 : Try.prog.keyLits (d + 1) 3 [u1] with
      | none => rw [k0, k1] at h; simp at h
      | some l1 =>
        obtain ⟨x, rfl, hx⟩ := keyLits_one k0
        obtain ⟨y, rfl, hy⟩ := keyLits_one k1
        refine ⟨(x, y), rfl, hx, hy, ?_⟩
        rw [keyOf_item hx hy] at h0
        injection h0 with h0
        exact h0.symm
  · simp [hf] at h

/-- How many entries are an item. -/
def cntM (M : List E) (x y : Int) : Int := ((M.filter fun e => decide (e.k = x ∧ e.v = y)).length : Int)
theorem cntM_nil (x y : Int) : cntM [] x y = 0 := rfl
theorem cntM_cons (e : E) (M : List E) (x y : Int) : cntM (e :: M) x y = if x = e.k ∧ y = e.v then cntM M e.k e.v + 1 else cntM M x y := by
  unfold cntM
  by_cases h : x = e.k ∧ y = e.v
  · obtain ⟨rfl, rfl⟩ := h; simp
  · rw [if_neg h]
    have h2 : ¬ (e.k = x ∧ e.v = y) := fun k => h ⟨k.1.symm, k.2.symm⟩
    rw [List.filter_cons_of_neg (by simpa using h2)]
theorem cntM_ins (e : E) (M : List E) (x y : Int) : cntM (ins e M) x y = if x = e.k ∧ y = e.v then cntM M e.k e.v + 1 else cntM M x y := by
  rw [← cntM_cons]
  unfold cntM
  rw [((ins_perm e M).filter _).length_eq]
theorem cntM_tail (e : E) (M : List E) (x y : Int) : cntM M x y = if x = e.k ∧ y = e.v then cntM (e :: M) e.k e.v - 1 else cntM (e :: M) x y := by
  by_cases h : x = e.k ∧ y = e.v
  · rw [if_pos h, cntM_cons, if_pos ⟨rfl, rfl⟩, h.1, h.2]; omega
  · rw [if_neg h, cntM_cons, if_neg h]
theorem cntM_range (M : List E) (x y : Int) : 0 ≤ cntM M x y ∧ cntM M x y ≤ (M.length : Int) := by
  unfold cntM
  have := List.length_filter_le (fun e => decide (e.k = x ∧ e.v = y)) M
  omega
theorem cntM_head (e : E) (M : List E) : 1 ≤ cntM (e :: M) e.k e.v := by
  rw [cntM_cons, if_pos ⟨rfl, rfl⟩]
  have := (cntM_range M e.k e.v).1
  omega
theorem cntM_least {e : E} {M : List E} (hs : Sorted (e :: M)) {x y : Int} (h : 0 < cntM (e :: M) x y) : e.k ≤ x := by
  refine cntI_least hs (x := x) ?_
  unfold cntM at h
  unfold cntI
  obtain ⟨d, hd⟩ := List.exists_mem_of_length_pos (show 0 < ((e :: M).filter fun e => decide (e.k = x ∧ e.v = y)).length by omega)
  rw [List.mem_filter] at hd
  have : d ∈ (e :: M).filter fun e => decide (e.k = x) := List.mem_filter.2 ⟨hd.1, by simp at hd ⊢; exact hd.2.1⟩
  have := List.length_pos_of_mem this
  omega

abbrev MM (W : World) (mb N : Nat) (D : DataW Unit) : Prop := W.ownsMap Try.prog 32 (plainElem Try.prog 3) mb N D
/-- 'm[x]++' in a region that draws its order: the entry first or the look-up first, the store behind both. -/
theorem bump_runs {W : World} {mb N : Nat} {D : DataW Unit} (h : MM W mb N D) (hN : N < 1000000) {x y c : Int} (hx : wfI x) (hy : wfI y) (hc : D.atKey (KL x y) (.lit (.int .i64 0)) = .lit (.int .i64 c)) :
    ∃ (W2 : World) (st : Nat), (Instr.lookup 43 (.map (some mb)) (.agg #[.int .i64 x, .int .i64 y]) false).run Try.prog W = .ok (.int .i64 c) W ∧
      (Instr.mapEntry 43 (.map (some mb)) (.agg #[.int .i64 x, .int .i64 y])).run Try.prog W = .ok (.tuple #[.int .i64 c, goInt st]) W2 ∧ W.grownBy W2 (some mb) ∧
      (Instr.lookup 43 (.map (some mb)) (.agg #[.int .i64 x, .int .i64 y]) false).run Try.prog W2 = .ok (.int .i64 c) W2 ∧
      ∀ c' : Int, wfI c' → ∃ W3 : World, (Instr.entryStore 43 (.map (some mb)) (goInt st) (.int .i64 c')).run Try.prog W2 = .ok () W3 ∧ MM W3 mb (N + 1) (D.put (KL x y) (.lit (.int .i64 c'))) ∧ W.grownBy W3 (some mb) := by
  have hkey := keyOf_item hx hy
  have hz : ∀ u : World, (zeroValue 3).run Try.prog u = .ok (.int .i64 0) u := fun u => by kernel_rfl
  have hw0 : (Lit.int .i64 0).wf = true := by decide
  have ht := Try.underlying43
  have he := Try.underlying3
  obtain ⟨c1, hl1, hat1, _⟩ := h.lookup_int law_item ht he (hz W) hkey
  obtain rfl : c1 = c := by
    have := hat1.symm.trans hc
    simpa using this
  have hup := fun (c' : Int) (hw : wfI c') => h.update law_item ht (by unfold maxLen; omega) hkey (plainElem_int (H := Unit) he (show (Lit.int .i64 c').wf = true from hw))
  have h0 := h
  obtain ⟨es, clock, hb, F, hs, hD⟩ := h0
  obtain ⟨v0, st, es1, clock1, hrun, hv0, hst⟩ := Go.WideElems.entry_then_store law_item0 ht hz hb F hkey
  have hb2 : (Go.ChangeMaps.setBlock W mb (.map es1 clock1)).heap[mb]? = some (.map es1 clock1) := Go.ChangeMaps.heap_setBlock_same hb _
  have hgr2 : W.grownBy (Go.ChangeMaps.setBlock W mb (.map es1 clock1)) (some mb) := ⟨rfl, rfl, rfl, by simp [Go.ChangeMaps.setBlock], fun i _ hi => Go.ChangeMaps.heap_setBlock_other hb _ (fun e => hi (by rw [e]))⟩
  have hv : v0 = .int .i64 c1 ∧ (Instr.lookup 43 (.map (some mb)) (.agg #[.int .i64 x, .int .i64 y]) false).run Try.prog (Go.ChangeMaps.setBlock W mb (.map es1 clock1)) = .ok (.int .i64 c1) (Go.ChangeMaps.setBlock W mb (.map es1 clock1)) := by
    rcases law_item0.find W hkey es.toList F.keys with ⟨k1, k2⟩ | ⟨j, e0, k1, k2, k3⟩
    · have q1 : (Instr.lookup 43 (.map (some mb)) (.agg #[.int .i64 x, .int .i64 y]) false).run Try.prog W = .ok (.int .i64 0) W := by
        simp [Instr.lookup, run_underlying ht, Go.MapKept.run_getObj_map hb, law_item0.check W _ hkey, k1, hz, Result.andThen]
      have q2 : (Instr.mapEntry 43 (.map (some mb)) (.agg #[.int .i64 x, .int .i64 y])).run Try.prog W = .ok (.tuple #[.int .i64 0, goInt clock]) (Go.ChangeMaps.setBlock W mb (.map (es.push ⟨.agg #[.int .i64 x, .int .i64 y], .int .i64 0, clock⟩) (clock + 1))) := by
        simp [Instr.mapEntry, run_underlying ht, Go.MapKept.run_getObj_map hb, law_item0.check W false hkey, k1, hz, Go.MapKept.run_setObj_map _ hb, Result.andThen, Go.ChangeMaps.setBlock]
      have q3 : (Instr.mapUpdate 43 (.map (some mb)) (.agg #[.int .i64 x, .int .i64 y]) (.int .i64 0)).run Try.prog W = .ok () (Go.ChangeMaps.setBlock W mb (.map (es.push ⟨.agg #[.int .i64 x, .int .i64 y], .int .i64 0, clock⟩) (clock + 1))) := by
        simp [Instr.mapUpdate, run_underlying ht, Go.MapKept.run_getObj_map hb, law_item0.check W false hkey, k1, Go.MapKept.run_setObj_map _ hb, Result.andThen, Go.ChangeMaps.setBlock]
      have e1 : c1 = 0 := by
        rw [hl1] at q1
        simpa using q1
      subst e1
      rw [q2] at hrun
      injection hrun with r1 r2
      obtain ⟨w', u1, u2, _⟩ := hup 0 hw0
      rw [q3] at u1
      injection u1 with _ u1
      rw [r2] at u1
      rw [← u1] at u2
      obtain ⟨c2, z1, z2, _⟩ := u2.lookup_int law_item ht he (hz _) hkey
      have e2 : c2 = 0 := by
        have := z2.symm.trans (atKey_put_same h.isMap (law_item.key hkey) _ _)
        simpa using this
      subst e2
      refine ⟨?_, z1⟩
      simp at r1
      exact r1.1.symm
    · have q1 : (Instr.lookup 43 (.map (some mb)) (.agg #[.int .i64 x, .int .i64 y]) false).run Try.prog W = .ok e0.val W := by
        simp [Instr.lookup, run_underlying ht, Go.MapKept.run_getObj_map hb, law_item0.check W _ hkey, k1, Result.andThen]
      have e1 : e0.val = .int .i64 c1 := by
        rw [hl1] at q1
        injection q1 with q1
        exact q1.symm
      have hj : es[j]? = some e0 := by simpa using k2
      have hsame : es.modify j (fun e => { e with key := .agg #[.int .i64 x, .int .i64 y] }) = es := by
        apply Array.ext'
        rw [Array.toList_modify, Go.ChangeMaps.modify_eq_set _ _ _ _ k2]
        have : ({ e0 with key := .agg #[.int .i64 x, .int .i64 y] } : MapEntry) = e0 := by rw [← k3]
        rw [this]
        exact Go.WideElems.set_self _ _ _ k2
      have q2 : (Instr.mapEntry 43 (.map (some mb)) (.agg #[.int .i64 x, .int .i64 y])).run Try.prog W = .ok (.tuple #[e0.val, goInt e0.born]) (Go.ChangeMaps.setBlock W mb (.map es clock)) := by
        simp [Instr.mapEntry, run_underlying ht, Go.MapKept.run_getObj_map hb, law_item0.check W false hkey, k1, hj, k3, law_item0.stays W hkey, hsame, Go.MapKept.run_setObj_map _ hb, Result.andThen, Go.ChangeMaps.setBlock]
      rw [q2] at hrun
      injection hrun with r1 r2
      rw [← r2]
      have u2 : MM (Go.ChangeMaps.setBlock W mb (.map es clock)) mb N D := owns_same h (by rw [Go.ChangeMaps.heap_setBlock_same hb, hb])
      obtain ⟨c2, z1, z2, _⟩ := u2.lookup_int law_item ht he (hz _) hkey
      have e2 : c2 = c1 := by
        have := z2.symm.trans hc
        simpa using this
      subst e2
      refine ⟨?_, z1⟩
      simp at r1
      rw [← r1.1, e1]
  obtain ⟨rfl, hl2⟩ := hv
  refine ⟨_, st, hl1, hrun, hgr2, hl2, fun c' hw => ?_⟩
  obtain ⟨es', clock', hs1, hs2⟩ := hst _ (.int .i64 c') hb2
  obtain ⟨w', u1, u2, u3⟩ := hup c' hw
  rw [hs2] at u1
  injection u1 with _ u1
  refine ⟨_, hs1, ?_⟩
  have e : Go.ChangeMaps.setBlock (Go.ChangeMaps.setBlock W mb (.map es1 clock1)) mb (.map es' clock') = Go.ChangeMaps.setBlock W mb (.map es' clock') := by simp [Go.ChangeMaps.setBlock]
  rw [e, u1]
  exact ⟨u2, u3⟩
end Go.Proofs.Ytbpcigcfdkamaaa
