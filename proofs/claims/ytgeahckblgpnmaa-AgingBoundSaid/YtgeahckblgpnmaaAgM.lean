/-
  Layer 12: maps of one's own whose keys are the numbers of a list: made, put, asked, struck, how many.
-/
import Derived.Test.YtgeahckblgpnmaaAgG
import Derived.Maps.OwnSet
import Derived.Maps.Views
set_option linter.unusedVariables false
set_option maxRecDepth 100000
namespace Go.Proofs.Ytgeahckblgpnmaa
namespace Ag
open Go.RowKit Bk Go.Maps

def IW (x : Int) : Prop := -9223372036854775808 ≤ x ∧ x ≤ 9223372036854775807
def kI (x : Int) : Lit := .int .i64 x
theorem kI_inj {x y : Int} (h : kI x = kI y) : x = y := by simpa [kI] using h
theorem kI_key (x : Int) : WideAt.IsKeyLit (kI x) := trivial
/-- Block b is a map that holds just the keys l, each with what U tells. -/
def KM (R : Value → Option (DataW Unit × List MemPlace)) (w : World) (b n : Nat) (l : List Int) (U : Int → DataW Unit) : Prop :=
  ∃ D : DataW Unit, w.ownsMap Try.prog 3 R b n D ∧ (∀ x : Int, has D (kI x) = decide (x ∈ l)) ∧ (∀ x, x ∈ l → ∀ z, D.atKey (kI x) z = U x) ∧ size D = l.length
section
variable {R : Value → Option (DataW Unit × List MemPlace)} {w w' : World} {b n : Nat} {l : List Int} {U : Int → DataW Unit}
theorem KM.made (R : Value → Option (DataW Unit × List MemPlace)) (w : World) (U : Int → DataW Unit) : KM R (w.alloc (.map #[] 0)) w.heap.size 0 [] U :=
  ⟨.map [], World.ownsMap_made w _ _ _, fun x => by simp [has], fun x h z => absurd h (by simp), rfl⟩
theorem KM.kept {row : Option Nat} (h : KM R w b n l U) (hg : w.grownBy w' row) (hne : some b ≠ row) : KM R w' b n l U := by
  obtain ⟨D, h1, h2⟩ := h
  exact ⟨D, h1.kept hg hne, h2⟩
theorem KM.lt (h : KM R w b n l U) : b < w.heap.size := by
  obtain ⟨D, h1, h2⟩ := h
  exact h1.lt
theorem KM.mono (h : KM R w b n l U) {n' : Nat} (hn : n ≤ n') : KM R w b n' l U := by
  obtain ⟨D, h1, h2⟩ := h
  exact ⟨D, h1.mono hn, h2⟩
theorem KM.later (h : KM R w b n l U) (hb : Below w.heap.size w w') : KM R w' b n l U :=
  h.kept (row := none) ⟨hb.os, hb.tape, hb.output, hb.size, fun i hi _ => hb.block i hi⟩ (by simp)
theorem KM.block (h : KM R w b n l U) : ∃ es c, w.heap[b]? = some (.map es c) := by
  obtain ⟨D, ⟨es, clock, hb, _⟩, _⟩ := h
  exact ⟨es, clock, hb⟩
/-- Where a queue alone is written. -/
theorem KM.queue {base g : Nat} {v : Value} {s : Int} {d : Nat} {L : List Wr} {F' : Nat → Prop} (h : KM R w b n l U) (hq : QAt w base g v s d L) (ht : Turn (QF g v) F' w w') : KM R w' b n l U := by
  obtain ⟨es, c, hh⟩ := h.block
  have hn : ¬ QF g v b := by
    rintro (rfl | e)
    · rw [hq.box] at hh; cases hh
    · obtain ⟨_, _, c', fz, h2⟩ := hq.own.kind b e
      rw [h2] at hh; cases hh
  have e := ht.block b h.lt hn
  obtain ⟨D, ⟨es', c', hb, r⟩, h2⟩ := h
  exact ⟨D, ⟨es', c', e.trans hb, r⟩, h2⟩
theorem KM.congr {l' : List Int} {U' : Int → DataW Unit} (h : KM R w b n l U) (hl : l' = l) (hU : ∀ x, x ∈ l → U' x = U x) : KM R w b n l' U' := by
  subst hl
  obtain ⟨D, h1, h2, h3, h4⟩ := h
  exact ⟨D, h1, h2, fun x hx z => (h3 x hx z).trans (hU x hx).symm, h4⟩
/-- A key that is not in it is put. -/
theorem KM.put (h : KM R w b n l U) {t e : TypeId} (ht : Try.prog.underlying t = some (.map 3 e)) (hn : n ≤ 1048576) {X : Int} (hX : IW X) {val : Value} {u : DataW Unit} (hu : R val = some (u, [])) (hnew : X ∉ l) :
    ∃ w', (Instr.mapUpdate t (.map (some b)) (.int .i64 X) val).run Try.prog w = .ok () w' ∧ KM R w' b (n + 1) (l ++ [X]) (fun x => if x = X then u else U x) ∧ w.grownBy w' (some b) := by
  obtain ⟨D, h1, h2, h3, h4⟩ := h
  have hM := h1.isMap
  have hT := h1.tidy (int_keyed Try.underlying3)
  have hD : has D (kI X) = false := by rw [h2]; exact decide_eq_false hnew
  obtain ⟨w', hrun, hw', hgr⟩ := h1.update (int_keyed Try.underlying3) ht (by unfold maxLen; omega) (keyOf_int_mk Try.underlying3 (WalkArith.wf_i64 hX)) hu
  refine ⟨w', hrun, ⟨D.put (kI X) u, hw', fun x => ?_, fun x hx z => ?_, ?_⟩, hgr⟩
  · by_cases e : x = X
    · subst e
      rw [has_put_same hM (kI_key x) u]
      simp
    · rw [has_put_other (fun h => e (kI_inj h)) u, h2]
      simp [e]
  · by_cases e : x = X
    · subst e
      show _ = if x = x then u else U x
      rw [if_pos rfl]
      exact atKey_put_same hM (kI_key x) u z
    · show _ = if x = X then u else U x
      rw [if_neg e, atKey_put_other (fun h => e (kI_inj h)) u z]
      exact h3 x (by simpa [e] using hx) z
  · rw [size_put hT u, hD, List.length_append, h4]
    rfl
/-- How many. -/
theorem KM.len_run (h : KM R w b n l U) {t e : TypeId} (ht : Try.prog.underlying t = some (.map 3 e)) (ty : TypeId) : (Builtin.len_ #[t] ty #[.map (some b)]).run Try.prog w = .ok (.int .i64 (l.length : Int)) w := by
  obtain ⟨D, h1, h2, h3, h4⟩ := h
  rw [h1.len ht ty, h4]
theorem KM.grown (h : KM R w b n l U) (hg : w.mapTurned w' b) : w.grownBy w' (some b) := hg.grown
/-- A key is struck, whether it is in it or not. -/
theorem KM.del (h : KM R w b n l U) (hl : l.Nodup) {t e : TypeId} (ht : Try.prog.underlying t = some (.map 3 e)) {X : Int} (hX : IW X) (ty : TypeId) :
    ∃ w', (Builtin.delete_ #[t, 3] ty #[.map (some b), .int .i64 X]).run Try.prog w = .ok (.tuple #[]) w' ∧ KM R w' b n (l.erase X) U ∧ w.grownBy w' (some b) := by
  obtain ⟨D, h1, h2, h3, h4⟩ := h
  have hT := h1.tidy (int_keyed Try.underlying3)
  obtain ⟨w', hrun, hw', hgr⟩ := h1.drop (int_keyed Try.underlying3) ht (keyOf_int_mk Try.underlying3 (WalkArith.wf_i64 hX)) ty
  refine ⟨w', hrun, ⟨D.del (kI X), hw', fun x => ?_, fun x hx z => ?_, ?_⟩, hgr.grown⟩
  · by_cases e : x = X
    · subst e
      rw [has_del_same]
      exact (decide_eq_false (hl.not_mem_erase)).symm
    · rw [has_del_other (fun h => e (kI_inj h)), h2, decide_eq_decide]
      exact (List.mem_erase_of_ne e).symm
  · have hne : x ≠ X := fun e => by subst e; exact hl.not_mem_erase hx
    rw [atKey_del_other (fun h => hne (kI_inj h)) z]
    exact h3 x (List.mem_of_mem_erase hx) z
  · have := size_del hT (k := kI X)
    by_cases hin : X ∈ l
    · have hD : has D (kI X) = true := by rw [h2]; exact decide_eq_true hin
      rw [hD, if_pos rfl] at this
      rw [List.length_erase_of_mem hin]
      omega
    · have hD : has D (kI X) = false := by rw [h2]; exact decide_eq_false hin
      rw [hD, if_neg (by simp)] at this
      rw [List.erase_of_not_mem hin]
      omega
end
def uB : Int → DataW Unit := fun _ => .lit (.bool true)
theorem plainElem_bool_inv {P : Program} {e : TypeId} (he : P.underlying e = some .bool) {v : Value} {z : DataW Unit × List MemPlace} (h : plainElem P e v = some z) : ∃ x, v = .bool x ∧ z = (.lit (.bool x), []) := by
  unfold plainElem at h
  rw [he] at h
  cases v <;> simp at h
  subst h
  exact ⟨_, rfl, rfl⟩
theorem makeMapB (w : World) : (Instr.makeMap 48 none).run Try.prog w = .ok (.map (some w.heap.size)) (w.alloc (.map #[] 0)) := by
  simp [Instr.makeMap, Result.andThen]
/-- Is it in a map of truths? -/
theorem KM.ask {w : World} {b n : Nat} {l : List Int} (h : KM (plainElem Try.prog 4) w b n l uB) {X : Int} (hX : IW X) {c : Bool} (hc : decide (X ∈ l) = c) : (Instr.lookup 48 (.map (some b)) (.int .i64 X) false).run Try.prog w = .ok (.bool c) w := by
  obtain ⟨D, h1, h2, h3, h4⟩ := h
  have hz : (zeroValue 4).run Try.prog w = .ok (.bool false) w := by kernel_rfl
  obtain ⟨v, ps, hrun, hv⟩ := h1.lookup (int_keyed Try.underlying3) Try.underlying48 hz (plainElem_bool Try.underlying4 false) (keyOf_int_mk Try.underlying3 (WalkArith.wf_i64 hX))
  obtain ⟨c', rfl, hc'⟩ := plainElem_bool_inv Try.underlying4 hv
  have : c' = decide (X ∈ l) := by
    simp only [Prod.mk.injEq] at hc'
    by_cases hin : X ∈ l
    · have := (h3 X hin (.lit (.bool false))).symm.trans hc'.1
      rw [decide_eq_true hin]
      simpa [uB] using this.symm
    · have hn : has D (kI X) = false := by rw [h2]; exact decide_eq_false hin
      have := (atKey_of_not_has hn (.lit (.bool false))).symm.trans hc'.1
      rw [decide_eq_false hin]
      simpa using this.symm
  rw [hrun, this, hc]
section
variable {R : Value → Option (DataW Unit × List MemPlace)} {w w' : World} {b n : Nat} {l : List Int} {U : Int → DataW Unit}
theorem km_del (w : World) {ops : Array Oper} {rest : List Oper} {o : Oper} {a : Go.Act} {Q : Exit → Go.Act → World → Prop} (hg : o.guard = none) (m x : Operand) (t : TypeId) (hop : o.op = Op.call { callee := Callee.builtin Builtin.delete, args := #[m, x], argTypes := #[t, 3] }) (e : TypeId) (ht : Try.prog.underlying t = some (.map 3 e))
    (hm : a.eval m = .map (some b)) (h : KM R w b n l U) (hl : l.Nodup) (X : Int) (hX : IW X) (hx : a.eval x = .int .i64 X)
    (hK : ∀ w', KM R w' b n (l.erase X) U → w.grownBy w' (some b) → wpList Try.prog ops Q rest (a.put o.dst (.tuple #[])) w') : wpList Try.prog ops Q (o :: rest) a w := by
  refine wpList_plain hg fun K' hK' => ?_
  obtain ⟨w', hrun, h1, h2⟩ := h.del hl ht hX o.type
  unfold Oper.wp
  simp [execOp, hop, resolve, invoke, builtin, hm, hx, hrun, Result.andThen]
  exact hK' _ _ (hK w' h1 h2)
/-- What is no map stays where a map is written. -/
theorem KM.ne_block (h : KM R w b n l U) {k : Nat} {cs : Array Value} {t : TypeId} {fz : Nat × Nat} (hk : w.heap[k]? = some (.cells cs t fz)) : k ≠ b := by
  rintro rfl
  obtain ⟨es, c, hh⟩ := h.block
  rw [hk] at hh; cases hh
theorem QAt.map {base g : Nat} {v : Value} {s : Int} {d : Nat} {L : List Wr} (hq : QAt w base g v s d L) (h : KM R w b n l U) (hg : w.grownBy w' (some b)) : QAt w' base g v s d L := by
  refine hq.same fun k hk => hg.block k (hq.blocks k hk).2 (fun e => ?_)
  injection e with e
  rcases hk with rfl | hk
  · exact h.ne_block hq.box e
  · obtain ⟨_, _, c, fz, hh⟩ := hq.own.kind k hk
    exact h.ne_block hh e
theorem Ww.map {base : Nat} {v : Value} {L : List Wr} (ho : Ww w base v L) (h : KM R w b n l U) (hg : w.grownBy w' (Option.some b)) : Ww w' base v L := by
  refine ho.same fun k hk => hg.block k (ho.kind k hk).1 (fun e => ?_)
  injection e with e
  obtain ⟨_, _, c, fz, hh⟩ := ho.kind k hk
  exact h.ne_block hh e
theorem below_map {B b : Nat} {w0 w w' : World} (h : Below B w0 w) (hg : w.grownBy w' (some b)) (hb : B ≤ b) (hB : B ≤ w0.heap.size) : Below B w0 w' :=
  h.trans (Below.grown (Below.refl _ _) hg (Nat.le_trans hB h.size) (fun k hk => by injection hk with hk; omega))
end
/-- The numbers of those that wait. -/
def nos (L : List Wr) : List Int := L.map fun x => x.1
theorem nos_nodup {s : Int} {d : Nat} {L : List Wr} (h : Qi s d L) : (nos L).Nodup := by
  unfold nos List.Nodup
  rw [List.pairwise_map]
  exact h.ids.imp (fun {a b} q => by omega)
theorem nos_mem {L : List Wr} {i : Nat} (h : i < L.length) : (wat L i).1 ∈ nos L := List.mem_map.2 ⟨_, wat_mem h, rfl⟩
theorem nos_iw {s : Int} {d : Nat} {L : List Wr} (h : Qi s d L) (hd : d ≤ 1000000) {i : Nat} (hi : i < L.length) : IW (wat L i).1 := by
  have := h.old _ (wat_mem hi)
  unfold IW; omega
theorem nos_take {L : List Wr} {i : Nat} (h : i < L.length) : nos (L.take (i + 1)) = nos (L.take i) ++ [(wat L i).1] := by
  unfold nos
  rw [List.take_succ_eq_append_getElem h, List.map_append, wat_get h]
  rfl
theorem nos_new {s : Int} {d : Nat} {L : List Wr} (h : Qi s d L) {i : Nat} (hi : i < L.length) : (wat L i).1 ∉ nos (L.take i) := by
  intro hm
  obtain ⟨x, hx, e⟩ := List.mem_map.1 hm
  obtain ⟨j, hj, rfl⟩ := List.getElem_of_mem hx
  rw [List.length_take] at hj
  rw [List.getElem_take] at e
  have := List.pairwise_iff_getElem.1 h.ids j i (by omega) hi (by omega)
  rw [wat_get hi] at e
  omega
theorem nos_bump (i : Nat) (L : List Wr) : nos (bump i L) = nos L := by
  unfold nos bump
  rw [List.map_append, List.map_map]
  conv => rhs; rw [← List.take_append_drop i L, List.map_append]
  rfl
theorem erase_at {l : List Int} (h : l.Nodup) {m : Nat} (hm : m < l.length) : l.erase l[m] = l.take m ++ l.drop (m + 1) := by
  have e : l = l.take m ++ l[m] :: l.drop (m + 1) := by
    rw [← List.drop_eq_getElem_cons hm, List.take_append_drop]
  have hn : l[m] ∉ l.take m := by
    intro q
    obtain ⟨j, hj, e2⟩ := List.getElem_of_mem q
    rw [List.length_take] at hj
    rw [List.getElem_take] at e2
    exact List.pairwise_iff_getElem.1 h j m (by omega) hm (by omega) e2
  generalize l[m] = x at *
  rw [e]
  rw [List.erase_append_right _ (by
    intro q
    refine hn ?_
    rw [e] at q ⊢
    exact q)]
  rw [List.erase_cons_head]
  rw [← e]
theorem nos_tk {s : Int} {d : Nat} {L : List Wr} (h : Qi s d L) (hne : L ≠ []) : nos (tkL s L) = (nos L).erase (nxN s L) := by
  have r := nx_rng s L
  have r3 := r.2.2 hne
  unfold tkL nxN
  rw [if_neg (by omega), if_neg (by omega)]
  obtain ⟨m, hm⟩ := Int.eq_ofNat_of_zero_le r3
  rw [hm, Int.toNat_natCast]
  have hml : m < L.length := by omega
  have hl : m < (nos L).length := by unfold nos; rw [List.length_map]; exact hml
  have e1 : (wat L m).1 = (nos L)[m] := by rw [wat_get hml]; simp [nos]
  rw [e1, erase_at (nos_nodup h) hl]
  unfold out
  have : ∀ M : List Wr, nos (M.take m ++ M.drop (m + 1)) = (nos M).take m ++ (nos M).drop (m + 1) := fun M => by simp [nos, List.map_take, List.map_drop]
  rw [this, nos_bump]
theorem tk_len {s : Int} {L : List Wr} (hne : L ≠ []) : (tkL s L).length + 1 = L.length := by
  have r := nx_rng s L
  have r3 := r.2.2 hne
  unfold tkL
  rw [if_neg (by omega), out_len (by rw [bump_len]; omega), bump_len]
theorem nxN_mem {s : Int} {L : List Wr} (hne : L ≠ []) : nxN s L ∈ nos L := by
  have r := nx_rng s L
  have r3 := r.2.2 hne
  unfold nxN
  rw [if_neg (by omega)]
  exact nos_mem (by omega)
end Ag
end Go.Proofs.Ytgeahckblgpnmaa
