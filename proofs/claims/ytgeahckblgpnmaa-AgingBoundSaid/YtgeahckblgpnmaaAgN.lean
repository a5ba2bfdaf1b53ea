/-
  Layer 12: the two maps of AgingBound beside the queue; a loop over a map in which what is there is counted up.
-/
import Derived.Test.YtgeahckblgpnmaaAgM
import Derived.Test.YtgeahckblgpnmaaAgV
import Derived.Maps.Range
import Derived.Maps.RangeWalk
set_option linter.unusedVariables false
set_option maxRecDepth 100000
namespace Go.Proofs.Ytgeahckblgpnmaa
namespace Ag
section
open Go.RowKit Go.Maps Go.ChangeMaps Go.MapKept Go.WideShapes
open Go.WideElems (Fit rd rg pl rd_key rd_val rg_of other_key rd_mk)

theorem ranges_store {H : Type} {P : Program} {k : TypeId} {R : Value → Option (DataW H × List MemPlace)} {w : World} {b r n : Nat} {D : DataW H} {left : Lit → Bool} {cnt : Nat} {t e : TypeId}
    (h : w.ranges P k R b r n D left cnt) (K : Keyed P k) (ht : P.underlying t = some (.map k e)) (hn : n < maxLen) {key val : Value} {kl : Lit} {d : DataW H} {ps : List MemPlace}
    (hkey : keyOf P k key = some kl) (hv : R val = some (d, ps)) (hin : has D kl = true) :
    ∃ w', (Instr.mapUpdate t (.map (some b)) key val).run P w = .ok () w' ∧ w'.ranges P k R b r n (D.put kl d) left cnt ∧ w.mapTurned w' b := by
  have hne := h.ne
  obtain ⟨es, clock, since, seen, c0, hb, F, hs, rfl, hr, hold, rfl, hl1, hl2, hsc, hsk⟩ := h
  obtain ⟨es', clock', hrun, F', hput, _⟩ := Maps.fit_store (R' := R) K ht hb F (Nat.lt_of_le_of_lt hs hn) (fun _ _ _ _ hz => hz) hkey hv
  rcases K.find w hkey es.toList F.keys with ⟨h1, h2⟩ | ⟨j, e0, h1, h2, h3⟩
  · exfalso
    simp only [has, List.any_eq_true] at hin
    obtain ⟨p, hp, hpk⟩ := hin
    obtain ⟨x, hx, rfl⟩ := List.mem_map.1 (mem_sorted.1 hp)
    obtain ⟨y, hy⟩ := F.reads x hx
    have : (rg P k R x).1.sameKey kl = false := by
      refine Maps.sameKey_ne (fun e1 => h2 x hx ?_)
      rw [rg_of hy] at e1
      exact K.inj (e1 ▸ rd_key hy) hkey
    rw [this] at hpk
    cases hpk
  · have hj : es[j]? = some e0 := by simpa using h2
    have hrun2 : (Instr.mapUpdate t (.map (some b)) key val).run P w = .ok () (setBlock w b (.map (es.modify j (fun e' => { e' with key := key, val := val })) clock)) := by
      simp [Instr.mapUpdate, run_underlying ht, MapKept.run_getObj_map hb, K.check w false hkey, h1, hj, h3, K.stays w hkey, MapKept.run_setObj_map _ hb, Result.andThen, setBlock]
    have hw := hrun.symm.trans hrun2
    injection hw with _ hw
    have hh := congrArg (fun w : World => w.heap[b]?) hw
    simp only [heap_setBlock_same hb] at hh
    injection hh with hh
    injection hh with hh1 hh2
    subst hh1 hh2
    have hlist : (es.modify j (fun e' => { e' with key := key, val := val })).toList = es.toList.set j { e0 with key := key, val := val } := by rw [Array.toList_modify, modify_eq_set _ _ _ _ h2]
    have hm0 : e0 ∈ es.toList := List.mem_of_getElem? h2
    have hjl : j < es.toList.length := (List.getElem?_eq_some_iff.1 h2).1
    have who : ∀ x ∈ es.toList.set j { e0 with key := key, val := val }, x = { e0 with key := key, val := val } ∨ (x ∈ es.toList ∧ x.key ≠ key) := by
      intro x hx
      obtain ⟨i, hi, ex⟩ := List.getElem_of_mem hx
      rw [List.getElem_set] at ex
      split at ex
      · exact Or.inl ex.symm
      · rename_i hne
        have hi' : i < es.toList.length := by simpa using hi
        refine Or.inr ⟨ex ▸ List.getElem_mem hi', ?_⟩
        rw [← h3]
        exact other_key F h2 (by rw [List.getElem?_eq_getElem hi', ex]) (fun e1 => hne e1.symm)
    have hnew : (rg P k R { e0 with key := key, val := val }).1 = kl := by rw [rg_of (rd_mk hkey hv)]
    have hold0 : (rg P k R e0).1 = kl := by
      obtain ⟨y0, hy0⟩ := F.reads e0 hm0
      have m0 := rd_key hy0
      rw [h3, hkey] at m0
      rw [rg_of hy0]
      exact (Option.some.inj m0).symm
    refine ⟨_, hrun, ⟨_, _, since, seen, c0, heap_setBlock_same hb _, F', by simpa using hs, by rw [DataW.put_eq, hput], (heap_setBlock_other hb _ hne).trans hr, fun x hx => ?_, ?_, fun x hx => ?_, fun x0 hx0 => ?_, hsc, hsk⟩, ⟨_, _, _, _, hb, rfl⟩⟩
    · rw [hlist] at hx
      rcases who x hx with rfl | ⟨hx', _⟩
      · exact hold e0 hm0
      · exact hold x hx'
    · have hb2 : (es.modify j (fun e' => { e' with key := key, val := val })).toList.map (·.born) = es.toList.map (·.born) := by
        rw [hlist, List.map_set]
        refine List.ext_getElem (by simp) fun i h1 h2' => ?_
        rw [List.getElem_set]
        split
        · rename_i e; subst e
          rw [List.getElem_map]
          rw [List.getElem?_eq_getElem hjl] at h2
          rw [Option.some.inj h2]
        · rfl
      have hc : ∀ l : List MapEntry, (l.filter fun e => !seen.contains e.born).length = ((l.map (·.born)).filter fun s => !seen.contains s).length := fun l => by rw [List.filter_map, List.length_map]; rfl
      have hs1 : ∀ a : Array MapEntry, (leftOf a seen).size = (a.toList.filter fun e => !seen.contains e.born).length := fun a => by simp [leftOf, ← Array.length_toList]
      rw [hs1, hs1, hc, hc, hb2]
    · rw [hlist] at hx
      rcases who x hx with rfl | ⟨hx', _⟩
      · rw [hnew, ← hold0]
        exact hl1 e0 hm0
      · exact hl1 x hx'
    · obtain ⟨x, hx, rfl⟩ := hl2 x0 hx0
      by_cases hxk : x.key = key
      · refine ⟨{ e0 with key := key, val := val }, by rw [hlist]; exact List.mem_iff_getElem.2 ⟨j, by simpa using hjl, by simp⟩, ?_⟩
        rw [hnew]
        obtain ⟨y, hy⟩ := F.reads x hx
        have m := rd_key hy
        rw [hxk, hkey] at m
        rw [rg_of hy]
        exact Option.some.inj m
      · obtain ⟨i, hi, ex⟩ := List.getElem_of_mem hx
        refine ⟨x, ?_, rfl⟩
        rw [hlist]
        refine List.mem_iff_getElem.2 ⟨i, by simpa using hi, ?_⟩
        rw [List.getElem_set, if_neg (fun e => hxk ?_), ex]
        subst e
        rw [List.getElem?_eq_getElem hi, ex] at h2
        rw [Option.some.inj h2, h3]
end
open Go.RowKit Bk Go.Maps

def lI (x : Int) : DataW Unit := .lit (.int .i64 x)
theorem makeMapI (w : World) : (Instr.makeMap 44 none).run Try.prog w = .ok (.map (some w.heap.size)) (w.alloc (.map #[] 0)) := by
  simp [Instr.makeMap, Result.andThen]
theorem zeroI (w : World) : (zeroValue 3).run Try.prog w = .ok (.int .i64 0) w := by kernel_rfl
/-- What is at a number that is in it. -/
theorem KM.ask_ok {w : World} {b n : Nat} {l : List Int} {U : Int → DataW Unit} (h : KM (plainElem Try.prog 3) w b n l U) {X : Int} (hX : IW X) (hin : X ∈ l) {c : Int} (hc : U X = lI c) : (Instr.lookup 44 (.map (some b)) (.int .i64 X) true).run Try.prog w = .ok (.tuple #[.int .i64 c, .bool true]) w := by
  obtain ⟨D, h1, h2, h3, h4⟩ := h
  obtain ⟨v, ps, hrun, hv⟩ := h1.look_ok (int_keyed Try.underlying3) Try.underlying44 (zeroI w) (plainElem_int Try.underlying3 (by decide)) (keyOf_int_mk Try.underlying3 (WalkArith.wf_i64 hX))
  obtain ⟨c', rfl, hc', hwc⟩ := plainElem_int_inv Try.underlying3 hv
  simp only [Prod.mk.injEq] at hc'
  have := (h3 X hin (.lit (.int .i64 0))).symm.trans hc'.1
  rw [hc] at this
  have e : c = c' := by simpa [lI] using this
  rw [hrun, show has D (.int .i64 X) = decide (X ∈ l) from h2 X, decide_eq_true hin, e]
theorem KM.ask_int {w : World} {b n : Nat} {l : List Int} {U : Int → DataW Unit} (h : KM (plainElem Try.prog 3) w b n l U) {X : Int} (hX : IW X) (hin : X ∈ l) {c : Int} (hc : U X = lI c) : (Instr.lookup 44 (.map (some b)) (.int .i64 X) false).run Try.prog w = .ok (.int .i64 c) w := by
  obtain ⟨D, h1, h2, h3, h4⟩ := h
  obtain ⟨c', hrun, hc', _⟩ := h1.lookup_int (int_keyed Try.underlying3) Try.underlying44 Try.underlying3 (zeroI w) (keyOf_int_mk Try.underlying3 (WalkArith.wf_i64 hX))
  have := (h3 X hin (.lit (.int .i64 0))).symm.trans hc'
  rw [hc] at this
  have e : c = c' := by simpa [lI] using this
  rw [hrun, e]
/-- The priorities of all that were added, those that wait among them. -/
def Pm (w : World) (bp n d : Nat) (L : List Wr) : Prop := ∃ lp U, KM (plainElem Try.prog 3) w bp n lp U ∧ (∀ x ∈ lp, 0 ≤ x ∧ x < (d : Int)) ∧ ∀ y ∈ L, y.1 ∈ lp ∧ U y.1 = lI y.2.1
/-- Of those that wait a number each. -/
def Bm (w : World) (bb n : Nat) (L : List Wr) (F : Wr → Int) : Prop := ∃ U, KM (plainElem Try.prog 3) w bb n (nos L) U ∧ ∀ y ∈ L, U y.1 = lI (F y)
structure Bs (w0 : World) (g bp bb : Nat) (k : Int) (v : Value) (d : Nat) (L : List Wr) (dp : Nat) (Lp Lb : List Wr) (F : Wr → Int) (N : Nat) (w : World) : Prop where
  q : QAt w g g v k d L
  pm : Pm w bp N dp Lp
  bm : Bm w bb N Lb F
  ne : bp ≠ bb
  lo : w0.heap.size ≤ g ∧ w0.heap.size ≤ bp ∧ w0.heap.size ≤ bb
  be : Below w0.heap.size w0 w
section
variable {w0 w w' : World} {g bp bb : Nat} {k : Int} {v : Value} {d dp : Nat} {L Lp Lb : List Wr} {F : Wr → Int} {N : Nat}
theorem Pm.later {n : Nat} (h : Pm w bp n dp Lp) (hb : Below w.heap.size w w') : Pm w' bp n dp Lp := by obtain ⟨lp, U, h1, h2⟩ := h; exact ⟨lp, U, h1.later hb, h2⟩
theorem Bm.later {n : Nat} (h : Bm w bb n Lb F) (hb : Below w.heap.size w w') : Bm w' bb n Lb F := by obtain ⟨U, h1, h2⟩ := h; exact ⟨U, h1.later hb, h2⟩
theorem Bs.later (h : Bs w0 g bp bb k v d L dp Lp Lb F N w) (hb : Below w.heap.size w w') : Bs w0 g bp bb k v d L dp Lp Lb F N w' :=
  ⟨h.q.later hb, h.pm.later hb, h.bm.later hb, h.ne, h.lo, h.be.trans (hb.mono h.be.size)⟩
theorem Bs.mono (h : Bs w0 g bp bb k v d L dp Lp Lb F N w) {N' : Nat} (hN : N ≤ N') : Bs w0 g bp bb k v d L dp Lp Lb F N' w := by
  obtain ⟨lp, U, h1, h2⟩ := h.pm
  obtain ⟨U', h3, h4⟩ := h.bm
  exact ⟨h.q, ⟨lp, U, h1.mono hN, h2⟩, ⟨U', h3.mono hN, h4⟩, h.ne, h.lo, h.be⟩
/-- An act of the queue. -/
theorem Bs.act {a : Value} {d' : Nat} {L' : List Wr} {e : Ending} {D q : Nat} {x : Int} (h : Bs w0 g bp bb k v d L dp Lp Lb F N w) (hx : Ax D q x w) (ht : ActTold a g g v k d' L' w e w') : e = .returned a ∧ ∃ v', Bs w0 g bp bb k v' d' L' dp Lp Lb F N w' ∧ Ax D q x w' := by
  obtain ⟨v', h1, h2, h3⟩ := ht
  obtain ⟨lp, U, p1, p2⟩ := h.pm
  obtain ⟨U', p3, p4⟩ := h.bm
  exact ⟨h1, v', ⟨h2, ⟨lp, U, p1.queue h.q h3, p2⟩, ⟨U', p3.queue h.q h3, p4⟩, h.ne, h.lo, h.be.trans (h3.below _ h.be.size (fun k hk => Nat.le_trans h.lo.1 (h.q.blocks k hk).1))⟩, h.q.keep h3 hx (by decide) (by decide)⟩
theorem Ax.map {D q : Nat} {x : Int} {R : Value → Option (DataW Unit × List MemPlace)} {n : Nat} {l : List Int} {U : Int → DataW Unit} {b : Nat} (hx : Ax D q x w) (h : KM R w b n l U) (hg : w.grownBy w' (some b)) : Ax D q x w' :=
  (hg.block D (lt_of_heap hx) (fun e => by injection e with e; exact h.ne_block hx e)).trans hx
/-- The priority of a new one is put. -/
theorem Bs.putP {D q : Nat} {z : Int} (h : Bs w0 g bp bb k v d L dp Lp Lb F N w) (hz : Ax D q z w) (hN : N ≤ 1000000) (hd : dp ≤ 1000000) {x b : Int} (hx : IW x) (hold : ∀ y ∈ Lp, y.1 < (dp : Int)) :
    ∃ w', (Instr.mapUpdate 44 (.map (some bp)) (.int .i64 (dp : Int)) (.int .i64 x)).run Try.prog w = .ok () w' ∧ Bs w0 g bp bb k v d L (dp + 1) (Lp ++ [((dp : Int), x, b)]) Lb F (N + 1) w' ∧ Ax D q z w' := by
  obtain ⟨lp, U, p1, p2, p3⟩ := h.pm
  obtain ⟨U', p4, p5⟩ := h.bm
  obtain ⟨w', hrun, h1, h2⟩ := p1.put Try.underlying44 (by omega) (X := (dp : Int)) (by unfold IW; omega) (plainElem_int (H := Unit) Try.underlying3 (WalkArith.wf_i64 hx)) (fun hm => by have := (p2 _ hm).2; omega)
  refine ⟨w', hrun, ⟨h.q.map p1 h2, ⟨lp ++ [(dp : Int)], _, h1, fun y hy => ?_, fun y hy => ?_⟩, ⟨U', (p4.kept h2 (fun e => h.ne (by injection e with e; exact e.symm))).mono (Nat.le_succ _), p5⟩, h.ne, h.lo, below_map h.be h2 h.lo.2.1 (Nat.le_refl _)⟩, hz.map p1 h2⟩
  · rcases List.mem_append.1 hy with m | m
    · have := p2 y m; omega
    · rw [List.mem_singleton.1 m]; omega
  · rcases List.mem_append.1 hy with m | m
    · have e := hold y m
      refine ⟨List.mem_append_left _ (p3 y m).1, ?_⟩
      show (if y.1 = (dp : Int) then _ else U y.1) = _
      rw [if_neg (by omega)]
      exact (p3 y m).2
    · rw [List.mem_singleton.1 m]
      refine ⟨by simp, ?_⟩
      show (if (dp : Int) = (dp : Int) then _ else U _) = _
      rw [if_pos rfl]
      rfl
/-- The count of a new one is put. -/
theorem Bs.putB {D q : Nat} {z : Int} (h : Bs w0 g bp bb k v d L dp Lp Lb F N w) (hz : Ax D q z w) (hN : N ≤ 1000000) {n p b : Int} (hn : IW n) (hold : ∀ y ∈ Lb, y.1 < n) (hF : F (n, p, b) = 0) :
    ∃ w', (Instr.mapUpdate 44 (.map (some bb)) (.int .i64 n) (.int .i64 0)).run Try.prog w = .ok () w' ∧ Bs w0 g bp bb k v d L dp Lp (Lb ++ [(n, p, b)]) F (N + 1) w' ∧ Ax D q z w' := by
  obtain ⟨lp, U, p1, p2, p3⟩ := h.pm
  obtain ⟨U', p4, p5⟩ := h.bm
  obtain ⟨w', hrun, h1, h2⟩ := p4.put Try.underlying44 (by omega) (X := n) hn (plainElem_int (H := Unit) Try.underlying3 (WalkArith.wf_i64 (by omega : -9223372036854775808 ≤ (0 : Int) ∧ (0 : Int) ≤ 9223372036854775807))) (fun hm => by
    obtain ⟨y, hy, e⟩ := List.mem_map.1 hm
    have := hold y hy; omega)
  refine ⟨w', hrun, ⟨h.q.map p4 h2, ⟨lp, U, (p1.kept h2 (fun e => h.ne (by injection e with e))).mono (Nat.le_succ _), p2, p3⟩, ⟨_, h1.congr (l' := nos (Lb ++ [(n, p, b)])) (by simp [nos]) (fun x hx => rfl), fun y hy => ?_⟩, h.ne, h.lo, below_map h.be h2 h.lo.2.2 (Nat.le_refl _)⟩, hz.map p4 h2⟩
  rcases List.mem_append.1 hy with m | m
  · have e := hold y m
    show (if y.1 = n then _ else U' y.1) = _
    rw [if_neg (by omega)]
    exact p5 y m
  · rw [List.mem_singleton.1 m]
    show (if n = n then _ else U' _) = _
    rw [if_pos rfl, hF]
    rfl
/-- One is struck from the counts. -/
theorem Bs.struck {F' : Wr → Int} {Lb' : List Wr} {U : Int → DataW Unit} {X : Int} (h : Bs w0 g bp bb k v d L dp Lp Lb F N w) (hU : KM (plainElem Try.prog 3) w bb N (nos Lb) U) (hF : ∀ y ∈ Lb, U y.1 = lI (F y)) (hk : KM (plainElem Try.prog 3) w' bb N ((nos Lb).erase X) U) (hg : w.grownBy w' (some bb))
    (hn : nos Lb' = (nos Lb).erase X) (hFF : ∀ y' ∈ Lb', ∃ y ∈ Lb, y.1 = y'.1 ∧ F y = F' y') : Bs w0 g bp bb k v d L dp Lp Lb' F' N w' := by
  obtain ⟨lp, U0, p1, p2⟩ := h.pm
  refine ⟨h.q.map hU hg, ⟨lp, U0, p1.kept hg (fun e => h.ne (by injection e with e)), p2⟩, ⟨U, by rw [hn]; exact hk, fun y hy => ?_⟩, h.ne, h.lo, below_map h.be hg h.lo.2.2 (Nat.le_refl _)⟩
  obtain ⟨y0, m, e1, e2⟩ := hFF y hy
  rw [← e1, ← e2]
  exact hF y0 m
end
/-! ### The loop over the counts -/
structure Rn (wB : World) (bb r n : Nat) (id : Int) (M : List Wr) (D : DataW Unit) (left : Lit → Bool) (cnt : Nat) (w : World) : Prop where
  rg : w.ranges Try.prog 3 (plainElem Try.prog 3) bb r n D left cnt
  hask : ∀ x : Int, has D (kI x) = decide (x ∈ nos M)
  val : ∀ y ∈ M, ∀ z, D.atKey (kI y.1) z = lI (if y.1 < id ∧ left (kI y.1) = true then y.2.2 - 1 else y.2.2)
  sz : size D = M.length
  tn : Turn (fun k => k = bb) (fun k => k = bb) wB w
  hr : wB.heap.size ≤ r
theorem same_kI {x y : Int} (h : y ≠ x) : (kI y).sameKey (kI x) = false := Maps.sameKey_ne (fun e => h (kI_inj e))
section
variable {wB w w' : World} {bb r n : Nat} {id : Int} {M : List Wr} {D : DataW Unit} {left : Lit → Bool} {cnt cnt' : Nat}
theorem Rn.start {w1 : World} {D0 : DataW Unit} (hrg : w1.ranges Try.prog 3 (plainElem Try.prog 3) bb wB.heap.size n D0 (has D0) (size D0)) (hh : ∀ x : Int, has D0 (kI x) = decide (x ∈ nos M)) (hv : ∀ y ∈ M, ∀ z, D0.atKey (kI y.1) z = lI (if y.1 < id then y.2.2 - 1 else y.2.2)) (hs : size D0 = M.length) (hg : wB.grownBy w1 none) : Rn wB bb wB.heap.size n id M D0 (has D0) (size D0) w1 := by
  refine ⟨hrg, hh, fun y hy z => ?_, hs, Turn.grown hg (fun k hk => by cases hk), Nat.le_refl _⟩
  rw [hv y hy z]
  have : has D0 (kI y.1) = true := by rw [hh]; exact decide_eq_true (List.mem_map.2 ⟨y, hy, rfl⟩)
  rw [this]
  by_cases e : y.1 < id <;> simp [e]
/-- One that is not ahead. -/
theorem Rn.pass (h : Rn wB bb r n id M D left cnt w) {x : Int} (hx : ¬ x < id) (hrg : w'.ranges Try.prog 3 (plainElem Try.prog 3) bb r n D (fun z => left z && !z.sameKey (kI x)) cnt') (hg : w.grownBy w' (some r)) : Rn wB bb r n id M D (fun z => left z && !z.sameKey (kI x)) cnt' w' := by
  have hr := h.hr
  refine ⟨hrg, h.hask, fun y hy z => ?_, h.sz, ⟨hg.os.trans h.tn.os, hg.tape.trans h.tn.tape, hg.output.trans h.tn.output, Nat.le_trans h.tn.size hg.size, fun k hk hF => (hg.block k (Nat.lt_of_lt_of_le hk h.tn.size) (fun e => by injection e with e; omega)).trans (h.tn.block k hk hF), fun k hk => .inl hk⟩, hr⟩
  rw [h.val y hy z]
  by_cases e : y.1 = x
  · have e1 : ¬ y.1 < id := by rw [e]; exact hx
    rw [if_neg (fun q => e1 q.1), if_neg (fun q => e1 q.1)]
  · simp only [same_kI e, Bool.not_false, Bool.and_true]
/-- One that is ahead is counted up. -/
theorem Rn.more (h : Rn wB bb r n id M D left cnt w) {w1 : World} {x : Int} (hnd : M.Pairwise fun a b => a.1 ≠ b.1) {y0 : Wr} (hy0 : y0 ∈ M) (he : y0.1 = x) (hx : x < id) (hrg1 : w1.ranges Try.prog 3 (plainElem Try.prog 3) bb r n D (fun z => left z && !z.sameKey (kI x)) cnt') (hg1 : w.grownBy w1 (some r))
    (hrg : w'.ranges Try.prog 3 (plainElem Try.prog 3) bb r n (D.put (kI x) (lI y0.2.2)) (fun z => left z && !z.sameKey (kI x)) cnt') (hg : w1.grownBy w' (some bb)) : Rn wB bb r n id M (D.put (kI x) (lI y0.2.2)) (fun z => left z && !z.sameKey (kI x)) cnt' w' := by
  have hr := h.hr
  have hM := h.rg.owns.isMap
  have hT := h.rg.owns.tidy (int_keyed Try.underlying3)
  have hhas : has D (kI x) = true := by rw [h.hask]; exact decide_eq_true (List.mem_map.2 ⟨y0, hy0, he⟩)
  refine ⟨hrg, fun z => ?_, fun y hy z => ?_, ?_, ⟨hg.os.trans (hg1.os.trans h.tn.os), hg.tape.trans (hg1.tape.trans h.tn.tape), hg.output.trans (hg1.output.trans h.tn.output), Nat.le_trans h.tn.size (Nat.le_trans hg1.size hg.size), fun k hk hF => (hg.block k (Nat.lt_of_lt_of_le hk (Nat.le_trans h.tn.size hg1.size)) (fun e => by injection e with e; exact hF e)).trans ((hg1.block k (Nat.lt_of_lt_of_le hk h.tn.size) (fun e => by injection e with e; omega)).trans (h.tn.block k hk hF)), fun k hk => .inl hk⟩, hr⟩
  · by_cases e : z = x
    · subst e
      rw [has_put_same hM (kI_key z), ← h.hask, hhas]
    · rw [has_put_other (fun q => e (kI_inj q)), h.hask]
  · by_cases e : y.1 = x
    · have hyy : y = y0 := by
        obtain ⟨i, hi, rfl⟩ := List.getElem_of_mem hy
        obtain ⟨j, hj, rfl⟩ := List.getElem_of_mem hy0
        have hp := List.pairwise_iff_getElem.1 hnd
        rcases Nat.lt_trichotomy i j with q | q | q
        · exact absurd (e.trans he.symm) (hp i j hi hj q)
        · subst q; rfl
        · exact absurd (he.trans e.symm) (hp j i hj hi q)
      subst hyy
      rw [e, atKey_put_same hM (kI_key x)]
      have hs : (kI x).sameKey (kI x) = true := WideAt.sameKey_self (kI_key x)
      simp [hs]
    · rw [atKey_put_other (fun q => e (kI_inj q)), h.val y hy z]
      simp only [same_kI e, Bool.not_false, Bool.and_true]
  · rw [size_put hT, hhas]
    exact h.sz
/-- The loop's end. -/
theorem Rn.done {w0 : World} {g bp : Nat} {k : Int} {v : Value} {d dp : Nat} {L Lp : List Wr} {F : Wr → Int} (h : Rn wB bb r n id M D left cnt w) (hl : ∀ kl, left kl = false) (hb : Bs w0 g bp bb k v d L dp Lp M F n wB) {U : Int → DataW Unit} (hU : KM (plainElem Try.prog 3) wB bb n (nos M) U) : Bs w0 g bp bb k v d L dp Lp M (fun y => y.2.2) n w := by
  have tn : wB.grownBy w (some bb) := ⟨h.tn.os, h.tn.tape, h.tn.output, h.tn.size, fun k hk hne => h.tn.block k hk (fun e => hne (by rw [e]))⟩
  obtain ⟨lp, U0, p1, p2⟩ := hb.pm
  refine ⟨hb.q.map hU tn, ⟨lp, U0, p1.kept tn (fun e => hb.ne (by injection e with e)), p2⟩, ⟨fun x => D.atKey (kI x) (lI 0), ⟨D, h.rg.owns, h.hask, fun x hx z => ?_, by rw [h.sz]; simp [nos]⟩, fun y hy => ?_⟩, hb.ne, hb.lo, below_map hb.be tn hb.lo.2.2 (Nat.le_refl _)⟩
  · obtain ⟨y, hy, rfl⟩ := List.mem_map.1 hx
    show _ = D.atKey (kI y.1) (lI 0)
    rw [h.val y hy z, h.val y hy (lI 0)]
  · show D.atKey (kI y.1) (lI 0) = _
    rw [h.val y hy, hl]
    simp
end
end Ag
end Go.Proofs.Ytgeahckblgpnmaa
