/-
  A map keyed by two numbers (a cell, and a moment), of numbers: made, put, asked.
  Robots that plan one behind the other: plain facts; the table and the map in one memory.
  Robots that plan one behind the other: where each one stands, and what is taken by then.
-/
import Derived.Test.YtcdclghmebgpnaaGreatDoorTopFl
import Derived.DeepKeys4
import Derived.Maps.OwnSet
import Derived.Maps.Views
set_option linter.unusedVariables false
set_option maxRecDepth 100000
section
namespace Go.Proofs.YtcdclghmebgpnaaGreatDoor
namespace Sp
open Go.ChangeShapes Go.WideShapes Go.ChangeAt Go.RowKit Go.Deep Go.Maps
open Wn (IW)

theorem law_arr0 : Go.WideMaps.KeyLaw Tryz.prog 67 := deep_law_laid (by kernel_rfl) (m := 2) (by omega) (of_decide_eq_true (by kernel_rfl)) (by kernel_rfl) (by rw [Tryz.underlying67])
theorem law_arr : Keyed Tryz.prog 67 := Keyed.of_law law_arr0
/-- What a cell and a moment read as, as a key. -/
def KA (x y : Int) : Lit := .string (keyBytes [.int .i64 x, .int .i64 y])
theorem keyType_arr : Tryz.prog.keyType 67 = true := by kernel_rfl
theorem cells_arr : Tryz.prog.cellsOf 67 = 2 := by kernel_rfl
theorem cells_int7 : Tryz.prog.cellsOf 3 = 1 := by kernel_rfl
theorem keyOf_arr {x y : Int} (hx : IW x) (hy : IW y) : keyOf Tryz.prog 67 (.agg #[.int .i64 x, .int .i64 y]) = some (KA x y) := by
  have hx := WalkArith.wf_i64 hx
  have hy := WalkArith.wf_i64 hy
  have hf : (Value.agg #[.int .i64 x, .int .i64 y]).formed Tryz.prog 67 = true := by simp [Value.formed, Tryz.underlying67, cells_arr]
  have hsz : Tryz.prog.types.size + 1 = (Tryz.prog.types.size - 1) + 1 + 1 := by kernel_rfl
  have hk : ∀ (d : Nat) (n : Int), (Lit.int .i64 n).wf = true → Tryz.prog.keyLits (d + 1) 3 [.int .i64 n] = some [.int .i64 n] := fun d n hn => by
    unfold Program.keyLits
    simp [Tryz.underlying3, hn]
  unfold keyOf
  rw [Tryz.underlying67]
  simp only [keyType_arr, hf, Bool.and_self, if_true]
  rw [hsz]
  generalize Tryz.prog.types.size - 1 = d
  unfold Program.keyLits
  simp [Tryz.underlying67, Value.cells, cells_arr, cells_int7, KA]
  refine ⟨[[.int .i64 x], [.int .i64 y]], ?_, rfl⟩
  rw [show List.range 2 = [0, 1] from rfl]
  simp [hk, hx, hy]
theorem KA_inj {x y z u : Int} (hx : IW x) (hy : IW y) (hz : IW z) (hu : IW u) (h : KA x y = KA z u) : x = z ∧ y = u := by
  have h1 := keyOf_arr hx hy
  have h2 := keyOf_arr hz hu
  rw [← h] at h2
  have := law_arr.inj h1 h2
  simpa using this
/-- Block b is such a map. -/
def MapC (w : World) (b n : Nat) (m : Int → Int → Option Int) : Prop :=
  ∃ D : DataW Unit, w.ownsMap Tryz.prog 67 (plainElem Tryz.prog 3) b n D ∧ ∀ x y : Int, IW x → IW y → has D (KA x y) = (m x y).isSome ∧ ∀ v, m x y = some v → ∀ z, D.atKey (KA x y) z = .lit (.int .i64 v)
theorem MapC.made (w : World) : MapC (w.alloc (.map #[] 0)) w.heap.size 0 (fun _ _ => none) :=
  ⟨.map [], World.ownsMap_made w _ _ _, fun x y _ _ => ⟨by simp [has], fun v h => by cases h⟩⟩
theorem MapC.lt {w : World} {b n : Nat} {m : Int → Int → Option Int} (h : MapC w b n m) : b < w.heap.size := by
  obtain ⟨D, h1, h2⟩ := h
  exact h1.lt
theorem MapC.block {w : World} {b n : Nat} {m : Int → Int → Option Int} (h : MapC w b n m) : ∃ es clock, w.heap[b]? = some (.map es clock) := by
  obtain ⟨D, ⟨es, clock, hb, _⟩, _⟩ := h
  exact ⟨es, clock, hb⟩
theorem MapC.same {w w' : World} {b n : Nat} {m : Int → Int → Option Int} (h : MapC w b n m) (he : w'.heap[b]? = w.heap[b]?) : MapC w' b n m := by
  obtain ⟨D, ⟨es, clock, hb, hr⟩, h2⟩ := h
  exact ⟨D, ⟨es, clock, by rw [he]; exact hb, hr⟩, h2⟩
theorem MapC.later {w w' : World} {b n : Nat} {m : Int → Int → Option Int} (h : MapC w b n m) (hb : Below w.heap.size w w') : MapC w' b n m := h.same (hb.block b h.lt)
/-- A cell and a moment are put, whether they are there or not. -/
theorem MapC.put_run {w : World} {b n : Nat} {m : Int → Int → Option Int} (h : MapC w b n m) (hn : n ≤ 1048576) {X Y V : Int} (hX : IW X) (hY : IW Y) (hV : IW V) :
    ∃ w', (Instr.mapUpdate 59 (.map (some b)) (.agg #[.int .i64 X, .int .i64 Y]) (.int .i64 V)).run Tryz.prog w = .ok () w' ∧ MapC w' b (n + 1) (fun x y => if x = X ∧ y = Y then some V else m x y) ∧ w.grownBy w' (some b) := by
  obtain ⟨D, h1, h2⟩ := h
  have hM := h1.isMap
  obtain ⟨w', hrun, hw', hgr⟩ := h1.update law_arr Tryz.underlying59 (by unfold maxLen; omega) (keyOf_arr hX hY) (plainElem_int (H := Unit) Tryz.underlying3 (WalkArith.wf_i64 hV))
  refine ⟨w', hrun, ⟨D.put (KA X Y) (.lit (.int .i64 V)), hw', fun x y hx hy => ?_⟩, hgr⟩
  dsimp only
  by_cases e : x = X ∧ y = Y
  · obtain ⟨rfl, rfl⟩ := e
    rw [if_pos ⟨rfl, rfl⟩]
    exact ⟨by rw [has_put_same hM (by trivial)]; rfl, fun v hv z => by injection hv with hv; subst hv; exact atKey_put_same hM (by trivial) _ z⟩
  · rw [if_neg e]
    have hne : KA X Y ≠ KA x y := fun h => e (by obtain ⟨h1, h2⟩ := KA_inj hX hY hx hy h; exact ⟨h1.symm, h2.symm⟩)
    have hne2 : KA x y ≠ KA X Y := fun h => hne h.symm
    refine ⟨?_, fun v hv z => ?_⟩
    · first
      | rw [has_put_other hne]; exact (h2 x y hx hy).1
      | rw [has_put_other hne2]; exact (h2 x y hx hy).1
    · first
      | rw [atKey_put_other hne]; exact (h2 x y hx hy).2 v hv z
      | rw [atKey_put_other hne2]; exact (h2 x y hx hy).2 v hv z
/-- Is it there, and what is it? -/
theorem MapC.asked {w : World} {b n : Nat} {m : Int → Int → Option Int} (h : MapC w b n m) {X Y : Int} (hX : IW X) (hY : IW Y) : ∃ c : Int, (Instr.lookup 59 (.map (some b)) (.agg #[.int .i64 X, .int .i64 Y]) true).run Tryz.prog w = .ok (.tuple #[.int .i64 c, .bool (m X Y).isSome]) w ∧ ∀ v, m X Y = some v → c = v := by
  obtain ⟨D, h1, h2⟩ := h
  have hz : (zeroValue 3).run Tryz.prog w = .ok (.int .i64 0) w := by kernel_rfl
  obtain ⟨v, ps, hrun, hv⟩ := h1.look_ok law_arr Tryz.underlying59 hz (plainElem_int Tryz.underlying3 (by decide)) (keyOf_arr hX hY)
  obtain ⟨c, rfl, hc, hwc⟩ := plainElem_int_inv Tryz.underlying3 hv
  refine ⟨c, by rw [hrun, (h2 X Y hX hY).1], fun v hv => ?_⟩
  simp only [Prod.mk.injEq] at hc
  have := ((h2 X Y hX hY).2 v hv (.lit (.int .i64 0))).symm.trans hc.1
  simpa using this.symm
end Sp
end Go.Proofs.YtcdclghmebgpnaaGreatDoor
end

section
namespace Go.Proofs.YtcdclghmebgpnaaGreatDoor
namespace Sp
open Go.RowKit Fl Pt
open Wn (Tab TF frees isT Ordw IW Wt wcl plc Rising RT Rt R3 tkn rtk tk upd inW insAt rgt)

/-- A way through time, as the document says it. -/
def DI (W H a : Nat) (s : ByteArray) (T : Int → List (Int × Int)) : Nat → Int → List (Int × Int) → Prop
  | _, _, [] => True
  | c, m, q :: r => m < q.2 ∧ q.2 < 1048576 ∧ (∀ u, m < u → u < q.2 → isT (T (c : Int)) u = true) ∧ ∃ d : Nat, q.1 = (d : Int) ∧ d ∈ nx5 W H (at_ s) a (fun _ => false) c ∧ isT (T (d : Int)) q.2 = true ∧ DI W H a s T d q.2 r
theorem here_of {e : Env} {c : Nat} {m : Int} : ∀ {L : List (Int × Int)}, WyT e c m L → In (e.O c) m
  | [], h => h
  | _ :: _, ⟨k, h, _⟩ => ⟨k, h⟩
theorem in_isT {W H a : Nat} {s : ByteArray} {t0 u : Int} {T : Int → List (Int × Int)} (ho : ∀ y, Ordw 0 (T y)) {c : Nat} (h : t0 < u) : In ((envOf W H a s t0 T).O c) u ↔ isT (T (c : Int)) u = true := by
  show In (opn (c == a) t0 (frees (T (c : Int)))) u ↔ _
  rw [opn_in h, in_frees (ho _)]
theorem At.run {O : List (Int × Int)} (hO : Seps O) {k : Nat} {m t : Int} (hk : At O k m) (h : ∀ u, m < u → u < t → In O u) : ∀ n : Nat, m + (n : Int) < t → At O k (m + (n : Int))
  | 0, _ => by simpa using hk
  | n + 1, hn => by
    have ih := At.run hO hk h n (by omega)
    obtain ⟨j, hj⟩ := h (m + ((n + 1 : Nat) : Int)) (by omega) hn
    have e : m + ((n + 1 : Nat) : Int) = (m + (n : Int)) + 1 := by omega
    rw [e] at hj ⊢
    obtain rfl := ih.next hO hj
    exact hj
theorem wyT_di {W H a : Nat} {s : ByteArray} {t0 : Int} {T : Int → List (Int × Int)} (hE : (envOf W H a s t0 T).Ok) (ho : ∀ y, Ordw 0 (T y)) : ∀ (L : List (Int × Int)) (c : Nat) (m : Int), t0 ≤ m → In ((envOf W H a s t0 T).O c) m → (WyT (envOf W H a s t0 T) c m L ↔ DI W H a s T c m L)
  | [], c, m, hm, hi => ⟨fun _ => trivial, fun _ => hi⟩
  | q :: r, c, m, hm, hi => by
    constructor
    · rintro ⟨k, hk, h1, h2, h3, d, h5, h6, h7⟩
      have ht := (in_isT ho (by omega)).1 (here_of h7)
      have ht2 := ht
      rw [Wn.isT_in (ho _)] at ht2
      simp only [Bool.and_eq_true, decide_eq_true_eq] at ht2
      exact ⟨h1, ht2.1.2, fun u u1 u2 => (in_isT ho (by omega)).1 ⟨k, hk.1, by have := hk.2.1; omega, by have h2 : q.2 ≤ (((envOf W H a s t0 T).O c).getD k (0, 0)).2 := h2; omega⟩, d, h5, mem_nx5.2 ⟨outB_iff.1 h3, h6, rfl⟩, ht, (wyT_di hE ho r d q.2 (by omega) (here_of h7)).1 h7⟩
    · rintro ⟨h1, h2, h3, d, h5, h6, h7, h8⟩
      obtain ⟨k, hk⟩ := hi
      have hrun := At.run (hE.seps c) hk (t := q.2) (fun u u1 u2 => (in_isT ho (by omega)).2 (h3 u u1 u2)) (q.2 - 1 - m).toNat (by omega)
      rw [show m + ((q.2 - 1 - m).toNat : Int) = q.2 - 1 by omega] at hrun
      have hd := (in_isT (W := W) (H := H) (a := a) (s := s) (t0 := t0) ho (by omega)).2 h7
      have h6 := mem_nx5.1 h6
      refine ⟨k, hk, h1, ?_, outB_iff.2 h6.1, d, h5, h6.2.1, (wyT_di hE ho r d q.2 (by omega) hd).2 h8⟩
      have := hrun.2.2
      show q.2 ≤ (((envOf W H a s t0 T).O c).getD k (0, 0)).2
      omega
/-- A moment that is free is taken, and nothing else is. -/
theorem take_free {L : List (Int × Int)} {u : Int} (ho : Ordw 0 L) (hl : L.length < 4096) (h0 : 0 ≤ u) (h1 : u + 1 ≤ 1048576) (hf : isT L u = true) : ∃ L', tk L u (u + 1) = (0, L') ∧ ∀ v, isT L' v = (isT L v && !decide (v = u)) := by
  have hr : rgt u (u + 1) = true := by unfold rgt; simp [h0, h1]; omega
  have hin : inW u L = false := by
    rw [Wn.isT_in ho] at hf
    simp only [Bool.and_eq_true] at hf
    simpa using hf.2
  have hm : Wn.meets L u (u + 1) = inW u L := by
    unfold Wn.meets inW
    congr 1
    funext p
    rw [show decide (p.1 < u + 1) = decide (p.1 ≤ u) by rw [decide_eq_decide]; omega]
  have hmp := Wn.meets_plc (show u < u + 1 by omega) ho
  rw [hm, hin] at hmp
  have hno := of_decide_eq_false hmp.symm
  have e : tk L u (u + 1) = (0, insAt L (plc L u) (u, u + 1)) := by
    unfold tk
    rw [if_neg (by rw [hr]; decide), if_neg hno, if_neg (by omega)]
  refine ⟨_, e, fun v => ?_⟩
  have ho2 : Ordw 0 (insAt L (plc L u) (u, u + 1)) := by
    have := Wn.tk_ord (a := u) (b := u + 1) ho
    rwa [e] at this
  rw [Wn.isT_in ho2, Wn.isT_in ho]
  have hi : inW v (insAt L (plc L u) (u, u + 1)) = (inW v L || decide (v = u)) := by
    have hs : inW v L = (inW v (L.take (plc L u)) || inW v (L.drop (plc L u))) := by
      unfold inW
      rw [← List.any_append, List.take_append_drop]
    rw [hs]
    unfold insAt inW
    rw [List.any_append, List.any_append, List.any_cons, List.any_nil]
    have : (decide ((u, u + 1).1 ≤ v) && decide (v < (u, u + 1).2)) = decide (v = u) := by
      rw [Bool.eq_iff_iff]
      simp only [Bool.and_eq_true, decide_eq_true_eq]
      omega
    rw [this]
    cases (L.take (plc L u)).any fun p => decide (p.1 ≤ v) && decide (v < p.2) <;> cases decide (v = u) <;> cases (L.drop (plc L u)).any fun p => decide (p.1 ≤ v) && decide (v < p.2) <;> rfl
  rw [hi]
  cases decide (0 ≤ v) <;> cases decide (v < 1048576) <;> cases inW v L <;> cases decide (v = u) <;> rfl
/-- What is asked of steps that were planned, and are not none. -/
structure Pq (W H : Int) (s : ByteArray) (fr st tz : Int) (T : Int → List (Int × Int)) (P : List (Int × Int)) : Prop where
  on : OnFloor W H s fr
  tgt : 0 ≤ tz ∧ tz < (s.size : Int)
  stm : 0 ≤ st ∧ st < 1048576
  di : DI W.toNat H.toNat fr.toNat s T fr.toNat st P
  upto : ∀ q ∈ P, q.2 ≤ st + 40
  far : ∀ d, IsD (nx5 W.toNat H.toNat (at_ s) fr.toNat fun _ => false) fr.toNat tz.toNat d → d ≤ (P.getD (P.length - 1) (0, 0)).2 - st
theorem DI.rise {W H a : Nat} {s : ByteArray} {T : Int → List (Int × Int)} : ∀ {L : List (Int × Int)} {c : Nat} {m : Int}, DI W H a s T c m L → (∀ q ∈ L, m < q.2) ∧ L.Pairwise fun p q => p.2 < q.2
  | [], _, _, _ => ⟨fun q hq => (by cases hq), .nil⟩
  | q :: r, c, m, h => by
    obtain ⟨h1, _, _, d, _, _, _, h7⟩ := h
    obtain ⟨i1, i2⟩ := DI.rise h7
    refine ⟨fun x hx => ?_, .cons (fun x hx => i1 x hx) i2⟩
    rcases List.mem_cons.1 hx with rfl | hx
    · exact h1
    · have := i1 x hx; omega
theorem pq_of {W H : Int} {s : ByteArray} {fr st tz : Int} {T : Int → List (Int × Int)} {P : List (Int × Int)} (ho : ∀ y, Ordw 0 (T y)) (hs : ∀ y, (T y).length ≤ 2000) (hP : PlanIs W H s fr st tz 40 T P 0) (hne : P ≠ []) : Pq W H s fr st tz T P := by
  rcases hP with ⟨_, e, _⟩ | ⟨h1, h2, ⟨e, _, _⟩ | ⟨_, N, cn, h3, h4, h5, h6⟩⟩
  · exact absurd e hne
  · exact absurd e hne
  · have hE := envOk h1.1 ho hs
    have h0 := h1.1.2.1
    obtain ⟨p, pf, pe, ps, pT, pt, pa, pW, pH⟩ := fit_of h1.1 ho hs
    have hr : (envOf W.toNat H.toNat fr.toNat s st T).R (st + N) tz.toNat ∧ ∀ t, (envOf W.toNat H.toNat fr.toNat s st T).R t tz.toNat → st + N ≤ t := by
      rcases h4 with ⟨r, _, h⟩ | ⟨h, _⟩
      · exact ⟨r, h⟩
      · omega
    obtain ⟨m, w, hm, j, j1, _⟩ := h5.way N tz.toNat (by show st + (N : Int) ≤ _; omega) hr.1
    have hw := w.wyT ⟨j, j1⟩
    rw [← h6] at hw
    have hdi := (wyT_di hE ho P fr.toNat st (Int.le_refl _) hE.start).1 hw
    have hlast := h5.last (n := N) (c := tz.toNat) (by show st + (N : Int) ≤ _; omega) hr.1 hr.2
    obtain ⟨l, hl⟩ : ∃ l, P = l ++ [(((tz.toNat : Nat) : Int), st + (N : Int))] := by
      rcases hlast with ⟨_, _, e⟩ | ⟨_, l, e⟩
      · rw [e] at h6; exact absurd h6 hne
      · exact ⟨castS l, by rw [h6, e, castS_app]; rfl⟩
    have hend : (P.getD (P.length - 1) (0, 0)).2 = st + (N : Int) := by
      rw [hl]
      simp [List.getD]
    obtain ⟨_, _, z, _, _, hz, hzN, _⟩ := onFloor_some h2
    refine ⟨h1.1.1, by omega, h1.1.2, hdi, fun q hq => ?_, fun d hd => ?_⟩
    · have hpw := (DI.rise hdi).2
      rw [hl, List.pairwise_append] at hpw
      rw [hl] at hq
      rcases List.mem_append.1 hq with hq | hq
      · have := hpw.2.2 q hq _ (List.mem_singleton.2 rfl)
        have : q.2 < st + (N : Int) := this
        omega
      · rw [List.mem_singleton.1 hq]
        show st + (N : Int) ≤ _
        omega
    · rw [hend]
      have r := hr.1
      rw [← pe] at r
      obtain ⟨k, k1, k2⟩ := pf.walk r
      rw [pW, pH, ps, pa] at k2
      have := isd_le hd k2
      rw [pt] at k1
      omega
/-- A want's box; a step's box. -/
def Bw8 (D : Nat) (x y z : Int) (w : World) : Prop := w.heap[D]? = some (.cells #[.int .i64 x, .int .i64 y, .int .i64 z] 61 (0, 0))
theorem Bw8.cells {D : Nat} {x y z : Int} {w : World} (h : Bw8 D x y z w) : w.cell? ⟨D, 0, none⟩ = some (.int .i64 x) ∧ w.cell? ⟨D, 1, none⟩ = some (.int .i64 y) ∧ w.cell? ⟨D, 2, none⟩ = some (.int .i64 z) ∧ D < w.heap.size :=
  ⟨by rw [cell_of_row w D 0 _ _ _ h]; rfl, by rw [cell_of_row w D 1 _ _ _ h]; rfl, by rw [cell_of_row w D 2 _ _ _ h]; rfl, lt_of_heap h⟩
theorem Bw8.new (w : World) (x y z : Int) : Bw8 w.heap.size x y z (w.alloc (.cells #[.int .i64 x, .int .i64 y, .int .i64 z] 61)) := heap_alloc_new w _
theorem Bw8.later {D : Nat} {x y z : Int} {w w' : World} (h : Bw8 D x y z w) (hb : Below w.heap.size w w') : Bw8 D x y z w' := (hb.block D (lt_of_heap h)).trans h
theorem Bw8.kept {D : Nat} {x y z : Int} {w w' : World} (h : Bw8 D x y z w) (hk : KeptTb w w') : Bw8 D x y z w' := hk D _ h (notT_cells (by decide) (by decide))
theorem Bs.kept8 {D : Nat} {x y : Int} {w w' : World} (h : Bs D x y w) (hk : KeptTb w w') : Bs D x y w' := hk D _ h (notT_cells (by decide) (by decide))
theorem Bf.kept8 {D : Nat} {W H : Int} {c : ByteArray} {w w' : World} (h : Bf D W H c w) (hk : KeptTb w w') : Bf D W H c w' := hk D _ h (notT_cells (by decide) (by decide))
theorem Sow.kept8 {w w' : World} {base : Nat} {v : Value} {L : List (Int × Int)} (h : Sow w base v L) (hk : KeptTb w w') : Sow w' base v L := by
  refine ownsRow_same h (fun k hk2 => ?_)
  obtain ⟨c, fz, hc⟩ := row_kind h k hk2
  rw [hc]
  exact hk k _ hc (notT_cells (by decide) (by decide))
theorem KeptTb.of {w w' : World} (h : Below w.heap.size w w') : KeptTb w w' := fun k o hk _ => (h.block k (lt_of_heap hk)).trans hk
theorem KeptTb.trans {a b c : World} (h : KeptTb a b) (k : KeptTb b c) : KeptTb a c := fun i o hi ho => k i o (h i o hi ho) ho
/-- The floor, the table and the map, in one memory made since w0. -/
structure Sw (w0 : World) (D : Nat) (W H : Int) (c : ByteArray) (tb b N K : Nat) (T : Int → List (Int × Int)) (m : Int → Int → Option Int) (w : World) : Prop where
  bf : Bf D W H c w
  tk : ∃ tN mv tg, Tk w tb tb tN mv T tg ∧ ¬ TF tb mv T tg b ∧ tN ≤ N
  mp : ∃ M, MapC w b M m ∧ M ≤ K
  below : Below w0.heap.size w0 w
  lo : w0.heap.size ≤ tb ∧ w0.heap.size ≤ b
section
variable {w0 w w' : World} {D : Nat} {W H : Int} {c : ByteArray} {tb b N K : Nat} {T : Int → List (Int × Int)} {m : Int → Int → Option Int}
theorem Sw.later (h : Sw w0 D W H c tb b N K T m w) (hb : Below w.heap.size w w') : Sw w0 D W H c tb b N K T m w' := by
  obtain ⟨tN, mv, tg, h1, h2, h3⟩ := h.tk
  obtain ⟨M, h4, h5⟩ := h.mp
  exact ⟨h.bf.later hb, ⟨tN, mv, tg, h1.later hb, h2, h3⟩, ⟨M, h4.later hb, h5⟩, h.below.trans (hb.mono h.below.size), h.lo⟩
theorem Sw.put_run (h : Sw w0 D W H c tb b N K T m w) (hK : K ≤ 100000) {X Y V : Int} (hX : IW X) (hY : IW Y) (hV : IW V) :
    ∃ w', (Instr.mapUpdate 59 (.map (some b)) (.agg #[.int .i64 X, .int .i64 Y]) (.int .i64 V)).run Tryz.prog w = .ok () w' ∧ Sw w0 D W H c tb b N (K + 1) T (fun x y => if x = X ∧ y = Y then some V else m x y) w' ∧ KeptTb w w' := by
  obtain ⟨tN, mv, tg, h1, h2, h3⟩ := h.tk
  obtain ⟨M, h4, h5⟩ := h.mp
  obtain ⟨w', hrun, hm, hg⟩ := h4.put_run (by omega) hX hY hV
  obtain ⟨es, ck, hbk⟩ := h4.block
  have hk : KeptTb w w' := fun k o hk ho => by
    by_cases e : k = b
    · subst e
      rw [hbk] at hk
      injection hk with hk
      exact absurd (.inr (.inl ⟨es, ck, hk.symm⟩)) ho
    · rw [hg.block k (lt_of_heap hk) (fun q => e (by injection q))]; exact hk
  have ht : Turn (fun k => k = b) (fun k => k = b) w w' := Turn.grown hg (fun k e => by injection e with e; exact e.symm)
  refine ⟨w', hrun, ⟨h.bf.kept8 hk, ⟨tN, mv, tg, ⟨h1.tab.turn ht (fun k hkF e => ?_), h1.ord, h1.few⟩, h2, h3⟩, ⟨M + 1, hm, by omega⟩, h.below.trans (ht.below _ h.below.size (fun k e => by have e : k = b := e; rw [e]; exact h.lo.2)), h.lo⟩, hk⟩
  have e : k = b := e
  subst e
  exact h2 hkF
theorem Sw.take (h : Sw w0 D W H c tb b N K T m w) (hN : N < 1900) {x u : Int} (hx : IW x) (h0 : 0 ≤ u) (h1 : u + 1 ≤ 1048576) (hf : isT (T x) u = true) :
    Calls Tryz.prog 23 #[.pointer (some ⟨tb, 0, none⟩), .int .i64 x, .agg #[.int .i64 u, .int .i64 (u + 1)]] w fun e w2 => e = .returned (.int .i64 0) ∧ (∃ T', Sw w0 D W H c tb b (N + 1) K T' m w2 ∧ ∀ y v, isT (T' y) v = (isT (T y) v && !(decide (y = x) && decide (v = u)))) ∧ KeptTb w w2 := by
  obtain ⟨tN, mv, tg, k1, k2, k3⟩ := h.tk
  obtain ⟨M, k4, k5⟩ := h.mp
  have hlen : (T x).length < 4096 := by have := k1.tab.small x; have := k1.few; omega
  obtain ⟨L', e1, e2⟩ := take_free (k1.ord x) hlen h0 h1 hf
  refine (Wn.take_any tb tb tN mv T tg x u (u + 1) w k1.tab hx (by omega) (k1.ord x)).mono ?_
  rintro e w2 ⟨rfl, ha⟩
  have ho : ∀ y, Ordw 0 (upd T x (Wn.tk (T x) u (u + 1)).2 y) := fun y => Wn.upd_ord k1.ord (Wn.tk_ord (a := u) (b := u + 1) (k1.ord x)) y
  rw [e1] at ha ho ⊢
  obtain ⟨mv', gb', ht, hu⟩ := ha
  have hk := Tab.kept k1.tab hu
  have hblt := k4.lt
  refine ⟨rfl, ⟨upd T x L', ⟨h.bf.kept8 hk, ⟨tN + 1, mv', gb', ⟨ht, ho, by omega⟩, fun q => ?_, by omega⟩, ⟨M, k4.same (hu.block b hblt k2), k5⟩, ?_, h.lo⟩, fun y v => ?_⟩, hk⟩
  · rcases hu.foot b q with q | q
    · exact k2 q
    · omega
  · exact h.below.trans (hu.below _ h.below.size (fun k hkF => Nat.le_trans h.lo.1 (k1.tab.foot k hkF).1))
  · by_cases hy : y = x
    · subst hy
      rw [Wn.upd_same, e2]
      simp
    · rw [Wn.upd_other _ _ hy]
      simp [hy]
end
end Sp
end Go.Proofs.YtcdclghmebgpnaaGreatDoor
end

section
namespace Go.Proofs.YtcdclghmebgpnaaGreatDoor
namespace Sp
open Go.RowKit Fl Pt
open Wn (Tab TF frees isT Ordw IW Wt wcl plc Rising RT Rt R3 tkn rtk tk upd inW insAt rgt)

/-- What is asked of what is taken and of what the map knows, before the i-th want. -/
def Out8 (w0 : World) (D : Nat) (W H : Int) (c : ByteArray) (tb b : Nat) (i : Nat) (w : World) : Prop :=
  ∃ T m N K, Sw w0 D W H c tb b N K T m w ∧ N ≤ 40 * i ∧ K ≤ 40 * i ∧ ∀ x y, IW x → IW y → m x y ≠ none → isT (T x) y = false
/-- Before the moment behind now, within the i-th want's steps. -/
structure In8 (w0 : World) (D E : Nat) (W H : Int) (c : ByteArray) (fr tz st : Int) (tb b : Nat) (Tp : Int → List (Int × Int)) (P : List (Int × Int)) (base : Nat) (pv : Value) (i : Nat) (now : Int) (w : World) : Prop where
  sw : ∃ T m N K, Sw w0 D W H c tb b N K T m w ∧ (N : Int) ≤ 40 * (i : Int) + (now - st) ∧ (K : Int) ≤ 40 * (i : Int) + (now - st) ∧ (∀ y v, now < v → isT (T y) v = isT (Tp y) v) ∧ ∀ x y, IW x → IW y → m x y ≠ none → isT (T x) y = false
  bx : Bw8 E fr tz st w
  ps : Sow w base pv P
/-- The map knows of it, and the table not yet. -/
structure Mid8 (w0 : World) (D E : Nat) (W H : Int) (c : ByteArray) (fr tz st : Int) (tb b : Nat) (Tp : Int → List (Int × Int)) (P : List (Int × Int)) (base : Nat) (pv : Value) (i : Nat) (now x u : Int) (w : World) : Prop where
  sw : ∃ T m N K, Sw w0 D W H c tb b N K T m w ∧ (N : Int) ≤ 40 * (i : Int) + (now - st) ∧ (K : Int) ≤ 40 * (i : Int) + (u - st) ∧ (∀ y v, now < v → isT (T y) v = isT (Tp y) v) ∧ ∀ y v, IW y → IW v → m y v ≠ none → isT (T y) v = false ∨ (y = x ∧ v = u)
  bx : Bw8 E fr tz st w
  ps : Sow w base pv P
theorem Out8.later {w0 w w' : World} {D : Nat} {W H : Int} {c : ByteArray} {tb b i : Nat} (h : Out8 w0 D W H c tb b i w) (hb : Below w.heap.size w w') : Out8 w0 D W H c tb b i w' := by
  obtain ⟨T, m, N, K, h1, h2, h3, h4⟩ := h
  exact ⟨T, m, N, K, h1.later hb, h2, h3, h4⟩
theorem Out8.more {w0 w : World} {D : Nat} {W H : Int} {c : ByteArray} {tb b i : Nat} (h : Out8 w0 D W H c tb b i w) : Out8 w0 D W H c tb b (i + 1) w := by
  obtain ⟨T, m, N, K, h1, h2, h3, h4⟩ := h
  exact ⟨T, m, N, K, h1, by omega, by omega, h4⟩
theorem Out8.below {w0 w : World} {D : Nat} {W H : Int} {c : ByteArray} {tb b i : Nat} (h : Out8 w0 D W H c tb b i w) : Below w0.heap.size w0 w := by
  obtain ⟨T, m, N, K, h1, _⟩ := h
  exact h1.below
theorem Out8.bf {w0 w : World} {D : Nat} {W H : Int} {c : ByteArray} {tb b i : Nat} (h : Out8 w0 D W H c tb b i w) : Bf D W H c w := by
  obtain ⟨T, m, N, K, h1, _⟩ := h
  exact h1.bf
section
variable {w0 w w' : World} {D E : Nat} {W H : Int} {c : ByteArray} {fr tz st : Int} {tb b : Nat} {Tp : Int → List (Int × Int)} {P : List (Int × Int)} {base : Nat} {pv : Value} {i : Nat} {now : Int}
theorem In8.later (h : In8 w0 D E W H c fr tz st tb b Tp P base pv i now w) (hb : Below w.heap.size w w') : In8 w0 D E W H c fr tz st tb b Tp P base pv i now w' := by
  obtain ⟨T, m, N, K, h1, h2, h3, h4, h5⟩ := h.sw
  exact ⟨⟨T, m, N, K, h1.later hb, h2, h3, h4, h5⟩, h.bx.later hb, h.ps.later hb⟩
theorem In8.bf (h : In8 w0 D E W H c fr tz st tb b Tp P base pv i now w) : Bf D W H c w := by
  obtain ⟨T, m, N, K, h1, _⟩ := h.sw
  exact h1.bf
theorem In8.below (h : In8 w0 D E W H c fr tz st tb b Tp P base pv i now w) : Below w0.heap.size w0 w := by
  obtain ⟨T, m, N, K, h1, _⟩ := h.sw
  exact h1.below
theorem In8.done (h : In8 w0 D E W H c fr tz st tb b Tp P base pv i now w) (hn : now ≤ st + 40) : Out8 w0 D W H c tb b (i + 1) w := by
  obtain ⟨T, m, N, K, h1, h2, h3, _, h5⟩ := h.sw
  exact ⟨T, m, N, K, h1, by omega, by omega, h5⟩
theorem In8.look (h : In8 w0 D E W H c fr tz st tb b Tp P base pv i now w) {x u : Int} (hx : IW x) (hu : IW u) (hn : now < u) (hf : isT (Tp x) u = true) :
    ∃ cv : Int, (Instr.lookup 59 (.map (some b)) (.agg #[.int .i64 x, .int .i64 u]) true).run Tryz.prog w = .ok (.tuple #[.int .i64 cv, .bool false]) w := by
  obtain ⟨T, m, N, K, h1, _, _, h4, h5⟩ := h.sw
  obtain ⟨M, k4, _⟩ := h1.mp
  obtain ⟨cv, hr, _⟩ := k4.asked hx hu
  have e : m x u = none := by
    cases e : m x u with
    | none => rfl
    | some v =>
      have := h5 x u hx hu (by rw [e]; simp)
      rw [h4 x u hn, hf] at this
      cases this
  rw [e] at hr
  exact ⟨cv, hr⟩
theorem In8.put (h : In8 w0 D E W H c fr tz st tb b Tp P base pv i now w) (hi : i < 6) (h40 : now ≤ st + 40) {x u V : Int} (hx : IW x) (hu : IW u) (hV : IW V) (hn : now < u) :
    ∃ w', (Instr.mapUpdate 59 (.map (some b)) (.agg #[.int .i64 x, .int .i64 u]) (.int .i64 V)).run Tryz.prog w = .ok () w' ∧ Mid8 w0 D E W H c fr tz st tb b Tp P base pv i now x u w' ∧ KeptTb w w' := by
  obtain ⟨T, m, N, K, h1, h2, h3, h4, h5⟩ := h.sw
  obtain ⟨w', hr, hs, hk⟩ := h1.put_run (by omega) hx hu hV
  refine ⟨w', hr, ⟨⟨T, _, N, K + 1, hs, h2, by omega, h4, fun y v hy hv hm => ?_⟩, h.bx.kept hk, h.ps.kept8 hk⟩, hk⟩
  by_cases e : y = x ∧ v = u
  · exact .inr e
  · rw [if_neg e] at hm
    exact .inl (h5 y v hy hv hm)
theorem Mid8.take {x u : Int} (h : Mid8 w0 D E W H c fr tz st tb b Tp P base pv i now x u w) (hi : i < 6) (h40 : now ≤ st + 40) (hx : IW x) (h0 : 0 ≤ u) (h1 : u + 1 ≤ 1048576) (hn : now < u) (hf : isT (Tp x) u = true) :
    Calls Tryz.prog 23 #[.pointer (some ⟨tb, 0, none⟩), .int .i64 x, .agg #[.int .i64 u, .int .i64 (u + 1)]] w fun e w2 => e = .returned (.int .i64 0) ∧ In8 w0 D E W H c fr tz st tb b Tp P base pv i u w2 ∧ KeptTb w w2 := by
  obtain ⟨T, m, N, K, k1, k2, k3, k4, k5⟩ := h.sw
  refine (k1.take (by omega) hx h0 h1 (by rw [k4 x u hn]; exact hf)).mono ?_
  rintro e w2 ⟨rfl, ⟨T', hs, hT⟩, hk⟩
  refine ⟨rfl, ⟨⟨T', m, N + 1, K, hs, by omega, k3, fun y v hv => ?_, fun y v hy hv hm => ?_⟩, h.bx.kept hk, h.ps.kept8 hk⟩, hk⟩
  · rw [hT y v, k4 y v (by omega), decide_eq_false (show ¬ v = u by omega)]
    simp
  · rw [hT y v]
    rcases k5 y v hy hv hm with e | ⟨rfl, rfl⟩
    · rw [e]; rfl
    · simp
theorem Out8.plan {T : Int → List (Int × Int)} {m : Int → Int → Option Int} {N K : Nat} (h1 : Sw w0 D W H c tb b N K T m w) (h2 : N ≤ 40 * i) (h3 : K ≤ 40 * i) (h4 : ∀ x y, IW x → IW y → m x y ≠ none → isT (T x) y = false) (hx : Bw8 E fr tz st w) (hp : Sow w base pv P) : In8 w0 D E W H c fr tz st tb b T P base pv i st w :=
  ⟨⟨T, m, N, K, h1, by omega, by omega, fun _ _ _ => rfl, h4⟩, hx, hp⟩
end
/-- Where a robot stands behind j steps. -/
structure Wk8 (W H a : Nat) (s : ByteArray) (Tp : Int → List (Int × Int)) (P : List (Int × Int)) (st : Int) (j c : Nat) (now : Int) : Prop where
  di : DI W H a s Tp c now (P.drop j)
  lo : st ≤ now
  hi : now ≤ st + 40
  cell : c < s.size
  wall : at_ s c ≠ 35
theorem Wk8.next {W H a : Nat} {s : ByteArray} {Tp : Int → List (Int × Int)} {P : List (Int × Int)} {st : Int} {j c : Nat} {now : Int} (h : Wk8 W H a s Tp P st j c now) (hW : 1 ≤ W) (hsz : s.size = W * H) (hup : ∀ q ∈ P, q.2 ≤ st + 40) (hj : j < P.length) :
    ∃ (d : Nat) (t : Int), P.getD j (0, 0) = ((d : Int), t) ∧ now < t ∧ t ≤ st + 40 ∧ d ∈ nr W H (at_ s) c ∧ d < s.size ∧ (∀ u, now < u → u < t → isT (Tp (c : Int)) u = true) ∧ isT (Tp (d : Int)) t = true ∧ Wk8 W H a s Tp P st (j + 1) d t := by
  have hd := h.di
  have he : P.drop j = P.getD j (0, 0) :: P.drop (j + 1) := by rw [List.drop_eq_getElem_cons hj, List.getD, List.getElem?_eq_getElem hj]; rfl
  rw [he] at hd
  obtain ⟨h1, h2, h3, d, h4, h5, h6, h7⟩ := hd
  have hm : P.getD j (0, 0) ∈ P := by rw [List.getD, List.getElem?_eq_getElem hj]; exact List.getElem_mem hj
  have hu := hup _ hm
  have hn := (mem_nx5.1 h5).2.1
  have hl : d < s.size := by rw [hsz]; exact nr_lt hW (by rw [← hsz]; exact h.cell) hn
  refine ⟨d, (P.getD j (0, 0)).2, by rw [← h4], h1, hu, hn, hl, h3, h6, h7, by have := h.lo; omega, hu, hl, (mem_nr.1 hn).2⟩
theorem nr_seen {L : List Nat} {d k : Nat} (hk : k < L.length) : decide (d ∈ L.take (k + 1)) = (decide (d ∈ L.take k) || L.getD k 0 == d) := by
  rw [List.take_succ_eq_append_getElem hk, List.getD, List.getElem?_eq_getElem hk, Bool.eq_iff_iff]
  simp only [List.mem_append, List.mem_singleton, decide_eq_true_eq, Bool.or_eq_true, beq_iff_eq, Option.getD_some]
  exact ⟨fun h => h.imp id Eq.symm, fun h => h.imp id Eq.symm⟩
end Sp
end Go.Proofs.YtcdclghmebgpnaaGreatDoor
end
