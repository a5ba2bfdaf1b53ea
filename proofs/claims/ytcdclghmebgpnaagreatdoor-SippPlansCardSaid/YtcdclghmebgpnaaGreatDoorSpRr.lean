/-
  The document's Reach of layer 7: at which cells a robot can be, moment by moment.
  The document's Soon of layer 7.
-/
import Derived.Test.YtcdclghmebgpnaaGreatDoorSpLaw
import Derived.Test.YtcdclghmebgpnaaGreatDoorPtRa
import Derived.Deep.RegionHeld3
import Derived.BigQuiet
set_option linter.unusedVariables false
set_option maxRecDepth 100000
section
namespace Go.Proofs.YtcdclghmebgpnaaGreatDoor
namespace Sp
open Go.RowKit Fl Pt
open Wn (Tab TF frees isT Ordw IW Wt wcl plc Rising RT Rt R3 tkn rtk tk upd inW)

/-! ### Plain -/
/-- Where a robot can be next, by the first so many cells where it can be now. -/
def nxt (tw l : Nat → Bool) (S : Nat → List Nat) (i c : Nat) : Bool := tw c && ((decide (c < i) && l c) || (List.range i).any fun d => l d && (S d).contains c)
def mid (tw l : Nat → Bool) (S : Nat → List Nat) (i k c : Nat) : Bool := nxt tw l S i c || (tw c && (c == i || ((S i).take k).contains c))
section
variable {tw l : Nat → Bool} {S : Nat → List Nat} {i k c : Nat}
theorem nxt_zero : nxt tw l S 0 c = false := by simp [nxt]
theorem nxt_succ : nxt tw l S (i + 1) c = (nxt tw l S i c || (tw c && (l i && (c == i || (S i).contains c)))) := by
  unfold nxt
  rw [List.range_succ, List.any_append]
  have e : (decide (c < i + 1) && l c) = ((decide (c < i) && l c) || (l i && (c == i))) := by
    by_cases h : c = i
    · subst h
      rw [decide_eq_true (Nat.lt_succ_self c), decide_eq_false (Nat.lt_irrefl c)]
      simp
    · have h2 : (c == i) = false := by simpa using h
      rw [h2, show decide (c < i + 1) = decide (c < i) by rw [decide_eq_decide]; omega]
      simp
  rw [e]
  simp only [List.any_cons, List.any_nil, Bool.or_false]
  cases tw c <;> cases (decide (c < i) && l c) <;> cases l i <;> cases (c == i) <;> cases ((List.range i).any fun d => l d && (S d).contains c) <;> cases (S i).contains c <;> rfl
theorem nxt_off (h : l i = false) : nxt tw l S (i + 1) c = nxt tw l S i c := by rw [nxt_succ, h]; simp
theorem nxt_on (h : l i = true) : nxt tw l S (i + 1) c = mid tw l S i (S i).length c := by rw [nxt_succ, h, mid, List.take_length]; simp
theorem nxt_tw (h : nxt tw l S i c = true) : tw c = true := by unfold nxt at h; simp only [Bool.and_eq_true] at h; exact h.1
theorem mid_zero : mid tw l S i 0 c = if c = i then tw i else nxt tw l S i c := by
  unfold mid
  by_cases h : c = i
  · subst h
    rw [if_pos rfl]
    cases h2 : nxt tw l S c c with
    | false => simp
    | true => rw [nxt_tw h2]; simp
  · have h2 : (c == i) = false := by simpa using h
    rw [if_neg h, h2]
    simp
theorem take_has {L : List Nat} {k c : Nat} (h : k < L.length) : (L.take (k + 1)).contains c = ((L.take k).contains c || (c == L.getD k 0)) := by
  rw [List.take_succ_eq_append_getElem h, List.getD, List.getElem?_eq_getElem h, Bool.eq_iff_iff, Bool.or_eq_true, List.contains_iff_mem, List.contains_iff_mem, beq_iff_eq, List.mem_append, List.mem_singleton]
  rfl
theorem any_ext {L : List Nat} {f g : Nat → Bool} (h : ∀ d, f d = g d) : L.any f = L.any g := by
  rw [show f = g from funext h]
theorem mid_yes (h : k < (S i).length) (hy : tw ((S i).getD k 0) = true) : mid tw l S i (k + 1) c = if c = (S i).getD k 0 then true else mid tw l S i k c := by
  unfold mid
  rw [take_has h]
  generalize (S i).getD k 0 = y at *
  by_cases e : c = y
  · subst e
    rw [if_pos rfl, hy]
    simp
  · have e2 : (c == y) = false := by simpa using e
    rw [if_neg e, e2, Bool.or_false]
theorem mid_no (h : k < (S i).length) (hy : tw ((S i).getD k 0) = false) : mid tw l S i (k + 1) c = mid tw l S i k c := by
  unfold mid
  rw [take_has h]
  generalize (S i).getD k 0 = y at *
  by_cases e : c = y
  · subst e
    rw [hy]
    simp
  · have e2 : (c == y) = false := by simpa using e
    rw [e2, Bool.or_false]
end
theorem inR_isT {W H a : Nat} {s : ByteArray} {t0 u : Int} {T : Int → List (Int × Int)} (ho : ∀ y, Ordw 0 (T y)) {c : Nat} (h : t0 < u) : inW u ((envOf W H a s t0 T).O c) = isT (T (c : Int)) u := by
  rw [Bool.eq_iff_iff, ← in_inW]
  show In (opn (c == a) t0 (frees (T (c : Int)))) u ↔ _
  rw [opn_in h, in_frees (ho _)]
/-- All cells done: the next layer. -/
theorem nxt_all {W H a : Nat} {s : ByteArray} {t0 : Int} {T : Int → List (Int × Int)} (ho : ∀ y, Ordw 0 (T y)) {n c : Nat} (hc : c < s.size) :
    nxt (fun c => isT (T (c : Int)) (t0 + ((n + 1 : Nat) : Int))) (fun d => (LY (envOf W H a s t0 T) n).getD d false) (nx5 W H (at_ s) a (fun _ => false)) s.size c = (LY (envOf W H a s t0 T) (n + 1)).getD c false := by
  rw [LY, step7, range_getD (show c < (envOf W H a s t0 T).N from hc), inR_isT ho (show t0 < (envOf W H a s t0 T).t0 + ((n + 1 : Nat) : Int) by show t0 < t0 + _; omega)]
  unfold nxt
  rw [decide_eq_true hc, Bool.true_and]
  refine congrArg (fun x => isT (T (c : Int)) (t0 + ((n + 1 : Nat) : Int)) && ((LY (envOf W H a s t0 T) n).getD c false || x)) ?_
  refine any_ext fun d => ?_
  refine congrArg (fun x => (LY (envOf W H a s t0 T) n).getD d false && x) ?_
  rw [Bool.eq_iff_iff, Bool.and_eq_true, List.contains_iff_mem, List.contains_iff_mem, mem_nx5]
  show _ ↔ outB (at_ s) a d = true ∧ c ∈ nr W H (at_ s) d
  rw [outB_iff]
  constructor
  · rintro ⟨h1, h2, _⟩; exact ⟨h1, h2⟩
  · rintro ⟨h1, h2⟩; exact ⟨h1, h2, rfl⟩
theorem ly_wall {W H a : Nat} {s : ByteArray} {t0 : Int} {T : Int → List (Int × Int)} (hE : (envOf W H a s t0 T).Ok) (hz : at_ s a ≠ 35) {n c : Nat} (hc : c < s.size) (h : (LY (envOf W H a s t0 T) n).getD c false = true) : at_ s c ≠ 35 := by
  have key : ∀ m c, (envOf W H a s t0 T).R m c → at_ s c ≠ 35 := by
    intro m c r
    induction r with
    | start => exact hz
    | stay _ _ ih => exact ih
    | go _ _ hd _ _ => exact (mem_nr.1 hd).2
  exact key _ _ ((ly_iff hE n c hc).1 h)

/-! ### Layers in memory -/
def rowV (N g : Nat) : Value := .slice (some ⟨g, 0, none⟩) N N
/-- A list of lists of truths, of one's own. -/
structure Al (w : World) (base N : Nat) (v : Value) (G : List Nat) (F : Nat → Nat → Bool) : Prop where
  own : w.ownsRow base 34 1 v G.length (G.map (rowV N))
  rows : ∀ i, i < G.length → Cells (G.getD i 0) N (fun c => .bool (F i c)) w
  lo : ∀ i, i < G.length → base ≤ G.getD i 0
  apart : ∀ i, i < G.length → v.ownBlock ≠ some (G.getD i 0)
theorem Al.later {w w' : World} {base N : Nat} {v : Value} {G : List Nat} {F : Nat → Nat → Bool} (h : Al w base N v G F) (hb : Below w.heap.size w w') : Al w' base N v G F :=
  ⟨ownsRow_same h.own (fun k hk => hb.block k (World.ownsRow.lt h.own k hk).2), fun i hi => (h.rows i hi).later hb, h.lo, h.apart⟩
theorem Al.form {w : World} {base N : Nat} {v : Value} {G : List Nat} {F : Nat → Nat → Bool} (h : Al w base N v G F) (h0 : 0 < G.length) : ∃ g c, v = .slice (some ⟨g, 0, none⟩) G.length c ∧ G.length ≤ c ∧ c ≤ maxLen ∧ g < w.heap.size ∧ ∀ i, i < G.length → w.cell? ⟨g, i, none⟩ = some (rowV N (G.getD i 0)) := by
  rcases h.own.2 with ⟨q, e⟩ | ⟨g, cap, cur, q, hg, hh, h1, h2, _⟩
  · omega
  · subst q
    refine ⟨g, cap, rfl, h1, h2, (World.ownsRow.lt h.own g rfl).2, fun i hi => ?_⟩
    rw [World.ownsRow.cellAt h.own i (by omega)]
    simp [List.getD, hi]
theorem Al.snoc {w0 w1 w2 : World} {base N : Nat} {v v' : Value} {G : List Nat} {F : Nat → Nat → Bool} (h : Al w0 base N v G F) (hb : Below w0.heap.size w0 w1) {gx : Nat} {f : Nat → Value} (hx : Cells gx N f w1) (hgx : w0.heap.size ≤ gx) (hbase : base ≤ w0.heap.size)
    (hf : ∀ c, c < N → f c = .bool (F G.length c)) (hg : w1.grownBy w2 v.ownBlock) (ho : w2.ownsRow base 34 1 v' (G.length + 1) (G.map (rowV N) ++ [rowV N gx])) (hd : v'.ownBlock = v.ownBlock ∨ v'.ownBlock = some w1.heap.size) :
    Al w2 base N v' (G ++ [gx]) F := by
  have hlt : ∀ i, i < G.length → G.getD i 0 < w0.heap.size := fun i hi => (h.rows i hi).1
  have hvx : v.ownBlock ≠ some gx := fun e => by have := (World.ownsRow.lt h.own gx e).2; omega
  have key : ∀ g, (g = gx ∨ ∃ i, i < G.length ∧ G.getD i 0 = g) → v'.ownBlock ≠ some g := by
    rintro g hgg e
    rcases hd with q | q
    · rw [q] at e
      rcases hgg with rfl | ⟨i, hi, rfl⟩
      · exact hvx e
      · exact h.apart i hi e
    · rw [q] at e
      injection e with e
      rcases hgg with rfl | ⟨i, hi, rfl⟩
      · have := hx.1; omega
      · have := hlt i hi; have := hb.size; omega
  have hget : ∀ i, i < (G ++ [gx]).length → (i < G.length ∧ (G ++ [gx]).getD i 0 = G.getD i 0) ∨ (i = G.length ∧ (G ++ [gx]).getD i 0 = gx) := by
    intro i hi
    rw [List.length_append] at hi
    by_cases e : i < G.length
    · exact .inl ⟨e, by simp [List.getD, List.getElem?_append_left e]⟩
    · refine .inr ⟨by simp at hi; omega, ?_⟩
      obtain rfl : i = G.length := by simp at hi; omega
      simp [List.getD]
  refine ⟨by rw [List.length_append, List.map_append]; exact ho, fun i hi => ?_, fun i hi => ?_, fun i hi => ?_⟩
  · rcases hget i hi with ⟨e, q⟩ | ⟨e, q⟩
    · rw [q]
      exact ((h.rows i e).later hb).same hg.size (hg.block _ ((h.rows i e).later hb).1 (fun k => h.apart i e k.symm))
    · rw [q]
      subst e
      refine (hx.same hg.size (hg.block _ hx.1 (fun k => hvx k.symm))).congr hf
  · rcases hget i hi with ⟨e, q⟩ | ⟨e, q⟩
    · rw [q]; exact h.lo i e
    · rw [q]; omega
  · rcases hget i hi with ⟨e, q⟩ | ⟨e, q⟩
    · rw [q]; exact key _ (.inr ⟨i, e, rfl⟩)
    · rw [q]; exact key _ (.inl rfl)
theorem Tryz.infoBools7 : (Tryz.prog.info? 34).map (fun i => (i.zero, i.size, i.bytes)) = some (some (.slice none 0 0), 1, 24) := by kernel_rfl
theorem row_cell (w : World) (v : Value) (t : TypeId) : ∀ j u, ([v] : List Value)[j]? = some u → (w.alloc (.cells #[v] t)).cell? ((⟨w.heap.size, 0, none⟩ : Addr).add j) = some u := by
  intro j u hj
  match j, hj with
  | 0, hj => simp at hj; subst hj; simp [Addr.add, World.cell?_alloc_new]
theorem row_one (v : Value) (h : v.oneCell' = true) : ∀ u ∈ ([v] : List Value), u.oneCell' = true := by
  intro u hu
  rw [List.mem_singleton.1 hu]
  exact h
/-- A list of truths alone, in a list of its own. -/
theorem Al.one {w : World} {base N gx : Nat} {F : Nat → Nat → Bool} {f : Nat → Value} (hx : Cells gx N f w) (hb : base ≤ gx) (hf : ∀ c, c < N → f c = .bool (F 0 c)) :
    Al (w.alloc (.cells #[rowV N gx] 34)) base N (.slice (some ⟨w.heap.size, 0, none⟩) 1 1) [gx] F := by
  have := World.ownsRow_lit (base := base) (e := 34) (size := 1) w #[rowV N gx] 1 (by have := hx.1; omega) (by unfold maxLen; omega) rfl
  refine ⟨by simpa using this, fun i hi => ?_, fun i hi => ?_, fun i hi => ?_⟩
  · obtain rfl : i = 0 := by simp at hi; omega
    exact (hx.more _).congr hf
  · obtain rfl : i = 0 := by simp at hi; omega
    exact hb
  · obtain rfl : i = 0 := by simp at hi; omega
    intro e
    have e : w.heap.size = gx := by simpa [Value.ownBlock] using e
    have := hx.1
    omega
/-- Only one block is written. -/
def On (g : Nat) (w w' : World) : Prop := Turn (fun k => k = g) (fun k => k = g) w w'
theorem On.of {g : Nat} {w w' : World} (h : Below w.heap.size w w') : On g w w' := Turn.ofBelow h _
theorem On.trans {g : Nat} {a b c : World} (h : On g a b) (k : On g b c) : On g a c := Turn.trans h k
theorem On.put {g : Nat} {w w' : World} (h : On g w w') (i : Nat) (u : Value) : On g w (w'.setCell ⟨g, i, none⟩ u) := Turn.put h u rfl
theorem On.below {g B : Nat} {w w' : World} (h : On g w w') (hB : B ≤ w.heap.size) (hg : B ≤ g) : Below B w w' := Turn.below h B hB (fun k hk => by obtain rfl : k = g := hk; exact hg)
theorem On.own {g : Nat} {w w' : World} (h : On g w w') {b : Nat} {v : Value} {xs : List Nat} (ho : Own w b v xs) (hg : g < b) : Own w' b v xs :=
  ownsRow_same ho (fun k hk => Turn.block h k (World.ownsRow.lt ho k hk).2 (fun e => by have := (World.ownsRow.lt ho k hk).1; have e : k = g := e; omega))
theorem own_lower7 {w : World} {base base' k : Nat} {e : TypeId} {v : Value} {n : Nat} {xs : List Value} (h : w.ownsRow base e k v n xs) (hb : base' ≤ base) : w.ownsRow base' e k v n xs := by
  obtain ⟨h1, h2⟩ := h
  refine ⟨h1, ?_⟩
  rcases h2 with h2 | ⟨g, cap, cur, rfl, hg, r⟩
  · exact .inl h2
  · exact .inr ⟨g, cap, cur, rfl, by omega, r⟩
def ReachTold (E : Env) (N h : Nat) (w : World) (e : Ending) (w' : World) : Prop :=
  ∃ A c G, e = .returned (.slice A (h + 1) c) ∧ Al w' w.heap.size N (.slice A (h + 1) c) G (fun i c => (LY E i).getD c false) ∧ G.length = h + 1 ∧ Below w.heap.size w w'
set_option maxHeartbeats 16000000 in
theorem r7reach_some {W H a : Nat} {s : ByteArray} {AN AL AO : Option Addr} {n cN cL cO : Nat} {w : World} (hM : MapAt w W H s AN AL AO n cN cL cO) (h256 : s.size ≤ 256) (hW1 : 1 ≤ W) (hsz : s.size = W * H) {rb : Nat} {A : Option Addr} {cc : Nat} {R : List R3} (hT : RT w rb A cc R) (hO : ∀ y, Ordw 0 (tkn R y)) (ha : a < s.size) (hz : at_ s a ≠ 35) {st : Int} (h0 : 0 ≤ st) (h1 : st < 1048576) {h : Nat} (hh : h ≤ 1024)
    (hE : (envOf W H a s st (tkn R)).Ok) :
    Calls Tryz.prog 31 #[.agg #[.slice AN n cN, .slice AL n cL, .slice AO n cO], .pointer (some ⟨rb, 0, none⟩), .int .i64 (a : Int), .int .i64 st, .int .i64 (h : Int)] w (ReachTold (envOf W H a s st (tkn R)) n h w) := by
  obtain ⟨b0, b1, b2, hb⟩ := map_box w (.slice AN n cN) (.slice AL n cL) (.slice AO n cO)
  have HB0 := Lib.hid hb
  obtain ⟨i0, hi, hz0, hz1, hz2⟩ := info_parts Tryz.infoBool5
  have hsn := hM.sz
  have HCE : Hid (∀ wx, Below (w.heap.size + 1) (w.alloc (.cells #[.slice AN n cN, .slice AL n cL, .slice AO n cO] 36)) wx → wx.cell? ⟨w.heap.size, 0, none⟩ = some (.slice AN n cN) ∧ wx.cell? ⟨w.heap.size, 1, none⟩ = some (.slice AL n cL) ∧ wx.cell? ⟨w.heap.size, 2, none⟩ = some (.slice AO n cO)) := Lib.hid (fun wx h => ⟨(h.cell (p := ⟨w.heap.size, 0, none⟩) (Nat.lt_succ_self _)).trans b0, (h.cell (p := ⟨w.heap.size, 1, none⟩) (Nat.lt_succ_self _)).trans b1, (h.cell (p := ⟨w.heap.size, 2, none⟩) (Nat.lt_succ_self _)).trans b2⟩)
  have HM1 := Lib.hid (hM.later hb)
  have HT1 := Lib.hid (hT.later hb)
  obtain ⟨gO, e0, hgO, hcO⟩ := HM1.out.opn
  have r0 := hcO a (by omega)
  have hn35 : (at_ s a != 35) = true := by simpa using hz
  rw [hn35] at r0
  have hcap := hM.caps.2.2
  have hcap2 := hcap.2
  have HZA := Lib.hid hz
  have hn256 : n ≤ 256 := by omega
  have han : a < n := by omega
  have haI : (0 : Int) ≤ (a : Int) := by omega
  have haN : (a : Int) < (n : Int) := by omega
  have hd1 : decide ((a : Int) < 0) = false := decide_eq_false (by omega)
  have hd2 : decide ((n : Int) ≤ (a : Int)) = false := decide_eq_false (by omega)
  have hd2' : decide (n ≤ a) = false := decide_eq_false (by omega)
  have hd3 : decide (st < 0) = false := decide_eq_false (by omega)
  have hd4 : decide ((1048576 : Int) ≤ st) = false := decide_eq_false (by omega)
  have hd5 : decide ((h : Int) < 0) = false := decide_eq_false (by omega)
  have hd6 : decide ((1024 : Int) < (h : Int)) = false := decide_eq_false (by omega)
  have hd6' : decide (1024 < h) = false := decide_eq_false (by omega)
  unfold maxLen at hcap2
  subst e0
  have HSN : Hid (n = s.size) := Lib.hid hsn
  have HSZ := Lib.hid hsz
  have HH0 := Lib.hid h0
  have HEO := Lib.hid hE
  have HOO := Lib.hid hO
  have HA0 : Hid (a < s.size) := Lib.hid ha
  obtain ⟨wb, hwb⟩ : ∃ wb, wb = w.alloc (.cells #[.slice AN n cN, .slice AL n cL, .slice (some ⟨gO, 0, none⟩) n cO] 36) := ⟨_, rfl⟩
  have hzb : wb.heap.size = w.heap.size + 1 := by rw [hwb]; exact alloc_size _ _
  have HZB := Lib.hid hzb
  rw [← hwb] at HB0 HCE HM1 HT1 r0 b0 b1 b2
  have hwb' : w.alloc (.cells #[.slice AN n cN, .slice AL n cL, .slice (some ⟨gO, 0, none⟩) n cO] 36) = wb := hwb.symm
  clear hM hT hb hn35 hgO hcO hz hsn hsz hE hO ha hzb hwb
  go_enter Tryz.func31, Tryz.ntmps31
  go_wp2_with (at_make; go_must (refine wpList_make_full _ rfl _ _ 34 rfl wb.heap.size 4 i0 (.bool false) 1 Tryz.underlying34 hi hz0 hz1 .i64 .i64 _ _ n rfl rfl rfl rfl (by rw [hz2]; omega) (by unfold maxLen; omega) (Nat.le_refl _) ?_); intro w1 ho1 hg1; have HC1 := Lib.hid (Cells.made rfl ho1); have HB1 := Lib.hid (Below.grown (Below.refl wb.heap.size wb) hg1 (Nat.le_refl _) (fun k hk => by cases hk)); have x1 := (HC1.out.2 a han).1; have x2 := (HC1.out.2 a han).2; clear ho1 hg1)
  obtain ⟨w2, hw2⟩ : ∃ w2, w2 = w1.setCell ⟨wb.heap.size, a, none⟩ (.bool true) := ⟨_, rfl⟩
  have HC2 : Hid (Cells wb.heap.size n (fun c => .bool ((LY (envOf W H a s st (tkn R)) 0).getD c false)) w2) := Lib.hid (by
    rw [hw2]
    refine HC1.out.put a _ han (fun x hx => ?_)
    rw [LY, range_getD (show x < (envOf W H a s st (tkn R)).N by show x < s.size; rw [← HSN.out]; exact hx)]
    by_cases e : x = a
    · rw [if_pos e, e]; show Value.bool (a == a) = _; rw [beq_self_eq_true]
    · rw [if_neg e]; show Value.bool (x == a) = _; rw [show (x == a) = false by simpa using e])
  have HB2 : Hid (Below wb.heap.size wb w2) := Lib.hid (by rw [hw2]; exact HB1.out.setCell (p := ⟨wb.heap.size, a, none⟩) (Nat.le_refl _) _)
  have hz2' : w2.heap.size = w1.heap.size := by rw [hw2]; simp [World.setCell]
  have HA3 := Lib.hid (Al.one (F := fun i c => (LY (envOf W H a s st (tkn R)) i).getD c false) HC2.out (Nat.le_refl _) (fun c hc => rfl))
  have HB3 := Lib.hid (HB2.out.alloc HB2.out.size (.cells #[rowV n wb.heap.size] 34))
  unfold rowV at HA3 HB3
  obtain ⟨w3, hw3⟩ : ∃ w3, w3 = w2.alloc (.cells #[.slice (some ⟨wb.heap.size, 0, none⟩) n n] 34) := ⟨_, rfl⟩
  rw [← hw3] at HA3 HB3
  rw [hw2] at hw3
  rw [← hw3]
  rw [hz2'] at HA3
  clear hw2 hw3 hz2' x1 x2 HB2 HC2 HB1 HC1 b0 b1 b2 r0 hwb' hd1 hd2 hd2' hd3 hd4 hd5 hd6 hd6'
  go_loopw [11, 12, 13] (fun nv av iv wr => ∃ (k nn gk : Nat) (A : Option Addr) (c : Nat) (G : List Nat), k ≤ h ∧ nn = k + 1 ∧ nv = .slice (some ⟨gk, 0, none⟩) n n ∧ av = .slice A nn c ∧ iv = .int .i64 (nn : Int) ∧ Hid (Al wr wb.heap.size n (.slice A nn c) G (fun i c => (LY (envOf W H a s st (tkn R)) i).getD c false) ∧ G.length = k + 1 ∧ G.getD k 0 = gk ∧ Below wb.heap.size wb wr)) (fun _ _ iv _ => h + 1 - (intOf iv).toNat)
  case atStart => exact ⟨0, 1, _, _, _, _, by omega, rfl, rfl, rfl, rfl, Lib.hid ⟨HA3.out, rfl, rfl, HB3.out⟩⟩
  case round =>
    rename World => wr
    obtain ⟨k, nn, gk, A1, c1, G, hk, hnn, rfl, rfl, rfl, HI⟩ := hrel
    have HNK := Lib.hid hnn
    by_cases hlt : nn ≤ h
    · have hd1 : decide ((nn : Int) ≤ (h : Int)) = true := decide_eq_true (by omega)
      have hd1' : decide (nn ≤ h) = true := decide_eq_true hlt
      have HBW := Lib.hid (HB0.out.trans (HI.out.2.2.2.mono (by rw [HZB.out]; exact Nat.le_succ _)))
      obtain ⟨z0, z1, z2⟩ := HCE.out wr (by rw [← HZB.out]; exact HI.out.2.2.2)
      have HMr := Lib.hid (HM1.out.later HI.out.2.2.2)
      have HTr := Lib.hid (HT1.out.later HI.out.2.2.2)
      have HGK : Hid (Cells gk n (fun c => .bool ((LY (envOf W H a s st (tkn R)) k).getD c false)) wr) := Lib.hid (by
        have := HI.out.1.rows k (by rw [HI.out.2.1]; exact Nat.lt_succ_self k)
        rwa [HI.out.2.2.1] at this)
      obtain ⟨l, hl⟩ : ∃ l : Nat → Bool, l = fun d => (LY (envOf W H a s st (tkn R)) k).getD d false := ⟨_, rfl⟩
      obtain ⟨tw, htw⟩ : ∃ tw : Nat → Bool, tw = fun (c : Nat) => isT (tkn R (c : Int)) (st + (nn : Int)) := ⟨_, rfl⟩
      obtain ⟨S, hS⟩ : ∃ S : Nat → List Nat, S = nx5 W H (at_ s) a (fun _ => false) := ⟨_, rfl⟩
      have HNA : Hid (∀ c, c < s.size → nxt tw l S s.size c = (LY (envOf W H a s st (tkn R)) nn).getD c false) := Lib.hid (fun c hc => by
        rw [hl, htw, hS, hnn]; exact nxt_all HOO.out hc)
      have HLW : Hid (∀ c, c < s.size → l c = true → at_ s c ≠ 35) := Lib.hid (fun c hc h => by rw [hl] at h; exact ly_wall HEO.out HZA.out hc h)
      have HSP : Hid (∀ (c : Nat) (wx : World), MapAt wx W H s AN AL (some ⟨gO, 0, none⟩) n cN cL cO → c < n → at_ s c ≠ 35 → Calls Tryz.prog 58 #[.agg #[.slice AN n cN, .slice AL n cL, .slice (some ⟨gO, 0, none⟩) n cO], .int .i64 (c : Int), .int .i64 (a : Int), .slice none 0 0] wx (Ints (S c) wx)) := Lib.hid (fun c wx hm hc hz => by
        rw [hS]; exact rsteps_any c a none 0 0 (fun _ => 0) wx hm h256 hc (by rw [HSN.out]; exact HA0.out) hz (Il.empty _ _ _))
      have HSLT : Hid (∀ c, c < n → ∀ d ∈ S c, d < n) := Lib.hid (fun c hc d hd => by
        rw [hS] at hd
        have h := (mem_nx5.1 hd).2.1
        rw [HSN.out, HSZ.out]
        exact nr_lt hW1 (by rw [← HSZ.out, ← HSN.out]; exact hc) h)
      have HIS : Hid (∀ (c : Nat) (wx : World), RT wx rb A cc R → Calls Tryz.prog 57 #[.pointer (some ⟨rb, 0, none⟩), .int .i64 (c : Int), .int .i64 (st + (nn : Int))] wx fun e w' => e = .returned (.bool (tw c)) ∧ Below wx.heap.size wx w') := Lib.hid (fun c wx ht => by
        rw [htw]; exact Wn.r6is_any rb A cc R (c : Int) (st + (nn : Int)) wx ht (HOO.out _))
      have HGK2 : Hid (Cells gk n (fun c => .bool (l c)) wr) := Lib.hid (by rw [hl]; exact HGK.out)
      have hw : IntKind.i64.wrap (st + (nn : Int)) = st + (nn : Int) := IntWalk.i64_in _ (by omega)
      obtain ⟨gx, hgx⟩ : ∃ gx, gx = wr.heap.size := ⟨_, rfl⟩
      have HGX := Lib.hid hgx
      clear hl htw hS HGK hnn
      go_wp2_with (at_make; go_must (refine wpList_make_full _ rfl _ _ 34 rfl wr.heap.size 4 i0 (.bool false) 1 Tryz.underlying34 hi hz0 hz1 .i64 .i64 _ _ n rfl rfl rfl rfl (by rw [hz2]; omega) (by unfold maxLen; omega) (Nat.le_refl _) ?_); intro w9 ho9 hg9; have HC9 := Lib.hid (Cells.made rfl ho9); have HB9 := Lib.hid (Below.grown (Below.refl wr.heap.size wr) hg9 (Nat.le_refl _) (fun k hk => by cases hk)); clear ho9 hg9)
      rw [← hgx] at HC9 ⊢
      have HST : Hid (Cells gx n (fun c => .bool (nxt tw l S 0 c)) w9 ∧ Below wr.heap.size wr w9) := Lib.hid ⟨HC9.out.congr (fun c hc => by rw [nxt_zero]), HB9.out⟩
      clear hgx HC9 HB9 z0 z1 z2
      go_loopw [15] (fun iv wy => ∃ i : Nat, i ≤ n ∧ iv = .int .i64 (i : Int) ∧ Hid (Cells gx n (fun c => .bool (nxt tw l S i c)) wy ∧ Below wr.heap.size wr wy)) (fun iv _ => n - (intOf iv).toNat)
      case atStart => exact ⟨0, Nat.zero_le _, rfl, HST⟩
      case round =>
        rename World => wy
        obtain ⟨i, hi9, rfl, HY⟩ := hrel
        by_cases hin : i < n
        · have q := (HGK2.out.later HY.out.2).2 i hin
          have q1 : wy.cell? ⟨gk, i, none⟩ = some (.bool (l i)) := q.1
          have hiI : (i : Int) < (n : Int) := by omega
          have hi0 : (0 : Int) ≤ (i : Int) := by omega
          clear q
          cases hli : l i with
          | false =>
            rw [hli] at q1
            have HN : Hid (Cells gx n (fun c => .bool (nxt tw l S (i + 1) c)) wy ∧ Below wr.heap.size wr wy) := Lib.hid ⟨HY.out.1.congr (fun c hc => by rw [nxt_off hli]), HY.out.2⟩
            clear hli
            go_wp2_with fail
            go_roundw
            case rel =>
              first
              | exact ⟨i + 1, by omega, by go_num, HN⟩
              | ((repeat apply Exists.intro); exact ⟨⟨i + 1, by omega, by go_num, HN⟩, rfl⟩)
            case measure => simp [intOf]; omega
          | true =>
            rw [hli] at q1
            have HLI := Lib.hid hli
            have HNW : Hid (at_ s i ≠ 35) := Lib.hid (HLW.out i (by rw [← HSN.out]; exact hin) hli)
            clear hli
            go_wp2_with fail
            refine (HIS.out i _ (HTr.out.later HY.out.2)).mono ?_
            rintro e w3' ⟨rfl, hb3⟩
            have HY3 := Lib.hid (And.intro (HY.out.1.later hb3) (HY.out.2.trans (hb3.mono HY.out.2.size)))
            have y1 : w3'.cell? ⟨gx, i, none⟩ = some (.bool (nxt tw l S i i)) := (HY3.out.1.2 i hin).1
            have y2 := (HY3.out.1.2 i hin).2
            have HY4 : Hid (Cells gx n (fun c => .bool (mid tw l S i 0 c)) (w3'.setCell ⟨gx, i, none⟩ (.bool (tw i))) ∧ Below wr.heap.size wr (w3'.setCell ⟨gx, i, none⟩ (.bool (tw i)))) := Lib.hid ⟨HY3.out.1.put i _ hin (fun c hc => by rw [mid_zero]; split <;> rfl), HY3.out.2.setCell (p := ⟨gx, i, none⟩) (by rw [HGX.out]; exact Nat.le_refl _) _⟩
            have HCE4 := Lib.hid (HCE.out (w3'.setCell ⟨gx, i, none⟩ (.bool (tw i))) (by rw [← HZB.out]; exact HI.out.2.2.2.trans (HY4.out.2.mono HI.out.2.2.2.size)))
            have c0 := HCE4.out.1
            have c1 := HCE4.out.2.1
            have c2 := HCE4.out.2.2
            clear hb3
            go_wp2_with fail
            generalize w3'.setCell ⟨gx, i, none⟩ (.bool (tw i)) = wq at *
            refine (HSP.out i _ (HMr.out.later HY4.out.2) hin HNW.out).mono ?_
            rintro e w4 ⟨A4, n4, k4, rfl, hn4, ho4, hb4⟩
            have HO4 := Lib.hid ho4
            have HN4 := Lib.hid hn4
            have HGQ : Hid (gx < wq.heap.size) := Lib.hid HY4.out.1.1
            have HY5 := Lib.hid (And.intro (HY4.out.1.later hb4) (HY4.out.2.trans (hb4.mono HY4.out.2.size)))
            have hcp := Own.cap ho4 hn4
            have hcp1 := hcp.1
            have hcp2 := hcp.2
            unfold maxLen at hcp2
            have HSD := Lib.hid (HSLT.out i hin)
            clear hn4 ho4 hb4 hcp q1 y1 y2 c0 c1 c2
            go_wp2_with fail
            go_loopw [17] (fun kv wz => ∃ j : Nat, j ≤ n4 ∧ kv = .int .i64 (j : Int) ∧ Hid (Cells gx n (fun c => .bool (mid tw l S i j c)) wz ∧ Below wr.heap.size wr wz ∧ On gx w4 wz)) (fun kv _ => n4 - (intOf kv).toNat)
            case atStart => exact ⟨0, Nat.zero_le _, rfl, Lib.hid ⟨HY5.out.1, HY5.out.2, Turn.refl _ _⟩⟩
            case round =>
              rename World => wz
              obtain ⟨j, hj, rfl, HZ⟩ := hrel
              by_cases hjn : j < n4
              · obtain ⟨g5, o5, e5, hg5, hc5⟩ := (Own.il (HZ.out.2.2.own HO4.out HGQ.out) HN4.out).cell (by omega)
                subst e5
                have p1 := hc5 j hjn
                have hjl : j < (S i).length := by rw [← HN4.out]; exact hjn
                have HYN := Lib.hid (fun c => mid_yes (tw := tw) (l := l) (S := S) (i := i) (c := c) hjl)
                have HNN := Lib.hid (fun c => mid_no (tw := tw) (l := l) (S := S) (i := i) (c := c) hjl)
                have hdn : (S i).getD j 0 < n := HSD.out _ (by rw [List.getD, List.getElem?_eq_getElem hjl]; exact List.getElem_mem hjl)
                have hjI : (j : Int) < (n4 : Int) := by omega
                have hj0 : (0 : Int) ≤ (j : Int) := by omega
                clear hc5 hjl
                generalize (S i).getD j 0 = d at *
                have hdI : (d : Int) < (n : Int) := by omega
                have hd0 : (0 : Int) ≤ (d : Int) := by omega
                go_wp2_with fail
                refine (HIS.out d _ (HTr.out.later HZ.out.2.1)).mono ?_
                rintro e w6 ⟨rfl, hb6⟩
                have HZ6 := Lib.hid (And.intro (HZ.out.1.later hb6) (And.intro (HZ.out.2.1.trans (hb6.mono HZ.out.2.1.size)) (HZ.out.2.2.trans (On.of hb6))))
                have p6 := (hb6.cell (p := ⟨g5, o5 + j, none⟩) hg5).trans p1
                clear hb6
                cases htd : tw d with
                | true =>
                  have y1 : w6.cell? ⟨gx, d, none⟩ = some (.bool (mid tw l S i j d)) := (HZ6.out.1.2 d hdn).1
                  have y2 := (HZ6.out.1.2 d hdn).2
                  have HZ7 : Hid (Cells gx n (fun c => .bool (mid tw l S i (j + 1) c)) (w6.setCell ⟨gx, d, none⟩ (.bool true)) ∧ Below wr.heap.size wr (w6.setCell ⟨gx, d, none⟩ (.bool true)) ∧ On gx w4 (w6.setCell ⟨gx, d, none⟩ (.bool true))) := Lib.hid ⟨HZ6.out.1.put d _ hdn (fun c hc => by rw [HYN.out c htd]; split <;> rfl), HZ6.out.2.1.setCell (p := ⟨gx, d, none⟩) (by rw [HGX.out]; exact Nat.le_refl _) _, HZ6.out.2.2.put d _⟩
                  clear htd
                  go_wp2_with fail
                  go_roundw
                  case rel =>
                    first
                    | exact ⟨j + 1, by omega, by go_num, HZ7⟩
                    | ((repeat apply Exists.intro); exact ⟨⟨j + 1, by omega, by go_num, HZ7⟩, rfl⟩)
                  case measure => simp [intOf]; omega
                | false =>
                  have HZ7 : Hid (Cells gx n (fun c => .bool (mid tw l S i (j + 1) c)) w6 ∧ Below wr.heap.size wr w6 ∧ On gx w4 w6) := Lib.hid ⟨HZ6.out.1.congr (fun c hc => by rw [HNN.out c htd]), HZ6.out.2⟩
                  clear htd
                  go_wp2_with fail
                  go_roundw
                  case rel =>
                    first
                    | exact ⟨j + 1, by omega, by go_num, HZ7⟩
                    | ((repeat apply Exists.intro); exact ⟨⟨j + 1, by omega, by go_num, HZ7⟩, rfl⟩)
                  case measure => simp [intOf]; omega
              · obtain rfl : j = n4 := by omega
                have HN : Hid (Cells gx n (fun c => .bool (nxt tw l S (i + 1) c)) wz ∧ Below wr.heap.size wr wz) := Lib.hid ⟨HZ.out.1.congr (fun c hc => by rw [nxt_on HLI.out, ← HN4.out]), HZ.out.2.1⟩
                go_wp2_with fail
                go_roundw
                case rel =>
                  first
                  | exact ⟨i + 1, by omega, by go_num, HN⟩
                  | ((repeat apply Exists.intro); exact ⟨⟨i + 1, by omega, by go_num, HN⟩, rfl⟩)
                case measure => simp [intOf]; omega
        · have hin' : i = n := by omega
          have HCX : Hid (Cells gx n (fun c => .bool ((LY (envOf W H a s st (tkn R)) nn).getD c false)) wy) := Lib.hid (HY.out.1.congr (fun c hc => by
            rw [hin', HSN.out, HNA.out c (by rw [← HSN.out]; exact hc)]))
          have HAX := Lib.hid ((Below.refl wy.heap.size wy).alloc (Nat.le_refl _) (.cells #[.slice (some ⟨gx, 0, none⟩) n n] 34))
          have HBX := Lib.hid (HY.out.2.trans (HAX.out.mono HY.out.2.size))
          have HCX2 := Lib.hid (HCX.out.later HAX.out)
          have HOX : Hid ((wy.alloc (.cells #[.slice (some ⟨gx, 0, none⟩) n n] 34)).ownsRow wb.heap.size 34 1 (.slice A1 nn c1) nn (G.map (rowV n))) := Lib.hid (by
            have := (HI.out.1.later HBX.out).own
            rwa [HI.out.2.1, ← HNK.out] at this)
          have HN10 := Lib.hid (row_cell wy (.slice (some ⟨gx, 0, none⟩) n n) 34)
          have HC10 := Lib.hid (row_one (.slice (some ⟨gx, 0, none⟩) n n) rfl)
          have HZ10 : Hid (wb.heap.size ≤ (wy.alloc (.cells #[.slice (some ⟨gx, 0, none⟩) n n] 34)).heap.size) := Lib.hid (Nat.le_trans HI.out.2.2.2.size HBX.out.size)
          obtain ⟨iB, hiB, hy0, hy1, hy2⟩ := info_parts Tryz.infoBools7
          clear hin'
          go_wp2_with (at_builtin; refine wpList_append_lies _ rfl _ _ _ rfl wb.heap.size 34 iB _ 1 24 Tryz.underlying80 hiB hy0 hy1 hy2 rfl (by omega) (.slice A1 nn c1) nn (G.map (rowV n)) rfl HOX.out ⟨wy.heap.size, 0, none⟩ 1 1 [.slice (some ⟨gx, 0, none⟩) n n] rfl rfl HN10.out HC10.out (by omega) (by unfold maxLen; omega) (by omega) HZ10.out (wy.heap.size + 1) (by simp) ?_; intro g7 c7 w7 hown7 hgrow7 hat7 hlt7; have HK7 := Lib.hid (And.intro hown7 (And.intro hgrow7 hat7)); clear hown7 hgrow7 hat7 hlt7)
          have HAL : Hid (Al w7 wb.heap.size n (.slice (some ⟨g7, 0, none⟩) (nn + 1) c7) (G ++ [gx]) (fun i c => (LY (envOf W H a s st (tkn R)) i).getD c false)) := Lib.hid (HI.out.1.snoc HBX.out HCX2.out (by rw [HGX.out]; exact Nat.le_refl _) HI.out.2.2.2.size (fun c hc => by rw [HI.out.2.1, ← HNK.out]) HK7.out.2.1 (by rw [HI.out.2.1, ← HNK.out]; exact HK7.out.1) (by
            rcases HK7.out.2.2 with e | e
            · left; rw [e]; rfl
            · right; rw [e]; simp [Value.ownBlock]))
          have HB7 : Hid (Below wb.heap.size wb w7) := Lib.hid ((HI.out.2.2.2.trans (HBX.out.mono HI.out.2.2.2.size)).trans (Below.grown (Below.refl _ _) HK7.out.2.1 HZ10.out (fun k hk => (World.ownsRow.lt HOX.out k hk).1)))
          have HGL : Hid ((G ++ [gx]).length = k + 1 + 1 ∧ (G ++ [gx]).getD (k + 1) 0 = gx) := Lib.hid ⟨by rw [List.length_append, HI.out.2.1]; rfl, by
            have := HI.out.2.1
            simp [List.getD, ← this]⟩
          go_roundw
          case rel => exact ⟨k + 1, nn + 1, gx, _, c7, G ++ [gx], by have := HNK.out; omega, by rw [HNK.out], rfl, rfl, by go_num, Lib.hid ⟨HAL.out, HGL.out.1, HGL.out.2, HB7.out⟩⟩
          case measure => simp [intOf]; omega
    · have hnh : nn = h + 1 := by omega
      have hd1 : decide ((nn : Int) ≤ (h : Int)) = false := decide_eq_false (by omega)
      have hd1' : decide (nn ≤ h) = false := decide_eq_false hlt
      have HEND : Hid (Al wr w.heap.size n (.slice A1 (h + 1) c1) G (fun i c => (LY (envOf W H a s st (tkn R)) i).getD c false) ∧ G.length = h + 1 ∧ Below w.heap.size w wr) := Lib.hid ⟨by
        have := HI.out.1
        rw [hnh] at this
        exact ⟨own_lower7 this.own (by rw [HZB.out]; exact Nat.le_succ _), this.rows, fun i hi => by have := this.lo i hi; have := HZB.out; omega, this.apart⟩, by rw [HI.out.2.1]; omega, HB0.out.trans (HI.out.2.2.2.mono (by rw [HZB.out]; exact Nat.le_succ _))⟩
      go_wp2_with fail
      go_ret
      exact ⟨A1, c1, G, by rw [hnh]; rfl, HEND.out.1, HEND.out.2.1, HEND.out.2.2⟩
theorem r7reach_no {AN AL AO : Option Addr} {n cN cL cO : Nat} {w : World} (rb : Nat) (fr st ah : Int)
    (hc : fr < 0 ∨ (n : Int) ≤ fr ∨ ∃ k g : Nat, fr = (k : Int) ∧ k < n ∧ n ≤ cO ∧ cO ≤ maxLen ∧ AO = some ⟨g, 0, none⟩ ∧ g < w.heap.size ∧ ∃ ob, w.cell? ⟨g, k, none⟩ = some (.bool ob) ∧ (ob = false ∨ st < 0 ∨ 1048576 ≤ st ∨ ah < 0 ∨ 1024 < ah)) :
    Calls Tryz.prog 31 #[.agg #[.slice AN n cN, .slice AL n cL, .slice AO n cO], .pointer (some ⟨rb, 0, none⟩), .int .i64 fr, .int .i64 st, .int .i64 ah] w fun e w' => e = .returned (.slice none 0 0) ∧ Below w.heap.size w w' := by
  obtain ⟨b0, b1, b2, hb⟩ := map_box w (.slice AN n cN) (.slice AL n cL) (.slice AO n cO)
  have HB := Lib.hid hb
  by_cases h1 : fr < 0
  · have hd1 : decide (fr < 0) = true := decide_eq_true h1
    clear hc hb
    go_enter Tryz.func31, Tryz.ntmps31
    go_wp2_with fail
    go_ret
    exact ⟨rfl, HB.out⟩
  · have hd1 : decide (fr < 0) = false := decide_eq_false h1
    by_cases h2 : (n : Int) ≤ fr
    · have hd2 : decide ((n : Int) ≤ fr) = true := decide_eq_true h2
      clear hc hb
      go_enter Tryz.func31, Tryz.ntmps31
      go_wp2_with fail
      go_ret
      exact ⟨rfl, HB.out⟩
    · have hd2 : decide ((n : Int) ≤ fr) = false := decide_eq_false h2
      obtain ⟨k, g, rfl, hk, hc1, hc2, rfl, hg, ob, hcell, ho⟩ := (hc.resolve_left h1).resolve_left h2
      have r0 := (hb.cell (p := ⟨g, k, none⟩) hg).trans hcell
      have hy0 : (0 : Int) ≤ (k : Int) := by omega
      have hy1 : (k : Int) < (n : Int) := by omega
      have hd2' : decide (n ≤ k) = false := decide_eq_false (by omega)
      unfold maxLen at hc2
      clear hc hb hcell h1 h2 hg
      cases ob with
      | false =>
        go_enter Tryz.func31, Tryz.ntmps31
        go_wp2_with fail
        go_ret
        exact ⟨rfl, HB.out⟩
      | true =>
        by_cases h3 : st < 0
        · have hd3 : decide (st < 0) = true := decide_eq_true h3
          clear ho
          go_enter Tryz.func31, Tryz.ntmps31
          go_wp2_with fail
          go_ret
          exact ⟨rfl, HB.out⟩
        · have hd3 : decide (st < 0) = false := decide_eq_false h3
          by_cases h4 : (1048576 : Int) ≤ st
          · have hd4 : decide ((1048576 : Int) ≤ st) = true := decide_eq_true h4
            clear ho h3 h4
            go_enter Tryz.func31, Tryz.ntmps31
            go_wp2_with fail
            go_ret
            exact ⟨rfl, HB.out⟩
          · have hd4 : decide ((1048576 : Int) ≤ st) = false := decide_eq_false h4
            by_cases h5 : ah < 0
            · have hd5 : decide (ah < 0) = true := decide_eq_true h5
              clear ho h3 h4
              go_enter Tryz.func31, Tryz.ntmps31
              go_wp2_with fail
              go_ret
              exact ⟨rfl, HB.out⟩
            · have hd5 : decide (ah < 0) = false := decide_eq_false h5
              have h6 : (1024 : Int) < ah := by
                rcases ho with e | e | e | e | e
                · cases e
                · exact absurd e h3
                · exact absurd e h4
                · exact absurd e h5
                · exact e
              have hd6 : decide ((1024 : Int) < ah) = true := decide_eq_true h6
              clear ho h3 h4 h5 h6
              go_enter Tryz.func31, Tryz.ntmps31
              go_wp2_with fail
              go_ret
              exact ⟨rfl, HB.out⟩
/-- Reach, whatever is asked. -/
def ReachAny (W H : Int) (s : ByteArray) (fr st ah : Int) (T : Int → List (Int × Int)) (n : Nat) (w : World) (e : Ending) (w' : World) : Prop :=
  (Rc7 W H s fr st ah ∧ n = s.size ∧ ReachTold (envOf W.toNat H.toNat fr.toNat s st T) n ah.toNat w e w') ∨ (¬ Rc7 W H s fr st ah ∧ e = .returned (.slice none 0 0) ∧ Below w.heap.size w w')
theorem r7reach_any {W H : Int} {s : ByteArray} {AN AL AO : Option Addr} {n cN cL cO : Nat} {w : World} (hM : Right W H s → MapAt w W.toNat H.toNat s AN AL AO n cN cL cO) (hM0 : ¬ Right W H s → n = 0) {rb : Nat} {A : Option Addr} {cc : Nat} {R : List R3} (hT : RT w rb A cc R) {T : Int → List (Int × Int)} (hTR : ∀ y, tkn R y = T y) (hO : ∀ y, Ordw 0 (T y)) (hS : ∀ y, (T y).length ≤ 2000) (fr st ah : Int) :
    Calls Tryz.prog 31 #[.agg #[.slice AN n cN, .slice AL n cL, .slice AO n cO], .pointer (some ⟨rb, 0, none⟩), .int .i64 fr, .int .i64 st, .int .i64 ah] w (ReachAny W H s fr st ah T n w) := by
  obtain rfl : tkn R = T := funext hTR
  by_cases hR : Right W H s
  · have hMm := hM hR
    obtain ⟨W, H, rfl, rfl, hSd, hN⟩ := rightNat hR
    rw [Int.toNat_natCast, Int.toNat_natCast] at hMm
    have hsn := hMm.sz
    have h256 := hSd.le
    by_cases h1 : fr < 0
    · exact (r7reach_no rb fr st ah (.inl h1)).mono (fun e w' h => .inr ⟨fun h => by obtain ⟨_, _, k, _, _, e, _⟩ := onFloor_some h.1.1; omega, h⟩)
    · by_cases h2 : (n : Int) ≤ fr
      · exact (r7reach_no rb fr st ah (.inr (.inl h2))).mono (fun e w' h => .inr ⟨fun h => by obtain ⟨_, _, k, _, _, e, hk, _⟩ := onFloor_some h.1.1; omega, h⟩)
      · obtain ⟨a, rfl⟩ := Int.eq_ofNat_of_zero_le (Int.not_lt.1 h1)
        have ha : a < s.size := by omega
        obtain ⟨g, rfl, hg, hcell⟩ := hMm.opn
        have hca := hcell a (by omega)
        by_cases hz : at_ s a = 35
        · exact (r7reach_no rb a st ah (.inr (.inr ⟨a, g, rfl, by omega, hMm.caps.2.2.1, hMm.caps.2.2.2, rfl, hg, _, hca, .inl (by simp [hz])⟩))).mono (fun e w' h => .inr ⟨fun h => by
            obtain ⟨_, _, k, _, _, e, hk, hz2, _⟩ := onFloor_some h.1.1
            obtain rfl : a = k := by omega
            exact hz2 hz, h⟩)
        · by_cases h3 : st < 0 ∨ 1048576 ≤ st ∨ ah < 0 ∨ 1024 < ah
          · exact (r7reach_no rb a st ah (.inr (.inr ⟨a, g, rfl, by omega, hMm.caps.2.2.1, hMm.caps.2.2.2, rfl, hg, _, hca, .inr h3⟩))).mono (fun e w' h => .inr ⟨fun h => by have := h.1.2; have := h.2; omega, h⟩)
          · have hOF : OnFloor (W : Int) (H : Int) s (a : Int) := ⟨hR, by rw [bAt_in5 s a ha]; exact hz⟩
            have hRt : Rt7 (W : Int) (H : Int) s (a : Int) st := ⟨hOF, by omega, by omega⟩
            have hE := envOk hRt hO hS
            rw [Int.toNat_natCast, Int.toNat_natCast, Int.toNat_natCast] at hE
            obtain ⟨h, rfl⟩ := Int.eq_ofNat_of_zero_le (show 0 ≤ ah by omega)
            refine (r7reach_some hMm h256 hSd.w1 hSd.sz hT hO ha hz (by omega) (by omega) (h := h) (by omega) hE).mono ?_
            intro e w' hr
            refine .inl ⟨⟨hRt, by omega, by omega⟩, hsn, ?_⟩
            rw [Int.toNat_natCast, Int.toNat_natCast, Int.toNat_natCast, Int.toNat_natCast]
            exact hr
  · obtain rfl := hM0 hR
    exact (r7reach_no rb fr st ah (by omega)).mono (fun e w' h => .inr ⟨fun h => hR h.1.1.1, h⟩)
end Sp
end Go.Proofs.YtcdclghmebgpnaaGreatDoor
end

section
namespace Go.Proofs.YtcdclghmebgpnaaGreatDoor
namespace Sp
open Go.RowKit Fl Pt
open Wn (Tab TF frees isT Ordw IW Wt wcl plc Rising RT Rt R3 tkn rtk tk upd inW)

/-- The first of the layers from m to h that has a cell. -/
def FsP (E : Env) (st : Int) (h x m : Nat) (v : Int) : Prop :=
  (v = -1 ∧ ∀ n, m ≤ n → n ≤ h → (LY E n).getD x false = false) ∨ ∃ n, m ≤ n ∧ n ≤ h ∧ (LY E n).getD x false = true ∧ (∀ n', m ≤ n' → n' < n → (LY E n').getD x false = false) ∧ v = st + (n : Int)
theorem FsP.top (E : Env) (st : Int) (h x : Nat) : FsP E st h x (h + 1) (-1) := .inl ⟨rfl, fun n h1 h2 => by omega⟩
theorem FsP.yes {E : Env} {st : Int} {h x m : Nat} {v : Int} (hm : m ≤ h) (hy : (LY E m).getD x false = true) : FsP E st h x m (st + (m : Int)) := .inr ⟨m, Nat.le_refl _, hm, hy, fun n' h1 h2 => by omega, rfl⟩
theorem FsP.no {E : Env} {st : Int} {h x m : Nat} {v : Int} (hf : FsP E st h x (m + 1) v) (hy : (LY E m).getD x false = false) : FsP E st h x m v := by
  rcases hf with ⟨rfl, h1⟩ | ⟨n, h1, h2, h3, h4, rfl⟩
  · refine .inl ⟨rfl, fun n q1 q2 => ?_⟩
    rcases (by omega : n = m ∨ m + 1 ≤ n) with rfl | q
    · exact hy
    · exact h1 n q q2
  · refine .inr ⟨n, by omega, h2, h3, fun n' q1 q2 => ?_, rfl⟩
    rcases (by omega : n' = m ∨ m + 1 ≤ n') with rfl | q
    · exact hy
    · exact h4 n' q q2
theorem FsP.isSn {E : Env} (hE : E.Ok) {h x : Nat} {v : Int} (hx : x < E.N) (hf : FsP E E.t0 h x 0 v) : IsSn E (E.t0 + (h : Int)) x v := by
  rcases hf with ⟨rfl, h1⟩ | ⟨n, _, h2, h3, h4, rfl⟩
  · refine .inr ⟨rfl, fun t ht r => ?_⟩
    have hge := r.ge
    have e1 : E.t0 + ((t - E.t0).toNat : Int) = t := by omega
    have := h1 (t - E.t0).toNat (by omega) (by omega)
    rw [← e1] at r
    rw [(ly_iff hE _ x hx).2 r] at this
    cases this
  · exact isSn_ly hE hx (by omega) h3 (fun n' q => h4 n' (by omega) q)
/-- Numbers of one's own. -/
def zc (F : List Int) : List Value := F.map fun x => .int .i64 x
def OwnZ (w : World) (base : Nat) (v : Value) (F : List Int) : Prop := w.ownsRow base 3 1 v F.length (zc F)
theorem OwnZ.nil (w : World) (base : Nat) : OwnZ w base (.slice none 0 0) [] := World.ownsRow_nil _ _ _ _
theorem OwnZ.later {w w' : World} {base : Nat} {v : Value} {F : List Int} (h : OwnZ w base v F) (hb : Below w.heap.size w w') : OwnZ w' base v F := ownsRow_same h (fun k hk => hb.block k (World.ownsRow.lt h k hk).2)
theorem OwnZ.il {w : World} {base : Nat} {A : Option Addr} {n c : Nat} {F : List Int} (h : OwnZ w base (.slice A n c) F) : n = F.length ∧ Il w.heap.size w A n c (fun j => F.getD j 0) := by
  rcases h.2 with ⟨q, h0⟩ | ⟨g, cap', cur, q, hg, hh, h1, h2, _⟩
  · injection q with q1 q2 q3
    subst q1 q2 q3
    exact ⟨h0.symm, Il.empty _ _ _⟩
  · injection q with q1 q2 q3
    subst q1 q2 q3
    refine ⟨rfl, h1, h2, fun h => (by cases h), fun _ => ⟨g, 0, rfl, (World.ownsRow.lt h g rfl).2, fun j hj => ?_⟩⟩
    rw [Nat.zero_add, World.ownsRow.cellAt h j (by omega)]
    simp [zc, List.getD, hj]
set_option maxHeartbeats 16000000 in
theorem r7soon_any {W H : Int} {s : ByteArray} {AN AL AO : Option Addr} {n cN cL cO : Nat} {w : World} (hM : Right W H s → MapAt w W.toNat H.toNat s AN AL AO n cN cL cO) (hM0 : ¬ Right W H s → n = 0) {rb : Nat} {A : Option Addr} {cc : Nat} {R : List R3} (hT : RT w rb A cc R) {T : Int → List (Int × Int)} (hTR : ∀ y, tkn R y = T y) (hO : ∀ y, Ordw 0 (T y)) (hS : ∀ y, (T y).length ≤ 2000) (fr st ah : Int) :
    Calls Tryz.prog 12 #[.agg #[.slice AN n cN, .slice AL n cL, .slice AO n cO], .pointer (some ⟨rb, 0, none⟩), .int .i64 fr, .int .i64 st, .int .i64 ah] w (SoonTold W H s fr st ah T w) := by
  obtain ⟨b0, b1, b2, hb⟩ := map_box w (.slice AN n cN) (.slice AL n cL) (.slice AO n cO)
  have HB0 := Lib.hid hb
  have HEO := Lib.hid (fun (h : Rc7 W H s fr st ah) => envOk h.1 hO hS)
  have HRE := Lib.hid (fun wx (hx : Below w.heap.size w wx) => r7reach_any (w := wx) (fun h => (hM h).later hx) hM0 (hT.later hx) hTR hO hS fr st ah)
  have H256 : Hid (Rc7 W H s fr st ah → s.size ≤ 256) := Lib.hid (fun h => by
    obtain ⟨W, H, rfl, rfl, hSd, hN⟩ := rightNat h.1.1.1
    exact hSd.le)
  obtain ⟨i0, hi, hz0, hz1, hz2⟩ := info_parts Tryz.infoInt
  have HCE : Hid (∀ wx, Below (w.heap.size + 1) (w.alloc (.cells #[.slice AN n cN, .slice AL n cL, .slice AO n cO] 36)) wx → wx.cell? ⟨w.heap.size, 2, none⟩ = some (.slice AO n cO)) := Lib.hid (fun wx h => (h.cell (p := ⟨w.heap.size, 2, none⟩) (Nat.lt_succ_self _)).trans b2)
  have HSB : Hid ((w.alloc (.cells #[.slice AN n cN, .slice AL n cL, .slice AO n cO] 36)).heap.size = w.heap.size + 1) := Lib.hid (alloc_size _ _)
  clear hM hM0 hT hTR hO hS hb
  go_enter Tryz.func12, Tryz.ntmps12
  go_wp2_with fail
  refine (HRE.out _ HB0.out).mono ?_
  rintro e w1 (⟨hRc, hns, A1, c1, G, rfl, hal, hgl, hb1⟩ | ⟨hRc, rfl, hb1⟩)
  · have HRc := Lib.hid hRc
    have HNS := Lib.hid hns
    have hn256 : n ≤ 256 := by rw [hns]; exact H256.out hRc
    have HB1 := Lib.hid (HB0.out.trans (hb1.mono HB0.out.size))
    obtain ⟨h, hh⟩ : ∃ h : Nat, ah = (h : Int) := Int.eq_ofNat_of_zero_le hRc.2.1
    subst hh
    rw [Int.toNat_natCast] at hal hgl ⊢
    have hh2 : h ≤ 1024 := by have := hRc.2.2; omega
    have hst0 : 0 ≤ st := hRc.1.2.1
    have hst1 : st < 1048576 := hRc.1.2.2
    have HEK := Lib.hid (HEO.out hRc)
    obtain ⟨g, cg, eg, hg1, hg2, hg3, hgc⟩ := hal.form (by omega)
    injection eg with eg1 eg2 eg3
    subst eg1 eg3
    have HAL := Lib.hid hal
    have HGL := Lib.hid hgl
    have HG3 := Lib.hid hg3
    have HGC : Hid (∀ i, i < h + 1 → w1.cell? ⟨g, i, none⟩ = some (rowV n (G.getD i 0))) := Lib.hid (fun i hi => hgc i (by rw [hgl]; exact hi))
    have hc1 : h + 1 ≤ c1 := by rw [← hgl]; exact hg1
    have hc2 := hg2
    unfold maxLen at hc2
    have HB1W2 := Lib.hid hb1
    have HB1W := Lib.hid (by rw [HSB.out] at hb1; exact hb1 : Below (w.heap.size + 1) _ w1)
    obtain ⟨hn, hhn⟩ : ∃ hn, hn = h + 1 := ⟨_, rfl⟩
    rw [← hhn] at hc1 HGC ⊢
    have HHN := Lib.hid hhn
    have hhn1 : 1 ≤ hn := by omega
    have hhn2 : hn ≤ 1025 := by omega
    have hdz : ((hn : Int) == 0) = false := by rw [beq_eq_false_iff_ne]; omega
    obtain ⟨E, hE⟩ : ∃ E, E = envOf W.toNat H.toNat fr.toNat s st T := ⟨_, rfl⟩
    have HE := Lib.hid hE
    rw [← hE] at HAL HEK
    clear hRc hns hal hgl hb1 hg1 hg2 hg3 hgc b0 b1 b2 hE hhn
    go_wp2_with fail
    go_loopw [12, 13] (fun ov iv wr => ∃ (i : Nat) (F : List Int) (A2 : Option Addr) (c2 : Nat), i ≤ n ∧ ov = .slice A2 i c2 ∧ iv = .int .i64 (i : Int) ∧ Hid (F.length = i ∧ OwnZ wr w1.heap.size (.slice A2 i c2) F ∧ Below w1.heap.size w1 wr ∧ ∀ x, x < i → FsP E st h x 0 (F.getD x 0))) (fun _ iv _ => n - (intOf iv).toNat)
    case atStart => exact ⟨0, [], none, 0, Nat.zero_le _, rfl, rfl, Lib.hid ⟨rfl, OwnZ.nil _ _, Below.refl _ _, fun x hx => by omega⟩⟩
    case round =>
      rename World => wr
      obtain ⟨i, F, A2, c2, hi9, rfl, rfl, HI⟩ := hrel
      have z2 := HCE.out wr (HB1W.out.trans (HI.out.2.2.1.mono (by rw [← HSB.out]; exact HB1W2.out.size)))
      by_cases hin : i < n
      · have hiI : (i : Int) < (n : Int) := by omega
        have hi0 : (0 : Int) ≤ (i : Int) := by omega
        have hw0 : IntKind.i64.wrap ((hn : Int) - 1) = (hn : Int) - 1 := IntWalk.i64_in _ (by omega)
        go_wp2_with fail
        go_loopw [14, 15] (fun fv mv wz => ∃ (m : Nat) (v : Int), m ≤ hn ∧ fv = .int .i64 v ∧ mv = .int .i64 ((m : Int) - 1) ∧ Hid (FsP E st h i m v ∧ wz = wr)) (fun _ mv _ => (intOf mv + 1).toNat)
        case atStart => exact ⟨hn, -1, Nat.le_refl _, rfl, rfl, Lib.hid ⟨by rw [HHN.out]; exact FsP.top _ _ _ _, rfl⟩⟩
        case round =>
          rename World => wz
          obtain ⟨m, v, hm, rfl, rfl, HF⟩ := hrel
          obtain rfl := HF.out.2
          by_cases hm0 : m = 0
          · subst hm0
            have HFE := Lib.hid HF.out.1
            have HAX := Lib.hid ((Below.refl wz.heap.size wz).alloc (Nat.le_refl _) (.cells #[.int .i64 v] 3))
            have HOX := Lib.hid (HI.out.2.1.later HAX.out)
            have hfl : F.length = i := HI.out.1
            have HOX2 : Hid ((wz.alloc (.cells #[.int .i64 v] 3)).ownsRow w1.heap.size 3 1 (.slice A2 i c2) i (zc F)) := Lib.hid (by have := HOX.out; unfold OwnZ at this; rwa [hfl] at this)
            have HN10 := Lib.hid (row_cell wz (.int .i64 v) 3)
            have HC10 := Lib.hid (row_one (.int .i64 v) rfl)
            have HZ10 : Hid (w1.heap.size ≤ (wz.alloc (.cells #[.int .i64 v] 3)).heap.size) := Lib.hid (Nat.le_trans HI.out.2.2.1.size HAX.out.size)
            have hdm : decide ((0 : Int) ≤ ((0 : Nat) : Int) - 1) = false := by decide
            rw [show (((0 : Nat) : Int) - 1) = -1 by decide]
            clear hfl
            go_wp2_with (at_builtin; refine wpList_append_lies _ rfl _ _ _ rfl w1.heap.size 3 i0 _ 1 8 Tryz.underlying39 hi hz0 hz1 hz2 rfl (by omega) (.slice A2 i c2) i (zc F) rfl HOX2.out ⟨wz.heap.size, 0, none⟩ 1 1 [.int .i64 v] rfl rfl HN10.out HC10.out (by omega) (by unfold maxLen; omega) (by omega) HZ10.out (wz.heap.size + 1) (by simp) ?_; intro g7 c7 w7 hown7 hgrow7 hat7 hlt7; have HK7 := Lib.hid (And.intro hown7 hgrow7); clear hown7 hgrow7 hat7 hlt7)
            have HNX : Hid ((F ++ [v]).length = i + 1 ∧ OwnZ w7 w1.heap.size (.slice (some ⟨g7, 0, none⟩) (i + 1) c7) (F ++ [v]) ∧ Below w1.heap.size w1 w7 ∧ ∀ x, x < i + 1 → FsP E st h x 0 ((F ++ [v]).getD x 0)) := Lib.hid (by
              have hfl : F.length = i := HI.out.1
              refine ⟨by rw [List.length_append, hfl]; rfl, ?_, ?_, fun x hx => ?_⟩
              · unfold OwnZ zc
                rw [List.length_append, hfl, List.map_append]
                exact HK7.out.1
              · exact (HI.out.2.2.1.trans (HAX.out.mono HI.out.2.2.1.size)).trans (Below.grown (Below.refl _ _) HK7.out.2 HZ10.out (fun k hk => (World.ownsRow.lt HOX2.out k hk).1))
              · by_cases e : x = i
                · rw [e, ← hfl, show (F ++ [v]).getD F.length 0 = v by simp [List.getD]]
                  rw [hfl]
                  exact HFE.out
                · have : (F ++ [v]).getD x 0 = F.getD x 0 := by simp [List.getD, List.getElem?_append_left (show x < F.length by omega)]
                  rw [this]
                  exact HI.out.2.2.2 x (by omega))
            go_roundw
            case rel =>
              first
              | exact ⟨i + 1, F ++ [v], _, c7, by omega, rfl, by go_num, HNX⟩
              | ((repeat apply Exists.intro); exact ⟨⟨i + 1, F ++ [v], _, c7, by omega, rfl, by go_num, HNX⟩, rfl⟩)
            case measure => simp [intOf]; omega
          · obtain ⟨m', rfl⟩ : ∃ m', m = m' + 1 := ⟨m - 1, by omega⟩
            rw [show (((m' + 1 : Nat) : Int) - 1) = (m' : Int) by omega]
            have hmn : m' < hn := by omega
            have hmI : (m' : Int) < (hn : Int) := by omega
            have hm0' : (0 : Int) ≤ (m' : Int) := by omega
            have hmh : m' < h + 1 := by rw [← HHN.out]; exact hmn
            have HRW := Lib.hid ((HAL.out.later HI.out.2.2.1).rows m' (by rw [HGL.out]; exact hmh))
            have y1 := (HI.out.2.2.1.cell (p := ⟨g, m', none⟩) HG3.out).trans (HGC.out m' hmn)
            unfold rowV at y1
            have y2 : wz.cell? ⟨G.getD m' 0, i, none⟩ = some (.bool ((LY E m').getD i false)) := (HRW.out.2 i hin).1
            have hw1 : IntKind.i64.wrap (st + (m' : Int)) = st + (m' : Int) := IntWalk.i64_in _ (by omega)
            have hw2 : IntKind.i64.wrap ((m' : Int) - 1) = (m' : Int) - 1 := IntWalk.i64_in _ (by omega)
            clear hm0
            cases hly : (LY E m').getD i false with
            | true =>
              rw [hly] at y2
              have HN : Hid (FsP E st h i m' (st + (m' : Int)) ∧ wz = wz) := Lib.hid ⟨FsP.yes (v := v) (by omega) hly, rfl⟩
              clear hly
              generalize G.getD m' 0 = gm at *
              go_wp2_with fail
              go_roundw
              case rel => exact ⟨m', _, by omega, rfl, rfl, Lib.hid ⟨HN.out.1, trivial⟩⟩
              case measure => first | (simp [intOf]; omega) | simp [intOf]
            | false =>
              rw [hly] at y2
              have HN : Hid (FsP E st h i m' v ∧ wz = wz) := Lib.hid ⟨HF.out.1.no hly, rfl⟩
              clear hly
              generalize G.getD m' 0 = gm at *
              go_wp2_with fail
              go_roundw
              case rel => exact ⟨m', v, by omega, rfl, rfl, Lib.hid ⟨HN.out.1, trivial⟩⟩
              case measure => first | (simp [intOf]; omega) | simp [intOf]
      · have hin' : i = n := by omega
        have HEND : Hid (SoonIs W H s fr st (h : Int) T F) := Lib.hid (.inl ⟨HRc.out, by rw [HI.out.1, hin', HNS.out], fun x hx => by
          have := (HI.out.2.2.2 x (by rw [hin', HNS.out]; exact hx))
          rw [HE.out] at this
          have hk := HEK.out
          rw [HE.out] at hk
          exact FsP.isSn hk hx this⟩)
        go_wp2_with fail
        go_ret
        refine ⟨A2, i, c2, F, rfl, HI.out.1.symm, (HI.out.2.1).il.2, HB1.out.trans (HI.out.2.2.1.mono HB1.out.size), HEND.out, by omega⟩
  · have HRc := Lib.hid hRc
    have HB1 := Lib.hid (HB0.out.trans (hb1.mono HB0.out.size))
    clear hRc hb1
    go_wp2_with fail
    go_ret
    exact ⟨none, 0, 0, [], rfl, rfl, Il.empty _ _ _, HB1.out, .inr ⟨HRc.out, rfl⟩, Nat.zero_le _⟩
theorem SoonIs.uniq {W H : Int} {s : ByteArray} {c t0 ahead : Int} {T : Int → List (Int × Int)} {F F' : List Int} (h : SoonIs W H s c t0 ahead T F) (k : SoonIs W H s c t0 ahead T F') : F = F' := by
  rcases h with ⟨h1, h2, h3⟩ | ⟨h1, rfl⟩ <;> rcases k with ⟨k1, k2, k3⟩ | ⟨k1, rfl⟩
  · have h0 : (0 : Int) ≤ (envOf W.toNat H.toNat c.toNat s t0 T).t0 := h1.1.2.1
    apply List.ext_getElem (by omega)
    intro i q1 q2
    have e := IsSn.uniq h0 (h3 i (by omega)) (k3 i (by omega))
    rw [List.getD, List.getD, List.getElem?_eq_getElem q1, List.getElem?_eq_getElem q2] at e
    exact e
  · exact absurd h1 k1
  · exact absurd k1 h1
  · rfl
/-! ### What the laws need besides -/
def SameA7 (n m : Nat) (f g : Nat → Int) : Prop := n = m ∧ ∀ j, j < n → f j = g j
set_option maxHeartbeats 2000000 in
theorem same7i_any (a b : Option Addr) (n m c d B1 B2 : Nat) (f g : Nat → Int) (w : World) (hx : Il B1 w a n c f) (hy : Il B2 w b m d g) (h1 : B1 ≤ w.heap.size) (h2 : B2 ≤ w.heap.size) (hl : n ≤ 1048576) (hl2 : m ≤ 1048576) :
    Calls Tryz.prog 10 #[.slice a n c, .slice b m d] w (Told (SameA7 n m f g) w) := by
  have HX := Lib.hid (hx.raise h1)
  have HY := Lib.hid (hy.raise h2)
  clear hx hy h1 h2
  by_cases hnm : n = m
  · subst hnm
    go_enter Tryz.func10, Tryz.ntmps10
    go_wp2_with fail
    go_loopw [5] (fun iv wr => ∃ k : Nat, k ≤ n ∧ iv = .int .i64 (k : Int) ∧ Below w.heap.size w wr ∧ ∀ j, j < k → f j = g j) (fun iv _ => n - (intOf iv).toNat)
    case atStart => exact ⟨0, Nat.zero_le _, rfl, Below.refl _ _, fun j hj => by omega⟩
    case round =>
      rename World => wr
      obtain ⟨k, hk, rfl, hB, hJ⟩ := hrel
      have HB := Lib.hid hB
      have HJ := Lib.hid hJ
      clear hB hJ
      by_cases hlt : k < n
      · obtain ⟨g1, o1, rfl, _, hc⟩ := (HX.out.below HB.out).cell (by omega)
        obtain ⟨g2, o2, rfl, _, hc2⟩ := (HY.out.below HB.out).cell (by omega)
        have q1 := hc k hlt
        have q2 := hc2 k hlt
        obtain ⟨x, hxq⟩ : ∃ x, x = f k := ⟨_, rfl⟩
        obtain ⟨y, hyq⟩ : ∃ y, y = g k := ⟨_, rfl⟩
        rw [← hxq] at q1
        rw [← hyq] at q2
        have HXQ := Lib.hid hxq
        have HYQ := Lib.hid hyq
        clear hxq hyq hc hc2
        by_cases he : x = y
        · have hb : (x != y) = false := by rw [bne_eq_false_iff_eq]; exact he
          have HE := Lib.hid he
          clear he
          go_wp2_with fail
          go_big_quiet (fail)
          go_wp2_with fail
          go_roundw
          case rel => exact ⟨k + 1, by omega, by go_num, HB.out.trans (below_drewN _ _ _), fun j hj => by
            rcases Nat.lt_succ_iff_lt_or_eq.1 hj with h | h
            · exact HJ.out j h
            · subst h; rw [← HXQ.out, ← HYQ.out]; exact HE.out⟩
          case measure => simp [intOf]; omega
        · have hb : (x != y) = true := by rw [bne_iff_ne]; exact he
          have HE := Lib.hid he
          clear he
          go_wp2_with fail
          go_big_quiet (fail)
          go_wp2_with fail
          go_ret
          exact ⟨false, rfl, iff_of_false (by decide) (fun e => HE.out (by rw [HXQ.out, HYQ.out]; exact e.2 k hlt)), HB.out.trans (below_drewN _ _ _)⟩
      · obtain rfl : k = n := by omega
        go_wp2_with fail
        go_ret
        exact ⟨true, rfl, iff_of_true rfl ⟨rfl, HJ.out⟩, HB.out⟩
  · have hb : ((n : Int) != (m : Int)) = true := by rw [bne_iff_ne]; omega
    have HE := Lib.hid hnm
    clear hnm
    go_enter Tryz.func10, Tryz.ntmps10
    go_wp2_with fail
    go_ret
    exact ⟨false, rfl, iff_of_false (by decide) (fun e => HE.out e.1), Below.refl _ _⟩

/-- The case's box, and all that was there before. -/
structure Cx8 (w : World) (W H : Int) (s : ByteArray) (A : Option Addr) (n cap : Nat) (fr tz st ah : Int) (w' : World) : Prop where
  box : Cb w.heap.size W H s A n cap fr tz st ah w'
  below : Below w.heap.size w w'
theorem Cx8.after {w w1 w2 : World} {W H : Int} {s : ByteArray} {A : Option Addr} {n cap : Nat} {fr tz st ah : Int} (h : Cx8 w W H s A n cap fr tz st ah w1) (hb : Below w1.heap.size w1 w2) : Cx8 w W H s A n cap fr tz st ah w2 :=
  ⟨h.box.later hb, h.below.trans (hb.mono h.below.size)⟩
theorem Cx8.start (w : World) (W H : Int) (s : ByteArray) (A : Option Addr) (n cap : Nat) (fr tz st ah : Int) : Cx8 w W H s A n cap fr tz st ah (w.alloc (.cells #[.int .i64 W, .int .i64 H, .string s, .slice A n cap, .int .i64 fr, .int .i64 tz, .int .i64 st, .int .i64 ah] 26)) :=
  ⟨Cb.new w W H s A n cap fr tz st ah, (Below.refl _ _).alloc (Nat.le_refl _) _⟩
theorem two_all8 {w0 wr : World} {tb rb j : Nat} (h : Two7 w0 tb rb j wr) : ∃ tN mv T tg A c R, Tk wr tb tb tN mv T tg ∧ RT wr rb A c R ∧ (∀ y, tkn R y = T y) ∧ (∀ y, Ordw 0 (T y)) ∧ ∀ y, (T y).length ≤ 2000 := by
  obtain ⟨tN, mv, T, tg, A, c, R, h1, h2, h3, h4, h5⟩ := h.ex
  exact ⟨tN, mv, T, tg, A, c, R, h1, h3, h5, h1.ord, fun y => by have := h1.tab.small y; have h6 := h1.few; omega⟩
theorem soon_same {W H : Int} {s : ByteArray} {c t0 ahead : Int} {T : Int → List (Int × Int)} {F F' : List Int} {n n' : Nat} (hn : n = F.length) (h : SoonIs W H s c t0 ahead T F) (hn' : n' = F'.length) (k : SoonIs W H s c t0 ahead T F') : SameA7 n n' (fun j => F.getD j 0) (fun j => F'.getD j 0) := by
  obtain rfl := h.uniq k
  exact ⟨by omega, fun j hj => rfl⟩
end Sp
end Go.Proofs.YtcdclghmebgpnaaGreatDoor
end
