/-
  Layer 7: the search (spread).
  Layer 7: the search (spread): the walk.
  Layer 7: a ground is made (stands, right, groundOf).
-/
import Derived.Test.YtcdclghmebgpnaaGreatDoorSpTwo
import Derived.Deep.CutBlock
set_option linter.unusedVariables false
set_option maxRecDepth 100000
section
namespace Go.Proofs.YtcdclghmebgpnaaGreatDoor
namespace Sp
open Go.RowKit Fl Pt E
open Wn (Tab TF frees isT Ordw IW Wt Wow Bk wcl plc Rising)

/-- An item's box. -/
def Bx (D : Nat) (x y : Int) (w : World) : Prop := w.heap[D]? = some (.cells #[.int .i64 x, .int .i64 y] 137 (0, 0))
theorem Bx.cells {D : Nat} {x y : Int} {w : World} (h : Bx D x y w) : w.cell? ⟨D, 0, none⟩ = some (.int .i64 x) ∧ w.cell? ⟨D, 1, none⟩ = some (.int .i64 y) ∧ w.frozen? ⟨D, 0, none⟩ = false ∧ w.frozen? ⟨D, 1, none⟩ = false ∧ D < w.heap.size :=
  ⟨by rw [cell_of_row w D 0 _ _ _ h]; rfl, by rw [cell_of_row w D 1 _ _ _ h]; rfl, frozen_of_row w D 0 _ _ h, frozen_of_row w D 1 _ _ h, lt_of_heap h⟩
theorem Bx.new (w : World) (x y : Int) : Bx w.heap.size x y (w.alloc (.cells #[.int .i64 x, .int .i64 y] 137)) := heap_alloc_new w _
theorem Bx.both {D : Nat} {x y : Int} {p : Pm} {w w' : World} (h : Bx D x y w) (hk : Both7 p w w') : Bx D x y w' := hk.kept D _ h (notW_cells (by decide) (by decide) (by decide)) (notHp_cells (by decide) (by decide))
theorem Bx.put {D : Nat} {x y : Int} {w : World} (h : Bx D x y w) (x' y' : Int) : Bx D x' y' ((w.setCell ⟨D, 0, none⟩ (.int .i64 x')).setCell ⟨D, 1, none⟩ (.int .i64 y')) := by
  have h1 := heap_setCell_same w D 0 _ _ (.int .i64 x') h
  have h2 := heap_setCell_same _ D 1 _ _ (.int .i64 y') h1
  unfold Bx
  rw [h2]
  simp
theorem Lk.both {A : Option Addr} {n cap : Nat} {xs : List Nat} {p : Pm} {w w' : World} (h : Lk A n cap xs w) (hk : Both7 p w w') : Lk A n cap xs w' := by
  rcases h with h | ⟨g, h1, h2, h3⟩
  · exact .inl h
  · refine .inr ⟨g, h1, h2, h3.same hk.below.size ?_⟩
    obtain ⟨cs, fz, h4⟩ := h3.kind
    rw [h4]
    exact hk.kept g _ h4 (notW_cells (by decide) (by decide) (by decide)) (notHp_cells (by decide) (by decide))
/-- Something else is written: a block of another kind. -/
theorem Sr.put {p : Pm} {last cur : Int} {hb n : Nat} {pn : List (Nat × Nat)} {S : Nat → Nat → Int} {M : List E} {Hd : Nat → Nat → Prop} {wr : World} (h : Sr p last hb pn S M n cur Hd wr) {D x' : Nat} {x y : Int} (hx : Bx D x y wr) (hD : p.B ≤ D) (v : Value) : Sr p last hb pn S M n cur Hd (wr.setCell ⟨D, x', none⟩ v) := by
  obtain ⟨nv, sv, h1, h2⟩ := h.gr
  obtain ⟨u, h3⟩ := h.hp
  have hB : Below p.B wr (wr.setCell ⟨D, x', none⟩ v) := (Below.refl _ _).setCell (p := ⟨D, x', none⟩) hD _
  have hk : ∀ (k : Nat) (o : Obj), wr.heap[k]? = some o → k ≠ D → (wr.setCell ⟨D, x', none⟩ v).heap[k]? = some o := fun k o hk e => by
    rw [Below.heap_setCell _ _ _ _ (show k ≠ (⟨D, x', none⟩ : Addr).block from e)]; exact hk
  refine ⟨⟨nv, sv, h1.same hB (fun k o hko hg => hk k o hko ?_), h2⟩, ⟨u, h3.same fun k hf => ?_⟩, h.lo, h.sv, h.cnt, h.nat⟩
  · rintro rfl
    obtain ⟨cs, e, fz, ho, ht⟩ := hg
    unfold Bx at hx
    rw [hko, ho] at hx
    injection hx with hx
    injection hx with _ hx _
    rw [hx] at ht
    revert ht
    decide
  · have hne : k ≠ D := by
      rintro rfl
      obtain ⟨cs, fz, e⟩ := HAt.isHp h3 k _ hx hf
      rcases e with e | e <;> (injection e with _ e _; revert e; decide)
    exact Below.heap_setCell _ _ _ _ (show k ≠ (⟨D, x', none⟩ : Addr).block from hne)
/-- An item is stored in its box. -/
theorem Sr.store {p : Pm} {last cur : Int} {hb n : Nat} {pn : List (Nat × Nat)} {S : Nat → Nat → Int} {M : List E} {Hd : Nat → Nat → Prop} {wr : World} (h : Sr p last hb pn S M n cur Hd wr) {D : Nat} {x y : Int} (hx : Bx D x y wr) (hD : p.B ≤ D) (x' y' : Int) :
    Sr p last hb pn S M n cur Hd ((wr.setCell ⟨D, 0, none⟩ (.int .i64 x')).setCell ⟨D, 1, none⟩ (.int .i64 y')) ∧ Bx D x' y' ((wr.setCell ⟨D, 0, none⟩ (.int .i64 x')).setCell ⟨D, 1, none⟩ (.int .i64 y')) ∧ Below p.B wr ((wr.setCell ⟨D, 0, none⟩ (.int .i64 x')).setCell ⟨D, 1, none⟩ (.int .i64 y')) := by
  have h1 : Bx D x' y (wr.setCell ⟨D, 0, none⟩ (.int .i64 x')) := by
    have := heap_setCell_same wr D 0 _ _ (.int .i64 x') hx
    unfold Bx
    rw [this]; simp
  exact ⟨(h.put hx hD _).put h1 hD _, hx.put x' y', ((Below.refl _ _).setCell (p := ⟨D, 0, none⟩) hD _).setCell (p := ⟨D, 1, none⟩) hD _⟩
/-- The next one is taken out of the heap. -/
theorem Sr.popped {p : Pm} {last cur : Int} {hb n : Nat} {pn : List (Nat × Nat)} {S : Nat → Nat → Int} {m : E} {M : List E} {wr w' : World} {v v' : Value} (h : Sr p last hb pn S (m :: M) n cur (fun _ _ => False) wr) (hv : HAt wr hb v (m :: M) n) (hh : HAt w' hb v' M n) (ht : Turn (HF hb v) (HF hb v') wr w') :
    ∃ c k, m.v = ((c : Nat) : Int) ∧ At (p.O c) k m.k ∧ c < p.s.size ∧ S c k = m.k ∧ m.k ≤ last ∧ S c k ≠ 1048576 ∧ Sr p last hb pn S M n m.k (fun b i => b = c ∧ i = k) w' ∧ Both7 p wr w' := by
  obtain ⟨c, hc⟩ := h.nat m (List.mem_cons_self ..)
  have hP : P7 (m :: M) m.k c := ⟨m, List.mem_cons_self .., rfl, hc⟩
  obtain ⟨k, k1, k2, k3, k4, k5⟩ := h.sv.stands hP
  obtain ⟨nv, sv, g1, g2⟩ := h.gr
  obtain ⟨t1, t2⟩ := turn_both hv h.lo h.size ht
  refine ⟨c, k, hc, k1, k2, k3, k4, k5, ⟨⟨nv, sv, g1.heap t1.below t2, g2⟩, ⟨v', hh⟩, h.lo, ?_, h.cnt, fun e he => h.nat e (List.mem_cons_of_mem _ he)⟩, t1⟩
  refine h.sv.pop h.fit.ok k1 k2 k3 hP (HAt.least hv) ?_ ?_
  · rintro y d ⟨e, he, e1, e2⟩
    exact ⟨e, List.mem_cons_of_mem _ he, e1, e2⟩
  · rintro y d ⟨e, he, e1, e2⟩
    rcases List.mem_cons.1 he with rfl | he
    · exact .inr ⟨e1.symm, by rw [hc] at e2; omega⟩
    · exact .inl ⟨e, he, e1, e2⟩
/-- Nothing waits. -/
theorem Sr.nothing {p : Pm} {last cur : Int} {hb n : Nat} {pn : List (Nat × Nat)} {S : Nat → Nat → Int} {wr w' : World} {v v' : Value} (h : Sr p last hb pn S [] n cur (fun _ _ => False) wr) (hv : HAt wr hb v [] n) (hh : HAt w' hb v' [] n) (ht : Turn (HF hb v) (HF hb v') wr w') :
    Sr p last hb pn S [] n cur (fun _ _ => False) w' ∧ Both7 p wr w' := by
  obtain ⟨nv, sv, g1, g2⟩ := h.gr
  obtain ⟨t1, t2⟩ := turn_both hv h.lo h.size ht
  exact ⟨⟨⟨nv, sv, g1.heap t1.below t2, g2⟩, ⟨v', hh⟩, h.lo, h.sv, h.cnt, h.nat⟩, t1⟩
theorem Sr.unpin {p : Pm} {last cur : Int} {hb n : Nat} {pn : List (Nat × Nat)} {S : Nat → Nat → Int} {M : List E} {Hd : Nat → Nat → Prop} {wr : World} (h : Sr p last hb pn S M n cur Hd wr) : Sr p last hb [] S M n cur Hd wr := by
  obtain ⟨nv, sv, g1, g2⟩ := h.gr
  exact ⟨⟨nv, sv, g1, fun q hq => by cases hq⟩, h.hp, h.lo, h.sv, h.cnt, h.nat⟩
/-- All was gone from. -/
theorem Sr.left {p : Pm} {last x : Int} {hb n : Nat} {pn : List (Nat × Nat)} {S : Nat → Nat → Int} {M : List E} {wr : World} {c k : Nat} (h : Sr p last hb pn S M n x (fun b i => b = c ∧ i = k) wr) (hS : S c k = x) (hg : ∀ d, d ∈ p.nx c → ∀ j, j < (p.O d).length → Gone p.env last S x c k d j) :
    Sr p last hb [] S M n x (fun _ _ => False) wr := by
  obtain ⟨nv, sv, g1, g2⟩ := h.gr
  refine ⟨⟨nv, sv, g1, fun q hq => by cases hq⟩, h.hp, h.lo, h.sv.left hS (fun hl d hd j hj => hg d ?_ j hj), h.cnt, h.nat⟩
  have hl : p.lv c = true := hl
  unfold Pm.nx
  rw [if_pos hl]
  exact hd
/-- At the head of a round: an item that was taken out, and whether there is one. -/
def Outer7 (p : Pm) (last : Int) (hb : Nat) (w0 : World) (D : Nat) (bt : Bool) (gg : Nat) (wr : World) : Prop :=
  ∃ x y, Bx D x y wr ∧ p.B ≤ D ∧ Below p.B w0 wr ∧ ((bt = true ∧ ∃ S M n c k, y = ((c : Nat) : Int) ∧ At (p.O c) k x ∧ c < p.s.size ∧ S c k = x ∧ x ≤ last ∧ Sr p last hb [] S M n x (fun b i => b = c ∧ i = k) wr ∧ M.length ≤ n ∧ 600000 + M.length + 1 - n ≤ gg) ∨
    (bt = false ∧ ∃ S n cur, Sr p last hb [] S [] n cur (fun _ _ => False) wr))
/-- At the head of a round over what is near. -/
def Inner7 (p : Pm) (last : Int) (hb : Nat) (w0 : World) (D c k g : Nat) (x : Int) (A : Option Addr) (m cap : Nat) (G : Int) (j : Nat) (wr : World) : Prop :=
  Bx D x (c : Int) wr ∧ Below p.B w0 wr ∧ Lk A m cap (p.nx c) wr ∧ ∃ S M n, Sr p last hb [(c, g)] S M n x (fun b i => b = c ∧ i = k) wr ∧ S c k = x ∧ (∀ i, i < j → i < m → ∀ b, b < (p.O ((p.nx c).getD i 0)).length → Gone p.env last S x c k ((p.nx c).getD i 0) b) ∧ (M.length : Int) - n = G
def SpreadTold7 (p : Pm) (last : Int) (w : World) (e : Ending) (w' : World) : Prop :=
  e = .returned (.tuple #[]) ∧ ∃ nv sv S, Gr p nv sv S w' ∧ Done p.env last S ∧ Below p.B w w'
theorem sr_start {p : Pm} {last : Int} {hb g k : Nat} {nv sv : Nat → Value} {w w' : World} {v v' : Value} (hg : Gr p nv sv (fun _ _ => 1048576) w) (hq : sv p.a = .slice (some ⟨g, 0, none⟩) (p.O p.a).length (p.O p.a).length) (hk : At (p.O p.a) k p.t0) (hlo : p.B ≤ hb) (hl : p.t0 ≤ last)
    (hv : HAt (w.setCell ⟨g, k * 3 + 2, none⟩ (.int .i64 p.t0)) hb v [] 0) (hh : HAt w' hb v' (ins ⟨p.t0, (p.a : Int), 0⟩ []) 1) (ht : Turn (HF hb v) (HF hb v') (w.setCell ⟨g, k * 3 + 2, none⟩ (.int .i64 p.t0)) w') :
    Sr p last hb [] (put (fun _ _ => 1048576) p.a k p.t0) (ins ⟨p.t0, (p.a : Int), 0⟩ []) 1 p.t0 (fun _ _ => False) w' ∧ Below p.B w w' := by
  have hF := hg.fit
  have g3 := hg.since hF.on hk.1 hq p.t0
  have hB1 := below_set (B := p.B) w (g := g) (x := k * 3 + 2) (v := .int .i64 p.t0) (by
    rcases hg.sm p.a hF.on with ⟨e, _⟩ | ⟨g', e, e2, _⟩
    · rw [hq] at e; exact absurd e nil7_slice
    · rw [hq] at e
      obtain rfl : g = g' := by simpa [Value.ownBlock] using congrArg Value.ownBlock e
      exact e2)
  have hsz : p.B ≤ (w.setCell ⟨g, k * 3 + 2, none⟩ (.int .i64 p.t0)).heap.size := by rw [set_size]; exact hg.tlt
  obtain ⟨t1, t2⟩ := turn_both hv hlo hsz ht
  have hsv := Sv.start hF.ok hl hk
  have hP : (fun x c => x = p.env.t0 ∧ c = p.env.a) = P7 (ins ⟨p.t0, (p.a : Int), 0⟩ []) := by
    funext x c
    apply propext
    constructor
    · rintro ⟨rfl, rfl⟩
      exact ⟨_, List.mem_cons_self .., rfl, rfl⟩
    · rintro ⟨e, he, rfl, e2⟩
      obtain rfl : e = ⟨p.t0, (p.a : Int), 0⟩ := by simpa [ins] using he
      exact ⟨rfl, by have : (p.a : Int) = (c : Int) := e2; show c = p.a; omega⟩
  rw [hP] at hsv
  have hun := un_put (e := p.env) (S := fun _ _ => 1048576) (d := p.a) (j := k) (val := p.t0) hF.on hk.1 rfl (by have := hF.t0; omega)
  have hul := un_le (e := p.env) (B := 2002) (fun _ _ => 1048576) (fun c _ => hF.olen c)
  have hn := hF.n256.1
  refine ⟨⟨⟨nv, sv, g3.heap t1.below t2, fun q hq => by cases hq⟩, ⟨v', hh⟩, hlo, hsv, ?_, ?_⟩, hB1.trans t1.below⟩
  · have : p.env.N ≤ 256 := hn
    have h2 : p.env.N * 2002 ≤ 256 * 2002 := Nat.mul_le_mul_right _ this
    omega
  · intro e he
    obtain rfl : e = ⟨p.t0, (p.a : Int), 0⟩ := by simpa [ins] using he
    exact ⟨p.a, rfl⟩
end Sp
end Go.Proofs.YtcdclghmebgpnaaGreatDoor
end

section
namespace Go.Proofs.YtcdclghmebgpnaaGreatDoor
namespace Sp
open Go.RowKit Fl Pt E
open Wn (Tab TF frees isT Ordw IW Wt Wow Bk wcl plc Rising)

theorem since_kept {w3 : World} {G g k : Nat} (l : G ≠ g) {v1 v2 : Value} (h1 : w3.cell? ⟨G, 4, none⟩ = some v1) (h2 : w3.cell? ⟨G, 5, none⟩ = some v2) {v6 : Value} (h6 : w3.cell? ⟨g, k * 3 + 2, none⟩ = some v6) (h7 : w3.frozen? ⟨g, k * 3 + 2, none⟩ = false) (u : Value) :
    (w3.setCell ⟨g, k * 3 + 2, none⟩ u).cell? ⟨G, 4, none⟩ = some v1 ∧ (w3.setCell ⟨g, k * 3 + 2, none⟩ u).cell? ⟨G, 5, none⟩ = some v2 := by
  have hne : ∀ o, (⟨g, k * 3 + 2, none⟩ : Addr) ≠ ⟨G, o, none⟩ := fun o e => l (congrArg Addr.block e).symm
  exact ⟨by rw [World.cell?_setCell_other (h := hne 4)]; exact h1, by rw [World.cell?_setCell_other (h := hne 5)]; exact h2⟩
theorem pop7_any {p : Pm} {last cur : Int} {hb n : Nat} {S : Nat → Nat → Int} {m : E} {M : List E} {w : World} (h : Sr p last hb [] S (m :: M) n cur (fun _ _ => False) w) :
    Calls Tryz.prog 66 #[.pointer (some ⟨hb, 0, none⟩)] w fun e w' => ∃ c k : Nat, e = .returned (.tuple #[.agg #[.int .i64 m.k, .int .i64 (c : Int)], .bool true]) ∧ At (p.O c) k m.k ∧ c < p.s.size ∧ S c k = m.k ∧ m.k ≤ last ∧ S c k ≠ 1048576 ∧ Sr p last hb [] S M n m.k (fun b i => b = c ∧ i = k) w' ∧ Both7 p w w' ∧ M.length + 1 ≤ n := by
  obtain ⟨v, hv⟩ := h.hp
  refine (pop_any hb v _ n _ hv).mono ?_
  rintro e w' ⟨rfl, v', hh, ht⟩
  obtain ⟨c, k, h1, h2, h3, h4, h5, h6, h7, h8⟩ := h.popped hv hh ht
  have := hv.few.1
  exact ⟨c, k, by show Ending.returned (.tuple #[.agg #[.int .i64 m.k, .int .i64 m.v], .bool true]) = _; rw [h1], h2, h3, h4, h5, h6, h7, h8, by simpa using this⟩
theorem pop7_end {p : Pm} {last cur : Int} {hb n : Nat} {S : Nat → Nat → Int} {w : World} (h : Sr p last hb [] S [] n cur (fun _ _ => False) w) :
    Calls Tryz.prog 66 #[.pointer (some ⟨hb, 0, none⟩)] w fun e w' => e = .returned (.tuple #[.agg #[.int .i64 0, .int .i64 0], .bool false]) ∧ Sr p last hb [] S [] n cur (fun _ _ => False) w' ∧ Both7 p w w' := by
  obtain ⟨v, hv⟩ := h.hp
  refine (pop_any hb v _ n _ hv).mono ?_
  rintro e w' ⟨rfl, v', hh, ht⟩
  obtain ⟨h1, h2⟩ := h.nothing hv hh ht
  exact ⟨rfl, h1, h2⟩
set_option maxHeartbeats 8000000 in
theorem spread7_any {p : Pm} {nv sv : Nat → Value} {w : World} (h : Gr p nv sv (fun _ _ => 1048576) w) {last : Int} (hl : p.t0 ≤ last ∧ last ≤ 2000000) :
    Calls Tryz.prog 56 #[.pointer (some ⟨p.gb, 0, none⟩), .int .i64 last] w (SpreadTold7 p last w) := by
  have hF := h.fit
  have ht0 := hF.t0
  have HFT := Lib.hid hF
  have HG := Lib.hid h
  have hBw := h.tlt
  clear h
  go_enter Tryz.func56, Tryz.ntmps56
  go_wp2_with fail
  refine (new_any _).mono ?_
  rintro e w1 ⟨rfl, hH, hB1, hlt1⟩
  have HH := Lib.hid hH
  have HG1 := Lib.hid (HG.out.later hB1)
  have HB1 := Lib.hid (hB1.mono hBw)
  have k4 := HG1.out.g4
  have k5 := HG1.out.g5
  have HST := Lib.hid (stayAt_any (HG1.out.drew) HFT.out.on p.t0)
  clear hH hB1 hlt1
  go_wp2_with fail
  go_region_held3 (fun w' => w'.cell? ⟨p.gb, 4, none⟩ = some (.int .i64 (p.a : Int)) ∧ w'.cell? ⟨p.gb, 5, none⟩ = some (.int .i64 p.t0)) (first | exact since_kept hgn k4 k5 r2 r3 _ | go_keep)
    ((first
      | (go_at_call 80; refine HST.out.mono ?_; rintro e w2 ⟨sv2, hg2, hw2, hkp2, ⟨k, g, hat, hsv, rfl⟩ | ⟨hno, rfl⟩⟩; rotate_left; exact absurd ⟨0, HFT.out.first⟩ hno; have HG2 := Lib.hid hg2; have HW2 := Lib.hid hw2; have HAT := Lib.hid hat; have HSV := Lib.hid hsv; have hst2 := hg2.sts HFT.out.on hsv; have r2 := (hst2.at hat.1).2.2.1; have r3 := (hst2.at hat.1).2.2.2; have hgn : p.gb ≠ g := ne_kind ⟨_, _, hg2.box⟩ hst2.kind (by decide); clear hg2 hw2 hkp2 hat hsv hst2; have k4 := HG2.out.g4; have k5 := HG2.out.g5)))
  obtain ⟨v0, hv0⟩ : ∃ v0, HAt (w2.setCell ⟨g, k * 3 + 2, none⟩ (.int .i64 p.t0)) w.heap.size v0 [] 0 := by
    obtain ⟨cs, fz, hkd⟩ := (HG2.out.sts HFT.out.on HSV.out).kind
    exact ⟨_, HAt.went (HAt.went (HH.out.below (Below.refl _ _).drew) HW2.out.kept) (KeptG.set ⟨cs, fz, .inr (.inr hkd)⟩)⟩
  have HV0 := Lib.hid hv0
  have k4' := (since_kept hgn k4 k5 r2 r3 (.int .i64 p.t0)).1
  have k5' := (since_kept hgn k4 k5 r2 r3 (.int .i64 p.t0)).2
  have HP := Lib.hid (push_any w.heap.size v0 [] 0 p.t0 (p.a : Int) (w2.setCell ⟨g, k * 3 + 2, none⟩ (.int .i64 p.t0)).drew (HV0.out.below (Below.refl _ _).drew) (by decide))
  have HSR : Hid (∀ w' v', HAt w' w.heap.size v' (ins ⟨p.t0, (p.a : Int), 0⟩ []) 1 → Turn (HF w.heap.size v0) (HF w.heap.size v') (w2.setCell ⟨g, k * 3 + 2, none⟩ (.int .i64 p.t0)).drew w' → Sr p last w.heap.size [] (put (fun _ _ => 1048576) p.a k p.t0) [⟨p.t0, (p.a : Int), 0⟩] 1 p.t0 (fun _ _ => False) w' ∧ Below p.B w w') := Lib.hid (fun w' v' hh ht => by
    obtain ⟨q1, q2⟩ := sr_start (HG2.out.drew) HSV.out HAT.out hBw hl.1 (HV0.out.below (Below.refl _ _).drew) hh ht
    exact ⟨q1, (((HB1.out.drew).trans HW2.out.below).trans ((Below.refl p.B w2).drew)).trans q2⟩)
  clear hv0 k4 k5 r2 r3 hgn
  generalize w2.setCell ⟨g, k * 3 + 2, none⟩ (.int .i64 p.t0) = w3 at *
  go_wp2_with fail
  go_region_held3 (fun w' => w'.cell? ⟨p.gb, 4, none⟩ = some (.int .i64 (p.a : Int)) ∧ w'.cell? ⟨p.gb, 5, none⟩ = some (.int .i64 p.t0)) (go_keep)
    ((first
      | (go_at_call 65; refine HP.out.mono ?_; rintro e w4 ⟨rfl, v4, hh4, ht4⟩; have HS4 := Lib.hid (HSR.out w4 v4 hh4 ht4); clear hh4 ht4; have k4' := HS4.out.1.gr.choose_spec.choose_spec.1.g4; have k5' := HS4.out.1.gr.choose_spec.choose_spec.1.g5)))
  clear k4' k5' HP HSR
  go_wp2_with fail
  refine (pop7_any HS4.out.1).mono ?_
  rintro e w5 ⟨c, k1, rfl, q1, q2, q3, q4, q5, q6, q7, q8⟩
  have HO5 : Hid (Outer7 p last w.heap.size w w5.heap.size true 600001 (w5.alloc (.cells #[.int .i64 p.t0, .int .i64 (c : Int)] 137))) := Lib.hid (by
    have hA := (Below.refl w5.heap.size w5).alloc (Nat.le_refl _) (.cells #[.int .i64 p.t0, .int .i64 (c : Int)] 137)
    have hs := q6.size
    exact ⟨_, _, Bx.new _ _ _, hs, (HS4.out.2.trans q7.below).trans (hA.mono hs), .inl ⟨rfl, _, _, _, c, k1, rfl, q1, q2, q3, q4, q6.later hA, Nat.zero_le _, by simp⟩⟩)
  clear q1 q2 q3 q4 q5 q6 q7 q8
  go_wp2_with fail
  go_loopg [5, 6] 600002 (fun gg s5 s6 wr => ∃ (D : Nat) (bt : Bool), s5 = .pointer (some ⟨D, 0, none⟩) ∧ s6 = .bool bt ∧ Hid (Outer7 p last w.heap.size w D bt gg wr))
  case atStart => exact ⟨w5.heap.size, true, rfl, rfl, Lib.hid (by
    obtain ⟨x, y, a1, a2, a3, a4 | a4⟩ := HO5.out
    · obtain ⟨e, S, M, n, c, k, b1, b2, b3, b4, b5, b6, b7, b8⟩ := a4
      exact ⟨x, y, a1, a2, a3, .inl ⟨e, S, M, n, c, k, b1, b2, b3, b4, b5, b6, b7, by omega⟩⟩
    · cases a4.1)⟩
  case round =>
    rename World => wr
    obtain ⟨D, bt, rfl, rfl, HO⟩ := hrel
    obtain ⟨x, y, hbx, hBD, hbl, ⟨rfl, S, M, n, c, k, rfl, q1, q2, q3, q4, q5, q6, q7⟩ | ⟨rfl, S, n, cur, q1⟩⟩ := HO.out
    · have HBX := Lib.hid hbx
      have HBD := Lib.hid hBD
      have HBL := Lib.hid hbl
      have HAT := Lib.hid q1
      have HSC := Lib.hid q3
      have HS := Lib.hid q5
      have HMN := Lib.hid (And.intro q6 q7)
      obtain ⟨i1, i2, _⟩ := hbx.cells
      have hx0 : 0 ≤ x ∧ x < 1048576 := by
        have h1 := (hF.sepO c).least k q1.1
        have h2 := q1.2.1
        have h3 := q1.2.2
        omega
      have HSI := Lib.hid (show ∀ nv sv, Gr p nv sv S wr → _ from fun nv sv hg => stayAt_any hg q2 x)
      clear hbx hBD hbl q1 q3 q4 q5 q6 q7 HO
      obtain ⟨nv6, sv6, g6, _⟩ := HS.out.gr
      have HSJ := Lib.hid (HSI.out nv6 sv6 g6)
      clear g6 HSI
      go_wp2_with fail
      refine HSJ.out.mono ?_
      rintro e w6 ⟨sv7, hg7, hw7, hkp7, ⟨k2, gc, hat2, hsv2, rfl⟩ | ⟨hno, rfl⟩⟩
      rotate_left
      · exact absurd ⟨k, HAT.out⟩ hno
      obtain rfl : k2 = k := hat2.uniq (hF.sepO c).seps HAT.out
      have HB6 := Lib.hid hw7.both
      have HS6 : Hid (Sr p last w.heap.size [(c, gc)] S M n x (fun b i => b = c ∧ i = k2) w6) := Lib.hid (HS.out.went hg7 hw7 (fun q hq => by
        obtain rfl := List.mem_singleton.1 hq
        exact hsv2))
      have HBX6 := Lib.hid (HBX.out.both HB6.out)
      obtain ⟨i1, i2, _⟩ := HBX6.out.cells
      have HNX := Lib.hid (next7_any hg7 q2)
      have HPI := Lib.hid hsv2
      clear hg7 hw7 hkp7 hat2 hsv2 HSJ
      go_wp2_with fail
      refine HNX.out.mono ?_
      rintro e w7 ⟨nv8, A, m, cap, rfl, hlk, hg8, hw8⟩
      have HLN := Lib.hid hlk.len
      have HMC : Hid (m ≤ cap ∧ cap ≤ maxLen) := Lib.hid ⟨hlk.il.1, hlk.il.2⟩
      have hm4 : m ≤ 256 := by
        have h1 := hlk.len
        have h2 : (p.nx c).length ≤ 4 := by
          unfold Pm.nx
          split
          · exact nr_len _ _ _ _
          · exact Nat.zero_le _
        omega
      have HIN : Hid (Inner7 p last w.heap.size w D c k2 gc x A m cap ((M.length : Int) - n) 0 w7) := Lib.hid ⟨HBX6.out.both hw8.both, (HBL.out.trans HB6.out.below).trans hw8.below, hlk, S, M, n, HS6.out.went hg8 hw8 (fun q hq => by
        obtain rfl := List.mem_singleton.1 hq
        exact HPI.out), HSC.out, fun i hi => by omega, rfl⟩
      clear hlk hg8 hw8 i1 i2
      go_wp2_with fail
      go_loopw [60] (fun iv wr => ∃ j : Nat, j ≤ m ∧ iv = .int .i64 (j : Int) ∧ Hid (Inner7 p last w.heap.size w D c k2 gc x A m cap ((M.length : Int) - n) j wr)) (fun iv _ => m - (intOf iv).toNat)
      case atStart => exact ⟨0, Nat.zero_le _, rfl, HIN⟩
      case round =>
        rename World => wi
        obtain ⟨j, hj, rfl, HK⟩ := hrel
        obtain ⟨a1, a2, a3, S3, M3, n3, a4, a5, a6, a7⟩ := HK.out
        have A1 := Lib.hid a1
        have A2 := Lib.hid a2
        have A3 := Lib.hid a3
        have A4 := Lib.hid a4
        have A5 := Lib.hid a5
        have A6 := Lib.hid a6
        have A7 := Lib.hid a7
        clear a1 a2 a3 a4 a5 a6 a7 HK
        by_cases hlt : j < m
        · obtain ⟨gl, off, e1, _, hcell⟩ := A3.out.il.cell (by omega)
          have hcx := hcell j hlt
          have hjI : (j : Int) < (m : Int) := by omega
          have hlvd : p.lv c = true ∧ (p.nx c).getD j 0 ∈ p.near c := by
            have hl := HLN.out
            unfold Pm.nx at hl ⊢
            cases hlv : p.lv c with
            | false => rw [hlv] at hl; simp at hl; omega
            | true =>
              rw [hlv, if_pos rfl] at hl
              rw [if_pos rfl]
              exact ⟨rfl, getD_mem (by omega)⟩
          have HEN := Lib.hid (enter_any A4.out (List.mem_cons_self ..) q2 HAT.out.1 A5.out hlvd.1 hlvd.2 hx0 (by omega))
          subst e1
          clear hcell hlvd
          generalize hd : (p.nx c).getD j 0 = d at *
          have HD := Lib.hid hd
          clear hd
          go_wp2_with fail
          refine HEN.out.mono ?_
          rintro e w9 ⟨rfl, S', M', n', hs9, hgr9, hgo9, hb9, hmn9⟩
          have HIN9 : Hid (Inner7 p last w.heap.size w D c k2 gc x (some ⟨gl, off, none⟩) m cap ((M.length : Int) - n) (j + 1) w9) := Lib.hid ⟨A1.out.both hb9, A2.out.trans hb9.below, A3.out.both hb9, S', M', n', hs9, by rw [hgr9.same (by rw [A5.out]; omega)]; exact A5.out, fun i hi him b hbl => by
            by_cases e : i = j
            · subst e
              rw [HD.out] at hbl ⊢
              exact hgo9 b hbl
            · exact hgr9.gone (A6.out i (by omega) him b hbl), by have := A7.out; omega⟩
          clear hs9 hgr9 hgo9 hb9 hmn9
          go_wp2_with fail
          go_roundw
          case rel => exact ⟨j + 1, by omega, by go_num, HIN9⟩
          case measure => simp [intOf]; omega
        · obtain rfl : j = m := by omega
          have HL := Lib.hid (A4.out.left A5.out (fun d hd b hbl => by
            obtain ⟨i, hi, rfl⟩ := List.getElem_of_mem hd
            have e : (p.nx c).getD i 0 = (p.nx c)[i] := by rw [List.getD, List.getElem?_eq_getElem hi]; rfl
            rw [← e] at hbl ⊢
            exact A6.out i (by rw [HLN.out]; exact hi) (by rw [HLN.out]; exact hi) b hbl))
          obtain ⟨i1, i2, _⟩ := A1.out.cells
          have HA := Lib.hid ((Below.refl wi.heap.size wi).alloc (Nat.le_refl _) (.cells #[.int .i64 x, .int .i64 (c : Int)] 137))
          have HL2 := Lib.hid (HL.out.later HA.out)
          have HB2 := Lib.hid (Bx.new wi x (c : Int))
          have HDB := Lib.hid (HL.out.size)
          have HBW := Lib.hid (A2.out.trans (HA.out.mono HL.out.size))
          have hfew := HL.out.few
          have ha7 := A7.out
          have hmn1 := HMN.out.1
          have hmn2 := HMN.out.2
          clear HL A1 A6 A4 HA
          cases M3 with
          | nil =>
            go_wp2_with fail
            refine (pop7_end HL2.out).mono ?_
            rintro e w9 ⟨rfl, hs9, hb9⟩
            obtain ⟨z1, z2, z3, z4, _⟩ := (HB2.out.both hb9).cells
            have HST := Lib.hid (hs9.store (HB2.out.both hb9) HDB.out 0 0)
            have HB9 := Lib.hid (HBW.out.trans hb9.below)
            clear hs9 hb9 i1 i2
            simp only [List.length_nil] at ha7
            go_wp2_with fail
            go_roundg (600000 - n3)
            case measure => omega
            case rel => exact ⟨_, false, rfl, rfl, Lib.hid ⟨0, 0, HST.out.2.1, HDB.out, HB9.out.trans HST.out.2.2, .inr ⟨rfl, _, _, _, HST.out.1⟩⟩⟩
          | cons m4 M4 =>
            go_wp2_with fail
            refine (pop7_any HL2.out).mono ?_
            rintro e w9 ⟨c', k', rfl, b1, b2, b3, b4, b5, hs9, hb9, b8⟩
            obtain ⟨z1, z2, z3, z4, _⟩ := (HB2.out.both hb9).cells
            have HST := Lib.hid (hs9.store (HB2.out.both hb9) HDB.out m4.k (c' : Int))
            have HB9 := Lib.hid (HBW.out.trans hb9.below)
            have HC := Lib.hid (And.intro b1 (And.intro b2 (And.intro b3 b4)))
            clear hs9 hb9 i1 i2 b1 b2 b3 b4 b5
            simp only [List.length_cons] at ha7
            generalize m4.k = x' at *
            go_wp2_with fail
            go_roundg (600000 + M4.length + 1 - n3)
            case measure => omega
            case rel => exact ⟨_, true, rfl, rfl, Lib.hid ⟨x', (c' : Int), HST.out.2.1, HDB.out, HB9.out.trans HST.out.2.2, .inl ⟨rfl, _, _, _, c', k', rfl, HC.out.1, HC.out.2.1, HC.out.2.2.1, HC.out.2.2.2, HST.out.1, by omega, Nat.le_refl _⟩⟩⟩
    · have HS := Lib.hid q1
      have HBL := Lib.hid hbl
      clear HO hbx hBD hbl q1
      go_wp2_with fail
      go_end0
      obtain ⟨nv1, sv1, g1, _⟩ := HS.out.gr
      exact ⟨rfl, nv1, sv1, S, g1, HS.out.sv.done (fun x c ⟨e, he, _⟩ => by cases he), HBL.out⟩
end Sp
end Go.Proofs.YtcdclghmebgpnaaGreatDoor
end

section
namespace Go.Proofs.YtcdclghmebgpnaaGreatDoor
namespace Sp
open Go.RowKit Fl Pt
open Wn (Tab TF frees isT Ordw IW Wt Wow Bk wcl plc Rising)

set_option maxHeartbeats 1000000 in
theorem stands7_any (W H : Int) (s : ByteArray) (hs : s.size ≤ maxLen) (c : Int) (w : World) :
    Calls Tryz.prog 32 #[.agg #[.int .i64 W, .int .i64 H, .string s], .int .i64 c] w (Told (OnFloor W H s c) w) := by
  have HNE := Lib.hid (near_any W H s hs c)
  go_enter Tryz.func32, Tryz.ntmps32
  go_wp2_with fail
  refine (HNE.out _).mono ?_
  rintro e w2 ⟨A, n, cap, xs, rfl, hn, h1, h2, ho, hb⟩
  have HB := Lib.hid ((Box.start w W H s 23).after hb)
  have HN := Lib.hid hn
  have H1 := Lib.hid h1
  have H2 := Lib.hid h2
  clear hn h1 h2 ho hb HNE
  go_wp2
  go_ret
  refine ⟨_, rfl, ?_, HB.out.below⟩
  rw [decide_eq_true_eq]
  refine ⟨fun h => ?_, fun h => ?_⟩
  · refine Classical.byContradiction fun hO => ?_
    have := HN.out
    rw [H2.out hO] at this
    simp at this; omega
  · have := HN.out
    rw [H1.out h] at this
    obtain ⟨a, b, k, _, _, _, _, _, _, _, e, hne⟩ := onFloor_some h
    rw [e] at this
    have : (nr a b (at_ s) k).length ≠ 0 := fun e => hne (List.eq_nil_of_length_eq_zero e)
    omega
/-- Can ways through time begin so? -/
def Rt7 (W H : Int) (s : ByteArray) (c t0 : Int) : Prop := OnFloor W H s c ∧ 0 ≤ t0 ∧ t0 < 1048576
def TbV (tb : Option Nat) : Value := .pointer (tb.map fun b => ⟨b, 0, none⟩)
set_option maxHeartbeats 1000000 in
theorem right7_any (W H : Int) (s : ByteArray) (hs : s.size ≤ maxLen) (tb : Nat) (c t0 : Int) (w : World) :
    Calls Tryz.prog 54 #[.agg #[.int .i64 W, .int .i64 H, .string s], .pointer (some ⟨tb, 0, none⟩), .int .i64 c, .int .i64 t0] w (Told (Rt7 W H s c t0) w) := by
  have HST := Lib.hid (stands7_any W H s hs c)
  by_cases hO : OnFloor W H s c
  · have HO := Lib.hid hO
    clear hO
    go_enter Tryz.func54, Tryz.ntmps54
    go_wp2_with (go_at_call 32; refine (HST.out _).mono ?_; rintro e w1 ⟨b, rfl, hb, hb1⟩; obtain rfl : b = true := hb.2 HO.out; have HX := Lib.hid ((Box.start w W H s 23).after hb1); clear hb hb1)
    all_goals
      go_ret
      refine ⟨_, rfl, ?_, HX.out.below⟩
      unfold Rt7
      simp [HO.out] <;> omega
  · have HO := Lib.hid hO
    clear hO
    go_enter Tryz.func54, Tryz.ntmps54
    go_wp2_with (go_at_call 32; refine (HST.out _).mono ?_; rintro e w1 ⟨b, rfl, hb, hb1⟩; obtain rfl : b = false := (by rw [Bool.eq_false_iff]; exact fun e => HO.out (hb.1 e)); have HX := Lib.hid ((Box.start w W H s 23).after hb1); clear hb hb1)
    go_ret
    exact ⟨false, rfl, by unfold Rt7; simp [HO.out], HX.out.below⟩
theorem right7_nil (W H : Int) (s : ByteArray) (c t0 : Int) (w : World) :
    Calls Tryz.prog 54 #[.agg #[.int .i64 W, .int .i64 H, .string s], .pointer none, .int .i64 c, .int .i64 t0] w fun e w' => e = .returned (.bool false) ∧ Below w.heap.size w w' := by
  have HX := Lib.hid (Box.start w W H s 23)
  go_enter Tryz.func54, Tryz.ntmps54
  go_wp2_with fail
  go_ret
  exact ⟨rfl, HX.out.below⟩

/-- What is known of a table that is asked. -/
structure Tk (w : World) (tB tb tN : Nat) (mv : Option Nat) (T : Int → List (Int × Int)) (tg : Int → Nat) : Prop where
  tab : Tab w tB tb tN mv T tg
  ord : ∀ y, Ordw 0 (T y)
  few : tN ≤ 2000
theorem Tk.later {w w' : World} {tB tb tN : Nat} {mv : Option Nat} {T : Int → List (Int × Int)} {tg : Int → Nat} (h : Tk w tB tb tN mv T tg) (hb : Below w.heap.size w w') : Tk w' tB tb tN mv T tg := ⟨h.tab.later hb, h.ord, h.few⟩
/-- A ground as it is made: its blocks lie behind w0; f: which cells may be left. -/
structure Gs7 (w0 : World) (W H a : Nat) (s : ByteArray) (t0 : Int) (tb gb lb nb sb : Nat) (f : Nat → Bool) (wx : World) : Prop where
  box : wx.heap[gb]? = some (.cells #[.int .i64 (W : Int), .int .i64 (H : Int), .string s, FN tb, .int .i64 (a : Int), .int .i64 t0, .slice (some ⟨lb, 0, none⟩) s.size s.size, .slice (some ⟨nb, 0, none⟩) s.size s.size, .slice (some ⟨sb, 0, none⟩) s.size s.size] 111 (0, 0))
  lv : Cells lb s.size (fun c => .bool (f c)) wx
  nc : Cells nb s.size (fun _ => nil7) wx
  sc : Cells sb s.size (fun _ => nil7) wx
  kl : ∃ cs fz, wx.heap[lb]? = some (.cells cs 4 fz)
  kn : ∃ cs fz, wx.heap[nb]? = some (.cells cs 39 fz)
  ks : ∃ cs fz, wx.heap[sb]? = some (.cells cs 108 fz)
  lo : w0.heap.size ≤ gb ∧ w0.heap.size ≤ lb ∧ w0.heap.size ≤ nb ∧ w0.heap.size ≤ sb
  fb : Box w0 (W : Int) (H : Int) s wx
theorem Gs7.later {w0 : World} {W H a : Nat} {s : ByteArray} {t0 : Int} {tb gb lb nb sb : Nat} {f : Nat → Bool} {wx wy : World} (h : Gs7 w0 W H a s t0 tb gb lb nb sb f wx) (hb : Below wx.heap.size wx wy) : Gs7 w0 W H a s t0 tb gb lb nb sb f wy := by
  have b1 := hb.block lb h.lv.1
  have b2 := hb.block nb h.nc.1
  have b3 := hb.block sb h.sc.1
  exact ⟨(hb.block gb (lt_of_heap h.box)).trans h.box, h.lv.later hb, h.nc.later hb, h.sc.later hb, by rw [b1]; exact h.kl, by rw [b2]; exact h.kn, by rw [b3]; exact h.ks, h.lo, h.fb.after hb⟩
theorem Gs7.put {w0 : World} {W H a : Nat} {s : ByteArray} {t0 : Int} {tb gb lb nb sb : Nat} {f f' : Nat → Bool} {wx : World} (h : Gs7 w0 W H a s t0 tb gb lb nb sb f wx) {c : Nat} (hc : c < s.size) (hf : ∀ x, x < s.size → f' x = if x = c then true else f x) (hlb : w0.heap.size ≠ lb) :
    Gs7 w0 W H a s t0 tb gb lb nb sb f' (wx.setCell ⟨lb, c, none⟩ (.bool true)) := by
  have oth := fun k (e : k ≠ lb) => set_other (w := wx) (x := c) (v := .bool true) e
  have b0 := oth gb (ne_kind ⟨_, _, h.box⟩ h.kl (by decide))
  have b2 := oth nb (ne_kind h.kn h.kl (by decide))
  have b3 := oth sb (ne_kind h.ks h.kl (by decide))
  have hs : wx.heap.size ≤ (wx.setCell ⟨lb, c, none⟩ (.bool true)).heap.size := by rw [set_size]; exact Nat.le_refl _
  have ht : Turn (fun k => k = lb) (fun k => k = lb) wx (wx.setCell ⟨lb, c, none⟩ (.bool true)) := Turn.setCell wx ⟨lb, c, none⟩ _ rfl
  have hb1 : Below (w0.heap.size + 1) wx (wx.setCell ⟨lb, c, none⟩ (.bool true)) := (Below.refl _ _).setCell (p := ⟨lb, c, none⟩) (by show w0.heap.size + 1 ≤ lb; have := h.lo.2.1; omega) _
  refine ⟨b0.trans h.box, h.lv.put c _ hc (fun x hx => ?_), h.nc.same hs b2, h.sc.same hs b3, kind_set h.kl, by rw [b2]; exact h.kn, by rw [b3]; exact h.ks, h.lo, h.fb.later hb1⟩
  rw [hf x hx]
  split <;> rfl
/-- All as asked for. -/
def Pm.For (p : Pm) (W H a : Nat) (s : ByteArray) (t0 : Int) (T : Int → List (Int × Int)) (tb : Nat) (w0 : World) : Prop := p.W = W ∧ p.H = H ∧ p.a = a ∧ p.s = s ∧ p.t0 = t0 ∧ p.T = T ∧ p.tb = tb ∧ w0.heap.size ≤ p.B
def GroundTold7 (W H a : Nat) (s : ByteArray) (t0 : Int) (T : Int → List (Int × Int)) (tb : Nat) (w : World) (e : Ending) (w' : World) : Prop :=
  ∃ p nv sv, e = .returned (.pointer (some ⟨Pm.gb p, 0, none⟩)) ∧ Gr p nv sv (fun _ _ => 1048576) w' ∧ p.For W H a s t0 T tb w ∧ Below w.heap.size w w'
theorem Gs7.gr {w0 : World} {W H a : Nat} {s : ByteArray} {t0 : Int} {tb gb lb nb sb tB tN : Nat} {mv : Option Nat} {T : Int → List (Int × Int)} {tg : Int → Nat} {f : Nat → Bool} {wx : World} (h : Gs7 w0 W H a s t0 tb gb lb nb sb f wx) (hT : Tk w0 tB tb tN mv T tg)
    (hR : Right (W : Int) (H : Int) s) (ha : a < s.size) (hz : at_ s a ≠ 35) (ht : 0 ≤ t0 ∧ t0 < 1048576) (hf : ∀ c, c < s.size → f c = outB (at_ s) a c) :
    Gr ⟨W, H, s, a, t0, w0.heap.size, gb, lb, nb, sb, tb, tB, tN, mv, T, tg⟩ (fun _ => nil7) (fun _ => nil7) (fun _ _ => 1048576) wx := by
  refine ⟨⟨hR, ha, hz, ht, hT.ord, hT.few, hT.tab.small, fun k hk => (hT.tab.foot k hk).2⟩, hT.tab.later h.fb.below, h.box, h.lv.congr fun c hc => ?_, h.nc, h.sc, h.kl, h.kn, h.ks, h.lo, fun c hc => .inl rfl, fun c hc => .inl ⟨rfl, fun _ => rfl⟩, fun c c' g _ _ _ e => by cases e⟩
  rw [hf c hc]
  rfl
theorem Tryz.infoBool7 : (Tryz.prog.info? 4).map (fun i => (i.zero, i.size, i.bytes)) = some (some (.bool false), 1, 1) := by kernel_rfl
theorem Tryz.infoStays7 : (Tryz.prog.info? 108).map (fun i => (i.zero, i.size, i.bytes)) = some (some (.slice none 0 0), 1, 24) := by kernel_rfl
theorem run_makeBools (n : Nat) (hn : n ≤ 256) (wx : World) : (Instr.makeSlice 34 (.int .i64 (n : Int)) (.int .i64 (n : Int))).run Tryz.prog wx = .ok (.slice (some ⟨wx.heap.size, 0, none⟩) n n) (wx.alloc (.cells (Array.replicate n (Value.bool false)) 4)) := by
  obtain ⟨i0, hi, hz0, hz1, hz2⟩ := info_parts Tryz.infoBool7
  have := run_make (P := Tryz.prog) wx 34 4 i0 _ Tryz.underlying34 hi hz0 .i64 .i64 n n (by omega) (Int.le_refl _) (by rw [hz2]; omega) (by omega)
  simp only [Int.toNat_natCast, hz1, Nat.mul_one] at this
  rw [this]
  have e : madeCells (Value.bool false).cells n = Array.replicate n (Value.bool false) := by
    have := toList_madeCells_one (Value.bool false) n
    apply Array.toList_inj.1
    rw [Array.toList_replicate, ← this]; rfl
  rw [e]
theorem run_makeStayss (n : Nat) (hn : n ≤ 256) (wx : World) : (Instr.makeSlice 109 (.int .i64 (n : Int)) (.int .i64 (n : Int))).run Tryz.prog wx = .ok (.slice (some ⟨wx.heap.size, 0, none⟩) n n) (wx.alloc (.cells (Array.replicate n (Value.slice none 0 0)) 108)) := by
  obtain ⟨i0, hi, hz0, hz1, hz2⟩ := info_parts Tryz.infoStays7
  have := run_make (P := Tryz.prog) wx 109 108 i0 _ Tryz.underlying109 hi hz0 .i64 .i64 n n (by omega) (Int.le_refl _) (by rw [hz2]; omega) (by omega)
  simp only [Int.toNat_natCast, hz1, Nat.mul_one] at this
  rw [this]
  have e : madeCells (Value.slice none 0 0).cells n = Array.replicate n (Value.slice none 0 0) := by
    have := toList_madeCells_one (Value.slice none 0 0) n
    apply Array.toList_inj.1
    rw [Array.toList_replicate, ← this]; rfl
  rw [e]
theorem run_makeIntss7 (n : Nat) (hn : n ≤ 256) (wx : World) : (Instr.makeSlice 33 (.int .i64 (n : Int)) (.int .i64 (n : Int))).run Tryz.prog wx = .ok (.slice (some ⟨wx.heap.size, 0, none⟩) n n) (wx.alloc (.cells (Array.replicate n (Value.slice none 0 0)) 39)) := by
  rw [run_makeInts n hn wx]
  simp
theorem four7 (w0 w1 : World) (hz : w1.heap.size = w0.heap.size + 1) (o1 o2 o3 o4 : Obj) (wx : World) (hx : wx = ((((w1.alloc o1).alloc o2).alloc o3).alloc o4).drew) :
    wx.heap[w0.heap.size + 1]? = some o1 ∧ wx.heap[w0.heap.size + 1 + 1]? = some o2 ∧ wx.heap[w0.heap.size + 1 + 1 + 1]? = some o3 ∧ wx.heap[w0.heap.size + 1 + 1 + 1 + 1]? = some o4 ∧ Below w1.heap.size w1 wx := by
  have z1 := alloc_size w1 o1
  have z2 := alloc_size (w1.alloc o1) o2
  have z3 := alloc_size ((w1.alloc o1).alloc o2) o3
  have h1 := heap_alloc_new w1 o1
  have h2 := heap_alloc_new (w1.alloc o1) o2
  have h3 := heap_alloc_new ((w1.alloc o1).alloc o2) o3
  have h4 := heap_alloc_new (((w1.alloc o1).alloc o2).alloc o3) o4
  have b1 := (Below.refl _ w1).alloc (Nat.le_refl _) o1
  have b2 := (Below.refl _ (w1.alloc o1)).alloc (Nat.le_refl _) o2
  have b3 := (Below.refl _ ((w1.alloc o1).alloc o2)).alloc (Nat.le_refl _) o3
  have b4 := (Below.refl _ (((w1.alloc o1).alloc o2).alloc o3)).alloc (Nat.le_refl _) o4
  have c4 := b4.drew
  have c3 := b3.trans (c4.mono (by omega))
  have c2 := b2.trans (c3.mono (by omega))
  have c1 := b1.trans (c2.mono (by omega))
  subst hx
  rw [hz] at h1 z1
  rw [z1] at h2 z2
  rw [z2] at h3 z3
  rw [z3] at h4
  exact ⟨(c2.block _ (by omega)).trans h1, (c3.block _ (by omega)).trans h2, (c4.block _ (by omega)).trans h3, h4, c1⟩
theorem cells_rep {b n : Nat} {v : Value} {t : TypeId} {w : World} (h : w.heap[b]? = some (.cells (Array.replicate n v) t)) : Cells b n (fun _ => v) w := by
  have e : Array.replicate n v = (List.replicate n v).toArray := by simp
  rw [e] at h
  refine (cells_row h (by simp)).congr fun x hx => ?_
  simp [List.getD, hx]
theorem gs7_start {w0 w1 wx : World} {W H a : Nat} {s : ByteArray} {t0 : Int} {tb gb lb nb sb : Nat} (hb : Box w0 (W : Int) (H : Int) s w1) (hbl : Below w1.heap.size w1 wx)
    (hg : wx.heap[gb]? = some (.cells #[.int .i64 (W : Int), .int .i64 (H : Int), .string s, FN tb, .int .i64 (a : Int), .int .i64 t0, .slice (some ⟨lb, 0, none⟩) s.size s.size, .slice (some ⟨nb, 0, none⟩) s.size s.size, .slice (some ⟨sb, 0, none⟩) s.size s.size] 111 (0, 0)))
    (hl : wx.heap[lb]? = some (.cells (Array.replicate s.size (Value.bool false)) 4)) (hn : wx.heap[nb]? = some (.cells (Array.replicate s.size (Value.slice none 0 0)) 39)) (hs : wx.heap[sb]? = some (.cells (Array.replicate s.size (Value.slice none 0 0)) 108))
    (h1 : w0.heap.size ≤ gb) (h2 : w0.heap.size < lb) (h3 : w0.heap.size ≤ nb) (h4 : w0.heap.size ≤ sb) : Gs7 w0 W H a s t0 tb gb lb nb sb (fun _ => false) wx ∧ w0.heap.size ≠ lb :=
  ⟨⟨hg, cells_rep hl, cells_rep hn, cells_rep hs, ⟨_, _, hl⟩, ⟨_, _, hn⟩, ⟨_, _, hs⟩, ⟨h1, Nat.le_of_lt h2, h3, h4⟩, hb.after hbl⟩, Nat.ne_of_lt h2⟩
set_option maxHeartbeats 4000000 in
theorem groundOf7_any (W H a : Nat) (s : ByteArray) (t0 : Int) (tB tb tN : Nat) (mv : Option Nat) (T : Int → List (Int × Int)) (tg : Int → Nat) (w : World) (hT : Tk w tB tb tN mv T tg) (hR : Right (W : Int) (H : Int) s) (ha : a < s.size) (hz : at_ s a ≠ 35) (ht : 0 ≤ t0 ∧ t0 < 1048576) :
    Calls Tryz.prog 55 #[.agg #[.int .i64 (W : Int), .int .i64 (H : Int), .string s], .pointer (some ⟨tb, 0, none⟩), .int .i64 (a : Int), .int .i64 t0] w (GroundTold7 W H a s t0 T tb w) := by
  have h256 := rightLe hR
  have hs1 : 1 ≤ s.size := by omega
  have HT := Lib.hid hT
  have HR := Lib.hid hR
  have HZ := Lib.hid hz
  have hb1 := fun wx => run_makeBools s.size h256 wx
  have hb2 := fun wx => run_makeIntss7 s.size h256 wx
  have hb3 := fun wx => run_makeStayss s.size h256 wx
  have HBX := Lib.hid (Box.start w (W : Int) (H : Int) s 23)
  have c0 := HBX.out.c0
  have c1 := HBX.out.c1
  have c2 := HBX.out.c2
  have hz1 : (w.alloc (.cells #[.int .i64 (W : Int), .int .i64 (H : Int), .string s] 23)).heap.size = w.heap.size + 1 := alloc_size _ _
  clear hT hR hz
  go_enter Tryz.func55, Tryz.ntmps55
  go_upto_region 2 with fail
  generalize w.alloc (.cells #[.int .i64 (W : Int), .int .i64 (H : Int), .string s] 23) = w1 at *
  go_cut [10] (fun t wx => ∃ gb lb nb sb, t = .pointer (some ⟨gb, 0, none⟩) ∧ Gs7 w W H a s t0 tb gb lb nb sb (fun _ => false) wx ∧ w.heap.size ≠ lb)
  case first =>
    go_region
    all_goals
      go_wp2_with fail
      go_meet
      obtain ⟨f1, f2, f3, f4, f5⟩ := four7 w w1 hz1 _ _ _ _ _ rfl
      refine ⟨_, _, _, _, rfl, gs7_start HBX.out f5 f4 ?_ ?_ ?_ (by omega) (by omega) (by omega) (by omega)⟩
      all_goals assumption
  case rest =>
    obtain ⟨gb, lb, nb, sb, rfl, hgs, hlb⟩ := hcut
    have HGS := Lib.hid hgs
    have HLB := Lib.hid hlb
    have e0 := hgs.fb.c0
    have e1 := hgs.fb.c1
    have e2 := hgs.fb.c2
    have HLN := Lib.hid (lanes_any (W : Int) (H : Int) s (by unfold maxLen; omega) wc)
    clear hgs hlb c0 c1 c2 hz1 hb1 hb2 hb3
    go_wp2_with fail
    refine HLN.out.mono ?_
    rintro e w2 ⟨A, n, cap, xs, rfl, hn, hx, _, ho, hb⟩
    obtain rfl := hx HR.out
    have HN := Lib.hid hn
    have HO := Lib.hid ho
    have HGS2 := Lib.hid (HGS.out.later hb)
    have HSZ := Lib.hid hb.size
    have HBW := Lib.hid hb
    clear hn hx ho hb e0 e1 e2
    have hpl : (pick isL (at_ s) s.size).length ≤ 1048576 := Nat.le_trans (pick_le _ _ _) (by omega)
    go_wp2_with (at_builtin; refine app_int rfl _ _ rfl wc.heap.size _ _ rfl a _ rfl _ rfl HO.out rfl hpl HSZ.out ?_; intro A3 c3 n3 w3 hn3 ho3 hb3 hg3; have HN3 := Lib.hid hn3; have HO3 := Lib.hid ho3; have HGS3 := Lib.hid (HGS.out.later (HBW.out.trans hb3)); clear hn3 ho3 hb3 hg3)
    generalize hxs : pick isL (at_ s) s.size ++ [a] = xs at *
    have HXS := Lib.hid hxs
    have hn256 : n3 ≤ 257 := by
      have := HN3.out
      rw [← hxs, List.length_append] at this
      have h2 := pick_le isL (at_ s) s.size
      simp at this
      omega
    have HXL : Hid (∀ i, i < n3 → xs.getD i 0 < s.size) := Lib.hid (fun i hi => by
      have : xs.getD i 0 ∈ xs := getD_mem (by rw [← HN3.out]; exact hi)
      generalize xs.getD i 0 = q at *
      rw [← hxs] at this
      rcases List.mem_append.1 this with h | h
      · exact (mem_pick.1 h).1
      · rw [List.mem_singleton.1 h]; exact ha)
    clear hxs
    go_loopw [35] (fun iv wr => ∃ j : Nat, j ≤ n3 ∧ iv = .int .i64 (j : Int) ∧ Hid (Gs7 w W H a s t0 tb gb lb nb sb (fun c => decide (c ∈ xs.take j)) wr ∧ Turn (fun k => k = lb) (fun k => k = lb) w3 wr)) (fun iv _ => n3 - (intOf iv).toNat)
    case atStart => exact ⟨0, Nat.zero_le _, rfl, Lib.hid ⟨by
      have e : (fun c => decide (c ∈ xs.take 0)) = fun _ => false := by funext c; simp
      rw [e]
      exact HGS3.out, Turn.refl _ _⟩⟩
    case round =>
      rename World => wr
      obtain ⟨j, hj, rfl, HK⟩ := hrel
      by_cases hlt : j < n3
      · obtain ⟨gl, rfl, _, hcl⟩ := HO3.out.at j (by rw [← HN3.out]; exact hlt)
        have hne := ne_kind (row_kind HO3.out gl rfl) HGS3.out.kl (by decide)
        have hcx := (World.cell?_of_block (a := ⟨gl, j, none⟩) (HK.out.2.block gl (HO3.out.lt gl rfl).2 hne)).trans hcl
        have hcN := HXL.out j hlt
        have k6 : wr.cell? ⟨gb, 6, none⟩ = some (.slice (some ⟨lb, 0, none⟩) s.size s.size) := by rw [cell_of_row wr gb 6 _ _ _ HK.out.1.box]; rfl
        have hjx : j < xs.length := by rw [← HN3.out]; exact hlt
        have HPU : Hid (Gs7 w W H a s t0 tb gb lb nb sb (fun c => decide (c ∈ xs.take (j + 1))) (wr.setCell ⟨lb, xs.getD j 0, none⟩ (.bool true)) ∧ Turn (fun k => k = lb) (fun k => k = lb) w3 (wr.setCell ⟨lb, xs.getD j 0, none⟩ (.bool true))) := Lib.hid ⟨HK.out.1.put hcN (fun x hx => by
          rw [List.take_succ_eq_append_getElem hjx]
          have e : xs.getD j 0 = xs[j] := by rw [List.getD, List.getElem?_eq_getElem hjx]; rfl
          rw [e, Bool.eq_iff_iff, decide_eq_true_eq, List.mem_append, List.mem_singleton]
          by_cases h : x = xs[j] <;> simp [h]) HLB.out, HK.out.2.put _ rfl⟩
        have m1 := (HK.out.1.lv.2 _ hcN).1
        have m2 := (HK.out.1.lv.2 _ hcN).2
        have hcNI : ((xs.getD j 0 : Nat) : Int) < (s.size : Int) := by omega
        clear hcl hjx hne
        generalize xs.getD j 0 = q at *
        go_wp2_with fail
        go_roundw
        case rel => exact ⟨j + 1, by omega, by go_num, HPU⟩
        case measure => simp [intOf]; omega
      · obtain rfl : j = n3 := by omega
        go_wp2_with fail
        go_ret
        have e : xs.take j = xs := by rw [HN3.out]; exact List.take_length
        have hg := HK.out.1
        rw [e] at hg
        refine ⟨_, _, _, rfl, hg.gr HT.out HR.out ha HZ.out ht (fun c hc => ?_), ⟨rfl, rfl, rfl, rfl, rfl, rfl, rfl, Nat.le_refl _⟩, hg.fb.below⟩
        rw [← HXS.out, Bool.eq_iff_iff, decide_eq_true_eq, List.mem_append, mem_pick, List.mem_singleton, outB_iff]
        constructor
        · rintro (h | h)
          · exact .inr h.2
          · exact .inl h
        · rintro (h | h)
          · exact .inr h
          · exact .inl ⟨hc, h⟩
end Sp
end Go.Proofs.YtcdclghmebgpnaaGreatDoor
end
