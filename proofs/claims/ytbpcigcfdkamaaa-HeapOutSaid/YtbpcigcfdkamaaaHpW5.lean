/-
  The heap: the least item is taken out.
-/
import Derived.Test.YtbpcigcfdkamaaaHpW3
import Derived.Deep.CutRange
import Derived.Deep.DeepCutAuto
import Derived.BigRegion
import Derived.WalkSmall
set_option linter.unusedVariables false
set_option maxRecDepth 100000
namespace Go.Proofs.Ytbpcigcfdkamaaa
open Go.RowKit E

/-- The tree's base, raised. -/
theorem Tree.raise {w : World} {g n cap base : Nat} {l : List E} (h : Tree w g n cap l) (hb : base ≤ g) : w.ownsRow base 54 3 (.slice (some ⟨g, 0, none⟩) n cap) n (ec l) := by
  obtain ⟨q1, q2⟩ := h.row
  rcases q2 with ⟨q, _⟩ | ⟨g', cap', cur', q, hg', r⟩
  · cases q
  · have : g' = g := by injection q with q; injection q with q; injection q with q; exact q.symm
    exact ⟨q1, .inr ⟨g', cap', cur', q, by omega, r⟩⟩
theorem Tree.cut {w : World} {g k cap : Nat} {l : List E} (h : Tree w g (k + 1) cap l) : Tree w g k cap (l.take k) := by
  have hl := h.len
  have h1 := h.row
  have e : l = l.take k ++ l.drop k := (List.take_append_drop k l).symm
  rw [e, ec_app] at h1
  have h2 := ownsRow_pop (by rw [ec_length]; simp; omega) h1
  exact ⟨h2, by simp; omega⟩

theorem two_cells {w : World} {A : Nat} {x y : Value} {T : TypeId} (u v : Value) (h : w.heap[A]? = some (.cells #[x, y] T (0, 0))) :
    ((w.setCell ⟨A, 0, none⟩ u).setCell ⟨A, 1, none⟩ v).heap[A]? = some (.cells #[u, v] T (0, 0)) := by
  rw [heap_setCell_same _ A 1 _ _ v (heap_setCell_same w A 0 _ _ u h)]; simp
theorem two_read {w : World} {A : Nat} {x y : Value} {T : TypeId} (h : w.heap[A]? = some (.cells #[x, y] T (0, 0))) : w.cell? ⟨A, 0, none⟩ = some x ∧ w.cell? ⟨A, 1, none⟩ = some y ∧ w.frozen? ⟨A, 0, none⟩ = false ∧ w.frozen? ⟨A, 1, none⟩ = false :=
  ⟨by rw [cell_of_row w A 0 _ _ _ h]; rfl, by rw [cell_of_row w A 1 _ _ _ h]; rfl, frozen_of_row w A 0 _ _ h, frozen_of_row w A 1 _ _ h⟩

theorem pop_nil (w : World) : Calls Try.prog 13 #[.pointer none] w fun e w' => e = .returned (Item? []) ∧ Below w.heap.size w w' := by
  have HB : Hid (∀ x : Obj, Below w.heap.size w (w.alloc x)) := Lib.hid fun x => (Below.refl _ w).alloc (Nat.le_refl _) _
  go_enter Try.func13, Try.ntmps13
  go_wp2_with fail
  refine (peek_nil _).mono ?_
  rintro e w3 ⟨rfl, hb⟩
  simp only [Item?]
  have HB3 := Lib.hid ((HB.out _).trans (hb.mono (HB.out _).size))
  have hblk : w3.heap[w.heap.size]? = some (.cells #[.int .i64 0, .int .i64 0] 32 (0, 0)) := by rw [hb.block w.heap.size (by simp)]; exact heap_alloc_new w _
  obtain ⟨c0, c1, f0, f1⟩ := two_read hblk
  have HK := Lib.hid hblk
  have hlt : w.heap.size < w3.heap.size := Nat.lt_of_lt_of_le (by simp) hb.size
  have hne : ¬ w3.heap.size = w.heap.size := by omega
  have hne2 : ¬ w.heap.size = w3.heap.size := by omega
  clear hb hblk
  go_wp2
  obtain ⟨z0, z1, _, _⟩ := two_read (w := ((w3.setCell ⟨w.heap.size, 0, none⟩ (.int .i64 0)).setCell ⟨w.heap.size, 1, none⟩ (.int .i64 0)).alloc (.cells #[.int .i64 0, .int .i64 0] 32)) (A := w.heap.size) (by
    rw [Below.heap_alloc _ _ _ (by simpa [World.setCell] using hlt)]
    exact two_cells (.int .i64 0) (.int .i64 0) HK.out)
  exact bodyPost_ret (v := Item? []) (by simp [results, Try.results13, go_sem, Item?, z0, z1]) rfl ⟨rfl, ((HB3.out.setCell (p := ⟨w.heap.size, 0, none⟩) (Nat.le_refl _) _).setCell (p := ⟨w.heap.size, 1, none⟩) (Nat.le_refl _) _).alloc (by simp [World.setCell]; omega) _⟩

theorem pop_none (b : Nat) (v : Value) (n : Nat) (w : World) (h : HAt w b v [] n) :
    Calls Try.prog 13 #[.pointer (some ⟨b, 0, none⟩)] w fun e w' => e = .returned (Item? []) ∧ Below w.heap.size w w' := by
  have HB : Hid (∀ x : Obj, Below w.heap.size w (w.alloc x)) := Lib.hid fun x => (Below.refl _ w).alloc (Nat.le_refl _) _
  have HH : Hid (∀ x : Obj, HAt (w.alloc x) b v [] n) := Lib.hid fun x => h.below (HB.out x)
  go_enter Try.func13, Try.ntmps13
  go_wp2_with fail
  refine (peek_any b v [] n _ (HH.out _)).mono ?_
  rintro e w3 ⟨rfl, hb⟩
  simp only [Item?]
  have HB3 := Lib.hid ((HB.out _).trans (hb.mono (HB.out _).size))
  have hblk : w3.heap[w.heap.size]? = some (.cells #[.int .i64 0, .int .i64 0] 32 (0, 0)) := by rw [hb.block w.heap.size (by simp)]; exact heap_alloc_new w _
  obtain ⟨c0, c1, f0, f1⟩ := two_read hblk
  have HK := Lib.hid hblk
  have hlt : w.heap.size < w3.heap.size := Nat.lt_of_lt_of_le (by simp) hb.size
  have hne : ¬ w3.heap.size = w.heap.size := by omega
  have hne2 : ¬ w.heap.size = w3.heap.size := by omega
  clear hb hblk
  go_wp2
  obtain ⟨z0, z1, _, _⟩ := two_read (w := ((w3.setCell ⟨w.heap.size, 0, none⟩ (.int .i64 0)).setCell ⟨w.heap.size, 1, none⟩ (.int .i64 0)).alloc (.cells #[.int .i64 0, .int .i64 0] 32)) (A := w.heap.size) (by
    rw [Below.heap_alloc _ _ _ (by simpa [World.setCell] using hlt)]
    exact two_cells (.int .i64 0) (.int .i64 0) HK.out)
  exact bodyPost_ret (v := Item? []) (by simp [results, Try.results13, go_sem, Item?, z0, z1]) rfl ⟨rfl, ((HB3.out.setCell (p := ⟨w.heap.size, 0, none⟩) (Nat.le_refl _) _).setCell (p := ⟨w.heap.size, 1, none⟩) (Nat.le_refl _) _).alloc (by simp [World.setCell]; omega) _⟩

/-- The last entry of the heap's tree was laid at its head as well; the item that is handed out lies in block C, that of the result in block A. -/
structure Popped (w : World) (b g cap n k A C : Nat) (m : E) (l : List E) (w5 : World) : Prop where
  box : w5.heap[b]? = some (.cells #[.slice (some ⟨g, 0, none⟩) (k + 1) cap, .int .i64 (n : Int)] 52 (0, 0))
  tree : Tree w5 g (k + 1) cap l
  res : w5.heap[A]? = some (.cells #[.int .i64 0, .int .i64 0] 32 (0, 0))
  item : w5.heap[C]? = some (.cells #[.int .i64 m.k, .int .i64 m.v] 32 (0, 0))
  turn : Turn (HF b (.slice (some ⟨g, 0, none⟩) (k + 1) cap)) (HF b (.slice (some ⟨g, 0, none⟩) (k + 1) cap)) w w5

theorem popped_of {w w3 : World} {b g cap n k : Nat} {m : E} {es M : List E} (hh : HAt w3 b (.slice (some ⟨g, 0, none⟩) (k + 1) cap) (m :: M) n) (ht : Tree w3 g (k + 1) cap es) (hb : Below w.heap.size w w3) (hbg : b < g) (hg : g < w.heap.size)
    (hr : w3.heap[w.heap.size]? = some (.cells #[.int .i64 0, .int .i64 0] 32 (0, 0))) (x : E) :
    Popped w b g cap n k w.heap.size w3.heap.size m (es.set 0 x) ((((w3.setCell ⟨g, 0, none⟩ (.int .i64 x.k)).setCell ⟨g, 1, none⟩ (.int .i64 x.v)).setCell ⟨g, 2, none⟩ (.int .i64 x.t)).alloc (.cells #[.int .i64 m.k, .int .i64 m.v] 32)).drew := by
  obtain ⟨wt, hwt⟩ : ∃ wt, wt = ((w3.setCell ⟨g, 0, none⟩ (.int .i64 x.k)).setCell ⟨g, 1, none⟩ (.int .i64 x.v)).setCell ⟨g, 2, none⟩ (.int .i64 x.t) := ⟨_, rfl⟩
  have hsz : wt.heap.size = w3.heap.size := by rw [hwt]; simp [World.setCell]
  have hold : ∀ k, k ≠ g → wt.heap[k]? = w3.heap[k]? := by
    intro k hk
    rw [hwt, Below.heap_setCell _ _ _ _ hk, Below.heap_setCell _ _ _ _ hk, Below.heap_setCell _ _ _ _ hk]
  have h3 := hb.size
  have hlr := lt_of_heap hr
  have hput := ht.put 0 x
  have hput' : Tree wt g (k + 1) cap (es.set 0 x) := by rw [hwt]; exact hput
  rw [← hwt]
  have ha : ∀ k, k < w3.heap.size → (wt.alloc (.cells #[.int .i64 m.k, .int .i64 m.v] 32)).drew.heap[k]? = wt.heap[k]? := fun k hk => Below.heap_alloc _ _ _ (by omega)
  have t1 : Turn (HF b (.slice (some ⟨g, 0, none⟩) (k + 1) cap)) (HF b (.slice (some ⟨g, 0, none⟩) (k + 1) cap)) w w3 := Turn.ofBelow hb _
  have t2 : Turn (HF b (.slice (some ⟨g, 0, none⟩) (k + 1) cap)) (HF b (.slice (some ⟨g, 0, none⟩) (k + 1) cap)) w wt := by rw [hwt]; exact t1.three 0 1 2 _ _ _ (.inr rfl)
  refine ⟨?_, ?_, ?_, ?_, (t2.more _).drew⟩
  · rw [ha b (by omega), hold b (by omega)]; exact hh.box
  · exact hput'.same (ha g (by omega))
  · rw [ha _ hlr, hold _ (by omega)]; exact hr
  · rw [← hsz]; exact heap_alloc_new wt _

theorem popped_end {w w5 w7 : World} {b g cap n A C : Nat} {m : E} {es M l' : List E} (hA : A = w.heap.size) (ha : Abs es (m :: M) n) (hf : M.length ≤ n ∧ n ≤ 1000000) (hp : Popped w b g cap n M.length A C m (es.set 0 (gt es M.length)) w5) (hbg : b < g) (hg : g < w.heap.size) (hC : A < C)
    (hs : Stl dn ((es.set 0 (gt es M.length)).take M.length) 0 l') (ht : Tree w7 g M.length cap l') (hw : Turn (OnlyB g) (OnlyB g) (w5.setCell ⟨b, 0, none⟩ (.slice (some ⟨g, 0, none⟩) M.length cap)) w7) :
    (w7.heap[C]? = some (.cells #[.int .i64 m.k, .int .i64 m.v] 32 (0, 0)) ∧ w7.heap[A]? = some (.cells #[.int .i64 0, .int .i64 0] 32 (0, 0))) ∧
    ∃ v', HAt ((w7.setCell ⟨A, 0, none⟩ (.int .i64 m.k)).setCell ⟨A, 1, none⟩ (.int .i64 m.v)) b v' M n ∧ Turn (HF b (.slice (some ⟨g, 0, none⟩) (M.length + 1) cap)) (HF b v') w ((w7.setCell ⟨A, 0, none⟩ (.int .i64 m.k)).setCell ⟨A, 1, none⟩ (.int .i64 m.v)) := by
  have hlen := ha.length
  simp at hlen
  have hsz5 : (w5.setCell ⟨b, 0, none⟩ (.slice (some ⟨g, 0, none⟩) M.length cap)).heap.size = w5.heap.size := by simp [World.setCell]
  have h7 : ∀ k, k < w5.heap.size → k ≠ g → w7.heap[k]? = (w5.setCell ⟨b, 0, none⟩ (.slice (some ⟨g, 0, none⟩) M.length cap)).heap[k]? := fun k hk hn => hw.block k (by omega) (fun e => hn e)
  have hlC := lt_of_heap hp.item
  have hlA := lt_of_heap hp.res
  have hlb := lt_of_heap hp.box
  have h7C : w7.heap[C]? = some (.cells #[.int .i64 m.k, .int .i64 m.v] 32 (0, 0)) := by
    rw [h7 C hlC (by omega), Below.heap_setCell _ _ _ _ (by show C ≠ b; omega)]; exact hp.item
  have h7A : w7.heap[A]? = some (.cells #[.int .i64 0, .int .i64 0] 32 (0, 0)) := by
    rw [h7 A hlA (by omega), Below.heap_setCell _ _ _ _ (by show A ≠ b; omega)]; exact hp.res
  have h7b : w7.heap[b]? = some (.cells #[.slice (some ⟨g, 0, none⟩) M.length cap, .int .i64 (n : Int)] 52 (0, 0)) := by
    rw [h7 b hlb (by omega), heap_setCell_same _ b 0 _ _ _ hp.box]; simp
  have hold : ∀ k, k ≠ A → ((w7.setCell ⟨A, 0, none⟩ (.int .i64 m.k)).setCell ⟨A, 1, none⟩ (.int .i64 m.v)).heap[k]? = w7.heap[k]? := fun k hk => by
    rw [Below.heap_setCell _ _ _ _ hk, Below.heap_setCell _ _ _ _ hk]
  refine ⟨⟨h7C, h7A⟩, .slice (some ⟨g, 0, none⟩) M.length cap, ⟨by rw [hold b (by omega)]; exact h7b, ⟨l', ha.pop hlen hs, ?_⟩, hf⟩, ?_⟩
  · rw [ht.len]; exact (ht.same (hold g (by omega))).raise (by omega)
  · have t5 : Turn (HF b (.slice (some ⟨g, 0, none⟩) (M.length + 1) cap)) (HF b (.slice (some ⟨g, 0, none⟩) (M.length + 1) cap)) w (w5.setCell ⟨b, 0, none⟩ (.slice (some ⟨g, 0, none⟩) M.length cap)) := hp.turn.put _ (.inl rfl)
    have t7 : Turn (HF b (.slice (some ⟨g, 0, none⟩) (M.length + 1) cap)) (HF b (.slice (some ⟨g, 0, none⟩) (M.length + 1) cap)) w w7 :=
      t5.trans ⟨hw.os, hw.tape, hw.output, hw.size, fun k hk hn => hw.block k hk (fun e => hn (.inr (by unfold OnlyB at e; rw [e]; rfl))), fun k hk => .inl hk⟩
    refine ⟨t7.os, t7.tape, t7.output, by have := t7.size; simpa [World.setCell] using this, fun k hk hn => ?_, fun k hk => .inl (by rcases hk with h | h; exact .inl h; exact .inr h)⟩
    rw [hold k (by omega)]
    exact t7.block k hk hn

set_option maxHeartbeats 400000 in
theorem pop_some (b : Nat) (v : Value) (m : E) (M : List E) (n : Nat) (w : World) (h : HAt w b v (m :: M) n) :
    Calls Try.prog 13 #[.pointer (some ⟨b, 0, none⟩)] w fun e w' => e = .returned (Item? (m :: M)) ∧ ∃ v', HAt w' b v' M n ∧ Turn (HF b v) (HF b v') w w' := by
  obtain ⟨g, cap, es, rfl, hbg, ha, hT⟩ : ∃ g cap es, v = .slice (some ⟨g, 0, none⟩) (M.length + 1) cap ∧ b < g ∧ Abs es (m :: M) n ∧ Tree w g (M.length + 1) cap es := by
    rcases h.tree with ⟨_, h2⟩ | h2
    · cases h2
    · exact h2
  have hlg := (hT.row.lt g rfl).2
  have hlb := h.lt
  have hmax := hT.max
  have HB : Hid (∀ x : Obj, Below w.heap.size w (w.alloc x)) := Lib.hid fun x => (Below.refl _ w).alloc (Nat.le_refl _) _
  have HH : Hid (∀ x : Obj, HAt (w.alloc x) b (.slice (some ⟨g, 0, none⟩) (M.length + 1) cap) (m :: M) n) := Lib.hid fun x => h.below (HB.out x)
  have HT := Lib.hid hT
  have HA := Lib.hid ha
  have HW := Lib.hid h
  clear hT ha h
  go_enter Try.func13, Try.ntmps13
  go_wp2_with fail
  refine (peek_any b _ (m :: M) n _ (HH.out _)).mono ?_
  rintro e w3 ⟨rfl, hb⟩
  simp only [Item?]
  have hB3 := (HB.out (.cells #[.int .i64 0, .int .i64 0] 32)).trans (hb.mono (HB.out _).size)
  have HB3 := Lib.hid hB3
  have hblk : w3.heap[w.heap.size]? = some (.cells #[.int .i64 0, .int .i64 0] 32 (0, 0)) := by rw [hb.block w.heap.size (by simp)]; exact heap_alloc_new w _
  obtain ⟨c0, c1, f0, f1⟩ := two_read hblk
  have HK := Lib.hid hblk
  have hlt : w.heap.size < w3.heap.size := Nat.lt_of_lt_of_le (by simp) hb.size
  have hne : ¬ w3.heap.size = w.heap.size := by omega
  have hne2 : ¬ w.heap.size = w3.heap.size := by omega
  have hW3 := HW.out.below hB3
  have HW3 := Lib.hid hW3
  have hT3 := HT.out.below hB3
  have HT3 := Lib.hid hT3
  obtain ⟨b0, b1, b2, b3⟩ := hW3.cells
  obtain ⟨d0, d1, d2⟩ := hT3.cells M.length (by omega)
  have hb3 : b < w3.heap.size := by omega
  have hg3 : g < w3.heap.size := by omega
  have a0 : w3.cell? ⟨g, 0, none⟩ = some (.int .i64 (gt es 0).k) := (hT3.cells 0 (by omega)).1
  have a1 : w3.cell? ⟨g, 1, none⟩ = some (.int .i64 (gt es 0).v) := (hT3.cells 0 (by omega)).2.1
  have a2 : w3.cell? ⟨g, 2, none⟩ = some (.int .i64 (gt es 0).t) := (hT3.cells 0 (by omega)).2.2
  have k0 : w3.frozen? ⟨g, 0, none⟩ = false := hT3.row.frozenAt _
  have k1 : w3.frozen? ⟨g, 1, none⟩ = false := hT3.row.frozenAt _
  have k2 : w3.frozen? ⟨g, 2, none⟩ = false := hT3.row.frozenAt _
  have hbg' : ¬ g = b := by omega
  have hbg2 : ¬ b = g := by omega
  have n1 : ¬ w3.heap.size = g := by omega
  have n2 : ¬ g = w3.heap.size := by omega
  have n3 : ¬ w3.heap.size = b := by omega
  have n4 : ¬ b = w3.heap.size := by omega
  have hM : (M.length : Int) ≤ 1000000 := by have := HW.out.few; simp at this; omega
  clear hb hblk hB3 hW3 hT3
  go_wp2
  go_region
  have hp := popped_of HW3.out HT3.out HB3.out hbg hlg HK.out (gt es M.length)
  generalize hw5 : ((((w3.setCell ⟨g, 0, none⟩ (.int .i64 (gt es M.length).k)).setCell ⟨g, 1, none⟩ (.int .i64 (gt es M.length).v)).setCell ⟨g, 2, none⟩ (.int .i64 (gt es M.length).t)).alloc (.cells #[.int .i64 m.k, .int .i64 m.v] 32)).drew = w5 at hp ⊢
  obtain ⟨C, hC⟩ : ∃ C, C = w3.heap.size := ⟨_, rfl⟩
  obtain ⟨A, hA⟩ : ∃ A, A = w.heap.size := ⟨_, rfl⟩
  rw [← hC, ← hA] at hp ⊢
  have hAC : A < C := by omega
  have hAb : ¬ A = b := by omega
  have hAg : ¬ A = g := by omega
  have hCb : ¬ C = b := by omega
  have hCg : ¬ C = g := by omega
  have hbA : ¬ b = A := by omega
  have hgA : ¬ g = A := by omega
  have e0 : w5.cell? ⟨b, 0, none⟩ = some (.slice (some ⟨g, 0, none⟩) (M.length + 1) cap) := by rw [cell_of_row w5 b 0 _ _ _ hp.box]; rfl
  have e1 := frozen_of_row w5 b 0 _ _ hp.box
  have hcap : M.length + 1 ≤ cap := by
    rcases hp.tree.row.2 with ⟨q, _⟩ | ⟨g', cap', cur', q, hg', hh, hc, _⟩
    · cases q
    · injection q with _ _ q; omega
  have HP := Lib.hid hp
  clear hw5 hp hC b0 b1 b2 b3 d0 d1 d2 a0 a1 a2 k0 k1 k2 c0 c1 f0 f1 HK HT3 HW3 HB3 HB HH hne hne2 hlt n1 n2 n3 n4 hb3 hg3
  go_wp2_with fail
  have hTc : Tree (w5.setCell ⟨b, 0, none⟩ (.slice (some ⟨g, 0, none⟩) M.length cap)) g M.length cap ((es.set 0 (gt es M.length)).take M.length) := HP.out.tree.cut.same (Below.heap_setCell _ _ _ _ hbg')
  refine (settle_dn dn (fun i => M.length - i) g M.length cap 0 _ _ hTc (.inr rfl) (fun l w i ht hi => below_any g _ cap i l w ht hi (by omega)) (fun l i hl hi hne => by
    rcases dn_cases l i with q | ⟨q1, q2⟩ | ⟨q1, q2⟩
    · exact absurd q hne
    · rw [q1]; exact ⟨by omega, by omega, by show M.length - (2 * i + 1) < M.length - i; omega⟩
    · rw [q1]; exact ⟨by omega, by omega, by show M.length - (2 * i + 2) < M.length - i; omega⟩)).mono ?_
  rintro e w7 ⟨rfl, l', hs, ht, hw⟩
  have hend := popped_end hA HA.out (by have := HW.out.few; simp at this; omega) HP.out hbg hlg hAC hs ht hw
  obtain ⟨⟨q1, q2⟩, q3⟩ := hend
  obtain ⟨i0, i1, i2, i3⟩ := two_read q1
  obtain ⟨r0, r1, r2, r3⟩ := two_read q2
  obtain ⟨z0, z1, _, _⟩ := two_read (two_cells (.int .i64 m.k) (.int .i64 m.v) q2)
  have HE := Lib.hid q3
  clear hTc hs ht hw q1 q2 q3 HP e0 e1 hA HT HA HW hlg hlb
  go_wp2
  exact bodyPost_ret (v := Item? (m :: M)) (by simp [results, Try.results13, go_sem, Item?, z0, z1]) rfl ⟨rfl, HE.out⟩

/-- What taking out comes to: the least is out. -/
def PopTold (b : Nat) (v : Value) (M : List E) (n : Nat) (w : World) (e : Ending) (w' : World) : Prop :=
  e = .returned (Item? M) ∧ ∃ v', HAt w' b v' M.tail n ∧ Turn (HF b v) (HF b v') w w'

theorem pop_any (b : Nat) (v : Value) (M : List E) (n : Nat) (w : World) (h : HAt w b v M n) :
    Calls Try.prog 13 #[.pointer (some ⟨b, 0, none⟩)] w (PopTold b v M n w) := by
  cases M with
  | nil =>
    refine (pop_none b v n w h).mono ?_
    rintro e w' ⟨rfl, hb⟩
    exact ⟨rfl, v, h.below hb, Turn.ofBelow hb _⟩
  | cons m M => exact pop_some b v m M n w h

end Go.Proofs.Ytbpcigcfdkamaaa
