/-
  Layer 6: keep; a window behind all others is inserted; Take.
-/
import Derived.Test.YtcdclghmebgpnaaGreatDoorWnD
set_option linter.unusedVariables false
set_option maxRecDepth 100000
namespace Go.Proofs.YtcdclghmebgpnaaGreatDoor.Wn
open Go.RowKit Go.Maps

def upd {α : Type} (T : Int → α) (x : Int) (v : α) : Int → α := fun y => if y = x then v else T y
theorem upd_same {α : Type} (T : Int → α) (x : Int) (v : α) : upd T x v x = v := if_pos rfl
theorem upd_other {α : Type} (T : Int → α) {x y : Int} (v : α) (h : y ≠ x) : upd T x v y = T y := if_neg h
theorem upd_map {w : World} {mb N : Nat} {D : DataW Unit} (h1 : w.ownsMap Tryz.prog 3 slR mb N D) (hN : N ≤ 1000000) {x : Int} (hx : IW x) (g n c : Nat) :
    ∃ w', (Instr.mapUpdate 86 (.map (some mb)) (.int .i64 x) (.slice (some ⟨g, 0, none⟩) n c)).run Tryz.prog w = .ok () w' ∧ w'.ownsMap Tryz.prog 3 slR mb (N + 1) (D.put (kI x) (slD g n c)) ∧ w.grownBy w' (some mb) :=
  h1.update (int_keyed Tryz.underlying3) Tryz.underlying86 (by unfold maxLen; omega) (keyOf_int_mk Tryz.underlying3 (WalkArith.wf_i64 hx)) (show slR (.slice (some ⟨g, 0, none⟩) n c) = some (slD g n c, []) from rfl)
/-- A table whose map was written at one cell. -/
theorem Tab.put {w w' : World} {base tb N mb g c : Nat} {mv : Option Nat} {T : Int → List (Int × Int)} {gb : Int → Nat} {x : Int} {L : List (Int × Int)} {D : DataW Unit} (h : Tab w base tb N mv T gb) (hx : IW x) (hN : N + 1 ≤ 100000) (hL : L ≠ []) (hR : Rising L) (hl : L.length ≤ N + 1)
    (hbox : w'.heap[tb]? = some (.cells #[.map (some mb)] 88 (0, 0))) (hmb : base ≤ mb) (hD : w'.ownsMap Tryz.prog 3 slR mb (N + 1) (D.put (kI x) (slD g L.length c))) (hM : IsMap D)
    (ho : Wow w' base (.slice (some ⟨g, 0, none⟩) L.length c) L)
    (hold : ∀ y, IW y → has D (kI y) = decide (T y ≠ []) ∧ (T y ≠ [] → y ≠ x → ∃ c, (∀ z, D.atKey (kI y) z = slD (gb y) (T y).length c) ∧ Wow w' base (.slice (some ⟨gb y, 0, none⟩) (T y).length c) (T y)))
    (hg : ∀ y, IW y → y ≠ x → T y ≠ [] → gb y ≠ g) : Tab w' base tb (N + 1) (some mb) (upd T x L) (upd gb x g) := by
  refine ⟨hbox, h.lo, hN, (fun e => by cases e), fun mb' e => ?_, fun y z hy hz hne h1 h2 => ?_, fun y => ?_, fun y => ?_⟩
  · obtain rfl : mb = mb' := by injection e
    refine ⟨hmb, _, hD, fun y hy => ?_⟩
    by_cases e : y = x
    · subst e
      rw [upd_same, upd_same]
      refine ⟨by rw [has_put_same hM (kI_key y)]; simp [hL], fun _ => ⟨c, fun z => atKey_put_same hM (kI_key y) _ z, ho⟩⟩
    · rw [upd_other T L e, upd_other gb g e, has_put_other (fun h => e (kI_inj h))]
      refine ⟨(hold y hy).1, fun hne => ?_⟩
      obtain ⟨c', k1, k2⟩ := (hold y hy).2 hne e
      exact ⟨c', fun z => by rw [atKey_put_other (fun h => e (kI_inj h))]; exact k1 z, k2⟩
  · by_cases e1 : y = x
    · subst e1
      have e2 : z ≠ y := fun e => hne e.symm
      rw [upd_same, upd_other gb g e2]
      rw [upd_other T L e2] at h2
      exact fun e => hg z hz e2 h2 e.symm
    · rw [upd_other gb g e1]
      rw [upd_other T L e1] at h1
      by_cases e2 : z = x
      · subst e2; rw [upd_same]; exact hg y hy e1 h1
      · rw [upd_other gb g e2]
        rw [upd_other T L e2] at h2
        exact h.apart y z hy hz hne h1 h2
  · by_cases e : y = x
    · subst e; rw [upd_same]; exact hR
    · rw [upd_other T L e]; exact h.rise y
  · by_cases e : y = x
    · subst e; rw [upd_same]; exact hl
    · rw [upd_other T L e]; have := h.small y; omega
theorem Wow.block {w : World} {base g n c : Nat} {L : List (Int × Int)} (h : Wow w base (.slice (some ⟨g, 0, none⟩) n c) L) : ∃ cur, w.heap[g]? = some (.cells cur 52 (0, 0)) := by
  unfold Wow at h
  rcases h.2 with ⟨q, h0⟩ | ⟨g', cap', cur, q, hg, hh, h1, h2, _⟩
  · cases q
  · injection q with q1 q2 q3
    injection q1 with q1
    injection q1 with q1
    subst q1
    exact ⟨cur, hh⟩
theorem run_makeMapW (w : World) : (Instr.makeMap 86 none).run Tryz.prog w = .ok (.map (some w.heap.size)) (w.alloc (.map #[] 0)) := by
  simp [Instr.makeMap, Result.andThen]
/-- The blocks that keep writes. -/
def KF (tb : Nat) (mv : Option Nat) : Nat → Prop := fun k => k = tb ∨ mv = some k
set_option maxHeartbeats 2000000 in
theorem keep_any (base tb N : Nat) (mv : Option Nat) (T : Int → List (Int × Int)) (gb : Int → Nat) (x : Int) (L : List (Int × Int)) (g c : Nat) (w0 w : World) (h : Tab w0 base tb N mv T gb) (hx : IW x) (hN : N + 1 ≤ 100000) (hL : L ≠ []) (hR : Rising L) (hl : L.length ≤ N + 1) (hbw : base ≤ w.heap.size)
    (hsame : ∀ k, (k = tb ∨ mv = some k ∨ ∃ y, IW y ∧ y ≠ x ∧ T y ≠ [] ∧ gb y = k) → w.heap[k]? = w0.heap[k]?)
    (ho : Wow w base (.slice (some ⟨g, 0, none⟩) L.length c) L) (hg : ∀ y, IW y → y ≠ x → T y ≠ [] → gb y ≠ g) :
    Calls Tryz.prog 44 #[.pointer (some ⟨tb, 0, none⟩), .int .i64 x, .slice (some ⟨g, 0, none⟩) L.length c] w fun e w' => e = .returned (.tuple #[]) ∧ ∃ mv', Tab w' base tb (N + 1) mv' (upd T x L) (upd gb x g) ∧ Turn (KF tb mv) (KF tb mv') w w' := by
  have q22 : ∀ (w : World) (r : Option Nat), (binOp .eql 86 (.map r) (.map none)).run Tryz.prog w = .ok (.bool r.isNone) w := fun w r => run_eql_map_nil w _ _ _ r Tryz.underlying86
  have hmk := run_makeMapW
  have hbox : w.heap[tb]? = some (.cells #[.map mv] 88 (0, 0)) := (hsame tb (.inl rfl)).trans h.box
  have c0 : w.cell? ⟨tb, 0, none⟩ = some (.map mv) := by rw [cell_of_row w tb 0 _ _ _ hbox]; rfl
  have f0 : w.frozen? ⟨tb, 0, none⟩ = false := frozen_of_row w tb 0 _ _ hbox
  have hlt := lt_of_heap hbox
  obtain ⟨cur, hcur⟩ := ho.block
  have hgt : g ≠ tb := fun e => by rw [e, hbox] at hcur; simp at hcur
  have hLpos : L.length ≠ 0 := by simpa using hL
  have dL : ((L.length : Int) == 0) = false := by rw [beq_eq_false_iff_ne]; omega
  have hos := ho.wt.size
  have hos1 := hos.1
  have hos2 := hos.2
  cases mv with
  | none =>
    have hT := h.nomap rfl
    have hz1 : (w.setCell ⟨tb, 0, none⟩ (.map (some w.heap.size))).heap.size = w.heap.size := by simp [World.setCell]
    have HD2 : Hid (((w.setCell ⟨tb, 0, none⟩ (.map (some w.heap.size))).alloc (.map #[] 0)).ownsMap Tryz.prog 3 slR w.heap.size N (.map [])) := Lib.hid (by
      have := (World.ownsMap_made (w.setCell ⟨tb, 0, none⟩ (.map (some w.heap.size))) Tryz.prog 3 slR).mono (Nat.zero_le N)
      rw [hz1] at this
      exact this)
    have hN1 : N ≤ 1000000 := by omega
    obtain ⟨w3, hup, hD3, hg3⟩ := upd_map HD2.out hN1 hx g L.length c
    have hz2 : ((w.setCell ⟨tb, 0, none⟩ (.map (some w.heap.size))).alloc (.map #[] 0)).heap.size = w.heap.size + 1 := by rw [alloc_size, hz1]
    have hbox3 : w3.heap[tb]? = some (.cells #[.map (some w.heap.size)] 88 (0, 0)) := by
      rw [hg3.block tb (by rw [hz2]; omega) (by simp; omega), Below.heap_alloc _ _ _ (by rw [hz1]; exact hlt), heap_setCell_same w tb 0 _ _ _ hbox]; simp
    have hold : ∀ k, k < w.heap.size → k ≠ tb → w3.heap[k]? = w.heap[k]? := fun k hk hkt => by
      rw [hg3.block k (by rw [hz2]; omega) (by simp; omega), Below.heap_alloc _ _ _ (by rw [hz1]; exact hk), Below.heap_setCell _ _ _ _ (show k ≠ tb from hkt)]
    have HT : Hid (Tab w3 base tb (N + 1) (some w.heap.size) (upd T x L) (upd gb x g) ∧ Turn (KF tb none) (KF tb (some w.heap.size)) w w3) := Lib.hid ⟨
      h.put hx hN hL hR hl hbox3 hbw hD3 isMap_empty
        (ownsRow_same ho (fun k hk => by
          obtain rfl : g = k := by simpa [Value.ownBlock] using hk
          exact hold g (World.ownsRow.lt ho g rfl).2 hgt))
        (fun y hy => ⟨by rw [hT y]; simp [has], fun hne => absurd (hT y) hne⟩)
        (fun y _ _ hne => absurd (hT y) hne),
      ⟨hg3.os, hg3.tape, hg3.output, Nat.le_trans (by rw [hz2]; omega) hg3.size, fun k hk hF => hold k hk (fun e => hF (.inl e)), fun k hk => by
        rcases hk with rfl | e
        · exact .inl (.inl rfl)
        · injection e with e
          exact .inr (by omega)⟩⟩
    clear h hsame ho hg hcur hbox hg3 hD3 hbox3 hold hT hR hl hL hz1 hz2 hos
    go_enter Tryz.func44, Tryz.ntmps44
    go_wp2_with fail
    go_end0
    exact ⟨rfl, _, HT.out.1, HT.out.2⟩
  | some mb =>
    obtain ⟨hmb, D, hD, hrow⟩ := h.map mb rfl
    have hD2 : w.ownsMap Tryz.prog 3 slR mb N D := owns_same hD (hsame mb (.inr (.inl rfl)))
    have hN1 : N ≤ 1000000 := by omega
    obtain ⟨w3, hup, hD3, hg3⟩ := upd_map hD2 hN1 hx g L.length c
    have hmbt : mb ≠ tb := fun e => by
      obtain ⟨es, clock, hb, _⟩ := hD2
      rw [e, hbox] at hb; simp at hb
    have hgm : g ≠ mb := fun e => by
      obtain ⟨es, clock, hb, _⟩ := hD2
      rw [e, hb] at hcur; simp at hcur
    have hbox3 : w3.heap[tb]? = some (.cells #[.map (some mb)] 88 (0, 0)) := by
      rw [hg3.block tb hlt (by simp; omega)]; exact hbox
    have hold : ∀ k, k < w.heap.size → k ≠ mb → w3.heap[k]? = w.heap[k]? := fun k hk hkt => hg3.block k hk (by simp; omega)
    have HT : Hid (Tab w3 base tb (N + 1) (some mb) (upd T x L) (upd gb x g) ∧ Turn (KF tb (some mb)) (KF tb (some mb)) w w3) := Lib.hid ⟨
      h.put hx hN hL hR hl hbox3 hmb hD3 hD2.isMap
        (ownsRow_same ho (fun k hk => by
          obtain rfl : g = k := by simpa [Value.ownBlock] using hk
          exact hold g (World.ownsRow.lt ho g rfl).2 hgm))
        (fun y hy => ⟨(hrow y hy).1, fun hne hyx => by
          obtain ⟨c', k1, k2⟩ := (hrow y hy).2 hne
          have hk := hsame (gb y) (.inr (.inr ⟨y, hy, hyx, hne, rfl⟩))
          obtain ⟨cu, hcu⟩ := k2.block
          have hgm2 : gb y ≠ mb := fun e => by
            obtain ⟨es, clock, hb, _⟩ := hD
            rw [e, hb] at hcu; simp at hcu
          refine ⟨c', k1, ownsRow_same k2 (fun k hkk => ?_)⟩
          obtain rfl : gb y = k := by simpa [Value.ownBlock] using hkk
          exact (hold _ (lt_of_heap (hk.trans hcu)) hgm2).trans hk⟩)
        hg,
      ⟨hg3.os, hg3.tape, hg3.output, hg3.size, fun k hk hF => hold k hk (fun e => hF (.inr (by rw [e]))), fun k hk => .inl hk⟩⟩
    clear h hsame ho hg hcur hbox hg3 hD3 hbox3 hold hR hl hL hos hD hD2 hrow
    go_enter Tryz.func44, Tryz.ntmps44
    go_wp2_with fail
    go_end0
    exact ⟨rfl, _, HT.out.1, HT.out.2⟩
/-- A window behind all others is inserted. -/
theorem insert_end (base : Nat) (A : Option Addr) (c : Nat) (L : List (Int × Int)) (a b : Int) (w w1 : World) (h : Wow w base (.slice A L.length c) L) (hw1 : w1 = w.alloc (.cells #[.int .i64 a, .int .i64 b] 52)) (hb : base ≤ w.heap.size) (hl : L.length ≤ 100000) :
    Calls Tryz.prog 45 #[.slice A L.length c, .int .i64 (L.length : Int), .slice (some ⟨w.heap.size, 0, none⟩) 1 1] w1 fun e w' => ∃ A' c', e = .returned (.slice A' (L.length + 1) c') ∧ Wow w' base (.slice A' (L.length + 1) c') (L ++ [(a, b)]) ∧ w1.grownBy w' (Value.slice A L.length c).ownBlock ∧ ((Value.slice A' (L.length + 1) c').ownBlock = (Value.slice A L.length c).ownBlock ∨ (Value.slice A' (L.length + 1) c').ownBlock = some w1.heap.size) := by
  have HB1 : Hid (Below w.heap.size w w1) := Lib.hid (by rw [hw1]; exact (Below.refl _ _).alloc (Nat.le_refl _) _)
  have HO1 := Lib.hid (h.later HB1.out)
  have HX1 : Hid (Wt w1.heap.size w1 (some ⟨w.heap.size, 0, none⟩) 1 1 [(a, b)]) := Lib.hid (by rw [hw1]; exact Wt.one w a b)
  have HBS := Lib.hid (Nat.le_trans hb HB1.out.size)
  have hs := h.wt.size
  have hs1 := hs.1
  have hs2 := hs.2
  have hlI : (L.length : Int) ≤ (c : Int) := by omega
  generalize hnb : w.heap.size = nb at *
  clear h hw1 hs hb
  go_enter Tryz.func45, Tryz.ntmps45
  go_wp2_with (at_builtin; refine app_wins rfl _ _ rfl base _ L rfl HO1.out (some ⟨nb, 0, none⟩) 1 1 [(a, b)] rfl HX1.out (by omega) HBS.out ?_; intro A4 c4 w4 ho4 hb4 hg4 hv4; have HO4 := Lib.hid ho4; have HG4 := Lib.hid hg4; have HV4 := Lib.hid hv4; clear ho4 hb4 hg4 hv4)
  all_goals
    go_ret
    have h1 := HO4.out
    have h2 := HV4.out
    have h3 := HG4.out
    simp only [List.length_append, List.length_singleton] at h1 h2
    first
    | exact ⟨A4, c4, rfl, h1, h3, h2⟩
    | (subst h; exact ⟨A4, c4, rfl, h1, h3, h2⟩)
end Go.Proofs.YtcdclghmebgpnaaGreatDoor.Wn
