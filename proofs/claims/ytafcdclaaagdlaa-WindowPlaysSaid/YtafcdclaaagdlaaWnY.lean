/-
  Layer 6: an act on the document's table.
-/
import Derived.Test.YtafcdclaaagdlaaWnX
import Derived.Test.YtafcdclaaagdlaaWnS
import Derived.Test.YtafcdclaaagdlaaWnQ
set_option linter.unusedVariables false
set_option maxRecDepth 100000
namespace Go.Proofs.Ytafcdclaaagdlaa.Wn
open Go.RowKit Go.Maps

def mdl (R : List R3) (r : Nat) (x a b : Int) : Int × List R3 := if r = 0 then rtk R x a b else if r = 1 then rdr R x a b else (0, rfg R a)
theorem mdl_act {R : List R3} {T : Int → List (Int × Int)} (hT : ∀ y, tkn R y = T y) (hO : ∀ y, Ordw 0 (T y)) (r : Nat) (x a b : Int) : (mdl R r x a b).1 = (act T r x a b).1 ∧ ∀ y, tkn (mdl R r x a b).2 y = (act T r x a b).2 y := by
  unfold mdl act
  by_cases h0 : r = 0
  · rw [if_pos h0, if_pos h0]
    exact rtk_tk hT hO x a b
  · rw [if_neg h0, if_neg h0]
    by_cases h1 : r = 1
    · rw [if_pos h1, if_pos h1]
      exact rdr_dr hT hO x a b
    · rw [if_neg h1, if_neg h1]
      exact ⟨rfl, rfg_fg hT hO a⟩
theorem rins_len (x a b : Int) (R : List R3) : (rins R x a b).length = R.length + 1 := by
  unfold rins
  rw [List.length_append, List.length_cons, ← Nat.add_assoc, ← List.length_append, List.takeWhile_append_dropWhile]
theorem mdl_len (R : List R3) (r : Nat) (x a b : Int) : (mdl R r x a b).2.length ≤ R.length + 1 := by
  unfold mdl
  split
  · unfold rtk
    split
    · exact Nat.le_succ _
    · split
      · exact Nat.le_succ _
      · split
        · exact Nat.le_succ _
        · exact Nat.le_of_eq (rins_len x a b R)
  · split
    · unfold rdr
      split
      · exact Nat.le_trans (List.length_erase_le) (Nat.le_succ _)
      · exact Nat.le_succ _
    · exact Nat.le_trans (List.length_filter_le _ _) (Nat.le_succ _)
theorem TakeTold.from {rb : Nat} {R : List R3} {q : Int × List R3} {w w1 w' : World} {e : Ending} (h : TakeTold rb R q w1 e w') (hb : Below w.heap.size w w1) : TakeTold rb R q w e w' := by
  obtain ⟨he, A', c', h1, h2⟩ := h
  exact ⟨he, A', c', h1, (Turn.ofBelow hb _).trans h2⟩
set_option maxHeartbeats 2000000 in
theorem model_any (rb : Nat) (A : Option Addr) (c : Nat) (R : List R3) (q r : Nat) (x a b : Int) (w : World) (h : RT w rb A c R) (hfew : R.length < 100000) (hq : q ≤ 255) (hr : q % 3 = r) :
    Calls Try.prog 10 #[.pointer (some ⟨rb, 0, none⟩), .agg #[.int .u8 q, .int .i64 x, .int .i64 a, .int .i64 b]] w (TakeTold rb R (mdl R r x a b) w) := by
  obtain ⟨w1, hw1⟩ : ∃ w1, w1 = w.alloc (.cells #[.int .u8 q, .int .i64 x, .int .i64 a, .int .i64 b] 34) := ⟨_, rfl⟩
  obtain ⟨b0, b1, b2, b3, hb⟩ := act_box w q x a b w1 hw1
  have HB := Lib.hid hb
  have h1 := h.later hb
  have HTK := Lib.hid (r6take_any rb A c R x a b w1 h1 hfew)
  have HDR := Lib.hid (r6drop_any rb A c R x a b w1 h1)
  have HFG := Lib.hid (r6forget_any rb A c R a w1 h1)
  have hqr : ((q : Int) % 3) = (r : Int) := by omega
  rw [hw1] at b0 b1 b2 b3 HTK HDR HFG HB
  clear hb h h1 hw1 w1
  rcases (by omega : r = 0 ∨ r = 1 ∨ r = 2) with rfl | rfl | rfl
  · rw [show mdl R 0 x a b = rtk R x a b from rfl]
    go_enter Try.func10, Try.ntmps10
    go_wp2_with fail
    refine HTK.out.mono ?_
    intro e w2 h2
    have H2 := Lib.hid (h2.from HB.out)
    obtain rfl := h2.1
    clear h2
    go_wp2_with fail
    go_ret
    exact H2.out
  · rw [show mdl R 1 x a b = rdr R x a b from rfl]
    go_enter Try.func10, Try.ntmps10
    go_wp2_with fail
    refine HDR.out.mono ?_
    intro e w2 h2
    have H2 := Lib.hid (h2.from HB.out)
    obtain rfl := h2.1
    clear h2
    go_wp2_with fail
    go_ret
    exact H2.out
  · rw [show mdl R 2 x a b = (0, rfg R a) from rfl]
    go_enter Try.func10, Try.ntmps10
    go_wp2_with fail
    refine HFG.out.mono ?_
    rintro e w2 ⟨rfl, A', c', h2, h3⟩
    have H2 := Lib.hid h2
    have H3 := Lib.hid h3
    clear h2 h3
    go_wp2_with fail
    go_ret
    exact ⟨rfl, A', c', H2.out, (Turn.ofBelow HB.out _).trans H3.out⟩
/-- Both tables in one memory: the program's and the document's. -/
structure Bo (w : World) (bs tb rb N : Nat) (mv : Option Nat) (T : Int → List (Int × Int)) (gb : Int → Nat) (A : Option Addr) (c : Nat) (R : List R3) : Prop where
  tab : Tab w bs tb N mv T gb
  row : RT w rb A c R
  ord : ∀ y, Ordw 0 (T y)
  same : ∀ y, tkn R y = T y
  few : R.length ≤ N
  box : bs ≤ rb
theorem Bo.later {w w' : World} {bs tb rb N : Nat} {mv : Option Nat} {T : Int → List (Int × Int)} {gb : Int → Nat} {A : Option Addr} {c : Nat} {R : List R3} (h : Bo w bs tb rb N mv T gb A c R) (hb : Below w.heap.size w w') : Bo w' bs tb rb N mv T gb A c R :=
  ⟨h.tab.later hb, h.row.later hb, h.ord, h.same, h.few, h.box⟩
/-- The program's table lies in blocks of its own kinds. -/
theorem Tab.type {w : World} {base tb N : Nat} {mv : Option Nat} {T : Int → List (Int × Int)} {gb : Int → Nat} (h : Tab w base tb N mv T gb) {k : Nat} (hk : TF tb mv T gb k) : ∀ cs e fz, w.heap[k]? = some (.cells cs e fz) → e = 50 ∨ e = 32 := by
  intro cs e fz hc
  rcases hk with rfl | e2 | ⟨x, hx, ht, rfl⟩
  · rw [h.box] at hc
    injection hc with hc
    injection hc with _ h2 _
    exact .inl h2.symm
  · obtain ⟨h1, D, ⟨es, cl, h2, _⟩, _⟩ := h.map k e2
    rw [h2] at hc
    cases hc
  · cases mv with
    | none => exact absurd (h.nomap rfl x) ht
    | some mb =>
      obtain ⟨_, D, _, h3⟩ := h.map mb rfl
      obtain ⟨c, _, ho⟩ := (h3 x hx).2 ht
      obtain ⟨c2, fz2, h4⟩ := rowkind ho (gb x) rfl
      rw [h4] at hc
      injection hc with hc
      injection hc with _ h2 _
      exact .inr h2.symm
theorem Tab.aside {w : World} {bs tb rb N : Nat} {mv : Option Nat} {T : Int → List (Int × Int)} {gb : Int → Nat} {A : Option Addr} {c : Nat} {R : List R3} (h : Tab w bs tb N mv T gb) (hr : RT w rb A c R) : ¬ TF tb mv T gb rb ∧ ∀ a, A = some a → ¬ TF tb mv T gb a.block := by
  refine ⟨fun hk => ?_, fun a e hk => ?_⟩
  · have := h.type hk _ _ _ hr.box
    revert this
    decide
  · obtain ⟨cs, fz, h1⟩ := hr.kind a e
    have := h.type hk _ _ _ h1
    revert this
    decide
/-- Boxes of acts are kept. -/
def KeptA (w w' : World) : Prop := ∀ (k : Nat) (cs : Array Value) (fz : Nat × Nat), w.heap[k]? = some (Obj.cells cs 34 fz) → w'.heap[k]? = w.heap[k]?
theorem does_bo (bs tb rb N : Nat) (mv : Option Nat) (T : Int → List (Int × Int)) (gb : Int → Nat) (A : Option Addr) (c : Nat) (R : List R3) (q r : Nat) (x a b : Int) (w : World) (h : Bo w bs tb rb N mv T gb A c R) (hq : q ≤ 255) (hr : q % 3 = r) (hx : IW x) (ha : IW a) (hN : N < 4096) :
    Calls Try.prog 9 #[.pointer (some ⟨tb, 0, none⟩), .agg #[.int .u8 q, .int .i64 x, .int .i64 a, .int .i64 b]] w fun e w' => e = .returned (.int .i64 (act T r x a b).1) ∧ (∃ mv' gb', Tab w' bs tb (N + 1) mv' (act T r x a b).2 gb') ∧ RT w' rb A c R ∧ Below bs w w' ∧ KeptA w w' := by
  refine (does_any bs tb N mv T gb q r x a b w h.tab hq hr hx ha hN h.ord).mono ?_
  rintro e w' ⟨rfl, mv', gb', h1, h2⟩
  obtain ⟨a1, a2⟩ := h.tab.aside h.row
  refine ⟨rfl, ⟨mv', gb', h1⟩, h.row.turn h2 a1 a2, h.tab.below h2, fun k cs fz hk => h2.block k (lt_of_heap hk) fun hf => ?_⟩
  have := h.tab.type hf _ _ _ hk
  revert this
  decide
theorem model_bo (bs tb rb N : Nat) (T T' : Int → List (Int × Int)) (A : Option Addr) (c : Nat) (R : List R3) (q r : Nat) (x a b : Int) (hq : q ≤ 255) (hr : q % 3 = r) (hN : N < 4096) (hT : T' = (act T r x a b).2) (hO : ∀ y, Ordw 0 (T y)) (hs : ∀ y, tkn R y = T y) (hf : R.length ≤ N) (hb : bs ≤ rb) (w : World) (h1 : ∃ mv' gb', Tab w bs tb (N + 1) mv' T' gb') (h2 : RT w rb A c R) :
    Calls Try.prog 10 #[.pointer (some ⟨rb, 0, none⟩), .agg #[.int .u8 q, .int .i64 x, .int .i64 a, .int .i64 b]] w fun e w' => e = .returned (.int .i64 (act T r x a b).1) ∧ (∃ mv' gb' A' c' R', Bo w' bs tb rb (N + 1) mv' T' gb' A' c' R') ∧ Below bs w w' ∧ KeptA w w' := by
  obtain ⟨mv', gb', h1⟩ := h1
  subst hT
  obtain ⟨m1, m2⟩ := mdl_act hs hO r x a b
  refine (model_any rb A c R q r x a b w h2 (by omega) hq hr).mono ?_
  rintro e w' ⟨rfl, A', c', h3, h4⟩
  rw [m1]
  obtain ⟨a1, a2⟩ := h1.aside h2
  have hl := mdl_len R r x a b
  have hlt := h2.cells.2.2
  have hz := h1.lo
  have hz2 := h1.cells.2.2
  refine ⟨rfl, ⟨mv', gb', A', c', _, ⟨h1.turn h4 (fun k hk e => a1 (e ▸ hk)), h3, act_ord hO, m2, by omega, hb⟩⟩, h4.below bs (by omega) (fun k hk => by omega), fun k cs fz hk => h4.block k (lt_of_heap hk) fun hf => ?_⟩
  subst hf
  rw [h2.box] at hk
  injection hk with hk
  injection hk with _ h5 _
  revert h5
  decide
/-- A list of windows is told. -/
def Told6 (L : List (Int × Int)) (w : World) (e : Ending) (w' : World) : Prop := ∃ A c, e = .returned (.slice A L.length c) ∧ Wt w'.heap.size w' A L.length c L ∧ Below w.heap.size w w'
theorem taken_bo {w : World} {bs tb rb N : Nat} {mv : Option Nat} {T : Int → List (Int × Int)} {gb : Int → Nat} {A : Option Addr} {c : Nat} {R : List R3} (y : Int) (hy : IW y) (h : Bo w bs tb rb N mv T gb A c R) : Calls Try.prog 12 #[.pointer (some ⟨tb, 0, none⟩), .int .i64 y] w (Told6 (T y) w) :=
  (taken_any bs tb N mv T gb y w h.tab hy).mono fun e w' ⟨A, c, h1, h2, h3⟩ => ⟨A, c, h1, h2.wt, h3⟩
theorem free_bo {w : World} {bs tb rb N : Nat} {mv : Option Nat} {T : Int → List (Int × Int)} {gb : Int → Nat} {A : Option Addr} {c : Nat} {R : List R3} (y : Int) (hy : IW y) (h : Bo w bs tb rb N mv T gb A c R) : Calls Try.prog 14 #[.pointer (some ⟨tb, 0, none⟩), .int .i64 y] w (Told6 (frees (T y)) w) :=
  (free_any bs tb N mv T gb y w h.tab hy).mono fun e w' ⟨A, c, h1, h2, h3⟩ => ⟨A, c, h1, h2.wt, h3⟩
theorem rtaken_bo {w : World} {bs tb rb N : Nat} {mv : Option Nat} {T : Int → List (Int × Int)} {gb : Int → Nat} {A : Option Addr} {c : Nat} {R : List R3} (y : Int) (h : Bo w bs tb rb N mv T gb A c R) : Calls Try.prog 13 #[.pointer (some ⟨rb, 0, none⟩), .int .i64 y] w (Told6 (T y) w) := by
  have := r6taken_any rb A c R y w h.row
  rw [h.same y] at this
  exact this.mono fun e w' ⟨A, c, h1, h2, h3⟩ => ⟨A, c, h1, h2.wt, h3⟩
theorem rfree_bo {w : World} {bs tb rb N : Nat} {mv : Option Nat} {T : Int → List (Int × Int)} {gb : Int → Nat} {A : Option Addr} {c : Nat} {R : List R3} (y : Int) (h : Bo w bs tb rb N mv T gb A c R) : Calls Try.prog 15 #[.pointer (some ⟨rb, 0, none⟩), .int .i64 y] w (Told6 (frees (T y)) w) := by
  have := r6free_any rb A c R y w h.row
  rw [h.same y] at this
  exact this.mono fun e w' ⟨A, c, h1, h2, h3⟩ => ⟨A, c, h1, h2.wt, h3⟩
theorem is_bo {w : World} {bs tb rb N : Nat} {mv : Option Nat} {T : Int → List (Int × Int)} {gb : Int → Nat} {A : Option Addr} {c : Nat} {R : List R3} (y m : Int) (b : Bool) (hb : b = isT (T y) m) (hy : IW y) (h : Bo w bs tb rb N mv T gb A c R) : Calls Try.prog 16 #[.pointer (some ⟨tb, 0, none⟩), .int .i64 y, .int .i64 m] w fun e w' => e = .returned (.bool b) ∧ Below w.heap.size w w' := by
  rw [hb]; exact is_any bs tb N mv T gb y m w h.tab hy
theorem ris_bo {w : World} {bs tb rb N : Nat} {mv : Option Nat} {T : Int → List (Int × Int)} {gb : Int → Nat} {A : Option Addr} {c : Nat} {R : List R3} (y m : Int) (b : Bool) (hb : b = isT (T y) m) (h : Bo w bs tb rb N mv T gb A c R) : Calls Try.prog 17 #[.pointer (some ⟨rb, 0, none⟩), .int .i64 y, .int .i64 m] w fun e w' => e = .returned (.bool b) ∧ Below w.heap.size w w' := by
  have := r6is_any rb A c R y m w h.row (by rw [h.same y]; exact h.ord y)
  rw [h.same y] at this
  rw [hb]; exact this
theorem same_yes (A A' : Option Addr) (n c c' : Nat) (L : List (Int × Int)) (w : World) (h1 : Wt w.heap.size w A n c L) (h2 : Wt w.heap.size w A' n c' L) (hn : n ≤ 1000000) :
    Calls Try.prog 11 #[.slice A n c, .slice A' n c'] w fun e w' => e = .returned (.bool true) ∧ Below w.heap.size w w' := by
  have := same_any A A' n n c c' L L w h1 h2 hn
  rw [decide_eq_true (rfl : L = L)] at this
  exact this
end Go.Proofs.Ytafcdclaaagdlaa.Wn
