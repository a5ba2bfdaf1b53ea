/-
  Ways over a floor: the steps; what follows of how far cells are.
-/
import Derived.Test.YtaioiobimenkfaaDoorPtRef
import Derived.Test.YtaioiobimenkfaaDoorFlPlain
set_option linter.unusedVariables false
set_option maxRecDepth 100000
namespace Go.Proofs.YtaioiobimenkfaaDoor.Pt
open Fl

/-- What is near to a cell. -/
def nr (W H : Nat) (z : Nat → Nat) (c : Nat) : List Nat := (side W H c).filter fun b => z b != 35
/-- Can a cell be left? -/
def outB (z : Nat → Nat) (a c : Nat) : Bool := c == a || isL (z c)
/-- The steps out of a cell, of a way that begins at a. -/
def nx5 (W H : Nat) (z : Nat → Nat) (a : Nat) (B : Nat → Bool) (c : Nat) : List Nat := if outB z a c = true then (nr W H z c).filter (fun b => !B b) else []
theorem mem_nr {W H c y : Nat} {z : Nat → Nat} : y ∈ nr W H z c ↔ y ∈ side W H c ∧ z y ≠ 35 := by simp [nr]
theorem outB_iff {z : Nat → Nat} {a c : Nat} : outB z a c = true ↔ c = a ∨ isL (z c) = true := by simp [outB]
theorem mem_nx5 {W H a c y : Nat} {z : Nat → Nat} {B : Nat → Bool} : y ∈ nx5 W H z a B c ↔ (c = a ∨ isL (z c) = true) ∧ y ∈ nr W H z c ∧ B y = false := by
  unfold nx5
  split
  · rename_i h
    rw [outB_iff] at h
    simp [h]
  · rename_i h
    rw [outB_iff] at h
    simp [h]
theorem nx5_no {W H a c : Nat} {z : Nat → Nat} {B : Nat → Bool} (h : outB z a c = false) : nx5 W H z a B c = [] := by unfold nx5; rw [h]; rfl
theorem nx5_yes {W H a c : Nat} {z : Nat → Nat} {B : Nat → Bool} (h : outB z a c = true) : nx5 W H z a B c = (nr W H z c).filter (fun b => !B b) := by unfold nx5; rw [h]; rfl
theorem nr_lt {W H c y : Nat} {z : Nat → Nat} (hW : 1 ≤ W) (hc : c < W * H) (h : y ∈ nr W H z c) : y < W * H := side_lt hW hc (mem_nr.1 h).1
theorem nr_len (W H c : Nat) (z : Nat → Nat) : (nr W H z c).length ≤ 4 := Nat.le_trans (List.length_filter_le _ _) (side_len W H c)
theorem nx5_lt {W H a : Nat} {z : Nat → Nat} {B : Nat → Bool} (hW : 1 ≤ W) : ∀ x y, x < W * H → y ∈ nx5 W H z a B x → y < W * H := fun x y hx h => nr_lt hW hx (mem_nx5.1 h).2.1
theorem nx5_len (W H a c : Nat) (z : Nat → Nat) (B : Nat → Bool) : (nx5 W H z a B c).length ≤ 4 := by
  unfold nx5
  split
  · exact Nat.le_trans (List.length_filter_le _ _) (nr_len _ _ _ _)
  · exact Nat.zero_le _
theorem nx5_congr {W H a : Nat} {z : Nat → Nat} {B C : Nat → Bool} (h : ∀ y, y < W * H → B y = C y) (hW : 1 ≤ W) {c : Nat} (hc : c < W * H) : nx5 W H z a B c = nx5 W H z a C c := by
  unfold nx5
  split
  · exact List.filter_congr fun y hy => by rw [h y (nr_lt hW hc hy)]
  · rfl
/-- As the document's way asks it. -/
theorem far_floor {W H a cell t i r : Nat} {z : Nat → Nat} {B : Nat → Bool} {x : Int} (h : IsFar (nx5 W H z a B) (nx5 W H z cell B) cell t (outB z a cell = true) x) (hz : Lv (nx5 W H z a B) a (i + 1 + r) t) (hc : Wk (nx5 W H z a B) a (i + 1) cell) :
    x = (r : Int) ↔ Wk (nx5 W H z a B) cell r t := by
  by_cases ho : outB z a cell = true
  · refine far_iff h hz hc ?_ ?_ ?_
    · intro hn b hb y hy
      obtain ⟨h1, h2⟩ := mem_nx5.1 hy
      refine mem_nx5.2 ⟨.inr ?_, h2⟩
      rcases h1 with e | e
      · exact absurd e hb
      · exact e
    · intro b y hy
      obtain ⟨h1, h2⟩ := mem_nx5.1 hy
      refine mem_nx5.2 ⟨?_, h2⟩
      rcases h1 with rfl | e
      · exact outB_iff.1 ho
      · exact .inr e
    · intro e; rw [e]
  · rcases h with ⟨h0, h1⟩ | ⟨h0, h1, h2, h3⟩ | ⟨h0, h1, h2⟩
    · subst h0 h1
      have := hz.2 _ hc
      obtain rfl : r = 0 := by omega
      exact ⟨fun _ => .zero, fun _ => rfl⟩
    · subst h3
      refine ⟨fun e => by omega, fun hw => ?_⟩
      cases r with
      | zero => exact absurd hw.zero_eq.symm h0
      | succ r =>
        obtain ⟨b, h4, _⟩ := hw.uncons
        rw [h2] at h4; cases h4
    · exact absurd h1 ho

/-- With more cells blocked no way is shorter. -/
theorem blocked_le {W H a c : Nat} {z : Nat → Nat} {B C : Nat → Bool} {x y : Int} (h : ∀ b, B b = true → C b = true) (hx : IsD (nx5 W H z a B) a c x) (hy : IsD (nx5 W H z a C) a c y) (h0 : 0 ≤ y) : 0 ≤ x ∧ x ≤ y := by
  rcases hy with ⟨e, _⟩ | ⟨m, rfl, hm⟩
  · omega
  · have hw : Wk (nx5 W H z a B) a m c := hm.1.mono fun p q hq => by
      obtain ⟨h1, h2, h3⟩ := mem_nx5.1 hq
      refine mem_nx5.2 ⟨h1, h2, ?_⟩
      cases e : B q
      · rfl
      · rw [h q e] at h3; cases h3
    rcases hx with ⟨_, hn⟩ | ⟨n, rfl, hn⟩
    · exact absurd hw (hn m)
    · have := hn.2 _ hw; omega

/-- Neighbours differ by one step at most. -/
theorem step_le {W H a c b : Nat} {z : Nat → Nat} {B : Nat → Bool} {x y : Int} (hx : IsD (nx5 W H z a B) a c x) (hy : IsD (nx5 W H z a B) a b y) (h0 : 0 ≤ x) (hb : b ∈ nx5 W H z a B c) : 0 ≤ y ∧ y ≤ x + 1 := by
  rcases hx with ⟨e, _⟩ | ⟨m, rfl, hm⟩
  · omega
  · have hw := Wk.step hm.1 hb
    rcases hy with ⟨_, hn⟩ | ⟨n, rfl, hn⟩
    · exact absurd hw (hn _)
    · have := hn.2 _ hw; omega
/-- What is away has a neighbour one step nearer. -/
theorem step_near {W H a c : Nat} {z : Nat → Nat} {B : Nat → Bool} {x : Int} (hW : 1 ≤ W) (ha : a < W * H) (haw : z a ≠ 35) (hx : IsD (nx5 W H z a B) a c x) (h0 : 0 < x) : ∃ b, b ∈ nr W H z c ∧ b < W * H ∧ IsD (nx5 W H z a B) a b (x - 1) := by
  rcases hx with ⟨e, _⟩ | ⟨m, rfl, hm⟩
  · omega
  · cases m with
    | zero => simp at h0
    | succ m =>
      obtain ⟨b, h1, h2⟩ := hm.pred
      have hb := wk_lt ha (nx5_lt hW) h1.1
      obtain ⟨h3, h4, _⟩ := mem_nx5.1 h2
      refine ⟨b, mem_nr.2 ⟨side_sym hW hb (mem_nr.1 h4).1, ?_⟩, hb, .inr ⟨m, by omega, h1⟩⟩
      rcases h3 with rfl | h3
      · exact haw
      · intro e; rw [e] at h3; revert h3; decide
theorem isD_zero {nx : Nat → List Nat} {a c : Nat} {x : Int} (h : IsD nx a c x) : x = 0 ↔ c = a := by
  rcases h with ⟨rfl, hn⟩ | ⟨n, rfl, hn⟩
  · refine ⟨fun e => by omega, fun e => ?_⟩
    subst e; exact absurd .zero (hn 0)
  · refine ⟨fun e => ?_, fun e => ?_⟩
    · obtain rfl : n = 0 := by omega
      exact hn.1.zero_eq
    · subst e
      have := hn.2 _ .zero; omega

/-! ### Between lanes -/
theorem nx5_lane {W H a : Nat} {z : Nat → Nat} {B : Nat → Bool} (ha : isL (z a) = true) (c : Nat) : nx5 W H z a B c = if isL (z c) = true then (nr W H z c).filter (fun b => !B b) else [] := by
  unfold nx5
  have : outB z a c = isL (z c) := by
    unfold outB
    by_cases e : c = a
    · subst e; simp [ha]
    · rw [beq_eq_false_iff_ne.2 e]; rfl
  rw [this]
theorem nx5_same {W H a b : Nat} {z : Nat → Nat} {B : Nat → Bool} (ha : isL (z a) = true) (hb : isL (z b) = true) : nx5 W H z a B = nx5 W H z b B := by
  funext c; rw [nx5_lane ha, nx5_lane hb]
theorem wk_lane {W H a b n : Nat} {z : Nat → Nat} {B : Nat → Bool} (ha : isL (z a) = true) (h : Wk (nx5 W H z a B) a n b) : ∀ c, c ∈ nx5 W H z a B b → isL (z b) = true := fun c hc => by
  rw [nx5_lane ha] at hc
  split at hc
  · assumption
  · cases hc
theorem wk_back {W H a : Nat} {z : Nat → Nat} (hW : 1 ≤ W) (haN : a < W * H) (ha : isL (z a) = true) : ∀ {n b : Nat}, isL (z b) = true → Wk (nx5 W H z a fun _ => false) a n b → Wk (nx5 W H z a fun _ => false) b n a := by
  intro n
  induction n with
  | zero => intro b _ h; rw [h.zero_eq]; exact .zero
  | succ n ih =>
    intro b hb h
    obtain ⟨d, h1, h2⟩ := h.succ_inv
    have hd := wk_lane ha h1 b h2
    have hdN := wk_lt haN (nx5_lt hW) h1
    obtain ⟨_, h3, _⟩ := mem_nx5.1 h2
    have h4 : d ∈ nx5 W H z a (fun _ => false) b := mem_nx5.2 ⟨.inr hb, mem_nr.2 ⟨side_sym hW hdN (mem_nr.1 h3).1, fun e => by rw [e] at hd; revert hd; decide⟩, rfl⟩
    exact Wk.cons h4 (ih hd h1)
theorem back_same {W H a b : Nat} {z : Nat → Nat} {x y : Int} (hW : 1 ≤ W) (haN : a < W * H) (hbN : b < W * H) (ha : isL (z a) = true) (hb : isL (z b) = true) (hx : IsD (nx5 W H z a fun _ => false) a b x) (hy : IsD (nx5 W H z b fun _ => false) b a y) : x = y := by
  rw [nx5_same hb ha] at hy
  have h1 : ∀ n, Wk (nx5 W H z a fun _ => false) a n b → Wk (nx5 W H z a fun _ => false) b n a := fun n h => wk_back hW haN ha hb h
  have h2 : ∀ n, Wk (nx5 W H z a fun _ => false) b n a → Wk (nx5 W H z a fun _ => false) a n b := fun n h => by
    rw [nx5_same ha hb] at h ⊢
    exact wk_back hW hbN hb ha h
  refine IsD.uniq hx ?_
  rcases hy with ⟨rfl, hn⟩ | ⟨n, rfl, hn⟩
  · exact .inl ⟨rfl, fun n h => hn n (h1 n h)⟩
  · exact .inr ⟨n, rfl, h2 n hn.1, fun m hm => hn.2 m (h1 m hm)⟩
theorem lanes_reach {W H a b : Nat} {z : Nat → Nat} (hW : 1 ≤ W) (hJ : Joined W H z) (haN : a < W * H) (hbN : b < W * H) (ha : isL (z a) = true) (hb : isL (z b) = true) : ∃ n, Wk (nx5 W H z a fun _ => false) a n b := by
  obtain ⟨f, r, hp, hr⟩ := hJ
  have hall : ∀ c, c < W * H → isL (z c) = true → ∃ n, Wk (nx5 W H z a fun _ => false) f n c := fun c hc hl => by
    have hm : c ∈ f :: r := by rw [← hp]; exact mem_pick.2 ⟨hc, hl⟩
    have hf : isL (z f) = true := (mem_pick.1 (by rw [hp]; simp : f ∈ pick isL z (W * H))).2
    have := hr c hm (fun y => isL (z y) = true ∧ ∃ n, Wk (nx5 W H z a fun _ => false) f n y) ⟨hf, 0, .zero⟩ (fun x y ⟨hx, n, hn⟩ hy hly => ⟨hly, n + 1, .step hn (mem_nx5.2 ⟨.inr hx, mem_nr.2 ⟨hy, fun e => by rw [e] at hly; revert hly; decide⟩, rfl⟩)⟩)
    exact this.2
  have hfm : f ∈ pick isL z (W * H) := by rw [hp]; simp
  obtain ⟨hfN, hf⟩ := mem_pick.1 hfm
  obtain ⟨n, hn⟩ := hall a haN ha
  obtain ⟨m, hm⟩ := hall b hbN hb
  rw [nx5_same ha hf] at hn hm ⊢
  exact ⟨n + m, (wk_back hW hfN hf ha hn).trans hm⟩
theorem lanes_pos {W H a b : Nat} {z : Nat → Nat} {x : Int} (hW : 1 ≤ W) (hJ : Joined W H z) (haN : a < W * H) (hbN : b < W * H) (ha : isL (z a) = true) (hb : isL (z b) = true) (hx : IsD (nx5 W H z a fun _ => false) a b x) : 0 ≤ x := by
  obtain ⟨n, hn⟩ := lanes_reach hW hJ haN hbN ha hb
  rcases hx with ⟨_, h⟩ | ⟨m, rfl, _⟩
  · exact absurd hn (h n)
  · omega
theorem lanes_tri {W H a b c : Nat} {z : Nat → Nat} {x y u : Int} (hW : 1 ≤ W) (hJ : Joined W H z) (haN : a < W * H) (hbN : b < W * H) (hcN : c < W * H) (ha : isL (z a) = true) (hb : isL (z b) = true) (hc : isL (z c) = true)
    (hx : IsD (nx5 W H z a fun _ => false) a b x) (hy : IsD (nx5 W H z b fun _ => false) b c y) (hu : IsD (nx5 W H z a fun _ => false) a c u) : u ≤ x + y := by
  have h1 := lanes_pos hW hJ haN hbN ha hb hx
  have h2 := lanes_pos hW hJ hbN hcN hb hc hy
  rw [nx5_same hb ha] at hy
  rcases hx with ⟨e, _⟩ | ⟨n, rfl, hn⟩
  · omega
  · rcases hy with ⟨e, _⟩ | ⟨m, rfl, hm⟩
    · omega
    · have hw := hn.1.trans hm.1
      rcases hu with ⟨rfl, _⟩ | ⟨k, rfl, hk⟩
      · omega
      · have := hk.2 _ hw; omega

/-! ### Ways as lists -/
/-- Whether cells are a way: each a step from the one ahead. -/
def chI (nx : Nat → List Nat) : Nat → List Int → Bool
  | _, [] => true
  | a, x :: p => (nx a).any (fun y => ((y : Int) == x)) && chI nx x.toNat p
theorem chI_snoc (nx : Nat → List Nat) : ∀ (p : List Int) (a : Nat) (x : Int), chI nx a (p ++ [x]) = (chI nx a p && (nx ((p.getLast?.map Int.toNat).getD a)).any (fun y => ((y : Int) == x)))
  | [], a, x => by simp [chI]
  | [y], a, x => by simp [chI]
  | y :: v :: p, a, x => by
    have := chI_snoc nx (v :: p) y.toNat x
    show (_ && chI nx y.toNat ((v :: p) ++ [x])) = _
    rw [this, ← Bool.and_assoc]
    congr 3
theorem gr_chI {nx : Nat → List Nat} {z : Nat} : ∀ {p : List Nat} {a : Nat}, Gr nx z a p → chI nx a (p.map fun x : Nat => (x : Int)) = true
  | [], _, _ => rfl
  | x :: p, a, h => by
    obtain ⟨⟨l1, l2, e, _⟩, h2⟩ := h
    show ((nx a).any (fun y => ((y : Int) == (x : Int))) && chI nx ((x : Int)).toNat (p.map fun x : Nat => (x : Int))) = true
    rw [show ((x : Int)).toNat = x from rfl, gr_chI h2, Bool.and_true, e]
    simp
/-- A shortest way has no cell twice. -/
theorem gr_levels {nx : Nat → List Nat} {a z : Nat} : ∀ {p : List Nat} {b i : Nat}, Gr nx z b p → Wk nx a i b → Lv nx a (i + p.length) z → ∀ j, j < p.length → Lv nx a (i + 1 + j) (p.getD j 0)
  | [], _, _, _, _, _, j, h => by simp at h
  | x :: p, b, i, hg, hw, hz, j, hj => by
    obtain ⟨⟨l1, l2, e, _⟩, h2⟩ := hg
    have hx : Wk nx a (i + 1) x := .step hw (by rw [e]; simp)
    have hz' : Lv nx a (i + 1 + p.length) z := by
      have := hz; rw [List.length_cons] at this
      rwa [show i + 1 + p.length = i + (p.length + 1) by omega]
    cases j with
    | zero =>
      refine ⟨hx, fun m hm => ?_⟩
      have := hz'.2 _ (hm.trans h2.wk)
      omega
    | succ j =>
      have := gr_levels h2 hx hz' j (by simpa using hj)
      rw [show i + 1 + (j + 1) = i + 1 + 1 + j by omega]
      exact this
theorem way_distinct {nx : Nat → List Nat} {a z : Nat} {p : List Nat} (hg : Gr nx z a p) (hz : Lv nx a p.length z) : (a :: p).Nodup := by
  have hl := gr_levels hg .zero (by rwa [Nat.zero_add])
  rw [List.nodup_cons]
  constructor
  · intro hm
    obtain ⟨j, hj, e⟩ := List.getElem_of_mem hm
    have := hl j hj
    rw [List.getD, List.getElem?_eq_getElem hj, Option.getD_some, e] at this
    have := this.uniq (Lv.zero nx a)
    omega
  · rw [List.nodup_iff_pairwise_ne, List.pairwise_iff_getElem]
    intro i j hi hj hlt e
    have h1 := hl i hi
    have h2 := hl j hj
    rw [List.getD, List.getElem?_eq_getElem hi, Option.getD_some] at h1
    rw [List.getD, List.getElem?_eq_getElem hj, Option.getD_some, ← e] at h2
    have := h1.uniq h2
    omega
end Go.Proofs.YtaioiobimenkfaaDoor.Pt
