/-
  The document's search: all cells so far away, then those one step further; and its way, by how far it is from there.
-/
import Derived.Test.YtaioiobimenkfaaDoorPtBfs
set_option linter.unusedVariables false
set_option maxRecDepth 100000
namespace Go.Proofs.YtaioiobimenkfaaDoor.Pt

theorem getD_set_ne {α : Type} {l : List α} {i j : Nat} {x d : α} (h : i ≠ j) : (l.set i x).getD j d = l.getD j d := by
  simp [List.getD, h]
theorem getD_set_eq {α : Type} {l : List α} {i : Nat} {x d : α} (h : i < l.length) : (l.set i x).getD i d = x := by
  simp [List.getD, h]

structure Rd (nx : Nat → List Nat) (N a n i k : Nat) (d : List Int) : Prop where
  len : d.length = N
  low : ∀ c, c < N → d.getD c 0 ≠ -1 → ∃ m : Nat, d.getD c 0 = m ∧ Lv nx a m c ∧ m ≤ n + 1
  all : ∀ c, c < N → ∀ m, m ≤ n → Lv nx a m c → d.getD c 0 = m
  seen : ∀ b, b < i → d.getD b 0 = n → ∀ x, x ∈ nx b → d.getD x 0 ≠ -1
  now : ∀ x, x ∈ (nx i).take k → d.getD x 0 ≠ -1
theorem Rd.start (nx : Nat → List Nat) (N a : Nat) (h : a < N) : Rd nx N a 0 0 0 ((List.replicate N (-1)).set a 0) := by
  have hr : ∀ c, c < N → a ≠ c → ((List.replicate N (-1 : Int)).set a 0).getD c 0 = -1 := fun c hc hn => by
    rw [getD_set_ne hn]; simp [List.getD, hc]
  have ha : ((List.replicate N (-1 : Int)).set a 0).getD a 0 = 0 := getD_set_eq (by simpa using h)
  refine ⟨by simp, ?_, ?_, fun b hb => by omega, by simp⟩
  · intro c hc hn
    by_cases e : a = c
    · subst e; exact ⟨0, ha, Lv.zero _ _, by omega⟩
    · exact absurd (hr c hc e) hn
  · intro c hc m hm hl
    obtain rfl : m = 0 := by omega
    rw [hl.1.zero_eq]; exact ha
theorem Rd.sign {nx : Nat → List Nat} {N a n i k : Nat} {d : List Int} (h : Rd nx N a n i k d) {c : Nat} (hc : c < N) : d.getD c 0 < 0 ↔ d.getD c 0 = -1 := by
  refine ⟨fun hl => ?_, fun e => by omega⟩
  by_cases e : d.getD c 0 = -1
  · exact e
  · obtain ⟨m, hm, _⟩ := h.low c hc e; omega
theorem Rd.old {nx : Nat → List Nat} {N a n i k : Nat} {d : List Int} (h : Rd nx N a n i k d) (hk : k < (nx i).length) (hx : d.getD ((nx i).getD k 0) 0 ≠ -1) : Rd nx N a n i (k + 1) d := by
  refine ⟨h.len, h.low, h.all, h.seen, ?_⟩
  intro x hm
  rw [List.take_succ_eq_append_getElem hk] at hm
  rcases List.mem_append.1 hm with hm | hm
  · exact h.now x hm
  · have hge : (nx i).getD k 0 = (nx i)[k] := by rw [List.getD, List.getElem?_eq_getElem hk]; rfl
    rw [hge] at hx
    obtain rfl : x = _ := by simpa using hm
    exact hx
theorem Rd.new {nx : Nat → List Nat} {N a n i k : Nat} {d : List Int} (h : Rd nx N a n i k d) (hi : i < N) (hd : d.getD i 0 = n) (hk : k < (nx i).length) (hN : (nx i).getD k 0 < N) (hx : d.getD ((nx i).getD k 0) 0 = -1) : Rd nx N a n i (k + 1) (d.set ((nx i).getD k 0) ((n : Int) + 1)) := by
  have hmem : (nx i).getD k 0 ∈ nx i := by rw [List.getD, List.getElem?_eq_getElem hk]; exact List.getElem_mem hk
  have hge : (nx i).getD k 0 = (nx i)[k] := by rw [List.getD, List.getElem?_eq_getElem hk]; rfl
  have hlen := h.len
  generalize hz : (nx i).getD k 0 = z at *
  have hzz : (d.set z ((n : Int) + 1)).getD z 0 = (n : Int) + 1 := getD_set_eq (by omega)
  have hno : ∀ c, c ≠ z → (d.set z ((n : Int) + 1)).getD c 0 = d.getD c 0 := fun c hc => getD_set_ne (fun e => hc e.symm)
  have hlv : Lv nx a n i := by
    obtain ⟨m, h1, h2, _⟩ := h.low i hi (by omega)
    obtain rfl : m = n := by omega
    exact h2
  have hz1 : Lv nx a (n + 1) z := by
    refine ⟨.step hlv.1 hmem, fun m hm => ?_⟩
    obtain ⟨m', h1, h2⟩ := lv_of m hm
    rcases Nat.lt_or_ge n m' with e | e
    · omega
    · have := h.all z hN m' e h2
      omega
  have hne : ∀ c, d.getD c 0 ≠ -1 → (d.set z ((n : Int) + 1)).getD c 0 ≠ -1 := fun c hc => by
    by_cases e : c = z
    · subst e; exact absurd hx hc
    · rw [hno c e]; exact hc
  refine ⟨by simpa using h.len, ?_, ?_, ?_, ?_⟩
  · intro c hc hn
    by_cases e : c = z
    · subst e; exact ⟨n + 1, by rw [hzz]; simp, hz1, Nat.le_refl _⟩
    · rw [hno c e] at hn ⊢; exact h.low c hc hn
  · intro c hc m hm hl
    by_cases e : c = z
    · subst e
      have := h.all c hc m hm hl
      omega
    · rw [hno c e]; exact h.all c hc m hm hl
  · intro b hb hbn x hxm
    by_cases e : b = z
    · subst e; rw [hzz] at hbn; omega
    · rw [hno b e] at hbn
      exact hne x (h.seen b hb hbn x hxm)
  · intro x hxm
    rw [List.take_succ_eq_append_getElem hk, ← hge] at hxm
    rcases List.mem_append.1 hxm with hm | hm
    · exact hne x (h.now x hm)
    · obtain rfl : x = z := by simpa using hm
      rw [hzz]; omega
theorem Rd.next {nx : Nat → List Nat} {N a n i k : Nat} {d : List Int} (h : Rd nx N a n i k d) (hk : (nx i).length ≤ k) : Rd nx N a n (i + 1) 0 d := by
  refine ⟨h.len, h.low, h.all, ?_, by simp⟩
  intro b hb hbn x hx
  by_cases e : b = i
  · subst e; exact h.now x (by rw [List.take_of_length_le hk]; exact hx)
  · exact h.seen b (by omega) hbn x hx
theorem Rd.past {nx : Nat → List Nat} {N a n i k : Nat} {d : List Int} (h : Rd nx N a n i k d) (hd : d.getD i 0 ≠ n) : Rd nx N a n (i + 1) 0 d := by
  refine ⟨h.len, h.low, h.all, ?_, by simp⟩
  intro b hb hbn x hx
  by_cases e : b = i
  · subst e; exact absurd hbn hd
  · exact h.seen b (by omega) hbn x hx
theorem Rd.round {nx : Nat → List Nat} {N a n i k : Nat} {d : List Int} (h : Rd nx N a n i k d) (hi : N ≤ i) (ha : a < N) (hN : ∀ x y, x < N → y ∈ nx x → y < N) : Rd nx N a (n + 1) 0 0 d := by
  refine ⟨h.len, ?_, ?_, fun b hb => by omega, by simp⟩
  · intro c hc hn
    obtain ⟨m, h1, h2, h3⟩ := h.low c hc hn
    exact ⟨m, h1, h2, by omega⟩
  · intro c hc m hm hl
    by_cases e : m ≤ n
    · exact h.all c hc m e hl
    · obtain rfl : m = n + 1 := by omega
      obtain ⟨b, h1, h2⟩ := hl.pred
      have hb := wk_lt ha hN h1.1
      have := h.all b hb n (Nat.le_refl _) h1
      have := h.seen b (by omega) this c h2
      obtain ⟨m', k1, k2, _⟩ := h.low c hc this
      rw [k1, k2.uniq hl]
theorem Rd.isD {nx : Nat → List Nat} {N a n i k : Nat} {d : List Int} (h : Rd nx N a n i k d) (hn : N ≤ n) (ha : a < N) (hN : ∀ x y, x < N → y ∈ nx x → y < N) (c : Nat) (hc : c < N) : IsD nx a c (d.getD c 0) := by
  by_cases e : d.getD c 0 = -1
  · refine .inl ⟨e, fun m hm => ?_⟩
    obtain ⟨m', h1, h2⟩ := lv_of m hm
    have := lv_lt ha hN h2
    have := h.all c hc m' (by omega) h2
    omega
  · obtain ⟨m, h1, h2, _⟩ := h.low c hc e
    exact .inr ⟨m, h1, h2⟩

/-- What is far as the document's way asks it: of a cell that can't be left, of the aim, of another one. -/
def IsFar (nx ny : Nat → List Nat) (cell z : Nat) (out : Prop) (x : Int) : Prop := (cell = z ∧ x = 0) ∨ (cell ≠ z ∧ ¬ out ∧ nx cell = [] ∧ x = -1) ∨ (cell ≠ z ∧ out ∧ IsD ny cell z x)
theorem far_iff {nx ny : Nat → List Nat} {a cell z i r : Nat} {out : Prop} {x : Int} (h : IsFar nx ny cell z out x) (hz : Lv nx a (i + 1 + r) z) (hc : Wk nx a (i + 1) cell)
    (h1 : cell ≠ a → ∀ b, b ≠ a → ∀ y, y ∈ nx b → y ∈ ny b) (h2 : ∀ b y, y ∈ ny b → y ∈ nx b) (h3 : cell = a → nx = ny) : x = (r : Int) ↔ Wk nx cell r z := by
  rcases h with ⟨rfl, rfl⟩ | ⟨h0, _, hn, rfl⟩ | ⟨h0, _, hd⟩
  · have := hz.2 _ hc
    obtain rfl : r = 0 := by omega
    exact ⟨fun _ => .zero, fun _ => rfl⟩
  · refine ⟨fun e => by omega, fun hw => ?_⟩
    cases r with
    | zero => exact absurd hw.zero_eq.symm h0
    | succ r =>
      obtain ⟨b, h4, _⟩ := hw.uncons
      rw [hn] at h4; cases h4
  · by_cases e : cell = a
    · obtain rfl := h3 e
      subst e
      refine ⟨fun hx => ?_, fun hw => ?_⟩
      · rcases hd with ⟨e, _⟩ | ⟨n, e, hl⟩
        · omega
        · have := hl.uniq hz; omega
      · have := hz.2 _ hw; omega
    · have hto : ∀ m, m ≤ r → ∀ y, Wk nx cell m y → Wk nx y (r - m) z → Wk ny cell m y := by
        intro m
        induction m with
        | zero => intro _ y hw _; rw [hw.zero_eq]; exact .zero
        | succ m ih =>
          intro hm y hw hrest
          obtain ⟨b, k1, k2⟩ := hw.succ_inv
          have hb : Wk nx b (r - m) z := by
            rw [show r - m = (r - (m + 1)) + 1 by omega]
            exact Wk.cons k2 hrest
          refine .step (ih (by omega) b k1 hb) ?_
          refine h1 e b (fun eb => ?_) y k2
          subst eb
          have := hz.2 _ hb
          omega
      have hxr : ∀ n : Nat, Lv ny cell n z → r ≤ n := fun n hn => by
        have := hz.2 _ (hc.trans (hn.1.mono h2))
        omega
      refine ⟨fun hx => ?_, fun hw => ?_⟩
      · rcases hd with ⟨e, _⟩ | ⟨n, e, hl⟩
        · omega
        · obtain rfl : n = r := by omega
          exact hl.1.mono h2
      · have hw' := hto r (Nat.le_refl _) z hw (by rw [Nat.sub_self]; exact .zero)
        rcases hd with ⟨_, hn⟩ | ⟨n, e, hl⟩
        · exact absurd hw' (hn r)
        · have := hl.2 _ hw'
          have := hxr n hl
          omega

/-- The document's way, as far as it was told. -/
structure Go (nx : Nat → List Nat) (a z n : Nat) (out : List Nat) (at_ i : Nat) : Prop where
  wk : Wk nx at_ n z
  here : Wk nx a i at_
  there : Lv nx a (i + n) z
  pre : ∀ p, p.length = n → Gr nx z at_ p → Gr nx z a (out ++ p)
theorem Go.start {nx : Nat → List Nat} {a z n : Nat} (h : Lv nx a n z) : Go nx a z n [] a 0 := ⟨h.1, .zero, by rwa [Nat.zero_add], fun p _ h => h⟩
theorem Go.some {nx : Nat → List Nat} {a z n at_ i : Nat} {out : List Nat} (h : Go nx a z (n + 1) out at_ i) : ∃ k, k < (nx at_).length ∧ Wk nx ((nx at_).getD k 0) n z := by
  obtain ⟨b, h1, h2⟩ := h.wk.uncons
  obtain ⟨k, hk, rfl⟩ := List.getElem_of_mem h1
  exact ⟨k, hk, by rw [List.getD, List.getElem?_eq_getElem hk]; exact h2⟩
theorem Go.step {nx : Nat → List Nat} {a z n at_ i k : Nat} {out : List Nat} (h : Go nx a z (n + 1) out at_ i) (hk : k < (nx at_).length) (hw : Wk nx ((nx at_).getD k 0) n z) (hb : ∀ j, j < k → ¬ Wk nx ((nx at_).getD j 0) n z) :
    Go nx a z n (out ++ [(nx at_).getD k 0]) ((nx at_).getD k 0) (i + 1) := by
  have hge : (nx at_).getD k 0 = (nx at_)[k] := by rw [List.getD, List.getElem?_eq_getElem hk]; rfl
  have hj' := List.take_append_drop k (nx at_)
  rw [List.drop_eq_getElem_cons hk] at hj'
  refine ⟨hw, .step h.here (by rw [hge]; exact List.getElem_mem hk), by have := h.there; rwa [show i + 1 + n = i + (n + 1) by omega], fun p hp hg => ?_⟩
  rw [List.append_assoc]
  refine h.pre _ (by simp [hp]) ⟨⟨(nx at_).take k, (nx at_).drop (k + 1), by rw [hge]; exact hj'.symm, fun y hy => ?_⟩, hg⟩
  obtain ⟨j, hj, rfl⟩ := List.getElem_of_mem hy
  rw [List.length_take] at hj
  rw [List.getElem_take, show ([].append p).length = n from hp]
  have := hb j (by omega)
  rwa [List.getD, List.getElem?_eq_getElem (by omega : j < (nx at_).length)] at this
theorem Go.finish {nx : Nat → List Nat} {a z at_ i : Nat} {out : List Nat} (h : Go nx a z 0 out at_ i) : Gr nx z a out := by
  have := h.pre [] rfl h.wk.zero_eq.symm
  rwa [List.append_nil] at this
end Go.Proofs.YtaioiobimenkfaaDoor.Pt
