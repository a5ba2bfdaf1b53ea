/-
  Lists of bytes at a slice; what stands ahead.
-/
import Derived.Test.YtbdlcmpljhbebaaChkE
set_option linter.unusedVariables false
namespace Go.Proofs.Ytbdlcmpljhbebaa
open Go.RowKit Bp Ck

/-- The bytes that must be a frame, if b begins with one. -/
def ahd (b : List Nat) : List Nat := if b.length < 4 then [] else b.take (256 * b.getD 0 0 + b.getD 1 0 + 4)
theorem ahd_len (b : List Nat) : (ahd b).length ≤ b.length := by
  unfold ahd
  split
  · simp
  · rw [List.length_take]; omega

theorem ahead_any {B : Nat} {w : World} {A : Option Addr} {n cap : Nat} {zs : List Nat} (h : By B w A n cap zs) :
    Calls Try.prog 50 #[.slice A n cap] w fun e w' => ∃ A', e = .returned (.slice A' (ahd zs).length (ahd zs).length) ∧ By B w A' (ahd zs).length (ahd zs).length (ahd zs) ∧ Below w.heap.size w w' := by
  have hl := h.len
  by_cases h4 : n < 4
  · have HA : Hid (ahd zs = []) := Lib.hid (by unfold ahd; rw [if_pos (by omega)])
    have HN := Lib.hid (By.none_ B w)
    clear h hl
    go_enter Try.func50, Try.ntmps50
    go_wp2
    go_ret
    exact ⟨none, by rw [HA.out]; rfl, by rw [HA.out]; exact HN.out, Below.refl _ _⟩
  · have HF := Lib.hid (frameLen_any h (by omega))
    have HA : Hid (ahd zs = zs.take (256 * zs.getD 0 0 + zs.getD 1 0 + 4)) := Lib.hid (by unfold ahd; rw [if_neg (by omega)])
    generalize 256 * zs.getD 0 0 + zs.getD 1 0 + 4 = m at *
    obtain ⟨k, hk⟩ : ∃ k, k = min m n := ⟨_, rfl⟩
    have hmin : min (m : Int) (n : Int) = (k : Int) := by omega
    have HK : Hid (ahd zs = (zs.drop 0).take (k - 0)) := Lib.hid (by
      rw [HA.out, List.drop_zero, Nat.sub_zero, hk, ← hl]
      by_cases hc : m ≤ zs.length
      · rw [Nat.min_eq_left hc]
      · rw [Nat.min_eq_right (by omega), List.take_length, List.take_of_length_le (by omega)])
    have HL : Hid ((ahd zs).length = k - 0) := Lib.hid (by rw [HK.out, List.length_take, List.length_drop]; omega)
    have hkn : k ≤ n := by omega
    have hle := h.le
    have HC := Lib.hid (h.cut 0 k k (by omega) hkn (Nat.le_refl _) (by omega))
    clear h hl hk HA
    go_enter Try.func50, Try.ntmps50
    go_wp2_with fail
    refine HF.out.mono ?_
    rintro e w1 ⟨rfl, hb⟩
    have HB := Lib.hid hb
    clear hb HF
    go_wp2_with fail
    refine (cut_any A n cap 0 k _ _ _ (by omega) (by omega) rfl (by first | exact hmin | rfl)).mono ?_
    rintro e w2 ⟨rfl, rfl⟩
    go_wp2
    go_ret
    exact ⟨cutA A 0 k, by rw [HL.out]; rfl, by rw [HL.out, HK.out]; exact HC.out, HB.out⟩

/-- The lists ls lie at the slice (A, n, cap) of slices of bytes. -/
structure Bss (B : Nat) (w : World) (A : Option Addr) (n cap : Nat) (ls : List (List Nat)) : Prop where
  len : ls.length = n
  le : n ≤ cap
  max : cap ≤ maxLen
  cell : 0 < n → ∃ g off, A = some ⟨g, off, none⟩ ∧ g < B ∧ ∀ j, j < n → ∃ A' n' c', w.cell? ⟨g, off + j, none⟩ = some (.slice A' n' c') ∧ By B w A' n' c' (ls.getD j [])

theorem Bss.below {B : Nat} {w w' : World} {A : Option Addr} {n cap : Nat} {ls : List (List Nat)} (h : Bss B w A n cap ls) (hb : Below B w w') : Bss B w' A n cap ls :=
  ⟨h.len, h.le, h.max, fun hn => by
    obtain ⟨g, off, hA, hg, hc⟩ := h.cell hn
    refine ⟨g, off, hA, hg, fun j hj => ?_⟩
    obtain ⟨A', n', c', h1, h2⟩ := hc j hj
    exact ⟨A', n', c', (hb.cell (p := ⟨g, off + j, none⟩) hg).trans h1, h2.below hb⟩⟩
theorem Bss.mono {B B' : Nat} {w : World} {A : Option Addr} {n cap : Nat} {ls : List (List Nat)} (h : Bss B w A n cap ls) (hb : B ≤ B') : Bss B' w A n cap ls :=
  ⟨h.len, h.le, h.max, fun hn => by
    obtain ⟨g, off, hA, hg, hc⟩ := h.cell hn
    refine ⟨g, off, hA, by omega, fun j hj => ?_⟩
    obtain ⟨A', n', c', h1, h2⟩ := hc j hj
    exact ⟨A', n', c', h1, h2.mono hb⟩⟩
theorem Bss.drew {B : Nat} {w : World} {A : Option Addr} {n cap : Nat} {ls : List (List Nat)} (h : Bss B w A n cap ls) : Bss B w.drew A n cap ls := h.below (Below.refl _ _).drew
theorem Bss.take {B : Nat} {w : World} {A : Option Addr} {n cap : Nat} {ls : List (List Nat)} (h : Bss B w A n cap ls) (e : Nat) (h2 : e ≤ n) : Bss B w A e cap (ls.take e) := by
  have hl := h.len
  refine ⟨by rw [List.length_take]; omega, by have := h.le; omega, h.max, fun hn => ?_⟩
  obtain ⟨g, off, hA, hg, hc⟩ := h.cell (by omega)
  refine ⟨g, off, hA, hg, fun j hj => ?_⟩
  obtain ⟨A', n', c', h1, h2⟩ := hc j (by omega)
  refine ⟨A', n', c', h1, ?_⟩
  have : (ls.take e).getD j [] = ls.getD j [] := by simp [List.getD, hj]
  rw [this]; exact h2
theorem Bss.cut {B : Nat} {w : World} {A : Option Addr} {n cap : Nat} {ls : List (List Nat)} (h : Bss B w A n cap ls) (l : Nat) (h1 : l ≤ n) : Bss B w (cutA A l cap) (n - l) (cap - l) (ls.drop l) := by
  have hl := h.len
  have hle := h.le
  refine ⟨by rw [List.length_drop]; omega, by omega, by have := h.max; omega, fun hn => ?_⟩
  obtain ⟨g, off, hA, hg, hc⟩ := h.cell (by omega)
  subst hA
  unfold cutA
  rw [if_neg (by omega)]
  refine ⟨g, off + l, by simp [plain_add], hg, fun j hj => ?_⟩
  obtain ⟨A', n', c', h1, h2⟩ := hc (l + j) (by omega)
  refine ⟨A', n', c', by rw [Nat.add_assoc]; exact h1, ?_⟩
  have : (ls.drop l).getD j [] = ls.getD (l + j) [] := by simp [List.getD]
  rw [this]; exact h2

/-- Bytes do not lie in the block of a row. -/
def Apart (v : Value) (A : Option Addr) (n : Nat) : Prop := 0 < n → ∀ x, A = some x → v.ownBlock ≠ some x.block
/-- A row of one's own of slices of bytes: what each of them reads as. -/
structure Lst (base : Nat) (w : World) (v : Value) (ls : List (List Nat)) : Prop where
  row : ∃ cs : List Value, w.ownsRow base 22 1 v ls.length cs ∧ ∀ j, j < ls.length → ∃ A' n' c', cs[j]? = some (.slice A' n' c') ∧ By w.heap.size w A' n' c' (ls.getD j []) ∧ Apart v A' n'
theorem Lst.none_ (base : Nat) (w : World) : Lst base w (.slice none 0 0) [] := ⟨[], World.ownsRow_nil _ _ _ _, fun j hj => by simp at hj⟩
theorem Lst.bss {base : Nat} {w : World} {v : Value} {ls : List (List Nat)} (h : Lst base w v ls) : ∃ A c, v = .slice A ls.length c ∧ Bss w.heap.size w A ls.length c ls := by
  obtain ⟨cs, ho, hc⟩ := h.row
  have hcl := ho.1
  rcases ho.2 with ⟨rfl, h0⟩ | ⟨g, cap, cur, rfl, hg, hh, hnc, hcm, _⟩
  · have : ls = [] := List.eq_nil_of_length_eq_zero h0
    subst this
    exact ⟨none, 0, rfl, rfl, Nat.le_refl _, Nat.zero_le _, fun h => by simp at h⟩
  · refine ⟨some ⟨g, 0, none⟩, cap, rfl, rfl, hnc, hcm, fun hn => ⟨g, 0, rfl, lt_of_heap hh, fun j hj => ?_⟩⟩
    obtain ⟨A', n', c', h1, h2, _⟩ := hc j hj
    exact ⟨A', n', c', by rw [Nat.zero_add, ho.cellAt j (by omega)]; exact h1, h2⟩
theorem Lst.later {base : Nat} {w w' : World} {v : Value} {ls : List (List Nat)} (h : Lst base w v ls) (hb : Below w.heap.size w w') : Lst base w' v ls := by
  obtain ⟨cs, ho, hc⟩ := h.row
  refine ⟨cs, ownsRow_same ho (fun k hk => hb.block k (ho.lt k hk).2), fun j hj => ?_⟩
  obtain ⟨A', n', c', h1, h2, h3⟩ := hc j hj
  exact ⟨A', n', c', h1, (h2.below hb).mono hb.size, h3⟩

theorem Try.infoBs : (Try.prog.info? 22).map (fun i => (i.zero, i.size, i.bytes)) = some (some (.slice none 0 0), 1, 24) := by kernel_rfl

/-- A slice of bytes is appended to a row of one's own. -/
theorem app_one {w : World} {ops : Array Oper} {rest : List Oper} {o : Oper} {a : Act} {Q : Exit → Act → World → Prop} (hgd : o.guard = none) (s x : Operand)
    (ho : o.op = .call { callee := .builtin .append, args := #[s, x], argTypes := #[49, 49] })
    (base : Nat) (v : Value) (ls : List (List Nat)) (hs : a.eval s = v) (A : Option Addr) (n c : Nat) (zs : List Nat) (w0 : World) (hw : w = w0.alloc (.cells #[.slice A n c] 22)) (hl : Lst base w0 v ls)
    (hx : a.eval x = .slice (some ⟨w0.heap.size, 0, none⟩) 1 1) (hr : By w0.heap.size w0 A n c zs) (hap : Apart v A n) (hf : ls.length ≤ 1048576) (hbase : base ≤ w0.heap.size)
    (h : ∀ A' c' w', Lst base w' (.slice A' (ls.length + 1) c') (ls ++ [zs]) → Below base w0 w' → wpList Try.prog ops Q rest (a.put o.dst (.slice A' (ls.length + 1) c')) w') : wpList Try.prog ops Q (o :: rest) a w := by
  obtain ⟨i0, hi, hz0, hz1, hz2⟩ := info_parts Try.infoBs
  obtain ⟨cs, hown, hc⟩ := hl.row
  subst hw
  refine wpList_append_own_at _ hgd s x 49 ho base 22 i0 (.slice none 0 0) 1 24 Try.underlying49 hi hz0 hz1 hz2 rfl (by decide) v ls.length cs hs (hown.alloc _) ⟨w0.heap.size, 0, none⟩ 1 1 [.slice A n c] hx rfl ?_ ?_ (by unfold maxLen; omega) (by omega) (by simp; omega) ?_
  · intro j u hj
    match j, hj with
    | 0, hj => simp at hj; subst hj; simp [Addr.add]
  · intro u hu; simp at hu; subst hu; rfl
  intro v' w' h1 h2 h3 h4
  obtain ⟨A', c', hv⟩ := ownsRow_shape h1
  subst hv
  have hcl := hown.1
  have hB0 : Below base w0 w' := Below.grown ((Below.refl _ _).alloc hbase _) h2 (by simp; omega) (fun k hk => (hown.lt k hk).1)
  have hBr : ∀ {A2 n2 c2 zs2}, By w0.heap.size w0 A2 n2 c2 zs2 → Apart v A2 n2 → By w'.heap.size w' A2 n2 c2 zs2 ∧ Apart (.slice A' (ls.length + 1) c') A2 n2 := by
    intro A2 n2 c2 zs2 hy hp
    refine ⟨⟨hy.len, hy.le, hy.max, hy.nil, hy.byte, fun hn => ?_⟩, fun hn x hx e => ?_⟩
    · obtain ⟨g, off, hA, hg, hcell⟩ := hy.cell hn
      refine ⟨g, off, hA, Nat.lt_of_lt_of_le hg hB0.size, fun j hj => ?_⟩
      rw [World.cell?_of_block (a := ⟨g, off + j, none⟩) (h2.block g (by simp; omega) (fun e => hp hn _ hA e.symm)), World.cell?_alloc_lt _ _ _ hg]
      exact hcell j hj
    · obtain ⟨g, off, hA, hg, hcell⟩ := hy.cell hn
      rw [hA] at hx
      simp only [Option.some.injEq] at hx
      subst hx
      rcases h4 with h4 | h4
      · rw [h4] at e; exact hp hn _ hA e
      · rw [h4] at e
        simp at e
        omega
  refine h A' c' w' ⟨cs ++ [.slice A n c], by simpa using h1, fun j hj => ?_⟩ hB0
  rw [List.length_append, List.length_singleton] at hj
  rcases Nat.lt_or_ge j ls.length with hj' | hj'
  · obtain ⟨A2, n2, c2, e1, e2, e3⟩ := hc j hj'
    refine ⟨A2, n2, c2, by rw [List.getElem?_append_left (by omega)]; exact e1, ?_⟩
    have : (ls ++ [zs]).getD j [] = ls.getD j [] := by simp [List.getD, List.getElem?_append_left hj']
    rw [this]; exact hBr e2 e3
  · have hj2 : j = ls.length := by omega
    subst hj2
    refine ⟨A, n, c, by rw [List.getElem?_append_right (by omega)]; simp [hcl], ?_⟩
    have : (ls ++ [zs]).getD ls.length [] = zs := by simp [List.getD]
    rw [this]; exact hBr hr hap

end Go.Proofs.Ytbdlcmpljhbebaa
