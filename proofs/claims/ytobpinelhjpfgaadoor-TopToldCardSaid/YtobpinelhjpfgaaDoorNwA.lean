/-
  Layer 13: bytes in memory, of whatever make and of one's own, and their text; rows of one cell each: one is appended, some are deleted.
-/
import Derived.Test.YtobpinelhjpfgaaDoorBkA
import Derived.Deep.RegionLaw
import Derived.Deep.Upon
import Derived.Laws.CopyOwn
import Derived.Laws.BytesArg
import Derived.Lib.SliceRun
set_option linter.unusedVariables false
set_option maxRecDepth 100000
namespace Go.Proofs.YtobpinelhjpfgaaDoor
namespace Nw
open Go.RowKit Go.Maps Bk

theorem Tryd.infoU8 : (Tryd.prog.info? 5).map (fun i => (i.zero, i.size, i.bytes)) = some (some (.int .u8 0), 1, 1) := by kernel_rfl
theorem Tryd.infoBytes : (Tryd.prog.info? 35).map (fun i => (i.zero, i.size, i.bytes)) = some (some (.slice none 0 0), 1, 24) := by kernel_rfl
theorem Tryd.infoStr : (Tryd.prog.info? 9).map (fun i => (i.zero, i.size, i.bytes)) = some (some (.string ⟨#[]⟩), 1, 16) := by kernel_rfl
def u8s (L : List Int) : List Value := L.map fun z => Value.int .u8 z
theorem u8s_one (L : List Int) : ∀ u ∈ u8s L, u.oneCell' = true := by
  intro u hu
  simp only [u8s, List.mem_map] at hu
  obtain ⟨z, _, rfl⟩ := hu
  rfl
theorem u8s_get {L : List Int} {j : Nat} (h : j < L.length) : (u8s L)[j]? = some (.int .u8 (L.getD j 0)) := by simp [u8s, List.getD, List.getElem?_eq_getElem h]
theorem own_kind {w : World} {base k n : Nat} {e : TypeId} {v : Value} {xs : List Value} (h : w.ownsRow base e k v n xs) : ∀ g, v.ownBlock = some g → g < w.heap.size ∧ base ≤ g ∧ ∃ c fz, w.heap[g]? = some (.cells c e fz) := by
  intro g hg
  refine ⟨(World.ownsRow.lt h g hg).2, (World.ownsRow.lt h g hg).1, ?_⟩
  rcases h.2 with ⟨q, _⟩ | ⟨g0, c0, cur, q, _, hh, _⟩
  · rw [q] at hg; cases hg
  · have : g = g0 := by rw [q] at hg; simpa [Value.ownBlock] using hg.symm
    subst this; exact ⟨cur, _, hh⟩
/-- Numbers that are bytes. -/
def Rg (zs : List Int) : Prop := ∀ z ∈ zs, 0 ≤ z ∧ z ≤ 255
theorem rg_nil : Rg [] := by intro z hz; simp at hz
theorem rg_app {a b : List Int} (ha : Rg a) (hb : Rg b) : Rg (a ++ b) := fun z hz => (List.mem_append.1 hz).elim (ha z) (hb z)
/-- Bytes at a slice, of whatever make, and their text. -/
def Yb (B : Nat) (w : World) (A : Option Addr) (n cap : Nat) (s : ByteArray) : Prop := ∃ zs : List Int, Gt 1 B w A n cap (u8s zs) ∧ strOfNums zs = s ∧ Rg zs
/-- Bytes of one's own, and their text. -/
def Yw (w : World) (base : Nat) (v : Value) (s : ByteArray) : Prop := ∃ zs : List Int, w.ownsRow base 5 1 v zs.length (u8s zs) ∧ strOfNums zs = s ∧ Rg zs
section
variable {B B' base base' n cap : Nat} {w w' : World} {A : Option Addr} {v : Value} {s : ByteArray}
theorem Yb.below (h : Yb B w A n cap s) (hb : Below B w w') : Yb B w' A n cap s := by obtain ⟨zs, h1, h2⟩ := h; exact ⟨zs, h1.below hb, h2⟩
theorem Yb.raise (h : Yb B w A n cap s) (hb : B ≤ B') : Yb B' w A n cap s := by obtain ⟨zs, h1, h2⟩ := h; exact ⟨zs, h1.raise hb, h2⟩
theorem Yb.later (h : Yb w.heap.size w A n cap s) (hb : Below w.heap.size w w') : Yb w'.heap.size w' A n cap s := (h.below hb).raise hb.size
theorem Yb.size (h : Yb B w A n cap s) : s.size = n := by
  obtain ⟨zs, h1, rfl, -⟩ := h
  have := h1.len
  rw [strOfNums_size]
  simpa [u8s] using this
theorem Yb.nothing (B : Nat) (w : World) : Yb B w none 0 0 ByteArray.empty := ⟨[], Gt.nothing _ _ _, by kernel_rfl, rg_nil⟩
theorem Yb.conv (h : Yb B w A n cap s) : (convert 35 9 (.slice A n cap)).run Tryd.prog w = .ok (.string s) w := by
  obtain ⟨zs, h1, rfl, -⟩ := h
  have hl : zs.length = n := by simpa [u8s] using h1.len
  cases A with
  | none =>
    have hc := h1.nil rfl
    have hn : n = 0 := by have := h1.le; omega
    subst hc hn
    obtain rfl : zs = [] := List.eq_nil_of_length_eq_zero hl
    exact run_convert_bytes_nil w _ _ Tryd.underlying35 Tryd.underlying5 0 0 _ Tryd.underlying9
  | some ad =>
    rcases Nat.eq_zero_or_pos n with h0 | h0
    · subst h0
      obtain rfl : zs = [] := List.eq_nil_of_length_eq_zero hl
      have hl0 : (loadCells ad 0).run Tryd.prog w = .ok (([] : List Int).map (Value.int .u8)).toArray w := by
        have := run_loadCells_list (P := Tryd.prog) w ad ([] : List Value) (fun j v hj => by simp at hj)
        simpa using this
      rw [run_convert_bytes_string w 35 9 5 _ 0 cap Tryd.underlying35 Tryd.underlying5 Tryd.underlying9, run_bytesToString w _ 0 cap [] hl0]
      rfl
    · obtain ⟨g, off, hA, hg, hc⟩ := h1.cell h0
      injection hA with hA
      subst hA
      refine run_convert_bytes_arg w _ _ Tryd.underlying35 Tryd.underlying5 g off n cap zs hl (fun i hi => ?_) _ Tryd.underlying9
      rw [hc i (by omega), u8s_get (by omega)]
theorem Yw.form (h : Yw w base v s) : ∃ A c, v = .slice A s.size c := by
  obtain ⟨zs, h1, rfl, -⟩ := h
  obtain ⟨A, c, e⟩ := own_form h1
  exact ⟨A, c, by rw [strOfNums_size]; exact e⟩
theorem Yw.yb (h : Yw w base (.slice A n cap) s) : Yb w.heap.size w A n cap s := by
  obtain ⟨zs, h1, h2⟩ := h
  obtain ⟨rfl, h3⟩ := gt_own h1
  exact ⟨zs, h3, h2⟩
theorem Yw.kind (h : Yw w base v s) : ∀ g, v.ownBlock = some g → g < w.heap.size ∧ base ≤ g ∧ ∃ c fz, w.heap[g]? = some (.cells c 5 fz) := by obtain ⟨zs, h1, _⟩ := h; exact own_kind h1
theorem Yw.same (h : Yw w base v s) (h2 : ∀ k, v.ownBlock = some k → w'.heap[k]? = w.heap[k]?) : Yw w' base v s := by obtain ⟨zs, h1, h3⟩ := h; exact ⟨zs, ownsRow_same h1 h2, h3⟩
theorem Yw.later (h : Yw w base v s) (hb : Below w.heap.size w w') : Yw w' base v s := h.same fun k hk => hb.block k (h.kind k hk).1
theorem Yw.lower (h : Yw w base v s) (hb : base' ≤ base) : Yw w base' v s := by obtain ⟨zs, h1, h2⟩ := h; exact ⟨zs, own_lower h1 hb, h2⟩
theorem Yw.nil (w : World) (base : Nat) : Yw w base (.slice none 0 0) ByteArray.empty := ⟨[], World.ownsRow_nil _ _ _ _, by kernel_rfl, rg_nil⟩
theorem Yw.one (h : Yw w base v s) : v.oneCell' = true := by obtain ⟨A, c, rfl⟩ := h.form; rfl
end
/-- Bytes are appended to bytes of one's own. -/
theorem strOfNums_app (a b : List Int) : strOfNums (a ++ b) = strOfNums a ++ strOfNums b := by
  apply ByteArray.ext
  rw [ByteArray.data_append]
  apply Array.toList_inj.1
  rw [Array.toList_append, strOfNums_data, strOfNums_data, strOfNums_data, List.map_append]
theorem app_bytes {w : World} {ops : Array Oper} {rest : List Oper} {o : Oper} {a : Act} {Q : Exit → Act → World → Prop} (hgd : o.guard = none) (s x : Operand) (ho : o.op = .call { callee := .builtin .append, args := #[s, x], argTypes := #[35, 35] })
    (base : Nat) (v : Value) (xs : List Int) (hx0 : Rg xs) (hs : a.eval s = v) (hown : w.ownsRow base 5 1 v xs.length (u8s xs))
    (A : Option Addr) (m c : Nat) (ys : ByteArray) (hx : a.eval x = .slice A m c) (hr : Yb w.heap.size w A m c ys) (hb : xs.length + m ≤ 1000000) (hbase : base ≤ w.heap.size)
    (h : ∀ A' n' c' w', n' = xs.length + m → Yw w' base (.slice A' n' c') (strOfNums xs ++ ys) → Below base w w' → w.grownBy w' v.ownBlock → ((Value.slice A' n' c').ownBlock = v.ownBlock ∨ (Value.slice A' n' c').ownBlock = some w.heap.size) → wpList Tryd.prog ops Q rest (a.put o.dst (.slice A' n' c')) w') : wpList Tryd.prog ops Q (o :: rest) a w := by
  obtain ⟨i0, hi, hz0, hz1, hz2⟩ := info_parts Tryd.infoU8
  obtain ⟨zs, hg, rfl, hrg⟩ := hr
  refine appG 35 5 i0 _ 1 1 Tryd.underlying35 hi hz0 hz1 hz2 rfl (by decide) (by decide) hgd s x ho base v xs.length (u8s xs) hs hown A m c (u8s zs) hx hg (u8s_one zs) hb hbase ?_
  intro A' c' w' h1 h2 h3 h4
  have e : zs.length = m := by simpa [u8s] using hg.len
  refine h A' _ c' w' rfl ⟨xs ++ zs, ?_, strOfNums_app _ _, rg_app hx0 hrg⟩ h2 h3 h4
  rw [List.length_append, e, show u8s (xs ++ zs) = u8s xs ++ u8s zs by simp [u8s]]
  exact h1
/-- bytes.Clone. -/
def CloneTold (s : ByteArray) (w : World) (e : Ending) (w' : World) : Prop := ∃ A c, e = .returned (.slice A s.size c) ∧ Yw w' w.heap.size (.slice A s.size c) s ∧ Below w.heap.size w w'
set_option maxHeartbeats 1000000 in
theorem clone_any (A : Option Addr) (n cap : Nat) (s : ByteArray) (w : World) (h : Yb w.heap.size w A n cap s) (hn : n ≤ 1000000) : Calls Tryd.prog 68 #[.slice A n cap] w (CloneTold s w) := by
  have hsz := h.size
  obtain ⟨zs, hg, hs, hrg⟩ := h
  have hle := hg.size
  have q22 : ∀ (w : World) (a : Option Addr) (n c n' c' : Nat), (binOp .eql 35 (.slice a n c) (.slice none n' c')).run Tryd.prog w = .ok (.bool a.isNone) w := fun w a n c n' c' => Lib.run_eql_slice_nil w _ _ a n c n' c' Tryd.underlying35
  cases A with
  | none =>
    have hc := hg.nil rfl
    have hn0 : n = 0 := by omega
    subst hn0
    subst hc
    have HN : Hid (CloneTold s w (.returned (.slice none 0 0)) w) := Lib.hid (by
      have : zs = [] := List.eq_nil_of_length_eq_zero (by simpa [u8s] using hg.len)
      subst this
      refine ⟨none, 0, by rw [hsz], ?_, Below.refl _ _⟩
      rw [hsz, ← hs]
      exact ⟨[], World.ownsRow_nil _ _ _ _, rfl, rg_nil⟩)
    clear hg hs hsz hle
    go_enter Tryd.func68, Tryd.ntmps68
    go_wp2_with fail
    go_ret
    exact HN.out
  | some ad =>
    have hb1 := (Below.refl w.heap.size w).alloc (Nat.le_refl _) (.cells #[] 5)
    have HO : Hid ((w.alloc (.cells #[] 5)).ownsRow w.heap.size 5 1 (.slice (some ⟨w.heap.size, 0, none⟩) 0 0) ([] : List Int).length (u8s [])) := Lib.hid (own_empty w 5 1 w.heap.size (Nat.le_refl _))
    have HY : Hid (Yb (w.alloc (.cells #[] 5)).heap.size (w.alloc (.cells #[] 5)) (some ad) n cap s) := Lib.hid (Yb.later ⟨zs, hg, hs, hrg⟩ hb1)
    have HB := Lib.hid hb1
    have HS : Hid (s.size = n ∧ strOfNums ([] : List Int) ++ s = s ∧ w.heap.size ≤ (w.alloc (.cells #[] 5)).heap.size) := Lib.hid ⟨hsz, by rw [show strOfNums [] = ByteArray.empty from rfl, ByteArray.empty_append], hb1.size⟩
    clear hg hs hsz hb1
    go_enter Tryd.func68, Tryd.ntmps68
    generalize hw1 : w.alloc (.cells #[] 5) = w1 at *
    go_wp2_with (at_builtin; (try rw [hw1]); refine app_bytes rfl _ _ rfl w.heap.size _ [] rg_nil rfl HO.out (some ad) n cap s rfl HY.out (by simpa using hn) HS.out.2.2 ?_; intro A' n' c' w2 hn2 ho2 hb2 hg2 hx2; have HN2 := Lib.hid hn2; have HO2 := Lib.hid ho2; have HB2 := Lib.hid hb2; clear hn2 ho2 hb2 hg2 hx2)
    go_ret
    have e1 : n' = s.size := by rw [HN2.out, HS.out.1]; simp
    refine ⟨A', c', by rw [← e1]; rfl, ?_, HB.out.trans HB2.out⟩
    have := HO2.out
    rw [HS.out.2.1] at this
    rw [← e1]
    exact this
end Nw
end Go.Proofs.YtobpinelhjpfgaaDoor
