/-
  The writer's calls: Put, Len, Out.
-/
import Derived.Test.YtifcfoipeocmiaaBitsW2
import Derived.Laws.CopyOwn
set_option linter.unusedVariables false
namespace Go.Proofs.Ytifcfoipeocmiaa
open Go.RowKit Bp

theorem put_arg (b : Nat) (n m : Int) (w : World) (hm : m < 0 ∨ 64 < m) :
    Calls Try.prog 10 #[.pointer (some ⟨b, 0, none⟩), .int .u64 n, .int .i64 m] w fun e w' => e = .returned (.int .i64 1) ∧ w = w' := by
  have hf : (decide (0 ≤ m) && decide (m ≤ 64)) = false := by
    rw [Bool.and_eq_false_iff]; rcases hm with h | h
    · exact .inl (by simpa using h)
    · exact .inr (by simpa using h)
  have hc := fitsWord_any m
  rw [hf] at hc
  have HC := Lib.hid hc
  clear hc hf
  go_enter Try.func10, Try.ntmps10
  go_wp2_with (go_at_call 24; refine (HC.out _).mono ?_; rintro e w' ⟨rfl, rfl⟩)
  go_ret
  exact ⟨rfl, rfl⟩

theorem put_long (b m : Nat) (n : Int) (v : Value) (bs : List Bool) (w : World) (h : Wr w b v bs) (hm : m ≤ 64) (hl : 1048576 < bs.length + m) :
    Calls Try.prog 10 #[.pointer (some ⟨b, 0, none⟩), .int .u64 n, .int .i64 (m : Int)] w fun e w' => e = .returned (.int .i64 4) ∧ w = w' := by
  have hf : (decide (0 ≤ (m : Int)) && decide ((m : Int) ≤ 64)) = true := by simp; omega
  have hc := fitsWord_any m
  rw [hf] at hc
  have HC := Lib.hid hc
  have hr : decide ((m : Int) ≤ 1048576 - (bs.length : Int)) = false := by simp; omega
  have hd := hasRoom_any b m bs.length w h.cells.2.1 (by omega) (by have := h.few; omega)
  rw [hr] at hd
  have HD := Lib.hid hd
  clear hc hf hd hr
  go_enter Try.func10, Try.ntmps10
  go_wp2_with (first | (go_at_call 24; refine (HC.out _).mono ?_; rintro e w' ⟨rfl, rfl⟩) | (go_at_call 21; refine HD.out.mono ?_; rintro e w' ⟨rfl, rfl⟩))
  go_ret
  exact ⟨rfl, rfl⟩

theorem put_ok (b n m : Nat) (v : Value) (bs : List Bool) (w : World) (h : Wr w b v bs) (hn : n < 18446744073709551616) (hm : m ≤ 64) (hl : bs.length + m ≤ 1048576) :
    Calls Try.prog 10 #[.pointer (some ⟨b, 0, none⟩), .int .u64 (n : Int), .int .i64 (m : Int)] w fun e w' => e = .returned (.int .i64 0) ∧ Lays w b v bs (bitsOf n m) w' := by
  have hf : (decide (0 ≤ (m : Int)) && decide ((m : Int) ≤ 64)) = true := by simp; omega
  have hc := fitsWord_any m
  rw [hf] at hc
  have HC := Lib.hid hc
  have hr : decide ((m : Int) ≤ 1048576 - (bs.length : Int)) = true := by simp; omega
  have hd := hasRoom_any b m bs.length w h.cells.2.1 (by omega) (by have := h.few; omega)
  rw [hr] at hd
  have HD := Lib.hid hd
  have HS := Lib.hid (spread_any b n m v bs w h hn hm hl)
  clear hc hf hd hr
  go_enter Try.func10, Try.ntmps10
  go_wp2_with (first | (go_at_call 24; refine (HC.out _).mono ?_; rintro e w' ⟨rfl, rfl⟩) | (go_at_call 21; refine HD.out.mono ?_; rintro e w' ⟨rfl, rfl⟩) | (go_at_call 22; refine HS.out.mono ?_; rintro e w' ⟨rfl, hL⟩))
  go_ret
  exact ⟨rfl, by assumption⟩

theorem len_any (b : Nat) (n : Int) (w : World) (hc : w.cell? ⟨b, 1, none⟩ = some (.int .i64 n)) :
    Calls Try.prog 12 #[.pointer (some ⟨b, 0, none⟩)] w fun e w' => e = .returned (.int .i64 n) ∧ w = w' := by
  go_enter Try.func12, Try.ntmps12
  go_wp2
  go_ret
  exact ⟨rfl, rfl⟩

theorem Try.bytesNil (w : World) (a : Option Addr) (n c n' c' : Nat) : (binOp .eql 37 (.slice a n c) (.slice none n' c')).run Try.prog w = .ok (.bool a.isNone) w := Lib.run_eql_slice_nil w _ _ a n c n' c' Try.underlying37

/-- A copy of bytes: new memory, the same bytes. -/
theorem clone_nil (w : World) : Calls Try.prog 25 #[.slice none 0 0] w fun e w' => e = .returned (.slice none 0 0) ∧ w = w' := by
  have hq := Try.bytesNil
  go_enter Try.func25, Try.ntmps25
  go_wp2
  go_ret
  exact ⟨rfl, rfl⟩

theorem clone_any (a : Addr) (n cap : Nat) (xs : List Value) (w : World) (hl : xs.length = n) (hx : ∀ j u, xs[j]? = some u → w.cell? (a.add j) = some u) (h1 : ∀ u ∈ xs, u.oneCell' = true) (hn : n ≤ 1048576) :
    Calls Try.prog 25 #[.slice (some a) n cap] w fun e w' => ∃ v, e = .returned v ∧ w'.ownsRow w.heap.size 5 1 v n xs ∧ Below w.heap.size w w' := by
  obtain ⟨i0, hi, hz0, hz1, hz2⟩ := info_parts Try.infoU8
  have hq := Try.bytesNil
  have HX := Lib.hid hx
  have HL := Lib.hid hl
  have H1 := Lib.hid h1
  clear hx hl h1
  have ho : (w.alloc (.cells #[] 5)).ownsRow w.heap.size 5 1 (.slice (some ⟨w.heap.size, 0, none⟩) 0 0) 0 [] := World.ownsRow_made w #[] 0 (Nat.le_refl _) (Nat.zero_le _) rfl
  have HO := Lib.hid ho
  clear ho
  have hx' : ∀ j u, xs[j]? = some u → (w.alloc (.cells #[] 5)).cell? (a.add j) = some u := fun j u hj => by
    have := HX.out j u hj
    rw [World.cell?_alloc_lt _ _ _ (World.block_lt_of_cell? w _ this)]; exact this
  have HX' := Lib.hid hx'
  clear hx'
  go_enter Try.func25, Try.ntmps25
  go_wp2_with (at_builtin; refine wpList_append_own_at _ rfl _ _ 37 rfl w.heap.size 5 i0 (.int .u8 0) 1 1 Try.underlying37 hi hz0 hz1 hz2 rfl (by decide) _ _ _ rfl HO.out a n cap xs rfl (by rw [HL.out]; omega) HX'.out H1.out (by unfold maxLen; omega) (by omega) (by simp) ?_; intro v' w1 hown' hgrow hne hat)
  have R : w1.ownsRow w.heap.size 5 1 v' n xs := by simpa using hown'
  have hrow : ∀ k, (Value.slice (some ⟨w.heap.size, 0, none⟩) 0 0).ownBlock = some k → w.heap.size ≤ k := fun k hk => by
    have : w.heap.size = k := by simpa [Value.ownBlock] using hk
    omega
  have RB : Below w.heap.size w w1 := Below.grown (Below.alloc (Below.refl _ w) (Nat.le_refl _) _) hgrow (by simp) hrow
  clear hown' hgrow hne hat
  go_wp2
  go_ret
  exact ⟨v', rfl, R, RB⟩

/-- Out: the writer's bytes, in new memory. -/
theorem out_any (b : Nat) (v : Value) (bs : List Bool) (w : World) (h : Wr w b v bs) :
    Calls Try.prog 13 #[.pointer (some ⟨b, 0, none⟩)] w fun e w' => ∃ v', e = .returned v' ∧ w'.ownsRow w.heap.size 5 1 v' (nb bs.length) (bc (pack bs)) ∧ Below w.heap.size w w' := by
  have c0 := h.cells.1
  have hf := h.few
  have hn : nb bs.length ≤ 1048576 := by unfold nb; omega
  rcases h.row.2 with ⟨rfl, hz⟩ | ⟨g, cap, cur, rfl, hg, hh, hnc, hcm, hcs, htake⟩
  · have hp : bc (pack bs) = [] := List.eq_nil_of_length_eq_zero (by rw [bc_length, pack_length, hz])
    have HZ := Lib.hid hz
    have HP := Lib.hid hp
    have HC := Lib.hid (clone_nil w)
    clear hz hp hf hn h
    go_enter Try.func13, Try.ntmps13
    go_wp2_with (go_at_call 25; refine HC.out.mono ?_; rintro e w' ⟨rfl, rfl⟩)
    go_ret
    exact ⟨_, rfl, by rw [HZ.out, HP.out]; exact World.ownsRow_nil _ _ _ _, Below.refl _ _⟩
  · have hx := h.row.cells (g := g) rfl
    have h1 : ∀ u ∈ bc (pack bs), u.oneCell' = true := by
      intro u hu
      simp only [bc, List.mem_map] at hu
      obtain ⟨x, _, rfl⟩ := hu
      rfl
    have HC := Lib.hid (clone_any ⟨g, 0, none⟩ (nb bs.length) cap (bc (pack bs)) w (by rw [bc_length, pack_length]) hx h1 hn)
    clear hx h1 hf hn h hh hcs htake hnc hcm
    go_enter Try.func13, Try.ntmps13
    go_wp2_with (go_at_call 25; refine HC.out.mono ?_; rintro e w' ⟨v', rfl, hR, hB⟩)
    go_ret
    exact ⟨_, rfl, by assumption, by assumption⟩

end Go.Proofs.Ytifcfoipeocmiaa
