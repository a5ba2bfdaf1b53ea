/-
  Numbers of two bytes: laid and taken; cuts and copies of bytes.
-/
import Derived.Test.YtbdlcmpljhbebaaChkB
set_option linter.unusedVariables false
namespace Go.Proofs.Ytbdlcmpljhbebaa
open Go.RowKit Bp Ck

/-- A number's two bytes. -/
def tw (n : Nat) : List Nat := [n / 256, n % 256]
theorem byte_sum (m : Nat) (h : m ≤ 255) : 128 * (m / 128 % 2) + 64 * (m / 64 % 2) + 32 * (m / 32 % 2) + 16 * (m / 16 % 2) + 8 * (m / 8 % 2) + 4 * (m / 4 % 2) + 2 * (m / 2 % 2) + m % 2 = m := by omega
theorem pack_tw (n : Nat) (h : n < 65536) : pack (bitsOf n 16) = tw n := by
  have hl : nb (bitsOf n 16).length = 2 := by rw [bitsOf_length]; rfl
  have hb : ∀ i, i < 16 → bitN (bitsOf n 16) i = n / 2 ^ (15 - i) % 2 := fun i hi => by rw [bitN_bitsOf n 16 i hi]
  have b0 : byteAt (bitsOf n 16) 0 = n / 256 := by
    unfold byteAt
    rw [hb 0 (by omega), hb (8 * 0 + 1) (by omega), hb (8 * 0 + 2) (by omega), hb (8 * 0 + 3) (by omega), hb (8 * 0 + 4) (by omega), hb (8 * 0 + 5) (by omega), hb (8 * 0 + 6) (by omega), hb (8 * 0 + 7) (by omega)]
    have := byte_sum (n / 256) (by omega)
    rw [Nat.div_div_eq_div_mul, Nat.div_div_eq_div_mul, Nat.div_div_eq_div_mul, Nat.div_div_eq_div_mul, Nat.div_div_eq_div_mul, Nat.div_div_eq_div_mul, Nat.div_div_eq_div_mul] at this
    exact this
  have b1 : byteAt (bitsOf n 16) 1 = n % 256 := by
    unfold byteAt
    rw [hb 8 (by omega), hb (8 * 1 + 1) (by omega), hb (8 * 1 + 2) (by omega), hb (8 * 1 + 3) (by omega), hb (8 * 1 + 4) (by omega), hb (8 * 1 + 5) (by omega), hb (8 * 1 + 6) (by omega), hb (8 * 1 + 7) (by omega)]
    have e : ∀ k, n / 2 ^ (15 - k) % 2 = n / 2 ^ (15 - k) % 2 := fun _ => rfl
    show 128 * (n / 128 % 2) + 64 * (n / 64 % 2) + 32 * (n / 32 % 2) + 16 * (n / 16 % 2) + 8 * (n / 8 % 2) + 4 * (n / 4 % 2) + 2 * (n / 2 % 2) + n / 1 % 2 = n % 256
    omega
  unfold pack
  rw [hl, show List.range 2 = [0, 1] from rfl, List.map_cons, List.map_cons, List.map_nil, b0, b1]
  rfl
theorem tw_byte (n : Nat) (h : n < 65536) : ∀ z ∈ tw n, z ≤ 255 := by
  intro z hz
  simp only [tw, List.mem_cons, List.not_mem_nil, or_false] at hz
  rcases hz with rfl | rfl <;> omega
theorem has_tw (x y : Nat) (hx : x ≤ 255) (hy : y ≤ 255) : Has [x, y] 0 (bitsOf (256 * x + y) 16) := by
  refine ⟨by rw [bitsOf_length]; simp, fun i hi => ?_⟩
  rw [bitsOf_length] at hi
  rw [bitN_bitsOf _ _ _ hi, Nat.zero_add]
  have : i = 0 ∨ i = 1 ∨ i = 2 ∨ i = 3 ∨ i = 4 ∨ i = 5 ∨ i = 6 ∨ i = 7 ∨ i = 8 ∨ i = 9 ∨ i = 10 ∨ i = 11 ∨ i = 12 ∨ i = 13 ∨ i = 14 ∨ i = 15 := by omega
  rcases this with rfl | rfl | rfl | rfl | rfl | rfl | rfl | rfl | rfl | rfl | rfl | rfl | rfl | rfl | rfl | rfl <;> simp [rbit, pw, List.getD] <;> omega

theorem ownsRow_lower {w : World} {base base' : Nat} {e : TypeId} {size : Nat} {v : Value} {n : Nat} {xs : List Value} (h : w.ownsRow base e size v n xs) (hb : base' ≤ base) : w.ownsRow base' e size v n xs := by
  obtain ⟨h1, h2⟩ := h
  refine ⟨h1, ?_⟩
  rcases h2 with h2 | ⟨g, cap, cur, rfl, hg, r⟩
  · exact .inl h2
  · exact .inr ⟨g, cap, cur, rfl, by omega, r⟩

theorem lay16_any (n : Nat) (h : n < 65536) (w : World) :
    Calls Try.prog 45 #[.int .u16 (n : Int)] w fun e w' => ∃ g cap, e = .returned (.slice (some ⟨g, 0, none⟩) 2 cap) ∧ w'.ownsRow w.heap.size 5 1 (.slice (some ⟨g, 0, none⟩) 2 cap) 2 (bc (tw n)) ∧ Below w.heap.size w w' := by
  have HW := Lib.hid (wb_start w w (Below.refl _ _))
  go_enter Try.func45, Try.ntmps45
  go_wp2_with fail
  refine (newWriter_any _).mono ?_
  rintro e w1 ⟨rfl, rfl⟩
  go_wp2_with fail
  refine (wb_put _ n 16 _ _ w _ _ _ HW.out (by omega) (by omega) (by simp) rfl rfl).mono ?_
  rintro e w2 ⟨rfl, h2⟩
  have H2 := Lib.hid h2
  clear h2
  go_wp2_with fail
  refine (wb_out _ w _ _ _ H2.out).mono ?_
  rintro e w3 ⟨a, cap, rfl, ho, h3⟩
  have hb := h3.below
  have hs := H2.out.size
  rw [List.nil_append, bitsOf_length, pack_tw n h] at ho
  obtain ⟨g, cap', hv⟩ := shape_of ho (by decide)
  rw [List.nil_append, bitsOf_length]
  rw [hv] at ho ⊢
  have HO := Lib.hid (ownsRow_lower ho hs)
  have HB := Lib.hid hb
  clear ho hb h3 hs hv
  go_wp2
  go_ret
  exact ⟨g, cap', rfl, HO.out, HB.out⟩

theorem rb_at (b : Nat) (x y : Nat) (w0 w : World) (B : Nat) (h : Rb w0 B w b [x, y] 0 0) (hx : x ≤ 255) (hy : y ≤ 255) :
    Calls Try.prog 17 #[.pointer (some ⟨b, 0, none⟩), .int .i64 16] w fun e w' => e = .returned (.int .u64 ((256 * x + y : Nat) : Int)) ∧ Rb w0 B w' b [x, y] (0 + 16) 0 :=
  rb_get_small b [x, y] 0 (256 * x + y) 16 16 w0 w B h (by omega) (has_tw x y hx hy) rfl (by omega)

theorem take16_any {B : Nat} {w : World} {A : Option Addr} {cap x y : Nat} (h : By B w A 2 cap [x, y]) :
    Calls Try.prog 58 #[.slice A 2 cap] w fun e w' => e = .returned (.int .u16 ((256 * x + y : Nat) : Int)) ∧ Below w.heap.size w w' := by
  have hx : x ≤ 255 := h.byte x (by simp)
  have hy : y ≤ 255 := h.byte y (by simp)
  have HN := Lib.hid (rb_make _ _ w w (Below.refl _ _) h.bytesAt (by simp) h.byte)
  clear h
  obtain ⟨m, hm⟩ : ∃ m, m = 256 * x + y := ⟨_, rfl⟩
  have hmb : m < 65536 := by omega
  rw [← hm]
  have HM := Lib.hid hm
  clear hm
  go_enter Try.func58, Try.ntmps58
  go_wp2_with fail
  refine HN.out.mono ?_
  rintro e w1 ⟨rb, rfl, hR⟩
  have HR := Lib.hid hR
  clear hR HN
  go_wp2_with fail
  refine (rb_at rb x y w _ _ HR.out hx hy).mono ?_
  rintro e w2 ⟨rfl, hR2⟩
  have HB := Lib.hid hR2.below
  clear hR2 HR
  rw [← HM.out]
  go_wp2
  go_ret
  exact ⟨rfl, HB.out⟩

theorem frameLen_any {B : Nat} {w : World} {A : Option Addr} {n cap : Nat} {zs : List Nat} (h : By B w A n cap zs) (hn : 2 ≤ n) :
    Calls Try.prog 57 #[.slice A n cap] w fun e w' => e = .returned (.int .i64 ((256 * zs.getD 0 0 + zs.getD 1 0 + 4 : Nat) : Int)) ∧ Below w.heap.size w w' := by
  have hl := h.len
  have ht : zs.take 2 = [zs.getD 0 0, zs.getD 1 0] := by
    match zs, hl with
    | [], hl => simp at hl; omega
    | [a], hl => simp at hl; omega
    | a :: b :: r, _ => simp [List.getD]
  have hb := h.take 2 hn
  rw [ht] at hb
  have HT := Lib.hid (take16_any hb)
  have h0 := getD_byte zs 0 h.byte
  have h1 := getD_byte zs 1 h.byte
  have hs : ∀ wx, (Instr.slice 22 (.slice A n cap) none (some (.int .i64 2)) none).run Try.prog wx = .ok (.slice A 2 cap) wx := fun wx => slice_h A n cap 2 wx (by have := h.le; omega)
  clear ht hb h hl
  generalize zs.getD 0 0 = x at *
  generalize zs.getD 1 0 = y at *
  obtain ⟨m, hm⟩ : ∃ m, m = 256 * x + y := ⟨_, rfl⟩
  have hmb : m < 65536 := by omega
  rw [← hm] at HT ⊢
  clear hm
  go_enter Try.func57, Try.ntmps57
  go_wp2_with fail
  refine HT.out.mono ?_
  rintro e w1 ⟨rfl, hB⟩
  have HB := Lib.hid hB
  clear hB
  go_wp2
  go_ret
  exact ⟨ret_int (by omega), HB.out⟩

theorem cut_any (A : Option Addr) (n cap l e : Nat) (L E : Int) (w : World) (h0 : l ≤ e) (h1 : e ≤ cap) (hL : L = l) (hE : E = e) :
    Calls Try.prog 48 #[.slice A n cap, .int .i64 L, .int .i64 E] w fun x w' => x = .returned (.slice (cutA A l e) (e - l) (e - l)) ∧ w = w' := by
  subst hL hE
  have hs := fun wx => slice_lhm A n cap l e e wx h0 (Nat.le_refl _) h1
  go_enter Try.func48, Try.ntmps48
  go_wp2
  go_ret
  exact ⟨rfl, rfl⟩

theorem bclone_any {B : Nat} {w : World} {A : Option Addr} {n cap : Nat} {zs : List Nat} (h : By B w A n cap zs) (hn : 0 < n) (hf : n ≤ 1048576) :
    Calls Try.prog 49 #[.slice A n cap] w fun e w' => ∃ g c, e = .returned (.slice (some ⟨g, 0, none⟩) n c) ∧ w'.ownsRow w.heap.size 5 1 (.slice (some ⟨g, 0, none⟩) n c) n (bc zs) ∧ Below w.heap.size w w' := by
  obtain ⟨i0, hi, hz0, hz1, hz2⟩ := info_parts Try.infoU8
  have hq := Try.bytesNil
  have hat := h.bytesAt
  obtain ⟨g0, off, rfl, hg, _⟩ := h.cell hn
  rcases hat with ⟨e, _⟩ | ⟨a, c, e, hx⟩
  · cases e
  rw [h.len] at e
  simp only [Value.slice.injEq, Option.some.injEq, true_and] at e
  obtain ⟨rfl, rfl⟩ := e
  have HX := Lib.hid hx
  have HL := Lib.hid h.len
  clear hx h
  have ho : (w.alloc (.cells #[] 5)).ownsRow w.heap.size 5 1 (.slice (some ⟨w.heap.size, 0, none⟩) 0 0) 0 [] := World.ownsRow_made w #[] 0 (Nat.le_refl _) (Nat.zero_le _) rfl
  have HO := Lib.hid ho
  clear ho
  have hx' : ∀ j u, (bc zs)[j]? = some u → (w.alloc (.cells #[] 5)).cell? ((⟨g0, off, none⟩ : Addr).add j) = some u := fun j u hj => by
    have := HX.out j u hj
    rw [World.cell?_alloc_lt _ _ _ (World.block_lt_of_cell? w _ this)]; exact this
  have HX' := Lib.hid hx'
  clear hx'
  go_enter Try.func49, Try.ntmps49
  go_wp2_with (at_builtin; refine wpList_append_own_at _ rfl _ _ 22 rfl w.heap.size 5 i0 (.int .u8 0) 1 1 Try.underlying22 hi hz0 hz1 hz2 rfl (by decide) _ _ _ rfl HO.out ⟨g0, off, none⟩ n cap (bc zs) rfl (by rw [bc_length, HL.out]; omega) HX'.out (bc_one zs) (by unfold maxLen; omega) (by omega) (by simp) ?_; intro v' w1 hown' hgrow hne hat)
  have R : w1.ownsRow w.heap.size 5 1 v' n (bc zs) := by simpa using hown'
  have hrow : ∀ k, (Value.slice (some ⟨w.heap.size, 0, none⟩) 0 0).ownBlock = some k → w.heap.size ≤ k := fun k hk => by
    have : w.heap.size = k := by simpa [Value.ownBlock] using hk
    omega
  have RB : Below w.heap.size w w1 := Below.grown (Below.alloc (Below.refl _ w) (Nat.le_refl _) _) hgrow (by simp) hrow
  obtain ⟨g, c, hv⟩ := shape_of R hn
  rw [hv] at R ⊢
  have HR := Lib.hid R
  have HRB := Lib.hid RB
  clear hown' hgrow hne hat R RB hv
  go_wp2
  go_ret
  exact ⟨g, c, rfl, HR.out, HRB.out⟩

end Go.Proofs.Ytbdlcmpljhbebaa
