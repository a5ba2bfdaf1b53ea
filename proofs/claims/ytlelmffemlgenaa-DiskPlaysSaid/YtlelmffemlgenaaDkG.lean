/-
  Layer 15: the document's examples; a nil disk.
-/
import Derived.Test.YtlelmffemlgenaaDkC
import Derived.Test.YtlelmffemlgenaaDkE
import Derived.Lib.SlBytesConst
set_option linter.unusedVariables false
set_option maxRecDepth 100000
namespace Go.Proofs.Ytlelmffemlgenaa
namespace Dk
open Go.RowKit Go.Maps Bk Nw

def s3 : ByteArray := { data := #[97, 98, 99] }
def s2 : ByteArray := { data := #[100, 101] }
def s4 : ByteArray := { data := #[97, 98, 99, 100] }
theorem lit_yb (w : World) (zs : List Int) (n : Nat) (fz : Nat × Nat) (hr : Rg zs) (hn : zs.length = n) (hm : n ≤ 1000000) : Yb (w.alloc (.cells (u8s zs).toArray 5 fz)).heap.size (w.alloc (.cells (u8s zs).toArray 5 fz)) (some ⟨w.heap.size, 0, none⟩) n n (strOfNums zs) := by
  subst hn
  refine ⟨zs, ⟨by simp [u8s], Nat.le_refl _, by unfold maxLen; omega, fun e => (by cases e), fun _ => ⟨w.heap.size, 0, rfl, by simp, fun j hj => ?_⟩⟩, rfl, hr⟩
  rw [cell_of_row _ _ _ _ _ _ (heap_alloc_new w _)]
  simp
theorem lit3 (w : World) : Yb (w.alloc (.cells #[.int .u8 97, .int .u8 98, .int .u8 99] 5 (3, 4))).heap.size (w.alloc (.cells #[.int .u8 97, .int .u8 98, .int .u8 99] 5 (3, 4))) (some ⟨w.heap.size, 0, none⟩) 3 3 s3 := lit_yb w [97, 98, 99] 3 (3, 4) (by intro z hz; simp at hz; omega) rfl (by omega)
theorem lit2 (w : World) : Yb (w.alloc (.cells #[.int .u8 100, .int .u8 101] 5 (2, 3))).heap.size (w.alloc (.cells #[.int .u8 100, .int .u8 101] 5 (2, 3))) (some ⟨w.heap.size, 0, none⟩) 2 2 s2 := lit_yb w [100, 101] 2 (2, 3) (by intro z hz; simp at hz; omega) rfl (by omega)
theorem sh_all : ∃ (d1 d2 d3 d4 : D) (x3 x2 x4 : ByteArray), x3 = s3 ∧ x2 = s2 ∧ x4 = s4 ∧ apE d0 x3 = 0 ∧ apD d0 x3 = d1 ∧ pwE (op d1) = 0 ∧ syD d1 = d2 ∧ apE d2 x2 = 0 ∧ apD d2 x2 = d3 ∧ crD d3 1 = d4 ∧ rdS d4 = x4 ∧ pwE d4 = 0 ∧ x4.size = 4 :=
  ⟨apD d0 s3, syD (apD d0 s3), apD (syD (apD d0 s3)) s2, crD (apD (syD (apD d0 s3)) s2) 1, s3, s2, s4, rfl, rfl, rfl, by kernel_rfl, rfl, by kernel_rfl, rfl, by kernel_rfl, rfl, rfl, by kernel_rfl, by kernel_rfl, by kernel_rfl⟩
theorem DAt.belowT {w w' w0 : World} {base g B : Nat} {v v' : Value} {d : D} (h : DAt w base g v d) (ht : Turn (DF g v) (DF g v') w w') (hb : Below B w0 w) (hB : B ≤ w0.heap.size) (hB2 : B ≤ base) : Below B w0 w' :=
  hb.trans (ht.below B (Nat.le_trans hB hb.size) (fun k hk => Nat.le_trans hB2 (h.blocks k hk).1))
set_option maxHeartbeats 2000000 in
theorem shown15_any (w : World) : Calls Try.prog 8 #[] w fun e w' => e = .returned (.bool true) ∧ Below w.heap.size w w' := by
  have HC := Lib.hid (new_any w)
  have kc := fun (W : World) (C : Array Value) (n c : Nat) => Lib.run_convert_bytes_const (P := Try.prog) W 29 5 C n c Try.underlying29 Try.underlying5
  obtain ⟨d1, d2, d3, d4, x3, x2, x4, hx3, hx2, hx4, g1, g2, g3, g4, g5, g6, g7, g8, g9, g10⟩ := sh_all
  obtain ⟨dz, hdz⟩ : ∃ dz, dz = d0 := ⟨_, rfl⟩
  rw [← hdz] at HC g1 g2
  have L3 : Hid (∀ w1 : World, Yb (w1.alloc (.cells #[.int .u8 97, .int .u8 98, .int .u8 99] 5 (3, 4))).heap.size (w1.alloc (.cells #[.int .u8 97, .int .u8 98, .int .u8 99] 5 (3, 4))) (some ⟨w1.heap.size, 0, none⟩) 3 3 x3) := Lib.hid (by rw [hx3]; exact lit3)
  have L2 : Hid (∀ w1 : World, Yb (w1.alloc (.cells #[.int .u8 100, .int .u8 101] 5 (2, 3))).heap.size (w1.alloc (.cells #[.int .u8 100, .int .u8 101] 5 (2, 3))) (some ⟨w1.heap.size, 0, none⟩) 2 2 x2) := Lib.hid (by rw [hx2]; exact lit2)
  have L4 : Hid (x4 = { data := #[97, 98, 99, 100] }) := Lib.hid hx4
  have A1 : Hid (∀ {w g v}, DAt w g g v dz → ∀ A n c, Yb w.heap.size w A n c x3 → Calls Try.prog 13 #[.pointer (some ⟨g, 0, none⟩), .slice A n c] w (Told g g v (.int .i64 0) d1 w)) := Lib.hid (fun h A n c hy => by
    have := Append_any h A n c _ hy
    rwa [g1, g2] at this)
  have A2 : Hid (∀ {w g v}, DAt w g g v d1 → Calls Try.prog 14 #[.pointer (some ⟨g, 0, none⟩)] w (Told g g v (.int .i64 0) d2 w)) := Lib.hid (fun h => by
    have := Sync_any h
    rwa [g3, g4] at this)
  have A3 : Hid (∀ {w g v}, DAt w g g v d2 → ∀ A n c, Yb w.heap.size w A n c x2 → Calls Try.prog 13 #[.pointer (some ⟨g, 0, none⟩), .slice A n c] w (Told g g v (.int .i64 0) d3 w)) := Lib.hid (fun h A n c hy => by
    have := Append_any h A n c _ hy
    rwa [g5, g6] at this)
  have A4 : Hid (∀ {w g v}, DAt w g g v d3 → Calls Try.prog 15 #[.pointer (some ⟨g, 0, none⟩), .int .i64 1] w (Told g g v (.tuple #[]) d4 w)) := Lib.hid (fun h => by
    have := Crash_any h 1
    rwa [g7] at this)
  have A5 : Hid (∀ {w g v}, DAt w g g v d4 → Calls Try.prog 18 #[.pointer (some ⟨g, 0, none⟩)] w fun e w' => ∃ A c, e = .returned (.tuple #[.slice A 4 c, .int .i64 0]) ∧ Yw w' w.heap.size (.slice A 4 c) x4 ∧ Below w.heap.size w w') := Lib.hid (fun h => by
    have := Read_any h
    unfold ReadTold at this
    rwa [g8, g9, g10] at this)
  clear g1 g2 g3 g4 g5 g6 g7 g8 g9 g10 hx3 hx2 hx4 hdz
  go_enter Try.func8, Try.ntmps8
  go_wp2_with fail
  refine HC.out.mono ?_
  rintro e w1 ⟨rfl, hn1, hb1⟩
  obtain ⟨g, hg⟩ : ∃ g, g = w.heap.size := ⟨_, rfl⟩
  have HG : Hid (w.heap.size ≤ g) := Lib.hid (by omega)
  rw [← hg] at hn1 ⊢
  clear hg
  have hA := (Below.refl w1.heap.size w1).alloc (Nat.le_refl _) (.cells #[.int .u8 97, .int .u8 98, .int .u8 99] 5 (3, 4))
  have HN1 := Lib.hid (hn1.later hA)
  have HB1 := Lib.hid (hb1.trans (hA.mono hb1.size))
  have HY1 := Lib.hid (L3.out w1)
  clear hn1 hb1 hA HC L3
  go_wp2_with fail
  generalize w1.alloc (.cells #[.int .u8 97, .int .u8 98, .int .u8 99] 5 (3, 4)) = w2 at *
  generalize w1.heap.size = k1 at *
  refine (A1.out HN1.out (some ⟨k1, 0, none⟩) 3 3 HY1.out).mono ?_
  rintro e w3 ⟨v3, rfl, hn3, ht3⟩
  have HB3 := Lib.hid (HN1.out.belowT ht3 HB1.out (Nat.le_refl _) HG.out)
  have HN3 := Lib.hid hn3
  clear hn3 ht3 HN1 HB1 HY1 A1
  go_wp2_with fail
  refine (A2.out HN3.out).mono ?_
  rintro e w4 ⟨v4, rfl, hn4, ht4⟩
  have hb4 := HN3.out.belowT ht4 HB3.out (Nat.le_refl _) HG.out
  have hA := (Below.refl w4.heap.size w4).alloc (Nat.le_refl _) (.cells #[.int .u8 100, .int .u8 101] 5 (2, 3))
  have HN4 := Lib.hid (hn4.later hA)
  have HB4 := Lib.hid (hb4.trans (hA.mono hb4.size))
  have HY4 := Lib.hid (L2.out w4)
  clear hn4 ht4 hb4 hA HN3 HB3 A2 L2
  go_wp2_with fail
  generalize w4.alloc (.cells #[.int .u8 100, .int .u8 101] 5 (2, 3)) = w5 at *
  generalize w4.heap.size = k4 at *
  refine (A3.out HN4.out (some ⟨k4, 0, none⟩) 2 2 HY4.out).mono ?_
  rintro e w6 ⟨v6, rfl, hn6, ht6⟩
  have HB6 := Lib.hid (HN4.out.belowT ht6 HB4.out (Nat.le_refl _) HG.out)
  have HN6 := Lib.hid hn6
  clear hn6 ht6 HN4 HB4 HY4 A3
  go_wp2_with fail
  refine (A4.out HN6.out).mono ?_
  rintro e w7 ⟨v7, rfl, hn7, ht7⟩
  have HB7 := Lib.hid (HN6.out.belowT ht7 HB6.out (Nat.le_refl _) HG.out)
  have HN7 := Lib.hid hn7
  clear hn7 ht7 HN6 HB6 A4
  go_wp2_with fail
  refine (A5.out HN7.out).mono ?_
  rintro e w8 ⟨A, c, rfl, hy8, hb8⟩
  have HB8 := Lib.hid (HB7.out.trans (hb8.mono HB7.out.size))
  have q8 : (convert 29 9 (.slice A 4 c)).run Try.prog w8 = .ok (.string { data := #[97, 98, 99, 100] }) w8 := by
    have := hy8.yb.conv
    rwa [L4.out] at this
  clear hy8 hb8 HN7 HB7 A5 L4
  go_wp2_with fail
  go_ret
  exact ⟨rfl, HB8.out⟩
end Dk
end Go.Proofs.Ytlelmffemlgenaa
