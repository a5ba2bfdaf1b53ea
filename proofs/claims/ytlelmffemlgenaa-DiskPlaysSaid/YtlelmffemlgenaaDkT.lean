/-
  Layer 15: the law's act upon the document's disk.
-/
import Derived.Test.YtlelmffemlgenaaDkS
import Derived.Test.YtlelmffemlgenaaDkF
set_option linter.unusedVariables false
set_option maxRecDepth 100000
namespace Go.Proofs.Ytlelmffemlgenaa
namespace Dk
open Go.RowKit Go.Maps Bk Nw

theorem RTold.of_later {w w1 : World} {base q : Nat} {r : Value} {d' : D} {e : Ending} {w' : World} (hb : Below w.heap.size w w1) (h : RTold base q r d' w1 e w') : RTold base q r d' w e w' := by
  obtain ⟨h1, h2, h3⟩ := h
  exact ⟨h1, h2, (Turn.ofBelow hb _).trans h3⟩
set_option maxHeartbeats 4000000 in
theorem model_any {w : World} {base q : Nat} {d : D} (h : RD w base q d) (k : Nat) (A : Option Addr) (n c : Nat) (s : ByteArray) (x : Int) (hy : Yb w.heap.size w A n c s) (hx : IW x) :
    Calls Try.prog 17 #[.pointer (some ⟨q, 0, none⟩), .agg #[.int .u8 (k : Int), .slice A n c, .int .i64 x]] w (RTold base q (.int .i64 (doE d k s x)) (doD d k s x) w) := by
  obtain ⟨c0, c1, c2⟩ := act_cells w k A n c x
  have hb1 := (Below.refl w.heap.size w).alloc (Nat.le_refl _) (.cells #[.int .u8 (k : Int), .slice A n c, .int .i64 x] 31)
  have HD := Lib.hid (h.later hb1)
  have q1 := (hy.later hb1).conv
  have HSZ : Hid (s.size ≤ 9223372036854775807) := Lib.hid (by
    have := hy.size
    obtain ⟨zs, hz, _⟩ := hy
    have := hz.size
    omega)
  have HB := Lib.hid hb1
  have hk : k % 7 < 7 := Nat.mod_lt _ (by decide)
  clear h hy hb1
  rcases (by omega : k % 7 = 0 ∨ k % 7 = 1 ∨ k % 7 = 2 ∨ k % 7 = 3 ∨ k % 7 = 4 ∨ k % 7 = 5 ∨ k % 7 = 6) with hr | hr | hr | hr | hr | hr | hr
  · have e1 : doE d k s x = apE d s := by unfold doE; simp [hr]
    have e2 : doD d k s x = apD d s := by unfold doD; simp [hr]
    rw [e1, e2]
    have hrI : (k : Int) % 7 = 0 := by omega
    clear hr e1 e2 hk
    go_enter Try.func17, Try.ntmps17
    go_wp2_with fail
    refine (rAppend_any HD.out s HSZ.out).mono ?_
    rintro e w2 ⟨rfl, hn2, ht2⟩
    have HN2 := Lib.hid hn2
    have HT2 := Lib.hid ht2
    clear hn2 ht2
    go_wp2_with fail
    go_ret
    exact RTold.of_later HB.out ⟨rfl, HN2.out, HT2.out⟩
  · have e1 : doE d k s x = pwE (op d) := by unfold doE; simp [hr]
    have e2 : doD d k s x = syD d := by unfold doD; simp [hr]
    rw [e1, e2]
    have hrI : (k : Int) % 7 = 1 := by omega
    clear hr e1 e2 hk
    go_enter Try.func17, Try.ntmps17
    go_wp2_with fail
    refine (rSync_any HD.out).mono ?_
    rintro e w2 ⟨rfl, hn2, ht2⟩
    have HN2 := Lib.hid hn2
    have HT2 := Lib.hid ht2
    clear hn2 ht2
    go_wp2_with fail
    go_ret
    exact RTold.of_later HB.out ⟨rfl, HN2.out, HT2.out⟩
  · have e1 : doE d k s x = cuE d x := by unfold doE; simp [hr]
    have e2 : doD d k s x = cuD d x := by unfold doD; simp [hr]
    rw [e1, e2]
    have hrI : (k : Int) % 7 = 2 := by omega
    clear hr e1 e2 hk
    go_enter Try.func17, Try.ntmps17
    go_wp2_with fail
    refine (rCutoff_any HD.out x).mono ?_
    rintro e w2 ⟨rfl, hn2, ht2⟩
    have HN2 := Lib.hid hn2
    have HT2 := Lib.hid ht2
    clear hn2 ht2
    go_wp2_with fail
    go_ret
    exact RTold.of_later HB.out ⟨rfl, HN2.out, HT2.out⟩
  · have e1 : doE d k s x = 0 := by unfold doE; simp [hr]
    have e2 : doD d k s x = ctD d x := by unfold doD; simp [hr]
    rw [e1, e2]
    have hrI : (k : Int) % 7 = 3 := by omega
    have HX := Lib.hid hx
    clear hr e1 e2 hk hx
    go_enter Try.func17, Try.ntmps17
    go_wp2_with fail
    refine (rCut_any HD.out x HX.out).mono ?_
    rintro e w2 ⟨rfl, hn2, ht2⟩
    have HN2 := Lib.hid hn2
    have HT2 := Lib.hid ht2
    clear hn2 ht2
    go_wp2_with fail
    go_ret
    exact RTold.of_later HB.out ⟨rfl, HN2.out, HT2.out⟩
  · have e1 : doE d k s x = 0 := by unfold doE; simp [hr]
    have e2 : doD d k s x = crD d x := by unfold doD; simp [hr]
    rw [e1, e2]
    have hrI : (k : Int) % 7 = 4 := by omega
    clear hr e1 e2 hk
    go_enter Try.func17, Try.ntmps17
    go_wp2_with fail
    refine (rCrash_any HD.out x).mono ?_
    rintro e w2 ⟨rfl, hn2, ht2⟩
    have HN2 := Lib.hid hn2
    have HT2 := Lib.hid ht2
    clear hn2 ht2
    go_wp2_with fail
    go_ret
    exact RTold.of_later HB.out ⟨rfl, HN2.out, HT2.out⟩
  · have e1 : doE d k s x = 0 := by unfold doE; simp [hr]
    have e2 : doD d k s x = d := by unfold doD; simp [hr]
    rw [e1, e2]
    have hrI : (k : Int) % 7 = 5 := by omega
    clear hr e1 e2 hk
    go_enter Try.func17, Try.ntmps17
    go_wp2_with fail
    go_ret
    exact ⟨rfl, HD.out, Turn.ofBelow HB.out _⟩
  · have e1 : doE d k s x = apE d zz := by unfold doE; simp [hr]
    have e2 : doD d k s x = apD d zz := by unfold doD; simp [hr]
    rw [e1, e2]
    have hrI : (k : Int) % 7 = 6 := by omega
    obtain ⟨Z, mk, hzy⟩ := zz_made
    have HZY := Lib.hid hzy
    clear hr e1 e2 hk hzy
    go_enter Try.func17, Try.ntmps17
    go_upto_region 13 with (fail)
    generalize w.alloc (.cells #[.int .u8 (k : Int), .slice A n c, .int .i64 x] 31) = w1 at *
    have hb2 := (Below.refl w1.heap.size w1).alloc (Nat.le_refl _) (.cells Z 5)
    have HA := Lib.hid (rAppend_any (HD.out.later hb2) zz (by rw [zz_size]; omega))
    have HB2 := Lib.hid (HB.out.trans (hb2.mono HB.out.size))
    have q2 := (HZY.out w1).conv
    clear hb2 HZY
    go_wp2_with fail
    refine HA.out.mono ?_
    rintro e w2 ⟨rfl, hn2, ht2⟩
    have HN2 := Lib.hid hn2
    have HT2 := Lib.hid ht2
    clear hn2 ht2
    go_wp2_with fail
    go_ret
    exact RTold.of_later HB2.out ⟨rfl, HN2.out, HT2.out⟩
end Dk
end Go.Proofs.Ytlelmffemlgenaa
