/-
  Layer 15: the law's act upon a disk.
-/
import Derived.Test.YtlelmffemlgenaaDkC
import Derived.Test.YtlelmffemlgenaaDkE
import Derived.Lib.SlBytesConst
set_option linter.unusedVariables false
set_option maxRecDepth 100000
namespace Go.Proofs.Ytlelmffemlgenaa
namespace Dk
open Go.RowKit Go.Maps Bk Nw

theorem zz_ex : ∃ z : ByteArray, z = strOfNums (List.replicate 400000 (0 : Int)) := ⟨_, rfl⟩
/-- The many bytes. -/
noncomputable def zz : ByteArray := Classical.choose zz_ex
theorem zz_is : zz = strOfNums (List.replicate 400000 (0 : Int)) := Classical.choose_spec zz_ex
theorem zz_size : zz.size = 400000 := by rw [zz_is, strOfNums_size, List.length_replicate]
/-- Many bytes are made. -/
theorem zz_made : ∃ Z : Array Value, (∀ wx : World, (Instr.makeSlice 29 (.int .i64 400000) (.int .i64 400000)).run Try.prog wx = .ok (.slice (some ⟨wx.heap.size, 0, none⟩) 400000 400000) (wx.alloc (.cells Z 5))) ∧
    ∀ wx : World, Yb (wx.alloc (.cells Z 5)).heap.size (wx.alloc (.cells Z 5)) (some ⟨wx.heap.size, 0, none⟩) 400000 400000 zz := by
  obtain ⟨n, hn⟩ : ∃ n : Nat, n = 400000 := ⟨_, rfl⟩
  have hz := zz_is
  rw [← hn] at hz ⊢
  have hnI : (400000 : Int) = (n : Int) := by omega
  rw [hnI]
  refine ⟨Array.replicate n (Value.int .u8 0), run_makeU8 n (by omega), fun wx => ⟨List.replicate n 0, ⟨by simp [u8s], Nat.le_refl _, by unfold maxLen; omega, fun e => (by cases e), fun h0 => ⟨wx.heap.size, 0, rfl, by simp, fun j hj => ?_⟩⟩, hz.symm, fun z hz => ?_⟩⟩
  · rw [cell_of_row _ _ _ _ _ _ (heap_alloc_new wx _), Nat.zero_add, Array.getElem?_replicate, u8s, List.map_replicate, List.getElem?_replicate]
  · obtain ⟨_, rfl⟩ := List.mem_replicate.1 hz
    omega
/-- An act's error. -/
noncomputable def doE (d : D) (k : Nat) (s : ByteArray) (x : Int) : Int := if k % 7 = 0 then apE d s else if k % 7 = 1 then pwE (op d) else if k % 7 = 2 then cuE d x else if k % 7 = 6 then apE d zz else 0
/-- What an act leaves. -/
noncomputable def doD (d : D) (k : Nat) (s : ByteArray) (x : Int) : D := if k % 7 = 0 then apD d s else if k % 7 = 1 then syD d else if k % 7 = 2 then cuD d x else if k % 7 = 3 then ctD d x else if k % 7 = 4 then crD d x else if k % 7 = 6 then apD d zz else d
theorem act_cells (w : World) (x : Int) (A : Option Addr) (n c : Nat) (i : Int) : (w.alloc (.cells #[.int .u8 x, .slice A n c, .int .i64 i] 31)).cell? ⟨w.heap.size, 0, none⟩ = some (.int .u8 x) ∧ (w.alloc (.cells #[.int .u8 x, .slice A n c, .int .i64 i] 31)).cell? ⟨w.heap.size, 1, none⟩ = some (.slice A n c) ∧ (w.alloc (.cells #[.int .u8 x, .slice A n c, .int .i64 i] 31)).cell? ⟨w.heap.size, 2, none⟩ = some (.int .i64 i) := by
  refine ⟨?_, ?_, ?_⟩ <;> simp [World.cell?_alloc_new]
/-- What a call leaves that was made in a world that grew ahead of it. -/
theorem Told.of_later {w w1 : World} {base g : Nat} {v r : Value} {d' : D} {e : Ending} {w' : World} (hb : Below w.heap.size w w1) (h : Told base g v r d' w1 e w') : Told base g v r d' w e w' := by
  obtain ⟨v', h1, h2, h3⟩ := h
  exact ⟨v', h1, h2, (Turn.ofBelow hb _).trans h3⟩
set_option maxHeartbeats 4000000 in
theorem does_any {w : World} {base g : Nat} {v : Value} {d : D} (h : DAt w base g v d) (k : Nat) (A : Option Addr) (n c : Nat) (s : ByteArray) (x : Int) (hy : Yb w.heap.size w A n c s) (hx : IW x) :
    Calls Try.prog 16 #[.pointer (some ⟨g, 0, none⟩), .agg #[.int .u8 (k : Int), .slice A n c, .int .i64 x]] w (Told base g v (.int .i64 (doE d k s x)) (doD d k s x) w) := by
  obtain ⟨c0, c1, c2⟩ := act_cells w k A n c x
  have hb1 := (Below.refl w.heap.size w).alloc (Nat.le_refl _) (.cells #[.int .u8 (k : Int), .slice A n c, .int .i64 x] 31)
  have HD := Lib.hid (h.later hb1)
  have HY : Hid (Yb (w.alloc (.cells #[.int .u8 (k : Int), .slice A n c, .int .i64 x] 31)).heap.size (w.alloc (.cells #[.int .u8 (k : Int), .slice A n c, .int .i64 x] 31)) A n c s) := Lib.hid (by
    have := (hy.below hb1).raise hb1.size
    exact this)
  have HB := Lib.hid hb1
  have hk : k % 7 < 7 := Nat.mod_lt _ (by decide)
  clear h hy hb1
  rcases (by omega : k % 7 = 0 ∨ k % 7 = 1 ∨ k % 7 = 2 ∨ k % 7 = 3 ∨ k % 7 = 4 ∨ k % 7 = 5 ∨ k % 7 = 6) with hr | hr | hr | hr | hr | hr | hr
  · have e1 : doE d k s x = apE d s := by unfold doE; simp [hr]
    have e2 : doD d k s x = apD d s := by unfold doD; simp [hr]
    rw [e1, e2]
    have hrI : (k : Int) % 7 = 0 := by omega
    clear hr e1 e2 hk
    go_enter Try.func16, Try.ntmps16
    go_wp2_with fail
    refine (Append_any HD.out A n c s HY.out).mono ?_
    rintro e w2 ⟨v2, rfl, hn2, ht2⟩
    have HN2 := Lib.hid hn2
    have HT2 := Lib.hid ht2
    clear hn2 ht2
    go_wp2_with fail
    go_ret
    exact Told.of_later HB.out ⟨v2, rfl, HN2.out, HT2.out⟩
  · have e1 : doE d k s x = pwE (op d) := by unfold doE; simp [hr]
    have e2 : doD d k s x = syD d := by unfold doD; simp [hr]
    rw [e1, e2]
    have hrI : (k : Int) % 7 = 1 := by omega
    clear hr e1 e2 hk
    go_enter Try.func16, Try.ntmps16
    go_wp2_with fail
    refine (Sync_any HD.out).mono ?_
    rintro e w2 ⟨v2, rfl, hn2, ht2⟩
    have HN2 := Lib.hid hn2
    have HT2 := Lib.hid ht2
    clear hn2 ht2
    go_wp2_with fail
    go_ret
    exact Told.of_later HB.out ⟨v2, rfl, HN2.out, HT2.out⟩
  · have e1 : doE d k s x = cuE d x := by unfold doE; simp [hr]
    have e2 : doD d k s x = cuD d x := by unfold doD; simp [hr]
    rw [e1, e2]
    have hrI : (k : Int) % 7 = 2 := by omega
    clear hr e1 e2 hk
    go_enter Try.func16, Try.ntmps16
    go_wp2_with fail
    refine (Cutoff_any HD.out x).mono ?_
    rintro e w2 ⟨v2, rfl, hn2, ht2⟩
    have HN2 := Lib.hid hn2
    have HT2 := Lib.hid ht2
    clear hn2 ht2
    go_wp2_with fail
    go_ret
    exact Told.of_later HB.out ⟨v2, rfl, HN2.out, HT2.out⟩
  · have e1 : doE d k s x = 0 := by unfold doE; simp [hr]
    have e2 : doD d k s x = ctD d x := by unfold doD; simp [hr]
    rw [e1, e2]
    have hrI : (k : Int) % 7 = 3 := by omega
    have HX := Lib.hid hx
    clear hr e1 e2 hk hx
    go_enter Try.func16, Try.ntmps16
    go_wp2_with fail
    refine (Cut_any HD.out x HX.out).mono ?_
    rintro e w2 ⟨v2, rfl, hn2, ht2⟩
    have HN2 := Lib.hid hn2
    have HT2 := Lib.hid ht2
    clear hn2 ht2
    go_wp2_with fail
    go_ret
    exact Told.of_later HB.out ⟨v2, rfl, HN2.out, HT2.out⟩
  · have e1 : doE d k s x = 0 := by unfold doE; simp [hr]
    have e2 : doD d k s x = crD d x := by unfold doD; simp [hr]
    rw [e1, e2]
    have hrI : (k : Int) % 7 = 4 := by omega
    clear hr e1 e2 hk
    go_enter Try.func16, Try.ntmps16
    go_wp2_with fail
    refine (Crash_any HD.out x).mono ?_
    rintro e w2 ⟨v2, rfl, hn2, ht2⟩
    have HN2 := Lib.hid hn2
    have HT2 := Lib.hid ht2
    clear hn2 ht2
    go_wp2_with fail
    go_ret
    exact Told.of_later HB.out ⟨v2, rfl, HN2.out, HT2.out⟩
  · have e1 : doE d k s x = 0 := by unfold doE; simp [hr]
    have e2 : doD d k s x = d := by unfold doD; simp [hr]
    rw [e1, e2]
    have hrI : (k : Int) % 7 = 5 := by omega
    clear hr e1 e2 hk
    go_enter Try.func16, Try.ntmps16
    go_wp2_with fail
    go_ret
    exact ⟨v, rfl, HD.out, Turn.ofBelow HB.out _⟩
  · have e1 : doE d k s x = apE d zz := by unfold doE; simp [hr]
    have e2 : doD d k s x = apD d zz := by unfold doD; simp [hr]
    rw [e1, e2]
    have hrI : (k : Int) % 7 = 6 := by omega
    obtain ⟨Z, mk, hzy⟩ := zz_made
    have HZY := Lib.hid hzy
    clear hr e1 e2 hk hzy
    go_enter Try.func16, Try.ntmps16
    go_upto_region 13 with (fail)
    generalize w.alloc (.cells #[.int .u8 (k : Int), .slice A n c, .int .i64 x] 31) = w1 at *
    have hb2 := (Below.refl w1.heap.size w1).alloc (Nat.le_refl _) (.cells Z 5)
    have HA := Lib.hid (Append_any (HD.out.later hb2) _ 400000 400000 zz (HZY.out w1))
    have HB2 := Lib.hid (HB.out.trans (hb2.mono HB.out.size))
    clear hb2 HZY
    go_wp2_with fail
    refine HA.out.mono ?_
    rintro e w2 ⟨v2, rfl, hn2, ht2⟩
    have HN2 := Lib.hid hn2
    have HT2 := Lib.hid ht2
    clear hn2 ht2
    go_wp2_with fail
    go_ret
    exact Told.of_later HB2.out ⟨v2, rfl, HN2.out, HT2.out⟩
theorem does_nil (k : Nat) (A : Option Addr) (n c : Nat) (x : Int) (w : World) :
    Calls Try.prog 16 #[.pointer none, .agg #[.int .u8 (k : Int), .slice A n c, .int .i64 x]] w fun e w' => e = .returned (.int .i64 (if k % 7 < 3 ∨ k % 7 = 6 then 2 else 0)) ∧ Below w.heap.size w w' := by
  obtain ⟨c0, c1, c2⟩ := act_cells w k A n c x
  have HB := Lib.hid ((Below.refl w.heap.size w).alloc (Nat.le_refl _) (.cells #[.int .u8 (k : Int), .slice A n c, .int .i64 x] 31))
  rcases (by omega : k % 7 = 0 ∨ k % 7 = 1 ∨ k % 7 = 2 ∨ k % 7 = 3 ∨ k % 7 = 4 ∨ k % 7 = 5 ∨ k % 7 = 6) with hr | hr | hr | hr | hr | hr | hr
  · rw [if_pos (by omega)]
    have hrI : (k : Int) % 7 = 0 := by omega
    clear hr
    go_enter Try.func16, Try.ntmps16
    go_wp2_with fail
    refine (Append_nil A n c _).mono ?_
    rintro e w2 ⟨rfl, rfl⟩
    go_wp2_with fail
    go_ret
    exact ⟨rfl, HB.out⟩
  · rw [if_pos (by omega)]
    have hrI : (k : Int) % 7 = 1 := by omega
    clear hr
    go_enter Try.func16, Try.ntmps16
    go_wp2_with fail
    refine (Sync_nil _).mono ?_
    rintro e w2 ⟨rfl, rfl⟩
    go_wp2_with fail
    go_ret
    exact ⟨rfl, HB.out⟩
  · rw [if_pos (by omega)]
    have hrI : (k : Int) % 7 = 2 := by omega
    clear hr
    go_enter Try.func16, Try.ntmps16
    go_wp2_with fail
    refine (Cutoff_nil x _).mono ?_
    rintro e w2 ⟨rfl, rfl⟩
    go_wp2_with fail
    go_ret
    exact ⟨rfl, HB.out⟩
  · rw [if_neg (by omega)]
    have hrI : (k : Int) % 7 = 3 := by omega
    clear hr
    go_enter Try.func16, Try.ntmps16
    go_wp2_with fail
    refine (Cut_nil x _).mono ?_
    rintro e w2 ⟨rfl, rfl⟩
    go_wp2_with fail
    go_ret
    exact ⟨rfl, HB.out⟩
  · rw [if_neg (by omega)]
    have hrI : (k : Int) % 7 = 4 := by omega
    clear hr
    go_enter Try.func16, Try.ntmps16
    go_wp2_with fail
    refine (Crash_nil x _).mono ?_
    rintro e w2 ⟨rfl, rfl⟩
    go_wp2_with fail
    go_ret
    exact ⟨rfl, HB.out⟩
  · rw [if_neg (by omega)]
    have hrI : (k : Int) % 7 = 5 := by omega
    clear hr
    go_enter Try.func16, Try.ntmps16
    go_wp2_with fail
    go_ret
    exact ⟨rfl, HB.out⟩
  · rw [if_pos (by omega)]
    have hrI : (k : Int) % 7 = 6 := by omega
    obtain ⟨Z, mk, _⟩ := zz_made
    clear hr
    go_enter Try.func16, Try.ntmps16
    go_wp2_with fail
    generalize w.alloc (.cells #[.int .u8 (k : Int), .slice A n c, .int .i64 x] 31) = w1 at *
    have HB2 := Lib.hid (HB.out.trans (((Below.refl w1.heap.size w1).alloc (Nat.le_refl _) (.cells Z 5)).mono HB.out.size))
    refine (Append_nil _ 400000 400000 _).mono ?_
    rintro e w2 ⟨rfl, rfl⟩
    go_wp2_with fail
    go_ret
    exact ⟨rfl, HB2.out⟩
end Dk
end Go.Proofs.Ytlelmffemlgenaa
