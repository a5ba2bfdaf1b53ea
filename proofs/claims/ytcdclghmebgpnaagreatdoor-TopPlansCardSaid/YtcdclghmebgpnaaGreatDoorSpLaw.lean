/-
  Layer 7: steps that are the same; where a robot can be, of a floor and a table.
  Layer 7: the document's examples.
  Layer 7: what is taken, in the program's table and in the document's (tables).
  Layer 7: what follows of what Plan, Soon and Is tell.
  A case of layer 7 that came in, opened for a walk.
-/
import Derived.Test.YtcdclghmebgpnaaGreatDoorSpFive
import Derived.Test.YtcdclghmebgpnaaGreatDoorFlI
import Derived.Test.YtcdclghmebgpnaaGreatDoorWnJ
import Derived.Test.YtcdclghmebgpnaaGreatDoorWnRa
import Derived.Test.YtcdclghmebgpnaaGreatDoorPtGb
import Derived.ProofKit
import Derived.OpenShut
import Derived.ChangeOld
import Derived.Lib.SmallJoins
import Derived.Deep.Slices
import Derived.Deep.Fields
set_option linter.unusedVariables false
set_option maxRecDepth 100000
section
section
namespace Go.Proofs.YtcdclghmebgpnaaGreatDoor
namespace Sp
open Go.RowKit Fl Pt
open Wn (Tab TF frees isT Ordw IW Wt wcl plc Rising ext_getD)

set_option maxHeartbeats 2000000 in
theorem same7_any (A A' : Option Addr) (n n' c c' : Nat) (L M : List (Int × Int)) (w : World) (h1 : Wt w.heap.size w A n c L) (h2 : Wt w.heap.size w A' n' c' M) (hn : n ≤ 1000000) :
    Calls Tryz.prog 15 #[.slice A n c, .slice A' n' c'] w fun e w' => e = .returned (.bool (decide (L = M))) ∧ Below w.heap.size w w' := by
  have H1 := Lib.hid h1
  have H2 := Lib.hid h2
  have HL1 := Lib.hid h1.len
  have HL2 := Lib.hid h2.len
  have hs := h1.size
  have hs1 := hs.1
  have hs2 := hs.2
  have hs' := h2.size
  have hs3 := hs'.1
  have hs4 := hs'.2
  clear h1 h2 hs hs'
  by_cases hnn : n = n'
  · subst hnn
    have HB0 := Lib.hid (Below.refl w.heap.size w)
    go_enter Tryz.func15, Tryz.ntmps15
    go_wp2_with fail
    go_loopw [5] (fun iv wr => ∃ (j : Nat), iv = .int .i64 (j : Int) ∧ j ≤ n ∧ Hid (∀ t, t < j → L.getD t (0, 0) = M.getD t (0, 0)) ∧ Below w.heap.size w wr) (fun iv _ => n - (intOf iv).toNat)
    case atStart => exact ⟨0, rfl, Nat.zero_le _, Lib.hid (fun t ht => by omega), Below.refl _ _⟩
    case round =>
      rename World => wr
      obtain ⟨j, rfl, hj, HI, hb⟩ := hrel
      have HB := Lib.hid hb
      clear hb
      by_cases hlj : j < n
      · obtain ⟨g1, o1, rfl, _, hc1⟩ := (H1.out.later HB.out).cell (by omega)
        obtain ⟨k1, k2⟩ := hc1 j hlj
        obtain ⟨g2, o2, rfl, _, hc2⟩ := (H2.out.later HB.out).cell (by omega)
        obtain ⟨k3, k4⟩ := hc2 j hlj
        have hjI : (j : Int) < (n : Int) := by omega
        clear hc1 hc2
        by_cases he : L.getD j (0, 0) = M.getD j (0, 0)
        · have HI2 : Hid (∀ t, t < j + 1 → L.getD t (0, 0) = M.getD t (0, 0)) := Lib.hid (fun t ht => by
            rcases (by omega : t < j ∨ t = j) with q | q
            · exact HI.out t q
            · rw [q]; exact he)
          rw [← he] at k3 k4
          clear he
          generalize L.getD j (0, 0) = p at *
          go_wp2_with fail
          go_big_quiet (fail)
          go_wp2_with fail
          go_roundw
          case rel => exact ⟨j + 1, by go_num, by omega, HI2, HB.out.trans (below_drewN _ _ _)⟩
          case measure => simp [intOf]; omega
        · have HD : Hid (decide (L = M) = false) := Lib.hid (decide_eq_false (fun e => he (by rw [e])))
          obtain ⟨p1, hp1⟩ : ∃ p1, p1 = (L.getD j (0, 0)).1 := ⟨_, rfl⟩
          obtain ⟨p2, hp2⟩ : ∃ p2, p2 = (L.getD j (0, 0)).2 := ⟨_, rfl⟩
          obtain ⟨p3, hp3⟩ : ∃ p3, p3 = (M.getD j (0, 0)).1 := ⟨_, rfl⟩
          obtain ⟨p4, hp4⟩ : ∃ p4, p4 = (M.getD j (0, 0)).2 := ⟨_, rfl⟩
          have hcs : p1 ≠ p3 ∨ (p1 = p3 ∧ p2 ≠ p4) := by
            by_cases e1 : p1 = p3
            · exact .inr ⟨e1, fun e2 => he (Prod.ext (by rw [← hp1, ← hp3, e1]) (by rw [← hp2, ← hp4, e2]))⟩
            · exact .inl e1
          rw [← hp1] at k1
          rw [← hp2] at k2
          rw [← hp3] at k3
          rw [← hp4] at k4
          clear hp1 hp2 hp3 hp4 he
          rcases hcs with e1 | ⟨rfl, e1⟩
          · have d1 : (p1 == p3) = false := by rw [beq_eq_false_iff_ne]; exact e1
            go_wp2_with fail
            go_big_quiet (fail)
            go_wp2_with fail
            go_ret
            exact ⟨by rw [HD.out]; rfl, HB.out.trans (below_drewN _ _ _)⟩
          · have d1 : (p2 == p4) = false := by rw [beq_eq_false_iff_ne]; exact e1
            go_wp2_with fail
            go_big_quiet (fail)
            go_wp2_with fail
            go_ret
            exact ⟨by rw [HD.out]; rfl, HB.out.trans (below_drewN _ _ _)⟩
      · obtain rfl : j = n := by omega
        have HD : Hid (decide (L = M) = true) := Lib.hid (decide_eq_true (ext_getD (by rw [← HL1.out, ← HL2.out]) (fun t ht => HI.out t (by rw [HL1.out]; exact ht))))
        go_wp2_with fail
        go_ret
        exact ⟨by rw [HD.out]; rfl, HB.out⟩
  · have HD : Hid (decide (L = M) = false) := Lib.hid (decide_eq_false (fun e => hnn (by rw [HL1.out, HL2.out, e])))
    have hd : ((n : Int) == (n' : Int)) = false := by rw [beq_eq_false_iff_ne]; omega
    rw [HD.out]
    go_enter Tryz.func15, Tryz.ntmps15
    go_wp2_with fail
    go_ret
    exact ⟨rfl, Below.refl _ _⟩
theorem envOk {W H : Int} {s : ByteArray} {c t0 : Int} {T : Int → List (Int × Int)} (hR : Rt7 W H s c t0) (ho : ∀ y, Ordw 0 (T y)) (hs : ∀ y, (T y).length ≤ 2000) : (envOf W.toNat H.toNat c.toNat s t0 T).Ok := by
  obtain ⟨hO, h0, h1⟩ := hR
  obtain ⟨W, H, a, rfl, rfl, rfl, ha, hz, _⟩ := onFloor_some hO
  have hF : Pm.Fit ⟨W, H, s, a, t0, 1, 0, 0, 0, 0, 0, 0, 2000, none, T, fun _ => 0⟩ :=
    ⟨hO.1, ha, hz, ⟨h0, h1⟩, ho, Nat.le_refl _, hs, fun k hk => by
      show k < 1
      rcases hk with e | e | ⟨x, _, _, e⟩
      · have e : k = 0 := e; omega
      · cases e
      · have e : 0 = k := e; omega⟩
  exact hF.ok
/-- What Plan tells, by layers. -/
theorem plan_is {W H : Int} {s : ByteArray} {c t0 tz ahead : Int} {T : Int → List (Int × Int)} {P : List (Int × Int)} {er : Int} (h : PlanIs W H s c t0 tz ahead T P er) (ho : ∀ y, Ordw 0 (T y)) (hs : ∀ y, (T y).length ≤ 2000) (hR : Rc7 W H s c t0 ahead) (hO : OnFloor W H s tz) {N : Nat} (hN : (N : Int) ≤ ahead)
    (h1 : (LY (envOf W.toNat H.toNat c.toNat s t0 T) N).getD tz.toNat false = true) (h2 : ∀ n, n < N → (LY (envOf W.toNat H.toNat c.toNat s t0 T) n).getD tz.toNat false = false) :
    er = 0 ∧ P = castS ((envOf W.toNat H.toNat c.toNat s t0 T).bk (cnL (envOf W.toNat H.toNat c.toNat s t0 T)) N tz.toNat) := by
  have hk := envOk hR.1 ho hs
  obtain ⟨_, _, k, _, _, hk2, hkN, _⟩ := onFloor_some hO
  subst hk2
  have hkN : ((k : Int)).toNat < (envOf W.toNat H.toNat c.toNat s t0 T).N := by rw [Int.toNat_natCast]; exact hkN
  have hsn := isSn_ly hk (last := t0 + ahead) hkN (by show t0 + (N : Int) ≤ _; omega) h1 h2
  have h0 : (0 : Int) ≤ (envOf W.toNat H.toNat c.toNat s t0 T).t0 := hR.1.2.1
  rcases h with ⟨hn, _⟩ | ⟨_, _, ⟨_, _, h3⟩ | ⟨rfl, N', cn, h4, h5, h6, h7⟩⟩
  · exact absurd ⟨hR, hO⟩ hn
  · have := IsSn.uniq h0 hsn h3
    have e : (envOf W.toNat H.toNat c.toNat s t0 T).t0 = t0 := rfl
    omega
  · have := IsSn.uniq h0 hsn h5
    have e : (envOf W.toNat H.toNat c.toNat s t0 T).t0 = t0 := rfl
    obtain rfl : N = N' := by omega
    refine ⟨rfl, ?_⟩
    rw [h7, h6.bk_ly hkN (by show t0 + (N : Int) ≤ _; omega)]
/-! ### The floor of the examples -/
def s7t : ByteArray := ⟨#[48, 97, 97, 98, 49, 10]⟩
def s7 : ByteArray := ⟨#[48, 97, 97, 98, 49]⟩
theorem rows7 : rowsL s7t.data.toList = [[48, 97, 97, 98, 49]] := by decide
theorem right7 : Right 5 1 s7 := by
  refine ⟨5, 1, rfl, rfl, ⟨by decide, by decide, by decide, by decide, rfl⟩, ⟨by decide, ⟨by decide, by decide, ?_, ?_⟩, ⟨1, [2, 3], by decide, ?_⟩⟩⟩
  · intro r hr
    have h1 : (docks 5 1 (at_ s7)).length = 2 := by decide
    have : r = 0 ∨ r = 1 := by omega
    rcases this with rfl | rfl <;> decide
  · intro d hd
    have h1 : docks 5 1 (at_ s7) = [0, 4] := by decide
    rw [h1] at hd
    simp only [List.mem_cons, List.not_mem_nil, or_false] at hd
    rcases hd with rfl | rfl
    · exact ⟨1, by decide, by decide⟩
    · exact ⟨3, by decide, by decide⟩
  · have r1 : Rch 5 1 (at_ s7) 1 1 := Rch.refl _ _ _ 1
    have r2 := r1.step (c := 2) (by decide) (by decide)
    have r3 := r2.step (c := 3) (by decide) (by decide)
    intro l hl
    simp only [List.mem_cons, List.not_mem_nil, or_false] at hl
    rcases hl with rfl | rfl | rfl <;> assumption
theorem out7 {W H : Int} {c : ByteArray} {row : Nat} {err : Int} (h : POut (rowsL s7t.data.toList) W H c row err) : W = 5 ∧ H = 1 ∧ c = s7 ∧ row = 0 ∧ err = 0 := by
  rw [rows7] at h
  refine POut.one h (.inr (.inl ⟨?_, right7, rfl, rfl, rfl, rfl, rfl⟩))
  intro j hj
  have : j = 0 := by simp at hj; omega
  rcases this with rfl; decide
def T0 : Int → List (Int × Int) := fun _ => []
def T1 : Int → List (Int × Int) := Wn.upd T0 2 [(2, 5)]
def T2 : Int → List (Int × Int) := Wn.upd T1 1 [(4, 9)]
theorem t1_of (y : Int) : T1 y = if y = 2 then [(2, 5)] else [] := rfl
theorem t2_of (y : Int) : T2 y = if y = 1 then [(4, 9)] else if y = 2 then [(2, 5)] else [] := rfl
theorem ord0 (y : Int) : Ordw 0 (T0 y) := trivial
theorem ord1 (y : Int) : Ordw 0 (T1 y) := by
  rw [t1_of]
  split
  · exact ⟨by decide, by decide, by decide, trivial⟩
  · trivial
theorem ord2 (y : Int) : Ordw 0 (T2 y) := by
  rw [t2_of]
  split
  · exact ⟨by decide, by decide, by decide, trivial⟩
  · split
    · exact ⟨by decide, by decide, by decide, trivial⟩
    · trivial
theorem few0 (y : Int) : (T0 y).length ≤ 2000 := Nat.zero_le _
theorem few1 (y : Int) : (T1 y).length ≤ 2000 := by rw [t1_of]; split <;> decide
theorem few2 (y : Int) : (T2 y).length ≤ 2000 := by rw [t2_of]; split; decide; split <;> decide
theorem rc7 : Rc7 5 1 s7 0 0 20 := ⟨⟨⟨right7, by decide⟩, by decide, by decide⟩, by decide, by decide⟩
theorem on7 : OnFloor 5 1 s7 3 := ⟨right7, by decide⟩
theorem pl0 {P : List (Int × Int)} {er : Int} (h : PlanIs 5 1 s7 0 0 3 20 T0 P er) : er = 0 ∧ P = [(1, 1), (2, 2), (3, 3)] := by
  obtain ⟨h1, h2⟩ := plan_is h ord0 few0 rc7 on7 (N := 3) (by decide) (by decide +kernel) (by decide +kernel)
  exact ⟨h1, h2.trans (by decide +kernel)⟩
theorem pl1 {P : List (Int × Int)} {er : Int} (h : PlanIs 5 1 s7 0 0 3 20 T1 P er) : er = 0 ∧ P = [(1, 4), (2, 5), (3, 6)] := by
  obtain ⟨h1, h2⟩ := plan_is h ord1 few1 rc7 on7 (N := 6) (by decide) (by decide +kernel) (by decide +kernel)
  exact ⟨h1, h2.trans (by decide +kernel)⟩
theorem pl2 {P : List (Int × Int)} {er : Int} (h : PlanIs 5 1 s7 0 0 3 20 T2 P er) : er = 0 ∧ P = [(1, 9), (2, 10), (3, 11)] := by
  obtain ⟨h1, h2⟩ := plan_is h ord2 few2 rc7 on7 (N := 11) (by decide) (by decide +kernel) (by decide +kernel)
  exact ⟨h1, h2.trans (by decide +kernel)⟩
end Sp
end Go.Proofs.YtcdclghmebgpnaaGreatDoor
end

section
namespace Go.Proofs.YtcdclghmebgpnaaGreatDoor
namespace Sp
open Go.RowKit Fl Pt
open Wn (Tab TF frees isT Ordw IW Wt wcl plc Rising)

theorem tab0 (w : World) : Tk (w.alloc (.cells #[.map none] 88)) w.heap.size w.heap.size 0 none T0 (fun _ => 0) :=
  ⟨Tab.new w w.heap.size (Nat.le_refl _), ord0, by decide⟩
theorem Sow.turn {w w' : World} {base : Nat} {v : Value} {L : List (Int × Int)} {F F' : Nat → Prop} (h : Sow w base v L) (ht : Turn F F' w w') (hF : ∀ k, base ≤ k → k < w.heap.size → ¬ F k) : Sow w' base v L := ownsRow_same h (fun k hk => ht.block k (h.lt k hk).2 (hF k (h.lt k hk).1 (h.lt k hk).2))
theorem wt_three (w : World) (a b c d e f : Int) : Wt (w.alloc (.cells #[.int .i64 a, .int .i64 b, .int .i64 c, .int .i64 d, .int .i64 e, .int .i64 f] 64)).heap.size (w.alloc (.cells #[.int .i64 a, .int .i64 b, .int .i64 c, .int .i64 d, .int .i64 e, .int .i64 f] 64)) (some ⟨w.heap.size, 0, none⟩) 3 3 [(a, b), (c, d), (e, f)] := by
  refine ⟨rfl, Nat.le_refl _, by unfold maxLen; omega, fun h => (by cases h), fun _ => ⟨w.heap.size, 0, rfl, by simp, fun j hj => ?_⟩⟩
  rcases (by omega : j = 0 ∨ j = 1 ∨ j = 2) with rfl | rfl | rfl <;> exact ⟨by simp [World.cell?_alloc_new], by simp [World.cell?_alloc_new]⟩
set_option maxHeartbeats 4000000 in
theorem shown7_any (w : World) : Calls Tryz.prog 6 #[] w fun e w' => e = .returned (.bool true) ∧ Below w.heap.size w w' := by
  have HPA := Lib.hid (fun wx => parse_any s7t (by decide) wx)
  rw [show s7t = ⟨#[48, 97, 97, 98, 49, 10]⟩ from rfl] at HPA
  have HPL := Lib.hid (fun tB tb tN mv T tg wx hT => plan_any 5 1 s7 (by decide) 0 0 3 20 tB tb tN mv T tg wx hT)
  go_enter Tryz.func6, Tryz.ntmps6
  go_wp2_with fail
  refine (HPA.out _).mono ?_
  rintro e w1 ⟨W, H, c, row, err, rfl, ho, hb1⟩
  obtain ⟨rfl, rfl, rfl, rfl, rfl⟩ := out7 ho
  have HB1 := Lib.hid hb1
  have HX1 := Lib.hid (Box.start w1 5 1 s7 23)
  clear ho hb1 HPA
  go_wp2_with fail
  refine (Wn.new_any _).mono ?_
  rintro e w2 ⟨rfl, rfl⟩
  obtain ⟨wf, hwf⟩ : ∃ wf, wf = w1.alloc (.cells #[.int .i64 5, .int .i64 1, .string s7] 23) := ⟨_, rfl⟩
  have hz : wf.heap.size = w1.heap.size + 1 := by rw [hwf]; simp
  rw [← hwf] at HX1 ⊢
  have HT2 := Lib.hid (tab0 wf)
  obtain ⟨tb, htb⟩ : ∃ tb, tb = wf.heap.size := ⟨_, rfl⟩
  have HA2 := Lib.hid ((Below.refl wf.heap.size wf).alloc (Nat.le_refl _) (.cells #[.map none] 88))
  rw [← htb] at HT2 HA2 ⊢
  obtain ⟨w2, hw2⟩ : ∃ w2, w2 = wf.alloc (.cells #[.map none] 88) := ⟨_, rfl⟩
  have hz2 : w2.heap.size = tb + 1 := by rw [hw2, htb]; simp
  rw [← hw2] at HT2 HA2 ⊢
  have HX2 : Hid (Box w1 5 1 s7 w2) := Lib.hid (HX1.out.later (by rw [← hz, ← htb]; exact HA2.out))
  have HTB : Hid (tb = w1.heap.size + 1) := Lib.hid (by omega)
  have HZ2 := Lib.hid hz2
  clear hwf htb hw2 hz hz2
  have c0 := HX2.out.c0
  have c1 := HX2.out.c1
  have c2 := HX2.out.c2
  go_wp2_with fail
  refine (HPL.out _ _ _ _ _ _ _ HT2.out).mono ?_
  rintro e w3 ⟨A3, n3, k3, P3, er3, rfl, hn3, hs3, hb3, hp3, _, _⟩
  obtain ⟨rfl, rfl⟩ := pl0 hp3
  obtain rfl : n3 = 3 := hn3
  have HS3 := Lib.hid hs3
  have HX3 := Lib.hid (HX2.out.after hb3)
  have HT3 := Lib.hid (HT2.out.later hb3)
  have HZ3 := Lib.hid hb3.size
  clear hs3 hb3 hp3 c0 c1 c2
  go_wp2_with fail
  refine (Wn.take_any _ _ _ _ T0 _ 2 2 5 _ HT3.out.tab (by unfold IW; omega) (by decide) (ord0 _)).mono ?_
  rintro e w4 ⟨rfl, mv4, gb4, ht4, hu4⟩
  rw [show (Wn.tk (T0 2) 2 5).1 = 0 by decide]
  have HT4 : Hid (Tk w4 tb tb 1 mv4 T1 gb4) := Lib.hid ⟨ht4, ord1, by decide⟩
  have HU4 := Lib.hid hu4
  have HX4 := Lib.hid (HX3.out.later (hu4.below _ (by have := HX3.out.lt; omega) (fun k hk => by have := (HT3.out.tab.foot k hk).1; have := HTB.out; omega)))
  have HS4 := Lib.hid (HS3.out.turn hu4 (fun k h1 h2 hk => by
    rcases hk with e | e | ⟨x, _, hne, _⟩
    · have := HZ2.out; omega
    · cases e
    · exact hne rfl))
  clear ht4 hu4
  have c0 := HX4.out.c0
  have c1 := HX4.out.c1
  have c2 := HX4.out.c2
  go_wp2_with fail
  refine (HPL.out _ _ _ _ _ _ _ HT4.out).mono ?_
  rintro e w5 ⟨A5, n5, k5, P5, er5, rfl, hn5, hs5, hb5, hp5, _, _⟩
  obtain ⟨rfl, rfl⟩ := pl1 hp5
  obtain rfl : n5 = 3 := hn5
  have HS5 := Lib.hid hs5
  have HX5 := Lib.hid (HX4.out.after hb5)
  have HT5 := Lib.hid (HT4.out.later hb5)
  have HS45 := Lib.hid (HS4.out.later hb5)
  have HZ5 := Lib.hid hb5.size
  clear hs5 hb5 hp5 c0 c1 c2
  go_wp2_with fail
  refine (Wn.take_any _ _ _ _ T1 _ 1 4 9 _ HT5.out.tab (by unfold IW; omega) (by decide) (ord1 _)).mono ?_
  rintro e w6 ⟨rfl, mv6, gb6, ht6, hu6⟩
  rw [show (Wn.tk (T1 1) 4 9).1 = 0 by decide]
  have HT6 : Hid (Tk w6 tb tb 2 mv6 T2 gb6) := Lib.hid ⟨ht6, ord2, by decide⟩
  have HX6 := Lib.hid (HX5.out.later (hu6.below _ (by have := HX5.out.lt; omega) (fun k hk => by have := (HT5.out.tab.foot k hk).1; have := HTB.out; omega)))
  have HF5 : Hid (∀ k, TF tb mv4 T1 gb4 k → k = tb ∨ w3.heap.size ≤ k) := Lib.hid (fun k hk => by
    rcases HU4.out.foot k hk with e | e
    · rcases e with e | e | ⟨x, _, hne, _⟩
      · exact .inl e
      · cases e
      · exact absurd rfl hne
    · exact .inr e)
  have HS36 : Hid (Sow w6 w2.heap.size (.slice A3 3 k3) [(1, 1), (2, 2), (3, 3)]) := Lib.hid (ownsRow_same HS45.out (fun k hk => hu6.block k (World.ownsRow.lt HS45.out k hk).2 (fun hF => by
    have h1 := World.ownsRow.lt HS3.out k hk
    have h2 := HZ2.out
    rcases HF5.out k hF with e | e
    · omega
    · omega)))
  have HS56 : Hid (Sow w6 w4.heap.size (.slice A5 3 k5) [(1, 4), (2, 5), (3, 6)]) := Lib.hid (HS5.out.turn hu6 (fun k h1 h2 hF => by
    have := (HT4.out.tab.foot k hF).2
    omega))
  clear ht6 hu6
  have c0 := HX6.out.c0
  have c1 := HX6.out.c1
  have c2 := HX6.out.c2
  go_wp2_with fail
  refine (HPL.out _ _ _ _ _ _ _ HT6.out).mono ?_
  rintro e w7 ⟨A7, n7, k7, P7, er7, rfl, hn7, hs7, hb7, hp7, _, _⟩
  obtain ⟨rfl, rfl⟩ := pl2 hp7
  obtain rfl : n7 = 3 := hn7
  have HS7 := Lib.hid hs7
  have HX7 := Lib.hid (HX6.out.after hb7)
  have HS37 := Lib.hid (HS36.out.later hb7)
  have HS57 := Lib.hid (HS56.out.later hb7)
  clear hs7 hb7 hp7 c0 c1 c2
  go_wp2_with fail
  refine (same7_any A3 _ 3 3 k3 3 _ [(1, 1), (2, 2), (3, 3)] _ (HS37.out.wt.later ((Below.refl w7.heap.size w7).alloc (Nat.le_refl _) _)) (wt_three w7 1 1 2 2 3 3) (by decide)).mono ?_
  rintro e w8 ⟨rfl, hb8⟩
  have HB8 := Lib.hid (((Below.refl w7.heap.size w7).alloc (Nat.le_refl _) (.cells #[.int .i64 1, .int .i64 1, .int .i64 2, .int .i64 2, .int .i64 3, .int .i64 3] 64)).trans (hb8.mono (by simp)))
  rw [show decide ([((1 : Int), (1 : Int)), (2, 2), (3, 3)] = [(1, 1), (2, 2), (3, 3)]) = true by decide]
  have HS58 := Lib.hid (HS57.out.later HB8.out)
  have HS78 := Lib.hid (HS7.out.later HB8.out)
  have HX8 := Lib.hid (HX7.out.after HB8.out)
  clear hb8
  go_wp2_with fail
  refine (same7_any A5 _ 3 3 k5 3 _ [(1, 4), (2, 5), (3, 6)] _ (HS58.out.wt.later ((Below.refl w8.heap.size w8).alloc (Nat.le_refl _) _)) (wt_three w8 1 4 2 5 3 6) (by decide)).mono ?_
  rintro e w9 ⟨rfl, hb9⟩
  have HB9 := Lib.hid (((Below.refl w8.heap.size w8).alloc (Nat.le_refl _) (.cells #[.int .i64 1, .int .i64 4, .int .i64 2, .int .i64 5, .int .i64 3, .int .i64 6] 64)).trans (hb9.mono (by simp)))
  rw [show decide ([((1 : Int), (4 : Int)), (2, 5), (3, 6)] = [(1, 4), (2, 5), (3, 6)]) = true by decide]
  have HS79 := Lib.hid (HS78.out.later HB9.out)
  have HX9 := Lib.hid (HX8.out.after HB9.out)
  clear hb9
  go_wp2_with fail
  refine (same7_any A7 _ 3 3 k7 3 _ [(1, 9), (2, 10), (3, 11)] _ (HS79.out.wt.later ((Below.refl w9.heap.size w9).alloc (Nat.le_refl _) _)) (wt_three w9 1 9 2 10 3 11) (by decide)).mono ?_
  rintro e wA ⟨rfl, hbA⟩
  have HBA := Lib.hid (((Below.refl w9.heap.size w9).alloc (Nat.le_refl _) (.cells #[.int .i64 1, .int .i64 9, .int .i64 2, .int .i64 10, .int .i64 3, .int .i64 11] 64)).trans (hbA.mono (by simp)))
  rw [show decide ([((1 : Int), (9 : Int)), (2, 10), (3, 11)] = [(1, 9), (2, 10), (3, 11)]) = true by decide]
  clear hbA
  go_wp2_with fail
  go_ret
  exact ⟨rfl, HB1.out.trans (((HX9.out.after HBA.out).below).mono HB1.out.size)⟩
end Sp
end Go.Proofs.YtcdclghmebgpnaaGreatDoor
end
end

section
section
namespace Go.Proofs.YtcdclghmebgpnaaGreatDoor
namespace Sp
open Go.RowKit Fl Pt
open Wn (Tab TF frees isT Ordw IW Wt wcl plc Rising RT Rt R3 tkn rtk tk upd)

/-- An object of a table's memory. -/
def IsT (o : Obj) : Prop := (∃ cs fz, o = .cells cs 88 fz) ∨ (∃ es c, o = .map es c) ∨ ∃ cs fz, o = .cells cs 52 fz
theorem notT_cells {cs : Array Value} {t : TypeId} {fz : Nat × Nat} (h1 : t ≠ 88) (h2 : t ≠ 52) : ¬ IsT (.cells cs t fz) := by
  rintro (⟨cs', fz', h⟩ | ⟨es, c, h⟩ | ⟨cs', fz', h⟩)
  · injection h with _ h _; exact h1 h
  · cases h
  · injection h with _ h _; exact h2 h
theorem Tab.isT {w : World} {base tb N : Nat} {mv : Option Nat} {T : Int → List (Int × Int)} {gb : Int → Nat} (h : Tab w base tb N mv T gb) : ∀ (k : Nat) (o : Obj), w.heap[k]? = some o → TF tb mv T gb k → IsT o := by
  rintro k o hk (rfl | e | ⟨x, hx, ht, rfl⟩)
  · have := h.box
    rw [hk] at this
    injection this with this
    exact .inl ⟨_, _, this⟩
  · obtain ⟨_, D, ⟨es, clock, hb, _⟩, _⟩ := h.map k e
    rw [hk] at hb
    injection hb with hb
    exact .inr (.inl ⟨_, _, hb⟩)
  · cases mv with
    | none => exact absurd (h.nomap rfl x) ht
    | some mb =>
      obtain ⟨_, D, _, k2⟩ := h.map mb rfl
      obtain ⟨c, _, ho⟩ := (k2 x hx).2 ht
      obtain ⟨cs, fz, hc⟩ := row_kind ho _ rfl
      rw [hk] at hc
      injection hc with hc
      exact .inr (.inr ⟨_, _, hc⟩)
/-- All other objects are as they were. -/
def KeptTb (w w' : World) : Prop := ∀ (k : Nat) (o : Obj), w.heap[k]? = some o → ¬ IsT o → w'.heap[k]? = some o
theorem Tab.kept {w w' : World} {base tb N : Nat} {mv : Option Nat} {T : Int → List (Int × Int)} {gb : Int → Nat} {F' : Nat → Prop} (h : Tab w base tb N mv T gb) (ht : Turn (TF tb mv T gb) F' w w') : KeptTb w w' := fun k o hk ho => by
  rw [ht.block k (lt_of_heap hk) (fun e => ho (Tab.isT h k o hk e))]; exact hk
theorem RT.kept {w w' : World} {rb : Nat} {A : Option Addr} {c : Nat} {R : List R3} (h : RT w rb A c R) (hk : KeptTb w w') (hs : w.heap.size ≤ w'.heap.size) : RT w' rb A c R :=
  h.same hs (by rw [h.box]; exact hk _ _ h.box (notT_cells (by decide) (by decide))) (fun a e => by
    obtain ⟨cs, fz, q⟩ := h.kind a e
    rw [q]
    exact hk _ _ q (notT_cells (by decide) (by decide)))
theorem Tab.ref {w w' : World} {base tb N rb : Nat} {mv : Option Nat} {T : Int → List (Int × Int)} {gb : Int → Nat} {A : Option Addr} {c : Nat} {R : List R3} (h : Tab w base tb N mv T gb) (hr : RT w rb A c R) (ht : Turn (fun k => k = rb) (fun k => k = rb) w w') : Tab w' base tb N mv T gb :=
  h.turn ht (fun k hk e => by
    have e : k = rb := e
    subst e
    exact notT_cells (by decide) (by decide) (Tab.isT h k _ hr.box hk))
/-- Both tables, in one memory made since w0. -/
structure Two7 (w0 : World) (tb rb j : Nat) (wr : World) : Prop where
  ex : ∃ tN mv T tg A c R, Tk wr tb tb tN mv T tg ∧ tN ≤ j ∧ RT wr rb A c R ∧ R.length ≤ j ∧ ∀ y, tkn R y = T y
  below : Below w0.heap.size w0 wr
  lo : w0.heap.size ≤ tb ∧ w0.heap.size ≤ rb
theorem Two7.later {w0 wr w' : World} {tb rb j : Nat} (h : Two7 w0 tb rb j wr) (hb : Below wr.heap.size wr w') : Two7 w0 tb rb j w' := by
  obtain ⟨tN, mv, T, tg, A, c, R, h1, h2, h3, h4, h5⟩ := h.ex
  exact ⟨⟨tN, mv, T, tg, A, c, R, h1.later hb, h2, h3.later hb, h4, h5⟩, h.below.trans (hb.mono h.below.size), h.lo⟩
theorem Two7.more {w0 wr : World} {tb rb j j' : Nat} (h : Two7 w0 tb rb j wr) (hj : j ≤ j') : Two7 w0 tb rb j' wr := by
  obtain ⟨tN, mv, T, tg, A, c, R, h1, h2, h3, h4, h5⟩ := h.ex
  exact ⟨⟨tN, mv, T, tg, A, c, R, h1, Nat.le_trans h2 hj, h3, Nat.le_trans h4 hj, h5⟩, h.below, h.lo⟩
theorem rins_len7 (x a b : Int) (R : List R3) : (Wn.rins R x a b).length = R.length + 1 := by
  unfold Wn.rins
  rw [List.length_append, List.length_cons, ← Nat.add_assoc, ← List.length_append, List.takeWhile_append_dropWhile]
theorem rtk_len7 (R : List R3) (x a b : Int) : (rtk R x a b).2.length ≤ R.length + 1 := by
  unfold rtk
  split
  · exact Nat.le_succ _
  · split
    · exact Nat.le_succ _
    · split
      · exact Nat.le_succ _
      · exact Nat.le_of_eq (rins_len7 x a b R)
/-- Take, of both: the answers are the same. -/
theorem Two7.take {w0 wr : World} {tb rb j : Nat} (h : Two7 w0 tb rb j wr) (hj : j < 1900) {x a b : Int} (hx : IW x) :
    ∃ n : Int, Calls Tryz.prog 23 #[.pointer (some ⟨tb, 0, none⟩), .int .i64 x, .agg #[.int .i64 a, .int .i64 b]] wr fun e w1 => e = .returned (.int .i64 n) ∧ Below w0.heap.size wr w1 ∧ KeptTb wr w1 ∧
      Calls Tryz.prog 25 #[.pointer (some ⟨rb, 0, none⟩), .int .i64 x, .agg #[.int .i64 a, .int .i64 b]] w1 fun e w2 => e = .returned (.int .i64 n) ∧ Two7 w0 tb rb (j + 1) w2 ∧ Turn (fun k => k = rb) (fun k => k = rb) w1 w2 := by
  obtain ⟨tN, mv, T, tg, A, c, R, h1, h2, h3, h4, h5⟩ := h.ex
  refine ⟨(tk (T x) a b).1, (Wn.take_any tb tb tN mv T tg x a b wr h1.tab hx (by omega) (h1.ord x)).mono ?_⟩
  rintro e w1 ⟨rfl, mv', gb', ht, hu⟩
  have hk := Tab.kept h1.tab hu
  have hs := hu.size
  have hB : Below w0.heap.size wr w1 := hu.below _ h.below.size (fun k hk => Nat.le_trans h.lo.1 (h1.tab.foot k hk).1)
  have hr1 := RT.kept h3 hk hs
  refine ⟨rfl, hB, hk, (Wn.r6take_any rb A c R x a b w1 hr1 (by omega)).mono ?_⟩
  rintro e w2 ⟨rfl, A', c', hr2, hu2⟩
  obtain ⟨e1, e2⟩ := Wn.rtk_tk h5 h1.ord x a b
  refine ⟨by rw [e1], ⟨⟨tN + 1, mv', _, gb', A', c', _, ⟨Tab.ref ht hr1 hu2, fun y => Wn.upd_ord h1.ord (Wn.tk_ord (h1.ord x)) y, by omega⟩, by omega, hr2, by have := rtk_len7 R x a b; omega, e2⟩, ?_, h.lo⟩, hu2⟩
  exact (h.below.trans hB).trans (hu2.below _ (Nat.le_trans h.below.size hs) (fun k hk => by rw [show k = rb from hk]; exact h.lo.2))
/-- A row's box. -/
def Br (D : Nat) (x y z : Int) (w : World) : Prop := w.heap[D]? = some (.cells #[.int .i64 x, .int .i64 y, .int .i64 z] 54 (0, 0))
theorem Br.cells {D : Nat} {x y z : Int} {w : World} (h : Br D x y z w) : w.cell? ⟨D, 0, none⟩ = some (.int .i64 x) ∧ w.cell? ⟨D, 1, none⟩ = some (.int .i64 y) ∧ w.cell? ⟨D, 2, none⟩ = some (.int .i64 z) ∧ D < w.heap.size :=
  ⟨by rw [cell_of_row w D 0 _ _ _ h]; rfl, by rw [cell_of_row w D 1 _ _ _ h]; rfl, by rw [cell_of_row w D 2 _ _ _ h]; rfl, lt_of_heap h⟩
theorem Br.new (w : World) (x y z : Int) : Br w.heap.size x y z (w.alloc (.cells #[.int .i64 x, .int .i64 y, .int .i64 z] 54)) := heap_alloc_new w _
theorem Br.kept {D : Nat} {x y z : Int} {w w' : World} (h : Br D x y z w) (hk : KeptTb w w') : Br D x y z w' := hk D _ h (notT_cells (by decide) (by decide))
theorem Br.turn {D : Nat} {x y z : Int} {w w' : World} {F F' : Nat → Prop} (h : Br D x y z w) (ht : Turn F F' w w') (hF : ¬ F D) : Br D x y z w' := (ht.block D (lt_of_heap h) hF).trans h
def TablesTold (w : World) (e : Ending) (w' : World) : Prop :=
  ∃ tb rb, e = .returned (.tuple #[.pointer (some ⟨tb, 0, none⟩), .pointer (some ⟨rb, 0, none⟩), .bool true]) ∧ Two7 w tb rb 60 w'
set_option maxHeartbeats 4000000 in
theorem tables7_any (A : Option Addr) (n cap : Nat) (L : List R3) (w : World) (hL : Rt w.heap.size w A n cap L) (hx : ∀ j, j < n → IW (L.getD j (0, 0, 0)).1) :
    Calls Tryz.prog 7 #[.slice A n cap] w (TablesTold w) := by
  have HL := Lib.hid hL
  have HX := Lib.hid hx
  have hsz := hL.size
  have hnm : n ≤ 9223372036854775807 := by omega
  clear hL hx hsz
  go_enter Tryz.func7, Tryz.ntmps7
  go_wp2_with fail
  refine (Wn.new_any _).mono ?_
  rintro e w1 ⟨rfl, rfl⟩
  have HT0 : Hid (Two7 w w.heap.size (w.heap.size + 1) 0 ((w.alloc (.cells #[.map none] 88)).alloc (.cells #[.slice none 0 0] 74))) := Lib.hid (by
    have hz : (w.alloc (.cells #[.map none] 88)).heap.size = w.heap.size + 1 := by simp
    have h1 := (Below.refl w.heap.size w).alloc (Nat.le_refl _) (.cells #[.map none] 88)
    have h2 := (Below.refl _ (w.alloc (.cells #[.map none] 88))).alloc (Nat.le_refl _) (.cells #[.slice none 0 0] 74)
    have hr := RT.new (w.alloc (.cells #[.map none] 88))
    rw [hz] at hr
    exact ⟨⟨0, none, T0, _, none, 0, [], (tab0 w).later h2, Nat.le_refl _, hr, Nat.le_refl _, fun y => rfl⟩, h1.trans (h2.mono h1.size), Nat.le_refl _, Nat.le_succ _⟩)
  go_wp2_with fail
  generalize (w.alloc (.cells #[.map none] 88)).alloc (.cells #[.slice none 0 0] 74) = w2 at *
  go_loopw [14] (fun iv wr => ∃ j : Nat, j ≤ n ∧ iv = .int .i64 (j : Int) ∧ Hid (Two7 w w.heap.size (w.heap.size + 1) (min j 60) wr)) (fun iv _ => n - (intOf iv).toNat)
  case atStart => exact ⟨0, Nat.zero_le _, rfl, HT0⟩
  case round =>
    rename World => wr
    obtain ⟨j, hj, rfl, HK⟩ := hrel
    by_cases hlt : j < n
    · obtain ⟨gl, off, rfl, hgl, hcell⟩ := (HL.out.below HK.out.below).cell (by omega)
      obtain ⟨e1, e2, e3⟩ := hcell j hlt
      have hjI : (j : Int) < (n : Int) := by omega
      have hix := HX.out j hlt
      generalize L.getD j (0, 0, 0) = q at *
      obtain ⟨x, y, z⟩ := q
      have HA := Lib.hid ((Below.refl wr.heap.size wr).alloc (Nat.le_refl _) (.cells #[.int .i64 x, .int .i64 y, .int .i64 z] 54))
      have HBQ := Lib.hid (Br.new wr x y z)
      have HKQ := Lib.hid (HK.out.later HA.out)
      obtain ⟨b1, b2, b3, b4⟩ := HBQ.out.cells
      by_cases h60 : j < 60
      · have hd : decide ((j : Int) < 60) = true := decide_eq_true (by omega)
        obtain ⟨nn, htk⟩ := (HKQ.out.later (Below.refl _ _).drew).take (x := x) (a := y) (b := z) (by omega) hix
        have HTK := Lib.hid htk
        have HJ2 : Hid (min j 60 + 1 ≤ min (j + 1) 60) := Lib.hid (by omega)
        have HSZ : Hid (wr.heap.size ≠ w.heap.size + 1) := Lib.hid (by have := HK.out.lo; obtain ⟨_, _, _, _, _, _, _, _, _, hr, _⟩ := HK.out.ex; have := hr.cells.2.2; omega)
        clear hcell htk
        go_wp2_with fail
        generalize wr.alloc (.cells #[.int .i64 x, .int .i64 y, .int .i64 z] 54) = wq at *
        go_region_held3 (fun w' => w'.cell? ⟨wr.heap.size, 0, none⟩ = some (.int .i64 x) ∧ w'.cell? ⟨wr.heap.size, 1, none⟩ = some (.int .i64 y) ∧ w'.cell? ⟨wr.heap.size, 2, none⟩ = some (.int .i64 z)) (go_keep)
          ((first
            | (go_at_call 23; refine HTK.out.mono ?_; rintro e w5 ⟨rfl, hb5, hk5, hc5⟩; have HB5 := Lib.hid hb5; have HBR5 := Lib.hid (Br.kept (show Br wr.heap.size x y z wq.drew from HBQ.out) hk5); have HC5 := Lib.hid hc5; clear hb5 hk5 hc5; have b1 := HBR5.out.cells.1; have b2 := HBR5.out.cells.2.1; have b3 := HBR5.out.cells.2.2.1)
            | (go_at_call 25; refine HC5.out.mono ?_; rintro e w6 ⟨rfl, ht6, hu6⟩; have HT6 := Lib.hid ht6; have HBR6 := Lib.hid (HBR5.out.turn hu6 HSZ.out); clear ht6 hu6; have b1 := HBR6.out.cells.1; have b2 := HBR6.out.cells.2.1; have b3 := HBR6.out.cells.2.2.1)))
        have HT7 : Hid (Two7 w w.heap.size (w.heap.size + 1) (min (j + 1) 60) w6) := Lib.hid (HT6.out.more HJ2.out)
        clear b1 b2 b3
        go_wp2_with fail
        go_roundw
        case rel => exact ⟨j + 1, by omega, by go_num, HT7⟩
        case measure => simp [intOf]; omega
      · have hd : decide ((j : Int) < 60) = false := decide_eq_false (by omega)
        have HT6 : Hid (Two7 w w.heap.size (w.heap.size + 1) (min (j + 1) 60) (wr.alloc (.cells #[.int .i64 x, .int .i64 y, .int .i64 z] 54))) := Lib.hid (HKQ.out.more (by omega))
        clear hcell
        go_wp2_with fail
        go_big_quiet (fail)
        rename_i nq _
        have HT7 := Lib.hid (HT6.out.later (below_drewN _ _ nq))
        go_wp2_with fail
        go_roundw
        case rel => exact ⟨j + 1, by omega, by go_num, HT7⟩
        case measure => simp [intOf]; omega
    · obtain rfl : j = n := by omega
      go_wp2_with fail
      go_ret3
      exact ⟨_, _, rfl, HK.out.more (by omega)⟩
end Sp
end Go.Proofs.YtcdclghmebgpnaaGreatDoor
end

section
namespace Go.Proofs.YtcdclghmebgpnaaGreatDoor
namespace Sp
open Go.RowKit Fl Pt
open Wn (Tab TF frees isT Ordw IW Wt wcl plc Rising RT Rt R3 tkn rtk tk upd)

theorem fit_of {W H : Int} {s : ByteArray} {c t0 : Int} {T : Int → List (Int × Int)} (hR : Rt7 W H s c t0) (ho : ∀ y, Ordw 0 (T y)) (hs : ∀ y, (T y).length ≤ 2000) : ∃ p : Pm, p.Fit ∧ p.env = envOf W.toNat H.toNat c.toNat s t0 T ∧ p.s = s ∧ p.T = T ∧ p.t0 = t0 ∧ p.a = c.toNat ∧ p.W = W.toNat ∧ p.H = H.toNat := by
  obtain ⟨hO, h0, h1⟩ := hR
  obtain ⟨W, H, a, rfl, rfl, rfl, ha, hz, _⟩ := onFloor_some hO
  exact ⟨⟨W, H, s, a, t0, 1, 0, 0, 0, 0, 0, 0, 2000, none, T, fun _ => 0⟩, ⟨hO.1, ha, hz, ⟨h0, h1⟩, ho, Nat.le_refl _, hs, fun k hk => by
      show k < 1
      rcases hk with e | e | ⟨x, _, _, e⟩
      · have e : k = 0 := e; omega
      · cases e
      · have e : 0 = k := e; omega⟩, rfl, rfl, rfl, rfl, rfl, rfl, rfl⟩
theorem Env.Wy.wyT {e : Env} {c b : Nat} {m t : Int} {l : List (Nat × Int)} (h : e.Wy c m l b t) (hi : In (e.O b) t) : WyT e c m (castS l) := by
  induction h with
  | nil c m => exact hi
  | cons a1 a2 a3 a4 a5 _ ih => exact ⟨_, a1, a2, a3, a4, _, rfl, a5, ih hi⟩
/-- So many steps on the floor, at most. -/
theorem Pm.Fit.walk {p : Pm} (h : p.Fit) {m : Int} {c : Nat} (r : p.env.R m c) : ∃ k : Nat, p.t0 + (k : Int) ≤ m ∧ Wk (nx5 p.W p.H (at_ p.s) p.a fun _ => false) p.a k c := by
  induction r with
  | start => exact ⟨0, by show p.t0 + ((0 : Nat) : Int) ≤ p.t0; omega, .zero⟩
  | stay _ _ ih =>
    obtain ⟨k, h1, h2⟩ := ih
    exact ⟨k, by omega, h2⟩
  | go r l hd _ ih =>
    obtain ⟨k, h1, h2⟩ := ih
    refine ⟨k + 1, by omega, h2.step ?_⟩
    unfold nx5
    rw [if_pos (show outB (at_ p.s) p.a _ = true from l)]
    have hd' : _ ∈ nr p.W p.H (at_ p.s) _ := hd
    simpa using hd'
theorem isd_le {nx : Nat → List Nat} {a c : Nat} {d : Int} (h : IsD nx a c d) {k : Nat} (w : Wk nx a k c) : d ≤ (k : Int) := by
  rcases h with ⟨rfl, _⟩ | ⟨n, rfl, hn⟩
  · omega
  · have := hn.2 k w; omega
theorem not_on {W H : Int} {s : ByteArray} (hR : Right W H s) {tz : Int} (h : tz < 0 ∨ (s.size : Int) ≤ tz) : ¬ OnFloor W H s tz := fun ho => by
  obtain ⟨_, _, k, _, _, e, hk, _⟩ := onFloor_some ho
  omega
/-- All that is asked of a plan and of when each cell is reached. -/
structure Wf (W H : Int) (s : ByteArray) (fr st tz ah : Int) (T : Int → List (Int × Int)) (P : List (Int × Int)) (er : Int) (F : List Int) : Prop where
  out : tz < 0 ∨ (F.length : Int) ≤ tz → er = 1
  none : er ≠ 0 → P = [] ∧ (0 ≤ tz → tz < (F.length : Int) → F.getD tz.toNat 0 < 0)
  ok : er = 0 → 0 ≤ tz ∧ tz < (F.length : Int) ∧ OnFloor W H s fr ∧ F.length = s.size ∧ IsOk W H s fr st T P ∧ (P = [] → tz = fr) ∧ (∀ l q, P = l ++ [q] → q = (tz, F.getD tz.toNat 0)) ∧ F.getD tz.toNat 0 - st ≤ ah ∧ 0 ≤ st ∧ st < 1048576 ∧ st ≤ F.getD tz.toNat 0 ∧ F.getD tz.toNat 0 ≤ 1050000 ∧
    ∀ d, IsD (nx5 W.toNat H.toNat (at_ s) fr.toNat fun _ => false) fr.toNat tz.toNat d → d ≤ F.getD tz.toNat 0 - st
theorem wf_of {W H : Int} {s : ByteArray} {fr st tz ah : Int} {T : Int → List (Int × Int)} {P : List (Int × Int)} {er : Int} {F : List Int} (ho : ∀ y, Ordw 0 (T y)) (hs : ∀ y, (T y).length ≤ 2000) (hP : PlanIs W H s fr st tz ah T P er) (hF : SoonIs W H s fr st ah T F) : Wf W H s fr st tz ah T P er F := by
  rcases hF with ⟨hR, hl, hF⟩ | ⟨hR, rfl⟩
  · obtain ⟨p, pf, pe, ps, pT, pt, pa, pW, pH⟩ := fit_of hR.1 ho hs
    have h0 : (0 : Int) ≤ (envOf W.toNat H.toNat fr.toNat s st T).t0 := hR.1.2.1
    have hsn : ∀ k : Nat, k < s.size → IsSn (envOf W.toNat H.toNat fr.toNat s st T) (st + ah) k (F.getD k 0) := hF
    refine ⟨fun h => ?_, fun h => ?_, fun h => ?_⟩
    · rw [hl] at h
      have hn := not_on hR.1.1.1 h
      rcases hP with ⟨_, _, h1⟩ | ⟨_, h1, _⟩
      · exact h1
      · exact absurd h1 hn
    · rcases hP with ⟨h1, rfl, rfl⟩ | ⟨h1, h2, ⟨rfl, rfl, h3⟩ | ⟨rfl, _⟩⟩
      · refine ⟨rfl, fun a b => ?_⟩
        obtain ⟨k, rfl⟩ := Int.eq_ofNat_of_zero_le a
        rw [Int.toNat_natCast]
        rw [hl] at b
        have hk : k < s.size := by omega
        have hw : at_ s k = 35 := Classical.byContradiction fun hw => h1 ⟨hR, hR.1.1.1, by
          unfold bAt
          rw [if_pos (by omega), Int.toNat_natCast]
          exact hw⟩
        rcases hsn k hk with ⟨r, _⟩ | ⟨e, _⟩
        · rw [← pe] at r
          have := pf.noWall r
          rw [ps] at this
          exact absurd hw this
        · rw [e]; omega
      · refine ⟨rfl, fun a b => ?_⟩
        obtain ⟨k, rfl⟩ := Int.eq_ofNat_of_zero_le a
        rw [Int.toNat_natCast] at h3 ⊢
        rw [hl] at b
        rw [(hsn k (by omega)).uniq h0 h3]
        omega
      · exact absurd rfl h
    · rcases hP with ⟨_, _, rfl⟩ | ⟨h1, h2, ⟨_, rfl, _⟩ | ⟨_, N, cn, h3, h4, h5, h6⟩⟩
      · cases h
      · cases h
      · obtain ⟨_, _, k, _, _, e, hk, _⟩ := onFloor_some h2
        subst e
        rw [Int.toNat_natCast] at h4 h6 ⊢
        have hFk := (hsn k hk).uniq h0 h4
        have hr : (envOf W.toNat H.toNat fr.toNat s st T).R (st + N) k ∧ ∀ t, (envOf W.toNat H.toNat fr.toNat s st T).R t k → st + N ≤ t := by
          rcases h4 with ⟨r, _, h⟩ | ⟨h, _⟩
          · exact ⟨r, h⟩
          · have e : (envOf W.toNat H.toNat fr.toNat s st T).t0 = st := rfl
            omega
        obtain ⟨m, w, hm, j, j1, _⟩ := h5.way N k (by show st + (N : Int) ≤ _; omega) hr.1
        have hst := hR.1.2
        refine ⟨by omega, by omega, hR.1.1, hl, ⟨hR.1, ?_⟩, fun e => ?_, fun l q e => ?_, by rw [hFk]; omega, hst.1, hst.2, by rw [hFk]; omega, by rw [hFk]; have := hR.2.2; omega, fun d hd => ?_⟩
        · rw [h6]
          exact w.wyT ⟨j, j1⟩
        · rcases h5.last (n := N) (c := k) (by show st + (N : Int) ≤ _; omega) hr.1 hr.2 with ⟨e1, _, _⟩ | ⟨_, l, e2⟩
          · obtain ⟨_, _, a, _, _, e3, _⟩ := onFloor_some hR.1.1
            have e1 : k = fr.toNat := e1
            omega
          · rw [h6, e2, castS_app] at e
            simp [castS] at e
        · rcases h5.last (n := N) (c := k) (by show st + (N : Int) ≤ _; omega) hr.1 hr.2 with ⟨_, _, e2⟩ | ⟨_, l', e2⟩
          · rw [h6, e2] at e
            simp [castS] at e
          · rw [h6, e2, castS_app] at e
            have := congrArg List.getLast? e
            simp [castS] at this
            rw [← this, hFk]
            rfl
        · rw [hFk]
          have hr1 := hr.1
          rw [← pe] at hr1
          obtain ⟨k', q1, q2⟩ := pf.walk hr1
          rw [pW, pH, ps, pa] at q2
          have := isd_le hd q2
          rw [pt] at q1
          omega
  · rcases hP with ⟨_, rfl, rfl⟩ | ⟨h1, _⟩
    · exact ⟨fun _ => rfl, fun _ => ⟨rfl, fun a b => by simp at b; omega⟩, fun h => by cases h⟩
    · exact absurd h1 hR
/-- A case's value, and its box. -/
def caseV (W H : Int) (s : ByteArray) (A : Option Addr) (n cap : Nat) (fr tz st ah : Int) : Value := .agg #[.int .i64 W, .int .i64 H, .string s, .slice A n cap, .int .i64 fr, .int .i64 tz, .int .i64 st, .int .i64 ah]
structure Cb (D : Nat) (W H : Int) (s : ByteArray) (A : Option Addr) (n cap : Nat) (fr tz st ah : Int) (w : World) : Prop where
  row : w.heap[D]? = some (.cells #[.int .i64 W, .int .i64 H, .string s, .slice A n cap, .int .i64 fr, .int .i64 tz, .int .i64 st, .int .i64 ah] 26 (0, 0))
section
variable {D : Nat} {W H : Int} {s : ByteArray} {A : Option Addr} {n cap : Nat} {fr tz st ah : Int} {w w' : World}
theorem Cb.c0 (h : Cb D W H s A n cap fr tz st ah w) : w.cell? ⟨D, 0, none⟩ = some (.int .i64 W) := by rw [cell_of_row w D 0 _ _ _ h.row]; rfl
theorem Cb.c1 (h : Cb D W H s A n cap fr tz st ah w) : w.cell? ⟨D, 1, none⟩ = some (.int .i64 H) := by rw [cell_of_row w D 1 _ _ _ h.row]; rfl
theorem Cb.c2 (h : Cb D W H s A n cap fr tz st ah w) : w.cell? ⟨D, 2, none⟩ = some (.string s) := by rw [cell_of_row w D 2 _ _ _ h.row]; rfl
theorem Cb.c3 (h : Cb D W H s A n cap fr tz st ah w) : w.cell? ⟨D, 3, none⟩ = some (.slice A n cap) := by rw [cell_of_row w D 3 _ _ _ h.row]; rfl
theorem Cb.c4 (h : Cb D W H s A n cap fr tz st ah w) : w.cell? ⟨D, 4, none⟩ = some (.int .i64 fr) := by rw [cell_of_row w D 4 _ _ _ h.row]; rfl
theorem Cb.c5 (h : Cb D W H s A n cap fr tz st ah w) : w.cell? ⟨D, 5, none⟩ = some (.int .i64 tz) := by rw [cell_of_row w D 5 _ _ _ h.row]; rfl
theorem Cb.c6 (h : Cb D W H s A n cap fr tz st ah w) : w.cell? ⟨D, 6, none⟩ = some (.int .i64 st) := by rw [cell_of_row w D 6 _ _ _ h.row]; rfl
theorem Cb.c7 (h : Cb D W H s A n cap fr tz st ah w) : w.cell? ⟨D, 7, none⟩ = some (.int .i64 ah) := by rw [cell_of_row w D 7 _ _ _ h.row]; rfl
theorem Cb.later (h : Cb D W H s A n cap fr tz st ah w) (hb : Below w.heap.size w w') : Cb D W H s A n cap fr tz st ah w' := ⟨(hb.block D (lt_of_heap h.row)).trans h.row⟩
theorem Cb.low {B : Nat} (h : Cb D W H s A n cap fr tz st ah w) (hb : Below B w w') (hD : D < B) : Cb D W H s A n cap fr tz st ah w' := ⟨(hb.block D hD).trans h.row⟩
end
theorem Cb.new (w : World) (W H : Int) (s : ByteArray) (A : Option Addr) (n cap : Nat) (fr tz st ah : Int) : Cb w.heap.size W H s A n cap fr tz st ah (w.alloc (.cells #[.int .i64 W, .int .i64 H, .string s, .slice A n cap, .int .i64 fr, .int .i64 tz, .int .i64 st, .int .i64 ah] 26)) := ⟨heap_alloc_new w _⟩
def smallB (s : ByteArray) (ah : Int) : Bool := decide (s.size ≤ 60) && (decide (ah ≤ 60) || decide (1024 < ah))
set_option maxHeartbeats 1000000 in
theorem small7_any (W H : Int) (s : ByteArray) (hs : s.size ≤ maxLen) (A : Option Addr) (n cap : Nat) (fr tz st ah : Int) (w : World) :
    Calls Tryz.prog 8 #[caseV W H s A n cap fr tz st ah] w fun e w' => e = .returned (.bool (smallB s ah)) ∧ Below w.heap.size w w' := by
  have hsm : s.size ≤ 9223372036854775807 := by unfold maxLen at hs; omega
  have HA := Lib.hid ((Below.refl w.heap.size w).alloc (Nat.le_refl _) (.cells #[.int .i64 W, .int .i64 H, .string s, .slice A n cap, .int .i64 fr, .int .i64 tz, .int .i64 st, .int .i64 ah] 26))
  unfold caseV smallB
  by_cases h1 : s.size ≤ 60
  · have d1 : decide (s.size ≤ 60) = true := decide_eq_true h1
    by_cases h2 : ah ≤ 60
    · have d2 : decide (ah ≤ 60) = true := decide_eq_true h2
      rw [d1, d2]
      go_enter Tryz.func8, Tryz.ntmps8
      go_wp2_with fail
      go_ret
      exact ⟨by first | rfl | simp, HA.out⟩
    · have d2 : decide (ah ≤ 60) = false := decide_eq_false h2
      by_cases h3 : 1024 < ah
      · have d3 : decide (1024 < ah) = true := decide_eq_true h3
        rw [d1, d2, d3]
        go_enter Tryz.func8, Tryz.ntmps8
        go_wp2_with fail
        go_ret
        exact ⟨by first | rfl | simp, HA.out⟩
      · have d3 : decide (1024 < ah) = false := decide_eq_false h3
        rw [d1, d2, d3]
        go_enter Tryz.func8, Tryz.ntmps8
        go_wp2_with fail
        go_ret
        exact ⟨by first | rfl | simp, HA.out⟩
  · have d1 : decide (s.size ≤ 60) = false := decide_eq_false h1
    rw [d1]
    go_enter Tryz.func8, Tryz.ntmps8
    go_wp2_with fail
    go_ret
    exact ⟨by first | rfl | simp, HA.out⟩
end Sp
end Go.Proofs.YtcdclghmebgpnaaGreatDoor
end

section
namespace Go.Proofs.YtcdclghmebgpnaaGreatDoor
namespace Sp
open Go.ChangeShapes Go.WideShapes Go.ChangeAt Go.RowKit Go.Deep Go.Joins
open Wn (IW Rt R3)

theorem plain7 {w : World} {x : Addr} {v : Value} (h : w.cell? (x.add 0) = some v) : ∃ g off, x = ⟨g, off, none⟩ ∧ g < w.heap.size := by
  obtain ⟨g, off, spot⟩ := x
  have e0 : (Addr.add ⟨g, off, spot⟩ 0) = ⟨g, off, spot⟩ := by simp [Addr.add]
  rw [e0] at h
  have hs : spot = none := World.cell?_spot h
  subst hs
  exact ⟨g, off, rfl, World.block_lt_of_cell? w _ h⟩
theorem choose7 {α : Type} [Inhabited α] {n : Nat} {P : Nat → α → Prop} (h : ∀ i, i < n → ∃ q, P i q) : ∃ f : Nat → α, ∀ i, i < n → P i (f i) := by
  classical
  exact ⟨fun i => if hi : i < n then Classical.choose (h i hi) else default, fun i hi => by simp only [hi, dite_true]; exact Classical.choose_spec (h i hi)⟩
/-- The cells of every element, and that they read by its type. -/
theorem rows_cells7 {H : Type} {enc : TypeId × Value → H} {P : Program} {W : World} {t e : TypeId} {k : Nat} {fuel : Nat} {a : Option Addr} {len cap : Nat} {x : DataW H × List MemPlace}
    (ht : P.underlying t = some (.slice e)) (hC : P.cellsOf e = k) (h0 : 0 < k)
    (h : DataW.trod enc P W 0 (fun _ => true) true fuel t [.slice a len cap] = some x) :
    (a = none → len = 0 ∧ cap = 0) ∧ len ≤ cap ∧ cap ≤ maxLen ∧ ∀ i, i < len → ∃ g off n cs y, a = some ⟨g, off, none⟩ ∧ g < W.heap.size ∧ cs.length = k ∧
      (∀ j, j < k → W.cell? ⟨g, off + i * k + j, none⟩ = cs[j]?) ∧ DataW.trod enc P W 0 (fun _ => true) true n e cs = some y := by
  rcases open_slice ht h with ⟨hcs, _⟩ | ⟨b, len', cap', m, n, D, Pl, hcs, _, hl, hm, hmm, _, hi⟩
  · simp at hcs
    obtain ⟨rfl, rfl, rfl⟩ := hcs
    exact ⟨fun _ => ⟨rfl, rfl⟩, Nat.le_refl _, Nat.zero_le _, fun i hi => by omega⟩
  · simp at hcs
    obtain ⟨rfl, rfl, rfl⟩ := hcs
    simp at hmm
    refine ⟨fun e => by simp at e, hl, hm, fun i him => ?_⟩
    have hplain : ∃ g off, b = ⟨g, off, none⟩ ∧ g < W.heap.size := by
      obtain ⟨cs0, hc0, _⟩ := hi 0 (by omega)
      rw [hC, Nat.zero_mul] at hc0
      obtain ⟨_, hlen0, hat0⟩ := World.cells?_some hc0
      have h1 := hat0 0 h0
      rw [Go.Deep.add_add, Nat.zero_add, List.getElem?_eq_getElem (by omega)] at h1
      exact plain7 h1
    obtain ⟨g, off, rfl, hg⟩ := hplain
    obtain ⟨cs, hc, htr⟩ := hi i (by omega)
    rw [hC] at hc
    obtain ⟨_, hlen, hat⟩ := World.cells?_some hc
    refine ⟨g, off, _, cs, _, rfl, hg, hlen, fun j hj => ?_, htr⟩
    have h1 := hat j hj
    rw [Go.Deep.add_add, plain_add] at h1
    rw [Nat.add_assoc]
    exact h1
theorem iw_of {n : Int} (h : Lit.wf (.int .i64 n) = true) : IW n := by
  unfold IW
  simpa [Lit.wf, IntKind.min, IntKind.max, IntKind.signed, IntKind.bits] using h
theorem open_rows7 {H : Type} {enc : TypeId × Value → H} {W : World} {fuel : Nat} {a : Option Addr} {len cap : Nat} {x : DataW H × List MemPlace}
    (hf : DataW.trod enc Tryz.prog W 0 (fun _ => true) true fuel 24 [.slice a len cap] = some x) :
    ∃ L : List R3, Rt W.heap.size W a len cap L ∧ ∀ j, j < len → IW (L.getD j (0, 0, 0)).1 := by
  obtain ⟨h1, h2, h3, h4⟩ := rows_cells7 (k := 3) Tryz.underlying24 (by kernel_rfl) (by decide) hf
  have h5 : ∀ i, i < len → ∃ q : R3, ∃ g off, a = some ⟨g, off, none⟩ ∧ g < W.heap.size ∧
      (W.cell? ⟨g, off + i * 3, none⟩ = some (.int .i64 q.1) ∧ W.cell? ⟨g, off + i * 3 + 1, none⟩ = some (.int .i64 q.2.1) ∧ W.cell? ⟨g, off + i * 3 + 2, none⟩ = some (.int .i64 q.2.2)) ∧ IW q.1 := fun i hi => by
    obtain ⟨g, off, n, cs, y, ha, hg, hl, hc, ht⟩ := h4 i hi
    have hc0 := hc 0 (by omega)
    have hc1 := hc 1 (by omega)
    have hc2 := hc 2 (by omega)
    obtain ⟨u0, u1, u2, rfl⟩ : ∃ u0 u1 u2, cs = [u0, u1, u2] := by
      match cs, hl with
      | [u0, u1, u2], _ => exact ⟨u0, u1, u2, rfl⟩
    obtain ⟨xs, n', _, _, _, hxl, hfs⟩ := DataW.trod_struct Tryz.underlying54 ht
    have k0 := hfs 0 _ rfl
    have k1 := hfs 1 _ rfl
    have q1 : Tryz.prog.cellsOf 52 = 2 := by kernel_rfl
    have q2 : Tryz.prog.cellsOf 3 = 1 := by kernel_rfl
    simp [q1, q2] at k0 k1
    simp at hxl
    obtain ⟨y0, y1, rfl⟩ : ∃ y0 y1, xs = [y0, y1] := by
      match xs, hxl with
      | [y0, y1], _ => exact ⟨y0, y1, rfl⟩
    simp at k0 k1
    obtain ⟨n0, e0, _, w0⟩ := DataW.trod_int Tryz.underlying3 k0
    obtain ⟨ys, n'', _, _, _, hyl, hgs⟩ := DataW.trod_struct Tryz.underlying52 k1
    have k2 := hgs 0 _ rfl
    have k3 := hgs 1 _ rfl
    simp [q2] at k2 k3
    simp at hyl
    obtain ⟨z0, z1, rfl⟩ : ∃ z0 z1, ys = [z0, z1] := by
      match ys, hyl with
      | [z0, z1], _ => exact ⟨z0, z1, rfl⟩
    simp at k2 k3
    obtain ⟨n1, e1, _, w1⟩ := DataW.trod_int Tryz.underlying3 k2
    obtain ⟨n2, e2, _, w2⟩ := DataW.trod_int Tryz.underlying3 k3
    simp at e0 e1 e2
    subst e0 e1 e2
    exact ⟨(n0, n1, n2), g, off, ha, hg, ⟨hc0, hc1, hc2⟩, iw_of w0⟩
  obtain ⟨f, hff⟩ := choose7 h5
  have hget : ∀ j, j < len → ((List.range len).map f).getD j (0, 0, 0) = f j := fun j hj => by simp [List.getD, hj]
  refine ⟨(List.range len).map f, ⟨by simp, h2, h3, fun e => (h1 e).2, fun hn => ?_⟩, fun j hj => by rw [hget j hj]; obtain ⟨_, _, _, _, _, h⟩ := hff j hj; exact h⟩
  obtain ⟨g, off, ha, hg, _⟩ := hff 0 hn
  refine ⟨g, off, ha, hg, fun j hj => ?_⟩
  rw [hget j hj]
  obtain ⟨g2, off2, ha2, hg2, hc, _⟩ := hff j hj
  rw [ha] at ha2
  injection ha2 with ha2
  injection ha2 with e1 e2
  subst e1 e2
  exact hc
theorem open_case7 {H : Type} {enc : TypeId × Value → H} {W : World} {r : Reach} {b0 : Nat} {v : Value} {d : DataW H} {p : List MemPlace}
    (hv : Value.okWide Tryz.prog W r b0 26 v) (h : DataW.Trod enc Tryz.prog W 0 (fun _ => true) true 26 v d p) :
    ∃ (w0 h0 : Int) (s : ByteArray) (A : Option Addr) (n cap : Nat) (L : List R3) (fr tz st ah : Int), v = caseV w0 h0 s A n cap fr tz st ah ∧ s.size ≤ maxLen ∧ Rt W.heap.size W A n cap L ∧ ∀ j, j < n → IW (L.getD j (0, 0, 0)).1 := by
  obtain ⟨cs, rfl, hsz⟩ := okWide_struct Tryz.underlying26 hv
  have hC : Tryz.prog.cellsOf 26 = 8 := by kernel_rfl
  rw [hC] at hsz
  obtain ⟨l, rfl⟩ : ∃ l : List Value, cs = l.toArray := ⟨cs.toList, by simp⟩
  obtain ⟨u0, u1, u2, u3, u4, u5, u6, u7, rfl⟩ : ∃ u0 u1 u2 u3 u4 u5 u6 u7, l = [u0, u1, u2, u3, u4, u5, u6, u7] := by
    match l, (by simpa using hsz : l.length = 8) with
    | [u0, u1, u2, u3, u4, u5, u6, u7], _ => exact ⟨u0, u1, u2, u3, u4, u5, u6, u7, rfl⟩
  obtain ⟨fuel, hf⟩ := h
  have hf' : DataW.trod enc Tryz.prog W 0 (fun _ => true) true fuel 26 [u0, u1, u2, u3, u4, u5, u6, u7] = some (d, p) := by simpa [Value.cells] using hf
  obtain ⟨xs, n', _, _, _, hxl, hfs⟩ := DataW.trod_struct Tryz.underlying26 hf'
  have k0 := hfs 0 _ rfl
  have k1 := hfs 1 _ rfl
  have k2 := hfs 2 _ rfl
  have k3 := hfs 3 _ rfl
  have k4 := hfs 4 _ rfl
  have k5 := hfs 5 _ rfl
  have q0 : Tryz.prog.cellsOf 23 = 3 := by kernel_rfl
  have q1 : Tryz.prog.cellsOf 24 = 1 := by kernel_rfl
  have q2 : Tryz.prog.cellsOf 3 = 1 := by kernel_rfl
  have q3 : Tryz.prog.cellsOf 9 = 1 := by kernel_rfl
  simp [q0, q1, q2] at k0 k1 k2 k3 k4 k5
  simp at hxl
  obtain ⟨y0, y1, y2, y3, y4, y5, rfl⟩ : ∃ y0 y1 y2 y3 y4 y5, xs = [y0, y1, y2, y3, y4, y5] := by
    match xs, hxl with
    | [y0, y1, y2, y3, y4, y5], _ => exact ⟨y0, y1, y2, y3, y4, y5, rfl⟩
  simp at k0 k1 k2 k3 k4 k5
  obtain ⟨ys, n'', _, _, _, hyl, hgs⟩ := DataW.trod_struct Tryz.underlying23 k0
  have g0 := hgs 0 _ rfl
  have g1 := hgs 1 _ rfl
  have g2 := hgs 2 _ rfl
  simp [q2, q3] at g0 g1 g2
  simp at hyl
  obtain ⟨z0, z1, z2, rfl⟩ : ∃ z0 z1 z2, ys = [z0, z1, z2] := by
    match ys, hyl with
    | [z0, z1, z2], _ => exact ⟨z0, z1, z2, rfl⟩
  simp at g0 g1 g2
  obtain ⟨m0, e0, _, _⟩ := DataW.trod_int Tryz.underlying3 g0
  obtain ⟨m1, e1, _, _⟩ := DataW.trod_int Tryz.underlying3 g1
  obtain ⟨s, e2, _, hs⟩ := DataW.trod_string Tryz.underlying9 g2
  obtain ⟨a, l, c, e3⟩ := slice_form Tryz.underlying24 k1
  obtain ⟨m4, e4, _, _⟩ := DataW.trod_int Tryz.underlying3 k2
  obtain ⟨m5, e5, _, _⟩ := DataW.trod_int Tryz.underlying3 k3
  obtain ⟨m6, e6, _, _⟩ := DataW.trod_int Tryz.underlying3 k4
  obtain ⟨m7, e7, _, _⟩ := DataW.trod_int Tryz.underlying3 k5
  simp at e0 e1 e2 e3 e4 e5 e6 e7
  subst e0 e1 e2 e3 e4 e5 e6 e7
  obtain ⟨L, hL, hx⟩ := open_rows7 k1
  exact ⟨m0, m1, s, a, l, c, L, m4, m5, m6, m7, rfl, hs, hL, hx⟩
end Sp
end Go.Proofs.YtcdclghmebgpnaaGreatDoor
end
end
