/-
  Layer 6: lasts, place: where a window stands.
-/
import Derived.Test.YtcdclghmebgpnaaGreatDoorWnA
import Derived.Deep.LoopGhost
import Derived.StillTailTactics
set_option linter.unusedVariables false
set_option maxRecDepth 100000
namespace Go.Proofs.YtcdclghmebgpnaaGreatDoor.Wn
open Go.RowKit

theorem ret_bool {a b : Bool} (h : a = b) : Ending.returned (.bool a) = .returned (.bool b) := by rw [h]
/-- Of a window whether it ends behind the moment in a box. -/
theorem lasts1_any (b : Nat) (m x y : Int) (w : World) (hb : w.cell? ⟨b, 0, none⟩ = some (.int .i64 m)) (hlt : b < w.heap.size) :
    Calls Tryz.prog 73 #[.agg #[.int .i64 x, .int .i64 y], .pointer (some ⟨b, 0, none⟩)] w fun e w' => e = .returned (.bool (decide (m < y))) ∧ Below w.heap.size w w' := by
  have HB := Lib.hid ((Below.refl w.heap.size w).alloc (Nat.le_refl _) (.cells #[.int .i64 x, .int .i64 y] 52))
  have k1 := (HB.out.cell (p := ⟨b, 0, none⟩) hlt).trans hb
  clear hb
  go_enter Tryz.func73, Tryz.ntmps73
  go_wp2_with fail
  go_ret
  exact ⟨by first | rfl | simp, HB.out⟩
theorem lasts_any (m : Int) (w : World) : Calls Tryz.prog 43 #[.int .i64 m] w fun e w' => e = .returned (.func (.func 73) #[] #[.pointer (some ⟨w.heap.size, 0, none⟩)]) ∧ w' = w.alloc (.cells #[.int .i64 m] 3) := by
  go_enter Tryz.func43, Tryz.ntmps43
  go_wp2_with fail
  go_ret
  exact ⟨rfl, rfl⟩
/-- Of the window at a place. -/
theorem place1_any (bi bl b : Nat) (m : Int) (A : Option Addr) (n cap : Nat) (L : List (Int × Int)) (i : Nat) (w : World) (hL : Wt w.heap.size w A n cap L) (hi : i < n)
    (h1 : w.cell? ⟨bi, 0, none⟩ = some (.func (.func 73) #[] #[.pointer (some ⟨b, 0, none⟩)])) (h2 : w.cell? ⟨bl, 0, none⟩ = some (.slice A n cap)) (hb : w.cell? ⟨b, 0, none⟩ = some (.int .i64 m)) (hlt : b < w.heap.size) :
    Calls Tryz.prog 72 #[.int .i64 (i : Int), .pointer (some ⟨bi, 0, none⟩), .pointer (some ⟨bl, 0, none⟩)] w fun e w' => e = .returned (.bool (decide (m < (L.getD i (0, 0)).2))) ∧ Below w.heap.size w w' := by
  obtain ⟨g, off, rfl, hg, hc⟩ := hL.cell (by omega)
  obtain ⟨k1, k2⟩ := hc i hi
  have hs := hL.size
  have hs1 := hs.1
  have hs2 := hs.2
  have hiI : (i : Int) < (n : Int) := by omega
  have HLA := Lib.hid (fun wx (hbx : Below w.heap.size w wx) => lasts1_any b m (L.getD i (0, 0)).1 (L.getD i (0, 0)).2 wx ((hbx.cell (p := ⟨b, 0, none⟩) hlt).trans hb) (Nat.lt_of_lt_of_le hlt hbx.size))
  clear hc hL hb hs
  generalize (L.getD i (0, 0)).1 = x at *
  generalize (L.getD i (0, 0)).2 = y at *
  go_enter Tryz.func72, Tryz.ntmps72
  go_wp2_with fail
  go_still_tail 5, (by kernel_rfl)
  change wpList _ _ _ _ _ w.drew
  have HB := Lib.hid ((Below.refl w.heap.size w).drew)
  go_wp2_with fail
  refine (HLA.out _ HB.out).mono ?_
  rintro e w3 ⟨rfl, hb⟩
  have HB3 := Lib.hid (HB.out.trans hb)
  clear hb
  go_wp2_with fail
  go_ret
  exact ⟨rfl, HB3.out⟩
/-- Halves are sought. -/
def Sought (n : Nat) (p : Nat → Bool) (w : World) (e : Ending) (w' : World) : Prop := ∃ k : Nat, e = .returned (.int .i64 (k : Int)) ∧ k ≤ n ∧ (∀ t, t < k → p t = false) ∧ (∀ t, k ≤ t → t < n → p t = true) ∧ Below w.heap.size w w'
set_option maxHeartbeats 1000000 in
theorem search_any (bi bl n : Nat) (p : Nat → Bool) (w : World) (hn : n ≤ 1000000)
    (hf : ∀ wx i, Below w.heap.size w wx → i < n → Calls Tryz.prog 72 #[.int .i64 (i : Int), .pointer (some ⟨bi, 0, none⟩), .pointer (some ⟨bl, 0, none⟩)] wx fun e w' => e = .returned (.bool (p i)) ∧ Below wx.heap.size wx w')
    (hm : ∀ a b, a ≤ b → b < n → p a = true → p b = true) :
    Calls Tryz.prog 71 #[.int .i64 (n : Int), .func (.func 72) #[] #[.pointer (some ⟨bi, 0, none⟩), .pointer (some ⟨bl, 0, none⟩)]] w (Sought n p w) := by
  have HF := Lib.hid hf
  have HM := Lib.hid hm
  clear hf hm
  go_enter Tryz.func71, Tryz.ntmps71
  go_wp2_with fail
  go_loopw [5, 6] (fun s5 s6 wr => ∃ lo hi : Nat, s5 = .int .i64 (lo : Int) ∧ s6 = .int .i64 (hi : Int) ∧ lo ≤ hi ∧ hi ≤ n ∧ Below w.heap.size w wr ∧ Hid ((∀ t, t < lo → p t = false) ∧ (∀ t, hi ≤ t → t < n → p t = true))) (fun s5 s6 _ => (intOf s6 - intOf s5).toNat)
  case atStart => exact ⟨0, n, rfl, rfl, Nat.zero_le _, Nat.le_refl _, Below.refl _ _, Lib.hid ⟨fun t ht => by omega, fun t h1 h2 => by omega⟩⟩
  case round =>
    rename World => wr
    obtain ⟨lo, hi, rfl, rfl, hlh, hin, hB, HI⟩ := hrel
    have HB := Lib.hid hB
    clear hB
    by_cases hlt : lo < hi
    · obtain ⟨m, hmid⟩ : ∃ m, m = (lo + hi) / 2 := ⟨_, rfl⟩
      have hmI : ((lo : Int) + (hi : Int)) / 2 = (m : Int) := by omega
      have hml : lo ≤ m := by omega
      have hmh : m < hi := by omega
      have hltI : (lo : Int) < (hi : Int) := by omega
      have HC := Lib.hid (HF.out wr m HB.out (by omega))
      clear hmid
      cases hp : p m with
      | false =>
        have HP := Lib.hid hp
        rw [hp] at HC
        clear hp
        go_wp2_with fail
        refine HC.out.mono ?_
        rintro e w3 ⟨rfl, hb3⟩
        have HB3 := Lib.hid (HB.out.trans (hb3.mono HB.out.size))
        clear hb3
        go_wp2_with fail
        go_roundw
        case rel => exact ⟨m + 1, hi, by go_num, rfl, by omega, hin, HB3.out, Lib.hid ⟨fun t ht => (by
          cases h : p t with
          | false => rfl
          | true => have := HM.out t m (by omega) (by omega) h; rw [HP.out] at this; cases this), HI.out.2⟩⟩
        case measure => simp [intOf]; omega
      | true =>
        have HP := Lib.hid hp
        rw [hp] at HC
        clear hp
        go_wp2_with fail
        refine HC.out.mono ?_
        rintro e w3 ⟨rfl, hb3⟩
        have HB3 := Lib.hid (HB.out.trans (hb3.mono HB.out.size))
        clear hb3
        go_wp2_with fail
        go_roundw
        case rel => exact ⟨lo, m, rfl, by go_num, hml, by omega, HB3.out, Lib.hid ⟨HI.out.1, fun t ht htn => HM.out m t ht htn HP.out⟩⟩
        case measure => simp [intOf]; omega
    · obtain rfl : hi = lo := by omega
      go_wp2_with fail
      go_ret
      exact ⟨hi, rfl, hin, HI.out.1, HI.out.2, HB.out⟩
/-- How many windows end at a moment, or ahead of it. -/
def plc (L : List (Int × Int)) (m : Int) : Nat := (L.takeWhile fun p => decide (p.2 ≤ m)).length
theorem plc_le (L : List (Int × Int)) (m : Int) : plc L m ≤ L.length := by
  unfold plc
  have := List.takeWhile_append_dropWhile (p := fun p : Int × Int => decide (p.2 ≤ m)) (l := L)
  have h2 := congrArg List.length this
  rw [List.length_append] at h2
  omega
theorem plc_eq : ∀ (L : List (Int × Int)) (m : Int) (k : Nat), k ≤ L.length → (∀ t, t < k → (L.getD t (0, 0)).2 ≤ m) → (k < L.length → m < (L.getD k (0, 0)).2) → plc L m = k
  | [], m, k, h, _, _ => by simp at h; subst h; rfl
  | x :: L, m, 0, _, _, h2 => by
    have := h2 (by simp)
    have h3 : ¬ (x.2 ≤ m) := by simpa using this
    simp [plc, h3]
  | x :: L, m, k + 1, h, h1, h2 => by
    have h0 : x.2 ≤ m := by simpa using h1 0 (by omega)
    have ih := plc_eq L m k (by simpa using h) (fun t ht => by simpa using h1 (t + 1) (by omega)) (fun hk => by simpa using h2 (by simpa using hk))
    simp only [plc, List.takeWhile_cons, h0, decide_true, if_true, List.length_cons]
    unfold plc at ih
    omega
/-- The windows' ends rise. -/
def Rising (L : List (Int × Int)) : Prop := ∀ a b, a ≤ b → b < L.length → (L.getD a (0, 0)).2 ≤ (L.getD b (0, 0)).2
set_option maxHeartbeats 1000000 in
theorem place_any (b : Nat) (m : Int) (A : Option Addr) (n cap : Nat) (L : List (Int × Int)) (w : World) (hL : Wt w.heap.size w A n cap L) (hR : Rising L) (hn : n ≤ 1000000) (hb : w.cell? ⟨b, 0, none⟩ = some (.int .i64 m)) (hlt : b < w.heap.size) :
    Calls Tryz.prog 42 #[.slice A n cap, .func (.func 73) #[] #[.pointer (some ⟨b, 0, none⟩)]] w fun e w' => e = .returned (.int .i64 (plc L m : Nat)) ∧ Below w.heap.size w w' := by
  have HL := Lib.hid hL
  have HLN := Lib.hid hL.len
  have HR := Lib.hid hR
  clear hL hR
  go_enter Tryz.func42, Tryz.ntmps42
  go_wp2_with fail
  obtain ⟨w1, hw1⟩ : ∃ w1, w1 = w.alloc (.cells #[.slice A n cap] 49) := ⟨_, rfl⟩
  have hz1 : w1.heap.size = w.heap.size + 1 := by rw [hw1]; exact alloc_size _ _
  have hb1 : Below w.heap.size w w1 := by rw [hw1]; exact (Below.refl _ _).alloc (Nat.le_refl _) _
  have c1 : w1.cell? ⟨w.heap.size, 0, none⟩ = some (.slice A n cap) := by rw [hw1]; simp [World.cell?_alloc_new]
  rw [← hw1]
  obtain ⟨w2, hw2⟩ : ∃ w2, w2 = w1.alloc (.cells #[.func (.func 73) #[] #[.pointer (some ⟨b, 0, none⟩)]] 93) := ⟨_, rfl⟩
  have hz2 : w2.heap.size = w1.heap.size + 1 := by rw [hw2]; exact alloc_size _ _
  have hb2 : Below w1.heap.size w1 w2 := by rw [hw2]; exact (Below.refl _ _).alloc (Nat.le_refl _) _
  have c2 : w2.cell? ⟨w.heap.size + 1, 0, none⟩ = some (.func (.func 73) #[] #[.pointer (some ⟨b, 0, none⟩)]) := by rw [hw2, ← hz1]; simp [World.cell?_alloc_new]
  rw [← hw2]
  have c1' : w2.cell? ⟨w.heap.size, 0, none⟩ = some (.slice A n cap) := (hb2.cell (p := ⟨w.heap.size, 0, none⟩) (by show w.heap.size < w1.heap.size; omega)).trans c1
  have hbw2 : Below w.heap.size w w2 := hb1.trans (hb2.mono hb1.size)
  have hS := search_any (w.heap.size + 1) w.heap.size n (fun i => decide (m < (L.getD i (0, 0)).2)) w2 hn
    (fun wx i hbx hi => place1_any (w.heap.size + 1) w.heap.size b m A n cap L i wx ((HL.out.later hbw2).later hbx) hi ((hbx.cell (p := ⟨w.heap.size + 1, 0, none⟩) (by show w.heap.size + 1 < w2.heap.size; omega)).trans c2) ((hbx.cell (p := ⟨w.heap.size, 0, none⟩) (by show w.heap.size < w2.heap.size; omega)).trans c1') ((hbx.cell (p := ⟨b, 0, none⟩) (by show b < w2.heap.size; omega)).trans ((hbw2.cell (p := ⟨b, 0, none⟩) hlt).trans hb)) (by have := hbx.size; omega))
    (fun a c hac hcn h => by
      have h1 := HR.out a c hac (by rw [← HLN.out]; exact hcn)
      simp only [decide_eq_true_eq] at h ⊢
      omega)
  clear hw1 hw2
  refine hS.mono ?_
  rintro e w3 ⟨k, rfl, hk, h1, h2, hb3⟩
  have HK : Hid (plc L m = k) := Lib.hid (plc_eq L m k (by rw [← HLN.out]; exact hk) (fun t ht => by have := h1 t ht; simp only [decide_eq_false_iff_not] at this; omega) (fun hkl => by have := h2 k (Nat.le_refl _) (by rw [HLN.out]; exact hkl); simpa using this))
  have HB3 := Lib.hid (hbw2.trans (hb3.mono hbw2.size))
  clear h1 h2 hb3 hS hb1 hb2 c1 c2 c1' hbw2 hz1 hz2
  go_wp2_with fail
  go_ret
  exact ⟨by rw [HK.out]; rfl, HB3.out⟩
theorem plc_lt {L : List (Int × Int)} {m : Int} (h : plc L m < L.length) : m < (L.getD (plc L m) (0, 0)).2 := by
  induction L with
  | nil => simp at h
  | cons x L ih =>
    by_cases hx : x.2 ≤ m
    · have e : plc (x :: L) m = plc L m + 1 := by simp [plc, hx]
      rw [e] at h ⊢
      simpa using ih (by simpa using h)
    · have e : plc (x :: L) m = 0 := by simp [plc, hx]
      rw [e]; simp; omega
theorem plc_below {L : List (Int × Int)} {m : Int} : ∀ t, t < plc L m → (L.getD t (0, 0)).2 ≤ m := by
  induction L with
  | nil => intro t ht; simp [plc] at ht
  | cons x L ih =>
    intro t ht
    by_cases hx : x.2 ≤ m
    · have e : plc (x :: L) m = plc L m + 1 := by simp [plc, hx]
      rw [e] at ht
      cases t with
      | zero => simpa using hx
      | succ t => simpa using ih t (by omega)
    · have e : plc (x :: L) m = 0 := by simp [plc, hx]
      rw [e] at ht; omega
end Go.Proofs.YtcdclghmebgpnaaGreatDoor.Wn
