/-
  Layer 7: the windows of a cell but for those that are over (IndexFunc, DeleteFunc).
  Layer 7: the windows in which a robot may be in a cell (open).
  Layer 7: where a stay stands (place).
  Layer 7: a cell's stays (staysIn, stayAt).
  Layer 7: the search, as it goes on; enter.
-/
import Derived.Test.YtcdclghmebgpnaaGreatDoorSpOne
import Derived.Test.YtcdclghmebgpnaaGreatDoorWnI
set_option linter.unusedVariables false
set_option maxRecDepth 100000
section
namespace Go.Proofs.YtcdclghmebgpnaaGreatDoor
namespace Sp
open Go.RowKit Fl Pt
open Wn (Tab TF frees isT Ordw IW Wt Wow Bk wcl)

/-- Is a window over at the start? -/
theorem open1_any (b gb : Nat) (t0 x y : Int) (w : World) (hb : w.cell? ⟨b, 0, none⟩ = some (.pointer (some ⟨gb, 0, none⟩))) (hg : w.cell? ⟨gb, 5, none⟩ = some (.int .i64 t0)) (hl : b < w.heap.size) (hl2 : gb < w.heap.size) :
    Calls Tryz.prog 116 #[.agg #[.int .i64 x, .int .i64 y], .pointer (some ⟨b, 0, none⟩)] w fun e w' => e = .returned (.bool (decide (y ≤ t0))) ∧ Below w.heap.size w w' := by
  have HB := Lib.hid ((Below.refl w.heap.size w).alloc (Nat.le_refl _) (.cells #[.int .i64 x, .int .i64 y] 52))
  have k1 := (HB.out.cell (p := ⟨b, 0, none⟩) hl).trans hb
  have k2 := (HB.out.cell (p := ⟨gb, 5, none⟩) hl2).trans hg
  clear hb hg
  go_enter Tryz.func116, Tryz.ntmps116
  go_wp2_with fail
  go_big_quiet (fail)
  go_wp2_with fail
  go_ret
  exact ⟨rfl, HB.out.trans (below_drewN _ _ _)⟩

/-- A closure that tells of each window of a list, whatever is new. -/
def WPred (b : Nat) (P : Int × Int → Bool) (L : List (Int × Int)) (w : World) : Prop :=
  ∀ q, q ∈ L → Calls Tryz.prog 116 #[.agg #[.int .i64 q.1, .int .i64 q.2], .pointer (some ⟨b, 0, none⟩)] w fun e w' => e = .returned (.bool (P q)) ∧ Below w.heap.size w w'
theorem getDW_mem {L : List (Int × Int)} {j : Nat} (h : j < L.length) : L.getD j (0, 0) ∈ L := by
  rw [List.getD, List.getElem?_eq_getElem h]; exact List.getElem_mem h
/-- The first of those that are so, or -1. -/
def WIdx (P : Int × Int → Bool) (L : List (Int × Int)) (w : World) (e : Ending) (w' : World) : Prop :=
  Below w.heap.size w w' ∧ ((e = .returned (.int .i64 (-1)) ∧ ∀ j, j < L.length → P (L.getD j (0, 0)) = false) ∨ ∃ i : Nat, e = .returned (.int .i64 (i : Int)) ∧ i < L.length ∧ P (L.getD i (0, 0)) = true ∧ ∀ j, j < i → P (L.getD j (0, 0)) = false)
set_option maxHeartbeats 1000000 in
theorem windex_any (b : Nat) (A : Option Addr) (n cap : Nat) (P : Int × Int → Bool) (L : List (Int × Int)) (w : World) (hW : Wt w.heap.size w A n cap L) (h256 : n ≤ 100000) (hP : ∀ wx, Below w.heap.size w wx → WPred b P L wx) :
    Calls Tryz.prog 126 #[.slice A n cap, .func (.func 116) #[] #[.pointer (some ⟨b, 0, none⟩)]] w (WIdx P L w) := by
  have HW := Lib.hid hW
  have HP := Lib.hid hP
  have HN := Lib.hid hW.len
  clear hW hP
  go_enter Tryz.func126, Tryz.ntmps126
  go_wp2_with fail
  go_loopw [8] (fun v wr => ∃ j : Nat, j ≤ n ∧ v = .int .i64 (j : Int) ∧ Hid (∀ i, i < j → P (L.getD i (0, 0)) = false) ∧ Hid (Below w.heap.size w wr)) (fun v _ => n - (intOf v).toNat)
  case atStart => exact ⟨0, Nat.zero_le _, rfl, Lib.hid (fun i hi => by omega), Lib.hid (Below.refl _ _)⟩
  case round =>
    rename World => wr
    obtain ⟨j, hj, rfl, HJ, HB⟩ := hrel
    by_cases hlt : j < n
    · obtain ⟨g, off, rfl, hg, hcell⟩ := (HW.out.later HB.out).cell (by omega)
      obtain ⟨k1, k2⟩ := hcell j hlt
      have hjx : j < L.length := by rw [← HN.out]; exact hlt
      have HQ := Lib.hid (HP.out wr HB.out (L.getD j (0, 0)) (getDW_mem hjx))
      obtain ⟨y, hy⟩ : ∃ y, y = L.getD j (0, 0) := ⟨_, rfl⟩
      rw [← hy] at k1 k2 HQ
      have HY := Lib.hid hy
      obtain ⟨y1, y2⟩ := y
      clear hy hjx hcell
      cases hp : P (y1, y2) with
      | false =>
        have HPP := Lib.hid hp
        rw [hp] at HQ
        clear hp
        go_wp2_with fail
        refine HQ.out.mono ?_
        rintro e w3 ⟨rfl, hb3⟩
        have HB3 := Lib.hid (HB.out.trans (hb3.mono HB.out.size))
        clear hb3
        go_wp2_with fail
        go_roundw
        case rel =>
          refine ⟨j + 1, by omega, by go_num, Lib.hid (fun i hi => ?_), HB3⟩
          by_cases e : i = j
          · subst e; rw [← HY.out]; exact HPP.out
          · exact HJ.out i (by omega)
        case measure => simp [intOf]; omega
      | true =>
        have HPP := Lib.hid hp
        rw [hp] at HQ
        clear hp
        go_wp2_with fail
        refine HQ.out.mono ?_
        rintro e w3 ⟨rfl, hb3⟩
        have HB3 := Lib.hid (HB.out.trans (hb3.mono HB.out.size))
        clear hb3
        go_wp2_with fail
        go_ret
        exact ⟨HB3.out, .inr ⟨j, rfl, by rw [← HN.out]; exact hlt, by rw [← HY.out]; exact HPP.out, HJ.out⟩⟩
    · obtain rfl : j = n := by omega
      go_wp2_with fail
      go_ret
      exact ⟨HB.out, .inl ⟨rfl, fun i hi => HJ.out i (by rw [HN.out]; exact hi)⟩⟩
/-- Those of the first so many that stay. -/
def wkp (P : Int × Int → Bool) (L : List (Int × Int)) (j : Nat) : List (Int × Int) := (L.take j).filter fun y => !P y
theorem wkp_succ {P : Int × Int → Bool} {L : List (Int × Int)} {j : Nat} (h : j < L.length) : wkp P L (j + 1) = wkp P L j ++ if P (L.getD j (0, 0)) = true then [] else [L.getD j (0, 0)] := by
  unfold wkp
  rw [List.take_succ_eq_append_getElem h, List.filter_append, List.getD, List.getElem?_eq_getElem h]
  cases e : P L[j] <;> simp [e]
theorem wkp_le (P : Int × Int → Bool) (L : List (Int × Int)) (j : Nat) : (wkp P L j).length ≤ j := Nat.le_trans (List.length_filter_le _ _) (List.length_take_le _ _)
theorem wkp_all {P : Int × Int → Bool} {L : List (Int × Int)} {j : Nat} (h : ∀ i, i < j → P (L.getD i (0, 0)) = false) (hj : j ≤ L.length) : wkp P L j = L.take j := by
  unfold wkp
  rw [List.filter_eq_self]
  intro y hy
  obtain ⟨i, hi, rfl⟩ := List.getElem_of_mem hy
  have hi' : i < j := by simp at hi; omega
  have := h i hi'
  rw [List.getD, List.getElem?_eq_getElem (by omega : i < L.length)] at this
  simpa using this
theorem wkp_full (P : Int × Int → Bool) (L : List (Int × Int)) : wkp P L L.length = L.filter fun y => !P y := by unfold wkp; rw [List.take_length]
/-- What has become of the windows' block. -/
structure WKept (base g c : Nat) (P : Int × Int → Bool) (L : List (Int × Int)) (i j : Nat) (w wr : World) : Prop where
  cnt : i = (wkp P L j).length
  lt : i < j
  below : Below base w wr
  bk : ∃ X, Bk wr g X ∧ X.length = c * 2 ∧ X.take (i * 2) = wcl (wkp P L j) ∧ ∀ t, j ≤ t → t < L.length → X[t * 2]? = some (.int .i64 (L.getD t (0, 0)).1) ∧ X[t * 2 + 1]? = some (.int .i64 (L.getD t (0, 0)).2)
section
variable {base g c : Nat} {P : Int × Int → Bool} {L : List (Int × Int)} {i j : Nat} {w wr : World}
theorem bk_later {w w' : World} {g : Nat} {X : List Value} (h : Bk w g X) (hb : Below w.heap.size w w') : Bk w' g X := (hb.block g (lt_of_heap h)).trans h
theorem WKept.later (h : WKept base g c P L i j w wr) (hB : base ≤ w.heap.size) {w' : World} (hb : Below wr.heap.size wr w') : WKept base g c P L i j w w' := by
  obtain ⟨X, h1, h2, h3, h4⟩ := h.bk
  exact ⟨h.cnt, h.lt, h.below.trans (hb.mono (Nat.le_trans hB h.below.size)), X, bk_later h1 hb, h2, h3, h4⟩
theorem WKept.cell (h : WKept base g c P L i j w wr) (hj : j < L.length) : wr.cell? ⟨g, j * 2, none⟩ = some (.int .i64 (L.getD j (0, 0)).1) ∧ wr.cell? ⟨g, j * 2 + 1, none⟩ = some (.int .i64 (L.getD j (0, 0)).2) := by
  obtain ⟨X, h1, h2, h3, h4⟩ := h.bk
  exact ⟨(h1.cell _).1.trans (h4 j (Nat.le_refl _) hj).1, (h1.cell _).1.trans (h4 j (Nat.le_refl _) hj).2⟩
theorem WKept.room (h : WKept base g c P L i j w wr) (hj : j < L.length) (hc : L.length ≤ c) : (∃ u, wr.cell? ⟨g, i * 2, none⟩ = some u) ∧ (∃ u, wr.cell? ⟨g, i * 2 + 1, none⟩ = some u) ∧ (∀ x, wr.frozen? ⟨g, x, none⟩ = false) := by
  obtain ⟨X, h1, h2, h3, h4⟩ := h.bk
  have := h.lt
  exact ⟨⟨_, (h1.cell _).1.trans (List.getElem?_eq_getElem (by omega))⟩, ⟨_, (h1.cell _).1.trans (List.getElem?_eq_getElem (by omega))⟩, fun x => (h1.cell x).2⟩
theorem WKept.skip (h : WKept base g c P L i j w wr) (hj : j < L.length) (hp : P (L.getD j (0, 0)) = true) : WKept base g c P L i (j + 1) w wr := by
  obtain ⟨X, h1, h2, h3, h4⟩ := h.bk
  have e : wkp P L (j + 1) = wkp P L j := by rw [wkp_succ hj, if_pos hp, List.append_nil]
  exact ⟨by rw [e]; exact h.cnt, by have := h.lt; omega, h.below, X, h1, h2, by rw [e]; exact h3, fun t ht htl => h4 t (by omega) htl⟩
theorem WKept.put (h : WKept base g c P L i j w wr) (hg : base ≤ g) (hc : L.length ≤ c) (hj : j < L.length) (hp : P (L.getD j (0, 0)) = false) :
    WKept base g c P L (i + 1) (j + 1) w ((wr.setCell ⟨g, i * 2, none⟩ (.int .i64 (L.getD j (0, 0)).1)).setCell ⟨g, i * 2 + 1, none⟩ (.int .i64 (L.getD j (0, 0)).2)) := by
  obtain ⟨X, h1, h2, h3, h4⟩ := h.bk
  have e : wkp P L (j + 1) = wkp P L j ++ [L.getD j (0, 0)] := by rw [wkp_succ hj, if_neg (by rw [hp]; simp)]
  have hlt := h.lt
  have hl : i * 2 + 1 < X.length := by omega
  have hset := Bk.setCells [.int .i64 (L.getD j (0, 0)).1, .int .i64 (L.getD j (0, 0)).2] (i * 2) X wr h1 (by simp; omega)
  have hgr := Wn.setCells_turn g [.int .i64 (L.getD j (0, 0)).1, .int .i64 (L.getD j (0, 0)).2] (i * 2) wr
  refine ⟨by rw [e, List.length_append, ← h.cnt]; rfl, by omega, (h.below.setCell hg _).setCell hg _, _, hset, ?_, ?_, fun t ht htl => ?_⟩
  · rw [length_splice _ _ _ (by simp; omega)]; exact h2
  · rw [show (i + 1) * 2 = i * 2 + [Value.int .i64 (L.getD j (0, 0)).1, .int .i64 (L.getD j (0, 0)).2].length by simp; omega, Wn.take_splice_end _ _ _ (by omega), h3, e, Wn.wcl_app]
    rfl
  · have hs : ∀ q, i * 2 + 2 ≤ q → (splice X (i * 2) [Value.int .i64 (L.getD j (0, 0)).1, .int .i64 (L.getD j (0, 0)).2])[q]? = X[q]? := fun q hq => by
      unfold splice
      rw [← List.append_assoc, List.getElem?_append_right (by simp; omega), List.getElem?_drop]
      congr 1
      simp
      omega
    rw [hs _ (by omega), hs _ (by omega)]
    exact h4 t (by omega) htl
end
set_option maxHeartbeats 2000000 in
/-- slices.DeleteFunc of windows of one's own. -/
theorem wdelete_any (b base : Nat) (A : Option Addr) (c : Nat) (P : Int × Int → Bool) (L : List (Int × Int)) (w : World) (h : Wow w base (.slice A L.length c) L) (hB : base ≤ w.heap.size) (hl : L.length ≤ 100000) (hP : ∀ wx, Below base w wx → WPred b P L wx) :
    Calls Tryz.prog 117 #[.slice A L.length c, .func (.func 116) #[] #[.pointer (some ⟨b, 0, none⟩)]] w fun e w' => e = .returned (.slice A (L.filter fun y => !P y).length c) ∧ Wow w' base (.slice A (L.filter fun y => !P y).length c) (L.filter fun y => !P y) ∧ Below base w w' := by
  have HIX := Lib.hid (windex_any b A L.length c P L w h.wt hl (fun wx hb => hP wx (hb.mono hB)))
  have HW := Lib.hid h
  have HP := Lib.hid hP
  have HB := Lib.hid hB
  obtain ⟨n, hn⟩ : ∃ n, n = L.length := ⟨_, rfl⟩
  have hs := h.wt.size
  rw [← hn] at HIX HW hl hs ⊢
  have hs1 := hs.1
  have hs2 := hs.2
  have HN := Lib.hid hn
  clear h hP hB hn hs
  go_enter Tryz.func117, Tryz.ntmps117
  go_wp2_with fail
  refine HIX.out.mono ?_
  rintro e w1 ⟨hb1, ⟨rfl, hall⟩ | ⟨i0, rfl, hi0, hp0, hb0⟩⟩
  · have HALL := Lib.hid hall
    have HB1 := Lib.hid hb1
    clear hall hb1
    go_wp2_with fail
    go_ret
    have e : (L.filter fun y => !P y) = L := by
      have := wkp_all HALL.out (Nat.le_refl _)
      rw [wkp_full, List.take_length] at this
      exact this
    refine ⟨by rw [e, ← HN.out]; rfl, by rw [e]; rw [← HN.out]; exact HW.out.later HB1.out, HB1.out.mono HB.out⟩
  · have hLne : L ≠ [] := fun e => by rw [e] at hi0; simp at hi0
    obtain ⟨g, rfl, hq⟩ := HW.out.some hLne
    clear hq
    obtain ⟨hbg, X, hX, hnl, hlc, hcm, hXl, hXt⟩ := HW.out.bk
    have hi0n : i0 < n := by rw [HN.out]; exact hi0
    have HK0 : Hid (WKept base g c P L i0 (i0 + 1) w w1) := Lib.hid (by
      have e : wkp P L (i0 + 1) = L.take i0 := by rw [wkp_succ hi0, if_pos hp0, List.append_nil, wkp_all hb0 (Nat.le_of_lt hi0)]
      refine ⟨by rw [e, List.length_take]; omega, by omega, hb1.mono HB.out, X, bk_later hX hb1, hXl, ?_, fun t ht htl => ?_⟩
      · rw [e, Wn.wcl_take, ← hXt, List.take_take, Nat.min_eq_left (by omega)]
      · have := Wn.wcl_get L t htl
        rw [← hXt, List.getElem?_take, if_pos (by omega), List.getElem?_take, if_pos (by omega)] at this
        exact this)
    have HLC := Lib.hid hlc
    have HCM := Lib.hid hcm
    have HBG := Lib.hid hbg
    have hne : ((i0 : Int) == -1) = false := beq_eq_false_iff_ne.2 (by omega)
    clear hi0 hp0 hb0 hX hnl hlc hcm hXl hXt hLne hb1
    go_wp2_with fail
    clear hne
    go_loopw [5, 6] (fun a5 a6 wr => ∃ i j : Nat, j ≤ n ∧ i < j ∧ a5 = .int .i64 (i : Int) ∧ a6 = .int .i64 (j : Int) ∧ Hid (WKept base g c P L i j w wr)) (fun _ a6 _ => n - (intOf a6).toNat)
    case atStart => exact ⟨i0, i0 + 1, by omega, by omega, rfl, by go_num, HK0⟩
    case round =>
      rename World => wr
      obtain ⟨i, j, hj, hij, rfl, rfl, HK⟩ := hrel
      by_cases hlt : j < n
      · have hjx : j < L.length := by rw [← HN.out]; exact hlt
        obtain ⟨q1, q2⟩ := HK.out.cell hjx
        have HQ := Lib.hid (fun wx (hb : Below wr.heap.size wr wx) => HP.out wx (HK.out.below.trans (hb.mono (Nat.le_trans HB.out HK.out.below.size))) (L.getD j (0, 0)) (getDW_mem hjx))
        have HSK := Lib.hid (fun wx (hb : Below wr.heap.size wr wx) h => (HK.out.later HB.out hb).skip hjx h)
        have HPU := Lib.hid (fun wx (hb : Below wr.heap.size wr wx) h => (HK.out.later HB.out hb).put HBG.out (by rw [← HN.out]; exact HLC.out) hjx h)
        have HRM := Lib.hid (fun wx (hb : Below wr.heap.size wr wx) => (HK.out.later HB.out hb).room hjx (by rw [← HN.out]; exact HLC.out))
        generalize L.getD j (0, 0) = y at *
        obtain ⟨y1, y2⟩ := y
        have HA := Lib.hid ((Below.refl wr.heap.size wr).alloc (Nat.le_refl _) (.cells #[.int .i64 y1, .int .i64 y2] 52))
        have z1 : (wr.alloc (.cells #[.int .i64 y1, .int .i64 y2] 52)).cell? ⟨wr.heap.size, 0, none⟩ = some (.int .i64 y1) := by simp [World.cell?_alloc_new]
        have z2 : (wr.alloc (.cells #[.int .i64 y1, .int .i64 y2] 52)).cell? ⟨wr.heap.size, 1, none⟩ = some (.int .i64 y2) := by simp [World.cell?_alloc_new]
        have HZ : Hid (wr.heap.size < (wr.alloc (.cells #[.int .i64 y1, .int .i64 y2] 52)).heap.size) := Lib.hid (by simp)
        clear hjx
        cases hp : P (y1, y2) with
        | false =>
          have HPP := Lib.hid hp
          rw [hp] at HQ
          clear hp
          go_wp2_with fail
          refine (HQ.out _ HA.out).mono ?_
          rintro e w3 ⟨rfl, hb3⟩
          have HB3 := Lib.hid (HA.out.trans (hb3.mono HA.out.size))
          have x1 := (hb3.cell (p := ⟨wr.heap.size, 0, none⟩) HZ.out).trans z1
          have x2 := (hb3.cell (p := ⟨wr.heap.size, 1, none⟩) HZ.out).trans z2
          obtain ⟨⟨u1, r1⟩, ⟨u2, r2⟩, r3⟩ := HRM.out w3 HB3.out
          have r4 := r3 (i * 2)
          have r5 := r3 (i * 2 + 1)
          clear hb3 z1 z2 q1 q2 r3
          go_wp2_with fail
          go_roundw
          case rel => exact ⟨i + 1, j + 1, by omega, by omega, by go_num, by go_num, Lib.hid (HPU.out w3 HB3.out HPP.out)⟩
          case measure => simp [intOf]; omega
        | true =>
          have HPP := Lib.hid hp
          rw [hp] at HQ
          clear hp
          go_wp2_with fail
          refine (HQ.out _ HA.out).mono ?_
          rintro e w3 ⟨rfl, hb3⟩
          have HB3 := Lib.hid (HA.out.trans (hb3.mono HA.out.size))
          clear hb3 z1 z2 q1 q2
          go_wp2_with fail
          go_roundw
          case rel => exact ⟨i, j + 1, by omega, by omega, rfl, by go_num, Lib.hid (HSK.out w3 HB3.out HPP.out)⟩
          case measure => simp [intOf]; omega
      · obtain rfl : j = n := by omega
        obtain ⟨X2, h1, h2, h3, h4⟩ := HK.out.bk
        have hic : i ≤ c := by have := HLC.out; omega
        have hicI : (i : Int) ≤ (c : Int) := by omega
        have hjcI : (j : Int) ≤ (c : Int) := by omega
        have hijI : (i : Int) ≤ (j : Int) := by omega
        have hcl : ∀ ty cc, (Builtin.clear_ #[49] ty #[.slice (some ⟨g, i * 2, none⟩) (j - i) cc]).run Tryz.prog wr = .ok (.tuple #[]) (wr.setCells g (i * 2) (List.replicate ((j - i) * 2) (.int .i64 0))) := fun ty cc =>
          Wn.run_clear_wins wr ty g (i * 2) (j - i) cc X2 h1 (by omega) (by omega)
        have HE : Hid (Wow (wr.setCells g (i * 2) (List.replicate ((j - i) * 2) (.int .i64 0))) base (.slice (some ⟨g, 0, none⟩) i c) (L.filter fun y => !P y) ∧ i = (L.filter fun y => !P y).length ∧ Below base w (wr.setCells g (i * 2) (List.replicate ((j - i) * 2) (.int .i64 0)))) := Lib.hid (by
          have e : wkp P L j = L.filter fun y => !P y := by rw [HN.out]; exact wkp_full P L
          have hcnt := HK.out.cnt
          rw [e] at h3 hcnt
          have hset := Bk.setCells (List.replicate ((j - i) * 2) (Value.int .i64 0)) (i * 2) X2 wr h1 (by simp; omega)
          have hgr := Wn.setCells_turn g (List.replicate ((j - i) * 2) (Value.int .i64 0)) (i * 2) wr
          refine ⟨?_, hcnt, HK.out.below.trans ⟨hgr.os, hgr.tape, hgr.output, hgr.size, fun k hk => hgr.block k (Nat.lt_of_lt_of_le hk (Nat.le_trans HB.out HK.out.below.size)) (fun e => by have := HBG.out; simp at e; omega)⟩⟩
          have := Wow.ofBk (L := L.filter fun y => !P y) (c := c) (base := base) hset HBG.out (by omega) HCM.out (by rw [length_splice _ _ _ (by simp; omega)]; exact h2) (by rw [← hcnt, Wn.take_splice _ _ _ (by omega)]; exact h3)
          rw [← hcnt] at this
          exact this)
        have hne2 : ¬ c = i := by omega
        clear h1 h2 h3 h4
        go_wp2_with fail
        go_ret
        exact ⟨by rw [← HE.out.2.1]; rfl, by rw [← HE.out.2.1]; exact HE.out.1, HE.out.2.2⟩
end Sp
end Go.Proofs.YtcdclghmebgpnaaGreatDoor
end

section
namespace Go.Proofs.YtcdclghmebgpnaaGreatDoor
namespace Sp
open Go.RowKit Fl Pt
open Wn (Tab TF frees isT Ordw IW Wt Wow Bk wcl)

theorem late_filter (t0 : Int) (F : List (Int × Int)) : (F.filter fun y => !decide (y.2 ≤ t0)) = late t0 F := by
  unfold late
  congr 1
  funext y
  rw [Bool.eq_iff_iff]
  simp
/-- The first window begins otherwise. -/
theorem wow_first {w : World} {base n c g : Nat} {q : Int × Int} {r : List (Int × Int)} (h : Wow w base (.slice (some ⟨g, 0, none⟩) n c) (q :: r)) (x : Int) : Wow (w.setCell ⟨g, 0, none⟩ (.int .i64 x)) base (.slice (some ⟨g, 0, none⟩) n c) ((x, q.2) :: r) ∧ (∀ B, B ≤ base → Below B w (w.setCell ⟨g, 0, none⟩ (.int .i64 x))) := by
  obtain ⟨hbg, X, hX, hnl, hlc, hcm, hXl, hXt⟩ := h.bk
  have hXt0 := hXt
  simp only [List.length_cons, wcl] at hXt
  have hl : 2 ≤ X.length := by simp only [List.length_cons] at hnl; omega
  have hset := Bk.setCells [.int .i64 x] 0 X w hX (by simp; omega)
  refine ⟨?_, fun B hB => (Below.refl B w).setCell (p := ⟨g, 0, none⟩) (by show B ≤ g; omega) _⟩
  have := Wow.ofBk (L := (x, q.2) :: r) (c := c) (base := base) hset hbg (by simp only [List.length_cons] at hnl ⊢; omega) hcm (by rw [length_splice _ _ _ (by simp; omega)]; exact hXl) (by
    match X, hl with
    | a :: b :: Y, _ =>
      simp only [List.length_cons, wcl] at hXt ⊢
      rw [show (r.length + 1) * 2 = r.length * 2 + 1 + 1 by omega] at hXt ⊢
      simp only [List.take_succ_cons, List.cons.injEq] at hXt
      simp [splice, hXt])
  rw [hnl]
  exact this
def op7 (t0 : Int) : List (Int × Int) → List (Int × Int)
  | [] => [(t0, t0 + 1)]
  | q :: r => if q.1 ≤ t0 + 1 then (t0, q.2) :: r else (t0, t0 + 1) :: q :: r
theorem opn_op7 (t0 : Int) (F : List (Int × Int)) : opn true t0 F = op7 t0 (late t0 F) := by
  unfold opn
  rw [if_pos rfl]
  cases late t0 F <;> rfl
def OpenTold (p : Pm) (c : Nat) (w : World) (e : Ending) (w' : World) : Prop :=
  ∃ A cap, e = .returned (.slice A (p.O c).length cap) ∧ Wow w' w.heap.size (.slice A (p.O c).length cap) (p.O c) ∧ Below w.heap.size w w'
set_option maxHeartbeats 4000000 in
theorem open_any {p : Pm} {nv sv : Nat → Value} {S : Nat → Nat → Int} {w : World} (h : Gr p nv sv S w) {c : Nat} (hc : c < p.s.size) :
    Calls Tryz.prog 103 #[.pointer (some ⟨p.gb, 0, none⟩), .int .i64 (c : Int)] w (OpenTold p c w) := by
  have n256 := h.fit.n256
  have hIW : IW (c : Int) := by unfold IW; omega
  have ht0 := h.fit.t0
  have hgl := h.blt
  have HA := Lib.hid ((Below.refl w.heap.size w).alloc (Nat.le_refl _) (.cells #[.pointer (some ⟨p.gb, 0, none⟩)] 77))
  have kb : (w.alloc (.cells #[.pointer (some ⟨p.gb, 0, none⟩)] 77)).cell? ⟨w.heap.size, 0, none⟩ = some (.pointer (some ⟨p.gb, 0, none⟩)) := by simp [World.cell?_alloc_new]
  have HG := Lib.hid (h.later HA.out)
  have k3 := HG.out.g3
  have k4 := HG.out.g4
  have k5 := HG.out.g5
  have HF := Lib.hid (fun wx (hb : Below w.heap.size w wx) => Wn.free_any p.tB p.tb p.tN p.mv p.T p.tg (c : Int) wx (h.tab.later hb) hIW)
  have HGL := Lib.hid hgl
  have HFL := Lib.hid (h.fit.flen c)
  have HC1 := Lib.hid (show p.gb < w.heap.size + 1 from Nat.lt_succ_of_lt hgl)
  obtain ⟨a, ha⟩ : ∃ a, a = p.a := ⟨_, rfl⟩
  obtain ⟨t0, hte⟩ : ∃ t0, t0 = p.t0 := ⟨_, rfl⟩
  have HO : Hid (p.O c = opn (c == a) t0 (frees (p.T (c : Int)))) := Lib.hid (by rw [ha, hte]; rfl)
  have HT : Hid (p.F c = frees (p.T (c : Int))) := Lib.hid rfl
  unfold OpenTold
  obtain ⟨OL, hOL⟩ : ∃ OL, OL = p.O c := ⟨_, rfl⟩
  rw [← hOL] at HO ⊢
  clear hOL
  rw [HT.out] at HFL
  rw [← ha] at k4
  rw [← hte] at k5 ht0
  generalize frees (p.T (c : Int)) = F at *
  clear h ha hte hIW hgl
  unfold FN at k3
  go_enter Tryz.func103, Tryz.ntmps103
  go_wp2_with fail
  refine (HF.out _ HA.out).mono ?_
  rintro e w2 ⟨A2, c2, rfl, ho2, hb2⟩
  obtain ⟨w1, hw1⟩ : ∃ w1, w1 = w.alloc (.cells #[.pointer (some ⟨p.gb, 0, none⟩)] 77) := ⟨_, rfl⟩
  have hz1 : w1.heap.size = w.heap.size + 1 := by rw [hw1]; simp
  rw [← hw1] at ho2 hb2 kb k3 k4 k5 HG HA
  have hlt : ∀ wx, Below w1.heap.size w2 wx → wx.cell? ⟨w.heap.size, 0, none⟩ = some (.pointer (some ⟨p.gb, 0, none⟩)) ∧ wx.cell? ⟨p.gb, 4, none⟩ = some (.int .i64 (a : Int)) ∧ wx.cell? ⟨p.gb, 5, none⟩ = some (.int .i64 t0) := fun wx hb => by
    have hl1 := HC1.out
    have hb' := hb2.trans hb
    exact ⟨(hb'.cell (p := ⟨w.heap.size, 0, none⟩) (by show w.heap.size < _; omega)).trans kb, (hb'.cell (p := ⟨p.gb, 4, none⟩) (by show p.gb < _; omega)).trans k4, (hb'.cell (p := ⟨p.gb, 5, none⟩) (by show p.gb < _; omega)).trans k5⟩
  have HLT := Lib.hid hlt
  have HD := Lib.hid (wdelete_any w.heap.size w1.heap.size A2 c2 (fun q => decide (q.2 ≤ t0)) F w2 ho2 hb2.size (by have := HFL.out; omega) (fun wx hb q hq => by
    obtain ⟨q1, q2, q3⟩ := HLT.out wx hb
    have hl1 := HC1.out
    have hl2 := hb2.size
    have hl3 := hb.size
    exact open1_any w.heap.size p.gb t0 q.1 q.2 wx q1 q3 (by omega) (by omega)))
  rw [late_filter] at HD
  have HB2 := Lib.hid (HA.out.trans (hb2.mono HA.out.size))
  have HL2 := Lib.hid hb2.size
  have HZ1 := Lib.hid hz1
  have HLL : Hid ((late t0 F).length ≤ F.length) := Lib.hid (List.length_filter_le _ _)
  clear hlt kb k3 k4 k5 ho2 hb2 hw1 hz1
  go_wp2_with fail
  refine HD.out.mono ?_
  rintro e w3 ⟨rfl, ho3, hb3⟩
  obtain ⟨y1, y2, y3⟩ := HLT.out w3 hb3
  have HO3 := Lib.hid ho3
  have HB3 : Hid (Below w.heap.size w w3) := Lib.hid (HB2.out.trans (hb3.mono (by have := HZ1.out; omega)))
  have HBB := Lib.hid hb3
  have hll : (late t0 F).length ≤ 100000 := by have := HLL.out; have := HFL.out; omega
  clear ho3 hb3
  by_cases hca : c = a
  · have hne : ((c : Int) != (a : Int)) = false := by rw [hca]; simp
    have HOP : Hid (OL = op7 t0 (late t0 F)) := Lib.hid (by rw [HO.out, hca, beq_self_eq_true, opn_op7])
    generalize late t0 F = l at *
    clear HO hca
    have hwr : IntKind.i64.wrap (t0 + 1) = t0 + 1 := IntWalk.i64_in _ (by omega)
    have HINS : Hid (∀ wa, Below w3.heap.size w3 wa → Calls Tryz.prog 45 #[.slice A2 l.length c2, .int .i64 0, .slice (some ⟨wa.heap.size, 0, none⟩) 1 1] (wa.alloc (.cells #[.int .i64 t0, .int .i64 (t0 + 1)] 52)).drew fun e w' => ∃ A' c', e = .returned (.slice A' (l.length + 1) c') ∧ Wow w' w1.heap.size (.slice A' (l.length + 1) c') (Wn.insAt l 0 (t0, t0 + 1)) ∧ (wa.alloc (.cells #[.int .i64 t0, .int .i64 (t0 + 1)] 52)).grownBy w' (Value.slice A2 l.length c2).ownBlock) := Lib.hid (fun wa hb =>
      (Wn.insert_any w1.heap.size A2 c2 l 0 t0 (t0 + 1) wa.drew (wa.drew.alloc (.cells #[.int .i64 t0, .int .i64 (t0 + 1)] 52)) (HO3.out.later (hb.trans ((Below.refl _ wa).drew))) rfl (Nat.le_trans HL2.out (Nat.le_trans HBB.out.size hb.size)) (Nat.zero_le _) hll).mono fun e w' ⟨A', c', h1, h2, h3, _⟩ => ⟨A', c', h1, h2, h3.os, h3.tape, h3.output, h3.size, h3.block⟩)
    have HY := Lib.hid (fun wa (hb : Below w3.heap.size w3 wa) => (⟨(hb.cell (p := ⟨w.heap.size, 0, none⟩) (by show w.heap.size < _; have := HZ1.out; have := HL2.out; have := HBB.out.size; omega)).trans y1, (hb.cell (p := ⟨p.gb, 5, none⟩) (by show p.gb < _; have := HC1.out; have := HZ1.out; have := HL2.out; have := HBB.out.size; omega)).trans y3⟩ : wa.cell? ⟨w.heap.size, 0, none⟩ = some (.pointer (some ⟨p.gb, 0, none⟩)) ∧ wa.cell? ⟨p.gb, 5, none⟩ = some (.int .i64 t0)))
    have HEND := Lib.hid (fun (wa w' : World) (A : Option Addr) (cp : Nat) (hb : Below w3.heap.size w3 wa) (hx : OL = (t0, t0 + 1) :: l) (ho : Wow w' w1.heap.size (.slice A (l.length + 1) cp) (Wn.insAt l 0 (t0, t0 + 1))) (hg : (wa.alloc (.cells #[.int .i64 t0, .int .i64 (t0 + 1)] 52)).grownBy w' (Value.slice A2 l.length c2).ownBlock) => (show Wow w' w.heap.size (.slice A OL.length cp) OL ∧ Below w.heap.size w w' ∧ w'.cell? ⟨w.heap.size, 0, none⟩ = some (.pointer (some ⟨p.gb, 0, none⟩)) ∧ w'.cell? ⟨p.gb, 5, none⟩ = some (.int .i64 t0) from by
      have e : Wn.insAt l 0 (t0, t0 + 1) = (t0, t0 + 1) :: l := by simp [Wn.insAt]
      rw [e] at ho
      rw [hx]
      have h1 : Below w.heap.size w wa := HB3.out.trans (hb.mono HB3.out.size)
      have hsz : w1.heap.size ≤ wa.heap.size := Nat.le_trans HL2.out (Nat.le_trans HBB.out.size hb.size)
      have h2 : Below w1.heap.size wa w' := ((Below.refl w1.heap.size wa).alloc hsz (.cells #[.int .i64 t0, .int .i64 (t0 + 1)] 52)).trans ⟨hg.os, hg.tape, hg.output, hg.size, fun k hk => hg.block k (by simp; omega) (fun e => by
        have := (World.ownsRow.lt HO3.out k e.symm).1
        omega)⟩
      obtain ⟨z1, z3⟩ := HY.out wa hb
      refine ⟨ho.lower (by have := HZ1.out; omega), h1.trans (h2.mono (by have := HZ1.out; omega)), (h2.cell (p := ⟨w.heap.size, 0, none⟩) (by show w.heap.size < _; have := HZ1.out; omega)).trans z1, (h2.cell (p := ⟨p.gb, 5, none⟩) (by show p.gb < _; have := HC1.out; have := HZ1.out; omega)).trans z3⟩))
    by_cases hl0 : l = []
    · have hop : OL = (t0, t0 + 1) :: l := by rw [HOP.out, hl0]; rfl
      have HOQ := Lib.hid hop
      clear hop HD
      subst hl0
      go_wp2_with fail
      go_big_quiet (fail)
      rename_i nq _
      have HQ := Lib.hid (below_drewN w3.heap.size w3 nq)
      generalize w3.drewN nq = wa at *
      obtain ⟨y1, y3⟩ := HY.out wa HQ.out
      go_wp2_with fail
      go_region_held3 (fun w' => w'.cell? ⟨w.heap.size, 0, none⟩ = some (.pointer (some ⟨p.gb, 0, none⟩)) ∧ w'.cell? ⟨p.gb, 5, none⟩ = some (.int .i64 t0)) (go_keep)
        ((first
          | (go_at_call 45; refine (HINS.out wa HQ.out).mono ?_; rintro e w5 ⟨A5, c5, rfl, ho5, hg5⟩; have HE := Lib.hid (HEND.out wa w5 A5 c5 HQ.out HOQ.out ho5 hg5); clear ho5 hg5; have y1 := HE.out.2.2.1; have y3 := HE.out.2.2.2)))
      go_wp2_with fail
      go_ret
      exact ⟨A5, c5, by rw [HOQ.out]; rfl, HE.out.1, HE.out.2.1⟩
    · obtain ⟨q, r, rfl⟩ : ∃ q r, l = q :: r := by
        cases l with
        | nil => exact absurd rfl hl0
        | cons q r => exact ⟨q, r, rfl⟩
      obtain ⟨g, rfl, hq⟩ := HO3.out.some (by simp)
      have hcell := HO3.out.wt.cell (by simp)
      obtain ⟨g', off, e1, _, hcell⟩ := hcell
      simp only [Option.some.injEq, Addr.mk.injEq, and_true] at e1
      obtain ⟨rfl, rfl⟩ := e1
      have q1 := (hcell 0 (by simp)).1
      rw [Nat.zero_mul, Nat.add_zero] at q1
      obtain ⟨qa, qb⟩ := q
      have q1 : w3.cell? ⟨g, 0, none⟩ = some (.int .i64 qa) := q1
      have qf : w3.frozen? ⟨g, 0, none⟩ = false := HO3.out.frozenAt 0
      have HOF := Lib.hid (fun x => wow_first HO3.out x)
      clear hcell hq hl0
      have hll2 : (((qa, qb) :: r).length : Int) ≤ 100000 := by omega
      have hlp : (0 : Int) < (((qa, qb) :: r).length : Int) := by simp [List.length_cons] <;> omega
      by_cases hqa : qa ≤ t0 + 1
      · have HOQ : Hid (OL = (t0, qb) :: r) := Lib.hid (by rw [HOP.out]; exact if_pos hqa)
        have hd : decide (qa ≤ t0 + 1) = true := decide_eq_true hqa
        generalize hn : ((qa, qb) :: r).length = n at *
        have HN := Lib.hid hn
        have hdn : decide (0 < n) = true := decide_eq_true (by omega)
        clear HD hn
        go_wp2_with fail
        go_big_quiet (fail)
        rename_i nq _
        have HQ := Lib.hid (below_drewN w3.heap.size w3 nq)
        have q1' : (w3.drewN nq).cell? ⟨g, 0, none⟩ = some (.int .i64 qa) := q1
        have qf' : (w3.drewN nq).frozen? ⟨g, 0, none⟩ = false := qf
        have HWF := Lib.hid (wow_first (HO3.out.later HQ.out) t0)
        generalize w3.drewN nq = wa at *
        obtain ⟨y1, y3⟩ := HY.out wa HQ.out
        clear q1 qf
        go_wp2_with fail
        go_ret
        have hL : OL.length = n := by rw [HOQ.out]; exact HN.out
        refine ⟨some ⟨g, 0, none⟩, c2, by rw [hL]; rfl, ?_, ?_⟩
        · rw [hL, HOQ.out]
          exact HWF.out.1.lower (by have := HZ1.out; omega)
        · exact (HB3.out.trans (HQ.out.mono HB3.out.size)).trans (HWF.out.2 _ (by have := HZ1.out; omega))
      · have HOQ : Hid (OL = (t0, t0 + 1) :: (qa, qb) :: r) := Lib.hid (by rw [HOP.out]; exact if_neg hqa)
        have hd : decide (qa ≤ t0 + 1) = false := decide_eq_false hqa
        generalize hl : ((qa, qb) :: r) = l at *
        generalize hn : l.length = n at *
        have HN := Lib.hid hn
        have hdn : decide (0 < n) = true := decide_eq_true (by omega)
        clear HD hn hl HOP
        go_wp2_with fail
        go_big_quiet (fail)
        rename_i nq _
        have HQ := Lib.hid (below_drewN w3.heap.size w3 nq)
        generalize w3.drewN nq = wa at *
        obtain ⟨y1, y3⟩ := HY.out wa HQ.out
        go_wp2_with fail
        go_region_held3 (fun w' => w'.cell? ⟨w.heap.size, 0, none⟩ = some (.pointer (some ⟨p.gb, 0, none⟩)) ∧ w'.cell? ⟨p.gb, 5, none⟩ = some (.int .i64 t0)) (go_keep)
          ((first
            | (go_at_call 45; refine (HINS.out wa HQ.out).mono ?_; rintro e w5 ⟨A5, c5, rfl, ho5, hg5⟩; have HE := Lib.hid (HEND.out wa w5 A5 c5 HQ.out HOQ.out ho5 hg5); clear ho5 hg5; have y1 := HE.out.2.2.1; have y3 := HE.out.2.2.2)))
        go_wp2_with fail
        go_ret
        exact ⟨A5, c5, by rw [HOQ.out, ← HN.out]; rfl, HE.out.1, HE.out.2.1⟩
  · have hne : ((c : Int) != (a : Int)) = true := by simp; omega
    have HOP : Hid (OL = late t0 F) := Lib.hid (by rw [HO.out, beq_eq_false_iff_ne.2 hca]; rfl)
    generalize late t0 F = l at *
    clear HO
    go_wp2_with fail
    go_ret
    exact ⟨A2, c2, by rw [HOP.out]; rfl, by rw [HOP.out]; exact HO3.out.lower (by have := HZ1.out; omega), HB3.out⟩
end Sp
end Go.Proofs.YtcdclghmebgpnaaGreatDoor
end

section
namespace Go.Proofs.YtcdclghmebgpnaaGreatDoor
namespace Sp
open Go.RowKit Fl Pt
open Wn (Tab TF frees isT Ordw IW Wt Wow Bk wcl plc Rising)

theorem SepL.rising {f : Int} {L : List (Int × Int)} (h : SepL f L) : Rising L := fun a b hab hb => by
  by_cases e : a = b
  · subst e; exact Int.le_refl _
  · have h1 := h.apart a b (by omega) hb
    have h2 := h.least b hb
    omega
/-- Which stay has a moment in it. -/
theorem at_plc {L : List (Int × Int)} {f m : Int} (h : SepL f L) {k : Nat} : At L k m ↔ k = plc L m ∧ k < L.length ∧ (L.getD k (0, 0)).1 ≤ m := by
  constructor
  · rintro ⟨h1, h2, h3⟩
    refine ⟨(Wn.plc_eq L m k (Nat.le_of_lt h1) (fun t ht => ?_) (fun _ => h3)).symm, h1, h2⟩
    have := h.apart t k ht h1
    omega
  · rintro ⟨rfl, h2, h3⟩
    exact ⟨h2, h3, Wn.plc_lt h2⟩
theorem spplace1_any (bl bm g n : Nat) (L : List (Int × Int)) (f : Nat → Int) (m : Int) (i : Nat) (w : World) (hS : Sts g L f w) (hn : n = L.length) (h256 : n ≤ 100000) (hi : i < n)
    (h1 : w.cell? ⟨bl, 0, none⟩ = some (.slice (some ⟨g, 0, none⟩) n n)) (h2 : w.cell? ⟨bm, 0, none⟩ = some (.int .i64 m)) :
    Calls Tryz.prog 115 #[.int .i64 (i : Int), .pointer (some ⟨bl, 0, none⟩), .pointer (some ⟨bm, 0, none⟩)] w fun e w' => e = .returned (.bool (decide (m < (L.getD i (0, 0)).2))) ∧ Below w.heap.size w w' := by
  obtain ⟨_, k2, _, _⟩ := hS.at (k := i) (by omega)
  have hiI : (i : Int) < (n : Int) := by omega
  clear hS hn
  generalize (L.getD i (0, 0)).2 = y at *
  go_enter Tryz.func115, Tryz.ntmps115
  go_wp2_with fail
  go_big_quiet (fail)
  go_wp2_with fail
  go_ret
  exact ⟨rfl, below_drewN _ _ _⟩
def Sought7 (n : Nat) (p : Nat → Bool) (w : World) (e : Ending) (w' : World) : Prop := ∃ k : Nat, e = .returned (.int .i64 (k : Int)) ∧ k ≤ n ∧ (∀ t, t < k → p t = false) ∧ (∀ t, k ≤ t → t < n → p t = true) ∧ Below w.heap.size w w'
set_option maxHeartbeats 1000000 in
theorem search7_any (bi bl n : Nat) (p : Nat → Bool) (w : World) (hn : n ≤ 1000000)
    (hf : ∀ wx i, Below w.heap.size w wx → i < n → Calls Tryz.prog 115 #[.int .i64 (i : Int), .pointer (some ⟨bi, 0, none⟩), .pointer (some ⟨bl, 0, none⟩)] wx fun e w' => e = .returned (.bool (p i)) ∧ Below wx.heap.size wx w')
    (hm : ∀ a b, a ≤ b → b < n → p a = true → p b = true) :
    Calls Tryz.prog 71 #[.int .i64 (n : Int), .func (.func 115) #[] #[.pointer (some ⟨bi, 0, none⟩), .pointer (some ⟨bl, 0, none⟩)]] w (Sought7 n p w) := by
  have HF := Lib.hid hf
  have HM := Lib.hid hm
  clear hf hm
  go_enter Tryz.func71, Tryz.ntmps71
  go_wp2_with fail
  go_loopw [5, 6] (fun s5 s6 wr => ∃ lo hi : Nat, s5 = .int .i64 (lo : Int) ∧ s6 = .int .i64 (hi : Int) ∧ lo ≤ hi ∧ hi ≤ n ∧ Below w.heap.size w wr ∧ Hid ((∀ t, t < lo → p t = false) ∧ (∀ t, hi ≤ t → t < n → p t = true))) (fun s5 s6 _ => (intOf s6 - intOf s5).toNat)
  case atStart => exact ⟨0, n, rfl, rfl, Nat.zero_le _, Nat.le_refl _, Below.refl _ _, Lib.hid ⟨fun t ht => by omega, fun t h1 h2 => by omega⟩⟩
  case round =>
    rename World => wr
    obtain ⟨lo, hi, rfl, rfl, hlh, hin, hB, HI⟩ := hrel
    have HB := Lib.hid hB
    clear hB
    by_cases hlt : lo < hi
    · obtain ⟨m, hmid⟩ : ∃ m, m = (lo + hi) / 2 := ⟨_, rfl⟩
      have hmI : ((lo : Int) + (hi : Int)) / 2 = (m : Int) := by omega
      have hml : lo ≤ m := by omega
      have hmh : m < hi := by omega
      have hltI : (lo : Int) < (hi : Int) := by omega
      have HC := Lib.hid (HF.out wr m HB.out (by omega))
      clear hmid
      cases hp : p m with
      | false =>
        have HP := Lib.hid hp
        rw [hp] at HC
        clear hp
        go_wp2_with fail
        refine HC.out.mono ?_
        rintro e w3 ⟨rfl, hb3⟩
        have HB3 := Lib.hid (HB.out.trans (hb3.mono HB.out.size))
        clear hb3
        go_wp2_with fail
        go_roundw
        case rel => exact ⟨m + 1, hi, by go_num, rfl, by omega, hin, HB3.out, Lib.hid ⟨fun t ht => (by
          cases h : p t with
          | false => rfl
          | true => have := HM.out t m (by omega) (by omega) h; rw [HP.out] at this; cases this), HI.out.2⟩⟩
        case measure => simp [intOf]; omega
      | true =>
        have HP := Lib.hid hp
        rw [hp] at HC
        clear hp
        go_wp2_with fail
        refine HC.out.mono ?_
        rintro e w3 ⟨rfl, hb3⟩
        have HB3 := Lib.hid (HB.out.trans (hb3.mono HB.out.size))
        clear hb3
        go_wp2_with fail
        go_roundw
        case rel => exact ⟨lo, m, rfl, by go_num, hml, by omega, HB3.out, Lib.hid ⟨HI.out.1, fun t ht htn => HM.out m t ht htn HP.out⟩⟩
        case measure => simp [intOf]; omega
    · obtain rfl : hi = lo := by omega
      go_wp2_with fail
      go_ret
      exact ⟨hi, rfl, hin, HI.out.1, HI.out.2, HB.out⟩
set_option maxHeartbeats 1000000 in
/-- Where the first stay stands that ends behind a moment. -/
theorem spplace_any (g n : Nat) (L : List (Int × Int)) (f : Nat → Int) (m : Int) (w : World) (hS : Sts g L f w) (hn : n = L.length) (h256 : n ≤ 100000) (hR : Rising L) :
    Calls Tryz.prog 102 #[.slice (some ⟨g, 0, none⟩) n n, .int .i64 m] w fun e w' => e = .returned (.int .i64 (plc L m : Nat)) ∧ Below w.heap.size w w' := by
  have HS := Lib.hid hS
  have HN := Lib.hid hn
  have HR := Lib.hid hR
  have hgl := hS.cells.1
  clear hS hn hR
  go_enter Tryz.func102, Tryz.ntmps102
  go_wp2_with fail
  obtain ⟨w1, hw1⟩ : ∃ w1, w1 = w.alloc (.cells #[.slice (some ⟨g, 0, none⟩) n n] 108) := ⟨_, rfl⟩
  have hz1 : w1.heap.size = w.heap.size + 1 := by rw [hw1]; exact alloc_size _ _
  have hb1 : Below w.heap.size w w1 := by rw [hw1]; exact (Below.refl _ _).alloc (Nat.le_refl _) _
  have c1 : w1.cell? ⟨w.heap.size, 0, none⟩ = some (.slice (some ⟨g, 0, none⟩) n n) := by rw [hw1]; simp [World.cell?_alloc_new]
  rw [← hw1]
  obtain ⟨w2, hw2⟩ : ∃ w2, w2 = w1.alloc (.cells #[.int .i64 m] 3) := ⟨_, rfl⟩
  have hz2 : w2.heap.size = w1.heap.size + 1 := by rw [hw2]; exact alloc_size _ _
  have hb2 : Below w1.heap.size w1 w2 := by rw [hw2]; exact (Below.refl _ _).alloc (Nat.le_refl _) _
  have c2 : w2.cell? ⟨w.heap.size + 1, 0, none⟩ = some (.int .i64 m) := by rw [hw2, ← hz1]; simp [World.cell?_alloc_new]
  rw [← hw2]
  have c1' : w2.cell? ⟨w.heap.size, 0, none⟩ = some (.slice (some ⟨g, 0, none⟩) n n) := (hb2.cell (p := ⟨w.heap.size, 0, none⟩) (by show w.heap.size < w1.heap.size; omega)).trans c1
  have hbw2 : Below w.heap.size w w2 := hb1.trans (hb2.mono hb1.size)
  have hSo := search7_any w.heap.size (w.heap.size + 1) n (fun i => decide (m < (L.getD i (0, 0)).2)) w2 (by omega)
    (fun wx i hbx hi => by
      have hbw := hbw2.trans (hbx.mono hbw2.size)
      exact spplace1_any w.heap.size (w.heap.size + 1) g n L f m i wx (HS.out.same hbw.size (hbw.block g hgl)) HN.out h256 hi ((hbx.cell (p := ⟨w.heap.size, 0, none⟩) (by show w.heap.size < w2.heap.size; omega)).trans c1') ((hbx.cell (p := ⟨w.heap.size + 1, 0, none⟩) (by show w.heap.size + 1 < w2.heap.size; omega)).trans c2))
    (fun a c hac hcn h => by
      have h1 := HR.out a c hac (by rw [← HN.out]; exact hcn)
      simp only [decide_eq_true_eq] at h ⊢
      omega)
  clear hw1 hw2
  refine hSo.mono ?_
  rintro e w3 ⟨k, rfl, hk, h1, h2, hb3⟩
  have HK : Hid (plc L m = k) := Lib.hid (Wn.plc_eq L m k (by rw [← HN.out]; exact hk) (fun t ht => by have := h1 t ht; simp only [decide_eq_false_iff_not] at this; omega) (fun hkl => by have := h2 k (Nat.le_refl _) (by rw [HN.out]; exact hkl); simpa using this))
  have HB3 := Lib.hid (hbw2.trans (hb3.mono hbw2.size))
  clear h1 h2 hb3 hSo hb1 hb2 c1 c2 c1' hbw2 hz1 hz2
  go_wp2_with fail
  go_ret
  exact ⟨by rw [HK.out]; rfl, HB3.out⟩
theorem Tryz.infoStay : (Tryz.prog.info? 113).map (fun i => (i.zero, i.size, i.bytes)) = some (some (.agg #[.int .i64 0, .int .i64 0, .int .i64 0]), 3, 24) := by kernel_rfl
theorem run_makeStays (n : Nat) (hn : n ≤ 100000) (wx : World) : (Instr.makeSlice 108 (.int .i64 (n : Int)) (.int .i64 (n : Int))).run Tryz.prog wx = .ok (.slice (some ⟨wx.heap.size, 0, none⟩) n n) (wx.alloc (.cells (List.replicate (n * 3) (Value.int .i64 0)).toArray 113)) := by
  obtain ⟨i0, hi, hz0, hz1, hz2⟩ := info_parts Tryz.infoStay
  have := run_make (P := Tryz.prog) wx 108 113 i0 _ Tryz.underlying108 hi hz0 .i64 .i64 n n (by omega) (Int.le_refl _) (by rw [hz2]; omega) (by omega)
  simp only [Int.toNat_natCast, hz1] at this
  rw [this]
  have e : madeCells (Value.agg #[.int .i64 0, .int .i64 0, .int .i64 0]).cells (n * 3) = (List.replicate (n * 3) (Value.int .i64 0)).toArray := by
    have hc : (Value.agg #[.int .i64 0, .int .i64 0, .int .i64 0]).cells = #[.int .i64 0, .int .i64 0, .int .i64 0] := by kernel_rfl
    rw [hc]
    apply Array.ext
    · simp [madeCells]
    · intro i h1 h2
      have : i % 3 = 0 ∨ i % 3 = 1 ∨ i % 3 = 2 := by omega
      rcases this with q | q | q <;> simp [madeCells, q]
  rw [e]
end Sp
end Go.Proofs.YtcdclghmebgpnaaGreatDoor
end

section
namespace Go.Proofs.YtcdclghmebgpnaaGreatDoor
namespace Sp
open Go.RowKit Fl Pt
open Wn (Tab TF frees isT Ordw IW Wt Wow Bk wcl plc Rising)

/-- The first so many stays are laid. -/
def fv (L : List (Int × Int)) (i x : Nat) : Value := if x / 3 < i then stv L (fun _ => 1048576) x else .int .i64 0
/-- The stays of a cell are being laid. -/
structure Fl7 (p : Pm) (nv sv : Nat → Value) (S : Nat → Nat → Int) (c g : Nat) (A : Option Addr) (cap : Nat) (i : Nat) (w3 wr : World) : Prop where
  gr : Gr p nv sv S w3
  none : sv c = nil7
  new : w3.heap.size ≤ g
  turn : Turn (fun k => k = p.sb) (fun k => k = p.sb) w3 wr
  sb : Cells p.sb p.s.size (fun x => if x = c then .slice (some ⟨g, 0, .none⟩) (p.O c).length (p.O c).length else sv x) wr
  ks : ∃ cs fz, wr.heap[p.sb]? = some (.cells cs 108 fz)
  kind : ∃ cs fz, wr.heap[g]? = some (.cells cs 113 fz)
  cells : Cells g ((p.O c).length * 3) (fv (p.O c) i) wr
  ws : Wt w3.heap.size w3 A (p.O c).length cap (p.O c)
  wk : ∀ a, A = some a → ∃ cs fz, w3.heap[a.block]? = some (.cells cs 52 fz)
section
variable {p : Pm} {nv sv : Nat → Value} {S : Nat → Nat → Int} {c g i cap : Nat} {A : Option Addr} {w3 wr : World}
theorem Fl7.later (h : Fl7 p nv sv S c g A cap i w3 wr) {w' : World} (hb : Below wr.heap.size wr w') : Fl7 p nv sv S c g A cap i w3 w' := by
  have b1 := hb.block p.sb h.sb.1
  have b2 := hb.block g h.cells.1
  exact ⟨h.gr, h.none, h.new, h.turn.trans (Turn.ofBelow hb _), h.sb.later hb, by rw [b1]; exact h.ks, by rw [b2]; exact h.kind, h.cells.later hb, h.ws, h.wk⟩
theorem Fl7.box (h : Fl7 p nv sv S c g A cap i w3 wr) : wr.cell? ⟨p.gb, 8, .none⟩ = some (.slice (some ⟨p.sb, 0, .none⟩) p.s.size p.s.size) := by
  have hne := ne_kind ⟨_, _, h.gr.box⟩ h.gr.ks (by decide)
  exact (World.cell?_of_block (a := ⟨p.gb, 8, .none⟩) (h.turn.block p.gb h.gr.blt hne)).trans h.gr.g8
theorem Fl7.slot (h : Fl7 p nv sv S c g A cap i w3 wr) (hc : c < p.s.size) : wr.cell? ⟨p.sb, c, .none⟩ = some (.slice (some ⟨g, 0, .none⟩) (p.O c).length (p.O c).length) := (h.sb.2 c hc).1.trans (congrArg some (if_pos rfl))
theorem Fl7.win (h : Fl7 p nv sv S c g A cap i w3 wr) (hi : i < (p.O c).length) : ∃ gw off, A = some ⟨gw, off, .none⟩ ∧ wr.cell? ⟨gw, off + i * 2, .none⟩ = some (.int .i64 ((p.O c).getD i (0, 0)).1) ∧ wr.cell? ⟨gw, off + i * 2 + 1, .none⟩ = some (.int .i64 ((p.O c).getD i (0, 0)).2) := by
  obtain ⟨gw, off, e, hg, hcell⟩ := h.ws.cell (by omega)
  have hb := h.turn.block gw hg (ne_kind (h.wk _ e) h.gr.ks (by decide))
  exact ⟨gw, off, e, (World.cell?_of_block (a := ⟨gw, off + i * 2, .none⟩) hb).trans (hcell i hi).1, (World.cell?_of_block (a := ⟨gw, off + i * 2 + 1, .none⟩) hb).trans (hcell i hi).2⟩
theorem Fl7.room (h : Fl7 p nv sv S c g A cap i w3 wr) (hi : i < (p.O c).length) : ∀ k, k < 3 → (∃ u, wr.cell? ⟨g, i * 3 + k, .none⟩ = some u) ∧ wr.frozen? ⟨g, i * 3 + k, .none⟩ = false := fun k hk => by
  have := h.cells.2 (i * 3 + k) (by omega)
  exact ⟨⟨_, this.1⟩, this.2⟩
theorem Fl7.put (h : Fl7 p nv sv S c g A cap i w3 wr) (hi : i < (p.O c).length) :
    Fl7 p nv sv S c g A cap (i + 1) w3 (((wr.setCell ⟨g, i * 3, .none⟩ (.int .i64 ((p.O c).getD i (0, 0)).1)).setCell ⟨g, i * 3 + 1, .none⟩ (.int .i64 ((p.O c).getD i (0, 0)).2)).setCell ⟨g, i * 3 + 2, .none⟩ (.int .i64 1048576)) := by
  have hne : p.sb ≠ g := ne_kind h.ks h.kind (by decide)
  have hg3 := h.new
  have ht : Turn (fun k => k = p.sb) (fun k => k = p.sb) w3 (((wr.setCell ⟨g, i * 3, .none⟩ (.int .i64 ((p.O c).getD i (0, 0)).1)).setCell ⟨g, i * 3 + 1, .none⟩ (.int .i64 ((p.O c).getD i (0, 0)).2)).setCell ⟨g, i * 3 + 2, .none⟩ (.int .i64 1048576)) := by
    have hT : Turn (fun k => k = p.sb ∨ k = g) (fun k => k = p.sb ∨ k = g) wr (((wr.setCell ⟨g, i * 3, .none⟩ (.int .i64 ((p.O c).getD i (0, 0)).1)).setCell ⟨g, i * 3 + 1, .none⟩ (.int .i64 ((p.O c).getD i (0, 0)).2)).setCell ⟨g, i * 3 + 2, .none⟩ (.int .i64 1048576)) :=
      (((Turn.refl (fun k => k = p.sb ∨ k = g) wr).put _ (.inr rfl)).put _ (.inr rfl)).put _ (.inr rfl)
    have := h.turn
    exact ⟨hT.os.trans this.os, hT.tape.trans this.tape, hT.output.trans this.output, Nat.le_trans this.size hT.size, fun k hk hF => (hT.block k (Nat.lt_of_lt_of_le hk this.size) (fun e => by rcases e with e | e; exact hF e; omega)).trans (this.block k hk hF), fun k hk => .inl hk⟩
  have hs : wr.heap.size = (((wr.setCell ⟨g, i * 3, .none⟩ (.int .i64 ((p.O c).getD i (0, 0)).1)).setCell ⟨g, i * 3 + 1, .none⟩ (.int .i64 ((p.O c).getD i (0, 0)).2)).setCell ⟨g, i * 3 + 2, .none⟩ (.int .i64 1048576)).heap.size := by simp [World.setCell]
  have hb : (((wr.setCell ⟨g, i * 3, .none⟩ (.int .i64 ((p.O c).getD i (0, 0)).1)).setCell ⟨g, i * 3 + 1, .none⟩ (.int .i64 ((p.O c).getD i (0, 0)).2)).setCell ⟨g, i * 3 + 2, .none⟩ (.int .i64 1048576)).heap[p.sb]? = wr.heap[p.sb]? := by
    rw [set_other hne, set_other hne, set_other hne]
  refine ⟨h.gr, h.none, h.new, ht, h.sb.same (Nat.le_of_eq hs) hb, by rw [hb]; exact h.ks, kind_set (kind_set (kind_set h.kind)), ?_, h.ws, h.wk⟩
  have f1 : ∀ x, x < (p.O c).length * 3 → fv (p.O c) (i + 1) x = if x = i * 3 + 2 then .int .i64 1048576 else if x = i * 3 + 1 then .int .i64 ((p.O c).getD i (0, 0)).2 else if x = i * 3 then .int .i64 ((p.O c).getD i (0, 0)).1 else fv (p.O c) i x := fun x hx => by
    unfold fv stv
    by_cases e2 : x = i * 3 + 2
    · subst e2
      rw [if_pos rfl, if_pos (by omega), if_neg (by omega), if_neg (by omega)]
    · rw [if_neg e2]
      by_cases e1 : x = i * 3 + 1
      · subst e1
        rw [if_pos rfl, if_pos (by omega), if_neg (by omega), if_pos (by omega), show (i * 3 + 1) / 3 = i by omega]
      · rw [if_neg e1]
        by_cases e0 : x = i * 3
        · subst e0
          rw [if_pos rfl, if_pos (by omega), if_pos (by omega), show i * 3 / 3 = i by omega]
        · rw [if_neg e0]
          by_cases hl : x / 3 < i
          · rw [if_pos (by omega), if_pos hl]
          · rw [if_neg (by omega), if_neg hl]
  exact ((h.cells.put (i * 3) _ (by omega) (fun x _ => rfl)).put (i * 3 + 1) _ (by omega) (fun x _ => rfl)).put (i * 3 + 2) _ (by omega) f1
/-- All stays are laid. -/
theorem Fl7.done (h : Fl7 p nv sv S c g A cap i w3 wr) (hc : c < p.s.size) (hi : (p.O c).length ≤ i) : Gr p nv (fun x => if x = c then .slice (some ⟨g, 0, .none⟩) (p.O c).length (p.O c).length else sv x) S wr ∧ Went p w3 wr := by
  have hG := h.gr
  have hB : Below p.B w3 wr := h.turn.below _ hG.tlt (fun k hk => by rw [show k = p.sb from hk]; exact hG.lo.2.2.2)
  have oth : ∀ k, k < w3.heap.size → k ≠ p.sb → wr.heap[k]? = w3.heap[k]? := fun k h1 h2 => h.turn.block k h1 h2
  have b0 := oth p.gb hG.blt (ne_kind ⟨_, _, hG.box⟩ hG.ks (by decide))
  have b1 := oth p.lb hG.lv.1 (ne_kind hG.kl hG.ks (by decide))
  have b3 := oth p.nb hG.nc.1 (ne_kind hG.kn hG.ks (by decide))
  have hn : Sts g (p.O c) (fun _ => 1048576) wr := ⟨h.kind, h.cells.congr fun x hx => by unfold fv; rw [if_pos (by omega)]⟩
  have hnew : ∀ x, x < p.s.size → (sv x).ownBlock ≠ some g := fun x hx e => by
    rcases hG.sm x hx with q | ⟨g', q1, q2, q3⟩
    · rw [q.1] at e; cases e
    · rw [q1] at e
      have : g' = g := by simpa [Value.ownBlock] using e
      have := q3.cells.1
      have := h.new
      omega
  refine ⟨⟨hG.fit, tab_same hG.tab hG.fit.tlow hB, b0.trans hG.box, hG.lv.same hB.size b1, hG.nc.same hB.size b3, h.sb, by rw [b1]; exact hG.kl, by rw [b3]; exact hG.kn, h.ks, hG.lo, fun x hx => ?_, fun x hx => ?_, fun x y g' hx hy hxy h1 => ?_⟩, hB, fun k o hk ho => ?_⟩
  · rcases hG.nm x hx with e1 | ⟨g', cap', e1, e2⟩
    · exact .inl e1
    · exact .inr ⟨g', cap', e1, e2.same hB.size (oth g' e2.cells.1 (ne_kind e2.kind hG.ks (by decide)))⟩
  · by_cases e : x = c
    · subst e
      refine .inr ⟨g, if_pos rfl, Nat.le_trans hG.tlt h.new, hn.congr fun k => ?_⟩
      rcases hG.sm x hx with ⟨_, e1⟩ | ⟨g', e1, _⟩
      · exact (e1 k).symm
      · rw [h.none] at e1; cases e1
    · rcases hG.sm x hx with e1 | ⟨g', e1, e2, e3⟩
      · exact .inl ⟨(if_neg e).trans e1.1, e1.2⟩
      · exact .inr ⟨g', (if_neg e).trans e1, e2, e3.same hB.size (oth g' e3.cells.1 (ne_kind e3.kind hG.ks (by decide)))⟩
  · by_cases e : x = c
    · rw [if_pos e] at h1
      have : g = g' := by simpa [Value.ownBlock] using h1
      subst this
      rw [if_neg (fun q => hxy (e.trans q.symm))]
      exact hnew y hy
    · rw [if_neg e] at h1
      by_cases e2 : y = c
      · rw [if_pos e2]
        intro h2
        have : g = g' := by simpa [Value.ownBlock] using h2
        subst this
        exact hnew x hx h1
      · rw [if_neg e2]
        exact hG.sj x y g' hx hy hxy h1
  · by_cases e : k = p.sb
    · subst e
      obtain ⟨cs, fz, q⟩ := hG.ks
      rw [hk] at q
      injection q with q
      exact absurd ⟨cs, fz, .inr (.inl q)⟩ ho
    · rw [oth k (lt_of_heap hk) e]; exact hk
end
theorem fl7_start {p : Pm} {nv sv : Nat → Value} {S : Nat → Nat → Int} {c base cap : Nat} {A : Option Addr} {w2 : World} (h : Gr p nv sv S w2) (hm : sv c = nil7) (hc : c < p.s.size) (ho : Wow w2 base (.slice A (p.O c).length cap) (p.O c)) :
    Fl7 p nv sv S c w2.heap.size A cap 0 w2 ((w2.alloc (.cells (Array.replicate ((p.O c).length * 3) (Value.int .i64 0)) 113)).setCell ⟨p.sb, c, none⟩ (.slice (some ⟨w2.heap.size, 0, none⟩) (p.O c).length (p.O c).length)) := by
  have hA := (Below.refl w2.heap.size w2).alloc (Nat.le_refl _) (.cells (Array.replicate ((p.O c).length * 3) (Value.int .i64 0)) 113)
  have hnew := heap_alloc_new w2 (.cells (Array.replicate ((p.O c).length * 3) (Value.int .i64 0)) 113)
  have hlt := h.sc.1
  have hne : w2.heap.size ≠ p.sb := by omega
  have hsb := h.sc.later hA
  have hks : ∃ cs fz, (w2.alloc (.cells (Array.replicate ((p.O c).length * 3) (Value.int .i64 0)) 113)).heap[p.sb]? = some (.cells cs 108 fz) := by rw [hA.block p.sb hlt]; exact h.ks
  have hz := alloc_size w2 (.cells (Array.replicate ((p.O c).length * 3) (Value.int .i64 0)) 113)
  have hT : Turn (fun k => k = p.sb) (fun k => k = p.sb) w2 ((w2.alloc (.cells (Array.replicate ((p.O c).length * 3) (Value.int .i64 0)) 113)).setCell ⟨p.sb, c, none⟩ (.slice (some ⟨w2.heap.size, 0, none⟩) (p.O c).length (p.O c).length)) := ((Turn.refl (fun k => k = p.sb) w2).more _).put _ rfl
  have hb : ((w2.alloc (.cells (Array.replicate ((p.O c).length * 3) (Value.int .i64 0)) 113)).setCell ⟨p.sb, c, none⟩ (.slice (some ⟨w2.heap.size, 0, none⟩) (p.O c).length (p.O c).length)).heap[w2.heap.size]? = some (.cells (Array.replicate ((p.O c).length * 3) (Value.int .i64 0)) 113) := by
    rw [set_other hne]; exact hnew
  refine ⟨h, hm, Nat.le_refl _, hT, hsb.put c _ hc (fun x _ => rfl), kind_set hks, ⟨_, _, hb⟩, ?_, ho.wt, fun a e => ?_⟩
  · have e : Array.replicate ((p.O c).length * 3) (Value.int .i64 0) = (List.replicate ((p.O c).length * 3) (Value.int .i64 0)).toArray := by simp
    rw [e] at hb
    refine (cells_row hb (by simp)).congr fun x hx => ?_
    unfold fv
    rw [if_neg (by omega)]
    simp [List.getD, hx]
  · subst e
    obtain ⟨g, e⟩ : ∃ g, a = ⟨g, 0, none⟩ := by
      rcases ho.2 with ⟨q, _⟩ | ⟨g, cap', cur, q, _⟩
      · cases q
      · injection q with q _ _
        injection q with q
        exact ⟨g, q⟩
    subst e
    exact row_kind ho g rfl
def StaysTold (p : Pm) (nv sv : Nat → Value) (S : Nat → Nat → Int) (c : Nat) (w : World) (e : Ending) (w' : World) : Prop :=
  ∃ sv' g, e = .returned (.slice (some ⟨g, 0, none⟩) (p.O c).length (p.O c).length) ∧ sv' c = .slice (some ⟨g, 0, none⟩) (p.O c).length (p.O c).length ∧ Sts g (p.O c) (S c) w' ∧ Gr p nv sv' S w' ∧ Went p w w' ∧ ∀ x, sv x ≠ nil7 → sv' x = sv x
theorem snil_is (w : World) : (binOp BinOp.eql 108 (.slice none 0 0) (.slice none 0 0)).run Tryz.prog w = .ok (.bool true) w := by kernel_rfl
theorem snil_not (w : World) (g n c : Nat) : (binOp BinOp.eql 108 (.slice (some ⟨g, 0, none⟩) n c) (.slice none 0 0)).run Tryz.prog w = .ok (.bool false) w := by kernel_rfl
theorem Gr.sts {p : Pm} {nv sv : Nat → Value} {S : Nat → Nat → Int} {w : World} (h : Gr p nv sv S w) {c g n m : Nat} (hc : c < p.s.size) (he : sv c = .slice (some ⟨g, 0, none⟩) n m) : Sts g (p.O c) (S c) w := by
  rcases h.sm c hc with ⟨e, _⟩ | ⟨g', e, _, h2⟩
  · rw [he] at e; cases e
  · rw [he] at e
    obtain rfl : g = g' := by simpa [Value.ownBlock] using congrArg Value.ownBlock e
    exact h2
set_option maxHeartbeats 4000000 in
theorem staysIn_any {p : Pm} {nv sv : Nat → Value} {S : Nat → Nat → Int} {w : World} (h : Gr p nv sv S w) {c : Nat} (hc : c < p.s.size) :
    Calls Tryz.prog 84 #[.pointer (some ⟨p.gb, 0, none⟩), .int .i64 (c : Int)] w (StaysTold p nv sv S c w) := by
  have hcI : (c : Int) < (p.s.size : Int) := by omega
  have n256 := h.fit.n256
  have k8 := h.g8
  have kc := (h.sc.2 c hc).1
  have HG := Lib.hid h
  rcases h.sm c hc with ⟨hm, _⟩ | ⟨g, hm, hn⟩
  · have HM := Lib.hid hm
    unfold nil7 at hm
    rw [hm] at kc
    have nl := fun wx => snil_is wx
    have HO := Lib.hid (open_any h hc)
    have hol := h.fit.olen c
    clear hm h
    go_enter Tryz.func84, Tryz.ntmps84
    go_wp2_with fail
    refine HO.out.mono ?_
    rintro e w2 ⟨A, cap, rfl, ho, hb⟩
    have HG2 := Lib.hid (HG.out.later hb)
    have HW2 := Lib.hid (Went.of HG.out.tlt hb)
    have HO2 := Lib.hid ho
    have k8 := HG2.out.g8
    have kc : w2.cell? ⟨p.sb, c, none⟩ = some (.slice none 0 0) := (HG2.out.sc.2 c hc).1.trans (by rw [HM.out]; rfl)
    have kf := (HG2.out.sc.2 c hc).2
    have hmk := run_makeStays (p.O c).length (by omega)
    have HA := Lib.hid ((Below.refl w2.heap.size w2).alloc (Nat.le_refl _) (.cells (Array.replicate ((p.O c).length * 3) (Value.int .i64 0)) 113))
    have k8A := (HA.out.cell (p := ⟨p.gb, 8, none⟩) HG2.out.blt).trans k8
    have kcA := (HA.out.cell (p := ⟨p.sb, c, none⟩) HG2.out.sc.1).trans kc
    have kfA := (HA.out.frozen (p := ⟨p.sb, c, none⟩) HG2.out.sc.1).trans kf
    have HF0 : Hid (Fl7 p nv sv S c w2.heap.size A cap 0 w2 ((w2.alloc (.cells (Array.replicate ((p.O c).length * 3) (Value.int .i64 0)) 113)).setCell ⟨p.sb, c, none⟩ (.slice (some ⟨w2.heap.size, 0, none⟩) (p.O c).length (p.O c).length))) := Lib.hid (fl7_start HG2.out HM.out hc ho)
    clear ho hb
    go_wp2_with fail
    go_region
    have HF1 := Lib.hid (HF0.out.later (Below.refl _ _).drew)
    clear HF0 k8A kcA kfA HA k8 kc kf hmk HO
    obtain ⟨g, hg⟩ : ∃ g, g = w2.heap.size := ⟨_, rfl⟩
    rw [← hg] at HF1 ⊢
    generalize (World.setCell _ _ _).drew = wS at *
    clear hg
    go_wp2_with fail
    go_loopw [30] (fun iv wr => ∃ j : Nat, j ≤ (p.O c).length ∧ iv = .int .i64 (j : Int) ∧ Hid (Fl7 p nv sv S c g A cap j w2 wr)) (fun iv _ => (p.O c).length - (intOf iv).toNat)
    case atStart => exact ⟨0, Nat.zero_le _, rfl, HF1⟩
    case round =>
      rename World => wr
      obtain ⟨j, hj, rfl, HK⟩ := hrel
      by_cases hlt : j < (p.O c).length
      · have hjI : (j : Int) < ((p.O c).length : Int) := by omega
        obtain ⟨gw, off, rfl, q1, q2⟩ := HK.out.win hlt
        have HA := Lib.hid (fun x y => (Below.refl wr.heap.size wr).alloc (Nat.le_refl _) (.cells #[.int .i64 x, .int .i64 y] 52))
        have HKL := Lib.hid (fun x y => HK.out.later (HA.out x y))
        have HPU := Lib.hid (fun x y => (HKL.out x y).put hlt)
        have HRM := Lib.hid (fun x y => (HKL.out x y).room hlt)
        have z1 : ∀ x y, (wr.alloc (.cells #[.int .i64 x, .int .i64 y] 52)).cell? ⟨wr.heap.size, 0, none⟩ = some (.int .i64 x) := fun x y => by simp [World.cell?_alloc_new]
        have z2 : ∀ x y, (wr.alloc (.cells #[.int .i64 x, .int .i64 y] 52)).cell? ⟨wr.heap.size, 1, none⟩ = some (.int .i64 y) := fun x y => by simp [World.cell?_alloc_new]
        generalize (p.O c).getD j (0, 0) = q at *
        obtain ⟨x, y⟩ := q
        have HPU := Lib.hid (HPU.out x y)
        have hrm := HRM.out x y
        have k8 := (HKL.out x y).box
        have kc := (HKL.out x y).slot hc
        have z1 := z1 x y
        have z2 := z2 x y
        obtain ⟨⟨u0, r0⟩, e0⟩ := hrm 0 (by decide)
        obtain ⟨⟨u1, r1⟩, e1⟩ := hrm 1 (by decide)
        obtain ⟨⟨u2, r2⟩, e2⟩ := hrm 2 (by decide)
        rw [Nat.add_zero] at r0 e0
        clear HRM HKL hrm HA
        go_wp2_with fail
        generalize wr.alloc (.cells #[.int .i64 x, .int .i64 y] 52) = wq at *
        go_region
        have HP2 := Lib.hid (HPU.out.later (Below.refl _ _).drew)
        clear HPU k8 kc z1 z2 r0 r1 r2 e0 e1 e2 q1 q2
        generalize (World.setCell _ _ _).drew = wz at *
        go_wp2_with fail
        go_roundw
        case rel => exact ⟨j + 1, by omega, by go_num, HP2⟩
        case measure => simp [intOf]; omega
      · have hje : j = (p.O c).length := by omega
        have HD := Lib.hid (HK.out.done hc (by omega))
        have k8 := HD.out.1.g8
        have kc : wr.cell? ⟨p.sb, c, none⟩ = some (.slice (some ⟨g, 0, none⟩) (p.O c).length (p.O c).length) := (HD.out.1.sc.2 c hc).1.trans (congrArg some (if_pos rfl))
        subst hje
        go_wp2_with fail
        go_ret
        exact ⟨_, g, rfl, if_pos rfl, HD.out.1.sts hc (if_pos rfl), HD.out.1, HW2.out.trans HD.out.2, fun x hx => if_neg (fun e => hx (by rw [e]; exact HM.out))⟩
  · rw [hm] at kc
    have HM := Lib.hid hm
    have nl := fun wx => snil_not wx g (p.O c).length (p.O c).length
    have HN := Lib.hid hn
    clear hm h hn
    go_enter Tryz.func84, Tryz.ntmps84
    go_wp2_with fail
    go_ret
    exact ⟨sv, g, rfl, HM.out, HN.out.2, HG.out, Went.same _ _, fun _ _ => rfl⟩
/-- The stay in a cell that has a moment in it. -/
def StayTold (p : Pm) (nv sv : Nat → Value) (S : Nat → Nat → Int) (c : Nat) (m : Int) (w : World) (e : Ending) (w' : World) : Prop :=
  ∃ sv', Gr p nv sv' S w' ∧ Went p w w' ∧ (∀ x, sv x ≠ nil7 → sv' x = sv x) ∧ ((∃ k g, At (p.O c) k m ∧ sv' c = .slice (some ⟨g, 0, none⟩) (p.O c).length (p.O c).length ∧ e = .returned (.pointer (some ⟨g, k * 3, none⟩))) ∨ (¬ In (p.O c) m ∧ e = .returned (.pointer none)))
set_option maxHeartbeats 4000000 in
theorem stayAt_any {p : Pm} {nv sv : Nat → Value} {S : Nat → Nat → Int} {w : World} (h : Gr p nv sv S w) {c : Nat} (hc : c < p.s.size) (m : Int) :
    Calls Tryz.prog 80 #[.pointer (some ⟨p.gb, 0, none⟩), .int .i64 (c : Int), .int .i64 m] w (StayTold p nv sv S c m w) := by
  have HS := Lib.hid (staysIn_any h hc)
  have HSEP := Lib.hid (h.fit.sepO c)
  have hol := h.fit.olen c
  clear h
  unfold StaysTold at HS
  unfold StayTold
  have hple := Wn.plc_le (p.O c) m
  have HAT := Lib.hid (fun k => at_plc (m := m) HSEP.out (k := k))
  generalize p.O c = L at *
  go_enter Tryz.func80, Tryz.ntmps80
  go_wp2_with fail
  refine HS.out.mono ?_
  rintro e w2 ⟨sv', g, rfl, hv, hst, hg, hwt, hkp⟩
  have HKP := Lib.hid hkp
  have HG := Lib.hid hg
  have HV := Lib.hid hv
  have HW := Lib.hid hwt
  have HST := Lib.hid hst
  have HPL := Lib.hid (spplace_any g L.length L (S c) m w2 hst rfl (by omega) HSEP.out.rising)
  clear hv hst hg hwt hkp
  have HSA := Lib.hid (fun k (hk : k < L.length) => HST.out.at hk)
  generalize plc L m = k at *
  go_wp2_with fail
  refine HPL.out.mono ?_
  rintro e w3 ⟨rfl, hb3⟩
  have HB3 := Lib.hid hb3
  have HG3 := Lib.hid (HG.out.later hb3)
  have HW3 := Lib.hid (HW.out.trans (Went.of HG.out.tlt hb3))
  clear hb3
  by_cases hkl : k = L.length
  · have HNO : Hid (¬ In L m) := Lib.hid (fun ⟨j, hj⟩ => by
      have := (HAT.out j).1 hj
      have e := this.1
      omega)
    subst hkl
    go_wp2_with fail
    go_ret
    exact ⟨sv', HG3.out, HW3.out, HKP.out, .inr ⟨HNO.out, rfl⟩⟩
  · have hkn : k < L.length := by omega
    have dk : ((k : Int) == (L.length : Int)) = false := by rw [beq_eq_false_iff_ne]; omega
    have hkI : (k : Int) < (L.length : Int) := by omega
    have q := (HSA.out k hkn).1
    have q : w3.cell? ⟨g, k * 3, none⟩ = some (.int .i64 (L.getD k (0, 0)).1) := (HB3.out.cell (p := ⟨g, k * 3, none⟩) HST.out.cells.1).trans q
    by_cases hm : (L.getD k (0, 0)).1 ≤ m
    · have HA : Hid (At L k m) := Lib.hid ((HAT.out k).2 ⟨rfl, hkn, hm⟩)
      have dm : decide (m < (L.getD k (0, 0)).1) = false := decide_eq_false (by omega)
      generalize (L.getD k (0, 0)).1 = x at *
      clear hm
      go_wp2_with fail
      go_ret
      exact ⟨sv', HG3.out, HW3.out, HKP.out, .inl ⟨k, g, HA.out, HV.out, rfl⟩⟩
    · have HNO : Hid (¬ In L m) := Lib.hid (fun ⟨j, hj⟩ => by
        have := (HAT.out j).1 hj
        obtain ⟨e1, _, e2⟩ := this
        subst e1
        exact hm e2)
      have dm : decide (m < (L.getD k (0, 0)).1) = true := decide_eq_true (by omega)
      generalize (L.getD k (0, 0)).1 = x at *
      clear hm
      go_wp2_with fail
      go_ret
      exact ⟨sv', HG3.out, HW3.out, HKP.out, .inr ⟨HNO.out, rfl⟩⟩
end Sp
end Go.Proofs.YtcdclghmebgpnaaGreatDoor
end

section
namespace Go.Proofs.YtcdclghmebgpnaaGreatDoor
namespace Sp
open Go.RowKit Fl Pt E
open Wn (Tab TF frees isT Ordw IW Wt Wow Bk wcl plc Rising)

/-- What waits in the heap. -/
def P7 (M : List E) : Int → Nat → Prop := fun x c => ∃ e ∈ M, e.k = x ∧ e.v = (c : Int)
theorem mem_ins {x y : E} : ∀ {M : List E}, y ∈ ins x M ↔ y = x ∨ y ∈ M
  | [] => by simp [ins]
  | a :: l => by
    unfold ins
    split
    · rw [List.mem_cons, mem_ins (M := l), List.mem_cons]
      constructor
      · rintro (h | h | h)
        · exact .inr (.inl h)
        · exact .inl h
        · exact .inr (.inr h)
      · rintro (h | h | h)
        · exact .inr (.inl h)
        · exact .inl h
        · exact .inr (.inr h)
    · rw [List.mem_cons]
theorem HAt.sorted {w : World} {b : Nat} {v : Value} {M : List E} {n : Nat} (h : HAt w b v M n) : Sorted M := by
  obtain ⟨es, ha, _⟩ := h.row
  exact ha.sorted
theorem HAt.least {w : World} {b : Nat} {v : Value} {m : E} {M : List E} {n : Nat} (h : HAt w b v (m :: M) n) : ∀ y d, P7 (m :: M) y d → m.k ≤ y := by
  rintro y d ⟨e, he, rfl, _⟩
  rcases List.mem_cons.1 he with rfl | he
  · exact Int.le_refl _
  · have := (List.pairwise_cons.1 (HAt.sorted h)).1 e he
    rw [E.lt_true] at this
    omega
/-- More was found. -/
def Grow (S S' : Nat → Nat → Int) : Prop := ∀ c k, S' c k = S c k ∨ (S c k = 1048576 ∧ S' c k ≤ 1048576)
theorem Grow.refl (S : Nat → Nat → Int) : Grow S S := fun _ _ => .inl rfl
theorem Grow.trans {S S' S'' : Nat → Nat → Int} (h : Grow S S') (k : Grow S' S'') : Grow S S'' := fun c j => by
  rcases h c j with a | ⟨a1, a2⟩ <;> rcases k c j with b | ⟨b1, b2⟩
  · exact .inl (b.trans a)
  · exact .inr ⟨a ▸ b1, b2⟩
  · exact .inr ⟨a1, by omega⟩
  · exact .inr ⟨a1, b2⟩
theorem Grow.put {S : Nat → Nat → Int} {d j : Nat} {v : Int} (hf : S d j = 1048576) (hv : v ≤ 1048576) : Grow S (put S d j v) := fun c k => by
  by_cases e : c = d ∧ k = j
  · obtain ⟨rfl, rfl⟩ := e
    rw [put_same]
    exact .inr ⟨hf, hv⟩
  · exact .inl (put_ne _ _ e)
theorem Grow.gone {e : Env} {last : Int} {S S' : Nat → Nat → Int} {x : Int} {c k d j : Nat} (h : Grow S S') (g : Gone e last S x c k d j) : Gone e last S' x c k d j := fun h1 h2 => by
  have := g h1 h2
  rcases h d j with a | ⟨a1, a2⟩ <;> omega
theorem Grow.same {S S' : Nat → Nat → Int} (h : Grow S S') {c k : Nat} (hn : S c k ≠ 1048576) : S' c k = S c k := by
  rcases h c k with a | ⟨a1, a2⟩
  · exact a
  · exact absurd a1 hn
/-- All objects that neither a ground's calls nor a heap's write are as they were. -/
structure Both7 (p : Pm) (w w' : World) : Prop where
  below : Below p.B w w'
  kept : ∀ (k : Nat) (o : Obj), w.heap[k]? = some o → ¬ IsW o → ¬ IsHp o → w'.heap[k]? = some o
theorem Both7.refl (p : Pm) (w : World) : Both7 p w w := ⟨Below.refl _ _, fun _ _ h _ _ => h⟩
theorem Both7.trans {p : Pm} {a b c : World} (h : Both7 p a b) (k : Both7 p b c) : Both7 p a c := ⟨h.below.trans k.below, fun i o h1 h2 h3 => k.kept i o (h.kept i o h1 h2 h3) h2 h3⟩
theorem Went.both {p : Pm} {w w' : World} (h : Went p w w') : Both7 p w w' := ⟨h.below, fun i o h1 h2 _ => h.kept i o h1 h2⟩
/-- Where a cell's stays lie. -/
def Pin (p : Pm) (sv : Nat → Value) (q : Nat × Nat) : Prop := sv q.1 = .slice (some ⟨q.2, 0, none⟩) (p.O q.1).length (p.O q.1).length
/-- The search, when so much was found. -/
structure Sr (p : Pm) (last : Int) (hb : Nat) (pn : List (Nat × Nat)) (S : Nat → Nat → Int) (M : List E) (n : Nat) (cur : Int) (Hd : Nat → Nat → Prop) (wr : World) : Prop where
  gr : ∃ nv sv, Gr p nv sv S wr ∧ ∀ q ∈ pn, Pin p sv q
  hp : ∃ v, HAt wr hb v M n
  lo : p.B ≤ hb
  sv : Sv p.env last S (P7 M) cur Hd
  cnt : n + Un p.env S ≤ 600000
  nat : ∀ e ∈ M, ∃ c : Nat, e.v = (c : Int)
section
variable {p : Pm} {last cur : Int} {hb n : Nat} {pn : List (Nat × Nat)} {S : Nat → Nat → Int} {M : List E} {Hd : Nat → Nat → Prop} {wr : World}
theorem Sr.later (h : Sr p last hb pn S M n cur Hd wr) {w' : World} (hw : Below wr.heap.size wr w') : Sr p last hb pn S M n cur Hd w' := by
  obtain ⟨nv, sv, h1, h2⟩ := h.gr
  obtain ⟨v, h3⟩ := h.hp
  exact ⟨⟨nv, sv, h1.later hw, h2⟩, ⟨v, h3.below hw⟩, h.lo, h.sv, h.cnt, h.nat⟩
theorem Sr.size (h : Sr p last hb pn S M n cur Hd wr) : p.B ≤ wr.heap.size := by
  obtain ⟨nv, sv, h1, h2⟩ := h.gr
  exact h1.tlt
theorem Sr.fit (h : Sr p last hb pn S M n cur Hd wr) : p.Fit := by
  obtain ⟨nv, sv, h1, h2⟩ := h.gr
  exact h1.fit
theorem Both7.of {p : Pm} {w w' : World} (hB : p.B ≤ w.heap.size) (h : Below w.heap.size w w') : Both7 p w w' := (Went.of hB h).both
/-- Behind a call for the ground. -/
theorem Sr.went (h : Sr p last hb pn S M n cur Hd wr) {w' : World} {nv sv : Nat → Value} {pn' : List (Nat × Nat)} (hg : Gr p nv sv S w') (hw : Went p wr w') (hpn : ∀ q ∈ pn', Pin p sv q) : Sr p last hb pn' S M n cur Hd w' := by
  obtain ⟨v, h3⟩ := h.hp
  exact ⟨⟨nv, sv, hg, hpn⟩, ⟨v, HAt.went h3 hw.kept⟩, h.lo, h.sv, h.cnt, h.nat⟩
theorem nil7_slice {a : Addr} {n c : Nat} : (Value.slice (some a) n c) ≠ nil7 := by unfold nil7; simp
theorem Pin.kept {sv sv' : Nat → Value} {q : Nat × Nat} (h : Pin p sv q) (hk : ∀ x, sv x ≠ nil7 → sv' x = sv x) : Pin p sv' q := by
  unfold Pin at h ⊢
  rw [hk q.1 (by rw [h]; exact nil7_slice), h]
/-- The cells of a stay that is pinned. -/
theorem Sr.cells (h : Sr p last hb pn S M n cur Hd wr) {c g k : Nat} (hq : (c, g) ∈ pn) (hc : c < p.s.size) (hk : k < (p.O c).length) :
    wr.cell? ⟨g, k * 3, none⟩ = some (.int .i64 (p.env.win c k).1) ∧ wr.cell? ⟨g, k * 3 + 1, none⟩ = some (.int .i64 (p.env.win c k).2) ∧ wr.cell? ⟨g, k * 3 + 2, none⟩ = some (.int .i64 (S c k)) ∧ wr.frozen? ⟨g, k * 3 + 2, none⟩ = false := by
  obtain ⟨nv, sv, h1, h2⟩ := h.gr
  exact (h1.sts hc (h2 _ hq)).at hk
theorem Both7.set {c g k : Nat} (h : Sr p last hb pn S M n cur Hd wr) (hq : (c, g) ∈ pn) (hc : c < p.s.size) (v : Int) : Both7 p wr (wr.setCell ⟨g, k * 3 + 2, none⟩ (.int .i64 v)) := by
  obtain ⟨nv, sv, h1, h2⟩ := h.gr
  have hs := h1.sts hc (h2 _ hq)
  obtain ⟨cs, fz, hk⟩ := hs.kind
  have hB : p.B ≤ g := by
    rcases h1.sm c hc with ⟨e, _⟩ | ⟨g', e, e2, _⟩
    · have := h2 _ hq
      unfold Pin at this
      rw [e] at this
      exact absurd this.symm nil7_slice
    · have := h2 _ hq
      unfold Pin at this
      rw [e] at this
      obtain rfl : g' = g := by simpa [Value.ownBlock] using congrArg Value.ownBlock this
      exact e2
  exact (⟨below_set wr hB, KeptG.set ⟨cs, fz, .inr (.inr hk)⟩⟩ : Went p wr _).both
theorem turn_both {w w' : World} {v v' : Value} (hh : HAt w hb v M n) (hlo : p.B ≤ hb) (hs : p.B ≤ w.heap.size) (ht : Turn (HF hb v) (HF hb v') w w') : Both7 p w w' ∧ KeptT w w' := by
  have hB : Below p.B w w' := ht.below _ hs (fun k hk => Nat.le_trans hlo (hh.owned k hk).1)
  have hk := KeptT.ofTurn ht (HAt.isHp hh)
  exact ⟨⟨hB, fun i o h1 _ h3 => hk i o h1 h3⟩, hk⟩
/-- A stay is found: its first moment is told, and it is pushed. -/
theorem Sr.found (h : Sr p last hb pn S M n cur Hd wr) {c k d j g : Nat} (hHd : Hd = fun b i => b = c ∧ i = k) (hq : (d, g) ∈ pn) (hc : c < p.s.size) (hk : k < (p.O c).length) (hS : S c k = cur) (hn : S c k ≠ 1048576) (hl : p.lv c = true) (hd : d ∈ p.near c) (hj : j < (p.O d).length) (hf : S d j = 1048576) (h1 : cur + 1 < (p.env.win d j).2) (h2 : max (cur + 1) (p.env.win d j).1 ≤ min last (p.env.win c k).2)
    {w' : World} {v v' : Value} (hv : HAt (wr.setCell ⟨g, j * 3 + 2, none⟩ (.int .i64 (max (cur + 1) (p.env.win d j).1))) hb v M n) (hh : HAt w' hb v' (ins ⟨max (cur + 1) (p.env.win d j).1, (d : Int), (n : Int)⟩ M) (n + 1)) (ht : Turn (HF hb v) (HF hb v') (wr.setCell ⟨g, j * 3 + 2, none⟩ (.int .i64 (max (cur + 1) (p.env.win d j).1))) w') :
    Sr p last hb pn (put S d j (max (cur + 1) (p.env.win d j).1)) (ins ⟨max (cur + 1) (p.env.win d j).1, (d : Int), (n : Int)⟩ M) (n + 1) cur Hd w' ∧ Grow S (put S d j (max (cur + 1) (p.env.win d j).1)) ∧ Both7 p wr w' := by
  have hF := h.fit
  have hdN : d < p.s.size := hF.nrlt hc hd
  have hB7 := Both7.set (k := j) h hq hdN (max (cur + 1) (p.env.win d j).1)
  have hu := hF.ok.upto d j hj
  have hpos := (hF.ok.seps d).pos j hj
  have w1 : (p.env.win d j) = (p.O d).getD j (0, 0) := rfl
  have hpos : (p.env.win d j).1 < (p.env.win d j).2 := hpos
  have hne : max (cur + 1) (p.env.win d j).1 ≠ 1048576 := by omega
  obtain ⟨nv, sv, g1, g2⟩ := h.gr
  have g3 := g1.since hdN hj (g2 _ hq) (max (cur + 1) (p.env.win d j).1)
  have hsz : p.B ≤ (wr.setCell ⟨g, j * 3 + 2, none⟩ (.int .i64 (max (cur + 1) (p.env.win d j).1))).heap.size := by rw [set_size]; exact h.size
  obtain ⟨t1, t2⟩ := turn_both hv h.lo hsz ht
  have hun := un_put (e := p.env) (S := S) (d := d) (j := j) hdN hj hf hne
  subst hHd
  refine ⟨⟨⟨nv, sv, g3.heap t1.below t2, g2⟩, ⟨v', hh⟩, h.lo, ?_, ?_, ?_⟩, Grow.put hf (by omega), hB7.trans t1⟩
  · refine h.sv.find hF.ok hc hk hS hn hl hd hj hf h1 h2 ?_ ?_ ?_
    · rintro y b ⟨e, he, e1, e2⟩
      exact ⟨e, mem_ins.2 (.inr he), e1, e2⟩
    · rintro y b ⟨e, he, e1, e2⟩
      rcases mem_ins.1 he with rfl | he
      · exact .inr ⟨e1.symm, by have : (d : Int) = (b : Int) := e2; omega⟩
      · exact .inl ⟨e, he, e1, e2⟩
    · exact ⟨_, mem_ins.2 (.inl rfl), rfl, rfl⟩
  · have := h.cnt
    omega
  · intro e he
    rcases mem_ins.1 he with rfl | he
    · exact ⟨d, rfl⟩
    · exact h.nat e he
theorem ins_len (x : E) : ∀ M : List E, (ins x M).length = M.length + 1
  | [] => rfl
  | a :: l => by
    unfold ins
    split
    · rw [List.length_cons, ins_len x l, List.length_cons]
    · rfl
theorem Sr.hpset (h : Sr p last hb pn S M n cur Hd wr) {c g k : Nat} (hq : (c, g) ∈ pn) (hc : c < p.s.size) (v : Int) : ∃ u, HAt (wr.setCell ⟨g, k * 3 + 2, none⟩ (.int .i64 v)) hb u M n := by
  obtain ⟨nv, sv, h1, h2⟩ := h.gr
  obtain ⟨cs, fz, hk⟩ := (h1.sts hc (h2 _ hq)).kind
  obtain ⟨u, hu⟩ := h.hp
  exact ⟨u, HAt.went hu (KeptG.set ⟨cs, fz, .inr (.inr hk)⟩)⟩
theorem Sr.few (h : Sr p last hb pn S M n cur Hd wr) : n ≤ 600000 := by have := h.cnt; omega
end
def EnterTold (p : Pm) (last : Int) (hb : Nat) (pn : List (Nat × Nat)) (S : Nat → Nat → Int) (M : List E) (n : Nat) (c k d : Nat) (x : Int) (w : World) (e : Ending) (w' : World) : Prop :=
  e = .returned (.tuple #[]) ∧ ∃ S' M' n', Sr p last hb pn S' M' n' x (fun b i => b = c ∧ i = k) w' ∧ Grow S S' ∧ (∀ j, j < (p.O d).length → Gone p.env last S' x c k d j) ∧ Both7 p w w' ∧ M'.length + n = M.length + n'
/-- The round over the stays of a cell. -/
structure En (p : Pm) (last : Int) (hb : Nat) (pn : List (Nat × Nat)) (S0 : Nat → Nat → Int) (M0 : List E) (n0 : Nat) (c k d gd : Nat) (x : Int) (j : Nat) (w0 wr : World) : Prop where
  ex : ∃ S M n, Sr p last hb ((d, gd) :: pn) S M n x (fun b i => b = c ∧ i = k) wr ∧ Grow S0 S ∧ (∀ i, i < j → i < (p.O d).length → Gone p.env last S x c k d i) ∧ M.length + n0 = M0.length + n
  both : Both7 p w0 wr
set_option maxHeartbeats 4000000 in
theorem enter_any {p : Pm} {last x : Int} {hb n : Nat} {pn : List (Nat × Nat)} {S : Nat → Nat → Int} {M : List E} {w : World} {c k d g : Nat} (h : Sr p last hb pn S M n x (fun b i => b = c ∧ i = k) w)
    (hq : (c, g) ∈ pn) (hc : c < p.s.size) (hk : k < (p.O c).length) (hS : S c k = x) (hl : p.lv c = true) (hd : d ∈ p.near c) (hx : 0 ≤ x ∧ x < 1048576) (hla : 0 ≤ last ∧ last ≤ 2000000) :
    Calls Tryz.prog 82 #[.pointer (some ⟨p.gb, 0, none⟩), .pointer (some ⟨hb, 0, none⟩), .pointer (some ⟨g, k * 3, none⟩), .int .i64 (d : Int), .int .i64 last] w (EnterTold p last hb pn S M n c k d x w) := by
  have hF := h.fit
  have hdN : d < p.s.size := hF.nrlt hc hd
  have hol := hF.olen d
  have hu := hF.ok.upto c k hk
  have hpos0 : 0 ≤ (p.env.win c k).2 := by
    have := (hF.sepO c).least k hk
    show 0 ≤ ((p.O c).getD k (0, 0)).2
    omega
  obtain ⟨_, k1, k2, _⟩ := h.cells hq hc hk
  rw [hS] at k2
  have HSI := Lib.hid (fun nv sv (hg : Gr p nv sv S w) => staysIn_any hg hdN)
  have HH := Lib.hid h
  have HFT := Lib.hid hF
  have HPR := Lib.hid (And.intro hq (And.intro hc (And.intro hk (And.intro hS (And.intro hl hd)))))
  obtain ⟨To, hTo⟩ : ∃ To, To = (p.env.win c k).2 := ⟨_, rfl⟩
  rw [← hTo] at k1 hu hpos0
  have HTO := Lib.hid hTo
  clear h hF hq hk hS hl hd hc hTo
  obtain ⟨nv, sv, hgr, hpn⟩ := HH.out.gr
  have HPN := Lib.hid hpn
  have HSJ := Lib.hid (HSI.out nv sv hgr)
  clear hgr hpn HSI
  have HL := Lib.hid (HFT.out.sepO d)
  have HDW : Hid (∀ j, p.env.win d j = (p.O d).getD j (0, 0)) := Lib.hid (fun j => rfl)
  obtain ⟨l, hl⟩ : ∃ l, l = (p.O d).length := ⟨_, rfl⟩
  go_enter Tryz.func82, Tryz.ntmps82
  go_wp2_with fail
  refine HSJ.out.mono ?_
  rintro e w2 ⟨sv', gd, rfl, hv, hst, hg, hwt, hkp⟩
  have HS2 : Hid (Sr p last hb ((d, gd) :: pn) S M n x (fun b i => b = c ∧ i = k) w2) := Lib.hid (HH.out.went hg hwt (fun q hq => by
    rcases List.mem_cons.1 hq with rfl | hq
    · exact hv
    · exact (HPN.out q hq).kept hkp))
  have HB2 := Lib.hid hwt.both
  have HPL := Lib.hid (spplace_any gd (p.O d).length (p.O d) (S d) (x + 1) w2 hst rfl (by omega) HL.out.rising)
  clear hv hst hg hwt hkp k1 k2
  obtain ⟨fi, hfi⟩ : ∃ fi, fi = x + 1 := ⟨_, rfl⟩
  obtain ⟨la, hla2⟩ : ∃ la, la = min last To := ⟨_, rfl⟩
  have hfi2 : 0 ≤ fi ∧ fi ≤ 1048576 := by omega
  have hla3 : la ≤ 2000000 ∧ -1 ≤ la := by omega
  rw [← hfi] at HPL ⊢
  rw [← hla2]
  have HFI := Lib.hid hfi
  have HLA := Lib.hid hla2
  have HE0 : Hid (En p last hb pn S M n c k d gd x (plc (p.O d) fi) w w2) := Lib.hid ⟨⟨S, M, n, HS2.out, Grow.refl _, (fun i hi hil h1 _ => by
    have := Wn.plc_below (L := p.O d) (m := fi) i hi
    rw [HDW.out] at h1
    omega), rfl⟩, HB2.out⟩
  have hple := Wn.plc_le (p.O d) fi
  have HPG : Hid (∀ j, plc (p.O d) fi ≤ j → j < (p.O d).length → fi < (p.env.win d j).2) := Lib.hid (fun j h1 h2 => by
    have e1 := Wn.plc_lt (L := p.O d) (m := fi) (by omega)
    have e2 := HL.out.rising _ _ h1 h2
    rw [HDW.out]
    omega)
  have HLN := Lib.hid hl
  rw [← hl] at HPL hple hol HPG ⊢
  clear hl
  generalize plc (p.O d) fi = j0 at *
  clear hfi hla2
  go_wp2_with fail
  refine HPL.out.mono ?_
  rintro e w3 ⟨rfl, hb3⟩
  have HE3 : Hid (En p last hb pn S M n c k d gd x j0 w w3) := Lib.hid (by
    obtain ⟨⟨S, M, n, h1, h2, h3, h5⟩, h4⟩ := HE0.out
    exact ⟨⟨S, M, n, h1.later hb3, h2, h3, h5⟩, h4.trans (Both7.of h1.size hb3)⟩)
  clear hb3
  go_wp2_with fail
  go_loopw [12] (fun iv wr => ∃ j : Nat, j0 ≤ j ∧ j ≤ l ∧ iv = .int .i64 (j : Int) ∧ Hid (En p last hb pn S M n c k d gd x j w wr)) (fun iv _ => l - (intOf iv).toNat)
  case atStart => exact ⟨j0, Nat.le_refl _, hple, rfl, HE3⟩
  case round =>
    rename World => wr
    obtain ⟨j, hj0, hj, rfl, HK⟩ := hrel
    obtain ⟨⟨S1, M1, n1, h1, h2, h3, h5⟩, h4⟩ := HK.out
    have H5 := Lib.hid h5
    have H1 := Lib.hid h1
    have H2 := Lib.hid h2
    have H3 := Lib.hid h3
    have H4 := Lib.hid h4
    clear h1 h2 h3 h4 h5 HK
    by_cases hlt : j < l
    · have hjI : (j : Int) < (l : Int) := by omega
      have hdj : decide ((j : Int) < (l : Int)) = true := decide_eq_true hjI
      obtain ⟨q0, q1, q2, q3⟩ := H1.out.cells (List.mem_cons_self ..) hdN (show j < (p.O d).length by rw [← HLN.out]; exact hlt)
      have HJ2 := Lib.hid (HPG.out j hj0 hlt)
      have HFM : Hid (0 ≤ (p.env.win d j).1 ∧ (p.env.win d j).1 ≤ 1048576) := Lib.hid (by
        have := HL.out.least j (by rw [← HLN.out]; exact hlt)
        rw [HDW.out]
        omega)
      obtain ⟨fm, hfm⟩ : ∃ fm, fm = (p.env.win d j).1 := ⟨_, rfl⟩
      have HF2 := Lib.hid hfm
      rw [← hfm] at q0 HFM
      have hfm2 := HFM.out
      clear hfm
      by_cases hle : max fi fm ≤ la
      · have hdl : decide (max fi fm ≤ la) = true := decide_eq_true hle
        by_cases hf : S1 d j = 1048576
        · rw [hf] at q2
          obtain ⟨v, hv⟩ := H1.out.hpset (k := j) (List.mem_cons_self ..) hdN (max fi fm)
          have HV := Lib.hid hv
          have HFN : Hid (∀ w' v', HAt w' hb v' (ins ⟨max fi fm, (d : Int), (n1 : Int)⟩ M1) (n1 + 1) → Turn (HF hb v) (HF hb v') (wr.setCell ⟨gd, j * 3 + 2, none⟩ (.int .i64 (max fi fm))) w' → En p last hb pn S M n c k d gd x (j + 1) w w') := Lib.hid (fun w' v' hh ht => by
            obtain ⟨p1, p2, p3, p4, p5, p6⟩ := HPR.out
            have e1 := HFI.out
            have e2 := HF2.out
            have e3 := HLA.out
            have e4 := HTO.out
            have hS1 : S1 c k = x := by rw [H2.out.same (by rw [p4]; omega)]; exact p4
            have hj2 := HJ2.out
            subst e1 e2
            obtain ⟨r1, r2, r3⟩ := H1.out.found (c := c) (k := k) (d := d) (j := j) (g := gd) rfl (List.mem_cons_self ..) p2 p3 hS1 (by omega) p5 p6 (by rw [← HLN.out]; exact hlt) hf hj2 (by rw [← e4, ← e3]; exact hle) HV.out hh ht
            refine ⟨⟨_, _, _, r1, H2.out.trans r2, (fun i hi hil => ?_), by rw [ins_len]; have := H5.out; omega⟩, H4.out.trans r3⟩
            by_cases e : i = j
            · subst e
              intro _ _
              rw [put_same]
              exact Int.le_refl _
            · exact r2.gone (H3.out i (by omega) hil))
          have hn1 := H1.out.few
          clear hf hv
          go_wp2_with fail
          refine (push_any hb v M1 n1 (max fi fm) (d : Int) _ HV.out (by omega)).mono ?_
          rintro e w5 ⟨rfl, v5, hh5, ht5⟩
          have HE5 := Lib.hid (HFN.out w5 v5 hh5 ht5)
          clear hh5 ht5
          go_wp2_with fail
          go_roundw
          case rel => exact ⟨j + 1, by omega, by omega, by go_num, HE5⟩
          case measure => simp [intOf]; omega
        · have dne : (S1 d j == 1048576) = false := by rw [beq_eq_false_iff_ne]; exact hf
          have HE5 : Hid (En p last hb pn S M n c k d gd x (j + 1) w wr) := Lib.hid ⟨⟨S1, M1, n1, H1.out, H2.out, (fun i hi hil => by
            by_cases e : i = j
            · subst e
              exact H1.out.sv.old hdN hil hf
            · exact H3.out i (by omega) hil), H5.out⟩, H4.out⟩
          go_wp2_with fail
          go_roundw
          case rel => exact ⟨j + 1, by omega, by omega, by go_num, HE5⟩
          case measure => simp [intOf]; omega
      · have hdl : decide (max fi fm ≤ la) = false := decide_eq_false hle
        have HEND : Hid (∀ i, i < (p.O d).length → Gone p.env last S1 x c k d i) := Lib.hid (fun i hil => by
          by_cases hij : i < j
          · exact H3.out i hij hil
          · intro g1 g2
            exfalso
            have e1 := HFI.out
            have e2 := HF2.out
            have e3 := HLA.out
            have e4 := HTO.out
            rw [← e4, ← e3] at g2
            have : fm ≤ (p.env.win d i).1 := by
              rw [e2]
              by_cases e : j = i
              · rw [e]; exact Int.le_refl _
              · have h1 := HL.out.apart j i (by omega) hil
                have h2 := HL.out.least j (by omega)
                rw [HDW.out, HDW.out]
                omega
            omega)
        go_wp2_with fail
        go_end0
        obtain ⟨nv1, sv1, gg1, gg2⟩ := H1.out.gr
        exact ⟨rfl, S1, M1, n1, ⟨⟨nv1, sv1, gg1, fun q hq => gg2 q (List.mem_cons_of_mem _ hq)⟩, H1.out.hp, H1.out.lo, H1.out.sv, H1.out.cnt, H1.out.nat⟩, H2.out, HEND.out, H4.out, H5.out⟩
    · have hje : j = l := by omega
      have hdj : decide ((j : Int) < (l : Int)) = false := decide_eq_false (by omega)
      have HEND : Hid (∀ i, i < (p.O d).length → Gone p.env last S1 x c k d i) := Lib.hid (fun i hil => H3.out i (by have := HLN.out; omega) hil)
      go_wp2_with fail
      go_end0
      obtain ⟨nv1, sv1, gg1, gg2⟩ := H1.out.gr
      exact ⟨rfl, S1, M1, n1, ⟨⟨nv1, sv1, gg1, fun q hq => gg2 q (List.mem_cons_of_mem _ hq)⟩, H1.out.hp, H1.out.lo, H1.out.sv, H1.out.cnt, H1.out.nat⟩, H2.out, HEND.out, H4.out, H5.out⟩
end Sp
end Go.Proofs.YtcdclghmebgpnaaGreatDoor
end
