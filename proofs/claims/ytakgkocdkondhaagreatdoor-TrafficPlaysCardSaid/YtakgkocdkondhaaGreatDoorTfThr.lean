/-
  Layer 11: enter, Grant.
  Layer 11: Grant.
  Layer 11: leave.
  Layer 11: Done.
  Layer 11: New.
-/
import Derived.Test.YtakgkocdkondhaaGreatDoorTfTwo
set_option linter.unusedVariables false
set_option maxRecDepth 100000
section
namespace Go.Proofs.YtakgkocdkondhaaGreatDoor
namespace Tf
open Go.RowKit Fl Tr Pt
open Bk (Gt Lt Iw ivs Cm hold need Rg SafC MayP Goes own_lower own_later may_any)
open Lk (Ow Rb Zo at9 zns Tb T0 LkAt Only owner9_any hold9_any hold9)

def giveT (T : List Ow) (r : Int) (Z : List Int) : List Ow := match Z with | [] => T | z :: _ => if at9 T z = (r, true) then T else T.set z.toNat (r, true)
/-- A robot may hold zones. -/
def May11 (s : ByteArray) (R : List Mv) (T : List Ow) (r : Int) (Z : List Int) : Prop := ∀ z ∈ Z, at9 T z = (r, true) ∨ MayP (clm s R T) r z
section
variable {w : World} {S g M cap top : Nat} {W H : Int} {s : ByteArray} {R : List Mv} {T : List Ow}
def EntTold (S g M cap top : Nat) (W H : Int) (s : ByteArray) (R : List Mv) (T : List Ow) (r : Int) (Z : List Int) (w : World) (e : Ending) (w' : World) : Prop :=
  ∃ b : Bool, e = .returned (.bool b) ∧ (b = true ↔ May11 s R T r Z) ∧ St w' S g M cap top W H s R (if b then giveT T r Z else T) ∧ Only g w w'
theorem Inv.free (h : Inv W H s R T) {r z : Int} (hm : MayP (clm s R T) r z) : (at9 T z).2 = false := by
  cases e : (at9 T z).2 with
  | false => rfl
  | true =>
    have e2 : at9 T z = ((at9 T z).1, true) := Prod.ext rfl e
    obtain ⟨l1, l2⟩ := h.low z _ e2
    obtain ⟨k, hk⟩ := Int.eq_ofNat_of_zero_le l1
    obtain ⟨_, _, _, _, m5, _⟩ := hm
    rw [clm_len] at m5
    exact absurd ((clm_hold (by omega)).2 (by rw [e2, hk])) (m5 k (by omega))
theorem Inv.hold (h : Inv W H s R T) {k : Nat} (hk : k < R.length) {z : Int} (hm : MayP (clm s R T) (k : Int) z) : hold9 T (k : Int) z = (0, T.set z.toNat ((k : Int), true)) := by
  have h8 := h.few
  unfold hold9
  rw [if_neg (fun q => q ⟨⟨by omega, by omega⟩, hm.2.2.2.1⟩), if_neg (fun q => by rw [h.free hm] at q; cases q.1)]
set_option maxHeartbeats 4000000 in
theorem enter_any (h : St w S g M cap top W H s R T) (hI : Inv W H s R T) {k : Nat} (hk : k < R.length) (A : Option Addr) (n c : Nat) (Z : List Int) (hZ : Gh top 1 w A n c (ivs Z)) (hn : n ≤ 1) :
    Calls Tryz.prog 67 #[.pointer (some ⟨S, 0, none⟩), .int .i64 (k : Int), .slice A n c] w (EntTold S g M cap top W H s R T (k : Int) Z w) := by
  have HST := Lib.hid h
  have HI := Lib.hid hI
  have HZ := Lib.hid hZ
  have hlen : Z.length = n := by have := hZ.gt.len; simpa [ivs] using this
  have HZL := Lib.hid hlen
  obtain ⟨_, _, _, s3, _, hS⟩ := h.cells
  obtain ⟨hc1, hc2⟩ := hZ.gt.size
  clear h hI hZ
  by_cases h0 : n = 0
  · subst h0
    have hz0 : Z = [] := List.eq_nil_of_length_eq_zero hlen
    subst hz0
    clear hlen
    go_enter Tryz.func67, Tryz.ntmps67
    go_wp2_with fail
    go_loop [13] (fun iv => iv = .int .i64 0) (fun iv => 0)
    case atStart => rfl
    case round =>
      subst hrel
      go_wp2_with fail
      go_ret
      exact ⟨true, rfl, iff_of_true rfl (fun z hz => by cases hz), HST.out, Only.refl _ _⟩
  · obtain rfl : n = 1 := by omega
    obtain ⟨z, rfl⟩ : ∃ z, Z = [z] := by
      match Z, hlen with
      | [z], _ => exact ⟨z, rfl⟩
    clear h0 hlen
    obtain ⟨gz, oz, rfl, hgz, kz⟩ := Bk.Lt.cell (j := 0) (show Lt w.heap.size w A 1 c [z] from HZ.out.gt) (by omega)
    have kz : w.cell? ⟨gz, oz, none⟩ = some (.int .i64 z) := kz
    go_enter Tryz.func67, Tryz.ntmps67
    go_wp2_with fail
    go_loopw [13] (fun iv wr => (iv = .int .i64 0 ∧ wr = w) ∨ (iv = .int .i64 1 ∧ Hid (May11 s R T (k : Int) [z] ∧ St wr S g M cap top W H s R (giveT T (k : Int) [z]) ∧ Only g w wr))) (fun iv _ => 1 - (intOf iv).toNat)
    case atStart => exact .inl ⟨rfl, rfl⟩
    case round =>
      rename World => wr
      rcases hrel with ⟨rfl, rfl⟩ | ⟨rfl, HD⟩
      · have HOW := Lib.hid (owner9_any HST.out.lk z)
        cases hat : at9 T z with
        | mk a b =>
          rw [hat] at HOW
          have HAT := Lib.hid hat
          clear hat
          by_cases hown : b = true ∧ a = (k : Int)
          · obtain ⟨rfl, rfl⟩ := hown
            have HMAY : Hid (May11 s R T (k : Int) [z] ∧ giveT T (k : Int) [z] = T) := Lib.hid ⟨fun y hy => by
              obtain rfl := List.mem_singleton.1 hy
              exact .inl HAT.out, by
              show (if at9 T z = ((k : Int), true) then T else _) = T
              rw [if_pos HAT.out]⟩
            go_wp2_with fail
            refine HOW.out.mono ?_
            rintro e w2 ⟨rfl, hb2⟩
            have HB2 := Lib.hid hb2
            clear hb2
            go_wp2_with fail
            go_roundw
            case rel => exact .inr ⟨by go_num, Lib.hid ⟨HMAY.out.1, by rw [HMAY.out.2]; exact HST.out.later HB2.out, Only.of HB2.out⟩⟩
            case measure => simp [intOf]
          · have HNO : Hid (at9 T z ≠ ((k : Int), true)) := Lib.hid (fun q => hown (by rw [HAT.out] at q; injection q with q1 q2; exact ⟨q2, q1⟩))
            have HCL := Lib.hid (fun wx (hb : Below wr.heap.size wr wx) => claims_any (HST.out.later hb) HI.out.few HI.out.lens)
            have hb3 : b = false ∨ (b = true ∧ (a == (k : Int)) = false) := by
              cases b with
              | false => exact .inl rfl
              | true => exact .inr ⟨rfl, by rw [beq_eq_false_iff_ne]; exact fun e => hown ⟨rfl, e⟩⟩
            clear hown
            rcases hb3 with rfl | ⟨rfl, hne⟩
            all_goals
              go_wp2_with fail
              refine HOW.out.mono ?_
              rintro e w2 ⟨rfl, hb2⟩
              have HB2 := Lib.hid hb2
              clear hb2
              go_wp2_with fail
              refine (HCL.out w2 HB2.out).mono ?_
              rintro e w3 ⟨A3, n3, c3, rfl, hch, hb3⟩
              have HB3 := Lib.hid (HB2.out.trans (hb3.mono HB2.out.size))
              have HMY := Lib.hid (may_any A3 n3 c3 (clm s R T) (k : Int) z w3 hch.cl)
              clear hch hb3
              go_wp2_with fail
              refine HMY.out.mono ?_
              rintro e w4 ⟨q, rfl, hq, hb4⟩
              have HB4 := Lib.hid (HB3.out.trans (hb4.mono HB3.out.size))
              have HQ := Lib.hid hq
              clear hb4 hq
              cases q with
              | false =>
                go_wp2_with fail
                go_ret
                exact ⟨false, rfl, iff_of_false (by decide) (fun hm => by
                  rcases hm z (by simp) with h | h
                  · exact HNO.out h
                  · have := HQ.out.2 h; cases this), HST.out.later HB4.out, Only.of HB4.out⟩
              | true =>
                have HM := Lib.hid (HQ.out.1 rfl)
                have HS4 := Lib.hid (HST.out.later HB4.out)
                have HHO := Lib.hid (hold9_any HS4.out.lk (k : Int) z)
                rw [HI.out.hold hk HM.out] at HHO
                have s34 := (HB4.out.cell (p := ⟨S, 3, none⟩) hS).trans s3
                have hS4 := Nat.lt_of_lt_of_le hS HB4.out.size
                go_wp2_with fail
                refine HHO.out.mono ?_
                rintro e w5 ⟨rfl, hl5, ho5⟩
                have HD5 : Hid (May11 s R T (k : Int) [z] ∧ St w5 S g M cap top W H s R (giveT T (k : Int) [z]) ∧ Only g wr w5) := Lib.hid ⟨fun y hy => by
                  obtain rfl := List.mem_singleton.1 hy
                  exact .inr HM.out, by
                  show St w5 S g M cap top W H s R (if at9 T z = ((k : Int), true) then T else T.set z.toNat ((k : Int), true))
                  rw [if_neg HNO.out]
                  exact HS4.out.table ho5 hl5, (Only.of HB4.out).trans ho5⟩
                clear hl5 ho5
                go_wp2_with fail
                go_roundw
                case rel => exact .inr ⟨by go_num, HD5⟩
                case measure => simp [intOf]
      · go_wp2_with fail
        go_ret
        exact ⟨true, rfl, iff_of_true rfl HD.out.1, HD.out.2.1, HD.out.2.2⟩

end
end Tf
end Go.Proofs.YtakgkocdkondhaaGreatDoor
end

section
namespace Go.Proofs.YtakgkocdkondhaaGreatDoor
namespace Tf
open Go.RowKit Fl Tr Pt
open Bk (Gt Lt Iw ivs Cm hold need Rg SafC MayP Goes own_lower own_later may_any)
open Lk (Ow Rb Zo at9 zns Tb T0 LkAt Only owner9_any hold9_any hold9)

section
variable {w : World} {S g M cap top : Nat} {W H : Int} {s : ByteArray} {R : List Mv} {T : List Ow}
/-! ### Grant -/
open Classical in
noncomputable def grantF (s : ByteArray) (R : List Mv) (T : List Ow) (r : Int) : (Ac × Int) × List Mv × List Ow :=
  if 0 ≤ r ∧ r < R.length then
    (match getM R r.toNat with
    | (_, [], _) => (((0, 0, 0), 2), R, T)
    | (_, _ :: _, true) => (((0, 0, 0), 111), R, T)
    | (c, a :: l, false) => if May11 s R T r (az s a) then ((a, 0), R.set r.toNat (c, a :: l, true), giveT T r (az s a)) else (((0, 0, 0), 110), R, T))
  else (((0, 0, 0), 1), R, T)
theorem Inv.grantF (h : Inv W H s R T) (r : Int) : Inv W H s (grantF s R T r).2.1 (grantF s R T r).2.2 := by
  unfold Tf.grantF
  by_cases hr : 0 ≤ r ∧ r < R.length
  · rw [if_pos hr]
    obtain ⟨k, rfl⟩ := Int.eq_ofNat_of_zero_le hr.1
    have hk : k < R.length := by omega
    rw [Int.toNat_natCast]
    split
    · exact h
    · exact h
    · rename_i c a l hm
      split
      · rename_i hmay
        have hl := az_len s a
        cases e : az s a with
        | nil => exact h.grants hk hm (fun z hz => by rw [e] at hz; cases hz)
        | cons z Z =>
          rw [e] at hl hmay
          obtain rfl : Z = [] := List.eq_nil_of_length_eq_zero (by simp only [List.length_cons] at hl; omega)
          show Inv W H s _ (if at9 T z = ((k : Int), true) then T else T.set z.toNat ((k : Int), true))
          by_cases q : at9 T z = ((k : Int), true)
          · rw [if_pos q]
            exact h.grants hk hm (fun y hy => by rw [e] at hy; rw [List.mem_singleton.1 hy]; exact q)
          · rw [if_neg q]
            exact h.gives hk hm e ((hmay z (by simp)).resolve_left q)
      · exact h
  · rw [if_neg hr]; exact h
theorem grantF_out {r : Int} (hr : ¬ (0 ≤ r ∧ r < R.length)) : grantF s R T r = (((0, 0, 0), 1), R, T) := by unfold grantF; rw [if_neg hr]
open Classical in
theorem grantF_in {k : Nat} (hk : k < R.length) : grantF s R T (k : Int) = (match getM R k with
    | (_, [], _) => (((0, 0, 0), 2), R, T)
    | (_, _ :: _, true) => (((0, 0, 0), 111), R, T)
    | (c, a :: l, false) => if May11 s R T (k : Int) (az s a) then ((a, 0), R.set k (c, a :: l, true), giveT T (k : Int) (az s a)) else (((0, 0, 0), 110), R, T)) := by
  unfold grantF
  rw [if_pos ⟨by omega, by omega⟩, Int.toNat_natCast]
theorem grantF_none {k : Nat} (hk : k < R.length) (hl : (getM R k).2.1 = []) : grantF s R T (k : Int) = (((0, 0, 0), 2), R, T) := by
  rw [grantF_in hk]
  generalize getM R k = m at *
  obtain ⟨c, l, b⟩ := m
  have hl : l = [] := hl
  subst hl
  rfl
theorem grantF_busy {k : Nat} (hk : k < R.length) (hl : (getM R k).2.1 ≠ []) (hb : (getM R k).2.2 = true) : grantF s R T (k : Int) = (((0, 0, 0), 111), R, T) := by
  rw [grantF_in hk]
  generalize getM R k = m at *
  obtain ⟨c, l, b⟩ := m
  have hb : b = true := hb
  subst hb
  cases l with
  | nil => exact absurd rfl hl
  | cons a l => rfl
theorem grantF_go {k : Nat} (hk : k < R.length) {c : Int} {a : Ac} {l : List Ac} (hm : getM R k = (c, a :: l, false)) (hmay : May11 s R T (k : Int) (az s a)) : grantF s R T (k : Int) = ((a, 0), R.set k (c, a :: l, true), giveT T (k : Int) (az s a)) := by
  rw [grantF_in hk, hm]
  exact if_pos hmay
theorem grantF_wait {k : Nat} (hk : k < R.length) {c : Int} {a : Ac} {l : List Ac} (hm : getM R k = (c, a :: l, false)) (hmay : ¬ May11 s R T (k : Int) (az s a)) : grantF s R T (k : Int) = (((0, 0, 0), 110), R, T) := by
  rw [grantF_in hk, hm]
  exact if_neg hmay
theorem grant1_none (h : St w S g M cap top W H s R T) {k : Nat} (hk : k < R.length) (hl : (getM R k).2.1 = []) (v1 v2 v3 : Value) :
    Calls Tryz.prog 66 #[.pointer (some ⟨M, k * 3, none⟩), v1, v2, v3] w fun e w' => e = .returned (.int .i64 2) ∧ w' = w := by
  obtain ⟨A, n, c, _, q1, _, hL, _, hM⟩ := h.mover hk
  rw [hl] at hL
  have hn : n = 0 := hL.len.1
  subst hn
  clear h hL hl hk
  go_enter Tryz.func66, Tryz.ntmps66
  go_wp2_with fail
  go_ret
  exact ⟨rfl, rfl⟩
theorem grant1_busy (h : St w S g M cap top W H s R T) {k : Nat} (hk : k < R.length) (hl : (getM R k).2.1 ≠ []) (hb : (getM R k).2.2 = true) (v1 v2 v3 : Value) :
    Calls Tryz.prog 66 #[.pointer (some ⟨M, k * 3, none⟩), v1, v2, v3] w fun e w' => e = .returned (.int .i64 111) ∧ w' = w := by
  obtain ⟨A, n, c, _, q1, q2, hL, _, hM⟩ := h.mover hk
  rw [hb] at q2
  obtain ⟨hn, _, _⟩ := hL.len
  have hn0 : n ≠ 0 := fun e => hl (List.eq_nil_of_length_eq_zero (by rw [← hn, e]))
  have d1 : ((n : Int) == 0) = false := by rw [beq_eq_false_iff_ne]; omega
  clear h hL hn hl hb hk
  go_enter Tryz.func66, Tryz.ntmps66
  go_wp2_with fail
  go_ret
  exact ⟨rfl, rfl⟩
/-- The boxes of a call: the state, a robot, an act. -/
structure Bg (w0 : World) (b1 b2 b3 S : Nat) (r : Int) (a : Ac) (w : World) : Prop where
  below : Below w0.heap.size w0 w
  c1 : w.cell? ⟨b1, 0, none⟩ = some (.pointer (some ⟨S, 0, none⟩))
  c2 : w.cell? ⟨b2, 0, none⟩ = some (.int .i64 r)
  c3 : Ab b3 a w
  lt : b1 < w.heap.size ∧ b2 < w.heap.size
  ge : w0.heap.size ≤ b1 ∧ w0.heap.size ≤ b2 ∧ w0.heap.size ≤ b3
  ne : b1 ≠ b3 ∧ b2 ≠ b3
theorem setCell_like {a b : World} {M x : Nat} {v : Value} (h : a.heap[M]? = b.heap[M]?) : (a.setCell ⟨M, x, none⟩ v).heap[M]? = (b.setCell ⟨M, x, none⟩ v).heap[M]? := by
  simp [World.setCell, Array.getElem?_modify, h]
/-- Where all that a state is made of is as it was, but the table. -/
theorem St.like {w' : World} {T' : List Ow} (h : St w S g M cap top W H s R T) (hsz : w.heap.size ≤ w'.heap.size) (hk : ∀ k, k < w.heap.size → k ≠ g → w'.heap[k]? = w.heap[k]?) (hl : LkAt w' g T') : St w' S g M cap top W H s R T' := by
  obtain ⟨t1, t2, t3, t4⟩ := h.tops
  obtain ⟨d1, d2, d3⟩ := h.diff
  obtain ⟨P, h1, h2⟩ := h.mv
  refine ⟨(hk S (lt_of_heap h.box) d1).trans h.box, hl, ⟨P, ?_, h2.keep ⟨hsz, fun k q1 q2 => hk k q2 (by omega)⟩⟩, ⟨t1, t2, t3, Nat.le_trans t4 hsz⟩, h.diff⟩
  refine ownsRow_same h1 (fun k hq => ?_)
  have := h1.lt k hq
  have hq : some M = some k := hq
  injection hq with hq
  exact hk k this.2 (by rw [← hq]; exact fun e => d3 e.symm)
/-- The same state in a world that is like a later one where the state lies. -/
theorem St.near {w1 : World} (h : St w S g M cap top W H s R T) (hb : Below w.heap.size w w1) : ∀ w'', w1.heap.size ≤ w''.heap.size → (∀ k, k < w.heap.size → w''.heap[k]? = w1.heap[k]?) → St w'' S g M cap top W H s R T := fun w'' h1 h2 =>
  h.like (Nat.le_trans hb.size h1) (fun k hk _ => (h2 k hk).trans (hb.block k hk)) (h.lk.same ((h2 g h.lk.lt).trans (hb.block g h.lk.lt)))
/-- What was let be done is told. -/
def GrantQ (w0 : World) (S g M cap top : Nat) (W H : Int) (s : ByteArray) (b3 : Nat) (G : (Ac × Int) × List Mv × List Ow) (w : World) (m : Int) (w' : World) : Prop :=
  m = G.1.2 ∧ Ab b3 G.1.1 w' ∧ (∀ w'', w'.heap.size ≤ w''.heap.size → (∀ k, k < w0.heap.size → w''.heap[k]? = w'.heap[k]?) → St w'' S g M cap top W H s G.2.1 G.2.2) ∧ Turn (fun k => (k = g ∨ k = M) ∨ k = b3) (fun k => (k = g ∨ k = M) ∨ k = b3) w w'
theorem Fr.wide {g M b : Nat} {w w' : World} (h : Fr g M w w') : Turn (fun k => (k = g ∨ k = M) ∨ k = b) (fun k => (k = g ∨ k = M) ∨ k = b) w w' := ⟨h.os, h.tape, h.output, h.size, fun k hk hF => h.block k hk (fun q => hF (.inl q)), fun k hk => .inl hk⟩
set_option maxHeartbeats 4000000 in
theorem grant1_any {w0 : World} (h : St w0 S g M cap top W H s R T) (hI : Inv W H s R T) {k : Nat} (hk : k < R.length) {b1 b2 b3 : Nat} (hb : Bg w0 b1 b2 b3 S (k : Int) (0, 0, 0) w) :
    Calls Tryz.prog 66 #[.pointer (some ⟨M, k * 3, none⟩), .pointer (some ⟨b1, 0, none⟩), .pointer (some ⟨b2, 0, none⟩), .pointer (some ⟨b3, 0, none⟩)] w fun e w' => ∃ m : Int, e = .returned (.int .i64 m) ∧ GrantQ w0 S g M cap top W H s b3 (grantF s R T (k : Int)) w m w' := by
  have hS := h.later hb.below
  generalize hm : getM R k = m
  obtain ⟨cc, l, bz⟩ := m
  cases l with
  | nil =>
    rw [grantF_none hk (by rw [hm])]
    exact (grant1_none hS hk (by rw [hm]) _ _ _).mono (fun e w' q => ⟨2, q.1, rfl, by rw [q.2]; exact hb.c3, by rw [q.2]; exact h.near hb.below, by rw [q.2]; exact Turn.refl _ _⟩)
  | cons a l =>
    cases bz with
    | true =>
      rw [grantF_busy hk (by rw [hm]; simp) (by rw [hm])]
      exact (grant1_busy hS hk (by rw [hm]; simp) (by rw [hm]) _ _ _).mono (fun e w' q => ⟨111, q.1, rfl, by rw [q.2]; exact hb.c3, by rw [q.2]; exact h.near hb.below, by rw [q.2]; exact Turn.refl _ _⟩)
    | false =>
      obtain ⟨A, n, c, _, q1, q2, hL, _, hM⟩ := hS.mover hk
      rw [hm] at hL q2
      obtain ⟨hn, hc1, hc2⟩ := hL.len
      have hn0 : 0 < n := by rw [hn]; simp
      have d1 : ((n : Int) == 0) = false := by rw [beq_eq_false_iff_ne]; omega
      have hnI : (0 : Int) < (n : Int) := by omega
      have HL := Lib.hid hL
      obtain ⟨g', off, a2, n2, c2, rfl, hg, k0, k1, k2, k3, hz, hgt⟩ := hL.cell hn0
      have hz : Gh top 1 w a2 n2 c2 (ivs (az s a)) := hz
      have hn2 : n2 ≤ 1 := by have := hz.gt.len; have h2 := az_len s a; simp [ivs] at this; omega
      have hp : off + 0 * 4 = off := by omega
      rw [hp] at k0 k1 k2 k3
      have HEN := Lib.hid (fun wx (hb : Below w.heap.size w wx) => enter_any (hS.later hb) hI hk a2 n2 c2 (az s a) (hz.keep (KeepT.of hb)) hn2)
      have HBG := Lib.hid hb
      have HS := Lib.hid hS
      have HM := Lib.hid hm
      have HI := Lib.hid hI
      have HH := Lib.hid h
      have HGT := Lib.hid hgt
      have HZG := Lib.hid (And.intro h.tops h.diff)
      obtain ⟨e0, e1⟩ := hz.gt.size
      have x1 := hb.c1
      have x2 := hb.c2
      have l1 := hb.lt.1
      have l2 := hb.lt.2
      obtain ⟨x, y, z⟩ := a
      have k0 : w.cell? ⟨g', off, none⟩ = some (.int .u8 (x : Int)) := k0
      have k1 : w.cell? ⟨g', off + 1, none⟩ = some (.int .i64 y) := k1
      have k2 : w.cell? ⟨g', off + 2, none⟩ = some (.int .i64 z) := k2
      have KC : Hid (∀ w5, Only g w w5 → ∀ (p : Addr) (v : Value), p.block ≠ g → w.cell? p = some v → w5.cell? p = some v) := Lib.hid (fun w5 ho p v hp hc => by
        have hlt := World.block_lt_of_cell? w p hc
        exact (World.cell?_of_block (a := p) (ho.block p.block hlt hp)).trans hc)
      have HNG : Hid (b1 ≠ g ∧ b2 ≠ g ∧ M ≠ g ∧ g' ≠ g) := Lib.hid ⟨by have := hb.ge.1; have := h.tops.2.1; have := h.tops.2.2.2; omega, by have := hb.ge.2.1; have := h.tops.2.1; have := h.tops.2.2.2; omega, fun q => h.diff.2.2 q.symm, by have := h.tops.2.1; omega⟩
      clear h hI hb hS hL hz hn hp hm hgt
      go_enter Tryz.func66, Tryz.ntmps66
      go_upto_region 5 with (fail)
      go_region_held3 (fun w' => w'.cell? ⟨b1, 0, none⟩ = some (.pointer (some ⟨S, 0, none⟩)) ∧ w'.cell? ⟨b2, 0, none⟩ = some (.int .i64 (k : Int)) ∧ w'.cell? ⟨M, k * 3 + 1, none⟩ = some (.slice (some ⟨g', off, none⟩) n c) ∧ w'.cell? ⟨g', off + 3, none⟩ = some (.slice a2 n2 c2)) (go_keep)
        ((go_at_call 67; refine (HEN.out _ (by first | exact Below.refl _ _ | exact (Below.refl _ _).drew)).mono ?_; rintro e w5 ⟨q, rfl, hq, hs5, ho5⟩; have HO5 : Hid (Only g w w5) := Lib.hid (by first | exact (Only.of (Below.refl _ w).drew).trans ho5 | exact ho5); have HQ := Lib.hid hq; have HS5 := Lib.hid hs5; have y1 := KC.out w5 HO5.out ⟨b1, 0, none⟩ _ HNG.out.1 x1; have y2 := KC.out w5 HO5.out ⟨b2, 0, none⟩ _ HNG.out.2.1 x2; have y3 := KC.out w5 HO5.out ⟨M, k * 3 + 1, none⟩ _ HNG.out.2.2.1 q1; have y4 := KC.out w5 HO5.out ⟨g', off + 3, none⟩ _ HNG.out.2.2.2 k3; clear hq hs5 ho5))
      all_goals
        have p0 := KC.out w5 HO5.out ⟨g', off, none⟩ _ HNG.out.2.2.2 k0
        have p1 := KC.out w5 HO5.out ⟨g', off + 1, none⟩ _ HNG.out.2.2.2 k1
        have p2 := KC.out w5 HO5.out ⟨g', off + 2, none⟩ _ HNG.out.2.2.2 k2
        have p3 := KC.out w5 HO5.out ⟨M, k * 3 + 2, none⟩ _ HNG.out.2.2.1 q2
        have hM5 := Nat.lt_of_lt_of_le hM HO5.out.size
        have hg5 := Nat.lt_of_lt_of_le hg HO5.out.size
        have HAB : Hid (Ab b3 (0, 0, 0) w5) := Lib.hid ((HO5.out.block b3 (lt_of_heap HBG.out.c3) (fun e => by
          have h1 := HBG.out.ge.2.2
          have h2 := HH.out.tops.2.1
          have h3 := HH.out.tops.2.2.2
          have e : b3 = g := e
          omega)).trans HBG.out.c3)
        clear x1 x2 k0 k1 k2 k3 q1 q2 hM hg l1 l2 y1 y2 y4
        cases q with
        | false =>
          have HNM : Hid (¬ May11 s R T (k : Int) (az s (x, y, z))) := Lib.hid (fun hh => by have := HQ.out.2 hh; cases this)
          go_wp2_with fail
          go_ret
          rw [grantF_wait hk HM.out HNM.out]
          exact ⟨110, rfl, rfl, HAB.out, fun w'' h1 h2 => HH.out.like (Nat.le_trans (Nat.le_trans HBG.out.below.size HO5.out.size) h1) (fun q hq hqg => ((h2 q hq).trans (HO5.out.block q (Nat.lt_of_lt_of_le hq HBG.out.below.size) hqg)).trans (HBG.out.below.block q hq)) (HS5.out.lk.same (h2 g HH.out.lk.lt)), (Fr.only HO5.out M).wide⟩
        | true =>
          have HMY := Lib.hid (HQ.out.1 rfl)
          have HP := Lib.hid (HS5.out.putLet hk true)
          have f3 : w5.frozen? ⟨M, k * 3 + 2, none⟩ = false := by
            obtain ⟨_, _, _, _, _, _, _, hfz, _⟩ := HS5.out.mover hk
            exact hfz.2.2
          have HPB : Hid (M ≠ b3 ∧ M ≠ g') := Lib.hid ⟨by
            have h1 := HBG.out.ge.2.2
            have h2 := HH.out.tops.2.2.1
            have h3 := HH.out.tops.2.2.2
            omega, by have h2 := HH.out.tops.2.2.1; have := HGT.out; omega⟩
          have HSF : Hid (∀ w'', (((((w5.setCell ⟨M, k * 3 + 2, none⟩ (.bool true)).setCell ⟨b3, 0, none⟩ (.int .u8 (x : Int))).setCell ⟨b3, 1, none⟩ (.int .i64 y)).setCell ⟨b3, 2, none⟩ (.int .i64 z))).heap.size ≤ w''.heap.size → (∀ q, q < w0.heap.size → w''.heap[q]? = (((((w5.setCell ⟨M, k * 3 + 2, none⟩ (.bool true)).setCell ⟨b3, 0, none⟩ (.int .u8 (x : Int))).setCell ⟨b3, 1, none⟩ (.int .i64 y)).setCell ⟨b3, 2, none⟩ (.int .i64 z))).heap[q]?) → St w'' S g M cap top W H s (R.set k (cc, (x, y, z) :: l, true)) (giveT T (k : Int) (az s (x, y, z)))) := Lib.hid (fun w'' hsz hlk => by
            have hp := HH.out.putLet hk true
            rw [HM.out] at hp
            have h3 := HBG.out.ge.2.2
            obtain ⟨t1, t2, t3, t4⟩ := HH.out.tops
            refine hp.like (Nat.le_trans (by simp [World.setCell]; exact Nat.le_trans HBG.out.below.size HO5.out.size) hsz) (fun q hq hqg => ?_) ?_
            · have hq0 : q < w0.heap.size := by simpa [World.setCell] using hq
              rw [hlk q hq0, heap_setCell_other _ ⟨b3, 2, none⟩ q _ (by show q ≠ b3; omega), heap_setCell_other _ ⟨b3, 1, none⟩ q _ (by show q ≠ b3; omega), heap_setCell_other _ ⟨b3, 0, none⟩ q _ (by show q ≠ b3; omega)]
              have h5 : w5.heap[q]? = w0.heap[q]? := (HO5.out.block q (Nat.lt_of_lt_of_le hq0 HBG.out.below.size) hqg).trans (HBG.out.below.block q hq0)
              by_cases e : q = M
              · subst e; exact setCell_like h5
              · rw [heap_setCell_other _ ⟨M, k * 3 + 2, none⟩ q _ e, heap_setCell_other _ ⟨M, k * 3 + 2, none⟩ q _ e]; exact h5
            · refine HP.out.lk.same ?_
              rw [hlk g HH.out.lk.lt, heap_setCell_other _ ⟨b3, 2, none⟩ g _ (by show g ≠ b3; omega), heap_setCell_other _ ⟨b3, 1, none⟩ g _ (by show g ≠ b3; omega), heap_setCell_other _ ⟨b3, 0, none⟩ g _ (by show g ≠ b3; omega)])
          have HTU : Hid (Turn (fun k => (k = g ∨ k = M) ∨ k = b3) (fun k => (k = g ∨ k = M) ∨ k = b3) w (((((w5.setCell ⟨M, k * 3 + 2, none⟩ (.bool true)).setCell ⟨b3, 0, none⟩ (.int .u8 (x : Int))).setCell ⟨b3, 1, none⟩ (.int .i64 y)).setCell ⟨b3, 2, none⟩ (.int .i64 z)))) := Lib.hid ((((((Fr.only HO5.out M).wide (b := b3)).put (b := M) _ (.inl (.inr rfl))).put (b := b3) _ (.inr rfl)).put (b := b3) _ (.inr rfl)).put (b := b3) _ (.inr rfl))
          have HAF : Hid (Ab b3 (x, y, z) (((((w5.setCell ⟨M, k * 3 + 2, none⟩ (.bool true)).setCell ⟨b3, 0, none⟩ (.int .u8 (x : Int))).setCell ⟨b3, 1, none⟩ (.int .i64 y)).setCell ⟨b3, 2, none⟩ (.int .i64 z)))) := Lib.hid (by
            have h0 : Ab b3 (0, 0, 0) (w5.setCell ⟨M, k * 3 + 2, none⟩ (.bool true)) := (heap_setCell_other _ ⟨M, k * 3 + 2, none⟩ b3 _ HPB.out.1.symm).trans HAB.out
            exact h0.put x y z)
          have HA0 : Hid (Ab b3 (0, 0, 0) (w5.setCell ⟨M, k * 3 + 2, none⟩ (.bool true))) := Lib.hid ((heap_setCell_other _ ⟨M, k * 3 + 2, none⟩ b3 _ HPB.out.1.symm).trans HAB.out)
          obtain ⟨r0, r1, r2, r3, r4, r5, r6⟩ := HA0.out.cells
          have hcg : ∀ o, (w5.setCell ⟨M, k * 3 + 2, none⟩ (.bool true)).cell? ⟨g', o, none⟩ = w5.cell? ⟨g', o, none⟩ := fun o => World.cell?_of_block (a := ⟨g', o, none⟩) (heap_setCell_other _ ⟨M, k * 3 + 2, none⟩ g' _ HPB.out.2.symm)
          have p0 := (hcg off).trans p0
          have p1 := (hcg (off + 1)).trans p1
          have p2 := (hcg (off + 2)).trans p2
          have y3 : (w5.setCell ⟨M, k * 3 + 2, none⟩ (.bool true)).cell? ⟨M, k * 3 + 1, none⟩ = some (.slice (some ⟨g', off, none⟩) n c) := by
            rw [World.cell?_setCell_other _ _ _ _ (by simp)]; exact y3
          have hM6 : M < (w5.setCell ⟨M, k * 3 + 2, none⟩ (.bool true)).heap.size := by simpa [World.setCell] using hM5
          have hg6 : g' < (w5.setCell ⟨M, k * 3 + 2, none⟩ (.bool true)).heap.size := by simpa [World.setCell] using hg5
          clear hcg
          go_upto_region 8 with (fail)
          generalize w5.setCell ⟨M, k * 3 + 2, none⟩ (.bool true) = w6 at *
          clear p3 f3
          go_wp2_with fail
          go_ret
          rw [grantF_go hk HM.out HMY.out]
          exact ⟨0, rfl, rfl, HAF.out, HSF.out, HTU.out⟩
def GrantTold (S g M cap top : Nat) (W H : Int) (s : ByteArray) (G : (Ac × Int) × List Mv × List Ow) (w : World) (e : Ending) (w' : World) : Prop :=
  e = .returned (.tuple #[actV G.1.1, .int .i64 G.1.2]) ∧ St w' S g M cap top W H s G.2.1 G.2.2 ∧ Fr g M w w'
/-- A call's boxes at its start. -/
theorem Bg.start (w : World) (S : Nat) (r : Int) : Bg w w.heap.size (w.heap.size + 1) (w.heap.size + 1 + 1 + 1) S r (0, 0, 0) ((((w.alloc (.cells #[.pointer (some ⟨S, 0, none⟩)] 27)).alloc (.cells #[.int .i64 r] 3)).alloc (.cells #[.int .u8 0, .int .i64 0, .int .i64 0] 39)).alloc (.cells #[.int .u8 0, .int .i64 0, .int .i64 0] 39)) ∧
    Ab (w.heap.size + 1 + 1) (0, 0, 0) ((((w.alloc (.cells #[.pointer (some ⟨S, 0, none⟩)] 27)).alloc (.cells #[.int .i64 r] 3)).alloc (.cells #[.int .u8 0, .int .i64 0, .int .i64 0] 39)).alloc (.cells #[.int .u8 0, .int .i64 0, .int .i64 0] 39)) := by
  have h1 : (w.alloc (.cells #[.pointer (some ⟨S, 0, none⟩)] 27)).cell? ⟨w.heap.size, 0, none⟩ = some (.pointer (some ⟨S, 0, none⟩)) := by simp [World.cell?_alloc_new]
  generalize hx1 : w.alloc (.cells #[.pointer (some ⟨S, 0, none⟩)] 27) = x1 at *
  have s1 : x1.heap.size = w.heap.size + 1 := by rw [← hx1]; simp
  have b1 : Below w.heap.size w x1 := by rw [← hx1]; exact (Below.refl _ _).alloc (Nat.le_refl _) _
  have h2 : (x1.alloc (.cells #[.int .i64 r] 3)).cell? ⟨w.heap.size + 1, 0, none⟩ = some (.int .i64 r) := by rw [← s1]; simp [World.cell?_alloc_new]
  have b2 : Below x1.heap.size x1 (x1.alloc (.cells #[.int .i64 r] 3)) := (Below.refl _ _).alloc (Nat.le_refl _) _
  generalize hx2 : x1.alloc (.cells #[.int .i64 r] 3) = x2 at *
  have s2 : x2.heap.size = w.heap.size + 1 + 1 := by rw [← hx2]; simp [s1]
  obtain ⟨a1, a2, b3⟩ := two_acts x2
  rw [s2] at a1 a2
  have s3 : ((x2.alloc (.cells #[.int .u8 0, .int .i64 0, .int .i64 0] 39)).alloc (.cells #[.int .u8 0, .int .i64 0, .int .i64 0] 39)).heap.size = w.heap.size + 1 + 1 + 1 + 1 := by simp [s2]
  refine ⟨⟨(b1.trans (b2.mono b1.size)).trans (b3.mono (Nat.le_trans b1.size b2.size)), ?_, ?_, a2, ⟨by omega, by omega⟩, ⟨by omega, by omega, by omega⟩, ⟨by omega, by omega⟩⟩, a1⟩
  · exact (b3.cell (p := ⟨w.heap.size, 0, none⟩) (by show w.heap.size < _; omega)).trans ((b2.cell (p := ⟨w.heap.size, 0, none⟩) (by show w.heap.size < _; omega)).trans h1)
  · exact (b3.cell (p := ⟨w.heap.size + 1, 0, none⟩) (by show w.heap.size + 1 < _; omega)).trans h2
/-- Behind a grant the state is there in each world that is like it where the state lay before. -/
def GrantNear (wB : World) (S g M cap top : Nat) (W H : Int) (s : ByteArray) (G : (Ac × Int) × List Mv × List Ow) (w : World) (e : Ending) (w' : World) : Prop :=
  e = .returned (.tuple #[actV G.1.1, .int .i64 G.1.2]) ∧ (∀ w'', w'.heap.size ≤ w''.heap.size → (∀ k, k < wB.heap.size → w''.heap[k]? = w'.heap[k]?) → St w'' S g M cap top W H s G.2.1 G.2.2) ∧ Fr g M w w'
theorem grant_near {wB : World} (h : St wB S g M cap top W H s R T) (hBB : Below wB.heap.size wB w) (hI : Inv W H s R T) (r : Int) : Calls Tryz.prog 33 #[.pointer (some ⟨S, 0, none⟩), .int .i64 r] w (GrantNear wB S g M cap top W H s (grantF s R T r) w) := by
  obtain ⟨hB, hA⟩ := Bg.start w S r
  obtain ⟨b1, hb1⟩ : ∃ b1, b1 = w.heap.size := ⟨_, rfl⟩
  obtain ⟨b2, hb2⟩ : ∃ b2, b2 = w.heap.size + 1 := ⟨_, rfl⟩
  obtain ⟨b4, hb4⟩ : ∃ b4, b4 = w.heap.size + 1 + 1 := ⟨_, rfl⟩
  obtain ⟨b3, hb3⟩ : ∃ b3, b3 = w.heap.size + 1 + 1 + 1 := ⟨_, rfl⟩
  rw [← hb3, ← hb2, ← hb1] at hB
  rw [← hb4] at hA
  have HE := Lib.hid (And.intro hb3 (And.intro hb4 (And.intro hb2 hb1)))
  obtain ⟨w1, hw1⟩ : ∃ w1, w1 = ((((w.alloc (.cells #[.pointer (some ⟨S, 0, none⟩)] 27)).alloc (.cells #[.int .i64 r] 3)).alloc (.cells #[.int .u8 0, .int .i64 0, .int .i64 0] 39)).alloc (.cells #[.int .u8 0, .int .i64 0, .int .i64 0] 39)) := ⟨_, rfl⟩
  rw [← hw1] at hB hA
  have HW := Lib.hid hw1
  have HLT : Hid (w.heap.size ≤ b4 ∧ b4 ≠ b3) := Lib.hid ⟨by omega, by omega⟩
  have hBx : Bg wB b1 b2 b3 S r (0, 0, 0) w1 := ⟨hBB.trans (hB.below.mono hBB.size), hB.c1, hB.c2, hB.c3, hB.lt, ⟨Nat.le_trans hBB.size hB.ge.1, Nat.le_trans hBB.size hB.ge.2.1, Nat.le_trans hBB.size hB.ge.2.2⟩, hB.ne⟩
  have hS1 := h.later hBx.below
  have HF : Hid (Calls Tryz.prog 53 #[.pointer (some ⟨S, 0, none⟩), .int .i64 r, .func (.func 66) #[] #[.pointer (some ⟨b1, 0, none⟩), .pointer (some ⟨b2, 0, none⟩), .pointer (some ⟨b3, 0, none⟩)]] w1 fun e w' => ∃ m : Int, e = .returned (.int .i64 m) ∧ GrantQ wB S g M cap top W H s b3 (grantF s R T r) w1 m w') := Lib.hid (by
    by_cases hr : 0 ≤ r ∧ r < R.length
    · obtain ⟨k, rfl⟩ := Int.eq_ofNat_of_zero_le hr.1
      have hk : k < R.length := by omega
      exact of_inGrant hS1 hk (grant1_any h hI hk hBx)
    · rw [grantF_out hr]
      exact (of_out hS1 r hr _).mono (fun e w' q => ⟨1, q.1, rfl, by rw [← q.2]; exact hB.c3, by rw [← q.2]; exact h.near hBx.below, by rw [← q.2]; exact Turn.refl _ _⟩))
  have x1 := hB.c1
  have x2 := hB.c2
  have l1 := hB.lt.1
  have l2 := hB.lt.2
  obtain ⟨z0, z1, z2, z3, z4, z5, z6⟩ := hA.cells
  have HB := Lib.hid hB
  have HA := Lib.hid hA
  have HH := Lib.hid h
  have HBS : Hid (wB.heap.size ≤ w.heap.size) := Lib.hid hBB.size
  clear hb1 hb2 hb3 hb4 hw1 hB hA h hS1 hI hBx hBB
  go_enter Tryz.func33, Tryz.ntmps33
  go_wp2_with fail
  rw [← HW.out, ← HE.out.1, ← HE.out.2.1, ← HE.out.2.2.1, ← HE.out.2.2.2]
  refine HF.out.mono ?_
  rintro e w2 ⟨m, rfl, rfl, ha, hs2, ht2⟩
  have hgs : g < w.heap.size ∧ M < w.heap.size := ⟨Nat.lt_of_lt_of_le (Nat.lt_of_lt_of_le HH.out.tops.2.1 HH.out.tops.2.2.2) HBS.out, Nat.lt_of_lt_of_le (Nat.lt_of_lt_of_le HH.out.tops.2.2.1 HH.out.tops.2.2.2) HBS.out⟩
  have ha4 : Ab b4 (0, 0, 0) w2 := (ht2.block b4 z3 (fun q => by
    have h1 := HLT.out
    rcases q with (q | q) | q
    · omega
    · omega
    · exact h1.2 q)).trans HA.out
  generalize grantF s R T r = G at *
  obtain ⟨⟨⟨x, y, z⟩, er⟩, R', T'⟩ := G
  simp only at ha hs2 ⊢
  have HFB : Hid (Ab b4 (x, y, z) (((w2.setCell ⟨b4, 0, none⟩ (.int .u8 (x : Int))).setCell ⟨b4, 1, none⟩ (.int .i64 y)).setCell ⟨b4, 2, none⟩ (.int .i64 z))) := Lib.hid (ha4.put x y z)
  have HFS : Hid (∀ w'', (((w2.setCell ⟨b4, 0, none⟩ (.int .u8 (x : Int))).setCell ⟨b4, 1, none⟩ (.int .i64 y)).setCell ⟨b4, 2, none⟩ (.int .i64 z)).heap.size ≤ w''.heap.size → (∀ q, q < wB.heap.size → w''.heap[q]? = (((w2.setCell ⟨b4, 0, none⟩ (.int .u8 (x : Int))).setCell ⟨b4, 1, none⟩ (.int .i64 y)).setCell ⟨b4, 2, none⟩ (.int .i64 z)).heap[q]?) → St w'' S g M cap top W H s R' T') := Lib.hid (fun w'' q1 q2 => hs2 _ (Nat.le_trans (by simp [World.setCell]) q1) (fun k hk => by
    have h1 := HLT.out.1
    have h2 := HBS.out
    rw [q2 k hk, heap_setCell_other _ ⟨b4, 2, none⟩ k _ (by show k ≠ b4; omega), heap_setCell_other _ ⟨b4, 1, none⟩ k _ (by show k ≠ b4; omega), heap_setCell_other _ ⟨b4, 0, none⟩ k _ (by show k ≠ b4; omega)]))
  have HFF : Hid (Fr g M w (((w2.setCell ⟨b4, 0, none⟩ (.int .u8 (x : Int))).setCell ⟨b4, 1, none⟩ (.int .i64 y)).setCell ⟨b4, 2, none⟩ (.int .i64 z))) := Lib.hid (by
    have h1 := HLT.out.1
    have h3 := HB.out.ge.2.2
    refine ⟨ht2.os.trans HB.out.below.os, ht2.tape.trans HB.out.below.tape, ht2.output.trans HB.out.below.output, by simp [World.setCell]; exact Nat.le_trans HB.out.below.size ht2.size, fun k hk hF => ?_, fun k hk => .inl hk⟩
    rw [heap_setCell_other _ ⟨b4, 2, none⟩ k _ (by show k ≠ b4; omega), heap_setCell_other _ ⟨b4, 1, none⟩ k _ (by show k ≠ b4; omega), heap_setCell_other _ ⟨b4, 0, none⟩ k _ (by show k ≠ b4; omega)]
    exact (ht2.block k (Nat.lt_of_lt_of_le hk HB.out.below.size) (fun q => by
      rcases q with q | q
      · exact hF q
      · omega)).trans (HB.out.below.block k hk))
  obtain ⟨y0, y1, y2, y3, _⟩ := ha.cells
  clear z0 z1 z2 z3 z4 z5 z6 x1 x2 l1 l2 HF
  obtain ⟨z0, z1, z2, z3, z4, z5, z6⟩ := ha4.cells
  clear ha ha4 hs2 ht2 hgs
  go_wp2_with fail
  obtain ⟨r0, r1, r2, _⟩ := HFB.out.cells
  exact bodyPost_ret (v := .tuple #[.agg #[.int .u8 (x : Int), .int .i64 y, .int .i64 z], .int .i64 er]) (by simp [results, Tryz.results33, go_sem, r0, r1, r2]) rfl ⟨rfl, HFS.out, HFF.out⟩
theorem grant_any (h : St w S g M cap top W H s R T) (hI : Inv W H s R T) (r : Int) : Calls Tryz.prog 33 #[.pointer (some ⟨S, 0, none⟩), .int .i64 r] w (GrantTold S g M cap top W H s (grantF s R T r) w) :=
  (grant_near h (Below.refl _ _) hI r).mono (fun e w' q => ⟨q.1, q.2.1 w' (Nat.le_refl _) (fun _ _ => rfl), q.2.2⟩)
/-- The same blocks, the same state. -/
theorem St.eq {w' : World} (h : St w S g M cap top W H s R T) (hsz : w.heap.size ≤ w'.heap.size) (hk : ∀ k, k < w.heap.size → w'.heap[k]? = w.heap[k]?) : St w' S g M cap top W H s R T :=
  h.like hsz (fun k q _ => hk k q) (h.lk.same (hk g h.lk.lt))
end
end Tf
end Go.Proofs.YtakgkocdkondhaaGreatDoor
end

section
namespace Go.Proofs.YtakgkocdkondhaaGreatDoor
namespace Tf
open Go.RowKit Fl Tr Pt
open Bk (Gt Lt Iw ivs Cm hold need Rg SafC MayP Goes own_lower own_later)
open Lk (Ow Rb Zo at9 zns Tb T0 LkAt Only owner9_any release9_any rel9 of9_any ToldI ToldA at9_set mem_zns)

theorem tb_ext {T T' : List Ow} (h : Tb T) (h' : Tb T') (he : ∀ y, at9 T y = at9 T' y) : T = T' := by
  refine List.ext_getElem (by rw [h.len, h'.len]) (fun i h1 h2 => ?_)
  rw [h.len] at h1
  have := he (i : Int)
  rw [Lk.at9_nat T h1, Lk.at9_nat T' h1] at this
  simpa [List.getD, List.getElem?_eq_getElem (show i < T.length by rw [h.len]; exact h1), List.getElem?_eq_getElem h2] using this
theorem zns_nodup (T : List Ow) (p : Ow) (n : Nat) : (zns T p n).Nodup := by
  unfold zns
  exact List.Pairwise.map _ (fun a b (h : a ≠ b) (e : ((a : Int)) = (b : Int)) => h (by omega)) (List.nodup_range.filter _)
/-- The table while zones are left, one by one. -/
structure Lv11 (T : List Ow) (r : Int) (Z : List Int) (j : Nat) (Tj : List Ow) : Prop where
  tb : Tb Tj
  is : ∀ y, at9 Tj y = if at9 T y = (r, true) ∧ y ∉ Z ∧ y ∈ (zns T (r, true) 26).take j then (0, false) else at9 T y
theorem Lv11.start {T : List Ow} (h : Tb T) (r : Int) (Z : List Int) : Lv11 T r Z 0 T := ⟨h, fun y => by rw [List.take_zero, if_neg (fun q => by cases q.2.2)]⟩
theorem take_getD {L : List Int} {j : Nat} (h : j < L.length) : L.take (j + 1) = L.take j ++ [L.getD j 0] := Bk.take_succ_getD h
theorem Lv11.skip {T Tj : List Ow} {r : Int} {Z : List Int} {j : Nat} (h : Lv11 T r Z j Tj) (hj : j < (zns T (r, true) 26).length) (hz : (zns T (r, true) 26).getD j 0 ∈ Z) : Lv11 T r Z (j + 1) Tj := by
  refine ⟨h.tb, fun y => ?_⟩
  rw [h.is y, take_getD hj]
  by_cases q : at9 T y = (r, true) ∧ y ∉ Z ∧ y ∈ (zns T (r, true) 26).take j
  · rw [if_pos q, if_pos ⟨q.1, q.2.1, List.mem_append.2 (.inl q.2.2)⟩]
  · rw [if_neg q, if_neg]
    rintro ⟨q1, q2, q3⟩
    rcases List.mem_append.1 q3 with q3 | q3
    · exact q ⟨q1, q2, q3⟩
    · rw [List.mem_singleton.1 q3] at q2; exact q2 hz
theorem Lv11.mine {T Tj : List Ow} {r : Int} {Z : List Int} {j : Nat} (h : Lv11 T r Z j Tj) (hj : j < (zns T (r, true) 26).length) : at9 Tj ((zns T (r, true) 26).getD j 0) = (r, true) ∧ at9 T ((zns T (r, true) 26).getD j 0) = (r, true) := by
  have hm : (zns T (r, true) 26).getD j 0 ∈ zns T (r, true) 26 := by rw [List.getD, List.getElem?_eq_getElem hj]; exact List.getElem_mem _
  have hT := at9_mem.1 hm
  refine ⟨?_, hT⟩
  rw [h.is, if_neg]
  · exact hT
  · rintro ⟨_, _, q⟩
    obtain ⟨i, hi, e⟩ := List.getElem_of_mem q
    rw [List.length_take] at hi
    rw [List.getElem_take] at e
    have e2 : (zns T (r, true) 26).getD j 0 = (zns T (r, true) 26)[j] := by rw [List.getD, List.getElem?_eq_getElem hj]; rfl
    rw [e2] at e
    exact (List.pairwise_iff_getElem.1 (zns_nodup T (r, true) 26)) i j (by omega) hj (by omega) e
theorem Lv11.drop {T Tj : List Ow} {r : Int} {Z : List Int} {j : Nat} (h : Lv11 T r Z j Tj) (hr : Rb r) (hj : j < (zns T (r, true) 26).length) (hz : (zns T (r, true) 26).getD j 0 ∉ Z) :
    rel9 Tj r ((zns T (r, true) 26).getD j 0) = (0, Tj.set ((zns T (r, true) 26).getD j 0).toNat (0, false)) ∧ Lv11 T r Z (j + 1) (Tj.set ((zns T (r, true) 26).getD j 0).toNat (0, false)) := by
  obtain ⟨m1, m2⟩ := h.mine hj
  have hzn := at9_zn m1
  have hzo : Zo ((zns T (r, true) 26).getD j 0) := hzn
  constructor
  · unfold rel9
    rw [if_neg (fun q => q ⟨hr, hzo⟩), if_pos m1]
  · refine ⟨h.tb.set (by have := hzn.1; have := hzn.2; omega) (fun _ => rfl) (fun e => by cases e), fun y => ?_⟩
    rw [at9_set h.tb hzo, take_getD hj]
    by_cases e : y = (zns T (r, true) 26).getD j 0
    · rw [if_pos e, if_pos ⟨by rw [e]; exact m2, by rw [e]; exact hz, by rw [e]; simp⟩]
    · rw [if_neg e, h.is y]
      by_cases q : at9 T y = (r, true) ∧ y ∉ Z ∧ y ∈ (zns T (r, true) 26).take j
      · rw [if_pos q, if_pos ⟨q.1, q.2.1, List.mem_append.2 (.inl q.2.2)⟩]
      · rw [if_neg q, if_neg]
        rintro ⟨q1, q2, q3⟩
        rcases List.mem_append.1 q3 with q3 | q3
        · exact q ⟨q1, q2, q3⟩
        · exact e (List.mem_singleton.1 q3)
theorem Lv11.all {T Tj : List Ow} {r : Int} {Z : List Int} {j : Nat} (h : Lv11 T r Z j Tj) (hT : Tb T) (hj : (zns T (r, true) 26).length ≤ j) : Tj = relF T r Z := by
  refine tb_ext h.tb (relF_tb hT r Z) (fun y => ?_)
  rw [h.is, relF_at, List.take_of_length_le hj]
  by_cases q : at9 T y = (r, true)
  · have := at9_mem.2 q
    by_cases q2 : y ∈ Z
    · rw [if_neg (fun k => k.2.1 q2), if_neg (fun k => k.2 q2)]
    · rw [if_pos ⟨q, q2, this⟩, if_pos ⟨q, q2⟩]
  · rw [if_neg (fun k => q k.1), if_neg (fun k => q k.1)]
theorem lt_il {B : Nat} {w : World} {A : Option Addr} {n c : Nat} {L : List Int} (h : Lt B w A n c L) : Il B w A n c (fun j => L.getD j 0) := by
  have hl := Bk.Lt.len h
  refine ⟨Bk.Gt.le h, Bk.Gt.max h, fun e => ?_, fun hn => ?_⟩
  · have := Bk.Gt.nil h e
    have := Bk.Gt.le h
    omega
  · obtain ⟨g, off, e, hg, hc⟩ := Bk.Gt.cell h (by omega)
    exact ⟨g, off, e, hg, fun j hj => by rw [hc j (by omega), Bk.ivs_get (by rw [hl]; exact hj)]⟩
theorem il_self (L : List Int) : il (fun j => L.getD j 0) L.length = L := by
  unfold il
  refine List.ext_getElem (by simp) (fun i h1 h2 => ?_)
  simp [List.getD, List.getElem?_eq_getElem h2]
section
variable {w : World} {S g M cap top : Nat} {W H : Int} {s : ByteArray} {R : List Mv} {T : List Ow}
set_option maxHeartbeats 4000000 in
theorem leave_any (h : St w S g M cap top W H s R T) (h8 : R.length ≤ 8) {k : Nat} (hk : k < R.length) (A : Option Addr) (n c : Nat) (Z : List Int) (hZ : Gh top 1 w A n c (ivs Z)) :
    Calls Tryz.prog 69 #[.pointer (some ⟨S, 0, none⟩), .int .i64 (k : Int), .slice A n c] w fun e w' => e = .returned (.tuple #[]) ∧ St w' S g M cap top W H s R (relF T (k : Int) Z) ∧ Only g w w' := by
  have HST := Lib.hid h
  have HZ := Lib.hid hZ
  have hlen : Z.length = n := by have := hZ.gt.len; simpa [ivs] using this
  subst hlen
  obtain ⟨_, _, _, s3, _, hS⟩ := h.cells
  have HOF := Lib.hid (of9_any h.lk (k : Int))
  have HRB : Hid (Rb (k : Int)) := Lib.hid ⟨by omega, by omega⟩
  have HGW : Hid (g < w.heap.size ∧ S ≠ g) := Lib.hid ⟨h.lk.lt, h.diff.1⟩
  clear h hZ
  go_enter Tryz.func69, Tryz.ntmps69
  go_wp2_with fail
  refine HOF.out.mono ?_
  rintro e w1 ⟨A1, n1, c1, rfl, hn1, ho1, hb1⟩
  have HN1 := Lib.hid hn1
  have HB1 := Lib.hid hb1
  have HZ1 := Lib.hid (Zs.own ho1 (Nat.le_refl _))
  have HST1 := Lib.hid (HST.out.later hb1)
  have HZZ1 := Lib.hid (HZ.out.keep (KeepT.of hb1))
  have hS1 := Nat.lt_of_lt_of_le hS hb1.size
  have s31 := (hb1.cell (p := ⟨S, 3, none⟩) hS).trans s3
  obtain ⟨hcc1, hcc2⟩ := ho1.lt.2.size
  clear hn1 ho1 hb1 s3 hS
  go_wp2_with fail
  go_loopw [15] (fun iv wr => ∃ (j : Nat) (Tj : List Ow), j ≤ n1 ∧ iv = .int .i64 (j : Int) ∧ Hid (Lv11 T (k : Int) Z j Tj ∧ St wr S g M cap top W H s R Tj ∧ Only g w1 wr)) (fun iv _ => n1 - (intOf iv).toNat)
  case atStart => exact ⟨0, T, by omega, rfl, Lib.hid ⟨Lv11.start HST.out.lk.tb _ _, HST1.out, Only.refl _ _⟩⟩
  case round =>
    rename World => wr
    obtain ⟨j, Tj, hj, rfl, HI⟩ := hrel
    by_cases hlt : j < n1
    · have HK : Hid (KeepT w.heap.size w1 wr) := Lib.hid (KeepT.turn HI.out.2.2 (fun q hq => by obtain rfl : q = g := hq; exact HGW.out.1))
      have HKT : Hid (KeepT top w1 wr) := Lib.hid (KeepT.turn HI.out.2.2 (fun q hq => by obtain rfl : q = g := hq; exact HST.out.tops.2.1))
      obtain ⟨A', n', c', e, hgh⟩ := HZ1.out.keep HK.out
      injection e with e1 e2 e3
      subst e1 e2 e3
      obtain ⟨gz, oz, rfl, hgz, kz⟩ := Bk.Lt.cell (j := j) (show Lt wr.heap.size wr A1 n1 c1 _ from hgh.gt) hlt
      have HJL : Hid (j < (zns T ((k : Int), true) 26).length) := Lib.hid (by rw [← HN1.out]; exact hlt)
      have HCO := Lib.hid ((contains_any _ A _ c _ ((zns T ((k : Int), true) 26).getD j 0) wr (lt_il (HZZ1.out.keep HKT.out).gt)).mono (fun e w' (q : e = _ ∧ wr = w') => q))
      rw [il_self] at HCO
      have s3r := HI.out.2.1.cells.2.2.2.1
      have hSr := HI.out.2.1.cells.2.2.2.2.2
      have hjI : (j : Int) < (n1 : Int) := by omega
      generalize hze : (zns T ((k : Int), true) 26).getD j 0 = z at *
      have HZE := Lib.hid hze
      clear hze hgh
      cases hin : Z.contains z with
      | true =>
        rw [hin] at HCO
        have HIN : Hid (z ∈ Z) := Lib.hid (by simpa using hin)
        clear hin
        go_wp2_with fail
        refine HCO.out.mono ?_
        rintro e w' ⟨rfl, rfl⟩
        go_wp2_with fail
        go_roundw
        case rel => exact ⟨j + 1, Tj, by omega, by go_num, Lib.hid ⟨HI.out.1.skip HJL.out (by rw [HZE.out]; exact HIN.out), HI.out.2⟩⟩
        case measure => simp [intOf]; omega
      | false =>
        rw [hin] at HCO
        have HIN : Hid (z ∉ Z) := Lib.hid (fun q => by rw [List.contains_iff_mem.2 q] at hin; cases hin)
        clear hin
        have hdr := HI.out.1.drop HRB.out HJL.out (by rw [HZE.out]; exact HIN.out)
        rw [HZE.out] at hdr
        have HRE := Lib.hid (release9_any HI.out.2.1.lk (k : Int) z)
        rw [hdr.1] at HRE
        have HDR := Lib.hid hdr.2
        clear hdr
        go_wp2_with fail
        refine HCO.out.mono ?_
        rintro e w' ⟨rfl, rfl⟩
        go_wp2_with fail
        refine HRE.out.mono ?_
        rintro e w5 ⟨rfl, hl5, ho5⟩
        have HD := Lib.hid (And.intro (HI.out.2.1.table ho5 hl5) (HI.out.2.2.trans ho5))
        clear hl5 ho5
        go_wp2_with fail
        go_roundw
        case rel => exact ⟨j + 1, _, by omega, by go_num, Lib.hid ⟨HDR.out, HD.out.1, HD.out.2⟩⟩
        case measure => simp [intOf]; omega
    · obtain rfl : j = n1 := by omega
      have HE := Lib.hid (HI.out.1.all HST.out.lk.tb (by rw [← HN1.out]; exact Nat.le_refl _))
      go_wp2_with fail
      go_end0
      exact ⟨rfl, by rw [← HE.out]; exact HI.out.2.1, (Only.of HB1.out).trans HI.out.2.2⟩
end
end Tf
end Go.Proofs.YtakgkocdkondhaaGreatDoor
end

section
namespace Go.Proofs.YtakgkocdkondhaaGreatDoor
namespace Tf
open Go.RowKit Fl Tr Pt
open Bk (Gt Lt Iw ivs Cm hold need Rg SafC MayP Goes own_lower own_later)
open Lk (Ow Rb Zo at9 zns Tb T0 LkAt Only)

/-- Where the cut from one on of tasks lies. -/
def cut4 (A : Option Addr) (c : Nat) : Option Addr := if c = 1 then A else A.map (·.add 4)
theorem slice_tasks (A : Option Addr) (n c : Nat) (w : World) (h : 1 ≤ n) : (Instr.slice 88 (.slice A n c) (some (.int .i64 1)) none none).run Tryz.prog w = .ok (.slice (cut4 A c) (n - 1) (c - 1)) w := by
  rw [run_slice_l w 88 A n c Tryz.underlying88 .i64 1 (by omega) (by omega)]
  simp [go_sem, cut4, Tryz.sizeOf99]
theorem cut4_some (g off c : Nat) : cut4 (some ⟨g, off, none⟩) c ≠ none ∧ (c ≠ 1 → cut4 (some ⟨g, off, none⟩) c = some ⟨g, off + 1 * 4, none⟩) ∧ ∀ ad, cut4 (some ⟨g, off, none⟩) c = some ad → ad.block = g := by
  unfold cut4
  have he : (Addr.add ⟨g, off, none⟩ 4) = ⟨g, off + 1 * 4, none⟩ := Bk.add_at g off 4
  refine ⟨?_, fun h => ?_, fun ad e => ?_⟩
  · split <;> simp
  · rw [if_neg h]; simp [he]
  · split at e
    · injection e with e; rw [← e]
    · simp only [Option.map_some, he] at e
      injection e with e
      rw [← e]
/-- What was done. -/
def doneF (s : ByteArray) (R : List Mv) (T : List Ow) (r : Int) : Int × List Mv × List Ow :=
  if 0 ≤ r ∧ r < R.length then
    (match getM R r.toNat with
    | (c, a :: l, true) => (0, R.set r.toNat (if a.1 = 1 then a.2.1 else c, l, false), if a.1 = 1 then relF T r (az s a) else T)
    | _ => (2, R, T))
  else (1, R, T)
section
variable {w : World} {S g M cap top : Nat} {W H : Int} {s : ByteArray} {R : List Mv} {T : List Ow}
theorem doneF_out {r : Int} (hr : ¬ (0 ≤ r ∧ r < R.length)) : doneF s R T r = (1, R, T) := by unfold doneF; rw [if_neg hr]
theorem doneF_none {k : Nat} (hk : k < R.length) (hb : (getM R k).2.2 = false) : doneF s R T (k : Int) = (2, R, T) := by
  unfold doneF
  rw [if_pos ⟨by omega, by omega⟩, Int.toNat_natCast]
  generalize getM R k = m at *
  obtain ⟨c, l, b⟩ := m
  have hb : b = false := hb
  subst hb
  cases l <;> rfl
theorem doneF_go {k : Nat} (hk : k < R.length) {c : Int} {a : Ac} {l : List Ac} (hm : getM R k = (c, a :: l, true)) : doneF s R T (k : Int) = (0, R.set k (if a.1 = 1 then a.2.1 else c, l, false), if a.1 = 1 then relF T (k : Int) (az s a) else T) := by
  unfold doneF
  rw [if_pos ⟨by omega, by omega⟩, Int.toNat_natCast, hm]
theorem Inv.doneF (h : Inv W H s R T) (r : Int) : Inv W H s (doneF s R T r).2.1 (doneF s R T r).2.2 := by
  by_cases hr : 0 ≤ r ∧ r < R.length
  · obtain ⟨k, rfl⟩ := Int.eq_ofNat_of_zero_le hr.1
    have hk : k < R.length := by omega
    cases hb : (getM R k).2.2 with
    | false => rw [doneF_none hk hb]; exact h
    | true =>
      have hne := h.busy k hk hb
      generalize hm : getM R k = m at *
      obtain ⟨c, l, b⟩ := m
      have hb : b = true := hb
      subst hb
      cases l with
      | nil => exact absurd rfl hne
      | cons a l => rw [doneF_go hk hm]; exact h.done hk hm
  · rw [doneF_out hr]; exact h
def DoneTold (S g M cap top : Nat) (W H : Int) (s : ByteArray) (D : Int × List Mv × List Ow) (w : World) (e : Ending) (w' : World) : Prop :=
  e = .returned (.int .i64 D.1) ∧ St w' S g M cap top W H s D.2.1 D.2.2 ∧ Fr g M w w'
def DoneQ (S g M cap top : Nat) (W H : Int) (s : ByteArray) (D : Int × List Mv × List Ow) (w : World) (m : Int) (w' : World) : Prop :=
  m = D.1 ∧ St w' S g M cap top W H s D.2.1 D.2.2 ∧ Fr g M w w'
theorem done1_none (h : St w S g M cap top W H s R T) {k : Nat} (hk : k < R.length) (hb : (getM R k).2.2 = false) (v1 v2 : Value) :
    Calls Tryz.prog 68 #[.pointer (some ⟨M, k * 3, none⟩), v1, v2] w fun e w' => e = .returned (.int .i64 2) ∧ w' = w := by
  obtain ⟨A, n, c, _, _, q2, _, _, hM⟩ := h.mover hk
  rw [hb] at q2
  clear h hb hk
  go_enter Tryz.func68, Tryz.ntmps68
  go_wp2_with fail
  go_ret
  exact ⟨rfl, rfl⟩
theorem St.putDone (h : St w S g M cap top W H s R T) {k : Nat} (hk : k < R.length) {cc : Int} {L l : List Ac} {b : Bool} (hm : getM R k = (cc, L, b)) {v : Value} (hL : Lf top w s v l) : St ((w.setCell ⟨M, k * 3 + 1, none⟩ v).setCell ⟨M, k * 3 + 2, none⟩ (.bool false)) S g M cap top W H s (R.set k (cc, l, false)) T := by
  have h1 := h.putLeft hk hL
  have h2 := h1.putLet (r := k) (by rw [List.length_set]; exact hk) false
  rw [getM_set R k k _ hk, if_pos rfl, List.set_set, hm] at h2
  exact h2
theorem St.putGo (h : St w S g M cap top W H s R T) {k : Nat} (hk : k < R.length) (cc : Int) (l : List Ac) (b : Bool) (hm : getM R k = (cc, l, b)) (y : Int) : St (w.setCell ⟨M, k * 3, none⟩ (.int .i64 y)) S g M cap top W H s (R.set k (y, l, b)) T := by
  have h1 := h.putCell hk y
  rw [hm] at h1
  exact h1
set_option maxHeartbeats 4000000 in
theorem done1_any (h : St w S g M cap top W H s R T) (hI : Inv W H s R T) {k : Nat} (hk : k < R.length) {b1 b2 : Nat} (x1 : w.cell? ⟨b1, 0, none⟩ = some (.pointer (some ⟨S, 0, none⟩))) (x2 : w.cell? ⟨b2, 0, none⟩ = some (.int .i64 (k : Int))) (l1 : b1 < w.heap.size) (l2 : b2 < w.heap.size) (ht : top ≤ b1 ∧ top ≤ b2) :
    Calls Tryz.prog 68 #[.pointer (some ⟨M, k * 3, none⟩), .pointer (some ⟨b1, 0, none⟩), .pointer (some ⟨b2, 0, none⟩)] w fun e w' => ∃ m : Int, e = .returned (.int .i64 m) ∧ DoneQ S g M cap top W H s (doneF s R T (k : Int)) w m w' := by
  cases hb : (getM R k).2.2 with
  | false =>
    rw [doneF_none hk hb]
    exact (done1_none h hk hb _ _).mono (fun e w' q => ⟨2, q.1, rfl, by rw [q.2]; exact h, by rw [q.2]; exact Fr.refl _ _ _⟩)
  | true =>
    have hne := hI.busy k hk hb
    obtain ⟨cc, a, l, hm⟩ : ∃ cc a l, getM R k = (cc, a :: l, true) := by
      generalize getM R k = m at *
      obtain ⟨c, l, b⟩ := m
      have hb : b = true := hb
      subst hb
      cases l with
      | nil => exact absurd rfl hne
      | cons a l => exact ⟨c, a, l, rfl⟩
    clear hne hb
    rw [doneF_go hk hm]
    obtain ⟨A, n, c, q0, q1, q2, hL, hfz, hM⟩ := h.mover hk
    rw [hm] at hL q2 q0
    obtain ⟨f0, f1, f2⟩ := hfz
    obtain ⟨hn, hc1, hc2⟩ := hL.len
    have hn0 : 1 ≤ n := by rw [hn]; simp
    have hnI : (0 : Int) < (n : Int) := by omega
    have HL := Lib.hid hL
    obtain ⟨g', off, a2, n2, c2, rfl, hg, k0, k1, k2, k3, hz, hgt⟩ := hL.cell (show 0 < n from hn0)
    have hz : Gh top 1 w a2 n2 c2 (ivs (az s a)) := hz
    have hp : off + 0 * 4 = off := by omega
    rw [hp] at k0 k1 k2 k3
    have hsl := slice_tasks (some ⟨g', off, none⟩) n c
    obtain ⟨v1, v2, v3⟩ := cut4_some g' off c
    have HTL := Lib.hid (hL.tail hn0 (cut4 (some ⟨g', off, none⟩) c) v1 (fun hx => v2 (by omega)) v3)
    obtain ⟨x, y, z⟩ := a
    have k0 : w.cell? ⟨g', off, none⟩ = some (.int .u8 (x : Int)) := k0
    have k1 : w.cell? ⟨g', off + 1, none⟩ = some (.int .i64 y) := k1
    have k2 : w.cell? ⟨g', off + 2, none⟩ = some (.int .i64 z) := k2
    have HST := Lib.hid h
    have HMM := Lib.hid hm
    have HI8 := Lib.hid hI.few
    have HT := Lib.hid ht
    -- behind the copy of the task
    have hB1 := (Below.refl w.heap.size w).alloc (Nat.le_refl _) (.cells #[.int .u8 (x : Int), .int .i64 y, .int .i64 z, .slice a2 n2 c2] 99)
    have HS1 := Lib.hid (h.later hB1)
    have HZ1 := Lib.hid (hz.keep (KeepT.of hB1))
    have HTL1 := Lib.hid (HTL.out.keep (KeepT.of hB1))
    have d0 : (w.alloc (.cells #[.int .u8 (x : Int), .int .i64 y, .int .i64 z, .slice a2 n2 c2] 99)).cell? ⟨w.heap.size, 0, none⟩ = some (.int .u8 (x : Int)) := by simp [World.cell?_alloc_new]
    have d1 : (w.alloc (.cells #[.int .u8 (x : Int), .int .i64 y, .int .i64 z, .slice a2 n2 c2] 99)).cell? ⟨w.heap.size, 1, none⟩ = some (.int .i64 y) := by simp [World.cell?_alloc_new]
    have d3 : (w.alloc (.cells #[.int .u8 (x : Int), .int .i64 y, .int .i64 z, .slice a2 n2 c2] 99)).cell? ⟨w.heap.size, 3, none⟩ = some (.slice a2 n2 c2) := by simp [World.cell?_alloc_new]
    have p1 := (hB1.cell (p := ⟨b1, 0, none⟩) l1).trans x1
    have p2 := (hB1.cell (p := ⟨b2, 0, none⟩) l2).trans x2
    have r0 := (hB1.cell (p := ⟨M, k * 3, none⟩) hM).trans q0
    have r1 := (hB1.cell (p := ⟨M, k * 3 + 1, none⟩) hM).trans q1
    have r2 := (hB1.cell (p := ⟨M, k * 3 + 2, none⟩) hM).trans q2
    obtain ⟨_, _, _, _, _, _, _, ⟨y0, y1, y2⟩, hM1⟩ := HS1.out.mover hk
    have l11 := Nat.lt_of_lt_of_le l1 hB1.size
    have l21 := Nat.lt_of_lt_of_le l2 hB1.size
    have hbx : w.heap.size < (w.alloc (.cells #[.int .u8 (x : Int), .int .i64 y, .int .i64 z, .slice a2 n2 c2] 99)).heap.size := by simp
    have HF1 : Hid (Fr g M w (w.alloc (.cells #[.int .u8 (x : Int), .int .i64 y, .int .i64 z, .slice a2 n2 c2] 99))) := Lib.hid (Fr.of hB1)
    have HWM : Hid (M < w.heap.size) := Lib.hid hM
    clear h hI hL hz hm ht hn v1 v2 v3 hB1 HL hp
    go_enter Tryz.func68, Tryz.ntmps68
    go_upto_region 4 with (fail)
    generalize w.alloc (.cells #[.int .u8 (x : Int), .int .i64 y, .int .i64 z, .slice a2 n2 c2] 99) = w1 at *
    have HBX : Hid (w.heap.size ≠ M ∧ b1 ≠ M ∧ b2 ≠ M) := Lib.hid ⟨by have := HWM.out; omega, by have := HT.out.1; have := HST.out.tops.2.2.1; omega, by have := HT.out.2; have := HST.out.tops.2.2.1; omega⟩
    generalize w.heap.size = tb at *
    clear x1 x2 q0 q1 q2 k0 k1 k2 k3 f0 f1 f2 l1 l2 hM hg
    go_upto_region 5 with (fail)
    generalize hv : Value.slice (cut4 (some ⟨g', off, none⟩) c) (n - 1) (c - 1) = v at *
    have HSB := Lib.hid (HS1.out.putDone hk (l := l) HMM.out HTL1.out)
    have hkc : ∀ (p : Addr) (u : Value), p.block ≠ M → w1.cell? p = some u → ((w1.setCell ⟨M, k * 3 + 1, none⟩ v).setCell ⟨M, k * 3 + 2, none⟩ (.bool false)).cell? p = some u := fun p u hp hc => (two_put hp).trans hc
    have d0 := hkc ⟨tb, 0, none⟩ _ HBX.out.1 d0
    have d1 := hkc ⟨tb, 1, none⟩ _ HBX.out.1 d1
    have d3 := hkc ⟨tb, 3, none⟩ _ HBX.out.1 d3
    have p1 := hkc ⟨b1, 0, none⟩ _ HBX.out.2.1 p1
    have p2 := hkc ⟨b2, 0, none⟩ _ HBX.out.2.2 p2
    have HFB : Hid (Fr g M w ((w1.setCell ⟨M, k * 3 + 1, none⟩ v).setCell ⟨M, k * 3 + 2, none⟩ (.bool false))) := Lib.hid ((HF1.out.put _ _).put _ _)
    have HKB : Hid (KeepT top w1 ((w1.setCell ⟨M, k * 3 + 1, none⟩ v).setCell ⟨M, k * 3 + 2, none⟩ (.bool false))) := Lib.hid ((KeepT.put _ _ HST.out.tops.2.2.1).trans (KeepT.put _ _ HST.out.tops.2.2.1))
    have hsz : ((w1.setCell ⟨M, k * 3 + 1, none⟩ v).setCell ⟨M, k * 3 + 2, none⟩ (.bool false)).heap.size = w1.heap.size := by simp [World.setCell]
    have HZB := Lib.hid (HZ1.out.keep HKB.out)
    rw [← hsz] at hM1 l11 l21 hbx
    clear hkc hsz HZ1 HKB HTL1 r0 r1 r2 y0 y1 y2 HTL hsl
    generalize (w1.setCell ⟨M, k * 3 + 1, none⟩ v).setCell ⟨M, k * 3 + 2, none⟩ (.bool false) = wB at *
    have hkl : k < (R.set k (cc, l, false)).length := by rw [List.length_set]; exact hk
    obtain ⟨_, _, _, m0, _, _, _, ⟨z0, _, _⟩, _⟩ := HSB.out.mover hkl
    by_cases hx : x = 1
    · subst hx
      have HSC := Lib.hid (HSB.out.putGo hkl cc l false (by rw [getM_set _ _ _ _ hk, if_pos rfl]) y)
      rw [List.set_set] at HSC
      have HZC : Hid (Gh top 1 (wB.setCell ⟨M, k * 3, none⟩ (.int .i64 y)) a2 n2 c2 (ivs (az s (1, y, z)))) := Lib.hid (HZB.out.keep (KeepT.put _ _ HST.out.tops.2.2.1))
      have HLV := Lib.hid (leave_any HSC.out (by rw [List.length_set]; exact HI8.out) (k := k) (by rw [List.length_set]; exact hk) a2 n2 c2 (az s (1, y, z)) HZC.out)
      have hne : ∀ (p : Addr) (u : Value), p.block ≠ M → wB.cell? p = some u → (wB.setCell ⟨M, k * 3, none⟩ (.int .i64 y)).cell? p = some u := fun p u hp hc => (World.cell?_of_block (a := p) (heap_setCell_other wB ⟨M, k * 3, none⟩ p.block _ hp)).trans hc
      have e3 := hne ⟨tb, 3, none⟩ _ HBX.out.1 d3
      have u1 := hne ⟨b1, 0, none⟩ _ HBX.out.2.1 p1
      have u2 := hne ⟨b2, 0, none⟩ _ HBX.out.2.2 p2
      have HFC : Hid (Fr g M w (wB.setCell ⟨M, k * 3, none⟩ (.int .i64 y))) := Lib.hid (HFB.out.put _ _)
      have hsz : (wB.setCell ⟨M, k * 3, none⟩ (.int .i64 y)).heap.size = wB.heap.size := by simp [World.setCell]
      have l12 := l11
      have l22 := l21
      have hbx2 := hbx
      rw [← hsz] at l12 l22 hbx2
      clear hne hsz
      go_upto_region 7 with (fail)
      generalize wB.setCell ⟨M, k * 3, none⟩ (.int .i64 y) = wC at *
      clear d0 d1 d3 p1 p2
      go_wp2_with fail
      refine HLV.out.mono ?_
      rintro e w7 ⟨rfl, hs7, ho7⟩
      have HS7 := Lib.hid (And.intro hs7 (HFC.out.trans (Fr.only ho7 M)))
      clear hs7 ho7
      go_wp2_with fail
      go_ret
      exact ⟨0, rfl, rfl, HS7.out.1, HS7.out.2⟩
    · have dx : ((x : Int) == 1) = false := by rw [beq_eq_false_iff_ne]; omega
      have HX := Lib.hid hx
      clear hx
      go_wp2_with fail
      go_ret
      exact ⟨0, rfl, rfl, HSB.out, HFB.out⟩
theorem done_any (h : St w S g M cap top W H s R T) (hI : Inv W H s R T) (r : Int) : Calls Tryz.prog 34 #[.pointer (some ⟨S, 0, none⟩), .int .i64 r] w (DoneTold S g M cap top W H s (doneF s R T r) w) := by
  have hc1 : (w.alloc (.cells #[.pointer (some ⟨S, 0, none⟩)] 27)).cell? ⟨w.heap.size, 0, none⟩ = some (.pointer (some ⟨S, 0, none⟩)) := by simp [World.cell?_alloc_new]
  have hs1 : (w.alloc (.cells #[.pointer (some ⟨S, 0, none⟩)] 27)).heap.size = w.heap.size + 1 := by simp
  have hB2 : Below (w.alloc (.cells #[.pointer (some ⟨S, 0, none⟩)] 27)).heap.size _ ((w.alloc (.cells #[.pointer (some ⟨S, 0, none⟩)] 27)).alloc (.cells #[.int .i64 r] 3)) := (Below.refl _ _).alloc (Nat.le_refl _) _
  have x1 : ((w.alloc (.cells #[.pointer (some ⟨S, 0, none⟩)] 27)).alloc (.cells #[.int .i64 r] 3)).cell? ⟨w.heap.size, 0, none⟩ = some (.pointer (some ⟨S, 0, none⟩)) := (hB2.cell (p := ⟨w.heap.size, 0, none⟩) (by rw [hs1]; exact Nat.lt_succ_self _)).trans hc1
  have x2 : ((w.alloc (.cells #[.pointer (some ⟨S, 0, none⟩)] 27)).alloc (.cells #[.int .i64 r] 3)).cell? ⟨w.heap.size + 1, 0, none⟩ = some (.int .i64 r) := by rw [← hs1]; simp
  have hB : Below w.heap.size w ((w.alloc (.cells #[.pointer (some ⟨S, 0, none⟩)] 27)).alloc (.cells #[.int .i64 r] 3)) := ((Below.refl w.heap.size w).alloc (Nat.le_refl _) _).alloc (by simp) _
  have l1 : w.heap.size < ((w.alloc (.cells #[.pointer (some ⟨S, 0, none⟩)] 27)).alloc (.cells #[.int .i64 r] 3)).heap.size := by simp; omega
  have l2 : w.heap.size + 1 < ((w.alloc (.cells #[.pointer (some ⟨S, 0, none⟩)] 27)).alloc (.cells #[.int .i64 r] 3)).heap.size := by simp
  have HB := Lib.hid hB
  have hS1 := h.later hB
  have HF : Hid (Calls Tryz.prog 53 #[.pointer (some ⟨S, 0, none⟩), .int .i64 r, .func (.func 68) #[] #[.pointer (some ⟨w.heap.size, 0, none⟩), .pointer (some ⟨w.heap.size + 1, 0, none⟩)]] ((w.alloc (.cells #[.pointer (some ⟨S, 0, none⟩)] 27)).alloc (.cells #[.int .i64 r] 3)) fun e w' => ∃ m : Int, e = .returned (.int .i64 m) ∧ DoneQ S g M cap top W H s (doneF s R T r) ((w.alloc (.cells #[.pointer (some ⟨S, 0, none⟩)] 27)).alloc (.cells #[.int .i64 r] 3)) m w') := Lib.hid (by
    by_cases hr : 0 ≤ r ∧ r < R.length
    · obtain ⟨k, rfl⟩ := Int.eq_ofNat_of_zero_le hr.1
      have hk : k < R.length := by omega
      exact of_inDone hS1 hk (done1_any hS1 hI hk x1 x2 l1 l2 ⟨h.tops.2.2.2, Nat.le_succ_of_le h.tops.2.2.2⟩)
    · rw [doneF_out hr]
      exact (of_out hS1 r hr _).mono (fun e w' q => ⟨1, q.1, rfl, by rw [← q.2]; exact hS1, by rw [← q.2]; exact Fr.refl _ _ _⟩))
  clear hc1 hs1 hB2 hB hS1 hI h
  go_enter Tryz.func34, Tryz.ntmps34
  go_wp2_with fail
  refine HF.out.mono ?_
  rintro e w2 ⟨m, rfl, rfl, hs2, hf2⟩
  have HS2 := Lib.hid (And.intro hs2 ((Fr.of HB.out).trans hf2))
  clear hs2 hf2
  go_wp2_with fail
  go_ret
  exact ⟨rfl, HS2.out.1, HS2.out.2⟩
end
end Tf
end Go.Proofs.YtakgkocdkondhaaGreatDoor
end

section
namespace Go.Proofs.YtakgkocdkondhaaGreatDoor
namespace Tf
open Go.RowKit Fl Tr Pt
open Bk (Gt Lt Iw ivs Cm hold need Rg SafC MayP Goes own_lower own_later)
open Lk (Ow Rb Zo at9 zns Tb T0 LkAt Only new9_any ocl)

theorem robot0 {W H : Int} {s : ByteArray} (h : Right W H s) : IsRobot W H s 0 := by
  refine ⟨h, Int.le_refl _, ?_⟩
  obtain ⟨a, b, rfl, rfl, hS, hR⟩ := rightNat h
  rw [hS.sz]
  have : 1 ≤ (docks a b (at_ s)).length := hR.docks.one
  have e : (pick isD (at_ s) (a * b)).length = (docks a b (at_ s)).length := rfl
  omega
/-- Robots that were made so far, in their docks. -/
def docked (s : ByteArray) (j : Nat) : List Mv := (List.range j).map fun r : Nat => (dk s (r : Int), [], false)
theorem docked_len (s : ByteArray) (j : Nat) : (docked s j).length = j := by simp [docked]
theorem docked_get (s : ByteArray) {j r : Nat} (h : r < j) : getM (docked s j) r = (dk s (r : Int), [], false) := by
  unfold getM docked
  simp [List.getD, h]
theorem docked_inv {W H : Int} {s : ByteArray} (hR : Right W H s) : Inv W H s (docked s (pick isD (at_ s) s.size).length) T0 := by
  refine Inv.start hR (docked_len s _) (fun r hr => ?_)
  rw [docked_len] at hr
  obtain ⟨h8, d, hd⟩ := right_first hR r hr
  refine ⟨d, hd, ?_⟩
  rw [docked_get s hr, dk_is (r := (r : Int)) (by rw [Int.toNat_natCast]; exact hd)]
def dcl (s : ByteArray) (j : Nat) : List Mp := (List.range j).map fun r : Nat => (dk s (r : Int), .slice none 0 0, false)
theorem dcl_len (s : ByteArray) (j : Nat) : (dcl s j).length = j := by simp [dcl]
theorem dcl_succ (s : ByteArray) (j : Nat) : mcl (dcl s (j + 1)) = mcl (dcl s j) ++ [.int .i64 (dk s (j : Int)), .slice none 0 0, .bool false] := by
  unfold dcl
  rw [List.range_succ, List.map_append, mcl_app]
  rfl
theorem dcl_ro (top : Nat) (w : World) (s : ByteArray) (j : Nat) : Ro top w s (dcl s j) (docked s j) := by
  refine ⟨by rw [dcl_len, docked_len], fun r p e => ?_⟩
  have hr : r < j := by have := (List.getElem?_eq_some_iff.1 e).1; rw [dcl_len] at this; exact this
  rw [docked_get s hr]
  have e2 : p = (dk s (r : Int), .slice none 0 0, false) := by
    unfold dcl at e
    rw [List.getElem?_map, List.getElem?_range hr] at e
    injection e with e
    exact e.symm
  subst e2
  exact ⟨rfl, rfl, Lf.nil top w s⟩
/-- The state's box, with robots. -/
structure Nw (w0 : World) (S g : Nat) (W H : Int) (s : ByteArray) (j : Nat) (A : Option Addr) (c : Nat) (wr : World) : Prop where
  below : Below w0.heap.size w0 wr
  ge : w0.heap.size + 1 ≤ S ∧ w0.heap.size ≤ g ∧ g < wr.heap.size ∧ S ≠ g
  box : wr.heap[S]? = some (.cells #[.int .i64 W, .int .i64 H, .string s, .pointer (some ⟨g, 0, none⟩), .slice A j c] 87 (0, 0))
  lk : LkAt wr g T0
  row : wr.ownsRow (max S g + 1) 90 3 (.slice A j c) j (mcl (dcl s j))
theorem Nw.later {w0 wr w' : World} {S g : Nat} {W H : Int} {s : ByteArray} {j : Nat} {A : Option Addr} {c : Nat} (h : Nw w0 S g W H s j A c wr) (hb : Below wr.heap.size wr w') : Nw w0 S g W H s j A c w' :=
  ⟨h.below.trans (hb.mono h.below.size), ⟨h.ge.1, h.ge.2.1, Nat.lt_of_lt_of_le h.ge.2.2.1 hb.size, h.ge.2.2.2⟩, (hb.block S (lt_of_heap h.box)).trans h.box, h.lk.later hb, own_later h.row hb⟩
theorem Nw.cells {w0 wr : World} {S g : Nat} {W H : Int} {s : ByteArray} {j : Nat} {A : Option Addr} {c : Nat} (h : Nw w0 S g W H s j A c wr) : wr.cell? ⟨S, 4, none⟩ = some (.slice A j c) ∧ wr.frozen? ⟨S, 4, none⟩ = false ∧ S < wr.heap.size :=
  ⟨by rw [cell_of_row wr S 4 _ _ _ h.box]; rfl, frozen_of_row wr S 4 _ _ h.box, lt_of_heap h.box⟩
def NewTold (W H : Int) (s : ByteArray) (w : World) (e : Ending) (w' : World) : Prop :=
  (¬ Right W H s ∧ e = .returned (.tuple #[.pointer none, .int .i64 30]) ∧ Below w.heap.size w w') ∨
  (Right W H s ∧ ∃ S g M cap top, e = .returned (.tuple #[.pointer (some ⟨S, 0, none⟩), .int .i64 0]) ∧ St w' S g M cap top W H s (docked s (pick isD (at_ s) s.size).length) T0 ∧ (w.heap.size ≤ g ∧ w.heap.size ≤ M ∧ w.heap.size ≤ S) ∧ Below w.heap.size w w')
theorem Nw.done {w0 wr : World} {S g : Nat} {W H : Int} {s : ByteArray} {j : Nat} {A : Option Addr} {c : Nat} (h : Nw w0 S g W H s j A c wr) (hj : 0 < j) : ∃ M, A = some ⟨M, 0, none⟩ ∧ St wr S g M c wr.heap.size W H s (docked s j) T0 ∧ w0.heap.size ≤ M := by
  obtain ⟨h1, h2, h3, h4, h5⟩ := h
  have h5' := h5
  rcases h5.2 with ⟨q, q2⟩ | ⟨M, cp, cur, q, hg2, hh, _⟩
  · injection q with q1 q2; omega
  · injection q with q1 q2 q3
    subst q1 q3
    have hM := lt_of_heap hh
    have hge : max S g + 1 ≤ M := hg2
    refine ⟨M, rfl, ⟨?_, h4, ⟨dcl s j, ?_, dcl_ro _ _ s j⟩, ⟨lt_of_heap h3, h2.2.2.1, hM, Nat.le_refl _⟩, ⟨h2.2.2.2, by omega, by omega⟩⟩, by omega⟩
    · rw [docked_len]; exact h3
    · rw [docked_len]; exact own_lower h5' (Nat.zero_le _)
theorem Nw.boxes {w0 wr : World} {S g : Nat} {W H : Int} {s : ByteArray} {j : Nat} {A : Option Addr} {c : Nat} (h : Nw w0 S g W H s j A c wr) : max S g + 1 ≤ wr.heap.size := by
  have h1 := lt_of_heap h.box
  have h2 := h.ge.2.2.1
  omega
/-- One more robot. -/
theorem Nw.add {w0 wr w5 : World} {S g : Nat} {W H : Int} {s : ByteArray} {j n5 : Nat} {A A5 : Option Addr} {c c5 : Nat} (h : Nw w0 S g W H s j A c wr) (hb : Below (max S g + 1) wr w5) (hn : n5 = j + 1) (ho : w5.ownsRow (max S g + 1) 90 3 (.slice A5 n5 c5) n5 (mcl (dcl s j) ++ [.int .i64 (dk s (j : Int)), .slice none 0 0, .bool false])) :
    Nw w0 S g W H s (j + 1) A5 c5 (w5.setCell ⟨S, 4, none⟩ (.slice A5 n5 c5)) := by
  subst hn
  obtain ⟨h1, h2, h3, h4, h5⟩ := h
  have hS : w5.heap[S]? = _ := (hb.block S (by omega)).trans h3
  have hg := (hb.block g (by omega))
  refine ⟨(h1.trans (hb.mono (by have := h2.1; omega))).setCell (p := ⟨S, 4, none⟩) (by have := h2.1; show _ ≤ S; omega) _, ⟨h2.1, h2.2.1, by simp [World.setCell]; exact Nat.lt_of_lt_of_le h2.2.2.1 hb.size, h2.2.2.2⟩, ?_, ?_, ?_⟩
  · have := heap_setCell_same w5 S 4 _ _ (.slice A5 (j + 1) c5) hS
    exact this
  · refine (h4.same hg).same (heap_setCell_other w5 ⟨S, 4, none⟩ g _ (fun e => h2.2.2.2 e.symm))
  · rw [dcl_succ]
    exact ownsRow_same ho (fun k hk => heap_setCell_other w5 ⟨S, 4, none⟩ k _ (fun e => by have := (ho.lt k hk).1; have e : k = S := e; omega))
theorem gt_mover (w : World) (x : Int) : Gt 3 (w.alloc (.cells #[.int .i64 x, .slice none 0 0, .bool false] 90)).heap.size (w.alloc (.cells #[.int .i64 x, .slice none 0 0, .bool false] 90)) (some ⟨w.heap.size, 0, none⟩) 1 1 [.int .i64 x, .slice none 0 0, .bool false] := by
  refine ⟨rfl, Nat.le_refl _, by unfold maxLen; omega, fun h => (by cases h), fun _ => ⟨w.heap.size, 0, rfl, by simp, fun j hj => ?_⟩⟩
  rcases (by omega : j = 0 ∨ j = 1 ∨ j = 2) with rfl | rfl | rfl <;> simp [World.cell?_alloc_new]
theorem app_movers {w : World} {ops : Array Oper} {rest : List Oper} {o : Oper} {a : Act} {Q : Exit → Act → World → Prop} (hgd : o.guard = none) (s x : Operand) (ho : o.op = .call { callee := .builtin .append, args := #[s, x], argTypes := #[85, 85] })
    (base : Nat) (v : Value) (n : Nat) (xs : List Value) (hs : a.eval s = v) (hown : w.ownsRow base 90 3 v n xs)
    (A : Option Addr) (m c : Nat) (ys : List Value) (hx : a.eval x = .slice A m c) (hr : Gt 3 w.heap.size w A m c ys) (h1 : ∀ u ∈ ys, u.oneCell' = true) (hb : n + m ≤ 1000000) (hbase : base ≤ w.heap.size)
    (h : ∀ A' c' w', w'.ownsRow base 90 3 (.slice A' (n + m) c') (n + m) (xs ++ ys) → Below base w w' → wpList Tryz.prog ops Q rest (a.put o.dst (.slice A' (n + m) c')) w') : wpList Tryz.prog ops Q (o :: rest) a w := by
  obtain ⟨i0, hi, hz0, hz1, hz2⟩ := info_parts Tryz.infoMover
  exact Bk.appG 85 90 i0 _ 3 40 Tryz.underlying85 hi hz0 hz1 hz2 rfl (by decide) (by decide) hgd s x ho base v n xs hs hown A m c ys hx hr h1 hb hbase (fun A' c' w' q1 q2 _ _ => h A' c' w' q1 q2)
set_option maxHeartbeats 4000000 in
theorem new_any (W H : Int) (s : ByteArray) (hs : s.size ≤ maxLen) (w : World) : Calls Tryz.prog 12 #[.agg #[.int .i64 W, .int .i64 H, .string s]] w (NewTold W H s w) := by
  have HRT := Lib.hid (fun wx => Go.Proofs.YtakgkocdkondhaaGreatDoor.right_any W H s hs wx)
  have HRO := Lib.hid (fun wx => robots_any W H s hs wx)
  have HDK := Lib.hid (fun r wx => dock_any W H s hs r wx)
  go_enter Tryz.func12, Tryz.ntmps12
  go_wp2_with fail
  have HX0 := Lib.hid (Box.start w W H s 25)
  refine (HRT.out _).mono ?_
  rintro e w1 ⟨b, rfl, hb, hb1⟩
  have HX1 := Lib.hid (HX0.out.after hb1)
  have HBR := Lib.hid hb
  have c0 := HX1.out.c0
  have c1 := HX1.out.c1
  have c2 := HX1.out.c2
  have hlt := HX1.out.lt
  clear hb hb1
  cases b with
  | false =>
    go_wp2_with fail
    go_ret2
    exact .inl ⟨fun q => (by have := HBR.out.2 q; cases this), rfl, HX1.out.below⟩
  | true =>
    have HR := Lib.hid (HBR.out.1 rfl)
    go_upto_region 3 with (fail)
    go_region_held3 (fun w' => w'.cell? ⟨w.heap.size, 0, none⟩ = some (.int .i64 W) ∧ w'.cell? ⟨w.heap.size, 1, none⟩ = some (.int .i64 H) ∧ w'.cell? ⟨w.heap.size, 2, none⟩ = some (.string s)) (go_keep)
      ((go_at_call 41; refine (new9_any _).mono ?_; rintro e w2 ⟨rfl, rfl⟩))
    all_goals
      have hNW : Nw w (w1.heap.size + 1) w1.heap.size W H s 0 none 0 ((w1.alloc (.cells (ocl T0).toArray 132)).alloc (.cells #[.int .i64 W, .int .i64 H, .string s, .pointer (some ⟨w1.heap.size, 0, none⟩), .slice none 0 0] 87)).drew := by
        have hs1 : (w1.alloc (.cells (ocl T0).toArray 132)).heap.size = w1.heap.size + 1 := by simp
        have hb2 : Below w1.heap.size w1 (w1.alloc (.cells (ocl T0).toArray 132)) := (Below.refl _ _).alloc (Nat.le_refl _) _
        have hl := LkAt.new w1
        have hbx := heap_alloc_new (w1.alloc (.cells (ocl T0).toArray 132)) (.cells #[.int .i64 W, .int .i64 H, .string s, .pointer (some ⟨w1.heap.size, 0, none⟩), .slice none 0 0] 87)
        rw [hs1] at hbx
        have hb3 : Below (w1.alloc (.cells (ocl T0).toArray 132)).heap.size _ ((w1.alloc (.cells (ocl T0).toArray 132)).alloc (.cells #[.int .i64 W, .int .i64 H, .string s, .pointer (some ⟨w1.heap.size, 0, none⟩), .slice none 0 0] 87)) := (Below.refl _ _).alloc (Nat.le_refl _) _
        have hws := HX1.out.below.size
        refine Nw.later ⟨HX1.out.below.trans ((hb2.trans (hb3.mono hb2.size)).mono hws), ⟨by omega, by omega, by simp; omega, by omega⟩, hbx, (hl.later hb3), World.ownsRow_nil _ _ _ _⟩ (Below.refl _ _).drew
      have hX2 : Box w W H s ((w1.alloc (.cells (ocl T0).toArray 132)).alloc (.cells #[.int .i64 W, .int .i64 H, .string s, .pointer (some ⟨w1.heap.size, 0, none⟩), .slice none 0 0] 87)).drew := ((HX1.out.after ((Below.refl _ _).alloc (Nat.le_refl _) _)).after ((Below.refl _ _).alloc (Nat.le_refl _) _)).drew
      generalize ((w1.alloc (.cells (ocl T0).toArray 132)).alloc (.cells #[.int .i64 W, .int .i64 H, .string s, .pointer (some ⟨w1.heap.size, 0, none⟩), .slice none 0 0] 87)).drew = w2 at *
      generalize w1.heap.size + 1 = S at *
      generalize w1.heap.size = g at *
      have HNW := Lib.hid hNW
      have HX2 := Lib.hid hX2
      have d0 := hX2.c0
      have d1 := hX2.c1
      have d2 := hX2.c2
      have dl := hX2.lt
      clear hNW hX2 c0 c1 c2 hlt
      go_wp2_with fail
      refine (HRO.out _).mono ?_
      rintro e w3 ⟨n, rfl, hn, _, hb3⟩
      have HNN := Lib.hid (hn HR.out)
      have HNW3 := Lib.hid (HNW.out.later hb3)
      have HX3 := Lib.hid (HX2.out.after hb3)
      have hn8 : n ≤ 8 := by
        rw [hn HR.out]
        rcases Nat.lt_or_ge 8 (pick isD (at_ s) s.size).length with q | q
        · have := (right_first HR.out 8 q).1
          omega
        · exact q
      clear hn hb3 d0 d1 d2 dl
      go_wp2_with fail
      go_loopw [17] (fun iv wr => ∃ (j : Nat) (A : Option Addr) (c : Nat), j ≤ n ∧ iv = .int .i64 (j : Int) ∧ Hid (Nw w S g W H s j A c wr ∧ Box w W H s wr)) (fun iv _ => n - (intOf iv).toNat)
      case atStart => exact ⟨0, none, 0, by omega, rfl, Lib.hid ⟨HNW3.out, HX3.out⟩⟩
      case round =>
        rename World => wr
        obtain ⟨j, A, c, hj, rfl, HI⟩ := hrel
        by_cases hlt : j < n
        · have e0 := HI.out.2.c0
          have e1 := HI.out.2.c1
          have e2 := HI.out.2.c2
          have el := HI.out.2.lt
          have hjI : (j : Int) < (n : Int) := by omega
          go_wp2_with fail
          refine (HDK.out (j : Int) _).mono ?_
          rintro e w4 ⟨d, b, rfl, h1, _, hb4⟩
          obtain ⟨hf, rfl⟩ := h1 ⟨HR.out, by omega, by rw [← HNN.out]; omega⟩
          have HD := Lib.hid (dk_is hf)
          have HI4 := Lib.hid (And.intro (HI.out.1.later hb4) (HI.out.2.after hb4))
          clear h1 hb4 hf e0 e1 e2 el
          have hBm := (Below.refl w4.heap.size w4).alloc (Nat.le_refl _) (.cells #[.int .i64 (d : Int), .slice none 0 0, .bool false] 90)
          have HI5 := Lib.hid (HI4.out.1.later hBm)
          have HX5 := Lib.hid (HI4.out.2.after hBm)
          have HGT := Lib.hid (gt_mover w4 (d : Int))
          have HBX := Lib.hid HI5.out.boxes
          obtain ⟨y0, y1, y2⟩ := HI4.out.1.cells
          obtain ⟨z0, z1, z2⟩ := HI5.out.cells
          clear hBm
          go_wp2_with (at_builtin; refine app_movers rfl _ _ rfl (max S g + 1) _ j (mcl (dcl s j)) rfl HI5.out.row (some ⟨w4.heap.size, 0, none⟩) 1 1 [.int .i64 (d : Int), .slice none 0 0, .bool false] rfl HGT.out (by simp [Value.oneCell']) (by omega) HBX.out ?_; intro A5 c5 w5 ho5 hb5; have HO5 := Lib.hid ho5; have HB5 := Lib.hid hb5; have HN5 := Lib.hid (HI5.out.add hb5 rfl (by rw [HD.out]; exact ho5)); have x4 := (hb5.cell (p := ⟨S, 4, none⟩) (by show S < max S g + 1; omega)).trans z0; have xf : w5.frozen? ⟨S, 4, none⟩ = false := (by have hq := (hb5.block S (by omega)).trans HI5.out.box; exact frozen_of_row w5 S 4 _ _ hq); have xl := Nat.lt_of_lt_of_le z2 hb5.size; have HX6 := Lib.hid ((HX5.out.later (hb5.mono (by have := HI5.out.ge.1; omega))).later ((Below.refl _ w5).setCell (p := ⟨S, 4, none⟩) (by show w.heap.size + 1 ≤ S; exact HI5.out.ge.1) (.slice A5 (j + 1) c5))); clear ho5 hb5)
          go_roundw
          case rel => exact ⟨j + 1, A5, c5, by omega, by go_num, Lib.hid ⟨HN5.out, HX6.out⟩⟩
          case measure => simp [intOf]; omega
        · obtain rfl : j = n := by omega
          have HJ : Hid (0 < j) := Lib.hid (by
            have h0 := (robot0 HR.out).2.2
            rw [HNN.out]
            omega)
          go_wp2_with fail
          go_ret2
          obtain ⟨M, rfl, hst, hM⟩ := HI.out.1.done HJ.out
          exact .inr ⟨HR.out, S, g, M, c, wr.heap.size, rfl, by rw [← HNN.out]; exact hst, ⟨HI.out.1.ge.2.1, hM, Nat.le_of_succ_le HI.out.1.ge.1⟩, HI.out.1.below⟩
end Tf
end Go.Proofs.YtakgkocdkondhaaGreatDoor
end
