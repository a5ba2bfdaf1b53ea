/-
  Layer 11: all come home: how much is left; started, home.
-/
import Derived.Test.YtellaeihcignaaaGreatDoorTfT
set_option linter.unusedVariables false
set_option maxRecDepth 100000
namespace Go.Proofs.YtellaeihcignaaaGreatDoor
namespace Tf
open Go.RowKit Fl Tr Pt
open Bk (Goes)
open Lk (Ow T0 zns at9)

/-- How many grants a robot still needs. -/
def td (m : Mv) : Nat := m.2.1.length - (if m.2.2 = true then 1 else 0)
def sT (R : List Mv) : Nat → Nat
  | 0 => 0
  | q + 1 => sT R q + td (getM R q)
def sA (R : List Mv) : Nat → Nat
  | 0 => 0
  | q + 1 => sA R q + (getM R q).2.1.length
def sB (R : List Mv) : Nat → Nat
  | 0 => 0
  | q + 1 => sB R q + (if (getM R q).2.2 = true then 1 else 0)
theorem sT_set (R : List Mv) (r : Nat) (m : Mv) (hr : r < R.length) : ∀ q, sT (R.set r m) q + (if r < q then td (getM R r) else 0) = sT R q + (if r < q then td m else 0)
  | 0 => by simp [sT]
  | q + 1 => by
    have ih := sT_set R r m hr q
    simp only [sT]
    rw [getM_set R r q m hr]
    by_cases e : q = r
    · subst e
      rw [if_neg (by omega), if_neg (by omega)] at ih
      rw [if_pos rfl, if_pos (by omega), if_pos (by omega)]
      omega
    · rw [if_neg e]
      by_cases h : r < q
      · rw [if_pos h, if_pos h] at ih
        rw [if_pos (by omega), if_pos (by omega)]
        omega
      · rw [if_neg h, if_neg h] at ih
        rw [if_neg (by omega), if_neg (by omega)]
        omega
def todo (R : List Mv) : Nat := sT R R.length
theorem todo_set (R : List Mv) (r : Nat) (m : Mv) (hr : r < R.length) : todo (R.set r m) + td (getM R r) = todo R + td m := by
  have := sT_set R r m hr R.length
  rw [if_pos hr, if_pos hr] at this
  unfold todo
  rw [List.length_set]
  exact this
section
variable {W H : Int} {s : ByteArray} {R : List Mv} {T : List Ow}
theorem sums (h : Inv W H s R T) : ∀ q, q ≤ R.length → sA R q = sT R q + sB R q ∧ sA R q ≤ q * 1024
  | 0, _ => by simp [sA, sT, sB]
  | q + 1, hq => by
    obtain ⟨ih1, ih2⟩ := sums h q (by omega)
    have hl := h.lens q (by omega)
    have hb := h.busy q (by omega)
    simp only [sA, sT, sB, td]
    by_cases e : (getM R q).2.2 = true
    · have := List.length_pos_iff.2 (hb e)
      rw [if_pos e]
      omega
    · rw [if_neg e]
      omega
theorem sT_zero : ∀ q, (∀ i, i < q → (getM R i).2.1 = []) → sT R q = 0
  | 0, _ => rfl
  | q + 1, h => by
    simp only [sT, td]
    rw [sT_zero q (fun i hi => h i (by omega)), h q (by omega)]
    simp
theorem todo_done (h : Inv W H s R T) {k : Nat} (hk : k < R.length) {c : Int} {a : Ac} {l : List Ac} (hm : getM R k = (c, a :: l, true)) (c' : Int) : todo (R.set k (c', l, false)) = todo R := by
  have := todo_set R k (c', l, false) hk
  rw [hm] at this
  simp only [td, List.length_cons, if_true, Bool.false_eq_true, if_false] at this
  omega
theorem todo_grant {k : Nat} (hk : k < R.length) {c : Int} {a : Ac} {l : List Ac} (hm : getM R k = (c, a :: l, false)) : todo (R.set k (c, a :: l, true)) + 1 = todo R := by
  have := todo_set R k (c, a :: l, true) hk
  rw [hm] at this
  simp only [td, List.length_cons, if_true, Bool.false_eq_true, if_false] at this
  omega
/-- If nobody is let do anything, somebody who has something to do can be. -/
theorem one_goes (h : Inv W H s R T) (hb : ∀ i, i < R.length → (getM R i).2.2 = false) (hl : ∃ i, i < R.length ∧ (getM R i).2.1 ≠ []) : ∃ k, k < R.length ∧ (grantF s R T (k : Int)).1.2 = 0 := by
  obtain ⟨k, hk, hgo, hne⟩ := h.someone hl
  obtain ⟨c, a, l, hm⟩ : ∃ c a l, getM R k = (c, a :: l, false) := by
    have hbk := hb k hk
    generalize getM R k = m at *
    obtain ⟨c, l, b⟩ := m
    have hbk : b = false := hbk
    subst hbk
    cases l with
    | nil => exact absurd rfl hne
    | cons a l => exact ⟨c, a, l, rfl⟩
  refine ⟨k, hk, ?_⟩
  rw [grantF_go hk hm (h.goes_may hk hgo (by rw [hm]))]
end

/-! ### The state in a function that is handed it -/
structure Lq (w0 : World) (bF S g M cap top : Nat) (W H : Int) (s : ByteArray) (R : List Mv) (T : List Ow) (wr : World) : Prop where
  fr : Fr g M w0 wr
  st : St wr S g M cap top W H s R T
  inv : Inv W H s R T
  fb : Fb bF W H s wr
  ne : bF ≠ g ∧ bF ≠ M
section
variable {w0 w w' : World} {bF S g M cap top : Nat} {W H : Int} {s : ByteArray} {R R' : List Mv} {T T' : List Ow}
theorem Lq.later (h : Lq w0 bF S g M cap top W H s R T w) (hb : Below w.heap.size w w') : Lq w0 bF S g M cap top W H s R T w' :=
  ⟨h.fr.trans (Fr.of hb), h.st.later hb, h.inv, h.fb.later hb, h.ne⟩
theorem Lq.go (h : Lq w0 bF S g M cap top W H s R T w) (hf : Fr g M w w') (hs : St w' S g M cap top W H s R' T') (hi : Inv W H s R' T') : Lq w0 bF S g M cap top W H s R' T' w' :=
  ⟨h.fr.trans hf, hs, hi, (hf.block bF (lt_of_heap h.fb) (fun q => by rcases q with q | q; exact h.ne.1 q; exact h.ne.2 q)).trans h.fb, h.ne⟩
end
def HomeTold (S g M cap top : Nat) (W H : Int) (s : ByteArray) (R : List Mv) (w : World) (e : Ending) (w' : World) : Prop :=
  ∃ R' T', e = .returned (.tuple #[.int .i64 (todo R : Nat), .bool true]) ∧ St w' S g M cap top W H s R' T' ∧ Inv W H s R' T' ∧ Fr g M w w' ∧ ∀ i, i < R'.length → (getM R' i).2.1 = []
/-- The first loop: what was let be done is done. -/
structure Dn (R0 R : List Mv) (q : Nat) : Prop where
  len : R.length = R0.length
  todo : todo R = todo R0
  free : ∀ i, i < q → (getM R i).2.2 = false
/-- The second loop: each that can is let do its next act. -/
structure Gn (s : ByteArray) (R1 : List Mv) (T1 : List Ow) (n0 : Nat) (R : List Mv) (T : List Ow) (q n : Nat) (gr lf : Bool) : Prop where
  len : R.length = R1.length
  left : ∀ i, i < R.length → (getM R i).2.1 = (getM R1 i).2.1
  sum : n + todo R = n0 + todo R1
  none : gr = false → R = R1 ∧ T = T1 ∧ ∀ i, i < q → (grantF s R1 T1 (i : Int)).1.2 ≠ 0
  some : gr = true → todo R < todo R1
  lf : lf = true ↔ ∃ i, i < q ∧ (getM R1 i).2.1 ≠ []
theorem Gn.start (s : ByteArray) (R1 : List Mv) (T1 : List Ow) (n0 : Nat) : Gn s R1 T1 n0 R1 T1 0 n0 false false :=
  ⟨rfl, fun i _ => rfl, rfl, fun _ => ⟨rfl, rfl, fun i hi => by omega⟩, (fun h => by cases h), ⟨(fun h => by cases h), fun ⟨i, hi, _⟩ => by omega⟩⟩
def LfS (lf' lf : Bool) (l : List Ac) : Prop := lf' = true ↔ (lf = true ∨ l ≠ [])
theorem lf_step {R1 : List Mv} {q : Nat} {lf lf' : Bool} (h : lf = true ↔ ∃ i, i < q ∧ (getM R1 i).2.1 ≠ []) (h' : lf' = true ↔ (lf = true ∨ (getM R1 q).2.1 ≠ [])) : lf' = true ↔ ∃ i, i < q + 1 ∧ (getM R1 i).2.1 ≠ [] := by
  rw [h', h]
  constructor
  · rintro (⟨i, hi, hn⟩ | hn)
    · exact ⟨i, by omega, hn⟩
    · exact ⟨q, by omega, hn⟩
  · rintro ⟨i, hi, hn⟩
    by_cases e : i = q
    · subst e; exact .inr hn
    · exact .inl ⟨i, by omega, hn⟩
theorem Gn.refuse {s : ByteArray} {R1 R : List Mv} {T1 T : List Ow} {n0 q n : Nat} {gr lf lf' : Bool} (h : Gn s R1 T1 n0 R T q n gr lf) (he : (grantF s R T (q : Int)).1.2 ≠ 0) (hlf : lf' = true ↔ (lf = true ∨ (getM R1 q).2.1 ≠ [])) : Gn s R1 T1 n0 R T (q + 1) n gr lf' :=
  ⟨h.len, h.left, h.sum, fun g => by
    obtain ⟨e1, e2, e3⟩ := h.none g
    subst e1 e2
    exact ⟨rfl, rfl, fun i hi => by
      by_cases e : i = q
      · subst e; exact he
      · exact e3 i (by omega)⟩, h.some, lf_step h.lf hlf⟩
theorem Gn.grant {s : ByteArray} {R1 R : List Mv} {T1 T T' : List Ow} {n0 q n : Nat} {gr lf lf' : Bool} (h : Gn s R1 T1 n0 R T q n gr lf) (hq : q < R.length) {c : Int} {a : Ac} {l : List Ac} (hm : getM R q = (c, a :: l, false)) (hlf : lf' = true ↔ (lf = true ∨ (getM R1 q).2.1 ≠ [])) : Gn s R1 T1 n0 (R.set q (c, a :: l, true)) T' (q + 1) (n + 1) true lf' := by
  have ht := todo_grant hq hm
  have hs := h.sum
  refine ⟨by rw [List.length_set]; exact h.len, fun i hi => ?_, by omega, fun g => (by cases g), fun _ => ?_, lf_step h.lf hlf⟩
  · rw [List.length_set] at hi
    rw [getM_set R q i _ hq]
    split
    · rename_i e
      subst e
      have := h.left i hi
      rw [hm] at this
      exact this
    · exact h.left i hi
  · cases gr with
    | true => have := h.some rfl; omega
    | false =>
      obtain ⟨e1, _⟩ := h.none rfl
      subst e1
      omega
section
variable {w : World} {S g M cap top : Nat} {W H : Int} {s : ByteArray} {R : List Mv} {T : List Ow}
set_option maxHeartbeats 16000000 in
theorem home11_any (h : St w S g M cap top W H s R T) (hI : Inv W H s R T) (hsz : s.size ≤ maxLen) (most : Nat) (hm : todo R ≤ most) (hm2 : most ≤ 10000) :
    Calls Tryz.prog 29 #[.agg #[.int .i64 W, .int .i64 H, .string s], .pointer (some ⟨S, 0, none⟩), .int .i64 (most : Int)] w (HomeTold S g M cap top W H s R w) := by
  have hB := (Below.refl w.heap.size w).alloc (Nat.le_refl _) (.cells #[.int .i64 W, .int .i64 H, .string s] 25)
  have hLq : Lq w w.heap.size S g M cap top W H s R T (w.alloc (.cells #[.int .i64 W, .int .i64 H, .string s] 25)) := ⟨Fr.of hB, h.later hB, hI, Fb.new w W H s, by have := h.tops; omega, by have := h.tops; omega⟩
  have HLQ := Lib.hid hLq
  have HRO := Lib.hid (fun wx => robots_any W H s hsz wx)
  have HRN : Hid (R.length = (pick isD (at_ s) s.size).length ∧ Right W H s) := Lib.hid ⟨hI.n, hI.right⟩
  have HTM := Lib.hid hm
  clear hB hLq h hI hm
  go_enter Tryz.func29, Tryz.ntmps29
  go_upto_region 1 with (fail)
  generalize w.alloc (.cells #[.int .i64 W, .int .i64 H, .string s] 25) = wx0 at *
  obtain ⟨bF, hbF⟩ : ∃ bF, bF = w.heap.size := ⟨_, rfl⟩
  rw [← hbF] at HLQ ⊢
  clear hbF
  go_wp2_with fail
  go_loopw [8, 19] (fun nv iv wr => ∃ (i n : Nat) (R' : List Mv) (T' : List Ow), i ≤ most + 1 ∧ nv = .int .i64 (n : Int) ∧ iv = .int .i64 (i : Int) ∧ n ≤ most ∧ Hid (Lq w bF S g M cap top W H s R' T' wr ∧ n + todo R' = todo R ∧ i + todo R' ≤ todo R)) (fun _ iv _ => most + 1 - (intOf iv).toNat)
  case atStart => exact ⟨0, 0, R, T, by omega, rfl, rfl, by omega, Lib.hid ⟨HLQ.out, by omega, by omega⟩⟩
  case round =>
    rename World => wr
    obtain ⟨i, n, R1, T1, hi, rfl, rfl, hn, HI⟩ := hrel
    by_cases hlt : i < most + 1
    · have hiI : (i : Int) < (most : Int) + 1 := by omega
      obtain ⟨f0, f1, f2, fl, _⟩ := HI.out.1.fb.cells
      go_wp2_with fail
      refine (HRO.out _).mono ?_
      rintro e wa ⟨nr, rfl, hnr, _, hba⟩
      have HNR : Hid (nr = R1.length) := Lib.hid (by rw [hnr HRN.out.2, HI.out.1.inv.n])
      have HIa := Lib.hid (HI.out.1.later hba)
      have hn8 : nr ≤ 8 := by rw [HNR.out]; exact HI.out.1.inv.few
      clear hnr hba f0 f1 f2 fl
      go_wp2_with fail
      go_loopw [23] (fun qv wq => ∃ (q : Nat) (R2 : List Mv) (T2 : List Ow), q ≤ nr ∧ qv = .int .i64 (q : Int) ∧ Hid (Lq w bF S g M cap top W H s R2 T2 wq ∧ Dn R1 R2 q)) (fun qv _ => nr - (intOf qv).toNat)
      case atStart => exact ⟨0, R1, T1, by omega, rfl, Lib.hid ⟨HIa.out, rfl, rfl, fun i hi => by omega⟩⟩
      case round =>
        rename World => wq
        obtain ⟨q, R2, T2, hq, rfl, HQ⟩ := hrel
        by_cases hq2 : q < nr
        · have hqI : (q : Int) < (nr : Int) := by omega
          have HQL : Hid (q < R2.length) := Lib.hid (by rw [HQ.out.2.len, ← HNR.out]; exact hq2)
          have HNW := Lib.hid (now_any HQ.out.1.st HQ.out.1.inv.busy (q : Int))
          unfold NowTold at HNW
          rcases mv_cases HQ.out.1.inv HQL.out with ⟨g1, g2, _⟩ | ⟨a, l, g1, g2, g3, _⟩
          · rw [g2] at HNW
            have HG1 := Lib.hid g1
            clear g1 g2
            go_wp2_with fail
            refine HNW.out.mono ?_
            rintro e wb ⟨rfl, hbb⟩
            dsimp only [actV]
            have hB5 := (Below.refl wb.heap.size wb).alloc (Nat.le_refl _) (.cells #[.int .u8 0, .int .i64 0, .int .i64 0] 39)
            have HQ5 := Lib.hid ((HQ.out.1.later hbb).later hB5)
            clear hbb hB5
            go_wp2_with fail
            go_roundw
            case rel => exact ⟨q + 1, R2, T2, by omega, by go_num, Lib.hid ⟨HQ5.out, HQ.out.2.len, HQ.out.2.todo, fun i hi => by
              by_cases e : i = q
              · subst e; exact HG1.out
              · exact HQ.out.2.free i (by omega)⟩⟩
            case measure => simp [intOf]; omega
          · rw [g3] at HNW
            obtain ⟨cc, hm⟩ : ∃ cc, getM R2 q = (cc, a :: l, true) := ⟨(getM R2 q).1, by
              generalize getM R2 q = mm at *
              obtain ⟨m1, m2, m3⟩ := mm
              have g1 : m2 = a :: l := g1
              have g2 : m3 = true := g2
              rw [g1, g2]⟩
            have HM := Lib.hid hm
            clear g1 g2 g3 hm
            obtain ⟨ax, ay, az'⟩ := a
            go_wp2_with fail
            refine HNW.out.mono ?_
            rintro e wb ⟨rfl, hbb⟩
            dsimp only [actV]
            have hB5 := (Below.refl wb.heap.size wb).alloc (Nat.le_refl _) (.cells #[.int .u8 (ax : Int), .int .i64 ay, .int .i64 az'] 39)
            have HQ5 := Lib.hid ((HQ.out.1.later hbb).later hB5)
            have HDN := Lib.hid (done_any HQ5.out.st HQ5.out.inv (q : Int))
            rw [doneF_go HQL.out HM.out] at HDN
            have HIV := Lib.hid (HQ5.out.inv.done HQL.out HM.out)
            clear hbb hB5
            go_wp2_with fail
            refine HDN.out.mono ?_
            rintro e wc ⟨rfl, hsc, hfc⟩
            have HQ6 := Lib.hid (HQ5.out.go hfc hsc HIV.out)
            clear hsc hfc
            go_wp2_with fail
            go_roundw
            case rel => exact ⟨q + 1, _, _, by omega, by go_num, Lib.hid ⟨HQ6.out, by rw [List.length_set]; exact HQ.out.2.len, by rw [todo_done HQ5.out.inv HQL.out HM.out]; exact HQ.out.2.todo, fun i hi => by
              rw [getM_set _ _ _ _ HQL.out]
              split
              · rfl
              · exact HQ.out.2.free i (by omega)⟩⟩
            case measure => simp [intOf]; omega
        · obtain rfl : q = nr := by omega
          obtain ⟨f0, f1, f2, fl, _⟩ := HQ.out.1.fb.cells
          have HFREE : Hid (∀ i, i < R2.length → (getM R2 i).2.2 = false) := Lib.hid (fun i hi => HQ.out.2.free i (by rw [HNR.out, ← HQ.out.2.len]; exact hi))
          have HN2 : Hid (q = R2.length) := Lib.hid (by rw [HNR.out, HQ.out.2.len])
          go_wp2_with fail
          refine (HRO.out _).mono ?_
          rintro e wa2 ⟨nr2, rfl, hnr2, _, hba2⟩
          obtain rfl : nr2 = q := by rw [hnr2 HRN.out.2, HN2.out, HQ.out.1.inv.n]
          have HQa := Lib.hid (HQ.out.1.later hba2)
          clear hnr2 hba2 f0 f1 f2 fl
          go_wp2_with fail
          go_loopw [8, 9, 10, 39] (fun nv gv lv qv wp => ∃ (u n' : Nat) (gr lf : Bool) (R3 : List Mv) (T3 : List Ow), u ≤ nr2 ∧ nv = .int .i64 (n' : Int) ∧ gv = .bool gr ∧ lv = .bool lf ∧ qv = .int .i64 (u : Int) ∧ n' ≤ n + u ∧ Hid (Lq w bF S g M cap top W H s R3 T3 wp ∧ Gn s R2 T2 n R3 T3 u n' gr lf)) (fun _ _ _ qv _ => nr2 - (intOf qv).toNat)
          case atStart => exact ⟨0, n, false, false, R2, T2, by omega, rfl, rfl, rfl, rfl, by omega, Lib.hid ⟨HQa.out, Gn.start s R2 T2 n⟩⟩
          case round =>
            rename World => wp
            obtain ⟨u, n', gr, lf, R3, T3, hu, rfl, rfl, rfl, rfl, hn', HP⟩ := hrel
            by_cases hu2 : u < nr2
            · have huI : (u : Int) < (nr2 : Int) := by omega
              have HUL : Hid (u < R3.length) := Lib.hid (by rw [HP.out.2.len, ← HN2.out]; exact hu2)
              have HP0 := Lib.hid HP.out.1
              cases lf with
              | false =>
                have HLFT := Lib.hid (left_any HP.out.1.st HP.out.1.inv.lens (u : Int))
                go_wp2_with fail
                refine HLFT.out.mono ?_
                rintro e wd ⟨A5, n5, c5, rfl, hn5, _, hbd⟩
                have HPd := Lib.hid (HP0.out.later hbd)
                have hle : n5 = (getM R2 u).2.1.length := by
                  rw [hn5]; unfold leftF; rw [if_pos ⟨by omega, by have := HUL.out; omega⟩, Int.toNat_natCast, HP.out.2.left u HUL.out]
                clear hbd hn5 HLFT
                by_cases h0 : n5 = 0
                · have HLFN : Hid (LfS false false (getM R2 u).2.1) := Lib.hid (by
                    have : (getM R2 u).2.1 = [] := List.eq_nil_of_length_eq_zero (by omega)
                    simp [LfS, this])
                  clear hle
                  subst h0
                  go_upto_region 16 with (fail)
                  have HGR := Lib.hid (grant_any HPd.out.st HPd.out.inv (u : Int))
                  go_wp2_with fail
                  refine HGR.out.mono ?_
                  rintro e we ⟨rfl, hse, hfe⟩
                  have hie := HPd.out.inv.grantF (u : Int)
                  have HLE' := Lib.hid (HPd.out.go hfe hse hie)
                  clear hse hfe hie
                  rcases grantF_cases HPd.out.inv (u : Int) with ⟨er, he0, _, hg⟩ | ⟨_, _, _, _, _, _, _, _, hg⟩ | ⟨k9, c9, a9, l9, hk9, hkl, hm9, _, hg⟩
                  · have HG := Lib.hid (HP.out.2.refuse (lf' := false) (by rw [hg]; exact he0) HLFN.out)
                    rw [hg] at HLE' ⊢
                    dsimp only at HLE' ⊢
                    dsimp only [actV]
                    have hB5 := (Below.refl we.heap.size we).alloc (Nat.le_refl _) (.cells #[.int .u8 0, .int .i64 0, .int .i64 0] 39)
                    have HL5 := Lib.hid (HLE'.out.later hB5)
                    clear hB5
                    go_wp2_with fail
                    go_roundw
                    case rel => exact ⟨u + 1, n', gr, false, R3, T3, by omega, rfl, rfl, (by first | rfl | (simp; omega)), by go_num, by omega, Lib.hid ⟨HL5.out, HG.out⟩⟩
                    case measure => simp [intOf]; omega
                  · have HG := Lib.hid (HP.out.2.refuse (lf' := false) (by rw [hg]; simp) HLFN.out)
                    rw [hg] at HLE' ⊢
                    dsimp only at HLE' ⊢
                    dsimp only [actV]
                    have hB5 := (Below.refl we.heap.size we).alloc (Nat.le_refl _) (.cells #[.int .u8 0, .int .i64 0, .int .i64 0] 39)
                    have HL5 := Lib.hid (HLE'.out.later hB5)
                    clear hB5
                    go_wp2_with fail
                    go_roundw
                    case rel => exact ⟨u + 1, n', gr, false, R3, T3, by omega, rfl, rfl, (by first | rfl | (simp; omega)), by go_num, by omega, Lib.hid ⟨HL5.out, HG.out⟩⟩
                    case measure => simp [intOf]; omega
                  · obtain rfl : k9 = u := by omega
                    obtain ⟨ax, ay, az'⟩ := a9
                    have HG := Lib.hid (HP.out.2.grant (lf' := false) (T' := giveT T3 (k9 : Int) (az s (ax, ay, az'))) hkl hm9 HLFN.out)
                    rw [hg] at HLE' ⊢
                    dsimp only at HLE' ⊢
                    dsimp only [actV]
                    have hB5 := (Below.refl we.heap.size we).alloc (Nat.le_refl _) (.cells #[.int .u8 (ax : Int), .int .i64 ay, .int .i64 az'] 39)
                    have HL5 := Lib.hid (HLE'.out.later hB5)
                    clear hB5
                    go_wp2_with fail
                    go_roundw
                    case rel => exact ⟨k9 + 1, n' + 1, true, false, _, _, by omega, by go_num, rfl, (by first | rfl | (simp; omega)), by go_num, by omega, Lib.hid ⟨HL5.out, HG.out⟩⟩
                    case measure => simp [intOf]; omega
                · have HLFN : Hid (LfS true false (getM R2 u).2.1) := Lib.hid (by
                    have : (getM R2 u).2.1 ≠ [] := fun e => by rw [e] at hle; exact h0 hle
                    simp [LfS, this])
                  clear hle
                  have h05 : (0 : Int) < (n5 : Int) := by omega
                  go_upto_region 16 with (fail)
                  have HGR := Lib.hid (grant_any HPd.out.st HPd.out.inv (u : Int))
                  go_wp2_with fail
                  refine HGR.out.mono ?_
                  rintro e we ⟨rfl, hse, hfe⟩
                  have hie := HPd.out.inv.grantF (u : Int)
                  have HLE' := Lib.hid (HPd.out.go hfe hse hie)
                  clear hse hfe hie
                  rcases grantF_cases HPd.out.inv (u : Int) with ⟨er, he0, _, hg⟩ | ⟨_, _, _, _, _, _, _, _, hg⟩ | ⟨k9, c9, a9, l9, hk9, hkl, hm9, _, hg⟩
                  · have HG := Lib.hid (HP.out.2.refuse (lf' := true) (by rw [hg]; exact he0) HLFN.out)
                    rw [hg] at HLE' ⊢
                    dsimp only at HLE' ⊢
                    dsimp only [actV]
                    have hB5 := (Below.refl we.heap.size we).alloc (Nat.le_refl _) (.cells #[.int .u8 0, .int .i64 0, .int .i64 0] 39)
                    have HL5 := Lib.hid (HLE'.out.later hB5)
                    clear hB5
                    go_wp2_with fail
                    go_roundw
                    case rel => exact ⟨u + 1, n', gr, true, R3, T3, by omega, rfl, rfl, (by first | rfl | (simp; omega)), by go_num, by omega, Lib.hid ⟨HL5.out, HG.out⟩⟩
                    case measure => simp [intOf]; omega
                  · have HG := Lib.hid (HP.out.2.refuse (lf' := true) (by rw [hg]; simp) HLFN.out)
                    rw [hg] at HLE' ⊢
                    dsimp only at HLE' ⊢
                    dsimp only [actV]
                    have hB5 := (Below.refl we.heap.size we).alloc (Nat.le_refl _) (.cells #[.int .u8 0, .int .i64 0, .int .i64 0] 39)
                    have HL5 := Lib.hid (HLE'.out.later hB5)
                    clear hB5
                    go_wp2_with fail
                    go_roundw
                    case rel => exact ⟨u + 1, n', gr, true, R3, T3, by omega, rfl, rfl, (by first | rfl | (simp; omega)), by go_num, by omega, Lib.hid ⟨HL5.out, HG.out⟩⟩
                    case measure => simp [intOf]; omega
                  · obtain rfl : k9 = u := by omega
                    obtain ⟨ax, ay, az'⟩ := a9
                    have HG := Lib.hid (HP.out.2.grant (lf' := true) (T' := giveT T3 (k9 : Int) (az s (ax, ay, az'))) hkl hm9 HLFN.out)
                    rw [hg] at HLE' ⊢
                    dsimp only at HLE' ⊢
                    dsimp only [actV]
                    have hB5 := (Below.refl we.heap.size we).alloc (Nat.le_refl _) (.cells #[.int .u8 (ax : Int), .int .i64 ay, .int .i64 az'] 39)
                    have HL5 := Lib.hid (HLE'.out.later hB5)
                    clear hB5
                    go_wp2_with fail
                    go_roundw
                    case rel => exact ⟨k9 + 1, n' + 1, true, true, _, _, by omega, by go_num, rfl, (by first | rfl | (simp; omega)), by go_num, by omega, Lib.hid ⟨HL5.out, HG.out⟩⟩
                    case measure => simp [intOf]; omega
              | true =>
                have HLFN : Hid (LfS true true (getM R2 u).2.1) := Lib.hid (by simp [LfS])
                have HGR := Lib.hid (grant_any HP0.out.st HP0.out.inv (u : Int))
                go_wp2_with fail
                refine HGR.out.mono ?_
                rintro e we ⟨rfl, hse, hfe⟩
                have hie := HP0.out.inv.grantF (u : Int)
                have HLE' := Lib.hid (HP0.out.go hfe hse hie)
                clear hse hfe hie
                rcases grantF_cases HP0.out.inv (u : Int) with ⟨er, he0, _, hg⟩ | ⟨_, _, _, _, _, _, _, _, hg⟩ | ⟨k9, c9, a9, l9, hk9, hkl, hm9, _, hg⟩
                · have HG := Lib.hid (HP.out.2.refuse (lf' := true) (by rw [hg]; exact he0) HLFN.out)
                  rw [hg] at HLE' ⊢
                  dsimp only at HLE' ⊢
                  dsimp only [actV]
                  have hB5 := (Below.refl we.heap.size we).alloc (Nat.le_refl _) (.cells #[.int .u8 0, .int .i64 0, .int .i64 0] 39)
                  have HL5 := Lib.hid (HLE'.out.later hB5)
                  clear hB5
                  go_wp2_with fail
                  go_roundw
                  case rel => exact ⟨u + 1, n', gr, true, R3, T3, by omega, rfl, rfl, (by first | rfl | (simp; omega)), by go_num, by omega, Lib.hid ⟨HL5.out, HG.out⟩⟩
                  case measure => simp [intOf]; omega
                · have HG := Lib.hid (HP.out.2.refuse (lf' := true) (by rw [hg]; simp) HLFN.out)
                  rw [hg] at HLE' ⊢
                  dsimp only at HLE' ⊢
                  dsimp only [actV]
                  have hB5 := (Below.refl we.heap.size we).alloc (Nat.le_refl _) (.cells #[.int .u8 0, .int .i64 0, .int .i64 0] 39)
                  have HL5 := Lib.hid (HLE'.out.later hB5)
                  clear hB5
                  go_wp2_with fail
                  go_roundw
                  case rel => exact ⟨u + 1, n', gr, true, R3, T3, by omega, rfl, rfl, (by first | rfl | (simp; omega)), by go_num, by omega, Lib.hid ⟨HL5.out, HG.out⟩⟩
                  case measure => simp [intOf]; omega
                · obtain rfl : k9 = u := by omega
                  obtain ⟨ax, ay, az'⟩ := a9
                  have HG := Lib.hid (HP.out.2.grant (lf' := true) (T' := giveT T3 (k9 : Int) (az s (ax, ay, az'))) hkl hm9 HLFN.out)
                  rw [hg] at HLE' ⊢
                  dsimp only at HLE' ⊢
                  dsimp only [actV]
                  have hB5 := (Below.refl we.heap.size we).alloc (Nat.le_refl _) (.cells #[.int .u8 (ax : Int), .int .i64 ay, .int .i64 az'] 39)
                  have HL5 := Lib.hid (HLE'.out.later hB5)
                  clear hB5
                  go_wp2_with fail
                  go_roundw
                  case rel => exact ⟨k9 + 1, n' + 1, true, true, _, _, by omega, by go_num, rfl, (by first | rfl | (simp; omega)), by go_num, by omega, Lib.hid ⟨HL5.out, HG.out⟩⟩
                  case measure => simp [intOf]; omega
            · obtain rfl : u = nr2 := by omega
              have HS : Hid (n' + todo R3 = todo R) := Lib.hid (by
                have h1 := HP.out.2.sum
                have h2 := HQ.out.2.todo
                have h3 := HI.out.2.1
                omega)
              cases lf with
              | false =>
                have HZ : Hid (∀ i, i < R3.length → (getM R3 i).2.1 = []) := Lib.hid (fun j hj => by
                  have hj2 : j < u := by rw [HN2.out, ← HP.out.2.len]; exact hj
                  by_cases e : (getM R3 j).2.1 = []
                  · exact e
                  · have := HP.out.2.lf.2 ⟨j, hj2, by rw [← HP.out.2.left j hj]; exact e⟩
                    cases this)
                go_wp2_with fail
                have hn : n' = todo R := by
                  have h1 := HS.out
                  have h2 : todo R3 = 0 := sT_zero _ HZ.out
                  omega
                refine bodyPost_ret (v := .tuple #[.int .i64 (n' : Int), .bool true]) (by simp [results, Tryz.results29]) rfl ⟨R3, T3, ?_, HP.out.1.st, HP.out.1.inv, HP.out.1.fr, HZ.out⟩
                rw [hn]
              | true =>
                cases gr with
                | true =>
                  go_wp2_with fail
                  have hn1 : n' ≤ most := by
                    have h1 := HS.out
                    have h2 := HTM.out
                    omega
                  have hi2 : i + 1 + todo R3 ≤ todo R := by
                    have h1 := HP.out.2.some rfl
                    have h2 := HQ.out.2.todo
                    have h3 := HI.out.2.2
                    omega
                  refine ⟨⟨i + 1, n', R3, T3, by omega, rfl, by go_num, hn1, Lib.hid ⟨HP.out.1, HS.out, hi2⟩⟩, ?_⟩
                  simp [intOf]
                  omega
                | false =>
                  exfalso
                  obtain ⟨j, hj, hjn⟩ := HP.out.2.lf.1 rfl
                  obtain ⟨e1, e2, e3⟩ := HP.out.2.none rfl
                  obtain ⟨k, hk, hgk⟩ := one_goes HQ.out.1.inv HFREE.out ⟨j, by rw [← HN2.out]; exact hj, hjn⟩
                  exact e3 k (by rw [HN2.out]; exact hk) hgk
    · exfalso
      have := HI.out.2.2
      have := HTM.out
      omega
end
end Tf
end Go.Proofs.YtellaeihcignaaaGreatDoor
