/-
  The document's Is of layer 7.
-/
import Derived.Test.YtinkpeliinofoaaGreatDoorSpLaw
import Derived.Test.YtinkpeliinofoaaGreatDoorPtRa
import Derived.Deep.RegionHeld3
import Derived.BigQuiet
set_option linter.unusedVariables false
set_option maxRecDepth 100000
namespace Go.Proofs.YtinkpeliinofoaaGreatDoor
namespace Sp
open Go.RowKit Fl Pt
open Wn (Tab TF frees isT Ordw IW Wt wcl plc Rising RT Rt R3 tkn rtk tk upd)

/-- A way through time, as the document says it. -/
def DI (W H a : Nat) (s : ByteArray) (T : Int → List (Int × Int)) : Nat → Int → List (Int × Int) → Prop
  | _, _, [] => True
  | c, m, q :: r => m < q.2 ∧ q.2 < 1048576 ∧ (∀ u, m < u → u < q.2 → isT (T (c : Int)) u = true) ∧ ∃ d : Nat, q.1 = (d : Int) ∧ d ∈ nx5 W H (at_ s) a (fun _ => false) c ∧ isT (T (d : Int)) q.2 = true ∧ DI W H a s T d q.2 r
theorem here_of {e : Env} {c : Nat} {m : Int} : ∀ {L : List (Int × Int)}, WyT e c m L → In (e.O c) m
  | [], h => h
  | _ :: _, ⟨k, h, _⟩ => ⟨k, h⟩
theorem in_isT {W H a : Nat} {s : ByteArray} {t0 u : Int} {T : Int → List (Int × Int)} (ho : ∀ y, Ordw 0 (T y)) {c : Nat} (h : t0 < u) : In ((envOf W H a s t0 T).O c) u ↔ isT (T (c : Int)) u = true := by
  show In (opn (c == a) t0 (frees (T (c : Int)))) u ↔ _
  rw [opn_in h, in_frees (ho _)]
theorem At.run {O : List (Int × Int)} (hO : Seps O) {k : Nat} {m t : Int} (hk : At O k m) (h : ∀ u, m < u → u < t → In O u) : ∀ n : Nat, m + (n : Int) < t → At O k (m + (n : Int))
  | 0, _ => by simpa using hk
  | n + 1, hn => by
    have ih := At.run hO hk h n (by omega)
    obtain ⟨j, hj⟩ := h (m + ((n + 1 : Nat) : Int)) (by omega) hn
    have e : m + ((n + 1 : Nat) : Int) = (m + (n : Int)) + 1 := by omega
    rw [e] at hj ⊢
    obtain rfl := ih.next hO hj
    exact hj
theorem wyT_di {W H a : Nat} {s : ByteArray} {t0 : Int} {T : Int → List (Int × Int)} (hE : (envOf W H a s t0 T).Ok) (ho : ∀ y, Ordw 0 (T y)) : ∀ (L : List (Int × Int)) (c : Nat) (m : Int), t0 ≤ m → In ((envOf W H a s t0 T).O c) m → (WyT (envOf W H a s t0 T) c m L ↔ DI W H a s T c m L)
  | [], c, m, hm, hi => ⟨fun _ => trivial, fun _ => hi⟩
  | q :: r, c, m, hm, hi => by
    constructor
    · rintro ⟨k, hk, h1, h2, h3, d, h5, h6, h7⟩
      have ht := (in_isT ho (by omega)).1 (here_of h7)
      have ht2 := ht
      rw [Wn.isT_in (ho _)] at ht2
      simp only [Bool.and_eq_true, decide_eq_true_eq] at ht2
      exact ⟨h1, ht2.1.2, fun u u1 u2 => (in_isT ho (by omega)).1 ⟨k, hk.1, by have := hk.2.1; omega, by have h2 : q.2 ≤ (((envOf W H a s t0 T).O c).getD k (0, 0)).2 := h2; omega⟩, d, h5, mem_nx5.2 ⟨outB_iff.1 h3, h6, rfl⟩, ht, (wyT_di hE ho r d q.2 (by omega) (here_of h7)).1 h7⟩
    · rintro ⟨h1, h2, h3, d, h5, h6, h7, h8⟩
      obtain ⟨k, hk⟩ := hi
      have hrun := At.run (hE.seps c) hk (t := q.2) (fun u u1 u2 => (in_isT ho (by omega)).2 (h3 u u1 u2)) (q.2 - 1 - m).toNat (by omega)
      rw [show m + ((q.2 - 1 - m).toNat : Int) = q.2 - 1 by omega] at hrun
      have hd := (in_isT (W := W) (H := H) (a := a) (s := s) (t0 := t0) ho (by omega)).2 h7
      have h6 := mem_nx5.1 h6
      refine ⟨k, hk, h1, ?_, outB_iff.2 h6.1, d, h5, h6.2.1, (wyT_di hE ho r d q.2 (by omega) hd).2 h8⟩
      have := hrun.2.2
      show q.2 ≤ (((envOf W H a s t0 T).O c).getD k (0, 0)).2
      omega
/-- Is a number among the first so many? -/
def amg (S : List Nat) (k : Nat) (x : Int) : Bool := (S.take k).any fun d => decide ((d : Int) = x)
theorem amg_succ (S : List Nat) (k : Nat) (x : Int) (h : k < S.length) : amg S (k + 1) x = (amg S k x || decide (((S.getD k 0 : Nat) : Int) = x)) := by
  unfold amg
  rw [List.take_succ_eq_append_getElem h, List.any_append, List.getD, List.getElem?_eq_getElem h]
  simp
theorem amg_all (S : List Nat) (x : Int) : amg S S.length x = true ↔ ∃ d : Nat, x = (d : Int) ∧ d ∈ S := by
  unfold amg
  rw [List.take_length, List.any_eq_true]
  constructor
  · rintro ⟨d, h1, h2⟩
    exact ⟨d, (of_decide_eq_true h2).symm, h1⟩
  · rintro ⟨d, h1, h2⟩
    exact ⟨d, h2, decide_eq_true h1.symm⟩
set_option maxHeartbeats 8000000 in
theorem r7is_some {W H a : Nat} {s : ByteArray} {AN AL AO : Option Addr} {n cN cL cO : Nat} {w : World} (hM : MapAt w W H s AN AL AO n cN cL cO) (h256 : s.size ≤ 256) (hW1 : 1 ≤ W) (hsz : s.size = W * H) {rb : Nat} {A : Option Addr} {cc : Nat} {R : List R3} (hT : RT w rb A cc R) (hO : ∀ y, Ordw 0 (tkn R y)) (ha : a < s.size) (hz : at_ s a ≠ 35) {st : Int} (h0 : 0 ≤ st) (h1 : st < 1048576)
    {Al : Option Addr} {nl cl : Nat} {L : List (Int × Int)} (hL : Wt w.heap.size w Al nl cl L) (hn : nl ≤ 100000) :
    Calls Tryz.prog 24 #[.agg #[.slice AN n cN, .slice AL n cL, .slice AO n cO], .pointer (some ⟨rb, 0, none⟩), .int .i64 (a : Int), .int .i64 st, .slice Al nl cl] w (Told (DI W H a s (tkn R) a st L) w) := by
  obtain ⟨b0, b1, b2, hb⟩ := map_box w (.slice AN n cN) (.slice AL n cL) (.slice AO n cO)
  have HB0 := Lib.hid hb
  have hsn := hM.sz
  have HCE : Hid (∀ wx, Below (w.heap.size + 1) (w.alloc (.cells #[.slice AN n cN, .slice AL n cL, .slice AO n cO] 36)) wx → wx.cell? ⟨w.heap.size, 0, none⟩ = some (.slice AN n cN) ∧ wx.cell? ⟨w.heap.size, 1, none⟩ = some (.slice AL n cL) ∧ wx.cell? ⟨w.heap.size, 2, none⟩ = some (.slice AO n cO)) := Lib.hid (fun wx h => ⟨(h.cell (p := ⟨w.heap.size, 0, none⟩) (Nat.lt_succ_self _)).trans b0, (h.cell (p := ⟨w.heap.size, 1, none⟩) (Nat.lt_succ_self _)).trans b1, (h.cell (p := ⟨w.heap.size, 2, none⟩) (Nat.lt_succ_self _)).trans b2⟩)
  have HM1 := Lib.hid (hM.later hb)
  have HT1 := Lib.hid (hT.later hb)
  have HL1 := Lib.hid (hL.later hb)
  have hs1 := hL.le
  have hs2 := hL.max
  obtain ⟨gO, e0, hgO, hcO⟩ := HM1.out.opn
  have r0 := hcO a (by omega)
  have hn35 : (at_ s a != 35) = true := by simpa using hz
  rw [hn35] at r0
  have hcap := hM.caps.2.2
  have hcap2 := hcap.2
  have HZA := Lib.hid hz
  have HLN := Lib.hid hL.len
  have haI : (0 : Int) ≤ (a : Int) := by omega
  have haN : (a : Int) < (n : Int) := by omega
  have hd1 : decide ((a : Int) < 0) = false := decide_eq_false (by omega)
  have hd2 : decide ((n : Int) ≤ (a : Int)) = false := decide_eq_false (by omega)
  have hd2' : decide (n ≤ a) = false := decide_eq_false (by omega)
  have hd3 : decide (st < 0) = false := decide_eq_false (by omega)
  have hd4 : decide ((1048576 : Int) ≤ st) = false := decide_eq_false (by omega)
  unfold maxLen at hcap2
  subst e0
  have HSN : Hid (n = s.size) := Lib.hid hsn
  have HSZ := Lib.hid hsz
  have HH0 := Lib.hid h0
  clear hM hT hL hb hn35 hgO hcO hz hsn hsz
  go_enter Tryz.func24, Tryz.ntmps24
  go_wp2_with fail
  obtain ⟨wb, hwb⟩ : ∃ wb, wb = w.alloc (.cells #[.slice AN n cN, .slice AL n cL, .slice (some ⟨gO, 0, none⟩) n cO] 36) := ⟨_, rfl⟩
  rw [← hwb] at HB0 HCE HM1 HT1 HL1 ⊢
  have HZB : Hid (wb.heap.size = w.heap.size + 1) := Lib.hid (by rw [hwb]; exact alloc_size _ _)
  have HST : Hid (Below wb.heap.size wb wb ∧ (DI W H a s (tkn R) a st (L.drop 0) ↔ DI W H a s (tkn R) a st L) ∧ at_ s a ≠ 35 ∧ st ≤ st) := Lib.hid ⟨Below.refl _ _, Iff.rfl, HZA.out, Int.le_refl _⟩
  clear hwb b0 b1 b2 r0 hd1 hd2 hd2' hd3 hd4
  go_loopw [11, 12, 13] (fun av mv iv wr => ∃ (i c : Nat) (m : Int), i ≤ nl ∧ c < n ∧ m < 1048576 ∧ av = .int .i64 (c : Int) ∧ mv = .int .i64 m ∧ iv = .int .i64 (i : Int) ∧ Hid (Below wb.heap.size wb wr ∧ (DI W H a s (tkn R) c m (L.drop i) ↔ DI W H a s (tkn R) a st L) ∧ at_ s c ≠ 35 ∧ st ≤ m)) (fun _ _ iv _ => nl - (intOf iv).toNat)
  case atStart => exact ⟨0, a, st, Nat.zero_le _, by omega, h1, rfl, rfl, rfl, HST⟩
  case round =>
    rename World => wr
    obtain ⟨i, c, m, hi, hcn, hm, rfl, rfl, rfl, HR⟩ := hrel
    have HBW := Lib.hid (HB0.out.trans (HR.out.1.mono (by rw [HZB.out]; exact Nat.le_succ _)))
    by_cases hlt : i < nl
    · have hiL : i < L.length := by rw [← HLN.out]; exact hlt
      obtain ⟨g, off, e9, hg, hcs⟩ := (HL1.out.later HR.out.1).cell (by omega)
      subst e9
      obtain ⟨q1, q2⟩ := hcs i hlt
      have hdr := drop_get hiL
      have hdi := HR.out.2.1
      rw [hdr] at hdi
      generalize L.getD i (0, 0) = q at *
      obtain ⟨x, t⟩ := q
      have HDI := Lib.hid hdi
      have HG := Lib.hid hg
      have hy0 : (0 : Int) ≤ (i : Int) := by omega
      have hy1 : (i : Int) < (nl : Int) := by omega
      have hc0 : (0 : Int) ≤ (c : Int) := by omega
      have hq1 : wr.cell? ⟨g, off + i * 2, none⟩ = some (.int .i64 x) := q1
      have hq2 : wr.cell? ⟨g, off + i * 2 + 1, none⟩ = some (.int .i64 t) := q2
      have HQ : Hid (∀ wx, Below wr.heap.size wr wx → wx.cell? ⟨g, off + i * 2, none⟩ = some (.int .i64 x) ∧ wx.cell? ⟨g, off + i * 2 + 1, none⟩ = some (.int .i64 t)) := Lib.hid (fun wx h => ⟨(h.cell (p := ⟨g, off + i * 2, none⟩) HG.out).trans hq1, (h.cell (p := ⟨g, off + i * 2 + 1, none⟩) HG.out).trans hq2⟩)
      clear hdr hdi hcs hg q1 q2 hiL
      by_cases hmt : m < t
      · by_cases ht : t < 1048576
        · have hd1 : decide (t ≤ m) = false := decide_eq_false (by omega)
          have hd2 : decide ((1048576 : Int) ≤ t) = false := decide_eq_false (by omega)
          have HWI : Hid (Below wr.heap.size wr wr ∧ ∀ v, m < v → v ≤ m → isT (tkn R (c : Int)) v = true) := Lib.hid ⟨Below.refl _ _, fun v v1 v2 => by omega⟩
          go_wp2_with fail
          clear hd1 hd2 hq1 hq2
          go_loopw [12] (fun mv wy => ∃ u : Int, m ≤ u ∧ u < t ∧ mv = .int .i64 u ∧ Hid (Below wr.heap.size wr wy ∧ ∀ v, m < v → v ≤ u → isT (tkn R (c : Int)) v = true)) (fun mv _ => (t - intOf mv).toNat)
          case atStart => exact ⟨m, Int.le_refl _, hmt, rfl, HWI⟩
          case round =>
            rename World => wy
            obtain ⟨u, hu1, hu2, rfl, HU⟩ := hrel
            obtain ⟨q1, q2⟩ := HQ.out _ HU.out.1
            have hm0 : 0 ≤ m := Int.le_trans HH0.out HR.out.2.2.2
            have hw1 : IntKind.i64.wrap (u + 1) = u + 1 := IntWalk.i64_in _ (by omega)
            have HTy := Lib.hid ((HT1.out.later HR.out.1).later HU.out.1)
            clear hm0
            by_cases hut : u + 1 < t
            · have hd1 : decide (u + 1 < t) = true := decide_eq_true hut
              go_wp2_with fail
              refine (Wn.r6is_any rb A cc R (c : Int) (u + 1) _ HTy.out (hO _)).mono ?_
              rintro e w3 ⟨rfl, hb3⟩
              have HB3 := Lib.hid (HU.out.1.trans (hb3.mono HU.out.1.size))
              have HBE := Lib.hid (HBW.out.trans (HB3.out.mono HBW.out.size))
              clear hb3
              cases hb : isT (tkn R (c : Int)) (u + 1) with
              | true =>
                have HNX : Hid (Below wr.heap.size wr w3 ∧ ∀ v, m < v → v ≤ u + 1 → isT (tkn R (c : Int)) v = true) := Lib.hid ⟨HB3.out, fun v v1 v2 => by
                  by_cases e : v = u + 1
                  · rw [e]; exact hb
                  · exact HU.out.2 v v1 (by omega)⟩
                clear hb
                go_wp2_with fail
                go_roundw
                case rel =>
                  first
                  | exact ⟨u + 1, by omega, hut, rfl, HNX⟩
                  | ((repeat apply Exists.intro); exact ⟨⟨u + 1, by omega, hut, rfl, HNX⟩, rfl⟩)
                case measure => simp [intOf]; omega
              | false =>
                have HNO : Hid (¬ DI W H a s (tkn R) a st L) := Lib.hid (fun h => by
                  have := (HDI.out.2 h).2.2.1 (u + 1) (by omega) hut
                  rw [hb] at this
                  cases this)
                clear hb
                go_wp2_with fail
                go_ret
                exact ⟨false, rfl, ⟨fun h => (by cases h), fun h => absurd h HNO.out⟩, HBE.out⟩
            · have hd1 : decide (u + 1 < t) = false := decide_eq_false hut
              have HALL : Hid (∀ v, m < v → v < t → isT (tkn R (c : Int)) v = true) := Lib.hid (fun v v1 v2 => HU.out.2 v v1 (by omega))
              have HBY := Lib.hid (HR.out.1.trans (HU.out.1.mono HR.out.1.size))
              obtain ⟨z0, z1, z2⟩ := HCE.out wy (by rw [← HZB.out]; exact HBY.out)
              have HMy := Lib.hid (HM1.out.later HBY.out)
              have HSP : Hid (Calls Tryz.prog 49 #[.agg #[.slice AN n cN, .slice AL n cL, .slice (some ⟨gO, 0, none⟩) n cO], .int .i64 (c : Int), .int .i64 (a : Int), .slice none 0 0] wy (Ints (nx5 W H (at_ s) a (fun _ => false) c) wy)) := Lib.hid (rsteps_any c a none 0 0 (fun _ => 0) wy HMy.out h256 hcn (by rw [HSN.out]; exact ha) HR.out.2.2.1 (Il.empty _ _ _))
              clear hut
              go_wp2_with fail
              refine HSP.out.mono ?_
              rintro e w4 ⟨A4, n4, k4, rfl, hn4, ho4, hb4⟩
              have HI4 := Lib.hid (Own.il ho4 hn4)
              have HN4 := Lib.hid hn4
              have HBU := Lib.hid (HU.out.1.trans (hb4.mono HU.out.1.size))
              have HMEM : Hid (∀ d : Nat, d ∈ nx5 W H (at_ s) a (fun _ => false) c → d < n ∧ at_ s d ≠ 35) := Lib.hid (fun d hd => by
                have h := (mem_nx5.1 hd).2.1
                refine ⟨?_, (mem_nr.1 h).2⟩
                rw [HSN.out, HSZ.out]
                exact nr_lt hW1 (by rw [← HSZ.out, ← HSN.out]; exact hcn) h)
              have HNX : Hid (∀ d : Nat, x = (d : Int) → d ∈ nx5 W H (at_ s) a (fun _ => false) c → isT (tkn R (d : Int)) t = true → (DI W H a s (tkn R) d t (L.drop (i + 1)) ↔ DI W H a s (tkn R) a st L)) := Lib.hid (fun d e hd hi => by
                refine Iff.trans ?_ HDI.out
                constructor
                · exact fun h => ⟨hmt, ht, HALL.out, d, e, hd, hi, h⟩
                · rintro ⟨_, _, _, d', e', _, _, h⟩
                  have e' : x = (d' : Int) := e'
                  obtain rfl : d = d' := by omega
                  exact h)
              have HNO : Hid (∀ d : Nat, x = (d : Int) → ¬ isT (tkn R x) t = true → ¬ DI W H a s (tkn R) a st L) := Lib.hid (fun d e hi h => by
                obtain ⟨_, _, _, d', e', _, h2, _⟩ := HDI.out.2 h
                have e' : x = (d' : Int) := e'
                rw [← e'] at h2
                exact hi h2)
              have HNA : Hid (¬ (∃ d : Nat, x = (d : Int) ∧ d ∈ nx5 W H (at_ s) a (fun _ => false) c) → ¬ DI W H a s (tkn R) a st L) := Lib.hid (fun hi h => by
                obtain ⟨_, _, _, d', e', h2, _⟩ := HDI.out.2 h
                exact hi ⟨d', e', h2⟩)
              have hz4 := HI4.out.le
              have hz5 := HI4.out.size
              clear hn4 ho4 hb4 z0 z1 z2 q1 q2 HDI HMy HSP
              generalize nx5 W H (at_ s) a (fun _ => false) c = S at *
              go_wp2_with fail
              go_loopw [14, 16] (fun bv kv wz => ∃ k : Nat, k ≤ n4 ∧ bv = .bool (amg S k x) ∧ kv = .int .i64 (k : Int) ∧ Hid (Below w4.heap.size w4 wz)) (fun _ kv _ => n4 - (intOf kv).toNat)
              case atStart => exact ⟨0, Nat.zero_le _, rfl, rfl, Lib.hid (Below.refl _ _)⟩
              case round =>
                rename World => wz
                obtain ⟨k, hk, rfl, rfl, HB⟩ := hrel
                have HBZ := Lib.hid (HBU.out.trans (HB.out.mono HBU.out.size))
                obtain ⟨q1, q2⟩ := HQ.out _ HBZ.out
                by_cases hkl : k < n4
                · obtain ⟨g4, o4, e8, hg4, hc4⟩ := (HI4.out.below HB.out).cell (by omega)
                  subst e8
                  have r4 := hc4 k hkl
                  have hsucc := amg_succ S k x (by rw [← HN4.out]; exact hkl)
                  generalize S.getD k 0 = d at *
                  have hk0 : (0 : Int) ≤ (k : Int) := by omega
                  have hk1 : (k : Int) < (n4 : Int) := by omega
                  clear hc4 hg4
                  cases hb : amg S k x with
                  | true =>
                    rw [hb, Bool.true_or] at hsucc
                    go_wp2_with fail
                    go_big_quiet (fail)
                    go_wp2_with fail
                    go_roundw
                    case rel =>
                      first
                      | exact ⟨k + 1, by omega, by rw [hsucc], by go_num, Lib.hid (HB.out.trans (below_drewN _ _ _))⟩
                      | ((repeat apply Exists.intro); exact ⟨⟨k + 1, by omega, by rw [hsucc], by go_num, Lib.hid (HB.out.trans (below_drewN _ _ _))⟩, rfl⟩)
                    case measure => simp [intOf]; omega
                  | false =>
                    rw [hb, Bool.false_or] at hsucc
                    by_cases hdx : (d : Int) = x
                    · have hd1 : decide ((d : Int) = x) = true := decide_eq_true hdx
                      have hd2 : ((d : Int) == x) = true := by rw [hdx]; simp
                      rw [hd1] at hsucc
                      clear hdx
                      go_wp2_with fail
                      go_big_quiet (fail)
                      go_wp2_with fail
                      go_roundw
                      case rel =>
                        first
                        | exact ⟨k + 1, by omega, by rw [hsucc], by go_num, Lib.hid (HB.out.trans (below_drewN _ _ _))⟩
                        | ((repeat apply Exists.intro); exact ⟨⟨k + 1, by omega, by rw [hsucc], by go_num, Lib.hid (HB.out.trans (below_drewN _ _ _))⟩, rfl⟩)
                      case measure => simp [intOf]; omega
                    · have hd1 : decide ((d : Int) = x) = false := decide_eq_false hdx
                      have hd2 : ((d : Int) == x) = false := by rw [beq_eq_false_iff_ne]; exact hdx
                      rw [hd1] at hsucc
                      clear hdx
                      go_wp2_with fail
                      go_big_quiet (fail)
                      go_wp2_with fail
                      go_roundw
                      case rel =>
                        first
                        | exact ⟨k + 1, by omega, by rw [hsucc], by go_num, Lib.hid (HB.out.trans (below_drewN _ _ _))⟩
                        | ((repeat apply Exists.intro); exact ⟨⟨k + 1, by omega, by rw [hsucc], by go_num, Lib.hid (HB.out.trans (below_drewN _ _ _))⟩, rfl⟩)
                      case measure => simp [intOf]; omega
                · have hkk : k = S.length := by rw [← HN4.out]; omega
                  have hall := amg_all S x
                  rw [← hkk] at hall
                  have HEZ := Lib.hid (HBW.out.trans (HBZ.out.mono HBW.out.size))
                  clear hkk
                  cases hb : amg S k x with
                  | false =>
                    have HN2 := Lib.hid (HNA.out (fun h => by rw [hall.2 h] at hb; cases hb))
                    clear hall hb
                    go_wp2_with fail
                    go_ret
                    exact ⟨false, rfl, ⟨fun h => (by cases h), fun h => absurd h HN2.out⟩, HEZ.out⟩
                  | true =>
                    obtain ⟨d, rfl, hd⟩ := hall.1 hb
                    have HD := Lib.hid hd
                    have HTz := Lib.hid ((HT1.out.later HR.out.1).later HBZ.out)
                    clear hall hb hd
                    go_wp2_with fail
                    refine (Wn.r6is_any rb A cc R (d : Int) t _ HTz.out (hO _)).mono ?_
                    rintro e w5 ⟨rfl, hb5⟩
                    have HB5 := Lib.hid (HBZ.out.trans (hb5.mono HBZ.out.size))
                    have HE5 := Lib.hid (HBW.out.trans (HB5.out.mono HBW.out.size))
                    have HW5 := Lib.hid (HR.out.1.trans (HB5.out.mono HR.out.1.size))
                    clear hb5
                    cases hb : isT (tkn R (d : Int)) t with
                    | false =>
                      have HN2 := Lib.hid (HNO.out d rfl (by rw [hb]; simp))
                      clear hb
                      go_wp2_with fail
                      go_ret
                      exact ⟨false, rfl, ⟨fun h => (by cases h), fun h => absurd h HN2.out⟩, HE5.out⟩
                    | true =>
                      have HNR : Hid (Below wb.heap.size wb w5 ∧ (DI W H a s (tkn R) d t (L.drop (i + 1)) ↔ DI W H a s (tkn R) a st L) ∧ at_ s d ≠ 35 ∧ st ≤ t) := Lib.hid ⟨HW5.out, HNX.out d rfl HD.out hb, (HMEM.out d HD.out).2, by have := HR.out.2.2.2; omega⟩
                      have hdn := (HMEM.out d HD.out).1
                      clear hb
                      go_wp2_with fail
                      go_roundw
                      case rel =>
                        first
                        | exact ⟨i + 1, d, t, by omega, hdn, ht, rfl, rfl, by go_num, HNR⟩
                        | ((repeat apply Exists.intro); exact ⟨⟨i + 1, d, t, by omega, hdn, ht, rfl, rfl, by go_num, HNR⟩, rfl⟩)
                      case measure => simp [intOf]; omega
        · have hd1 : decide (t ≤ m) = false := decide_eq_false (by omega)
          have hd2 : decide ((1048576 : Int) ≤ t) = true := decide_eq_true (by omega)
          have HNO : Hid (¬ DI W H a s (tkn R) a st L) := Lib.hid (fun h => ht (HDI.out.2 h).2.1)
          go_wp2_with fail
          go_ret
          exact ⟨false, rfl, ⟨fun h => (by cases h), fun h => absurd h HNO.out⟩, HBW.out⟩
      · have hd1 : decide (t ≤ m) = true := decide_eq_true (by omega)
        have HNO : Hid (¬ DI W H a s (tkn R) a st L) := Lib.hid (fun h => hmt (HDI.out.2 h).1)
        go_wp2_with fail
        go_ret
        exact ⟨false, rfl, ⟨fun h => (by cases h), fun h => absurd h HNO.out⟩, HBW.out⟩
    · have hii : i = nl := by omega
      have HYES : Hid (DI W H a s (tkn R) a st L) := Lib.hid (HR.out.2.1.1 (by rw [hii, HLN.out, List.drop_length]; trivial))
      clear hii
      go_wp2_with fail
      go_ret
      exact ⟨true, rfl, ⟨fun _ => HYES.out, fun _ => rfl⟩, HBW.out⟩
theorem r7is_no {AN AL AO : Option Addr} {n cN cL cO : Nat} {w : World} (rb : Nat) (fr st : Int) (Al : Option Addr) (nl cl : Nat)
    (hc : fr < 0 ∨ (n : Int) ≤ fr ∨ ∃ k g : Nat, fr = (k : Int) ∧ k < n ∧ n ≤ cO ∧ cO ≤ maxLen ∧ AO = some ⟨g, 0, none⟩ ∧ g < w.heap.size ∧ ∃ ob, w.cell? ⟨g, k, none⟩ = some (.bool ob) ∧ (ob = false ∨ st < 0 ∨ 1048576 ≤ st)) :
    Calls Tryz.prog 24 #[.agg #[.slice AN n cN, .slice AL n cL, .slice AO n cO], .pointer (some ⟨rb, 0, none⟩), .int .i64 fr, .int .i64 st, .slice Al nl cl] w fun e w' => e = .returned (.bool false) ∧ Below w.heap.size w w' := by
  obtain ⟨b0, b1, b2, hb⟩ := map_box w (.slice AN n cN) (.slice AL n cL) (.slice AO n cO)
  have HB := Lib.hid hb
  by_cases h1 : fr < 0
  · have hd1 : decide (fr < 0) = true := decide_eq_true h1
    clear hc hb
    go_enter Tryz.func24, Tryz.ntmps24
    go_wp2_with fail
    go_ret
    exact ⟨rfl, HB.out⟩
  · have hd1 : decide (fr < 0) = false := decide_eq_false h1
    by_cases h2 : (n : Int) ≤ fr
    · have hd2 : decide ((n : Int) ≤ fr) = true := decide_eq_true h2
      clear hc hb
      go_enter Tryz.func24, Tryz.ntmps24
      go_wp2_with fail
      go_ret
      exact ⟨rfl, HB.out⟩
    · have hd2 : decide ((n : Int) ≤ fr) = false := decide_eq_false h2
      obtain ⟨k, g, rfl, hk, hc1, hc2, rfl, hg, ob, hcell, ho⟩ := (hc.resolve_left h1).resolve_left h2
      have r0 := (hb.cell (p := ⟨g, k, none⟩) hg).trans hcell
      have hy0 : (0 : Int) ≤ (k : Int) := by omega
      have hy1 : (k : Int) < (n : Int) := by omega
      have hd2' : decide (n ≤ k) = false := decide_eq_false (by omega)
      unfold maxLen at hc2
      clear hc hb hcell h1 h2 hg
      cases ob with
      | false =>
        go_enter Tryz.func24, Tryz.ntmps24
        go_wp2_with fail
        go_ret
        exact ⟨rfl, HB.out⟩
      | true =>
        by_cases h3 : st < 0
        · have hd3 : decide (st < 0) = true := decide_eq_true h3
          clear ho
          go_enter Tryz.func24, Tryz.ntmps24
          go_wp2_with fail
          go_ret
          exact ⟨rfl, HB.out⟩
        · have hd3 : decide (st < 0) = false := decide_eq_false h3
          have h4 : (1048576 : Int) ≤ st := by
            rcases ho with e | e | e
            · cases e
            · exact absurd e h3
            · exact e
          have hd4 : decide ((1048576 : Int) ≤ st) = true := decide_eq_true h4
          clear ho h3 h4
          go_enter Tryz.func24, Tryz.ntmps24
          go_wp2_with fail
          go_ret
          exact ⟨rfl, HB.out⟩
theorem r7is_any {W H : Int} {s : ByteArray} {AN AL AO : Option Addr} {n cN cL cO : Nat} {w : World} (hM : Right W H s → MapAt w W.toNat H.toNat s AN AL AO n cN cL cO) (hM0 : ¬ Right W H s → n = 0) {rb : Nat} {A : Option Addr} {cc : Nat} {R : List R3} (hT : RT w rb A cc R) {T : Int → List (Int × Int)} (hTR : ∀ y, tkn R y = T y) (hO : ∀ y, Ordw 0 (T y)) (hS : ∀ y, (T y).length ≤ 2000) (fr st : Int)
    {Al : Option Addr} {nl cl : Nat} {L : List (Int × Int)} (hL : Wt w.heap.size w Al nl cl L) (hn : nl ≤ 100000) :
    Calls Tryz.prog 24 #[.agg #[.slice AN n cN, .slice AL n cL, .slice AO n cO], .pointer (some ⟨rb, 0, none⟩), .int .i64 fr, .int .i64 st, .slice Al nl cl] w (Told (IsOk W H s fr st T L) w) := by
  obtain rfl : tkn R = T := funext hTR
  have hno : ∀ {P : Prop}, ¬ P → ∀ e w', (e = Ending.returned (.bool false) ∧ Below w.heap.size w w') → Told P w e w' := fun hP e w' h => ⟨false, h.1, ⟨fun h => (by cases h), fun h => absurd h hP⟩, h.2⟩
  by_cases hR : Right W H s
  · have hMm := hM hR
    obtain ⟨W, H, rfl, rfl, hSd, hN⟩ := rightNat hR
    rw [Int.toNat_natCast, Int.toNat_natCast] at hMm
    have hsn := hMm.sz
    have h256 := hSd.le
    by_cases h1 : fr < 0
    · exact (r7is_no rb fr st Al nl cl (.inl h1)).mono (fun e w' h => hno (fun h => by obtain ⟨_, _, k, _, _, e, _⟩ := onFloor_some h.1.1; omega) e w' h)
    · by_cases h2 : (n : Int) ≤ fr
      · exact (r7is_no rb fr st Al nl cl (.inr (.inl h2))).mono (fun e w' h => hno (fun h => by obtain ⟨_, _, k, _, _, e, hk, _⟩ := onFloor_some h.1.1; omega) e w' h)
      · obtain ⟨a, rfl⟩ := Int.eq_ofNat_of_zero_le (Int.not_lt.1 h1)
        have ha : a < s.size := by omega
        obtain ⟨g, rfl, hg, hcell⟩ := hMm.opn
        have hca := hcell a (by omega)
        by_cases hz : at_ s a = 35
        · exact (r7is_no rb a st Al nl cl (.inr (.inr ⟨a, g, rfl, by omega, hMm.caps.2.2.1, hMm.caps.2.2.2, rfl, hg, _, hca, .inl (by simp [hz])⟩))).mono (fun e w' h => hno (fun h => by
            obtain ⟨_, _, k, _, _, e, hk, hz2, _⟩ := onFloor_some h.1.1
            obtain rfl : a = k := by omega
            exact hz2 hz) e w' h)
        · by_cases h3 : st < 0 ∨ 1048576 ≤ st
          · exact (r7is_no rb a st Al nl cl (.inr (.inr ⟨a, g, rfl, by omega, hMm.caps.2.2.1, hMm.caps.2.2.2, rfl, hg, _, hca, .inr h3⟩))).mono (fun e w' h => hno (fun h => by have := h.1.2; omega) e w' h)
          · have hOF : OnFloor (W : Int) (H : Int) s (a : Int) := ⟨hR, by rw [bAt_in5 s a ha]; exact hz⟩
            have hRt : Rt7 (W : Int) (H : Int) s (a : Int) st := ⟨hOF, by omega, by omega⟩
            have hE := envOk hRt hO hS
            have hdi := wyT_di hE hO L a st (Int.le_refl _) (by
              have := hE.start
              exact this)
            refine (r7is_some hMm h256 hSd.w1 hSd.sz hT hO ha hz (by omega) (by omega) hL hn).mono ?_
            rintro e w' ⟨b, rfl, hb, hB⟩
            rw [Int.toNat_natCast, Int.toNat_natCast, Int.toNat_natCast] at hdi
            exact ⟨b, rfl, hb.trans (hdi.symm.trans ⟨fun h => ⟨hRt, by rw [Int.toNat_natCast, Int.toNat_natCast, Int.toNat_natCast]; exact h⟩, fun h => by have := h.2; rwa [Int.toNat_natCast, Int.toNat_natCast, Int.toNat_natCast] at this⟩), hB⟩
  · obtain rfl := hM0 hR
    refine (r7is_no rb fr st Al nl cl (by omega)).mono (fun e w' h => hno (fun h => hR h.1.1.1) e w' h)
end Sp
end Go.Proofs.YtinkpeliinofoaaGreatDoor
