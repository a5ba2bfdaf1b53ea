/-
  Layer 16: Open, Note, Sync, Len.
-/
import Derived.Test.YtejldeecblppjaaDoorJrB
import Derived.OwnWalk
set_option linter.unusedVariables false
set_option maxRecDepth 100000
namespace Go.Proofs.YtejldeecblppjaaDoor
namespace Jr
open Go.RowKit Go.Maps Bp Ck
open Dk (D DAt DF op kp pwE apE apD syD cuE cuD IW)

set_option maxHeartbeats 1000000 in
theorem Open_any {w : World} {base g : Nat} {v : Value} {d : D} (h : DAt w base g v d) (h1 : d.dead = false) (h2 : d.cut = false) : Calls Tryd.prog 22 #[.pointer (some ⟨g, 0, none⟩)] w (OpenTold base g v d w) := by
  have HD := Lib.hid h
  obtain ⟨m, hm⟩ : ∃ m, m = d.s.size := ⟨_, rfl⟩
  obtain ⟨n, hn⟩ : ∃ n, n = (fr d.s).length := ⟨_, rfl⟩
  obtain ⟨k, hk⟩ : ∃ k, k = wl d.s := ⟨_, rfl⟩
  have HR : Hid (Calls Tryd.prog 52 #[.pointer (some ⟨g, 0, none⟩)] w fun e w' => ∃ A c, e = .returned (.tuple #[.slice A m c, .int .i64 0]) ∧ Nw.Yw w' w.heap.size (.slice A m c) d.s ∧ Below w.heap.size w w') := Lib.hid (by
    refine (Dk.Read_any h).mono ?_
    rintro e w1 ⟨A, c, rfl, hy, hb⟩
    have e1 : Dk.rdS d = d.s := by unfold Dk.rdS; rw [if_neg (by rw [h1]; simp)]
    rw [e1] at hy ⊢
    rw [Dk.pw_on h1, hm]
    exact ⟨A, c, rfl, hy, hb⟩)
  have hkm : k ≤ m := by rw [hk, hm]; exact wl_le _
  have hnk : 4 * n ≤ k := by rw [hk, hn]; exact fr_le _
  have hmm : m ≤ 1048576 := by rw [hm]; exact h.few
  have HM := Lib.hid hm
  have HN := Lib.hid hn
  have HK := Lib.hid hk
  have H1 := Lib.hid h1
  have H2 := Lib.hid h2
  clear h h1 h2 hm hn hk
  go_enter Tryd.func22, Tryd.ntmps22
  go_wp2_with fail
  refine HR.out.mono ?_
  rintro e w1 ⟨A, c, rfl, hy1, hb1⟩
  have HY1 := Lib.hid (yb_nums hy1.yb)
  have HB1 := Lib.hid hb1
  clear hy1 hb1 HR
  go_wp2_with fail
  refine (scanF_any HY1.out (Nat.le_refl _) hmm).mono ?_
  rintro e w2 ⟨fs, A2, c2, rfl, hs2, hl2, hi2, hb2⟩
  obtain rfl : fr d.s = fs := fr_eq hs2
  have hk2 : (fr d.s).flatten.length = k := HK.out.symm
  rw [← HN.out, hk2]
  rw [← HN.out] at hl2 hi2
  have hB2 := HB1.out.trans (hb2.mono HB1.out.size)
  have HMd := Lib.hid (mend_any (HD.out.later hB2) H1.out H2.out k m (by rw [← HM.out]; exact hkm) HM.out)
  have HL2 := Lib.hid hl2
  have HI2 : Hid (Inn w.heap.size w2 A2 n c2) := Lib.hid ⟨hi2.1, fun x hx => Nat.le_trans HB1.out.size (hi2.2.1 x hx), fun g off hA j hj A' n' c' hc x hx => Nat.le_trans HB1.out.size (hi2.2.2 g off hA j hj A' n' c' hc x hx)⟩
  have HB2 := Lib.hid hB2
  clear hs2 hl2 hi2 hb2 hB2 hk2 HY1 HB1
  go_wp2_with fail
  refine HMd.out.mono ?_
  rintro e w3 ⟨v3, rfl, hn3, ht3⟩
  have HN3 := Lib.hid hn3
  have HT3 := Lib.hid ht3
  clear hn3 ht3 HMd
  go_wp2_with fail
  go_ret3
  have hal := (Below.refl w3.heap.size w3).alloc (Nat.le_refl _) (.cells #[.pointer (some ⟨g, 0, none⟩), .int .i64 (n : Int)] 94)
  have htA : Turn (DF g v) (DF g v3) w2 (w3.alloc (.cells #[.pointer (some ⟨g, 0, none⟩), .int .i64 (n : Int)] 94)) := HT3.out.trans (Turn.ofBelow hal _)
  have hF : ∀ k, DF g v k → k < w.heap.size ∨ w2.heap.size ≤ k := fun k hk => .inl (HD.out.blocks k hk).2
  have hl3 := bss_turn HL2.out HI2.out htA hF
  refine ⟨w3.heap.size, A2, c2, v3, by rw [← HN.out]; rfl, ⟨?_, ?_, Nat.le_trans HN3.out.lo (Nat.le_of_lt HN3.out.lt), by rw [← HN.out]; omega⟩, by rw [← HN.out]; exact hl3, ?_, Nat.le_trans HB2.out.size HT3.out.size, w2, HB2.out, htA, by rw [← HN.out]; exact HL2.out, by rw [← HN.out]; exact HI2.out, HT3.out.size⟩
  · rw [← HN.out]; exact heap_alloc_new w3 _
  · rw [← HK.out]; exact HN3.out.later hal
  · exact (Turn.ofBelow HB2.out _).trans htA
/-- What a call of a journal leaves. -/
def JTold (base j g : Nat) (v : Value) (r : Value) (d' : D) (n' : Nat) (w : World) (e : Ending) (w' : World) : Prop := ∃ v', e = .returned r ∧ JAt w' base j g v' d' n' ∧ Turn (JF j g v) (JF j g v') w w'
/-- Note's error. -/
def noE (d : D) (zs : List Nat) : Int := if 1000 < zs.length then 4 else apE d (strOf (frm zs))
/-- What it leaves. -/
def noD (d : D) (zs : List Nat) : D := if 1000 < zs.length then d else apD d (strOf (frm zs))
set_option maxHeartbeats 1000000 in
theorem Note_any {w : World} {base j g n : Nat} {v : Value} {d : D} (h : JAt w base j g v d n) (hn : n < 1048576) (A : Option Addr) (m c : Nat) (zs : List Nat) (hy : By w.heap.size w A m c zs) :
    Calls Tryd.prog 24 #[.pointer (some ⟨j, 0, none⟩), .slice A m c] w (JTold base j g v (.int .i64 (noE d zs)) (noD d zs) (if noE d zs = 0 then n + 1 else n) w) := by
  have hm := hy.len
  by_cases hl : 1000 < m
  · have e1 : noE d zs = 4 := by unfold noE; rw [if_pos (by omega)]
    have e2 : noD d zs = d := by unfold noD; rw [if_pos (by omega)]
    have HF := Lib.hid (frame_long hy hl)
    rw [e1, e2, if_neg (by decide)]
    have HN := Lib.hid h
    clear h e1 e2 hy hm
    go_enter Tryd.func24, Tryd.ntmps24
    go_wp2_with fail
    refine HF.out.mono ?_
    rintro e w1 ⟨rfl, rfl⟩
    go_wp2_with fail
    go_ret
    exact ⟨v, rfl, HN.out, Turn.refl _ _⟩
  · have e1 : noE d zs = apE d (strOf (frm zs)) := by unfold noE; rw [if_neg (by omega)]
    have e2 : noD d zs = apD d (strOf (frm zs)) := by unfold noD; rw [if_neg (by omega)]
    rw [e1, e2]
    have HF := Lib.hid (frame_ok hy (Nat.le_refl _) (by omega))
    have hfb := frm_byte zs hy.byte (by omega)
    have HFB := Lib.hid hfb
    have HH := Lib.hid h
    obtain ⟨c0, c1⟩ := h.cells
    clear h e1 e2 hy hl hfb
    obtain ⟨z, hz⟩ : ∃ z, z = apE d (strOf (frm zs)) := ⟨_, rfl⟩
    rw [← hz]
    have HZ := Lib.hid hz
    by_cases h0 : z = 0
    · subst h0
      rw [if_pos rfl]
      clear hz
      go_enter Tryd.func24, Tryd.ntmps24
      go_wp2_with fail
      refine HF.out.mono ?_
      rintro e w1 ⟨g1, cc, rfl, ho1, hb1⟩
      have hj1 := HH.out.later hb1
      have HJ1 := Lib.hid hj1
      obtain ⟨k0, k1⟩ := hj1.cells
      have HA := Lib.hid (Dk.Append_any hj1.disk (some ⟨g1, 0, none⟩) (m + 4) cc (strOf (frm zs)) (by_yb (By.own ho1 HFB.out)))
      rw [← HZ.out] at HA
      have HB1 := Lib.hid hb1
      clear hj1 ho1 hb1 c0 c1
      go_wp2_with fail
      refine HA.out.mono ?_
      rintro e w2 ⟨v2, rfl, hn2, ht2⟩
      have hj2 := HJ1.out.act hn2 ht2
      have HJ2 := Lib.hid hj2
      obtain ⟨l0, l1⟩ := hj2.cells
      have f1 := hj2.free 1
      have HT2 := Lib.hid ht2
      have hw : wrap64 ((n : Int) + 1) = ((n + 1 : Nat) : Int) := by unfold wrap64; omega
      clear hj2 hn2 ht2 k0 k1 HA
      go_wp2_with fail
      go_ret
      refine ⟨v2, rfl, HJ2.out.put (m := n + 1) (by omega), ?_⟩
      exact ((Turn.ofBelow HB1.out _).trans (widen HT2.out)).put _ (.inl rfl)
    · rw [if_neg h0]
      have d0 : (z == 0) = false := by simpa using h0
      clear hz h0
      go_enter Tryd.func24, Tryd.ntmps24
      go_wp2_with fail
      refine HF.out.mono ?_
      rintro e w1 ⟨g1, cc, rfl, ho1, hb1⟩
      have hj1 := HH.out.later hb1
      have HJ1 := Lib.hid hj1
      obtain ⟨k0, k1⟩ := hj1.cells
      have HA := Lib.hid (Dk.Append_any hj1.disk (some ⟨g1, 0, none⟩) (m + 4) cc (strOf (frm zs)) (by_yb (By.own ho1 HFB.out)))
      rw [← HZ.out] at HA
      have HB1 := Lib.hid hb1
      clear hj1 ho1 hb1 c0 c1
      go_wp2_with fail
      refine HA.out.mono ?_
      rintro e w2 ⟨v2, rfl, hn2, ht2⟩
      have hj2 := HJ1.out.act hn2 ht2
      have HJ2 := Lib.hid hj2
      have HT2 := Lib.hid ht2
      clear hj2 hn2 ht2 k0 k1 HA
      go_wp2_with fail
      go_ret
      exact ⟨v2, rfl, HJ2.out, (Turn.ofBelow HB1.out _).trans (widen HT2.out)⟩
theorem Sync_any {w : World} {base j g n : Nat} {v : Value} {d : D} (h : JAt w base j g v d n) :
    Calls Tryd.prog 25 #[.pointer (some ⟨j, 0, none⟩)] w (JTold base j g v (.int .i64 (pwE (op d))) (syD d) n w) := by
  have HH := Lib.hid h
  have HS := Lib.hid (Dk.Sync_any h.disk)
  obtain ⟨c0, c1⟩ := h.cells
  clear h
  go_enter Tryd.func25, Tryd.ntmps25
  go_wp2_with fail
  refine HS.out.mono ?_
  rintro e w2 ⟨v2, rfl, hn2, ht2⟩
  have HJ2 := Lib.hid (HH.out.act hn2 ht2)
  have HT2 := Lib.hid ht2
  clear hn2 ht2
  go_wp2_with fail
  go_ret
  exact ⟨v2, rfl, HJ2.out, widen HT2.out⟩
end Jr
end Go.Proofs.YtejldeecblppjaaDoor
