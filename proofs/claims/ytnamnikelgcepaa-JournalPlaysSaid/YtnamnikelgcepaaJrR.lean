/-
  Layer 16: the document's journal over the document's disk.
-/
import Derived.Test.YtnamnikelgcepaaJrD
import Derived.Test.YtnamnikelgcepaaDkS
import Derived.Lib.ConvBytes
import Derived.OwnWalk
import Derived.StillTailTactics
set_option linter.unusedVariables false
set_option maxRecDepth 100000
namespace Go.Proofs.Ytnamnikelgcepaa
namespace Jr
open Go.RowKit Go.Maps Bp Ck
open Dk (D DAt DF op kp pwE apE apD syD cuE cuD IW crN crD ctD RD One)

/-- What the bytes of a text are. -/
theorem bytes_by (w : World) (s : ByteArray) (hl : s.size ≤ 1048576) :
    By (Lib.bytesWorld w 5 s).heap.size (Lib.bytesWorld w 5 s) (some ⟨w.heap.size, 0, none⟩) s.size (grownCap w s.size 0 5) (nums s) := by
  refine ⟨nums_len s, grownCap_ge _ _ _ _, grownCap_le_maxLen _ _ _ _ (by unfold maxLen; omega), fun e => (by cases e), nums_byte s, fun hn => ⟨w.heap.size, 0, rfl, by rw [Lib.bytesWorld_size]; omega, fun j hj => ?_⟩⟩
  rw [Nat.zero_add, Lib.bytesWorld_cell w 5 s j hj]
  have : j < s.data.toList.length := by simpa using hj
  simp [nums, List.getD, List.getElem?_eq_getElem this]
theorem bytes_below (w : World) (s : ByteArray) : Below w.heap.size w (Lib.bytesWorld w 5 s) := ⟨rfl, rfl, rfl, by rw [Lib.bytesWorld_size]; omega, fun k hk => Lib.bytesWorld_at_old w _ s k hk⟩
/-- The document's journal in block jr, its disk in block q. -/
structure RJ (w : World) (base jr q : Nat) (d : D) (n : Nat) : Prop where
  box : w.heap[jr]? = some (.cells #[.pointer (some ⟨q, 0, none⟩), .int .i64 (n : Int)] 51 (0, 0))
  rd : RD w base q d
  lo : base ≤ jr
def RF (jr q k : Nat) : Prop := k = jr ∨ k = q
section
variable {w w' : World} {base jr q n : Nat} {d d' : D}
theorem RJ.lt (h : RJ w base jr q d n) : jr < w.heap.size := lt_of_heap h.box
theorem RJ.cells (h : RJ w base jr q d n) : w.cell? ⟨jr, 0, none⟩ = some (.pointer (some ⟨q, 0, none⟩)) ∧ w.cell? ⟨jr, 1, none⟩ = some (.int .i64 (n : Int)) :=
  ⟨by rw [cell_of_row w jr 0 _ _ _ h.box]; rfl, by rw [cell_of_row w jr 1 _ _ _ h.box]; rfl⟩
theorem RJ.free (h : RJ w base jr q d n) (i : Nat) : w.frozen? ⟨jr, i, none⟩ = false := frozen_of_row w jr i _ _ h.box
theorem RJ.ne (h : RJ w base jr q d n) : jr ≠ q := by
  intro e
  have h1 := h.box
  have h2 := h.rd.box
  rw [e] at h1
  have := h1.symm.trans h2
  injection this with this
  injection this with _ this _
  revert this
  decide
theorem RJ.later (h : RJ w base jr q d n) (hb : Below w.heap.size w w') : RJ w' base jr q d n := ⟨(hb.block jr h.lt).trans h.box, h.rd.later hb, h.lo⟩
/-- Its disk acts. -/
theorem RJ.act (h : RJ w base jr q d n) (hr : RD w' base q d') (ht : Turn (One q) (One q) w w') : RJ w' base jr q d' n :=
  ⟨(ht.block jr h.lt h.ne).trans h.box, hr, h.lo⟩
theorem widenR (h : Turn (One q) (One q) w w') : Turn (RF jr q) (RF jr q) w w' :=
  ⟨h.os, h.tape, h.output, h.size, fun k hk hn => h.block k hk (fun e => hn (.inr e)), fun k hk => .inl hk⟩
theorem RJ.put (h : RJ w base jr q d n) {m : Nat} : RJ (w.setCell ⟨jr, 1, none⟩ (.int .i64 (m : Int))) base jr q d m :=
  ⟨by rw [heap_setCell_same w jr 1 _ _ _ h.box]; simp, h.rd.same (Dk.set_other _ _ _ _ _ (fun e => h.ne e.symm)), h.lo⟩
end
def RJTold (base jr q : Nat) (r : Value) (d' : D) (n' : Nat) (w : World) (e : Ending) (w' : World) : Prop := e = .returned r ∧ RJ w' base jr q d' n' ∧ Turn (RF jr q) (RF jr q) w w'
set_option maxHeartbeats 1000000 in
theorem rNote_any {w : World} {base jr q n : Nat} {d : D} (h : RJ w base jr q d n) (hn : n < 1048576) (A : Option Addr) (m c : Nat) (zs : List Nat) (hy : By w.heap.size w A m c zs) :
    Calls Try.prog 18 #[.pointer (some ⟨jr, 0, none⟩), .slice A m c] w (RJTold base jr q (.int .i64 (noE d zs)) (noD d zs) (if noE d zs = 0 then n + 1 else n) w) := by
  have hm := hy.len
  by_cases hl : 1000 < m
  · have e1 : noE d zs = 4 := by unfold noE; rw [if_pos (by omega)]
    have e2 : noD d zs = d := by unfold noD; rw [if_pos (by omega)]
    have HF := Lib.hid (refFrame_long hy hl)
    rw [e1, e2, if_neg (by decide)]
    have HN := Lib.hid h
    clear h e1 e2 hy hm
    go_enter Try.func18, Try.ntmps18
    go_wp2_with fail
    refine HF.out.mono ?_
    rintro e w1 ⟨rfl, rfl⟩
    go_wp2_with fail
    go_ret
    exact ⟨rfl, HN.out, Turn.refl _ _⟩
  · have e1 : noE d zs = apE d (strOf (frm zs)) := by unfold noE; rw [if_neg (by omega)]
    have e2 : noD d zs = apD d (strOf (frm zs)) := by unfold noD; rw [if_neg (by omega)]
    rw [e1, e2]
    have HF := Lib.hid (refFrame_ok hy (Nat.le_refl _) (by omega))
    have hfb := frm_byte zs hy.byte (by omega)
    have HFB := Lib.hid hfb
    have HSz : Hid ((strOf (frm zs)).size ≤ 9223372036854775807) := Lib.hid (by rw [strOf_size, frm_len]; omega)
    have HH := Lib.hid h
    clear h e1 e2 hy hl hfb
    obtain ⟨z, hz⟩ : ∃ z, z = apE d (strOf (frm zs)) := ⟨_, rfl⟩
    rw [← hz]
    have HZ := Lib.hid hz
    by_cases h0 : z = 0
    · subst h0
      rw [if_pos rfl]
      clear hz
      go_enter Try.func18, Try.ntmps18
      go_wp2_with fail
      refine HF.out.mono ?_
      rintro e w1 ⟨g1, cc, rfl, ho1, hb1⟩
      have hj1 := (HH.out.later hb1).later (Below.refl _ w1).drew
      have HJ1 := Lib.hid hj1
      obtain ⟨k0, k1⟩ := hj1.cells
      have HA := Lib.hid (Dk.rAppend_any hj1.rd (strOf (frm zs)) HSz.out)
      rw [← HZ.out] at HA
      have q1 : (convert 22 9 (.slice (some ⟨g1, 0, none⟩) (m + 4) cc)).run Try.prog w1.drew = .ok (.string (strOf (frm zs))) w1.drew := (By.own ho1 HFB.out).drew.conv
      have HB1 := Lib.hid (hb1.drew)
      clear hj1 ho1 hb1
      go_wp2_with fail
      go_still_tail 6, (by kernel_rfl)
      change wpList _ _ _ _ _ w1.drew
      go_wp2_with fail
      refine HA.out.mono ?_
      rintro e w2 ⟨rfl, hn2, ht2⟩
      have hj2 := HJ1.out.act hn2 ht2
      have HJ2 := Lib.hid hj2
      obtain ⟨l0, l1⟩ := hj2.cells
      have f1 := hj2.free 1
      have HT2 := Lib.hid ht2
      have hw : wrap64 ((n : Int) + 1) = ((n + 1 : Nat) : Int) := by unfold wrap64; omega
      clear hj2 hn2 ht2 k0 k1 HA q1
      go_wp2_with fail
      go_ret
      refine ⟨rfl, HJ2.out.put (m := n + 1), ?_⟩
      exact ((Turn.ofBelow HB1.out _).trans (widenR HT2.out)).put _ (.inl rfl)
    · rw [if_neg h0]
      have d0 : (z == 0) = false := by simpa using h0
      clear hz h0
      go_enter Try.func18, Try.ntmps18
      go_wp2_with fail
      refine HF.out.mono ?_
      rintro e w1 ⟨g1, cc, rfl, ho1, hb1⟩
      have hj1 := (HH.out.later hb1).later (Below.refl _ w1).drew
      have HJ1 := Lib.hid hj1
      obtain ⟨k0, k1⟩ := hj1.cells
      have HA := Lib.hid (Dk.rAppend_any hj1.rd (strOf (frm zs)) HSz.out)
      rw [← HZ.out] at HA
      have q1 : (convert 22 9 (.slice (some ⟨g1, 0, none⟩) (m + 4) cc)).run Try.prog w1.drew = .ok (.string (strOf (frm zs))) w1.drew := (By.own ho1 HFB.out).drew.conv
      have HB1 := Lib.hid (hb1.drew)
      clear hj1 ho1 hb1
      go_wp2_with fail
      go_still_tail 6, (by kernel_rfl)
      change wpList _ _ _ _ _ w1.drew
      go_wp2_with fail
      refine HA.out.mono ?_
      rintro e w2 ⟨rfl, hn2, ht2⟩
      have hj2 := HJ1.out.act hn2 ht2
      have HJ2 := Lib.hid hj2
      have HT2 := Lib.hid ht2
      clear hj2 hn2 ht2 k0 k1 HA q1
      go_wp2_with fail
      go_ret
      exact ⟨rfl, HJ2.out, (Turn.ofBelow HB1.out _).trans (widenR HT2.out)⟩
/-- Lists lie in no block of the document's disk. -/
theorem bss_turnR {w w' : World} {base q : Nat} {d : D} {F' : Nat → Prop} {A : Option Addr} {n c : Nat} {ls : List (List Nat)} (h : Bss w.heap.size w A n c ls) (hr : RD w base q d) (ht : Turn (One q) F' w w') : Bss w'.heap.size w' A n c ls := by
  have hq : ∀ off u, w.cell? ⟨q, off, none⟩ = some u → u = .string d.s ∨ (∃ z, u = .int .i64 z) ∨ (∃ b, u = .bool b) := fun off u hu => by
    rw [cell_of_row w q off _ _ _ hr.box] at hu
    match off with
    | 0 => simp [Dk.rbox] at hu; exact .inl hu.symm
    | 1 => simp [Dk.rbox] at hu; exact .inr (.inl ⟨_, hu.symm⟩)
    | 2 => simp [Dk.rbox] at hu; exact .inr (.inr ⟨_, hu.symm⟩)
    | 3 => simp [Dk.rbox] at hu; exact .inr (.inl ⟨_, hu.symm⟩)
    | m + 4 => simp [Dk.rbox] at hu
  refine ⟨h.len, h.le, h.max, fun hn => ?_⟩
  obtain ⟨g, off, hg, hlt, hc⟩ := h.cell hn
  have hgq : ¬ One q g := fun e => by
    have e : g = q := e
    obtain ⟨A', n', c', e1, _⟩ := hc 0 hn
    rw [e] at e1
    rcases hq _ _ e1 with z | ⟨_, z⟩ | ⟨_, z⟩ <;> cases z
  refine ⟨g, off, hg, Nat.lt_of_lt_of_le hlt ht.size, fun t htt => ?_⟩
  obtain ⟨A', n', c', e1, e2⟩ := hc t htt
  refine ⟨A', n', c', (Dk.cell_block (ht.block g hlt hgq)).trans e1, ⟨e2.len, e2.le, e2.max, e2.nil, e2.byte, fun hn' => ?_⟩⟩
  obtain ⟨g2, off2, hg2, hlt2, hc2⟩ := e2.cell hn'
  have hgq2 : ¬ One q g2 := fun e => by
    have e : g2 = q := e
    have e3 := hc2 0 hn'
    rw [e] at e3
    rcases hq _ _ e3 with z | ⟨_, z⟩ | ⟨_, z⟩
    · cases z
    · injection z with z; cases z
    · cases z
  exact ⟨g2, off2, hg2, Nat.lt_of_lt_of_le hlt2 ht.size, fun i hi => (Dk.cell_block (ht.block g2 hlt2 hgq2)).trans (hc2 i hi)⟩
/-- What is told of the document's disk whose power is on, and stays on. -/
def ROpenTold (base q : Nat) (d : D) (w : World) (e : Ending) (w' : World) : Prop :=
  ∃ jr A c, e = .returned (.tuple #[.pointer (some ⟨jr, 0, none⟩), .slice A (fr d.s).length c, .int .i64 0]) ∧ RJ w' base jr q (kp d (wl d.s)) (fr d.s).length ∧ Bss w'.heap.size w' A (fr d.s).length c ((fr d.s).map inn) ∧ Turn (One q) (One q) w w' ∧ w.heap.size ≤ jr
set_option maxHeartbeats 1000000 in
theorem rOpen_any {w : World} {base q : Nat} {d : D} (h : RD w base q d) (hL : Live d) (hbase : base ≤ w.heap.size) : Calls Try.prog 14 #[.pointer (some ⟨q, 0, none⟩)] w (ROpenTold base q d w) := by
  have HD := Lib.hid h
  obtain ⟨m, hm⟩ : ∃ m, m = d.s.size := ⟨_, rfl⟩
  obtain ⟨n, hn⟩ : ∃ n, n = (fr d.s).length := ⟨_, rfl⟩
  obtain ⟨k, hk⟩ : ∃ k, k = wl d.s := ⟨_, rfl⟩
  have HR : Hid (Calls Try.prog 26 #[.pointer (some ⟨q, 0, none⟩)] w fun e w' => e = .returned (.tuple #[.string d.s, .int .i64 0]) ∧ w = w') := Lib.hid (by
    refine (Dk.rRead_any h).mono ?_
    rintro e w1 ⟨rfl, rfl⟩
    have e1 : Dk.rdS d = d.s := by unfold Dk.rdS; rw [if_neg (by rw [hL.1]; simp)]
    rw [e1, Dk.pw_on hL.1]
    exact ⟨rfl, rfl⟩)
  have hkm : k ≤ m := by rw [hk, hm]; exact wl_le _
  have hmm : m ≤ 1048576 := by rw [hm]; exact h.few
  have HM := Lib.hid hm
  have HN := Lib.hid hn
  have HK := Lib.hid hk
  have HLv := Lib.hid hL
  have HY := Lib.hid (bytes_by w d.s h.few)
  have HC : Hid ((convert 9 22 (.string d.s)).run Try.prog w = .ok (.slice (some ⟨w.heap.size, 0, none⟩) m (grownCap w m 0 5)) (Lib.bytesWorld w 5 d.s)) := Lib.hid (by
    have := Lib.run_convert_string_bytes (P := Try.prog) w 9 22 5 d.s Try.underlying9 Try.underlying22 Try.underlying5
    rw [hm]
    exact this)
  have HB := Lib.hid (bytes_below w d.s)
  rw [← hm] at HY
  have kc := HC.out
  have hds := HM.out
  clear h hL hm hn hk HC
  generalize grownCap w m 0 5 = gc at *
  go_enter Try.func14, Try.ntmps14
  go_wp2_with fail
  refine HR.out.mono ?_
  rintro e w1 ⟨rfl, rfl⟩
  clear HR hds
  go_wp2_with fail
  generalize Lib.bytesWorld w 5 d.s = w1 at *
  refine (refScan_any HY.out (Nat.le_refl _) hmm).mono ?_
  rintro e w2 ⟨fs, A2, c2, rfl, hs2, hl2, hb2⟩
  obtain rfl : fr d.s = fs := fr_eq hs2
  have hk2 : (fr d.s).flatten.length = k := HK.out.symm
  rw [← HN.out, hk2]
  rw [← HN.out] at hl2
  have hB2 := HB.out.trans (hb2.mono HB.out.size)
  have HD2 := Lib.hid (HD.out.later hB2)
  have HL2 := Lib.hid hl2
  have HB2 := Lib.hid hB2
  have hds : d.s.size = m := HM.out.symm
  have ho := live_op HLv.out
  clear hs2 hl2 hb2 hB2 hk2 HY HB kc
  have HFin : Hid (∀ w3, RD w3 base q (kp d k) → Turn (One q) (One q) w2 w3 → ROpenTold base q d w (.returned (.tuple #[.pointer (some ⟨w3.heap.size, 0, none⟩), .slice A2 n c2, .int .i64 0])) (w3.alloc (.cells #[.pointer (some ⟨q, 0, none⟩), .int .i64 (n : Int)] 51))) := Lib.hid (fun w3 hr3 ht3 => by
    have hal := (Below.refl w3.heap.size w3).alloc (Nat.le_refl _) (.cells #[.pointer (some ⟨q, 0, none⟩), .int .i64 (n : Int)] 51)
    have htA : Turn (One q) (One q) w2 (w3.alloc (.cells #[.pointer (some ⟨q, 0, none⟩), .int .i64 (n : Int)] 51)) := ht3.trans (Turn.ofBelow hal _)
    have hl3 := bss_turnR HL2.out HD2.out htA
    refine ⟨w3.heap.size, A2, c2, by rw [← HN.out], ⟨?_, ?_, Nat.le_trans hbase (Nat.le_trans HB2.out.size ht3.size)⟩, by rw [← HN.out]; exact hl3, (Turn.ofBelow HB2.out _).trans htA, Nat.le_trans HB2.out.size ht3.size⟩
    · rw [← HN.out]; exact heap_alloc_new w3 _
    · rw [← HK.out]; exact hr3.later hal)
  clear HL2
  by_cases hlt : k < m
  · have HCu := Lib.hid (Dk.rCutoff_any HD2.out (k : Int))
    have e1 : cuE d k = 0 := by unfold cuE; rw [ho, if_neg (by rw [HLv.out.1]; simp), if_pos ⟨by omega, by omega⟩]
    have e2 : cuD d k = kp d k := by unfold cuD; rw [if_pos e1, ho]; rfl
    rw [e1, e2] at HCu
    have hkL : Live (kp d k) := HLv.out
    have e3 : pwE (op (kp d k)) = 0 := live_pw hkL
    have e4 : syD (kp d k) = kp d k := by
      unfold syD
      rw [live_op hkL, if_neg (by rw [hkL.1]; simp)]
      exact kp_kp d k (by omega)
    have HE := Lib.hid (And.intro e3 e4)
    have q9 : (k : Int) < (m : Int) := by omega
    clear ho e1 e2 e3 e4 hkL
    go_wp2_with fail
    refine HCu.out.mono ?_
    rintro e w3 ⟨rfl, hn3, ht3⟩
    have HS := Lib.hid (Dk.rSync_any hn3)
    rw [HE.out.1, HE.out.2] at HS
    have HT3 := Lib.hid ht3
    clear hn3 ht3 HCu
    go_wp2_with fail
    refine HS.out.mono ?_
    rintro e w4 ⟨rfl, hn4, ht4⟩
    have HF := Lib.hid (HFin.out w4 hn4 (HT3.out.trans ht4))
    clear hn4 ht4 HS HFin
    go_wp2_with fail
    go_ret3
    exact HF.out
  · have HS := Lib.hid (Dk.rSync_any HD2.out)
    have e3 : pwE (op d) = 0 := live_pw HLv.out
    have e4 : syD d = kp d k := by
      unfold syD
      rw [ho, if_neg (by rw [HLv.out.1]; simp)]
      congr 1
      omega
    rw [e3, e4] at HS
    have q9 : ¬ ((k : Int) < (m : Int)) := by omega
    clear ho e3 e4 hlt
    go_wp2_with fail
    refine HS.out.mono ?_
    rintro e w4 ⟨rfl, hn4, ht4⟩
    have HF := Lib.hid (HFin.out w4 hn4 ht4)
    clear hn4 ht4 HS HFin
    go_wp2_with fail
    go_ret3
    exact HF.out
end Jr
end Go.Proofs.Ytnamnikelgcepaa
