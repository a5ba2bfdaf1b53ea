/-
  Layer 15: keep, Append, Sync, Cutoff, Read, Cut, Crash, Dead, Safe, Copy, New.
-/
import Derived.Test.YtejldeecblppjaaDoorDkA
set_option linter.unusedVariables false
set_option maxRecDepth 100000
namespace Go.Proofs.YtejldeecblppjaaDoor
namespace Dk
open Go.RowKit Go.Maps Bk Nw

theorem app_bytes2 {w : World} {ops : Array Oper} {rest : List Oper} {o : Oper} {a : Act} {Q : Exit → Act → World → Prop} (hgd : o.guard = none) (s x : Operand) (ho : o.op = .call { callee := .builtin .append, args := #[s, x], argTypes := #[24, 24] })
    (base : Nat) (v : Value) (t : ByteArray) (hs : a.eval s = v) (hown : Yw w base v t)
    (A : Option Addr) (m c : Nat) (ys : ByteArray) (hx : a.eval x = .slice A m c) (hr : Yb w.heap.size w A m c ys) (hb : t.size + m ≤ 4000000) (hbase : base ≤ w.heap.size)
    (h : ∀ A' n' c' w', n' = t.size + m → Yw w' base (.slice A' n' c') (t ++ ys) → w.grownBy w' v.ownBlock → ((Value.slice A' n' c').ownBlock = v.ownBlock ∨ (Value.slice A' n' c').ownBlock = some w.heap.size) → wpList Tryd.prog ops Q rest (a.put o.dst (.slice A' n' c')) w') : wpList Tryd.prog ops Q (o :: rest) a w := by
  obtain ⟨i0, hi, hz0, hz1, hz2⟩ := info_parts Tryd.infoU8
  obtain ⟨zs, hg, rfl, hrg⟩ := hr
  obtain ⟨xs, hown, rfl, hx0⟩ := hown
  rw [strOfNums_size] at hb h
  have em : zs.length = m := by simpa [u8s] using hg.len
  have key : ∃ v' w', (Builtin.append_ #[24, 24] o.type #[v, .slice A m c]).run Tryd.prog w = .ok v' w' ∧ w'.ownsRow base 5 1 v' (xs.length + m) (u8s xs ++ u8s zs) ∧ w.grownBy w' v.ownBlock ∧ (v'.ownBlock = v.ownBlock ∨ v'.ownBlock = some w.heap.size) := by
    cases A with
    | none =>
      have hc0 := hg.nil rfl
      have hm0 : m = 0 := by have := hg.le; omega
      subst hm0 hc0
      obtain rfl : zs = [] := List.eq_nil_of_length_eq_zero em
      exact ⟨v, w, run_append_owned_none (P := Tryd.prog) (w := w) base 24 o.type 5 i0 1 Tryd.underlying24 hi v xs.length (u8s xs) hown, by simpa [u8s] using hown, ⟨rfl, rfl, rfl, Nat.le_refl _, fun _ _ _ => rfl⟩, .inl rfl⟩
    | some ad =>
      obtain ⟨v', w', hrun, h2, h3, _, h5⟩ := run_append_own_at (P := Tryd.prog) w base 24 o.type 5 i0 _ 1 1 Tryd.underlying24 hi hz0 hz1 hz2 rfl (by decide) v xs.length (u8s xs) hown ad m c (u8s zs) (by simpa using hg.len) (hg.cells ad rfl) (u8s_one zs) (by unfold maxLen; omega) (by omega) hbase
      exact ⟨v', w', hrun, h2, h3, h5⟩
  obtain ⟨v', w', hrun, h2, h3, h4⟩ := key
  obtain ⟨A', c', rfl⟩ := own_form h2
  refine wpList_plain hgd fun K hK => ?_
  unfold Oper.wp execOp
  simp only [ho, resolve, invoke, builtin, Sem.run_bind, Sem.run_pure, Result.andThen_ok, List.map_toArray, List.map_cons, List.map_nil, hs, hx, hrun]
  refine hK _ _ (h A' _ c' w' rfl ⟨xs ++ zs, ?_, strOfNums_app _ _, rg_app hx0 hrg⟩ h3 h4)
  rw [List.length_append, em, show u8s (xs ++ zs) = u8s xs ++ u8s zs by simp [u8s]]
  exact h2
/-- What is left behind a call that changes the disk. -/
def Told (base g : Nat) (v : Value) (r : Value) (d' : D) (w : World) (e : Ending) (w' : World) : Prop := ∃ v', e = .returned r ∧ DAt w' base g v' d' ∧ Turn (DF g v) (DF g v') w w'
theorem wide {w w' : World} {g : Nat} {v : Value} (h : Turn (One g) (One g) w w') : Turn (DF g v) (DF g v) w w' :=
  ⟨h.os, h.tape, h.output, h.size, fun k hk hn => h.block k hk (fun e => hn (.inl e)), fun k hk => .inl hk⟩
/-- Other bytes are the disk's, and more of its block is written. -/
theorem DAt.new {w w1 w' : World} {base g : Nat} {v v' : Value} {d d' : D} (h : DAt w base g v d) (hbox : w1.heap[g]? = some (.cells (Dk.box d v) 88 (0, 0))) (ho : Yw w1 base v' d'.s) (hb : w'.heap[g]? = some (.cells (Dk.box d' v') 88 (0, 0))) (hk : ∀ k, k ≠ g → w'.heap[k]? = w1.heap[k]?)
    (h1 : d'.safe ≤ d'.s.size) (h2 : d'.s.size ≤ 1048576) (h3 : d'.dead = false → d'.cut = true → 0 ≤ d'.after) (h4 : IW d'.after) : DAt w' base g v' d' := by
  refine ⟨hb, ho.same (fun k e => hk k ?_), h.lo, h1, h2, h3, h4⟩
  rintro rfl
  obtain ⟨_, _, c, fz, hh⟩ := ho.kind k e
  have := hh.symm.trans hbox
  injection this with this
  injection this with _ this _
  revert this
  decide
set_option maxHeartbeats 1000000 in
theorem keep_any {w : World} {base g : Nat} {v : Value} {d : D} (h : DAt w base g v d) (n : Nat) (hn : n ≤ d.s.size) : Calls Tryd.prog 59 #[.pointer (some ⟨g, 0, none⟩), .int .i64 (n : Int)] w (Told base g v (.tuple #[]) (kp d n) w) := by
  obtain ⟨c0, c1, c2, c3, c4⟩ := h.cells
  have f0 := h.free 0
  have f1 := h.free 1
  have HD := Lib.hid h
  have hfew := h.few
  obtain ⟨A, cap, rfl⟩ := h.form
  have hy := h.own.yb
  have hcap := (show d.s.size ≤ cap ∧ cap ≤ 9223372036854775807 from by obtain ⟨zs, hz, _⟩ := hy; exact hz.size)
  have hcap1 := hcap.1
  have hcap2 := hcap.2
  by_cases hlt : n < d.s.size
  · have HC := Lib.hid (copied_any A n cap _ w (Yb.cut hy hn) (by omega))
    have d0 : (n : Int) < (d.s.size : Int) := by omega
    have hnc : (n : Int) ≤ (cap : Int) := by omega
    have HNB := Lib.hid hn
    clear h hy hcap
    generalize hsz : d.s.size = z at *
    go_enter Tryd.func59, Tryd.ntmps59
    go_wp2_with fail
    refine HC.out.mono ?_
    rintro e w1 ⟨rfl, hy1, hb1⟩
    have c0' := (hb1.cell (p := ⟨g, 0, none⟩) HD.out.lt).trans c0
    have hbox1 : w1.heap[g]? = _ := (hb1.block g HD.out.lt).trans HD.out.box
    have f0' : w1.frozen? ⟨g, 0, none⟩ = false := frozen_of_row w1 g 0 _ _ hbox1
    have f1' : w1.frozen? ⟨g, 1, none⟩ = false := frozen_of_row w1 g 1 _ _ hbox1
    have c1' := (hb1.cell (p := ⟨g, 1, none⟩) HD.out.lt).trans c1
    have HBX := Lib.hid hbox1
    have HY1 := Lib.hid hy1
    have HB1 := Lib.hid hb1
    clear hbox1 hy1 hb1 c0 c1 f0 f1
    go_wp2_with fail
    go_end0
    refine ⟨.slice (some ⟨w.heap.size, 0, none⟩) n n, rfl, ?_, ?_⟩
    · have g1 : (w1.setCell ⟨g, 0, none⟩ (.slice (some ⟨w.heap.size, 0, none⟩) n n)).heap[g]? = _ := heap_setCell_same w1 g 0 _ _ _ HBX.out
      refine HD.out.new HBX.out (HY1.out.lower (Nat.le_trans HD.out.lo (Nat.le_of_lt HD.out.lt))) ?_ (fun k hk => (set_other _ _ _ _ _ hk).trans (set_other _ _ _ _ _ hk)) ?_ ?_ HD.out.on HD.out.num
      · rw [heap_setCell_same _ g 1 _ _ _ g1]
        simp [box, kp]
      · show n ≤ (d.s.extract 0 n).size
        rw [size_ext _ _ (by rw [hsz]; exact HNB.out)]
        exact Nat.le_refl _
      · show (d.s.extract 0 n).size ≤ 1048576
        rw [size_ext _ _ (by rw [hsz]; exact HNB.out)]
        have := HNB.out
        omega
    · refine (((Turn.ofBelow HB1.out (DF g (.slice A z cap))).put (b := g) (o := 0) _ (.inl rfl)).put (b := g) (o := 1) _ (.inl rfl)).sub ?_
      rintro k (rfl | hk)
      · exact .inl (.inl rfl)
      · refine .inr ?_
        simp [Value.ownBlock] at hk
        omega
  · obtain rfl : n = d.s.size := by omega
    have HN : Hid (Told base g (.slice A d.s.size cap) (.tuple #[]) (kp d d.s.size) w (.returned (.tuple #[])) (w.setCell ⟨g, 1, none⟩ (.int .i64 (d.s.size : Int)))) := Lib.hid (by
      refine ⟨_, rfl, h.re ?_ (fun k hk => set_other _ _ _ _ _ hk) ?_ ?_ h.on h.num, (Turn.refl _ _).put _ (.inl rfl)⟩
      · rw [heap_setCell_same w g 1 _ _ _ h.box]
        simp [box, kp]
      · exact ext_all _
      · show d.s.size ≤ (d.s.extract 0 d.s.size).size
        rw [ext_all]
        exact Nat.le_refl _)
    clear h hy hcap
    generalize hsz : d.s.size = z at *
    go_enter Tryd.func59, Tryd.ntmps59
    go_wp2_with fail
    go_end0
    exact HN.out
/-! ### Append, Sync, Cutoff -/
def apE (d : D) (t : ByteArray) : Int := if (op d).dead = true then 5 else if 1048576 < d.s.size + t.size then 4 else 0
def apD (d : D) (t : ByteArray) : D := if apE d t = 0 then ⟨d.s ++ t, d.safe, (op d).dead, (op d).cut, (op d).after⟩ else op d
theorem op_s (d : D) : (op d).s = d.s := by unfold op; split <;> rfl
theorem op_safe (d : D) : (op d).safe = d.safe := by unfold op; split <;> rfl
theorem pw_dead {d : D} (h : d.dead = true) : pwE d = 5 := by unfold pwE; rw [if_pos h]
theorem pw_on {d : D} (h : d.dead = false) : pwE d = 0 := by unfold pwE; rw [if_neg (by rw [h]; simp)]
set_option maxHeartbeats 1000000 in
theorem Append_any {w : World} {base g : Nat} {v : Value} {d : D} (h : DAt w base g v d) (A : Option Addr) (m c : Nat) (t : ByteArray) (hy : Yb w.heap.size w A m c t) : Calls Tryd.prog 57 #[.pointer (some ⟨g, 0, none⟩), .slice A m c] w (Told base g v (.int .i64 (apE d t)) (apD d t) w) := by
  have HO := Lib.hid (operate_any h)
  have HD := Lib.hid h
  have HY := Lib.hid hy
  have hm : t.size = m := hy.size
  have hc := (show m ≤ c ∧ c ≤ 9223372036854775807 from by obtain ⟨zs, hz, _⟩ := hy; exact hz.size)
  have hc1 := hc.1
  have hc2 := hc.2
  cases hd : (op d).dead with
  | true =>
    have e1 : apE d t = 5 := by unfold apE; rw [if_pos hd]
    have e2 : apD d t = op d := by unfold apD; rw [e1]; rfl
    rw [e1, e2]
    have hp := pw_dead hd
    unfold OpTold at HO
    rw [hp] at HO
    clear h hy hc hd hp e1 e2
    go_enter Tryd.func57, Tryd.ntmps57
    go_wp2_with fail
    refine HO.out.mono ?_
    rintro e w1 ⟨rfl, hn1, ht1⟩
    have HN1 := Lib.hid hn1
    have HT1 := Lib.hid ht1
    clear hn1 ht1
    go_wp2_with fail
    go_ret
    exact ⟨v, rfl, HN1.out, wide HT1.out⟩
  | false =>
    have hp := pw_on hd
    unfold OpTold at HO
    rw [hp] at HO
    have hs := op_s d
    have hf := op_safe d
    by_cases hl : 1048576 < d.s.size + m
    · have e1 : apE d t = 4 := by unfold apE; rw [if_neg (by rw [hd]; simp), if_pos (by rw [hm]; exact hl)]
      have e2 : apD d t = op d := by unfold apD; rw [e1]; rfl
      rw [e1, e2]
      clear h hy hc hd hp e1 e2
      go_enter Tryd.func57, Tryd.ntmps57
      go_wp2_with fail
      refine HO.out.mono ?_
      rintro e w1 ⟨rfl, hn1, ht1⟩
      obtain ⟨A1, c1, rfl⟩ := HD.out.form
      have k0 := hn1.cells.1
      have HN1 := Lib.hid hn1
      have HT1 := Lib.hid ht1
      have hfew := HD.out.few
      clear hn1 ht1
      generalize d.s.size = z at *
      have q : ((1048576 : Int) - (z : Int) < (m : Int)) := by omega
      go_wp2_with fail
      go_ret
      exact ⟨_, rfl, HN1.out, wide HT1.out⟩
    · have e1 : apE d t = 0 := by unfold apE; rw [if_neg (by rw [hd]; simp), if_neg (by rw [hm]; exact hl)]
      have e2 : apD d t = ⟨d.s ++ t, d.safe, (op d).dead, (op d).cut, (op d).after⟩ := by unfold apD; rw [if_pos e1]
      rw [e1, e2]
      clear h hy hc hd hp e1 e2
      go_enter Tryd.func57, Tryd.ntmps57
      go_wp2_with fail
      refine HO.out.mono ?_
      rintro e w1 ⟨rfl, hn1, ht1⟩
      obtain ⟨A1, c1, hv⟩ := HD.out.form
      have k0 := hn1.cells.1
      have HYB := Lib.hid (Yb.boxed HD.out HY.out ht1)
      have HOW : Hid (Yw w1 base v d.s) := Lib.hid (by have := hn1.own; rwa [hs] at this)
      have HBS : Hid (base ≤ w1.heap.size) := Lib.hid (Nat.le_trans hn1.lo (Nat.le_of_lt hn1.lt))
      have HN1 := Lib.hid hn1
      have HT1 := Lib.hid ht1
      have hfew := HD.out.few
      have HL : Hid (d.s.size + m ≤ 4000000) := Lib.hid (by omega)
      have HST : Hid (d.s.size + m ≤ 1048576 ∧ (d.s ++ t).size = d.s.size + m ∧ d.safe ≤ d.s.size) := Lib.hid ⟨by omega, by rw [ByteArray.size_append, hm], HD.out.le⟩
      subst hv
      clear hn1 ht1
      have q : ¬ ((1048576 : Int) - (d.s.size : Int) < (m : Int)) := by omega
      go_upto_region 6 with (fail)
      go_wp2_with (at_builtin; refine app_bytes2 rfl _ _ rfl base _ d.s rfl HOW.out A m c t rfl HYB.out HL.out HBS.out ?_; intro A2 n2 c2 w2 hn2 ho2 hg2 hx2; have HN2 := Lib.hid hn2; have HO2 := Lib.hid ho2; have HG2 := Lib.hid hg2; have HX2 := Lib.hid hx2; have hb2 : w2.heap[g]? = w1.heap[g]? := hg2.block g HN1.out.lt (fun e => HN1.out.apart e.symm); have hbox2 : w2.heap[g]? = _ := hb2.trans HN1.out.box; have f2 : w2.frozen? ⟨g, 0, none⟩ = false := frozen_of_row w2 g 0 _ _ hbox2; have k2 := (cell_block (i := 0) hb2).trans k0; have HBX := Lib.hid hbox2; clear hn2 ho2 hg2 hx2 hb2 hbox2)
      go_ret
      refine ⟨.slice A2 n2 c2, rfl, ?_, ?_⟩
      · refine HN1.out.new HBX.out (d' := ⟨d.s ++ t, d.safe, (op d).dead, (op d).cut, (op d).after⟩) HO2.out ?_ (fun k hk => set_other _ _ _ _ _ hk) ?_ ?_ HN1.out.on HN1.out.num
        · rw [heap_setCell_same _ g 0 _ _ _ HBX.out]
          simp [box, hf]
        · show d.safe ≤ (d.s ++ t).size
          have := HST.out
          omega
        · show (d.s ++ t).size ≤ 1048576
          have := HST.out
          omega
      · have t2 := Turn.grown (F := DF g (.slice A1 d.s.size c1)) HG2.out (fun k hk => .inr hk)
        refine ((wide HT1.out).trans (t2.put (b := g) (o := 0) _ (.inl rfl))).sub ?_
        rintro k (rfl | hk)
        · exact .inl (.inl rfl)
        · rcases HX2.out with e | e
          · rw [e] at hk; exact .inl (.inr hk)
          · rw [e] at hk
            injection hk with hk
            have := HT1.out.size
            exact .inr (by omega)
theorem Append_nil (A : Option Addr) (m c : Nat) (w : World) : Calls Tryd.prog 57 #[.pointer none, .slice A m c] w fun e w' => e = .returned (.int .i64 2) ∧ w = w' := by
  have HO := Lib.hid (operate_nil w)
  go_enter Tryd.func57, Tryd.ntmps57
  go_wp2_with fail
  refine HO.out.mono ?_
  rintro e w1 ⟨rfl, rfl⟩
  go_wp2_with fail
  go_ret
  exact ⟨rfl, rfl⟩
def syD (d : D) : D := if (op d).dead = true then op d else kp (op d) d.s.size
set_option maxHeartbeats 1000000 in
theorem Sync_any {w : World} {base g : Nat} {v : Value} {d : D} (h : DAt w base g v d) : Calls Tryd.prog 58 #[.pointer (some ⟨g, 0, none⟩)] w (Told base g v (.int .i64 (pwE (op d))) (syD d) w) := by
  have HO := Lib.hid (operate_any h)
  obtain ⟨A, c, hv⟩ := h.form
  have hs := op_s d
  cases hd : (op d).dead with
  | true =>
    have hp := pw_dead hd
    have e2 : syD d = op d := by unfold syD; rw [if_pos hd]
    unfold OpTold at HO
    rw [hp] at HO ⊢
    rw [e2]
    clear h hd hp e2
    go_enter Tryd.func58, Tryd.ntmps58
    go_wp2_with fail
    refine HO.out.mono ?_
    rintro e w1 ⟨rfl, hn1, ht1⟩
    have HN1 := Lib.hid hn1
    have HT1 := Lib.hid ht1
    clear hn1 ht1
    go_wp2_with fail
    go_ret
    exact ⟨v, rfl, HN1.out, wide HT1.out⟩
  | false =>
    have hp := pw_on hd
    have e2 : syD d = kp (op d) d.s.size := by unfold syD; rw [if_neg (by rw [hd]; simp)]
    unfold OpTold at HO
    rw [hp] at HO ⊢
    rw [e2]
    clear h hd hp e2
    subst hv
    go_enter Tryd.func58, Tryd.ntmps58
    go_wp2_with fail
    refine HO.out.mono ?_
    rintro e w1 ⟨rfl, hn1, ht1⟩
    have k0 := hn1.cells.1
    have HK := Lib.hid (keep_any hn1 d.s.size (by rw [hs]; exact Nat.le_refl _))
    have HT1 := Lib.hid ht1
    clear hn1 ht1
    go_wp2_with fail
    refine HK.out.mono ?_
    rintro e w2 ⟨v2, rfl, hn2, ht2⟩
    have HN2 := Lib.hid hn2
    have HT2 := Lib.hid ht2
    clear hn2 ht2
    go_wp2_with fail
    go_ret
    exact ⟨_, rfl, HN2.out, (wide HT1.out).trans HT2.out⟩
theorem Sync_nil (w : World) : Calls Tryd.prog 58 #[.pointer none] w fun e w' => e = .returned (.int .i64 2) ∧ w = w' := by
  have HO := Lib.hid (operate_nil w)
  go_enter Tryd.func58, Tryd.ntmps58
  go_wp2_with fail
  refine HO.out.mono ?_
  rintro e w1 ⟨rfl, rfl⟩
  go_wp2_with fail
  go_ret
  exact ⟨rfl, rfl⟩
def cuE (d : D) (n : Int) : Int := if (op d).dead = true then 5 else if 0 ≤ n ∧ n ≤ d.s.size then 0 else 1
def cuD (d : D) (n : Int) : D := if cuE d n = 0 then kp (op d) n.toNat else op d
set_option maxHeartbeats 1000000 in
theorem Cutoff_any {w : World} {base g : Nat} {v : Value} {d : D} (h : DAt w base g v d) (n : Int) : Calls Tryd.prog 77 #[.pointer (some ⟨g, 0, none⟩), .int .i64 n] w (Told base g v (.int .i64 (cuE d n)) (cuD d n) w) := by
  have HO := Lib.hid (operate_any h)
  obtain ⟨A, c, hv⟩ := h.form
  have hs := op_s d
  cases hd : (op d).dead with
  | true =>
    have hp := pw_dead hd
    have e1 : cuE d n = 5 := by unfold cuE; rw [if_pos hd]
    have e2 : cuD d n = op d := by unfold cuD; rw [e1]; rfl
    unfold OpTold at HO
    rw [hp] at HO
    rw [e1, e2]
    clear h hd hp e1 e2
    go_enter Tryd.func77, Tryd.ntmps77
    go_wp2_with fail
    refine HO.out.mono ?_
    rintro e w1 ⟨rfl, hn1, ht1⟩
    have HN1 := Lib.hid hn1
    have HT1 := Lib.hid ht1
    clear hn1 ht1
    go_wp2_with fail
    go_ret
    exact ⟨v, rfl, HN1.out, wide HT1.out⟩
  | false =>
    have hp := pw_on hd
    unfold OpTold at HO
    rw [hp] at HO
    by_cases hn : 0 ≤ n ∧ n ≤ d.s.size
    · have e1 : cuE d n = 0 := by unfold cuE; rw [if_neg (by rw [hd]; simp), if_pos hn]
      have e2 : cuD d n = kp (op d) n.toNat := by unfold cuD; rw [if_pos e1]
      rw [e1, e2]
      obtain ⟨hn1, hn2⟩ := hn
      obtain ⟨j, rfl⟩ := Int.eq_ofNat_of_zero_le hn1
      have hj : j ≤ d.s.size := by omega
      rw [Int.toNat_natCast]
      clear h hd hp e1 e2 hn1
      subst hv
      go_enter Tryd.func77, Tryd.ntmps77
      go_wp2_with fail
      refine HO.out.mono ?_
      rintro e w1 ⟨rfl, hn1, ht1⟩
      have k0 := hn1.cells.1
      have HK := Lib.hid (keep_any hn1 j (by rw [hs]; exact hj))
      have HT1 := Lib.hid ht1
      have q1 : ¬ ((d.s.size : Int) < (j : Int)) := by omega
      clear hn1 ht1
      go_wp2_with fail
      refine HK.out.mono ?_
      rintro e w2 ⟨v2, rfl, hn2, ht2⟩
      have HN2 := Lib.hid hn2
      have HT2 := Lib.hid ht2
      clear hn2 ht2
      go_wp2_with fail
      go_ret
      exact ⟨_, rfl, HN2.out, (wide HT1.out).trans HT2.out⟩
    · have e1 : cuE d n = 1 := by unfold cuE; rw [if_neg (by rw [hd]; simp), if_neg hn]
      have e2 : cuD d n = op d := by unfold cuD; rw [e1]; rfl
      rw [e1, e2]
      clear h hd hp e1 e2
      subst hv
      by_cases h0 : n < 0
      · go_enter Tryd.func77, Tryd.ntmps77
        go_wp2_with fail
        refine HO.out.mono ?_
        rintro e w1 ⟨rfl, hn1, ht1⟩
        have k0 := hn1.cells.1
        have HN1 := Lib.hid hn1
        have HT1 := Lib.hid ht1
        clear hn1 ht1
        go_wp2_with fail
        go_ret
        exact ⟨_, rfl, HN1.out, wide HT1.out⟩
      · have h1 : (d.s.size : Int) < n := by omega
        go_enter Tryd.func77, Tryd.ntmps77
        go_wp2_with fail
        refine HO.out.mono ?_
        rintro e w1 ⟨rfl, hn1, ht1⟩
        have k0 := hn1.cells.1
        have HN1 := Lib.hid hn1
        have HT1 := Lib.hid ht1
        clear hn1 ht1
        go_wp2_with fail
        go_ret
        exact ⟨_, rfl, HN1.out, wide HT1.out⟩
theorem Cutoff_nil (n : Int) (w : World) : Calls Tryd.prog 77 #[.pointer none, .int .i64 n] w fun e w' => e = .returned (.int .i64 2) ∧ w = w' := by
  have HO := Lib.hid (operate_nil w)
  go_enter Tryd.func77, Tryd.ntmps77
  go_wp2_with fail
  refine HO.out.mono ?_
  rintro e w1 ⟨rfl, rfl⟩
  go_wp2_with fail
  go_ret
  exact ⟨rfl, rfl⟩
/-! ### What Read, Cut and Crash come to -/
def rdS (d : D) : ByteArray := if d.dead = true then ByteArray.empty else d.s
def ctD (d : D) (x : Int) : D := if d.dead = true then d else ⟨d.s, d.safe, d.dead, decide (0 ≤ x), x⟩
/-- How many bytes are there behind a crash. -/
def crN (d : D) (x : Int) : Nat := d.safe + min x.toNat (d.s.size - d.safe)
def crD (d : D) (x : Int) : D := ⟨d.s.extract 0 (crN d x), crN d x, false, false, d.after⟩
theorem crN_le {d : D} (h : d.safe ≤ d.s.size) (x : Int) : crN d x ≤ d.s.size := by unfold crN; omega
def d0 : D := ⟨ByteArray.empty, 0, false, false, 0⟩
end Dk
end Go.Proofs.YtejldeecblppjaaDoor
