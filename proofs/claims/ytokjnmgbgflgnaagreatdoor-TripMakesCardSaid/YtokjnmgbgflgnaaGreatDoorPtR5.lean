/-
  Layer 5: the document's far, Find.
-/
import Derived.Test.YtokjnmgbgflgnaaGreatDoorPtR4
import Derived.Test.YtokjnmgbgflgnaaGreatDoorPtFind
set_option linter.unusedVariables false
set_option maxRecDepth 100000
namespace Go.Proofs.YtokjnmgbgflgnaaGreatDoor
open Go.RowKit Fl Pt

theorem isD_some (nx : Nat → List Nat) (a c : Nat) : ∃ x, IsD nx a c x := by
  by_cases h : ∃ n, Wk nx a n c
  · obtain ⟨n, hn⟩ := h
    obtain ⟨m, _, hm⟩ := lv_of n hn
    exact ⟨m, .inr ⟨m, rfl, hm⟩⟩
  · exact ⟨-1, .inl ⟨rfl, fun n hn => h ⟨n, hn⟩⟩⟩
def FarIs (W H : Nat) (z : Nat → Nat) (a c t : Nat) (B : Nat → Bool) (x : Int) : Prop := IsFar (nx5 W H z a B) (nx5 W H z c B) c t (outB z a c = true) x
theorem farIs_some (W H : Nat) (z : Nat → Nat) (a c t : Nat) (B : Nat → Bool) : ∃ x, FarIs W H z a c t B x := by
  by_cases h : c = t
  · exact ⟨0, .inl ⟨h, rfl⟩⟩
  · by_cases ho : outB z a c = true
    · obtain ⟨x, hx⟩ := isD_some (nx5 W H z c B) c t
      exact ⟨x, .inr (.inr ⟨h, ho, hx⟩)⟩
    · exact ⟨-1, .inr (.inl ⟨h, ho, nx5_no (by cases e : outB z a c; rfl; exact absurd e ho), rfl⟩)⟩
theorem FarIs.uniq {W H : Nat} {z : Nat → Nat} {a c t : Nat} {B : Nat → Bool} {x y : Int} (h : FarIs W H z a c t B x) (k : FarIs W H z a c t B y) : x = y := by
  rcases h with ⟨h1, rfl⟩ | ⟨h1, h2, _, rfl⟩ | ⟨h1, h2, h3⟩ <;> rcases k with ⟨k1, rfl⟩ | ⟨k1, k2, _, rfl⟩ | ⟨k1, k2, k3⟩
  · rfl
  · exact absurd h1 k1
  · exact absurd h1 k1
  · exact absurd k1 h1
  · rfl
  · exact absurd k2 h2
  · exact absurd k1 h1
  · exact absurd h2 k2
  · exact h3.uniq k3
set_option maxHeartbeats 4000000 in
theorem rfar_any {W H : Nat} {s : ByteArray} {AN AL AO : Option Addr} {n cN cL cO : Nat} (c a t : Nat) (A : Option Addr) (m cap : Nat) (f : Nat → Int) (w : World) (h : MapAt w W H s AN AL AO n cN cL cO) (hS : Sides W H s) (hc : c < s.size) (ht : t < s.size) (hz : at_ s c ≠ 35) (hf : Il w.heap.size w A m cap f) (x : Int) (hx : FarIs W H (at_ s) a c t (mk f m) x) :
    Calls Tryz.prog 57 #[.agg #[.slice AN n cN, .slice AL n cL, .slice AO n cO], .int .i64 (c : Int), .int .i64 (a : Int), .int .i64 (t : Int), .slice A m cap] w fun e w' => e = .returned (.int .i64 x) ∧ Below w.heap.size w w' := by
  obtain rfl := h.sz
  have h256 := hS.le
  obtain ⟨b0, b1, b2, hb⟩ := map_box w (.slice AN s.size cN) (.slice AL s.size cL) (.slice AO s.size cO)
  obtain ⟨gL, rfl, hgL, hcL⟩ := h.lane
  have rL := (hb.cell (p := ⟨gL, c, none⟩) hgL).trans (hcL c hc)
  have HMP := Lib.hid (h.later hb)
  have HB1 := Lib.hid hb
  have HX := Lib.hid hx
  have HD := Lib.hid (fun wx hm hi => rmdist_any (W := W) (H := H) (s := s) (AN := AN) (AL := some ⟨gL, 0, none⟩) (AO := AO) (n := s.size) (cN := cN) (cL := cL) (cO := cO) c A m cap f wx hm hS hc hz hi)
  have HF := Lib.hid (args_il hf hb)
  have hcap := h.caps.2.1
  have hcap2 := hcap.2
  unfold maxLen at hcap2
  have hcI : (c : Int) < (s.size : Int) := by omega
  have htI : (t : Int) < (s.size : Int) := by omega
  clear h hb hcL hf hx
  by_cases hct : c = t
  · subst hct
    obtain rfl : x = 0 := by
      rcases HX.out with ⟨_, h2⟩ | ⟨h1, _⟩ | ⟨h1, _⟩
      · exact h2
      · exact absurd rfl h1
      · exact absurd rfl h1
    go_enter Tryz.func57, Tryz.ntmps57
    go_wp2_with fail
    go_ret
    exact ⟨rfl, HB1.out⟩
  · have dct : ((c : Int) == (t : Int)) = false := by rw [beq_eq_false_iff_ne]; omega
    by_cases hca : c = a
    · subst hca
      have HXD : Hid (IsD (nx5 W H (at_ s) c (mk f m)) c t x) := Lib.hid (by
        rcases HX.out with ⟨h1, _⟩ | ⟨_, h2, _⟩ | ⟨_, _, h3⟩
        · exact absurd h1 hct
        · exact absurd (outB_iff.2 (.inl rfl)) h2
        · exact h3)
      go_enter Tryz.func57, Tryz.ntmps57
      go_wp2_with fail
      refine (HD.out _ HMP.out HF.out).mono ?_
      rintro e w2 ⟨D, F, rfl, hl, hd, _, hb2, HI⟩
      have k1 : w2.cell? ⟨D, t, none⟩ = some (.int .i64 (F.getD t 0)) := (hd.2 t ht).1
      rw [(HI.out t ht).uniq HXD.out] at k1
      have HB2 := Lib.hid (HB1.out.trans (hb2.mono HB1.out.size))
      clear hl hd hb2
      go_wp2_with fail
      go_ret
      exact ⟨rfl, HB2.out⟩
    · have dca : ((c : Int) == (a : Int)) = false := by rw [beq_eq_false_iff_ne]; omega
      cases hl : isL (at_ s c) with
      | true =>
        rw [hl] at rL
        have HXD : Hid (IsD (nx5 W H (at_ s) c (mk f m)) c t x) := Lib.hid (by
          rcases HX.out with ⟨h1, _⟩ | ⟨_, h2, _⟩ | ⟨_, _, h3⟩
          · exact absurd h1 hct
          · exact absurd (outB_iff.2 (.inr hl)) h2
          · exact h3)
        clear hl
        go_enter Tryz.func57, Tryz.ntmps57
        go_wp2_with fail
        refine (HD.out _ HMP.out HF.out).mono ?_
        rintro e w2 ⟨D, F, rfl, hl, hd, _, hb2, HI⟩
        have k1 : w2.cell? ⟨D, t, none⟩ = some (.int .i64 (F.getD t 0)) := (hd.2 t ht).1
        rw [(HI.out t ht).uniq HXD.out] at k1
        have HB2 := Lib.hid (HB1.out.trans (hb2.mono HB1.out.size))
        clear hl hd hb2
        go_wp2_with fail
        go_ret
        exact ⟨rfl, HB2.out⟩
      | false =>
        rw [hl] at rL
        obtain rfl : x = -1 := by
          rcases HX.out with ⟨h1, _⟩ | ⟨_, _, _, h3⟩ | ⟨_, h2, _⟩
          · exact absurd h1 hct
          · exact h3
          · rcases outB_iff.1 h2 with e | e
            · exact absurd e hca
            · rw [hl] at e; cases e
        clear hl
        go_enter Tryz.func57, Tryz.ntmps57
        go_wp2_with fail
        go_ret
        exact ⟨rfl, HB1.out⟩
theorem way_len {nx : Nat → List Nat} {a t q c i : Nat} {P : List Nat} (h : Go.Proofs.YtokjnmgbgflgnaaGreatDoor.Pt.Go nx a t 0 P c i) (hq : Lv nx a q t) (hl : P.length = i) : P.length = q := by
  have h1 := h.there
  rw [Nat.add_zero] at h1
  rw [hl]
  exact h1.uniq hq
/-- The way is told, as layer 5 tells it. -/
def MWay (W H a t : Nat) (s : ByteArray) (B : Nat → Bool) (w : World) (e : Ending) (w' : World) : Prop :=
  ∃ A n cap P er, e = .returned (.tuple #[.slice A n cap, .int .i64 er]) ∧ n = P.length ∧ P.length ≤ 256 ∧ Own w' w.heap.size (.slice A n cap) P ∧ Below w.heap.size w w' ∧
    ((er = 0 ∧ Gr (nx5 W H (at_ s) a B) t a P ∧ Lv (nx5 W H (at_ s) a B) a P.length t) ∨ (er = 2 ∧ P = [] ∧ ∀ m, ¬ Wk (nx5 W H (at_ s) a B) a m t))
set_option maxHeartbeats 4000000 in
theorem rmfind_any {W H : Nat} {s : ByteArray} {AN AL AO : Option Addr} {n cN cL cO : Nat} (a t : Nat) (A : Option Addr) (m cap : Nat) (f : Nat → Int) (w : World) (h : MapAt w W H s AN AL AO n cN cL cO) (hS : Sides W H s) (ha : a < s.size) (ht : t < s.size) (hz : at_ s a ≠ 35) (hzt : at_ s t ≠ 35) (hf : Il w.heap.size w A m cap f) :
    Calls Tryz.prog 33 #[.agg #[.slice AN n cN, .slice AL n cL, .slice AO n cO], .int .i64 (a : Int), .int .i64 (t : Int), .slice A m cap] w (MWay W H a t s (mk f m) w) := by
  obtain rfl := h.sz
  have h256 := hS.le
  obtain ⟨b0, b1, b2, hb⟩ := map_box w (.slice AN s.size cN) (.slice AL s.size cL) (.slice AO s.size cO)
  have HMP := Lib.hid h
  have HSD := Lib.hid hS
  have HZ := Lib.hid hz
  have HZT := Lib.hid hzt
  have HF := Lib.hid hf
  have HMX : Hid (MX w.heap.size AN AL AO s.size cN cL cO (w.alloc (.cells #[.slice AN s.size cN, .slice AL s.size cL, .slice AO s.size cO] 57))) := Lib.hid ⟨b0, b1, b2, by rw [alloc_size]; exact Nat.lt_succ_self _⟩
  have HB1 := Lib.hid hb
  have HOP := Lib.hid (fun (c : Int) wx hb => ropen_map (W := W) (H := H) (s := s) (AN := AN) (AL := AL) (AO := AO) (cN := cN) (cL := cL) (cO := cO) c wx (h.later hb) h256)
  obtain ⟨x0, hx0⟩ := farIs_some W H (at_ s) a a t (mk f m)
  have HX0 := Lib.hid hx0
  have HFA := Lib.hid (fun (c : Nat) (x : Int) wx hb hc hzc hi hx => rfar_any (W := W) (H := H) (s := s) (AN := AN) (AL := AL) (AO := AO) (n := s.size) (cN := cN) (cL := cL) (cO := cO) c a t A m cap f wx (h.later hb) hS hc ht hzc hi x hx)
  have HST := Lib.hid (fun (c : Nat) wx hb hc hzc hi => rsteps_any (W := W) (H := H) (s := s) (AN := AN) (AL := AL) (AO := AO) (n := s.size) (cN := cN) (cL := cL) (cO := cO) c a A m cap f wx (h.later hb) h256 hc ha hzc hi)
  clear h hS hz hzt hf hb b0 b1 b2 hx0
  have c0 := HMX.out.c0
  have c1 := HMX.out.c1
  have c2 := HMX.out.c2
  go_enter Tryz.func33, Tryz.ntmps33
  go_wp2_with fail
  refine (HOP.out _ _ HB1.out).mono ?_
  rintro e w2 ⟨b, rfl, hb, hb2⟩
  obtain rfl : b = true := hb.2 (by rw [bAt_in5 s a ha]; exact HZ.out)
  have HMX2 := Lib.hid (HMX.out.later hb2)
  have HB2 := Lib.hid (HB1.out.trans (hb2.mono HB1.out.size))
  clear hb hb2 HB1 HMX c0 c1 c2
  have c0 := HMX2.out.c0
  have c1 := HMX2.out.c1
  have c2 := HMX2.out.c2
  go_wp2_with fail
  refine (HOP.out _ _ HB2.out).mono ?_
  rintro e w3 ⟨b, rfl, hb, hb3⟩
  obtain rfl : b = true := hb.2 (by rw [bAt_in5 s t ht]; exact HZT.out)
  have HMX3 := Lib.hid (HMX2.out.later hb3)
  have HB3 := Lib.hid (HB2.out.trans (hb3.mono HB2.out.size))
  clear hb hb3 HB2 HMX2 c0 c1 c2
  have c0 := HMX3.out.c0
  have c1 := HMX3.out.c1
  have c2 := HMX3.out.c2
  go_wp2_with fail
  refine (HFA.out a x0 _ HB3.out ha HZ.out (args_il HF.out HB3.out) HX0.out).mono ?_
  rintro e w4 ⟨rfl, hb4⟩
  have HMX4 := Lib.hid (HMX3.out.later hb4)
  have HB4 := Lib.hid (HB3.out.trans (hb4.mono HB3.out.size))
  clear hb4 HB3 HMX3 c0 c1 c2 HOP
  have hxx : (x0 = -1 ∧ ∀ k, ¬ Wk (nx5 W H (at_ s) a (mk f m)) a k t) ∨ ∃ q : Nat, x0 = (q : Int) ∧ Lv (nx5 W H (at_ s) a (mk f m)) a q t := by
    rcases HX0.out with ⟨h1, h2⟩ | ⟨h1, h2, _⟩ | ⟨h1, h2, h3⟩
    · subst h1; exact .inr ⟨0, h2, Lv.zero _ _⟩
    · exact absurd (outB_iff.2 (.inl rfl)) h2
    · exact h3
  rcases hxx with ⟨rfl, hno⟩ | ⟨q, rfl, hlv⟩
  · have HNO := Lib.hid hno
    clear hno
    go_wp2_with fail
    go_ret2
    exact ⟨none, 0, 0, [], 2, rfl, rfl, Nat.zero_le _, Own.nil _ _, HB4.out, .inr ⟨rfl, rfl, HNO.out⟩⟩
  · have HGO := Lib.hid (Go.Proofs.YtokjnmgbgflgnaaGreatDoor.Pt.Go.start hlv)
    have hq : q ≤ 256 := by
      have := lv_lt (N := s.size) ha (fun x y hx hy => by rw [HSD.out.sz] at hx ⊢; exact nx5_lt HSD.out.w1 x y hx hy) hlv
      omega
    have dq : decide ((q : Int) < 0) = false := decide_eq_false (by omega)
    have HQ := Lib.hid hlv
    clear hlv
    go_wp2_with fail
    go_loopw [10, 11, 12] (fun nv ov av wr => ∃ (r c : Nat) (P : List Nat) (A' : Option Addr) (m' c' i : Nat), nv = .int .i64 (r : Int) ∧ av = .int .i64 (c : Int) ∧ ov = .slice A' m' c' ∧ m' = P.length ∧ Hid (Go.Proofs.YtokjnmgbgflgnaaGreatDoor.Pt.Go (nx5 W H (at_ s) a (mk f m)) a t r P c i) ∧ Hid (i = P.length) ∧ c < s.size ∧ Hid (at_ s c ≠ 35) ∧ P.length + r ≤ 256 ∧ Own wr (w.heap.size + 1) (.slice A' m' c') P ∧ MX w.heap.size AN AL AO s.size cN cL cO wr ∧ Below w.heap.size w wr) (fun nv _ _ _ => (intOf nv).toNat)
    case atStart => exact ⟨q, a, [], none, 0, 0, 0, rfl, rfl, rfl, rfl, HGO, Lib.hid rfl, ha, HZ, by simpa using hq, Own.nil _ _, HMX4.out, HB4.out⟩
    case round =>
      rename World => wr
      obtain ⟨r, c, P, A', m', c', i, rfl, rfl, rfl, hm', HGO, HIP, hcs, HCZ, hle, ho, hmx, hb⟩ := hrel
      have HO := Lib.hid ho
      have HMXr := Lib.hid hmx
      have HBr := Lib.hid hb
      have HM' := Lib.hid hm'
      have hcapx := ho.cap hm'
      have hcx1 := hcapx.1
      have hcx2 := hcapx.2
      unfold maxLen at hcx2
      clear ho hmx hb hm' hcapx HMX4 HB4
      by_cases hr0 : 0 < r
      · obtain ⟨r', hrr⟩ : ∃ r', r = r' + 1 := ⟨r - 1, by omega⟩
        have HRR := Lib.hid hrr
        have hwr : IntKind.i64.wrap ((r : Int) - 1) = (r' : Int) := by rw [IntWalk.i64_in _ (by omega)]; omega
        have hr0I : (0 : Int) < (r : Int) := by omega
        have HSOME : Hid (∃ k, k < (nx5 W H (at_ s) a (mk f m) c).length ∧ Wk (nx5 W H (at_ s) a (mk f m)) ((nx5 W H (at_ s) a (mk f m) c).getD k 0) r' t) := Lib.hid (by
          have h1 := HGO.out
          rw [hrr] at h1
          exact h1.some)
        have c0 := HMXr.out.c0
        have c1 := HMXr.out.c1
        have c2 := HMXr.out.c2
        clear hrr
        go_wp2_with fail
        refine (HST.out c _ HBr.out hcs HCZ.out (args_il HF.out HBr.out)).mono ?_
        rintro e w6 ⟨A6, n6, k6, rfl, hn6, ho6, hb6⟩
        have HB6 := Lib.hid (HBr.out.trans (hb6.mono HBr.out.size))
        have HMX6 := Lib.hid (HMXr.out.later hb6)
        have HOP6 := Lib.hid (HO.out.later hb6)
        have HO6 := Lib.hid ho6
        have HN6 := Lib.hid hn6
        have h4 : n6 ≤ 4 := by rw [hn6]; exact nx5_len _ _ _ _ _ _
        have h1n : 1 ≤ n6 := by
          obtain ⟨k, hk, _⟩ := HSOME.out
          omega
        have hcap6 := ho6.cap hn6
        have hc6a := hcap6.1
        have hc6b := hcap6.2
        unfold maxLen at hc6b
        have hwn : IntKind.i64.wrap ((n6 : Int) - 1) = (n6 : Int) - 1 := IntWalk.i64_in _ (by omega)
        clear hn6 ho6 hb6 hcap6 c0 c1 c2
        go_wp2_with fail
        go_loopw [14] (fun kv wi => ∃ k : Nat, k < n6 ∧ kv = .int .i64 (k : Int) ∧ Hid (∀ j, j < k → ¬ Wk (nx5 W H (at_ s) a (mk f m)) ((nx5 W H (at_ s) a (mk f m) c).getD j 0) r' t) ∧ Below w6.heap.size w6 wi) (fun kv _ => n6 - (intOf kv).toNat)
        case atStart => exact ⟨0, by omega, rfl, Lib.hid (fun j hj => by omega), Below.refl _ _⟩
        case round =>
          rename World => wi
          obtain ⟨k, hkn, rfl, HBF, hbi⟩ := hrel
          have HBi := Lib.hid hbi
          have HBw := Lib.hid (HB6.out.trans (hbi.mono HB6.out.size))
          have HMXi := Lib.hid (HMX6.out.later hbi)
          obtain ⟨g, rfl, hg, hcg⟩ := (HO6.out.later hbi).at k (by rw [← HN6.out]; exact hkn)
          obtain ⟨y, hy⟩ : ∃ y, y = (nx5 W H (at_ s) a (mk f m) c).getD k 0 := ⟨_, rfl⟩
          rw [← hy] at hcg
          have HYM : Hid (y ∈ nx5 W H (at_ s) a (mk f m) c) := Lib.hid (by rw [hy, List.getD_eq_getElem?_getD, List.getElem?_eq_getElem (by rw [← HN6.out]; exact hkn)]; exact List.getElem_mem _)
          have hys : y < s.size := by
            have := nx5_lt (W := W) (H := H) (a := a) (z := at_ s) (B := mk f m) HSD.out.w1 c y (by rw [← HSD.out.sz]; exact hcs) HYM.out
            rw [HSD.out.sz]; exact this
          have HYZ : Hid (at_ s y ≠ 35) := Lib.hid (mem_nr.1 (mem_nx5.1 HYM.out).2.1).2
          have HY := Lib.hid hy
          have hkI : (k : Int) < (n6 : Int) := by omega
          obtain ⟨x, hx⟩ := farIs_some W H (at_ s) a y t (mk f m)
          have HX := Lib.hid hx
          have HXW : Hid (x = (r' : Int) ↔ Wk (nx5 W H (at_ s) a (mk f m)) y r' t) := Lib.hid (by
            have h1 := HGO.out
            rw [HRR.out] at h1
            have h3 := h1.there
            exact far_floor hx (by rwa [show i + 1 + r' = i + (r' + 1) by omega]) (.step h1.here HYM.out))
          have c0 := HMXi.out.c0
          have c1 := HMXi.out.c1
          have c2 := HMXi.out.c2
          have hMl := HMXi.out.lt
          clear hy hbi hx
          by_cases hk1 : (k : Int) < (n6 : Int) - 1
          · have dk : decide ((k : Int) < (n6 : Int) - 1) = true := decide_eq_true hk1
            by_cases hxr : x = (r' : Int)
            · have dx : (x != (r' : Int)) = false := by rw [bne_eq_false_iff_eq]; exact hxr
              have HWK := Lib.hid (HXW.out.1 hxr)
              clear hxr
              go_wp2_with fail
              go_region_held3 (fun w' => w'.cell? ⟨w.heap.size, 0, none⟩ = some (.slice AN s.size cN) ∧ w'.cell? ⟨w.heap.size, 1, none⟩ = some (.slice AL s.size cL) ∧ w'.cell? ⟨w.heap.size, 2, none⟩ = some (.slice AO s.size cO) ∧ w'.cell? ⟨g, k, none⟩ = some (.int .i64 (y : Int))) (go_keep)
                ((go_at_call 57; refine (HFA.out y x _ HBw.out.drew hys HYZ.out (args_il HF.out HBw.out.drew) HX.out).mono ?_; rintro e w8 ⟨rfl, hb8⟩; have HL8 : Hid (Below wi.heap.size wi w8) := Lib.hid ((Below.refl _ wi).drew.trans hb8); have HB8 := Lib.hid (HBw.out.trans (HL8.out.mono HBw.out.size)); have HMX8 := Lib.hid (HMXi.out.later HL8.out); have e0 := HMX8.out.c0; have e1 := HMX8.out.c1; have e2 := HMX8.out.c2; have e3 := (hb8.cell (p := ⟨g, k, none⟩) hg).trans hcg; clear hb8))
              have HSX := Lib.hid (HMX8.out.lt)
              have HOX := Lib.hid ((HOP6.out.later HBi.out).later HL8.out)
              have HBX := Lib.hid HB8.out
              have HMXX := Lib.hid HMX8.out
              have HNX : Hid (Go.Proofs.YtokjnmgbgflgnaaGreatDoor.Pt.Go (nx5 W H (at_ s) a (mk f m)) a t r' (P ++ [y]) y (i + 1)) := Lib.hid (by
                have h1 := HGO.out
                rw [HRR.out] at h1
                have h2 := h1.step (k := k) (by rw [← HN6.out]; exact hkn) (by rw [← HY.out]; exact HWK.out) HBF.out
                rw [← HY.out] at h2
                exact h2)
              go_wp2_with (at_builtin; refine app_int rfl _ _ rfl (w.heap.size + 1) (.slice A' m' c') P rfl y _ rfl _ rfl HOX.out rfl (by omega) HSX.out ?_; intro A8 c8 n8 w8 hn8 ho8 hb8 hg8; have HN8 := Lib.hid hn8; have HO8 := Lib.hid ho8; have HB8 := Lib.hid (HBX.out.trans (hb8.mono (Nat.le_succ _))); have HM8 := Lib.hid (HMXX.out.below1 hb8); clear hn8 ho8 hb8 hg8)
              go_roundw
              case rel => exact ⟨r', y, P ++ [y], A8, n8, c8, i + 1, rfl, rfl, rfl, HN8.out, HNX, Lib.hid (by rw [HIP.out]; simp), hys, HYZ, by rw [List.length_append]; have := HRR.out; simp; omega, HO8.out, HM8.out, HB8.out⟩
              case measure => have := HRR.out; simp [intOf]; omega
            · have dx : (x != (r' : Int)) = true := by rw [bne_iff_ne]; exact hxr
              have HNW : Hid (∀ j, j < k + 1 → ¬ Wk (nx5 W H (at_ s) a (mk f m)) ((nx5 W H (at_ s) a (mk f m) c).getD j 0) r' t) := Lib.hid (fun j hj hw => by
                by_cases e : j = k
                · subst e; rw [← HY.out] at hw; exact hxr (HXW.out.2 hw)
                · exact HBF.out j (by omega) hw)
              clear hxr
              go_wp2_with fail
              go_region_held3 (fun w' => w'.cell? ⟨w.heap.size, 0, none⟩ = some (.slice AN s.size cN) ∧ w'.cell? ⟨w.heap.size, 1, none⟩ = some (.slice AL s.size cL) ∧ w'.cell? ⟨w.heap.size, 2, none⟩ = some (.slice AO s.size cO) ∧ w'.cell? ⟨g, k, none⟩ = some (.int .i64 (y : Int))) (go_keep)
                ((go_at_call 57; refine (HFA.out y x _ HBw.out.drew hys HYZ.out (args_il HF.out HBw.out.drew) HX.out).mono ?_; rintro e w8 ⟨rfl, hb8⟩; have HL8 : Hid (Below wi.heap.size wi w8) := Lib.hid ((Below.refl _ wi).drew.trans hb8); have HB8 := Lib.hid (HBw.out.trans (HL8.out.mono HBw.out.size)); have HMX8 := Lib.hid (HMXi.out.later HL8.out); have e0 := HMX8.out.c0; have e1 := HMX8.out.c1; have e2 := HMX8.out.c2; have e3 := (hb8.cell (p := ⟨g, k, none⟩) hg).trans hcg; clear hb8))
              go_wp2_with fail
              go_roundw
              case rel => exact ⟨k + 1, by omega, by go_num, HNW, HBi.out.trans (HL8.out.mono HBi.out.size)⟩
              case measure => simp [intOf]; omega
          · have dk : decide ((k : Int) < (n6 : Int) - 1) = false := decide_eq_false hk1
            have HWK : Hid (Wk (nx5 W H (at_ s) a (mk f m)) y r' t) := Lib.hid (by
              obtain ⟨j, hj, hw⟩ := HSOME.out
              rw [← HN6.out] at hj
              by_cases e : j = k
              · subst e; rw [HY.out]; exact hw
              · exact absurd hw (HBF.out j (by omega)))
            have HSX : Hid (∀ q, w.heap.size + 1 ≤ (wi.drewN q).heap.size) := Lib.hid (fun q => HMXi.out.lt)
            have HOX : Hid (∀ q, Own (wi.drewN q) (w.heap.size + 1) (.slice A' m' c') P) := Lib.hid (fun q => (HOP6.out.later HBi.out).later (below_drewN _ _ _))
            have HBX : Hid (∀ q, Below w.heap.size w (wi.drewN q)) := Lib.hid (fun q => HBw.out.trans (below_drewN _ _ _))
            have HMXX : Hid (∀ q, MX w.heap.size AN AL AO s.size cN cL cO (wi.drewN q)) := Lib.hid (fun q => HMXi.out.later (below_drewN _ _ _))
            have hcgq : ∀ q, (wi.drewN q).cell? ⟨g, k, none⟩ = some (.int .i64 (y : Int)) := fun q => hcg
            go_wp2_with fail
            go_big_quiet (fail)
            have HNX : Hid (Go.Proofs.YtokjnmgbgflgnaaGreatDoor.Pt.Go (nx5 W H (at_ s) a (mk f m)) a t r' (P ++ [y]) y (i + 1)) := Lib.hid (by
              have h1 := HGO.out
              rw [HRR.out] at h1
              have h2 := h1.step (k := k) (by rw [← HN6.out]; exact hkn) (by rw [← HY.out]; exact HWK.out) HBF.out
              rw [← HY.out] at h2
              exact h2)
            go_wp2_with (at_builtin; refine app_int rfl _ _ rfl (w.heap.size + 1) (.slice A' m' c') P rfl y _ rfl _ rfl (HOX.out _) rfl (by omega) (HSX.out _) ?_; intro A8 c8 n8 w8 hn8 ho8 hb8 hg8; have HN8 := Lib.hid hn8; have HO8 := Lib.hid ho8; have HB8 := Lib.hid ((HBX.out _).trans (hb8.mono (Nat.le_succ _))); have HM8 := Lib.hid ((HMXX.out _).below1 hb8); clear hn8 ho8 hb8 hg8)
            go_roundw
            case rel => exact ⟨r', y, P ++ [y], A8, n8, c8, i + 1, rfl, rfl, rfl, HN8.out, HNX, Lib.hid (by rw [HIP.out]; simp), hys, HYZ, by rw [List.length_append]; have := HRR.out; simp; omega, HO8.out, HM8.out, HB8.out⟩
            case measure => have := HRR.out; simp [intOf]; omega
      · obtain rfl : r = 0 := by omega
        go_wp2_with fail
        go_ret2
        exact ⟨A', m', c', P, 0, rfl, HM'.out, by omega, HO.out.lower (Nat.le_succ _), HBr.out, .inl ⟨rfl, HGO.out.finish, by have := way_len HGO.out HQ.out HIP.out.symm; rw [this]; exact HQ.out⟩⟩
end Go.Proofs.YtokjnmgbgflgnaaGreatDoor
