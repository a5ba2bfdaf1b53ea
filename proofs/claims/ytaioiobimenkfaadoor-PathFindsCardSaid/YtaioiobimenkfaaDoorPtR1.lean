/-
  Layer 5: the document's Of.
-/
import Derived.Test.YtaioiobimenkfaaDoorPtR0
import Derived.Deep.RegionLaw
import Derived.Deep.CutRange
import Derived.Deep.DeepCutAuto
set_option linter.unusedVariables false
set_option maxRecDepth 100000
namespace Go.Proofs.YtaioiobimenkfaaDoor
open Go.RowKit Fl Pt

def OfTold (W H : Int) (s : ByteArray) (w : World) (e : Ending) (w' : World) : Prop :=
  ∃ AN n cN AL cL AO cO, e = .returned (.agg #[.slice AN n cN, .slice AL n cL, .slice AO n cO]) ∧ Below w.heap.size w w' ∧ (Right W H s → MapAt w' W.toNat H.toNat s AN AL AO n cN cL cO) ∧ (¬ Right W H s → n = 0 ∧ cN = 0 ∧ cL = 0 ∧ cO = 0 ∧ AN = none ∧ AL = none ∧ AO = none)

theorem of_cells {w : World} {W H : Int} {s : ByteArray} : Box w W H s (((w.alloc (.cells #[.int .i64 W, .int .i64 H, .string s] 23)).alloc (.cells #[.slice none 0 0, .slice none 0 0, .slice none 0 0] 48)).alloc (.cells #[.slice none 0 0, .slice none 0 0, .slice none 0 0] 48)) ∧
    Cells (w.heap.size + 1) 3 (fun _ => .slice none 0 0) (((w.alloc (.cells #[.int .i64 W, .int .i64 H, .string s] 23)).alloc (.cells #[.slice none 0 0, .slice none 0 0, .slice none 0 0] 48)).alloc (.cells #[.slice none 0 0, .slice none 0 0, .slice none 0 0] 48)) ∧
    Cells (w.heap.size + 2) 3 (fun _ => .slice none 0 0) (((w.alloc (.cells #[.int .i64 W, .int .i64 H, .string s] 23)).alloc (.cells #[.slice none 0 0, .slice none 0 0, .slice none 0 0] 48)).alloc (.cells #[.slice none 0 0, .slice none 0 0, .slice none 0 0] 48)) := by
  obtain ⟨w1, hw1⟩ : ∃ w1, w1 = w.alloc (.cells #[.int .i64 W, .int .i64 H, .string s] 23) := ⟨_, rfl⟩
  have hx1 := Box.start w W H s 23
  rw [← hw1] at hx1 ⊢
  have hz1 : w1.heap.size = w.heap.size + 1 := by rw [hw1]; exact alloc_size _ _
  obtain ⟨w2, hw2⟩ : ∃ w2, w2 = w1.alloc (.cells #[.slice none 0 0, .slice none 0 0, .slice none 0 0] 48) := ⟨_, rfl⟩
  have c2 : Cells w1.heap.size 3 (fun x => ([.slice none 0 0, .slice none 0 0, .slice none 0 0] : List Value).getD x undef) w2 := by rw [hw2]; exact cells_row (l := [.slice none 0 0, .slice none 0 0, .slice none 0 0]) (heap_alloc_new w1 _) rfl
  have hz2 : w2.heap.size = w1.heap.size + 1 := by rw [hw2]; exact alloc_size _ _
  have hx2 : Box w W H s w2 := by rw [hw2]; exact hx1.after ((Below.refl _ _).alloc (Nat.le_refl _) _)
  rw [← hw2]
  have c3 : Cells w2.heap.size 3 (fun x => ([.slice none 0 0, .slice none 0 0, .slice none 0 0] : List Value).getD x undef) (w2.alloc (.cells #[.slice none 0 0, .slice none 0 0, .slice none 0 0] 48)) := cells_row (l := [.slice none 0 0, .slice none 0 0, .slice none 0 0]) (heap_alloc_new w2 _) rfl
  have he : ∀ x, x < 3 → ([.slice none 0 0, .slice none 0 0, .slice none 0 0] : List Value).getD x undef = .slice none 0 0 := fun x hx => by
    match x with
    | 0 => rfl
    | 1 => rfl
    | 2 => rfl
  refine ⟨hx2.after ((Below.refl _ _).alloc (Nat.le_refl _) _), ?_, ?_⟩
  · rw [← hz1]; exact (c2.more _).congr he
  · rw [show w.heap.size + 2 = w2.heap.size by omega]; exact c3.congr he
theorem res_map5 {A : Nat} {w6 : World} {v0 v1 v2 : Value} (T : Array Value) (hT : T[2]? = some (.pointer (some ⟨A, 0, none⟩))) (h0 : w6.cell? ⟨A, 0, none⟩ = some v0) (h1 : w6.cell? ⟨A, 1, none⟩ = some v1) (h2 : w6.cell? ⟨A, 2, none⟩ = some v2) :
    (results Tryd.f24 T).run Tryd.prog w6 = .ok (.agg #[v0, v1, v2]) w6 := by
  simp only [results, Tryd.results24]
  go_simp
/-- The result is written. -/
theorem out_map {w : World} {R : Nat} {f : Nat → Value} (h : Cells R 3 f w) (a b c : Value) : ((((w.setCell ⟨R, 0, none⟩ a).setCell ⟨R, 1, none⟩ b).setCell ⟨R, 2, none⟩ c).cell? ⟨R, 0, none⟩ = some a ∧ (((w.setCell ⟨R, 0, none⟩ a).setCell ⟨R, 1, none⟩ b).setCell ⟨R, 2, none⟩ c).cell? ⟨R, 1, none⟩ = some b ∧ (((w.setCell ⟨R, 0, none⟩ a).setCell ⟨R, 1, none⟩ b).setCell ⟨R, 2, none⟩ c).cell? ⟨R, 2, none⟩ = some c) ∧
    ∀ B, B ≤ w.heap.size → B ≤ R → Below B w (((w.setCell ⟨R, 0, none⟩ a).setCell ⟨R, 1, none⟩ b).setCell ⟨R, 2, none⟩ c) := by
  have h0 := h.put 0 a (by decide) (g := fun x => if x = 0 then a else f x) (fun x hx => rfl)
  have h1 := h0.put 1 b (by decide) (g := fun x => if x = 1 then b else if x = 0 then a else f x) (fun x hx => rfl)
  have h2 := h1.put 2 c (by decide) (g := fun x => if x = 2 then c else if x = 1 then b else if x = 0 then a else f x) (fun x hx => rfl)
  exact ⟨⟨(h2.2 0 (by decide)).1, (h2.2 1 (by decide)).1, (h2.2 2 (by decide)).1⟩, fun B hB hR => (((Below.refl B w).setCell hR a).setCell hR b).setCell hR c⟩

theorem Tryd.infoInts5 : (Tryd.prog.info? 24).map (fun i => (i.zero, i.size, i.bytes)) = some (some (.slice none 0 0), 1, 24) := by kernel_rfl
theorem near_rows {a b : Nat} {s : ByteArray} {i : Nat} {xs : List Nat} (hR : Right (a : Int) (b : Int) s) (hi : i < s.size) (q1 : OnFloor (a : Int) (b : Int) s (i : Int) → xs = nears (a : Int) (b : Int) s (i : Int)) (q2 : ¬ OnFloor (a : Int) (b : Int) s (i : Int) → xs = []) : xs = nrw a b (at_ s) i := by
  unfold nrw
  by_cases h35 : at_ s i ≠ 35
  · rw [if_pos h35]
    exact q1 ⟨hR, by rw [bAt_in5 s i hi]; exact h35⟩
  · rw [if_neg h35]
    exact q2 (fun h => h35 (by have := h.2; rwa [bAt_in5 s i hi] at this))
theorem one_cell (w : World) (v : Value) (t : TypeId) : ∀ j u, ([v] : List Value)[j]? = some u → (w.alloc (.cells #[v] t)).cell? ((⟨w.heap.size, 0, none⟩ : Addr).add j) = some u := by
  intro j u hj
  match j, hj with
  | 0, hj => simp at hj; subst hj; simp [Addr.add]
theorem own_rows {w wd w6 : World} {a b i n6 k6 : Nat} {s : ByteArray} {A6 : Option Addr} {iN iL iO : Nat} {vN vL vO x : Value} {rows : List Value} {xs : List Nat} {t : TypeId} (hx : xs = nrw a b (at_ s) i) (hn : n6 = xs.length) (h : Of5 w a b s iN iL iO vN vL vO rows wd) (ho : Own w6 wd.heap.size (.slice A6 n6 k6) xs) :
    Own (w6.alloc (.cells #[x] t)) (w.heap.size + 3) (.slice A6 n6 k6) (nrw a b (at_ s) i) := by
  rw [← hx]
  exact (ho.lower (Nat.succ_le_of_lt h.mc.1)).later ((Below.refl w6.heap.size w6).alloc (Nat.le_refl _) _)

theorem map_out {w : World} {W H : Nat} {s : ByteArray} {AN AL AO : Option Addr} {cN cL cO : Nat} {rows : List Value} {wr : World} (h : Of5 w W H s s.size s.size s.size (.slice AN s.size cN) (.slice AL s.size cL) (.slice AO s.size cO) rows wr) (h0 : 0 < s.size) :
    MapAt (((wr.setCell ⟨w.heap.size + 1, 0, none⟩ (.slice AN s.size cN)).setCell ⟨w.heap.size + 1, 1, none⟩ (.slice AL s.size cL)).setCell ⟨w.heap.size + 1, 2, none⟩ (.slice AO s.size cO)) W H s AN AL AO s.size cN cL cO := by
  have hT : ∀ k, k ≠ w.heap.size + 1 → (((wr.setCell ⟨w.heap.size + 1, 0, none⟩ (.slice AN s.size cN)).setCell ⟨w.heap.size + 1, 1, none⟩ (.slice AL s.size cL)).setCell ⟨w.heap.size + 1, 2, none⟩ (.slice AO s.size cO)).heap[k]? = wr.heap[k]? := fun k hk =>
    (Below.heap_setCell _ _ _ _ hk).trans ((Below.heap_setCell _ _ _ _ hk).trans (Below.heap_setCell _ _ _ _ hk))
  have hmv : ∀ {e : TypeId} {v : Value} {n : Nat} {xs : List Value}, wr.ownsRow (w.heap.size + 3) e 1 v n xs → (((wr.setCell ⟨w.heap.size + 1, 0, none⟩ (.slice AN s.size cN)).setCell ⟨w.heap.size + 1, 1, none⟩ (.slice AL s.size cL)).setCell ⟨w.heap.size + 1, 2, none⟩ (.slice AO s.size cO)).ownsRow (w.heap.size + 3) e 1 v n xs := fun ho => ownsRow_same ho (fun k hk => hT k (by have := (ho.lt k hk).1; omega))
  exact map_of (hmv h.oN) (hmv h.oL) (hmv h.oO) (fun k hk => hmv (h.nr k hk)) h0

set_option maxHeartbeats 4000000 in
theorem of_any (W H : Int) (s : ByteArray) (hs : s.size ≤ maxLen) (w : World) : Calls Tryd.prog 24 #[.agg #[.int .i64 W, .int .i64 H, .string s]] w (OfTold W H s w) := by
  have HRI := Lib.hid (rright_any W H s hs)
  go_enter Tryd.func24, Tryd.ntmps24
  go_wp2_with fail
  obtain ⟨hx, hO, hM⟩ := of_cells (w := w) (W := W) (H := H) (s := s)
  refine (HRI.out _).mono ?_
  rintro e w4 ⟨b, rfl, hb, hbw⟩
  have HX := Lib.hid (hx.after hbw)
  have HO := Lib.hid (hO.later hbw)
  have HM := Lib.hid (hM.later hbw)
  have HB := Lib.hid hb
  clear hx hO hM hb hbw
  cases b with
  | false =>
    have m0 : w4.cell? ⟨w.heap.size + 1 + 1, 0, none⟩ = some (.slice none 0 0) := (HM.out.2 0 (by decide)).1
    have m1 : w4.cell? ⟨w.heap.size + 1 + 1, 1, none⟩ = some (.slice none 0 0) := (HM.out.2 1 (by decide)).1
    have m2 : w4.cell? ⟨w.heap.size + 1 + 1, 2, none⟩ = some (.slice none 0 0) := (HM.out.2 2 (by decide)).1
    obtain ⟨o0, f0⟩ := HO.out.2 0 (by decide)
    obtain ⟨o1, f1⟩ := HO.out.2 1 (by decide)
    obtain ⟨o2, f2⟩ := HO.out.2 2 (by decide)
    obtain ⟨⟨r0, r1, r2⟩, hbel⟩ := out_map HO.out (.slice none 0 0) (.slice none 0 0) (.slice none 0 0)
    have HBE := Lib.hid (HX.out.below.trans (hbel _ HX.out.below.size (Nat.le_succ _)))
    clear hbel
    go_wp2_with fail
    exact bodyPost_ret (v := .agg #[.slice none 0 0, .slice none 0 0, .slice none 0 0]) (res_map5 _ rfl r0 r1 r2) rfl ⟨_, _, _, _, _, _, _, rfl, HBE.out, (fun h => by have := HB.out.2 h; cases this), fun _ => ⟨rfl, rfl, rfl, rfl, rfl, rfl, rfl⟩⟩
  | true =>
    have hR := HB.out.1 rfl
    obtain ⟨a, b, rfl, rfl, hSd, hN⟩ := rightNat hR
    have HR := Lib.hid hR
    have h256 := hSd.le
    have HSD := Lib.hid hSd
    have HZO := Lib.hid (fun (x : Int) wx => rzone_any (a : Int) (b : Int) s hs x wx)
    have HNE := Lib.hid (fun (x : Int) wx => rnear_any (a : Int) (b : Int) s hs x wx)
    obtain ⟨iN, hiN, hz0, hz1, hz2⟩ := info_parts Tryd.infoInts5
    obtain ⟨iB, hiB, hy0, hy1, hy2⟩ := info_parts Tryd.infoBool5
    have HST : Hid (Of5 w a b s 0 0 0 (.slice none 0 0) (.slice none 0 0) (.slice none 0 0) [] w4) := Lib.hid ⟨HX.out, HO.out, HM.out.congr (fun x hx => by match x with
      | 0 => rfl
      | 1 => rfl
      | 2 => rfl), World.ownsRow_nil _ _ _ _, World.ownsRow_nil _ _ _ _, World.ownsRow_nil _ _ _ _, (fun k hk => by omega), (fun g e => by cases e)⟩
    clear hR hSd hN HX HO HM HB
    go_wp2_with fail
    go_loopw [4] (fun iv wr => ∃ (i : Nat) (AN AL AO : Option Addr) (cN cL cO : Nat) (rows : List Value), i ≤ s.size ∧ iv = .int .i64 (i : Int) ∧ Of5 w a b s i i i (.slice AN i cN) (.slice AL i cL) (.slice AO i cO) rows wr) (fun iv _ => s.size - (intOf iv).toNat)
    case atStart => exact ⟨0, none, none, none, 0, 0, 0, [], Nat.zero_le _, rfl, HST.out⟩
    case round =>
      rename World => wr
      obtain ⟨i, AN, AL, AO, cN, cL, cO, rows, hi, rfl, hS⟩ := hrel
      have HS := Lib.hid hS
      have c0 := hS.box.c0
      have c1 := hS.box.c1
      have c2 := hS.box.c2
      have m0 : wr.cell? ⟨w.heap.size + 1 + 1, 0, none⟩ = some (.slice AN i cN) := (hS.mc.2 0 (by decide)).1
      have m1 : wr.cell? ⟨w.heap.size + 1 + 1, 1, none⟩ = some (.slice AL i cL) := (hS.mc.2 1 (by decide)).1
      have m2 : wr.cell? ⟨w.heap.size + 1 + 1, 2, none⟩ = some (.slice AO i cO) := (hS.mc.2 2 (by decide)).1
      clear hS HST
      by_cases hli : i < s.size
      · clear m0 m1 m2
        go_wp2_with fail
        refine (HZO.out _ _).mono ?_
        rintro e w5 ⟨zn, lane, rfl, p1, p2, hb5⟩
        have HS5 := Lib.hid (HS.out.later hb5)
        have HLN : Hid (lane = isL (at_ s i)) := Lib.hid (by
          cases hq : isL (at_ s i)
          · exact (p2 (fun h => by have := h.2; rw [bAt_in5 s i hli, hq] at this; cases this)).2
          · exact (p1 ⟨HR.out, by rw [bAt_in5 s i hli]; exact hq⟩).2)
        have c0 := HS5.out.box.c0
        have c1 := HS5.out.box.c1
        have c2 := HS5.out.box.c2
        have m0 : w5.cell? ⟨w.heap.size + 1 + 1, 0, none⟩ = some (.slice AN i cN) := (HS5.out.mc.2 0 (by decide)).1
        clear p1 p2 hb5
        go_upto_region 8 with (fail)
        go_cut [6] (fun lv wc => lv = .bool lane ∧ ∃ (g c : Nat) (rows' : List Value), Of5 w a b s (i + 1) i i (.slice (some ⟨g, 0, none⟩) (i + 1) c) (.slice AL i cL) (.slice AO i cO) rows' wc)
        case first =>
          go_region_law (first
            | (refine step_append_lies _ (by rfl) _ _ _ (by rfl) (w.heap.size + 3) 24 iN _ 1 24 Tryd.underlying45 hiN hz0 hz1 hz2 rfl (by omega) (.slice AN i cN) i rows (by rfl) HA6.out.oN ⟨w6.heap.size, 0, none⟩ 1 1 [.slice A6 n6 k6] (by rfl) (by rfl) HN6.out HC6.out (by omega) (by unfold maxLen; omega) (by omega) HZ6.out (w6.heap.size + 1) (by simp) ?_; intro g7 c7 w7 hown7 hgrow7 hat7 hlt7; have HS8 := Lib.hid (HA6.out.addN HX6.out hgrow7 hown7); have d0 := (World.cell?_of_block (a := ⟨w.heap.size + 1 + 1, 0, none⟩) (hgrow7.block (w.heap.size + 2) HA6.out.mc.1 (fun e => by have := (HA6.out.oN.lt _ e.symm).1; omega))).trans (HA6.out.mc.2 0 (by decide)).1; have d1 := (World.frozen?_of_block (a := ⟨w.heap.size + 1 + 1, 0, none⟩) (hgrow7.block (w.heap.size + 2) HA6.out.mc.1 (fun e => by have := (HA6.out.oN.lt _ e.symm).1; omega))).trans (HA6.out.mc.2 0 (by decide)).2; clear hown7 hgrow7 hat7 hlt7)
            | (go_simp; go_at_call 46; refine (HNE.out _ _).mono ?_; rintro e w6 ⟨A6, n6, k6, xs, rfl, hn6, q1, q2, ho6, hb6⟩; have HS6 := Lib.hid ((HS5.out.later (Below.refl _ _).drew).later hb6); have HXS := Lib.hid (near_rows HR.out hli q1 q2); have HA6 := Lib.hid (HS6.out.later ((Below.refl w6.heap.size w6).alloc (Nat.le_refl _) (.cells #[.slice A6 n6 k6] 24))); have HX6 := Lib.hid (own_rows (x := .slice A6 n6 k6) (t := 24) HXS.out hn6 (HS5.out.later (Below.refl _ _).drew) ho6); have HN6 := Lib.hid (one_cell w6 (.slice A6 n6 k6) 24); have HC6 : Hid (∀ u ∈ ([.slice A6 n6 k6] : List Value), u.oneCell' = true) := Lib.hid (by intro u hu; simp at hu; subst hu; rfl); have HZ6 : Hid (w.heap.size + 3 ≤ (w6.alloc (.cells #[.slice A6 n6 k6] 24)).heap.size) := Lib.hid (Nat.succ_le_of_lt HA6.out.mc.1); have m0 : w6.cell? ⟨w.heap.size + 1 + 1, 0, none⟩ = some (.slice AN i cN) := (HS6.out.mc.2 0 (by decide)).1; have m0a : (w6.alloc (.cells #[.slice A6 n6 k6] 24)).cell? ⟨w.heap.size + 1 + 1, 0, none⟩ = some (.slice AN i cN) := (HA6.out.mc.2 0 (by decide)).1; have c0 := HS6.out.box.c0; have c1 := HS6.out.box.c1; have c2 := HS6.out.box.c2; clear hn6 q1 q2 ho6 hb6))
          all_goals (go_wp2_with fail; go_meet; exact ⟨rfl, g7, c7, _, HS8.out⟩)
        case rest =>
          obtain ⟨rfl, g, c, rows', hS8⟩ := hcut
          have HS8 := Lib.hid hS8
          have m1 : wc.cell? ⟨w.heap.size + 1 + 1, 1, none⟩ = some (.slice AL i cL) := (hS8.mc.2 1 (by decide)).1
          have fm1 : wc.frozen? ⟨w.heap.size + 1 + 1, 1, none⟩ = false := (hS8.mc.2 1 (by decide)).2
          clear hS8 c0 c1 c2 m0
          have HA8 := Lib.hid (HS8.out.later ((Below.refl wc.heap.size wc).alloc (Nat.le_refl _) (.cells #[.bool lane] 4)))
          have HN8 := Lib.hid (one_cell wc (.bool lane) 4)
          have HC8 : Hid (∀ u ∈ ([.bool lane] : List Value), u.oneCell' = true) := Lib.hid (by intro u hu; simp at hu; subst hu; rfl)
          have HZ8 : Hid (w.heap.size + 3 ≤ (wc.alloc (.cells #[.bool lane] 4)).heap.size) := Lib.hid (Nat.succ_le_of_lt HA8.out.mc.1)
          go_wp2_with (at_builtin; refine wpList_append_lies _ rfl _ _ _ rfl (w.heap.size + 3) 4 iB _ 1 1 Tryd.underlying46 hiB hy0 hy1 hy2 rfl (by omega) (.slice AL i cL) i (lanB s i) rfl HA8.out.oL ⟨wc.heap.size, 0, none⟩ 1 1 [.bool lane] rfl rfl HN8.out HC8.out (by omega) (by unfold maxLen; omega) (by omega) HZ8.out (wc.heap.size + 1) (by simp) ?_; intro g9 c9 w9 hown9 hgrow9 hat9 hlt9; have d0 := (World.cell?_of_block (a := ⟨w.heap.size + 1 + 1, 1, none⟩) (hgrow9.block (w.heap.size + 2) HA8.out.mc.1 (fun e => by have := (HA8.out.oL.lt _ e.symm).1; omega))).trans (HA8.out.mc.2 1 (by decide)).1; have d1 := (World.frozen?_of_block (a := ⟨w.heap.size + 1 + 1, 1, none⟩) (hgrow9.block (w.heap.size + 2) HA8.out.mc.1 (fun e => by have := (HA8.out.oL.lt _ e.symm).1; omega))).trans (HA8.out.mc.2 1 (by decide)).2; have HS9 := Lib.hid (HA8.out.addL hgrow9 (by rw [← HLN.out]; exact hown9) (by rw [alloc_size]; exact hat9)); clear hown9 hgrow9 hat9 hlt9)
          obtain ⟨w10, hw10⟩ : ∃ w10, w10 = w9.setCell ⟨w.heap.size + 1 + 1, 1, none⟩ (.slice (some ⟨g9, 0, none⟩) (i + 1) c9) := ⟨_, rfl⟩
          have HS10 : Hid (Of5 w a b s (i + 1) (i + 1) i (.slice (some ⟨g, 0, none⟩) (i + 1) c) (.slice (some ⟨g9, 0, none⟩) (i + 1) c9) (.slice AO i cO) rows' w10) := Lib.hid (by rw [hw10]; exact HS9.out)
          rw [← hw10]
          clear hw10 HS9 m1 fm1 HA8 HN8 HC8 HZ8 HS8 d0 d1
          have c0 := HS10.out.box.c0
          have c2 := HS10.out.box.c2
          have m2 : w10.cell? ⟨w.heap.size + 1 + 1, 2, none⟩ = some (.slice AO i cO) := (HS10.out.mc.2 2 (by decide)).1
          have HV : Hid (((s[i].toNat : Int) != 35) = (at_ s i != 35)) := Lib.hid (by rw [at_get s i hli]; rw [Bool.eq_iff_iff, bne_iff_ne, bne_iff_ne]; omega)
          have HA10 := Lib.hid (HS10.out.later ((Below.refl w10.heap.size w10).alloc (Nat.le_refl _) (.cells #[.bool ((s[i].toNat : Int) != 35)] 4)).drew)
          have HN10 : Hid (∀ j u, ([.bool ((s[i].toNat : Int) != 35)] : List Value)[j]? = some u → (w10.alloc (.cells #[.bool ((s[i].toNat : Int) != 35)] 4)).drew.cell? ((⟨w10.heap.size, 0, none⟩ : Addr).add j) = some u) := Lib.hid (one_cell w10 _ 4)
          have HC10 : Hid (∀ u ∈ ([.bool ((s[i].toNat : Int) != 35)] : List Value), u.oneCell' = true) := Lib.hid (by intro u hu; simp only [List.mem_singleton] at hu; subst hu; rfl)
          have HZ10 : Hid (w.heap.size + 3 ≤ (w10.alloc (.cells #[.bool ((s[i].toNat : Int) != 35)] 4)).drew.heap.size) := Lib.hid (Nat.succ_le_of_lt HA10.out.mc.1)
          have HE10 : Hid ((w10.alloc (.cells #[.bool ((s[i].toNat : Int) != 35)] 4)).drew.heap.size = w10.heap.size + 1) := Lib.hid (alloc_size w10 _)
          have m2a : (w10.alloc (.cells #[.bool ((s[i].toNat : Int) != 35)] 4)).cell? ⟨w.heap.size + 1 + 1, 2, none⟩ = some (.slice AO i cO) := (HA10.out.mc.2 2 (by decide)).1
          go_region_law (first
            | (refine step_append_lies _ (by rfl) _ _ _ (by rfl) (w.heap.size + 3) 4 iB _ 1 1 Tryd.underlying46 hiB hy0 hy1 hy2 rfl (by omega) (.slice AO i cO) i (opnB s i) (by rfl) HA10.out.oO ⟨w10.heap.size, 0, none⟩ 1 1 [.bool ((s[i].toNat : Int) != 35)] (by rfl) (by rfl) HN10.out HC10.out (by omega) (by unfold maxLen; omega) (by omega) HZ10.out (w10.heap.size + 1) HE10.out ?_; intro g11 c11 w11 hown11 hgrow11 hat11 hlt11; have d0 := (World.cell?_of_block (a := ⟨w.heap.size + 1 + 1, 2, none⟩) (hgrow11.block (w.heap.size + 2) HA10.out.mc.1 (fun e => by have := (HA10.out.oO.lt _ e.symm).1; omega))).trans (HA10.out.mc.2 2 (by decide)).1; have d1 := (World.frozen?_of_block (a := ⟨w.heap.size + 1 + 1, 2, none⟩) (hgrow11.block (w.heap.size + 2) HA10.out.mc.1 (fun e => by have := (HA10.out.oO.lt _ e.symm).1; omega))).trans (HA10.out.mc.2 2 (by decide)).2; have HS11 := Lib.hid (HA10.out.addO hgrow11 (by rw [← HV.out]; exact hown11) (by rw [HE10.out]; exact hat11)); clear hown11 hgrow11 hat11 hlt11))
          all_goals
            go_wp2_with fail
            go_roundw
            case rel => first
              | exact ⟨i + 1, _, _, _, _, _, _, _, by omega, by go_num, HS11.out⟩
              | ((repeat apply Exists.intro); exact ⟨⟨i + 1, _, _, _, _, _, _, _, by omega, by go_num, HS11.out⟩, rfl⟩)
            case measure => simp [intOf]; omega
      · obtain rfl : i = s.size := by omega
        obtain ⟨o0, f0⟩ := HS.out.oc.2 0 (by decide)
        obtain ⟨o1, f1⟩ := HS.out.oc.2 1 (by decide)
        obtain ⟨o2, f2⟩ := HS.out.oc.2 2 (by decide)
        obtain ⟨⟨r0, r1, r2⟩, hbel⟩ := out_map HS.out.oc (.slice AN s.size cN) (.slice AL s.size cL) (.slice AO s.size cO)
        have HBE := Lib.hid (HS.out.box.below.trans (hbel _ HS.out.box.below.size (Nat.le_succ _)))
        have HMP := Lib.hid (map_out HS.out (by rw [HSD.out.sz]; exact Nat.mul_pos HSD.out.w1 HSD.out.h1))
        clear hbel
        go_wp2_with fail
        exact bodyPost_ret (v := .agg #[.slice AN s.size cN, .slice AL s.size cL, .slice AO s.size cO]) (res_map5 _ rfl r0 r1 r2) rfl ⟨_, _, _, _, _, _, _, rfl, HBE.out, (fun _ => HMP.out), fun h => absurd HR.out h⟩
end Go.Proofs.YtaioiobimenkfaaDoor
