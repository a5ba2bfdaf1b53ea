/-
  Layer 5: the document's Dist.
-/
import Derived.Test.YtokjnmgbgflgnaaGreatDoorPtR3
set_option linter.unusedVariables false
set_option maxRecDepth 100000
namespace Go.Proofs.YtokjnmgbgflgnaaGreatDoor
open Go.RowKit Fl Pt

/-- What is held while the document's Dist goes on. -/
structure DS (w : World) (AN AL AO : Option Addr) (n cN cL cO D : Nat) (f : Nat → Value) (wr : World) : Prop where
  d : Cells D n f wr
  dl : w.heap.size + 1 ≤ D
  mx : MX w.heap.size AN AL AO n cN cL cO wr
  below : Below w.heap.size w wr
theorem DS.later {w : World} {AN AL AO : Option Addr} {n cN cL cO D : Nat} {f : Nat → Value} {wr wx : World} (h : DS w AN AL AO n cN cL cO D f wr) (hb : Below wr.heap.size wr wx) : DS w AN AL AO n cN cL cO D f wx :=
  ⟨h.d.later hb, h.dl, h.mx.later hb, h.below.trans (hb.mono h.below.size)⟩
theorem MX.below1 {M : Nat} {AN AL AO : Option Addr} {n cN cL cO : Nat} {w w' : World} (h : MX M AN AL AO n cN cL cO w) (hb : Below (M + 1) w w') : MX M AN AL AO n cN cL cO w' :=
  ⟨(hb.cell (p := ⟨M, 0, none⟩) (Nat.lt_succ_self _)).trans h.c0, (hb.cell (p := ⟨M, 1, none⟩) (Nat.lt_succ_self _)).trans h.c1, (hb.cell (p := ⟨M, 2, none⟩) (Nat.lt_succ_self _)).trans h.c2, Nat.lt_of_lt_of_le h.lt hb.size⟩
theorem DS.put {w : World} {AN AL AO : Option Addr} {n cN cL cO D : Nat} {f g : Nat → Value} {wr : World} (h : DS w AN AL AO n cN cL cO D f wr) (y : Nat) (v : Value) (hy : y < n) (hg : ∀ x, x < n → g x = if x = y then v else f x) : DS w AN AL AO n cN cL cO D g (wr.setCell ⟨D, y, none⟩ v) :=
  ⟨h.d.put y v hy hg, h.dl, h.mx.below1 ((Below.refl _ wr).setCell h.dl v), h.below.setCell (Nat.le_trans (Nat.le_succ _) h.dl) v⟩
theorem DS.congr {w : World} {AN AL AO : Option Addr} {n cN cL cO D : Nat} {f g : Nat → Value} {wr : World} (h : DS w AN AL AO n cN cL cO D f wr) (e : ∀ x, x < n → f x = g x) : DS w AN AL AO n cN cL cO D g wr :=
  ⟨h.d.congr e, h.dl, h.mx, h.below⟩
theorem DS.set {w : World} {AN AL AO : Option Addr} {n cN cL cO D : Nat} {F : List Int} {wr : World} (h : DS w AN AL AO n cN cL cO D (ci F) wr) (hl : F.length = n) (y : Nat) (hy : y < n) (x : Int) : DS w AN AL AO n cN cL cO D (ci (F.set y x)) (wr.setCell ⟨D, y, none⟩ (.int .i64 x)) :=
  ⟨h.d.seti y x hy hl, h.dl, h.mx.below1 ((Below.refl _ wr).setCell h.dl _), h.below.setCell (Nat.le_trans (Nat.le_succ _) h.dl) _⟩
/-- A cell that was reached is no wall. -/
theorem reached_open {W H a c n : Nat} {z : Nat → Nat} {B : Nat → Bool} (haw : z a ≠ 35) (h : Wk (nx5 W H z a B) a n c) : z c ≠ 35 := by
  rcases h.inv with ⟨_, e⟩ | ⟨m, b, _, _, hb⟩
  · rw [e]; exact haw
  · exact (mem_nr.1 (mem_nx5.1 hb).2.1).2
/-- How far each cell is is told, in memory of the call's own. -/
def FarTold (W H a : Nat) (s : ByteArray) (B : Nat → Bool) (w : World) (e : Ending) (w' : World) : Prop :=
  ∃ D, ∃ F : List Int, e = .returned (.slice (some ⟨D, 0, none⟩) s.size s.size) ∧ F.length = s.size ∧ Cells D s.size (ci F) w' ∧ w.heap.size ≤ D ∧ Below w.heap.size w w' ∧ Hid (∀ x, x < s.size → IsD (nx5 W H (at_ s) a B) a x (F.getD x 0))

set_option maxHeartbeats 4000000 in
theorem rmdist_any {W H : Nat} {s : ByteArray} {AN AL AO : Option Addr} {n cN cL cO : Nat} (a : Nat) (A : Option Addr) (m cap : Nat) (f : Nat → Int) (w : World) (h : MapAt w W H s AN AL AO n cN cL cO) (hS : Sides W H s) (ha : a < s.size) (hz : at_ s a ≠ 35) (hf : Il w.heap.size w A m cap f) :
    Calls Tryz.prog 79 #[.agg #[.slice AN n cN, .slice AL n cL, .slice AO n cO], .int .i64 (a : Int), .slice A m cap] w (FarTold W H a s (mk f m) w) := by
  obtain rfl := h.sz
  have h256 := hS.le
  obtain ⟨b0, b1, b2, hb⟩ := map_box w (.slice AN s.size cN) (.slice AL s.size cL) (.slice AO s.size cO)
  have HMP := Lib.hid h
  have HSD := Lib.hid hS
  have HZ := Lib.hid hz
  have HF := Lib.hid hf
  have HMX : Hid (MX w.heap.size AN AL AO s.size cN cL cO (w.alloc (.cells #[.slice AN s.size cN, .slice AL s.size cL, .slice AO s.size cO] 57))) := Lib.hid ⟨b0, b1, b2, by rw [alloc_size]; exact Nat.lt_succ_self _⟩
  have HB1 := Lib.hid hb
  have HOP := Lib.hid (fun wx hb => ropen_map (W := W) (H := H) (s := s) (AN := AN) (AL := AL) (AO := AO) (cN := cN) (cL := cL) (cO := cO) (a : Int) wx (h.later hb) h256)
  have hcap := h.caps.2.2
  have hcap2 := hcap.2
  unfold maxLen at hcap2
  obtain ⟨i0, hi, hz0, hz1, hz2⟩ := info_parts Tryz.infoInt
  clear h hS hz hf hb b0 b1 b2
  have c0 := HMX.out.c0
  have c1 := HMX.out.c1
  have c2 := HMX.out.c2
  go_enter Tryz.func79, Tryz.ntmps79
  go_wp2_with fail
  refine (HOP.out _ HB1.out).mono ?_
  rintro e w2 ⟨b, rfl, hb, hb2⟩
  obtain rfl : b = true := hb.2 (by rw [bAt_in5 s a ha]; exact HZ.out)
  have HMX2 := Lib.hid (HMX.out.later hb2)
  have HB2 := Lib.hid (HB1.out.trans (hb2.mono HB1.out.size))
  have c0 := HMX2.out.c0
  have c1 := HMX2.out.c1
  have c2 := HMX2.out.c2
  have hlt2 := HMX2.out.lt
  clear hb hb2 HB1 HMX HOP
  go_wp2_with (at_make; go_must (refine wpList_make_full _ rfl _ _ 24 rfl w2.heap.size 3 i0 (.int .i64 0) 1 Tryz.underlying24 hi hz0 hz1 .i64 .i64 _ _ s.size rfl rfl rfl rfl (by rw [hz2]; omega) (by unfold maxLen; omega) (by simp) ?_); intro w3 ho3 hg3; have hA3 : Cells w2.heap.size s.size (fun _ => .int .i64 0) w3 := (by have h := Cells.made rfl ho3; simpa using h); have hB3 : Below w2.heap.size w2 w3 := (Below.grown (Below.refl _ _) hg3 (Nat.le_refl _) (fun k hk => by cases hk)); have HS3 : Hid (DS w AN AL AO s.size cN cL cO w2.heap.size (fun _ => .int .i64 0) w3) := Lib.hid ⟨hA3, hlt2, HMX2.out.later hB3, HB2.out.trans (hB3.mono HB2.out.size)⟩; clear ho3 hg3 hA3 hB3 c0 c1 c2)
  obtain ⟨D, hD⟩ : ∃ D, D = w2.heap.size := ⟨_, rfl⟩
  rw [← hD] at HS3 ⊢
  have hDw : w.heap.size + 1 ≤ D := by rw [hD]; exact hlt2
  clear hD hi hz0 hz1 hz2 hlt2 HMX2 HB2
  go_loopw [8] (fun iv wr => ∃ i : Nat, i ≤ s.size ∧ iv = .int .i64 (i : Int) ∧ DS w AN AL AO s.size cN cL cO D (fun x => .int .i64 (if x < i then -1 else 0)) wr) (fun iv _ => s.size - (intOf iv).toNat)
  case atStart => exact ⟨0, Nat.zero_le _, rfl, HS3.out.congr (fun x _ => rfl)⟩
  case round =>
    rename World => wr
    obtain ⟨i, hi, rfl, hS⟩ := hrel
    have HS := Lib.hid hS
    by_cases hli : i < s.size
    · obtain ⟨k1, k2⟩ := hS.d.2 i hli
      clear hS
      have hiI : (i : Int) < (s.size : Int) := by omega
      go_wp2_with fail
      go_roundw
      case rel =>
        refine ⟨i + 1, by omega, by go_num, HS.out.put i _ hli (fun x hx => ?_)⟩
        by_cases e : x = i
        · subst e; rw [if_pos rfl, if_pos (by omega)]
        · rw [if_neg e]
          by_cases e2 : x < i
          · rw [if_pos e2, if_pos (by omega)]
          · rw [if_neg e2, if_neg (by omega)]
      case measure => simp [intOf]; omega
    · obtain rfl : i = s.size := by omega
      clear hS
      have HS4 : Hid (DS w AN AL AO s.size cN cL cO D (ci (List.replicate s.size (-1))) wr) := Lib.hid (HS.out.congr (fun x hx => by rw [if_pos hx, ci_rep s.size a (-1) x hx]))
      obtain ⟨k1, k2⟩ := HS4.out.d.2 a ha
      have HS5 := Lib.hid (HS4.out.set (by simp) a ha 0)
      have HRD := Lib.hid (Rd.start (nx5 W H (at_ s) a (mk f m)) s.size a ha)
      have haI : (a : Int) < (s.size : Int) := by omega
      clear HS HS3
      go_wp2_with fail
      clear k1 k2
      generalize wr.setCell ⟨D, a, none⟩ (.int .i64 0) = w5 at *
      go_loopw [9] (fun nv wr => ∃ (q : Nat) (F : List Int), q ≤ s.size ∧ nv = .int .i64 (q : Int) ∧ Hid (Rd (nx5 W H (at_ s) a (mk f m)) s.size a q 0 0 F) ∧ DS w AN AL AO s.size cN cL cO D (ci F) wr) (fun nv _ => s.size - (intOf nv).toNat)
      case atStart => exact ⟨0, _, Nat.zero_le _, rfl, HRD, HS5.out⟩
      case round =>
        rename World => wb
        obtain ⟨q, F, hq, rfl, HR, hS⟩ := hrel
        have HS := Lib.hid hS
        clear hS HS5 HRD HS4
        by_cases hlq : q < s.size
        · have hqI : (q : Int) < (s.size : Int) := by omega
          go_wp2_with fail
          go_loopw [10] (fun iv wr => ∃ (i : Nat) (F : List Int), i ≤ s.size ∧ iv = .int .i64 (i : Int) ∧ Hid (Rd (nx5 W H (at_ s) a (mk f m)) s.size a q i 0 F) ∧ DS w AN AL AO s.size cN cL cO D (ci F) wr) (fun iv _ => s.size - (intOf iv).toNat)
          case atStart => exact ⟨0, F, Nat.zero_le _, rfl, HR, HS.out⟩
          case round =>
            rename World => wc
            obtain ⟨i, F, hi, rfl, HR, hS⟩ := hrel
            have HS := Lib.hid hS
            clear hS
            by_cases hli : i < s.size
            · have hiI : (i : Int) < (s.size : Int) := by omega
              have k1 : wc.cell? ⟨D, i, none⟩ = some (.int .i64 (F.getD i 0)) := (HS.out.d.2 i hli).1
              by_cases hx : F.getD i 0 = (q : Int)
              · rw [hx] at k1
                have HX := Lib.hid hx
                have HOI : Hid (at_ s i ≠ 35) := Lib.hid (by
                  obtain ⟨m', e1, e2, _⟩ := HR.out.low i hli (by rw [hx]; omega)
                  exact reached_open HZ.out e2.1)
                have c0 := HS.out.mx.c0
                have c1 := HS.out.mx.c1
                have c2 := HS.out.mx.c2
                clear hx
                go_wp2_with fail
                refine (rsteps_any i a A m cap f _ (HMP.out.later HS.out.below) h256 hli ha HOI.out (args_il HF.out HS.out.below)).mono ?_
                rintro e w6 ⟨A6, n6, k6, rfl, hn6, ho6, hb6⟩
                have HS6 := Lib.hid (HS.out.later hb6)
                have hDl : D < wc.heap.size := HS.out.d.1
                have HO6 := Lib.hid ho6
                have HN6 := Lib.hid hn6
                have h4 : n6 ≤ 4 := by rw [hn6]; exact nx5_len _ _ _ _ _ _
                have hcap6 := ho6.cap hn6
                have hc6a := hcap6.1
                have hc6b := hcap6.2
                unfold maxLen at hc6b
                clear hn6 ho6 hb6 hcap6 k1 c0 c1 c2
                go_wp2_with fail
                go_loopw [12] (fun kv wr => ∃ (k : Nat) (F : List Int), k ≤ n6 ∧ kv = .int .i64 (k : Int) ∧ Hid (Rd (nx5 W H (at_ s) a (mk f m)) s.size a q i k F ∧ F.getD i 0 = (q : Int)) ∧ DS w AN AL AO s.size cN cL cO D (ci F) wr ∧ Own wr wc.heap.size (.slice A6 n6 k6) (nx5 W H (at_ s) a (mk f m) i)) (fun kv _ => n6 - (intOf kv).toNat)
                case atStart => exact ⟨0, F, Nat.zero_le _, rfl, Lib.hid ⟨HR.out, HX.out⟩, HS6.out, HO6.out⟩
                case round =>
                  rename World => wd
                  obtain ⟨k, F, hk, rfl, HR, hS, ho⟩ := hrel
                  have HS := Lib.hid hS
                  have HO := Lib.hid ho
                  clear hS HS6 HO6
                  by_cases hlk : k < n6
                  · obtain ⟨g, rfl, hg, hcg⟩ := ho.at k (by rw [← HN6.out]; exact hlk)
                    obtain ⟨y, hy⟩ : ∃ y, y = (nx5 W H (at_ s) a (mk f m) i).getD k 0 := ⟨_, rfl⟩
                    rw [← hy] at hcg
                    have hlkx : k < (nx5 W H (at_ s) a (mk f m) i).length := by rw [← HN6.out]; exact hlk
                    have HYM : Hid (y ∈ nx5 W H (at_ s) a (mk f m) i) := Lib.hid (by rw [hy, List.getD_eq_getElem?_getD, List.getElem?_eq_getElem hlkx]; exact List.getElem_mem _)
                    have hys : y < s.size := by
                      have := nx5_lt (W := W) (H := H) (a := a) (z := at_ s) (B := mk f m) HSD.out.w1 i y (by rw [← HSD.out.sz]; exact hli) HYM.out
                      rw [HSD.out.sz]; exact this
                    have hyI : (y : Int) < (s.size : Int) := by omega
                    have hkI : (k : Int) < (n6 : Int) := by omega
                    have HY := Lib.hid hy
                    have k1 : wd.cell? ⟨D, y, none⟩ = some (.int .i64 (F.getD y 0)) := (HS.out.d.2 y hys).1
                    have k2 := (HS.out.d.2 y hys).2
                    obtain ⟨u, hu⟩ : ∃ u, u = F.getD y 0 := ⟨_, rfl⟩
                    rw [← hu] at k1
                    have HU := Lib.hid hu
                    have hwr : IntKind.i64.wrap ((q : Int) + 1) = (q : Int) + 1 := IntWalk.i64_in _ (by omega)
                    clear hy hu ho
                    by_cases hu0 : u < 0
                    · have du : decide (u < 0) = true := decide_eq_true hu0
                      have HNW : Hid (Rd (nx5 W H (at_ s) a (mk f m)) s.size a q i (k + 1) (F.set y ((q : Int) + 1)) ∧ (F.set y ((q : Int) + 1)).getD i 0 = (q : Int)) := Lib.hid (by
                        have hm1 : F.getD y 0 = -1 := by rw [HU.out] at hu0; exact (HR.out.1.sign hys).1 hu0
                        have hne : y ≠ i := fun e => by have := HR.out.2; rw [← e, hm1] at this; omega
                        have h1 := HR.out.1.new hli HR.out.2 hlkx (by rw [← HY.out]; exact hys) (by rw [← HY.out]; exact hm1)
                        rw [← HY.out] at h1
                        exact ⟨h1, by rw [Go.Proofs.YtokjnmgbgflgnaaGreatDoor.Pt.getD_set_ne hne]; exact HR.out.2⟩)
                      have HS7 := Lib.hid (HS.out.set HR.out.1.len y hys ((q : Int) + 1))
                      have HO7 : Hid (Own (wd.setCell ⟨D, y, none⟩ (.int .i64 ((q : Int) + 1))) wc.heap.size (.slice (some ⟨g, 0, none⟩) n6 k6) (nx5 W H (at_ s) a (mk f m) i)) := Lib.hid (ownsRow_same HO.out (fun k hk => Below.heap_setCell _ _ _ _ (by have := (World.ownsRow.lt HO.out k hk).1; show k ≠ D; omega)))
                      go_wp2_with fail
                      go_roundw
                      case rel => exact ⟨k + 1, _, by omega, by go_num, HNW, HS7.out, HO7.out⟩
                      case measure => simp [intOf]; omega
                    · have du : decide (u < 0) = false := decide_eq_false hu0
                      have HNW : Hid (Rd (nx5 W H (at_ s) a (mk f m)) s.size a q i (k + 1) F ∧ F.getD i 0 = (q : Int)) := Lib.hid ⟨HR.out.1.old hlkx (by rw [← HY.out, ← HU.out]; omega), HR.out.2⟩
                      clear k2
                      go_wp2_with fail
                      go_roundw
                      case rel => exact ⟨k + 1, F, by omega, by go_num, HNW, HS.out, HO.out⟩
                      case measure => simp [intOf]; omega
                  · obtain rfl : k = n6 := by omega
                    have HNX : Hid (Rd (nx5 W H (at_ s) a (mk f m)) s.size a q (i + 1) 0 F) := Lib.hid (HR.out.1.next (by rw [← HN6.out]; exact Nat.le_refl _))
                    clear ho
                    go_wp2_with fail
                    go_roundw
                    case rel => exact ⟨i + 1, F, by omega, by go_num, HNX, HS.out⟩
                    case measure => simp [intOf]; omega
              · have HNX : Hid (Rd (nx5 W H (at_ s) a (mk f m)) s.size a q (i + 1) 0 F) := Lib.hid (HR.out.past hx)
                generalize F.getD i 0 = x at k1 hx
                have dx : (x != (q : Int)) = true := by rw [bne_iff_ne]; exact hx
                clear hx
                go_wp2_with fail
                go_roundw
                case rel => exact ⟨i + 1, F, by omega, by go_num, HNX, HS.out⟩
                case measure => simp [intOf]; omega
            · obtain rfl : i = s.size := by omega
              have HNX : Hid (Rd (nx5 W H (at_ s) a (mk f m)) s.size a (q + 1) 0 0 F) := Lib.hid (HR.out.round (Nat.le_refl _) ha (fun x y hx hy => by rw [HSD.out.sz] at hx ⊢; exact nx5_lt HSD.out.w1 x y hx hy))
              go_wp2_with fail
              go_roundw
              case rel => exact ⟨q + 1, F, by omega, by go_num, HNX, HS.out⟩
              case measure => simp [intOf]; omega
        · obtain rfl : q = s.size := by omega
          go_wp2_with fail
          go_ret
          exact ⟨D, F, rfl, HR.out.len, HS.out.d, by omega, HS.out.below, Lib.hid (fun x hx => HR.out.isD (Nat.le_refl _) ha (fun x y hx hy => by rw [HSD.out.sz] at hx ⊢; exact nx5_lt HSD.out.w1 x y hx hy) x hx)⟩
set_option maxHeartbeats 1000000 in
theorem rmdist_no {W H : Nat} {s : ByteArray} {AN AL AO : Option Addr} {n cN cL cO : Nat} (c : Int) (A : Option Addr) (m cap : Nat) (w : World) (h : MapAt w W H s AN AL AO n cN cL cO) (h256 : s.size ≤ 256) (hz : bAt s c = 35) :
    Calls Tryz.prog 79 #[.agg #[.slice AN n cN, .slice AL n cL, .slice AO n cO], .int .i64 c, .slice A m cap] w fun e w' => e = .returned (.slice none 0 0) ∧ Below w.heap.size w w' := by
  obtain ⟨b0, b1, b2, hb⟩ := map_box w (.slice AN n cN) (.slice AL n cL) (.slice AO n cO)
  have HB1 := Lib.hid hb
  have HZ := Lib.hid hz
  have HOP := Lib.hid (fun wx hb => ropen_map (W := W) (H := H) (s := s) (AN := AN) (AL := AL) (AO := AO) (cN := cN) (cL := cL) (cO := cO) c wx (h.later hb) h256)
  clear h hb hz
  go_enter Tryz.func79, Tryz.ntmps79
  go_wp2_with fail
  refine (HOP.out _ HB1.out).mono ?_
  rintro e w2 ⟨b, rfl, hb, hb2⟩
  obtain rfl : b = false := by
    cases b with
    | false => rfl
    | true => exact absurd HZ.out (hb.1 rfl)
  have HB2 := Lib.hid (HB1.out.trans (hb2.mono HB1.out.size))
  clear hb hb2
  go_wp2_with fail
  go_ret
  exact ⟨rfl, HB2.out⟩
theorem rmdist_none (c : Int) (A : Option Addr) (m cap : Nat) (w : World) :
    Calls Tryz.prog 79 #[.agg #[.slice none 0 0, .slice none 0 0, .slice none 0 0], .int .i64 c, .slice A m cap] w fun e w' => e = .returned (.slice none 0 0) ∧ Below w.heap.size w w' := by
  obtain ⟨b0, b1, b2, hb⟩ := map_box w (.slice none 0 0) (.slice none 0 0) (.slice none 0 0)
  have HB1 := Lib.hid hb
  clear hb
  go_enter Tryz.func79, Tryz.ntmps79
  go_wp2_with fail
  refine (ropen_none c _).mono ?_
  rintro e w2 ⟨rfl, hb2⟩
  have HB2 := Lib.hid (HB1.out.trans (hb2.mono HB1.out.size))
  clear hb2
  go_wp2_with fail
  go_ret
  exact ⟨rfl, HB2.out⟩
end Go.Proofs.YtokjnmgbgflgnaaGreatDoor
