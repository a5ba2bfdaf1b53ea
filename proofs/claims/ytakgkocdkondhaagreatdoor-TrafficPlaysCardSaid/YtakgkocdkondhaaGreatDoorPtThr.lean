/-
  Layer 5: Is.
  Layer 5: the document's Is.
  Layer 5: the document's Dist.
  Layer 5: the document's far, Find.
  PathFinds: the walk.
-/
import Derived.Test.YtakgkocdkondhaaGreatDoorPtTwo
import Derived.Deep.RegionHeld3
import Derived.BigQuiet
import Derived.Test.YtakgkocdkondhaaGreatDoorPtSet
import Derived.Test.YtakgkocdkondhaaGreatDoorPtRa
import Derived.Test.YtakgkocdkondhaaGreatDoorPtFind
set_option linter.unusedVariables false
set_option maxRecDepth 100000
section
namespace Go.Proofs.YtakgkocdkondhaaGreatDoor
open Go.RowKit Fl Pt

/-- Where one is behind so many cells. -/
def atI (a : Nat) (f : Nat → Int) (m : Nat) : Nat := ((il f m).getLast?.map Int.toNat).getD a
def IsWay (W H : Int) (s : ByteArray) (a : Int) (B : Nat → Bool) (p : List Int) : Prop := OnFloor W H s a ∧ chI (nx5 W.toNat H.toNat (at_ s) a.toNat B) a.toNat p = true

end Go.Proofs.YtakgkocdkondhaaGreatDoor
end

section
namespace Go.Proofs.YtakgkocdkondhaaGreatDoor
open Go.RowKit Fl Pt

/-- A map lies boxed in a block. -/
structure MX (M : Nat) (AN AL AO : Option Addr) (n cN cL cO : Nat) (w : World) : Prop where
  c0 : w.cell? ⟨M, 0, none⟩ = some (.slice AN n cN)
  c1 : w.cell? ⟨M, 1, none⟩ = some (.slice AL n cL)
  c2 : w.cell? ⟨M, 2, none⟩ = some (.slice AO n cO)
  lt : M < w.heap.size
theorem MX.later {M : Nat} {AN AL AO : Option Addr} {n cN cL cO : Nat} {w w' : World} (h : MX M AN AL AO n cN cL cO w) (hb : Below w.heap.size w w') : MX M AN AL AO n cN cL cO w' :=
  ⟨(hb.cell (p := ⟨M, 0, none⟩) h.lt).trans h.c0, (hb.cell (p := ⟨M, 1, none⟩) h.lt).trans h.c1, (hb.cell (p := ⟨M, 2, none⟩) h.lt).trans h.c2, Nat.lt_of_lt_of_le h.lt hb.size⟩
end Go.Proofs.YtakgkocdkondhaaGreatDoor
end

section
namespace Go.Proofs.YtakgkocdkondhaaGreatDoor
open Go.RowKit Fl Pt

/-- What is held while the document's Dist goes on. -/
structure DS (w : World) (AN AL AO : Option Addr) (n cN cL cO D : Nat) (f : Nat → Value) (wr : World) : Prop where
  d : Cells D n f wr
  dl : w.heap.size + 1 ≤ D
  mx : MX w.heap.size AN AL AO n cN cL cO wr
  below : Below w.heap.size w wr
theorem DS.later {w : World} {AN AL AO : Option Addr} {n cN cL cO D : Nat} {f : Nat → Value} {wr wx : World} (h : DS w AN AL AO n cN cL cO D f wr) (hb : Below wr.heap.size wr wx) : DS w AN AL AO n cN cL cO D f wx :=
  ⟨h.d.later hb, h.dl, h.mx.later hb, h.below.trans (hb.mono h.below.size)⟩
theorem MX.below1 {M : Nat} {AN AL AO : Option Addr} {n cN cL cO : Nat} {w w' : World} (h : MX M AN AL AO n cN cL cO w) (hb : Below (M + 1) w w') : MX M AN AL AO n cN cL cO w' :=
  ⟨(hb.cell (p := ⟨M, 0, none⟩) (Nat.lt_succ_self _)).trans h.c0, (hb.cell (p := ⟨M, 1, none⟩) (Nat.lt_succ_self _)).trans h.c1, (hb.cell (p := ⟨M, 2, none⟩) (Nat.lt_succ_self _)).trans h.c2, Nat.lt_of_lt_of_le h.lt hb.size⟩
theorem DS.put {w : World} {AN AL AO : Option Addr} {n cN cL cO D : Nat} {f g : Nat → Value} {wr : World} (h : DS w AN AL AO n cN cL cO D f wr) (y : Nat) (v : Value) (hy : y < n) (hg : ∀ x, x < n → g x = if x = y then v else f x) : DS w AN AL AO n cN cL cO D g (wr.setCell ⟨D, y, none⟩ v) :=
  ⟨h.d.put y v hy hg, h.dl, h.mx.below1 ((Below.refl _ wr).setCell h.dl v), h.below.setCell (Nat.le_trans (Nat.le_succ _) h.dl) v⟩
theorem DS.congr {w : World} {AN AL AO : Option Addr} {n cN cL cO D : Nat} {f g : Nat → Value} {wr : World} (h : DS w AN AL AO n cN cL cO D f wr) (e : ∀ x, x < n → f x = g x) : DS w AN AL AO n cN cL cO D g wr :=
  ⟨h.d.congr e, h.dl, h.mx, h.below⟩
theorem DS.set {w : World} {AN AL AO : Option Addr} {n cN cL cO D : Nat} {F : List Int} {wr : World} (h : DS w AN AL AO n cN cL cO D (ci F) wr) (hl : F.length = n) (y : Nat) (hy : y < n) (x : Int) : DS w AN AL AO n cN cL cO D (ci (F.set y x)) (wr.setCell ⟨D, y, none⟩ (.int .i64 x)) :=
  ⟨h.d.seti y x hy hl, h.dl, h.mx.below1 ((Below.refl _ wr).setCell h.dl _), h.below.setCell (Nat.le_trans (Nat.le_succ _) h.dl) _⟩
/-- A cell that was reached is no wall. -/
theorem reached_open {W H a c n : Nat} {z : Nat → Nat} {B : Nat → Bool} (haw : z a ≠ 35) (h : Wk (nx5 W H z a B) a n c) : z c ≠ 35 := by
  rcases h.inv with ⟨_, e⟩ | ⟨m, b, _, _, hb⟩
  · rw [e]; exact haw
  · exact (mem_nr.1 (mem_nx5.1 hb).2.1).2
/-- How far each cell is is told, in memory of the call's own. -/
def FarTold (W H a : Nat) (s : ByteArray) (B : Nat → Bool) (w : World) (e : Ending) (w' : World) : Prop :=
  ∃ D, ∃ F : List Int, e = .returned (.slice (some ⟨D, 0, none⟩) s.size s.size) ∧ F.length = s.size ∧ Cells D s.size (ci F) w' ∧ w.heap.size ≤ D ∧ Below w.heap.size w w' ∧ Hid (∀ x, x < s.size → IsD (nx5 W H (at_ s) a B) a x (F.getD x 0))

set_option maxHeartbeats 4000000 in
theorem rmdist_any {W H : Nat} {s : ByteArray} {AN AL AO : Option Addr} {n cN cL cO : Nat} (a : Nat) (A : Option Addr) (m cap : Nat) (f : Nat → Int) (w : World) (h : MapAt w W H s AN AL AO n cN cL cO) (hS : Sides W H s) (ha : a < s.size) (hz : at_ s a ≠ 35) (hf : Il w.heap.size w A m cap f) :
    Calls Tryz.prog 146 #[.agg #[.slice AN n cN, .slice AL n cL, .slice AO n cO], .int .i64 (a : Int), .slice A m cap] w (FarTold W H a s (mk f m) w) := by
  obtain rfl := h.sz
  have h256 := hS.le
  obtain ⟨b0, b1, b2, hb⟩ := map_box w (.slice AN s.size cN) (.slice AL s.size cL) (.slice AO s.size cO)
  have HMP := Lib.hid h
  have HSD := Lib.hid hS
  have HZ := Lib.hid hz
  have HF := Lib.hid hf
  have HMX : Hid (MX w.heap.size AN AL AO s.size cN cL cO (w.alloc (.cells #[.slice AN s.size cN, .slice AL s.size cL, .slice AO s.size cO] 142))) := Lib.hid ⟨b0, b1, b2, by rw [alloc_size]; exact Nat.lt_succ_self _⟩
  have HB1 := Lib.hid hb
  have HOP := Lib.hid (fun wx hb => ropen_map (W := W) (H := H) (s := s) (AN := AN) (AL := AL) (AO := AO) (cN := cN) (cL := cL) (cO := cO) (a : Int) wx (h.later hb) h256)
  have hcap := h.caps.2.2
  have hcap2 := hcap.2
  unfold maxLen at hcap2
  obtain ⟨i0, hi, hz0, hz1, hz2⟩ := info_parts Tryz.infoInt
  clear h hS hz hf hb b0 b1 b2
  have c0 := HMX.out.c0
  have c1 := HMX.out.c1
  have c2 := HMX.out.c2
  go_enter Tryz.func146, Tryz.ntmps146
  go_wp2_with fail
  refine (HOP.out _ HB1.out).mono ?_
  rintro e w2 ⟨b, rfl, hb, hb2⟩
  obtain rfl : b = true := hb.2 (by rw [bAt_in5 s a ha]; exact HZ.out)
  have HMX2 := Lib.hid (HMX.out.later hb2)
  have HB2 := Lib.hid (HB1.out.trans (hb2.mono HB1.out.size))
  have c0 := HMX2.out.c0
  have c1 := HMX2.out.c1
  have c2 := HMX2.out.c2
  have hlt2 := HMX2.out.lt
  clear hb hb2 HB1 HMX HOP
  go_wp2_with (at_make; go_must (refine wpList_make_full _ rfl _ _ 46 rfl w2.heap.size 3 i0 (.int .i64 0) 1 Tryz.underlying46 hi hz0 hz1 .i64 .i64 _ _ s.size rfl rfl rfl rfl (by rw [hz2]; omega) (by unfold maxLen; omega) (by simp) ?_); intro w3 ho3 hg3; have hA3 : Cells w2.heap.size s.size (fun _ => .int .i64 0) w3 := (by have h := Cells.made rfl ho3; simpa using h); have hB3 : Below w2.heap.size w2 w3 := (Below.grown (Below.refl _ _) hg3 (Nat.le_refl _) (fun k hk => by cases hk)); have HS3 : Hid (DS w AN AL AO s.size cN cL cO w2.heap.size (fun _ => .int .i64 0) w3) := Lib.hid ⟨hA3, hlt2, HMX2.out.later hB3, HB2.out.trans (hB3.mono HB2.out.size)⟩; clear ho3 hg3 hA3 hB3 c0 c1 c2)
  obtain ⟨D, hD⟩ : ∃ D, D = w2.heap.size := ⟨_, rfl⟩
  rw [← hD] at HS3 ⊢
  have hDw : w.heap.size + 1 ≤ D := by rw [hD]; exact hlt2
  clear hD hi hz0 hz1 hz2 hlt2 HMX2 HB2
  go_loopw [8] (fun iv wr => ∃ i : Nat, i ≤ s.size ∧ iv = .int .i64 (i : Int) ∧ DS w AN AL AO s.size cN cL cO D (fun x => .int .i64 (if x < i then -1 else 0)) wr) (fun iv _ => s.size - (intOf iv).toNat)
  case atStart => exact ⟨0, Nat.zero_le _, rfl, HS3.out.congr (fun x _ => rfl)⟩
  case round =>
    rename World => wr
    obtain ⟨i, hi, rfl, hS⟩ := hrel
    have HS := Lib.hid hS
    by_cases hli : i < s.size
    · obtain ⟨k1, k2⟩ := hS.d.2 i hli
      clear hS
      have hiI : (i : Int) < (s.size : Int) := by omega
      go_wp2_with fail
      go_roundw
      case rel =>
        refine ⟨i + 1, by omega, by go_num, HS.out.put i _ hli (fun x hx => ?_)⟩
        by_cases e : x = i
        · subst e; rw [if_pos rfl, if_pos (by omega)]
        · rw [if_neg e]
          by_cases e2 : x < i
          · rw [if_pos e2, if_pos (by omega)]
          · rw [if_neg e2, if_neg (by omega)]
      case measure => simp [intOf]; omega
    · obtain rfl : i = s.size := by omega
      clear hS
      have HS4 : Hid (DS w AN AL AO s.size cN cL cO D (ci (List.replicate s.size (-1))) wr) := Lib.hid (HS.out.congr (fun x hx => by rw [if_pos hx, ci_rep s.size a (-1) x hx]))
      obtain ⟨k1, k2⟩ := HS4.out.d.2 a ha
      have HS5 := Lib.hid (HS4.out.set (by simp) a ha 0)
      have HRD := Lib.hid (Rd.start (nx5 W H (at_ s) a (mk f m)) s.size a ha)
      have haI : (a : Int) < (s.size : Int) := by omega
      clear HS HS3
      go_wp2_with fail
      clear k1 k2
      generalize wr.setCell ⟨D, a, none⟩ (.int .i64 0) = w5 at *
      go_loopw [9] (fun nv wr => ∃ (q : Nat) (F : List Int), q ≤ s.size ∧ nv = .int .i64 (q : Int) ∧ Hid (Rd (nx5 W H (at_ s) a (mk f m)) s.size a q 0 0 F) ∧ DS w AN AL AO s.size cN cL cO D (ci F) wr) (fun nv _ => s.size - (intOf nv).toNat)
      case atStart => exact ⟨0, _, Nat.zero_le _, rfl, HRD, HS5.out⟩
      case round =>
        rename World => wb
        obtain ⟨q, F, hq, rfl, HR, hS⟩ := hrel
        have HS := Lib.hid hS
        clear hS HS5 HRD HS4
        by_cases hlq : q < s.size
        · have hqI : (q : Int) < (s.size : Int) := by omega
          go_wp2_with fail
          go_loopw [10] (fun iv wr => ∃ (i : Nat) (F : List Int), i ≤ s.size ∧ iv = .int .i64 (i : Int) ∧ Hid (Rd (nx5 W H (at_ s) a (mk f m)) s.size a q i 0 F) ∧ DS w AN AL AO s.size cN cL cO D (ci F) wr) (fun iv _ => s.size - (intOf iv).toNat)
          case atStart => exact ⟨0, F, Nat.zero_le _, rfl, HR, HS.out⟩
          case round =>
            rename World => wc
            obtain ⟨i, F, hi, rfl, HR, hS⟩ := hrel
            have HS := Lib.hid hS
            clear hS
            by_cases hli : i < s.size
            · have hiI : (i : Int) < (s.size : Int) := by omega
              have k1 : wc.cell? ⟨D, i, none⟩ = some (.int .i64 (F.getD i 0)) := (HS.out.d.2 i hli).1
              by_cases hx : F.getD i 0 = (q : Int)
              · rw [hx] at k1
                have HX := Lib.hid hx
                have HOI : Hid (at_ s i ≠ 35) := Lib.hid (by
                  obtain ⟨m', e1, e2, _⟩ := HR.out.low i hli (by rw [hx]; omega)
                  exact reached_open HZ.out e2.1)
                have c0 := HS.out.mx.c0
                have c1 := HS.out.mx.c1
                have c2 := HS.out.mx.c2
                clear hx
                go_wp2_with fail
                refine (rsteps_any i a A m cap f _ (HMP.out.later HS.out.below) h256 hli ha HOI.out (args_il HF.out HS.out.below)).mono ?_
                rintro e w6 ⟨A6, n6, k6, rfl, hn6, ho6, hb6⟩
                have HS6 := Lib.hid (HS.out.later hb6)
                have hDl : D < wc.heap.size := HS.out.d.1
                have HO6 := Lib.hid ho6
                have HN6 := Lib.hid hn6
                have h4 : n6 ≤ 4 := by rw [hn6]; exact nx5_len _ _ _ _ _ _
                have hcap6 := ho6.cap hn6
                have hc6a := hcap6.1
                have hc6b := hcap6.2
                unfold maxLen at hc6b
                clear hn6 ho6 hb6 hcap6 k1 c0 c1 c2
                go_wp2_with fail
                go_loopw [12] (fun kv wr => ∃ (k : Nat) (F : List Int), k ≤ n6 ∧ kv = .int .i64 (k : Int) ∧ Hid (Rd (nx5 W H (at_ s) a (mk f m)) s.size a q i k F ∧ F.getD i 0 = (q : Int)) ∧ DS w AN AL AO s.size cN cL cO D (ci F) wr ∧ Own wr wc.heap.size (.slice A6 n6 k6) (nx5 W H (at_ s) a (mk f m) i)) (fun kv _ => n6 - (intOf kv).toNat)
                case atStart => exact ⟨0, F, Nat.zero_le _, rfl, Lib.hid ⟨HR.out, HX.out⟩, HS6.out, HO6.out⟩
                case round =>
                  rename World => wd
                  obtain ⟨k, F, hk, rfl, HR, hS, ho⟩ := hrel
                  have HS := Lib.hid hS
                  have HO := Lib.hid ho
                  clear hS HS6 HO6
                  by_cases hlk : k < n6
                  · obtain ⟨g, rfl, hg, hcg⟩ := ho.at k (by rw [← HN6.out]; exact hlk)
                    obtain ⟨y, hy⟩ : ∃ y, y = (nx5 W H (at_ s) a (mk f m) i).getD k 0 := ⟨_, rfl⟩
                    rw [← hy] at hcg
                    have hlkx : k < (nx5 W H (at_ s) a (mk f m) i).length := by rw [← HN6.out]; exact hlk
                    have HYM : Hid (y ∈ nx5 W H (at_ s) a (mk f m) i) := Lib.hid (by rw [hy, List.getD_eq_getElem?_getD, List.getElem?_eq_getElem hlkx]; exact List.getElem_mem _)
                    have hys : y < s.size := by
                      have := nx5_lt (W := W) (H := H) (a := a) (z := at_ s) (B := mk f m) HSD.out.w1 i y (by rw [← HSD.out.sz]; exact hli) HYM.out
                      rw [HSD.out.sz]; exact this
                    have hyI : (y : Int) < (s.size : Int) := by omega
                    have hkI : (k : Int) < (n6 : Int) := by omega
                    have HY := Lib.hid hy
                    have k1 : wd.cell? ⟨D, y, none⟩ = some (.int .i64 (F.getD y 0)) := (HS.out.d.2 y hys).1
                    have k2 := (HS.out.d.2 y hys).2
                    obtain ⟨u, hu⟩ : ∃ u, u = F.getD y 0 := ⟨_, rfl⟩
                    rw [← hu] at k1
                    have HU := Lib.hid hu
                    have hwr : IntKind.i64.wrap ((q : Int) + 1) = (q : Int) + 1 := IntWalk.i64_in _ (by omega)
                    clear hy hu ho
                    by_cases hu0 : u < 0
                    · have du : decide (u < 0) = true := decide_eq_true hu0
                      have HNW : Hid (Rd (nx5 W H (at_ s) a (mk f m)) s.size a q i (k + 1) (F.set y ((q : Int) + 1)) ∧ (F.set y ((q : Int) + 1)).getD i 0 = (q : Int)) := Lib.hid (by
                        have hm1 : F.getD y 0 = -1 := by rw [HU.out] at hu0; exact (HR.out.1.sign hys).1 hu0
                        have hne : y ≠ i := fun e => by have := HR.out.2; rw [← e, hm1] at this; omega
                        have h1 := HR.out.1.new hli HR.out.2 hlkx (by rw [← HY.out]; exact hys) (by rw [← HY.out]; exact hm1)
                        rw [← HY.out] at h1
                        exact ⟨h1, by rw [Go.Proofs.YtakgkocdkondhaaGreatDoor.Pt.getD_set_ne hne]; exact HR.out.2⟩)
                      have HS7 := Lib.hid (HS.out.set HR.out.1.len y hys ((q : Int) + 1))
                      have HO7 : Hid (Own (wd.setCell ⟨D, y, none⟩ (.int .i64 ((q : Int) + 1))) wc.heap.size (.slice (some ⟨g, 0, none⟩) n6 k6) (nx5 W H (at_ s) a (mk f m) i)) := Lib.hid (ownsRow_same HO.out (fun k hk => Below.heap_setCell _ _ _ _ (by have := (World.ownsRow.lt HO.out k hk).1; show k ≠ D; omega)))
                      go_wp2_with fail
                      go_roundw
                      case rel => exact ⟨k + 1, _, by omega, by go_num, HNW, HS7.out, HO7.out⟩
                      case measure => simp [intOf]; omega
                    · have du : decide (u < 0) = false := decide_eq_false hu0
                      have HNW : Hid (Rd (nx5 W H (at_ s) a (mk f m)) s.size a q i (k + 1) F ∧ F.getD i 0 = (q : Int)) := Lib.hid ⟨HR.out.1.old hlkx (by rw [← HY.out, ← HU.out]; omega), HR.out.2⟩
                      clear k2
                      go_wp2_with fail
                      go_roundw
                      case rel => exact ⟨k + 1, F, by omega, by go_num, HNW, HS.out, HO.out⟩
                      case measure => simp [intOf]; omega
                  · obtain rfl : k = n6 := by omega
                    have HNX : Hid (Rd (nx5 W H (at_ s) a (mk f m)) s.size a q (i + 1) 0 F) := Lib.hid (HR.out.1.next (by rw [← HN6.out]; exact Nat.le_refl _))
                    clear ho
                    go_wp2_with fail
                    go_roundw
                    case rel => exact ⟨i + 1, F, by omega, by go_num, HNX, HS.out⟩
                    case measure => simp [intOf]; omega
              · have HNX : Hid (Rd (nx5 W H (at_ s) a (mk f m)) s.size a q (i + 1) 0 F) := Lib.hid (HR.out.past hx)
                generalize F.getD i 0 = x at k1 hx
                have dx : (x != (q : Int)) = true := by rw [bne_iff_ne]; exact hx
                clear hx
                go_wp2_with fail
                go_roundw
                case rel => exact ⟨i + 1, F, by omega, by go_num, HNX, HS.out⟩
                case measure => simp [intOf]; omega
            · obtain rfl : i = s.size := by omega
              have HNX : Hid (Rd (nx5 W H (at_ s) a (mk f m)) s.size a (q + 1) 0 0 F) := Lib.hid (HR.out.round (Nat.le_refl _) ha (fun x y hx hy => by rw [HSD.out.sz] at hx ⊢; exact nx5_lt HSD.out.w1 x y hx hy))
              go_wp2_with fail
              go_roundw
              case rel => exact ⟨q + 1, F, by omega, by go_num, HNX, HS.out⟩
              case measure => simp [intOf]; omega
        · obtain rfl : q = s.size := by omega
          go_wp2_with fail
          go_ret
          exact ⟨D, F, rfl, HR.out.len, HS.out.d, by omega, HS.out.below, Lib.hid (fun x hx => HR.out.isD (Nat.le_refl _) ha (fun x y hx hy => by rw [HSD.out.sz] at hx ⊢; exact nx5_lt HSD.out.w1 x y hx hy) x hx)⟩
end Go.Proofs.YtakgkocdkondhaaGreatDoor
end

section
namespace Go.Proofs.YtakgkocdkondhaaGreatDoor
open Go.RowKit Fl Pt

theorem isD_some (nx : Nat → List Nat) (a c : Nat) : ∃ x, IsD nx a c x := by
  by_cases h : ∃ n, Wk nx a n c
  · obtain ⟨n, hn⟩ := h
    obtain ⟨m, _, hm⟩ := lv_of n hn
    exact ⟨m, .inr ⟨m, rfl, hm⟩⟩
  · exact ⟨-1, .inl ⟨rfl, fun n hn => h ⟨n, hn⟩⟩⟩
def FarIs (W H : Nat) (z : Nat → Nat) (a c t : Nat) (B : Nat → Bool) (x : Int) : Prop := IsFar (nx5 W H z a B) (nx5 W H z c B) c t (outB z a c = true) x
theorem farIs_some (W H : Nat) (z : Nat → Nat) (a c t : Nat) (B : Nat → Bool) : ∃ x, FarIs W H z a c t B x := by
  by_cases h : c = t
  · exact ⟨0, .inl ⟨h, rfl⟩⟩
  · by_cases ho : outB z a c = true
    · obtain ⟨x, hx⟩ := isD_some (nx5 W H z c B) c t
      exact ⟨x, .inr (.inr ⟨h, ho, hx⟩)⟩
    · exact ⟨-1, .inr (.inl ⟨h, ho, nx5_no (by cases e : outB z a c; rfl; exact absurd e ho), rfl⟩)⟩
set_option maxHeartbeats 4000000 in
theorem rfar_any {W H : Nat} {s : ByteArray} {AN AL AO : Option Addr} {n cN cL cO : Nat} (c a t : Nat) (A : Option Addr) (m cap : Nat) (f : Nat → Int) (w : World) (h : MapAt w W H s AN AL AO n cN cL cO) (hS : Sides W H s) (hc : c < s.size) (ht : t < s.size) (hz : at_ s c ≠ 35) (hf : Il w.heap.size w A m cap f) (x : Int) (hx : FarIs W H (at_ s) a c t (mk f m) x) :
    Calls Tryz.prog 124 #[.agg #[.slice AN n cN, .slice AL n cL, .slice AO n cO], .int .i64 (c : Int), .int .i64 (a : Int), .int .i64 (t : Int), .slice A m cap] w fun e w' => e = .returned (.int .i64 x) ∧ Below w.heap.size w w' := by
  obtain rfl := h.sz
  have h256 := hS.le
  obtain ⟨b0, b1, b2, hb⟩ := map_box w (.slice AN s.size cN) (.slice AL s.size cL) (.slice AO s.size cO)
  obtain ⟨gL, rfl, hgL, hcL⟩ := h.lane
  have rL := (hb.cell (p := ⟨gL, c, none⟩) hgL).trans (hcL c hc)
  have HMP := Lib.hid (h.later hb)
  have HB1 := Lib.hid hb
  have HX := Lib.hid hx
  have HD := Lib.hid (fun wx hm hi => rmdist_any (W := W) (H := H) (s := s) (AN := AN) (AL := some ⟨gL, 0, none⟩) (AO := AO) (n := s.size) (cN := cN) (cL := cL) (cO := cO) c A m cap f wx hm hS hc hz hi)
  have HF := Lib.hid (args_il hf hb)
  have hcap := h.caps.2.1
  have hcap2 := hcap.2
  unfold maxLen at hcap2
  have hcI : (c : Int) < (s.size : Int) := by omega
  have htI : (t : Int) < (s.size : Int) := by omega
  clear h hb hcL hf hx
  by_cases hct : c = t
  · subst hct
    obtain rfl : x = 0 := by
      rcases HX.out with ⟨_, h2⟩ | ⟨h1, _⟩ | ⟨h1, _⟩
      · exact h2
      · exact absurd rfl h1
      · exact absurd rfl h1
    go_enter Tryz.func124, Tryz.ntmps124
    go_wp2_with fail
    go_ret
    exact ⟨rfl, HB1.out⟩
  · have dct : ((c : Int) == (t : Int)) = false := by rw [beq_eq_false_iff_ne]; omega
    by_cases hca : c = a
    · subst hca
      have HXD : Hid (IsD (nx5 W H (at_ s) c (mk f m)) c t x) := Lib.hid (by
        rcases HX.out with ⟨h1, _⟩ | ⟨_, h2, _⟩ | ⟨_, _, h3⟩
        · exact absurd h1 hct
        · exact absurd (outB_iff.2 (.inl rfl)) h2
        · exact h3)
      go_enter Tryz.func124, Tryz.ntmps124
      go_wp2_with fail
      refine (HD.out _ HMP.out HF.out).mono ?_
      rintro e w2 ⟨D, F, rfl, hl, hd, _, hb2, HI⟩
      have k1 : w2.cell? ⟨D, t, none⟩ = some (.int .i64 (F.getD t 0)) := (hd.2 t ht).1
      rw [(HI.out t ht).uniq HXD.out] at k1
      have HB2 := Lib.hid (HB1.out.trans (hb2.mono HB1.out.size))
      clear hl hd hb2
      go_wp2_with fail
      go_ret
      exact ⟨rfl, HB2.out⟩
    · have dca : ((c : Int) == (a : Int)) = false := by rw [beq_eq_false_iff_ne]; omega
      cases hl : isL (at_ s c) with
      | true =>
        rw [hl] at rL
        have HXD : Hid (IsD (nx5 W H (at_ s) c (mk f m)) c t x) := Lib.hid (by
          rcases HX.out with ⟨h1, _⟩ | ⟨_, h2, _⟩ | ⟨_, _, h3⟩
          · exact absurd h1 hct
          · exact absurd (outB_iff.2 (.inr hl)) h2
          · exact h3)
        clear hl
        go_enter Tryz.func124, Tryz.ntmps124
        go_wp2_with fail
        refine (HD.out _ HMP.out HF.out).mono ?_
        rintro e w2 ⟨D, F, rfl, hl, hd, _, hb2, HI⟩
        have k1 : w2.cell? ⟨D, t, none⟩ = some (.int .i64 (F.getD t 0)) := (hd.2 t ht).1
        rw [(HI.out t ht).uniq HXD.out] at k1
        have HB2 := Lib.hid (HB1.out.trans (hb2.mono HB1.out.size))
        clear hl hd hb2
        go_wp2_with fail
        go_ret
        exact ⟨rfl, HB2.out⟩
      | false =>
        rw [hl] at rL
        obtain rfl : x = -1 := by
          rcases HX.out with ⟨h1, _⟩ | ⟨_, _, _, h3⟩ | ⟨_, h2, _⟩
          · exact absurd h1 hct
          · exact h3
          · rcases outB_iff.1 h2 with e | e
            · exact absurd e hca
            · rw [hl] at e; cases e
        clear hl
        go_enter Tryz.func124, Tryz.ntmps124
        go_wp2_with fail
        go_ret
        exact ⟨rfl, HB1.out⟩
theorem way_len {nx : Nat → List Nat} {a t q c i : Nat} {P : List Nat} (h : Go.Proofs.YtakgkocdkondhaaGreatDoor.Pt.Go nx a t 0 P c i) (hq : Lv nx a q t) (hl : P.length = i) : P.length = q := by
  have h1 := h.there
  rw [Nat.add_zero] at h1
  rw [hl]
  exact h1.uniq hq
/-- The way is told, as layer 5 tells it. -/
def MWay (W H a t : Nat) (s : ByteArray) (B : Nat → Bool) (w : World) (e : Ending) (w' : World) : Prop :=
  ∃ A n cap P er, e = .returned (.tuple #[.slice A n cap, .int .i64 er]) ∧ n = P.length ∧ P.length ≤ 256 ∧ Own w' w.heap.size (.slice A n cap) P ∧ Below w.heap.size w w' ∧
    ((er = 0 ∧ Gr (nx5 W H (at_ s) a B) t a P ∧ Lv (nx5 W H (at_ s) a B) a P.length t) ∨ (er = 2 ∧ P = [] ∧ ∀ m, ¬ Wk (nx5 W H (at_ s) a B) a m t))
set_option maxHeartbeats 4000000 in
theorem rmfind_any {W H : Nat} {s : ByteArray} {AN AL AO : Option Addr} {n cN cL cO : Nat} (a t : Nat) (A : Option Addr) (m cap : Nat) (f : Nat → Int) (w : World) (h : MapAt w W H s AN AL AO n cN cL cO) (hS : Sides W H s) (ha : a < s.size) (ht : t < s.size) (hz : at_ s a ≠ 35) (hzt : at_ s t ≠ 35) (hf : Il w.heap.size w A m cap f) :
    Calls Tryz.prog 97 #[.agg #[.slice AN n cN, .slice AL n cL, .slice AO n cO], .int .i64 (a : Int), .int .i64 (t : Int), .slice A m cap] w (MWay W H a t s (mk f m) w) := by
  obtain rfl := h.sz
  have h256 := hS.le
  obtain ⟨b0, b1, b2, hb⟩ := map_box w (.slice AN s.size cN) (.slice AL s.size cL) (.slice AO s.size cO)
  have HMP := Lib.hid h
  have HSD := Lib.hid hS
  have HZ := Lib.hid hz
  have HZT := Lib.hid hzt
  have HF := Lib.hid hf
  have HMX : Hid (MX w.heap.size AN AL AO s.size cN cL cO (w.alloc (.cells #[.slice AN s.size cN, .slice AL s.size cL, .slice AO s.size cO] 142))) := Lib.hid ⟨b0, b1, b2, by rw [alloc_size]; exact Nat.lt_succ_self _⟩
  have HB1 := Lib.hid hb
  have HOP := Lib.hid (fun (c : Int) wx hb => ropen_map (W := W) (H := H) (s := s) (AN := AN) (AL := AL) (AO := AO) (cN := cN) (cL := cL) (cO := cO) c wx (h.later hb) h256)
  obtain ⟨x0, hx0⟩ := farIs_some W H (at_ s) a a t (mk f m)
  have HX0 := Lib.hid hx0
  have HFA := Lib.hid (fun (c : Nat) (x : Int) wx hb hc hzc hi hx => rfar_any (W := W) (H := H) (s := s) (AN := AN) (AL := AL) (AO := AO) (n := s.size) (cN := cN) (cL := cL) (cO := cO) c a t A m cap f wx (h.later hb) hS hc ht hzc hi x hx)
  have HST := Lib.hid (fun (c : Nat) wx hb hc hzc hi => rsteps_any (W := W) (H := H) (s := s) (AN := AN) (AL := AL) (AO := AO) (n := s.size) (cN := cN) (cL := cL) (cO := cO) c a A m cap f wx (h.later hb) h256 hc ha hzc hi)
  clear h hS hz hzt hf hb b0 b1 b2 hx0
  have c0 := HMX.out.c0
  have c1 := HMX.out.c1
  have c2 := HMX.out.c2
  go_enter Tryz.func97, Tryz.ntmps97
  go_wp2_with fail
  refine (HOP.out _ _ HB1.out).mono ?_
  rintro e w2 ⟨b, rfl, hb, hb2⟩
  obtain rfl : b = true := hb.2 (by rw [bAt_in5 s a ha]; exact HZ.out)
  have HMX2 := Lib.hid (HMX.out.later hb2)
  have HB2 := Lib.hid (HB1.out.trans (hb2.mono HB1.out.size))
  clear hb hb2 HB1 HMX c0 c1 c2
  have c0 := HMX2.out.c0
  have c1 := HMX2.out.c1
  have c2 := HMX2.out.c2
  go_wp2_with fail
  refine (HOP.out _ _ HB2.out).mono ?_
  rintro e w3 ⟨b, rfl, hb, hb3⟩
  obtain rfl : b = true := hb.2 (by rw [bAt_in5 s t ht]; exact HZT.out)
  have HMX3 := Lib.hid (HMX2.out.later hb3)
  have HB3 := Lib.hid (HB2.out.trans (hb3.mono HB2.out.size))
  clear hb hb3 HB2 HMX2 c0 c1 c2
  have c0 := HMX3.out.c0
  have c1 := HMX3.out.c1
  have c2 := HMX3.out.c2
  go_wp2_with fail
  refine (HFA.out a x0 _ HB3.out ha HZ.out (args_il HF.out HB3.out) HX0.out).mono ?_
  rintro e w4 ⟨rfl, hb4⟩
  have HMX4 := Lib.hid (HMX3.out.later hb4)
  have HB4 := Lib.hid (HB3.out.trans (hb4.mono HB3.out.size))
  clear hb4 HB3 HMX3 c0 c1 c2 HOP
  have hxx : (x0 = -1 ∧ ∀ k, ¬ Wk (nx5 W H (at_ s) a (mk f m)) a k t) ∨ ∃ q : Nat, x0 = (q : Int) ∧ Lv (nx5 W H (at_ s) a (mk f m)) a q t := by
    rcases HX0.out with ⟨h1, h2⟩ | ⟨h1, h2, _⟩ | ⟨h1, h2, h3⟩
    · subst h1; exact .inr ⟨0, h2, Lv.zero _ _⟩
    · exact absurd (outB_iff.2 (.inl rfl)) h2
    · exact h3
  rcases hxx with ⟨rfl, hno⟩ | ⟨q, rfl, hlv⟩
  · have HNO := Lib.hid hno
    clear hno
    go_wp2_with fail
    go_ret2
    exact ⟨none, 0, 0, [], 2, rfl, rfl, Nat.zero_le _, Own.nil _ _, HB4.out, .inr ⟨rfl, rfl, HNO.out⟩⟩
  · have HGO := Lib.hid (Go.Proofs.YtakgkocdkondhaaGreatDoor.Pt.Go.start hlv)
    have hq : q ≤ 256 := by
      have := lv_lt (N := s.size) ha (fun x y hx hy => by rw [HSD.out.sz] at hx ⊢; exact nx5_lt HSD.out.w1 x y hx hy) hlv
      omega
    have dq : decide ((q : Int) < 0) = false := decide_eq_false (by omega)
    have HQ := Lib.hid hlv
    clear hlv
    go_wp2_with fail
    go_loopw [10, 11, 12] (fun nv ov av wr => ∃ (r c : Nat) (P : List Nat) (A' : Option Addr) (m' c' i : Nat), nv = .int .i64 (r : Int) ∧ av = .int .i64 (c : Int) ∧ ov = .slice A' m' c' ∧ m' = P.length ∧ Hid (Go.Proofs.YtakgkocdkondhaaGreatDoor.Pt.Go (nx5 W H (at_ s) a (mk f m)) a t r P c i) ∧ Hid (i = P.length) ∧ c < s.size ∧ Hid (at_ s c ≠ 35) ∧ P.length + r ≤ 256 ∧ Own wr (w.heap.size + 1) (.slice A' m' c') P ∧ MX w.heap.size AN AL AO s.size cN cL cO wr ∧ Below w.heap.size w wr) (fun nv _ _ _ => (intOf nv).toNat)
    case atStart => exact ⟨q, a, [], none, 0, 0, 0, rfl, rfl, rfl, rfl, HGO, Lib.hid rfl, ha, HZ, by simpa using hq, Own.nil _ _, HMX4.out, HB4.out⟩
    case round =>
      rename World => wr
      obtain ⟨r, c, P, A', m', c', i, rfl, rfl, rfl, hm', HGO, HIP, hcs, HCZ, hle, ho, hmx, hb⟩ := hrel
      have HO := Lib.hid ho
      have HMXr := Lib.hid hmx
      have HBr := Lib.hid hb
      have HM' := Lib.hid hm'
      have hcapx := ho.cap hm'
      have hcx1 := hcapx.1
      have hcx2 := hcapx.2
      unfold maxLen at hcx2
      clear ho hmx hb hm' hcapx HMX4 HB4
      by_cases hr0 : 0 < r
      · obtain ⟨r', hrr⟩ : ∃ r', r = r' + 1 := ⟨r - 1, by omega⟩
        have HRR := Lib.hid hrr
        have hwr : IntKind.i64.wrap ((r : Int) - 1) = (r' : Int) := by rw [IntWalk.i64_in _ (by omega)]; omega
        have hr0I : (0 : Int) < (r : Int) := by omega
        have HSOME : Hid (∃ k, k < (nx5 W H (at_ s) a (mk f m) c).length ∧ Wk (nx5 W H (at_ s) a (mk f m)) ((nx5 W H (at_ s) a (mk f m) c).getD k 0) r' t) := Lib.hid (by
          have h1 := HGO.out
          rw [hrr] at h1
          exact h1.some)
        have c0 := HMXr.out.c0
        have c1 := HMXr.out.c1
        have c2 := HMXr.out.c2
        clear hrr
        go_wp2_with fail
        refine (HST.out c _ HBr.out hcs HCZ.out (args_il HF.out HBr.out)).mono ?_
        rintro e w6 ⟨A6, n6, k6, rfl, hn6, ho6, hb6⟩
        have HB6 := Lib.hid (HBr.out.trans (hb6.mono HBr.out.size))
        have HMX6 := Lib.hid (HMXr.out.later hb6)
        have HOP6 := Lib.hid (HO.out.later hb6)
        have HO6 := Lib.hid ho6
        have HN6 := Lib.hid hn6
        have h4 : n6 ≤ 4 := by rw [hn6]; exact nx5_len _ _ _ _ _ _
        have h1n : 1 ≤ n6 := by
          obtain ⟨k, hk, _⟩ := HSOME.out
          omega
        have hcap6 := ho6.cap hn6
        have hc6a := hcap6.1
        have hc6b := hcap6.2
        unfold maxLen at hc6b
        have hwn : IntKind.i64.wrap ((n6 : Int) - 1) = (n6 : Int) - 1 := IntWalk.i64_in _ (by omega)
        clear hn6 ho6 hb6 hcap6 c0 c1 c2
        go_wp2_with fail
        go_loopw [14] (fun kv wi => ∃ k : Nat, k < n6 ∧ kv = .int .i64 (k : Int) ∧ Hid (∀ j, j < k → ¬ Wk (nx5 W H (at_ s) a (mk f m)) ((nx5 W H (at_ s) a (mk f m) c).getD j 0) r' t) ∧ Below w6.heap.size w6 wi) (fun kv _ => n6 - (intOf kv).toNat)
        case atStart => exact ⟨0, by omega, rfl, Lib.hid (fun j hj => by omega), Below.refl _ _⟩
        case round =>
          rename World => wi
          obtain ⟨k, hkn, rfl, HBF, hbi⟩ := hrel
          have HBi := Lib.hid hbi
          have HBw := Lib.hid (HB6.out.trans (hbi.mono HB6.out.size))
          have HMXi := Lib.hid (HMX6.out.later hbi)
          obtain ⟨g, rfl, hg, hcg⟩ := (HO6.out.later hbi).at k (by rw [← HN6.out]; exact hkn)
          obtain ⟨y, hy⟩ : ∃ y, y = (nx5 W H (at_ s) a (mk f m) c).getD k 0 := ⟨_, rfl⟩
          rw [← hy] at hcg
          have HYM : Hid (y ∈ nx5 W H (at_ s) a (mk f m) c) := Lib.hid (by rw [hy, List.getD_eq_getElem?_getD, List.getElem?_eq_getElem (by rw [← HN6.out]; exact hkn)]; exact List.getElem_mem _)
          have hys : y < s.size := by
            have := nx5_lt (W := W) (H := H) (a := a) (z := at_ s) (B := mk f m) HSD.out.w1 c y (by rw [← HSD.out.sz]; exact hcs) HYM.out
            rw [HSD.out.sz]; exact this
          have HYZ : Hid (at_ s y ≠ 35) := Lib.hid (mem_nr.1 (mem_nx5.1 HYM.out).2.1).2
          have HY := Lib.hid hy
          have hkI : (k : Int) < (n6 : Int) := by omega
          obtain ⟨x, hx⟩ := farIs_some W H (at_ s) a y t (mk f m)
          have HX := Lib.hid hx
          have HXW : Hid (x = (r' : Int) ↔ Wk (nx5 W H (at_ s) a (mk f m)) y r' t) := Lib.hid (by
            have h1 := HGO.out
            rw [HRR.out] at h1
            have h3 := h1.there
            exact far_floor hx (by rwa [show i + 1 + r' = i + (r' + 1) by omega]) (.step h1.here HYM.out))
          have c0 := HMXi.out.c0
          have c1 := HMXi.out.c1
          have c2 := HMXi.out.c2
          have hMl := HMXi.out.lt
          clear hy hbi hx
          by_cases hk1 : (k : Int) < (n6 : Int) - 1
          · have dk : decide ((k : Int) < (n6 : Int) - 1) = true := decide_eq_true hk1
            by_cases hxr : x = (r' : Int)
            · have dx : (x != (r' : Int)) = false := by rw [bne_eq_false_iff_eq]; exact hxr
              have HWK := Lib.hid (HXW.out.1 hxr)
              clear hxr
              go_wp2_with fail
              go_region_held3 (fun w' => w'.cell? ⟨w.heap.size, 0, none⟩ = some (.slice AN s.size cN) ∧ w'.cell? ⟨w.heap.size, 1, none⟩ = some (.slice AL s.size cL) ∧ w'.cell? ⟨w.heap.size, 2, none⟩ = some (.slice AO s.size cO) ∧ w'.cell? ⟨g, k, none⟩ = some (.int .i64 (y : Int))) (go_keep)
                ((go_at_call 124; refine (HFA.out y x _ HBw.out.drew hys HYZ.out (args_il HF.out HBw.out.drew) HX.out).mono ?_; rintro e w8 ⟨rfl, hb8⟩; have HL8 : Hid (Below wi.heap.size wi w8) := Lib.hid ((Below.refl _ wi).drew.trans hb8); have HB8 := Lib.hid (HBw.out.trans (HL8.out.mono HBw.out.size)); have HMX8 := Lib.hid (HMXi.out.later HL8.out); have e0 := HMX8.out.c0; have e1 := HMX8.out.c1; have e2 := HMX8.out.c2; have e3 := (hb8.cell (p := ⟨g, k, none⟩) hg).trans hcg; clear hb8))
              have HSX := Lib.hid (HMX8.out.lt)
              have HOX := Lib.hid ((HOP6.out.later HBi.out).later HL8.out)
              have HBX := Lib.hid HB8.out
              have HMXX := Lib.hid HMX8.out
              have HNX : Hid (Go.Proofs.YtakgkocdkondhaaGreatDoor.Pt.Go (nx5 W H (at_ s) a (mk f m)) a t r' (P ++ [y]) y (i + 1)) := Lib.hid (by
                have h1 := HGO.out
                rw [HRR.out] at h1
                have h2 := h1.step (k := k) (by rw [← HN6.out]; exact hkn) (by rw [← HY.out]; exact HWK.out) HBF.out
                rw [← HY.out] at h2
                exact h2)
              go_wp2_with (at_builtin; refine app_int rfl _ _ rfl (w.heap.size + 1) (.slice A' m' c') P rfl y _ rfl _ rfl HOX.out rfl (by omega) HSX.out ?_; intro A8 c8 n8 w8 hn8 ho8 hb8 hg8; have HN8 := Lib.hid hn8; have HO8 := Lib.hid ho8; have HB8 := Lib.hid (HBX.out.trans (hb8.mono (Nat.le_succ _))); have HM8 := Lib.hid (HMXX.out.below1 hb8); clear hn8 ho8 hb8 hg8)
              go_roundw
              case rel => exact ⟨r', y, P ++ [y], A8, n8, c8, i + 1, rfl, rfl, rfl, HN8.out, HNX, Lib.hid (by rw [HIP.out]; simp), hys, HYZ, by rw [List.length_append]; have := HRR.out; simp; omega, HO8.out, HM8.out, HB8.out⟩
              case measure => have := HRR.out; simp [intOf]; omega
            · have dx : (x != (r' : Int)) = true := by rw [bne_iff_ne]; exact hxr
              have HNW : Hid (∀ j, j < k + 1 → ¬ Wk (nx5 W H (at_ s) a (mk f m)) ((nx5 W H (at_ s) a (mk f m) c).getD j 0) r' t) := Lib.hid (fun j hj hw => by
                by_cases e : j = k
                · subst e; rw [← HY.out] at hw; exact hxr (HXW.out.2 hw)
                · exact HBF.out j (by omega) hw)
              clear hxr
              go_wp2_with fail
              go_region_held3 (fun w' => w'.cell? ⟨w.heap.size, 0, none⟩ = some (.slice AN s.size cN) ∧ w'.cell? ⟨w.heap.size, 1, none⟩ = some (.slice AL s.size cL) ∧ w'.cell? ⟨w.heap.size, 2, none⟩ = some (.slice AO s.size cO) ∧ w'.cell? ⟨g, k, none⟩ = some (.int .i64 (y : Int))) (go_keep)
                ((go_at_call 124; refine (HFA.out y x _ HBw.out.drew hys HYZ.out (args_il HF.out HBw.out.drew) HX.out).mono ?_; rintro e w8 ⟨rfl, hb8⟩; have HL8 : Hid (Below wi.heap.size wi w8) := Lib.hid ((Below.refl _ wi).drew.trans hb8); have HB8 := Lib.hid (HBw.out.trans (HL8.out.mono HBw.out.size)); have HMX8 := Lib.hid (HMXi.out.later HL8.out); have e0 := HMX8.out.c0; have e1 := HMX8.out.c1; have e2 := HMX8.out.c2; have e3 := (hb8.cell (p := ⟨g, k, none⟩) hg).trans hcg; clear hb8))
              go_wp2_with fail
              go_roundw
              case rel => exact ⟨k + 1, by omega, by go_num, HNW, HBi.out.trans (HL8.out.mono HBi.out.size)⟩
              case measure => simp [intOf]; omega
          · have dk : decide ((k : Int) < (n6 : Int) - 1) = false := decide_eq_false hk1
            have HWK : Hid (Wk (nx5 W H (at_ s) a (mk f m)) y r' t) := Lib.hid (by
              obtain ⟨j, hj, hw⟩ := HSOME.out
              rw [← HN6.out] at hj
              by_cases e : j = k
              · subst e; rw [HY.out]; exact hw
              · exact absurd hw (HBF.out j (by omega)))
            have HSX : Hid (∀ q, w.heap.size + 1 ≤ (wi.drewN q).heap.size) := Lib.hid (fun q => HMXi.out.lt)
            have HOX : Hid (∀ q, Own (wi.drewN q) (w.heap.size + 1) (.slice A' m' c') P) := Lib.hid (fun q => (HOP6.out.later HBi.out).later (below_drewN _ _ _))
            have HBX : Hid (∀ q, Below w.heap.size w (wi.drewN q)) := Lib.hid (fun q => HBw.out.trans (below_drewN _ _ _))
            have HMXX : Hid (∀ q, MX w.heap.size AN AL AO s.size cN cL cO (wi.drewN q)) := Lib.hid (fun q => HMXi.out.later (below_drewN _ _ _))
            have hcgq : ∀ q, (wi.drewN q).cell? ⟨g, k, none⟩ = some (.int .i64 (y : Int)) := fun q => hcg
            go_wp2_with fail
            go_big_quiet (fail)
            have HNX : Hid (Go.Proofs.YtakgkocdkondhaaGreatDoor.Pt.Go (nx5 W H (at_ s) a (mk f m)) a t r' (P ++ [y]) y (i + 1)) := Lib.hid (by
              have h1 := HGO.out
              rw [HRR.out] at h1
              have h2 := h1.step (k := k) (by rw [← HN6.out]; exact hkn) (by rw [← HY.out]; exact HWK.out) HBF.out
              rw [← HY.out] at h2
              exact h2)
            go_wp2_with (at_builtin; refine app_int rfl _ _ rfl (w.heap.size + 1) (.slice A' m' c') P rfl y _ rfl _ rfl (HOX.out _) rfl (by omega) (HSX.out _) ?_; intro A8 c8 n8 w8 hn8 ho8 hb8 hg8; have HN8 := Lib.hid hn8; have HO8 := Lib.hid ho8; have HB8 := Lib.hid ((HBX.out _).trans (hb8.mono (Nat.le_succ _))); have HM8 := Lib.hid ((HMXX.out _).below1 hb8); clear hn8 ho8 hb8 hg8)
            go_roundw
            case rel => exact ⟨r', y, P ++ [y], A8, n8, c8, i + 1, rfl, rfl, rfl, HN8.out, HNX, Lib.hid (by rw [HIP.out]; simp), hys, HYZ, by rw [List.length_append]; have := HRR.out; simp; omega, HO8.out, HM8.out, HB8.out⟩
            case measure => have := HRR.out; simp [intOf]; omega
      · obtain rfl : r = 0 := by omega
        go_wp2_with fail
        go_ret2
        exact ⟨A', m', c', P, 0, rfl, HM'.out, by omega, HO.out.lower (Nat.le_succ _), HBr.out, .inl ⟨rfl, HGO.out.finish, by have := way_len HGO.out HQ.out HIP.out.symm; rw [this]; exact HQ.out⟩⟩
end Go.Proofs.YtakgkocdkondhaaGreatDoor
end

section
namespace Go.Proofs.YtakgkocdkondhaaGreatDoor
open Go.RowKit Fl Pt

def NoWay (w : World) (e : Ending) (w' : World) : Prop := e = .returned (.tuple #[.slice none 0 0, .int .i64 1]) ∧ Below w.heap.size w w'
end Go.Proofs.YtakgkocdkondhaaGreatDoor
end
