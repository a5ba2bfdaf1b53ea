/-
  Layer 5: reach, Dist.
-/
import Derived.Test.YtaioiobimenkfaaDoorPtSpread
set_option linter.unusedVariables false
set_option maxRecDepth 100000
namespace Go.Proofs.YtaioiobimenkfaaDoor
open Go.RowKit Fl Pt

def ReachTold5 (W H : Nat) (s : ByteArray) (a : Nat) (B : Nat → Bool) (w : World) (e : Ending) (w' : World) : Prop :=
  ∃ gf ga F A R j, e = .returned (.tuple #[.slice (some ⟨gf, 0, none⟩) s.size s.size, .slice (some ⟨ga, 0, none⟩) s.size s.size]) ∧ Cells gf s.size (ci F) w' ∧ Cells ga s.size (ci A) w' ∧ Bf (nx5 W H (at_ s) a B) s.size a R R.length j ∧ Far R s.size F ∧ Ahd R s.size A ∧ (w.heap.size ≤ gf ∧ w.heap.size ≤ ga) ∧ Below w.heap.size w w'
theorem foot0 {w : World} {W H : Nat} {s : ByteArray} {a : Nat} {B : Nat → Bool} {base gl gs gt hb : Nat} (hg : Gd w W H s a B base gl gs gt (fun _ => .slice none 0 0)) (hl : hb < base) : ∀ k, GF gl gs gt s.size (fun _ => .slice none 0 0) k → ¬ HF hb (.slice none 0 0) k := fun k hk e => by
  have := (hg.foot k hk).1
  rcases e with e | e
  · omega
  · cases e
set_option maxHeartbeats 2000000 in
theorem reach_any (W H a : Nat) (s : ByteArray) (A : Option Addr) (n cap : Nat) (f : Nat → Int) (w : World) (hR : Right (W : Int) (H : Int) s) (hz : at_ s a ≠ 35) (ha : a < s.size) (h : Il w.heap.size w A n cap f) :
    Calls Tryd.prog 23 #[.agg #[.int .i64 (W : Int), .int .i64 (H : Int), .string s], .int .i64 (a : Int), .slice A n cap] w (ReachTold5 W H s a (mk f n) w) := by
  have HI := Lib.hid h
  have HR := Lib.hid hR
  have HZ := Lib.hid hz
  have HA := Lib.hid ha
  clear h hR hz ha
  go_enter Tryd.func23, Tryd.ntmps23
  go_wp2_with (first
    | (go_at_call 40; refine (new_any _).mono ?_; rintro e w1 ⟨rfl, hH, hB, hlt⟩; rw [alloc_size] at hH hlt; have HX := Lib.hid ((Box.start w (W : Int) (H : Int) s 23).after hB); have HH := Lib.hid hH; have HLT := Lib.hid hlt; have c0 := HX.out.c0; have c1 := HX.out.c1; have c2 := HX.out.c2; clear hH hB hlt)
    | (go_at_call 27; refine (groundOf_any W H a s A n cap f _ HR.out HA.out (args_il HI.out HX.out.below)).mono ?_; rintro e w2 ⟨gl, gs, gt, rfl, hg, hb2⟩; have HG := Lib.hid hg; have HB2 := Lib.hid hb2; clear hg hb2 c0 c1 c2)
    | (go_at_call 41; refine (spread_any W H a s (mk f n) w1.heap.size gl gs gt (w.heap.size + 1) (.slice none 0 0) _ HR.out HZ.out HA.out HB2.out.size HG.out (HH.out.below HB2.out) (foot0 HG.out HLT.out)).mono ?_; rintro e w3 ⟨gf, ga, F, A', R, j, v, rfl, h1, h2, h3, h4, h5, h6, h7⟩))
  go_ret2
  have hb := HX.out.below.size
  have hb2 := HB2.out.size
  refine ⟨gf, ga, F, A', R, j, rfl, h1, h2, h3, h4, h5, ⟨by omega, by omega⟩, ?_⟩
  have hlow : Below w.heap.size w w2 := HX.out.below.trans (HB2.out.mono hb)
  refine hlow.trans (h7.below _ (by omega) (fun k hk => ?_))
  rcases hk with e | e | e
  · have := HG.out.bt; omega
  · rcases e with e | e
    · rw [e]; exact Nat.le_succ _
    · cases e
  · omega

/-- How far each cell is is told. -/
def DistTold (W H : Int) (s : ByteArray) (c : Int) (B : Nat → Bool) (w : World) (e : Ending) (w' : World) : Prop :=
  ∃ A n cap F, e = .returned (.slice A n cap) ∧ n = F.length ∧ Il w'.heap.size w' A n cap (fun j => F.getD j 0) ∧ Below w.heap.size w w' ∧
    (OnFloor W H s c → F.length = s.size ∧ ∀ x, x < s.size → IsD (nx5 W.toNat H.toNat (at_ s) c.toNat B) c.toNat x (F.getD x 0)) ∧ (¬ OnFloor W H s c → F = [])
theorem cells_il {g N : Nat} {F : List Int} {w : World} (h : Cells g N (ci F) w) (hN : N ≤ 256) : Il w.heap.size w (some ⟨g, 0, none⟩) N N (fun j => F.getD j 0) :=
  ⟨Nat.le_refl _, by unfold maxLen; omega, (fun e => by cases e), fun _ => ⟨g, 0, rfl, h.1, fun j hj => by rw [Nat.zero_add]; exact (h.2 j hj).1⟩⟩
set_option maxHeartbeats 2000000 in
theorem dist_any (W H : Int) (s : ByteArray) (hs : s.size ≤ maxLen) (c : Int) (A : Option Addr) (n cap : Nat) (f : Nat → Int) (w : World) (h : Il w.heap.size w A n cap f) :
    Calls Tryd.prog 12 #[.agg #[.int .i64 W, .int .i64 H, .string s], .int .i64 c, .slice A n cap] w (DistTold W H s c (mk f n) w) := by
  have HI := Lib.hid h
  have HST := Lib.hid (stands_any W H s hs c)
  clear h
  by_cases hO : OnFloor W H s c
  · obtain ⟨W, H, a, rfl, rfl, rfl, ha, hz, _⟩ := onFloor_some hO
    have HO := Lib.hid hO
    have HRE := Lib.hid (fun wx h => reach_any W H a s A n cap f wx hO.1 hz ha h)
    have h256 := rightLe hO.1
    clear hO ha hz
    go_enter Tryd.func12, Tryd.ntmps12
    go_wp2_with (first
      | (go_at_call 22; refine (HST.out _).mono ?_; rintro e w1 ⟨b, rfl, hb, hb1⟩; obtain rfl : b = true := hb.2 HO.out; have HX := Lib.hid ((Box.start w (W : Int) (H : Int) s 23).after hb1); have c0 := HX.out.c0; have c1 := HX.out.c1; have c2 := HX.out.c2; clear hb hb1)
      | (go_at_call 23; refine (HRE.out _ (args_il HI.out HX.out.below)).mono ?_; rintro e w2 ⟨gf, ga, F, A', R, j, rfl, h1, h2, h3, h4, h5, h6, h7⟩; have H1 := Lib.hid h1; have H3 := Lib.hid h3; have H4 := Lib.hid h4; have H7 := Lib.hid h7; clear h1 h2 h3 h4 h5 h6 h7))
    go_ret
    refine ⟨_, s.size, _, F, rfl, H4.out.len.symm, cells_il H1.out h256, HX.out.below.trans (H7.out.mono HX.out.below.size), fun _ => ⟨H4.out.len, fun x hx => H4.out.isD H3.out x hx⟩, fun h => absurd HO.out h⟩
  · have HO := Lib.hid hO
    clear hO
    go_enter Tryd.func12, Tryd.ntmps12
    go_wp2_with (go_at_call 22; refine (HST.out _).mono ?_; rintro e w1 ⟨b, rfl, hb, hb1⟩; obtain rfl : b = false := (by rw [Bool.eq_false_iff]; exact fun e => HO.out (hb.1 e)); have HX := Lib.hid ((Box.start w W H s 23).after hb1); clear hb hb1)
    go_ret
    exact ⟨none, 0, 0, [], rfl, rfl, Il.empty _ _ _, HX.out.below, fun h => absurd h HO.out, fun _ => rfl⟩
end Go.Proofs.YtaioiobimenkfaaDoor
