/-
  Layer 7: the steps told from their end (back).
  Layer 7: plain mathematics: where a robot can be, moment by moment.
  Layer 7: Plan, Soon.
  Layer 7: Is.
-/
import Derived.Test.YtcdclghmebgpnaaGreatDoorSpFour
import Derived.Test.YtcdclghmebgpnaaGreatDoorSpOne
set_option linter.unusedVariables false
set_option maxRecDepth 100000
section
namespace Go.Proofs.YtcdclghmebgpnaaGreatDoor
namespace Sp
open Go.RowKit Fl Pt
open Wn (Tab TF frees isT Ordw IW Wt wcl plc Rising)

theorem Pm.Fit.noWall {p : Pm} (h : p.Fit) {m : Int} {c : Nat} (r : p.env.R m c) : at_ p.s c ≠ 35 := by
  induction r with
  | start => exact h.wall
  | stay _ _ ih => exact ih
  | go _ _ hd _ _ => exact Pm.near_wall hd
theorem Pm.Fit.cnOk {p : Pm} (h : p.Fit) {last : Int} {S : Nat → Nat → Int} (D : Done p.env last S) : p.env.Cn last (fun m d => p.cn S m d) :=
  ⟨h.ok, h.first, fun m c d r hd => mem_nr.2 ⟨side_sym h.sides.1.w1 (by rw [← h.sides.1.sz]; exact r.lt h.ok) (mem_nr.1 hd).1, h.noWall r⟩, fun m c hc _ hm => h.cnIff D hc hm⟩
def castS (l : List (Nat × Int)) : List (Int × Int) := l.map fun q => ((q.1 : Int), q.2)
theorem castS_app (l m : List (Nat × Int)) : castS (l ++ m) = castS l ++ castS m := List.map_append
/-- The steps by which the robot came. -/
def Pm.bk (p : Pm) (S : Nat → Nat → Int) (n c : Nat) : List (Nat × Int) := p.env.bk (fun m d => p.cn S m d) n c
/-- The loop under way. -/
structure Bk7 (p : Pm) (S : Nat → Nat → Int) (N c0 : Nat) (w0 : World) (n c : Nat) (v : Value) (L : List (Int × Int)) (wr : World) : Prop where
  lt : c < p.s.size
  r : p.env.R (p.t0 + n) c
  eq : castS (p.bk S N c0) = castS (p.bk S n c) ++ L.reverse
  len : L.length + n ≤ N
  own : Sow wr w0.heap.size v L
  gr : ∃ nv sv, Gr p nv sv S wr
  below : Below p.B w0 wr
  size : w0.heap.size ≤ wr.heap.size
theorem Bk7.went {p : Pm} {S : Nat → Nat → Int} {N c0 n c : Nat} {w0 wr w' : World} {v : Value} {L : List (Int × Int)} (h : Bk7 p S N c0 w0 n c v L wr) {nv sv : Nat → Value} (hg : Gr p nv sv S w') (hw : Went p wr w') : Bk7 p S N c0 w0 n c v L w' :=
  ⟨h.lt, h.r, h.eq, h.len, h.own.went hw.kept, ⟨nv, sv, hg⟩, h.below.trans hw.below, Nat.le_trans h.size hw.below.size⟩
/-- Where it was at the moment ahead. -/
theorem Bk7.wait {p : Pm} {S : Nat → Nat → Int} {last : Int} (D : Done p.env last S) {N c0 n c : Nat} {w0 wr : World} {v : Value} {L : List (Int × Int)} (h : Bk7 p S N c0 w0 (n + 1) c v L wr) (hl : p.t0 + (N : Int) ≤ last) (hs : p.env.stl (p.t0 + ((n + 1 : Nat) : Int)) c = false) (ho : p.og S (p.t0 + ((n + 1 : Nat) : Int)) c = none) : Bk7 p S N c0 w0 n c v L wr := by
  obtain ⟨nv, sv, hg⟩ := h.gr
  have hn := h.len
  have C := hg.fit.cnOk D
  have r := C.org_none (m := p.t0 + ((n + 1 : Nat) : Int)) (by show p.t0 < _; omega) (by omega) h.lt ho h.r
  rw [show p.t0 + ((n + 1 : Nat) : Int) - 1 = p.t0 + (n : Int) by omega] at r
  refine ⟨h.lt, r, ?_, by omega, h.own, h.gr, h.below, h.size⟩
  rw [h.eq]
  congr 2
  show Env.bk _ _ (n + 1) c = _
  unfold Env.bk
  have hs' : p.env.stl (p.env.t0 + ((n + 1 : Nat) : Int)) c = false := hs
  have ho' : p.env.org (fun m d => p.cn S m d) (p.env.t0 + ((n + 1 : Nat) : Int)) c = none := ho
  rw [if_neg (by rw [hs']; exact Bool.false_ne_true), ho']
  rfl
theorem Bk7.go {p : Pm} {S : Nat → Nat → Int} {last : Int} (D : Done p.env last S) {N c0 n c d : Nat} {w0 wr w' : World} {v v' : Value} {L : List (Int × Int)} (h : Bk7 p S N c0 w0 (n + 1) c v L wr) (hl : p.t0 + (N : Int) ≤ last) (hs : p.env.stl (p.t0 + ((n + 1 : Nat) : Int)) c = false) (ho : p.og S (p.t0 + ((n + 1 : Nat) : Int)) c = some d)
    (hB : p.B ≤ w0.heap.size) (hown : Sow w' w0.heap.size v' (L ++ [((c : Int), p.t0 + ((n + 1 : Nat) : Int))])) (hb : Below w0.heap.size wr w') (hg : wr.grownBy w' v.ownBlock) : Bk7 p S N c0 w0 n d v' (L ++ [((c : Int), p.t0 + ((n + 1 : Nat) : Int))]) w' := by
  obtain ⟨nv, sv, hgr⟩ := h.gr
  have hn := h.len
  have C := hgr.fit.cnOk D
  obtain ⟨d1, d2, d3, d4⟩ := C.org_some (m := p.t0 + ((n + 1 : Nat) : Int)) (by show p.t0 < _; omega) (by omega) h.lt ho
  rw [show p.t0 + ((n + 1 : Nat) : Int) - 1 = p.t0 + (n : Int) by omega] at d4
  have ht : Turn (fun k => v.ownBlock = some k) (fun k => v.ownBlock = some k) wr w' := Turn.grown hg (fun k hk => hk)
  refine ⟨d1, d4, ?_, by rw [List.length_append]; simp only [List.length_cons, List.length_nil]; omega, hown, ⟨nv, sv, (hgr.steps h.own hB h.size ht).1⟩, h.below.trans (hgr.steps h.own hB h.size ht).2, Nat.le_trans h.size ht.size⟩
  rw [h.eq]
  have e : p.bk S (n + 1) c = p.bk S n d ++ [(c, p.t0 + ((n + 1 : Nat) : Int))] := by
    show Env.bk _ _ (n + 1) c = _
    unfold Env.bk
    have hs' : p.env.stl (p.env.t0 + ((n + 1 : Nat) : Int)) c = false := hs
    have ho' : p.env.org (fun m d => p.cn S m d) (p.env.t0 + ((n + 1 : Nat) : Int)) c = some d := ho
    rw [if_neg (by rw [hs']; exact Bool.false_ne_true), ho']
    rfl
  rw [e, castS_app, List.reverse_append, List.append_assoc]
  rfl
/-- At its end it has been there since the start. -/
theorem Bk7.end_ {p : Pm} {S : Nat → Nat → Int} {N c0 n c : Nat} {w0 wr : World} {v : Value} {L : List (Int × Int)} (h : Bk7 p S N c0 w0 n c v L wr) (hs : p.env.stl (p.t0 + (n : Int)) c = true) : castS (p.bk S N c0) = L.reverse := by
  rw [h.eq]
  have e : p.bk S n c = [] := by
    cases n with
    | zero => rfl
    | succ n =>
      show Env.bk _ _ (n + 1) c = _
      unfold Env.bk
      have hs' : p.env.stl (p.env.t0 + ((n + 1 : Nat) : Int)) c = true := hs
      rw [if_pos hs']
  rw [e]; rfl
theorem Bk7.zero {p : Pm} {S : Nat → Nat → Int} {N c0 c : Nat} {w0 wr : World} {v : Value} {L : List (Int × Int)} (h : Bk7 p S N c0 w0 0 c v L wr) : p.env.stl (p.t0 + ((0 : Nat) : Int)) c = true := by
  obtain ⟨nv, sv, hg⟩ := h.gr
  have e : c = p.a := h.r.first (by show p.t0 + ((0 : Nat) : Int) = p.t0; omega)
  subst e
  unfold Env.stl
  rw [show (p.a == p.env.a) = true from beq_self_eq_true p.a, Bool.true_and, decide_eq_true_eq]
  have := hg.fit.first.2.2
  show p.t0 + ((0 : Nat) : Int) < ((p.O p.a).getD 0 (0, 0)).2
  omega
def BackTold (p : Pm) (S : Nat → Nat → Int) (N c : Nat) (w : World) (e : Ending) (w' : World) : Prop :=
  ∃ A cap, e = .returned (.slice A (castS (p.bk S N c)).length cap) ∧ Sow w' w.heap.size (.slice A (castS (p.bk S N c)).length cap) (castS (p.bk S N c)) ∧ Below p.B w w' ∧ (castS (p.bk S N c)).length ≤ N
set_option maxHeartbeats 4000000 in
theorem back_any {p : Pm} {nv sv : Nat → Value} {S : Nat → Nat → Int} {w : World} (h : Gr p nv sv S w) {last : Int} (D : Done p.env last S) {N c : Nat} (hc : c < p.s.size) (hN : N ≤ 100000) (hl : p.t0 + (N : Int) ≤ last) (r : p.env.R (p.t0 + N) c) :
    Calls Tryz.prog 33 #[.pointer (some ⟨p.gb, 0, none⟩), .int .i64 (c : Int), .int .i64 (p.t0 + (N : Int))] w (BackTold p S N c w) := by
  have HD := Lib.hid D
  have ht0 := h.fit.t0
  have hB := h.tlt
  have HB0 : Hid (Bk7 p S N c w N c (.slice none 0 0) [] w) := Lib.hid ⟨hc, r, by simp, by simp, Sow.nil _ _, ⟨nv, sv, h⟩, Below.refl _ _, Nat.le_refl _⟩
  have HFT := Lib.hid h.fit
  obtain ⟨t0, hte⟩ : ∃ t0, t0 = p.t0 := ⟨_, rfl⟩
  have HTE := Lib.hid hte
  rw [← hte] at ht0 hl ⊢
  have HL := Lib.hid hl
  clear h D r hte hc hl
  go_enter Tryz.func33, Tryz.ntmps33
  go_wp2_with fail
  go_loopw [1, 2, 7] (fun a1 a2 a7 wr => ∃ (n c' : Nat) (A : Option Addr) (L : List (Int × Int)) (cap : Nat), n ≤ N ∧ a1 = .int .i64 (c' : Int) ∧ a2 = .int .i64 (t0 + (n : Int)) ∧ a7 = .slice A L.length cap ∧ Hid (Bk7 p S N c w n c' (.slice A L.length cap) L wr)) (fun _ a2 _ _ => (intOf a2 - t0).toNat)
  case atStart => exact ⟨N, c, none, [], 0, Nat.le_refl _, rfl, rfl, rfl, HB0⟩
  case round =>
    rename World => wr
    obtain ⟨n, c', A, L, cap, hn, rfl, rfl, rfl, HK⟩ := hrel
    have hc' := HK.out.lt
    obtain ⟨m, hm⟩ : ∃ m, m = t0 + (n : Int) := ⟨_, rfl⟩
    have HM := Lib.hid hm
    have hm0 : 0 ≤ m ∧ m ≤ 2000000 := by omega
    rw [← hm]
    clear hm
    obtain ⟨nv1, sv1, g1⟩ := HK.out.gr
    have HST := Lib.hid (settled_any g1 hc' m)
    have HLN := Lib.hid HK.out.len
    obtain ⟨l, hl⟩ : ∃ l, l = L.length := ⟨_, rfl⟩
    have HLE := Lib.hid hl
    rw [← hl] at HK ⊢
    clear g1 hl
    go_wp2_with fail
    refine HST.out.mono ?_
    rintro e w2 ⟨rfl, sv2, hg2, hw2⟩
    have HK2 := Lib.hid (HK.out.went hg2 hw2)
    clear hg2 hw2
    cases hs : p.env.stl m c' with
    | true =>
      have HS := Lib.hid hs
      have HE := Lib.hid (HK2.out.end_ (by rw [← HTE.out, ← HM.out]; exact hs))
      clear hs
      have HRV := Lib.hid (reverse_any w.heap.size A l cap L w2 HK2.out.own HLE.out (by have := HLN.out; have := HLE.out; omega) HK2.out.size)
      go_wp2_with fail
      refine HRV.out.mono ?_
      rintro e w3 ⟨rfl, hso, htu⟩
      have HSO := Lib.hid hso
      have HTU := Lib.hid htu
      clear hso htu
      go_wp2_with fail
      go_ret
      obtain ⟨nv3, sv3, g3⟩ := HK2.out.gr
      have hbel := (g3.steps HK2.out.own hB HK2.out.size HTU.out).2
      have e1 : (castS (p.bk S N c)).length = l := by rw [HE.out, List.length_reverse, HLE.out]
      refine ⟨A, cap, by rw [e1]; rfl, ?_, HK2.out.below.trans hbel, by rw [e1]; have := HLN.out; have := HLE.out; omega⟩
      rw [e1, HE.out]
      exact HSO.out
    | false =>
      have HS := Lib.hid hs
      have hn0 : n ≠ 0 := by
        rintro rfl
        have := HK.out.zero
        have e := HM.out
        rw [← HTE.out, ← e, hs] at this
        cases this
      obtain ⟨n, rfl⟩ : ∃ n', n = n' + 1 := ⟨n - 1, by omega⟩
      clear hs
      obtain ⟨nv3, sv3, g3⟩ := HK2.out.gr
      have HOG := Lib.hid (origin_any g3 hc' (HFT.out.noWall HK2.out.r) m hm0)
      clear g3
      go_wp2_with fail
      refine HOG.out.mono ?_
      rintro e w3 ⟨rfl, nv4, sv4, hg4, hw4⟩
      have HK3 := Lib.hid (HK2.out.went hg4 hw4)
      clear hg4 hw4
      cases ho : p.og S m c' with
      | none =>
        have HW := Lib.hid (HK3.out.wait HD.out (by rw [← HTE.out]; exact HL.out) (by rw [← HTE.out, ← HM.out]; exact HS.out) (by rw [← HTE.out, ← HM.out]; exact ho))
        clear ho
        unfold OgV
        go_wp2_with fail
        go_roundw
        case rel =>
          have hm := HM.out
          exact ⟨n, c', A, L, cap, by omega, rfl, by go_num, by rw [HLE.out], by rw [← HLE.out]; exact HW⟩
        case measure => have hm := HM.out; simp [intOf]; omega
      | some d =>
        have HO := Lib.hid ho
        clear ho
        have HA := Lib.hid ((Below.refl w3.heap.size w3).alloc (Nat.le_refl _) (.cells #[.int .i64 (c' : Int), .int .i64 m] 64))
        have HKA := Lib.hid (show Bk7 p S N c w (n + 1) c' (.slice A l cap) L (w3.alloc (.cells #[.int .i64 (c' : Int), .int .i64 m] 64)) from by
          obtain ⟨nv5, sv5, g5⟩ := HK3.out.gr
          exact HK3.out.went (g5.later HA.out) (Went.of g5.tlt HA.out))
        have H1 := Lib.hid (st_one w3 (c' : Int) m)
        have HGO : Hid (∀ A' c'' w', Sow w' w.heap.size (.slice A' (L ++ [((c' : Int), m)]).length c'') (L ++ [((c' : Int), m)]) → Below w.heap.size (w3.alloc (.cells #[.int .i64 (c' : Int), .int .i64 m] 64)) w' → (w3.alloc (.cells #[.int .i64 (c' : Int), .int .i64 m] 64)).grownBy w' (Value.slice A l cap).ownBlock → Bk7 p S N c w n d (.slice A' (L ++ [((c' : Int), m)]).length c'') (L ++ [((c' : Int), m)]) w') := Lib.hid (fun A' c'' w' h1 h2 h3 => by
          have hts := HTE.out
          have hls := HL.out
          have hss := HS.out
          have hos := HO.out
          have hka := HKA.out
          have hms := HM.out
          rw [hts] at hls hms
          rw [hms] at h1 h2 h3 hss hos hka ⊢
          exact hka.go HD.out hls hss hos hB h1 h2 h3)
        unfold OgV
        go_wp2_with (at_builtin; refine app_steps rfl _ _ rfl w.heap.size _ L rfl HKA.out.own (some ⟨w3.heap.size, 0, none⟩) 1 1 [((c' : Int), m)] rfl H1.out (by have := HLN.out; omega) HKA.out.size ?_; intro A6 c6 w6 h61 h62 h63; have HK6 := Lib.hid (HGO.out A6 c6 w6 h61 h62 h63); clear h61 h62 h63)
        go_roundw
        case rel =>
          have hm := HM.out
          exact ⟨n, d, A6, L ++ [((c' : Int), m)], c6, by omega, by go_num, by go_num, by simp, HK6⟩
        case measure => have hm := HM.out; simp [intOf]; omega
end Sp
end Go.Proofs.YtcdclghmebgpnaaGreatDoor
end

section
namespace Go.Proofs.YtcdclghmebgpnaaGreatDoor
namespace Sp
open Wn (inW)

/-- From a moment to the next one. -/
def step7 (e : Env) (m : Int) (l : List Bool) : List Bool :=
  (List.range e.N).map fun c => inW m (e.O c) && (l.getD c false || (List.range e.N).any fun d => l.getD d false && (e.lv d && (e.nr d).contains c))
/-- At which cells a robot can be, so many moments behind the start. -/
def LY (e : Env) : Nat → List Bool
  | 0 => (List.range e.N).map fun c => c == e.a
  | n + 1 => step7 e (e.t0 + ((n + 1 : Nat) : Int)) (LY e n)
theorem ly_len (e : Env) (n : Nat) : (LY e n).length = e.N := by
  cases n <;> simp [LY, step7]
theorem range_getD {N : Nat} {f : Nat → Bool} {c : Nat} (hc : c < N) : ((List.range N).map f).getD c false = f c := by
  simp [List.getD, hc]
theorem ly_iff {e : Env} (h : e.Ok) : ∀ (n c : Nat), c < e.N → ((LY e n).getD c false = true ↔ e.R (e.t0 + (n : Int)) c)
  | 0, c, hc => by
    rw [LY, range_getD hc, beq_iff_eq, show e.t0 + ((0 : Nat) : Int) = e.t0 by omega]
    constructor
    · rintro rfl; exact .start
    · intro r; exact r.first rfl
  | n + 1, c, hc => by
    rw [LY, step7, range_getD hc, Bool.and_eq_true, Bool.or_eq_true, ly_iff h n c hc, List.any_eq_true, ← in_inW]
    have e1 : e.t0 + ((n + 1 : Nat) : Int) = (e.t0 + (n : Int)) + 1 := by omega
    constructor
    · rintro ⟨hi, hr | ⟨d, hd, hx⟩⟩
      · rw [e1] at hi ⊢
        exact .stay hr hi
      · simp only [List.mem_range] at hd
        simp only [Bool.and_eq_true, List.contains_iff_mem] at hx
        rw [e1] at hi ⊢
        exact .go ((ly_iff h n d hd).1 hx.1) hx.2.1 hx.2.2 hi
    · intro r
      refine ⟨r.in h, ?_⟩
      rcases r.prev (by omega) with r1 | ⟨d, r1, l1, n1⟩
      · left
        rw [show e.t0 + ((n + 1 : Nat) : Int) - 1 = e.t0 + (n : Int) by omega] at r1
        exact r1
      · right
        rw [show e.t0 + ((n + 1 : Nat) : Int) - 1 = e.t0 + (n : Int) by omega] at r1
        have hd := r1.lt h
        refine ⟨d, by simpa using hd, ?_⟩
        simp only [Bool.and_eq_true, List.contains_iff_mem]
        exact ⟨(ly_iff h n d hd).2 r1, l1, n1⟩
/-- Layers, each from the one ahead. -/
def chk (e : Env) : Nat → List Bool → List (List Bool) → Bool
  | _, _, [] => true
  | n, l, l' :: r => step7 e (e.t0 + ((n + 1 : Nat) : Int)) l == l' && chk e (n + 1) l' r
theorem chk_ly {e : Env} : ∀ {R : List (List Bool)} {n : Nat} {l : List Bool}, LY e n = l → chk e n l R = true → ∀ i, i < R.length → LY e (n + 1 + i) = R.getD i []
  | [], n, l, _, _, i, h => by simp at h
  | l' :: R, n, l, hl, hc, i, h => by
    unfold chk at hc
    simp only [Bool.and_eq_true, beq_iff_eq] at hc
    have h1 : LY e (n + 1) = l' := by rw [LY, hl]; exact hc.1
    cases i with
    | zero => exact h1
    | succ i =>
      have := chk_ly h1 hc.2 i (by simpa using h)
      rw [show n + 1 + (i + 1) = n + 1 + 1 + i by omega, this]
      rfl
/-- What is told of the cells alone. -/
theorem bk_congr {e : Env} {cn cn' : Int → Nat → Bool} : ∀ (n c : Nat), c < e.N → (∀ c, c < e.N → ∀ d ∈ e.nr c, d < e.N) → (∀ m c, c < e.N → e.t0 ≤ m → m ≤ e.t0 + (n : Int) → cn m c = cn' m c) → e.bk cn n c = e.bk cn' n c
  | 0, c, _, _, _ => rfl
  | n + 1, c, hc, hN, h => by
    have ho : e.org cn (e.t0 + ((n + 1 : Nat) : Int)) c = e.org cn' (e.t0 + ((n + 1 : Nat) : Int)) c := by
      unfold Env.org
      have : ∀ l : List Nat, (∀ d ∈ l, d < e.N) → (l.find? fun d => e.lv d && cn (e.t0 + ((n + 1 : Nat) : Int) - 1) d) = l.find? fun d => e.lv d && cn' (e.t0 + ((n + 1 : Nat) : Int) - 1) d := by
        intro l
        induction l with
        | nil => intro _; rfl
        | cons x l ih =>
          intro hl
          rw [List.find?_cons, List.find?_cons, ih (fun d hd => hl d (List.mem_cons_of_mem _ hd)), h _ x (hl x (List.mem_cons_self ..)) (by omega) (by omega)]
      exact this _ (hN c hc)
    unfold Env.bk
    rw [ho]
    split
    · rfl
    · split
      · rename_i d hd
        have hd2 : d < e.N := by
          have := List.mem_of_find?_eq_some hd
          exact hN c hc d this
        rw [bk_congr n d hd2 hN (fun m c hc h1 h2 => h m c hc h1 (by omega))]
      · rw [bk_congr n c hc hN (fun m c hc h1 h2 => h m c hc h1 (by omega))]
/-- Where a robot can be, asked of layers. -/
def cnL (e : Env) (m : Int) (c : Nat) : Bool := (LY e (m - e.t0).toNat).getD c false
theorem Env.Cn.bk_ly {e : Env} {last : Int} {cn : Int → Nat → Bool} (h : e.Cn last cn) {n c : Nat} (hc : c < e.N) (hl : e.t0 + (n : Int) ≤ last) : e.bk cn n c = e.bk (cnL e) n c :=
  bk_congr n c hc h.ok.nrlt fun m d hd h1 h2 => by
    rw [Bool.eq_iff_iff, h.iff m d hd h1 (by omega)]
    unfold cnL
    rw [ly_iff h.ok _ _ hd, show e.t0 + ((m - e.t0).toNat : Int) = m by omega]
/-- The first moment, or -1. -/
def IsSnP (e : Env) (last : Int) (c : Nat) (m : Int) : Prop := (e.R m c ∧ m ≤ last ∧ ∀ t, e.R t c → m ≤ t) ∨ (m = -1 ∧ ∀ t, t ≤ last → ¬ e.R t c)
/-- The first moment, by layers. -/
theorem isSn_ly {e : Env} (h : e.Ok) {last : Int} {c N : Nat} (hc : c < e.N) (hl : e.t0 + (N : Int) ≤ last) (h1 : (LY e N).getD c false = true) (h2 : ∀ n, n < N → (LY e n).getD c false = false) : IsSnP e last c (e.t0 + (N : Int)) := by
  refine .inl ⟨(ly_iff h N c hc).1 h1, hl, fun t r => ?_⟩
  have := r.ge
  refine Classical.byContradiction fun hlt => ?_
  have e1 : e.t0 + ((t - e.t0).toNat : Int) = t := by omega
  have := h2 (t - e.t0).toNat (by omega)
  rw [← e1] at r
  rw [(ly_iff h _ c hc).2 r] at this
  cases this
end Sp
end Go.Proofs.YtcdclghmebgpnaaGreatDoor
end

section
namespace Go.Proofs.YtcdclghmebgpnaaGreatDoor
namespace Sp
open Go.RowKit Fl Pt
open Wn (Tab TF frees isT Ordw IW Wt wcl plc Rising)

/-- Where a robot is asked for. -/
def envOf (W H a : Nat) (s : ByteArray) (t0 : Int) (T : Int → List (Int × Int)) : Env := ⟨s.size, nr W H (at_ s), outB (at_ s) a, fun c => opn (c == a) t0 (frees (T (c : Int))), a, t0⟩
theorem Pm.For.env {p : Pm} {W H a : Nat} {s : ByteArray} {t0 : Int} {T : Int → List (Int × Int)} {tb : Nat} {w : World} (h : p.For W H a s t0 T tb w) : p.env = envOf W H a s t0 T := by
  obtain ⟨rfl, rfl, rfl, rfl, rfl, rfl, _, _⟩ := h
  rfl
abbrev IsSn := IsSnP
theorem IsSn.uniq {e : Env} (h0 : 0 ≤ e.t0) {last : Int} {c : Nat} {m m' : Int} (h : IsSn e last c m) (k : IsSn e last c m') : m = m' := by
  rcases h with ⟨h1, h2, h3⟩ | ⟨rfl, h2⟩ <;> rcases k with ⟨k1, k2, k3⟩ | ⟨rfl, k2⟩
  · have := h3 _ k1; have := k3 _ h1; omega
  · exact absurd h1 (k2 _ h2)
  · exact absurd k1 (h2 _ k2)
  · rfl
theorem sn_is {p : Pm} (hF : p.Fit) {last : Int} {S : Nat → Nat → Int} (D : Done p.env last S) {c : Nat} (hc : c < p.s.size) {m : Int} (h : Sn p S c m) : IsSn p.env last c m := by
  rcases h with ⟨k, k1, k2, k3, rfl⟩ | ⟨k1, rfl⟩
  · exact .inl (D.soon hF.ok hc k1 k2 k3)
  · exact .inr ⟨rfl, D.never hF.ok k1⟩
/-- What Soon tells. -/
def SoonIs (W H : Int) (s : ByteArray) (c t0 ahead : Int) (T : Int → List (Int × Int)) (F : List Int) : Prop :=
  (Rc7 W H s c t0 ahead ∧ F.length = s.size ∧ ∀ x, x < s.size → IsSn (envOf W.toNat H.toNat c.toNat s t0 T) (t0 + ahead) x (F.getD x 0)) ∨ (¬ Rc7 W H s c t0 ahead ∧ F = [])
def SoonTold (W H : Int) (s : ByteArray) (c t0 ahead : Int) (T : Int → List (Int × Int)) (w : World) (e : Ending) (w' : World) : Prop :=
  ∃ A n cap F, e = .returned (.slice A n cap) ∧ n = F.length ∧ Il w'.heap.size w' A n cap (fun j => F.getD j 0) ∧ Below w.heap.size w w' ∧ SoonIs W H s c t0 ahead T F ∧ n ≤ 256
def ci (F : List Int) : Nat → Value := fun x => .int .i64 (F.getD x 0)
theorem cells_il7 {g N : Nat} {F : List Int} {w : World} (h : Cells g N (ci F) w) (hN : N ≤ 256) : Il w.heap.size w (some ⟨g, 0, none⟩) N N (fun j => F.getD j 0) :=
  ⟨Nat.le_refl _, by unfold maxLen; omega, (fun e => by cases e), fun _ => ⟨g, 0, rfl, h.1, fun j hj => by rw [Nat.zero_add]; exact (h.2 j hj).1⟩⟩
theorem ci_grow {F : List Int} {n : Nat} (m : Int) (h : F.length ≤ n) : ∀ x, x < n → ci (F ++ [m]) x = if x = F.length then .int .i64 m else ci F x := fun x hx => by
  unfold ci
  by_cases e : x = F.length
  · subst e
    rw [if_pos rfl]
    simp [List.getD]
  · rw [if_neg e]
    congr 1
    by_cases h2 : x < F.length
    · simp [List.getD, List.getElem?_append_left h2]
    · rw [List.getD, List.getD, List.getElem?_eq_none (by simp; omega), List.getElem?_eq_none (by omega)]
set_option maxHeartbeats 4000000 in
theorem soon_any (W H : Int) (s : ByteArray) (hs : s.size ≤ maxLen) (c t0 ahead : Int) (tB tb tN : Nat) (mv : Option Nat) (T : Int → List (Int × Int)) (tg : Int → Nat) (w : World) (hT : Tk w tB tb tN mv T tg) :
    Calls Tryz.prog 11 #[.agg #[.int .i64 W, .int .i64 H, .string s], .pointer (some ⟨tb, 0, none⟩), .int .i64 c, .int .i64 t0, .int .i64 ahead] w (SoonTold W H s c t0 ahead T w) := by
  have HRE := Lib.hid (fun wx hk => reach7_any W H s hs c t0 ahead tB tb tN mv T tg wx hk)
  have HT := Lib.hid hT
  have HX0 := Lib.hid (Box.start w W H s 23)
  obtain ⟨i0, hi, hz0, hz1, hz2⟩ := info_parts Tryz.infoInt
  clear hT
  go_enter Tryz.func11, Tryz.ntmps11
  go_wp2_with fail
  refine (HRE.out _ (HT.out.later HX0.out.below)).mono ?_
  rintro e w1 (⟨hRc, p, nv, sv, S, rfl, hg, hd, hf, hb⟩ | ⟨hRc, rfl, hb⟩)
  · have HRC := Lib.hid hRc
    have HX := Lib.hid (HX0.out.after hb)
    have c2 := HX.out.c2
    have hs7 : p.s = s := hf.2.2.2.1
    have HG := Lib.hid hg
    have HD := Lib.hid hd
    have HE := Lib.hid hf.env
    have HSZ := Lib.hid hs7
    have n256 := hg.fit.n256
    rw [hs7] at n256
    clear hRc hg hd hf hb hs7
    go_wp2_with (at_make; refine wpList_make_full _ rfl _ _ 39 rfl w1.heap.size 3 i0 (.int .i64 0) 1 Tryz.underlying39 hi hz0 hz1 .i64 .i64 _ _ s.size rfl rfl rfl rfl (by rw [hz2]; omega) (by unfold maxLen; omega) (Nat.le_refl _) ?_; intro w2 ho2 hg2; have HC2 := Lib.hid (Cells.made rfl ho2); have HB2 := Lib.hid (Below.grown (Below.refl w1.heap.size w1) hg2 (Nat.le_refl _) (fun k hk => by cases hk)); clear ho2 hg2)
    clear hi hz0 hz1 hz2 c2
    have HW := Lib.hid HB2.out
    go_loopw [28] (fun iv wr => ∃ F : List Int, F.length ≤ s.size ∧ iv = .int .i64 (F.length : Int) ∧ Hid (Cells w1.heap.size s.size (ci F) wr ∧ Below w1.heap.size w1 wr ∧ ∀ x, x < F.length → Sn p S x (F.getD x 0))) (fun iv _ => s.size - (intOf iv).toNat)
    case atStart =>
      refine ⟨[], Nat.zero_le _, rfl, Lib.hid ⟨HC2.out.congr fun x hx => rfl, HW.out, fun x hx => by simp at hx⟩⟩
    case round =>
      rename World => wr
      obtain ⟨F, hF, rfl, HK⟩ := hrel
      obtain ⟨a1, a3, a4⟩ := HK.out
      have A1 := Lib.hid a1
      have A3 := Lib.hid a3
      have A2 := Lib.hid (HG.out.later a3)
      have A4 := Lib.hid a4
      clear a1 a3 a4 HK
      obtain ⟨j, hj⟩ : ∃ j, j = F.length := ⟨_, rfl⟩
      have HJ := Lib.hid hj
      rw [← hj] at hF ⊢
      clear hj
      by_cases hlt : j < s.size
      · have HSO := Lib.hid (soon7_any A2.out (c := j) (by rw [HSZ.out]; exact hlt))
        have hjI : (j : Int) < (s.size : Int) := by omega
        go_wp2_with fail
        refine HSO.out.mono ?_
        rintro e w3 ⟨m, rfl, hm, hb3⟩
        have HM := Lib.hid hm
        have C3 := Lib.hid (A1.out.later hb3)
        have W3 := Lib.hid (A3.out.trans (hb3.mono A3.out.size))
        have x1 := (C3.out.2 j hlt).1
        have x2 := (C3.out.2 j hlt).2
        have HN : Hid (Cells w1.heap.size s.size (ci (F ++ [m])) (w3.setCell ⟨w1.heap.size, j, none⟩ (.int .i64 m)) ∧ Below w1.heap.size w1 (w3.setCell ⟨w1.heap.size, j, none⟩ (.int .i64 m))) := Lib.hid
          ⟨C3.out.put j _ hlt (fun x hx => by rw [ci_grow m (by rw [← HJ.out]; exact hF) x hx, HJ.out]), W3.out.setCell (p := ⟨w1.heap.size, j, none⟩) (Nat.le_refl _) _⟩
        clear hm hb3
        go_wp2_with fail
        go_roundw
        case rel =>
          have hj := HJ.out
          refine ⟨F ++ [m], by simp; omega, by simp; go_num, Lib.hid ⟨HN.out.1, HN.out.2, fun x hx => ?_⟩⟩
          by_cases e : x = F.length
          · have : (F ++ [m]).getD F.length 0 = m := by simp [List.getD]
            rw [e, this, ← hj]
            exact HM.out
          · have hx2 : x < F.length := by simp at hx; omega
            have : (F ++ [m]).getD x 0 = F.getD x 0 := by simp [List.getD, List.getElem?_append_left hx2]
            rw [this]
            exact A4.out x hx2
        case measure => simp [intOf]; omega
      · obtain rfl : j = s.size := by omega
        go_wp2_with fail
        go_ret
        have hl := HJ.out
        refine ⟨_, s.size, _, F, rfl, hl, cells_il7 A1.out (by omega), HX.out.below.trans (A3.out.mono HX.out.below.size), .inl ⟨HRC.out, hl.symm, fun x hx => ?_⟩, by omega⟩
        rw [← HE.out]
        exact sn_is A2.out.fit HD.out (by rw [HSZ.out]; exact hx) (A4.out x (by omega))
  · have HRC := Lib.hid hRc
    have HX := Lib.hid (HX0.out.after hb)
    clear hRc hb
    go_wp2_with fail
    go_ret
    exact ⟨none, 0, 0, [], rfl, rfl, Il.empty _ _ _, HX.out.below, .inr ⟨HRC.out, rfl⟩, Nat.zero_le _⟩
/-- What Plan tells: the steps, and the error. -/
def PlanIs (W H : Int) (s : ByteArray) (c t0 tz ahead : Int) (T : Int → List (Int × Int)) (P : List (Int × Int)) (er : Int) : Prop :=
  (¬ (Rc7 W H s c t0 ahead ∧ OnFloor W H s tz) ∧ P = [] ∧ er = 1) ∨
  (Rc7 W H s c t0 ahead ∧ OnFloor W H s tz ∧ ((P = [] ∧ er = 2 ∧ IsSn (envOf W.toNat H.toNat c.toNat s t0 T) (t0 + ahead) tz.toNat (-1)) ∨
    (er = 0 ∧ ∃ N : Nat, ∃ cn, (N : Int) ≤ ahead ∧ IsSn (envOf W.toNat H.toNat c.toNat s t0 T) (t0 + ahead) tz.toNat (t0 + N) ∧ (envOf W.toNat H.toNat c.toNat s t0 T).Cn (t0 + ahead) cn ∧ P = castS ((envOf W.toNat H.toNat c.toNat s t0 T).bk cn N tz.toNat))))
def PlanTold (W H : Int) (s : ByteArray) (c t0 tz ahead : Int) (T : Int → List (Int × Int)) (w : World) (e : Ending) (w' : World) : Prop :=
  ∃ A n cap P er, e = .returned (.tuple #[.slice A n cap, .int .i64 er]) ∧ n = P.length ∧ Sow w' w.heap.size (.slice A n cap) P ∧ Below w.heap.size w w' ∧ PlanIs W H s c t0 tz ahead T P er ∧ n ≤ 1024 ∧ (er = 0 ∨ er = 1 ∨ er = 2)
set_option maxHeartbeats 4000000 in
theorem plan_any (W H : Int) (s : ByteArray) (hs : s.size ≤ maxLen) (c t0 tz ahead : Int) (tB tb tN : Nat) (mv : Option Nat) (T : Int → List (Int × Int)) (tg : Int → Nat) (w : World) (hT : Tk w tB tb tN mv T tg) :
    Calls Tryz.prog 13 #[.agg #[.int .i64 W, .int .i64 H, .string s], .pointer (some ⟨tb, 0, none⟩), .int .i64 c, .int .i64 t0, .int .i64 tz, .int .i64 ahead] w (PlanTold W H s c t0 tz ahead T w) := by
  have HRE := Lib.hid (fun wx hk => reach7_any W H s hs c t0 ahead tB tb tN mv T tg wx hk)
  have HST := Lib.hid (stands7_any W H s hs tz)
  have HT := Lib.hid hT
  have HX0 := Lib.hid (Box.start w W H s 23)
  clear hT
  go_enter Tryz.func13, Tryz.ntmps13
  go_wp2_with fail
  refine (HRE.out _ (HT.out.later HX0.out.below)).mono ?_
  rintro e w1 (⟨hRc, p, nv, sv, S, rfl, hg, hd, hf, hb⟩ | ⟨hRc, rfl, hb⟩)
  · have HRC := Lib.hid hRc
    have HX := Lib.hid (HX0.out.after hb)
    have c0 := HX.out.c0
    have c1 := HX.out.c1
    have c2 := HX.out.c2
    have HG := Lib.hid hg
    have HD := Lib.hid hd
    have HF := Lib.hid hf
    have HE := Lib.hid hf.env
    have HB0 : Hid (w.heap.size ≤ p.B) := Lib.hid (Nat.le_trans HX0.out.below.size hf.2.2.2.2.2.2.2)
    clear hRc hg hd hf hb
    by_cases hto : OnFloor W H s tz
    · have HTO := Lib.hid hto
      clear hto
      go_wp2_with fail
      refine (HST.out _).mono ?_
      rintro e w2 ⟨b2, rfl, hb2, hB2⟩
      obtain rfl : b2 = true := hb2.2 HTO.out
      have HX2 := Lib.hid (HX.out.after hB2)
      have HG2 := Lib.hid (HG.out.later hB2)
      obtain ⟨_, _, k, _, _, hk, hkN, _⟩ := onFloor_some HTO.out
      have hkp : k < p.s.size := by rw [HF.out.2.2.2.1]; exact hkN
      have HK := Lib.hid hk
      have HSO := Lib.hid (soon7_any HG2.out hkp)
      subst hk
      clear hb2 hB2 c0 c1 c2
      go_wp2_with fail
      refine HSO.out.mono ?_
      rintro e w3 ⟨m, rfl, hm, hb3⟩
      have HSN := Lib.hid (sn_is HG2.out.fit HD.out hkp hm)
      have HX3 := Lib.hid (HX2.out.after hb3)
      have HG3 := Lib.hid (HG2.out.later hb3)
      clear hm hb3
      by_cases hm1 : m = -1
      · subst hm1
        go_wp2_with fail
        go_ret2
        exact ⟨none, 0, 0, [], 2, rfl, rfl, Sow.nil _ _, HX3.out.below, .inr ⟨HRC.out, HTO.out, .inl ⟨rfl, rfl, by rw [← HE.out]; exact HSN.out⟩⟩, by decide, .inr (.inr rfl)⟩
      · have hme : (m == -1) = false := beq_eq_false_iff_ne.2 hm1
        have ht0 : p.t0 = t0 := HF.out.2.2.2.2.1
        have hA := HRC.out.2
        have ht1 := HG3.out.fit.t0
        obtain ⟨hr1, hr2, hr3⟩ : p.env.R m k ∧ m ≤ t0 + ahead ∧ ∀ t, p.env.R t k → m ≤ t := by
          rcases HSN.out with h | ⟨h, _⟩
          · exact h
          · exact absurd h hm1
        have hge : p.t0 ≤ m := hr1.ge
        obtain ⟨N, hN⟩ : ∃ N : Nat, m = p.t0 + (N : Int) := ⟨(m - p.t0).toNat, by omega⟩
        have HNA : Hid ((N : Int) ≤ ahead) := Lib.hid (by omega)
        have HBK := Lib.hid (back_any HG3.out HD.out (N := N) hkp (by omega) (by omega) (by rw [← hN]; exact hr1))
        have HMN := Lib.hid hN
        rw [← hN] at HBK
        clear hN hr1 hr2 hr3 hge ht0 hA ht1 hm1
        go_wp2_with fail
        refine HBK.out.mono ?_
        rintro e w4 ⟨A4, cap4, rfl, hso, hbl, hle⟩
        have HSO4 := Lib.hid hso
        have HBL := Lib.hid hbl
        have HLE := Lib.hid hle
        clear hso hbl hle
        go_wp2_with fail
        go_ret2
        have hsz := HX3.out.below.size
        have ht0 : p.t0 = t0 := HF.out.2.2.2.2.1
        refine ⟨A4, _, cap4, _, 0, rfl, rfl, HSO4.out.lower hsz, HX3.out.below.trans (HBL.out.mono HB0.out), .inr ⟨HRC.out, HTO.out, .inr ⟨rfl, N, (fun m d => p.cn S m d), HNA.out, ?_, ?_, ?_⟩⟩, ?_, .inl rfl⟩
        · rw [← HE.out, ← ht0, ← HMN.out]
          have := HSN.out
          rw [← ht0] at this
          exact this
        · rw [← HE.out]
          exact HG3.out.fit.cnOk HD.out
        · rw [← HE.out]
          rfl
        · have := HLE.out
          have := HNA.out
          have := HRC.out.2.2
          omega
    · have HTO := Lib.hid hto
      clear hto
      go_wp2_with fail
      refine (HST.out _).mono ?_
      rintro e w2 ⟨b2, rfl, hb2, hB2⟩
      obtain rfl : b2 = false := by
        rw [Bool.eq_false_iff]
        exact fun e => HTO.out (hb2.1 e)
      have HX2 := Lib.hid (HX.out.after hB2)
      clear hb2 hB2 c0 c1 c2
      go_wp2_with fail
      go_ret2
      exact ⟨none, 0, 0, [], 1, rfl, rfl, Sow.nil _ _, HX2.out.below, .inl ⟨fun h => HTO.out h.2, rfl, rfl⟩, by decide, .inr (.inl rfl)⟩
  · have HRC := Lib.hid hRc
    have HX := Lib.hid (HX0.out.after hb)
    clear hRc hb
    go_wp2_with fail
    go_ret2
    exact ⟨none, 0, 0, [], 1, rfl, rfl, Sow.nil _ _, HX.out.below, .inl ⟨fun h => HRC.out h.1, rfl, rfl⟩, by decide, .inr (.inl rfl)⟩
end Sp
end Go.Proofs.YtcdclghmebgpnaaGreatDoor
end

section
namespace Go.Proofs.YtcdclghmebgpnaaGreatDoor
namespace Sp
open Go.RowKit Fl Pt
open Wn (Tab TF frees isT Ordw IW Wt wcl plc Rising)

/-- Are steps a way through time, from a cell and moment on? -/
def WyT (e : Env) : Nat → Int → List (Int × Int) → Prop
  | c, m, [] => In (e.O c) m
  | c, m, q :: r => ∃ k, At (e.O c) k m ∧ m < q.2 ∧ q.2 ≤ (e.win c k).2 ∧ e.lv c = true ∧ ∃ d : Nat, q.1 = (d : Int) ∧ d ∈ e.nr c ∧ WyT e d q.2 r
def IsOk (W H : Int) (s : ByteArray) (c t0 : Int) (T : Int → List (Int × Int)) (L : List (Int × Int)) : Prop := Rt7 W H s c t0 ∧ WyT (envOf W.toNat H.toNat c.toNat s t0 T) c.toNat t0 L
/-- Two cells of a step. -/
def Bs (D : Nat) (x y : Int) (w : World) : Prop := w.heap[D]? = some (.cells #[.int .i64 x, .int .i64 y] 64 (0, 0))
theorem Bs.cells {D : Nat} {x y : Int} {w : World} (h : Bs D x y w) : w.cell? ⟨D, 0, none⟩ = some (.int .i64 x) ∧ w.cell? ⟨D, 1, none⟩ = some (.int .i64 y) ∧ w.frozen? ⟨D, 0, none⟩ = false ∧ w.frozen? ⟨D, 1, none⟩ = false ∧ D < w.heap.size :=
  ⟨by rw [cell_of_row w D 0 _ _ _ h]; rfl, by rw [cell_of_row w D 1 _ _ _ h]; rfl, frozen_of_row w D 0 _ _ h, frozen_of_row w D 1 _ _ h, lt_of_heap h⟩
theorem Bs.new (w : World) (x y : Int) : Bs w.heap.size x y (w.alloc (.cells #[.int .i64 x, .int .i64 y] 64)) := heap_alloc_new w _
theorem Bs.later {D : Nat} {x y : Int} {w w' : World} (h : Bs D x y w) (hb : Below w.heap.size w w') : Bs D x y w' := (hb.block D (lt_of_heap h)).trans h
theorem Bs.went {D : Nat} {x y : Int} {w w' : World} (h : Bs D x y w) (hk : KeptG w w') : Bs D x y w' := hk D _ h (notW_cells (by decide) (by decide) (by decide))
theorem Bs.put {D : Nat} {x y : Int} {w : World} (h : Bs D x y w) (x' y' : Int) : Bs D x' y' ((w.setCell ⟨D, 0, none⟩ (.int .i64 x')).setCell ⟨D, 1, none⟩ (.int .i64 y')) := by
  have h1 := heap_setCell_same w D 0 _ _ (.int .i64 x') h
  have h2 := heap_setCell_same _ D 1 _ _ (.int .i64 y') h1
  unfold Bs
  rw [h2]
  simp
/-- A step's box is written. -/
theorem Gr.bput (p : Pm) {nv sv : Nat → Value} {S : Nat → Nat → Int} {w : World} (h : Gr p nv sv S w) {D : Nat} {x y : Int} (hx : Bs D x y w) (hD : p.B ≤ D) (x' y' : Int) :
    Gr p nv sv S ((w.setCell ⟨D, 0, none⟩ (.int .i64 x')).setCell ⟨D, 1, none⟩ (.int .i64 y')) ∧ Below p.B w ((w.setCell ⟨D, 0, none⟩ (.int .i64 x')).setCell ⟨D, 1, none⟩ (.int .i64 y')) := by
  have hB : Below p.B w ((w.setCell ⟨D, 0, none⟩ (.int .i64 x')).setCell ⟨D, 1, none⟩ (.int .i64 y')) := ((Below.refl _ _).setCell (p := ⟨D, 0, none⟩) hD _).setCell (p := ⟨D, 1, none⟩) hD _
  refine ⟨h.same hB fun k o hk hg => ?_, hB⟩
  have hne : k ≠ D := by
    rintro rfl
    obtain ⟨cs, e, fz, ho, ht⟩ := hg
    unfold Bs at hx
    rw [hk, ho] at hx
    injection hx with hx
    injection hx with _ hx _
    rw [hx] at ht
    revert ht
    decide
  rw [set_other hne, set_other hne]
  exact hk
/-- The round over the steps. -/
structure Iw (p : Pm) (L : List (Int × Int)) (j : Nat) (D : Nat) (c : Nat) (m : Int) (w0 wr : World) : Prop where
  lt : c < p.s.size
  eq : WyT p.env p.a p.t0 L ↔ WyT p.env c m (L.drop j)
  gr : ∃ nv sv, Gr p nv sv (fun _ _ => 1048576) wr
  bx : Bs D (c : Int) m wr
  hD : p.B ≤ D
  below : Below p.B w0 wr
theorem Iw.went {p : Pm} {L : List (Int × Int)} {j D c : Nat} {m : Int} {w0 wr w' : World} (h : Iw p L j D c m w0 wr) {nv sv : Nat → Value} (hg : Gr p nv sv (fun _ _ => 1048576) w') (hw : Went p wr w') : Iw p L j D c m w0 w' :=
  ⟨h.lt, h.eq, ⟨nv, sv, hg⟩, h.bx.went hw.kept, h.hD, h.below.trans hw.below⟩
theorem Iw.later {p : Pm} {L : List (Int × Int)} {j D c : Nat} {m : Int} {w0 wr w' : World} (h : Iw p L j D c m w0 wr) (hb : Below wr.heap.size wr w') : Iw p L j D c m w0 w' := by
  obtain ⟨nv, sv, hg⟩ := h.gr
  exact h.went (hg.later hb) (Went.of hg.tlt hb)
theorem Iw.size {p : Pm} {L : List (Int × Int)} {j D c : Nat} {m : Int} {w0 wr : World} (h : Iw p L j D c m w0 wr) : p.B ≤ wr.heap.size := by
  obtain ⟨nv, sv, hg⟩ := h.gr
  exact hg.tlt
theorem Iw.fit {p : Pm} {L : List (Int × Int)} {j D c : Nat} {m : Int} {w0 wr : World} (h : Iw p L j D c m w0 wr) : p.Fit := by
  obtain ⟨nv, sv, hg⟩ := h.gr
  exact hg.fit
theorem drop_get {L : List (Int × Int)} {j : Nat} (h : j < L.length) : L.drop j = L.getD j (0, 0) :: L.drop (j + 1) := by
  rw [List.drop_eq_getElem_cons h, List.getD, List.getElem?_eq_getElem h]; rfl
theorem Pm.nx_mem {p : Pm} {c d : Nat} : d ∈ p.nx c ↔ p.lv c = true ∧ d ∈ p.near c := by
  unfold Pm.nx
  split
  · rename_i h; exact ⟨fun k => ⟨h, k⟩, fun k => k.2⟩
  · rename_i h; exact ⟨fun k => by (cases k), fun k => absurd k.1 h⟩
theorem nx_contains {xs : List Nat} {n : Nat} (hn : n = xs.length) {x : Int} : (il (fun j => ((xs.getD j 0 : Nat) : Int)) n).contains x = true ↔ ∃ d : Nat, x = (d : Int) ∧ d ∈ xs := by
  subst hn
  rw [List.contains_iff_mem]
  unfold il
  rw [List.mem_map]
  constructor
  · rintro ⟨j, hj, rfl⟩
    exact ⟨xs.getD j 0, rfl, getD_mem (by simpa using hj)⟩
  · rintro ⟨d, rfl, hd⟩
    obtain ⟨i, hi, rfl⟩ := List.getElem_of_mem hd
    exact ⟨i, by simpa using hi, by rw [List.getD, List.getElem?_eq_getElem hi]; rfl⟩
end Sp
end Go.Proofs.YtcdclghmebgpnaaGreatDoor
end
