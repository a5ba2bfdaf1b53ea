/-
  Layer 7: plain mathematics: ways through time, found by when a robot can be in each window.
  Layer 7: plain mathematics: when a cell is free, and the windows in which a robot may be there.
  Layer 7: a ground in memory.
  Layer 7: what is written to a ground.
  Layer 7: nearTo, next.
-/
import Derived.Test.YtcdclghmebgpnaaGreatDoorRows
import Derived.Test.YtcdclghmebgpnaaGreatDoorWnSu
import Derived.Test.YtcdclghmebgpnaaGreatDoorPtGa
import Derived.Test.YtcdclghmebgpnaaGreatDoorHpWa
set_option linter.unusedVariables false
set_option maxRecDepth 100000
section
namespace Go.Proofs.YtcdclghmebgpnaaGreatDoor
namespace Sp

/-- Windows stand in order, and apart from one another. -/
structure Seps (L : List (Int × Int)) : Prop where
  pos : ∀ i, i < L.length → (L.getD i (0, 0)).1 < (L.getD i (0, 0)).2
  apart : ∀ i j, i < j → j < L.length → (L.getD i (0, 0)).2 < (L.getD j (0, 0)).1
/-- The window at a place has a moment in it. -/
def At (L : List (Int × Int)) (k : Nat) (m : Int) : Prop := k < L.length ∧ (L.getD k (0, 0)).1 ≤ m ∧ m < (L.getD k (0, 0)).2
def In (L : List (Int × Int)) (m : Int) : Prop := ∃ k, At L k m
theorem At.uniq {L : List (Int × Int)} (h : Seps L) {i j : Nat} {m : Int} (hi : At L i m) (hj : At L j m) : i = j := by
  obtain ⟨a1, a2, a3⟩ := hi
  obtain ⟨b1, b2, b3⟩ := hj
  rcases Nat.lt_trichotomy i j with h1 | h1 | h1
  · have := h.apart i j h1 b1; omega
  · exact h1
  · have := h.apart j i h1 a1; omega
/-- A moment and the next one lie in one window. -/
theorem At.next {L : List (Int × Int)} (h : Seps L) {i j : Nat} {m : Int} (hi : At L i m) (hj : At L j (m + 1)) : i = j := by
  obtain ⟨a1, a2, a3⟩ := hi
  obtain ⟨b1, b2, b3⟩ := hj
  rcases Nat.lt_trichotomy i j with h1 | h1 | h1
  · have := h.apart i j h1 b1; omega
  · exact h1
  · have := h.apart j i h1 a1; have := h.pos j b1; omega

/-- Where a robot is asked for: how many cells, what is near, which cells may be left, when a robot may be there, from which cell and moment on. -/
structure Env where
  N : Nat
  nr : Nat → List Nat
  lv : Nat → Bool
  O : Nat → List (Int × Int)
  a : Nat
  t0 : Int
def Env.win (e : Env) (c k : Nat) : Int × Int := (e.O c).getD k (0, 0)
structure Env.Ok (e : Env) : Prop where
  seps : ∀ c, Seps (e.O c)
  nrlt : ∀ c, c < e.N → ∀ d ∈ e.nr c, d < e.N
  alt : e.a < e.N
  start : In (e.O e.a) e.t0
  upto : ∀ c k, k < (e.O c).length → (e.win c k).2 ≤ 1048576
/-- A robot can be in a cell at a moment. -/
inductive Env.R (e : Env) : Int → Nat → Prop
  | start : Env.R e e.t0 e.a
  | stay {m : Int} {c : Nat} : Env.R e m c → In (e.O c) (m + 1) → Env.R e (m + 1) c
  | go {m : Int} {c d : Nat} : Env.R e m c → e.lv c = true → d ∈ e.nr c → In (e.O d) (m + 1) → Env.R e (m + 1) d
theorem Env.R.lt {e : Env} (h : e.Ok) {m : Int} {c : Nat} (r : e.R m c) : c < e.N := by
  induction r with
  | start => exact h.alt
  | stay _ _ ih => exact ih
  | go _ _ hd _ ih => exact h.nrlt _ ih _ hd
theorem Env.R.ge {e : Env} {m : Int} {c : Nat} (r : e.R m c) : e.t0 ≤ m := by
  induction r with
  | start => exact Int.le_refl _
  | stay _ _ ih => omega
  | go _ _ _ _ ih => omega
theorem Env.R.first {e : Env} {m : Int} {c : Nat} (r : e.R m c) (hm : m = e.t0) : c = e.a := by
  cases r with
  | start => rfl
  | stay r _ => have := r.ge; omega
  | go r _ _ _ => have := r.ge; omega
theorem Env.R.in {e : Env} (h : e.Ok) {m : Int} {c : Nat} (r : e.R m c) : In (e.O c) m := by
  cases r with
  | start => exact h.start
  | stay _ i => exact i
  | go _ _ _ i => exact i
theorem Env.R.on {e : Env} {c k : Nat} {m : Int} (r : e.R m c) (hk : At (e.O c) k m) : ∀ (n : Nat), m + n < (e.win c k).2 → e.R (m + n) c
  | 0, _ => by simpa using r
  | n + 1, h => by
    have ih := Env.R.on r hk n (by omega)
    have e1 : m + ((n + 1 : Nat) : Int) = (m + n) + 1 := by omega
    rw [e1]
    refine .stay ih ⟨k, hk.1, ?_, by show _ < (e.win c k).2; omega⟩
    have := hk.2.1
    omega
/-- One before. -/
theorem Env.R.prev {e : Env} {m : Int} {c : Nat} (r : e.R m c) (hm : e.t0 < m) : e.R (m - 1) c ∨ ∃ d, e.R (m - 1) d ∧ e.lv d = true ∧ c ∈ e.nr d := by
  cases r with
  | start => omega
  | stay r _ => left; rw [Int.add_sub_cancel]; exact r
  | go r l hd _ => right; exact ⟨_, by rw [Int.add_sub_cancel]; exact r, l, hd⟩

/-- Since when a robot can be in its stays: all of it, when it was found so. -/
structure Done (e : Env) (last : Int) (S : Nat → Nat → Int) : Prop where
  begun : ∀ k, At (e.O e.a) k e.t0 → S e.a k = e.t0
  sound : ∀ c k, c < e.N → k < (e.O c).length → S c k ≠ 1048576 → (e.win c k).1 ≤ S c k ∧ S c k < (e.win c k).2 ∧ S c k ≤ last ∧ e.R (S c k) c
  out : ∀ c k, c < e.N → k < (e.O c).length → S c k ≠ 1048576 → e.lv c = true → ∀ d ∈ e.nr c, ∀ j, j < (e.O d).length → S c k + 1 < (e.win d j).2 → max (S c k + 1) (e.win d j).1 ≤ min last (e.win c k).2 → S d j ≤ max (S c k + 1) (e.win d j).1
theorem Done.found {e : Env} (h : e.Ok) {last : Int} {S : Nat → Nat → Int} (D : Done e last S) {m : Int} {c : Nat} (r : e.R m c) : m ≤ last → ∃ k, At (e.O c) k m ∧ S c k ≤ m := by
  induction r with
  | start =>
    intro _
    obtain ⟨k, hk⟩ := h.start
    exact ⟨k, hk, by rw [D.begun k hk]; exact Int.le_refl _⟩
  | @stay m c r i ih =>
    intro hm
    obtain ⟨k, hk, hs⟩ := ih (by omega)
    obtain ⟨j, hj⟩ := i
    obtain rfl := hk.next (h.seps c) hj
    exact ⟨k, hj, by omega⟩
  | @go m c d r l hd i ih =>
    intro hm
    obtain ⟨k, hk, hs⟩ := ih (by omega)
    obtain ⟨j, hj⟩ := i
    refine ⟨j, hj, ?_⟩
    have hc := r.lt h
    have hne : S c k ≠ 1048576 := by
      intro e1
      have h1 := hk.2.2
      have h2 := h.upto c k hk.1
      have : (e.win c k) = (e.O c).getD k (0, 0) := rfl
      rw [← this] at h1
      omega
    obtain ⟨j1, j2, j3⟩ := hj
    have w1 : (e.win d j) = (e.O d).getD j (0, 0) := rfl
    have w2 : (e.win c k) = (e.O c).getD k (0, 0) := rfl
    have k3 := hk.2.2
    rw [← w1] at j2 j3
    rw [← w2] at k3
    have := D.out c k hc hk.1 hne l d hd j j1 (by omega) (by omega)
    omega
/-- A robot can be in a cell at a moment just where a stay has it, that is found by then. -/
theorem Done.iff {e : Env} (h : e.Ok) {last : Int} {S : Nat → Nat → Int} (D : Done e last S) {m : Int} {c : Nat} (hc : c < e.N) (hm : m ≤ last) : e.R m c ↔ ∃ k, At (e.O c) k m ∧ S c k ≤ m := by
  constructor
  · intro r; exact D.found h r hm
  · rintro ⟨k, hk, hs⟩
    have k3 := hk.2.2
    have w2 : (e.win c k) = (e.O c).getD k (0, 0) := rfl
    rw [← w2] at k3
    have hu := h.upto c k hk.1
    obtain ⟨s1, s2, s3, s4⟩ := D.sound c k hc hk.1 (by omega)
    have := s4.on (k := k) ⟨hk.1, s1, s2⟩ (m - S c k).toNat (by omega)
    rw [show S c k + ((m - S c k).toNat : Int) = m by omega] at this
    exact this
/-- The first moment. -/
theorem Done.soon {e : Env} (h : e.Ok) {last : Int} {S : Nat → Nat → Int} (D : Done e last S) {c k : Nat} (hc : c < e.N) (hk : k < (e.O c).length) (hS : S c k ≠ 1048576) (hb : ∀ j, j < k → S c j = 1048576) : e.R (S c k) c ∧ S c k ≤ last ∧ ∀ m, e.R m c → S c k ≤ m := by
  obtain ⟨s1, s2, s3, s4⟩ := D.sound c k hc hk hS
  refine ⟨s4, s3, fun m r => ?_⟩
  rcases Int.lt_or_le last m with h1 | h1
  · omega
  · obtain ⟨j, hj, hjs⟩ := D.found h r h1
    have w2 : (e.win c j) = (e.O c).getD j (0, 0) := rfl
    have j3 := hj.2.2
    rw [← w2] at j3
    have hu := h.upto c j hj.1
    rcases Nat.lt_trichotomy j k with h2 | h2 | h2
    · have := hb j h2; omega
    · subst h2; exact hjs
    · have := (h.seps c).apart k j h2 hj.1
      have w3 : (e.win c k) = (e.O c).getD k (0, 0) := rfl
      rw [← w3] at this
      have := hj.2.1
      omega
theorem Done.never {e : Env} (h : e.Ok) {last : Int} {S : Nat → Nat → Int} (D : Done e last S) {c : Nat} (hS : ∀ k, k < (e.O c).length → S c k = 1048576) : ∀ m, m ≤ last → ¬ e.R m c := by
  intro m hm r
  obtain ⟨j, hj, hjs⟩ := D.found h r hm
  have w2 : (e.win c j) = (e.O c).getD j (0, 0) := rfl
  have j3 := hj.2.2
  rw [← w2] at j3
  have hu := h.upto c j hj.1
  have := hS j hj.1
  omega


/-- A stay found: all that is come to out of it. -/
def Gone (e : Env) (last : Int) (S : Nat → Nat → Int) (x : Int) (c k d j : Nat) : Prop := x + 1 < (e.win d j).2 → max (x + 1) (e.win d j).1 ≤ min last (e.win c k).2 → S d j ≤ max (x + 1) (e.win d j).1
/-- The search, when so much was found: what waits is P; of the stays in Hd it is not known that all was gone from; cur is since when. -/
structure Sv (e : Env) (last : Int) (S : Nat → Nat → Int) (P : Int → Nat → Prop) (cur : Int) (Hd : Nat → Nat → Prop) : Prop where
  begun : ∀ k, At (e.O e.a) k e.t0 → S e.a k = e.t0
  sound : ∀ c k, c < e.N → k < (e.O c).length → S c k ≠ 1048576 → (e.win c k).1 ≤ S c k ∧ S c k < (e.win c k).2 ∧ S c k ≤ last ∧ e.R (S c k) c
  wait : ∀ c k, c < e.N → k < (e.O c).length → S c k ≠ 1048576 → P (S c k) c ∨ Hd c k ∨ (e.lv c = true → ∀ d ∈ e.nr c, ∀ j, j < (e.O d).length → Gone e last S (S c k) c k d j)
  mem : ∀ x c, P x c → c < e.N ∧ cur ≤ x ∧ ∃ k, k < (e.O c).length ∧ S c k = x ∧ S c k ≠ 1048576
  cap : ∀ c k, c < e.N → k < (e.O c).length → S c k ≠ 1048576 → S c k ≤ max (cur + 1) (e.win c k).1
theorem Sv.done {e : Env} {last : Int} {S : Nat → Nat → Int} {P : Int → Nat → Prop} {cur : Int} (h : Sv e last S P cur (fun _ _ => False)) (hP : ∀ x c, ¬ P x c) : Done e last S :=
  ⟨h.begun, h.sound, fun c k hc hk hS => by
    rcases h.wait c k hc hk hS with x | x | x
    · exact (hP _ _ x).elim
    · exact x.elim
    · exact x⟩
/-- One entry is set. -/
def put (S : Nat → Nat → Int) (d j : Nat) (v : Int) : Nat → Nat → Int := fun c k => if c = d ∧ k = j then v else S c k
theorem put_same (S : Nat → Nat → Int) (d j : Nat) (v : Int) : put S d j v d j = v := by simp [put]
theorem put_ne (S : Nat → Nat → Int) {d j c k : Nat} (v : Int) (h : ¬ (c = d ∧ k = j)) : put S d j v c k = S c k := by simp [put, h]
theorem Env.Ok.at_lt {e : Env} (h : e.Ok) : e.t0 < 1048576 := by
  obtain ⟨k, h1, h2, h3⟩ := h.start
  have := h.upto e.a k h1
  have w2 : (e.win e.a k) = (e.O e.a).getD k (0, 0) := rfl
  rw [← w2] at h3
  omega
theorem Sv.start {e : Env} (h : e.Ok) {last : Int} (hl : e.t0 ≤ last) {k : Nat} (hk : At (e.O e.a) k e.t0) : Sv e last (put (fun _ _ => 1048576) e.a k e.t0) (fun x c => x = e.t0 ∧ c = e.a) e.t0 (fun _ _ => False) := by
  have ht := h.at_lt
  have key : ∀ c k', put (fun _ _ => 1048576) e.a k e.t0 c k' ≠ 1048576 → c = e.a ∧ k' = k := fun c k' hn => by
    refine Classical.byContradiction fun hc => hn ?_
    rw [put_ne _ _ hc]
  refine ⟨fun k' hk' => ?_, fun c k' hc hk' hS => ?_, fun c k' hc hk' hS => ?_, fun x c hx => ?_, fun c k' hc hk' hS => ?_⟩
  · obtain rfl := hk.uniq (h.seps _) hk'
    exact put_same _ _ _ _
  · obtain ⟨rfl, rfl⟩ := key _ _ hS
    rw [put_same]
    exact ⟨hk.2.1, hk.2.2, hl, .start⟩
  · obtain ⟨rfl, rfl⟩ := key _ _ hS
    exact .inl ⟨put_same _ _ _ _, rfl⟩
  · obtain ⟨rfl, rfl⟩ := hx
    exact ⟨h.alt, Int.le_refl _, k, hk.1, put_same _ _ _ _, by rw [put_same]; omega⟩
  · obtain ⟨rfl, rfl⟩ := key _ _ hS
    rw [put_same]; omega
/-- The next one is taken out. -/
theorem Sv.pop {e : Env} (h : e.Ok) {last : Int} {S : Nat → Nat → Int} {P P' : Int → Nat → Prop} {cur x : Int} {c k : Nat} (v : Sv e last S P cur (fun _ _ => False)) (hk : At (e.O c) k x) (hc : c < e.N) (hS : S c k = x) (hx : P x c) (hmin : ∀ y d, P y d → x ≤ y) (hP : ∀ y d, P' y d → P y d) (hP2 : ∀ y d, P y d → P' y d ∨ (y = x ∧ d = c)) :
    Sv e last S P' x (fun d j => d = c ∧ j = k) := by
  refine ⟨v.begun, v.sound, fun d j hd hj hn => ?_, fun y d hy => ?_, fun d j hd hj hn => ?_⟩
  · rcases v.wait d j hd hj hn with q | q | q
    · rcases hP2 _ _ q with q | ⟨q1, q2⟩
      · exact .inl q
      · subst q2
        obtain ⟨s1, s2, _⟩ := v.sound d j hd hj hn
        rw [q1] at s1 s2
        exact .inr (.inl ⟨rfl, (At.uniq (h.seps d) (i := j) (j := k) ⟨hj, s1, s2⟩ hk)⟩)
    · exact q.elim
    · exact .inr (.inr q)
  · obtain ⟨q1, q2, q3⟩ := v.mem y d (hP y d hy)
    exact ⟨q1, hmin y d (hP y d hy), q3⟩
  · have := v.cap d j hd hj hn
    have := (v.mem x c hx).2.1
    omega
/-- A stay that waits stands somewhere. -/
theorem Sv.stands {e : Env} {last : Int} {S : Nat → Nat → Int} {P : Int → Nat → Prop} {cur : Int} {Hd : Nat → Nat → Prop} (v : Sv e last S P cur Hd) {x : Int} {c : Nat} (hx : P x c) : ∃ k, At (e.O c) k x ∧ c < e.N ∧ S c k = x ∧ x ≤ last ∧ S c k ≠ 1048576 := by
  obtain ⟨h1, h2, k, h3, h4, h5⟩ := v.mem x c hx
  obtain ⟨s1, s2, s3, _⟩ := v.sound c k h1 h3 h5
  rw [h4] at s1 s2 s3
  exact ⟨k, ⟨h3, s1, s2⟩, h1, h4, s3, h5⟩
/-- A stay is found out of the one that is gone from. -/
theorem Sv.find {e : Env} (h : e.Ok) {last : Int} {S : Nat → Nat → Int} {P P' : Int → Nat → Prop} {x : Int} {c k d j : Nat} {Hd : Nat → Nat → Prop} (v : Sv e last S P x Hd) (hc : c < e.N) (hk : k < (e.O c).length) (hS : S c k = x) (hn : S c k ≠ 1048576)
    (hl : e.lv c = true) (hd : d ∈ e.nr c) (hj : j < (e.O d).length) (hf : S d j = 1048576) (h1 : x + 1 < (e.win d j).2) (h2 : max (x + 1) (e.win d j).1 ≤ min last (e.win c k).2)
    (hP : ∀ y b, P y b → P' y b) (hP2 : ∀ y b, P' y b → P y b ∨ (y = max (x + 1) (e.win d j).1 ∧ b = d)) (hP3 : P' (max (x + 1) (e.win d j).1) d) :
    Sv e last (put S d j (max (x + 1) (e.win d j).1)) P' x Hd := by
  have hdN := h.nrlt c hc d hd
  have hu := h.upto d j hj
  have hpos := (h.seps d).pos j hj
  have w1 : (e.win d j) = (e.O d).getD j (0, 0) := rfl
  rw [← w1] at hpos
  generalize hv : max (x + 1) (e.win d j).1 = val at *
  have hval : val < (e.win d j).2 := by omega
  have hne : ∀ b i, S b i ≠ 1048576 → put S d j val b i = S b i := fun b i hb => put_ne _ _ fun q => hb (by rw [q.1, q.2]; exact hf)
  obtain ⟨s1, s2, s3, s4⟩ := v.sound c k hc hk hn
  refine ⟨fun i hi => ?_, fun b i hb hi hn' => ?_, fun b i hb hi hn' => ?_, fun y b hy => ?_, fun b i hb hi hn' => ?_⟩
  · have := v.begun i hi
    rw [hne _ _ (by rw [this]; have := h.at_lt; omega)]
    exact this
  · by_cases q : b = d ∧ i = j
    · obtain ⟨rfl, rfl⟩ := q
      rw [put_same]
      refine ⟨by omega, hval, by omega, ?_⟩
      have r := s4.on (k := k) ⟨hk, s1, s2⟩ (val - 1 - S c k).toNat (by omega)
      rw [show S c k + ((val - 1 - S c k).toNat : Int) = val - 1 by omega] at r
      have := Env.R.go r hl hd ⟨i, hj, by rw [← w1]; omega, by rw [← w1]; omega⟩
      rw [Int.sub_add_cancel] at this
      exact this
    · rw [put_ne _ _ q] at hn' ⊢
      exact v.sound b i hb hi hn'
  · by_cases q : b = d ∧ i = j
    · obtain ⟨rfl, rfl⟩ := q
      rw [put_same]
      exact .inl hP3
    · rw [put_ne _ _ q] at hn' ⊢
      rcases v.wait b i hb hi hn' with q | q | q
      · exact .inl (hP _ _ q)
      · exact .inr (.inl q)
      · refine .inr (.inr fun hlb d' hd' j' hj' g1 g2 => ?_)
        have := q hlb d' hd' j' hj' g1 g2
        by_cases q' : d' = d ∧ j' = j
        · obtain ⟨rfl, rfl⟩ := q'
          rw [put_same]
          rw [hf] at this
          omega
        · rw [put_ne _ _ q']; exact this
  · rcases hP2 y b hy with q | ⟨q1, q2⟩
    · obtain ⟨z1, z2, i, z3, z4, z5⟩ := v.mem y b q
      exact ⟨z1, z2, i, z3, by rw [hne _ _ z5]; exact z4, by rw [hne _ _ z5]; exact z5⟩
    · subst q2
      exact ⟨hdN, by omega, j, hj, by rw [put_same]; exact q1.symm, by rw [put_same]; omega⟩
  · by_cases q : b = d ∧ i = j
    · obtain ⟨rfl, rfl⟩ := q
      rw [put_same]; omega
    · rw [put_ne _ _ q] at hn' ⊢
      exact v.cap b i hb hi hn'
/-- All was gone from. -/
theorem Sv.left {e : Env} {last : Int} {S : Nat → Nat → Int} {P : Int → Nat → Prop} {x : Int} {c k : Nat} (v : Sv e last S P x (fun d j => d = c ∧ j = k)) (hS : S c k = x) (hg : e.lv c = true → ∀ d ∈ e.nr c, ∀ j, j < (e.O d).length → Gone e last S x c k d j) :
    Sv e last S P x (fun _ _ => False) :=
  ⟨v.begun, v.sound, fun b i hb hi hn => by
    rcases v.wait b i hb hi hn with q | ⟨rfl, rfl⟩ | q
    · exact .inl q
    · exact .inr (.inr (by rw [hS]; exact hg))
    · exact .inr (.inr q), v.mem, v.cap⟩
/-- One that was found already. -/
theorem Sv.old {e : Env} {last : Int} {S : Nat → Nat → Int} {P : Int → Nat → Prop} {x : Int} {Hd : Nat → Nat → Prop} (v : Sv e last S P x Hd) {c k d j : Nat} (hd : d < e.N) (hj : j < (e.O d).length) (hf : S d j ≠ 1048576) : Gone e last S x c k d j := fun _ _ => v.cap d j hd hj hf
theorem Gone.put {e : Env} {last : Int} {S : Nat → Nat → Int} {x : Int} {c k d j d' j' : Nat} {val : Int} (g : Gone e last S x c k d j) (hf : S d' j' = 1048576) (hv : val ≤ 1048576) : Gone e last (put S d' j' val) x c k d j := fun h1 h2 => by
  have := g h1 h2
  by_cases q : d = d' ∧ j = j'
  · obtain ⟨rfl, rfl⟩ := q
    rw [put_same]
    omega
  · rw [put_ne _ _ q]; exact this

/-- So many together. -/
def tot (f : Nat → Nat) : Nat → Nat
  | 0 => 0
  | n + 1 => tot f n + f n
theorem tot_congr {f g : Nat → Nat} : ∀ {n : Nat}, (∀ i, i < n → f i = g i) → tot f n = tot g n
  | 0, _ => rfl
  | n + 1, h => by unfold tot; rw [tot_congr fun i hi => h i (by omega), h n (by omega)]
theorem tot_set {f g : Nat → Nat} {k : Nat} (hg : ∀ i, i ≠ k → g i = f i) : ∀ {n : Nat}, k < n → tot g n + f k = tot f n + g k
  | 0, h => by omega
  | n + 1, h => by
    unfold tot
    by_cases e : k = n
    · subst e; rw [tot_congr (f := g) (g := f) fun i hi => hg i (by omega)]; omega
    · have := tot_set hg (n := n) (by omega)
      rw [hg n (by omega)]; omega
theorem tot_le {f : Nat → Nat} {B : Nat} : ∀ {n : Nat}, (∀ i, i < n → f i ≤ B) → tot f n ≤ n * B
  | 0, _ => by simp [tot]
  | n + 1, h => by
    have := tot_le (n := n) fun i hi => h i (by omega)
    have := h n (by omega)
    unfold tot
    rw [Nat.succ_mul]; omega
/-- How many stays were not found. -/
def Un (e : Env) (S : Nat → Nat → Int) : Nat := tot (fun c => tot (fun k => if S c k = 1048576 then 1 else 0) (e.O c).length) e.N
theorem un_put {e : Env} {S : Nat → Nat → Int} {d j : Nat} {val : Int} (hd : d < e.N) (hj : j < (e.O d).length) (hf : S d j = 1048576) (hv : val ≠ 1048576) : Un e (put S d j val) + 1 = Un e S := by
  have h1 := tot_set (f := fun k => if S d k = 1048576 then 1 else 0) (g := fun k => if put S d j val d k = 1048576 then 1 else 0) (k := j) (fun i hi => by show (if put S d j val d i = 1048576 then 1 else 0) = _; rw [put_ne _ _ (fun q => hi q.2)]) hj
  simp only [put_same, hf, hv, if_true, if_false] at h1
  have h2 := tot_set (f := fun c => tot (fun k => if S c k = 1048576 then 1 else 0) (e.O c).length) (g := fun c => tot (fun k => if put S d j val c k = 1048576 then 1 else 0) (e.O c).length) (k := d) (fun i hi => tot_congr fun k hk => by show (if put S d j val i k = 1048576 then 1 else 0) = _; rw [put_ne _ _ (fun q => hi q.1)]) hd
  unfold Un
  omega
theorem un_le {e : Env} (S : Nat → Nat → Int) {B : Nat} (h : ∀ c, c < e.N → (e.O c).length ≤ B) : Un e S ≤ e.N * B :=
  tot_le fun c hc => Nat.le_trans (tot_le (B := 1) fun k hk => by show (if S c k = 1048576 then 1 else 0) ≤ 1; split <;> omega) (by rw [Nat.mul_one]; exact h c hc)

/-- Steps are a way through time from one place and moment to another. -/
inductive Env.Wy (e : Env) : Nat → Int → List (Nat × Int) → Nat → Int → Prop
  | nil (c : Nat) (m : Int) : Env.Wy e c m [] c m
  | cons {c d b : Nat} {m u t : Int} {k : Nat} {l : List (Nat × Int)} : At (e.O c) k m → m < u → u ≤ (e.win c k).2 → e.lv c = true → d ∈ e.nr c → Env.Wy e d u l b t → Env.Wy e c m ((d, u) :: l) b t
theorem Env.Wy.snoc {e : Env} {c b d : Nat} {m t u : Int} {k : Nat} {l : List (Nat × Int)} (h : e.Wy c m l b t) (hk : At (e.O b) k t) (hu : t < u) (hw : u ≤ (e.win b k).2) (hl : e.lv b = true) (hd : d ∈ e.nr b) : e.Wy c m (l ++ [(d, u)]) d u := by
  induction h with
  | nil c m => exact .cons hk hu hw hl hd (.nil _ _)
  | cons a1 a2 a3 a4 a5 _ ih => exact .cons a1 a2 a3 a4 a5 (ih hk hu hw hl hd)
/-- Where it came from. -/
def Env.org (e : Env) (cn : Int → Nat → Bool) (m : Int) (c : Nat) : Option Nat := (e.nr c).find? fun d => e.lv d && cn (m - 1) d
/-- Whether it has been there since the start. -/
def Env.stl (e : Env) (m : Int) (c : Nat) : Bool := c == e.a && decide (m < (e.win e.a 0).2)
/-- The steps, told from their end. -/
def Env.bk (e : Env) (cn : Int → Nat → Bool) : Nat → Nat → List (Nat × Int)
  | 0, _ => []
  | n + 1, c => if e.stl (e.t0 + (n + 1 : Nat)) c = true then [] else
    match e.org cn (e.t0 + (n + 1 : Nat)) c with
    | some d => Env.bk e cn n d ++ [(c, e.t0 + (n + 1 : Nat))]
    | none => Env.bk e cn n c
/-- As far as is looked ahead it is told where a robot can be; it starts in its first window there; what is near is so both ways. -/
structure Env.Cn (e : Env) (last : Int) (cn : Int → Nat → Bool) : Prop where
  ok : e.Ok
  first : At (e.O e.a) 0 e.t0
  sym : ∀ m c d, e.R m c → d ∈ e.nr c → c ∈ e.nr d
  iff : ∀ m c, c < e.N → e.t0 ≤ m → m ≤ last → (cn m c = true ↔ e.R m c)
theorem Env.Cn.org_some {e : Env} {last : Int} {cn : Int → Nat → Bool} (h : e.Cn last cn) {m : Int} {c d : Nat} (hm : e.t0 < m) (hl : m ≤ last) (hc : c < e.N) (ho : e.org cn m c = some d) : d < e.N ∧ d ∈ e.nr c ∧ e.lv d = true ∧ e.R (m - 1) d := by
  have h1 := List.mem_of_find?_eq_some ho
  have h2 := List.find?_some ho
  simp only [Bool.and_eq_true] at h2
  have hd := h.ok.nrlt c hc d h1
  exact ⟨hd, h1, h2.1, (h.iff _ _ hd (by omega) (by omega)).1 h2.2⟩
theorem Env.Cn.org_none {e : Env} {last : Int} {cn : Int → Nat → Bool} (h : e.Cn last cn) {m : Int} {c : Nat} (hm : e.t0 < m) (hl : m ≤ last) (hc : c < e.N) (ho : e.org cn m c = none) (r : e.R m c) : e.R (m - 1) c := by
  rcases r.prev hm with r1 | ⟨d, r1, l1, n1⟩
  · exact r1
  · have hd := r1.lt h.ok
    have := List.find?_eq_none.1 ho d (h.sym _ d c r1 n1)
    rw [l1, (h.iff _ _ hd (by omega) (by omega)).2 r1] at this
    exact absurd rfl this
/-- What is told is a way through time, that ends where it was asked for. -/
theorem Env.Cn.way {e : Env} {last : Int} {cn : Int → Nat → Bool} (h : e.Cn last cn) : ∀ (n : Nat) (c : Nat), e.t0 + n ≤ last → e.R (e.t0 + n) c → ∃ m, e.Wy e.a e.t0 (e.bk cn n c) c m ∧ m ≤ e.t0 + n ∧ ∃ k, At (e.O c) k m ∧ At (e.O c) k (e.t0 + n)
  | 0, c, hl, r => by
    obtain rfl := r.first (by omega)
    exact ⟨e.t0, .nil _ _, by omega, 0, h.first, by rw [show e.t0 + ((0 : Nat) : Int) = e.t0 by omega]; exact h.first⟩
  | n + 1, c, hl, r => by
    have hc := r.lt h.ok
    have hm : e.t0 < e.t0 + ((n + 1 : Nat) : Int) := by omega
    have e1 : e.t0 + ((n + 1 : Nat) : Int) - 1 = e.t0 + (n : Int) := by omega
    unfold Env.bk
    by_cases hs : e.stl (e.t0 + (n + 1 : Nat)) c = true
    · rw [if_pos hs]
      unfold Env.stl at hs
      simp only [Bool.and_eq_true, beq_iff_eq, decide_eq_true_eq] at hs
      obtain ⟨rfl, hs⟩ := hs
      refine ⟨e.t0, .nil _ _, by omega, 0, h.first, h.first.1, ?_, hs⟩
      have := h.first.2.1
      omega
    · rw [if_neg hs]
      cases ho : e.org cn (e.t0 + (n + 1 : Nat)) c with
      | none =>
        have r1 := h.org_none hm hl hc ho r
        rw [e1] at r1
        obtain ⟨m, w, hm', k, k1, k2⟩ := Env.Cn.way h n c (by omega) r1
        obtain ⟨j, hj⟩ := r.in h.ok
        rw [show e.t0 + ((n + 1 : Nat) : Int) = (e.t0 + (n : Int)) + 1 by omega] at hj
        have := k2.next (h.ok.seps c) hj
        subst this
        exact ⟨m, w, by omega, k, k1, by rw [show e.t0 + ((n + 1 : Nat) : Int) = (e.t0 + (n : Int)) + 1 by omega]; exact hj⟩
      | some d =>
        obtain ⟨d1, d2, d3, d4⟩ := h.org_some hm hl hc ho
        rw [e1] at d4
        obtain ⟨m, w, hm', k, k1, k2⟩ := Env.Cn.way h n d (by omega) d4
        obtain ⟨j, hj⟩ := r.in h.ok
        refine ⟨_, w.snoc k1 (by omega) ?_ d3 (h.sym _ c d r d2), Int.le_refl _, j, hj, hj⟩
        have := k2.2.2
        have w2 : (e.win d k) = (e.O d).getD k (0, 0) := rfl
        rw [← w2] at this
        omega
/-- Where it comes as soon as can be, it comes at that moment. -/
theorem Env.Cn.last {e : Env} {last : Int} {cn : Int → Nat → Bool} (h : e.Cn last cn) {n c : Nat} (hl : e.t0 + n ≤ last) (r : e.R (e.t0 + n) c) (hmin : ∀ m, e.R m c → e.t0 + n ≤ m) : (c = e.a ∧ n = 0 ∧ e.bk cn n c = []) ∨ (c ≠ e.a ∧ ∃ l, e.bk cn n c = l ++ [(c, e.t0 + (n : Int))]) := by
  by_cases hc : c = e.a
  · have := hmin e.t0 (by rw [hc]; exact .start)
    obtain rfl : n = 0 := by omega
    exact .inl ⟨hc, rfl, rfl⟩
  · refine .inr ⟨hc, ?_⟩
    cases n with
    | zero => exact absurd (r.first (by omega)) hc
    | succ n =>
      unfold Env.bk
      have hs : e.stl (e.t0 + (n + 1 : Nat)) c = false := by
        unfold Env.stl
        rw [beq_eq_false_iff_ne.2 hc]; rfl
      rw [if_neg (by rw [hs]; exact Bool.false_ne_true)]
      cases ho : e.org cn (e.t0 + (n + 1 : Nat)) c with
      | none =>
        have r1 := h.org_none (by omega) hl (r.lt h.ok) ho r
        have := hmin _ r1
        omega
      | some d => exact ⟨_, rfl⟩
/-- The moments rise, and lie ahead of the last one. -/
theorem Env.Wy.rise {e : Env} {c b : Nat} {m t : Int} {l : List (Nat × Int)} (h : e.Wy c m l b t) : m ≤ t ∧ (∀ q ∈ l, m < q.2 ∧ q.2 ≤ t) := by
  induction h with
  | nil c m => exact ⟨Int.le_refl _, fun q hq => by cases hq⟩
  | cons a1 a2 a3 a4 a5 _ ih =>
    refine ⟨by omega, fun q hq => ?_⟩
    rcases List.mem_cons.1 hq with rfl | hq
    · exact ⟨a2, ih.1⟩
    · have := ih.2 q hq; omega
/-- With windows in fewer places nothing is reached sooner. -/
theorem Env.R.more {e e' : Env} (hn : e'.nr = e.nr) (hlv : e'.lv = e.lv) (ha : e'.a = e.a) (ht : e'.t0 = e.t0) (hO : ∀ c m, e.t0 < m → In (e'.O c) m → In (e.O c) m) {m : Int} {c : Nat} (r : e'.R m c) : e.R m c := by
  induction r with
  | start => rw [ha, ht]; exact .start
  | stay r i ih => have := r.ge; exact .stay ih (hO _ _ (by omega) i)
  | go r l d i ih => have := r.ge; exact .go ih (by rw [← hlv]; exact l) (by rw [← hn]; exact d) (hO _ _ (by omega) i)
end Sp
end Go.Proofs.YtcdclghmebgpnaaGreatDoor
end

section
namespace Go.Proofs.YtcdclghmebgpnaaGreatDoor
namespace Sp
open Wn
/-- Free windows stand apart. -/
def SepL : Int → List (Int × Int) → Prop
  | _, [] => True
  | f, p :: r => f ≤ p.1 ∧ p.1 < p.2 ∧ p.2 ≤ 1048576 ∧ SepL (p.2 + 1) r
theorem SepL.lower {f f' : Int} : ∀ {L : List (Int × Int)}, SepL f L → f' ≤ f → SepL f' L
  | [], _, _ => trivial
  | p :: r, ⟨h1, h2, h3, h4⟩, h => ⟨by omega, h2, h3, h4⟩
theorem SepL.least {f : Int} : ∀ {L : List (Int × Int)}, SepL f L → ∀ t, t < L.length → f ≤ (L.getD t (0, 0)).1 ∧ (L.getD t (0, 0)).1 < (L.getD t (0, 0)).2 ∧ (L.getD t (0, 0)).2 ≤ 1048576
  | [], _, t, ht => by simp at ht
  | p :: r, ⟨h1, h2, h3, h4⟩, 0, _ => ⟨h1, h2, h3⟩
  | p :: r, ⟨h1, h2, h3, h4⟩, t + 1, ht => by
    have := SepL.least h4 t (by simpa using ht)
    rw [List.getD_cons_succ]
    omega
theorem SepL.apart {f : Int} : ∀ {L : List (Int × Int)}, SepL f L → ∀ i j, i < j → j < L.length → (L.getD i (0, 0)).2 < (L.getD j (0, 0)).1
  | [], _, i, j, _, h => by simp at h
  | p :: r, ⟨h1, h2, h3, h4⟩, 0, j + 1, _, h => by
    have := SepL.least h4 j (by simpa using h)
    rw [List.getD_cons_succ]
    show p.2 < _
    omega
  | p :: r, ⟨h1, h2, h3, h4⟩, i + 1, j + 1, hij, h => by
    rw [List.getD_cons_succ, List.getD_cons_succ]
    exact SepL.apart h4 i j (by omega) (by simpa using h)
  | p :: r, _, i + 1, 0, hij, h => by omega
  | p :: r, _, 0, 0, hij, h => by omega
theorem SepL.seps {f : Int} {L : List (Int × Int)} (h : SepL f L) : Seps L := ⟨fun i hi => (h.least i hi).2.1, h.apart⟩
theorem gaps_sep : ∀ (L : List (Int × Int)) (f : Int), Ordw f L → f ≤ 1048576 → SepL f (gaps f (L ++ [(1048576, 0)]))
  | [], f, _, h => by
    show SepL f ((if f < (1048576 : Int) then [(f, (1048576 : Int))] else []) ++ [])
    split
    · exact ⟨Int.le_refl _, by assumption, Int.le_refl _, trivial⟩
    · exact trivial
  | p :: r, f, ⟨h1, h2, h3, h4⟩, h => by
    have ih := gaps_sep r p.2 h4 h3
    show SepL f ((if f < p.1 then [(f, p.1)] else []) ++ gaps p.2 (r ++ [(1048576, 0)]))
    split
    · rename_i hlt
      exact ⟨Int.le_refl _, hlt, by show p.1 ≤ 1048576; omega, ih.lower (by show p.1 + 1 ≤ p.2; omega)⟩
    · exact ih.lower (by omega)
theorem frees_sep {L : List (Int × Int)} (h : Ordw 0 L) : SepL 0 (frees L) := gaps_sep L 0 h (by omega)
theorem in_cons {p : Int × Int} {r : List (Int × Int)} {m : Int} : In (p :: r) m ↔ (p.1 ≤ m ∧ m < p.2) ∨ In r m := by
  constructor
  · rintro ⟨k, h1, h2, h3⟩
    cases k with
    | zero => exact .inl ⟨h2, h3⟩
    | succ k => exact .inr ⟨k, by simpa using h1, h2, h3⟩
  · rintro (h | ⟨k, h1, h2, h3⟩)
    · exact ⟨0, by simp, h.1, h.2⟩
    · exact ⟨k + 1, by simpa using h1, h2, h3⟩
theorem in_nil {m : Int} : ¬ In [] m := by rintro ⟨k, h, _⟩; simp at h
theorem in_inW {m : Int} : ∀ {L : List (Int × Int)}, In L m ↔ inW m L = true
  | [] => ⟨fun h => absurd h in_nil, fun h => by cases h⟩
  | p :: r => by
    rw [in_cons, in_inW (L := r)]
    unfold inW
    rw [List.any_cons]
    simp
/-- A cell is free at a moment just where it lies in a free window. -/
theorem in_frees {L : List (Int × Int)} {m : Int} (h : Ordw 0 L) : In (frees L) m ↔ isT L m = true := by
  rw [isT_in h]
  by_cases h0 : 0 ≤ m
  · by_cases h1 : m < 1048576
    · have := in_one L 0 m (Int.le_refl _) h h0 h1
      rw [in_inW]
      unfold frees
      rw [this]
      simp [h0, h1]
    · have : ¬ In (frees L) m := by
        rintro ⟨k, k1, k2, k3⟩
        have := (frees_sep h).least k k1
        omega
      simp [this, h1]
  · have : ¬ In (frees L) m := by
      rintro ⟨k, k1, k2, k3⟩
      have := (frees_sep h).least k k1
      omega
    simp [this, h0]
/-- The windows in which a robot may be in a cell. -/
def late (t0 : Int) (F : List (Int × Int)) : List (Int × Int) := F.filter fun p => decide (t0 < p.2)
def opn (fs : Bool) (t0 : Int) (F : List (Int × Int)) : List (Int × Int) :=
  if fs = true then
    match late t0 F with
    | [] => [(t0, t0 + 1)]
    | p :: r => if p.1 ≤ t0 + 1 then (t0, p.2) :: r else (t0, t0 + 1) :: p :: r
  else late t0 F
theorem late_sep {t0 : Int} : ∀ {F : List (Int × Int)} {f : Int}, SepL f F → SepL f (late t0 F)
  | [], _, _ => trivial
  | p :: r, f, ⟨h1, h2, h3, h4⟩ => by
    have ih := late_sep (t0 := t0) h4
    unfold late at ih ⊢
    rw [List.filter_cons]
    split
    · exact ⟨h1, h2, h3, ih⟩
    · exact ih.lower (by omega)
theorem late_in {t0 m : Int} (hm : t0 ≤ m) : ∀ {F : List (Int × Int)}, In (late t0 F) m ↔ In F m
  | [] => Iff.rfl
  | p :: r => by
    have ih := late_in hm (F := r)
    unfold late at ih ⊢
    rw [List.filter_cons, in_cons]
    split
    · rw [in_cons, ih]
    · rename_i h
      simp at h
      rw [ih]
      exact ⟨.inr, fun q => by rcases q with q | q; omega; exact q⟩
theorem late_mem {t0 : Int} {F : List (Int × Int)} {p : Int × Int} (h : p ∈ late t0 F) : t0 < p.2 := by
  unfold late at h
  simpa using (List.mem_filter.1 h).2
theorem opn_sep {fs : Bool} {t0 : Int} {F : List (Int × Int)} (h0 : 0 ≤ t0) (h1 : t0 < 1048576) (h : SepL 0 F) : SepL 0 (opn fs t0 F) := by
  have hl := late_sep (t0 := t0) h
  have hm := fun p => late_mem (t0 := t0) (F := F) (p := p)
  unfold opn
  split
  · generalize late t0 F = l at *
    cases l with
    | nil => exact ⟨h0, by show t0 < t0 + 1; omega, by show t0 + 1 ≤ 1048576; omega, trivial⟩
    | cons p r =>
      obtain ⟨k1, k2, k3, k4⟩ := hl
      have := hm p (by simp)
      show SepL 0 (if p.1 ≤ t0 + 1 then (t0, p.2) :: r else (t0, t0 + 1) :: p :: r)
      split
      · exact ⟨h0, this, k3, k4⟩
      · exact ⟨h0, by show t0 < t0 + 1; omega, by show t0 + 1 ≤ 1048576; omega, by show t0 + 1 + 1 ≤ p.1; omega, k2, k3, k4⟩
  · exact hl
theorem opn_in {fs : Bool} {t0 m : Int} {F : List (Int × Int)} (hm : t0 < m) : In (opn fs t0 F) m ↔ In F m := by
  refine Iff.trans ?_ (late_in (t0 := t0) (m := m) (by omega))
  unfold opn
  split
  · generalize late t0 F = l
    cases l with
    | nil => exact ⟨fun h => by rcases in_cons.1 h with q | q; exact absurd q.2 (by show ¬ m < t0 + 1; omega); exact q, fun h => absurd h in_nil⟩
    | cons p r =>
      show In (if p.1 ≤ t0 + 1 then (t0, p.2) :: r else (t0, t0 + 1) :: p :: r) m ↔ _
      split
      · rw [in_cons, in_cons]
        constructor
        · rintro (q | q)
          · exact .inl ⟨by omega, q.2⟩
          · exact .inr q
        · rintro (q | q)
          · exact .inl ⟨by show t0 ≤ m; omega, q.2⟩
          · exact .inr q
      · rw [in_cons]
        exact ⟨fun q => by rcases q with q | q; exact absurd q.2 (by show ¬ m < t0 + 1; omega); exact q, .inr⟩
  · exact Iff.rfl
theorem opn_first {t0 : Int} {F : List (Int × Int)} : At (opn true t0 F) 0 t0 := by
  have hm := fun p => late_mem (t0 := t0) (F := F) (p := p)
  unfold opn
  rw [if_pos rfl]
  generalize late t0 F = l at *
  cases l with
  | nil => exact ⟨by simp, Int.le_refl _, by show t0 < t0 + 1; omega⟩
  | cons p r =>
    show At (if p.1 ≤ t0 + 1 then (t0, p.2) :: r else (t0, t0 + 1) :: p :: r) 0 t0
    split
    · exact ⟨by simp, Int.le_refl _, hm p (by simp)⟩
    · exact ⟨by simp, Int.le_refl _, by show t0 < t0 + 1; omega⟩
theorem opn_len {fs : Bool} {t0 : Int} {F : List (Int × Int)} : (opn fs t0 F).length ≤ F.length + 1 := by
  have : (late t0 F).length ≤ F.length := List.length_filter_le _ _
  unfold opn
  split
  · generalize late t0 F = l at *
    cases l with
    | nil => simp
    | cons p r =>
      show (if p.1 ≤ t0 + 1 then (t0, p.2) :: r else (t0, t0 + 1) :: p :: r).length ≤ _
      split <;> simp at * <;> omega
  · omega
/-- A robot can have been in a cell since the start just where it is free all the time. -/
theorem opn_stay {t0 m : Int} {F : List (Int × Int)} (h : SepL 0 F) (h0 : 0 ≤ t0) (h1 : t0 < 1048576) : m < ((opn true t0 F).getD 0 (0, 0)).2 ↔ ∀ u, t0 < u → u ≤ m → In F u := by
  have hf := opn_first (t0 := t0) (F := F)
  have hs := (opn_sep (fs := true) h0 h1 h).seps
  constructor
  · intro hm u hu hum
    rw [← opn_in (fs := true) hu]
    exact ⟨0, hf.1, by have := hf.2.1; omega, by omega⟩
  · intro hall
    refine Classical.byContradiction fun hm => ?_
    have hf2 := hf.2.2
    obtain ⟨k, hk⟩ := (opn_in (fs := true) (by omega)).2 (hall ((opn true t0 F).getD 0 (0, 0)).2 (by omega) (by omega))
    have h2 : At (opn true t0 F) 0 (((opn true t0 F).getD 0 (0, 0)).2 - 1) := ⟨hf.1, by have := hf.2.1; omega, by omega⟩
    have := h2.next hs (j := k) (by rw [Int.sub_add_cancel]; exact hk)
    subst this
    have := hk.2.2
    omega
end Sp
end Go.Proofs.YtcdclghmebgpnaaGreatDoor
end

section
namespace Go.Proofs.YtcdclghmebgpnaaGreatDoor
namespace Sp
open Go.RowKit Fl Pt
open Wn (Tab TF frees isT Ordw IW)

/-- An object of a heap's memory: what its calls write lies in such objects, or is new. -/
def IsHp (o : Obj) : Prop := ∃ cs fz, o = .cells cs 146 fz ∨ o = .cells cs 150 fz
/-- All other objects are as they were. -/
def KeptT (W w : World) : Prop := ∀ (k : Nat) (o : Obj), W.heap[k]? = some o → ¬ IsHp o → w.heap[k]? = some o
theorem KeptT.trans {a b c : World} (h : KeptT a b) (k : KeptT b c) : KeptT a c := fun i o hi ho => k i o (h i o hi ho) ho
theorem KeptT.below {W w : World} (h : Below W.heap.size W w) : KeptT W w := fun k o hk _ => by rw [h.block k (lt_of_heap hk)]; exact hk
theorem KeptT.ofTurn {F F' : Nat → Prop} {W w : World} (h : Turn F F' W w) (hF : ∀ (k : Nat) (o : Obj), W.heap[k]? = some o → F k → IsHp o) : KeptT W w := fun k o hk ho => by
  rw [h.block k (lt_of_heap hk) (fun e => ho (hF k o hk e))]; exact hk
theorem notHp_cells {cs : Array Value} {t : TypeId} {fz : Nat × Nat} (h1 : t ≠ 146) (h2 : t ≠ 150) : ¬ IsHp (.cells cs t fz) := by
  rintro ⟨cs', fz', h | h⟩ <;> (injection h with _ h _; first | exact h1 h | exact h2 h)
theorem row_kind {w : World} {base : Nat} {e : TypeId} {size : Nat} {v : Value} {n : Nat} {xs : List Value} (h : w.ownsRow base e size v n xs) : ∀ g, v.ownBlock = some g → ∃ c fz, w.heap[g]? = some (.cells c e fz) := by
  intro g hg
  rcases h.2 with ⟨q, _⟩ | ⟨g0, c0, cur, q, _, hh, _⟩
  · rw [q] at hg; cases hg
  · have : g = g0 := by rw [q] at hg; simpa [Value.ownBlock] using hg.symm
    subst this; exact ⟨cur, _, hh⟩
theorem HAt.isHp {w : World} {b : Nat} {v : Value} {M : List E} {n : Nat} (h : HAt w b v M n) : ∀ (k : Nat) (o : Obj), w.heap[k]? = some o → HF b v k → IsHp o := by
  obtain ⟨es, _, hr⟩ := h.row
  intro k o hk hf
  rcases hf with rfl | hf
  · have := h.box; rw [hk] at this; injection this with this; exact ⟨_, _, .inl this⟩
  · obtain ⟨c, fz, hc⟩ := row_kind hr k hf
    rw [hk] at hc; injection hc with hc; exact ⟨_, _, .inr hc⟩
/-- An object that a ground's calls write. -/
def IsW (o : Obj) : Prop := ∃ cs fz, o = .cells cs 39 fz ∨ o = .cells cs 108 fz ∨ o = .cells cs 113 fz
def KeptG (W w : World) : Prop := ∀ (k : Nat) (o : Obj), W.heap[k]? = some o → ¬ IsW o → w.heap[k]? = some o
theorem KeptG.trans {a b c : World} (h : KeptG a b) (k : KeptG b c) : KeptG a c := fun i o hi ho => k i o (h i o hi ho) ho
theorem KeptG.below {W w : World} (h : Below W.heap.size W w) : KeptG W w := fun k o hk _ => by rw [h.block k (lt_of_heap hk)]; exact hk
theorem notW_cells {cs : Array Value} {t : TypeId} {fz : Nat × Nat} (h1 : t ≠ 39) (h2 : t ≠ 108) (h3 : t ≠ 113) : ¬ IsW (.cells cs t fz) := by
  rintro ⟨cs', fz', h | h | h⟩ <;> (injection h with _ h _; first | exact h1 h | exact h2 h | exact h3 h)
theorem KeptG.set {w : World} {g x : Nat} {v : Value} (h : ∃ cs fz, w.heap[g]? = some (Obj.cells cs 39 fz) ∨ w.heap[g]? = some (Obj.cells cs 108 fz) ∨ w.heap[g]? = some (Obj.cells cs 113 fz)) : KeptG w (w.setCell ⟨g, x, none⟩ v) := fun k o hk ho => by
  by_cases e : k = g
  · subst e
    obtain ⟨cs, fz, h⟩ := h
    refine absurd ?_ ho
    rcases h with h | h | h <;> (rw [hk] at h; injection h with h)
    · exact ⟨_, _, .inl h⟩
    · exact ⟨_, _, .inr (.inl h)⟩
    · exact ⟨_, _, .inr (.inr h)⟩
  · rw [Below.heap_setCell _ _ _ _ (show k ≠ (⟨g, x, none⟩ : Addr).block from e)]; exact hk
/-- A heap is kept by a ground's calls. -/
theorem HAt.went {w w' : World} {b : Nat} {v : Value} {M : List E} {n : Nat} (h : HAt w b v M n) (hk : KeptG w w') : HAt w' b v M n := by
  refine h.same fun k hf => ?_
  have hlt := (h.owned k hf).2
  have e : w.heap[k]? = some w.heap[k] := Array.getElem?_eq_getElem hlt
  rw [e]
  refine hk k _ e ?_
  obtain ⟨cs, fz, h1⟩ := HAt.isHp h k _ e hf
  rcases h1 with h1 | h1 <;> rw [h1] <;> exact notW_cells (by decide) (by decide) (by decide)

/-- What a ground is made for, and where it lies. -/
structure Pm where
  W : Nat
  H : Nat
  s : ByteArray
  a : Nat
  t0 : Int
  B : Nat
  gb : Nat
  lb : Nat
  nb : Nat
  sb : Nat
  tb : Nat
  tB : Nat
  tN : Nat
  mv : Option Nat
  T : Int → List (Int × Int)
  tg : Int → Nat
def Pm.near (p : Pm) (c : Nat) : List Nat := nr p.W p.H (at_ p.s) c
def Pm.F (p : Pm) (c : Nat) : List (Int × Int) := frees (p.T (c : Int))
def Pm.O (p : Pm) (c : Nat) : List (Int × Int) := opn (c == p.a) p.t0 (p.F c)
def Pm.lv (p : Pm) (c : Nat) : Bool := outB (at_ p.s) p.a c
def Pm.env (p : Pm) : Env := ⟨p.s.size, p.near, p.lv, p.O, p.a, p.t0⟩
structure Pm.Fit (p : Pm) : Prop where
  right : Right (p.W : Int) (p.H : Int) p.s
  on : p.a < p.s.size
  wall : at_ p.s p.a ≠ 35
  t0 : 0 ≤ p.t0 ∧ p.t0 < 1048576
  ord : ∀ y, Ordw 0 (p.T y)
  few : p.tN ≤ 2000
  small : ∀ y, (p.T y).length ≤ p.tN
  tlow : ∀ k, TF p.tb p.mv p.T p.tg k → k < p.B
theorem Pm.Fit.n256 {p : Pm} (h : p.Fit) : p.s.size ≤ 256 ∧ 1 ≤ p.s.size := ⟨rightLe h.right, by have := h.on; omega⟩
theorem Pm.Fit.sides {p : Pm} (h : p.Fit) : Sides p.W p.H p.s ∧ RightN p.W p.H (at_ p.s) := by
  obtain ⟨W', H', e1, e2, hS, hN⟩ := rightNat h.right
  obtain rfl : p.W = W' := by omega
  obtain rfl : p.H = H' := by omega
  exact ⟨hS, hN⟩
theorem Pm.Fit.nrlt {p : Pm} (h : p.Fit) {c d : Nat} (hc : c < p.s.size) (hd : d ∈ p.near c) : d < p.s.size := by
  have := nr_lt (W := p.W) (H := p.H) (c := c) (y := d) (z := at_ p.s) h.sides.1.w1 (by rw [← h.sides.1.sz]; exact hc) hd
  rw [h.sides.1.sz]; exact this
theorem Pm.near_wall {p : Pm} {c d : Nat} (hd : d ∈ p.near c) : at_ p.s d ≠ 35 := (mem_nr.1 hd).2
theorem Pm.Fit.sepF {p : Pm} (h : p.Fit) (c : Nat) : SepL 0 (p.F c) := frees_sep (h.ord _)
theorem Pm.Fit.sepO {p : Pm} (h : p.Fit) (c : Nat) : SepL 0 (p.O c) := opn_sep h.t0.1 h.t0.2 (h.sepF c)
theorem Pm.Fit.first {p : Pm} (h : p.Fit) : At (p.O p.a) 0 p.t0 := by
  unfold Pm.O
  rw [beq_self_eq_true]
  exact opn_first
theorem Pm.Fit.ok {p : Pm} (h : p.Fit) : p.env.Ok :=
  ⟨fun c => (h.sepO c).seps, fun c hc d hd => h.nrlt hc hd, h.on, ⟨0, h.first⟩, fun c k hk => ((h.sepO c).least k hk).2.2⟩
theorem Pm.Fit.flen {p : Pm} (h : p.Fit) (c : Nat) : (p.F c).length ≤ 2001 := by
  have h1 := Wn.gaps_len (p.T c ++ [(1048576, 0)]) 0
  have h2 := h.small c
  have h3 := h.few
  rw [List.length_append] at h1
  show (Wn.gaps 0 (p.T c ++ [(1048576, 0)])).length ≤ 2001
  simp only [List.length_cons, List.length_nil] at h1
  omega
theorem Pm.Fit.olen {p : Pm} (h : p.Fit) (c : Nat) : (p.O c).length ≤ 2002 := Nat.le_trans opn_len (by have := h.flen c; omega)

/-- The cells of stays. -/
def stv (L : List (Int × Int)) (f : Nat → Int) (x : Nat) : Value :=
  if x % 3 = 0 then .int .i64 (L.getD (x / 3) (0, 0)).1 else if x % 3 = 1 then .int .i64 (L.getD (x / 3) (0, 0)).2 else .int .i64 (f (x / 3))
/-- Stays lie in block g. -/
structure Sts (g : Nat) (L : List (Int × Int)) (f : Nat → Int) (w : World) : Prop where
  kind : ∃ cs fz, w.heap[g]? = some (.cells cs 113 fz)
  cells : Cells g (L.length * 3) (stv L f) w
theorem Sts.at {g : Nat} {L : List (Int × Int)} {f : Nat → Int} {w : World} (h : Sts g L f w) {k : Nat} (hk : k < L.length) : w.cell? ⟨g, k * 3, none⟩ = some (.int .i64 (L.getD k (0, 0)).1) ∧ w.cell? ⟨g, k * 3 + 1, none⟩ = some (.int .i64 (L.getD k (0, 0)).2) ∧ w.cell? ⟨g, k * 3 + 2, none⟩ = some (.int .i64 (f k)) ∧ w.frozen? ⟨g, k * 3 + 2, none⟩ = false := by
  have h0 := h.cells.2 (k * 3) (by omega)
  have h1 := h.cells.2 (k * 3 + 1) (by omega)
  have h2 := h.cells.2 (k * 3 + 2) (by omega)
  refine ⟨h0.1.trans ?_, h1.1.trans ?_, h2.1.trans ?_, h2.2⟩
  · unfold stv
    rw [if_pos (by omega), show k * 3 / 3 = k by omega]
  · unfold stv
    rw [if_neg (by omega), if_pos (by omega), show (k * 3 + 1) / 3 = k by omega]
  · unfold stv
    rw [if_neg (by omega), if_neg (by omega), show (k * 3 + 2) / 3 = k by omega]
theorem Sts.same {g : Nat} {L : List (Int × Int)} {f : Nat → Int} {w w' : World} (h : Sts g L f w) (hs : w.heap.size ≤ w'.heap.size) (hb : w'.heap[g]? = w.heap[g]?) : Sts g L f w' :=
  ⟨by rw [hb]; exact h.kind, h.cells.same hs hb⟩
theorem kind_set {w : World} {g x : Nat} {v : Value} {t : TypeId} (h : ∃ cs fz, w.heap[g]? = some (Obj.cells cs t fz)) : ∃ cs fz, (w.setCell ⟨g, x, none⟩ v).heap[g]? = some (Obj.cells cs t fz) := by
  obtain ⟨cs, fz, h⟩ := h
  exact ⟨_, _, by simp [World.setCell, Array.getElem?_modify, h]; exact ⟨rfl, rfl⟩⟩
theorem Sts.put {g : Nat} {L : List (Int × Int)} {f : Nat → Int} {w : World} (h : Sts g L f w) {k : Nat} (hk : k < L.length) (v : Int) : Sts g L (fun j => if j = k then v else f j) (w.setCell ⟨g, k * 3 + 2, none⟩ (.int .i64 v)) := by
  refine ⟨kind_set h.kind, h.cells.put (k * 3 + 2) _ (by omega) fun x hx => ?_⟩
  unfold stv
  by_cases e : x = k * 3 + 2
  · subst e
    rw [if_pos rfl, if_neg (by omega), if_neg (by omega), show (k * 3 + 2) / 3 = k by omega]
    exact congrArg _ (if_pos rfl)
  · rw [if_neg e]
    split
    · rfl
    · split
      · rfl
      · exact congrArg _ (if_neg (by omega))
theorem Sts.congr {g : Nat} {L : List (Int × Int)} {f f' : Nat → Int} {w : World} (h : Sts g L f w) (e : ∀ k, f k = f' k) : Sts g L f' w := by
  obtain rfl : f = f' := funext e
  exact h
/-- What is near lies in block g. -/
structure Nrs (g cap : Nat) (xs : List Nat) (w : World) : Prop where
  kind : ∃ cs fz, w.heap[g]? = some (.cells cs 3 fz)
  cells : Cells g xs.length (iv xs) w
  cap : xs.length ≤ cap ∧ cap ≤ maxLen
theorem Nrs.same {g cap : Nat} {xs : List Nat} {w w' : World} (h : Nrs g cap xs w) (hs : w.heap.size ≤ w'.heap.size) (hb : w'.heap[g]? = w.heap[g]?) : Nrs g cap xs w' :=
  ⟨by rw [hb]; exact h.kind, h.cells.same hs hb, h.cap⟩
theorem Nrs.il {g cap : Nat} {xs : List Nat} {w : World} (h : Nrs g cap xs w) : Il w.heap.size w (some ⟨g, 0, none⟩) xs.length cap (fun j => ((xs.getD j 0 : Nat) : Int)) :=
  ⟨h.cap.1, h.cap.2, fun e => by simp at e, fun hn => ⟨g, 0, rfl, h.cells.1, fun j hj => by rw [Nat.zero_add]; exact (h.cells.2 j hj).1⟩⟩

/-- The kinds of a ground's blocks. -/
def IsG (o : Obj) : Prop := ∃ cs e fz, o = .cells cs e fz ∧ (e = 111 ∨ e = 4 ∨ e = 39 ∨ e = 108 ∨ e = 113 ∨ e = 3)
def FN (tb : Nat) : Value := .func (.func 78) #[.pointer (some ⟨tb, 0, none⟩)] #[]
def Pm.row (p : Pm) : Array Value := #[.int .i64 (p.W : Int), .int .i64 (p.H : Int), .string p.s, FN p.tb, .int .i64 (p.a : Int), .int .i64 p.t0, .slice (some ⟨p.lb, 0, none⟩) p.s.size p.s.size, .slice (some ⟨p.nb, 0, none⟩) p.s.size p.s.size, .slice (some ⟨p.sb, 0, none⟩) p.s.size p.s.size]
def nil7 : Value := .slice none 0 0
/-- A ground in memory: nv and sv what was asked for, S since when. -/
structure Gr (p : Pm) (nv sv : Nat → Value) (S : Nat → Nat → Int) (w : World) : Prop where
  fit : p.Fit
  tab : Tab w p.tB p.tb p.tN p.mv p.T p.tg
  box : w.heap[p.gb]? = some (.cells p.row 111 (0, 0))
  lv : Cells p.lb p.s.size (fun c => .bool (p.lv c)) w
  nc : Cells p.nb p.s.size nv w
  sc : Cells p.sb p.s.size sv w
  kl : ∃ cs fz, w.heap[p.lb]? = some (.cells cs 4 fz)
  kn : ∃ cs fz, w.heap[p.nb]? = some (.cells cs 39 fz)
  ks : ∃ cs fz, w.heap[p.sb]? = some (.cells cs 108 fz)
  lo : p.B ≤ p.gb ∧ p.B ≤ p.lb ∧ p.B ≤ p.nb ∧ p.B ≤ p.sb
  nm : ∀ c, c < p.s.size → nv c = nil7 ∨ ∃ g cap, nv c = .slice (some ⟨g, 0, none⟩) (p.near c).length cap ∧ Nrs g cap (p.near c) w
  sm : ∀ c, c < p.s.size → (sv c = nil7 ∧ ∀ k, S c k = 1048576) ∨ ∃ g, sv c = .slice (some ⟨g, 0, none⟩) (p.O c).length (p.O c).length ∧ p.B ≤ g ∧ Sts g (p.O c) (S c) w
  sj : ∀ c c' g, c < p.s.size → c' < p.s.size → c ≠ c' → (sv c).ownBlock = some g → (sv c').ownBlock ≠ some g

theorem Gr.tlt {p : Pm} {nv sv : Nat → Value} {S : Nat → Nat → Int} {w : World} (h : Gr p nv sv S w) : p.B ≤ w.heap.size := Nat.le_trans h.lo.1 (Nat.le_of_lt (lt_of_heap h.box))
theorem tab_same {w w' : World} {base tb N B : Nat} {mv : Option Nat} {T : Int → List (Int × Int)} {gb : Int → Nat} (h : Tab w base tb N mv T gb) (hl : ∀ k, TF tb mv T gb k → k < B) (hb : Below B w w') : Tab w' base tb N mv T gb :=
  h.turn (F := fun k => B ≤ k) (F' := fun k => B ≤ k ∨ w.heap.size ≤ k) ⟨hb.os, hb.tape, hb.output, hb.size, fun k _ hk => hb.block k (by omega), fun k hk => hk⟩ (fun k hk => by have := hl k hk; omega)
/-- The ground's blocks are kept. -/
theorem Gr.same {p : Pm} {nv sv : Nat → Value} {S : Nat → Nat → Int} {w w' : World} (h : Gr p nv sv S w) (hB : Below p.B w w') (hk : ∀ (k : Nat) (o : Obj), w.heap[k]? = some o → IsG o → w'.heap[k]? = some o) : Gr p nv sv S w' := by
  have hs := hB.size
  have key : ∀ (g : Nat) (t : TypeId), (∃ cs fz, w.heap[g]? = some (Obj.cells cs t fz)) → (t = 111 ∨ t = 4 ∨ t = 39 ∨ t = 108 ∨ t = 113 ∨ t = 3) → w'.heap[g]? = w.heap[g]? := by
    rintro g t ⟨cs, fz, h1⟩ ht
    rw [hk g _ h1 ⟨cs, t, fz, rfl, ht⟩, h1]
  have b1 := key p.lb _ h.kl (by simp)
  have b2 := key p.nb _ h.kn (by simp)
  have b3 := key p.sb _ h.ks (by simp)
  have b0 := key p.gb _ ⟨_, _, h.box⟩ (by simp)
  refine ⟨h.fit, tab_same h.tab h.fit.tlow hB, b0.trans h.box, h.lv.same hs b1, h.nc.same hs b2, h.sc.same hs b3, by rw [b1]; exact h.kl, by rw [b2]; exact h.kn, by rw [b3]; exact h.ks, h.lo, fun c hc => ?_, fun c hc => ?_, h.sj⟩
  · rcases h.nm c hc with e | ⟨g, cap, e1, e2⟩
    · exact .inl e
    · exact .inr ⟨g, cap, e1, e2.same hs (key g _ e2.kind (by simp))⟩
  · rcases h.sm c hc with e | ⟨g, e1, e2, e3⟩
    · exact .inl e
    · exact .inr ⟨g, e1, e2, e3.same hs (key g _ e3.kind (by simp))⟩
theorem Gr.later {p : Pm} {nv sv : Nat → Value} {S : Nat → Nat → Int} {w w' : World} (h : Gr p nv sv S w) (hb : Below w.heap.size w w') : Gr p nv sv S w' :=
  h.same (hb.mono h.tlt) fun k o hk _ => by rw [hb.block k (lt_of_heap hk)]; exact hk
theorem Gr.more {p : Pm} {nv sv : Nat → Value} {S : Nat → Nat → Int} {w : World} (h : Gr p nv sv S w) (o : Obj) : Gr p nv sv S (w.alloc o) := h.later ((Below.refl _ w).alloc (Nat.le_refl _) o)
theorem Gr.drew {p : Pm} {nv sv : Nat → Value} {S : Nat → Nat → Int} {w : World} (h : Gr p nv sv S w) : Gr p nv sv S w.drew := h.later (Below.refl _ _).drew
/-- The heap's blocks are others. -/
theorem Gr.heap {p : Pm} {nv sv : Nat → Value} {S : Nat → Nat → Int} {w w' : World} (h : Gr p nv sv S w) (hB : Below p.B w w') (hk : KeptT w w') : Gr p nv sv S w' :=
  h.same hB fun k o h1 ⟨cs, e, fz, h2, h3⟩ => hk k o h1 (by
    subst h2
    refine notHp_cells ?_ ?_
    all_goals
      intro q
      rw [q] at h3
      revert h3
      decide)
/-- What a call for a ground leaves: nothing else is written. -/
structure Went (p : Pm) (w w' : World) : Prop where
  below : Below p.B w w'
  kept : KeptG w w'
theorem Went.trans {p : Pm} {a b c : World} (h : Went p a b) (k : Went p b c) : Went p a c := ⟨h.below.trans k.below, h.kept.trans k.kept⟩
theorem Went.of {p : Pm} {w w' : World} (hB : p.B ≤ w.heap.size) (h : Below w.heap.size w w') : Went p w w' := ⟨h.mono hB, KeptG.below h⟩
theorem Went.same (p : Pm) (w : World) : Went p w w := ⟨Below.refl _ _, fun _ _ h _ => h⟩
end Sp
end Go.Proofs.YtcdclghmebgpnaaGreatDoor
end

section
namespace Go.Proofs.YtcdclghmebgpnaaGreatDoor
namespace Sp
open Go.RowKit Fl Pt
open Wn (Tab TF frees isT Ordw IW)

theorem ne_kind {w : World} {g g' : Nat} {t t' : TypeId} (h : ∃ cs fz, w.heap[g]? = some (Obj.cells cs t fz)) (h' : ∃ cs fz, w.heap[g']? = some (Obj.cells cs t' fz)) (ht : t ≠ t') : g ≠ g' := by
  rintro rfl
  obtain ⟨cs, fz, h⟩ := h
  obtain ⟨cs', fz', h'⟩ := h'
  rw [h] at h'
  injection h' with h'
  injection h' with _ h2 _
  exact ht h2
theorem set_other {w : World} {g k x : Nat} {v : Value} (h : k ≠ g) : (w.setCell ⟨g, x, none⟩ v).heap[k]? = w.heap[k]? := Below.heap_setCell _ _ _ _ h
theorem set_size (w : World) (a : Addr) (v : Value) : (w.setCell a v).heap.size = w.heap.size := by simp [World.setCell]
theorem below_set {B : Nat} (w : World) {g x : Nat} {v : Value} (h : B ≤ g) : Below B w (w.setCell ⟨g, x, none⟩ v) :=
  (Below.refl B w).setCell h _
section
variable {p : Pm} {nv sv : Nat → Value} {S : Nat → Nat → Int} {w : World}
/-- What is near is kept. -/
theorem Gr.putN (h : Gr p nv sv S w) {c g cap : Nat} (hc : c < p.s.size) (hn : Nrs g cap (p.near c) w) : Gr p (fun x => if x = c then .slice (some ⟨g, 0, none⟩) (p.near c).length cap else nv x) sv S (w.setCell ⟨p.nb, c, none⟩ (.slice (some ⟨g, 0, none⟩) (p.near c).length cap)) := by
  have hs := set_size w ⟨p.nb, c, none⟩ (.slice (some ⟨g, 0, none⟩) (p.near c).length cap)
  have oth := fun k (e : k ≠ p.nb) => set_other (w := w) (x := c) (v := .slice (some ⟨g, 0, none⟩) (p.near c).length cap) e
  have b0 := oth p.gb (ne_kind ⟨_, _, h.box⟩ h.kn (by decide))
  have b1 := oth p.lb (ne_kind h.kl h.kn (by decide))
  have b3 := oth p.sb (ne_kind h.ks h.kn (by decide))
  have hB := below_set w (x := c) (v := .slice (some ⟨g, 0, none⟩) (p.near c).length cap) h.lo.2.2.1
  refine ⟨h.fit, tab_same h.tab h.fit.tlow hB, b0.trans h.box, h.lv.same hB.size b1, h.nc.put c _ hc (fun x _ => rfl), h.sc.same hB.size b3, by rw [b1]; exact h.kl, kind_set h.kn, by rw [b3]; exact h.ks, h.lo, fun x hx => ?_, fun x hx => ?_, h.sj⟩
  · by_cases e : x = c
    · subst e
      exact .inr ⟨g, cap, if_pos rfl, hn.same hB.size (oth g (ne_kind hn.kind h.kn (by decide)))⟩
    · rcases h.nm x hx with e1 | ⟨g', cap', e1, e2⟩
      · exact .inl ((if_neg e).trans e1)
      · exact .inr ⟨g', cap', (if_neg e).trans e1, e2.same hB.size (oth g' (ne_kind e2.kind h.kn (by decide)))⟩
  · rcases h.sm x hx with e | ⟨g', e1, e2, e3⟩
    · exact .inl e
    · exact .inr ⟨g', e1, e2, e3.same hB.size (oth g' (ne_kind e3.kind h.kn (by decide)))⟩
/-- Stays are kept that are new. -/
theorem Gr.putS (h : Gr p nv sv S w) {c g : Nat} (hc : c < p.s.size) (he : sv c = nil7) (hg : p.B ≤ g) (hn : Sts g (p.O c) (fun _ => 1048576) w) (hne : ∀ x, x < p.s.size → (sv x).ownBlock ≠ some g) :
    Gr p nv (fun x => if x = c then .slice (some ⟨g, 0, none⟩) (p.O c).length (p.O c).length else sv x) S (w.setCell ⟨p.sb, c, none⟩ (.slice (some ⟨g, 0, none⟩) (p.O c).length (p.O c).length)) := by
  have oth := fun k (e : k ≠ p.sb) => set_other (w := w) (x := c) (v := .slice (some ⟨g, 0, none⟩) (p.O c).length (p.O c).length) e
  have b0 := oth p.gb (ne_kind ⟨_, _, h.box⟩ h.ks (by decide))
  have b1 := oth p.lb (ne_kind h.kl h.ks (by decide))
  have b3 := oth p.nb (ne_kind h.kn h.ks (by decide))
  have hB := below_set w (x := c) (v := .slice (some ⟨g, 0, none⟩) (p.O c).length (p.O c).length) h.lo.2.2.2
  refine ⟨h.fit, tab_same h.tab h.fit.tlow hB, b0.trans h.box, h.lv.same hB.size b1, h.nc.same hB.size b3, h.sc.put c _ hc (fun x _ => rfl), by rw [b1]; exact h.kl, by rw [b3]; exact h.kn, kind_set h.ks, h.lo, fun x hx => ?_, fun x hx => ?_, fun x y g' hx hy hxy h1 => ?_⟩
  · rcases h.nm x hx with e1 | ⟨g', cap', e1, e2⟩
    · exact .inl e1
    · exact .inr ⟨g', cap', e1, e2.same hB.size (oth g' (ne_kind e2.kind h.ks (by decide)))⟩
  · by_cases e : x = c
    · subst e
      refine .inr ⟨g, if_pos rfl, hg, (hn.same hB.size (oth g (ne_kind hn.kind h.ks (by decide)))).congr fun k => ?_⟩
      rcases h.sm x hx with ⟨_, e1⟩ | ⟨g', e1, _⟩
      · exact (e1 k).symm
      · rw [he] at e1; cases e1
    · rcases h.sm x hx with e1 | ⟨g', e1, e2, e3⟩
      · exact .inl ⟨(if_neg e).trans e1.1, e1.2⟩
      · exact .inr ⟨g', (if_neg e).trans e1, e2, e3.same hB.size (oth g' (ne_kind e3.kind h.ks (by decide)))⟩
  · by_cases e : x = c
    · rw [if_pos e] at h1
      have : g = g' := by simpa [Value.ownBlock] using h1
      subst this
      rw [if_neg (fun q => hxy (e.trans q.symm))]
      exact hne y hy
    · rw [if_neg e] at h1
      by_cases e2 : y = c
      · rw [if_pos e2]
        intro h2
        have : g = g' := by simpa [Value.ownBlock] using h2
        subst this
        exact hne x hx h1
      · rw [if_neg e2]
        exact h.sj x y g' hx hy hxy h1
/-- It is told since when the robot can be in a stay. -/
theorem Gr.since (h : Gr p nv sv S w) {c k g : Nat} (hc : c < p.s.size) (hk : k < (p.O c).length) (he : sv c = .slice (some ⟨g, 0, none⟩) (p.O c).length (p.O c).length) (v : Int) : Gr p nv sv (put S c k v) (w.setCell ⟨g, k * 3 + 2, none⟩ (.int .i64 v)) := by
  obtain ⟨g', e1, e2, e3⟩ : ∃ g, sv c = .slice (some ⟨g, 0, none⟩) (p.O c).length (p.O c).length ∧ p.B ≤ g ∧ Sts g (p.O c) (S c) w := by
    rcases h.sm c hc with ⟨e, _⟩ | e
    · rw [he] at e; cases e
    · exact e
  have : g' = g := by rw [he] at e1; simpa using e1.symm
  subst this
  have oth := fun k' (e : k' ≠ g') => set_other (w := w) (x := k * 3 + 2) (v := .int .i64 v) e
  have b0 := oth p.gb (ne_kind ⟨_, _, h.box⟩ e3.kind (by decide))
  have b1 := oth p.lb (ne_kind h.kl e3.kind (by decide))
  have b2 := oth p.nb (ne_kind h.kn e3.kind (by decide))
  have b3 := oth p.sb (ne_kind h.ks e3.kind (by decide))
  have hB := below_set w (x := k * 3 + 2) (v := .int .i64 v) e2
  refine ⟨h.fit, tab_same h.tab h.fit.tlow hB, b0.trans h.box, h.lv.same hB.size b1, h.nc.same hB.size b2, h.sc.same hB.size b3, by rw [b1]; exact h.kl, by rw [b2]; exact h.kn, by rw [b3]; exact h.ks, h.lo, fun x hx => ?_, fun x hx => ?_, h.sj⟩
  · rcases h.nm x hx with e1 | ⟨g2, cap', e1, e2⟩
    · exact .inl e1
    · exact .inr ⟨g2, cap', e1, e2.same hB.size (oth g2 (ne_kind e2.kind e3.kind (by decide)))⟩
  · by_cases e : x = c
    · subst e
      refine .inr ⟨g', he, e2, (e3.put hk v).congr fun j => ?_⟩
      unfold Sp.put
      simp
    · have hS : ∀ j, put S c k v x j = S x j := fun j => put_ne _ _ fun q => e q.1
      rcases h.sm x hx with q1 | ⟨g2, q1, q2, q3⟩
      · exact .inl ⟨q1.1, fun j => (hS j).trans (q1.2 j)⟩
      · refine .inr ⟨g2, q1, q2, (q3.same hB.size (oth g2 fun q => ?_)).congr fun j => (hS j).symm⟩
        subst q
        exact h.sj c x g2 hc hx (fun q => e q.symm) (by rw [he]; rfl) (by rw [q1]; rfl)
end
end Sp
end Go.Proofs.YtcdclghmebgpnaaGreatDoor
end

section
namespace Go.Proofs.YtcdclghmebgpnaaGreatDoor
namespace Sp
open Go.RowKit Fl Pt
open Wn (Tab TF frees isT Ordw IW)

section
variable {p : Pm} {nv sv : Nat → Value} {S : Nat → Nat → Int} {w : World}
theorem Gr.g0 (h : Gr p nv sv S w) : w.cell? ⟨p.gb, 0, none⟩ = some (.int .i64 (p.W : Int)) := by rw [cell_of_row w p.gb 0 _ _ _ h.box]; rfl
theorem Gr.g1 (h : Gr p nv sv S w) : w.cell? ⟨p.gb, 1, none⟩ = some (.int .i64 (p.H : Int)) := by rw [cell_of_row w p.gb 1 _ _ _ h.box]; rfl
theorem Gr.g2 (h : Gr p nv sv S w) : w.cell? ⟨p.gb, 2, none⟩ = some (.string p.s) := by rw [cell_of_row w p.gb 2 _ _ _ h.box]; rfl
theorem Gr.g3 (h : Gr p nv sv S w) : w.cell? ⟨p.gb, 3, none⟩ = some (FN p.tb) := by rw [cell_of_row w p.gb 3 _ _ _ h.box]; rfl
theorem Gr.g4 (h : Gr p nv sv S w) : w.cell? ⟨p.gb, 4, none⟩ = some (.int .i64 (p.a : Int)) := by rw [cell_of_row w p.gb 4 _ _ _ h.box]; rfl
theorem Gr.g5 (h : Gr p nv sv S w) : w.cell? ⟨p.gb, 5, none⟩ = some (.int .i64 p.t0) := by rw [cell_of_row w p.gb 5 _ _ _ h.box]; rfl
theorem Gr.g6 (h : Gr p nv sv S w) : w.cell? ⟨p.gb, 6, none⟩ = some (.slice (some ⟨p.lb, 0, none⟩) p.s.size p.s.size) := by rw [cell_of_row w p.gb 6 _ _ _ h.box]; rfl
theorem Gr.g7 (h : Gr p nv sv S w) : w.cell? ⟨p.gb, 7, none⟩ = some (.slice (some ⟨p.nb, 0, none⟩) p.s.size p.s.size) := by rw [cell_of_row w p.gb 7 _ _ _ h.box]; rfl
theorem Gr.g8 (h : Gr p nv sv S w) : w.cell? ⟨p.gb, 8, none⟩ = some (.slice (some ⟨p.sb, 0, none⟩) p.s.size p.s.size) := by rw [cell_of_row w p.gb 8 _ _ _ h.box]; rfl
theorem Gr.lvc (h : Gr p nv sv S w) {c : Nat} (hc : c < p.s.size) : w.cell? ⟨p.lb, c, none⟩ = some (.bool (p.lv c)) := (h.lv.2 c hc).1
theorem Gr.blt (h : Gr p nv sv S w) : p.gb < w.heap.size := lt_of_heap h.box
end

theorem near_nr7 (W H c : Nat) (s : ByteArray) (w : World) (hR : Right (W : Int) (H : Int) s) (hc : c < s.size) (hz : at_ s c ≠ 35) :
    Calls Tryz.prog 22 #[.agg #[.int .i64 (W : Int), .int .i64 (H : Int), .string s], .int .i64 (c : Int)] w fun e w' => ∃ g cap, e = .returned (.slice (some ⟨g, 0, none⟩) (nr W H (at_ s) c).length cap) ∧ Nrs g cap (nr W H (at_ s) c) w' ∧ w.heap.size ≤ g ∧ 1 ≤ (nr W H (at_ s) c).length ∧ Below w.heap.size w w' := by
  have h256 := rightLe hR
  have hOn : OnFloor (W : Int) (H : Int) s (c : Int) := ⟨hR, by unfold bAt; rw [if_pos (by omega)]; exact hz⟩
  obtain ⟨W', H', e1, e2, hS, hN⟩ := rightNat hR
  obtain rfl : W = W' := by omega
  obtain rfl : H = H' := by omega
  refine (near_any (W : Int) (H : Int) s (by unfold maxLen; omega) (c : Int) w).mono fun e w' ⟨A, n, cap, xs, h1, h2, h3, _, h5, h6⟩ => ?_
  obtain rfl := (h3 hOn).trans (nears_nr W H c s)
  have hne := near_some hS.w1 hN (by rw [← hS.sz]; exact hc) hz
  have hl : 1 ≤ (nr W H (at_ s) c).length := by
    rcases Nat.eq_zero_or_pos (nr W H (at_ s) c).length with e | e
    · exact absurd (List.eq_nil_of_length_eq_zero e) hne
    · exact e
  obtain ⟨g, rfl, _, _⟩ := h5.at 0 (by omega)
  have := h5.lt g rfl
  subst h2
  exact ⟨g, cap, h1, ⟨row_kind h5 g rfl, own_cells h5 rfl, h5.cap rfl⟩, by omega, hl, h6⟩

theorem near_p {p : Pm} (h : p.Fit) {c : Nat} (hc : c < p.s.size) (hz : at_ p.s c ≠ 35) (w : World) :
    Calls Tryz.prog 22 #[.agg #[.int .i64 (p.W : Int), .int .i64 (p.H : Int), .string p.s], .int .i64 (c : Int)] w fun e w' => ∃ g cap, e = .returned (.slice (some ⟨g, 0, none⟩) (p.near c).length cap) ∧ Nrs g cap (p.near c) w' ∧ w.heap.size ≤ g ∧ 1 ≤ (p.near c).length ∧ Below w.heap.size w w' := near_nr7 p.W p.H c p.s w h.right hc hz
def NearTold (p : Pm) (sv : Nat → Value) (S : Nat → Nat → Int) (c : Nat) (w : World) (e : Ending) (w' : World) : Prop :=
  ∃ nv' g cap, e = .returned (.slice (some ⟨g, 0, none⟩) (p.near c).length cap) ∧ Nrs g cap (p.near c) w' ∧ Gr p nv' sv S w' ∧ Went p w w'

theorem Went.setN {p : Pm} {nv sv : Nat → Value} {S : Nat → Nat → Int} {w : World} (h : Gr p nv sv S w) (c : Nat) (v : Value) : Went p w (w.setCell ⟨p.nb, c, none⟩ v) := by
  obtain ⟨cs, fz, hk⟩ := h.kn
  exact ⟨below_set w h.lo.2.2.1, KeptG.set ⟨cs, fz, .inl hk⟩⟩
theorem Nrs.set {g cap : Nat} {xs : List Nat} {w : World} (h : Nrs g cap xs w) {b x : Nat} {v : Value} {t : TypeId} (hk : ∃ cs fz, w.heap[b]? = some (Obj.cells cs t fz)) (ht : t ≠ 3) : Nrs g cap xs (w.setCell ⟨b, x, none⟩ v) :=
  h.same (by rw [set_size]; exact Nat.le_refl _) (set_other (ne_kind h.kind hk (fun e => ht e.symm)))

theorem near_kept {w3 : World} {G gt c : Nat} (l : G ≠ gt) {v0 v1 v2 v5 : Value} (h0 : w3.cell? ⟨G, 0, none⟩ = some v0) (h1 : w3.cell? ⟨G, 1, none⟩ = some v1) (h2 : w3.cell? ⟨G, 2, none⟩ = some v2) (h5 : w3.cell? ⟨G, 7, none⟩ = some v5)
    {v6 : Value} (h6 : w3.cell? ⟨gt, c, none⟩ = some v6) (h7 : w3.frozen? ⟨gt, c, none⟩ = false) (u : Value) :
    (w3.setCell ⟨gt, c, none⟩ u).cell? ⟨G, 0, none⟩ = some v0 ∧ (w3.setCell ⟨gt, c, none⟩ u).cell? ⟨G, 1, none⟩ = some v1 ∧ (w3.setCell ⟨gt, c, none⟩ u).cell? ⟨G, 2, none⟩ = some v2 ∧ (w3.setCell ⟨gt, c, none⟩ u).cell? ⟨G, 7, none⟩ = some v5 ∧
    (∃ u', (w3.setCell ⟨gt, c, none⟩ u).cell? ⟨gt, c, none⟩ = some u') ∧ (w3.setCell ⟨gt, c, none⟩ u).frozen? ⟨gt, c, none⟩ = false := by
  have hne : ∀ o, (⟨gt, c, none⟩ : Addr) ≠ ⟨G, o, none⟩ := fun o e => l (congrArg Addr.block e).symm
  exact ⟨by rw [World.cell?_setCell_other (h := hne 0)]; exact h0, by rw [World.cell?_setCell_other (h := hne 1)]; exact h1, by rw [World.cell?_setCell_other (h := hne 2)]; exact h2, by rw [World.cell?_setCell_other (h := hne 7)]; exact h5,
    ⟨_, World.cell?_setCell_same w3 _ u h6⟩, by rw [World.frozen?_setCell]; exact h7⟩
set_option maxHeartbeats 2000000 in
theorem nearTo_any {p : Pm} {nv sv : Nat → Value} {S : Nat → Nat → Int} {w : World} (h : Gr p nv sv S w) {c : Nat} (hc : c < p.s.size) (hz : at_ p.s c ≠ 35) :
    Calls Tryz.prog 85 #[.pointer (some ⟨p.gb, 0, none⟩), .int .i64 (c : Int)] w (NearTold p sv S c w) := by
  have hcI : (c : Int) < (p.s.size : Int) := by omega
  have n256 := h.fit.n256
  have k7 := h.g7
  have kc := (h.nc.2 c hc).1
  have HG := Lib.hid h
  rcases h.nm c hc with hm | ⟨g, cap, hm, hn⟩
  · have HNR := Lib.hid (fun wx => near_p h.fit hc hz wx)
    have k0 := h.g0
    have k1 := h.g1
    have k2 := h.g2
    have kf := (h.nc.2 c hc).2
    unfold nil7 at hm
    rw [hm] at kc
    have nl := fun wx => nil_is wx
    have hgn := ne_kind ⟨_, _, h.box⟩ h.kn (by decide)
    clear hm h
    go_enter Tryz.func85, Tryz.ntmps85
    go_wp2_with fail
    go_region_held3 (fun w' => w'.cell? ⟨p.gb, 0, none⟩ = some (.int .i64 (p.W : Int)) ∧ w'.cell? ⟨p.gb, 1, none⟩ = some (.int .i64 (p.H : Int)) ∧ w'.cell? ⟨p.gb, 2, none⟩ = some (.string p.s) ∧ w'.cell? ⟨p.gb, 7, none⟩ = some (.slice (some ⟨p.nb, 0, none⟩) p.s.size p.s.size) ∧ (∃ u, w'.cell? ⟨p.nb, c, none⟩ = some u) ∧ w'.frozen? ⟨p.nb, c, none⟩ = false) (first | exact near_kept hgn k0 k1 k2 k7 kc kf _ | go_keep)
      ((first | (go_at_call 22; refine (HNR.out _).mono ?_; rintro e w2 ⟨g, cap, rfl, hnr, hg, hl, hb⟩; have HN := Lib.hid hnr; have HB : Hid (Below w.heap.size w w2) := Lib.hid ((Below.refl w.heap.size w).drew.trans hb); have HG2 := Lib.hid (HG.out.later HB.out); clear hnr hg hl hb; have k0 := HG2.out.g0; have k1 := HG2.out.g1; have k2 := HG2.out.g2; have k7 := HG2.out.g7; have kc := (HB.out.cell (p := ⟨p.nb, c, none⟩) HG.out.nc.1).trans kc; have kf := (HB.out.frozen (p := ⟨p.nb, c, none⟩) HG.out.nc.1).trans kf)))
    have HP := Lib.hid (HG2.out.putN hc HN.out)
    have HNN := Lib.hid (HN.out.set (x := c) (v := .slice (some ⟨g, 0, none⟩) (p.near c).length cap) HG2.out.kn (by decide))
    have HW := Lib.hid ((Went.of HG.out.tlt HB.out).trans (Went.setN HG2.out c (.slice (some ⟨g, 0, none⟩) (p.near c).length cap)))
    generalize w2.setCell ⟨p.nb, c, none⟩ (.slice (some ⟨g, 0, none⟩) (p.near c).length cap) = w3 at *
    have k7 := HP.out.g7
    have kc : w3.cell? ⟨p.nb, c, none⟩ = some (.slice (some ⟨g, 0, none⟩) (p.near c).length cap) := (HP.out.nc.2 c hc).1.trans (congrArg some (if_pos rfl))
    go_wp2_with fail
    go_ret
    exact ⟨_, g, cap, rfl, HNN.out, HP.out, HW.out⟩
  · rw [hm] at kc
    have HN := Lib.hid hn
    have nl := fun wx => nil_not wx g (p.near c).length cap
    clear hm h hn
    go_enter Tryz.func85, Tryz.ntmps85
    go_wp2_with fail
    go_ret
    exact ⟨nv, g, cap, rfl, HN.out, HG.out, Went.same _ _⟩
/-- Where a robot can go to. -/
def Pm.nx (p : Pm) (c : Nat) : List Nat := if p.lv c = true then p.near c else []
/-- Cells lie at a slice: none, or in a block of their own. -/
def Lk (A : Option Addr) (n cap : Nat) (xs : List Nat) (w : World) : Prop := (A = none ∧ n = 0 ∧ cap = 0 ∧ xs = []) ∨ ∃ g, A = some ⟨g, 0, none⟩ ∧ n = xs.length ∧ Nrs g cap xs w
theorem Lk.len {A : Option Addr} {n cap : Nat} {xs : List Nat} {w : World} (h : Lk A n cap xs w) : n = xs.length := by
  rcases h with ⟨_, h, _, e⟩ | ⟨g, _, h, _⟩
  · rw [h, e]; rfl
  · exact h
theorem Lk.il {A : Option Addr} {n cap : Nat} {xs : List Nat} {w : World} (h : Lk A n cap xs w) : Il w.heap.size w A n cap (fun j => ((xs.getD j 0 : Nat) : Int)) := by
  rcases h with ⟨rfl, rfl, rfl, rfl⟩ | ⟨g, rfl, rfl, h⟩
  · exact Il.empty _ _ _
  · exact h.il
theorem Lk.went {p : Pm} {A : Option Addr} {n cap : Nat} {xs : List Nat} {w w' : World} (h : Lk A n cap xs w) (hk : KeptG w w') (hs : w.heap.size ≤ w'.heap.size) : Lk A n cap xs w' := by
  rcases h with h | ⟨g, h1, h2, h3⟩
  · exact .inl h
  · refine .inr ⟨g, h1, h2, h3.same hs ?_⟩
    obtain ⟨cs, fz, h4⟩ := h3.kind
    rw [h4]
    exact hk g _ h4 (notW_cells (by decide) (by decide) (by decide))
theorem Lk.heap {A : Option Addr} {n cap : Nat} {xs : List Nat} {w w' : World} (h : Lk A n cap xs w) (hk : KeptT w w') (hs : w.heap.size ≤ w'.heap.size) : Lk A n cap xs w' := by
  rcases h with h | ⟨g, h1, h2, h3⟩
  · exact .inl h
  · refine .inr ⟨g, h1, h2, h3.same hs ?_⟩
    obtain ⟨cs, fz, h4⟩ := h3.kind
    rw [h4]
    exact hk g _ h4 (notHp_cells (by decide) (by decide))
def NextTold7 (p : Pm) (sv : Nat → Value) (S : Nat → Nat → Int) (c : Nat) (w : World) (e : Ending) (w' : World) : Prop :=
  ∃ nv' A n cap, e = .returned (.slice A n cap) ∧ Lk A n cap (p.nx c) w' ∧ Gr p nv' sv S w' ∧ Went p w w'
theorem Pm.Fit.lv_wall {p : Pm} (h : p.Fit) {c : Nat} (hl : p.lv c = true) : at_ p.s c ≠ 35 := by
  rcases outB_iff.1 hl with e | e
  · rw [e]; exact h.wall
  · intro e2; rw [e2] at e; revert e; decide
set_option maxHeartbeats 2000000 in
theorem next7_any {p : Pm} {nv sv : Nat → Value} {S : Nat → Nat → Int} {w : World} (h : Gr p nv sv S w) {c : Nat} (hc : c < p.s.size) :
    Calls Tryz.prog 81 #[.pointer (some ⟨p.gb, 0, none⟩), .int .i64 (c : Int)] w (NextTold7 p sv S c w) := by
  have hcI : (c : Int) < (p.s.size : Int) := by omega
  have n256 := h.fit.n256
  have k6 := h.g6
  have kc := h.lvc hc
  have HG := Lib.hid h
  cases hl : p.lv c with
  | false =>
    rw [hl] at kc
    have HX : Hid (p.nx c = []) := Lib.hid (by unfold Pm.nx; rw [hl]; rfl)
    clear h
    go_enter Tryz.func81, Tryz.ntmps81
    go_wp2_with fail
    go_ret
    exact ⟨nv, none, 0, 0, rfl, .inl ⟨rfl, rfl, rfl, HX.out⟩, HG.out, Went.same _ _⟩
  | true =>
    rw [hl] at kc
    have HX : Hid (p.nx c = p.near c) := Lib.hid (by unfold Pm.nx; rw [hl]; rfl)
    have HN := Lib.hid (nearTo_any h hc (h.fit.lv_wall hl))
    clear h
    go_enter Tryz.func81, Tryz.ntmps81
    go_wp2_with fail
    refine HN.out.mono ?_
    rintro e w2 ⟨nv', g, cap, rfl, h1, h2, h3⟩
    have H1 := Lib.hid h1
    have H2 := Lib.hid h2
    have H3 := Lib.hid h3
    clear h1 h2 h3 k6 kc
    go_wp2_with fail
    go_ret
    exact ⟨nv', _, _, cap, rfl, .inr ⟨g, rfl, by rw [HX.out], by rw [HX.out]; exact H1.out⟩, H2.out, H3.out⟩
end Sp
end Go.Proofs.YtcdclghmebgpnaaGreatDoor
end
