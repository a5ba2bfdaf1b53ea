/-
  Layer 14: the document's examples; are two packets like?
-/
import Derived.Test.YtobpinelhjpfgaaDoorLnG
import Derived.Lib.SlBytesConst
set_option linter.unusedVariables false
set_option maxRecDepth 100000
namespace Go.Proofs.YtobpinelhjpfgaaDoor
namespace Ln
open Go.RowKit Bp Ck
theorem is_play {h : Bool} {n : Nat} {d : List Nat} (hok : Ok h n d) : Is (play h n d) h n d := ⟨hok, rfl⟩
theorem play_ne {h : Bool} {n : Nat} {d : List Nat} (hok : Ok h n d) : play h n d ≠ [] := fun e => by have := hok.size.1; rw [e] at this; simp at this
theorem ok_heard {n : Nat} (h : n + 1 < 18446744073709551616) : Ok true n [] := ⟨h, by simp, fun _ => rfl, by simp⟩
/-- A thing's packet comes to a receiver that has heard as many as were told: it is new. -/
theorem rans_next {k : Nat} (h : k + 2 < 18446744073709551616) : rAns k (k + 1) = true := by
  unfold rAns
  rw [Nat.mod_eq_of_lt (by omega)]
  simp
theorem rans_same {k : Nat} (h : k + 1 < 18446744073709551616) (h0 : k ≠ 0) : rAns k k = true := by
  unfold rAns
  rw [Nat.mod_eq_of_lt (by omega)]
  simp [h0]
/-- What a new packet comes to. -/
def NewTold (r n : Nat) (d : List Nat) (w : World) (e : Ending) (w' : World) : Prop := Turn (One r) (One r) w w' ∧
  ∃ A c A2 c2, e = .returned (.tuple #[.slice A d.length c, .bool true, .slice A2 (play true n []).length c2]) ∧ (By w'.heap.size w' A d.length c d ∧ ∀ a, A = some a → w.heap.size ≤ a.block) ∧ (By w'.heap.size w' A2 (play true n []).length c2 (play true n []) ∧ ∀ a, A2 = some a → w.heap.size ≤ a.block) ∧ RAt w' r n
theorem rhear_new {w : World} {r k B : Nat} {A : Option Addr} {n c : Nat} {d : List Nat} (h : RAt w r k) (hk : k + 2 < 18446744073709551616) (hok : Ok false (k + 1) d) (hd : By B w A n c (play false (k + 1) d)) (hB : B ≤ w.heap.size) :
    Calls Tryd.prog 38 #[.pointer (some ⟨r, 0, none⟩), .slice A n c] w (NewTold r (k + 1) d w) := by
  refine (rhear_any h hd hB).mono ?_
  rintro e w' ⟨ht, hc⟩
  rcases hc with ⟨n2, d2, A1, c1, A2, c2, his, _, _, he, hy, hb, hr⟩ | ⟨n2, d2, A2, c2, his, _, hle, _⟩ | ⟨hno, _⟩
  · obtain ⟨_, rfl, rfl⟩ := his.uniq (is_play hok)
    exact ⟨ht, A1, c1, A2, c2, he, hy, hb, hr⟩
  · obtain ⟨_, rfl, rfl⟩ := his.uniq (is_play hok)
    omega
  · have := hno _ _ (is_play hok)
    rw [rans_next hk] at this
    cases this
def OldTold (r k n : Nat) (w : World) (e : Ending) (w' : World) : Prop := Turn (One r) (One r) w w' ∧
  ∃ A2 c2, e = .returned (.tuple #[.slice none 0 0, .bool false, .slice A2 (play true n []).length c2]) ∧ (By w'.heap.size w' A2 (play true n []).length c2 (play true n []) ∧ ∀ a, A2 = some a → w.heap.size ≤ a.block) ∧ RAt w' r k
theorem rhear_old {w : World} {r k B : Nat} {A : Option Addr} {n c : Nat} {d : List Nat} (h : RAt w r k) (hk : k ≠ 0) (hok : Ok false k d) (hd : By B w A n c (play false k d)) (hB : B ≤ w.heap.size) :
    Calls Tryd.prog 38 #[.pointer (some ⟨r, 0, none⟩), .slice A n c] w (OldTold r k k w) := by
  refine (rhear_any h hd hB).mono ?_
  rintro e w' ⟨ht, hc⟩
  rcases hc with ⟨n2, d2, A1, c1, A2, c2, his, _, hlt, _⟩ | ⟨n2, d2, A2, c2, his, _, hle, he, hb, hr⟩ | ⟨hno, _⟩
  · obtain ⟨_, rfl, rfl⟩ := his.uniq (is_play hok)
    omega
  · obtain ⟨_, rfl, rfl⟩ := his.uniq (is_play hok)
    exact ⟨ht, A2, c2, he, hb, hr⟩
  · have := hno _ _ (is_play hok)
    rw [rans_same (by have := hok.num; omega) hk] at this
    cases this
theorem shear_yes {w : World} {s told B : Nat} {v : Value} {pk : List Nat} {A : Option Addr} {n c : Nat} (h : SAt w s v told pk) (hp : pk ≠ []) (hd : By B w A n c (play true (told + 1) [])) (hB : B ≤ w.heap.size) :
    Calls Tryd.prog 35 #[.pointer (some ⟨s, 0, none⟩), .slice A n c] w (STold s v (told + 1) [] (.bool true) w) := by
  have := shear_any h hd hB
  have e : heB told pk (play true (told + 1) []) = true := by unfold heB; rw [decide_eq_true hp, decide_eq_true rfl]; rfl
  rw [e] at this
  exact this
theorem shear_none {w : World} {s told B : Nat} {v : Value} {A : Option Addr} {n c : Nat} {bs : List Nat} (h : SAt w s v told []) (hd : By B w A n c bs) (hB : B ≤ w.heap.size) :
    Calls Tryd.prog 35 #[.pointer (some ⟨s, 0, none⟩), .slice A n c] w (STold s v told [] (.bool false) w) := by
  have := shear_any h hd hB
  have e : heB told [] bs = false := by simp [heB]
  rw [e] at this
  exact this
theorem tell_new {w : World} {s told B : Nat} {v : Value} {A : Option Addr} {n c : Nat} {d : List Nat} (h : SAt w s v told []) (h2 : told + 2 < 18446744073709551616) (hd : By B w A n c d) (hB : B ≤ w.heap.size) (hn : n ≤ 200) :
    Calls Tryd.prog 33 #[.pointer (some ⟨s, 0, none⟩), .slice A n c] w (STold s v told (play false (told + 1) d) (.int .i64 0) w) := tell_ok h h2 hd hB hn
theorem packet_yes {w : World} {s told : Nat} {v : Value} {pk : List Nat} (h : SAt w s v told pk) (hp : pk ≠ []) : Calls Tryd.prog 34 #[.pointer (some ⟨s, 0, none⟩)] w fun e w' => ∃ A c, e = .returned (.tuple #[.slice A pk.length c, .bool true]) ∧ (By w'.heap.size w' A pk.length c pk ∧ ∀ a, A = some a → w.heap.size ≤ a.block) ∧ Below w.heap.size w w' := by
  refine (packet_any h).mono ?_
  rintro e w' ⟨A, c, he, ho, hb⟩
  rw [decide_eq_true hp] at he
  exact ⟨A, c, he, ⟨By.own ho h.byte, fun a ha => by
    subst ha
    obtain ⟨g, c3, e3⟩ := shape_of ho (List.length_pos_iff.2 hp)
    injection e3 with e3
    injection e3 with e3
    subst e3
    exact (row_kind ho g rfl).2.1⟩, hb⟩
/-- Lay's error and bytes. -/
def lyE (h : Bool) (n m : Nat) : Int := if 200 < m ∨ n = 18446744073709551615 then 4 else if h = true ∧ 0 < m then 140 else 0
def lyZ (h : Bool) (n : Nat) (d : List Nat) : List Nat := if lyE h n d.length = 0 then play h n d else []
def LayAll (E : Int) (zs : List Nat) (w : World) (e : Ending) (w' : World) : Prop := ∃ A c, e = .returned (.tuple #[.slice A zs.length c, .int .i64 E]) ∧ w'.ownsRow w.heap.size 5 1 (.slice A zs.length c) zs.length (bc zs) ∧ Below w.heap.size w w'
theorem ly_ok {h : Bool} {n : Nat} {d : List Nat} (hn : n < 18446744073709551616) (hb : ∀ z ∈ d, z ≤ 255) (he : lyE h n d.length = 0) : Ok h n d := by
  unfold lyE at he
  split at he
  · cases he
  · rename_i h1
    split at he
    · cases he
    · rename_i h2
      refine ⟨by omega, by omega, fun x => ?_, hb⟩
      have h3 : ¬ 0 < d.length := fun y => h2 ⟨x, y⟩
      exact List.eq_nil_of_length_eq_zero (by omega)
theorem ok_ly {h : Bool} {n : Nat} {d : List Nat} (hok : Ok h n d) : lyE h n d.length = 0 ∧ lyZ h n d = play h n d := by
  have e : lyE h n d.length = 0 := by
    unfold lyE
    rw [if_neg (by have := hok.few; have := hok.num; omega), if_neg (by rintro ⟨x, y⟩; rw [hok.none_ x] at y; simp at y)]
  exact ⟨e, by unfold lyZ; rw [if_pos e]⟩
theorem lyZ_byte {h : Bool} {n : Nat} {d : List Nat} (hn : n < 18446744073709551616) (hb : ∀ z ∈ d, z ≤ 255) : ∀ z ∈ lyZ h n d, z ≤ 255 := by
  unfold lyZ
  split
  · rename_i he; exact (ly_ok hn hb he).play_byte
  · simp
theorem lyZ_few {h : Bool} {n : Nat} {d : List Nat} (hn : n < 18446744073709551616) (hb : ∀ z ∈ d, z ≤ 255) : (lyZ h n d).length ≤ 300 := by
  unfold lyZ
  split
  · rename_i he; exact (ly_ok hn hb he).size.2
  · simp
theorem lay_any {B : Nat} {w : World} {h : Bool} {n : Nat} {A : Option Addr} {m c : Nat} {d : List Nat} (hn : n < 18446744073709551616) (hd : By B w A m c d) (hB : B ≤ w.heap.size) :
    Calls Tryd.prog 45 #[.agg #[.bool h, .int .u64 (n : Int), .slice A m c]] w (LayAll (lyE h n d.length) (lyZ h n d) w) := by
  have hln := hd.len
  by_cases he : lyE h n d.length = 0
  · have hok := ly_ok hn hd.byte he
    have e2 : lyZ h n d = play h n d := by unfold lyZ; rw [if_pos he]
    rw [e2, he]
    refine (lay_ok hok hd hB).mono ?_
    rintro e w' ⟨g, c', rfl, ho, hb⟩
    exact ⟨_, _, rfl, ho, hb⟩
  · have e2 : lyZ h n d = [] := by unfold lyZ; rw [if_neg he]
    rw [e2]
    by_cases h1 : 200 < d.length ∨ n = 18446744073709551615
    · have e3 : lyE h n d.length = 4 := by unfold lyE; rw [if_pos h1]
      rw [e3]
      refine (lay_long (by have := hd.le; have := hd.max; unfold maxLen at this; omega) hn (by rw [← hln]; exact h1)).mono ?_
      rintro e w' ⟨rfl, hb⟩
      exact ⟨none, 0, rfl, by exact World.ownsRow_nil _ _ _ _, hb⟩
    · by_cases h2 : h = true ∧ 0 < d.length
      · have e3 : lyE h n d.length = 140 := by unfold lyE; rw [if_neg h1, if_pos h2]
        rw [e3]
        obtain ⟨rfl, h3⟩ := h2
        refine (lay_packet (by omega) (by omega) (by omega)).mono ?_
        rintro e w' ⟨rfl, hb⟩
        exact ⟨none, 0, rfl, by exact World.ownsRow_nil _ _ _ _, hb⟩
      · exact absurd (show lyE h n d.length = 0 by unfold lyE; rw [if_neg h1, if_neg h2]) he
theorem lit_ab (w : World) : By (w.alloc (.cells #[.int .u8 97, .int .u8 98] 5 (2, 3))).heap.size (w.alloc (.cells #[.int .u8 97, .int .u8 98] 5 (2, 3))) (some ⟨w.heap.size, 0, none⟩) 2 2 [97, 98] := by
  have := lit_by w [97, 98] (2, 3) (by simp) (by simp)
  exact this.mono (by simp)
/-- A sender and a receiver, both new. -/
theorem both_new (w : World) (a b : Nat) (ha : a < 18446744073709551616) (hb : b < 18446744073709551616) : ∀ W, W = (w.alloc (.cells #[.int .u64 (a : Int), .slice none 0 0] 102)).alloc (.cells #[.int .u64 (b : Int)] 104) →
    SAt W w.heap.size (.slice none 0 0) a [] ∧ RAt W (w.heap.size + 1) b ∧ Below w.heap.size w W ∧ W.heap.size = w.heap.size + 2 := by
  rintro W rfl
  have h1 := sat_new w a ha
  have h2 := rat_new (w.alloc (.cells #[.int .u64 (a : Int), .slice none 0 0] 102)) b hb
  have e : (w.alloc (.cells #[.int .u64 (a : Int), .slice none 0 0] 102)).heap.size = w.heap.size + 1 := by simp
  rw [e] at h2
  exact ⟨h1.later ((Below.refl _ _).alloc (Nat.le_refl _) _), h2, ((Below.refl _ _).alloc (Nat.le_refl _) _).alloc (by simp) _, by simp⟩
end Ln
end Go.Proofs.YtobpinelhjpfgaaDoor
