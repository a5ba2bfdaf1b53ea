/-
  Layer 17, plain facts: a record's bits and an act's, field by field; how fields are read off bytes; bytes are a record's in one way at most.
  Layer 17: the table of fields in memory; which numbers may be; which fields a kind has; which records may be.
  Layer 17: fields are laid one by one; Lay and LayAct.
  Layer 17: Lay and LayAct.
  Layer 17: fields are taken one by one.
  Layer 17: a record's fields are gathered; Take and TakeAct.
-/
import Derived.Test.YtobpinelhjpfgaaDoorBtFiv
import Derived.Deep.RegionHeld3
set_option linter.unusedVariables false
set_option maxRecDepth 100000
section
namespace Go.Proofs.YtobpinelhjpfgaaDoor
namespace Rc
open Bp
/-- In how many bits a field is laid (0: as a count), and the greatest number of it. -/
def fw : Nat → Nat
  | 1 => 3 | 2 => 6 | 3 => 8 | 4 => 3 | _ => 0
def fmx : Nat → Nat
  | 0 => 1073741824 | 1 => 7 | 2 => 63 | 3 => 255 | 4 => 5 | _ => 0
def fld (f n : Nat) : List Bool := if f = 0 then countBits n else bitsOf n (fw f)
def fbits (fs : List Nat) (N : Nat → Nat) : List Bool := fs.flatMap fun f => fld f (N f)
/-- The fields of a kind. -/
def fl (k : Nat) : List Nat := if k = 1 then [2, 3, 4] else if k = 2 then [0] else if k = 3 then [0, 1] else if k = 4 ∨ k = 5 then [1] else []
/-- A number that can be read there. -/
def rg (f m : Nat) : Prop := if f = 0 then m + 1 < 18446744073709551616 else m < 2 ^ fw f
/-- What a field is read as. -/
def mn (f m : Nat) : Nat := if f = 0 then min m 1073741825 else m
theorem fl_nodup (k : Nat) : (fl k).Nodup := by unfold fl; repeat' split
                                                all_goals decide
theorem fl_lt (k f : Nat) (h : f ∈ fl k) : f < 5 := by
  unfold fl at h
  repeat' split at h
  all_goals simp at h
  all_goals omega
theorem fld_zero (n : Nat) : fld 0 n = countBits n := if_pos rfl
theorem fld_pos (f n : Nat) (h : f ≠ 0) : fld f n = bitsOf n (fw f) := if_neg h
theorem rg_le (f m : Nat) (hf : f < 5) (h : m ≤ fmx f) : rg f m := by
  unfold rg
  have : f = 0 ∨ f = 1 ∨ f = 2 ∨ f = 3 ∨ f = 4 := by omega
  rcases this with rfl | rfl | rfl | rfl | rfl <;> simp [fw, fmx] at * <;> omega
theorem mn_le (f m : Nat) (hf : f < 5) (h : m ≤ fmx f) : mn f m = m := by
  unfold mn
  split
  · rename_i e
    subst e
    simp only [fmx] at h
    omega
  · rfl
theorem mn_back (f m : Nat) (hf : f < 5) (h : mn f m ≤ fmx f) : mn f m = m := by
  unfold mn at *
  split
  · rename_i e
    subst e
    simp only [fmx, if_pos] at h
    omega
  · rfl
theorem fbits_nil (N : Nat → Nat) : fbits [] N = [] := rfl
theorem fbits_snoc (fs : List Nat) (f : Nat) (N : Nat → Nat) : fbits (fs ++ [f]) N = fbits fs N ++ fld f (N f) := by simp [fbits]
theorem fbits_cons (fs : List Nat) (f : Nat) (N : Nat → Nat) : fbits (f :: fs) N = fld f (N f) ++ fbits fs N := by simp [fbits]
theorem fbits_congr (fs : List Nat) (N M : Nat → Nat) (h : ∀ f, f ∈ fs → N f = M f) : fbits fs N = fbits fs M := by
  induction fs with
  | nil => rfl
  | cons f fs ih => rw [fbits_cons, fbits_cons, h f (by simp), ih (fun g hg => h g (by simp [hg]))]
theorem fld_len (f m : Nat) (hf : f < 5) (h : m ≤ fmx f) : (fld f m).length ≤ 61 := by
  unfold fld
  split
  · rename_i e
    subst e
    rw [countBits_length]
    have h1 := kz_le m
    simp only [fmx] at h
    have : kz m ≤ 30 := by
      rcases Nat.lt_or_ge 30 (kz m) with x | x
      · have h2 : (2 : Nat) ^ 31 ≤ 2 ^ kz m := Nat.pow_le_pow_right (by decide) x
        have e : (2 : Nat) ^ 31 = 2147483648 := by decide
        omega
      · exact x
    omega
  · rw [bitsOf_length]
    have : f = 0 ∨ f = 1 ∨ f = 2 ∨ f = 3 ∨ f = 4 := by omega
    rcases this with rfl | rfl | rfl | rfl | rfl <;> simp [fw]
theorem fbits_len (fs : List Nat) (N : Nat → Nat) (h : ∀ f, f ∈ fs → f < 5 ∧ N f ≤ fmx f) : (fbits fs N).length ≤ 61 * fs.length := by
  induction fs with
  | nil => simp [fbits]
  | cons f fs ih =>
    rw [fbits_cons, List.length_append, List.length_cons]
    have := ih (fun g hg => h g (by simp [hg]))
    have h1 := h f (by simp)
    have := fld_len f (N f) h1.1 h1.2
    omega
/-- Two stretches. -/
theorem has_app {zs : List Nat} {p : Nat} {a b : List Bool} (h1 : Has zs p a) (h2 : Has zs (p + a.length) b) : Has zs p (a ++ b) := by
  refine ⟨by rw [List.length_append]; have := h2.1; omega, fun i hi => ?_⟩
  rcases Nat.lt_or_ge i a.length with x | x
  · rw [bitN_left _ _ _ x]; exact h1.2 i x
  · obtain ⟨j, rfl⟩ : ∃ j, i = a.length + j := ⟨i - a.length, by omega⟩
    rw [bitN_right, ← Nat.add_assoc]
    rw [List.length_append] at hi
    exact h2.2 j (by omega)
theorem has_left {zs : List Nat} {p : Nat} {a b : List Bool} (h : Has zs p (a ++ b)) : Has zs p a := by
  have h1 := h.1
  rw [List.length_append] at h1
  refine ⟨by omega, fun i hi => ?_⟩
  rw [h.2 i (by rw [List.length_append]; omega), bitN_left _ _ _ hi]
theorem has_right {zs : List Nat} {p : Nat} {a b : List Bool} (h : Has zs p (a ++ b)) : Has zs (p + a.length) b := by
  have h1 := h.1
  rw [List.length_append] at h1
  refine ⟨by omega, fun i hi => ?_⟩
  rw [Nat.add_assoc, h.2 _ (by rw [List.length_append]; omega), bitN_right]
theorem has_nil (zs : List Nat) (p : Nat) (h : p ≤ 8 * zs.length) : Has zs p [] := ⟨by simpa using h, fun i hi => by simp at hi⟩
/-- What is taken is what stands there. -/
theorem tk_bit (zs : List Nat) (p m i : Nat) (h : i < m) : tk zs p m / 2 ^ (m - 1 - i) % 2 = rbit zs (p + i) := by
  induction m with
  | zero => omega
  | succ m ih =>
    rw [tk]
    have hr := rbit_le zs (p + m)
    rcases Nat.lt_or_ge i m with x | x
    · have e : m + 1 - 1 - i = (m - 1 - i) + 1 := by omega
      rw [e, Nat.pow_succ', ← Nat.div_div_eq_div_mul, show (2 * tk zs p m + rbit zs (p + m)) / 2 = tk zs p m by omega]
      exact ih x
    · obtain rfl : i = m := by omega
      rw [show i + 1 - 1 - i = 0 by omega, Nat.pow_zero, Nat.div_one]
      omega
theorem has_tk (zs : List Nat) (p m : Nat) (h : p + m ≤ 8 * zs.length) : Has zs p (bitsOf (tk zs p m) m) := by
  refine ⟨by rw [bitsOf_length]; exact h, fun i hi => ?_⟩
  rw [bitsOf_length] at hi
  rw [bitN_bitsOf _ _ _ hi, tk_bit zs p m i hi]
theorem cnt_top {zs : List Nat} {p q : Nat} (hz : Zs zs p q) (hq : q ≤ 63) (hs : p + (2 * q + 1) ≤ 8 * zs.length) :
    tk zs (p + q) (q + 1) - 1 + 1 = tk zs (p + q) (q + 1) ∧ kz (tk zs (p + q) (q + 1) - 1) = q ∧ tk zs (p + q) (q + 1) < 18446744073709551616 := by
  have hb : rbit zs (p + q) = 1 := by rcases hz.stop with e | e | e <;> omega
  have hlo := tk_top zs (p + q) q hb
  have hp := Nat.two_pow_pos q
  have hhi := tk_lt zs (p + q) (q + 1)
  have h3 : (2 : Nat) ^ (q + 1) ≤ 2 ^ 64 := Nat.pow_le_pow_right (by decide) (by omega)
  have e : (2 : Nat) ^ 64 = 18446744073709551616 := by decide
  have e1 : tk zs (p + q) (q + 1) - 1 + 1 = tk zs (p + q) (q + 1) := by omega
  refine ⟨e1, ?_, by omega⟩
  have a1 := kz_le (tk zs (p + q) (q + 1) - 1)
  have a2 := kz_lt (tk zs (p + q) (q + 1) - 1)
  rw [e1] at a1 a2
  exact pow_unique _ _ _ a1 a2 hlo hhi
theorem has_cnt {zs : List Nat} {p q : Nat} (hz : Zs zs p q) (hq : q ≤ 63) (hs : p + (2 * q + 1) ≤ 8 * zs.length) : Has zs p (countBits (tk zs (p + q) (q + 1) - 1)) := by
  obtain ⟨e1, e2, _⟩ := cnt_top hz hq hs
  unfold countBits
  rw [e1, e2]
  refine has_app ⟨by rw [List.length_replicate]; omega, fun i hi => ?_⟩ ?_
  · rw [List.length_replicate] at hi
    rw [hz.zero i hi]
    have h1 := bitN_bitsOf 0 q i hi
    rw [bitsOf_zero, Nat.zero_div] at h1
    rw [h1]
  · rw [List.length_replicate]
    exact has_tk zs (p + q) (q + 1) (by omega)
/-- One number stands there, at most. -/
theorem fld_uniq {zs : List Nat} {p f m n : Nat} (hm : rg f m) (hn : rg f n) (h1 : Has zs p (fld f m)) (h2 : Has zs p (fld f n)) : m = n := by
  by_cases hf : f = 0
  · subst hf
    rw [fld_zero] at h1 h2
    simp only [rg, if_pos] at hm hn
    obtain ⟨a1, a2, a3, a4⟩ := h1.count hm
    obtain ⟨b1, b2, b3, b4⟩ := h2.count hn
    have e := a1.unique b1
    rw [e] at a4
    omega
  · rw [fld_pos _ _ hf] at h1 h2
    simp only [rg, if_neg hf] at hm hn
    have a := h1.get.2
    have b := h2.get.2
    rw [Nat.mod_eq_of_lt hm] at a
    rw [Nat.mod_eq_of_lt hn] at b
    omega
theorem fbits_uniq {zs : List Nat} : ∀ (fs : List Nat) (p : Nat) (M N : Nat → Nat), (∀ f, f ∈ fs → rg f (M f)) → (∀ f, f ∈ fs → rg f (N f)) → Has zs p (fbits fs M) → Has zs p (fbits fs N) → ∀ f, f ∈ fs → M f = N f
  | [], _, _, _, _, _, _, _ => by simp
  | g :: fs, p, M, N, hM, hN, h1, h2 => by
    rw [fbits_cons] at h1 h2
    have e := fld_uniq (hM g (by simp)) (hN g (by simp)) (has_left h1) (has_left h2)
    have r1 := has_right h1
    have r2 := has_right h2
    rw [← e] at r2
    have ih := fbits_uniq fs _ M N (fun f hf => hM f (by simp [hf])) (fun f hf => hN f (by simp [hf])) r1 r2
    intro f hf
    rcases List.mem_cons.1 hf with rfl | hf
    · exact e
    · exact ih f hf
/-- How a field is read: behind a fault, as what stands there, or refused. -/
def Fr (zs : List Nat) (f p : Nat) (e : Int) (n p' : Nat) (e' : Int) : Prop :=
  (e ≠ 0 ∧ n = 0 ∧ p' = p ∧ e' = e) ∨
  (e = 0 ∧ e' = 0 ∧ ∃ m, rg f m ∧ Has zs p (fld f m) ∧ p' = p + (fld f m).length ∧ n = m) ∨
  (e = 0 ∧ e' ≠ 0 ∧ n = 0 ∧ p' = p ∧ ∀ m, rg f m → ¬ Has zs p (fld f m))
def upd (N : Nat → Nat) (f n : Nat) : Nat → Nat := fun g => if g = f then n else N g
theorem upd_same (N : Nat → Nat) (f n : Nat) : upd N f n f = n := if_pos rfl
theorem upd_other (N : Nat → Nat) (f n g : Nat) (h : g ≠ f) : upd N f n g = N g := if_neg h
/-- How fields are read, one behind the other: N is what was read (0 elsewhere). -/
inductive Rds (zs : List Nat) (p : Nat) (e : Int) : List Nat → (Nat → Nat) → Nat → Int → Prop
  | nil : Rds zs p e [] (fun _ => 0) p e
  | snoc {fs : List Nat} {N : Nat → Nat} {p' : Nat} {e' : Int} {f n p'' : Nat} {e'' : Int} : Rds zs p e fs N p' e' → Fr zs f p' e' n p'' e'' → Rds zs p e (fs ++ [f]) (upd N f n) p'' e''
theorem Rds.out {zs : List Nat} {p : Nat} {e : Int} {fs : List Nat} {N : Nat → Nat} {p' : Nat} {e' : Int} (h : Rds zs p e fs N p' e') : ∀ f, f ∉ fs → N f = 0 := by
  induction h with
  | nil => intro f _; rfl
  | snoc h1 h2 ih =>
    intro g hg
    rw [List.mem_append, List.mem_singleton, not_or] at hg
    rw [upd_other _ _ _ _ hg.2]
    exact ih g hg.1
/-- No fault in the end: all stands there. -/
theorem Rds.has {zs : List Nat} {p : Nat} {e : Int} {fs : List Nat} {N : Nat → Nat} {p' : Nat} {e' : Int} (h : Rds zs p e fs N p' e') (hn : fs.Nodup) (hp : p ≤ 8 * zs.length) (he : e' = 0) :
    e = 0 ∧ Has zs p (fbits fs N) ∧ p' = p + (fbits fs N).length ∧ ∀ f, f ∈ fs → rg f (N f) := by
  induction h with
  | nil => exact ⟨he, has_nil _ _ hp, by simp [fbits], by simp⟩
  | snoc h1 h2 ih =>
    rename_i fs N p' e' f n p'' e''
    obtain ⟨n1, n2⟩ : fs.Nodup ∧ f ∉ fs := by
      rw [List.nodup_append] at hn
      exact ⟨hn.1, fun x => hn.2.2 f x f (by simp) rfl⟩
    rcases h2 with ⟨a, _, _, b⟩ | ⟨a, _, m, hm, hh, hq, rfl⟩ | ⟨a, b, _⟩
    · exact absurd (b.symm.trans he) a
    · obtain ⟨i1, i2, i3, i4⟩ := ih n1 a
      have e1 : fbits fs (upd N f n) = fbits fs N := fbits_congr _ _ _ (fun g hg => upd_other _ _ _ _ (fun x => n2 (x ▸ hg)))
      rw [fbits_snoc, e1, upd_same]
      rw [i3] at hh hq
      refine ⟨i1, has_app i2 hh, by rw [hq, List.length_append]; omega, fun g hg => ?_⟩
      rcases List.mem_append.1 hg with x | x
      · rw [upd_other _ _ _ _ (fun y : g = f => n2 (y ▸ x))]; exact i4 g x
      · rw [List.mem_singleton] at x
        subst x
        rw [upd_same]; exact hm
    · exact absurd he b
/-- What stands there is read. -/
theorem Rds.reads {zs : List Nat} {p : Nat} {fs : List Nat} {N : Nat → Nat} {p' : Nat} {e e' : Int} (h : Rds zs p e fs N p' e') (he : e = 0) (M : Nat → Nat) (hn : fs.Nodup) (hM : ∀ f, f ∈ fs → rg f (M f)) (hh : Has zs p (fbits fs M)) :
    e' = 0 ∧ p' = p + (fbits fs M).length ∧ ∀ f, f ∈ fs → N f = M f := by
  induction h with
  | nil => exact ⟨he, by simp [fbits], by simp⟩
  | snoc h1 h2 ih =>
    rename_i fs N p' e' f n p'' e''
    obtain ⟨n1, n2⟩ : fs.Nodup ∧ f ∉ fs := by
      rw [List.nodup_append] at hn
      exact ⟨hn.1, fun x => hn.2.2 f x f (by simp) rfl⟩
    rw [fbits_snoc] at hh
    obtain ⟨i1, i2, i3⟩ := ih n1 (fun g hg => hM g (by simp [hg])) (has_left hh)
    have hr := has_right hh
    rw [← i2] at hr
    rcases h2 with ⟨a, _⟩ | ⟨_, h0, m, hm, hm2, hq, rfl⟩ | ⟨_, _, _, _, hno⟩
    · exact absurd i1 a
    · have e1 := fld_uniq hm (hM f (by simp)) hm2 hr
      subst e1
      refine ⟨h0, by rw [hq, i2, fbits_snoc, List.length_append]; omega, fun g hg => ?_⟩
      rcases List.mem_append.1 hg with x | x
      · rw [upd_other _ _ _ _ (fun y : g = f => n2 (y ▸ x))]; exact i3 g x
      · rw [List.mem_singleton] at x
        subst x
        rw [upd_same]
    · exact absurd hr (hno _ (hM f (by simp)))
theorem byte_sum (m : Nat) (h : m ≤ 255) : 128 * (m / 128 % 2) + 64 * (m / 64 % 2) + 32 * (m / 32 % 2) + 16 * (m / 16 % 2) + 8 * (m / 8 % 2) + 4 * (m / 4 % 2) + 2 * (m / 2 % 2) + m % 2 = m := by omega
theorem byte_of (zs : List Nat) (i : Nat) (h : zs.getD i 0 ≤ 255) : zs.getD i 0 = 128 * rbit zs (8 * i) + 64 * rbit zs (8 * i + 1) + 32 * rbit zs (8 * i + 2) + 16 * rbit zs (8 * i + 3) + 8 * rbit zs (8 * i + 4) + 4 * rbit zs (8 * i + 5) + 2 * rbit zs (8 * i + 6) + rbit zs (8 * i + 7) := by
  unfold rbit
  have e : ∀ j, j < 8 → (8 * i + j) / 8 = i ∧ (8 * i + j) % 8 = j := fun j hj => by omega
  rw [show (8 * i) / 8 = i by omega, show (8 * i) % 8 = 0 by omega, (e 1 (by omega)).1, (e 1 (by omega)).2, (e 2 (by omega)).1, (e 2 (by omega)).2, (e 3 (by omega)).1, (e 3 (by omega)).2, (e 4 (by omega)).1, (e 4 (by omega)).2, (e 5 (by omega)).1, (e 5 (by omega)).2, (e 6 (by omega)).1, (e 6 (by omega)).2, (e 7 (by omega)).1, (e 7 (by omega)).2]
  generalize zs.getD i 0 = z at *
  simp only [pw, show (2 : Nat) ^ (7 - 0) = 128 from rfl, show (2 : Nat) ^ (7 - 1) = 64 from rfl, show (2 : Nat) ^ (7 - 2) = 32 from rfl, show (2 : Nat) ^ (7 - 3) = 16 from rfl, show (2 : Nat) ^ (7 - 4) = 8 from rfl, show (2 : Nat) ^ (7 - 5) = 4 from rfl, show (2 : Nat) ^ (7 - 6) = 2 from rfl, show (2 : Nat) ^ (7 - 7) = 1 from rfl, Nat.div_one]
  exact (byte_sum z h).symm
/-- Bytes whose bits are those of a list, and 0 behind it. -/
theorem eq_pack (zs : List Nat) (bs : List Bool) (hz : ∀ z ∈ zs, z ≤ 255) (h1 : bs.length ≤ 8 * zs.length) (h2 : 8 * zs.length < bs.length + 8) (h3 : ∀ k, k < 8 * zs.length → rbit zs k = bitN bs k) : zs = pack bs := by
  have hn : nb bs.length = zs.length := by unfold nb; omega
  apply List.ext_getElem?
  intro i
  rcases Nat.lt_or_ge i zs.length with x | x
  · rw [pack_get _ _ (by omega), List.getElem?_eq_getElem x]
    have hg : zs.getD i 0 = zs[i] := by simp [List.getD, List.getElem?_eq_getElem x]
    rw [← hg, byte_of zs i (by rw [hg]; exact hz _ (List.getElem_mem x))]
    unfold byteAt
    rw [h3 _ (by omega), h3 _ (by omega), h3 _ (by omega), h3 _ (by omega), h3 _ (by omega), h3 _ (by omega), h3 _ (by omega), h3 _ (by omega)]
  · rw [List.getElem?_eq_none x, List.getElem?_eq_none (by rw [pack_length]; omega)]
/-- All was read, without a fault. -/
def Fin (zs : List Nat) (p : Nat) (e : Int) : Prop := e = 0 ∧ 8 * zs.length < p + 8 ∧ ∀ k, p ≤ k → k < 8 * zs.length → rbit zs k = 0
theorem fin_pack {zs : List Nat} {bs : List Bool} (hz : ∀ z ∈ zs, z ≤ 255) (h : Has zs 0 bs) (hf : Fin zs bs.length 0) : zs = pack bs := by
  have h1 := h.1
  rw [Nat.zero_add] at h1
  refine eq_pack zs bs hz h1 hf.2.1 fun k hk => ?_
  rcases Nat.lt_or_ge k bs.length with x | x
  · have := h.2 k x
    rwa [Nat.zero_add] at this
  · rw [hf.2.2 k x hk, bitN_ge _ _ x]
theorem pack_fin (bs : List Bool) : Has (pack bs) 0 bs ∧ Fin (pack bs) bs.length 0 := by
  refine ⟨?_, rfl, by rw [pack_length]; unfold nb; omega, fun k h1 h2 => ?_⟩
  · have := has_pack [] bs [] 0 rfl
    simpa using this
  · rw [pack_length] at h2
    rw [rbit_pack _ _ h2, bitN_ge _ _ h1]
/-- What has so many bits of a kind ahead, and then its fields: the bits. -/
def kb (j k : Nat) (fs : List Nat) (N : Nat → Nat) : List Bool := bitsOf k j ++ fbits fs N
/-- Read, and all of it: the bytes are those. -/
theorem read_pack {zs : List Nat} {j k : Nat} {fs : List Nat} {N : Nat → Nat} {p : Nat} {e : Int} (hz : ∀ z ∈ zs, z ≤ 255) (hk : Has zs 0 (bitsOf k j)) (hn : fs.Nodup) (hr : Rds zs j 0 fs N p e) (hf : Fin zs p e) :
    zs = pack (kb j k fs N) ∧ ∀ f, f ∈ fs → rg f (N f) := by
  have hj := hk.1
  rw [bitsOf_length, Nat.zero_add] at hj
  obtain ⟨h1, h2, h3, h4⟩ := hr.has hn hj hf.1
  have hl : (kb j k fs N).length = p := by unfold kb; rw [List.length_append, bitsOf_length, h3]
  obtain rfl := hf.1
  have ha := has_app hk (by rw [bitsOf_length, Nat.zero_add]; exact h2)
  exact ⟨fin_pack hz ha (by rw [hl]; exact hf), h4⟩
/-- The other way round. -/
theorem pack_read {j k k' : Nat} {fs : List Nat} {M : Nat → Nat} (hk' : k' < 2 ^ j) (hk : k < 2 ^ j) (h : Has (pack (kb j k fs M)) 0 (bitsOf k' j)) : k' = k := by
  have a := (has_left (pack_fin (kb j k fs M)).1).get.2
  have b := h.get.2
  rw [Nat.mod_eq_of_lt hk] at a
  rw [Nat.mod_eq_of_lt hk'] at b
  omega
theorem pack_reads {j k : Nat} {fs : List Nat} {M N : Nat → Nat} {p : Nat} {e : Int} (hn : fs.Nodup) (hM : ∀ f, f ∈ fs → rg f (M f)) (hr : Rds (pack (kb j k fs M)) j 0 fs N p e) :
    Fin (pack (kb j k fs M)) p e ∧ ∀ f, f ∈ fs → N f = M f := by
  obtain ⟨h1, h2⟩ := pack_fin (kb j k fs M)
  have h3 := has_right h1
  rw [bitsOf_length, Nat.zero_add] at h3
  obtain ⟨e1, e2, e3⟩ := hr.reads rfl M hn hM h3
  refine ⟨?_, e3⟩
  subst e1
  have hl : (kb j k fs M).length = p := by rw [e2]; unfold kb; rw [List.length_append, bitsOf_length]
  rwa [hl] at h2
/-- Bits of two such stand at the beginning of some bytes: they are the same. -/
theorem kb_uniq {zs : List Nat} {j k k' : Nat} {F : Nat → List Nat} {M N : Nat → Nat} (hk : k < 2 ^ j) (hk' : k' < 2 ^ j) (hM : ∀ f, f ∈ F k → rg f (M f)) (hN : ∀ f, f ∈ F k' → rg f (N f)) (h1 : Has zs 0 (kb j k (F k) M)) (h2 : Has zs 0 (kb j k' (F k') N)) :
    k = k' ∧ ∀ f, f ∈ F k → M f = N f := by
  have a := (has_left h1).get.2
  have b := (has_left h2).get.2
  rw [Nat.mod_eq_of_lt hk] at a
  rw [Nat.mod_eq_of_lt hk'] at b
  obtain rfl : k = k' := by omega
  exact ⟨rfl, fbits_uniq (F k) _ M N hM hN (has_right h1) (has_right h2)⟩
theorem has_take {zs : List Nat} {c p : Nat} {bs : List Bool} (h : Has (zs.take c) p bs) : Has zs p bs := by
  have h1 := h.1
  rw [List.length_take] at h1
  refine ⟨by omega, fun i hi => ?_⟩
  have := h.2 i hi
  rwa [rbit_take zs c (p + i) (by omega)] at this
theorem has_more {zs ys : List Nat} {p : Nat} {bs : List Bool} (h : Has zs p bs) : Has (zs ++ ys) p bs := by
  refine has_take (c := zs.length) ?_
  rw [List.take_left]
  exact h
end Rc
end Go.Proofs.YtobpinelhjpfgaaDoor
end

section
namespace Go.Proofs.YtobpinelhjpfgaaDoor
namespace Rc
open Go.RowKit Bp
/-- What the fields' table holds. -/
def shpC : Array Value := #[.int .i64 1073741824, .int .i64 0, .int .i64 7, .int .i64 3, .int .i64 63, .int .i64 6, .int .i64 255, .int .i64 8, .int .i64 5, .int .i64 3]
/-- The table lies in memory as the program lays it. -/
def Shp (w : World) : Prop := ∃ t m, w.heap[0]? = some (.cells shpC t m)
theorem Shp.pos {w : World} (h : Shp w) : 0 < w.heap.size := by obtain ⟨t, m, h⟩ := h; exact lt_of_heap h
theorem Shp.of {w w' : World} (h : Shp w) (e : w'.heap[0]? = w.heap[0]?) : Shp w' := by obtain ⟨t, m, h⟩ := h; exact ⟨t, m, e.trans h⟩
theorem Shp.below {B : Nat} {w w' : World} (h : Shp w) (hb : Below B w w') (hB : 0 < B) : Shp w' := h.of (hb.block 0 hB)
theorem Shp.later {w w' : World} (h : Shp w) (hb : Below w.heap.size w w') : Shp w' := h.below hb h.pos
theorem Shp.cell {w : World} (h : Shp w) (j : Nat) : w.cell? ⟨0, j, none⟩ = shpC[j]? := by
  obtain ⟨t, m, h⟩ := h
  exact cell_of_row w 0 j _ _ _ h
theorem mayBe_any (f : Nat) (hf : f < 5) (n : Int) (w : World) (h : Shp w) :
    Calls Tryd.prog 107 #[.int .i64 (f : Int), .int .i64 n] w fun e w' => e = .returned (.bool (decide (0 ≤ n ∧ n ≤ (fmx f : Int)))) ∧ w = w' := by
  have : f = 0 ∨ f = 1 ∨ f = 2 ∨ f = 3 ∨ f = 4 := by omega
  have hc := h.cell (2 * f)
  clear h hf
  by_cases hn : 0 ≤ n
  · have e1 : decide (0 ≤ n) = true := decide_eq_true hn
    rw [Bool.decide_and, e1, Bool.true_and]
    rcases this with rfl | rfl | rfl | rfl | rfl
    all_goals
      simp only [shpC] at hc
      go_enter Tryd.func107, Tryd.ntmps107
      go_wp2
      go_ret
      exact ⟨rfl, rfl⟩
  · have e1 : decide (0 ≤ n) = false := decide_eq_false hn
    rw [Bool.decide_and, e1, Bool.false_and]
    clear hc this
    go_enter Tryd.func107, Tryd.ntmps107
    go_wp2
    go_ret
    exact ⟨rfl, rfl⟩
/-- Numbers of fields lie at a slice, in a block from B on. -/
def Fs (B : Nat) (w : World) (v : Value) (fs : List Nat) : Prop := (fs = [] ∧ v = .slice none 0 0) ∨ ∃ g, v = .slice (some ⟨g, 0, none⟩) fs.length fs.length ∧ B ≤ g ∧ g < w.heap.size ∧ ∀ j, j < fs.length → w.cell? ⟨g, j, none⟩ = some (.int .i64 ((fs.getD j 0 : Nat) : Int))
theorem Fs.later {B : Nat} {w w' : World} {v : Value} {fs : List Nat} (h : Fs B w v fs) (hb : Below w.heap.size w w') : Fs B w' v fs := by
  rcases h with h | ⟨g, e, hB, hg, hc⟩
  · exact .inl h
  · exact .inr ⟨g, e, hB, Nat.lt_of_lt_of_le hg hb.size, fun j hj => (hb.cell (p := ⟨g, j, none⟩) hg).trans (hc j hj)⟩
theorem Fs.mono {B B' : Nat} {w : World} {v : Value} {fs : List Nat} (h : Fs B w v fs) (hB : B' ≤ B) : Fs B' w v fs := by
  rcases h with h | ⟨g, e, h1, hg, hc⟩
  · exact .inl h
  · exact .inr ⟨g, e, Nat.le_trans hB h1, hg, hc⟩
theorem Fs.turn {B : Nat} {F F' : Nat → Prop} {w w' : World} {v : Value} {fs : List Nat} (h : Fs B w v fs) (ht : Turn F F' w w') (hF : ∀ k, F k → k < B) : Fs B w' v fs := by
  rcases h with h | ⟨g, e, hB, hg, hc⟩
  · exact .inl h
  · refine .inr ⟨g, e, hB, Nat.lt_of_lt_of_le hg ht.size, fun j hj => ?_⟩
    rw [← hc j hj]
    exact World.cell?_of_block (w := w) (a := ⟨g, j, none⟩) (ht.block g hg (fun x => by have := hF g x; omega))
theorem fs_new (w : World) (a : Array Value) (t : Nat) (fs : List Nat) (ha : a = (fs.map fun f : Nat => Value.int .i64 (f : Int)).toArray) : Fs w.heap.size (w.alloc (.cells a t)) (.slice (some ⟨w.heap.size, 0, none⟩) fs.length fs.length) fs :=
  .inr ⟨w.heap.size, rfl, Nat.le_refl _, lt_of_heap (heap_alloc_new w _), fun j hj => by
    rw [cell_of_row _ w.heap.size j _ _ _ (heap_alloc_new w _), ha]
    simp [hj]⟩
theorem below_new (w : World) (o : Obj) : Below w.heap.size w (w.alloc o) := (Below.refl _ _).alloc (Nat.le_refl _) _
theorem actFields_any (w : World) :
    Calls Tryd.prog 83 #[] w fun e w' => ∃ v, e = .returned v ∧ Fs w.heap.size w' v [3, 2] ∧ Below w.heap.size w w' := by
  go_enter Tryd.func83, Tryd.ntmps83
  go_wp2
  go_ret
  exact ⟨_, rfl, fs_new w _ _ [3, 2] rfl, below_new _ _⟩
/-- The five numbers. -/
def five (i r p c q : Int) : Nat → Int
  | 0 => i | 1 => r | 2 => p | 3 => c | 4 => q | _ => 0
theorem Tryd.cellsN : (Tryd.prog.info? 123).map (·.size) = some 5 := by kernel_rfl
theorem set5 {w : World} {R : Nat} {a0 a1 a2 a3 a4 : Value} {t : TypeId} (h : w.heap[R]? = some (.cells #[a0, a1, a2, a3, a4] t (0, 0))) (u0 u1 u2 u3 u4 : Value) :
    (((((w.setCell ⟨R, 0, none⟩ u0).setCell ⟨R, 1, none⟩ u1).setCell ⟨R, 2, none⟩ u2).setCell ⟨R, 3, none⟩ u3).setCell ⟨R, 4, none⟩ u4).heap[R]? = some (.cells #[u0, u1, u2, u3, u4] t (0, 0)) := by
  have h0 := heap_setCell_same w R 0 _ _ u0 h
  have h1 := heap_setCell_same _ R 1 _ _ u1 h0
  have h2 := heap_setCell_same _ R 2 _ _ u2 h1
  have h3 := heap_setCell_same _ R 3 _ _ u3 h2
  have h4 := heap_setCell_same _ R 4 _ _ u4 h3
  rw [h4]; simp
theorem below5 {B : Nat} {a w : World} (h : Below B a w) {R : Nat} (hR : B ≤ R) (u0 u1 u2 u3 u4 : Value) : Below B a (((((w.setCell ⟨R, 0, none⟩ u0).setCell ⟨R, 1, none⟩ u1).setCell ⟨R, 2, none⟩ u2).setCell ⟨R, 3, none⟩ u3).setCell ⟨R, 4, none⟩ u4) :=
  ((((h.setCell (p := ⟨R, 0, none⟩) hR _).setCell (p := ⟨R, 1, none⟩) hR _).setCell (p := ⟨R, 2, none⟩) hR _).setCell (p := ⟨R, 3, none⟩) hR _).setCell (p := ⟨R, 4, none⟩) hR _
/-- Where a number stands in a list of fields. -/
def IdxTold (w : World) (fs : List Nat) (n : Nat) (e : Ending) (w' : World) : Prop := w = w' ∧ ((n ∈ fs ∧ ∃ m : Nat, e = .returned (.int .i64 (m : Int)) ∧ m ≤ 5) ∨ (n ∉ fs ∧ e = .returned (.int .i64 (-1))))
theorem fs_mem (fs : List Nat) (n : Nat) : n ∈ fs ↔ ∃ j, j < fs.length ∧ fs.getD j 0 = n := by
  constructor
  · intro h
    obtain ⟨j, hj, e⟩ := List.getElem_of_mem h
    exact ⟨j, hj, by simp [List.getD, hj, e]⟩
  · rintro ⟨j, hj, rfl⟩
    simp [List.getD, hj]
/-- Which records may be. -/
def Rok (k : Nat) (N : Nat → Int) : Prop := fl k ≠ [] ∧ ∀ f, f < 5 → (0 ≤ N f ∧ N f ≤ (fmx f : Int)) ∧ (N f = 0 ∨ f ∈ fl k)
instance (k : Nat) (N : Nat → Int) : Decidable (Rok k N) := by unfold Rok; exact inferInstance
theorem run_idx5 (i r p c q : Int) (f : Nat) (hf : f < 5) (w : World) : (Instr.index 123 (.agg #[.int .i64 i, .int .i64 r, .int .i64 p, .int .i64 c, .int .i64 q]) (.int .i64 (f : Int))).run Tryd.prog w = .ok (.int .i64 (five i r p c q f)) w := by
  have : f = 0 ∨ f = 1 ∨ f = 2 ∨ f = 3 ∨ f = 4 := by omega
  rcases this with rfl | rfl | rfl | rfl | rfl <;> exact rfl
def RightTold (w : World) (k : Nat) (N : Nat → Int) (e : Ending) (w' : World) : Prop := e = .returned (.bool (decide (Rok k N))) ∧ Below w.heap.size w w'
theorem fl_len (k : Nat) : (fl k).length ≤ 3 := by unfold fl; repeat' split
                                                   all_goals decide
theorem Fs.len {B : Nat} {w : World} {v : Value} {fs : List Nat} (h : Fs B w v fs) : ∃ A c, v = .slice A fs.length c := by
  rcases h with ⟨rfl, rfl⟩ | ⟨g, rfl, _⟩
  · exact ⟨none, 0, rfl⟩
  · exact ⟨_, _, rfl⟩
end Rc
end Go.Proofs.YtobpinelhjpfgaaDoor
end

section
namespace Go.Proofs.YtobpinelhjpfgaaDoor
namespace Rc
open Go.RowKit Bp
theorem Tryd.resW : Tryd.f80.results = #[.cell 0 118] := by kernel_rfl
theorem Tryd.cellsW : (Tryd.prog.info? 118).map (·.size) = some 1 := by kernel_rfl
theorem rcnewWriter_any (w : World) :
    Calls Tryd.prog 80 #[] w fun e w' => ∃ b, e = .returned (.agg #[.pointer (some ⟨b, 0, none⟩)]) ∧ w.heap.size ≤ b ∧ Wr w' b (.slice none 0 0) [] ∧ Below w.heap.size w w' := by
  have hb := below_new w (.cells #[.pointer none] 118)
  have hs : (w.alloc (.cells #[.pointer none] 118)).heap.size = w.heap.size + 1 := by simp
  have HB := Lib.hid hb
  have HS := Lib.hid hs
  clear hb hs
  go_enter Tryd.func80, Tryd.ntmps80
  go_wp2_with fail
  refine (newWriter_any _).mono ?_
  rintro e w1 ⟨rfl, rfl⟩
  go_wp2
  refine bodyPost_ret (results_cell_row Tryd.resW _ _ _ _ _ _ _ rfl (heap_alloc2_old w _ _) Tryd.underlying118 rfl Tryd.cellsW) rfl ?_
  refine ⟨w.heap.size + 1, rfl, by omega, ?_, (below_new w _).alloc (by simp) _⟩
  have := wr_start (w.alloc (.cells #[.pointer (some ⟨w.heap.size + 1, 0, none⟩)] 118))
  simpa using this
theorem wr_box {w : World} {b : Nat} {v : Value} {bs : List Bool} (h : Wr w b v bs) (o : Obj) : Wr (w.alloc o) b v bs := h.below (below_new w o)
theorem Lays.box {w w' : World} {b : Nat} {v : Value} {bs more : List Bool} {o : Obj} (h : Lays (w.alloc o) b v bs more w') : Lays w b v bs more w' := by
  obtain ⟨v', h1, h2⟩ := h
  exact ⟨v', h1, (Turn.alloc w o).trans h2⟩
theorem put_int {b n : Nat} {v : Value} {bs : List Bool} {w : World} (h : Wr w b v bs) (hn : n < 18446744073709551616) (m : Nat) (M : Int) (hM : M = m) (hm : m ≤ 8) (hl : bs.length + 61 ≤ 1048576) :
    Calls Tryd.prog 81 #[.pointer (some ⟨b, 0, none⟩), .int .u64 (n : Int), .int .i64 M] w fun e w' => e = .returned (.int .i64 0) ∧ Lays w b v bs (bitsOf n m) w' := by
  subst hM
  exact put_ok b n m v bs w h hn (by omega) (by omega)
set_option maxHeartbeats 1000000 in
theorem wfield_0 (n b : Nat) (v : Value) (bs : List Bool) (w : World) (h : Wr w b v bs) (hS : Shp w) (hn : n ≤ 1073741824) (hlen : (fld 0 n).length ≤ 61) (hl : bs.length + 61 ≤ 1048576) :
    Calls Tryd.prog 84 #[.agg #[.pointer (some ⟨b, 0, none⟩)], .int .i64 0, .int .i64 (n : Int)] w fun e w' => e = .returned (.tuple #[]) ∧ Lays w b v bs (fld 0 n) w' := by
  have hc : w.cell? ⟨0, 1, none⟩ = some (.int .i64 0) := hS.cell 1
  have hp := hS.pos
  have hw : IntKind.u64.wrap (n : Int) = (n : Int) := IntWalk.u64_in _ ⟨by omega, by omega⟩
  have HH := fun o => Lib.hid (wr_box h o)
  have HL := Lib.hid hlen
  clear h hS hlen
  go_enter Tryd.func84, Tryd.ntmps84
  go_wp2_with fail
  refine (count_ok b n v bs _ (HH _).out (by omega) (by have := HL.out; rw [fld_zero, countBits_length] at this; omega)).mono ?_
  rintro e w1 ⟨rfl, hL⟩
  have HL1 := Lib.hid (Lays.box hL)
  clear hL
  go_wp2
  go_end0
  exact ⟨rfl, HL1.out⟩
set_option maxHeartbeats 1000000 in
theorem wfield_1 (n b : Nat) (v : Value) (bs : List Bool) (w : World) (h : Wr w b v bs) (hS : Shp w) (hn : n ≤ 1073741824) (hlen : (fld 1 n).length ≤ 61) (hl : bs.length + 61 ≤ 1048576) :
    Calls Tryd.prog 84 #[.agg #[.pointer (some ⟨b, 0, none⟩)], .int .i64 1, .int .i64 (n : Int)] w fun e w' => e = .returned (.tuple #[]) ∧ Lays w b v bs (fld 1 n) w' := by
  have hc : w.cell? ⟨0, 3, none⟩ = some (.int .i64 3) := hS.cell 3
  have hp := hS.pos
  have hw : IntKind.u64.wrap (n : Int) = (n : Int) := IntWalk.u64_in _ ⟨by omega, by omega⟩
  have HH := fun o => Lib.hid (wr_box h o)
  have HL := Lib.hid hlen
  clear h hS hlen
  go_enter Tryd.func84, Tryd.ntmps84
  go_wp2_with fail
  refine (put_int (HH _).out (by omega) 3 3 rfl (by decide) hl).mono ?_
  rintro e w1 ⟨rfl, hL⟩
  have HL1 := Lib.hid (Lays.box hL)
  clear hL
  go_wp2
  go_end0
  exact ⟨rfl, HL1.out⟩
set_option maxHeartbeats 1000000 in
theorem wfield_2 (n b : Nat) (v : Value) (bs : List Bool) (w : World) (h : Wr w b v bs) (hS : Shp w) (hn : n ≤ 1073741824) (hlen : (fld 2 n).length ≤ 61) (hl : bs.length + 61 ≤ 1048576) :
    Calls Tryd.prog 84 #[.agg #[.pointer (some ⟨b, 0, none⟩)], .int .i64 2, .int .i64 (n : Int)] w fun e w' => e = .returned (.tuple #[]) ∧ Lays w b v bs (fld 2 n) w' := by
  have hc : w.cell? ⟨0, 5, none⟩ = some (.int .i64 6) := hS.cell 5
  have hp := hS.pos
  have hw : IntKind.u64.wrap (n : Int) = (n : Int) := IntWalk.u64_in _ ⟨by omega, by omega⟩
  have HH := fun o => Lib.hid (wr_box h o)
  have HL := Lib.hid hlen
  clear h hS hlen
  go_enter Tryd.func84, Tryd.ntmps84
  go_wp2_with fail
  refine (put_int (HH _).out (by omega) 6 6 rfl (by decide) hl).mono ?_
  rintro e w1 ⟨rfl, hL⟩
  have HL1 := Lib.hid (Lays.box hL)
  clear hL
  go_wp2
  go_end0
  exact ⟨rfl, HL1.out⟩
set_option maxHeartbeats 1000000 in
theorem wfield_3 (n b : Nat) (v : Value) (bs : List Bool) (w : World) (h : Wr w b v bs) (hS : Shp w) (hn : n ≤ 1073741824) (hlen : (fld 3 n).length ≤ 61) (hl : bs.length + 61 ≤ 1048576) :
    Calls Tryd.prog 84 #[.agg #[.pointer (some ⟨b, 0, none⟩)], .int .i64 3, .int .i64 (n : Int)] w fun e w' => e = .returned (.tuple #[]) ∧ Lays w b v bs (fld 3 n) w' := by
  have hc : w.cell? ⟨0, 7, none⟩ = some (.int .i64 8) := hS.cell 7
  have hp := hS.pos
  have hw : IntKind.u64.wrap (n : Int) = (n : Int) := IntWalk.u64_in _ ⟨by omega, by omega⟩
  have HH := fun o => Lib.hid (wr_box h o)
  have HL := Lib.hid hlen
  clear h hS hlen
  go_enter Tryd.func84, Tryd.ntmps84
  go_wp2_with fail
  refine (put_int (HH _).out (by omega) 8 8 rfl (by decide) hl).mono ?_
  rintro e w1 ⟨rfl, hL⟩
  have HL1 := Lib.hid (Lays.box hL)
  clear hL
  go_wp2
  go_end0
  exact ⟨rfl, HL1.out⟩
set_option maxHeartbeats 1000000 in
theorem wfield_4 (n b : Nat) (v : Value) (bs : List Bool) (w : World) (h : Wr w b v bs) (hS : Shp w) (hn : n ≤ 1073741824) (hlen : (fld 4 n).length ≤ 61) (hl : bs.length + 61 ≤ 1048576) :
    Calls Tryd.prog 84 #[.agg #[.pointer (some ⟨b, 0, none⟩)], .int .i64 4, .int .i64 (n : Int)] w fun e w' => e = .returned (.tuple #[]) ∧ Lays w b v bs (fld 4 n) w' := by
  have hc : w.cell? ⟨0, 9, none⟩ = some (.int .i64 3) := hS.cell 9
  have hp := hS.pos
  have hw : IntKind.u64.wrap (n : Int) = (n : Int) := IntWalk.u64_in _ ⟨by omega, by omega⟩
  have HH := fun o => Lib.hid (wr_box h o)
  have HL := Lib.hid hlen
  clear h hS hlen
  go_enter Tryd.func84, Tryd.ntmps84
  go_wp2_with fail
  refine (put_int (HH _).out (by omega) 3 3 rfl (by decide) hl).mono ?_
  rintro e w1 ⟨rfl, hL⟩
  have HL1 := Lib.hid (Lays.box hL)
  clear hL
  go_wp2
  go_end0
  exact ⟨rfl, HL1.out⟩
theorem wfield_any (f n b : Nat) (v : Value) (bs : List Bool) (w : World) (h : Wr w b v bs) (hS : Shp w) (hf : f < 5) (hn : n ≤ fmx f) (hl : bs.length + 61 ≤ 1048576) :
    Calls Tryd.prog 84 #[.agg #[.pointer (some ⟨b, 0, none⟩)], .int .i64 (f : Int), .int .i64 (n : Int)] w fun e w' => e = .returned (.tuple #[]) ∧ Lays w b v bs (fld f n) w' := by
  have hcs : f = 0 ∨ f = 1 ∨ f = 2 ∨ f = 3 ∨ f = 4 := by omega
  have hlen := fld_len f n hf hn
  rcases hcs with rfl | rfl | rfl | rfl | rfl
  · exact wfield_0 n b v bs w h hS (by simpa [fmx] using hn) hlen hl
  · exact wfield_1 n b v bs w h hS (by simp [fmx] at hn; omega) hlen hl
  · exact wfield_2 n b v bs w h hS (by simp [fmx] at hn; omega) hlen hl
  · exact wfield_3 n b v bs w h hS (by simp [fmx] at hn; omega) hlen hl
  · exact wfield_4 n b v bs w h hS (by simp [fmx] at hn; omega) hlen hl
theorem Lays.more {w w1 w2 : World} {b : Nat} {v v1 : Value} {bs m1 m2 : List Bool} (ht : Turn (WF b v) (WF b v1) w w1) (h2 : Lays w1 b v1 (bs ++ m1) m2 w2) : Lays w b v bs (m1 ++ m2) w2 := by
  obtain ⟨v2, h3, h4⟩ := h2
  exact ⟨v2, by rw [← List.append_assoc]; exact h3, ht.trans h4⟩
theorem take_fbits (fs : List Nat) (N : Nat → Nat) (k : Nat) (h : k < fs.length) : fbits (fs.take (k + 1)) N = fbits (fs.take k) N ++ fld (fs.getD k 0) (N (fs.getD k 0)) := by
  have hg : fs.getD k 0 = fs[k] := by simp [List.getD, List.getElem?_eq_getElem h]
  rw [hg, List.take_succ_eq_append_getElem h, fbits_snoc]
def nums (i r p c q : Int) : Array Value := #[.int .i64 i, .int .i64 r, .int .i64 p, .int .i64 c, .int .i64 q]
theorem nums_get (i r p c q : Int) (f : Nat) (hf : f < 5) : (nums i r p c q)[f]? = some (.int .i64 (five i r p c q f)) := by
  have : f = 0 ∨ f = 1 ∨ f = 2 ∨ f = 3 ∨ f = 4 := by omega
  rcases this with rfl | rfl | rfl | rfl | rfl <;> rfl
def natN (N : Nat → Int) : Nat → Nat := fun f => (N f).toNat
/-- In the middle of laying fields. -/
structure Sp (w0 : World) (B L b : Nat) (v : Value) (bs : List Bool) (i r p c q : Int) (g : Nat) (fs : List Nat) (k : Nat) (wr : World) : Prop where
  lays : Lays w0 b v bs (fbits (fs.take k) (natN (five i r p c q))) wr
  box : wr.heap[L]? = some (.cells (nums i r p c q) 123 (0, 0))
  shp : Shp wr
  fs : ∀ j, j < fs.length → wr.cell? ⟨g, j, none⟩ = some (.int .i64 ((fs.getD j 0 : Nat) : Int))
set_option maxHeartbeats 1000000 in
theorem rcspread_any {B : Nat} (fs : List Nat) (i r p c q : Int) (b : Nat) (v : Value) (bs : List Bool) (w : World) (lv : Value) (h : Wr w b v bs) (hS : Shp w) (hb0 : 0 < b) (hf : Fs B w lv fs) (hB : ∀ k, WF b v k → k < B)
    (hok : ∀ f, f ∈ fs → f < 5 ∧ 0 ≤ five i r p c q f ∧ five i r p c q f ≤ (fmx f : Int)) (hlen : fs.length ≤ 5) (hl : bs.length ≤ 1000) :
    Calls Tryd.prog 82 #[lv, .agg #[.int .i64 i, .int .i64 r, .int .i64 p, .int .i64 c, .int .i64 q], .func (.func 84) #[.agg #[.pointer (some ⟨b, 0, none⟩)]] #[]] w
      fun e w' => e = .returned (.tuple #[]) ∧ Lays w b v bs (fbits fs (natN (five i r p c q))) w' := by
  rcases hf with ⟨rfl, rfl⟩ | ⟨g, rfl, hBg, hg, hc⟩
  · have HL := Lib.hid (Lays.box (Lays.refl (wr_box h (.cells #[.int .i64 i, .int .i64 r, .int .i64 p, .int .i64 c, .int .i64 q] 123))))
    clear h hS hB hok
    go_enter Tryd.func82, Tryd.ntmps82
    go_wp2
    go_loopw [10] (fun iv wr => iv = .int .i64 0 ∧ w.alloc (.cells #[.int .i64 i, .int .i64 r, .int .i64 p, .int .i64 c, .int .i64 q] 123) = wr) (fun iv _ => 0)
    case atStart => exact ⟨rfl, rfl⟩
    case round =>
      obtain ⟨rfl, rfl⟩ := hrel
      go_wp2
      go_end0
      exact ⟨rfl, HL.out⟩
  · have hst : Sp (w.alloc (.cells #[.int .i64 i, .int .i64 r, .int .i64 p, .int .i64 c, .int .i64 q] 123)) B w.heap.size b v bs i r p c q g fs 0 (w.alloc (.cells #[.int .i64 i, .int .i64 r, .int .i64 p, .int .i64 c, .int .i64 q] 123)) :=
      ⟨Lays.refl (wr_box h _), heap_alloc_new w _, hS.later (below_new w _), fun j hj => by rw [World.cell?_alloc_lt _ _ _ hg]; exact hc j hj⟩
    have hnext : ∀ (k : Nat) (wr w2 : World) (v1 : Value), k < fs.length → Sp (w.alloc (.cells #[.int .i64 i, .int .i64 r, .int .i64 p, .int .i64 c, .int .i64 q] 123)) B w.heap.size b v bs i r p c q g fs k wr →
        Turn (WF b v) (WF b v1) (w.alloc (.cells #[.int .i64 i, .int .i64 r, .int .i64 p, .int .i64 c, .int .i64 q] 123)) wr → Lays wr b v1 (bs ++ fbits (fs.take k) (natN (five i r p c q))) (fld (fs.getD k 0) (natN (five i r p c q) (fs.getD k 0))) w2 →
        Sp (w.alloc (.cells #[.int .i64 i, .int .i64 r, .int .i64 p, .int .i64 c, .int .i64 q] 123)) B w.heap.size b v bs i r p c q g fs (k + 1) w2 := by
      intro k wr w2 v1 hk hs ht hl
      have hl2 := Lays.more ht hl
      rw [← take_fbits _ _ _ hk] at hl2
      have hl3 := hl2
      obtain ⟨v2, _, ht2⟩ := hl3
      have hsz : (w.alloc (.cells #[.int .i64 i, .int .i64 r, .int .i64 p, .int .i64 c, .int .i64 q] 123)).heap.size = w.heap.size + 1 := by simp
      refine ⟨hl2, ?_, ?_, fun j hj => ?_⟩
      · rw [ht2.block w.heap.size (by omega) (fun x => by have := (h.lt x).2; omega)]
        exact heap_alloc_new w _
      · exact (hS.later (below_new w _)).of (ht2.block 0 (by omega) (fun x => by have := (h.lt x).1; omega))
      · have h1 : (w.alloc (.cells #[.int .i64 i, .int .i64 r, .int .i64 p, .int .i64 c, .int .i64 q] 123)).cell? ⟨g, j, none⟩ = some (.int .i64 ((fs.getD j 0 : Nat) : Int)) := by rw [World.cell?_alloc_lt _ _ _ hg]; exact hc j hj
        rw [← h1]
        exact World.cell?_of_block (w := w.alloc _) (a := ⟨g, j, none⟩) (ht2.block g (by omega) (fun x => by have := hB g x; omega))
    have HN := Lib.hid hnext
    have HST := Lib.hid hst
    have HK := Lib.hid hok
    have hln : ∀ k, k < fs.length → (bs ++ fbits (fs.take k) (natN (five i r p c q))).length + 61 ≤ 1048576 := fun k hk => by
      have := fbits_len (fs.take k) (natN (five i r p c q)) (fun f hf => by
        have := hok f (List.mem_of_mem_take hf)
        refine ⟨this.1, ?_⟩
        unfold natN
        omega)
      rw [List.length_take] at this
      rw [List.length_append]
      omega
    have HLN := Lib.hid hln
    obtain ⟨L, hL⟩ : ∃ L, fs.length = L := ⟨_, rfl⟩
    rw [hL] at hlen ⊢
    have HL := Lib.hid hL
    have HMEM := fun k hk => (fs_mem fs (fs.getD k 0)).2 ⟨k, hk, rfl⟩
    have HM := Lib.hid HMEM
    have HGET := Lib.hid (nums_get i r p c q)
    clear hL hst hnext hok hln hc hBg hg hB hS h HMEM
    obtain ⟨N, hN⟩ : ∃ N, N = natN (five i r p c q) := ⟨_, rfl⟩
    have HNN := Lib.hid hN
    clear hN
    go_enter Tryd.func82, Tryd.ntmps82
    go_wp2
    go_loopw [10] (fun iv wr => ∃ k : Nat, k ≤ L ∧ iv = .int .i64 (k : Int) ∧ Sp (w.alloc (.cells #[.int .i64 i, .int .i64 r, .int .i64 p, .int .i64 c, .int .i64 q] 123)) B w.heap.size b v bs i r p c q g fs k wr) (fun iv _ => L - (intOf iv).toNat)
    case atStart => exact ⟨0, Nat.zero_le _, rfl, HST.out⟩
    case round =>
      obtain ⟨k, hk, rfl, hs⟩ := hrel
      have HS1 := Lib.hid hs
      by_cases hlt : k < L
      · have hkl : k < fs.length := by rw [HL.out]; exact hlt
        have hck := hs.fs k hkl
        obtain ⟨v1, hw1, ht1⟩ := hs.lays
        have hmem := HM.out k hkl
        obtain ⟨f5, f0, fm⟩ := HK.out _ hmem
        have hbx := (cell_of_row _ w.heap.size (fs.getD k 0) _ _ _ hs.box).trans (HGET.out _ f5)
        obtain ⟨f, hfe⟩ : ∃ f, fs.getD k 0 = f := ⟨_, rfl⟩
        obtain ⟨n, hne⟩ := Int.eq_ofNat_of_zero_le f0
        rw [hne] at hbx fm
        have hnn : natN (five i r p c q) (fs.getD k 0) = n := by unfold natN; rw [hne]; rfl
        have HC := Lib.hid (wfield_any (fs.getD k 0) n b v1 _ wr hw1 hs.shp f5 (by omega) (HLN.out k hkl))
        have HT1 := Lib.hid ht1
        have HNX := Lib.hid (fun w2 => HN.out k wr w2 v1 hkl hs ht1)
        rw [hnn] at HNX
        rw [hfe] at hck hbx HC HNX f5
        clear hs hw1 ht1 hmem f0 fm hne hnn hkl hfe
        go_wp2_with fail
        refine HC.out.mono ?_
        rintro e w2 ⟨rfl, hl2⟩
        have HS2 := Lib.hid (HNX.out w2 hl2)
        clear hl2
        go_wp2
        go_roundw
        case rel => exact ⟨k + 1, by omega, by go_num, HS2.out⟩
        case measure => simp [intOf]; omega
      · obtain rfl : k = L := by omega
        have hl := Lays.box hs.lays
        rw [List.take_of_length_le (by rw [HL.out]; exact Nat.le_refl _)] at hl
        have HF := Lib.hid hl
        clear hl hs
        go_wp2
        go_end0
        exact ⟨rfl, HF.out⟩
end Rc
end Go.Proofs.YtobpinelhjpfgaaDoor
end

section
namespace Go.Proofs.YtobpinelhjpfgaaDoor
namespace Rc
open Go.RowKit Bp
theorem own_lower {w : World} {base base' : Nat} {e : TypeId} {size : Nat} {v : Value} {n : Nat} {xs : List Value} (h : w.ownsRow base e size v n xs) (hb : base' ≤ base) : w.ownsRow base' e size v n xs := by
  obtain ⟨h1, h2⟩ := h
  refine ⟨h1, ?_⟩
  rcases h2 with h2 | ⟨g, cap, cur, rfl, hg, r⟩
  · exact .inl h2
  · exact .inr ⟨g, cap, cur, rfl, by omega, r⟩
/-- What Lay gives: new bytes. -/
def LayTold (w : World) (zs : List Nat) (e : Ending) (w' : World) : Prop := ∃ A cp, e = .returned (.tuple #[.slice A zs.length cp, .int .i64 0]) ∧ w'.ownsRow w.heap.size 5 1 (.slice A zs.length cp) zs.length (bc zs) ∧ Below w.heap.size w w'
def recV (k i r p c q : Int) : Value := .agg #[.int .u8 k, .int .i64 i, .int .i64 r, .int .i64 p, .int .i64 c, .int .i64 q]
theorem Rok.kind {k : Nat} {N : Nat → Int} (h : Rok k N) : 1 ≤ k ∧ k ≤ 5 := by
  have h1 := h.1
  unfold fl at h1
  repeat' split at h1
  all_goals first | omega | exact absurd rfl h1
theorem Rok.field {k : Nat} {N : Nat → Int} (h : Rok k N) : ∀ f, f ∈ fl k → f < 5 ∧ 0 ≤ N f ∧ N f ≤ (fmx f : Int) := fun f hf => ⟨fl_lt k f hf, (h.2 f (fl_lt k f hf)).1⟩
/-- Three rows that stay. -/
theorem kept_cells {w4 wc : World} {R D : Nat} {a0 a1 a2 a3 a4 a5 d : Value} {t u : TypeId} (hr : w4.heap[R]? = some (.cells #[a0, a1, a2, a3, a4, a5] t (0, 0))) (hd : w4.heap[D]? = some (.cells #[d] u (0, 0))) (h1 : wc.heap[R]? = w4.heap[R]?) (h2 : wc.heap[D]? = w4.heap[D]?) :
    wc.cell? ⟨D, 0, none⟩ = some d ∧ wc.cell? ⟨R, 0, none⟩ = some a0 ∧ wc.cell? ⟨R, 1, none⟩ = some a1 ∧ wc.cell? ⟨R, 2, none⟩ = some a2 ∧ wc.cell? ⟨R, 3, none⟩ = some a3 ∧ wc.cell? ⟨R, 4, none⟩ = some a4 ∧ wc.cell? ⟨R, 5, none⟩ = some a5 := by
  have e1 := h1.trans hr
  have e2 := h2.trans hd
  exact ⟨by rw [cell_of_row _ D 0 _ _ _ e2]; rfl, by rw [cell_of_row _ R 0 _ _ _ e1]; rfl, by rw [cell_of_row _ R 1 _ _ _ e1]; rfl, by rw [cell_of_row _ R 2 _ _ _ e1]; rfl, by rw [cell_of_row _ R 3 _ _ _ e1]; rfl, by rw [cell_of_row _ R 4 _ _ _ e1]; rfl, by rw [cell_of_row _ R 5 _ _ _ e1]; rfl⟩
/-- Which acts may be. -/
def Aok (k : Nat) (c p : Int) : Prop := (1 ≤ k ∧ k ≤ 3) ∧ (0 ≤ c ∧ c ≤ 255) ∧ (0 ≤ p ∧ p ≤ 63) ∧ (k = 1 → p = 0)
instance (k : Nat) (c p : Int) : Decidable (Aok k c p) := by unfold Aok; exact inferInstance
theorem Aok.field {k : Nat} {c p : Int} (h : Aok k c p) : ∀ f, f ∈ [3, 2] → f < 5 ∧ 0 ≤ five 0 0 p c 0 f ∧ five 0 0 p c 0 f ≤ (fmx f : Int) := by
  intro f hf
  obtain ⟨_, h1, h2, _⟩ := h
  rcases List.mem_cons.1 hf with rfl | hf
  · exact ⟨by decide, h1.1, h1.2⟩
  · rcases List.mem_cons.1 hf with rfl | hf
    · exact ⟨by decide, h2.1, h2.2⟩
    · simp at hf
theorem rightAct_any (k : Nat) (c p : Int) (w : World) (h : Shp w) :
    Calls Tryd.prog 79 #[.agg #[.int .u8 (k : Int), .int .i64 c, .int .i64 p]] w fun e w' => e = .returned (.bool (decide (Aok k c p))) ∧ Below w.heap.size w w' := by
  have hb1 := below_new w (.cells #[.int .u8 k, .int .i64 c, .int .i64 p] 33)
  have hsh := h.later hb1
  have HM3 := Lib.hid (mayBe_any 3 (by decide) c _ hsh)
  have HM2 := Lib.hid (mayBe_any 2 (by decide) p _ hsh)
  have HB1 := Lib.hid hb1
  clear h hb1 hsh
  by_cases hc : 0 ≤ c ∧ c ≤ 255
  · have e1 : decide (0 ≤ c ∧ c ≤ (fmx 3 : Int)) = true := decide_eq_true hc
    rw [e1] at HM3
    by_cases h1 : k = 1
    · subst h1
      have hd : decide (Aok 1 c p) = (p == 0) := by
        rw [Bool.eq_iff_iff, decide_eq_true_eq, beq_iff_eq]
        unfold Aok
        omega
      rw [hd]
      clear e1 hc hd HM2
      go_enter Tryd.func79, Tryd.ntmps79
      go_wp2_with fail
      refine HM3.out.mono ?_
      rintro e w1 ⟨rfl, rfl⟩
      go_wp2
      go_ret
      exact ⟨rfl, HB1.out⟩
    · by_cases h2 : k = 2 ∨ k = 3
      · have hd : decide (Aok k c p) = decide (0 ≤ p ∧ p ≤ (fmx 2 : Int)) := by
          rw [decide_eq_decide]
          unfold Aok
          simp only [fmx]
          omega
        rw [hd]
        generalize decide (0 ≤ p ∧ p ≤ (fmx 2 : Int)) = y at *
        clear e1 hc hd h1
        rcases h2 with rfl | rfl
        all_goals
          go_enter Tryd.func79, Tryd.ntmps79
          go_wp2_with fail
          refine HM3.out.mono ?_
          rintro e w1 ⟨rfl, rfl⟩
          go_wp2_with fail
          refine HM2.out.mono ?_
          rintro e w1 ⟨rfl, rfl⟩
          go_wp2
          go_ret
          exact ⟨rfl, HB1.out⟩
      · have hd : decide (Aok k c p) = false := decide_eq_false (fun x => by have := x.1; omega)
        have d1 : ((k : Int) == 1) = false := by simp; omega
        have d2 : ((k : Int) == 2) = false := by simp; omega
        have d3 : ((k : Int) == 3) = false := by simp; omega
        rw [hd]
        clear e1 hc hd h1 h2 HM2 HM3
        go_enter Tryd.func79, Tryd.ntmps79
        go_wp2
        go_ret
        exact ⟨rfl, HB1.out⟩
  · have e1 : decide (0 ≤ c ∧ c ≤ (fmx 3 : Int)) = false := decide_eq_false hc
    rw [e1] at HM3
    have hd : decide (Aok k c p) = false := decide_eq_false (fun x => hc x.2.1)
    rw [hd]
    clear hd e1 hc HM2
    by_cases h1 : k = 1 ∨ k = 2 ∨ k = 3
    · rcases h1 with rfl | rfl | rfl
      all_goals
        go_enter Tryd.func79, Tryd.ntmps79
        go_wp2_with fail
        refine HM3.out.mono ?_
        rintro e w1 ⟨rfl, rfl⟩
        go_wp2
        go_ret
        exact ⟨rfl, HB1.out⟩
    · have d1 : ((k : Int) == 1) = false := by simp; omega
      have d2 : ((k : Int) == 2) = false := by simp; omega
      have d3 : ((k : Int) == 3) = false := by simp; omega
      clear h1 HM3
      go_enter Tryd.func79, Tryd.ntmps79
      go_wp2
      go_ret
      exact ⟨rfl, HB1.out⟩
theorem kept_cells3 {w4 wc : World} {R D : Nat} {a0 a1 a2 d : Value} {t u : TypeId} (hr : w4.heap[R]? = some (.cells #[a0, a1, a2] t (0, 0))) (hd : w4.heap[D]? = some (.cells #[d] u (0, 0))) (h1 : wc.heap[R]? = w4.heap[R]?) (h2 : wc.heap[D]? = w4.heap[D]?) :
    wc.cell? ⟨D, 0, none⟩ = some d ∧ wc.cell? ⟨R, 0, none⟩ = some a0 ∧ wc.cell? ⟨R, 1, none⟩ = some a1 ∧ wc.cell? ⟨R, 2, none⟩ = some a2 := by
  have e1 := h1.trans hr
  have e2 := h2.trans hd
  exact ⟨by rw [cell_of_row _ D 0 _ _ _ e2]; rfl, by rw [cell_of_row _ R 0 _ _ _ e1]; rfl, by rw [cell_of_row _ R 1 _ _ _ e1]; rfl, by rw [cell_of_row _ R 2 _ _ _ e1]; rfl⟩
set_option maxHeartbeats 2000000 in
theorem layAct_ok (k : Nat) (c p : Int) (w : World) (hok : Aok k c p) (hS : Shp w) :
    Calls Tryd.prog 44 #[.agg #[.int .u8 (k : Int), .int .i64 c, .int .i64 p]] w (LayTold w (pack (kb 2 k [3, 2] (natN (five 0 0 p c 0))))) := by
  have hk := hok.1
  have hb1 := below_new w (.cells #[.int .u8 k, .int .i64 c, .int .i64 p] 33)
  have hs1 : (w.alloc (.cells #[.int .u8 k, .int .i64 c, .int .i64 p] 33)).heap.size = w.heap.size + 1 := by simp
  have hr1 := heap_alloc_new w (.cells #[.int .u8 k, .int .i64 c, .int .i64 p] 33)
  have HR := Lib.hid (rightAct_any k c p _ (hS.later hb1))
  rw [decide_eq_true hok] at HR
  have hw : IntKind.u64.wrap (k : Int) = (k : Int) := IntWalk.u64_in _ ⟨by omega, by omega⟩
  have HP := Lib.hid hS.pos
  have HB1 := Lib.hid hb1
  have HS1 := Lib.hid hs1
  have HSH := Lib.hid (hS.later hb1)
  have HR1 := Lib.hid hr1
  have HOK := Lib.hid hok
  clear hok hS hb1 hs1 hr1
  go_enter Tryd.func44, Tryd.ntmps44
  go_wp2_with fail
  refine HR.out.mono ?_
  rintro e w1 ⟨rfl, hb⟩
  have HB2 := Lib.hid hb
  clear hb HR
  go_wp2_with fail
  refine (rcnewWriter_any _).mono ?_
  rintro e w2 ⟨b, rfl, hbb, hwr, hb⟩
  have hb12 := HB2.out.trans (hb.mono HB2.out.size)
  have hsz : w.heap.size + 1 ≤ w1.heap.size := by have := HB2.out.size; rw [HS1.out] at this; exact this
  have hw3 := wr_box hwr (.cells #[.pointer (some ⟨b, 0, none⟩)] 118)
  have hd3 := heap_alloc_new w2 (.cells #[.pointer (some ⟨b, 0, none⟩)] 118)
  have hb3 := hb12.alloc hb12.size (.cells #[.pointer (some ⟨b, 0, none⟩)] 118)
  have hr3 := (hb3.block w.heap.size (by rw [HS1.out]; omega)).trans HR1.out
  have hsh3 := HSH.out.later hb3
  have hlt := (hwr.lt (k := b) (.inl rfl)).2
  obtain ⟨x0, x1, x2, x3⟩ := kept_cells3 hr3 hd3 rfl rfl
  have HW3 := Lib.hid hw3
  have HD3 := Lib.hid hd3
  have HB3 := Lib.hid hb3
  have HR3 := Lib.hid hr3
  have HSH3 := Lib.hid hsh3
  have HSZ : Hid (w.heap.size < b ∧ b < w2.heap.size ∧ (w2.alloc (.cells #[.pointer (some ⟨b, 0, none⟩)] 118)).heap.size = w2.heap.size + 1) := Lib.hid ⟨by omega, hlt, by simp⟩
  clear hb hb12 hw3 hd3 hb3 hr3 hsh3 hwr hlt hbb HB2 HR1 HSH hsz
  go_wp2_with fail
  generalize (w2.alloc (.cells #[.pointer (some ⟨b, 0, none⟩)] 118)) = w3 at *
  refine (put_int (n := k) HW3.out (by omega) 2 2 rfl (by decide) (by decide)).mono ?_
  rintro e w4 ⟨rfl, v4, hw4, ht4⟩
  have hnf : ¬ WF b v4 w2.heap.size := fun x => by
    rcases ht4.foot _ x with y | y
    · rcases y with y | y
      · have := HSZ.out; omega
      · simp [Value.ownBlock] at y
    · have := HSZ.out; omega
  have hr4 := (ht4.block w.heap.size (by have := HSZ.out; omega) (fun x => by have := (HW3.out.lt x).1; have := HSZ.out; omega)).trans HR3.out
  have hd4 := (ht4.block w2.heap.size (by have := HSZ.out; omega) (fun x => by rcases x with x | x; (have := HSZ.out; omega); (simp [Value.ownBlock] at x))).trans HD3.out
  have hsh4 := HSH3.out.of (ht4.block 0 HSH3.out.pos (fun x => by have := (HW3.out.lt x).1; have := HSZ.out; have := HP.out; omega))
  have hb4 : Below w.heap.size w w4 := HB1.out.trans ((HB3.out.mono HB1.out.size).trans (ht4.below w.heap.size (by have := HSZ.out; omega) (fun x hx => by have := (HW3.out.lt hx).1; have := HSZ.out; omega)))
  have HLT : Hid (w.heap.size < w4.heap.size ∧ w2.heap.size < w4.heap.size) := Lib.hid (by have := ht4.size; have := HSZ.out; omega)
  have HCE : Hid (∀ wc, Below w4.heap.size w4 wc → _) := Lib.hid (fun wc hwc => kept_cells3 (wc := wc) hr4 hd4 (hwc.block w.heap.size HLT.out.1) (hwc.block w2.heap.size HLT.out.2))
  have HCE2 : Hid (∀ wc w5 m, Below w4.heap.size w4 wc → Lays wc b v4 ([] ++ bitsOf k 2) m w5 → _) := Lib.hid (fun wc w5 m hwc hl => kept_cells3 (wc := w5) hr4 hd4
    (by obtain ⟨v5, _, ht5⟩ := hl
        rw [ht5.block w.heap.size (by have := hwc.size; have := HLT.out; omega) (fun x => by have := (hw4.lt x).1; have := HSZ.out; omega)]
        exact hwc.block w.heap.size HLT.out.1)
    (by obtain ⟨v5, _, ht5⟩ := hl
        rw [ht5.block w2.heap.size (by have := hwc.size; have := HLT.out; omega) hnf]
        exact hwc.block w2.heap.size HLT.out.2))
  clear x0 x1 x2 x3
  obtain ⟨x0, x1, x2, x3⟩ := HCE.out _ (Below.refl _ w4)
  have HW4 := Lib.hid hw4
  have HSH4 := Lib.hid hsh4
  have HB4 := Lib.hid hb4
  have HBc := Lib.hid ((Below.refl w4.heap.size w4).drew)
  have hwfb : ∀ j, WF b v4 j → j < w4.heap.size := fun j hj => (hw4.lt hj).2
  have HWF := Lib.hid hwfb
  clear hw4 ht4 hr4 hd4 hsh4 hb4 HR3 HD3 HB3 HSH3 HW3 hnf hwfb
  go_wp2_with fail
  go_region_held3 (fun w' => w'.cell? ⟨w2.heap.size, 0, none⟩ = some (.pointer (some ⟨b, 0, none⟩)) ∧ w'.cell? ⟨w.heap.size, 0, none⟩ = some (.int .u8 (k : Int)) ∧ w'.cell? ⟨w.heap.size, 1, none⟩ = some (.int .i64 c) ∧ w'.cell? ⟨w.heap.size, 2, none⟩ = some (.int .i64 p))
    (first | exact HCE.out _ HBc.out | assumption | go_keep)
    ((first
      | (go_at_call 82; refine (rcspread_any [3, 2] 0 0 p c 0 b v4 ([] ++ bitsOf k 2) _ _ (HW4.out.below HBc.out) (HSH4.out.later HBc.out) (by have := HSZ.out; omega) HF.out HWF.out HOK.out.field (by decide) (by rw [List.nil_append, bitsOf_length]; decide)).mono ?_; rintro e w9 ⟨rfl, hl9⟩; have HL9 := Lib.hid hl9; obtain ⟨x0, x1, x2, x3⟩ := HCE2.out _ _ _ HBc.out hl9; clear hl9)
      | (go_at_call 83; refine (actFields_any _).mono ?_; rintro e wa ⟨lv, rfl, hf, hb⟩; have HF := Lib.hid (hf.mono HBc.out.size); have HBc := Lib.hid (HBc.out.trans (hb.mono HBc.out.size)); obtain ⟨x0, x1, x2, x3⟩ := HCE.out _ HBc.out; clear hf hb)
      | fail))
  all_goals
    have hwb := Wb.lays (HW4.out.below HBc.out) (HB4.out.trans (HBc.out.mono HB4.out.size)) (by have := HSZ.out; omega) HL9.out
    have HWB := Lib.hid hwb
    clear hwb HL9 HF
    go_wp2_with fail
    refine (wb_out _ _ _ _ _ HWB.out).mono ?_
    rintro e w7 ⟨oa, oc, rfl, ho, hw7⟩
    have HO := Lib.hid (own_lower ho HWB.out.size)
    have HB7 := Lib.hid hw7.below
    have HLN : Hid ((pack (kb 2 k [3, 2] (natN (five 0 0 p c 0)))).length = nb ([] ++ bitsOf k 2 ++ fbits [3, 2] (natN (five 0 0 p c 0))).length) := Lib.hid (by rw [pack_length]; rfl)
    clear ho hw7
    generalize nb ([] ++ bitsOf k 2 ++ fbits [3, 2] (natN (five 0 0 p c 0))).length = N at *
    go_wp2
    go_ret2
    exact ⟨oa, oc, by rw [HLN.out]; rfl, by rw [HLN.out]; exact HO.out, HB7.out⟩
theorem layAct_no (k : Nat) (c p : Int) (w : World) (hno : ¬ Aok k c p) (hS : Shp w) :
    Calls Tryd.prog 44 #[.agg #[.int .u8 (k : Int), .int .i64 c, .int .i64 p]] w fun e w' => e = .returned (.tuple #[.slice none 0 0, .int .i64 1]) ∧ Below w.heap.size w w' := by
  have hb1 := below_new w (.cells #[.int .u8 k, .int .i64 c, .int .i64 p] 33)
  have HR := Lib.hid (rightAct_any k c p _ (hS.later hb1))
  rw [decide_eq_false hno] at HR
  have HB1 := Lib.hid hb1
  clear hno hS hb1
  go_enter Tryd.func44, Tryd.ntmps44
  go_wp2_with fail
  refine HR.out.mono ?_
  rintro e w1 ⟨rfl, hb⟩
  have HB2 := Lib.hid (HB1.out.trans (hb.mono HB1.out.size))
  clear hb HR
  go_wp2
  go_ret2
  exact ⟨rfl, HB2.out⟩
end Rc
end Go.Proofs.YtobpinelhjpfgaaDoor
end

section
namespace Go.Proofs.YtobpinelhjpfgaaDoor
namespace Rc
open Go.RowKit Bp
/-- How some bits are read. -/
def Gr (zs : List Nat) (m p : Nat) (e : Int) (n p' : Nat) (e' : Int) : Prop :=
  (e ≠ 0 ∧ n = 0 ∧ p' = p ∧ e' = e) ∨ (e = 0 ∧ e' = 0 ∧ n < 2 ^ m ∧ Has zs p (bitsOf n m) ∧ p' = p + m) ∨ (e = 0 ∧ e' ≠ 0 ∧ n = 0 ∧ p' = p ∧ 8 * zs.length < p + m)
theorem Gr.fr {zs : List Nat} {f p : Nat} {e : Int} {n p' : Nat} {e' : Int} (hf : f ≠ 0) (h : Gr zs (fw f) p e n p' e') : Fr zs f p e n p' e' := by
  rcases h with h | ⟨a, b, c, d, g⟩ | ⟨a, b, c, d, g⟩
  · exact .inl h
  · refine .inr (.inl ⟨a, b, n, ?_, ?_, ?_, rfl⟩)
    · unfold rg; rw [if_neg hf]; exact c
    · rw [fld_pos _ _ hf]; exact d
    · rw [fld_pos _ _ hf, bitsOf_length]; exact g
  · refine .inr (.inr ⟨a, b, c, d, fun m hm hh => ?_⟩)
    rw [fld_pos _ _ hf] at hh
    have := hh.1
    rw [bitsOf_length] at this
    omega
theorem Gr.lt {zs : List Nat} {m p : Nat} {e : Int} {n p' : Nat} {e' : Int} (h : Gr zs m p e n p' e') : n < 2 ^ m := by
  have := Nat.two_pow_pos m
  rcases h with ⟨_, h, _⟩ | ⟨_, _, h, _⟩ | ⟨_, _, h, _⟩ <;> omega
theorem rdto_refl {C : Nat} {w : World} {b : Nat} {v : Value} {zs : List Nat} {p : Nat} {e : Int} (h : Rd C w b v zs p e) : RdTo C w b v zs p e w := ⟨h, Turn.refl _ _⟩
theorem get_gr {C b : Nat} {v : Value} {zs : List Nat} {p : Nat} {e : Int} {w : World} (h : Rd C w b v zs p e) (m : Nat) (M : Int) (hM : M = m) (hm : m ≤ 8) :
    Calls Tryd.prog 74 #[.pointer (some ⟨b, 0, none⟩), .int .i64 M] w fun r w' => ∃ n p' e', r = .returned (.int .u64 ((n : Nat) : Int)) ∧ Gr zs m p e n p' e' ∧ RdTo C w b v zs p' e' w' := by
  subst hM
  by_cases he : e = 0
  · subst he
    by_cases hs : p + m ≤ 8 * zs.length
    · refine (get_ok C b v zs p m w h (by omega) hs).mono ?_
      rintro r w' ⟨rfl, ht⟩
      exact ⟨_, _, _, rfl, .inr (.inl ⟨rfl, rfl, tk_lt _ _ _, has_tk zs p m hs, rfl⟩), ht⟩
    · refine (get_short C b v zs p m w h (by omega) (by omega)).mono ?_
      rintro r w' ⟨rfl, ht⟩
      exact ⟨0, p, 10, rfl, .inr (.inr ⟨rfl, by decide, rfl, rfl, by omega⟩), ht⟩
  · refine (get_fault C b v zs p e m w h he).mono ?_
    rintro r w' ⟨rfl, rfl⟩
    exact ⟨0, p, e, rfl, .inl ⟨he, rfl, rfl, rfl⟩, rdto_refl h⟩
theorem count_fr {C b : Nat} {v : Value} {zs : List Nat} {p : Nat} {e : Int} {w : World} (h : Rd C w b v zs p e) :
    Calls Tryd.prog 75 #[.pointer (some ⟨b, 0, none⟩)] w fun r w' => ∃ n p' e', r = .returned (.int .u64 ((n : Nat) : Int)) ∧ n + 1 < 18446744073709551616 ∧ Fr zs 0 p e n p' e' ∧ RdTo C w b v zs p' e' w' := by
  by_cases he : e = 0
  · subst he
    obtain ⟨q, hz⟩ := zs_exists zs p h.at_le
    by_cases h64 : q = 64
    · subst h64
      refine (count_toolong C b v zs p w h hz).mono ?_
      rintro r w' ⟨rfl, ht⟩
      refine ⟨0, p, 4, rfl, by decide, .inr (.inr ⟨rfl, by decide, rfl, rfl, fun m hm hh => ?_⟩), ht⟩
      rw [fld_zero] at hh
      obtain ⟨a1, a2, _⟩ := hh.count hm
      have := a1.unique hz
      omega
    · have hq : q ≤ 63 := by have := hz.few; omega
      by_cases hs : p + (2 * q + 1) ≤ 8 * zs.length
      · obtain ⟨e1, e2, e3⟩ := cnt_top hz hq hs
        refine (rcount_ok C b v zs p q w h hz hq hs).mono ?_
        rintro r w' ⟨rfl, ht⟩
        refine ⟨_, _, _, rfl, by omega, .inr (.inl ⟨rfl, rfl, _, ?_, by rw [fld_zero]; exact has_cnt hz hq hs, ?_, rfl⟩), ht⟩
        · show rg 0 _
          unfold rg; rw [if_pos rfl]; omega
        · rw [fld_zero, countBits_length, e2]
      · refine (count_short C b v zs p q w h hz hq (by omega)).mono ?_
        rintro r w' ⟨rfl, ht⟩
        refine ⟨0, p, 10, rfl, by decide, .inr (.inr ⟨rfl, by decide, rfl, rfl, fun m hm hh => ?_⟩), ht⟩
        rw [fld_zero] at hh
        obtain ⟨a1, a2, a3, _⟩ := hh.count hm
        have := a1.unique hz
        omega
  · refine (count_fault C b v zs p e w h he).mono ?_
    rintro r w' ⟨rfl, rfl⟩
    exact ⟨0, p, e, rfl, by decide, .inl ⟨he, rfl, rfl, rfl⟩, rdto_refl h⟩
theorem end_fin {C b : Nat} {v : Value} {zs : List Nat} {p : Nat} {e : Int} {w : World} (h : Rd C w b v zs p e) :
    Calls Tryd.prog 78 #[.pointer (some ⟨b, 0, none⟩)] w fun r w' => ∃ E : Int, r = .returned (.int .i64 E) ∧ (E = 0 ↔ Fin zs p e) ∧ RdTo C w b v zs p e w' := by
  by_cases he : e = 0
  · subst he
    by_cases ht : p + 8 ≤ 8 * zs.length
    · refine (end_tail C b v zs p w h ht).mono ?_
      rintro r w' ⟨rfl, hr⟩
      exact ⟨11, rfl, ⟨fun x => by omega, fun x => by have := x.2.1; omega⟩, hr⟩
    · obtain ⟨q, hz⟩ := zs_exists zs p h.at_le
      refine (end_bit C b v zs p q w h hz (by omega)).mono ?_
      rintro r w' ⟨rfl, hr⟩
      refine ⟨_, rfl, ?_, hr⟩
      have hi := hz.inn
      split
      · rename_i hlt
        refine ⟨fun x => by omega, fun x => ?_⟩
        rcases hz.stop with y | y | y
        · omega
        · omega
        · have := x.2.2 (p + q) (by omega) (by omega)
          omega
      · rename_i hlt
        refine ⟨fun _ => ⟨rfl, by omega, fun j h1 h2 => ?_⟩, fun _ => rfl⟩
        have := hz.zero (j - p) (by omega)
        rwa [show p + (j - p) = j by omega] at this
  · refine (end_fault C b v zs p e w h he).mono ?_
    rintro r w' ⟨rfl, rfl⟩
    exact ⟨e, rfl, ⟨fun x => absurd x he, fun x => absurd x.1 he⟩, rdto_refl h⟩
theorem rdto_box {C : Nat} {w w' : World} {o : Obj} {b : Nat} {v : Value} {zs : List Nat} {p : Nat} {e : Int} (h : RdTo C (w.alloc o) b v zs p e w') : RdTo C w b v zs p e w' := ⟨h.1, (Turn.alloc w o).trans h.2⟩
set_option maxHeartbeats 1000000 in
theorem rfield_0 {C b : Nat} {v : Value} {zs : List Nat} {p : Nat} {e : Int} {w : World} (h : Rd C w b v zs p e) (hS : Shp w) :
    Calls Tryd.prog 99 #[.agg #[.pointer (some ⟨b, 0, none⟩)], .int .i64 0] w fun r w' => ∃ n p' e', r = .returned (.int .i64 ((mn 0 n : Nat) : Int)) ∧ Fr zs 0 p e n p' e' ∧ RdTo C w b v zs p' e' w' := by
  have hc : w.cell? ⟨0, 1, none⟩ = some (.int .i64 0) := hS.cell 1
  have hp := hS.pos
  have hsz := (h.lt (k := b) (.inl rfl)).2
  have hh : ∀ o, Rd C (w.alloc o) b v zs p e := fun o => h.frame (fun k hk => Below.heap_alloc _ _ _ (h.lt hk).2)
  have HH := fun o => Lib.hid (hh o)
  clear h hS hh
  go_enter Tryd.func99, Tryd.ntmps99
  go_wp2_with fail
  refine (count_fr (HH _).out).mono ?_
  rintro r w1 ⟨n, p', e', rfl, hn, hfr, ht⟩
  have HFR := Lib.hid hfr
  have HT := Lib.hid (rdto_box ht)
  have hm : (mn 0 n : Int) = min (n : Int) 1073741825 := by simp only [mn, if_pos]; omega
  have hw : IntKind.i64.wrap (mn 0 n : Int) = (mn 0 n : Int) := IntWalk.i64_in _ ⟨by omega, by omega⟩
  rw [hm] at hw
  have HM := Lib.hid hm
  clear hfr ht hm
  go_wp2
  go_ret
  exact ⟨n, p', e', by rw [HM.out]; rfl, HFR.out, HT.out⟩
set_option maxHeartbeats 1000000 in
theorem rfield_1 {C b : Nat} {v : Value} {zs : List Nat} {p : Nat} {e : Int} {w : World} (h : Rd C w b v zs p e) (hS : Shp w) :
    Calls Tryd.prog 99 #[.agg #[.pointer (some ⟨b, 0, none⟩)], .int .i64 1] w fun r w' => ∃ n p' e', r = .returned (.int .i64 ((mn 1 n : Nat) : Int)) ∧ Fr zs 1 p e n p' e' ∧ RdTo C w b v zs p' e' w' := by
  have hc : w.cell? ⟨0, 3, none⟩ = some (.int .i64 3) := hS.cell 3
  have hp := hS.pos
  have hsz := (h.lt (k := b) (.inl rfl)).2
  have hh : ∀ o, Rd C (w.alloc o) b v zs p e := fun o => h.frame (fun k hk => Below.heap_alloc _ _ _ (h.lt hk).2)
  have HH := fun o => Lib.hid (hh o)
  clear h hS hh
  go_enter Tryd.func99, Tryd.ntmps99
  go_wp2_with fail
  refine (get_gr (HH _).out 3 3 rfl (by decide)).mono ?_
  rintro r w1 ⟨n, p', e', rfl, hgr, ht⟩
  have hn := hgr.lt
  have HFR := Lib.hid (Gr.fr (f := 1) (by decide) hgr)
  have HT := Lib.hid (rdto_box ht)
  have hw : IntKind.i64.wrap (n : Int) = (n : Int) := IntWalk.i64_in _ ⟨by omega, by simp at hn; omega⟩
  clear hgr ht hn
  go_wp2
  go_ret
  exact ⟨n, p', e', rfl, HFR.out, HT.out⟩
set_option maxHeartbeats 1000000 in
theorem rfield_2 {C b : Nat} {v : Value} {zs : List Nat} {p : Nat} {e : Int} {w : World} (h : Rd C w b v zs p e) (hS : Shp w) :
    Calls Tryd.prog 99 #[.agg #[.pointer (some ⟨b, 0, none⟩)], .int .i64 2] w fun r w' => ∃ n p' e', r = .returned (.int .i64 ((mn 2 n : Nat) : Int)) ∧ Fr zs 2 p e n p' e' ∧ RdTo C w b v zs p' e' w' := by
  have hc : w.cell? ⟨0, 5, none⟩ = some (.int .i64 6) := hS.cell 5
  have hp := hS.pos
  have hsz := (h.lt (k := b) (.inl rfl)).2
  have hh : ∀ o, Rd C (w.alloc o) b v zs p e := fun o => h.frame (fun k hk => Below.heap_alloc _ _ _ (h.lt hk).2)
  have HH := fun o => Lib.hid (hh o)
  clear h hS hh
  go_enter Tryd.func99, Tryd.ntmps99
  go_wp2_with fail
  refine (get_gr (HH _).out 6 6 rfl (by decide)).mono ?_
  rintro r w1 ⟨n, p', e', rfl, hgr, ht⟩
  have hn := hgr.lt
  have HFR := Lib.hid (Gr.fr (f := 2) (by decide) hgr)
  have HT := Lib.hid (rdto_box ht)
  have hw : IntKind.i64.wrap (n : Int) = (n : Int) := IntWalk.i64_in _ ⟨by omega, by simp at hn; omega⟩
  clear hgr ht hn
  go_wp2
  go_ret
  exact ⟨n, p', e', rfl, HFR.out, HT.out⟩
set_option maxHeartbeats 1000000 in
theorem rfield_3 {C b : Nat} {v : Value} {zs : List Nat} {p : Nat} {e : Int} {w : World} (h : Rd C w b v zs p e) (hS : Shp w) :
    Calls Tryd.prog 99 #[.agg #[.pointer (some ⟨b, 0, none⟩)], .int .i64 3] w fun r w' => ∃ n p' e', r = .returned (.int .i64 ((mn 3 n : Nat) : Int)) ∧ Fr zs 3 p e n p' e' ∧ RdTo C w b v zs p' e' w' := by
  have hc : w.cell? ⟨0, 7, none⟩ = some (.int .i64 8) := hS.cell 7
  have hp := hS.pos
  have hsz := (h.lt (k := b) (.inl rfl)).2
  have hh : ∀ o, Rd C (w.alloc o) b v zs p e := fun o => h.frame (fun k hk => Below.heap_alloc _ _ _ (h.lt hk).2)
  have HH := fun o => Lib.hid (hh o)
  clear h hS hh
  go_enter Tryd.func99, Tryd.ntmps99
  go_wp2_with fail
  refine (get_gr (HH _).out 8 8 rfl (by decide)).mono ?_
  rintro r w1 ⟨n, p', e', rfl, hgr, ht⟩
  have hn := hgr.lt
  have HFR := Lib.hid (Gr.fr (f := 3) (by decide) hgr)
  have HT := Lib.hid (rdto_box ht)
  have hw : IntKind.i64.wrap (n : Int) = (n : Int) := IntWalk.i64_in _ ⟨by omega, by simp at hn; omega⟩
  clear hgr ht hn
  go_wp2
  go_ret
  exact ⟨n, p', e', rfl, HFR.out, HT.out⟩
set_option maxHeartbeats 1000000 in
theorem rfield_4 {C b : Nat} {v : Value} {zs : List Nat} {p : Nat} {e : Int} {w : World} (h : Rd C w b v zs p e) (hS : Shp w) :
    Calls Tryd.prog 99 #[.agg #[.pointer (some ⟨b, 0, none⟩)], .int .i64 4] w fun r w' => ∃ n p' e', r = .returned (.int .i64 ((mn 4 n : Nat) : Int)) ∧ Fr zs 4 p e n p' e' ∧ RdTo C w b v zs p' e' w' := by
  have hc : w.cell? ⟨0, 9, none⟩ = some (.int .i64 3) := hS.cell 9
  have hp := hS.pos
  have hsz := (h.lt (k := b) (.inl rfl)).2
  have hh : ∀ o, Rd C (w.alloc o) b v zs p e := fun o => h.frame (fun k hk => Below.heap_alloc _ _ _ (h.lt hk).2)
  have HH := fun o => Lib.hid (hh o)
  clear h hS hh
  go_enter Tryd.func99, Tryd.ntmps99
  go_wp2_with fail
  refine (get_gr (HH _).out 3 3 rfl (by decide)).mono ?_
  rintro r w1 ⟨n, p', e', rfl, hgr, ht⟩
  have hn := hgr.lt
  have HFR := Lib.hid (Gr.fr (f := 4) (by decide) hgr)
  have HT := Lib.hid (rdto_box ht)
  have hw : IntKind.i64.wrap (n : Int) = (n : Int) := IntWalk.i64_in _ ⟨by omega, by simp at hn; omega⟩
  clear hgr ht hn
  go_wp2
  go_ret
  exact ⟨n, p', e', rfl, HFR.out, HT.out⟩
theorem rfield_any {C b : Nat} {v : Value} {zs : List Nat} {p : Nat} {e : Int} {w : World} (h : Rd C w b v zs p e) (hS : Shp w) (f : Nat) (hf : f < 5) :
    Calls Tryd.prog 99 #[.agg #[.pointer (some ⟨b, 0, none⟩)], .int .i64 (f : Int)] w fun r w' => ∃ n p' e', r = .returned (.int .i64 ((mn f n : Nat) : Int)) ∧ Fr zs f p e n p' e' ∧ RdTo C w b v zs p' e' w' := by
  have hcs : f = 0 ∨ f = 1 ∨ f = 2 ∨ f = 3 ∨ f = 4 := by omega
  rcases hcs with rfl | rfl | rfl | rfl | rfl
  · exact rfield_0 h hS
  · exact rfield_1 h hS
  · exact rfield_2 h hS
  · exact rfield_3 h hS
  · exact rfield_4 h hS
end Rc
end Go.Proofs.YtobpinelhjpfgaaDoor
end

section
namespace Go.Proofs.YtobpinelhjpfgaaDoor
namespace Rc
open Go.RowKit Bp
/-- What was gathered, as numbers. -/
def iN (N : Nat → Nat) (f : Nat) : Int := ((mn f (N f) : Nat) : Int)
def numsN (N : Nat → Nat) : Array Value := #[.int .i64 (iN N 0), .int .i64 (iN N 1), .int .i64 (iN N 2), .int .i64 (iN N 3), .int .i64 (iN N 4)]
theorem numsN_set (N : Nat → Nat) (f n : Nat) (hf : f < 5) : (numsN N).setIfInBounds f (.int .i64 ((mn f n : Nat) : Int)) = numsN (upd N f n) := by
  have hcs : f = 0 ∨ f = 1 ∨ f = 2 ∨ f = 3 ∨ f = 4 := by omega
  rcases hcs with rfl | rfl | rfl | rfl | rfl <;> simp [numsN, iN, upd]
theorem numsN_get (N : Nat → Nat) (f : Nat) (hf : f < 5) : (numsN N)[f]? = some (.int .i64 (iN N f)) := by
  have hcs : f = 0 ∨ f = 1 ∨ f = 2 ∨ f = 3 ∨ f = 4 := by omega
  rcases hcs with rfl | rfl | rfl | rfl | rfl <;> rfl
theorem Tryd.resG : Tryd.f98.results = #[.cell 4 123] := by kernel_rfl
theorem Tryd.resRd : Tryd.f97.results = #[.cell 2 138] := by kernel_rfl
theorem Tryd.cellsRd : (Tryd.prog.info? 138).map (·.size) = some 1 := by kernel_rfl
theorem Rd.lower {C B b : Nat} {v : Value} {zs : List Nat} {p : Nat} {e : Int} {w : World} (h : Rd C w b v zs p e) (hB : B ≤ C) : Rd B w b v zs p e :=
  ⟨h.box, own_lower h.row hB, h.ne, Nat.le_trans hB h.base, h.at_le, h.few, h.byte⟩
theorem rcnewReader_any (v : Value) (zs : List Nat) (w : World) (h : ∀ o, BytesAt (w.alloc o) v zs) (hf : zs.length ≤ 1048576) (hz : ∀ z ∈ zs, z ≤ 255) :
    Calls Tryd.prog 97 #[v] w fun e w' => ∃ b v', e = .returned (.agg #[.pointer (some ⟨b, 0, none⟩)]) ∧ Rd w.heap.size w' b v' zs 0 0 ∧ Below w.heap.size w w' := by
  have HC := Lib.hid (newReader_any v zs (w.alloc (.cells #[.pointer none] 138)) (h _) hf hz)
  have hr := heap_alloc_new w (.cells #[.pointer none] 138)
  have hs : (w.alloc (.cells #[.pointer none] 138)).heap.size = w.heap.size + 1 := by simp
  have HB := Lib.hid (below_new w (.cells #[.pointer none] 138))
  have HR := Lib.hid hr
  have HS := Lib.hid hs
  clear h hr hs
  go_enter Tryd.func97, Tryd.ntmps97
  go_wp2_with fail
  refine HC.out.mono ?_
  rintro e w1 ⟨b, v', rfl, hR, hb⟩
  have hr1 := (hb.block w.heap.size (by rw [HS.out]; omega)).trans HR.out
  have c0 := cell_of_row w1 w.heap.size 0 _ _ _ hr1
  have f0 := frozen_of_row w1 w.heap.size 0 _ _ hr1
  have HR1 := Lib.hid (heap_setCell_same w1 w.heap.size 0 _ _ (.pointer (some ⟨b, 0, none⟩)) hr1)
  have HRD := Lib.hid (Rd.lower (hR.frame (w' := w1.setCell ⟨w.heap.size, 0, none⟩ (.pointer (some ⟨b, 0, none⟩))) (fun k hk => Below.heap_setCell _ _ _ _ (by have := (hR.lt hk).1; rw [HS.out] at this; show k ≠ w.heap.size; omega))) (B := w.heap.size) (by rw [HS.out]; omega))
  have HB1 := Lib.hid ((HB.out.trans (hb.mono HB.out.size)).setCell (p := ⟨w.heap.size, 0, none⟩) (Nat.le_refl _) (.pointer (some ⟨b, 0, none⟩)))
  clear hR hb hr1
  go_wp2
  refine bodyPost_ret (results_cell_row Tryd.resRd _ _ _ _ _ _ _ rfl HR1.out Tryd.underlying138 rfl Tryd.cellsRd) rfl ?_
  exact ⟨b, v', rfl, HRD.out, HB1.out⟩
/-- In the middle of gathering. -/
structure Gp (C b : Nat) (v : Value) (zs : List Nat) (p0 : Nat) (e0 : Int) (wa : World) (R : Nat) (g : Nat) (fs : List Nat) (k : Nat) (wr : World) : Prop where
  red : ∃ N p e, Rds zs p0 e0 (fs.take k) N p e ∧ Rd C wr b v zs p e ∧ wr.heap[R + 1]? = some (.cells (numsN N) 123 (0, 0))
  turn : Turn (fun j => RF b v j ∨ j = R + 1) (fun j => RF b v j ∨ j = R + 1) wa wr
  res : wr.heap[R]? = some (.cells (numsN fun _ => 0) 123 (0, 0))
  shp : Shp wr
  fs : ∀ j, j < fs.length → wr.cell? ⟨g, j, none⟩ = some (.int .i64 ((fs.getD j 0 : Nat) : Int))
def GathTold (C b : Nat) (v : Value) (zs : List Nat) (p0 : Nat) (e0 : Int) (fs : List Nat) (w : World) (r : Ending) (w' : World) : Prop :=
  ∃ N p e, r = .returned (.agg #[.int .i64 (iN N 0), .int .i64 (iN N 1), .int .i64 (iN N 2), .int .i64 (iN N 3), .int .i64 (iN N 4)]) ∧ Rds zs p0 e0 fs N p e ∧ RdTo C w b v zs p e w'
theorem Gp.got {C b : Nat} {v : Value} {zs : List Nat} {p0 : Nat} {e0 : Int} {wa : World} {R g : Nat} {fs : List Nat} {k : Nat} {wr w2 : World} {N : Nat → Nat} {p : Nat} {e : Int} {f n p' : Nat} {e' : Int}
    (h : Gp C b v zs p0 e0 wa R g fs k wr) (hrs : Rds zs p0 e0 (fs.take k) N p e) (hrd : Rd C wr b v zs p e) (hrow : wr.heap[R + 1]? = some (.cells (numsN N) 123 (0, 0)))
    (hk : k < fs.length) (hf : fs.getD k 0 = f) (hf5 : f < 5) (hR : ∀ j, RF b v j → j < R) (hg : g < R) (hgF : ¬ RF b v g) (h0F : ¬ RF b v 0) (h0 : 0 < R) (hRa : R + 1 < wa.heap.size)
    (hfr : Fr zs f p e n p' e') (ht : RdTo C wr b v zs p' e' w2) :
    w2.heap[R + 1]? = some (.cells (numsN N) 123 (0, 0)) ∧ Gp C b v zs p0 e0 wa R g fs (k + 1) (w2.setCell ⟨R + 1, f, none⟩ (.int .i64 ((mn f n : Nat) : Int))) := by
  have hsz : wa.heap.size ≤ wr.heap.size := h.turn.size
  have hr1 : w2.heap[R + 1]? = some (.cells (numsN N) 123 (0, 0)) := (ht.2.block (R + 1) (by omega) (fun x => by have := hR _ x; omega)).trans hrow
  refine ⟨hr1, ⟨upd N f n, p', e', ?_, ht.1.frame (fun j hj => Below.heap_setCell _ _ _ _ (by have := hR j hj; show j ≠ R + 1; omega)), ?_⟩, ?_, ?_, ?_, fun j hj => ?_⟩
  · have e1 : fs.take (k + 1) = fs.take k ++ [f] := by
      have hg : fs.getD k 0 = fs[k] := by simp [List.getD, List.getElem?_eq_getElem hk]
      rw [List.take_succ_eq_append_getElem hk, ← hg, hf]
    rw [e1]
    exact .snoc hrs hfr
  · rw [heap_setCell_same w2 (R + 1) f _ _ _ hr1, numsN_set N f n hf5]
  · refine h.turn.trans (Turn.put (F' := fun j => RF b v j ∨ j = R + 1) ?_ _ (.inr rfl))
    exact ⟨ht.2.os, ht.2.tape, ht.2.output, ht.2.size, fun j hj hn => ht.2.block j hj (fun x => hn (.inl x)), fun j hj => .inl hj⟩
  · rw [Below.heap_setCell _ _ _ _ (by show R ≠ R + 1; omega)]
    exact (ht.2.block R (by omega) (fun x => by have := hR _ x; omega)).trans h.res
  · exact h.shp.of ((Below.heap_setCell _ _ _ _ (by show 0 ≠ R + 1; omega)).trans (ht.2.block 0 (by omega) h0F))
  · rw [← h.fs j hj]
    exact World.cell?_of_block (w := wr) (a := ⟨g, j, none⟩) ((Below.heap_setCell _ _ _ _ (by show g ≠ R + 1; omega)).trans (ht.2.block g (by omega) hgF))
theorem fin_turn {C b : Nat} {v : Value} {zs : List Nat} {p0 : Nat} {e0 : Int} {w : World} {o o2 : Obj} {g : Nat} {fs : List Nat} {k : Nat} {wr : World} (h : Gp C b v zs p0 e0 ((w.alloc o).alloc o2) w.heap.size g fs k wr) : Turn (RF b v) (RF b v) w wr := by
  have h1 : Turn (RF b v) (RF b v) w ((w.alloc o).alloc o2) := (Turn.alloc w o).trans (Turn.alloc _ o2)
  refine ⟨h.turn.os.trans h1.os, h.turn.tape.trans h1.tape, h.turn.output.trans h1.output, Nat.le_trans h1.size h.turn.size, fun j hj hn => ?_, fun j hj => .inl hj⟩
  rw [h.turn.block j (Nat.lt_of_lt_of_le hj h1.size) (fun x => by
    rcases x with x | x
    · exact hn x
    · omega)]
  exact h1.block j hj hn
theorem _root_.Go.Proofs.YtobpinelhjpfgaaDoor.Turn.putNew {F F' : Nat → Prop} {w w' : World} (h : Turn F F' w w') {b o : Nat} (hb : w.heap.size ≤ b) (u : Value) : Turn F F' w (w'.setCell ⟨b, o, none⟩ u) :=
  ⟨h.os, h.tape, h.output, by rw [World.size_setCell]; exact h.size, fun k hk hn => (Below.heap_setCell _ _ _ _ (by show k ≠ b; omega)).trans (h.block k hk hn), h.foot⟩
def zNum : Array Value := #[.int .i64 0, .int .i64 0, .int .i64 0, .int .i64 0, .int .i64 0]
set_option maxHeartbeats 2000000 in
theorem gather_any {B C : Nat} (fs : List Nat) (b : Nat) (v : Value) (zs : List Nat) (p0 : Nat) (e0 : Int) (w : World) (lv : Value) (h : Rd C w b v zs p0 e0) (hS : Shp w) (hC : 0 < C) (hf : Fs B w lv fs) (hB : ∀ k, RF b v k → k < B) (h5 : ∀ f, f ∈ fs → f < 5) (hl5 : fs.length ≤ 5) :
    Calls Tryd.prog 98 #[lv, .func (.func 99) #[.agg #[.pointer (some ⟨b, 0, none⟩)]] #[]] w (GathTold C b v zs p0 e0 fs w) := by
  have hA1 := heap_alloc2_old w (.cells zNum 123) (.cells zNum 123)
  have hA2 := heap_alloc2_new w (.cells zNum 123) (.cells zNum 123)
  have hsz : ((w.alloc (.cells zNum 123)).alloc (.cells zNum 123)).heap.size = w.heap.size + 2 := by simp
  have hb2 : Below w.heap.size w ((w.alloc (.cells zNum 123)).alloc (.cells zNum 123)) := (below_new w _).alloc (by simp) _
  have hst : ∀ g, (∀ j, j < fs.length → w.cell? ⟨g, j, none⟩ = some (.int .i64 ((fs.getD j 0 : Nat) : Int))) → (0 < fs.length → g < w.heap.size) → Gp C b v zs p0 e0 ((w.alloc (.cells zNum 123)).alloc (.cells zNum 123)) w.heap.size g fs 0 ((w.alloc (.cells zNum 123)).alloc (.cells zNum 123)) := fun g hc hg =>
    ⟨⟨fun _ => 0, p0, e0, .nil, h.frame (fun k hk => hb2.block k (h.lt hk).2), hA2⟩, Turn.refl _ _, hA1, hS.later hb2, fun j hj => (hb2.cell (p := ⟨g, j, none⟩) (hg (by omega))).trans (hc j hj)⟩
  have hlt0 : 0 < w.heap.size := hS.pos
  have hbC := h.base
  have hwlt := (h.lt (k := b) (.inl rfl)).2
  have hR : ∀ j, RF b v j → j < w.heap.size := fun j hj => (h.lt hj).2
  have h0F : ¬ RF b v 0 := fun x => by have := (h.lt x).1; omega
  have HT := fun g k wr (hg : Gp C b v zs p0 e0 ((w.alloc (.cells zNum 123)).alloc (.cells zNum 123)) w.heap.size g fs k wr) => fin_turn hg
  rcases hf with ⟨rfl, rfl⟩ | ⟨g, rfl, hBg, hg, hc⟩
  · have HST := Lib.hid (hst 0 (fun j hj => by simp at hj) (fun h => by simp at h))
    have HTT := Lib.hid (HT 0 0 _ HST.out)
    have HRD := Lib.hid (h.frame (w' := (w.alloc (.cells zNum 123)).alloc (.cells zNum 123)) (fun k hk => hb2.block k (h.lt hk).2))
    have d0 := cell_of_row _ (w.heap.size + 1) 0 _ _ _ hA2
    have d1 := cell_of_row _ (w.heap.size + 1) 1 _ _ _ hA2
    have d2 := cell_of_row _ (w.heap.size + 1) 2 _ _ _ hA2
    have d3 := cell_of_row _ (w.heap.size + 1) 3 _ _ _ hA2
    have d4 := cell_of_row _ (w.heap.size + 1) 4 _ _ _ hA2
    clear h hS hB h5 hst hR h0F HT hlt0 hbC hwlt hb2 hsz HST hA1 hA2 d0 d1 d2 d3 d4
    unfold zNum at HTT HRD
    go_enter Tryd.func98, Tryd.ntmps98
    go_wp2
    go_loopw [10] (fun iv wr => iv = .int .i64 0 ∧ (w.alloc (.cells #[.int .i64 0, .int .i64 0, .int .i64 0, .int .i64 0, .int .i64 0] 123)).alloc (.cells #[.int .i64 0, .int .i64 0, .int .i64 0, .int .i64 0, .int .i64 0] 123) = wr) (fun iv _ => 0)
    case atStart => exact ⟨rfl, rfl⟩
    case round =>
      obtain ⟨rfl, rfl⟩ := hrel
      go_wp2
      refine bodyPost_ret (results_cell_row Tryd.resG _ _ _ _ _ _ _ rfl (heap_alloc2_old w _ _) Tryd.underlying123 rfl Tryd.cellsN) rfl ?_
      exact ⟨fun _ => 0, p0, e0, rfl, .nil, HRD.out, HTT.out⟩
  · have HST := Lib.hid (hst g hc (fun _ => hg))
    have hgF : ¬ RF b v g := fun x => by have := hB g x; omega
    have HGO : Hid (∀ k wr w2 N p e f n p' e', Gp C b v zs p0 e0 ((w.alloc (.cells zNum 123)).alloc (.cells zNum 123)) w.heap.size g fs k wr → Rds zs p0 e0 (fs.take k) N p e → Rd C wr b v zs p e → wr.heap[w.heap.size + 1]? = some (.cells (numsN N) 123 (0, 0)) →
        k < fs.length → fs.getD k 0 = f → f < 5 → Fr zs f p e n p' e' → RdTo C wr b v zs p' e' w2 →
        w2.heap[w.heap.size + 1]? = some (.cells (numsN N) 123 (0, 0)) ∧ Gp C b v zs p0 e0 ((w.alloc (.cells zNum 123)).alloc (.cells zNum 123)) w.heap.size g fs (k + 1) (w2.setCell ⟨w.heap.size + 1, f, none⟩ (.int .i64 ((mn f n : Nat) : Int)))) :=
      Lib.hid (fun k wr w2 N p e f n p' e' h1 h2 h3 h4 h6 h7 h8 h9 h10 => h1.got h2 h3 h4 h6 h7 h8 hR hg hgF h0F hlt0 (by omega) h9 h10)
    have HTT := Lib.hid (HT g)
    have HMM : Hid (∀ k, k < fs.length → fs.getD k 0 < 5) := Lib.hid (fun k hk => h5 _ ((fs_mem fs _).2 ⟨k, hk, rfl⟩))
    obtain ⟨L, hL⟩ : ∃ L, fs.length = L := ⟨_, rfl⟩
    rw [hL] at hl5 ⊢
    have HL := Lib.hid hL
    have HRC : Hid (∀ k, RF b v k → k < w.heap.size) := Lib.hid hR
    clear h hS hB h5 hst hR h0F HT hlt0 hbC hwlt hb2 hsz hA1 hA2 hgF hBg hg hc hL
    obtain ⟨wa, hwa⟩ : ∃ wa, wa = (w.alloc (.cells zNum 123)).alloc (.cells zNum 123) := ⟨_, rfl⟩
    rw [← hwa] at HST HGO HTT
    have HWA := Lib.hid hwa
    unfold zNum at hwa
    go_enter Tryd.func98, Tryd.ntmps98
    go_wp2
    rw [← hwa]
    clear hwa
    go_loopw [10] (fun iv wr => ∃ k : Nat, k ≤ L ∧ iv = .int .i64 (k : Int) ∧ Gp C b v zs p0 e0 wa w.heap.size g fs k wr) (fun iv _ => L - (intOf iv).toNat)
    case atStart => exact ⟨0, Nat.zero_le _, rfl, HST.out⟩
    case round =>
      obtain ⟨k, hk, rfl, hs⟩ := hrel
      have HS1 := Lib.hid hs
      obtain ⟨N, p, e, hrs, hrd, hrow⟩ := hs.red
      by_cases hlt : k < L
      · have hkl : k < fs.length := by rw [HL.out]; exact hlt
        have hck := hs.fs k hkl
        have hm5 := HMM.out k hkl
        obtain ⟨f, hfe⟩ : ∃ f, fs.getD k 0 = f := ⟨_, rfl⟩
        rw [hfe] at hck hm5
        have HC := Lib.hid (rfield_any hrd hs.shp f hm5)
        have HNX := Lib.hid (fun w2 n p' e' => HGO.out k wr w2 N p e f n p' e' hs hrs hrd hrow hkl hfe hm5)
        have HM5 := Lib.hid hm5
        clear hs hrs hrd hrow hfe hkl
        go_wp2_with fail
        refine HC.out.mono ?_
        rintro r w2 ⟨n, p', e', rfl, hfr, ht⟩
        obtain ⟨hr2, hg2⟩ := HNX.out w2 n p' e' hfr ht
        have HG2 := Lib.hid hg2
        have c1 := (cell_of_row w2 (w.heap.size + 1) f _ _ _ hr2).trans (numsN_get N f HM5.out)
        have f1 := frozen_of_row w2 (w.heap.size + 1) f _ _ hr2
        generalize iN N f = z at c1
        generalize mn f n = y at *
        clear hr2 hg2 hfr ht HC HNX
        go_wp2
        go_roundw
        case rel => exact ⟨k + 1, by omega, by go_num, HG2.out⟩
        case measure => simp [intOf]; omega
      · obtain rfl : k = L := by omega
        have hrs2 := hrs
        rw [List.take_of_length_le (by rw [HL.out]; exact Nat.le_refl _)] at hrs2
        have HTU := Lib.hid (HTT.out _ _ hs)
        have hres := hs.res
        have HRS := Lib.hid hrs2
        have HLT : Hid (∀ j, RF b v j → j < w.heap.size) := HRC
        have d0 := (cell_of_row _ (w.heap.size + 1) 0 _ _ _ hrow).trans (numsN_get N 0 (by decide))
        have d1 := (cell_of_row _ (w.heap.size + 1) 1 _ _ _ hrow).trans (numsN_get N 1 (by decide))
        have d2 := (cell_of_row _ (w.heap.size + 1) 2 _ _ _ hrow).trans (numsN_get N 2 (by decide))
        have d3 := (cell_of_row _ (w.heap.size + 1) 3 _ _ _ hrow).trans (numsN_get N 3 (by decide))
        have d4 := (cell_of_row _ (w.heap.size + 1) 4 _ _ _ hrow).trans (numsN_get N 4 (by decide))
        have e0' := (cell_of_row _ w.heap.size 0 _ _ _ hres).trans (numsN_get _ 0 (by decide))
        have e1' := (cell_of_row _ w.heap.size 1 _ _ _ hres).trans (numsN_get _ 1 (by decide))
        have e2' := (cell_of_row _ w.heap.size 2 _ _ _ hres).trans (numsN_get _ 2 (by decide))
        have e3' := (cell_of_row _ w.heap.size 3 _ _ _ hres).trans (numsN_get _ 3 (by decide))
        have e4' := (cell_of_row _ w.heap.size 4 _ _ _ hres).trans (numsN_get _ 4 (by decide))
        have g0 := frozen_of_row _ w.heap.size 0 _ _ hres
        have g1 := frozen_of_row _ w.heap.size 1 _ _ hres
        have g2 := frozen_of_row _ w.heap.size 2 _ _ hres
        have g3 := frozen_of_row _ w.heap.size 3 _ _ hres
        have g4 := frozen_of_row _ w.heap.size 4 _ _ hres
        have HSET := Lib.hid (set5 hres)
        have HFR : Hid (∀ W, (∀ j, j ≠ w.heap.size → W.heap[j]? = wr.heap[j]?) → Rd C W b v zs p e) := Lib.hid (fun W hW => hrd.frame (fun j hj => hW j (by have := HLT.out j hj; omega)))
        clear hs hrs hrs2 hrd hrow hres
        generalize hn0 : iN N 0 = n0 at *
        have HN0 := Lib.hid hn0
        clear hn0
        generalize hn1 : iN N 1 = n1 at *
        have HN1 := Lib.hid hn1
        clear hn1
        generalize hn2 : iN N 2 = n2 at *
        have HN2 := Lib.hid hn2
        clear hn2
        generalize hn3 : iN N 3 = n3 at *
        have HN3 := Lib.hid hn3
        clear hn3
        generalize hn4 : iN N 4 = n4 at *
        have HN4 := Lib.hid hn4
        clear hn4
        go_wp2
        refine bodyPost_ret (results_cell_row Tryd.resG _ _ _ _ _ _ _ rfl (HSET.out _ _ _ _ _) Tryd.underlying123 rfl Tryd.cellsN) rfl ?_
        refine ⟨N, p, e, by rw [HN0.out, HN1.out, HN2.out, HN3.out, HN4.out], HRS.out, HFR.out _ (fun j hj => ?_), ?_⟩
        · rw [Below.heap_setCell _ _ _ _ hj, Below.heap_setCell _ _ _ _ hj, Below.heap_setCell _ _ _ _ hj, Below.heap_setCell _ _ _ _ hj, Below.heap_setCell _ _ _ _ hj]
        · exact ((((HTU.out.putNew (Nat.le_refl _) _).putNew (Nat.le_refl _) _).putNew (Nat.le_refl _) _).putNew (Nat.le_refl _) _).putNew (Nat.le_refl _) _
end Rc
end Go.Proofs.YtobpinelhjpfgaaDoor
end
