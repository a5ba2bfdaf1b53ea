/-
  Layer 17, plain facts: a record's bits and an act's, field by field; how fields are read off bytes; bytes are a record's in one way at most.
-/
import Derived.Test.YtobpinelhjpfgaaDoorBtFiv
set_option linter.unusedVariables false
namespace Go.Proofs.YtobpinelhjpfgaaDoor
namespace Rc
open Bp
/-- In how many bits a field is laid (0: as a count), and the greatest number of it. -/
def fw : Nat → Nat
  | 1 => 3 | 2 => 6 | 3 => 8 | 4 => 3 | _ => 0
def fmx : Nat → Nat
  | 0 => 1073741824 | 1 => 7 | 2 => 63 | 3 => 255 | 4 => 5 | _ => 0
def fld (f n : Nat) : List Bool := if f = 0 then countBits n else bitsOf n (fw f)
def fbits (fs : List Nat) (N : Nat → Nat) : List Bool := fs.flatMap fun f => fld f (N f)
/-- The fields of a kind. -/
def fl (k : Nat) : List Nat := if k = 1 then [2, 3, 4] else if k = 2 then [0] else if k = 3 then [0, 1] else if k = 4 ∨ k = 5 then [1] else []
/-- A number that can be read there. -/
def rg (f m : Nat) : Prop := if f = 0 then m + 1 < 18446744073709551616 else m < 2 ^ fw f
/-- What a field is read as. -/
def mn (f m : Nat) : Nat := if f = 0 then min m 1073741825 else m
theorem fl_nodup (k : Nat) : (fl k).Nodup := by unfold fl; repeat' split
                                                all_goals decide
theorem fl_lt (k f : Nat) (h : f ∈ fl k) : f < 5 := by
  unfold fl at h
  repeat' split at h
  all_goals simp at h
  all_goals omega
theorem fld_zero (n : Nat) : fld 0 n = countBits n := if_pos rfl
theorem fld_pos (f n : Nat) (h : f ≠ 0) : fld f n = bitsOf n (fw f) := if_neg h
theorem rg_le (f m : Nat) (hf : f < 5) (h : m ≤ fmx f) : rg f m := by
  unfold rg
  have : f = 0 ∨ f = 1 ∨ f = 2 ∨ f = 3 ∨ f = 4 := by omega
  rcases this with rfl | rfl | rfl | rfl | rfl <;> simp [fw, fmx] at * <;> omega
theorem mn_le (f m : Nat) (hf : f < 5) (h : m ≤ fmx f) : mn f m = m := by
  unfold mn
  split
  · rename_i e
    subst e
    simp only [fmx] at h
    omega
  · rfl
theorem mn_back (f m : Nat) (hf : f < 5) (h : mn f m ≤ fmx f) : mn f m = m := by
  unfold mn at *
  split
  · rename_i e
    subst e
    simp only [fmx, if_pos] at h
    omega
  · rfl
theorem fbits_nil (N : Nat → Nat) : fbits [] N = [] := rfl
theorem fbits_snoc (fs : List Nat) (f : Nat) (N : Nat → Nat) : fbits (fs ++ [f]) N = fbits fs N ++ fld f (N f) := by simp [fbits]
theorem fbits_cons (fs : List Nat) (f : Nat) (N : Nat → Nat) : fbits (f :: fs) N = fld f (N f) ++ fbits fs N := by simp [fbits]
theorem fbits_congr (fs : List Nat) (N M : Nat → Nat) (h : ∀ f, f ∈ fs → N f = M f) : fbits fs N = fbits fs M := by
  induction fs with
  | nil => rfl
  | cons f fs ih => rw [fbits_cons, fbits_cons, h f (by simp), ih (fun g hg => h g (by simp [hg]))]
theorem fld_len (f m : Nat) (hf : f < 5) (h : m ≤ fmx f) : (fld f m).length ≤ 61 := by
  unfold fld
  split
  · rename_i e
    subst e
    rw [countBits_length]
    have h1 := kz_le m
    simp only [fmx] at h
    have : kz m ≤ 30 := by
      rcases Nat.lt_or_ge 30 (kz m) with x | x
      · have h2 : (2 : Nat) ^ 31 ≤ 2 ^ kz m := Nat.pow_le_pow_right (by decide) x
        have e : (2 : Nat) ^ 31 = 2147483648 := by decide
        omega
      · exact x
    omega
  · rw [bitsOf_length]
    have : f = 0 ∨ f = 1 ∨ f = 2 ∨ f = 3 ∨ f = 4 := by omega
    rcases this with rfl | rfl | rfl | rfl | rfl <;> simp [fw]
theorem fbits_len (fs : List Nat) (N : Nat → Nat) (h : ∀ f, f ∈ fs → f < 5 ∧ N f ≤ fmx f) : (fbits fs N).length ≤ 61 * fs.length := by
  induction fs with
  | nil => simp [fbits]
  | cons f fs ih =>
    rw [fbits_cons, List.length_append, List.length_cons]
    have := ih (fun g hg => h g (by simp [hg]))
    have h1 := h f (by simp)
    have := fld_len f (N f) h1.1 h1.2
    omega
/-- Two stretches. -/
theorem has_app {zs : List Nat} {p : Nat} {a b : List Bool} (h1 : Has zs p a) (h2 : Has zs (p + a.length) b) : Has zs p (a ++ b) := by
  refine ⟨by rw [List.length_append]; have := h2.1; omega, fun i hi => ?_⟩
  rcases Nat.lt_or_ge i a.length with x | x
  · rw [bitN_left _ _ _ x]; exact h1.2 i x
  · obtain ⟨j, rfl⟩ : ∃ j, i = a.length + j := ⟨i - a.length, by omega⟩
    rw [bitN_right, ← Nat.add_assoc]
    rw [List.length_append] at hi
    exact h2.2 j (by omega)
theorem has_left {zs : List Nat} {p : Nat} {a b : List Bool} (h : Has zs p (a ++ b)) : Has zs p a := by
  have h1 := h.1
  rw [List.length_append] at h1
  refine ⟨by omega, fun i hi => ?_⟩
  rw [h.2 i (by rw [List.length_append]; omega), bitN_left _ _ _ hi]
theorem has_right {zs : List Nat} {p : Nat} {a b : List Bool} (h : Has zs p (a ++ b)) : Has zs (p + a.length) b := by
  have h1 := h.1
  rw [List.length_append] at h1
  refine ⟨by omega, fun i hi => ?_⟩
  rw [Nat.add_assoc, h.2 _ (by rw [List.length_append]; omega), bitN_right]
theorem has_nil (zs : List Nat) (p : Nat) (h : p ≤ 8 * zs.length) : Has zs p [] := ⟨by simpa using h, fun i hi => by simp at hi⟩
/-- What is taken is what stands there. -/
theorem tk_bit (zs : List Nat) (p m i : Nat) (h : i < m) : tk zs p m / 2 ^ (m - 1 - i) % 2 = rbit zs (p + i) := by
  induction m with
  | zero => omega
  | succ m ih =>
    rw [tk]
    have hr := rbit_le zs (p + m)
    rcases Nat.lt_or_ge i m with x | x
    · have e : m + 1 - 1 - i = (m - 1 - i) + 1 := by omega
      rw [e, Nat.pow_succ', ← Nat.div_div_eq_div_mul, show (2 * tk zs p m + rbit zs (p + m)) / 2 = tk zs p m by omega]
      exact ih x
    · obtain rfl : i = m := by omega
      rw [show i + 1 - 1 - i = 0 by omega, Nat.pow_zero, Nat.div_one]
      omega
theorem has_tk (zs : List Nat) (p m : Nat) (h : p + m ≤ 8 * zs.length) : Has zs p (bitsOf (tk zs p m) m) := by
  refine ⟨by rw [bitsOf_length]; exact h, fun i hi => ?_⟩
  rw [bitsOf_length] at hi
  rw [bitN_bitsOf _ _ _ hi, tk_bit zs p m i hi]
theorem cnt_top {zs : List Nat} {p q : Nat} (hz : Zs zs p q) (hq : q ≤ 63) (hs : p + (2 * q + 1) ≤ 8 * zs.length) :
    tk zs (p + q) (q + 1) - 1 + 1 = tk zs (p + q) (q + 1) ∧ kz (tk zs (p + q) (q + 1) - 1) = q ∧ tk zs (p + q) (q + 1) < 18446744073709551616 := by
  have hb : rbit zs (p + q) = 1 := by rcases hz.stop with e | e | e <;> omega
  have hlo := tk_top zs (p + q) q hb
  have hp := Nat.two_pow_pos q
  have hhi := tk_lt zs (p + q) (q + 1)
  have h3 : (2 : Nat) ^ (q + 1) ≤ 2 ^ 64 := Nat.pow_le_pow_right (by decide) (by omega)
  have e : (2 : Nat) ^ 64 = 18446744073709551616 := by decide
  have e1 : tk zs (p + q) (q + 1) - 1 + 1 = tk zs (p + q) (q + 1) := by omega
  refine ⟨e1, ?_, by omega⟩
  have a1 := kz_le (tk zs (p + q) (q + 1) - 1)
  have a2 := kz_lt (tk zs (p + q) (q + 1) - 1)
  rw [e1] at a1 a2
  exact pow_unique _ _ _ a1 a2 hlo hhi
theorem has_cnt {zs : List Nat} {p q : Nat} (hz : Zs zs p q) (hq : q ≤ 63) (hs : p + (2 * q + 1) ≤ 8 * zs.length) : Has zs p (countBits (tk zs (p + q) (q + 1) - 1)) := by
  obtain ⟨e1, e2, _⟩ := cnt_top hz hq hs
  unfold countBits
  rw [e1, e2]
  refine has_app ⟨by rw [List.length_replicate]; omega, fun i hi => ?_⟩ ?_
  · rw [List.length_replicate] at hi
    rw [hz.zero i hi]
    have h1 := bitN_bitsOf 0 q i hi
    rw [bitsOf_zero, Nat.zero_div] at h1
    rw [h1]
  · rw [List.length_replicate]
    exact has_tk zs (p + q) (q + 1) (by omega)
/-- One number stands there, at most. -/
theorem fld_uniq {zs : List Nat} {p f m n : Nat} (hm : rg f m) (hn : rg f n) (h1 : Has zs p (fld f m)) (h2 : Has zs p (fld f n)) : m = n := by
  by_cases hf : f = 0
  · subst hf
    rw [fld_zero] at h1 h2
    simp only [rg, if_pos] at hm hn
    obtain ⟨a1, a2, a3, a4⟩ := h1.count hm
    obtain ⟨b1, b2, b3, b4⟩ := h2.count hn
    have e := a1.unique b1
    rw [e] at a4
    omega
  · rw [fld_pos _ _ hf] at h1 h2
    simp only [rg, if_neg hf] at hm hn
    have a := h1.get.2
    have b := h2.get.2
    rw [Nat.mod_eq_of_lt hm] at a
    rw [Nat.mod_eq_of_lt hn] at b
    omega
theorem fbits_uniq {zs : List Nat} : ∀ (fs : List Nat) (p : Nat) (M N : Nat → Nat), (∀ f, f ∈ fs → rg f (M f)) → (∀ f, f ∈ fs → rg f (N f)) → Has zs p (fbits fs M) → Has zs p (fbits fs N) → ∀ f, f ∈ fs → M f = N f
  | [], _, _, _, _, _, _, _ => by simp
  | g :: fs, p, M, N, hM, hN, h1, h2 => by
    rw [fbits_cons] at h1 h2
    have e := fld_uniq (hM g (by simp)) (hN g (by simp)) (has_left h1) (has_left h2)
    have r1 := has_right h1
    have r2 := has_right h2
    rw [← e] at r2
    have ih := fbits_uniq fs _ M N (fun f hf => hM f (by simp [hf])) (fun f hf => hN f (by simp [hf])) r1 r2
    intro f hf
    rcases List.mem_cons.1 hf with rfl | hf
    · exact e
    · exact ih f hf
/-- How a field is read: behind a fault, as what stands there, or refused. -/
def Fr (zs : List Nat) (f p : Nat) (e : Int) (n p' : Nat) (e' : Int) : Prop :=
  (e ≠ 0 ∧ n = 0 ∧ p' = p ∧ e' = e) ∨
  (e = 0 ∧ e' = 0 ∧ ∃ m, rg f m ∧ Has zs p (fld f m) ∧ p' = p + (fld f m).length ∧ n = m) ∨
  (e = 0 ∧ e' ≠ 0 ∧ n = 0 ∧ p' = p ∧ ∀ m, rg f m → ¬ Has zs p (fld f m))
def upd (N : Nat → Nat) (f n : Nat) : Nat → Nat := fun g => if g = f then n else N g
theorem upd_same (N : Nat → Nat) (f n : Nat) : upd N f n f = n := if_pos rfl
theorem upd_other (N : Nat → Nat) (f n g : Nat) (h : g ≠ f) : upd N f n g = N g := if_neg h
/-- How fields are read, one behind the other: N is what was read (0 elsewhere). -/
inductive Rds (zs : List Nat) (p : Nat) (e : Int) : List Nat → (Nat → Nat) → Nat → Int → Prop
  | nil : Rds zs p e [] (fun _ => 0) p e
  | snoc {fs : List Nat} {N : Nat → Nat} {p' : Nat} {e' : Int} {f n p'' : Nat} {e'' : Int} : Rds zs p e fs N p' e' → Fr zs f p' e' n p'' e'' → Rds zs p e (fs ++ [f]) (upd N f n) p'' e''
theorem Rds.out {zs : List Nat} {p : Nat} {e : Int} {fs : List Nat} {N : Nat → Nat} {p' : Nat} {e' : Int} (h : Rds zs p e fs N p' e') : ∀ f, f ∉ fs → N f = 0 := by
  induction h with
  | nil => intro f _; rfl
  | snoc h1 h2 ih =>
    intro g hg
    rw [List.mem_append, List.mem_singleton, not_or] at hg
    rw [upd_other _ _ _ _ hg.2]
    exact ih g hg.1
/-- No fault in the end: all stands there. -/
theorem Rds.has {zs : List Nat} {p : Nat} {e : Int} {fs : List Nat} {N : Nat → Nat} {p' : Nat} {e' : Int} (h : Rds zs p e fs N p' e') (hn : fs.Nodup) (hp : p ≤ 8 * zs.length) (he : e' = 0) :
    e = 0 ∧ Has zs p (fbits fs N) ∧ p' = p + (fbits fs N).length ∧ ∀ f, f ∈ fs → rg f (N f) := by
  induction h with
  | nil => exact ⟨he, has_nil _ _ hp, by simp [fbits], by simp⟩
  | snoc h1 h2 ih =>
    rename_i fs N p' e' f n p'' e''
    obtain ⟨n1, n2⟩ : fs.Nodup ∧ f ∉ fs := by
      rw [List.nodup_append] at hn
      exact ⟨hn.1, fun x => hn.2.2 f x f (by simp) rfl⟩
    rcases h2 with ⟨a, _, _, b⟩ | ⟨a, _, m, hm, hh, hq, rfl⟩ | ⟨a, b, _⟩
    · exact absurd (b.symm.trans he) a
    · obtain ⟨i1, i2, i3, i4⟩ := ih n1 a
      have e1 : fbits fs (upd N f n) = fbits fs N := fbits_congr _ _ _ (fun g hg => upd_other _ _ _ _ (fun x => n2 (x ▸ hg)))
      rw [fbits_snoc, e1, upd_same]
      rw [i3] at hh hq
      refine ⟨i1, has_app i2 hh, by rw [hq, List.length_append]; omega, fun g hg => ?_⟩
      rcases List.mem_append.1 hg with x | x
      · rw [upd_other _ _ _ _ (fun y : g = f => n2 (y ▸ x))]; exact i4 g x
      · rw [List.mem_singleton] at x
        subst x
        rw [upd_same]; exact hm
    · exact absurd he b
/-- What stands there is read. -/
theorem Rds.reads {zs : List Nat} {p : Nat} {fs : List Nat} {N : Nat → Nat} {p' : Nat} {e e' : Int} (h : Rds zs p e fs N p' e') (he : e = 0) (M : Nat → Nat) (hn : fs.Nodup) (hM : ∀ f, f ∈ fs → rg f (M f)) (hh : Has zs p (fbits fs M)) :
    e' = 0 ∧ p' = p + (fbits fs M).length ∧ ∀ f, f ∈ fs → N f = M f := by
  induction h with
  | nil => exact ⟨he, by simp [fbits], by simp⟩
  | snoc h1 h2 ih =>
    rename_i fs N p' e' f n p'' e''
    obtain ⟨n1, n2⟩ : fs.Nodup ∧ f ∉ fs := by
      rw [List.nodup_append] at hn
      exact ⟨hn.1, fun x => hn.2.2 f x f (by simp) rfl⟩
    rw [fbits_snoc] at hh
    obtain ⟨i1, i2, i3⟩ := ih n1 (fun g hg => hM g (by simp [hg])) (has_left hh)
    have hr := has_right hh
    rw [← i2] at hr
    rcases h2 with ⟨a, _⟩ | ⟨_, h0, m, hm, hm2, hq, rfl⟩ | ⟨_, _, _, _, hno⟩
    · exact absurd i1 a
    · have e1 := fld_uniq hm (hM f (by simp)) hm2 hr
      subst e1
      refine ⟨h0, by rw [hq, i2, fbits_snoc, List.length_append]; omega, fun g hg => ?_⟩
      rcases List.mem_append.1 hg with x | x
      · rw [upd_other _ _ _ _ (fun y : g = f => n2 (y ▸ x))]; exact i3 g x
      · rw [List.mem_singleton] at x
        subst x
        rw [upd_same]
    · exact absurd hr (hno _ (hM f (by simp)))
theorem byte_sum (m : Nat) (h : m ≤ 255) : 128 * (m / 128 % 2) + 64 * (m / 64 % 2) + 32 * (m / 32 % 2) + 16 * (m / 16 % 2) + 8 * (m / 8 % 2) + 4 * (m / 4 % 2) + 2 * (m / 2 % 2) + m % 2 = m := by omega
theorem byte_of (zs : List Nat) (i : Nat) (h : zs.getD i 0 ≤ 255) : zs.getD i 0 = 128 * rbit zs (8 * i) + 64 * rbit zs (8 * i + 1) + 32 * rbit zs (8 * i + 2) + 16 * rbit zs (8 * i + 3) + 8 * rbit zs (8 * i + 4) + 4 * rbit zs (8 * i + 5) + 2 * rbit zs (8 * i + 6) + rbit zs (8 * i + 7) := by
  unfold rbit
  have e : ∀ j, j < 8 → (8 * i + j) / 8 = i ∧ (8 * i + j) % 8 = j := fun j hj => by omega
  rw [show (8 * i) / 8 = i by omega, show (8 * i) % 8 = 0 by omega, (e 1 (by omega)).1, (e 1 (by omega)).2, (e 2 (by omega)).1, (e 2 (by omega)).2, (e 3 (by omega)).1, (e 3 (by omega)).2, (e 4 (by omega)).1, (e 4 (by omega)).2, (e 5 (by omega)).1, (e 5 (by omega)).2, (e 6 (by omega)).1, (e 6 (by omega)).2, (e 7 (by omega)).1, (e 7 (by omega)).2]
  generalize zs.getD i 0 = z at *
  simp only [pw, show (2 : Nat) ^ (7 - 0) = 128 from rfl, show (2 : Nat) ^ (7 - 1) = 64 from rfl, show (2 : Nat) ^ (7 - 2) = 32 from rfl, show (2 : Nat) ^ (7 - 3) = 16 from rfl, show (2 : Nat) ^ (7 - 4) = 8 from rfl, show (2 : Nat) ^ (7 - 5) = 4 from rfl, show (2 : Nat) ^ (7 - 6) = 2 from rfl, show (2 : Nat) ^ (7 - 7) = 1 from rfl, Nat.div_one]
  exact (byte_sum z h).symm
/-- Bytes whose bits are those of a list, and 0 behind it. -/
theorem eq_pack (zs : List Nat) (bs : List Bool) (hz : ∀ z ∈ zs, z ≤ 255) (h1 : bs.length ≤ 8 * zs.length) (h2 : 8 * zs.length < bs.length + 8) (h3 : ∀ k, k < 8 * zs.length → rbit zs k = bitN bs k) : zs = pack bs := by
  have hn : nb bs.length = zs.length := by unfold nb; omega
  apply List.ext_getElem?
  intro i
  rcases Nat.lt_or_ge i zs.length with x | x
  · rw [pack_get _ _ (by omega), List.getElem?_eq_getElem x]
    have hg : zs.getD i 0 = zs[i] := by simp [List.getD, List.getElem?_eq_getElem x]
    rw [← hg, byte_of zs i (by rw [hg]; exact hz _ (List.getElem_mem x))]
    unfold byteAt
    rw [h3 _ (by omega), h3 _ (by omega), h3 _ (by omega), h3 _ (by omega), h3 _ (by omega), h3 _ (by omega), h3 _ (by omega), h3 _ (by omega)]
  · rw [List.getElem?_eq_none x, List.getElem?_eq_none (by rw [pack_length]; omega)]
/-- All was read, without a fault. -/
def Fin (zs : List Nat) (p : Nat) (e : Int) : Prop := e = 0 ∧ 8 * zs.length < p + 8 ∧ ∀ k, p ≤ k → k < 8 * zs.length → rbit zs k = 0
theorem fin_pack {zs : List Nat} {bs : List Bool} (hz : ∀ z ∈ zs, z ≤ 255) (h : Has zs 0 bs) (hf : Fin zs bs.length 0) : zs = pack bs := by
  have h1 := h.1
  rw [Nat.zero_add] at h1
  refine eq_pack zs bs hz h1 hf.2.1 fun k hk => ?_
  rcases Nat.lt_or_ge k bs.length with x | x
  · have := h.2 k x
    rwa [Nat.zero_add] at this
  · rw [hf.2.2 k x hk, bitN_ge _ _ x]
theorem pack_fin (bs : List Bool) : Has (pack bs) 0 bs ∧ Fin (pack bs) bs.length 0 := by
  refine ⟨?_, rfl, by rw [pack_length]; unfold nb; omega, fun k h1 h2 => ?_⟩
  · have := has_pack [] bs [] 0 rfl
    simpa using this
  · rw [pack_length] at h2
    rw [rbit_pack _ _ h2, bitN_ge _ _ h1]
/-- What has so many bits of a kind ahead, and then its fields: the bits. -/
def kb (j k : Nat) (fs : List Nat) (N : Nat → Nat) : List Bool := bitsOf k j ++ fbits fs N
/-- Read, and all of it: the bytes are those. -/
theorem read_pack {zs : List Nat} {j k : Nat} {fs : List Nat} {N : Nat → Nat} {p : Nat} {e : Int} (hz : ∀ z ∈ zs, z ≤ 255) (hk : Has zs 0 (bitsOf k j)) (hn : fs.Nodup) (hr : Rds zs j 0 fs N p e) (hf : Fin zs p e) :
    zs = pack (kb j k fs N) ∧ ∀ f, f ∈ fs → rg f (N f) := by
  have hj := hk.1
  rw [bitsOf_length, Nat.zero_add] at hj
  obtain ⟨h1, h2, h3, h4⟩ := hr.has hn hj hf.1
  have hl : (kb j k fs N).length = p := by unfold kb; rw [List.length_append, bitsOf_length, h3]
  obtain rfl := hf.1
  have ha := has_app hk (by rw [bitsOf_length, Nat.zero_add]; exact h2)
  exact ⟨fin_pack hz ha (by rw [hl]; exact hf), h4⟩
/-- The other way round. -/
theorem pack_read {j k k' : Nat} {fs : List Nat} {M : Nat → Nat} (hk' : k' < 2 ^ j) (hk : k < 2 ^ j) (h : Has (pack (kb j k fs M)) 0 (bitsOf k' j)) : k' = k := by
  have a := (has_left (pack_fin (kb j k fs M)).1).get.2
  have b := h.get.2
  rw [Nat.mod_eq_of_lt hk] at a
  rw [Nat.mod_eq_of_lt hk'] at b
  omega
theorem pack_reads {j k : Nat} {fs : List Nat} {M N : Nat → Nat} {p : Nat} {e : Int} (hn : fs.Nodup) (hM : ∀ f, f ∈ fs → rg f (M f)) (hr : Rds (pack (kb j k fs M)) j 0 fs N p e) :
    Fin (pack (kb j k fs M)) p e ∧ ∀ f, f ∈ fs → N f = M f := by
  obtain ⟨h1, h2⟩ := pack_fin (kb j k fs M)
  have h3 := has_right h1
  rw [bitsOf_length, Nat.zero_add] at h3
  obtain ⟨e1, e2, e3⟩ := hr.reads rfl M hn hM h3
  refine ⟨?_, e3⟩
  subst e1
  have hl : (kb j k fs M).length = p := by rw [e2]; unfold kb; rw [List.length_append, bitsOf_length]
  rwa [hl] at h2
/-- Bits of two such stand at the beginning of some bytes: they are the same. -/
theorem kb_uniq {zs : List Nat} {j k k' : Nat} {F : Nat → List Nat} {M N : Nat → Nat} (hk : k < 2 ^ j) (hk' : k' < 2 ^ j) (hM : ∀ f, f ∈ F k → rg f (M f)) (hN : ∀ f, f ∈ F k' → rg f (N f)) (h1 : Has zs 0 (kb j k (F k) M)) (h2 : Has zs 0 (kb j k' (F k') N)) :
    k = k' ∧ ∀ f, f ∈ F k → M f = N f := by
  have a := (has_left h1).get.2
  have b := (has_left h2).get.2
  rw [Nat.mod_eq_of_lt hk] at a
  rw [Nat.mod_eq_of_lt hk'] at b
  obtain rfl : k = k' := by omega
  exact ⟨rfl, fbits_uniq (F k) _ M N hM hN (has_right h1) (has_right h2)⟩
theorem has_take {zs : List Nat} {c p : Nat} {bs : List Bool} (h : Has (zs.take c) p bs) : Has zs p bs := by
  have h1 := h.1
  rw [List.length_take] at h1
  refine ⟨by omega, fun i hi => ?_⟩
  have := h.2 i hi
  rwa [rbit_take zs c (p + i) (by omega)] at this
theorem has_more {zs ys : List Nat} {p : Nat} {bs : List Bool} (h : Has zs p bs) : Has (zs ++ ys) p bs := by
  refine has_take (c := zs.length) ?_
  rw [List.take_left]
  exact h
end Rc
end Go.Proofs.YtobpinelhjpfgaaDoor
