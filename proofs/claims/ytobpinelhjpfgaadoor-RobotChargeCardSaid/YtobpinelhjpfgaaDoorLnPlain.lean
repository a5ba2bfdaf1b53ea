/-
  Layer 14, plain facts: a packet's bits and bytes; bytes are a packet's in one way at most; how it is read off them.
-/
import Derived.Test.YtobpinelhjpfgaaDoorBtSev
import Derived.Test.YtobpinelhjpfgaaDoorCkThr
set_option linter.unusedVariables false
namespace Go.Proofs.YtobpinelhjpfgaaDoor
namespace Ln
open Bp Ck
/-- A packet's bits. -/
def pb (h : Bool) (n : Nat) (d : List Nat) : List Bool := bitsOf (bn h) 1 ++ countBits n ++ bitsZ d
/-- A packet's bytes. -/
def play (h : Bool) (n : Nat) (d : List Nat) : List Nat := frm (pack (pb h n d))
/-- A packet that can be laid. -/
structure Ok (h : Bool) (n : Nat) (d : List Nat) : Prop where
  num : n + 1 < 18446744073709551616
  few : d.length ≤ 200
  none_ : h = true → d = []
  byte : ∀ z ∈ d, z ≤ 255
/-- The bytes are that packet's. -/
def Is (b : List Nat) (h : Bool) (n : Nat) (d : List Nat) : Prop := Ok h n d ∧ b = play h n d
/-- What a frame has is that packet's. -/
def Pk (zs : List Nat) (h : Bool) (n : Nat) (d : List Nat) : Prop := Ok h n d ∧ zs = pack (pb h n d)
theorem pb_length (h : Bool) (n : Nat) (d : List Nat) : (pb h n d).length = 2 + 2 * kz n + 8 * d.length := by
  unfold pb
  rw [List.length_append, List.length_append, bitsOf_length, countBits_length, bitsZ_len]; omega
theorem bit1 (h : Bool) : bitsOf (bn h) 1 = [h] := by cases h <;> decide
theorem Ok.kz {h : Bool} {n : Nat} {d : List Nat} (hh : Ok h n d) : Bp.kz n ≤ 63 := kz_63 n hh.num
theorem Ok.room {h : Bool} {n : Nat} {d : List Nat} (hh : Ok h n d) : (pack (pb h n d)).length ≤ 300 := by
  rw [pack_length, pb_length]
  have := hh.kz
  have := hh.few
  unfold nb; omega
theorem pack_le (bs : List Bool) : ∀ z ∈ pack bs, z ≤ 255 := pack_byte bs
theorem play_len (h : Bool) (n : Nat) (d : List Nat) : (play h n d).length = nb (2 + 2 * kz n + 8 * d.length) + 4 := by
  unfold play; rw [frm_len, pack_length, pb_length]
theorem Ok.size {h : Bool} {n : Nat} {d : List Nat} (hh : Ok h n d) : 0 < (play h n d).length ∧ (play h n d).length ≤ 300 := by
  rw [play_len]
  have := hh.kz
  have := hh.few
  unfold nb; omega
theorem Ok.play_byte {h : Bool} {n : Nat} {d : List Nat} (hh : Ok h n d) : ∀ z ∈ play h n d, z ≤ 255 := frm_byte _ (pack_byte _) (by have := hh.room; omega)
theorem Is.pk {h : Bool} {n : Nat} {d : List Nat} {b : List Nat} (hi : Is b h n d) : isFrm b = true ∧ Pk (inn b) h n d := by
  obtain ⟨h1, rfl⟩ := hi
  refine ⟨isFrm_frm _ (by have := h1.room; omega), h1, ?_⟩
  unfold play
  rw [inn_frm]
theorem Pk.is {h : Bool} {n : Nat} {d : List Nat} {b : List Nat} (hb : ∀ z ∈ b, z ≤ 255) (hf : isFrm b = true) (hi : Pk (inn b) h n d) : Is b h n d := by
  refine ⟨hi.1, ?_⟩
  unfold play
  rw [← hi.2, frm_inn b hb hf]

theorem tk_bit (zs : List Nat) (p m i : Nat) (h : i < m) : tk zs p m / 2 ^ (m - 1 - i) % 2 = rbit zs (p + i) := by
  induction m with
  | zero => omega
  | succ m ih =>
    rw [tk]
    have hr := rbit_le zs (p + m)
    rcases Nat.lt_or_ge i m with x | x
    · have e : m + 1 - 1 - i = (m - 1 - i) + 1 := by omega
      rw [e, Nat.pow_succ', ← Nat.div_div_eq_div_mul, show (2 * tk zs p m + rbit zs (p + m)) / 2 = tk zs p m by omega]
      exact ih x
    · obtain rfl : i = m := by omega
      rw [show i + 1 - 1 - i = 0 by omega, Nat.pow_zero, Nat.div_one]
      omega
theorem byte_of (zs : List Nat) (i : Nat) (h : zs.getD i 0 ≤ 255) : zs.getD i 0 = 128 * rbit zs (8 * i) + 64 * rbit zs (8 * i + 1) + 32 * rbit zs (8 * i + 2) + 16 * rbit zs (8 * i + 3) + 8 * rbit zs (8 * i + 4) + 4 * rbit zs (8 * i + 5) + 2 * rbit zs (8 * i + 6) + rbit zs (8 * i + 7) := by
  unfold rbit
  have e : ∀ j, j < 8 → (8 * i + j) / 8 = i ∧ (8 * i + j) % 8 = j := fun j hj => by omega
  rw [show (8 * i) / 8 = i by omega, show (8 * i) % 8 = 0 by omega, (e 1 (by omega)).1, (e 1 (by omega)).2, (e 2 (by omega)).1, (e 2 (by omega)).2, (e 3 (by omega)).1, (e 3 (by omega)).2, (e 4 (by omega)).1, (e 4 (by omega)).2, (e 5 (by omega)).1, (e 5 (by omega)).2, (e 6 (by omega)).1, (e 6 (by omega)).2, (e 7 (by omega)).1, (e 7 (by omega)).2]
  generalize zs.getD i 0 = z at *
  simp only [pw, show (2 : Nat) ^ (7 - 0) = 128 from rfl, show (2 : Nat) ^ (7 - 1) = 64 from rfl, show (2 : Nat) ^ (7 - 2) = 32 from rfl, show (2 : Nat) ^ (7 - 3) = 16 from rfl, show (2 : Nat) ^ (7 - 4) = 8 from rfl, show (2 : Nat) ^ (7 - 5) = 4 from rfl, show (2 : Nat) ^ (7 - 6) = 2 from rfl, show (2 : Nat) ^ (7 - 7) = 1 from rfl, Nat.div_one]
  exact (byte_sum z h).symm
/-- Bytes whose bits are those of a list, and 0 behind it. -/
theorem eq_pack (zs : List Nat) (bs : List Bool) (hz : ∀ z ∈ zs, z ≤ 255) (h1 : bs.length ≤ 8 * zs.length) (h2 : 8 * zs.length < bs.length + 8) (h3 : ∀ k, k < 8 * zs.length → rbit zs k = bitN bs k) : zs = pack bs := by
  have hn : nb bs.length = zs.length := by unfold nb; omega
  apply List.ext_getElem?
  intro i
  rcases Nat.lt_or_ge i zs.length with x | x
  · rw [pack_get _ _ (by omega), List.getElem?_eq_getElem x]
    have hg : zs.getD i 0 = zs[i] := by simp [List.getD, List.getElem?_eq_getElem x]
    rw [← hg, byte_of zs i (by rw [hg]; exact hz _ (List.getElem_mem x))]
    unfold byteAt
    rw [h3 _ (by omega), h3 _ (by omega), h3 _ (by omega), h3 _ (by omega), h3 _ (by omega), h3 _ (by omega), h3 _ (by omega), h3 _ (by omega)]
  · rw [List.getElem?_eq_none x, List.getElem?_eq_none (by rw [pack_length]; omega)]
/-- What is read off a packet's bytes. -/
structure Read (zs : List Nat) (h : Bool) (q n m : Nat) : Prop where
  one : 1 ≤ 8 * zs.length
  kind : (tk zs 0 1 == 1) = h
  zero : Zs zs 1 q
  q63 : q ≤ 63
  fits : 2 + 2 * q ≤ 8 * zs.length
  num : n = tk zs (1 + q) (q + 1) - 1
  tail : 8 * zs.length < 2 + 2 * q + 8 * m + 8
  inn : 2 + 2 * q + 8 * m ≤ 8 * zs.length
  rest : ∀ k, 2 + 2 * q + 8 * m ≤ k → k < 8 * zs.length → rbit zs k = 0
theorem Read.top {zs : List Nat} {h : Bool} {q n m : Nat} (r : Read zs h q n m) : tk zs (1 + q) (q + 1) = n + 1 ∧ kz n = q ∧ n + 1 < 18446744073709551616 := by
  have h1 : rbit zs (1 + q) = 1 := by have := r.fits; have := r.q63; rcases r.zero.stop with e | e | e <;> omega
  have hlo := tk_top zs (1 + q) q h1
  have hp := Nat.two_pow_pos q
  have hhi := tk_lt zs (1 + q) (q + 1)
  have h2 : (2 : Nat) ^ (q + 1) ≤ 2 ^ 64 := Nat.pow_le_pow_right (by decide) (by have := r.q63; omega)
  have e : (2 : Nat) ^ 64 = 18446744073709551616 := by decide
  have hn := r.num
  have e1 : tk zs (1 + q) (q + 1) = n + 1 := by omega
  rw [e1] at hlo hhi
  exact ⟨e1, pow_unique _ _ _ (kz_le n) (kz_lt n) hlo hhi, by omega⟩
/-- The bytes read. -/
def dat (zs : List Nat) (p m : Nat) : List Nat := (List.range m).map fun j => tk zs (p + 8 * j) 8
theorem dat_length (zs : List Nat) (p m : Nat) : (dat zs p m).length = m := by simp [dat]
theorem dat_get (zs : List Nat) (p m j : Nat) (h : j < m) : (dat zs p m).getD j 0 = tk zs (p + 8 * j) 8 := by simp [dat, List.getD, h]
theorem dat_byte (zs : List Nat) (p m : Nat) : ∀ z ∈ dat zs p m, z ≤ 255 := by
  intro z hz
  simp only [dat, List.mem_map] at hz
  obtain ⟨j, _, rfl⟩ := hz
  have := tk_lt zs (p + 8 * j) 8
  have e : (2 : Nat) ^ 8 = 256 := by decide
  omega
theorem dat_succ (zs : List Nat) (p m : Nat) : dat zs p (m + 1) = dat zs p m ++ [tk zs (p + 8 * m) 8] := by simp [dat, List.range_succ]
theorem dat_rbit (zs : List Nat) (p m k : Nat) (h : k < 8 * m) : rbit (dat zs p m) k = rbit zs (p + k) := by
  have e : k = 8 * (k / 8) + k % 8 := by omega
  have hb := tk_bit zs (p + 8 * (k / 8)) 8 (k % 8) (by omega)
  conv => lhs; unfold rbit
  rw [dat_get _ _ _ _ (by omega), pw, show 7 - k % 8 = 8 - 1 - k % 8 by omega, hb]
  congr 1; omega
theorem Read.pk {zs : List Nat} {h : Bool} {q n m : Nat} (r : Read zs h q n m) (hz : ∀ z ∈ zs, z ≤ 255) (hm : m ≤ 200) (hh : h = true → m = 0) : Pk zs h n (dat zs (2 + 2 * q) m) := by
  obtain ⟨t1, t2, t3⟩ := r.top
  have hl : (pb h n (dat zs (2 + 2 * q) m)).length = 2 + 2 * q + 8 * m := by rw [pb_length, t2, dat_length]
  have hi := r.inn
  refine ⟨⟨t3, by rw [dat_length]; exact hm, fun e => by rw [hh e]; rfl, dat_byte _ _ _⟩, eq_pack zs _ hz (by omega) (by have := r.tail; omega) fun k hk => ?_⟩
  rcases Nat.lt_or_ge k 1 with x | x
  · obtain rfl : k = 0 := by omega
    unfold pb
    rw [List.append_assoc, bitN_left _ _ _ (by rw [bitsOf_length]; omega), bit1]
    have hk := r.kind
    have hr := rbit_le zs 0
    have e : tk zs 0 1 = rbit zs 0 := by simp [tk]
    rw [e] at hk
    show _ = bn h
    rw [← hk]
    have : rbit zs 0 = 0 ∨ rbit zs 0 = 1 := by omega
    rcases this with e | e <;> rw [e] <;> rfl
  obtain ⟨i, rfl⟩ : ∃ i, k = 1 + i := ⟨k - 1, by omega⟩
  have hb1 := bitN_right (bitsOf (bn h) 1) (countBits n ++ bitsZ (dat zs (2 + 2 * q) m)) i
  rw [bitsOf_length] at hb1
  unfold pb
  rw [List.append_assoc, hb1]
  rcases Nat.lt_or_ge i (2 * q + 1) with y | y
  · rw [bitN_left _ _ _ (by rw [countBits_length, t2]; omega)]
    rcases Nat.lt_or_ge i q with u | u
    · rw [count_zero n i (by omega), r.zero.zero i u]
    · obtain ⟨j, rfl⟩ : ∃ j, i = q + j := ⟨i - q, by omega⟩
      unfold countBits
      have hr := bitN_right (List.replicate (kz n) false) (bitsOf (n + 1) (kz n + 1)) j
      rw [List.length_replicate, t2] at hr
      rw [t2, hr, bitN_bitsOf _ _ _ (by omega), ← t1, tk_bit _ _ _ _ (by omega)]
      congr 1; omega
  · obtain ⟨j, rfl⟩ : ∃ j, i = 2 * q + 1 + j := ⟨i - (2 * q + 1), by omega⟩
    have hr := bitN_right (countBits n) (bitsZ (dat zs (2 + 2 * q) m)) j
    rw [countBits_length, t2] at hr
    rw [hr]
    rcases Nat.lt_or_ge j (8 * m) with u | u
    · rw [rbit_bits _ _ (by rw [dat_length]; exact u), dat_rbit _ _ _ _ u]
      congr 1; omega
    · rw [bitN_ge _ _ (by rw [bitsZ_len, dat_length]; exact u), r.rest _ (by omega) hk]
theorem bitsZ_at (d : List Nat) (j : Nat) (h : j < d.length) : ∃ a c, bitsZ d = a ++ bitsOf (d.getD j 0) 8 ++ c ∧ a.length = 8 * j := by
  refine ⟨bitsZ (d.take j), bitsZ (d.drop (j + 1)), ?_, by rw [bitsZ_len, List.length_take]; omega⟩
  have e : d = d.take j ++ [d.getD j 0] ++ d.drop (j + 1) := by
    have hg : d.getD j 0 = d[j] := by simp [List.getD, List.getElem?_eq_getElem h]
    rw [hg, List.append_assoc]
    conv => lhs; rw [← List.take_append_drop j d, List.drop_eq_getElem_cons h]
    rfl
  conv => lhs; rw [e]
  simp [bitsZ]
/-- A packet's bytes are read so. -/
theorem Pk.read {zs : List Nat} {h : Bool} {n : Nat} {d : List Nat} (r : Pk zs h n d) : Read zs h (kz n) n d.length ∧ dat zs (2 + 2 * kz n) d.length = d := by
  obtain ⟨ok, rfl⟩ := r
  have hl := pb_length h n d
  have hnb : 8 * (pack (pb h n d)).length < 2 + 2 * kz n + 8 * d.length + 8 ∧ 2 + 2 * kz n + 8 * d.length ≤ 8 * (pack (pb h n d)).length := by
    rw [pack_length, hl]; unfold nb; omega
  have g0 : Has (pack (pb h n d)) 0 (bitsOf (bn h) 1) := by
    have := has_pack [] (bitsOf (bn h) 1) (countBits n ++ bitsZ d) 0 rfl
    rw [List.nil_append, ← List.append_assoc] at this
    exact this
  have g1 : Has (pack (pb h n d)) 1 (countBits n) := has_pack _ _ _ 1 (by rw [bitsOf_length])
  obtain ⟨a1, a2⟩ := g0.get
  obtain ⟨b1, b2, b3, b4⟩ := g1.count ok.num
  have hb := bn_le h
  refine ⟨⟨by omega, ?_, b1, b2, by omega, by omega, hnb.1, hnb.2, fun k hk1 hk2 => ?_⟩, ?_⟩
  · rw [a2]; cases h <;> rfl
  · rw [rbit_pack _ _ (by rw [pack_length] at hk2; exact hk2), bitN_ge _ _ (by omega)]
  · apply List.ext_getElem?
    intro j
    rcases Nat.lt_or_ge j d.length with x | x
    · rw [List.getElem?_eq_getElem (by rw [dat_length]; exact x), List.getElem?_eq_getElem x]
      obtain ⟨a, c, e, ha⟩ := bitsZ_at d j x
      have g2 : Has (pack (pb h n d)) (2 + 2 * kz n + 8 * j) (bitsOf (d.getD j 0) 8) := by
        have := has_pack (bitsOf (bn h) 1 ++ countBits n ++ a) (bitsOf (d.getD j 0) 8) c (2 + 2 * kz n + 8 * j) (by rw [List.length_append, List.length_append, bitsOf_length, countBits_length, ha]; omega)
        have e2 : bitsOf (bn h) 1 ++ countBits n ++ a ++ bitsOf (d.getD j 0) 8 ++ c = pb h n d := by
          unfold pb; rw [e]; simp only [List.append_assoc]
        rw [e2] at this
        exact this
      have hd1 := dat_get (pack (pb h n d)) (2 + 2 * kz n) d.length j x
      rw [g2.get.2] at hd1
      have hd2 : d.getD j 0 = d[j] := by simp [List.getD, List.getElem?_eq_getElem x]
      have hd3 : (dat (pack (pb h n d)) (2 + 2 * kz n) d.length).getD j 0 = (dat (pack (pb h n d)) (2 + 2 * kz n) d.length)[j]'(by rw [dat_length]; exact x) := by simp [List.getD, List.getElem?_eq_getElem (show j < (dat (pack (pb h n d)) (2 + 2 * kz n) d.length).length by rw [dat_length]; exact x)]
      have hle := ok.byte _ (List.getElem_mem x)
      rw [hd2, Nat.mod_eq_of_lt (by have e : (2 : Nat) ^ 8 = 256 := by decide
                                    omega)] at hd1
      rw [← hd3, hd1]
    · rw [List.getElem?_eq_none (by rw [dat_length]; exact x), List.getElem?_eq_none x]
theorem Read.same {zs : List Nat} {h h' : Bool} {q q' n n' m m' : Nat} (r : Read zs h q n m) (s : Read zs h' q' n' m') : h = h' ∧ q = q' ∧ n = n' ∧ m = m' := by
  have e : q = q' := r.zero.unique s.zero
  subst e
  have := r.tail
  have := r.inn
  have := s.tail
  have := s.inn
  exact ⟨r.kind.symm.trans s.kind, rfl, r.num.trans s.num.symm, by omega⟩
theorem Pk.uniq {zs : List Nat} {h h' : Bool} {n n' : Nat} {d d' : List Nat} (r : Pk zs h n d) (s : Pk zs h' n' d') : h = h' ∧ n = n' ∧ d = d' := by
  obtain ⟨r1, r2⟩ := r.read
  obtain ⟨s1, s2⟩ := s.read
  obtain ⟨h1, h2, h3, h4⟩ := r1.same s1
  refine ⟨h1, h3, ?_⟩
  rw [← r2, ← s2, h3, h4]
theorem Is.uniq {b : List Nat} {h h' : Bool} {n n' : Nat} {d d' : List Nat} (r : Is b h n d) (s : Is b h' n' d') : h = h' ∧ n = n' ∧ d = d' := r.pk.2.uniq s.pk.2
theorem play_inj {h h' : Bool} {n n' : Nat} {d d' : List Nat} (r : Ok h n d) (s : Ok h' n' d') (e : play h n d = play h' n' d') : h = h' ∧ n = n' ∧ d = d' := Is.uniq ⟨r, rfl⟩ ⟨s, e⟩
end Ln
end Go.Proofs.YtobpinelhjpfgaaDoor
